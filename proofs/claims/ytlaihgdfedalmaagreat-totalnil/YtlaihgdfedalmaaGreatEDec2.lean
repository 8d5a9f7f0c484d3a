/-
  A view's message that is a summary: Decode.
-/
import Derived.Test.YtlaihgdfedalmaaGreatESum
import Derived.Test.YtlaihgdfedalmaaGreatEDec1
import Derived.Test.YtlaihgdfedalmaaGreatERight3
namespace Go.Proofs.YtlaihgdfedalmaaGreat
open Go.RowKit
set_option linter.unusedVariables false
set_option linter.unusedSimpArgs false

theorem Dn.set9 {w W : World} {r b : Nat} {c8 c9 : Array Value} {st : Option (List UInt8)} (h : Dn w W r b c8 c9 st) (hn : noByte c9) (cs : Array Value) : Dn w (W.setRow (b + 1) cs) r b c8 cs st :=
  have hb := h.rb
  have hr := h.rl
  { rd := rd_setRow h.rd (by omega) h.e9 hn, a1 := (setRow_other _ _ _ _ (by omega)).trans h.a1, a2 := (setRow_other _ _ _ _ (by omega)).trans h.a2, e8 := (setRow_other _ _ _ _ (by omega)).trans h.e8, e9 := setRow_heap _ _ _ _ _ _ h.e9, bl := bl_row h.bl (by omega) cs, rl := hr, rb := hb }
theorem lr_row {w : World} {ao : Option Addr} {n : Nat} {ls : List Lb} (h : LR w ao n ls) {g : Nat} (cs : Array Value) (hg : ∀ a, ao = some a → a.block ≠ g) : LR (w.setRow g cs) ao n ls :=
  h.of_cells (fun ad v e hv => (cell_setRow_other _ _ _ _ (fun e2 => by
    cases ao with
    | none => simp at e
    | some a =>
      simp at e
      exact hg a rfl (by rw [e]; exact e2))).trans hv)
def ExS (b : Nat) (c o : Value) (nx : Int) (hn : Nat) (hp : Int) (w : World) : Prop :=
  w.cell? ⟨b, 0, none⟩ = some (.int .u64 0) ∧ w.cell? ⟨b, 1, none⟩ = some (.int .i64 0) ∧ w.cell? ⟨b, 2, none⟩ = some (.int .u64 0) ∧ w.cell? ⟨b, 3, none⟩ = some (.int .i64 0) ∧ w.cell? ⟨b, 4, none⟩ = some (.slice none 0 0) ∧
  w.cell? ⟨b + 1, 0, none⟩ = some c ∧ w.cell? ⟨b + 1, 1, none⟩ = some o ∧ w.cell? ⟨b + 1, 2, none⟩ = some (.int .i64 nx) ∧ w.cell? ⟨b + 1, 3, none⟩ = some (.int .u64 (hn : Nat)) ∧ w.cell? ⟨b + 1, 4, none⟩ = some (.int .i64 hp)
theorem exs_row {w : World} {b g : Nat} {c o : Value} {nx : Int} {hn : Nat} {hp : Int} (h : ExS b c o nx hn hp w) (h1 : g ≠ b) (h2 : g ≠ b + 1) (cs : Array Value) : ExS b c o nx hn hp (w.setRow g cs) :=
  have key : ∀ k j v, g ≠ k → w.cell? ⟨k, j, none⟩ = some v → (w.setRow g cs).cell? ⟨k, j, none⟩ = some v := fun k j v hk hc => (cell_setRow_other _ _ _ _ (by show k ≠ g; omega)).trans hc
  ⟨key _ _ _ h1 h.1, key _ _ _ h1 h.2.1, key _ _ _ h1 h.2.2.1, key _ _ _ h1 h.2.2.2.1, key _ _ _ h1 h.2.2.2.2.1, key _ _ _ h2 h.2.2.2.2.2.1, key _ _ _ h2 h.2.2.2.2.2.2.1, key _ _ _ h2 h.2.2.2.2.2.2.2.1, key _ _ _ h2 h.2.2.2.2.2.2.2.2.1, key _ _ _ h2 h.2.2.2.2.2.2.2.2.2⟩
set_option maxRecDepth 10000 in
set_option maxHeartbeats 1000000 in
theorem decode_all_good (w : World) (ao : Option Addr) (n cap : Nat) (xs : List UInt8) (h : Cd.Row w ao n cap xs) (hn : n ≤ 140737488355328) (st : Option (List UInt8)) (hk : Cd.rInt (some xs) 2 = (2, st)) (hl : ∀ ys, st = some ys → ys.length ≤ 1000000) (hls : (decS st).1.ls.length ≤ 5000) (hEl : (decS st).1.es.length ≤ 1000000)
    (hok : rightS (decS st).1.es (decS st).1.ls (decS st).1.nx (decS st).1.hn (decS st).1.hp = true ∧ (decS st).2 = some []) :
    Calls Tryz.prog 98 #[.slice ao n cap] w fun e w' => ∃ ao ac bo bc, e = .returned (.tuple #[.int .u8 2, .agg Ze, sumv (.slice ao (decS st).1.es.length ac) (.slice bo (decS st).1.ls.length bc) (decS st).1.nx (decS st).1.hn (decS st).1.hp, .int .i64 0]) ∧ ER (fun k => w.heap.size < k) w' ao (decS st).1.es.length (decS st).1.es ∧ LR w' bo (decS st).1.ls.length (decS st).1.ls ∧ ((ao = none → (decS st).1.es.length = 0 ∧ ac = 0) ∧ (bo = none → (decS st).1.ls.length = 0 ∧ bc = 0) ∧ ∀ a, bo = some a → w.heap.size < a.block) ∧ (decS st).1.ls.length ≤ bc ∧ Below w.heap.size w w' := by
  have hb0 : Below w.heap.size w ((w.alloc (.cells Ze 41)).alloc (.cells Zs 45)) := bl2 _ _ _
  have hnew := Cd.newReader_any _ ao n cap xs (h.below hb0 (Nat.le_refl _)) hn
  have hint : ∀ W r, Cd.Rd W r (some xs) → _ := fun W r hW => Cd.int_rd W r (some xs) hW 2 (by omega) (by omega)
  have hre : ∀ W r, Cd.Rd W r st → _ := fun W r hW => readSummary_rd W r st hW hl
  generalize decS st = D at *
  obtain ⟨⟨es, ls, nx, hn', hp⟩, st1⟩ := D
  simp only at hok hre hls hEl ⊢
  obtain ⟨hfm, hst1⟩ := hok
  rw [hk] at hint
  simp only at hint
  have hbd := fun W r => Cd.bad_rd W r st1
  have hlf := fun W r => Cd.left_rd W r st1
  have hDn : ∀ w1 w2 r, (w.heap.size + 2) ≤ r → Cd.Rd w1 r (some xs) → Below ((w.alloc (.cells Ze 41)).alloc (.cells Zs 45)).heap.size ((w.alloc (.cells Ze 41)).alloc (.cells Zs 45)) w1 → Cd.Rd w2 r st → w1.grownBy w2 (some r) → Dn w ((w2.alloc (.cells Ze 41)).alloc (.cells Zs 45)) r w2.heap.size Ze Zs st := by
    intro w1 w2 r hr hr1 hb1 hr2 hg
    have hrl := hr1.lt
    have hsz := hg.size
    have hs1 := hb1.size
    have e1 : ((w.alloc (.cells Ze 41)).alloc (.cells Zs 45)).heap.size = w.heap.size + 2 := by simp
    rw [e1] at hs1
    have k1 : ((w.alloc (.cells Ze 41)).alloc (.cells Zs 45)).heap[w.heap.size]? = some (.cells Ze 41 (0, 0)) := (Below.heap_alloc _ _ _ (by simp)).trans (heap_alloc_new _ _)
    have k2 : ((w.alloc (.cells Ze 41)).alloc (.cells Zs 45)).heap[w.heap.size + 1]? = some (.cells Zs 45 (0, 0)) := by
      have := heap_alloc_new (w.alloc (.cells Ze 41)) (.cells Zs 45)
      simpa using this
    have key : ∀ k o, k < w.heap.size + 2 → ((w.alloc (.cells Ze 41)).alloc (.cells Zs 45)).heap[k]? = some o → ((w2.alloc (.cells Ze 41)).alloc (.cells Zs 45)).heap[k]? = some o := fun k o hlt hk =>
      (Below.heap_alloc _ _ _ (by simp; omega)).trans ((Below.heap_alloc _ _ _ (by omega)).trans ((hg.block k (by omega) (by simp; omega)).trans ((hb1.block k (by rw [e1]; exact hlt)).trans hk)))
    have e8 : ((w2.alloc (.cells Ze 41)).alloc (.cells Zs 45)).heap[w2.heap.size]? = some (.cells Ze 41 (0, 0)) := (Below.heap_alloc _ _ _ (by simp)).trans (heap_alloc_new _ _)
    have e9 : ((w2.alloc (.cells Ze 41)).alloc (.cells Zs 45)).heap[w2.heap.size + 1]? = some (.cells Zs 45 (0, 0)) := by
      have := heap_alloc_new (w2.alloc (.cells Ze 41)) (.cells Zs 45)
      simpa using this
    have bl1' : Below w.heap.size w w1 := hb0.trans (hb1.mono (by rw [e1]; omega))
    have bl2' : Below w.heap.size w w2 := bl_grown bl1' bl1'.size hg (fun k hk => by cases hk; omega)
    exact { rd := rd_alloc (rd_alloc hr2 _) _, a1 := key _ _ (by omega) k1, a2 := key _ _ (by omega) k2, e8 := e8, e9 := e9, bl := bl2'.trans ((bl2 w2 _ _).mono bl2'.size), rl := by omega, rb := by omega }
  have hsz0 : ((w.alloc (.cells Ze 41)).alloc (.cells Zs 45)).heap.size = w.heap.size + 2 := by simp
  unfold Ze Zs at hnew hDn hsz0
  go_enter Tryz.func98, Tryz.ntmps98
  go_wp2_with fail
  refine hnew.mono ?_
  rintro e w1 ⟨r, rfl, hrb, hr1, hb1⟩
  rw [hsz0] at hrb
  clear hnew hsz0 h hb0
  go_wp2_with fail
  refine (hint w1 r hr1).mono ?_
  rintro e w2 ⟨rfl, hr2, hg2⟩
  have G := hDn w1 w2 r hrb hr1 hb1 hr2 hg2
  have hre2 := hre _ r G.rd
  have hxl := hr1.lt
  clear hint hDn hre hr1 hb1 hr2 hg2
  unfold sumv at hre2
  go_wp2_with fail
  refine hre2.mono ?_
  rintro e w3 ⟨ao3, ac3, bo3, bc3, rfl, hER, hLR, hbz, hbc, hbb, hr3, hg3⟩
  have HBZ : Hid ((ao3 = none → es.length = 0 ∧ ac3 = 0) ∧ (bo3 = none → ls.length = 0 ∧ bc3 = 0)) := hbz
  have G3 := G.step hr3 hg3
  have h9 := G3.e9
  have G4 := G3.set9 (noByte_sum _ _ _ _ _ _ _ _ _) #[.slice ao3 es.length ac3, .slice bo3 ls.length bc3, .int .i64 (nx : Nat), .int .u64 (hn' : Nat), .int .i64 (hp : Nat)]
  have hsz3 : ((w2.alloc (.cells Ze 41)).alloc (.cells Zs 45)).heap.size = w2.heap.size + 2 := by simp
  have hER4 := er_row hER (g := w2.heap.size + 1) #[.slice ao3 es.length ac3, .slice bo3 ls.length bc3, .int .i64 (nx : Nat), .int .u64 (hn' : Nat), .int .i64 (hp : Nat)] (fun e => by simp at e; omega)
  have hLR4 := lr_row hLR (g := w2.heap.size + 1) #[.slice ao3 es.length ac3, .slice bo3 ls.length bc3, .int .i64 (nx : Nat), .int .u64 (hn' : Nat), .int .i64 (hp : Nat)] (fun a ha => by have := hbb a ha; simp at this; omega)
  have hrb4 := G.rb
  have hrl4 := G.rl
  have HBB : Hid ((∀ a, bo3 = some a → w.heap.size + 1 < a.block ∧ a.block ≠ w.heap.size) ∧ (∀ k, ((w2.alloc (.cells Ze 41)).alloc (.cells Zs 45)).heap.size < k → w.heap.size + 1 < k)) := ⟨fun a ha => by have := hbb a ha; simp at this; omega, fun k hk => by simp at hk; omega⟩
  obtain ⟨b8, hb8⟩ : ∃ b, Hid (w2.heap.size = b) := ⟨_, rfl⟩
  obtain ⟨W4, hW4⟩ : ∃ W, Hid (w3.setRow (w2.heap.size + 1) #[.slice ao3 es.length ac3, .slice bo3 ls.length bc3, .int .i64 (nx : Nat), .int .u64 (hn' : Nat), .int .i64 (hp : Nat)] = W) := ⟨_, rfl⟩
  have hER5 := hER4.mono HBB.out.2
  rw [hW4.out] at hER5 hLR4 G4
  rw [hb8.out] at G4 h9
  have kE : ∀ j, W4.cell? ⟨b8 + 1, j, none⟩ = _ := fun j => cell_of_row W4 (b8 + 1) j _ 45 (0, 0) G4.e9
  have k0 := kE 0
  have k1 := kE 1
  have k2 := kE 2
  have k3 := kE 3
  have k4 := kE 4
  simp at k0 k1 k2 k3 k4
  have hlen9 : es.length ≤ 140737488355328 := by have := hEl; omega
  have hrt := right_any (fun k => w.heap.size + 1 < k) W4 ao3 es.length ac3 es hER5 hlen9 bo3 ls.length bc3 ls hLR4 hls (fun e => (hbz.2 e).1) nx hn' hp
  unfold sumv at hrt
  clear hre2 G hER hER4 hLR hr3 hg3 G3 kE
  go_wp2_with (first | (rw [hb8.out]; refine wpList_store_row rfl 45 (.tmp 9) (.tmp 26) rfl (b8 + 1) #[.slice ao3 es.length ac3, .slice bo3 ls.length bc3, .int .i64 (nx : Nat), .int .u64 (hn' : Nat), .int .i64 (hp : Nat)] rfl rfl 45 _ h9 infoS38 rfl (by simp [Value.oneCell']) ?_; rw [← hb8.out, hW4.out, hb8.out]; clear h9 hW4 hb8))
  refine hrt.mono ?_
  rintro e w5 ⟨rfl, hu5⟩
  have G5 := G4.below hu5
  have hER6 := hER5.bl hu5
  have hLR6 := hLR4.up hu5
  have hbd5 := hbd w5 r G5.rd
  have hlf5 := hlf w5 r G5.rd
  clear hrt hbd hlf G4 hER5 hLR4 hu5 k0 k1 k2 k3 k4
  rw [hfm]
  rw [hst1] at hbd5 hlf5
  simp only [Option.isNone_some] at hbd5
  simp only [Cd.rLeft, List.length_nil] at hlf5
  rw [show ((0 : Nat) : Int) = 0 from rfl] at hlf5
  have ud : Below w5.heap.size w5 w5.drew := (Below.refl _ _).drew
  have G6 := G5.below ud
  have hER7 := hER6.bl ud
  have hLR7 := hLR6.up ud
  have q1 := G6.a1
  have q2 := G6.a2
  have q2' : (w5.drew.setRow w.heap.size #[.int .u64 0, .int .i64 0, .int .u64 0, .int .i64 0, .slice none 0 0]).heap[w.heap.size + 1]? = some (.cells Zs 45 (0, 0)) := (setRow_other _ _ _ _ (by omega)).trans q2
  have q1' := setRow_heap _ _ _ #[.int .u64 0, .int .i64 0, .int .u64 0, .int .i64 0, .slice none 0 0] _ _ q1
  have f1 : ((w5.drew.setRow w.heap.size #[.int .u64 0, .int .i64 0, .int .u64 0, .int .i64 0, .slice none 0 0]).setRow (w.heap.size + 1) #[.slice ao3 es.length ac3, .slice bo3 ls.length bc3, .int .i64 (nx : Nat), .int .u64 (hn' : Nat), .int .i64 (hp : Nat)]).heap[w.heap.size]? = some (.cells #[.int .u64 0, .int .i64 0, .int .u64 0, .int .i64 0, .slice none 0 0] 41 (0, 0)) := (setRow_other _ _ _ _ (by omega)).trans q1'
  have f2 := setRow_heap _ _ _ #[.slice ao3 es.length ac3, .slice bo3 ls.length bc3, .int .i64 (nx : Nat), .int .u64 (hn' : Nat), .int .i64 (hp : Nat)] _ _ q2'
  have hrb5 := G6.rb
  have hrl5 := G6.rl
  have s0 : ExS b8 (.slice ao3 es.length ac3) (.slice bo3 ls.length bc3) (nx : Nat) hn' (hp : Nat) w5.drew := by
    have h1 := fun j => cell_of_row _ b8 j _ 41 (0, 0) G6.e8
    have h2 := fun j => cell_of_row _ (b8 + 1) j _ 45 (0, 0) G6.e9
    exact ⟨h1 0, h1 1, h1 2, h1 3, h1 4, h2 0, h2 1, h2 2, h2 3, h2 4⟩
  have s1 := exs_row (g := w.heap.size) s0 (by omega) (by omega) #[.int .u64 0, .int .i64 0, .int .u64 0, .int .i64 0, .slice none 0 0]
  have s2 := exs_row (g := w.heap.size + 1) s1 (by omega) (by omega) #[.slice ao3 es.length ac3, .slice bo3 ls.length bc3, .int .i64 (nx : Nat), .int .u64 (hn' : Nat), .int .i64 (hp : Nat)]
  have HE : Hid (ER (fun k => w.heap.size < k) ((w5.drew.setRow w.heap.size #[.int .u64 0, .int .i64 0, .int .u64 0, .int .i64 0, .slice none 0 0]).setRow (w.heap.size + 1) #[.slice ao3 es.length ac3, .slice bo3 ls.length bc3, .int .i64 (nx : Nat), .int .u64 (hn' : Nat), .int .i64 (hp : Nat)]) ao3 es.length es ∧ LR ((w5.drew.setRow w.heap.size #[.int .u64 0, .int .i64 0, .int .u64 0, .int .i64 0, .slice none 0 0]).setRow (w.heap.size + 1) #[.slice ao3 es.length ac3, .slice bo3 ls.length bc3, .int .i64 (nx : Nat), .int .u64 (hn' : Nat), .int .i64 (hp : Nat)]) bo3 ls.length ls ∧ Below w.heap.size w ((w5.drew.setRow w.heap.size #[.int .u64 0, .int .i64 0, .int .u64 0, .int .i64 0, .slice none 0 0]).setRow (w.heap.size + 1) #[.slice ao3 es.length ac3, .slice bo3 ls.length bc3, .int .i64 (nx : Nat), .int .u64 (hn' : Nat), .int .i64 (hp : Nat)])) := by
    refine ⟨?_, ?_, bl_row (bl_row G6.bl (Nat.le_refl _) _) (by omega) _⟩
    · exact (er_row (er_row hER7 _ (fun e => by omega)) _ (fun e => by omega)).mono (fun k hk => by omega)
    · exact lr_row (lr_row hLR7 _ (fun a ha => (HBB.out.1 a ha).2)) _ (fun a ha => by have := (HBB.out.1 a ha).1; omega)
  have kA := fun j => cell_of_row _ w.heap.size j _ 41 (0, 0) f1
  have kB := fun j => cell_of_row _ (w.heap.size + 1) j _ 45 (0, 0) f2
  have a0 := kA 0
  have a1 := kA 1
  have a2 := kA 2
  have a3 := kA 3
  have a4 := kA 4
  have b0 := kB 0
  have b1 := kB 1
  have b2 := kB 2
  have b3 := kB 3
  have b4 := kB 4
  simp at a0 a1 a2 a3 a4 b0 b1 b2 b3 b4
  obtain ⟨HS0, HS1, HS2⟩ : Hid (ExS b8 (.slice ao3 es.length ac3) (.slice bo3 ls.length bc3) (nx : Nat) hn' (hp : Nat) w5.drew) ∧ Hid _ ∧ Hid _ := ⟨s0, s1, s2⟩
  clear kA kB f1 f2 G5 G6 hER6 hLR6 hER7 hLR7 q1' hrb5 hrl5 s0 s1 s2
  go_wp2_with fail
  refine hbd5.mono ?_
  rintro e w6 ⟨rfl, rfl⟩
  clear hbd5
  go_wp2_with fail
  refine hlf5.mono ?_
  rintro e w7 ⟨rfl, rfl⟩
  clear hlf5
  go_wp2_with fail
  refine wp_region_noPanic ?_
  refine wp_region_held_drew (S := ExS b8 (.slice ao3 es.length ac3) (.slice bo3 ls.length bc3) (nx : Nat) hn' (hp : Nat)) (by kernel_rfl) HS0.out (fun hHeld => ?_)
  unfold ExS at hHeld
  refine tq 0 ?_
  refine tq 1 ?_
  refine tq 2 ?_
  refine tq 3 ?_
  refine comes_up 4 rfl (by kernel_rfl) (fun K hK => ?_)
  refine step_store_row rfl 41 (.tmp 3) (.tmp 43) rfl w.heap.size #[.int .u64 0, .int .i64 0, .int .u64 0, .int .i64 0, .slice none 0 0] rfl rfl 41 _ q1 infoS29 rfl (by simp [Value.oneCell']) ?_
  refine hK.out _ _ HS1.out (fun hHeld => ?_)
  clear hK K
  (try simp only [Act.put])
  refine comes_up 5 rfl (by kernel_rfl) (fun K hK => ?_)
  refine step_store_row rfl 45 (.tmp 4) (.tmp 44) rfl (w.heap.size + 1) #[.slice ao3 es.length ac3, .slice bo3 ls.length bc3, .int .i64 (nx : Nat), .int .u64 (hn' : Nat), .int .i64 (hp : Nat)] rfl rfl 45 _ q2' infoS38 rfl (by simp [Value.oneCell']) ?_
  refine hK.out _ _ HS2.out (fun hHeld => ?_)
  clear hK K
  (try simp only [Act.put])
  refine tq 6 ?_
  refine wpAnyH_done (by kernel_rfl) ?_ _
  refine NoPanic.normal ?_
  go_wp2
  refine bodyPost_ret (v := .tuple #[.int .u8 2, .agg Ze, sumv (.slice ao3 es.length ac3) (.slice bo3 ls.length bc3) (nx : Nat) hn' (hp : Nat), .int .i64 0]) ?_ rfl ?_
  · simp [results, Tryz.results98, go_sem, a0, a1, a2, a3, a4, b0, b1, b2, b3, b4, Ze, sumv]
  · exact ⟨_, _, _, _, rfl, HE.out.1, HE.out.2.1, ⟨HBZ.out.1, HBZ.out.2, fun a ha => Nat.lt_of_succ_lt (HBB.out.1 a ha).1⟩, hbc, HE.out.2.2⟩
end Go.Proofs.YtlaihgdfedalmaaGreat
