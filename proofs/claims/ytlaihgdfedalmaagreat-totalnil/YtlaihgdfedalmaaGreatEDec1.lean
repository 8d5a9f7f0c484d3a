/-
  A view's message that is an entry: Decode.
-/
import Derived.Test.YtlaihgdfedalmaaGreatEDec
namespace Go.Proofs.YtlaihgdfedalmaaGreat
open Go.RowKit
set_option linter.unusedVariables false
set_option linter.unusedSimpArgs false

def Ze : Array Value := #[.int .u64 0, .int .i64 0, .int .u64 0, .int .i64 0, .slice none 0 0]
def Zs : Array Value := #[.slice none 0 0, .slice none 0 0, .int .i64 0, .int .u64 0, .int .i64 0]
/-- What Decode holds of memory. -/
structure Dn (w W : World) (r b : Nat) (c8 c9 : Array Value) (st : Option (List UInt8)) : Prop where
  rd : Cd.Rd W r st
  a1 : W.heap[w.heap.size]? = some (.cells Ze 41 (0, 0))
  a2 : W.heap[w.heap.size + 1]? = some (.cells Zs 45 (0, 0))
  e8 : W.heap[b]? = some (.cells c8 41 (0, 0))
  e9 : W.heap[b + 1]? = some (.cells c9 45 (0, 0))
  bl : Below w.heap.size w W
  rl : w.heap.size + 1 < r
  rb : r < b
variable {w W W' : World} {r b : Nat} {c8 c9 : Array Value} {st st' : Option (List UInt8)}
theorem Dn.step (h : Dn w W r b c8 c9 st) (hr : Cd.Rd W' r st') (g : W.grownBy W' (some r)) : Dn w W' r b c8 c9 st' :=
  have key : ∀ k o, W.heap[k]? = some o → k ≠ r → W'.heap[k]? = some o := fun k o hk hne => (g.block k (Array.getElem?_eq_some_iff.1 hk).1 (by simpa using hne)).trans hk
  { rd := hr, a1 := key _ _ h.a1 (by have := h.rl; omega), a2 := key _ _ h.a2 (by have := h.rl; omega), e8 := key _ _ h.e8 (by have := h.rb; omega), e9 := key _ _ h.e9 (by have := h.rb; omega), bl := bl_grown h.bl h.bl.size g (fun k hk => by cases hk; have := h.rl; omega), rl := h.rl, rb := h.rb }
theorem Dn.below (h : Dn w W r b c8 c9 st) (u : Below W.heap.size W W') : Dn w W' r b c8 c9 st :=
  have key : ∀ k o, W.heap[k]? = some o → W'.heap[k]? = some o := fun k o hk => (u.block k (Array.getElem?_eq_some_iff.1 hk).1).trans hk
  { rd := Cd.rd_below h.rd u, a1 := key _ _ h.a1, a2 := key _ _ h.a2, e8 := key _ _ h.e8, e9 := key _ _ h.e9, bl := bl_step h.bl u, rl := h.rl, rb := h.rb }
theorem bl_row {B : Nat} {w W : World} (h : Below B w W) {g : Nat} (hg : B ≤ g) (cs : Array Value) : Below B w (W.setRow g cs) :=
  ⟨h.os, h.tape, h.output, by simpa using h.size, fun k hk => (setRow_other _ _ _ _ (by omega)).trans (h.block k hk)⟩
theorem Dn.set8 (h : Dn w W r b c8 c9 st) (hn : noByte c8) (cs : Array Value) : Dn w (W.setRow b cs) r b cs c9 st :=
  have hb := h.rb
  have hr := h.rl
  { rd := rd_setRow h.rd (by omega) h.e8 hn, a1 := (setRow_other _ _ _ _ (by omega)).trans h.a1, a2 := (setRow_other _ _ _ _ (by omega)).trans h.a2, e8 := setRow_heap _ _ _ _ _ _ h.e8, e9 := (setRow_other _ _ _ _ (by omega)).trans h.e9, bl := bl_row h.bl (by omega) cs, rl := hr, rb := hb }
theorem infoS38 : (Tryz.prog.info? 45).map (·.size) = some 5 := by kernel_rfl
theorem own_row {w : World} {B n g : Nat} {v : Value} {xs : List Value} (h : w.ownsRow B 5 1 v n xs) (cs : Array Value) (hr : ∀ k, v.ownBlock = some k → k ≠ g) : (w.setRow g cs).ownsRow B 5 1 v n xs :=
  own_gr (r := g) h ⟨rfl, rfl, rfl, by simp, fun k hk hne => setRow_other _ _ _ _ (by simpa using hne)⟩ hr
/-- A summary of zero values in a block of its own. -/
def Ez (b : Nat) (w : World) : Prop := w.cell? ⟨b, 0, none⟩ = some (.slice none 0 0) ∧ w.cell? ⟨b, 1, none⟩ = some (.slice none 0 0) ∧ w.cell? ⟨b, 2, none⟩ = some (.int .i64 0) ∧ w.cell? ⟨b, 3, none⟩ = some (.int .u64 0) ∧ w.cell? ⟨b, 4, none⟩ = some (.int .i64 0)
def ExZ (b : Nat) (x : Lb) (s : Value) (w : World) : Prop :=
  w.cell? ⟨b, 0, none⟩ = some (.int .u64 (x.1 : Nat)) ∧ w.cell? ⟨b, 1, none⟩ = some (.int .i64 x.2.1) ∧ w.cell? ⟨b, 2, none⟩ = some (.int .u64 (x.2.2.1 : Nat)) ∧ w.cell? ⟨b, 3, none⟩ = some (.int .i64 x.2.2.2) ∧ w.cell? ⟨b, 4, none⟩ = some s ∧ Ez (b + 1) w
theorem ex_row {w : World} {b g : Nat} {x : Lb} {s : Value} (h : ExZ b x s w) (h1 : g ≠ b) (h2 : g ≠ b + 1) (cs : Array Value) : ExZ b x s (w.setRow g cs) :=
  have key : ∀ k j v, g ≠ k → w.cell? ⟨k, j, none⟩ = some v → (w.setRow g cs).cell? ⟨k, j, none⟩ = some v := fun k j v hk hc => (cell_setRow_other _ _ _ _ (by show k ≠ g; omega)).trans hc
  ⟨key _ _ _ h1 h.1, key _ _ _ h1 h.2.1, key _ _ _ h1 h.2.2.1, key _ _ _ h1 h.2.2.2.1, key _ _ _ h1 h.2.2.2.2.1, key _ _ _ h2 h.2.2.2.2.2.1, key _ _ _ h2 h.2.2.2.2.2.2.1, key _ _ _ h2 h.2.2.2.2.2.2.2.1, key _ _ _ h2 h.2.2.2.2.2.2.2.2.1, key _ _ _ h2 h.2.2.2.2.2.2.2.2.2⟩
set_option maxRecDepth 10000 in
set_option maxHeartbeats 1000000 in
theorem decode_one_good (w : World) (ao : Option Addr) (n cap : Nat) (xs : List UInt8) (h : Cd.Row w ao n cap xs) (hn : n ≤ 140737488355328) (st : Option (List UInt8)) (hk : Cd.rInt (some xs) 2 = (1, st)) (hl : ∀ ys, st = some ys → ys.length ≤ 140737488355328)
    (hok : formE (decE st).1.1 (decE st).1.2.length = true ∧ (decE st).2 = some []) :
    Calls Tryz.prog 98 #[.slice ao n cap] w fun e w' => ∃ s, e = .returned (.tuple #[.int .u8 1, ent (decE st).1.1 s, .agg Zs, .int .i64 0]) ∧ w'.ownsRow w.heap.size 5 1 s (decE st).1.2.length ((decE st).1.2.map Cd.by8) ∧ Below w.heap.size w w' := by
  have hb0 : Below w.heap.size w ((w.alloc (.cells Ze 41)).alloc (.cells Zs 45)) := bl2 _ _ _
  have hnew := Cd.newReader_any _ ao n cap xs (h.below hb0 (Nat.le_refl _)) hn
  have hint : ∀ W r, Cd.Rd W r (some xs) → _ := fun W r hW => Cd.int_rd W r (some xs) hW 2 (by omega) (by omega)
  have hre : ∀ W r, Cd.Rd W r st → _ := fun W r hW => readEntry_rd W r st hW hl
  generalize decE st = D at *
  obtain ⟨⟨x, ms⟩, st1⟩ := D
  simp only at hok hre ⊢
  obtain ⟨hfm, hst1⟩ := hok
  rw [hk] at hint
  simp only at hint
  have hfe := fun W a c => formE_any W x a ms.length c
  have hbd := fun W r => Cd.bad_rd W r st1
  have hlf := fun W r => Cd.left_rd W r st1
  have hDn : ∀ w1 w2 r, (w.heap.size + 2) ≤ r → Cd.Rd w1 r (some xs) → Below ((w.alloc (.cells Ze 41)).alloc (.cells Zs 45)).heap.size ((w.alloc (.cells Ze 41)).alloc (.cells Zs 45)) w1 → Cd.Rd w2 r st → w1.grownBy w2 (some r) → Dn w ((w2.alloc (.cells Ze 41)).alloc (.cells Zs 45)) r w2.heap.size Ze Zs st := by
    intro w1 w2 r hr hr1 hb1 hr2 hg
    have hrl := hr1.lt
    have hsz := hg.size
    have hs1 := hb1.size
    have e1 : ((w.alloc (.cells Ze 41)).alloc (.cells Zs 45)).heap.size = w.heap.size + 2 := by simp
    rw [e1] at hs1
    have k1 : ((w.alloc (.cells Ze 41)).alloc (.cells Zs 45)).heap[w.heap.size]? = some (.cells Ze 41 (0, 0)) := (Below.heap_alloc _ _ _ (by simp)).trans (heap_alloc_new _ _)
    have k2 : ((w.alloc (.cells Ze 41)).alloc (.cells Zs 45)).heap[w.heap.size + 1]? = some (.cells Zs 45 (0, 0)) := by
      have := heap_alloc_new (w.alloc (.cells Ze 41)) (.cells Zs 45)
      simpa using this
    have key : ∀ k o, k < w.heap.size + 2 → ((w.alloc (.cells Ze 41)).alloc (.cells Zs 45)).heap[k]? = some o → ((w2.alloc (.cells Ze 41)).alloc (.cells Zs 45)).heap[k]? = some o := fun k o hlt hk =>
      (Below.heap_alloc _ _ _ (by simp; omega)).trans ((Below.heap_alloc _ _ _ (by omega)).trans ((hg.block k (by omega) (by simp; omega)).trans ((hb1.block k (by rw [e1]; exact hlt)).trans hk)))
    have e8 : ((w2.alloc (.cells Ze 41)).alloc (.cells Zs 45)).heap[w2.heap.size]? = some (.cells Ze 41 (0, 0)) := (Below.heap_alloc _ _ _ (by simp)).trans (heap_alloc_new _ _)
    have e9 : ((w2.alloc (.cells Ze 41)).alloc (.cells Zs 45)).heap[w2.heap.size + 1]? = some (.cells Zs 45 (0, 0)) := by
      have := heap_alloc_new (w2.alloc (.cells Ze 41)) (.cells Zs 45)
      simpa using this
    have bl1' : Below w.heap.size w w1 := hb0.trans (hb1.mono (by rw [e1]; omega))
    have bl2' : Below w.heap.size w w2 := bl_grown bl1' bl1'.size hg (fun k hk => by cases hk; omega)
    exact { rd := rd_alloc (rd_alloc hr2 _) _, a1 := key _ _ (by omega) k1, a2 := key _ _ (by omega) k2, e8 := e8, e9 := e9, bl := bl2'.trans ((bl2 w2 _ _).mono bl2'.size), rl := by omega, rb := by omega }
  have hsz0 : ((w.alloc (.cells Ze 41)).alloc (.cells Zs 45)).heap.size = w.heap.size + 2 := by simp
  obtain ⟨xa, xb, xc, xd⟩ := x
  unfold Ze Zs at hnew hDn hsz0
  go_enter Tryz.func98, Tryz.ntmps98
  go_wp2_with fail
  refine hnew.mono ?_
  rintro e w1 ⟨r, rfl, hrb, hr1, hb1⟩
  rw [hsz0] at hrb
  clear hnew hsz0 h hb0
  go_wp2_with fail
  refine (hint w1 r hr1).mono ?_
  rintro e w2 ⟨rfl, hr2, hg2⟩
  have G := hDn w1 w2 r hrb hr1 hb1 hr2 hg2
  have hre2 := hre _ r G.rd
  have hxl := hr1.lt
  clear hint hDn hre hr1 hb1 hr2 hg2
  unfold ent at hre2
  go_wp2_with fail
  refine hre2.mono ?_
  rintro e w3 ⟨s, rfl, ho3, hr3, hg3⟩
  obtain ⟨so, sc, rfl⟩ := row_shape ho3
  have G3 := G.step hr3 hg3
  have h8 := G3.e8
  have G4 := G3.set8 (noByte_ent _ _ _ _ _ _ _) #[.int .u64 (xa : Nat), .int .i64 xb, .int .u64 (xc : Nat), .int .i64 xd, .slice so ms.length sc]
  have hbl3 : w2.heap.size < w3.heap.size := (Array.getElem?_eq_some_iff.1 h8).1
  obtain ⟨b8, hb8⟩ : ∃ b, Hid (w2.heap.size = b) := ⟨_, rfl⟩
  have ho4 : (w3.setRow w2.heap.size #[.int .u64 (xa : Nat), .int .i64 xb, .int .u64 (xc : Nat), .int .i64 xd, .slice so ms.length sc]).ownsRow w.heap.size 5 1 (.slice so ms.length sc) ms.length (ms.map Cd.by8) := by
    refine own_gr (r := w2.heap.size) (Cd.owns_mono ho3 (G.bl.size)) ⟨rfl, rfl, rfl, by simp, fun k hk hne => setRow_other _ _ _ _ (by simpa using hne)⟩ (fun k hk => ?_)
    have h1 := (ho3.lt k hk).1
    simp at h1
    omega
  have hnk : ∀ k, (Value.slice so ms.length sc).ownBlock = some k → w.heap.size + 1 < k := fun k hk => by
    have h1 := (ho3.lt k hk).1
    have h2 := G.rl
    have h3 := G.rb
    simp at h1
    omega
  obtain ⟨W4, hW4⟩ : ∃ W, Hid (w3.setRow w2.heap.size #[.int .u64 (xa : Nat), .int .i64 xb, .int .u64 (xc : Nat), .int .i64 xd, .slice so ms.length sc] = W) := ⟨_, rfl⟩
  rw [hW4.out, hb8.out] at G4
  rw [hW4.out] at ho4
  rw [hb8.out] at h8
  have kE : ∀ j, W4.cell? ⟨b8, j, none⟩ = _ := fun j => cell_of_row W4 b8 j _ 41 (0, 0) G4.e8
  have k0 := kE 0
  have k1 := kE 1
  have k2 := kE 2
  have k3 := kE 3
  have k4 := kE 4
  simp at k0 k1 k2 k3 k4
  clear hre2 G ho3 hr3 hg3 G3 kE hbl3
  go_wp2_with (first | (rw [hb8.out]; refine wpList_store_row rfl 41 (.tmp 8) (.tmp 20) rfl b8 #[.int .u64 (xa : Nat), .int .i64 xb, .int .u64 (xc : Nat), .int .i64 xd, .slice so ms.length sc] rfl rfl 41 _ h8 infoS29 rfl (by simp [Value.oneCell']) ?_; rw [← hb8.out, hW4.out, hb8.out]; clear h8 hW4 hb8))
  refine (hfe _ so sc).mono ?_
  rintro e w5 ⟨rfl, hu5⟩
  have G5 := G4.below hu5.bl
  have ho5 := own_bytes_below ho4 hu5.bl
  have hbd5 := hbd w5 r G5.rd
  have hlf5 := hlf w5 r G5.rd
  clear hfe hbd hlf G4 ho4 hu5 k0 k1 k2 k3 k4
  rw [hfm]
  rw [hst1] at hbd5 hlf5
  simp only [Option.isNone_some] at hbd5
  simp only [Cd.rLeft, List.length_nil] at hlf5
  rw [show ((0 : Nat) : Int) = 0 from rfl] at hlf5
  have G6 := G5.below (show Below w5.heap.size w5 w5.drew from (Below.refl _ _).drew)
  have ho6 := own_bytes_below ho5 (show Below w5.heap.size w5 w5.drew from (Below.refl _ _).drew)
  have q1 := G6.a1
  have q2 := G6.a2
  have q2' : (w5.drew.setRow w.heap.size #[.int .u64 (xa : Nat), .int .i64 xb, .int .u64 (xc : Nat), .int .i64 xd, .slice so ms.length sc]).heap[w.heap.size + 1]? = some (.cells Zs 45 (0, 0)) := (setRow_other _ _ _ _ (by omega)).trans q2
  have q1' := setRow_heap _ _ _ #[.int .u64 (xa : Nat), .int .i64 xb, .int .u64 (xc : Nat), .int .i64 xd, .slice so ms.length sc] _ _ q1
  have f1 : ((w5.drew.setRow w.heap.size #[.int .u64 (xa : Nat), .int .i64 xb, .int .u64 (xc : Nat), .int .i64 xd, .slice so ms.length sc]).setRow (w.heap.size + 1) #[.slice none 0 0, .slice none 0 0, .int .i64 0, .int .u64 0, .int .i64 0]).heap[w.heap.size]? = some (.cells #[.int .u64 (xa : Nat), .int .i64 xb, .int .u64 (xc : Nat), .int .i64 xd, .slice so ms.length sc] 41 (0, 0)) := (setRow_other _ _ _ _ (by omega)).trans q1'
  have f2 := setRow_heap _ _ _ #[.slice none 0 0, .slice none 0 0, .int .i64 0, .int .u64 0, .int .i64 0] _ _ q2'
  have hrb5 := G6.rb
  have hrl5 := G6.rl
  have s0 : ExZ b8 (xa, xb, xc, xd) (.slice so ms.length sc) w5.drew := by
    have h1 := fun j => cell_of_row _ b8 j _ 41 (0, 0) G6.e8
    have h2 := fun j => cell_of_row _ (b8 + 1) j _ 45 (0, 0) G6.e9
    exact ⟨h1 0, h1 1, h1 2, h1 3, h1 4, h2 0, h2 1, h2 2, h2 3, h2 4⟩
  have s1 := ex_row (g := w.heap.size) s0 (by omega) (by omega) #[.int .u64 (xa : Nat), .int .i64 xb, .int .u64 (xc : Nat), .int .i64 xd, .slice so ms.length sc]
  have s2 := ex_row (g := w.heap.size + 1) s1 (by omega) (by omega) #[.slice none 0 0, .slice none 0 0, .int .i64 0, .int .u64 0, .int .i64 0]
  have HE : Hid (((w5.drew.setRow w.heap.size #[.int .u64 (xa : Nat), .int .i64 xb, .int .u64 (xc : Nat), .int .i64 xd, .slice so ms.length sc]).setRow (w.heap.size + 1) #[.slice none 0 0, .slice none 0 0, .int .i64 0, .int .u64 0, .int .i64 0]).ownsRow w.heap.size 5 1 (.slice so ms.length sc) ms.length (ms.map Cd.by8) ∧ Below w.heap.size w ((w5.drew.setRow w.heap.size #[.int .u64 (xa : Nat), .int .i64 xb, .int .u64 (xc : Nat), .int .i64 xd, .slice so ms.length sc]).setRow (w.heap.size + 1) #[.slice none 0 0, .slice none 0 0, .int .i64 0, .int .u64 0, .int .i64 0])) := by
    refine ⟨?_, bl_row (bl_row G6.bl (Nat.le_refl _) _) (by omega) _⟩
    exact own_row (own_row ho6 _ (fun k hk => by have := hnk k hk; omega)) _ (fun k hk => by have := hnk k hk; omega)
  have kA := fun j => cell_of_row _ w.heap.size j _ 41 (0, 0) f1
  have kB := fun j => cell_of_row _ (w.heap.size + 1) j _ 45 (0, 0) f2
  have a0 := kA 0
  have a1 := kA 1
  have a2 := kA 2
  have a3 := kA 3
  have a4 := kA 4
  have b0 := kB 0
  have b1 := kB 1
  have b2 := kB 2
  have b3 := kB 3
  have b4 := kB 4
  simp at a0 a1 a2 a3 a4 b0 b1 b2 b3 b4
  obtain ⟨HS0, HS1, HS2⟩ : Hid (ExZ b8 (xa, xb, xc, xd) (.slice so ms.length sc) w5.drew) ∧ Hid _ ∧ Hid _ := ⟨s0, s1, s2⟩
  clear kA kB f1 f2 G5 ho5 G6 ho6 q1' hnk hrb5 hrl5 s0 s1 s2
  go_wp2_with fail
  refine hbd5.mono ?_
  rintro e w6 ⟨rfl, rfl⟩
  clear hbd5
  go_wp2_with fail
  refine hlf5.mono ?_
  rintro e w7 ⟨rfl, rfl⟩
  clear hlf5
  go_wp2_with fail
  refine wp_region_noPanic ?_
  refine wp_region_held_drew (S := ExZ b8 (xa, xb, xc, xd) (.slice so ms.length sc)) (by kernel_rfl) HS0.out (fun hHeld => ?_)
  unfold ExZ at hHeld
  refine tq 0 ?_
  refine tq 1 ?_
  refine tq 2 ?_
  refine tq 3 ?_
  refine comes_up 4 rfl (by kernel_rfl) (fun K hK => ?_)
  refine step_store_row rfl 41 (.tmp 3) (.tmp 43) rfl w.heap.size #[.int .u64 (xa : Nat), .int .i64 xb, .int .u64 (xc : Nat), .int .i64 xd, .slice so ms.length sc] rfl rfl 41 _ q1 infoS29 rfl (by simp [Value.oneCell']) ?_
  refine hK.out _ _ HS1.out (fun hHeld => ?_)
  clear hK K
  (try simp only [Act.put])
  refine comes_up 5 rfl (by kernel_rfl) (fun K hK => ?_)
  refine step_store_row rfl 45 (.tmp 4) (.tmp 44) rfl (w.heap.size + 1) #[.slice none 0 0, .slice none 0 0, .int .i64 0, .int .u64 0, .int .i64 0] rfl rfl 45 _ q2' infoS38 rfl (by simp [Value.oneCell']) ?_
  refine hK.out _ _ HS2.out (fun hHeld => ?_)
  clear hK K
  (try simp only [Act.put])
  refine tq 6 ?_
  refine wpAnyH_done (by kernel_rfl) ?_ _
  refine NoPanic.normal ?_
  go_wp2
  refine bodyPost_ret (v := .tuple #[.int .u8 1, ent (xa, xb, xc, xd) (.slice so ms.length sc), .agg Zs, .int .i64 0]) ?_ rfl ?_
  · simp [results, Tryz.results98, go_sem, a0, a1, a2, a3, a4, b0, b1, b2, b3, b4, Ze, Zs, ent]
  · exact ⟨_, rfl, HE.out⟩
end Go.Proofs.YtlaihgdfedalmaaGreat
