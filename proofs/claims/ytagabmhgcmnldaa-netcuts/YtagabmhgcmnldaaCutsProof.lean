/-
  Proved: for all bytes p, every n and joined, NetCuts(p, n, joined) returns true: what is under way between two that are cut off is lost when it would come, and comes if they are joined ahead of that. No condition.
-/
import Derived.Test.YtagabmhgcmnldaaNArgs
namespace Go.Proofs.Ytagabmhgcmnldaa.netCuts
open Go.ChangeShapes Go.WideShapes Go.ChangeAt Go.RowKit
open Go.ChangeMaps (open_string shut_string)
set_option linter.unusedVariables false
set_option linter.unusedSimpArgs false

theorem walk_long (w : World) (ao : Option Addr) (n cap : Nat) (m : Nat) (j : Bool) (hn : 1000 < n) (hnc : n ≤ cap) (hc : cap ≤ 140737488351232) :
    Calls Try.prog 9 #[.slice ao n cap, .int .u8 (m : Nat), .bool j] w fun e w' => e = .returned (.bool true) ∧ Below w.heap.size w w' := by
  go_enter Try.func9, Try.ntmps9
  go_wp2_with fail
  refine (awake_any _).mono ?_
  rintro e w1 ⟨rfl, b1⟩
  go_wp2_with fail
  refine (awake_any _).mono ?_
  rintro e w2 ⟨rfl, b2⟩
  go_wp2
  go_ret
  exact ⟨rfl, bl_step b1 b2⟩
theorem bl_al {w a : World} (h : Below w.heap.size w a) (o : Obj) : Below w.heap.size w (a.alloc o) := h.alloc h.size o
/-- Who hears whom behind both cuts, and behind the joining. -/
def cut1 (K : Nat) : Nat → Nat := put (put (allN (K + 1)) 0 (withoutN (allN (K + 1) 0) K)) K (withoutN (allN (K + 1) K) 0)
def cut2 (K : Nat) : Nat → Nat := put (put (cut1 K) K (withoutN (cut1 K K) (0 : Nat))) 0 (withoutN (cut1 K 0) K)
def join3 (K : Nat) : Nat → Nat := put (put (cut2 K) K (withN (cut2 K K) (0 : Nat))) 0 (withN (cut2 K 0) K)
theorem facts : ∀ K : Fin 16, 1 ≤ K.val → hears (K.val + 1) (cut2 K.val) K.val 0 = false ∧ hears (K.val + 1) (cut2 K.val) 0 0 = true ∧ hears (K.val + 1) (join3 K.val) K.val 0 = true ∧ hears (K.val + 1) (join3 K.val) 0 0 = true := by decide +kernel

set_option maxRecDepth 10000 in
set_option maxHeartbeats 2000000 in
theorem walk (w : World) (ao : Option Addr) (n cap : Nat) (xs : List UInt8) (h : Row w ao n cap xs) (hc : cap ≤ 140737488351232) (m : Nat) (hm : m < 256) (j : Bool) :
    Calls Try.prog 9 #[.slice ao n cap, .int .u8 (m : Nat), .bool j] w fun e w' => e = .returned (.bool true) ∧ Below w.heap.size w w' := by
  have hnc := h.2.1
  by_cases hn : 1000 < n
  · exact walk_long w ao n cap m j hn hnc hc
  have hn1 : n ≤ 1000 := by omega
  have HR : Hid (Row w ao n cap xs) := h
  have HX : Hid (xs.length = n) := h.1
  clear h
  obtain ⟨K, hK⟩ : ∃ K, K = 1 + m % 15 := ⟨_, rfl⟩
  have hki : 2 + (m : Int) % 15 = (K : Int) + 1 := by omega
  have hK1 : 1 ≤ K := by omega
  have hK15 : K ≤ 15 := by omega
  have HF : Hid (hears (K + 1) (cut2 K) K 0 = false ∧ hears (K + 1) (cut2 K) 0 0 = true ∧ hears (K + 1) (join3 K) K 0 = true ∧ hears (K + 1) (join3 K) 0 0 = true) := facts ⟨K, by omega⟩ hK1
  clear hK
  have hnew : ∀ W : World, Calls Try.prog 12 #[.int .i64 ((K : Int) + 1)] W fun e w' => ∃ p F, e = .returned (.tuple #[.pointer (some ⟨p, 0, none⟩), .int .i64 0]) ∧ Nt w' F p (K + 1) (allN (K + 1)) 0 [] ∧ Below W.heap.size W w' ∧ ∀ b, F b → W.heap.size ≤ b := fun W => new_any W (K + 1) (by omega) (by omega)
  go_enter Try.func9, Try.ntmps9
  go_wp2_with fail
  refine (awake_any _).mono ?_
  rintro e w1 ⟨rfl, b1⟩
  go_wp2_with fail
  (try rw [hki])
  refine (hnew _).mono ?_
  rintro e w2 ⟨p, F, rfl, hN, b2, hF0⟩
  have hb2 := bl_step b1 b2
  have hF : ∀ b, F b → w.heap.size ≤ b := fun b hb => Nat.le_trans b1.size (hF0 b hb)
  clear b1 b2 hF0 hnew hki
  have hpu : Calls Try.prog 22 #[.pointer (some ⟨p, 0, none⟩), .agg #[.int .i64 (K : Nat), .int .i64 0, .slice ao n cap]] w2 _ := put_any hN K 0 (by omega) (by omega) ao n cap xs (HR.out.below hb2 (Nat.le_refl _)) (by omega) (by simp)
  go_wp2_with fail
  refine hpu.mono ?_
  rintro e w3 ⟨rfl, F3, hN3, g3⟩
  have hb3 := hb2.trans (g3.turned.below hb2.size hF)
  have hF3 : ∀ b, F3 b → w.heap.size ≤ b := fun b hb => (g3.foot b hb).elim (hF b) (fun hle => Nat.le_trans hb2.size hle)
  clear hpu hN hb2 g3 hF F
  have hpu : Calls Try.prog 22 #[.pointer (some ⟨p, 0, none⟩), .agg #[.int .i64 0, .int .i64 0, .slice ao n cap]] w3 _ := put_any hN3 0 0 (by omega) (by omega) ao n cap xs (HR.out.below hb3 (Nat.le_refl _)) (by omega) (by simp)
  go_wp2_with fail
  refine hpu.mono ?_
  rintro e w4 ⟨rfl, F, hN4, g4⟩
  have hb4 := hb3.trans (g4.turned.below hb3.size hF3)
  have hF : ∀ b, F b → w.heap.size ≤ b := fun b hb => (g4.foot b hb).elim (hF3 b) (fun hle => Nat.le_trans hb3.size hle)
  clear hpu hN3 hb3 g4 hF3 F3
  have hcu : Calls Try.prog 20 #[.pointer (some ⟨p, 0, none⟩), .int .i64 0, .int .i64 (K : Nat)] w4 _ := cut_any hN4 0 K (by omega) (by omega) (by omega)
  go_wp2_with fail
  refine hcu.mono ?_
  rintro e w5 ⟨rfl, hN5, t5⟩
  have hb5 := hb4.trans (t5.below hb4.size hF)
  clear hcu hN4 hb4 t5
  have hN5' : Nt w5 F p (K + 1) (cut1 K) 0 [⟨K, 0, xs, []⟩, ⟨0, 0, xs, []⟩] := hN5
  have hcu : Calls Try.prog 20 #[.pointer (some ⟨p, 0, none⟩), .int .i64 (K : Nat), .int .i64 0] w5 _ := cut_any hN5' K 0 (by omega) (by omega) (by omega)
  go_wp2_with fail
  refine hcu.mono ?_
  rintro e w6 ⟨rfl, hN6, t6⟩
  have hb6 := hb5.trans (t6.below hb5.size hF)
  have hN6' : Nt w6 F p (K + 1) (cut2 K) 0 [⟨K, 0, xs, []⟩, ⟨0, 0, xs, []⟩] := hN6
  clear hcu hN5 hN5' hb5 t6 hN6
  have hbe : ((str xs).toList == (str xs).toList) = true := by simp
  cases j with
  | false =>
    have hta : Calls Try.prog 24 #[.pointer (some ⟨p, 0, none⟩), .int .i64 0] w6 _ := take_lost hN6' 0 ⟨K, 0, xs, []⟩ rfl HF.out.1 (by omega)
    unfold noPkt at hta
    go_wp2_with fail
    refine hta.mono ?_
    rintro e w7 ⟨rfl, hN7, t7⟩
    have hb7 := hb6.trans (t7.below hb6.size hF)
    clear hta hN6' hb6 t7
    obtain ⟨oA, hoA⟩ : ∃ o, o = Obj.cells #[.int .i64 0, .int .i64 0, .slice none 0 0] 49 := ⟨_, rfl⟩
    have hN8 := hN7.alloc oA
    have hb8 := bl_al hb7 oA
    have hta2 : Calls Try.prog 24 #[.pointer (some ⟨p, 0, none⟩), .int .i64 0] (w7.alloc oA) _ := take_any hN8 0 ⟨0, 0, xs, []⟩ rfl HF.out.2.1
    unfold pkt at hta2
    have htd : Pa.told (⟨0, 0, xs, []⟩ : Pa) = xs := rfl
    rw [htd] at hta2
    simp only [HX.out] at hta2
    have hF7 : ∀ b, F b → b < w7.heap.size := hN7.2
    rw [hoA] at hta2
    clear hN7 hb7
    go_wp2_with fail
    refine hta2.mono ?_
    rintro e w9 ⟨b, rfl, hbb, hby, hN9, t9⟩
    rw [← hoA] at t9 hbb
    have hsA : (w7.alloc oA).heap.size = w7.heap.size + 1 := by simp
    have hs9 := t9.size
    obtain ⟨oB, hoB⟩ : ∃ o, o = Obj.cells #[.int .i64 0, .int .i64 0, .slice (some ⟨b, 0, none⟩) n n] 49 := ⟨_, rfl⟩
    have hb9 := bl_al (hb8.trans (t9.below hb8.size hF)) oB
    have hN9' := hN9.alloc oB
    have cA : (w9.alloc oB).cell? ⟨w7.heap.size, 2, none⟩ = some (.slice none 0 0) := by
      rw [(bl1 w9 oB).cell (show w7.heap.size < w9.heap.size by omega), cell_block (t9.block _ (by omega) (fun hx => by have := hF7 _ hx; omega)), hoA]
      exact cell_box _ _ _ _ _ rfl
    have cBb : (w9.alloc oB).cell? ⟨w9.heap.size, 2, none⟩ = some (.slice (some ⟨b, 0, none⟩) n n) := by rw [hoB]; exact cell_box _ _ _ _ _ rfl
    have hrb := (hby.of (Below.heap_alloc w9 oB _ hby.lt)).row (by unfold maxLen; rw [HX.out]; omega)
    rw [HX.out] at hrb
    have cvb := conv_row hrb
    have cvp := conv_row (HR.out.below hb9 (Nat.le_refl _))
    have hhe : Calls Try.prog 16 #[.pointer (some ⟨p, 0, none⟩), .int .i64 0, .int .i64 0] (w9.alloc oB) _ := hear_any hN9' 0 0
    rw [HF.out.2.1] at hhe
    have hlo : Calls Try.prog 15 #[.pointer (some ⟨p, 0, none⟩)] (w9.alloc oB) fun e w' => e = .returned (.int .i64 1) ∧ w9.alloc oB = w' := lost_any hN9'
    have HT : Hid (Below w.heap.size w (w9.alloc oB)) := hb9
    rw [hoB] at cA cBb cvb cvp hhe hlo HT
    clear hN9 hN9' hN8 hb8 hb9 hby hrb t9 hta2 hoA hoB hF hF7 HR
    go_wp2_with fail
    refine hhe.mono ?_
    rintro e w10 ⟨rfl, rfl⟩
    go_wp2_with fail
    refine hlo.mono ?_
    rintro e w10 ⟨rfl, rfl⟩
    go_wp2_with fail
    go_ret
    exact ⟨rfl, HT.out⟩
  | true =>
    have hjo : Calls Try.prog 28 #[.pointer (some ⟨p, 0, none⟩), .int .i64 (K : Nat), .int .i64 0] w6 _ := join_any hN6' K 0 (by omega) (by omega) (by omega)
    go_wp2_with fail
    refine hjo.mono ?_
    rintro e w6b ⟨rfl, hN6b, t6b⟩
    have hb6b := hb6.trans (t6b.below hb6.size hF)
    have hN6c : Nt w6b F p (K + 1) (join3 K) 0 [⟨K, 0, xs, []⟩, ⟨0, 0, xs, []⟩] := hN6b
    clear hjo hN6' hb6 t6b hN6b
    have hta : Calls Try.prog 24 #[.pointer (some ⟨p, 0, none⟩), .int .i64 0] w6b _ := take_any hN6c 0 ⟨K, 0, xs, []⟩ rfl HF.out.2.2.1
    unfold pkt at hta
    have htd0 : Pa.told (⟨K, 0, xs, []⟩ : Pa) = xs := rfl
    rw [htd0] at hta
    simp only [HX.out] at hta
    go_wp2_with fail
    refine hta.mono ?_
    rintro e w7 ⟨ba, rfl, hba, hbya, hN7, t7⟩
    have hb7 := hb6b.trans (t7.below hb6b.size hF)
    have hbaF : ∀ b, F b → b ≠ ba := fun b hb => by have := hN6c.2 b hb; omega
    clear hta hN6c hb6b t7
    obtain ⟨oA, hoA⟩ : ∃ o, o = Obj.cells #[.int .i64 (K : Nat), .int .i64 0, .slice (some ⟨ba, 0, none⟩) n n] 49 := ⟨_, rfl⟩
    have hN8 := hN7.alloc oA
    have hb8 := bl_al hb7 oA
    have hta2 : Calls Try.prog 24 #[.pointer (some ⟨p, 0, none⟩), .int .i64 0] (w7.alloc oA) _ := take_any hN8 0 ⟨0, 0, xs, []⟩ rfl HF.out.2.2.2
    unfold pkt at hta2
    have htd : Pa.told (⟨0, 0, xs, []⟩ : Pa) = xs := rfl
    rw [htd] at hta2
    simp only [HX.out] at hta2
    have hF7 : ∀ b, F b → b < w7.heap.size := hN7.2
    have hbal := hbya.lt
    rw [hoA] at hta2
    clear hN7 hb7
    go_wp2_with fail
    refine hta2.mono ?_
    rintro e w9 ⟨b, rfl, hbb, hby, hN9, t9⟩
    rw [← hoA] at t9 hbb
    have hsA : (w7.alloc oA).heap.size = w7.heap.size + 1 := by simp
    have hs9 := t9.size
    obtain ⟨oB, hoB⟩ : ∃ o, o = Obj.cells #[.int .i64 0, .int .i64 0, .slice (some ⟨b, 0, none⟩) n n] 49 := ⟨_, rfl⟩
    have hb9 := bl_al (hb8.trans (t9.below hb8.size hF)) oB
    have hN9' := hN9.alloc oB
    have cA : (w9.alloc oB).cell? ⟨w7.heap.size, 2, none⟩ = some (.slice (some ⟨ba, 0, none⟩) n n) := by
      rw [(bl1 w9 oB).cell (show w7.heap.size < w9.heap.size by omega), cell_block (t9.block _ (by omega) (fun hx => by have := hF7 _ hx; omega)), hoA]
      exact cell_box _ _ _ _ _ rfl
    have cBb : (w9.alloc oB).cell? ⟨w9.heap.size, 2, none⟩ = some (.slice (some ⟨b, 0, none⟩) n n) := by rw [hoB]; exact cell_box _ _ _ _ _ rfl
    have hrb := (hby.of (Below.heap_alloc w9 oB _ hby.lt)).row (by unfold maxLen; rw [HX.out]; omega)
    rw [HX.out] at hrb
    have hra := (hbya.of ((Below.heap_alloc w9 oB _ (by omega)).trans ((t9.block ba (by omega) (fun hx => hbaF _ hx rfl)).trans (Below.heap_alloc w7 oA _ hbal)))).row (by unfold maxLen; rw [HX.out]; omega)
    rw [HX.out] at hra
    have cvb := conv_row hrb
    have cva := conv_row hra
    have cvp := conv_row (HR.out.below hb9 (Nat.le_refl _))
    have hhe : Calls Try.prog 16 #[.pointer (some ⟨p, 0, none⟩), .int .i64 0, .int .i64 0] (w9.alloc oB) _ := hear_any hN9' 0 0
    rw [HF.out.2.2.2] at hhe
    have hlo : Calls Try.prog 15 #[.pointer (some ⟨p, 0, none⟩)] (w9.alloc oB) fun e w' => e = .returned (.int .i64 0) ∧ w9.alloc oB = w' := lost_any hN9'
    have HT : Hid (Below w.heap.size w (w9.alloc oB)) := hb9
    rw [hoB] at cA cBb cvb cva cvp hhe hlo HT
    clear hN9 hN9' hN8 hb8 hb9 hby hbya hrb hra t9 hta2 hoA hoB hF hF7 hbaF HR
    go_wp2_with fail
    refine hhe.mono ?_
    rintro e w10 ⟨rfl, rfl⟩
    go_wp2_with fail
    refine hlo.mono ?_
    rintro e w10 ⟨rfl, rfl⟩
    go_wp2_with fail
    go_ret
    exact ⟨rfl, HT.out⟩


set_option maxRecDepth 100000 in
theorem lifted (os : Os) (started : os.Started) (H : Type) (enc : TypeId × Value → H) :
    ReturnsInHanded {} Try.checked os 9 .any (Rows.netCutsSpec.pre6 enc Try.prog Try.f9 Rows.netCutsRow.domain false) (Rows.netCutsSpec.post enc Try.prog Try.f9 false true false false) := by
  refine returnsInHanded_of_change_sized (C := Try.checked) own started (by kernel_rfl) Try.func9
    (ChangeSpec.witness6 (enc := enc) (C := Try.checked) false ⟨#[], #[.slice none 0 0, .int .u8 0, .bool false], []⟩ 9 (by kernel_rfl) (by kernel_rfl) (by kernel_rfl) (by kernel_rfl)) ?_
  intro W base args ds gs before hval0 hW hcnd hsz0 _
  have hsz : (DataW.weightsEach Try.prog (Try.f9.params.toList ++ Rows.netCutsSpec.plain.varTypes Try.prog) (ds ++ gs)).all (· ≤ reachBytes) = true := hsz0
  have hval : ∀ (j : Nat) t v, Try.f9.params[j]? = some t → args[j]? = some v → Value.okWide Try.prog W .any base t v := hval0
  have hW' := hW
  obtain ⟨p, q, hA0, hV, rfl, hfz, hnd⟩ := hW
  have hA : DataW.TrodAll enc Try.prog W 0 (fun _ => true) true Try.f9.params.toList args.toList ds p := hA0
  rw [Try.params9] at hA hval hsz
  obtain ⟨v0, vs0, d0, ds0, p0, q0, hargs0, rfl, rfl, h0, r0⟩ := trodAll_cons hA
  obtain ⟨v1, vs1, d1, ds1, p1, q1, hargs1, rfl, rfl, h1, r1⟩ := trodAll_cons r0
  obtain ⟨v2, vs2, d2, ds2, p2, q2, hargs2, rfl, rfl, h2, r2⟩ := trodAll_cons r1
  obtain ⟨rfl, rfl, rfl⟩ := trodAll_nil r2
  obtain rfl : args = #[v0, v1, v2] := by cases args; simp_all
  obtain ⟨rfl, rfl⟩ := trodVars_none hV
  obtain ⟨a0, len0, cap0, rfl⟩ := okWide_slice Try.underlying35 (hval 0 35 v0 rfl rfl)
  have k0 := h0
  have lt0 : ∀ x ∈ p0, x.block < W.heap.size := by obtain ⟨m, hm⟩ := k0; exact DataW.trod_lt m _ _ _ hm
  obtain ⟨xs0, hx0, hc0⟩ := open_bytes h0 hsz (j := 0) rfl rfl
  obtain ⟨a1, rfl, rfl, rfl, w1⟩ := open_int Try.underlying5 (hval 1 5 v1 rfl rfl) h1
  obtain ⟨b2, rfl, rfl, rfl⟩ := open_bool Try.underlying4 (hval 2 4 v2 rfl rfl) h2
  clear hA0 hval0 hsz hsz0
  obtain ⟨n1, rfl, hn1⟩ := u8_of_wf w1
  refine (walk W a0 len0 cap0 xs0 hx0 hc0 n1 hn1 b2).mono fun e W' ⟨he, bel⟩ => ?_
  subst he
  exact ⟨_, rfl, _, _, _, [], _, [], hW', trodAll_mk1 (shut_bool Try.underlying4 _), (trodAll_cons_mk (Below.trod laidOut (by kernel_rfl) (of_decide_eq_true (by kernel_rfl)) k0 bel lt0) (trodAll_cons_mk (shut_int Try.underlying5 w1) (trodAll_cons_mk (shut_bool Try.underlying4 _) trodAll_mk0))), rfl, bel.frame _, fun h => by cases h⟩

theorem over : Rows.netCutsRow.holds Try.pinned (OpenSpec.ofChange Rows.netCutsSpec) :=
  OpenClaim.holds_of_wide 9 Try.f9 rfl rfl rfl rfl rfl rfl rfl ⟨rfl, rfl, rfl, rfl, rfl⟩ rfl rfl rfl rfl rfl (by kernel_rfl) Try.func9 (by kernel_rfl)
    (of_decide_eq_true (by kernel_rfl)) (by unfold Func.isWrapper; first | (rw [if_pos (by decide +kernel)]; kernel_rfl) | (rw [if_neg (by decide +kernel)]; exact ⟨rfl, rfl⟩))
    (fun os started H enc _ => lifted os started H enc)

end Go.Proofs.Ytagabmhgcmnldaa.netCuts
namespace Go.Proofs.Ytagabmhgcmnldaa
theorem netCuts_holds : Rows.NetCutsSaid := netCuts.over
#print axioms netCuts_holds
end Go.Proofs.Ytagabmhgcmnldaa
