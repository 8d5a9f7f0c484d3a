/-
  Proved: for all bytes p, NetFull(p) returns true: as many packets as may be are under way; one more is lost. No condition.
-/
import Derived.Test.YtagabmhgcmnldaaNArgs
namespace Go.Proofs.Ytagabmhgcmnldaa.netFull
open Go.ChangeShapes Go.WideShapes Go.ChangeAt Go.RowKit
open Go.ChangeMaps (open_string shut_string)
set_option linter.unusedVariables false
set_option linter.unusedSimpArgs false

theorem walk_long (w : World) (ao : Option Addr) (n cap : Nat) (hn : 100 < n) (hnc : n ≤ cap) (hc : cap ≤ 140737488351232) :
    Calls Try.prog 5 #[.slice ao n cap] w fun e w' => e = .returned (.bool true) ∧ Below w.heap.size w w' := by
  go_enter Try.func5, Try.ntmps5
  go_wp2_with fail
  refine (awake_any _).mono ?_
  rintro e w1 ⟨rfl, b1⟩
  go_wp2_with fail
  refine (awake_any _).mono ?_
  rintro e w2 ⟨rfl, b2⟩
  go_wp2
  go_ret
  exact ⟨rfl, bl_step b1 b2⟩
theorem new2 (w : World) : Calls Try.prog 12 #[.int .i64 2] w fun e w' => ∃ p F, e = .returned (.tuple #[.pointer (some ⟨p, 0, none⟩), .int .i64 0]) ∧ Nt w' F p 2 (allN 2) 0 [] ∧ Below w.heap.size w w' ∧ ∀ b, F b → w.heap.size ≤ b := new_any w 2 (by omega) (by omega)
theorem bl_al {w a : World} (h : Below w.heap.size w a) (o : Obj) : Below w.heap.size w (a.alloc o) := h.alloc h.size o

set_option maxRecDepth 10000 in
set_option maxHeartbeats 2000000 in
theorem walk (w : World) (ao : Option Addr) (n cap : Nat) (xs : List UInt8) (h : Row w ao n cap xs) (hc : cap ≤ 140737488351232) :
    Calls Try.prog 5 #[.slice ao n cap] w fun e w' => e = .returned (.bool true) ∧ Below w.heap.size w w' := by
  have hnc := h.2.1
  by_cases hn : 100 < n
  · exact walk_long w ao n cap hn hnc hc
  have HR : Hid (Row w ao n cap xs) := h
  have HX : Hid (xs.length = n) := h.1
  clear h
  go_enter Try.func5, Try.ntmps5
  go_wp2_with fail
  refine (awake_any _).mono ?_
  rintro e w1 ⟨rfl, b1⟩
  go_wp2_with fail
  refine (new2 _).mono ?_
  rintro e w2 ⟨p, F, rfl, hN, b2, hF⟩
  have hb2 := bl_step b1 b2
  have hF' : ∀ b, F b → w.heap.size ≤ b := fun b hb => Nat.le_trans b1.size (hF b hb)
  clear b1 b2 hF
  go_wp2_with fail
  go_loopw [5] (fun iv wr => ∃ (i : Nat) (G : Nat → Prop), i ≤ 4096 ∧ iv = .int .i64 (i : Nat) ∧ Nt wr G p 2 (allN 2) 0 (List.replicate i ⟨1, 0, xs, []⟩) ∧ (∀ b, G b → w.heap.size ≤ b) ∧ Below w.heap.size w wr) (fun iv _ => 4096 - (intOf iv).toNat)
  case atStart => exact ⟨0, F, by omega, rfl, hN, hF', hb2⟩
  case round =>
    clear hN hF' hb2 F
    obtain ⟨i, G, hi, rfl, hN, hG, hb⟩ := hrel
    by_cases hlt : i < 4096
    · have hltI : (i : Int) < 4096 := by omega
      have hpu := put_any hN 1 0 (by omega) (by omega) ao n cap xs (HR.out.below hb (Nat.le_refl _)) (by omega) (by rw [List.length_replicate]; exact hlt)
      unfold pkt at hpu
      have hpu' : Calls Try.prog 22 #[.pointer (some ⟨p, 0, none⟩), .agg #[.int .i64 1, .int .i64 0, .slice ao n cap]] wr _ := hpu
      go_wp2_with fail
      refine hpu'.mono ?_
      rintro e w3 ⟨rfl, G', hN', hg⟩
      have HE : Hid (Nt w3 G' p 2 (allN 2) 0 (List.replicate (i + 1) ⟨1, 0, xs, []⟩) ∧ (∀ b, G' b → w.heap.size ≤ b) ∧ Below w.heap.size w w3) := ⟨by rw [List.replicate_succ']; exact hN', fun b hb' => (hg.foot b hb').elim (hG b) (fun hle => Nat.le_trans hb.size hle), hb.trans (hg.turned.below hb.size hG)⟩
      clear hpu hpu' hN' hg
      go_wp2
      go_roundw
      case rel => exact ⟨i + 1, G', by omega, by go_num, HE.out⟩
      case measure => simp [intOf]; omega
    · obtain rfl : i = 4096 := by omega
      obtain ⟨A, HA⟩ : ∃ A, Hid (List.replicate 4096 (⟨1, 0, xs, []⟩ : Pa) = A) := ⟨_, Eq.refl _⟩
      have hAl : A.length = 4096 := by rw [← HA.out, List.length_replicate]
      have hAg : ∀ j, j < 4096 → A[j]? = some ⟨1, 0, xs, []⟩ := fun j hj => by rw [← HA.out, List.getElem?_replicate, if_pos hj]
      rw [HA.out] at hN
      have hpb := put_busy hN 1 0 (.slice none 0 0) (by omega) (by omega) hAl (by omega)
      unfold pkt at hpb
      have hpb' : Calls Try.prog 22 #[.pointer (some ⟨p, 0, none⟩), .agg #[.int .i64 1, .int .i64 0, .slice none 0 0]] wr _ := hpb
      generalize hw8 : wr = w8 at *
      clear hw8 hpb HA
      go_wp2_with fail
      refine hpb'.mono ?_
      rintro e w3 ⟨rfl, hN3, t3⟩
      have hb3 := hb.trans (t3.below hb.size hG)
      clear hpb' hN t3 hb
      have hdb : Calls Try.prog 23 #[.pointer (some ⟨p, 0, none⟩), .int .i64 7] w3 _ := double_busy hN3 7 (by omega) hAl (by omega)
      go_wp2_with fail
      refine hdb.mono ?_
      rintro e w4 ⟨rfl, hN4, t4⟩
      have hb4 := hb3.trans (t4.below hb3.size hG)
      clear hdb hN3 t4 hb3
      have hh10 : hears 2 (allN 2) 1 0 = true := by decide
      have hta : Calls Try.prog 24 #[.pointer (some ⟨p, 0, none⟩), .int .i64 4095] w4 _ := take_any hN4 4095 _ (hAg 4095 (by omega)) hh10
      unfold pkt at hta
      have htd : Pa.told (⟨1, 0, xs, []⟩ : Pa) = xs := rfl
      rw [htd] at hta
      simp only [HX.out] at hta
      go_wp2_with fail
      refine hta.mono ?_
      rintro e w5 ⟨b, rfl, hbl, hby, hN5, t5⟩
      have hb5 := hb4.trans (t5.below hb4.size hG)
      have hw5 : ∀ o, Nt (w5.alloc o) G p 2 (allN 2) (0 + 1 + 1) (A.eraseIdx 4095) := fun o => hN5.alloc o
      have hb5' : ∀ o, Below w.heap.size w (w5.alloc o) := fun o => bl_al hb5 o
      have hdo := fun o => double_any (hw5 o) 0 ⟨1, 0, xs, []⟩ (by rw [List.getElem?_eraseIdx_of_lt (by omega)]; exact hAg 0 (by omega)) (by rw [List.length_eraseIdx_of_lt (by omega), hAl]; omega)
      have hdo' : ∀ o, Calls Try.prog 23 #[.pointer (some ⟨p, 0, none⟩), .int .i64 0] (w5.alloc o) _ := hdo
      have hbG : ∀ b, G b → b < w4.heap.size := hN4.2
      have hG5 : ∀ b, G b → b < w5.heap.size := hN5.2
      clear hta hN4 t5 hb4 hdo
      go_wp2_with fail
      refine (hdo' _).mono ?_
      rintro e w6 ⟨rfl, G6, hN6, g6⟩
      have hb6 := (hb5' (.cells #[.int .i64 1, .int .i64 0, .slice (some ⟨b, 0, none⟩) n n] 49)).trans (g6.turned.below (hb5' _).size hG)
      have hq : w6.cell? ⟨w5.heap.size, 2, none⟩ = some (.slice (some ⟨b, 0, none⟩) n n) := by
        rw [cell_block (g6.turned.block w5.heap.size (by simp) (fun hx => by have := hG5 _ hx; omega))]
        exact cell_box _ _ _ _ _ rfl
      have hby6 : By w6 b xs := by
        have hbl5 := hby.lt
        exact hby.of ((g6.turned.block b (by simp; omega) (fun hx => by have := hbG _ hx; omega)).trans (Below.heap_alloc _ _ _ hbl5))
      have hrq := hby6.row (by unfold maxLen; rw [HX.out]; omega)
      rw [HX.out] at hrq
      have cq := conv_row hrq
      have cp := conv_row (HR.out.below hb6 (Nat.le_refl _))
      have hbe : ((str xs).toList == (str xs).toList) = true := by simp
      have hlo : Calls Try.prog 15 #[.pointer (some ⟨p, 0, none⟩)] w6 fun e w' => e = .returned (.int .i64 2) ∧ w6 = w' := lost_any hN6
      have hle : Calls Try.prog 14 #[.pointer (some ⟨p, 0, none⟩)] w6 fun e w' => e = .returned (.int .i64 4096) ∧ w6 = w' := by
        have := len_any hN6
        rw [List.length_append, List.length_eraseIdx_of_lt (by omega), hAl] at this
        exact this
      have HT : Hid (Below w.heap.size w w6) := hb6
      clear hN6 g6 hb6 hby6 hrq hby hN5 hb5 hw5 hb5' hdo' hG hG5 hbG HR hAg hAl
      go_wp2_with fail
      refine hlo.mono ?_
      rintro e w7 ⟨rfl, rfl⟩
      go_wp2_with fail
      refine hle.mono ?_
      rintro e w7 ⟨rfl, rfl⟩
      go_wp2_with fail
      go_ret
      exact ⟨rfl, HT.out⟩


set_option maxRecDepth 100000 in
theorem lifted (os : Os) (started : os.Started) (H : Type) (enc : TypeId × Value → H) :
    ReturnsInHanded {} Try.checked os 5 .any (Rows.netFullSpec.pre6 enc Try.prog Try.f5 Rows.netFullRow.domain false) (Rows.netFullSpec.post enc Try.prog Try.f5 false true false false) := by
  refine returnsInHanded_of_change_sized (C := Try.checked) own started (by kernel_rfl) Try.func5
    (ChangeSpec.witness6 (enc := enc) (C := Try.checked) false ⟨#[], #[.slice none 0 0], []⟩ 5 (by kernel_rfl) (by kernel_rfl) (by kernel_rfl) (by kernel_rfl)) ?_
  intro W base args ds gs before hval0 hW hcnd hsz0 _
  have hsz : (DataW.weightsEach Try.prog (Try.f5.params.toList ++ Rows.netFullSpec.plain.varTypes Try.prog) (ds ++ gs)).all (· ≤ reachBytes) = true := hsz0
  have hval : ∀ (j : Nat) t v, Try.f5.params[j]? = some t → args[j]? = some v → Value.okWide Try.prog W .any base t v := hval0
  have hW' := hW
  obtain ⟨p, q, hA0, hV, rfl, hfz, hnd⟩ := hW
  have hA : DataW.TrodAll enc Try.prog W 0 (fun _ => true) true Try.f5.params.toList args.toList ds p := hA0
  rw [Try.params5] at hA hval hsz
  obtain ⟨v0, vs0, d0, ds0, p0, q0, hargs0, rfl, rfl, h0, r0⟩ := trodAll_cons hA
  obtain ⟨rfl, rfl, rfl⟩ := trodAll_nil r0
  obtain rfl : args = #[v0] := by cases args; simp_all
  obtain ⟨rfl, rfl⟩ := trodVars_none hV
  obtain ⟨a0, len0, cap0, rfl⟩ := okWide_slice Try.underlying35 (hval 0 35 v0 rfl rfl)
  have k0 := h0
  have lt0 : ∀ x ∈ p0, x.block < W.heap.size := by obtain ⟨m, hm⟩ := k0; exact DataW.trod_lt m _ _ _ hm
  obtain ⟨xs0, hx0, hc0⟩ := open_bytes h0 hsz (j := 0) rfl rfl
  clear hA0 hval0 hsz hsz0
  refine (walk W a0 len0 cap0 xs0 hx0 hc0).mono fun e W' ⟨he, bel⟩ => ?_
  subst he
  exact ⟨_, rfl, _, _, _, [], _, [], hW', trodAll_mk1 (shut_bool Try.underlying4 _), (trodAll_cons_mk (Below.trod laidOut (by kernel_rfl) (of_decide_eq_true (by kernel_rfl)) k0 bel lt0) trodAll_mk0), rfl, bel.frame _, fun h => by cases h⟩

theorem over : Rows.netFullRow.holds Try.pinned (OpenSpec.ofChange Rows.netFullSpec) :=
  OpenClaim.holds_of_wide 5 Try.f5 rfl rfl rfl rfl rfl rfl rfl ⟨rfl, rfl, rfl, rfl, rfl⟩ rfl rfl rfl rfl rfl (by kernel_rfl) Try.func5 (by kernel_rfl)
    (of_decide_eq_true (by kernel_rfl)) (by unfold Func.isWrapper; first | (rw [if_pos (by decide +kernel)]; kernel_rfl) | (rw [if_neg (by decide +kernel)]; exact ⟨rfl, rfl⟩))
    (fun os started H enc _ => lifted os started H enc)

end Go.Proofs.Ytagabmhgcmnldaa.netFull
namespace Go.Proofs.Ytagabmhgcmnldaa
theorem netFull_holds : Rows.NetFullSaid := netFull.over
#print axioms netFull_holds
end Go.Proofs.Ytagabmhgcmnldaa
