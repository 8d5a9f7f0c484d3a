/-
  The document's bytes of lists of items and of states.
-/
import Derived.Test.YtfemjbaadnjanaaFRefE
namespace Go.Proofs.Ytfemjbaadnjanaa
open Go.RowKit
set_option linter.unusedVariables false
set_option linter.unusedSimpArgs false

set_option maxRecDepth 10000 in
set_option maxHeartbeats 1000000 in
theorem refItems_any (p : Nat → Prop) (w : World) (ao : Option Addr) (n cap : Nat) (ds : List Di) (hi : ItsX p w ao n ds) (hok : ∀ d ∈ ds, okF d.1 = true) (hl : (encL encI ds).length ≤ 2000000) :
    Calls Try.prog 34 #[.slice ao n cap] w fun e w' => ∃ v, e = .returned v ∧ Ow w.heap.size w w' v (encL encI ds) := by
  obtain ⟨xs, hI, hdl, hit⟩ := hi
  have hxl := hI.1
  have hmax := hI.2.1
  have hnum := refUint_ow w n (by omega)
  have HX : Hid (IR p w ao n xs ∧ (∀ (j : Nat) (x : Ix) (d : Di), xs[j]? = some x → ds[j]? = some d → ItX p w x d) ∧ ∀ d ∈ ds, okF d.1 = true) := ⟨hI, hit, hok⟩
  have HE : Hid (encL encI ds = Cd.enc n ++ ds.flatMap encI) := by show _ = _; unfold encL; rw [hdl]
  have HL : Hid ((Cd.enc n).length + (ds.flatMap encI).length ≤ 2000000) := by show _ ≤ _; have := HE.out; rw [this, List.length_append] at hl; exact hl
  have hn1 : IntKind.u64.wrap (n : Int) = n := IntWalk.u64_in _ (by omega)
  clear hI hit hl hok
  obtain ⟨E0, HE0⟩ : ∃ E0, Hid (Cd.enc n = E0) := ⟨_, rfl⟩
  rw [HE0.out] at hnum
  go_enter Try.func34, Try.ntmps34
  go_wp2_with fail
  refine hnum.mono ?_
  rintro e w1 ⟨v1, rfl, ho1⟩
  have HO1 : Hid (Ow w.heap.size w w1 v1 E0) := ho1
  clear hnum ho1
  go_wp2_with fail
  go_loopw [3, 4] (fun pv iv wr => ∃ k : Nat, k ≤ n ∧ iv = .int .i64 k ∧ Ow w.heap.size w wr pv (E0 ++ (ds.take k).flatMap encI)) (fun _ iv _ => n - (intOf iv).toNat)
  case atStart =>
    refine ⟨0, by omega, rfl, ?_⟩
    simpa using HO1.out
  case round =>
    obtain ⟨k, hk, rfl, hok⟩ := hrel
    have HOK : Hid (Ow w.heap.size w wr u3 (E0 ++ (ds.take k).flatMap encI)) := hok
    clear hok HO1
    by_cases hlt : k < n
    · have hltI : (k : Int) < (n : Int) := by omega
      obtain ⟨x, hx⟩ : ∃ x, xs[k]? = some x := ⟨xs[k]'(by omega), List.getElem?_eq_getElem (by omega)⟩
      obtain ⟨d, hd⟩ : ∃ d, ds[k]? = some d := ⟨ds[k]'(by omega), List.getElem?_eq_getElem (by omega)⟩
      have kp : Kp p w wr := Kp.up HOK.out.2.1
      obtain ⟨b, off, hao, _, hc⟩ := (HX.out.1.keep kp).2.2.2 (by omega)
      obtain ⟨c0, c1⟩ := hc k x hx
      obtain ⟨hxd, hxr⟩ := HX.out.2.1 k x d hx hd
      have hof := HX.out.2.2 d (List.mem_of_getElem? hd)
      rw [← hxd] at hof
      unfold okF at hof
      simp only [Bool.and_eq_true, decide_eq_true_eq] at hof
      obtain ⟨hp0, hp15⟩ := hof
      have HPB : Hid (Cd.by8 (pb d.1) = .int .u8 x.1) := by show _ = _; rw [hxd]; exact pb_num d.1 (by omega) (by omega)
      have hwr : IntKind.u8.wrap x.1 = x.1 := IntWalk.u8_in _ (by omega)
      have hdn := hxr.row.1
      have HT : Hid ((ds.take (k + 1)).flatMap encI = (ds.take k).flatMap encI ++ ([pb d.1] ++ encM d.2)) := by show _ = _; rw [flat_take hd]; rfl
      have hle := flat_take_le encI ds (k + 1)
      have hLe := HL.out
      have hle2 : ((ds.take k).flatMap encI).length + (1 + (encM d.2).length) ≤ 2000000 := by rw [HT.out, List.length_append, List.length_append, List.length_singleton] at hle; omega
      have hem := encM_len d.2
      have hep := encM_pos d.2
      have hx2 : x.2.2.1 ≤ 2000000 := by omega
      have hms := fun W (hW : Below w.heap.size w W) => refBytes_ow W x.2.1 x.2.2.1 x.2.2.2 d.2 p (hxr.up hW) hx2
      have HB2 : Hid ((E0 ++ (ds.take k).flatMap encI).length + (1 + (encM d.2).length) ≤ 4000100) := by
        show _ ≤ _
        rw [HE0.out] at hLe
        rw [List.length_append]
        omega
      obtain ⟨E, HEd⟩ : ∃ E, Hid (encM d.2 = E) := ⟨_, rfl⟩
      rw [HEd.out] at hep
      simp only [HEd.out] at hms
      obtain ⟨R, HR⟩ : ∃ R, Hid (E0 ++ (ds.take k).flatMap encI = R) := ⟨_, rfl⟩
      have HOR : Hid (Ow w.heap.size w wr u3 R) := by rw [← HR.out]; exact HOK.out
      have hRl : R.length + (1 + E.length) ≤ 4000100 := by have := HB2.out; rw [HEd.out, HR.out] at this; exact this
      subst hao
      have hk0 : ¬ ((k : Int) < 0) := by omega
      have hPa := HOR.out.alloc (.cells #[.int .u8 x.1] 5)
      have hone := cell_one_new wr (.int .u8 x.1) 5
      have HXK : Hid (xs[k]? = some x) := hx
      clear hc hx hd hxr kp hle hle2 hLe hem hdn HB2 HOK hxd HOR
      go_wp2_with (first | (at_builtin; refine wpList_append_ow rfl _ _ rfl w.heap.size w _ u3 R rfl hPa ⟨wr.heap.size, 0, none⟩ 1 1 [pb d.1] rfl rfl ?d0 ?d1 ?_))
      case d0 =>
        intro j u hj
        obtain rfl : j = 0 := by have := (List.getElem?_eq_some_iff.1 hj).1; simp at this; omega
        simp only [List.map_cons, List.map_nil, List.getElem?_cons_zero, Option.some.injEq] at hj
        subst hj
        rw [HPB.out]
        first | rfl | exact cell_box wr #[Value.int .u8 x.1] 5 0 _ rfl
      case d1 => first | omega | (simp; omega)
      intro v2 w2 ho2
      obtain ⟨b', off', hao', _, hc'⟩ := (HX.out.1.keep (Kp.up ho2.2.1)).2.2.2 (by omega)
      simp only [Option.some.injEq, Addr.mk.injEq, and_true] at hao'
      obtain ⟨rfl, rfl⟩ := hao'
      obtain ⟨e0, e1⟩ := hc' k x HXK.out
      have hms2 := hms w2 ho2.2.1
      have HO2 : Hid (Ow w.heap.size w w2 v2 (R ++ [pb d.1])) := ho2
      clear hms ho2 c0 c1 hc' hPa hone
      go_wp2_with fail
      refine hms2.mono ?_
      rintro e w3 ⟨v3, rfl, ho3⟩
      have hP := HO2.out.up ho3.2.1
      obtain ⟨g3, c3, rfl, hcs⟩ := ow_some ho3 hep
      clear hms2 ho3 e0 e1 HO2
      go_wp2_with (first | (at_builtin; refine wpList_append_ow rfl _ _ rfl w.heap.size w w3 v2 _ rfl hP ⟨g3, 0, none⟩ E.length c3 E rfl rfl hcs ?d1 ?_))
      case d1 => first | omega | (simp; omega)
      intro v4 w4 ho4
      have HO4 : Hid (Ow w.heap.size w w4 v4 (E0 ++ (ds.take (k + 1)).flatMap encI)) := by
        show Ow _ _ _ _ _
        rw [HT.out, HEd.out, ← List.append_assoc, HR.out]
        simpa using ho4
      clear ho4 hP hcs HT
      go_wp2
      go_roundw
      case rel => first | exact ⟨k + 1, by omega, by go_num, HO4.out⟩ | ((repeat apply Exists.intro); exact ⟨⟨k + 1, by omega, by go_num, HO4.out⟩, rfl⟩)
      case measure => simp [intOf]; omega
    · obtain rfl : k = n := by omega
      have HF : Hid (Ow w.heap.size w wr u3 (encL encI ds)) := by
        have := HOK.out
        rw [List.take_of_length_le (by omega)] at this
        show Ow _ _ _ _ _
        rw [HE.out, HE0.out]
        exact this
      clear HOK HX HE
      go_wp2
      go_ret
      exact ⟨u3, rfl, HF.out⟩
end Go.Proofs.Ytfemjbaadnjanaa
