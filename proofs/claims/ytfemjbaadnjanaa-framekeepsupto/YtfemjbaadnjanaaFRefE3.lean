/-
  The document's bytes of lists of states.
-/
import Derived.Test.YtfemjbaadnjanaaFRefE2
namespace Go.Proofs.Ytfemjbaadnjanaa
open Go.RowKit
set_option linter.unusedVariables false
set_option linter.unusedSimpArgs false

set_option maxRecDepth 10000 in
set_option maxHeartbeats 1000000 in
theorem refStates_any (p : Nat → Prop) (w : World) (ao : Option Addr) (n cap : Nat) (ds : List Sd) (hi : SsX p w ao n ds) (hn : n ≤ 4096) (hok : ∀ d ∈ ds, stOk d = true ∧ d.1 < 18446744073709551616) (hl : (encL encS ds).length ≤ 2000000) :
    Calls Try.prog 32 #[.slice ao n cap] w fun e w' => ∃ v, e = .returned v ∧ Ow w.heap.size w w' v (encL encS ds) := by
  obtain ⟨xs, hI, hdl, hit⟩ := hi
  have hxl := hI.1
  have hnum := refUint_ow w n (by omega)
  have HX : Hid (SR p w ao n xs ∧ (∀ (j : Nat) (x : Sx) (d : Sd), xs[j]? = some x → ds[j]? = some d → SiX p w x d) ∧ ∀ d ∈ ds, stOk d = true ∧ d.1 < 18446744073709551616) := ⟨hI, hit, hok⟩
  have HE : Hid (encL encS ds = Cd.enc n ++ ds.flatMap encS) := by show _ = _; unfold encL; rw [hdl]
  have HL : Hid ((Cd.enc n).length + (ds.flatMap encS).length ≤ 2000000) := by show _ ≤ _; have := HE.out; rw [this, List.length_append] at hl; exact hl
  have hn1 : IntKind.u64.wrap (n : Int) = n := IntWalk.u64_in _ (by omega)
  clear hI hit hl hok
  obtain ⟨E0, HE0⟩ : ∃ E0, Hid (Cd.enc n = E0) := ⟨_, rfl⟩
  rw [HE0.out] at hnum
  go_enter Try.func32, Try.ntmps32
  go_wp2_with fail
  refine hnum.mono ?_
  rintro e w1 ⟨v1, rfl, ho1⟩
  have HO1 : Hid (Ow w.heap.size w w1 v1 E0) := ho1
  clear hnum ho1
  go_wp2_with fail
  go_loopw [3, 4] (fun pv iv wr => ∃ k : Nat, k ≤ n ∧ iv = .int .i64 k ∧ Ow w.heap.size w wr pv (E0 ++ (ds.take k).flatMap encS)) (fun _ iv _ => n - (intOf iv).toNat)
  case atStart =>
    refine ⟨0, by omega, rfl, ?_⟩
    simpa using HO1.out
  case round =>
    obtain ⟨k, hk, rfl, hok⟩ := hrel
    have HOK : Hid (Ow w.heap.size w wr u3 (E0 ++ (ds.take k).flatMap encS)) := hok
    clear hok HO1
    by_cases hlt : k < n
    · have hltI : (k : Int) < (n : Int) := by omega
      obtain ⟨x, hx⟩ : ∃ x, xs[k]? = some x := ⟨xs[k]'(by omega), List.getElem?_eq_getElem (by omega)⟩
      obtain ⟨d, hd⟩ : ∃ d, ds[k]? = some d := ⟨ds[k]'(by omega), List.getElem?_eq_getElem (by omega)⟩
      obtain ⟨hx1, hx2, hx3, hx4⟩ := HX.out.2.1 k x d hx hd
      obtain ⟨hsok, hd64⟩ := HX.out.2.2 d (List.mem_of_getElem? hd)
      have HT : Hid ((ds.take (k + 1)).flatMap encS = (ds.take k).flatMap encS ++ (encV d.1 d.2.1 ++ (Cd.enc d.2.2.1.toNat ++ encL encI d.2.2.2))) := by show _ = _; rw [flat_take hd]; rfl
      have hle := flat_take_le encS ds (k + 1)
      have hLe := HL.out
      have hle2 : ((ds.take k).flatMap encS).length + ((encV d.1 d.2.1).length + ((Cd.enc d.2.2.1.toNat).length + (encL encI d.2.2.2).length)) ≤ 2000000 := by rw [HT.out, List.length_append, List.length_append, List.length_append] at hle; omega
      unfold stOk formS at hsok
      simp only [Bool.and_eq_true, decide_eq_true_eq] at hsok
      obtain ⟨hil, ⟨⟨⟨hfv, hf0⟩, hf1⟩, _⟩, hall⟩ := hsok
      have hoks : ∀ y ∈ d.2.2.2, okF y.1 = true := fun y hy => by have := List.all_eq_true.1 hall y hy; simpa using this
      rw [← hx1, ← hx2] at hfv
      rw [← hx1] at hd64
      have hfl0 : 0 ≤ x.2.2.1 := by omega
      have hfl1 : x.2.2.1 ≤ 1073741824 := by omega
      obtain ⟨fl, hfl⟩ : ∃ fl : Nat, x.2.2.1 = fl := ⟨x.2.2.1.toNat, by omega⟩
      have hflt : d.2.2.1.toNat = fl := by omega
      have hwr : IntKind.u64.wrap (fl : Int) = fl := IntWalk.u64_in _ (by omega)
      have HC : Hid (∀ W, Below w.heap.size w W → ∀ b off, ao = some ⟨b, off, none⟩ → W.cell? ⟨b, off + k * 4, none⟩ = some (.int .u64 (x.1 : Nat)) ∧ W.cell? ⟨b, off + k * 4 + 1, none⟩ = some (.int .i64 x.2.1) ∧ W.cell? ⟨b, off + k * 4 + 2, none⟩ = some (.int .i64 (fl : Int)) ∧ W.cell? ⟨b, off + k * 4 + 3, none⟩ = some (.slice x.2.2.2.1 x.2.2.2.2.1 x.2.2.2.2.2)) := by
        intro W hW b off hao
        obtain ⟨b', off', hao', _, hc'⟩ := (HX.out.1.keep (Kp.up hW)).2.2.2 (by omega)
        rw [hao] at hao'
        simp only [Option.some.injEq, Addr.mk.injEq, and_true] at hao'
        obtain ⟨rfl, rfl⟩ := hao'
        have := hc' k x hx
        rw [hfl] at this
        exact this
      obtain ⟨b, off, hao, _, _⟩ := HX.out.1.2.2.2 (by omega)
      have hc1 := fun W => refEncode_ow W x.1 hd64 x.2.1 hfv
      have hc2 := fun W => refUint_ow W fl (by omega)
      have hc3 := fun W (hW : Below w.heap.size w W) => refItems_any p W x.2.2.2.1 x.2.2.2.2.1 x.2.2.2.2.2 d.2.2.2 (hx4.keep (Kp.up hW)) hoks (by omega)
      have hp1 := encV_pos x.1 x.2.1
      have hp2 := Cd.enc_pos fl
      have hp3 := encL_pos encI d.2.2.2
      rw [← hx1, ← hx2, hflt] at HT hle2
      have HB2 : Hid ((E0 ++ (ds.take k).flatMap encS).length + ((encV x.1 x.2.1).length + ((Cd.enc fl).length + (encL encI d.2.2.2).length)) ≤ 4000100) := by
        show _ ≤ _
        rw [HE0.out] at hLe
        rw [List.length_append]
        omega
      obtain ⟨A, HA⟩ : ∃ A, Hid (encV x.1 x.2.1 = A) := ⟨_, rfl⟩
      obtain ⟨C, HCC⟩ : ∃ C, Hid (Cd.enc fl = C) := ⟨_, rfl⟩
      obtain ⟨D, HD⟩ : ∃ D, Hid (encL encI d.2.2.2 = D) := ⟨_, rfl⟩
      obtain ⟨R, HR⟩ : ∃ R, Hid (E0 ++ (ds.take k).flatMap encS = R) := ⟨_, rfl⟩
      have hRl : R.length + (A.length + (C.length + D.length)) ≤ 4000100 := by have := HB2.out; rw [HA.out, HCC.out, HD.out, HR.out] at this; exact this
      have HTT : Hid (E0 ++ (ds.take (k + 1)).flatMap encS = R ++ A ++ C ++ D) := by
        show _ = _
        rw [HT.out, HA.out, HCC.out, HD.out, ← HR.out]
        simp
      have HOR : Hid (Ow w.heap.size w wr u3 R) := by rw [← HR.out]; exact HOK.out
      rw [HA.out] at hp1
      rw [HCC.out] at hp2
      rw [HD.out] at hp3
      simp only [HA.out] at hc1
      simp only [HCC.out] at hc2
      simp only [HD.out] at hc3
      have hbw := HOK.out.2.1
      obtain ⟨c0, c1, c2, c3⟩ := HC.out wr hbw b off hao
      subst hao
      have hk0 : ¬ ((k : Int) < 0) := by omega
      clear hx hd hle hle2 hLe HB2 HOK HT hx1 hx2 hx3 hx4 hfl hflt hoks hall hfv hd64 hf0 hf1 hfl0 hfl1 hil HA HCC HD HR HE HX hbw
      go_wp2_with fail
      refine (hc1 _).mono ?_
      rintro e w2 ⟨v2, rfl, ho2⟩
      have hP := HOR.out.up ho2.2.1
      obtain ⟨g2, k2, rfl, hcs⟩ := ow_some ho2 hp1
      clear hc1 ho2 HOR c0 c1 c2 c3
      go_wp2_with (first | (at_builtin; refine wpList_append_ow rfl _ _ rfl w.heap.size w w2 u3 _ rfl hP ⟨g2, 0, none⟩ A.length k2 A rfl rfl hcs ?d1 ?_))
      case d1 => omega
      intro v3 w3 ho3
      obtain ⟨c0, c1, c2, c3⟩ := HC.out w3 ho3.2.1 b off rfl
      clear hP hcs
      go_wp2_with fail
      refine (hc2 _).mono ?_
      rintro e w4 ⟨v4, rfl, ho4⟩
      have hP := ho3.up ho4.2.1
      obtain ⟨g4, k4, rfl, hcs⟩ := ow_some ho4 hp2
      clear hc2 ho4 ho3 c0 c1 c2 c3
      go_wp2_with (first | (at_builtin; refine wpList_append_ow rfl _ _ rfl w.heap.size w w4 v3 _ rfl hP ⟨g4, 0, none⟩ C.length k4 C rfl rfl hcs ?d1 ?_))
      case d1 => first | omega | (simp only [List.length_append]; omega)
      intro v5 w5 ho5
      obtain ⟨c0, c1, c2, c3⟩ := HC.out w5 ho5.2.1 b off rfl
      have hc3' := hc3 w5 ho5.2.1
      clear hP hcs hc3
      go_wp2_with fail
      refine hc3'.mono ?_
      rintro e w6 ⟨v6, rfl, ho6⟩
      have hP := ho5.up ho6.2.1
      obtain ⟨g6, k6, rfl, hcs⟩ := ow_some ho6 hp3
      clear hc3' ho6 ho5 c0 c1 c2 c3
      go_wp2_with (first | (at_builtin; refine wpList_append_ow rfl _ _ rfl w.heap.size w w6 v5 _ rfl hP ⟨g6, 0, none⟩ D.length k6 D rfl rfl hcs ?d1 ?_))
      case d1 => first | omega | (simp only [List.length_append]; omega)
      intro v7 w7 ho7
      have HO7 : Hid (Ow w.heap.size w w7 v7 (E0 ++ (ds.take (k + 1)).flatMap encS)) := by
        show Ow _ _ _ _ _
        rw [HTT.out]
        simpa using ho7
      clear ho7 hP hcs HTT
      go_wp2
      go_roundw
      case rel => first | exact ⟨k + 1, by omega, by go_num, HO7.out⟩ | ((repeat apply Exists.intro); exact ⟨⟨k + 1, by omega, by go_num, HO7.out⟩, rfl⟩)
      case measure => simp [intOf]; omega
    · obtain rfl : k = n := by omega
      have HF : Hid (Ow w.heap.size w wr u3 (encL encS ds)) := by
        have := HOK.out
        rw [List.take_of_length_le (by omega)] at this
        show Ow _ _ _ _ _
        rw [HE.out, HE0.out]
        exact this
      clear HOK HX HE
      go_wp2
      go_ret
      exact ⟨u3, rfl, HF.out⟩
end Go.Proofs.Ytfemjbaadnjanaa
