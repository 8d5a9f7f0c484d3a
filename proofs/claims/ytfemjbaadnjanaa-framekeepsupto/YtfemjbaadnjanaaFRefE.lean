/-
  The document's bytes of lists of items, of messages and of states.
-/
import Derived.Test.YtfemjbaadnjanaaFWrite3
namespace Go.Proofs.Ytfemjbaadnjanaa
open Go.RowKit
set_option linter.unusedVariables false
set_option linter.unusedSimpArgs false

/-- A row of bytes of one's own. -/
def Ow (B : Nat) (w W : World) (v : Value) (xs : List UInt8) : Prop := W.ownsRow B 5 1 v xs.length (xs.map Cd.by8) ∧ Below B w W ∧ B ≤ W.heap.size
theorem Ow.up {B : Nat} {w W W' : World} {v : Value} {xs : List UInt8} (h : Ow B w W v xs) (u : Below W.heap.size W W') : Ow B w W' v xs :=
  ⟨own_up h.1 u, h.2.1.trans (u.mono h.2.2), Nat.le_trans h.2.2 u.size⟩
theorem Ow.alloc {B : Nat} {w W : World} {v : Value} {xs : List UInt8} (h : Ow B w W v xs) (o : Obj) : Ow B w (W.alloc o) v xs := h.up (bl1 W o)
theorem ow_some {B : Nat} {w W : World} {v : Value} {xs : List UInt8} (h : Ow B w W v xs) (hn : 0 < xs.length) : ∃ g c, v = .slice (some ⟨g, 0, none⟩) xs.length c ∧ ∀ (j : Nat) (u : Value), (xs.map Cd.by8)[j]? = some u → W.cell? ((⟨g, 0, none⟩ : Addr).add j) = some u := by
  rcases own_shape h.1 with ⟨_, h0⟩ | ⟨g, c, rfl, _, _⟩
  · omega
  · refine ⟨g, c, rfl, fun j u hj => ?_⟩
    have := own_cell h.1 j u hj
    unfold Addr.add
    by_cases h0 : j = 0
    · subst h0; simpa using this
    · simpa [h0] using this

theorem wpList_append_ow {ops : Array Oper} {rest : List Oper} {o : Oper} {a : Act} {Q : Exit → Act → World → Prop} (hgd : o.guard = none) (s x : Operand)
    (ho : o.op = .call { callee := .builtin .append, args := #[s, x], argTypes := #[33, 33] }) (B : Nat) (w W : World) (v : Value) (xs : List UInt8) (hs : a.eval s = v) (hO : Ow B w W v xs)
    (ad : Addr) (m c : Nat) (ys : List UInt8) (hx : a.eval x = .slice (some ad) m c) (hm : ys.length = m) (hy : ∀ (j : Nat) (u : Value), (ys.map Cd.by8)[j]? = some u → W.cell? (ad.add j) = some u) (hl : xs.length + ys.length ≤ 140737488355328)
    (h : ∀ v' w', Ow B w w' v' (xs ++ ys) → wpList Try.prog ops Q rest (a.put o.dst v') w') :
    wpList Try.prog ops Q (o :: rest) a W := by
  obtain ⟨i0, hi0, hz0, hz1, hz2⟩ := info_parts info5
  refine wpList_append_own_at _ hgd s x 33 ho B 5 i0 (.int .u8 0) 1 1 und34 hi0 hz0 hz1 hz2 rfl (by decide) v xs.length (xs.map Cd.by8) hs hO.1 ad m c (ys.map Cd.by8) hx (by simp [hm]) hy (Cd.by8_one ys) (by unfold maxLen; omega) (by omega) hO.2.2 ?_
  intro v' w' hown hgrow _ _
  refine h v' w' ⟨?_, bl_grown hO.2.1 hO.2.2 hgrow (fun g hg => (hO.1.lt g hg).1), Nat.le_trans hO.2.2 hgrow.size⟩
  rw [List.length_append, List.map_append, hm]
  exact hown

theorem refUint_ow (w : World) (N : Nat) (hN : N < 18446744073709551616) : Calls Try.prog 31 #[.int .u64 (N : Nat)] w fun e w' => ∃ v, e = .returned v ∧ Ow w.heap.size w w' v (Cd.enc N) := by
  refine (Cd.refUint_any w N hN).mono ?_
  rintro e w' ⟨v, rfl, ho, hb⟩
  exact ⟨v, rfl, ho, hb, hb.size⟩
theorem refBytes_ow (w : World) (bo : Option Addr) (m bcap : Nat) (ys : List UInt8) (p : Nat → Prop) (hy : Rx p w bo m bcap ys) (hm : m ≤ 2000000) : Calls Try.prog 69 #[.slice bo m bcap] w fun e w' => ∃ v, e = .returned v ∧ Ow w.heap.size w w' v (encM ys) := by
  refine (Cd.refBytes_any w bo m bcap ys hy.row hm).mono ?_
  rintro e w' ⟨v, rfl, ho, hb⟩
  refine ⟨v, rfl, ?_, hb, hb.size⟩
  have hl := hy.row.1
  unfold encM
  rw [List.length_append, hl]
  rw [hl] at ho
  exact ho
theorem refEncode_ow (w : World) (N : Nat) (hN : N < 18446744073709551616) (p : Int) (hf : formV N p = true) : Calls Try.prog 30 #[.agg #[.int .u64 (N : Nat), .int .i64 p]] w fun e w' => ∃ v, e = .returned v ∧ Ow w.heap.size w w' v (encV N p) := by
  obtain ⟨h0, h15⟩ := formV_p' hf
  refine (refEncode_any w N hN p h0 h15).mono ?_
  rintro e w' ⟨v, rfl, ho, hb⟩
  refine ⟨v, rfl, ?_, hb, hb.size⟩
  unfold encV
  rw [List.length_append]
  exact ho

theorem encM_pos (m : List UInt8) : 0 < (encM m).length := by have := Cd.enc_pos m.length; simp [encM]; omega
theorem encV_pos (n : Nat) (p : Int) : 0 < (encV n p).length := by simp [encV]
theorem encL_pos {α : Type} (en : α → List UInt8) (l : List α) : 0 < (encL en l).length := by have := Cd.enc_pos l.length; simp [encL]; omega
theorem flat_take_le {α : Type} (en : α → List UInt8) (l : List α) (k : Nat) : ((l.take k).flatMap en).length ≤ (l.flatMap en).length := by
  have h : l.flatMap en = (l.take k).flatMap en ++ (l.drop k).flatMap en := by rw [← List.flatMap_append, List.take_append_drop]
  rw [h]
  simp

set_option maxRecDepth 10000 in
set_option maxHeartbeats 1000000 in
theorem refMsgs_any (p : Nat → Prop) (w : World) (ao : Option Addr) (n cap : Nat) (ds : List (List UInt8)) (hi : MsX p w ao n ds) (hl : (encL encM ds).length ≤ 2000000) :
    Calls Try.prog 33 #[.slice ao n cap] w fun e w' => ∃ v, e = .returned v ∧ Ow w.heap.size w w' v (encL encM ds) := by
  obtain ⟨xs, hI, hdl, hit⟩ := hi
  have hxl := hI.1
  have hmax := hI.2.1
  have hnum := refUint_ow w n (by omega)
  have HX : Hid (MR p w ao n xs ∧ ∀ (j : Nat) x (d : List UInt8), xs[j]? = some x → ds[j]? = some d → Rx p w x.1 x.2.1 x.2.2 d) := ⟨hI, hit⟩
  have HE : Hid (encL encM ds = Cd.enc n ++ ds.flatMap encM) := by show _ = _; unfold encL; rw [hdl]
  have HL : Hid ((Cd.enc n).length + (ds.flatMap encM).length ≤ 2000000) := by show _ ≤ _; have := HE.out; rw [this, List.length_append] at hl; exact hl
  have hn1 : IntKind.u64.wrap (n : Int) = n := IntWalk.u64_in _ (by omega)
  clear hI hit hl
  obtain ⟨E0, HE0⟩ : ∃ E0, Hid (Cd.enc n = E0) := ⟨_, rfl⟩
  rw [HE0.out] at hnum
  go_enter Try.func33, Try.ntmps33
  go_wp2_with fail
  refine hnum.mono ?_
  rintro e w1 ⟨v1, rfl, ho1⟩
  have HO1 : Hid (Ow w.heap.size w w1 v1 E0) := ho1
  clear hnum ho1
  go_wp2_with fail
  go_loopw [3, 4] (fun pv iv wr => ∃ k : Nat, k ≤ n ∧ iv = .int .i64 k ∧ Ow w.heap.size w wr pv (E0 ++ (ds.take k).flatMap encM)) (fun _ iv _ => n - (intOf iv).toNat)
  case atStart =>
    refine ⟨0, by omega, rfl, ?_⟩
    simpa using HO1.out
  case round =>
    obtain ⟨k, hk, rfl, hok⟩ := hrel
    have HOK : Hid (Ow w.heap.size w wr u3 (E0 ++ (ds.take k).flatMap encM)) := hok
    clear hok HO1
    by_cases hlt : k < n
    · have hltI : (k : Int) < (n : Int) := by omega
      obtain ⟨x, hx⟩ : ∃ x, xs[k]? = some x := ⟨xs[k]'(by omega), List.getElem?_eq_getElem (by omega)⟩
      obtain ⟨d, hd⟩ : ∃ d, ds[k]? = some d := ⟨ds[k]'(by omega), List.getElem?_eq_getElem (by omega)⟩
      have kp : Kp p w wr := Kp.up HOK.out.2.1
      obtain ⟨b, off, hao, _, hc⟩ := (HX.out.1.keep kp).2.2.2 (by omega)
      have c0 := hc k x hx
      have hxr := (HX.out.2 k x d hx hd).keep kp
      have hdn := hxr.row.1
      have HT : Hid ((ds.take (k + 1)).flatMap encM = (ds.take k).flatMap encM ++ encM d) := flat_take hd
      have hle := flat_take_le encM ds (k + 1)
      have hLe := HL.out
      have hle2 : ((ds.take k).flatMap encM).length + (encM d).length ≤ 2000000 := by rw [HT.out, List.length_append] at hle; omega
      have hem := encM_len d
      have hep := encM_pos d
      have hms := refBytes_ow wr x.1 x.2.1 x.2.2 d p hxr (by omega)
      have HB2 : Hid ((E0 ++ (ds.take k).flatMap encM).length + (encM d).length ≤ 4000100) := by
        show _ ≤ _
        rw [HE0.out] at hLe
        rw [List.length_append]
        omega
      obtain ⟨E, HEd⟩ : ∃ E, Hid (encM d = E) := ⟨_, rfl⟩
      rw [HEd.out] at hms hep
      subst hao
      have hk0 : ¬ ((k : Int) < 0) := by omega
      clear hc hx hd hxr kp hle hle2 hLe hem hdn
      go_wp2_with fail
      refine hms.mono ?_
      rintro e w3 ⟨v3, rfl, ho3⟩
      have hP := HOK.out.up ho3.2.1
      obtain ⟨g3, c3, rfl, hcs⟩ := ow_some ho3 hep
      clear hms ho3 c0
      go_wp2_with (first | (at_builtin; refine wpList_append_ow rfl _ _ rfl w.heap.size w w3 u3 _ rfl hP ⟨g3, 0, none⟩ E.length c3 E rfl rfl hcs ?d1 ?_))
      case d1 => have := HB2.out; rw [HEd.out] at this; omega
      intro v4 w4 ho4
      have HO4 : Hid (Ow w.heap.size w w4 v4 (E0 ++ (ds.take (k + 1)).flatMap encM)) := by
        show Ow _ _ _ _ _
        rw [HT.out, HEd.out, ← List.append_assoc]
        simpa using ho4
      clear ho4 hP hcs HOK HT HB2
      go_wp2
      go_roundw
      case rel => first | exact ⟨k + 1, by omega, by go_num, HO4.out⟩ | ((repeat apply Exists.intro); exact ⟨⟨k + 1, by omega, by go_num, HO4.out⟩, rfl⟩)
      case measure => simp [intOf]; omega
    · obtain rfl : k = n := by omega
      have HF : Hid (Ow w.heap.size w wr u3 (encL encM ds)) := by
        have := HOK.out
        rw [List.take_of_length_le (by omega)] at this
        show Ow _ _ _ _ _
        rw [HE.out, HE0.out]
        exact this
      clear HOK HX HE
      go_wp2
      go_ret
      exact ⟨u3, rfl, HF.out⟩
end Go.Proofs.Ytfemjbaadnjanaa
