/-
  Package total's Next.
-/
import Derived.Test.YtlaihgdfedalmaaGreatTSum
import Derived.Test.YtlaihgdfedalmaaGreatEAll
import Derived.Test.YtlaihgdfedalmaaGreatEOne
import Derived.Test.YtlaihgdfedalmaaGreatEMath2
import Derived.Test.YtlaihgdfedalmaaGreatMix2
namespace Go.Proofs.YtlaihgdfedalmaaGreat
open Go.RowKit Go.Sort Go.Conc
set_option linter.unusedVariables false
set_option linter.unusedSimpArgs false

def Tot.next (T : Tot) : Option (List UInt8) :=
  if T.vn = 0 then none else if T.st = 0 then (if rightS T.con T.ord T.nx T.hn T.hp then some (allB T.con T.ord T.nx.toNat T.hn T.hp) else none)
  else if T.st = 2 then (match T.buf with | [] => none | e :: _ => if formE e.1 e.2.length then some (1 :: encE e.1 e.2) else none) else none
/-- What is told: new bytes, or nothing. -/
def NextPost (w : World) (r : Option (List UInt8)) (e : Ending) (w' : World) : Prop := Below w.heap.size w w' ∧ match r with
  | none => e = .returned (.tuple #[.slice none 0 0, .bool false])
  | some b => ∃ v, e = .returned (.tuple #[v, .bool true]) ∧ w'.ownsRow w.heap.size 5 1 v b.length (b.map Cd.by8)
theorem next_nil (w : World) : Calls Tryz.prog 20 #[.pointer none] w fun e w' => e = .returned (.tuple #[.slice none 0 0, .bool false]) ∧ w' = w := by
  go_enter Tryz.func20, Tryz.ntmps20
  go_wp2
  go_ret2
  exact ⟨rfl, rfl⟩
set_option maxRecDepth 10000 in
set_option maxHeartbeats 1000000 in
theorem next_none (w : World) (q : Nat) (c4 : w.cell? ⟨q, 4, none⟩ = some (.int .u64 ((0 : Nat) : Int))) : Calls Tryz.prog 20 #[.pointer (some ⟨q, 0, none⟩)] w fun e w' => e = .returned (.tuple #[.slice none 0 0, .bool false]) ∧ w' = w := by
  have hiv := inView_any w q 0 c4
  have e1 : decide ((0 : Nat) ≠ 0) = false := by simp
  rw [e1] at hiv
  clear e1 c4
  go_enter Tryz.func20, Tryz.ntmps20
  go_wp2_with fail
  refine hiv.mono ?_
  rintro e w1 ⟨rfl, rfl⟩
  clear hiv
  go_wp2
  go_ret2
  exact ⟨rfl, rfl⟩
set_option maxRecDepth 10000 in
set_option maxHeartbeats 1000000 in
/-- A summary is to be sent. -/
theorem next_send0 (w : World) (q : Nat) (n : Nat) (hn0 : n ≠ 0) (c4 : w.cell? ⟨q, 4, none⟩ = some (.int .u64 (n : Nat))) (c7 : w.cell? ⟨q, 7, none⟩ = some (.int .u8 0)) (R : Ending → World → Prop) (sv' : World → Value → Prop)
    (hsum : Calls Tryz.prog 36 #[.pointer (some ⟨q, 0, none⟩)] w (fun e w1 => ∃ v, e = .returned v ∧ sv' w1 v))
    (henc : ∀ w1 v, sv' w1 v → Calls Tryz.prog 54 #[v] w1 (fun e w2 => ∃ mo ml mc, e = .returned (.tuple #[.slice mo ml mc, .int .i64 0]) ∧ R (.returned (.tuple #[.slice mo ml mc, .bool true])) w2)) :
    Calls Tryz.prog 20 #[.pointer (some ⟨q, 0, none⟩)] w R := by
  have hiv := inView_any w q n c4
  have e1 : decide (n ≠ 0) = true := by simp [hn0]
  rw [e1] at hiv
  clear e1 c4
  go_enter Tryz.func20, Tryz.ntmps20
  go_wp2_with fail
  refine hiv.mono ?_
  rintro e w1 ⟨rfl, rfl⟩
  clear hiv
  go_wp2_with fail
  refine hsum.mono ?_
  rintro e w2 ⟨v, rfl, hv⟩
  have he := henc w2 v hv
  clear hsum henc hv c7
  go_wp2_with fail
  refine he.mono ?_
  rintro e w3 ⟨mo, ml, mc, rfl, hR⟩
  have HR : Hid (R (.returned (.tuple #[.slice mo ml mc, .bool true])) w3) := hR
  clear he hR
  go_wp2
  exact HR.out
set_option maxRecDepth 10000 in
set_option maxHeartbeats 1000000 in
/-- A summary is to be sent. -/
theorem next_send3 (w : World) (q : Nat) (n : Nat) (hn0 : n ≠ 0) (c4 : w.cell? ⟨q, 4, none⟩ = some (.int .u64 (n : Nat))) (c7 : w.cell? ⟨q, 7, none⟩ = some (.int .u8 0)) (R : Ending → World → Prop) (sv' : World → Value → Prop)
    (hsum : Calls Tryz.prog 36 #[.pointer (some ⟨q, 0, none⟩)] w (fun e w1 => ∃ v, e = .returned v ∧ sv' w1 v))
    (henc : ∀ w1 v, sv' w1 v → Calls Tryz.prog 54 #[v] w1 (fun e w2 => ∃ mo ml mc, e = .returned (.tuple #[.slice mo ml mc, .int .i64 3]) ∧ R (.returned (.tuple #[.slice mo ml mc, .bool false])) w2)) :
    Calls Tryz.prog 20 #[.pointer (some ⟨q, 0, none⟩)] w R := by
  have hiv := inView_any w q n c4
  have e1 : decide (n ≠ 0) = true := by simp [hn0]
  rw [e1] at hiv
  clear e1 c4
  go_enter Tryz.func20, Tryz.ntmps20
  go_wp2_with fail
  refine hiv.mono ?_
  rintro e w1 ⟨rfl, rfl⟩
  clear hiv
  go_wp2_with fail
  refine hsum.mono ?_
  rintro e w2 ⟨v, rfl, hv⟩
  have he := henc w2 v hv
  clear hsum henc hv c7
  go_wp2_with fail
  refine he.mono ?_
  rintro e w3 ⟨mo, ml, mc, rfl, hR⟩
  have HR : Hid (R (.returned (.tuple #[.slice mo ml mc, .bool false])) w3) := hR
  clear he hR
  go_wp2
  exact HR.out
set_option maxRecDepth 10000 in
set_option maxHeartbeats 1000000 in
theorem next_idle1 (w : World) (q : Nat) (n : Nat) (hn0 : n ≠ 0) (c4 : w.cell? ⟨q, 4, none⟩ = some (.int .u64 (n : Nat))) (s : Nat) (h0 : ((s : Int) == 0) = false) (h2 : ((s : Int) == 2) = false) (c7 : w.cell? ⟨q, 7, none⟩ = some (.int .u8 (s : Nat))) : Calls Tryz.prog 20 #[.pointer (some ⟨q, 0, none⟩)] w fun e w' => e = .returned (.tuple #[.slice none 0 0, .bool false]) ∧ w' = w := by
  have hiv := inView_any w q n c4
  have e1 : decide (n ≠ 0) = true := by simp [hn0]
  rw [e1] at hiv
  clear e1 c4
  go_enter Tryz.func20, Tryz.ntmps20
  go_wp2_with fail
  refine hiv.mono ?_
  rintro e w1 ⟨rfl, rfl⟩
  clear hiv
  go_wp2
  go_ret2
  exact ⟨rfl, rfl⟩
set_option maxRecDepth 10000 in
set_option maxHeartbeats 1000000 in
theorem next_idle2 (w : World) (q : Nat) (n : Nat) (hn0 : n ≠ 0) (c4 : w.cell? ⟨q, 4, none⟩ = some (.int .u64 (n : Nat))) (c7 : w.cell? ⟨q, 7, none⟩ = some (.int .u8 2)) (bo : Option Addr) (cap : Nat) (c9 : w.cell? ⟨q, 9, none⟩ = some (.slice bo 0 cap)) : Calls Tryz.prog 20 #[.pointer (some ⟨q, 0, none⟩)] w fun e w' => e = .returned (.tuple #[.slice none 0 0, .bool false]) ∧ w' = w := by
  have hiv := inView_any w q n c4
  have e1 : decide (n ≠ 0) = true := by simp [hn0]
  rw [e1] at hiv
  clear e1 c4
  go_enter Tryz.func20, Tryz.ntmps20
  go_wp2_with fail
  refine hiv.mono ?_
  rintro e w1 ⟨rfl, rfl⟩
  clear hiv
  go_wp2
  go_ret2
  exact ⟨rfl, rfl⟩
set_option maxRecDepth 10000 in
set_option maxHeartbeats 1000000 in
/-- An entry is to be sent. -/
theorem next_one0 (w : World) (q : Nat) (n : Nat) (hn0 : n ≠ 0) (c4 : w.cell? ⟨q, 4, none⟩ = some (.int .u64 (n : Nat))) (c7 : w.cell? ⟨q, 7, none⟩ = some (.int .u8 2)) (bo : Nat) (off L cap : Nat) (c9 : w.cell? ⟨q, 9, none⟩ = some (.slice (some ⟨bo, off, none⟩) (L + 1) cap))
    (y : Lb) (v4 : Value) (d0 : w.cell? ⟨bo, off, none⟩ = some (.int .u64 (y.1 : Nat))) (d1 : w.cell? ⟨bo, off + 1, none⟩ = some (.int .i64 y.2.1)) (d2 : w.cell? ⟨bo, off + 2, none⟩ = some (.int .u64 (y.2.2.1 : Nat))) (d3 : w.cell? ⟨bo, off + 3, none⟩ = some (.int .i64 y.2.2.2)) (d4 : w.cell? ⟨bo, off + 4, none⟩ = some v4) (R : Ending → World → Prop)
    (henc : Calls Tryz.prog 55 #[.agg #[.int .u64 (y.1 : Nat), .int .i64 y.2.1, .int .u64 (y.2.2.1 : Nat), .int .i64 y.2.2.2, v4]] w (fun e w2 => ∃ mo ml mc, e = .returned (.tuple #[.slice mo ml mc, .int .i64 0]) ∧ R (.returned (.tuple #[.slice mo ml mc, .bool true])) w2)) :
    Calls Tryz.prog 20 #[.pointer (some ⟨q, 0, none⟩)] w R := by
  have hiv := inView_any w q n c4
  have e1 : decide (n ≠ 0) = true := by simp [hn0]
  rw [e1] at hiv
  have hL : (0 : Int) < ((L + 1 : Nat) : Int) := by omega
  clear e1 c4
  go_enter Tryz.func20, Tryz.ntmps20
  go_wp2_with fail
  refine hiv.mono ?_
  rintro e w1 ⟨rfl, rfl⟩
  clear hiv
  have hL1 : ¬ (((L + 1 : Nat) : Int) ≤ 0) := by omega
  generalize hM : L + 1 = M at *
  clear hM
  go_wp2_with (refine wpList_load_E rfl (.tmp 44) rfl bo off rfl y v4 d0 d1 d2 d3 d4 ?_)
  refine henc.mono ?_
  rintro e w3 ⟨mo, ml, mc, rfl, hR⟩
  have HR : Hid (R (.returned (.tuple #[.slice mo ml mc, .bool true])) w3) := hR
  clear henc hR
  go_wp2
  exact HR.out
set_option maxRecDepth 10000 in
set_option maxHeartbeats 1000000 in
/-- An entry is to be sent. -/
theorem next_one3 (w : World) (q : Nat) (n : Nat) (hn0 : n ≠ 0) (c4 : w.cell? ⟨q, 4, none⟩ = some (.int .u64 (n : Nat))) (c7 : w.cell? ⟨q, 7, none⟩ = some (.int .u8 2)) (bo : Nat) (off L cap : Nat) (c9 : w.cell? ⟨q, 9, none⟩ = some (.slice (some ⟨bo, off, none⟩) (L + 1) cap))
    (y : Lb) (v4 : Value) (d0 : w.cell? ⟨bo, off, none⟩ = some (.int .u64 (y.1 : Nat))) (d1 : w.cell? ⟨bo, off + 1, none⟩ = some (.int .i64 y.2.1)) (d2 : w.cell? ⟨bo, off + 2, none⟩ = some (.int .u64 (y.2.2.1 : Nat))) (d3 : w.cell? ⟨bo, off + 3, none⟩ = some (.int .i64 y.2.2.2)) (d4 : w.cell? ⟨bo, off + 4, none⟩ = some v4) (R : Ending → World → Prop)
    (henc : Calls Tryz.prog 55 #[.agg #[.int .u64 (y.1 : Nat), .int .i64 y.2.1, .int .u64 (y.2.2.1 : Nat), .int .i64 y.2.2.2, v4]] w (fun e w2 => ∃ mo ml mc, e = .returned (.tuple #[.slice mo ml mc, .int .i64 3]) ∧ R (.returned (.tuple #[.slice mo ml mc, .bool false])) w2)) :
    Calls Tryz.prog 20 #[.pointer (some ⟨q, 0, none⟩)] w R := by
  have hiv := inView_any w q n c4
  have e1 : decide (n ≠ 0) = true := by simp [hn0]
  rw [e1] at hiv
  have hL : (0 : Int) < ((L + 1 : Nat) : Int) := by omega
  clear e1 c4
  go_enter Tryz.func20, Tryz.ntmps20
  go_wp2_with fail
  refine hiv.mono ?_
  rintro e w1 ⟨rfl, rfl⟩
  clear hiv
  have hL1 : ¬ (((L + 1 : Nat) : Int) ≤ 0) := by omega
  generalize hM : L + 1 = M at *
  clear hM
  go_wp2_with (refine wpList_load_E rfl (.tmp 44) rfl bo off rfl y v4 d0 d1 d2 d3 d4 ?_)
  refine henc.mono ?_
  rintro e w3 ⟨mo, ml, mc, rfl, hR⟩
  have HR : Hid (R (.returned (.tuple #[.slice mo ml mc, .bool false])) w3) := hR
  clear henc hR
  go_wp2
  exact HR.out
theorem own_mono {w : World} {B B' : Nat} {e : TypeId} {sz n : Nat} {v : Value} {cs : List Value} (h : w.ownsRow B e sz v n cs) (hB : B' ≤ B) : w.ownsRow B' e sz v n cs := by
  refine ⟨h.1, ?_⟩
  rcases h.2 with h1 | ⟨g, cap, cur, h1, h2, h3⟩
  · exact .inl h1
  · exact .inr ⟨g, cap, cur, h1, Nat.le_trans hB h2, h3⟩
theorem nextT_any {w : World} {col : Nat → Nat} {Z : Nat → Prop} {q : Nat} {T : Tot} {a : Ta} (h : Tt w col Z q T a) (hK : T.K ≤ 100000) (hcl : T.con.length ≤ 5000) (hc : ∀ e ∈ T.con, OkL e.1 ∧ e.2.length ≤ 64) (hol : T.ord.length ≤ 5000) (ho : ∀ x ∈ T.ord, OkL x) (hh : T.hn < 18446744073709551616) (hb : ∀ e ∈ T.buf, OkL e.1) :
    Calls Tryz.prog 20 #[.pointer (some ⟨q, 0, none⟩)] w (NextPost w T.next) := by
  have c4 := h.cell 4 (by omega)
  have c7 := h.cell 7 (by omega)
  have c9 := h.cell 9 (by omega)
  simp only [tcell] at c4 c7 c9
  unfold Tot.next
  by_cases h0 : T.vn = 0
  · rw [if_pos h0]
    rw [h0] at c4
    refine (next_none w q c4).mono ?_
    rintro e w' ⟨rfl, rfl⟩
    exact ⟨Below.refl _ _, rfl⟩
  rw [if_neg h0]
  by_cases h1 : T.st = 0
  · rw [if_pos h1]
    rw [h1] at c7
    have hsum := summary_any h hK (fun e he => by have := (hc e he).2; omega) hol
    cases hR : rightS T.con T.ord T.nx T.hn T.hp with
    | false =>
      rw [if_neg (by simp)]
      refine next_send3 w q T.vn h0 c4 c7 _ (fun w1 v => SumPost w T.con T.ord T.nx T.hn T.hp (.returned v) w1) (hsum.mono ?_) ?_
      · rintro e w1 ⟨ca, cc, oa, oc, rfl, k1⟩
        exact ⟨_, rfl, ca, cc, oa, oc, rfl, k1⟩
      · rintro w1 v ⟨ca, cc, oa, oc, hv, k1, k2, k3, k4⟩
        cases hv
        refine (encodeAll_bad _ w1 ca _ cc T.con k1 (by omega) oa _ oc T.ord k2 hol (fun e => (k3.2.1 e).1) T.nx T.hn T.hp hR).mono ?_
        rintro e w2 ⟨rfl, u⟩
        exact ⟨none, 0, 0, rfl, bl_step k4 u, rfl⟩
    | true =>
      rw [if_pos rfl]
      obtain ⟨p1, p2, p3, p4, p5⟩ := right_parts hR (fun e he => ⟨(hc e he).1.1, (hc e he).1.2.2.1⟩) (fun x hx => ⟨(ho x hx).1, (ho x hx).2.2.1⟩)
      have hnx : T.nx = (T.nx.toNat : Nat) := by omega
      refine next_send0 w q T.vn h0 c4 c7 _ (fun w1 v => SumPost w T.con T.ord T.nx T.hn T.hp (.returned v) w1) (hsum.mono ?_) ?_
      · rintro e w1 ⟨ca, cc, oa, oc, rfl, k1⟩
        exact ⟨_, rfl, ca, cc, oa, oc, rfl, k1⟩
      · rintro w1 v ⟨ca, cc, oa, oc, hv, k1, k2, k3, k4⟩
        cases hv
        rw [hnx]
        refine (encodeAll_any _ w1 ca _ cc T.con k1 hcl oa _ oc T.ord k2 hol (fun e => (k3.2.1 e).1) T.nx.toNat T.hn T.hp (by rw [← hnx]; exact hR) (fun e he => p1 e he) (fun x hx => p2 x hx) (by omega) hh p5).mono ?_
        rintro e w2 ⟨v2, rfl, hv2, u⟩
        obtain ⟨so, sc, rfl, _, _⟩ := own_bytes hv2
        exact ⟨so, _, sc, rfl, bl_step k4 u, _, rfl, own_mono hv2 k4.size⟩
  rw [if_neg h1]
  by_cases h2 : T.st = 2
  · rw [if_pos h2]
    rw [h2] at c7
    obtain ⟨xs, x1, x2, x3⟩ := h.d.bu
    obtain ⟨bo, bc, hbv, _, _⟩ := x2.shape
    rw [hbv] at c9 x2
    cases hbu : T.buf with
    | nil =>
      rw [hbu] at c9
      refine (next_idle2 w q T.vn h0 c4 c7 bo bc c9).mono ?_
      rintro e w' ⟨rfl, rfl⟩
      exact ⟨Below.refl _ _, rfl⟩
    | cons y r =>
      rw [hbu] at c9 x1 x2 x3
      obtain ⟨z, zs, rfl⟩ : ∃ z zs, xs = z :: zs := by
        cases xs with
        | nil => simp at x1
        | cons z zs => exact ⟨z, zs, rfl⟩
      obtain ⟨m1, m2⟩ := x3 0 y z rfl rfl
      have hy := hb y (by rw [hbu]; simp)
      have hcell : ∀ i u, (cells5 z)[i]? = some u → ∃ b off, bo = some ⟨b, off, none⟩ ∧ w.cell? ⟨b, off + i, none⟩ = some u := fun i u hu => by
        have hu' : (flatE (z :: zs))[i]? = some u := by
          have hlt := (List.getElem?_eq_some_iff.1 hu).1
          rw [show flatE (z :: zs) = cells5 z ++ flatE zs by simp [flatE], List.getElem?_append_left hlt]
          exact hu
        obtain ⟨_, b, off, e1, _, e2⟩ := x2.cell hu'
        exact ⟨b, off, e1, e2⟩
      obtain ⟨zl, zo, zn, zc⟩ := z
      obtain ⟨b, off, rfl, d0⟩ := hcell 0 _ rfl
      have dd : ∀ i u, (cells5 (zl, zo, zn, zc))[i]? = some u → w.cell? ⟨b, off + i, none⟩ = some u := fun i u hu => by
        obtain ⟨b', off', e1, e2⟩ := hcell i u hu
        cases e1
        exact e2
      simp only at m1
      subst m1
      have d0' := dd 0 _ rfl
      have d1 := dd 1 _ rfl
      have d2 := dd 2 _ rfl
      have d3 := dd 3 _ rfl
      have d4 := dd 4 _ rfl
      show Calls Tryz.prog 20 #[.pointer (some ⟨q, 0, none⟩)] w (NextPost w (if formE y.1 y.2.length then some (1 :: encE y.1 y.2) else none))
      cases hf : formE y.1 y.2.length with
      | false =>
        rw [if_neg (by simp)]
        refine next_one3 w q T.vn h0 c4 c7 b off r.length bc c9 y.1 _ d0' d1 d2 d3 d4 _ ?_
        refine (encodeOne_bad w y.1 zo zn zc (by have e := m2.1.1; simp only at e; rw [← e]; exact hf)).mono ?_
        rintro e w2 ⟨rfl, u⟩
        exact ⟨none, 0, 0, rfl, u, rfl⟩
      | true =>
        rw [if_pos rfl]
        refine next_one0 w q T.vn h0 c4 c7 b off r.length bc c9 y.1 _ d0' d1 d2 d3 d4 _ ?_
        refine (encodeOne_any w y.1 hy.1 hy.2.2.1 zo zn zc y.2 m2.1 (by have e := m2.1.1; simp only at e; rw [← e]; exact hf)).mono ?_
        rintro e w2 ⟨v2, rfl, hv2, u⟩
        obtain ⟨so, sc, rfl, _, _⟩ := own_bytes hv2
        exact ⟨so, _, sc, rfl, u, _, rfl, hv2⟩
  · rw [if_neg h2]
    refine (next_idle1 w q T.vn h0 c4 T.st (by have : (T.st : Int) ≠ 0 := by omega
                                               simpa using this) (by have : (T.st : Int) ≠ 2 := by omega
                                                                     simpa using this) c7).mono ?_
    rintro e w' ⟨rfl, rfl⟩
    exact ⟨Below.refl _ _, rfl⟩
end Go.Proofs.YtlaihgdfedalmaaGreat
