/-
  Stays that lie in a list; have all one set?
-/
import Derived.Test.YthnbijnpbjfoaaaJStays
namespace Go.Proofs.Ythnbijnpbjfoaaa
open Go.RowKit Go.Sort
set_option linter.unusedVariables false

/-- Pointers in memory. -/
def PtR (w : World) (ao : Option Addr) (n : Nat) (qs : List Nat) : Prop :=
  qs.length = n ∧ n ≤ 1000000 ∧ (ao = none → n = 0) ∧ (0 < n → ∃ b off, ao = some ⟨b, off, none⟩ ∧ ∀ j q, qs[j]? = some q → w.cell? ⟨b, off + j, none⟩ = some (ptr q))
theorem PtR.up {w w' : World} {ao : Option Addr} {n : Nat} {qs : List Nat} (h : PtR w ao n qs) (u : Below w.heap.size w w') : PtR w' ao n qs := by
  obtain ⟨h1, h2, h3, h4⟩ := h
  refine ⟨h1, h2, h3, fun h0 => ?_⟩
  obtain ⟨b, off, e, hc⟩ := h4 h0
  exact ⟨b, off, e, fun j q hj => bl_cell u (hc j q hj)⟩
/-- Stays in memory, that nobody writes to. -/
def Gr (w : World) (ao : Option Addr) (n : Nat) (ys : List Sy) : Prop :=
  ∃ qs, PtR w ao n qs ∧ ys.length = n ∧ ∀ (j : Nat) q y, qs[j]? = some q → ys[j]? = some y → Fin (fun _ => True) w q y
theorem Gr.up {w w' : World} {ao : Option Addr} {n : Nat} {ys : List Sy} (h : Gr w ao n ys) (u : Below w.heap.size w w') : Gr w' ao n ys := by
  obtain ⟨qs, h1, h2, h3⟩ := h
  exact ⟨qs, h1.up u, h2, fun j q y hq hy => (h3 j q y hq hy).up u⟩
theorem Gr.len {w : World} {ao : Option Addr} {n : Nat} {ys : List Sy} (h : Gr w ao n ys) : ys.length = n := by obtain ⟨_, _, h2, _⟩ := h; exact h2
theorem Gr.le {w : World} {ao : Option Addr} {n : Nat} {ys : List Sy} (h : Gr w ao n ys) : n ≤ 1000000 := by obtain ⟨_, h1, _⟩ := h; exact h1.2.1
theorem Gr.at {w : World} {ao : Option Addr} {n : Nat} {ys : List Sy} (h : Gr w ao n ys) {k : Nat} {y : Sy} (hy : ys[k]? = some y) :
    ∃ b off q, ∃ rs rg : Sr, ao = some ⟨b, off, none⟩ ∧ w.cell? ⟨b, off + k, none⟩ = some (.pointer (some ⟨q, 0, none⟩)) ∧ Y9 w q y rs rg ∧ Bs w rs.1 rs.2.1 y.sent ∧ Its (fun _ => True) w rg.1 rg.2.1 y.got ∧ Cp rs ∧ Cp rg := by
  obtain ⟨qs, h1, h2, h3⟩ := h
  have hk := (List.getElem?_eq_some_iff.1 hy).1
  obtain ⟨l1, _, _, l4⟩ := h1
  obtain ⟨b, off, e, hc⟩ := l4 (by omega)
  have hq : qs[k]? = some (qs[k]'(by omega)) := List.getElem?_eq_getElem (by omega)
  obtain ⟨rs, rg, _, y9, c1, c2, bs, it⟩ := h3 k _ y hq hy
  exact ⟨b, off, _, rs, rg, e, hc k _ hq, y9, bs.bs, it, c1, c2⟩

/-- Have all of them one set? -/
def oneSetD (ys : List Sy) : Bool := ys.all (fun y => decide (y.s = (ys[0]?.map (·.s)).getD 0))
def S3 (q q0 : Nat) (b off : Nat) (s s0 : Nat) (w : World) : Prop := w.cell? ⟨q, 3, none⟩ = some (.int .u16 (s : Nat)) ∧ w.cell? ⟨b, off, none⟩ = some (.pointer (some ⟨q0, 0, none⟩)) ∧ w.cell? ⟨q0, 3, none⟩ = some (.int .u16 (s0 : Nat))
theorem S3.up {q q0 b off s s0 : Nat} {w w' : World} (h : S3 q q0 b off s s0 w) (u : Below w.heap.size w w') : S3 q q0 b off s s0 w' := ⟨bl_cell u h.1, bl_cell u h.2.1, bl_cell u h.2.2⟩
set_option maxRecDepth 10000 in
set_option maxHeartbeats 1000000 in
theorem oneSet_any (w : World) (ao : Option Addr) (n cap : Nat) (ys : List Sy) (h : Gr w ao n ys) :
    Calls Try.prog 43 #[.slice ao n cap] w fun e w' => e = .returned (.bool (oneSetD ys)) ∧ Up w w' := by
  have hl := h.len
  have hn := h.le
  have HI : Hid (Gr w ao n ys) := h
  obtain ⟨s0, hs0⟩ : ∃ s0, (ys[0]?.map (·.s)).getD 0 = s0 := ⟨_, rfl⟩
  have HS0 : Hid ((ys[0]?.map (·.s)).getD 0 = s0) := hs0
  obtain ⟨res, hres⟩ : ∃ res, oneSetD ys = res := ⟨_, rfl⟩
  have HR : Hid (oneSetD ys = res) := hres
  rw [hres]
  clear h hs0 hres
  go_enter Try.func43, Try.ntmps43
  go_wp2_with fail
  go_loopw [4, 7] (fun _ iv wr => ∃ k : Nat, k ≤ n ∧ iv = .int .i64 (k : Nat) ∧ (∀ j y, j < k → ys[j]? = some y → y.s = s0) ∧ Up w wr) (fun _ iv _ => n - (intOf iv).toNat)
  case atStart => exact ⟨0, by omega, rfl, fun j y hj => by omega, Up.refl _⟩
  case round =>
    obtain ⟨k, hk, rfl, hno, hu⟩ := hrel
    have HN : Hid (∀ j y, j < k → ys[j]? = some y → y.s = s0) := hno
    clear hno
    by_cases hlt : k < n
    · have hltI : (k : Int) < (n : Int) := by omega
      have hk0 : ¬ ((k : Int) < 0) := by omega
      have hn0 : (0 : Int) < (n : Int) := by omega
      have hn0' : 0 < n := by omega
      obtain ⟨y, hy⟩ : ∃ y, ys[k]? = some y := ⟨ys[k]'(by omega), List.getElem?_eq_getElem (by omega)⟩
      obtain ⟨y0, hy0⟩ : ∃ y, ys[0]? = some y := ⟨ys[0]'(by omega), List.getElem?_eq_getElem (by omega)⟩
      obtain ⟨b, off, q, _, _, hao, c0, y9, _⟩ := (HI.out.up hu.bl).at hy
      obtain ⟨b', off', q0, _, _, hao', d0, z9, _⟩ := (HI.out.up hu.bl).at hy0
      have hbo : b' = b ∧ off' = off := by rw [hao] at hao'; simp at hao'; exact ⟨hao'.1.symm, hao'.2.symm⟩
      obtain ⟨rfl, rfl⟩ := hbo
      subst hao
      have es0 : y0.s = s0 := by rw [← HS0.out, hy0]; rfl
      have s3 : S3 q q0 b' off' y.s s0 wr := ⟨y9.2.2.2.1, d0, by rw [← es0]; exact z9.2.2.2.1⟩
      have sd := s3.up ((Up.refl wr).drew).bl
      obtain ⟨s, hs⟩ : ∃ s, y.s = s := ⟨_, rfl⟩
      have HY : Hid (ys[k]? = some y ∧ y.s = s) := ⟨hy, hs⟩
      rw [hs] at sd
      clear hy hy0 y9 z9 d0 hao' es0 s3 hs
      by_cases hss : s = s0
      · subst hss
        have HN' : Hid (∀ j y, j < k + 1 → ys[j]? = some y → y.s = s) := fun j z hj hz => by
          by_cases e : j = k
          · subst e; rw [HY.out.1] at hz; cases hz; exact HY.out.2
          · exact HN.out j z (by omega) hz
        go_wp2_with fail
        refine wp_region_noPanic ?_
        refine wp_region_held_drew (S := S3 q q0 b' off' s s) (by kernel_rfl) (sd) (fun hHeld => ?_)
        unfold S3 at hHeld
        refine tq 0 ?_
        refine tq 1 ?_
        refine tq 2 ?_
        refine tq 3 ?_
        refine tq 4 ?_
        refine tq 5 ?_
        refine tq 6 ?_
        refine tq 7 ?_
        refine tq 8 ?_
        refine tq 9 ?_
        refine tq 10 ?_
        refine tq 11 ?_
        refine tq 12 ?_
        refine wpAnyH_done (by kernel_rfl) ?_ _
        refine NoPanic.normal ?_
        go_wp2
        go_roundw
        case rel => exact ⟨k + 1, by omega, by go_num, HN'.out, hu.drew⟩
        case measure => simp [intOf]; omega
      · have hsn : ((s : Int) != (s0 : Int)) = true := by simp; omega
        have HE : Hid (false = res) := by
          show false = res
          rw [← HR.out]
          symm
          unfold oneSetD
          rw [List.all_eq_false]
          refine ⟨y, List.mem_of_getElem? HY.out.1, ?_⟩
          rw [HS0.out, HY.out.2]
          simpa using hss
        go_wp2_with fail
        refine wp_region_noPanic ?_
        refine wp_region_held_drew (S := S3 q q0 b' off' s s0) (by kernel_rfl) (sd) (fun hHeld => ?_)
        unfold S3 at hHeld
        refine tq 0 ?_
        refine tq 1 ?_
        refine tq 2 ?_
        refine tq 3 ?_
        refine tq 4 ?_
        refine tq 5 ?_
        refine tq 6 ?_
        refine tq 7 ?_
        refine tq 8 ?_
        refine tq 9 ?_
        refine tq 10 ?_
        refine tq 11 ?_
        refine tq 12 ?_
        refine wpAnyH_done (by kernel_rfl) ?_ _
        refine NoPanic.normal ?_
        go_wp2
        go_ret
        exact ⟨ret_bool HE.out, hu.drew⟩
    · obtain rfl : k = n := by omega
      have HE : Hid (true = res) := by
        show true = res
        rw [← HR.out]
        symm
        unfold oneSetD
        rw [List.all_eq_true]
        intro y hy
        obtain ⟨j, hj, e⟩ := List.mem_iff_getElem.1 hy
        have := HN.out j y (by omega) (by rw [List.getElem?_eq_getElem hj, e])
        rw [HS0.out]
        simpa using this
      go_wp2
      go_ret
      exact ⟨ret_bool HE.out, hu⟩
end Go.Proofs.Ythnbijnpbjfoaaa
