/-
  By what is sorted, and what stays ahead of its like: plain facts on lists of states that bear where they stood.
-/
import Derived.Test.YtooeemhlpmiceaaTRot
namespace Go.Proofs.Ytooeemhlpmiceaa.T
open Go.RowKit Go.Sort
set_option linter.unusedVariables false
set_option linter.unusedSimpArgs false

def OkS (x : Sx) : Prop := True
def sta (x : Sx) : Value := .agg #[.int .u64 (x.1.1 : Nat), .int .i64 x.1.2.1, .int .u64 (x.1.2.2.1 : Nat), .int .i64 x.1.2.2.2, .slice x.2.1 x.2.2.1 x.2.2.2]
def cmpS (x y : Sx) : Int := cmpL x.1 y.1
def ltK (x y : Sx) : Prop := ltL x.1 y.1
theorem cmpS_lt (x y : Sx) : cmpS x y < 0 ↔ ltK x y := cmpL_lt x.1 y.1
theorem cmpS_any (w : World) (x y : Sx) (hx : OkS x) (hy : OkS y) : Calls Try.prog 44 #[sta x, sta y] w fun e w' => e = .returned (.int .i64 (cmpS x y)) ∧ Up w w' := compareE_any w x.1 y.1 (.slice x.2.1 x.2.2.1 x.2.2.2) (.slice y.2.1 y.2.2.1 y.2.2.2)
/-- Comes a state ahead of another one: by what is sorted, or told first. -/
def ltT (a b : Tg) : Prop := ltK a.1 b.1 ∨ (¬ ltK b.1 a.1 ∧ a.2 < b.2)
theorem ltT_trans {a b c : Tg} (h : ltT a b) (k : ltT b c) : ltT a c := by unfold ltT ltK ltL at *; omega
theorem ltT_tri {a b : Tg} (hne : a.2 ≠ b.2) (h : ¬ ltT a b) : ltT b a := by unfold ltT ltK ltL at *; omega
theorem ltT_irr (a : Tg) : ¬ ltT a a := by unfold ltT ltK ltL; omega
theorem ltT_of {a b : Tg} (h : a.2 < b.2) : cmpS b.1 a.1 < 0 ↔ ltT b a := by rw [cmpS_lt]; unfold ltT ltK ltL; omega
def Asc (l : List Tg) : Prop := l.Pairwise ltT
def Tags (l : List Tg) : Prop := l.Pairwise (fun a b => a.2 < b.2)
def OkT (l : List Tg) : Prop := ∀ x ∈ l, OkS x.1
def fv31 : Value := .func (.func 44) #[] #[]

/-- Two states' cells. -/
def Two (g i j : Nat) (x y : Tg) (wx : World) : Prop :=
  (wx.cell? ⟨g, i * 5, none⟩ = some (.int .u64 (x.1.1.1 : Nat)) ∧ wx.cell? ⟨g, i * 5 + 1, none⟩ = some (.int .i64 x.1.1.2.1) ∧ wx.cell? ⟨g, i * 5 + 2, none⟩ = some (.int .u64 (x.1.1.2.2.1 : Nat)) ∧ wx.cell? ⟨g, i * 5 + 3, none⟩ = some (.int .i64 x.1.1.2.2.2) ∧ wx.cell? ⟨g, i * 5 + 4, none⟩ = some (.slice x.1.2.1 x.1.2.2.1 x.1.2.2.2)) ∧
  (wx.cell? ⟨g, j * 5, none⟩ = some (.int .u64 (y.1.1.1 : Nat)) ∧ wx.cell? ⟨g, j * 5 + 1, none⟩ = some (.int .i64 y.1.1.2.1) ∧ wx.cell? ⟨g, j * 5 + 2, none⟩ = some (.int .u64 (y.1.1.2.2.1 : Nat)) ∧ wx.cell? ⟨g, j * 5 + 3, none⟩ = some (.int .i64 y.1.1.2.2.2) ∧ wx.cell? ⟨g, j * 5 + 4, none⟩ = some (.slice y.1.2.1 y.1.2.2.1 y.1.2.2.2))
theorem Two.up {g i j : Nat} {x y : Tg} {w w' : World} (h : Two g i j x y w) (u : Up w w') : Two g i j x y w' := by
  obtain ⟨⟨h1, h2, h3, h4, h9⟩, h5, h6, h7, h8, h10⟩ := h
  exact ⟨⟨u.cell h1, u.cell h2, u.cell h3, u.cell h4, u.cell h9⟩, u.cell h5, u.cell h6, u.cell h7, u.cell h8, u.cell h10⟩
theorem BlkT.up {w w' : World} {g cap : Nat} {l : List Tg} (h : BlkT w g cap l) (u : Up w w') : BlkT w' g cap l := Blk.up h u.bl

theorem asc_ins {P1 P2 : List Tg} {x : Tg} (h : Asc (P1 ++ P2)) (h2 : ∀ y ∈ P2, ltT x y) (h1 : ∀ y ∈ P1, ltT y x) : Asc (P1 ++ x :: P2) := by
  unfold Asc at *
  rw [List.pairwise_append] at h ⊢
  obtain ⟨a, b, c⟩ := h
  refine ⟨a, List.pairwise_cons.2 ⟨h2, b⟩, fun u hu v hv => ?_⟩
  rw [List.mem_cons] at hv
  rcases hv with rfl | hv
  · exact h1 u hu
  · exact c u hu v hv

theorem BlkT.at {w : World} {g cap j : Nat} {l : List Tg} {y : Tg} (h : BlkT w g cap l) (hj : l[j]? = some y) :
    w.cell? ⟨g, j * 5, none⟩ = some (.int .u64 (y.1.1.1 : Nat)) ∧ w.cell? ⟨g, j * 5 + 1, none⟩ = some (.int .i64 y.1.1.2.1) ∧ w.cell? ⟨g, j * 5 + 2, none⟩ = some (.int .u64 (y.1.1.2.2.1 : Nat)) ∧ w.cell? ⟨g, j * 5 + 3, none⟩ = some (.int .i64 y.1.1.2.2.2) ∧ w.cell? ⟨g, j * 5 + 4, none⟩ = some (.slice y.1.2.1 y.1.2.2.1 y.1.2.2.2) := by
  refine Blk.cell h (x := y.1) ?_
  rw [List.getElem?_map, hj]
  rfl
theorem BlkT.two {w : World} {g cap i j : Nat} {l : List Tg} {x y : Tg} (h : BlkT w g cap l) (hi : l[i]? = some x) (hj : l[j]? = some y) : Two g i j x y w := ⟨h.at hi, h.at hj⟩

theorem asc_get {l : List Tg} (h : Asc l) {i j : Nat} {x y : Tg} (hi : l[i]? = some x) (hj : l[j]? = some y) (hij : i < j) : ltT x y := by
  obtain ⟨h1, rfl⟩ := List.getElem?_eq_some_iff.1 hi
  obtain ⟨h2, rfl⟩ := List.getElem?_eq_some_iff.1 hj
  exact (List.pairwise_iff_getElem.1 h) i j h1 h2 hij
theorem asc_le {l : List Tg} (h : Asc l) {i j : Nat} {x y : Tg} (hi : l[i]? = some x) (hj : l[j]? = some y) (hij : i ≤ j) : x = y ∨ ltT x y := by
  by_cases e : i = j
  · subst e; rw [hi] at hj; exact .inl (by simpa using hj)
  · exact .inr (asc_get h hi hj (by omega))
theorem mem_take_get {l : List Tg} {k : Nat} {x : Tg} (h : x ∈ l.take k) : ∃ i, i < k ∧ l[i]? = some x := by
  obtain ⟨i, hi, rfl⟩ := List.mem_iff_getElem.1 h
  rw [List.length_take] at hi
  exact ⟨i, by omega, by rw [List.getElem_take]; exact List.getElem?_eq_getElem (by omega)⟩
theorem mem_drop_get {l : List Tg} {k : Nat} {x : Tg} (h : x ∈ l.drop k) : ∃ i, k ≤ i ∧ l[i]? = some x := by
  obtain ⟨i, hi, rfl⟩ := List.mem_iff_getElem.1 h
  rw [List.length_drop] at hi
  exact ⟨k + i, by omega, by rw [List.getElem_drop]; exact List.getElem?_eq_getElem (by omega)⟩
theorem lt_le {a b c : Tg} (h : ltT a b) (k : b = c ∨ ltT b c) : ltT a c := by rcases k with rfl | k; exact h; exact ltT_trans h k
theorem le_lt {a b c : Tg} (h : a = b ∨ ltT a b) (k : ltT b c) : ltT a c := by rcases h with rfl | h; exact k; exact ltT_trans h k
/-- Behind the turn each of the first half is ahead of each of the second one. -/
theorem sm_split {L R : List Tg} (hL : Asc L) (hR : Asc R) (k1 k2 : Nat) (h1 : k1 = 0 ∨ k2 = R.length ∨ ∃ x y, L[k1 - 1]? = some x ∧ R[k2]? = some y ∧ ltT x y)
    (h2 : k1 = L.length ∨ k2 = 0 ∨ ∃ x y, L[k1]? = some x ∧ R[k2 - 1]? = some y ∧ ltT y x) : ∀ x ∈ L.take k1 ++ R.take k2, ∀ y ∈ L.drop k1 ++ R.drop k2, ltT x y := by
  intro x hx y hy
  rw [List.mem_append] at hx hy
  rcases hx with hx | hx <;> rcases hy with hy | hy <;> obtain ⟨i, hi, ei⟩ := mem_take_get hx <;> obtain ⟨j, hj, ej⟩ := mem_drop_get hy
  · exact asc_get hL ei ej (by omega)
  · have hjl := (List.getElem?_eq_some_iff.1 ej).1
    rcases h1 with h | h | ⟨u, v, hu, hv, huv⟩
    · omega
    · omega
    · exact le_lt (asc_le hL ei hu (by omega)) (lt_le huv (asc_le hR hv ej hj))
  · have hjl := (List.getElem?_eq_some_iff.1 ej).1
    rcases h2 with h | h | ⟨u, v, hu, hv, huv⟩
    · omega
    · omega
    · exact le_lt (asc_le hR ei hv (by omega)) (lt_le huv (asc_le hL hu ej hj))
  · exact asc_get hR ei ej (by omega)
theorem asc_app {A B : List Tg} (ha : Asc A) (hb : Asc B) (h : ∀ x ∈ A, ∀ y ∈ B, ltT x y) : Asc (A ++ B) := List.pairwise_append.2 ⟨ha, hb, h⟩
theorem asc_take {A : List Tg} (h : Asc A) (k : Nat) : Asc (A.take k) := List.Pairwise.sublist (List.take_sublist k A) h
theorem asc_drop {A : List Tg} (h : Asc A) (k : Nat) : Asc (A.drop k) := List.Pairwise.sublist (List.drop_sublist k A) h
/-- One put among others: where. -/
theorem asc_put {R : List Tg} {x : Tg} (hR : Asc R) (k : Nat) (h1 : k = 0 ∨ ∃ y, R[k - 1]? = some y ∧ ltT y x) (h2 : k = R.length ∨ ∃ y, R[k]? = some y ∧ ltT x y) : Asc (R.take k ++ x :: R.drop k) := by
  refine asc_ins (by rw [List.take_append_drop]; exact hR) (fun y hy => ?_) (fun y hy => ?_)
  · obtain ⟨j, hj, ej⟩ := mem_drop_get hy
    have hjl := (List.getElem?_eq_some_iff.1 ej).1
    rcases h2 with h | ⟨u, hu, huv⟩
    · omega
    · exact lt_le huv (asc_le hR hu ej hj)
  · obtain ⟨i, hi, ei⟩ := mem_take_get hy
    rcases h1 with h | ⟨u, hu, huv⟩
    · omega
    · exact le_lt (asc_le hR ei hu (by omega)) huv

/-- Sorted stretches of k, the last one maybe shorter, those that stood ahead ahead. -/
inductive Ch (k : Nat) : List Tg → Prop
  | last (c : List Tg) : Asc c → c.length ≤ k → Ch k c
  | cons (c r : List Tg) : Asc c → c.length = k → (∀ x ∈ c, ∀ y ∈ r, x.2 < y.2) → Ch k r → Ch k (c ++ r)
def App (k : Nat) (F : List Tg) : Prop := ∀ T, (∀ x ∈ F, ∀ y ∈ T, x.2 < y.2) → Ch k T → Ch k (F ++ T)
theorem App.nil (k : Nat) : App k [] := fun T _ h => by simpa using h
theorem App.snoc {k : Nat} {F M : List Tg} (h : App k F) (hF : ∀ x ∈ F, ∀ y ∈ M, x.2 < y.2) (hM : Asc M) (hl : M.length = k) : App k (F ++ M) := fun T hT hc => by
  rw [List.append_assoc]
  refine h _ (fun x hx y hy => ?_) (Ch.cons M T hM hl (fun x hx y hy => hT x (by simp [hx]) y hy) hc)
  rw [List.mem_append] at hy
  rcases hy with hy | hy
  · exact hF x hx y hy
  · exact hT x (by simp [hx]) y hy
theorem Ch.two {k : Nat} {T : List Tg} (h : Ch k T) (hl : k < T.length) : ∃ c r, T = c ++ r ∧ Asc c ∧ c.length = k ∧ (∀ x ∈ c, ∀ y ∈ r, x.2 < y.2) ∧ Ch k r := by
  cases h with
  | last _ h1 h2 => omega
  | cons c r h1 h2 h3 h4 => exact ⟨c, r, rfl, h1, h2, h3, h4⟩
theorem Ch.one {k : Nat} {T : List Tg} (h : Ch k T) (hl : T.length ≤ k) : Asc T := by
  cases h with
  | last _ h1 h2 => exact h1
  | cons c r h1 h2 h3 h4 =>
    have : r = [] := List.length_eq_zero_iff.1 (by rw [List.length_append] at hl; omega)
    subst this; simpa using h1
/-- The first stretch, whole. -/
theorem Ch.first {k : Nat} {T : List Tg} (h : Ch k T) (hl : k ≤ T.length) : ∃ c r, T = c ++ r ∧ Asc c ∧ c.length = k ∧ (∀ x ∈ c, ∀ y ∈ r, x.2 < y.2) ∧ Ch k r := by
  cases h with
  | last _ h1 h2 => exact ⟨T, [], by simp, h1, by omega, by simp, Ch.last [] (by unfold Asc; simp) (by simp)⟩
  | cons c r h1 h2 h3 h4 => exact ⟨c, r, rfl, h1, h2, h3, h4⟩
end Go.Proofs.Ytooeemhlpmiceaa.T
