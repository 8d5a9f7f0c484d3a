/-
  Views: what holds between two rounds, and the groups of the sorted stays.
-/
import Derived.Test.YthnbijnpbjfoaaaJViews0
namespace Go.Proofs.Ythnbijnpbjfoaaa
open Go.RowKit Go.Sort
set_option linter.unusedVariables false

/-- The traces, one for each node, in memory. -/
def Evs (pE : Nat → Prop) (w : World) (ao : Option Addr) (n : Nat) (ess : List (List Ev)) : Prop := Lr (fun w r x => EvR pE w r.1 r.2.1 x) w ao n ess
/-- All stays of the first k nodes. -/
def AllD (ess : List (List Ev)) (k : Nat) (all : List Sy) : Prop := ∃ yss : List (List Sy), yss.length = k ∧ all = yss.flatten ∧ ∀ i ys es, yss[i]? = some ys → ess[i]? = some es → staysD i es = some ys
theorem AllD.snoc {ess : List (List Ev)} {k : Nat} {all ys : List Sy} {es : List Ev} (h : AllD ess k all) (he : ess[k]? = some es) (hs : staysD k es = some ys) : AllD ess (k + 1) (all ++ ys) := by
  obtain ⟨yss, h1, h2, h3⟩ := h
  refine ⟨yss ++ [ys], by simp [h1], by simp [h2], fun i zs fs hz hf => ?_⟩
  by_cases hi : i < k
  · rw [List.getElem?_append_left (by omega)] at hz
    exact h3 i zs fs hz hf
  · have := (List.getElem?_eq_some_iff.1 hz).1
    simp [h1] at this
    obtain rfl : i = k := by omega
    rw [List.getElem?_append_right (by omega), h1] at hz
    simp at hz
    subst hz
    rw [he] at hf
    cases hf
    exact hs
structure VI (w wr : World) (ess : List (List Ev)) (k : Nat) (all : List Sy) (qs : List Nat) (r : Sr) : Prop where
  row : wr.ownsRow w.heap.size 59 1 (slv r) all.length (qs.map ptr)
  len : qs.length = all.length
  fin : ∀ (j : Nat) q y, qs[j]? = some q → all[j]? = some y → Fin (fun b => (slv r).ownBlock ≠ some b) wr q y
  bl : Below w.heap.size w wr
  isAll : AllD ess k all
  bd : all.length ≤ ((ess.take k).map List.length).sum
  fact : ∀ y ∈ all, y.node < 16 ∧ y.s < 65536 ∧ y.safe ≤ 9000
  nil : all.length = 0 → r = (none, 0, 0)
theorem VI.start (w wr : World) (ess : List (List Ev)) (h : Below w.heap.size w wr) : VI w wr ess 0 [] [] (none, 0, 0) :=
  ⟨⟨rfl, .inl ⟨rfl, rfl⟩⟩, rfl, fun j q y hq => by simp at hq, h, ⟨[], rfl, rfl, fun i ys es hy => by simp at hy⟩, Nat.zero_le _, fun y hy => by simp at hy, fun _ => rfl⟩
theorem VI.step {w wr w3 w4 : World} {ess : List (List Ev)} {k : Nat} {all ys : List Sy} {qs qs2 : List Nat} {r r2 : Sr} {es : List Ev} {v' : Value} (h : VI w wr ess k all qs r) (he : ess[k]? = some es) (hok : ∀ e ∈ es, EvOk e) (h9 : es.length ≤ 9000)
    (hs : staysD k es = some ys) (hb : Below wr.heap.size wr w3) (hown2 : w3.ownsRow wr.heap.size 59 1 (slv r2) ys.length (qs2.map ptr)) (hql2 : qs2.length = ys.length)
    (hf2 : ∀ (j : Nat) q y, qs2[j]? = some q → ys[j]? = some y → Fin (fun b => (b < w.heap.size ∨ wr.heap.size ≤ b) ∧ (slv r2).ownBlock ≠ some b) w3 q y)
    (hown : w4.ownsRow w.heap.size 59 1 v' (all.length + ys.length) (qs.map ptr ++ qs2.map ptr)) (hg : w3.grownBy w4 (slv r).ownBlock) (hn : v' = .slice none 0 0 ↔ slv r = .slice none 0 0 ∧ ys.length = 0) (hat : v'.ownBlock = (slv r).ownBlock ∨ v'.ownBlock = some w3.heap.size) :
    ∃ r', v' = slv r' ∧ VI w w4 ess (k + 1) (all ++ ys) (qs ++ qs2) r' := by
  obtain ⟨r', rfl, hr'⟩ := own_row1 hown
  have hat : (slv r').ownBlock = (slv r).ownBlock ∨ (slv r').ownBlock = some w3.heap.size := hat
  obtain ⟨y1, y2⟩ := staysD_P hok hs
  have hold : ∀ b, (slv r).ownBlock = some b → w.heap.size ≤ b ∧ b < wr.heap.size := fun b e => ⟨(own_blk h.row e).1, (own_blk h.row e).2.1⟩
  have hkp : Kp (fun b => (slv r).ownBlock ≠ some b) w3 w4 := fun ad v hb' hc => hg.cell hc (by first | exact hb' | exact Ne.symm hb')
  have himp : ∀ b, b < w3.heap.size → (slv r).ownBlock ≠ some b → (slv r').ownBlock ≠ some b := fun b hb' hne e => by
    rcases hat with e' | e'
    · exact hne (by rw [← e', e])
    · rw [e'] at e; simp at e; omega
  have hup : ∀ {q y}, Fin (fun b => (slv r).ownBlock ≠ some b) w3 q y → Fin (fun b => (slv r').ownBlock ≠ some b) w4 q y := fun {q y} hf => by
    have h1 : Fin (fun b => (slv r).ownBlock ≠ some b ∧ (slv r').ownBlock ≠ some b) w3 q y := hf.imp (fun b hb' hne => ⟨hne, himp b hb' hne⟩)
    exact (h1.keep (fun ad v hb' hc => hkp ad v hb'.1 hc)).imp (fun b _ h => h.2)
  refine ⟨r', rfl, ⟨by rw [List.length_append, List.map_append]; exact hown, by simp [h.len, hql2], fun j q y hq hy => ?_, ?_, h.isAll.snoc he hs, ?_, fun y hy => ?_, fun h0 => ?_⟩⟩
  · by_cases hj : j < all.length
    · rw [List.getElem?_append_left (by rw [h.len]; exact hj)] at hq
      rw [List.getElem?_append_left hj] at hy
      exact hup ((h.fin j q y hq hy).up hb)
    · rw [List.getElem?_append_right (by rw [h.len]; omega), h.len] at hq
      rw [List.getElem?_append_right (by omega)] at hy
      exact hup ((hf2 _ q y hq hy).imp (fun b hb' hp e => by
        have := hold b e
        rcases hp.1 with h1 | h1 <;> omega))
  · exact bl_grown (bl_step h.bl hb) (Nat.le_trans h.bl.size hb.size) hg (fun b e => (hold b e).1)
  · have hk := (List.getElem?_eq_some_iff.1 he).1
    have hek : ess.take (k + 1) = ess.take k ++ [es] := by rw [List.take_add_one, he]; rfl
    rw [hek]
    simp only [List.map_append, List.map_cons, List.map_nil, List.sum_append, List.sum_cons, List.sum_nil, List.length_append]
    have := h.bd
    omega
  · rw [List.mem_append] at hy
    rcases hy with hy | hy
    · exact h.fact y hy
    · obtain ⟨_, a, b, c⟩ := y2 y hy
      exact ⟨a, b, by omega⟩
  · simp only [List.length_append] at h0
    have e1 := h.nil (by omega)
    have e2 := hn.2 ⟨by rw [e1]; rfl, by omega⟩
    obtain ⟨ra, rn, rc⟩ := r'
    simp only [Value.slice.injEq] at e2
    obtain ⟨rfl, rfl, rfl⟩ := e2
    rfl

def kyOf (x : Nat × Sy) : Ky := (x.1, x.2.n, x.2.p)
theorem VI.keys {w wr : World} {ess : List (List Ev)} {k : Nat} {all : List Sy} {qs : List Nat} {r : Sr} (h : VI w wr ess k all qs r) {g : Nat} (hr : (slv r).ownBlock = some g) :
    (∀ x ∈ (qs.zip all).map kyOf, KeyAt wr g x) ∧ ((qs.zip all).map kyOf).length = all.length ∧ ((qs.zip all).map kyOf).map (fun x => ptr x.1) = qs.map ptr := by
  refine ⟨fun x hx => ?_, by simp [h.len], ?_⟩
  · obtain ⟨⟨q, y⟩, hm, rfl⟩ := List.mem_map.1 hx
    obtain ⟨j, hj⟩ := List.getElem?_of_mem hm
    rw [List.getElem?_zip_eq_some] at hj
    obtain ⟨rs, rg, h0, h1, _⟩ := h.fin j q y hj.1 hj.2
    exact ⟨fun e => h0 (by rw [hr]; exact congrArg some (by simpa [kyOf] using e.symm)), h1.2.1, h1.2.2.1⟩
  · have h1 : (qs.zip all).map Prod.fst = qs := List.map_fst_zip (by rw [h.len]; exact Nat.le_refl _)
    have h2 : (((qs.zip all).map kyOf).map fun x => ptr x.1) = ((qs.zip all).map Prod.fst).map ptr := by
      rw [List.map_map, List.map_map]; rfl
    rw [h2, h1]
theorem VI.srt {w wr w5 : World} {ess : List (List Ev)} {k cap : Nat} {all : List Sy} {qs : List Nat} {r : Sr} (h : VI w wr ess k all qs r) {g : Nat} (hr : (slv r).ownBlock = some g) (hN : all.length ≤ 9000) {xs' : List Ky} (hp : xs'.Perm ((qs.zip all).map kyOf)) (hpw : xs'.Pairwise (fun x y => ¬ ltV y.2.1 y.2.2 x.2.1 x.2.2))
    (hown : w5.ownsRow w.heap.size 59 1 (.slice (some ⟨g, 0, none⟩) all.length cap) all.length (xs'.map fun x => ptr x.1)) (hg : wr.grownBy w5 (some g)) :
    ∃ srt : List Sy, srt.Perm all ∧ srt.Pairwise (fun x y => ¬ ltV y.n y.p x.n x.p) ∧ Gr w5 (some ⟨g, 0, none⟩) all.length srt := by
  obtain ⟨ps, hps, rfl⟩ := perm_pre hp _ rfl
  have hpl : ps.length = all.length := by rw [hps.length_eq]; simp [h.len]
  refine ⟨ps.map Prod.snd, ?_, ?_, ps.map Prod.fst, ⟨by simp [hpl], by omega, fun e => (by cases e), fun _ => ⟨g, 0, rfl, fun j q hj => ?_⟩⟩, by simp [hpl], fun j q y hq hy => ?_⟩
  · have := hps.map Prod.snd
    rwa [List.map_snd_zip (by rw [h.len]; exact Nat.le_refl _)] at this
  · rw [List.pairwise_map] at hpw ⊢
    exact hpw
  · rw [Nat.zero_add]
    refine own_cell hown j _ ?_
    rw [List.getElem?_map, List.getElem?_map]
    rw [List.getElem?_map] at hj
    obtain ⟨x, hx, rfl⟩ := Option.map_eq_some_iff.1 hj
    rw [hx]
    rfl
  · rw [List.getElem?_map] at hq hy
    obtain ⟨x, hx, rfl⟩ := Option.map_eq_some_iff.1 hq
    rw [hx] at hy
    simp at hy
    subst hy
    obtain ⟨i, hi⟩ := List.getElem?_of_mem (hps.mem_iff.1 (List.mem_of_getElem? hx))
    rw [List.getElem?_zip_eq_some] at hi
    have hf := h.fin i x.1 x.2 hi.1 hi.2
    rw [hr] at hf
    exact (hf.keep (Kp.grown hg (fun b hb e => hb (by rw [e])))).imp (fun _ _ _ => trivial)

def Bnd (srt : List Sy) (i : Nat) : Prop := ∀ a b, 0 < i → srt[i - 1]? = some a → srt[i]? = some b → ¬ sameId b a
/-- All groups that begin ahead of place i agree. -/
def DoneTo (srt : List Sy) (i : Nat) : Prop := ∀ j, j < i → ∀ m y0, srt[j]? = some y0 → Bnd srt j → FirstN (srt.drop j) y0 m → AgreeOk ((srt.drop j).take m)
theorem FirstN.same {srt : List Sy} {i m : Nat} {y0 : Sy} (h : FirstN (srt.drop i) y0 m) {j : Nat} {y : Sy} (hj : i ≤ j) (hjm : j < i + m) (hy : srt[j]? = some y) : sameId y y0 := by
  refine h.2.2.1 (j - i) y (by omega) ?_
  rw [List.getElem?_drop, show i + (j - i) = j by omega]
  exact hy
theorem FirstN.uniq {ys : List Sy} {y0 : Sy} {m m' : Nat} (h : FirstN ys y0 m) (h' : FirstN ys y0 m') : m = m' := by
  have key : ∀ {a b : Nat}, FirstN ys y0 a → FirstN ys y0 b → ¬ a < b := fun {a b} ha hb hab => by
    have hl : a < ys.length := by have := hb.2.1; omega
    exact ha.2.2.2 _ (List.getElem?_eq_getElem hl) (hb.2.2.1 a _ hab (List.getElem?_eq_getElem hl))
  have := key h h'
  have := key h' h
  omega
theorem grp_next {srt : List Sy} {i m : Nat} {y0 : Sy} (h0 : srt[i]? = some y0) (hf : FirstN (srt.drop i) y0 m) (hd : DoneTo srt i) (ha : AgreeOk ((srt.drop i).take m)) : Bnd srt (i + m) ∧ DoneTo srt (i + m) := by
  have hm := hf.1
  refine ⟨fun a b _ h1 h2 hs => ?_, fun j hj m' z h1 h2 h3 => ?_⟩
  · have hsa := hf.same (by omega) (by omega) h1
    refine hf.2.2.2 b (by rw [List.getElem?_drop]; exact h2) ⟨hs.1.trans hsa.1, hs.2.trans hsa.2⟩
  · by_cases hji : j < i
    · exact hd j hji m' z h1 h2 h3
    · by_cases e : j = i
      · subst e
        rw [h0] at h1
        cases h1
        rw [← hf.uniq h3]
        exact ha
      · exfalso
        have hl := (List.getElem?_eq_some_iff.1 h1).1
        have hp : srt[j - 1]? = some (srt[j - 1]'(by omega)) := List.getElem?_eq_getElem (by omega)
        have s1 := hf.same (by omega) hj h1
        have s2 := hf.same (j := j - 1) (by omega) (by omega) hp
        exact h2 _ z (by omega) hp h1 ⟨s1.1.trans s2.1.symm, s1.2.trans s2.2.symm⟩
/-- Do all groups of sorted stays agree? -/
def GrpsOk (srt : List Sy) : Prop := DoneTo srt srt.length
/-- What Views answers. -/
def ViewsR (ess : List (List Ev)) (b : Bool) : Prop :=
  (b = false ∧ ∃ i es, ess[i]? = some es ∧ staysD i es = none) ∨
  ∃ all srt : List Sy, AllD ess ess.length all ∧ srt.Perm all ∧ srt.Pairwise (fun x y => ¬ ltV y.n y.p x.n x.p) ∧ (b = true ↔ GrpsOk srt)
end Go.Proofs.Ythnbijnpbjfoaaa
