/-
  States of one view of which each is a stretch of one sequence: plain facts; items and bytes as they are handed in.
-/
import Derived.Test.YtbdbdpgnilhcpaaSApart
namespace Go.Proofs.Ytbdbdpgnilhcpaa
open Go.ChangeShapes Go.WideShapes Go.ChangeAt Go.RowKit Go.Deep
set_option linter.unusedVariables false
set_option linter.unusedSimpArgs false

theorem open_items {H : Type} {enc : TypeId × Value → H} {W : World} {a : Option Addr} {len cap : Nat} {d : DataW H} {p : List MemPlace} {ts : List TypeId} {ds : List (DataW H)} {j : Nat}
    (h : DataW.Trod enc Try.prog W 0 (fun _ => true) true 29 (.slice a len cap) d p) (hsz : (DataW.weightsEach Try.prog ts ds).all (· ≤ reachBytes) = true) (ht : ts[j]? = some 29) (hd : ds[j]? = some d) :
    ∃ es, Its (fun _ => True) W a len es ∧ (a = none → len = 0 ∧ cap = 0) ∧ len ≤ cap ∧ cap ≤ 9223372036854775807 := by
  have hF : Fits 29 d := fun n hn => by
    have := List.all_eq_true.1 hsz n (DataW.weights_mem_each ht hd n hn)
    exact of_decide_eq_true this
  obtain ⟨fuel, hf⟩ := h
  obtain ⟨ao, n, c, es, hcs, hits, hnc, hcm, hn⟩ := trod_items hf hF
  simp [Value.cells] at hcs
  obtain ⟨rfl, rfl, rfl⟩ := hcs
  exact ⟨es, hits, fun e => ⟨by have := hn e; omega, hn e⟩, hnc, hcm⟩
theorem open_bytes {H : Type} {enc : TypeId × Value → H} {W : World} {a : Option Addr} {len cap : Nat} {d : DataW H} {p : List MemPlace} {ts : List TypeId} {ds : List (DataW H)} {j : Nat}
    (h : DataW.Trod enc Try.prog W 0 (fun _ => true) true 42 (.slice a len cap) d p) (hsz : (DataW.weightsEach Try.prog ts ds).all (· ≤ reachBytes) = true) (ht : ts[j]? = some 42) (hd : ds[j]? = some d) :
    ∃ es, Rw (fun _ => True) W a len es ∧ (a = none → len = 0 ∧ cap = 0) ∧ len ≤ cap ∧ cap ≤ 9223372036854775807 := by
  have hF : Fits 42 d := fun n hn => by
    have := List.all_eq_true.1 hsz n (DataW.weights_mem_each ht hd n hn)
    exact of_decide_eq_true this
  obtain ⟨fuel, hf⟩ := h
  obtain ⟨ao, n, c, es, hcs, hits, hnc, hcm, hn⟩ := trod_bytes hf hF
  simp [Value.cells] at hcs
  obtain ⟨rfl, rfl, rfl⟩ := hcs
  exact ⟨es, hits, fun e => ⟨by have := hn e; omega, hn e⟩, hnc, hcm⟩

/-- The first k items. -/
theorem Its.take {p : Nat → Prop} {w : World} {ao : Option Addr} {n k : Nat} {ds : List Di} (h : Its p w ao n ds) (hk : k ≤ n) : Its p w ao k (ds.take k) := by
  obtain ⟨xs, ⟨h1, h2, h3, h4⟩, hd, hit⟩ := h
  have tk : ∀ {α : Type} {l : List α} {j : Nat} {x : α}, (l.take k)[j]? = some x → l[j]? = some x := fun {α l j x} hx => by
    rw [List.getElem?_take] at hx
    split at hx
    · exact hx
    · cases hx
  refine ⟨xs.take k, ⟨by rw [List.length_take]; omega, by omega, fun e => by have := h3 e; omega, fun h0 => ?_⟩, by rw [List.length_take]; omega, fun j x d hx hd' => hit j x d (tk hx) (tk hd')⟩
  obtain ⟨b, off, e, hp, hc⟩ := h4 (by omega)
  exact ⟨b, off, e, hp, fun j x hx => hc j x (tk hx)⟩
theorem Its.zero {p : Nat → Prop} {w : World} (ao : Option Addr) : Its p w ao 0 [] := ⟨[], ⟨rfl, by omega, fun _ => rfl, fun h => by omega⟩, rfl, fun j x d hx => by simp at hx⟩
theorem add0 (a : Addr) : a.add 0 = a := by cases a; simp [Addr.add]
/-- Where all[f:k] begins. -/
def so (ao : Option Addr) (cap f : Nat) : Option Addr := match ao with | none => none | some a => if cap = f then some a else some (a.add (f * 2))
theorem its_part {p : Nat → Prop} {w : World} {ao : Option Addr} {n cap f k : Nat} {ds : List Di} (h : Its p w ao n ds) (hf : f ≤ k) (hk : k ≤ n) (hc : n ≤ cap) : Its p w (so ao cap f) (k - f) ((ds.drop f).take (k - f)) := by
  cases ao with
  | none =>
    have : n = 0 := by obtain ⟨xs, hx, _⟩ := h; exact hx.2.2.1 rfl
    obtain rfl : k = 0 := by omega
    simp only [Nat.zero_sub, List.take_zero]
    exact Its.zero _
  | some a =>
    by_cases hcf : cap = f
    · have : k - f = 0 := by omega
      rw [this, List.take_zero]
      exact Its.zero _
    · unfold so
      simp only [if_neg hcf]
      exact (h.tail (by omega)).take (by omega)

/-- So many has the i-th. -/
def kOf (hs : List UInt8) (n i : Nat) : Nat := (hs.getD i 0).toNat % (n + 1)
theorem kOf_le (hs : List UInt8) (n i : Nat) : kOf hs n i ≤ n := by have := Nat.mod_lt (hs.getD i 0).toNat (show 0 < n + 1 by omega); unfold kOf; omega
theorem kOf_at {hs : List UInt8} {n i : Nat} {x : UInt8} (h : hs[i]? = some x) : x.toNat % (n + 1) = kOf hs n i := by unfold kOf; simp [List.getD_eq_getElem?_getD, h]
/-- What the first loop finds. -/
def Ends (hs : List UInt8) (n i least most : Nat) : Prop := least ≤ n ∧ most ≤ n ∧ (∀ j, j < i → least ≤ kOf hs n j ∧ kOf hs n j ≤ most) ∧ (i = 0 → most = 0) ∧ (0 < i → ∃ j, j < i ∧ kOf hs n j = most)
theorem Ends.nil (hs : List UInt8) (n : Nat) : Ends hs n 0 n 0 := ⟨Nat.le_refl _, by omega, fun j h => by omega, fun _ => rfl, fun h => by omega⟩
theorem Ends.step {hs : List UInt8} {n i least most : Nat} (h : Ends hs n i least most) : Ends hs n (i + 1) (if kOf hs n i < least then kOf hs n i else least) (if most < kOf hs n i then kOf hs n i else most) := by
  obtain ⟨h1, h2, h3, h4, h5⟩ := h
  have hk := kOf_le hs n i
  refine ⟨by split <;> omega, by split <;> omega, fun j hj => ?_, fun e => by omega, fun _ => ?_⟩
  · by_cases hji : j = i
    · subst hji; constructor <;> split <;> omega
    · have := h3 j (by omega); constructor <;> split <;> omega
  · by_cases hm : most < kOf hs n i
    · exact ⟨i, by omega, by rw [if_pos hm]⟩
    · by_cases h0 : i = 0
      · subst h0; have := h4 rfl; exact ⟨0, by omega, by rw [if_neg hm]; omega⟩
      · obtain ⟨j, hj, e⟩ := h5 (by omega)
        exact ⟨j, by omega, by rw [if_neg hm]; exact e⟩

theorem first_idx {P : Nat → Prop} {m : Nat} (h : ∃ j, j < m ∧ P j) : ∃ j, j < m ∧ P j ∧ ∀ i, i < j → ¬ P i := by
  obtain ⟨j, hj, hp⟩ := h
  induction j using Nat.strongRecOn with
  | _ j ih =>
    by_cases hx : ∃ i, i < j ∧ P i
    · obtain ⟨i, hi, hpi⟩ := hx
      exact ih i hi (by omega) hpi
    · exact ⟨j, hj, hp, fun i hi hpi => hx ⟨i, hi, hpi⟩⟩

/-- The i-th node's state. -/
def Strip (hs : List UInt8) (n least : Nat) (ds : List Di) (j : Nat) (q : Pr) : Prop := ∃ f : Nat, f ≤ least ∧ q.1.1 = 3 ∧ q.1.2.1 = 1 ∧ q.1.2.2.1 = (f : Nat) ∧ q.1.2.2.2.2.1 = kOf hs n j - f ∧ q.2 = (ds.drop f).take (kOf hs n j - f)
theorem meet_join {hs : List UInt8} {n m least most : Nat} {ds : List Di} {Q : List Pr} {J : List Tg} (hl : Q.length = m) (hQ : ∀ j q, Q[j]? = some q → Strip hs n least ds j q) (hm : 0 < m) (hf : Ends hs n m least most) (hJ : IsJoin (tagl (Q.map (·.1))) J) :
    ∃ (t : Tg) (f : Nat), J = [t] ∧ f ≤ least ∧ t.1.1 = 3 ∧ t.1.2.1 = 1 ∧ t.1.2.2.1 = (f : Nat) ∧ (Q.map (·.2)).getD t.2 [] = (ds.drop f).take (most - f) := by
  obtain ⟨f1, f2, f3, f4, f5⟩ := hf
  obtain ⟨j, hj, he, hfst⟩ := first_idx (f5 hm)
  obtain ⟨q, hq⟩ : ∃ q, Q[j]? = some q := ⟨Q[j]'(by omega), List.getElem?_eq_getElem (by omega)⟩
  have hen : ∀ i q, Q[i]? = some q → endS q.1 = (kOf hs n i : Nat) ∧ q.1.1 = 3 ∧ q.1.2.1 = 1 ∧ i < m := fun i q hi => by
    obtain ⟨f, a1, a2, a3, a4, a5, a6⟩ := hQ i q hi
    have him : i < m := by have := (List.getElem?_eq_some_iff.1 hi).1; omega
    have := f3 i him
    refine ⟨?_, a2, a3, him⟩
    unfold endS
    rw [a4, a5]
    omega
  have hone : J.length ≤ 1 := one_of_same hJ.1 (fun a ha b hb => by
    obtain ⟨e, h1⟩ := tag_pair ((hJ.2 a).1 ha).1
    obtain ⟨e', h2⟩ := tag_pair ((hJ.2 b).1 hb).1
    have a1 := hen _ _ h1
    have a2 := hen _ _ h2
    exact ⟨a1.2.1.trans a2.2.1.symm, a1.2.2.1.trans a2.2.2.1.symm⟩)
  have hin : ((q.1, j) : Tg) ∈ J := (hJ.2 _).2 ⟨pair_tag hq, by show q.1.1 ≠ 0; rw [(hen j q hq).2.1]; decide, fun u hu hs' hlt => by
    obtain ⟨e, h1⟩ := tag_pair hu
    have a1 := hen _ _ h1
    have a2 := hen j q hq
    have a3 := f3 u.2 a1.2.2.2
    have a4 : u.2 < j → kOf hs n u.2 ≠ most := fun h => hfst u.2 h
    unfold ltT ltK at hlt
    simp only at hlt a1
    omega⟩
  match J, hone, hin with
  | [t], _, hin =>
    simp at hin
    subst hin
    obtain ⟨f, a1, a2, a3, a4, a5, a6⟩ := hQ j q hq
    refine ⟨_, f, rfl, a1, a2, a3, a4, ?_⟩
    simp only [List.getD_eq_getElem?_getD, List.getElem?_map, hq, Option.map_some, Option.getD_some]
    rw [a6, he]
theorem drop_take {α : Type} {ds : List α} {f k m : Nat} (h1 : f ≤ k) (h2 : k ≤ m) : ((ds.drop f).take (m - f)).drop (k - f) = (ds.drop k).take (m - k) := by
  rw [List.drop_take, List.drop_drop]
  congr 1
  · omega
  · congr 1; omega
/-- What one lacks. -/
theorem meet_rest {w : World} {jo : Option Addr} {es : List (List Di)} {t : Tg} {rs : List Sx} {ds : List Di} {f k most : Nat} (hal : Alike ([t].map (·.1)) rs) (hs : Sts (fun _ => True) w jo 1 rs (esAt es [t])) (h1 : t.1.1 = 3) (h2 : t.1.2.1 = 1) (h3 : t.1.2.2.1 = (f : Nat)) (he : es.getD t.2 [] = (ds.drop f).take (most - f)) (hm : most ≤ ds.length) (hfk : f ≤ k) (hkm : k ≤ most) :
    restD rs (esAt es [t]) 3 1 (k : Int) = (0, (ds.drop k).take (most - k)) ∧ ∀ y ∈ rs, OkS y ∨ 1000 < f ∨ 1000 < most := by
  have hrl : rs.length = 1 := by rw [← hal.1]; rfl
  match rs, hrl, hal, hs with
  | [y], _, hal, hs =>
    obtain ⟨a1, a2, a3⟩ := hal.2 0 t.1 y rfl rfl
    have hit := hs.2.2 0 y (es.getD t.2 []) rfl (by unfold esAt; rfl)
    have hlen := hit.len
    rw [he, List.length_take, List.length_drop] at hlen
    have hyl : y.2.2.2.2.1 = most - f := by omega
    have hend : endS y = (most : Nat) := by unfold endS; rw [a3, h3, hyl]; omega
    refine ⟨?_, ?_⟩
    · unfold restD esAt
      rw [if_neg (by decide), find_some (i := 0) (by simp) rfl ⟨a1.trans h1, a2.trans h2⟩]
      simp only [List.map_cons, List.map_nil, List.getElem?_cons_zero]
      rw [hend, a3, h3, if_neg (by omega), he]
      have : ((k : Int) - (f : Nat)).toNat = k - f := by omega
      rw [this, drop_take hfk hkm]
    · intro z hz
      simp at hz
      subst hz
      unfold OkS
      rw [a3, h3, hyl]
      omega

/-- Pairs that lie in memory. -/
def Vm (w : World) (q : Pr) : Prop := Its (fun _ => True) w q.1.2.2.2.1 q.1.2.2.2.2.1 q.2 ∧ OkS q.1
theorem meet_sts {w w' : World} {bo : Option Addr} {k : Nat} {q : Nat → Prop} {Q : List Pr} (h : ∀ x ∈ Q, Vm w x) (hu : Below w.heap.size w w') (hs : SR q w' bo k (Q.map (·.1))) : Sts (fun _ => True) w' bo k (Q.map (·.1)) (Q.map (·.2)) := by
  refine ⟨hs.imp (fun _ _ _ => trivial), by rw [← hs.1]; simp, fun j x e hx he => ?_⟩
  rw [List.getElem?_map] at hx he
  obtain ⟨y, hy, rfl⟩ := Option.map_eq_some_iff.1 hx
  rw [hy] at he
  simp at he
  subst he
  exact (h y (List.mem_of_getElem? hy)).1.keep (Kp.up hu)
/-- One state behind a row of one's own: what append answers. -/
theorem run_append_S {w : World} {base : Nat} {v : Value} {n : Nat} {xs : List Sx} (hown : w.ownsRow base 31 4 v n (flat xs)) {a : Addr} {x : Sx} (hx : SR (fun _ => True) w (some a) 1 [x]) (hn : n + 1 ≤ 1000000) (hbase : base ≤ w.heap.size) :
    ∃ v' w', (Builtin.append_ #[22, 22] 22 #[v, .slice (some a) 1 1]).run Try.prog w = .ok v' w' ∧ w'.ownsRow base 31 4 v' (n + 1) (flat (xs ++ [x])) ∧ w.grownBy w' v.ownBlock := by
  obtain ⟨i0, hi0, hz0, hz1, hz2⟩ := info_parts infoS
  obtain ⟨v', w', h1, h2, h3, _⟩ := run_append_own_at (P := Try.prog) (w := w) base 22 22 31 i0 (.agg #[.int .u64 0, .int .i64 0, .int .i64 0, .slice none 0 0]) 4 48 und22 hi0 hz0 hz1 hz2 rfl (by decide) v n (flat xs) hown a 1 1 (flat [x]) (by rw [flat_len]; rfl) hx.cells (fun u hu' => flat_one hu') (by unfold maxLen; omega) (by omega) hbase
  exact ⟨v', w', h1, by rw [flat_app]; exact h2, h3⟩
end Go.Proofs.Ytbdbdpgnilhcpaa
