/-
  judge's oneOrder: is what they received one sequence's beginnings, and was all of it sent there?
-/
import Derived.Test.YthnbijnpbjfoaaaJTog
import Derived.BigRegion
import Derived.Test.YthnbijnpbjfoaaaJAll1
import Derived.Deep.Slices
namespace Go.Proofs.Ythnbijnpbjfoaaa
open Go.RowKit Go.Sort Go.Deep
set_option linter.unusedVariables false

/-- What the last of these of a node sent. -/
def sentF : List Sy → Nat → List By
  | [], _ => []
  | y :: r, i => if r.any (fun z => decide (z.node = i)) then sentF r i else if y.node = i then y.sent else []
theorem sentF_snoc (l : List Sy) (y : Sy) (i : Nat) : sentF (l ++ [y]) i = if y.node = i then y.sent else sentF l i := by
  induction l with
  | nil => simp [sentF]
  | cons a r ih =>
    simp only [List.cons_append, sentF, List.any_append, List.any_cons, List.any_nil, Bool.or_false, ih]
    by_cases h : y.node = i
    · simp [h]
    · simp [h]
/-- Sixteen lists of bytes in a block. -/
def Arr (w : World) (A : Nat) (f : Nat → List By) : Prop := ∀ i, i < 16 → ∃ r : Sr, w.cell? ⟨A, i, none⟩ = some (.slice r.1 r.2.1 r.2.2) ∧ Cp r ∧ w.frozen? ⟨A, i, none⟩ = false
def ArrB (w0 w : World) (A : Nat) (f : Nat → List By) : Prop := ∀ i, i < 16 → ∃ r : Sr, w.cell? ⟨A, i, none⟩ = some (.slice r.1 r.2.1 r.2.2) ∧ w.frozen? ⟨A, i, none⟩ = false ∧ Cp r ∧ Bs w0 r.1 r.2.1 (f i)
theorem ArrB.below {w0 w w' : World} {A B : Nat} {f : Nat → List By} (h : ArrB w0 w A f) (u : Below B w w') (hA : A < B) : ArrB w0 w' A f := fun i hi => by
  obtain ⟨r, a, b, c, d⟩ := h i hi
  exact ⟨r, (u.cell (show (⟨A, i, none⟩ : Addr).block < B from hA)).trans a, (u.frozen (show (⟨A, i, none⟩ : Addr).block < B from hA)).trans b, c, d⟩
theorem ArrB.set {w0 w : World} {A k : Nat} {f : Nat → List By} (h : ArrB w0 w A f) (hk : k < 16) (r : Sr) (xs : List By) (hc : Cp r) (hb : Bs w0 r.1 r.2.1 xs) : ArrB w0 (w.setCell ⟨A, k, none⟩ (.slice r.1 r.2.1 r.2.2)) A (fun i => if k = i then xs else f i) := fun i hi => by
  by_cases e : k = i
  · subst e
    obtain ⟨r0, a, b, _⟩ := h k hk
    refine ⟨r, set_same a rfl, by rw [World.frozen?_setCell]; exact b, hc, ?_⟩
    dsimp only
    rw [if_pos rfl]
    exact hb
  · obtain ⟨r0, a, b, c, d⟩ := h i hi
    refine ⟨r0, set_off a (fun e' => e e'.symm), by rw [World.frozen?_setCell]; exact b, c, ?_⟩
    dsimp only
    rw [if_neg e]
    exact d
theorem arr_new (w0 w : World) : ArrB w0 (w.alloc (.cells (Array.replicate 16 (.slice none 0 0)) 106)) w.heap.size (fun _ => []) := fun i hi => by
  refine ⟨(none, 0, 0), cell_box w _ 106 i _ ?_, frozen_new w _ 106 i, Cp.nil, Lr.nil _ _⟩
  rw [Array.getElem?_replicate, if_pos hi]
theorem ArrB.bss {w0 w : World} {A : Nat} {f : Nat → List By} (h : ArrB w0 w A f) (u : Below w0.heap.size w0 w) : Bss w (some ⟨A, 0, none⟩) 16 ((List.range 16).map f) := by
  obtain ⟨g, hg⟩ := choose_lt (fun i hi => h i hi)
  refine ⟨(List.range 16).map g, ⟨by simp, by omega, fun e => (by cases e), fun _ => ⟨A, 0, rfl, trivial, fun j r hj => ?_⟩⟩, by simp, fun r hr => ?_, fun j r x hr hx => ?_⟩
  · obtain ⟨h1, h2⟩ := List.getElem?_eq_some_iff.1 hj
    simp at h1 h2
    rw [Nat.zero_add, ← h2]
    exact (hg j h1).1
  · obtain ⟨i, hi, rfl⟩ := List.mem_map.1 hr
    exact (hg i (by simpa using hi)).2.2.1
  · obtain ⟨h1, h2⟩ := List.getElem?_eq_some_iff.1 hr
    obtain ⟨h3, h4⟩ := List.getElem?_eq_some_iff.1 hx
    simp at h1 h2 h4
    rw [← h2, ← h4]
    exact Bs.up (hg j h1).2.2.2 u
def BoolPostB (w : World) (P : Prop) (e : Ending) (w' : World) : Prop := (∃ b : Bool, e = .returned (.bool b) ∧ (b = true ↔ P)) ∧ RowKit.Below w.heap.size w w'
theorem BoolPost.weak {w w' : World} {P : Prop} {e : Ending} (h : BoolPost w P e w') : BoolPostB w P e w' := ⟨h.1, h.2.bl⟩
def OrdOk (ys : List Sy) : Prop := ∃ S, SeqOk ((List.range 16).map (sentF ys)) (ys.map (·.got)) S

set_option maxRecDepth 10000 in
set_option maxHeartbeats 4000000 in
theorem order_any (w : World) (ao : Option Addr) (n cap : Nat) (ys : List Sy) (h : Gr w ao n ys) (hno : ∀ y ∈ ys, y.node < 16) (hn9 : n ≤ 9000) :
    Calls Try.prog 44 #[.slice ao n cap] w fun e w' => BoolPostB w (OrdOk ys) e w' := by
  have hl := h.len
  have HI : Hid (Gr w ao n ys ∧ ∀ y ∈ ys, y.node < 16) := ⟨h, hno⟩
  clear h hno
  obtain ⟨w1, hw1⟩ : ∃ w1, w.alloc (.cells #[.slice none 0 0, .slice none 0 0, .slice none 0 0, .slice none 0 0, .slice none 0 0, .slice none 0 0, .slice none 0 0, .slice none 0 0, .slice none 0 0, .slice none 0 0, .slice none 0 0, .slice none 0 0, .slice none 0 0, .slice none 0 0, .slice none 0 0, .slice none 0 0] 106) = w1 := ⟨_, rfl⟩
  have ha1 : ArrB w w1 w.heap.size (fun _ => []) := by rw [← hw1]; exact arr_new w w
  have u1 : Up w w1 := by rw [← hw1]; exact (Up.refl _).alloc _
  have hz1 : w1.heap.size = w.heap.size + 1 := by rw [← hw1]; simp
  obtain ⟨A, hA⟩ : ∃ A, w.heap.size = A := ⟨_, rfl⟩
  have HA : Hid (w.heap.size = A) := hA
  rw [hA] at ha1 hz1
  have H1 : Hid (ArrB w w1 A (fun _ => []) ∧ Up w w1 ∧ w1.heap.size = A + 1) := ⟨ha1, u1, hz1⟩
  clear ha1 u1 hz1
  go_enter Try.func44, Try.ntmps44
  go_wp2_with fail
  (try simp only [hw1, hA])
  clear hw1 hA
  go_loopw [4, 6, 11] (fun gv _ iv wr => ∃ (k : Nat) (rs : List Sr) (r : Sr), k ≤ n ∧ iv = .int .i64 (k : Nat) ∧ gv = .slice r.1 r.2.1 r.2.2 ∧ wr.ownsRow (A + 1) 25 1 (.slice r.1 r.2.1 r.2.2) k (rs.map slv) ∧ rs.length = k ∧ (∀ s ∈ rs, Cp s) ∧ (∀ (j : Nat) s y, rs[j]? = some s → (ys.map (·.got))[j]? = some y → Its (fun _ => True) w s.1 s.2.1 y) ∧ ArrB w wr A (sentF (ys.take k)) ∧ RowKit.Below w.heap.size w wr ∧ A + 1 ≤ wr.heap.size) (fun _ _ iv _ => n - (intOf iv).toNat)
  case atStart => exact ⟨0, [], (none, 0, 0), by omega, rfl, rfl, ⟨rfl, .inl ⟨rfl, rfl⟩⟩, rfl, by simp, fun j s y hs => by simp at hs, H1.out.1, H1.out.2.1.bl, by have := H1.out.2.2; omega⟩
  case round =>
    clear H1
    obtain ⟨k, rs, r, hk, rfl, rfl, hown, hrl, hrc, hre, harr, hu, hsz⟩ := hrel
    have HR : Hid (rs.length = k ∧ (∀ s ∈ rs, Cp s) ∧ (∀ (j : Nat) s y, rs[j]? = some s → (ys.map (·.got))[j]? = some y → Its (fun _ => True) w s.1 s.2.1 y) ∧ ArrB w wr A (sentF (ys.take k)) ∧ RowKit.Below w.heap.size w wr ∧ A + 1 ≤ wr.heap.size ∧ wr.ownsRow (A + 1) 25 1 (.slice r.1 r.2.1 r.2.2) k (rs.map slv)) := ⟨hrl, hrc, hre, harr, hu, hsz, hown⟩
    clear hrl hrc hre harr hsz hown
    by_cases hlt : k < n
    · have hltI : (k : Int) < (n : Int) := by omega
      have hk0 : ¬ ((k : Int) < 0) := by omega
      obtain ⟨y, hy⟩ : ∃ y, ys[k]? = some y := ⟨ys[k]'(by omega), List.getElem?_eq_getElem (by omega)⟩
      obtain ⟨b, off, q, sr, gr, hao, c0, y9, hbs, hit, hcs, hcg⟩ := HI.out.1.at hy
      have h16 := HI.out.2 y (List.mem_of_getElem? hy)
      have c0 := bl_cell hu c0
      have y9' := y9.up hu
      have q0 := y9'.1
      have q4 := y9'.2.2.2.2.1
      have q5 := y9'.2.2.2.2.2.1
      have hqA : q < A := by have := y9.lt; have := HA.out; omega
      have HY : Hid (ys[k]? = some y ∧ Bs w sr.1 sr.2.1 y.sent ∧ Its (fun _ => True) w gr.1 gr.2.1 y.got ∧ Cp sr ∧ Cp gr) := ⟨hy, hbs, hit, hcs, hcg⟩
      obtain ⟨r0, a0, f0, _⟩ := HR.out.2.2.2.1 y.node h16
      subst hao
      clear hy hbs hit hcs hcg y9 y9' hu
      obtain ⟨nd, hnd⟩ : ∃ nd, y.node = nd := ⟨_, rfl⟩
      have HND : Hid (y.node = nd) := hnd
      rw [hnd] at q0 a0 f0 h16
      clear hnd
      have hi16 : (nd : Int) < 16 := by omega
      have hi0 : ¬ ((nd : Int) < 0) := by omega
      obtain ⟨w2, hw2⟩ : ∃ w2, (wr.setCell ⟨A, nd, none⟩ (.slice sr.1 sr.2.1 sr.2.2)).drew = w2 := ⟨_, rfl⟩
      have g2 : wr.grownBy w2 (some A) := by rw [← hw2]; exact gr_trans (gr_set wr A nd _) (gr_below ((Up.refl _).drew).bl _)
      have hqne : (⟨q, 5, none⟩ : Addr) ≠ ⟨A, nd, none⟩ := fun e => by
        have := congrArg Addr.block e
        simp only at this
        omega
      have q52 : w2.cell? ⟨q, 5, none⟩ = some (.slice gr.1 gr.2.1 gr.2.2) := by rw [← hw2]; exact bl_cell ((Up.refl _).drew).bl (setCell_other' hqne q5)
      have hown2 : w2.ownsRow (A + 1) 25 1 (.slice r.1 r.2.1 r.2.2) k (rs.map slv) := own_of_block HR.out.2.2.2.2.2.2 g2.size (fun b hb => g2.block b (own_blk HR.out.2.2.2.2.2.2 hb).2.1 (fun e => by have := (own_blk HR.out.2.2.2.2.2.2 hb).1; simp at e; omega))
      have H2 : Hid (ArrB w w2 A (sentF (ys.take (k + 1))) ∧ RowKit.Below w.heap.size w w2 ∧ A + 1 ≤ w2.heap.size) := by
        have h1 := HR.out.2.2.2.1.set h16 sr y.sent HY.out.2.2.2.1 HY.out.2.1
        have h2 : ArrB w w2 A (fun i => if nd = i then y.sent else sentF (ys.take k) i) := by
          rw [← hw2]
          exact h1.below (((Up.refl _).drew).bl) (by have := HR.out.2.2.2.2.2.1; simp [World.setCell]; omega)
        refine ⟨?_, ?_, by have := g2.size; have := HR.out.2.2.2.2.2.1; omega⟩
        · intro i hi
          obtain ⟨r1, x1, x2, x3, x4⟩ := h2 i hi
          refine ⟨r1, x1, x2, x3, ?_⟩
          rw [take_snoc HY.out.1, sentF_snoc, HND.out]
          exact x4
        · rw [← hw2]
          have hup := HR.out.2.2.2.2.1
          exact (hup.setCell (Nat.le_of_eq HA.out) _).drew
      have hsz2 := H2.out.2.2
      clear hqne g2 hqA
      go_wp2_with fail
      go_big_region
      (try simp only [hw2])
      clear hw2 a0 f0 q0 q4 q5
      go_wp2_with (at_builtin; refine wpList_append_row rfl (.tmp 24) (.tmp 29) 23 25 rfl und23' info25 (A + 1) _ k rs rfl ?d1 gr w2.heap.size rfl rfl ?d2 ?d3 ?_)
      case d1 => exact hown2
      case d2 => omega
      case d3 => exact hsz2
      intro v' w3 hown3 hb3
      obtain ⟨r', rfl, hr'⟩ := own_row1 hown3
      have HN : Hid (w3.ownsRow (A + 1) 25 1 (.slice r'.1 r'.2.1 r'.2.2) (k + 1) ((rs ++ [gr]).map slv) ∧ (rs ++ [gr]).length = k + 1 ∧ (∀ s ∈ rs ++ [gr], Cp s) ∧ (∀ (j : Nat) s y, (rs ++ [gr])[j]? = some s → (ys.map (·.got))[j]? = some y → Its (fun _ => True) w s.1 s.2.1 y) ∧ ArrB w w3 A (sentF (ys.take (k + 1))) ∧ RowKit.Below w.heap.size w w3 ∧ A + 1 ≤ w3.heap.size) := by
        refine ⟨by rw [List.map_append]; exact hown3, by simp [HR.out.1], fun s hs => ?_, fun j s z hs hz => ?_, H2.out.1.below hb3 (Nat.lt_succ_self A), H2.out.2.1.trans (hb3.mono (by have := HA.out; omega)), Nat.le_trans H2.out.2.2 hb3.size⟩
        · rw [List.mem_append, List.mem_singleton] at hs
          rcases hs with hs | rfl
          · exact HR.out.2.1 s hs
          · exact HY.out.2.2.2.2
        · by_cases hj : j < k
          · rw [List.getElem?_append_left (by rw [HR.out.1]; exact hj)] at hs
            exact HR.out.2.2.1 j s z hs hz
          · have hl2 := (List.getElem?_eq_some_iff.1 hs).1
            simp [HR.out.1] at hl2
            have : j = k := by omega
            subst this
            rw [List.getElem?_append_right (by rw [HR.out.1]; exact Nat.le_refl _), HR.out.1] at hs
            rw [List.getElem?_map, HY.out.1] at hz
            simp at hs hz
            subst hs hz
            exact HY.out.2.2.1
      clear hown3 hb3 hown2 q52 hsz2
      go_wp2
      go_roundw
      case rel => exact ⟨k + 1, rs ++ [gr], r', by omega, by go_num, rfl, HN.out⟩
      case measure => simp [intOf]; omega
    · obtain rfl : k = n := by omega
      obtain ⟨gd, hgd, hgd1, hgd2⟩ := Lr.mk (E := fun w r x => Its (fun _ => True) w r.1 r.2.1 x) (xs := ys.map (·.got)) HR.out.2.2.2.2.2.2 (by omega) (by simp [hl]) HR.out.2.1 (fun j s y hs hy => (HR.out.2.2.1 j s y hs hy).up hu)
      have hbss := HR.out.2.2.2.1.bss hu
      rw [List.take_of_length_le (by omega)] at hbss
      have hsq := seq_any wr (some ⟨A, 0, none⟩) 16 16 _ hbss (by omega) gd.1 k gd.2.2 _ hgd2
      have hqe : Value.slice r.1 r.2.1 r.2.2 = .slice gd.1 k gd.2.2 := by rw [hgd, hgd1]
      simp only [Value.slice.injEq] at hqe
      obtain ⟨hq1, hq2, hq3⟩ := hqe
      rw [← hq1, ← hq3] at hsq
      clear hgd hgd1 hgd2 hbss hq1 hq3
      have hq2' : (r.2.1 : Int) = (k : Int) := by rw [hq2]
      obtain ⟨ra, rn, rc⟩ := r
      simp only at hq2 hsq
      subst hq2
      clear hq2'
      have HU : Hid (RowKit.Below w.heap.size w wr) := hu
      clear hu
      go_wp2_with fail
      refine hsq.mono ?_
      rintro e w5 ⟨hp, u5⟩
      have HB : Hid (RowKit.Below w.heap.size w w5) := bl_step HU.out u5.bl
      clear hsq u5
      rcases hp with ⟨r, S, rfl, _, _, hok⟩ | ⟨rfl, hno⟩
      · have HK : Hid (OrdOk ys) := ⟨S, hok⟩
        clear hok
        go_wp2
        go_ret
        exact ⟨⟨true, rfl, by simp; exact HK.out⟩, HB.out⟩
      · have HK : Hid (¬ OrdOk ys) := hno
        clear hno
        go_wp2
        go_ret
        exact ⟨⟨false, rfl, by simp; exact HK.out⟩, HB.out⟩
end Go.Proofs.Ythnbijnpbjfoaaa
