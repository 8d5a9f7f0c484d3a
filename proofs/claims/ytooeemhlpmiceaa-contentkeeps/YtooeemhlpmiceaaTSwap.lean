/-
  slices' swapRange of states.
-/
import Derived.Test.YtooeemhlpmiceaaTBlk
import Derived.BigRegion
namespace Go.Proofs.Ytooeemhlpmiceaa.T
open Go.RowKit Go.Sort
set_option linter.unusedVariables false

abbrev Tg := Sx × Nat
def BlkT (w : World) (g cap : Nat) (l : List Tg) : Prop := Blk w g cap (l.map (·.1))

theorem BlkT.drew {w : World} {g cap : Nat} {l : List Tg} (h : BlkT w g cap l) : BlkT w.drew g cap l := h
theorem gr_drew {a w : World} {r : Option Nat} (h : a.grownBy w r) : a.grownBy w.drew r := ⟨h.os, h.tape, h.output, h.size, h.block⟩
theorem mid_get {α : Type} (X : List α) (y : α) (Y : List α) {j : Nat} (h : X.length = j) : (X ++ y :: Y)[j]? = some y := by subst h; simp
theorem mid_set {α : Type} (X : List α) (y z : α) (Y : List α) {j : Nat} (h : X.length = j) : (X ++ y :: Y).set j z = X ++ z :: Y := by subst h; simp
theorem BlkT.get {w : World} {g cap j : Nat} {X Y : List Tg} {y : Tg} (h : BlkT w g cap (X ++ y :: Y)) (hj : X.length = j) :
    w.cell? ⟨g, j * 5, none⟩ = some (.int .u64 (y.1.1.1 : Nat)) ∧ w.cell? ⟨g, j * 5 + 1, none⟩ = some (.int .i64 y.1.1.2.1) ∧ w.cell? ⟨g, j * 5 + 2, none⟩ = some (.int .u64 (y.1.1.2.2.1 : Nat)) ∧ w.cell? ⟨g, j * 5 + 3, none⟩ = some (.int .i64 y.1.1.2.2.2) ∧ w.cell? ⟨g, j * 5 + 4, none⟩ = some (.slice y.1.2.1 y.1.2.2.1 y.1.2.2.2) := by
  refine Blk.cell h (x := y.1) ?_
  rw [List.getElem?_map, mid_get X y Y hj]
  rfl
/-- An element laid, cell by cell. -/
theorem Blk.put {w : World} {g cap : Nat} {cur : List Sx} (h : Blk w g cap cur) {i : Nat} (hi : i < cur.length) (x : Sx) :
    Blk (((((w.setCell ⟨g, i * 5, none⟩ (.int .u64 (x.1.1 : Nat))).setCell ⟨g, i * 5 + 1, none⟩ (.int .i64 x.1.2.1)).setCell ⟨g, i * 5 + 2, none⟩ (.int .u64 (x.1.2.2.1 : Nat))).setCell ⟨g, i * 5 + 3, none⟩ (.int .i64 x.1.2.2.2)).setCell ⟨g, i * 5 + 4, none⟩ (.slice x.2.1 x.2.2.1 x.2.2.2)) g cap (cur.set i x) ∧
    w.grownBy (((((w.setCell ⟨g, i * 5, none⟩ (.int .u64 (x.1.1 : Nat))).setCell ⟨g, i * 5 + 1, none⟩ (.int .i64 x.1.2.1)).setCell ⟨g, i * 5 + 2, none⟩ (.int .u64 (x.1.2.2.1 : Nat))).setCell ⟨g, i * 5 + 3, none⟩ (.int .i64 x.1.2.2.2)).setCell ⟨g, i * 5 + 4, none⟩ (.slice x.2.1 x.2.2.1 x.2.2.2)) (some g) := by
  obtain ⟨w', hrun, hb, hg⟩ := h.set hi x
  obtain ⟨y, hy⟩ : ∃ y, cur[i]? = some y := ⟨cur[i], List.getElem?_eq_getElem hi⟩
  obtain ⟨c0, c1, c2, c3, c4⟩ := h.cell hy
  have h2 := run_storeCells_cells (P := Try.prog) g (i * 5) [.int .u64 (x.1.1 : Nat), .int .i64 x.1.2.1, .int .u64 (x.1.2.2.1 : Nat), .int .i64 x.1.2.2.2, .slice x.2.1 x.2.2.1 x.2.2.2] 0 w
    (fun j hj => by
      have : j = 0 ∨ j = 1 ∨ j = 2 ∨ j = 3 ∨ j = 4 := by simp at hj; omega
      rcases this with rfl | rfl | rfl | rfl | rfl <;> simp [c0, c1, c2, c3, c4])
    (fun j _ => h.free _) (by simp [Value.oneCell'])
  rw [hrun] at h2
  have e : w' = w.setCells g (i * 5 + 0) [.int .u64 (x.1.1 : Nat), .int .i64 x.1.2.1, .int .u64 (x.1.2.2.1 : Nat), .int .i64 x.1.2.2.2, .slice x.2.1 x.2.2.1 x.2.2.2] := by injection h2
  rw [e] at hb hg
  exact ⟨hb, hg⟩
theorem BlkT.put {w : World} {g cap j : Nat} {X Y : List Tg} {y : Tg} (h : BlkT w g cap (X ++ y :: Y)) (hj : X.length = j) (z : Tg) :
    BlkT (((((w.setCell ⟨g, j * 5, none⟩ (.int .u64 (z.1.1.1 : Nat))).setCell ⟨g, j * 5 + 1, none⟩ (.int .i64 z.1.1.2.1)).setCell ⟨g, j * 5 + 2, none⟩ (.int .u64 (z.1.1.2.2.1 : Nat))).setCell ⟨g, j * 5 + 3, none⟩ (.int .i64 z.1.1.2.2.2)).setCell ⟨g, j * 5 + 4, none⟩ (.slice z.1.2.1 z.1.2.2.1 z.1.2.2.2)) g cap (X ++ z :: Y) ∧
    w.grownBy (((((w.setCell ⟨g, j * 5, none⟩ (.int .u64 (z.1.1.1 : Nat))).setCell ⟨g, j * 5 + 1, none⟩ (.int .i64 z.1.1.2.1)).setCell ⟨g, j * 5 + 2, none⟩ (.int .u64 (z.1.1.2.2.1 : Nat))).setCell ⟨g, j * 5 + 3, none⟩ (.int .i64 z.1.1.2.2.2)).setCell ⟨g, j * 5 + 4, none⟩ (.slice z.1.2.1 z.1.2.2.1 z.1.2.2.2)) (some g) := by
  have := Blk.put h (i := j) (by simp; omega) z.1
  rw [← List.map_set, mid_set X y z Y hj] at this
  exact this

set_option maxRecDepth 10000 in
set_option maxHeartbeats 1000000 in
theorem swapRange_any (w : World) (g cap n : Nat) (fv : Value) (A U M V Z : List Tg) (hb : BlkT w g cap (A ++ U ++ M ++ V ++ Z)) (hUV : U.length = V.length) (hn : (A ++ U ++ M ++ V ++ Z).length = n) (hmax : n ≤ 1000000) :
    Calls Try.prog 91 #[.slice (some ⟨g, 0, none⟩) n cap, .int .i64 (A.length : Nat), .int .i64 ((A.length + U.length + M.length : Nat) : Nat), .int .i64 (U.length : Nat), fv] w fun e w' => e = .returned (.tuple #[]) ∧ BlkT w' g cap (A ++ V ++ M ++ U ++ Z) ∧ w.grownBy w' (some g) := by
  obtain ⟨a, HA⟩ : ∃ a, Hid (A.length = a) := ⟨_, rfl⟩
  obtain ⟨k, HK⟩ : ∃ k, Hid (U.length = k) := ⟨_, rfl⟩
  obtain ⟨b, HB⟩ : ∃ b, Hid (A.length + U.length + M.length = b) := ⟨_, rfl⟩
  rw [HB.out, HA.out, HK.out]
  have hab : a + k ≤ b := by have := HA.out; have := HB.out; have := HK.out; omega
  have hbn : b + k ≤ n := by have := HA.out; have := HB.out; have := HK.out; simp only [List.length_append] at hn; omega
  have HN : Hid ((A ++ U ++ M ++ V ++ Z).length = n) := hn
  have HUV : Hid (U.length = V.length) := hUV
  have HB0 : Hid (BlkT w g cap (A ++ U ++ M ++ V ++ Z)) := hb
  clear hb hn hUV
  go_enter Try.func91, Try.ntmps91
  go_wp2_with fail
  go_loopw [10] (fun iv wr => ∃ (i : Nat) (U1 U2 V1 V2 : List Tg), iv = .int .i64 i ∧ i ≤ k ∧ U = U1 ++ U2 ∧ V = V1 ++ V2 ∧ U1.length = i ∧ V1.length = i ∧ BlkT wr g cap (A ++ V1 ++ U2 ++ M ++ U1 ++ V2 ++ Z) ∧ w.grownBy wr (some g)) (fun iv _ => k - (intOf iv).toNat)
  case atStart => exact ⟨0, [], U, [], V, rfl, by omega, rfl, rfl, rfl, rfl, by simpa using HB0.out, gr_refl _ _⟩
  case round =>
    obtain ⟨i, U1, U2, V1, V2, rfl, hi, hU, hV, hU1, hV1, hblk, hgr⟩ := hrel
    by_cases hlt : i < k
    · have hltI : (i : Int) < (k : Int) := by omega
      obtain ⟨u, U3, rfl⟩ : ∃ u U3, U2 = u :: U3 := by
        cases U2 with
        | nil => exfalso; have := HK.out; rw [hU] at this; simp at this; omega
        | cons u U3 => exact ⟨u, U3, rfl⟩
      obtain ⟨v, V3, rfl⟩ : ∃ v V3, V2 = v :: V3 := by
        cases V2 with
        | nil => exfalso; have h1 := HK.out; have h2 := HUV.out; rw [hV] at h2; simp at h2; omega
        | cons v V3 => exact ⟨v, V3, rfl⟩
      have el1 : A ++ V1 ++ (u :: U3) ++ M ++ U1 ++ (v :: V3) ++ Z = (A ++ V1) ++ u :: (U3 ++ M ++ U1 ++ (v :: V3) ++ Z) := by simp
      have el2 : (A ++ V1) ++ v :: (U3 ++ M ++ U1 ++ (v :: V3) ++ Z) = (A ++ V1 ++ (v :: U3) ++ M ++ U1) ++ v :: (V3 ++ Z) := by simp
      have el3 : A ++ V1 ++ (u :: U3) ++ M ++ U1 ++ (v :: V3) ++ Z = (A ++ V1 ++ (u :: U3) ++ M ++ U1) ++ v :: (V3 ++ Z) := by simp
      have el4 : (A ++ V1 ++ (v :: U3) ++ M ++ U1) ++ u :: (V3 ++ Z) = A ++ (V1 ++ [v]) ++ U3 ++ M ++ (U1 ++ [u]) ++ V3 ++ Z := by simp
      have hia : (A ++ V1).length = a + i := by have := HA.out; simp; omega
      have hUl : U1.length + (U3.length + 1) = k := by have := HK.out; rw [hU] at this; simpa using this
      have hib : (A ++ V1 ++ (u :: U3) ++ M ++ U1).length = b + i := by have h1 := HA.out; have h2 := HB.out; have h3 := HK.out; simp only [List.length_append, List.length_cons]; omega
      have hib' : (A ++ V1 ++ (v :: U3) ++ M ++ U1).length = b + i := by rw [← hib]; simp
      obtain ⟨c0, c1, c2, c3, c4⟩ := BlkT.get (by rw [el1] at hblk; exact hblk) hia
      obtain ⟨d0, d1, d2, d3, d4⟩ := BlkT.get (by rw [el3] at hblk; exact hblk) hib
      have p1 := BlkT.put (by rw [el1] at hblk; exact hblk) hia v
      rw [el2] at p1
      have p2 := BlkT.put p1.1 hib' u
      rw [el4] at p2
      have HP : Hid _ := And.intro p2.1 (gr_trans hgr (gr_trans p1.2 p2.2))
      have hfz := fun j => Blk.free hblk j
      have hU' : U = (U1 ++ [u]) ++ U3 := by rw [hU]; simp
      have hV' : V = (V1 ++ [v]) ++ V3 := by rw [hV]; simp
      have HU : Hid (U = (U1 ++ [u]) ++ U3 ∧ V = (V1 ++ [v]) ++ V3 ∧ (U1 ++ [u]).length = i + 1 ∧ (V1 ++ [v]).length = i + 1) := ⟨hU', hV', by simp; omega, by simp; omega⟩
      have hi0 : ¬ ((i : Int) < 0) := by omega
      have h1n : (a : Int) + (i : Int) < (n : Int) := by omega
      have h2n : (b : Int) + (i : Int) < (n : Int) := by omega
      have h10 : ¬ ((a : Int) + (i : Int) < 0) := by omega
      have h20 : ¬ ((b : Int) + (i : Int) < 0) := by omega
      clear p1 p2 el1 el2 el3 el4 hblk hU hV hU' hV' hgr hia hib hib' hUl hU1 hV1
      go_wp2_with fail
      go_big_region
      all_goals go_wp2
      go_roundw
      case rel => first | exact ⟨i + 1, U1 ++ [u], U3, V1 ++ [v], V3, by go_num, by omega, HU.out.1, HU.out.2.1, HU.out.2.2.1, HU.out.2.2.2, HP.out.1.drew, gr_drew HP.out.2⟩ | ((repeat apply Exists.intro); exact ⟨⟨i + 1, U1 ++ [u], U3, V1 ++ [v], V3, by go_num, by omega, HU.out.1, HU.out.2.1, HU.out.2.2.1, HU.out.2.2.2, HP.out.1.drew, gr_drew HP.out.2⟩, rfl⟩)
      case measure => simp [intOf]; omega
    · have hik : i = k := by omega
      have hltI : ¬ ((i : Int) < (k : Int)) := by omega
      have HE : Hid (BlkT wr g cap (A ++ V ++ M ++ U ++ Z) ∧ w.grownBy wr (some g)) := by
        have h2 : U2 = [] := by have h1 := HK.out; rw [hU] at h1; simp at h1; exact List.length_eq_zero_iff.1 (by omega)
        have h3 : V2 = [] := by have h1 := HK.out; have h4 := HUV.out; rw [hV] at h4; simp at h4; exact List.length_eq_zero_iff.1 (by omega)
        subst h2 h3
        rw [hU, hV]
        exact ⟨by simpa using hblk, hgr⟩
      clear hblk hgr hU hV
      go_wp2
      go_end0
      exact ⟨rfl, by simpa using HE.out.1, HE.out.2⟩
end Go.Proofs.Ytooeemhlpmiceaa.T
