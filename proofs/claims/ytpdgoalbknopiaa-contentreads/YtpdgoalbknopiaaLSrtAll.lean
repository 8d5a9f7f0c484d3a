/-
  slices.SortFunc of Go's library, at this program: its functions are those of the library's contract.
  slices.SortFunc of labels by label.Compare: the same labels, none ahead of a lesser one.
  slices.Compact of labels: of neighbours that are one, one.
  Sort and Twice of package label.
-/
import Derived.Shelf.SlSortCmp.NoneTotal
import Derived.Ground.SlsfProg
import Derived.Test.YtpdgoalbknopiaaProg
import Derived.Test.YtpdgoalbknopiaaLAll
import Derived.Laws.AppendOwnNone
namespace Go.Proofs.Ytpdgoalbknopiaa
open Go.Shelf
def sortL_ren : Go.Shelf.Ren := ⟨fun | 6 => 76 | 15 => 83 | 14 => 82 | 28 => 94 | 29 => 95 | 20 => 86 | 21 => 87 | 22 => 88 | 23 => 89 | 24 => 90 | 25 => 91 | 26 => 92 | 27 => 93 | 46 => 96 | 47 => 97 | 48 => 98 | 49 => 99 | 50 => 100 | 57 => 101 | n => n, fun | 22 => 36 | 24 => 26 | 25 => 105 | 3 => 3 | 39 => 104 | 0 => 0 | 53 => 124 | 55 => 22 | 4 => 4 | 46 => 117 | 45 => 116 | 50 => 121 | 5 => 5 | 9 => 9 | 66 => 125 | 70 => 128 | 76 => 130 | 77 => 131 | n => n, fun | n => n⟩
theorem sortL : Go.Proofs.SlLaysF0.n6 Try.prog sortL_ren := {
  mixed := by kernel_rfl
  f6 := ⟨Try.f76.name, by decide, Try.func76.trans (congrArg some (by kernel_rfl))⟩
  f14 := ⟨Try.f82.name, by decide, Try.func82.trans (congrArg some (by kernel_rfl))⟩
  f15 := Try.func83.trans (congrArg some (by kernel_rfl))
  f20 := ⟨Try.f86.name, by decide, Try.func86.trans (congrArg some (by kernel_rfl))⟩
  f21 := ⟨Try.f87.name, by decide, Try.func87.trans (congrArg some (by kernel_rfl))⟩
  f22 := ⟨Try.f88.name, by decide, Try.func88.trans (congrArg some (by kernel_rfl))⟩
  f23 := ⟨Try.f89.name, by decide, Try.func89.trans (congrArg some (by kernel_rfl))⟩
  f24 := ⟨Try.f90.name, by decide, Try.func90.trans (congrArg some (by kernel_rfl))⟩
  f25 := ⟨Try.f91.name, by decide, Try.func91.trans (congrArg some (by kernel_rfl))⟩
  f26 := ⟨Try.f92.name, by decide, Try.func92.trans (congrArg some (by kernel_rfl))⟩
  f27 := ⟨Try.f93.name, by decide, Try.func93.trans (congrArg some (by kernel_rfl))⟩
  f28 := Try.func94.trans (congrArg some (by kernel_rfl))
  f29 := Try.func95.trans (congrArg some (by kernel_rfl))
  f46 := ⟨Try.f96.name, by decide, Try.func96.trans (congrArg some (by kernel_rfl))⟩
  f47 := Try.func97.trans (congrArg some (by kernel_rfl))
  f48 := Try.func98.trans (congrArg some (by kernel_rfl))
  f49 := ⟨Try.f99.name, by decide, Try.func99.trans (congrArg some (by kernel_rfl))⟩
  f50 := ⟨Try.f100.name, by decide, Try.func100.trans (congrArg some (by kernel_rfl))⟩
  f57 := ⟨Try.f101.name, by decide, Try.func101.trans (congrArg some (by kernel_rfl))⟩
  t0 := Try.underlying0
  a0 := Try.isAgg0
  z0 := Try.sizeOf0
  v0 := Try.zeroValue0
  t3 := Try.underlying3
  a3 := Try.isAgg3
  z3 := Try.sizeOf3
  v3 := Try.zeroValue3
  t4 := Try.underlying4
  a4 := Try.isAgg4
  z4 := Try.sizeOf4
  v4 := Try.zeroValue4
  t5 := Try.underlying5
  a5 := Try.isAgg5
  z5 := Try.sizeOf5
  v5 := Try.zeroValue5
  t9 := Try.underlying9
  a9 := Try.isAgg9
  z9 := Try.sizeOf9
  v9 := Try.zeroValue9
  t22 := Try.underlying36
  a22 := Try.isAgg36
  z22 := Try.sizeOf36
  v22 := Try.zeroValue36
  t25 := Try.underlying105
  a25 := Try.isAgg105
  z25 := Try.sizeOf105
  v25 := Try.zeroValue105
  t39 := Try.underlying104
  a39 := Try.isAgg104
  z39 := Try.sizeOf104
  v39 := Try.zeroValue104
  t45 := Try.underlying116
  a45 := Try.isAgg116
  z45 := Try.sizeOf116
  v45 := Try.zeroValue116
  t46 := Try.underlying117
  a46 := Try.isAgg117
  z46 := Try.sizeOf117
  v46 := Try.zeroValue117
  t50 := Try.underlying121
  a50 := Try.isAgg121
  z50 := Try.sizeOf121
  v50 := Try.zeroValue121
  t53 := Try.underlying124
  a53 := Try.isAgg124
  z53 := Try.sizeOf124
  v53 := Try.zeroValue124
  t55 := Try.underlying22
  a55 := Try.isAgg22
  z55 := Try.sizeOf22
  v55 := Try.zeroValue22
  t66 := Try.underlying125
  a66 := Try.isAgg125
  z66 := Try.sizeOf125
  v66 := Try.zeroValue125
  t70 := Try.underlying128
  a70 := Try.isAgg128
  z70 := Try.sizeOf128
  v70 := Try.zeroValue128
  t76 := Try.underlying130
  a76 := Try.isAgg130
  z76 := Try.sizeOf130
  v76 := Try.zeroValue130
  t77 := Try.underlying131
  a77 := Try.isAgg131
  z77 := Try.sizeOf131
  v77 := Try.zeroValue131 }
end Go.Proofs.Ytpdgoalbknopiaa
namespace Go.Proofs.Ytpdgoalbknopiaa
open Go.RowKit Go.Shelf Go.Lib Go.Sort
set_option linter.unusedVariables false

/-- Is a label less than another one? -/
def ltL (x y : Lb) : Prop := x.1 < y.1 ∨ x.1 = y.1 ∧ (x.2.1 < y.2.1 ∨ x.2.1 = y.2.1 ∧ (x.2.2.1 < y.2.2.1 ∨ x.2.2.1 = y.2.2.1 ∧ x.2.2.2 < y.2.2.2))
theorem cmpL_lt (x y : Lb) : cmpL x y < 0 ↔ ltL x y := by
  obtain ⟨n1, p1, s1, q1⟩ := x
  obtain ⟨n2, p2, s2, q2⟩ := y
  unfold cmpL cmpV sgn ltL
  simp only
  repeat' split
  all_goals omega
theorem cmpL_eq (x y : Lb) : cmpL x y = 0 ↔ x = y := by
  obtain ⟨n1, p1, s1, q1⟩ := x
  obtain ⟨n2, p2, s2, q2⟩ := y
  unfold cmpL cmpV sgn
  simp only [Prod.mk.injEq]
  repeat' split
  all_goals omega
theorem ltL_irr (x : Lb) : ¬ ltL x x := by unfold ltL; omega
theorem ltL_trans {x y z : Lb} (h : ltL x y) (k : ltL y z) : ltL x z := by unfold ltL at *; omega
theorem ltL_ntrans {x y z : Lb} (h : ¬ ltL x y) (k : ¬ ltL y z) : ¬ ltL x z := by unfold ltL at *; omega
theorem ltL_tri {x y : Lb} (h : ¬ ltL x y) (k : ¬ ltL y x) : x = y := by
  obtain ⟨n1, p1, s1, q1⟩ := x
  obtain ⟨n2, p2, s2, q2⟩ := y
  unfold ltL at *
  simp only [Prod.mk.injEq] at *
  omega
theorem ltC (x y : Lb) : ltOf cmpL x y = true ↔ ltL x y := by unfold ltOf; rw [← cmpL_lt]; simp
theorem ltC' (x y : Lb) : ltOf cmpL x y = false ↔ ¬ ltL x y := by rw [← ltC]; simp
theorem swoL : SWO (ltOf cmpL) where
  irrefl x := (ltC' _ _).2 (ltL_irr x)
  trans x y z h1 h2 := (ltC _ _).2 (ltL_trans ((ltC _ _).1 h1) ((ltC _ _).1 h2))
  ntrans x y z h1 h2 := (ltC' _ _).2 (ltL_ntrans ((ltC' _ _).1 h1) ((ltC' _ _).1 h2))

theorem flatK_flat (d : Array Lb) : flatK cellsL 4 d = (flat d.toList).toArray := by
  refine ext_get! (by simp [flat_len]) fun t ht => ?_
  have ht' : t < d.size * 4 := by simpa using ht
  rw [get_flatK _ _ _ t ht']
  have hd : t / 4 < d.size := by omega
  have hg := flat_get d.toList (t / 4) d[t / 4] (t % 4) (by simp [hd]) (by omega)
  rw [show 4 * (t / 4) + t % 4 = t by omega] at hg
  rw [getElem!_pos d _ hd]
  have hlt : t % 4 < (cellsL d[t / 4]).length := by simp [cellsL]; omega
  rw [List.getElem?_eq_getElem hlt] at hg
  rw [getElem!_pos (cellsL d[t / 4]) _ hlt]
  obtain ⟨h1, h2⟩ := List.getElem?_eq_some_iff.1 hg
  have h3 : t < (flat d.toList).toArray.size := by simpa using h1
  rw [getElem!_pos _ t h3]
  simpa using h2.symm
theorem put_flat (d : Array Lb) (ls : List Lb) (r : List Value) (h : d.size = ls.length) : putCells id 0 (flat d.toList).toArray (flat ls ++ r).toArray = (flat d.toList ++ r).toArray := by
  have e3 : (flat d.toList).length = (flat ls).length := by rw [flat_len, flat_len, Array.length_toList, h]
  apply Array.ext_getElem?
  intro i
  unfold putCells
  rw [Array.getElem?_mapIdx]
  simp only [List.getElem?_toArray, List.size_toArray, Nat.zero_le, true_and, Nat.zero_add, Nat.sub_zero, id]
  by_cases hi : i < (flat d.toList).length
  · rw [List.getElem?_append_left hi, List.getElem?_eq_getElem (by rw [List.length_append]; omega), Option.map_some, if_pos hi, List.getElem?_eq_getElem hi]
    have h3 : i < (flat d.toList).toArray.size := by simpa using hi
    rw [getElem!_pos _ i h3]
    simp
  · rw [List.getElem?_append_right (by omega), List.getElem?_append_right (by omega), show (flat ls).length = (flat d.toList).length by omega]
    cases r[i - (flat d.toList).length]? with
    | none => rfl
    | some u => simp only [Option.map_some, if_neg hi]

theorem cmpLays12 (blk off size : Nat) (w : World) : CmpLays Try.prog 74 #[] cellsL 4 cmpL blk off size w :=
  fun _ _ _ _ x y => (compareL_any _ x y).mono fun e w' ⟨he, hu⟩ => ⟨he, hu.grow⟩

set_option maxRecDepth 10000 in
set_option maxHeartbeats 1000000 in
theorem sortF_blk (w : World) (g cap n : Nat) (ls : List Lb) (hb : Blk w g cap ls) (hn : ls.length = n) (hlen : n < 4611686018427387904) :
    Calls Try.prog 76 #[.slice (some ⟨g, 0, none⟩) n cap, .func (.func 74) #[] #[]] w fun e w' => e = .returned (.tuple #[]) ∧ ∃ ls', ls'.Perm ls ∧ ls'.Pairwise (fun x y => ¬ ltL y x) ∧ Blk w' g cap ls' ∧ w.grownBy w' (some g) := by
  have hglt := hb.lt
  obtain ⟨r, h1, h2⟩ := hb
  have hH : HoldsK cellsL 4 w g 0 ls.toArray := by
    intro j hj
    rw [flatK_flat] at hj ⊢
    have hj' : j < (flat ls).length := by simpa using hj
    refine ⟨?_, by simp [World.frozen?, h1]⟩
    rw [getElem!_pos _ j hj]
    unfold World.cell?
    rw [h1]
    simp only [List.getElem?_toArray, Nat.zero_add]
    rw [List.getElem?_append_left hj', List.getElem?_eq_getElem hj']
    simp
  have eg : ∀ args w, (callFunc 74 args).run Try.prog w = .ok (.enter 74 args) w := enters_of Try.func74 (by kernel_rfl) rfl
  have hS := AnyQ.slices_SortFunc sortL 4 Try.isAgg26 Try.sizeOf26 cellsL (fun _ => rfl) (fun x v hv => by simp [cellsL] at hv; rcases hv with rfl | rfl | rfl | rfl <;> rfl) cmpL swoL 74 #[] g 0 cap ls.toArray w eg (cmpLays12 g 0 _ w) hH hglt (by simpa [hn] using hlen)
  have hsz : ls.toArray.size = n := by simpa using hn
  rw [hsz] at hS
  change Calls Try.prog 76 _ _ _ at hS
  refine hS.mono ?_
  rintro e w' ⟨rfl, d', q, os, hperm, hsort, rfl⟩
  have hd's : d'.size = n := by rw [hperm.1]; exact hsz
  have hP : d'.toList.Perm ls := by
    have := hperm.2.2
    rw [show d'.extract 0 n = d' by rw [← hd's]; simp, show ls.toArray.extract 0 n = ls.toArray by rw [← hsz]; simp] at this
    simpa using this
  refine ⟨rfl, d'.toList, hP, ?_, ⟨r, ?_, ?_⟩, ?_⟩
  · rw [List.pairwise_iff_getElem]
    intro a b ha hb hab
    have ha' : a < d'.size := by simpa using ha
    have hb' : b < d'.size := by simpa using hb
    have := hsort a b (Nat.zero_le _) hab (by omega)
    rw [getElem!_pos _ a ha', getElem!_pos _ b hb'] at this
    simpa using (ltC' _ _).1 this
  · unfold sortWorldK
    rw [heap_grow_old _ _ (by simpa [putRowK, putRow, mapBlock, Sort.ahead] using hglt)]
    unfold putRowK putRow
    rw [flatK_flat]
    simp only [mapBlock, Sort.ahead, Array.getElem?_modify, h1, if_true, Option.map_some, onCells]
    rw [put_flat d' ls r (by omega)]
  · rw [← h2, List.length_append, List.length_append, flat_len, flat_len, Array.length_toList]; omega
  · refine ⟨rfl, rfl, rfl, by simp [sortWorldK, putRowK, putRow, mapBlock, Sort.ahead, Sort.grow], fun k hk hne => ?_⟩
    unfold sortWorldK
    rw [heap_grow_old _ _ (by simpa [putRowK, putRow, mapBlock, Sort.ahead] using hk)]
    have hkg : ¬ g = k := fun e => hne (by rw [e])
    simp [putRowK, putRow, mapBlock, Sort.ahead, Array.getElem?_modify, hkg]

theorem sortF_none (w : World) (a : Option Addr) (cap : Nat) (fv : Value) : Calls Try.prog 76 #[.slice a 0 cap, fv] w fun e w' => e = .returned (.tuple #[]) ∧ w = w' := by
  have hS := AnyF.slices_SortFunc_none (P := Try.prog) (ρ := sortL_ren) { sortL with } a cap fv w
  change Calls Try.prog 76 _ _ _ at hS
  exact hS.mono fun _ _ h => ⟨h.1, h.2.symm⟩
end Go.Proofs.Ytpdgoalbknopiaa
namespace Go.Proofs.Ytpdgoalbknopiaa
open Go.RowKit Go.Sort
set_option linter.unusedVariables false

/-- Of the first k those that are not what stands ahead of them. -/
def keep (ls : List Lb) : Nat → List Lb
  | 0 => []
  | k + 1 => keep ls k ++ (match ls[k]? with | some x => if 0 < k ∧ ls[k - 1]? = some x then [] else [x] | none => [])
theorem keep_next {ls : List Lb} {m : Nat} {x y : Lb} (hx : ls[m + 1]? = some x) (hy : ls[m]? = some y) (h : x ≠ y) : keep ls (m + 2) = keep ls (m + 1) ++ [x] := by
  rw [keep, hx]
  simp only [Nat.add_sub_cancel, hy, Option.some.injEq]
  rw [if_neg (fun e => h e.2.symm)]
theorem keep_same {ls : List Lb} {m : Nat} {x : Lb} (hx : ls[m + 1]? = some x) (hy : ls[m]? = some x) : keep ls (m + 2) = keep ls (m + 1) := by
  rw [keep, hx]
  simp only [Nat.add_sub_cancel, hy]
  rw [if_pos ⟨by omega, trivial⟩]
  simp
theorem keep_one {ls : List Lb} {x : Lb} (hx : ls[0]? = some x) : keep ls 1 = [x] := by
  rw [keep, hx, keep]
  simp
theorem keep_le (ls : List Lb) : ∀ k, (keep ls k).length ≤ k
  | 0 => by simp [keep]
  | k + 1 => by
    have := keep_le ls k
    rw [keep, List.length_append]
    split
    · split <;> simp <;> omega
    · simp; omega
/-- Of labels of which none is ahead of a lesser one: each once, rising. -/
theorem keep_asc {ls : List Lb} (h : ls.Pairwise (fun x y => ¬ ltL y x)) : ∀ k, k ≤ ls.length → (keep ls k).Pairwise ltL ∧ (∀ x, x ∈ keep ls k ↔ x ∈ ls.take k) ∧ (∀ m y, k = m + 1 → ls[m]? = some y → ∀ x ∈ keep ls k, ¬ ltL y x)
  | 0, _ => ⟨by simp [keep], by simp [keep], fun m y e => by omega⟩
  | k + 1, hk => by
    obtain ⟨h1, h2, h3⟩ := keep_asc h k (by omega)
    have hp := List.pairwise_iff_getElem.1 h
    obtain ⟨x, hx⟩ : ∃ x, ls[k]? = some x := ⟨ls[k]'(by omega), List.getElem?_eq_getElem (by omega)⟩
    have ht : ∀ y, y ∈ ls.take (k + 1) ↔ y ∈ ls.take k ∨ y = x := fun y => by rw [List.take_add_one, hx]; simp
    have hge : ∀ y ∈ ls.take k, ¬ ltL x y := fun y hy => by
      obtain ⟨j, hj, rfl⟩ := List.mem_iff_getElem.1 hy
      rw [List.length_take] at hj
      have hxk : ls[k]'(by omega) = x := (List.getElem?_eq_some_iff.1 hx).2
      have := hp j k (by omega) (by omega) (by omega)
      rw [hxk] at this
      simpa using this
    have fin : ∀ y, y ∈ keep ls k → ¬ ltL x y := fun y hy => hge y ((h2 y).1 hy)
    cases k with
    | zero =>
      rw [keep_one hx]
      refine ⟨by simp, fun y => by rw [ht]; simp, fun m y e hy z hz => ?_⟩
      obtain rfl : m = 0 := by omega
      rw [hx] at hy
      cases hy
      simp at hz
      subst hz
      exact ltL_irr _
    | succ m =>
      obtain ⟨y, hy⟩ : ∃ y, ls[m]? = some y := ⟨ls[m]'(by omega), List.getElem?_eq_getElem (by omega)⟩
      have hyin : y ∈ ls.take (m + 1) := by rw [List.take_add_one, hy]; simp
      by_cases e : x = y
      · subst e
        rw [keep_same hx hy]
        refine ⟨h1, fun z => ?_, fun m' y' e' hy' z hz => ?_⟩
        · rw [ht, h2 z]
          exact ⟨Or.inl, fun h => h.elim id (fun e => e ▸ hyin)⟩
        · obtain rfl : m' = m + 1 := by omega
          rw [hx] at hy'
          cases hy'
          exact fin z hz
      · rw [keep_next hx hy e]
        refine ⟨?_, fun z => ?_, fun m' y' e' hy' z hz => ?_⟩
        · rw [List.pairwise_append]
          refine ⟨h1, by simp, fun a ha b hb => ?_⟩
          simp at hb
          subst hb
          have ha3 : ¬ ltL y a := h3 m y rfl hy a ha
          have hyx : ltL y b := by
            have hnx : ¬ ltL b y := hge y hyin
            exact Classical.byContradiction fun hn => e (ltL_tri hnx hn)
          exact Classical.byContradiction fun hn => by
            have := ltL_ntrans ha3 hn
            exact this hyx
        · rw [ht, List.mem_append, h2 z]; simp
        · obtain rfl : m' = m + 1 := by omega
          rw [hx] at hy'
          cases hy'
          rw [List.mem_append] at hz
          rcases hz with hz | hz
          · exact fin z hz
          · simp at hz; subst hz; exact ltL_irr _

set_option maxRecDepth 10000 in
set_option maxHeartbeats 2000000 in
theorem compact_some (w : World) (g n cap base : Nat) (ls : List Lb) (hblk : Blk w g cap ls) (hl : ls.length = n) (hbg : base ≤ g) (hcm : cap ≤ maxLen) :
    Calls Try.prog 77 #[.slice (some ⟨g, 0, none⟩) n cap] w fun e w' => ∃ v', e = .returned v' ∧ w'.ownsRow base 26 4 v' (keep ls n).length (flat (keep ls n)) ∧ w.grownBy w' (some g) := by
  have hnc : n ≤ cap := by have := hblk.len; omega
  have hwide : cap ≤ 9223372036854775807 := by unfold maxLen at hcm; omega
  have HOWN : Hid (∀ w', Blk w' g cap ls → w'.ownsRow base 26 4 (.slice (some ⟨g, 0, none⟩) n cap) n (flat ls)) := fun w' hb => by
    have := hb.own hbg hcm n (by omega)
    rwa [List.take_of_length_le (by omega)] at this
  by_cases h2 : n < 2
  · have HE : Hid (w.ownsRow base 26 4 (.slice (some ⟨g, 0, none⟩) n cap) (keep ls n).length (flat (keep ls n)) ∧ w.grownBy w (some g)) := by
      have e : keep ls n = ls := by
        match n, ls, hl, h2 with
        | 0, [], _, _ => rfl
        | 1, [x], _, _ => exact keep_one rfl
      rw [e, hl]
      exact ⟨HOWN.out w hblk, gr_refl _ _⟩
    have h2I : (n : Int) < 2 := by omega
    clear hblk HOWN
    go_enter Try.func77, Try.ntmps77
    go_wp2
    go_ret
    exact ⟨_, rfl, HE.out⟩
  · have h2I : ¬ ((n : Int) < 2) := by omega
    have H1 : Hid (keep ls 1 = ls.take 1) := by
      have hx : ls[0]? = some (ls[0]'(by omega)) := List.getElem?_eq_getElem (by omega)
      show _ = _
      rw [keep_one hx, List.take_add_one, hx]; simp
    go_enter Try.func77, Try.ntmps77
    go_wp2_with fail
    go_loopw [3] (fun iv wr => ∃ m : Nat, m + 1 ≤ n ∧ iv = .int .i64 ((m : Int) + 1) ∧ keep ls (m + 1) = ls.take (m + 1) ∧ Up w wr) (fun iv _ => n - (intOf iv).toNat)
    case atStart => exact ⟨0, by omega, rfl, H1.out, Up.refl _⟩
    case round =>
      obtain ⟨m, hm, rfl, hkp, hu⟩ := hrel
      have HK : Hid (keep ls (m + 1) = ls.take (m + 1)) := hkp
      clear hkp
      have hb := hblk.up hu.bl
      by_cases hlt : m + 1 < n
      · have hltI : (m : Int) + 1 < (n : Int) := by omega
        obtain ⟨x, hx⟩ : ∃ y, ls[m + 1]? = some y := ⟨ls[m + 1]'(by omega), List.getElem?_eq_getElem (by omega)⟩
        obtain ⟨y, hy⟩ : ∃ y, ls[m]? = some y := ⟨ls[m]'(by omega), List.getElem?_eq_getElem (by omega)⟩
        obtain ⟨c0, c1, c2, c3⟩ := hb.cell hx
        obtain ⟨d0, d1, d2, d3⟩ := hb.cell hy
        have heq := fun W => lab_equal x y W
        have HX : Hid (ls[m + 1]? = some x) := hx
        have HY : Hid (ls[m]? = some y) := hy
        clear hx hy
        have hm0 : ¬ ((m : Int) + 1 < 0) := by omega
        have hm1 : ¬ ((m : Int) < 0) := by omega
        have hm2 : (m : Int) < (n : Int) := by omega
        cases he : decide (x = y) with
        | false =>
          rw [he] at heq
          have HK' : Hid (keep ls (m + 1 + 1) = ls.take (m + 1 + 1)) := by
            show _ = _
            rw [keep_next HX.out HY.out (by simpa using he), HK.out, show ls.take (m + 1 + 1) = ls.take (m + 1) ++ ls[m + 1]?.toList from List.take_add_one, HX.out]; rfl
          clear he HK
          go_wp2_with fail
          go_quiet (fail)
          go_wp2
          go_roundw
          case rel => first | exact ⟨m + 1, by omega, by go_num, HK'.out, hu.drewN _⟩ | ((repeat apply Exists.intro); exact ⟨⟨m + 1, by omega, by go_num, HK'.out, hu.drewN _⟩, rfl⟩)
          case measure => simp [intOf]; omega
        | true =>
          rw [he] at heq
          have HK' : Hid (ls.take (m + 1) = keep ls (m + 1 + 1)) := by
            have e : x = y := by simpa using he
            subst e
            show _ = _
            rw [keep_same HX.out HY.out, HK.out]
          clear he HK
          go_wp2_with fail
          go_quiet (fail)
          go_wp2_with fail
          go_loopw [3, 5] (fun kv iv wr => ∃ (k t : Nat) (cur : List Lb), kv = .int .i64 (k : Nat) ∧ iv = .int .i64 ((t : Int) + 1) ∧ k ≤ m + 1 + t ∧ m + 1 + t + 1 ≤ n ∧ Blk wr g cap cur ∧ cur.length = n ∧ cur.take k = keep ls (m + 1 + t + 1) ∧ cur.drop (m + 1 + t) = ls.drop (m + 1 + t) ∧ w.grownBy wr (some g)) (fun _ iv _ => n - (intOf iv).toNat)
          case atStart => exact ⟨m + 1, 0, ls, by go_num, rfl, by omega, by omega, hb, hl, HK'.out, rfl, gr_below (hu.drewN _).bl _⟩
          case round =>
            clear c0 c1 c2 c3 d0 d1 d2 d3 heq HX HY HK' hb
            obtain ⟨k, t, cur, rfl, rfl, hkt, ht, hb, hcl, htk, hdr, hgr⟩ := hrel
            have HTK : Hid (cur.take k = keep ls (m + 1 + t + 1)) := htk
            have HDR : Hid (cur.drop (m + 1 + t) = ls.drop (m + 1 + t)) := hdr
            clear htk hdr
            by_cases hlt2 : m + 1 + t + 1 < n
            · obtain ⟨x, hx⟩ : ∃ y, ls[m + 1 + t + 1]? = some y := ⟨ls[m + 1 + t + 1]'(by omega), List.getElem?_eq_getElem (by omega)⟩
              obtain ⟨y, hy⟩ : ∃ y, ls[m + 1 + t]? = some y := ⟨ls[m + 1 + t]'(by omega), List.getElem?_eq_getElem (by omega)⟩
              have hx' : cur[m + 1 + t + 1]? = some x := by
                have h1 : (cur.drop (m + 1 + t))[1]? = (ls.drop (m + 1 + t))[1]? := by rw [HDR.out]
                simpa [hx] using h1
              have hy' : cur[m + 1 + t]? = some y := by
                have h1 : (cur.drop (m + 1 + t))[0]? = (ls.drop (m + 1 + t))[0]? := by rw [HDR.out]
                simpa [hy] using h1
              obtain ⟨c0, c1, c2, c3⟩ := hb.cell hx'
              obtain ⟨d0, d1, d2, d3⟩ := hb.cell hy'
              rw [show (m + 1 + t + 1) * 4 = (m + 1) * 4 + (t + 1) * 4 by omega] at c0 c1 c2 c3
              rw [show (m + 1 + t) * 4 = (m + 1) * 4 + t * 4 by omega] at d0 d1 d2 d3
              have heq := fun W => lab_equal x y W
              have HX : Hid (ls[m + 1 + t + 1]? = some x) := hx
              have HY : Hid (ls[m + 1 + t]? = some y) := hy
              clear hx hy hx' hy'
              have e1 : (t : Int) + 1 < ((n - (m + 1) : Nat) : Int) := by omega
              have e2 : (t : Int) < ((n - (m + 1) : Nat) : Int) := by omega
              have e3 : ¬ ((t : Int) + 1 < 0) := by omega
              have e4 : ¬ ((t : Int) < 0) := by omega
              have e5 : ¬ ((k : Int) < 0) := by omega
              have e6 : (k : Int) < (n : Int) := by omega
              have HD1 : Hid (cur.drop (m + 1 + (t + 1)) = ls.drop (m + 1 + (t + 1))) := by
                show _ = _
                have h1 : (cur.drop (m + 1 + t)).drop 1 = (ls.drop (m + 1 + t)).drop 1 := by rw [HDR.out]
                rw [List.drop_drop, List.drop_drop] at h1
                exact h1
              cases he : decide (x = y) with
              | true =>
                rw [he] at heq
                have HT : Hid (cur.take k = keep ls (m + 1 + (t + 1) + 1)) := by
                  have e : x = y := by simpa using he
                  subst e
                  show _ = _
                  rw [show m + 1 + (t + 1) + 1 = m + 1 + t + 2 by omega, keep_same HX.out HY.out]
                  exact HTK.out
                clear he HTK
                go_wp2_with fail
                go_quiet (fail)
                go_wp2
                go_roundw
                case rel => first | exact ⟨k, t + 1, cur, by go_num, by go_num, by omega, by omega, hb, hcl, HT.out, HD1.out, gr_trans hgr (gr_below ((Up.refl _).drewN _).bl _)⟩ | ((repeat apply Exists.intro); exact ⟨⟨k, t + 1, cur, by go_num, by go_num, by omega, by omega, hb, hcl, HT.out, HD1.out, gr_trans hgr (gr_below ((Up.refl _).drewN _).bl _)⟩, rfl⟩)
                case measure => simp [intOf]; omega
              | false =>
                rw [he] at heq
                have HT : Hid ((cur.set k x).take (k + 1) = keep ls (m + 1 + (t + 1) + 1)) := by
                  show _ = _
                  rw [show m + 1 + (t + 1) + 1 = m + 1 + t + 2 by omega, keep_next HX.out HY.out (by simpa using he), ← HTK.out, List.take_add_one]
                  have : (cur.set k x)[k]? = some x := by rw [List.getElem?_set_self (by omega)]
                  rw [this, List.take_set_of_le (Nat.le_refl _)]
                  rfl
                have HD2 : Hid ((cur.set k x).drop (m + 1 + (t + 1)) = ls.drop (m + 1 + (t + 1))) := by
                  show _ = _
                  rw [List.drop_set_of_lt (by omega)]
                  exact HD1.out
                have hcl2 : (cur.set k x).length = n := by simpa using hcl
                have hset := fun q => (show Blk (wr.drewN q) g cap cur from hb).set (i := k) (by omega) x
                clear he HTK HD1
                go_wp2_with fail
                go_quiet (fail)
                obtain ⟨w4, hst, hb4, hg4⟩ := hset nq
                have hg5 : w.grownBy w4 (some g) := gr_trans hgr (gr_trans (gr_below ((Up.refl _).drewN nq).bl _) hg4)
                clear hset hg4
                go_wp2_with (first | (refine wpList_store_cells rfl 26 (.tmp 51) (.tmp 50) rfl ⟨g, k * 4, none⟩ #[.int .u64 (x.1 : Nat), .int .i64 x.2.1, .int .u64 (x.2.2.1 : Nat), .int .i64 x.2.2.2] rfl rfl info26 w4 hst ?_))
                go_roundw
                case rel => first | exact ⟨k + 1, t + 1, cur.set k x, by go_num, by go_num, by omega, by omega, hb4, hcl2, HT.out, HD2.out, hg5⟩ | ((repeat apply Exists.intro); exact ⟨⟨k + 1, t + 1, cur.set k x, by go_num, by go_num, by omega, by omega, hb4, hcl2, HT.out, HD2.out, hg5⟩, rfl⟩)
                case measure => simp [intOf]; omega
            · have ent : m + 1 + t + 1 = n := by omega
              have e1 : ¬ ((t : Int) + 1 < ((n - (m + 1) : Nat) : Int)) := by omega
              have e : cur.take k = keep ls n := by rw [← ent]; exact HTK.out
              obtain ⟨w4, hst, hb4, hg4⟩ := hb.clear (i := k) (n := n - k) (by omega) (by omega) (cap - k) 0
              have hk0 : ¬ ((k : Int) < 0) := by omega
              have hlen : (keep ls n).length = k := by rw [← e, List.length_take]; omega
              have HE : Hid (w4.ownsRow base 26 4 (.slice (some ⟨g, 0, none⟩) k cap) (keep ls n).length (flat (keep ls n)) ∧ w.grownBy w4 (some g)) := by
                refine ⟨?_, gr_trans hgr hg4⟩
                have := hb4.own hbg hcm k (by rw [List.length_take]; omega)
                rw [e, List.take_of_length_le (by omega)] at this
                rw [hlen]; exact this
              have hkn : k < n := by omega
              clear hb hgr hg4 hb4 HTK HDR hlen e HOWN hblk hu ent
              go_wp2
              go_ret
              exact ⟨_, rfl, HE.out⟩
      · have em : m + 1 = n := by omega
        have HE : Hid (wr.ownsRow base 26 4 (.slice (some ⟨g, 0, none⟩) n cap) (keep ls n).length (flat (keep ls n)) ∧ w.grownBy wr (some g)) := by
          have e : keep ls n = ls := by rw [← em, HK.out, List.take_of_length_le (by omega)]
          rw [e, hl]
          exact ⟨HOWN.out wr hb, gr_below hu.bl _⟩
        have hltI : ¬ ((m : Int) + 1 < (n : Int)) := by omega
        clear hb HK HOWN hblk em hu
        go_wp2
        go_ret
        exact ⟨_, rfl, HE.out⟩
end Go.Proofs.Ytpdgoalbknopiaa
namespace Go.Proofs.Ytpdgoalbknopiaa
open Go.RowKit Go.Sort
set_option linter.unusedVariables false

theorem asc_eq : ∀ {a b : List Lb}, a.Pairwise ltL → b.Pairwise ltL → (∀ x, x ∈ a ↔ x ∈ b) → a = b
  | [], [], _, _, _ => rfl
  | [], y :: b, _, _, h => by have := (h y).2 (by simp); simp at this
  | x :: a, [], _, _, h => by have := (h x).1 (by simp); simp at this
  | x :: a, y :: b, ha, hb, h => by
    obtain ⟨ha1, ha2⟩ := List.pairwise_cons.1 ha
    obtain ⟨hb1, hb2⟩ := List.pairwise_cons.1 hb
    have hxy : x = y := by
      have h1 := (h x).1 (by simp)
      have h2 := (h y).2 (by simp)
      rw [List.mem_cons] at h1 h2
      rcases h1 with e | h1
      · exact e
      · rcases h2 with e | h2
        · exact e.symm
        · exact absurd (ltL_trans (ha1 y h2) (hb1 x h1)) (ltL_irr x)
    subst hxy
    have hna : x ∉ a := fun hm => ltL_irr x (ha1 x hm)
    have hnb : x ∉ b := fun hm => ltL_irr x (hb1 x hm)
    rw [asc_eq ha2 hb2 (fun z => ?_)]
    have := h z
    rw [List.mem_cons, List.mem_cons] at this
    constructor
    · intro hz
      rcases this.1 (Or.inr hz) with e | hz'
      · subst e; exact absurd hz hna
      · exact hz'
    · intro hz
      rcases this.2 (Or.inr hz) with e | hz'
      · subst e; exact absurd hz hnb
      · exact hz'
theorem asc_nodup {a : List Lb} (h : a.Pairwise ltL) : a.Nodup := h.imp (fun {x y} hxy e => by subst e; exact ltL_irr _ hxy)
theorem nodup_len : ∀ {a b : List Lb}, a.Nodup → (∀ x ∈ a, x ∈ b) → a.length ≤ b.length
  | [], b, _, _ => by simp
  | x :: a, b, h, hs => by
    obtain ⟨h1, h2⟩ := List.nodup_cons.1 h
    have hxb := hs x (by simp)
    have := nodup_len (b := b.erase x) h2 (fun y hy => (List.mem_erase_of_ne (fun (e : y = x) => h1 (e ▸ hy))).2 (hs y (by simp [hy])))
    rw [List.length_erase_of_mem hxb] at this
    have : 0 < b.length := List.length_pos_of_mem hxb
    simp
    omega
theorem not_nodup : ∀ {b : List Lb}, ¬ b.Nodup → ∃ l1 x l2, b = l1 ++ x :: l2 ∧ x ∈ l2
  | [], h => absurd List.nodup_nil h
  | y :: b, h => by
    by_cases hy : y ∈ b
    · exact ⟨[], y, b, rfl, hy⟩
    · obtain ⟨l1, x, l2, e, hx⟩ := not_nodup (b := b) (fun hb => h (List.nodup_cons.2 ⟨hy, hb⟩))
      exact ⟨y :: l1, x, l2, by rw [e]; rfl, hx⟩
theorem twice_iff {a b : List Lb} (ha : a.Pairwise ltL) (h : ∀ x, x ∈ a ↔ x ∈ b) : a.length < b.length ↔ ¬ b.Nodup := by
  constructor
  · intro hl hb
    have := nodup_len hb (fun x hx => (h x).2 hx)
    omega
  · intro hb
    obtain ⟨l1, x, l2, e, hx⟩ := not_nodup hb
    have := nodup_len (b := l1 ++ l2) (asc_nodup ha) (fun y hy => by
      have := (h y).1 hy
      rw [e] at this
      simp at this ⊢
      rcases this with h | h | h
      · exact Or.inl h
      · subst h; exact Or.inr hx
      · exact Or.inr h)
    rw [e]
    simp at this ⊢
    omega

theorem infoL : (Try.prog.info? 26).map (fun i => (i.zero, i.size, i.bytes)) = some (some (.agg #[.int .u64 0, .int .i64 0, .int .u64 0, .int .i64 0]), 4, 32) := by kernel_rfl
theorem LR.cells {w : World} {a : Addr} {n : Nat} {ls : List Lb} (h : LR w (some a) n ls) : ∀ j u, (flat ls)[j]? = some u → w.cell? (a.add j) = some u := by
  intro j u hj
  obtain ⟨hl, _, hc⟩ := h
  have hjl : j < ls.length * 4 := by
    have := (List.getElem?_eq_some_iff.1 hj).1
    rwa [flat_len] at this
  obtain ⟨b, off, e, hcell⟩ := hc (by omega)
  cases e
  rw [Addr.add_lit]
  obtain ⟨x, hx⟩ : ∃ x, ls[j / 4]? = some x := ⟨ls[j / 4]'(by omega), List.getElem?_eq_getElem (by omega)⟩
  have hf := flat_get ls (j / 4) x (j % 4) hx (by omega)
  rw [show 4 * (j / 4) + j % 4 = j by omega, hj] at hf
  obtain ⟨c0, c1, c2, c3⟩ := hcell _ x hx
  have hm : j % 4 = 0 ∨ j % 4 = 1 ∨ j % 4 = 2 ∨ j % 4 = 3 := by omega
  rcases hm with e | e | e | e
  · rw [e] at hf; simp [cellsL] at hf; rw [hf, show off + j = off + j / 4 * 4 by omega]; exact c0
  · rw [e] at hf; simp [cellsL] at hf; rw [hf, show off + j = off + j / 4 * 4 + 1 by omega]; exact c1
  · rw [e] at hf; simp [cellsL] at hf; rw [hf, show off + j = off + j / 4 * 4 + 2 by omega]; exact c2
  · rw [e] at hf; simp [cellsL] at hf; rw [hf, show off + j = off + j / 4 * 4 + 3 by omega]; exact c3

set_option maxRecDepth 10000 in
set_option maxHeartbeats 1000000 in
theorem clone_any (w : World) (ao : Option Addr) (n cap : Nat) (ls : List Lb) (h : LR w ao n ls) (hn : n ≤ 1000) (hz : ao = none → n = 0) :
    Calls Try.prog 75 #[.slice ao n cap] w fun e w' => ∃ v, e = .returned v ∧ w'.ownsRow w.heap.size 26 4 v n (flat ls) ∧ Below w.heap.size w w' := by
  obtain ⟨i0, hi0, hz0, hz1, hz2⟩ := info_parts infoL
  have q32 := fun (w : World) (a : Option Addr) (n c n' c' : Nat) => Lib.run_eql_slice_nil (P := Try.prog) w 36 26 a n c n' c' und32
  have hl := h.1
  cases ao with
  | none =>
    obtain rfl := hz rfl
    obtain rfl : ls = [] := List.length_eq_zero_iff.1 hl
    go_enter Try.func75, Try.ntmps75
    go_wp2
    go_ret
    exact ⟨_, rfl, ⟨rfl, .inl ⟨rfl, rfl⟩⟩, Below.refl _ _⟩
  | some ad =>
    have hA : Hid (∀ j u, (flat ls)[j]? = some u → w.cell? (ad.add j) = some u) := h.cells
    have HF : Hid ((flat ls).length = n * 4) := by show _ = _; rw [flat_len, hl]
    clear h hz
    go_enter Try.func75, Try.ntmps75
    go_wp2_with (at_builtin; refine wpList_append_own_at _ rfl _ _ 36 rfl w.heap.size 26 i0 (.agg #[.int .u64 0, .int .i64 0, .int .u64 0, .int .i64 0]) 4 32 und32 hi0 hz0 hz1 hz2 rfl (by decide) _ 0 [] rfl ?d1 ad n cap (flat ls) rfl ?d2 ?d3 ?d4 ?d6 ?d7 ?d8 ?_)
    case d1 => exact World.ownsRow_made w #[] 0 (Nat.le_refl _) (Nat.zero_le _) (by simp)
    case d2 => exact HF.out
    case d3 => exact fun j u hj => ((bl1 w _).cell (World.block_lt_of_cell? w _ (hA.out j u hj))).trans (hA.out j u hj)
    case d4 => exact fun u hu => flat_one hu
    case d6 => unfold maxLen; omega
    case d7 => omega
    case d8 => simp
    intro v' w1 hown hgrow hnil hat
    have HE : Hid (w1.ownsRow w.heap.size 26 4 v' n (flat ls) ∧ Below w.heap.size w w1) := ⟨by simpa using hown, bl_grown (bl1 w _) (by simp) hgrow (by intro k hk; simp [Value.ownBlock] at hk; omega)⟩
    clear hown hgrow hnil hat
    go_wp2
    go_ret
    exact ⟨v', rfl, HE.out⟩

theorem compact_none (w : World) : Calls Try.prog 77 #[.slice none 0 0] w fun e w' => e = .returned (.slice none 0 0) ∧ w = w' := by
  go_enter Try.func77, Try.ntmps77
  go_wp2
  go_ret
  exact ⟨rfl, rfl⟩

set_option maxRecDepth 10000 in
set_option maxHeartbeats 1000000 in
theorem sort_any (w : World) (ao : Option Addr) (n cap : Nat) (ls : List Lb) (h : LR w ao n ls) (hn : n ≤ 1000) (hz : ao = none → n = 0) :
    Calls Try.prog 71 #[.slice ao n cap] w fun e w' => ∃ v rs, e = .returned v ∧ rs.Pairwise ltL ∧ (∀ x, x ∈ rs ↔ x ∈ ls) ∧ w'.ownsRow w.heap.size 26 4 v rs.length (flat rs) ∧ Below w.heap.size w w' := by
  have hl := h.1
  have hcl := clone_any w ao n cap ls h hn hz
  clear h hz
  go_enter Try.func71, Try.ntmps71
  go_wp2_with fail
  refine hcl.mono ?_
  rintro e w1 ⟨v, rfl, hown, hb1⟩
  clear hcl
  rcases hown.2 with ⟨rfl, rfl⟩ | ⟨g, cp, cur, rfl, _⟩
  · obtain rfl : ls = [] := List.length_eq_zero_iff.1 hl
    clear hown
    go_wp2_with fail
    refine (sortF_none _ _ _ _).mono ?_
    rintro e w2 ⟨rfl, rfl⟩
    go_wp2_with fail
    refine (compact_none _).mono ?_
    rintro e w2 ⟨rfl, rfl⟩
    go_wp2
    go_ret
    exact ⟨_, [], rfl, by simp, by simp, ⟨rfl, .inl ⟨rfl, rfl⟩⟩, hb1⟩
  · obtain ⟨hblk, hbg, hnc, hcm⟩ := Blk.ofOwn hown
    have hsort := sortF_blk w1 g cp n ls hblk hl (by omega)
    clear hown hblk
    go_wp2_with fail
    refine hsort.mono ?_
    rintro e w2 ⟨rfl, ls', hperm, hasc, hblk2, hg2⟩
    have hl2 : ls'.length = n := by rw [hperm.length_eq]; exact hl
    have hcp := compact_some w2 g n cp w.heap.size ls' hblk2 hl2 hbg hcm
    have HP : Hid ((keep ls' n).Pairwise ltL ∧ ∀ x, x ∈ keep ls' n ↔ x ∈ ls) := by
      obtain ⟨a1, a2, _⟩ := keep_asc hasc n (by omega)
      refine ⟨a1, fun x => ?_⟩
      rw [a2 x, List.take_of_length_le (by omega)]
      exact hperm.mem_iff
    have hb2 : Below w.heap.size w w2 := bl_grown hb1 hb1.size hg2 (fun k hk => by cases hk; exact hbg)
    clear hperm hasc hblk2 hg2 hsort
    go_wp2_with fail
    refine hcp.mono ?_
    rintro e w3 ⟨v3, rfl, hown3, hg3⟩
    have hb3 : Below w.heap.size w w3 := bl_grown hb2 hb2.size hg3 (fun k hk => by cases hk; exact hbg)
    have HE : Hid (w3.ownsRow w.heap.size 26 4 v3 (keep ls' n).length (flat (keep ls' n)) ∧ Below w.heap.size w w3) := ⟨hown3, hb3⟩
    clear hown3 hg3 hb3 hcp hb2 hb1
    go_wp2
    go_ret
    exact ⟨v3, _, rfl, HP.out.1, HP.out.2, HE.out⟩

set_option maxRecDepth 10000 in
theorem twice_any (w : World) (ao : Option Addr) (n cap : Nat) (ls : List Lb) (h : LR w ao n ls) (hn : n ≤ 1000) (hz : ao = none → n = 0) :
    Calls Try.prog 59 #[.slice ao n cap] w fun e w' => e = .returned (.bool (decide (¬ ls.Nodup))) ∧ Below w.heap.size w w' := by
  have hl := h.1
  have hso := sort_any w ao n cap ls h hn hz
  clear h hz
  generalize hdd : decide (¬ ls.Nodup) = r
  have HD : Hid (decide (¬ ls.Nodup) = r) := hdd
  clear hdd
  go_enter Try.func59, Try.ntmps59
  go_wp2_with fail
  refine hso.mono ?_
  rintro e w1 ⟨v, rs, rfl, hasc, hmem, hown, hb⟩
  obtain ⟨ao1, cp1, rfl, _⟩ := LR.own hown
  have HT : Hid (decide (rs.length < n) = r) := by
    show _ = _
    rw [← HD.out]
    have := twice_iff hasc hmem
    rw [hl] at this
    apply decide_eq_decide.2
    exact this
  clear hso hasc hmem hown
  go_wp2
  go_ret
  exact ⟨ret_bool HT.out, hb⟩
end Go.Proofs.Ytpdgoalbknopiaa
