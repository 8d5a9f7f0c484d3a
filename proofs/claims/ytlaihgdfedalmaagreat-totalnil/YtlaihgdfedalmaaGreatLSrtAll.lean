/-
  slices.SortFunc of Go's library, at this program: its functions are those of the library's contract.
  slices.SortFunc of labels by label.Compare: the same labels, none ahead of a lesser one.
  slices.Compact of labels: of neighbours that are one, one.
  Sort and Twice of package label.
-/
import Derived.Shelf.SlSortCmp.NoneTotal
import Derived.Ground.SlsfProg
import Derived.Test.YtlaihgdfedalmaaGreatProg
import Derived.Test.YtlaihgdfedalmaaGreatLAll
import Derived.Laws.AppendOwnNone
namespace Go.Proofs.YtlaihgdfedalmaaGreat
open Go.Shelf
def sortL_ren : Go.Shelf.Ren := ⟨fun | 6 => 175 | 15 => 183 | 14 => 182 | 28 => 193 | 29 => 194 | 20 => 185 | 21 => 186 | 22 => 187 | 23 => 188 | 24 => 189 | 25 => 190 | 26 => 191 | 27 => 192 | 46 => 196 | 47 => 197 | 48 => 198 | 49 => 199 | 50 => 200 | 57 => 201 | n => n, fun | 22 => 43 | 24 => 39 | 25 => 213 | 3 => 3 | 39 => 197 | 0 => 0 | 53 => 236 | 55 => 31 | 4 => 4 | 46 => 229 | 45 => 228 | 50 => 233 | 5 => 5 | 9 => 9 | 66 => 237 | 70 => 240 | 76 => 242 | 77 => 243 | n => n, fun | n => n⟩
theorem sortL : Go.Proofs.SlLaysF0.n6 Tryz.prog sortL_ren := {
  mixed := by kernel_rfl
  f6 := ⟨Tryz.f175.name, by decide, Tryz.func175.trans (congrArg some (by kernel_rfl))⟩
  f14 := ⟨Tryz.f182.name, by decide, Tryz.func182.trans (congrArg some (by kernel_rfl))⟩
  f15 := Tryz.func183.trans (congrArg some (by kernel_rfl))
  f20 := ⟨Tryz.f185.name, by decide, Tryz.func185.trans (congrArg some (by kernel_rfl))⟩
  f21 := ⟨Tryz.f186.name, by decide, Tryz.func186.trans (congrArg some (by kernel_rfl))⟩
  f22 := ⟨Tryz.f187.name, by decide, Tryz.func187.trans (congrArg some (by kernel_rfl))⟩
  f23 := ⟨Tryz.f188.name, by decide, Tryz.func188.trans (congrArg some (by kernel_rfl))⟩
  f24 := ⟨Tryz.f189.name, by decide, Tryz.func189.trans (congrArg some (by kernel_rfl))⟩
  f25 := ⟨Tryz.f190.name, by decide, Tryz.func190.trans (congrArg some (by kernel_rfl))⟩
  f26 := ⟨Tryz.f191.name, by decide, Tryz.func191.trans (congrArg some (by kernel_rfl))⟩
  f27 := ⟨Tryz.f192.name, by decide, Tryz.func192.trans (congrArg some (by kernel_rfl))⟩
  f28 := Tryz.func193.trans (congrArg some (by kernel_rfl))
  f29 := Tryz.func194.trans (congrArg some (by kernel_rfl))
  f46 := ⟨Tryz.f196.name, by decide, Tryz.func196.trans (congrArg some (by kernel_rfl))⟩
  f47 := Tryz.func197.trans (congrArg some (by kernel_rfl))
  f48 := Tryz.func198.trans (congrArg some (by kernel_rfl))
  f49 := ⟨Tryz.f199.name, by decide, Tryz.func199.trans (congrArg some (by kernel_rfl))⟩
  f50 := ⟨Tryz.f200.name, by decide, Tryz.func200.trans (congrArg some (by kernel_rfl))⟩
  f57 := ⟨Tryz.f201.name, by decide, Tryz.func201.trans (congrArg some (by kernel_rfl))⟩
  t0 := Tryz.underlying0
  a0 := Tryz.isAgg0
  z0 := Tryz.sizeOf0
  v0 := Tryz.zeroValue0
  t3 := Tryz.underlying3
  a3 := Tryz.isAgg3
  z3 := Tryz.sizeOf3
  v3 := Tryz.zeroValue3
  t4 := Tryz.underlying4
  a4 := Tryz.isAgg4
  z4 := Tryz.sizeOf4
  v4 := Tryz.zeroValue4
  t5 := Tryz.underlying5
  a5 := Tryz.isAgg5
  z5 := Tryz.sizeOf5
  v5 := Tryz.zeroValue5
  t9 := Tryz.underlying9
  a9 := Tryz.isAgg9
  z9 := Tryz.sizeOf9
  v9 := Tryz.zeroValue9
  t22 := Tryz.underlying43
  a22 := Tryz.isAgg43
  z22 := Tryz.sizeOf43
  v22 := Tryz.zeroValue43
  t25 := Tryz.underlying213
  a25 := Tryz.isAgg213
  z25 := Tryz.sizeOf213
  v25 := Tryz.zeroValue213
  t39 := Tryz.underlying197
  a39 := Tryz.isAgg197
  z39 := Tryz.sizeOf197
  v39 := Tryz.zeroValue197
  t45 := Tryz.underlying228
  a45 := Tryz.isAgg228
  z45 := Tryz.sizeOf228
  v45 := Tryz.zeroValue228
  t46 := Tryz.underlying229
  a46 := Tryz.isAgg229
  z46 := Tryz.sizeOf229
  v46 := Tryz.zeroValue229
  t50 := Tryz.underlying233
  a50 := Tryz.isAgg233
  z50 := Tryz.sizeOf233
  v50 := Tryz.zeroValue233
  t53 := Tryz.underlying236
  a53 := Tryz.isAgg236
  z53 := Tryz.sizeOf236
  v53 := Tryz.zeroValue236
  t55 := Tryz.underlying31
  a55 := Tryz.isAgg31
  z55 := Tryz.sizeOf31
  v55 := Tryz.zeroValue31
  t66 := Tryz.underlying237
  a66 := Tryz.isAgg237
  z66 := Tryz.sizeOf237
  v66 := Tryz.zeroValue237
  t70 := Tryz.underlying240
  a70 := Tryz.isAgg240
  z70 := Tryz.sizeOf240
  v70 := Tryz.zeroValue240
  t76 := Tryz.underlying242
  a76 := Tryz.isAgg242
  z76 := Tryz.sizeOf242
  v76 := Tryz.zeroValue242
  t77 := Tryz.underlying243
  a77 := Tryz.isAgg243
  z77 := Tryz.sizeOf243
  v77 := Tryz.zeroValue243 }
end Go.Proofs.YtlaihgdfedalmaaGreat
namespace Go.Proofs.YtlaihgdfedalmaaGreat
open Go.RowKit Go.Shelf Go.Lib Go.Sort
set_option linter.unusedVariables false

/-- Is a label less than another one? -/
def ltLS (x y : Lb) : Prop := x.1 < y.1 ∨ x.1 = y.1 ∧ (x.2.1 < y.2.1 ∨ x.2.1 = y.2.1 ∧ (x.2.2.1 < y.2.2.1 ∨ x.2.2.1 = y.2.2.1 ∧ x.2.2.2 < y.2.2.2))
theorem cmpL_ltS (x y : Lb) : cmpL x y < 0 ↔ ltLS x y := by
  obtain ⟨n1, p1, s1, q1⟩ := x
  obtain ⟨n2, p2, s2, q2⟩ := y
  unfold cmpL cmpV sgn ltLS
  simp only
  repeat' split
  all_goals omega
theorem ltL_irrS (x : Lb) : ¬ ltLS x x := by unfold ltLS; omega
theorem ltL_transS {x y z : Lb} (h : ltLS x y) (k : ltLS y z) : ltLS x z := by unfold ltLS at *; omega
theorem ltL_ntransS {x y z : Lb} (h : ¬ ltLS x y) (k : ¬ ltLS y z) : ¬ ltLS x z := by unfold ltLS at *; omega
theorem ltL_triS {x y : Lb} (h : ¬ ltLS x y) (k : ¬ ltLS y x) : x = y := by
  obtain ⟨n1, p1, s1, q1⟩ := x
  obtain ⟨n2, p2, s2, q2⟩ := y
  unfold ltLS at *
  simp only [Prod.mk.injEq] at *
  omega
theorem ltC (x y : Lb) : ltOf cmpL x y = true ↔ ltLS x y := by unfold ltOf; rw [← cmpL_ltS]; simp
theorem ltC' (x y : Lb) : ltOf cmpL x y = false ↔ ¬ ltLS x y := by rw [← ltC]; simp
theorem swoL : SWO (ltOf cmpL) where
  irrefl x := (ltC' _ _).2 (ltL_irrS x)
  trans x y z h1 h2 := (ltC _ _).2 (ltL_transS ((ltC _ _).1 h1) ((ltC _ _).1 h2))
  ntrans x y z h1 h2 := (ltC' _ _).2 (ltL_ntransS ((ltC' _ _).1 h1) ((ltC' _ _).1 h2))

theorem flatK_flat (d : Array Lb) : flatK cellsL 4 d = (flat d.toList).toArray := by
  refine ext_get! (by simp [flat_len]) fun t ht => ?_
  have ht' : t < d.size * 4 := by simpa using ht
  rw [get_flatK _ _ _ t ht']
  have hd : t / 4 < d.size := by omega
  have hg := flat_get d.toList (t / 4) d[t / 4] (t % 4) (by simp [hd]) (by omega)
  rw [show 4 * (t / 4) + t % 4 = t by omega] at hg
  rw [getElem!_pos d _ hd]
  have hlt : t % 4 < (cellsL d[t / 4]).length := by simp [cellsL]; omega
  rw [List.getElem?_eq_getElem hlt] at hg
  rw [getElem!_pos (cellsL d[t / 4]) _ hlt]
  obtain ⟨h1, h2⟩ := List.getElem?_eq_some_iff.1 hg
  have h3 : t < (flat d.toList).toArray.size := by simpa using h1
  rw [getElem!_pos _ t h3]
  simpa using h2.symm
theorem put_flat (d : Array Lb) (ls : List Lb) (r : List Value) (h : d.size = ls.length) : putCells id 0 (flat d.toList).toArray (flat ls ++ r).toArray = (flat d.toList ++ r).toArray := by
  have e3 : (flat d.toList).length = (flat ls).length := by rw [flat_len, flat_len, Array.length_toList, h]
  apply Array.ext_getElem?
  intro i
  unfold putCells
  rw [Array.getElem?_mapIdx]
  simp only [List.getElem?_toArray, List.size_toArray, Nat.zero_le, true_and, Nat.zero_add, Nat.sub_zero, id]
  by_cases hi : i < (flat d.toList).length
  · rw [List.getElem?_append_left hi, List.getElem?_eq_getElem (by rw [List.length_append]; omega), Option.map_some, if_pos hi, List.getElem?_eq_getElem hi]
    have h3 : i < (flat d.toList).toArray.size := by simpa using hi
    rw [getElem!_pos _ i h3]
    simp
  · rw [List.getElem?_append_right (by omega), List.getElem?_append_right (by omega), show (flat ls).length = (flat d.toList).length by omega]
    cases r[i - (flat d.toList).length]? with
    | none => rfl
    | some u => simp only [Option.map_some, if_neg hi]

theorem cmpLays12 (blk off size : Nat) (w : World) : CmpLays Tryz.prog 170 #[] cellsL 4 cmpL blk off size w :=
  fun _ _ _ _ x y => (compareL_any _ x y).mono fun e w' ⟨he, hu⟩ => ⟨he, hu.grow⟩

set_option maxRecDepth 10000 in
set_option maxHeartbeats 1000000 in
theorem sortF_blk (w : World) (g cap n : Nat) (ls : List Lb) (hb : Blk w g cap ls) (hn : ls.length = n) (hlen : n < 4611686018427387904) :
    Calls Tryz.prog 175 #[.slice (some ⟨g, 0, none⟩) n cap, .func (.func 170) #[] #[]] w fun e w' => e = .returned (.tuple #[]) ∧ ∃ ls', ls'.Perm ls ∧ ls'.Pairwise (fun x y => ¬ ltLS y x) ∧ Blk w' g cap ls' ∧ w.grownBy w' (some g) := by
  have hglt := hb.lt
  obtain ⟨r, h1, h2⟩ := hb
  have hH : HoldsK cellsL 4 w g 0 ls.toArray := by
    intro j hj
    rw [flatK_flat] at hj ⊢
    have hj' : j < (flat ls).length := by simpa using hj
    refine ⟨?_, by simp [World.frozen?, h1]⟩
    rw [getElem!_pos _ j hj]
    unfold World.cell?
    rw [h1]
    simp only [List.getElem?_toArray, Nat.zero_add]
    rw [List.getElem?_append_left hj', List.getElem?_eq_getElem hj']
    simp
  have eg : ∀ args w, (callFunc 170 args).run Tryz.prog w = .ok (.enter 170 args) w := enters_of Tryz.func170 (by kernel_rfl) rfl
  have hS := AnyQ.slices_SortFunc sortL 4 Tryz.isAgg39 Tryz.sizeOf39 cellsL (fun _ => rfl) (fun x v hv => by simp [cellsL] at hv; rcases hv with rfl | rfl | rfl | rfl <;> rfl) cmpL swoL 170 #[] g 0 cap ls.toArray w eg (cmpLays12 g 0 _ w) hH hglt (by simpa [hn] using hlen)
  have hsz : ls.toArray.size = n := by simpa using hn
  rw [hsz] at hS
  change Calls Tryz.prog 175 _ _ _ at hS
  refine hS.mono ?_
  rintro e w' ⟨rfl, d', q, os, hperm, hsort, rfl⟩
  have hd's : d'.size = n := by rw [hperm.1]; exact hsz
  have hP : d'.toList.Perm ls := by
    have := hperm.2.2
    rw [show d'.extract 0 n = d' by rw [← hd's]; simp, show ls.toArray.extract 0 n = ls.toArray by rw [← hsz]; simp] at this
    simpa using this
  refine ⟨rfl, d'.toList, hP, ?_, ⟨r, ?_, ?_⟩, ?_⟩
  · rw [List.pairwise_iff_getElem]
    intro a b ha hb hab
    have ha' : a < d'.size := by simpa using ha
    have hb' : b < d'.size := by simpa using hb
    have := hsort a b (Nat.zero_le _) hab (by omega)
    rw [getElem!_pos _ a ha', getElem!_pos _ b hb'] at this
    simpa using (ltC' _ _).1 this
  · unfold sortWorldK
    rw [heap_grow_old _ _ (by simpa [putRowK, putRow, mapBlock, Sort.ahead] using hglt)]
    unfold putRowK putRow
    rw [flatK_flat]
    simp only [mapBlock, Sort.ahead, Array.getElem?_modify, h1, if_true, Option.map_some, onCells]
    rw [put_flat d' ls r (by omega)]
  · rw [← h2, List.length_append, List.length_append, flat_len, flat_len, Array.length_toList]; omega
  · refine ⟨rfl, rfl, rfl, by simp [sortWorldK, putRowK, putRow, mapBlock, Sort.ahead, Sort.grow], fun k hk hne => ?_⟩
    unfold sortWorldK
    rw [heap_grow_old _ _ (by simpa [putRowK, putRow, mapBlock, Sort.ahead] using hk)]
    have hkg : ¬ g = k := fun e => hne (by rw [e])
    simp [putRowK, putRow, mapBlock, Sort.ahead, Array.getElem?_modify, hkg]

theorem sortF_none (w : World) (a : Option Addr) (cap : Nat) (fv : Value) : Calls Tryz.prog 175 #[.slice a 0 cap, fv] w fun e w' => e = .returned (.tuple #[]) ∧ w = w' := by
  have hS := AnyF.slices_SortFunc_none (P := Tryz.prog) (ρ := sortL_ren) { sortL with } a cap fv w
  change Calls Tryz.prog 175 _ _ _ at hS
  exact hS.mono fun _ _ h => ⟨h.1, h.2.symm⟩
end Go.Proofs.YtlaihgdfedalmaaGreat
namespace Go.Proofs.YtlaihgdfedalmaaGreat
open Go.RowKit Go.Sort
set_option linter.unusedVariables false

/-- Of the first k those that are not what stands ahead of them. -/
def keep (ls : List Lb) : Nat → List Lb
  | 0 => []
  | k + 1 => keep ls k ++ (match ls[k]? with | some x => if 0 < k ∧ ls[k - 1]? = some x then [] else [x] | none => [])
theorem keep_next {ls : List Lb} {m : Nat} {x y : Lb} (hx : ls[m + 1]? = some x) (hy : ls[m]? = some y) (h : x ≠ y) : keep ls (m + 2) = keep ls (m + 1) ++ [x] := by
  rw [keep, hx]
  simp only [Nat.add_sub_cancel, hy, Option.some.injEq]
  rw [if_neg (fun e => h e.2.symm)]
theorem keep_same {ls : List Lb} {m : Nat} {x : Lb} (hx : ls[m + 1]? = some x) (hy : ls[m]? = some x) : keep ls (m + 2) = keep ls (m + 1) := by
  rw [keep, hx]
  simp only [Nat.add_sub_cancel, hy]
  rw [if_pos ⟨by omega, trivial⟩]
  simp
theorem keep_one {ls : List Lb} {x : Lb} (hx : ls[0]? = some x) : keep ls 1 = [x] := by
  rw [keep, hx, keep]
  simp
/-- Of labels of which none is ahead of a lesser one: each once, rising. -/
theorem keep_asc {ls : List Lb} (h : ls.Pairwise (fun x y => ¬ ltLS y x)) : ∀ k, k ≤ ls.length → (keep ls k).Pairwise ltLS ∧ (∀ x, x ∈ keep ls k ↔ x ∈ ls.take k) ∧ (∀ m y, k = m + 1 → ls[m]? = some y → ∀ x ∈ keep ls k, ¬ ltLS y x)
  | 0, _ => ⟨by simp [keep], by simp [keep], fun m y e => by omega⟩
  | k + 1, hk => by
    obtain ⟨h1, h2, h3⟩ := keep_asc h k (by omega)
    have hp := List.pairwise_iff_getElem.1 h
    obtain ⟨x, hx⟩ : ∃ x, ls[k]? = some x := ⟨ls[k]'(by omega), List.getElem?_eq_getElem (by omega)⟩
    have ht : ∀ y, y ∈ ls.take (k + 1) ↔ y ∈ ls.take k ∨ y = x := fun y => by rw [List.take_add_one, hx]; simp
    have hge : ∀ y ∈ ls.take k, ¬ ltLS x y := fun y hy => by
      obtain ⟨j, hj, rfl⟩ := List.mem_iff_getElem.1 hy
      rw [List.length_take] at hj
      have hxk : ls[k]'(by omega) = x := (List.getElem?_eq_some_iff.1 hx).2
      have := hp j k (by omega) (by omega) (by omega)
      rw [hxk] at this
      simpa using this
    have fin : ∀ y, y ∈ keep ls k → ¬ ltLS x y := fun y hy => hge y ((h2 y).1 hy)
    cases k with
    | zero =>
      rw [keep_one hx]
      refine ⟨by simp, fun y => by rw [ht]; simp, fun m y e hy z hz => ?_⟩
      obtain rfl : m = 0 := by omega
      rw [hx] at hy
      cases hy
      simp at hz
      subst hz
      exact ltL_irrS _
    | succ m =>
      obtain ⟨y, hy⟩ : ∃ y, ls[m]? = some y := ⟨ls[m]'(by omega), List.getElem?_eq_getElem (by omega)⟩
      have hyin : y ∈ ls.take (m + 1) := by rw [List.take_add_one, hy]; simp
      by_cases e : x = y
      · subst e
        rw [keep_same hx hy]
        refine ⟨h1, fun z => ?_, fun m' y' e' hy' z hz => ?_⟩
        · rw [ht, h2 z]
          exact ⟨Or.inl, fun h => h.elim id (fun e => e ▸ hyin)⟩
        · obtain rfl : m' = m + 1 := by omega
          rw [hx] at hy'
          cases hy'
          exact fin z hz
      · rw [keep_next hx hy e]
        refine ⟨?_, fun z => ?_, fun m' y' e' hy' z hz => ?_⟩
        · rw [List.pairwise_append]
          refine ⟨h1, by simp, fun a ha b hb => ?_⟩
          simp at hb
          subst hb
          have ha3 : ¬ ltLS y a := h3 m y rfl hy a ha
          have hyx : ltLS y b := by
            have hnx : ¬ ltLS b y := hge y hyin
            exact Classical.byContradiction fun hn => e (ltL_triS hnx hn)
          exact Classical.byContradiction fun hn => by
            have := ltL_ntransS ha3 hn
            exact this hyx
        · rw [ht, List.mem_append, h2 z]; simp
        · obtain rfl : m' = m + 1 := by omega
          rw [hx] at hy'
          cases hy'
          rw [List.mem_append] at hz
          rcases hz with hz | hz
          · exact fin z hz
          · simp at hz; subst hz; exact ltL_irrS _

set_option maxRecDepth 10000 in
set_option maxHeartbeats 2000000 in
theorem compact_some (w : World) (g n cap base : Nat) (ls : List Lb) (hblk : Blk w g cap ls) (hl : ls.length = n) (hbg : base ≤ g) (hcm : cap ≤ maxLen) :
    Calls Tryz.prog 176 #[.slice (some ⟨g, 0, none⟩) n cap] w fun e w' => ∃ v', e = .returned v' ∧ w'.ownsRow base 39 4 v' (keep ls n).length (flat (keep ls n)) ∧ w.grownBy w' (some g) := by
  have hnc : n ≤ cap := by have := hblk.len; omega
  have hwide : cap ≤ 9223372036854775807 := by unfold maxLen at hcm; omega
  have HOWN : Hid (∀ w', Blk w' g cap ls → w'.ownsRow base 39 4 (.slice (some ⟨g, 0, none⟩) n cap) n (flat ls)) := fun w' hb => by
    have := hb.own hbg hcm n (by omega)
    rwa [List.take_of_length_le (by omega)] at this
  by_cases h2 : n < 2
  · have HE : Hid (w.ownsRow base 39 4 (.slice (some ⟨g, 0, none⟩) n cap) (keep ls n).length (flat (keep ls n)) ∧ w.grownBy w (some g)) := by
      have e : keep ls n = ls := by
        match n, ls, hl, h2 with
        | 0, [], _, _ => rfl
        | 1, [x], _, _ => exact keep_one rfl
      rw [e, hl]
      exact ⟨HOWN.out w hblk, gr_refl _ _⟩
    have h2I : (n : Int) < 2 := by omega
    clear hblk HOWN
    go_enter Tryz.func176, Tryz.ntmps176
    go_wp2
    go_ret
    exact ⟨_, rfl, HE.out⟩
  · have h2I : ¬ ((n : Int) < 2) := by omega
    have H1 : Hid (keep ls 1 = ls.take 1) := by
      have hx : ls[0]? = some (ls[0]'(by omega)) := List.getElem?_eq_getElem (by omega)
      show _ = _
      rw [keep_one hx, List.take_add_one, hx]; simp
    go_enter Tryz.func176, Tryz.ntmps176
    go_wp2_with fail
    go_loopw [3] (fun iv wr => ∃ m : Nat, m + 1 ≤ n ∧ iv = .int .i64 ((m : Int) + 1) ∧ keep ls (m + 1) = ls.take (m + 1) ∧ Up w wr) (fun iv _ => n - (intOf iv).toNat)
    case atStart => exact ⟨0, by omega, rfl, H1.out, Up.refl _⟩
    case round =>
      obtain ⟨m, hm, rfl, hkp, hu⟩ := hrel
      have HK : Hid (keep ls (m + 1) = ls.take (m + 1)) := hkp
      clear hkp
      have hb := hblk.up hu.bl
      by_cases hlt : m + 1 < n
      · have hltI : (m : Int) + 1 < (n : Int) := by omega
        obtain ⟨x, hx⟩ : ∃ y, ls[m + 1]? = some y := ⟨ls[m + 1]'(by omega), List.getElem?_eq_getElem (by omega)⟩
        obtain ⟨y, hy⟩ : ∃ y, ls[m]? = some y := ⟨ls[m]'(by omega), List.getElem?_eq_getElem (by omega)⟩
        obtain ⟨c0, c1, c2, c3⟩ := hb.cell hx
        obtain ⟨d0, d1, d2, d3⟩ := hb.cell hy
        have heq := fun W => lab_equal x y W
        have HX : Hid (ls[m + 1]? = some x) := hx
        have HY : Hid (ls[m]? = some y) := hy
        clear hx hy
        have hm0 : ¬ ((m : Int) + 1 < 0) := by omega
        have hm1 : ¬ ((m : Int) < 0) := by omega
        have hm2 : (m : Int) < (n : Int) := by omega
        cases he : decide (x = y) with
        | false =>
          rw [he] at heq
          have HK' : Hid (keep ls (m + 1 + 1) = ls.take (m + 1 + 1)) := by
            show _ = _
            rw [keep_next HX.out HY.out (by simpa using he), HK.out, show ls.take (m + 1 + 1) = ls.take (m + 1) ++ ls[m + 1]?.toList from List.take_add_one, HX.out]; rfl
          clear he HK
          go_wp2_with fail
          go_quiet (fail)
          go_wp2
          go_roundw
          case rel => first | exact ⟨m + 1, by omega, by go_num, HK'.out, hu.drewN _⟩ | ((repeat apply Exists.intro); exact ⟨⟨m + 1, by omega, by go_num, HK'.out, hu.drewN _⟩, rfl⟩)
          case measure => simp [intOf]; omega
        | true =>
          rw [he] at heq
          have HK' : Hid (ls.take (m + 1) = keep ls (m + 1 + 1)) := by
            have e : x = y := by simpa using he
            subst e
            show _ = _
            rw [keep_same HX.out HY.out, HK.out]
          clear he HK
          go_wp2_with fail
          go_quiet (fail)
          go_wp2_with fail
          go_loopw [3, 5] (fun kv iv wr => ∃ (k t : Nat) (cur : List Lb), kv = .int .i64 (k : Nat) ∧ iv = .int .i64 ((t : Int) + 1) ∧ k ≤ m + 1 + t ∧ m + 1 + t + 1 ≤ n ∧ Blk wr g cap cur ∧ cur.length = n ∧ cur.take k = keep ls (m + 1 + t + 1) ∧ cur.drop (m + 1 + t) = ls.drop (m + 1 + t) ∧ w.grownBy wr (some g)) (fun _ iv _ => n - (intOf iv).toNat)
          case atStart => exact ⟨m + 1, 0, ls, by go_num, rfl, by omega, by omega, hb, hl, HK'.out, rfl, gr_below (hu.drewN _).bl _⟩
          case round =>
            clear c0 c1 c2 c3 d0 d1 d2 d3 heq HX HY HK' hb
            obtain ⟨k, t, cur, rfl, rfl, hkt, ht, hb, hcl, htk, hdr, hgr⟩ := hrel
            have HTK : Hid (cur.take k = keep ls (m + 1 + t + 1)) := htk
            have HDR : Hid (cur.drop (m + 1 + t) = ls.drop (m + 1 + t)) := hdr
            clear htk hdr
            by_cases hlt2 : m + 1 + t + 1 < n
            · obtain ⟨x, hx⟩ : ∃ y, ls[m + 1 + t + 1]? = some y := ⟨ls[m + 1 + t + 1]'(by omega), List.getElem?_eq_getElem (by omega)⟩
              obtain ⟨y, hy⟩ : ∃ y, ls[m + 1 + t]? = some y := ⟨ls[m + 1 + t]'(by omega), List.getElem?_eq_getElem (by omega)⟩
              have hx' : cur[m + 1 + t + 1]? = some x := by
                have h1 : (cur.drop (m + 1 + t))[1]? = (ls.drop (m + 1 + t))[1]? := by rw [HDR.out]
                simpa [hx] using h1
              have hy' : cur[m + 1 + t]? = some y := by
                have h1 : (cur.drop (m + 1 + t))[0]? = (ls.drop (m + 1 + t))[0]? := by rw [HDR.out]
                simpa [hy] using h1
              obtain ⟨c0, c1, c2, c3⟩ := hb.cell hx'
              obtain ⟨d0, d1, d2, d3⟩ := hb.cell hy'
              rw [show (m + 1 + t + 1) * 4 = (m + 1) * 4 + (t + 1) * 4 by omega] at c0 c1 c2 c3
              rw [show (m + 1 + t) * 4 = (m + 1) * 4 + t * 4 by omega] at d0 d1 d2 d3
              have heq := fun W => lab_equal x y W
              have HX : Hid (ls[m + 1 + t + 1]? = some x) := hx
              have HY : Hid (ls[m + 1 + t]? = some y) := hy
              clear hx hy hx' hy'
              have e1 : (t : Int) + 1 < ((n - (m + 1) : Nat) : Int) := by omega
              have e2 : (t : Int) < ((n - (m + 1) : Nat) : Int) := by omega
              have e3 : ¬ ((t : Int) + 1 < 0) := by omega
              have e4 : ¬ ((t : Int) < 0) := by omega
              have e5 : ¬ ((k : Int) < 0) := by omega
              have e6 : (k : Int) < (n : Int) := by omega
              have HD1 : Hid (cur.drop (m + 1 + (t + 1)) = ls.drop (m + 1 + (t + 1))) := by
                show _ = _
                have h1 : (cur.drop (m + 1 + t)).drop 1 = (ls.drop (m + 1 + t)).drop 1 := by rw [HDR.out]
                rw [List.drop_drop, List.drop_drop] at h1
                exact h1
              cases he : decide (x = y) with
              | true =>
                rw [he] at heq
                have HT : Hid (cur.take k = keep ls (m + 1 + (t + 1) + 1)) := by
                  have e : x = y := by simpa using he
                  subst e
                  show _ = _
                  rw [show m + 1 + (t + 1) + 1 = m + 1 + t + 2 by omega, keep_same HX.out HY.out]
                  exact HTK.out
                clear he HTK
                go_wp2_with fail
                go_quiet (fail)
                go_wp2
                go_roundw
                case rel => first | exact ⟨k, t + 1, cur, by go_num, by go_num, by omega, by omega, hb, hcl, HT.out, HD1.out, gr_trans hgr (gr_below ((Up.refl _).drewN _).bl _)⟩ | ((repeat apply Exists.intro); exact ⟨⟨k, t + 1, cur, by go_num, by go_num, by omega, by omega, hb, hcl, HT.out, HD1.out, gr_trans hgr (gr_below ((Up.refl _).drewN _).bl _)⟩, rfl⟩)
                case measure => simp [intOf]; omega
              | false =>
                rw [he] at heq
                have HT : Hid ((cur.set k x).take (k + 1) = keep ls (m + 1 + (t + 1) + 1)) := by
                  show _ = _
                  rw [show m + 1 + (t + 1) + 1 = m + 1 + t + 2 by omega, keep_next HX.out HY.out (by simpa using he), ← HTK.out, List.take_add_one]
                  have : (cur.set k x)[k]? = some x := by rw [List.getElem?_set_self (by omega)]
                  rw [this, List.take_set_of_le (Nat.le_refl _)]
                  rfl
                have HD2 : Hid ((cur.set k x).drop (m + 1 + (t + 1)) = ls.drop (m + 1 + (t + 1))) := by
                  show _ = _
                  rw [List.drop_set_of_lt (by omega)]
                  exact HD1.out
                have hcl2 : (cur.set k x).length = n := by simpa using hcl
                have hset := fun q => (show Blk (wr.drewN q) g cap cur from hb).set (i := k) (by omega) x
                clear he HTK HD1
                go_wp2_with fail
                go_quiet (fail)
                obtain ⟨w4, hst, hb4, hg4⟩ := hset nq
                have hg5 : w.grownBy w4 (some g) := gr_trans hgr (gr_trans (gr_below ((Up.refl _).drewN nq).bl _) hg4)
                clear hset hg4
                go_wp2_with (first | (refine wpList_store_cells rfl 39 (.tmp 51) (.tmp 50) rfl ⟨g, k * 4, none⟩ #[.int .u64 (x.1 : Nat), .int .i64 x.2.1, .int .u64 (x.2.2.1 : Nat), .int .i64 x.2.2.2] rfl rfl info26 w4 hst ?_))
                go_roundw
                case rel => first | exact ⟨k + 1, t + 1, cur.set k x, by go_num, by go_num, by omega, by omega, hb4, hcl2, HT.out, HD2.out, hg5⟩ | ((repeat apply Exists.intro); exact ⟨⟨k + 1, t + 1, cur.set k x, by go_num, by go_num, by omega, by omega, hb4, hcl2, HT.out, HD2.out, hg5⟩, rfl⟩)
                case measure => simp [intOf]; omega
            · have ent : m + 1 + t + 1 = n := by omega
              have e1 : ¬ ((t : Int) + 1 < ((n - (m + 1) : Nat) : Int)) := by omega
              have e : cur.take k = keep ls n := by rw [← ent]; exact HTK.out
              obtain ⟨w4, hst, hb4, hg4⟩ := hb.clear (i := k) (n := n - k) (by omega) (by omega) (cap - k) 0
              have hk0 : ¬ ((k : Int) < 0) := by omega
              have hlen : (keep ls n).length = k := by rw [← e, List.length_take]; omega
              have HE : Hid (w4.ownsRow base 39 4 (.slice (some ⟨g, 0, none⟩) k cap) (keep ls n).length (flat (keep ls n)) ∧ w.grownBy w4 (some g)) := by
                refine ⟨?_, gr_trans hgr hg4⟩
                have := hb4.own hbg hcm k (by rw [List.length_take]; omega)
                rw [e, List.take_of_length_le (by omega)] at this
                rw [hlen]; exact this
              have hkn : k < n := by omega
              clear hb hgr hg4 hb4 HTK HDR hlen e HOWN hblk hu ent
              go_wp2
              go_ret
              exact ⟨_, rfl, HE.out⟩
      · have em : m + 1 = n := by omega
        have HE : Hid (wr.ownsRow base 39 4 (.slice (some ⟨g, 0, none⟩) n cap) (keep ls n).length (flat (keep ls n)) ∧ w.grownBy wr (some g)) := by
          have e : keep ls n = ls := by rw [← em, HK.out, List.take_of_length_le (by omega)]
          rw [e, hl]
          exact ⟨HOWN.out wr hb, gr_below hu.bl _⟩
        have hltI : ¬ ((m : Int) + 1 < (n : Int)) := by omega
        clear hb HK HOWN hblk em hu
        go_wp2
        go_ret
        exact ⟨_, rfl, HE.out⟩
end Go.Proofs.YtlaihgdfedalmaaGreat
namespace Go.Proofs.YtlaihgdfedalmaaGreat
open Go.RowKit Go.Sort
set_option linter.unusedVariables false

theorem asc_nodup {a : List Lb} (h : a.Pairwise ltLS) : a.Nodup := h.imp (fun {x y} hxy e => by subst e; exact ltL_irrS _ hxy)
theorem nodup_len : ∀ {a b : List Lb}, a.Nodup → (∀ x ∈ a, x ∈ b) → a.length ≤ b.length
  | [], b, _, _ => by simp
  | x :: a, b, h, hs => by
    obtain ⟨h1, h2⟩ := List.nodup_cons.1 h
    have hxb := hs x (by simp)
    have := nodup_len (b := b.erase x) h2 (fun y hy => (List.mem_erase_of_ne (fun (e : y = x) => h1 (e ▸ hy))).2 (hs y (by simp [hy])))
    rw [List.length_erase_of_mem hxb] at this
    have : 0 < b.length := List.length_pos_of_mem hxb
    simp
    omega
theorem not_nodup : ∀ {b : List Lb}, ¬ b.Nodup → ∃ l1 x l2, b = l1 ++ x :: l2 ∧ x ∈ l2
  | [], h => absurd List.nodup_nil h
  | y :: b, h => by
    by_cases hy : y ∈ b
    · exact ⟨[], y, b, rfl, hy⟩
    · obtain ⟨l1, x, l2, e, hx⟩ := not_nodup (b := b) (fun hb => h (List.nodup_cons.2 ⟨hy, hb⟩))
      exact ⟨y :: l1, x, l2, by rw [e]; rfl, hx⟩
theorem twice_iff {a b : List Lb} (ha : a.Pairwise ltLS) (h : ∀ x, x ∈ a ↔ x ∈ b) : a.length < b.length ↔ ¬ b.Nodup := by
  constructor
  · intro hl hb
    have := nodup_len hb (fun x hx => (h x).2 hx)
    omega
  · intro hb
    obtain ⟨l1, x, l2, e, hx⟩ := not_nodup hb
    have := nodup_len (b := l1 ++ l2) (asc_nodup ha) (fun y hy => by
      have := (h y).1 hy
      rw [e] at this
      simp at this ⊢
      rcases this with h | h | h
      · exact Or.inl h
      · subst h; exact Or.inr hx
      · exact Or.inr h)
    rw [e]
    simp at this ⊢
    omega

theorem infoLS : (Tryz.prog.info? 39).map (fun i => (i.zero, i.size, i.bytes)) = some (some (.agg #[.int .u64 0, .int .i64 0, .int .u64 0, .int .i64 0]), 4, 32) := by kernel_rfl
theorem LR.cells {w : World} {a : Addr} {n : Nat} {ls : List Lb} (h : LR w (some a) n ls) : ∀ j u, (flat ls)[j]? = some u → w.cell? (a.add j) = some u := by
  intro j u hj
  obtain ⟨hl, _, hc⟩ := h
  have hjl : j < ls.length * 4 := by
    have := (List.getElem?_eq_some_iff.1 hj).1
    rwa [flat_len] at this
  obtain ⟨b, off, e, hcell⟩ := hc (by omega)
  cases e
  rw [Addr.add_lit]
  obtain ⟨x, hx⟩ : ∃ x, ls[j / 4]? = some x := ⟨ls[j / 4]'(by omega), List.getElem?_eq_getElem (by omega)⟩
  have hf := flat_get ls (j / 4) x (j % 4) hx (by omega)
  rw [show 4 * (j / 4) + j % 4 = j by omega, hj] at hf
  obtain ⟨c0, c1, c2, c3⟩ := hcell _ x hx
  have hm : j % 4 = 0 ∨ j % 4 = 1 ∨ j % 4 = 2 ∨ j % 4 = 3 := by omega
  rcases hm with e | e | e | e
  · rw [e] at hf; simp [cellsL] at hf; rw [hf, show off + j = off + j / 4 * 4 by omega]; exact c0
  · rw [e] at hf; simp [cellsL] at hf; rw [hf, show off + j = off + j / 4 * 4 + 1 by omega]; exact c1
  · rw [e] at hf; simp [cellsL] at hf; rw [hf, show off + j = off + j / 4 * 4 + 2 by omega]; exact c2
  · rw [e] at hf; simp [cellsL] at hf; rw [hf, show off + j = off + j / 4 * 4 + 3 by omega]; exact c3

set_option maxRecDepth 10000 in
set_option maxHeartbeats 1000000 in
theorem clone_any (w : World) (ao : Option Addr) (n cap : Nat) (ls : List Lb) (h : LR w ao n ls) (hn : n ≤ 5000) (hz : ao = none → n = 0) :
    Calls Tryz.prog 111 #[.slice ao n cap] w fun e w' => ∃ v, e = .returned v ∧ w'.ownsRow w.heap.size 39 4 v n (flat ls) ∧ Below w.heap.size w w' := by
  obtain ⟨i0, hi0, hz0, hz1, hz2⟩ := info_parts infoLS
  have q32 := fun (w : World) (a : Option Addr) (n c n' c' : Nat) => Lib.run_eql_slice_nil (P := Tryz.prog) w 43 39 a n c n' c' und32
  have hl := h.1
  cases ao with
  | none =>
    obtain rfl := hz rfl
    obtain rfl : ls = [] := List.length_eq_zero_iff.1 hl
    go_enter Tryz.func111, Tryz.ntmps111
    go_wp2
    go_ret
    exact ⟨_, rfl, ⟨rfl, .inl ⟨rfl, rfl⟩⟩, Below.refl _ _⟩
  | some ad =>
    have hA : Hid (∀ j u, (flat ls)[j]? = some u → w.cell? (ad.add j) = some u) := h.cells
    have HF : Hid ((flat ls).length = n * 4) := by show _ = _; rw [flat_len, hl]
    clear h hz
    go_enter Tryz.func111, Tryz.ntmps111
    go_wp2_with (at_builtin; refine wpList_append_own_at _ rfl _ _ 43 rfl w.heap.size 39 i0 (.agg #[.int .u64 0, .int .i64 0, .int .u64 0, .int .i64 0]) 4 32 und32 hi0 hz0 hz1 hz2 rfl (by decide) _ 0 [] rfl ?d1 ad n cap (flat ls) rfl ?d2 ?d3 ?d4 ?d6 ?d7 ?d8 ?_)
    case d1 => exact World.ownsRow_made w #[] 0 (Nat.le_refl _) (Nat.zero_le _) (by simp)
    case d2 => exact HF.out
    case d3 => exact fun j u hj => ((bl1 w _).cell (World.block_lt_of_cell? w _ (hA.out j u hj))).trans (hA.out j u hj)
    case d4 => exact fun u hu => flat_one hu
    case d6 => unfold maxLen; omega
    case d7 => omega
    case d8 => simp
    intro v' w1 hown hgrow hnil hat
    have HE : Hid (w1.ownsRow w.heap.size 39 4 v' n (flat ls) ∧ Below w.heap.size w w1) := ⟨by simpa using hown, bl_grown (bl1 w _) (by simp) hgrow (by intro k hk; simp [Value.ownBlock] at hk; omega)⟩
    clear hown hgrow hnil hat
    go_wp2
    go_ret
    exact ⟨v', rfl, HE.out⟩

theorem compact_none (w : World) : Calls Tryz.prog 176 #[.slice none 0 0] w fun e w' => e = .returned (.slice none 0 0) ∧ w = w' := by
  go_enter Tryz.func176, Tryz.ntmps176
  go_wp2
  go_ret
  exact ⟨rfl, rfl⟩

set_option maxRecDepth 10000 in
set_option maxHeartbeats 1000000 in
theorem sort_any (w : World) (ao : Option Addr) (n cap : Nat) (ls : List Lb) (h : LR w ao n ls) (hn : n ≤ 5000) (hz : ao = none → n = 0) :
    Calls Tryz.prog 165 #[.slice ao n cap] w fun e w' => ∃ v rs, e = .returned v ∧ rs.Pairwise ltLS ∧ (∀ x, x ∈ rs ↔ x ∈ ls) ∧ w'.ownsRow w.heap.size 39 4 v rs.length (flat rs) ∧ Below w.heap.size w w' := by
  have hl := h.1
  have hcl := clone_any w ao n cap ls h hn hz
  clear h hz
  go_enter Tryz.func165, Tryz.ntmps165
  go_wp2_with fail
  refine hcl.mono ?_
  rintro e w1 ⟨v, rfl, hown, hb1⟩
  clear hcl
  rcases hown.2 with ⟨rfl, rfl⟩ | ⟨g, cp, cur, rfl, _⟩
  · obtain rfl : ls = [] := List.length_eq_zero_iff.1 hl
    clear hown
    go_wp2_with fail
    refine (sortF_none _ _ _ _).mono ?_
    rintro e w2 ⟨rfl, rfl⟩
    go_wp2_with fail
    refine (compact_none _).mono ?_
    rintro e w2 ⟨rfl, rfl⟩
    go_wp2
    go_ret
    exact ⟨_, [], rfl, by simp, by simp, ⟨rfl, .inl ⟨rfl, rfl⟩⟩, hb1⟩
  · obtain ⟨hblk, hbg, hnc, hcm⟩ := Blk.ofOwn hown
    have hsort := sortF_blk w1 g cp n ls hblk hl (by omega)
    clear hown hblk
    go_wp2_with fail
    refine hsort.mono ?_
    rintro e w2 ⟨rfl, ls', hperm, hasc, hblk2, hg2⟩
    have hl2 : ls'.length = n := by rw [hperm.length_eq]; exact hl
    have hcp := compact_some w2 g n cp w.heap.size ls' hblk2 hl2 hbg hcm
    have HP : Hid ((keep ls' n).Pairwise ltLS ∧ ∀ x, x ∈ keep ls' n ↔ x ∈ ls) := by
      obtain ⟨a1, a2, _⟩ := keep_asc hasc n (by omega)
      refine ⟨a1, fun x => ?_⟩
      rw [a2 x, List.take_of_length_le (by omega)]
      exact hperm.mem_iff
    have hb2 : Below w.heap.size w w2 := bl_grown hb1 hb1.size hg2 (fun k hk => by cases hk; exact hbg)
    clear hperm hasc hblk2 hg2 hsort
    go_wp2_with fail
    refine hcp.mono ?_
    rintro e w3 ⟨v3, rfl, hown3, hg3⟩
    have hb3 : Below w.heap.size w w3 := bl_grown hb2 hb2.size hg3 (fun k hk => by cases hk; exact hbg)
    have HE : Hid (w3.ownsRow w.heap.size 39 4 v3 (keep ls' n).length (flat (keep ls' n)) ∧ Below w.heap.size w w3) := ⟨hown3, hb3⟩
    clear hown3 hg3 hb3 hcp hb2 hb1
    go_wp2
    go_ret
    exact ⟨v3, _, rfl, HP.out.1, HP.out.2, HE.out⟩

set_option maxRecDepth 10000 in
theorem twice_any (w : World) (ao : Option Addr) (n cap : Nat) (ls : List Lb) (h : LR w ao n ls) (hn : n ≤ 5000) (hz : ao = none → n = 0) :
    Calls Tryz.prog 150 #[.slice ao n cap] w fun e w' => e = .returned (.bool (decide (¬ ls.Nodup))) ∧ Below w.heap.size w w' := by
  have hl := h.1
  have hso := sort_any w ao n cap ls h hn hz
  clear h hz
  generalize hdd : decide (¬ ls.Nodup) = r
  have HD : Hid (decide (¬ ls.Nodup) = r) := hdd
  clear hdd
  go_enter Tryz.func150, Tryz.ntmps150
  go_wp2_with fail
  refine hso.mono ?_
  rintro e w1 ⟨v, rs, rfl, hasc, hmem, hown, hb⟩
  obtain ⟨ao1, cp1, rfl, _⟩ := LR.own hown
  have HT : Hid (decide (rs.length < n) = r) := by
    show _ = _
    rw [← HD.out]
    have := twice_iff hasc hmem
    rw [hl] at this
    apply decide_eq_decide.2
    exact this
  clear hso hasc hmem hown
  go_wp2
  go_ret
  exact ⟨ret_bool HT.out, hb⟩
end Go.Proofs.YtlaihgdfedalmaaGreat
