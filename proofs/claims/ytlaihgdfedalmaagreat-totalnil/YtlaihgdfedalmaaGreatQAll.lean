/-
  A set of labels: a map from labels to nothing.
  What package label's among tells: whether a label is one of a list.
  slices.IndexFunc and slices.DeleteFunc of labels, at what among tells.
  slices.DeleteFunc of labels, at what among tells: those that are not in the set.
  slices.SortFunc of Go's library, at this program: its functions are those of the library's contract.
  slices.SortFunc of labels by label.Compare: the same labels, none ahead of a lesser one.
  slices.Compact of labels: of neighbours that are one, one.
  Sort and Twice of package label.
  slices.Grow and slices.Concat of labels.
  Behind of package label.
-/
import Derived.Test.YtlaihgdfedalmaaGreatLAll
import Derived.Maps.OwnSet
import Derived.DeepKeys4
import Derived.Laws.CopyRow
import Derived.Lib.SliceRun
import Derived.Shelf.SlSortCmp.NoneTotal
import Derived.Ground.SlsfProg
import Derived.Test.YtlaihgdfedalmaaGreatProg
import Derived.Laws.AppendOwnNone
namespace Go.Proofs.YtlaihgdfedalmaaGreat.Q
open Go.RowKit Go.Sort
open Go.Maps (Keyed has size Tidy IsMap)
set_option linter.unusedVariables false

theorem row26 : (39 : TypeId) < Tryz.prog.types.size := of_decide_eq_true (by kernel_rfl)
theorem wide26 : (match Tryz.prog.underlying 39 with | some (.array _ _) | some (.struct _) => true | _ => false) = true := by kernel_rfl
theorem kta26 : Tryz.prog.keyTypeAt 3 39 = true := by kernel_rfl
set_option maxRecDepth 100000 in
theorem law26 : WideMaps.KeyLaw Tryz.prog 39 := deep_law_laid laidOut (m := 3) (by omega) row26 kta26 wide26
theorem keyed26 : Keyed Tryz.prog 39 := Keyed.of_law law26
theorem und83 : Tryz.prog.underlying 96 = some (.map 39 139) := by kernel_rfl
theorem zero84 (w : World) : (zeroValue 139).run Tryz.prog w = .ok (.agg #[]) w := by kernel_rfl
theorem kt26 : Tryz.prog.keyType 39 = true := by kernel_rfl
theorem tsz : Tryz.prog.types.size + 1 = 258 + 3 := by kernel_rfl

theorem lits22 (d : Nat) {n : Nat} (h : n < 18446744073709551616) : Tryz.prog.keyLits (d + 1) 31 [.int .u64 (n : Nat)] = some [.int .u64 (n : Nat)] := by
  unfold Program.keyLits; rw [Tryz.underlying31]; simp [wf_u64 h]
theorem lits3 (d : Nat) {p : Int} (h : In p) : Tryz.prog.keyLits (d + 1) 3 [.int .i64 p] = some [.int .i64 p] := by
  unfold Program.keyLits; rw [Tryz.underlying3]; simp [wf_i64 h]
theorem lits24 (d : Nat) {n : Nat} {p : Int} (hn : n < 18446744073709551616) (hp : In p) : Tryz.prog.keyLits (d + 2) 33 [.int .u64 (n : Nat), .int .i64 p] = some [.int .u64 (n : Nat), .int .i64 p] := by
  have h1 := lits22 d hn
  have h2 := lits3 d hp
  unfold Program.keyLits
  rw [Tryz.underlying33]
  simp [cells24, cells22, cells3, h1, h2]
theorem lits26 (d : Nat) {x : Lb} (h : OkL x) : Tryz.prog.keyLits (d + 3) 39 [.int .u64 (x.1 : Nat), .int .i64 x.2.1, .int .u64 (x.2.2.1 : Nat), .int .i64 x.2.2.2] = some [.int .u64 (x.1 : Nat), .int .i64 x.2.1, .int .u64 (x.2.2.1 : Nat), .int .i64 x.2.2.2] := by
  have h1 := lits24 d h.1 h.2.1
  have h2 := lits22 (d + 1) h.2.2.1
  have h3 := lits3 (d + 1) h.2.2.2
  unfold Program.keyLits
  rw [Tryz.underlying39]
  simp [cells26, cells24, cells22, cells3, h1, h2, h3]
theorem key26 {x : Lb} (h : OkL x) : ∃ k, keyOf Tryz.prog 39 (lab x) = some k := by
  unfold keyOf lab
  rw [Tryz.underlying39]
  simp only [kt26, Value.formed, Tryz.underlying39, cells26, Value.cells, tsz]
  simp [lits26 258 h]

/-- Block b is a set of labels. -/
def SetIs (w : World) (b n : Nat) (ls : List Lb) : Prop :=
  ∃ D : DataW Unit, w.ownsMap Tryz.prog 39 unitElem b n D ∧ ∀ x k, OkL x → keyOf Tryz.prog 39 (lab x) = some k → has D k = decide (x ∈ ls)
theorem SetIs.lt {w : World} {b n : Nat} {ls : List Lb} (h : SetIs w b n ls) : b < w.heap.size := by
  obtain ⟨D, h, _⟩ := h; exact h.lt
theorem SetIs.of_block {w w' : World} {b n : Nat} {ls : List Lb} (h : SetIs w b n ls) (hb : w'.heap[b]? = w.heap[b]?) : SetIs w' b n ls := by
  obtain ⟨D, ⟨es, clock, hb', r⟩, h2⟩ := h
  exact ⟨D, ⟨es, clock, by rw [hb]; exact hb', r⟩, h2⟩
theorem set_made (w : World) : SetIs (w.alloc (.map #[] 0)) w.heap.size 0 [] := ⟨.map [], World.ownsMap_made w Tryz.prog 39 unitElem, fun x k hx hk => by simp [has]⟩
theorem SetIs.look {w : World} {b n : Nat} {ls : List Lb} (h : SetIs w b n ls) {x : Lb} (hx : OkL x) :
    (Instr.lookup 96 (.map (some b)) (lab x) true).run Tryz.prog w = .ok (.tuple #[.agg #[], .bool (decide (x ∈ ls))]) w := by
  obtain ⟨D, ho, hD⟩ := h
  obtain ⟨k, hk⟩ := key26 hx
  obtain ⟨v, ps, hrun, hv⟩ := ho.look_ok keyed26 und83 (zero84 w) unitElem_mk hk
  rw [hrun, (unitElem_inv hv).1, hD x k hx hk]
theorem lab_inj {x y : Lb} (h : lab x = lab y) : x = y := by
  unfold lab at h
  simp at h
  obtain ⟨a1, a2, a3, a4⟩ := h
  exact Prod.ext (by omega) (Prod.ext a2 (Prod.ext (by omega) a4))
theorem SetIs.store {w : World} {b n : Nat} {ls : List Lb} (h : SetIs w b n ls) (hn : n < maxLen) {x : Lb} (hx : OkL x) :
    ∃ w', (Instr.mapUpdate 96 (.map (some b)) (lab x) (.agg #[])).run Tryz.prog w = .ok () w' ∧ SetIs w' b (n + 1) (x :: ls) ∧ w.grownBy w' (some b) := by
  obtain ⟨D, ho, hD⟩ := h
  obtain ⟨k, hk⟩ := key26 hx
  obtain ⟨w', hrun, ho', hg⟩ := ho.update keyed26 und83 hn hk unitElem_mk
  refine ⟨w', hrun, ⟨_, ho', fun y ky hy hky => ?_⟩, hg⟩
  by_cases e : y = x
  · subst e
    obtain rfl : k = ky := by rw [hk] at hky; exact Option.some.inj hky
    rw [Maps.has_put_same ho.isMap (keyed26.key hk)]
    simp
  · have hne : ky ≠ k := fun he => e (lab_inj (keyed26.inj (he ▸ hky) hk))
    rw [Maps.has_put_other hne, hD y ky hy hky]
    simp [e]
end Go.Proofs.YtlaihgdfedalmaaGreat.Q
namespace Go.Proofs.YtlaihgdfedalmaaGreat.Q
open Go.RowKit Go.Sort
set_option linter.unusedVariables false

theorem run_makeMap_hint (n : Int) (w : World) : (Instr.makeMap 96 (some (.int .i64 n))).run Tryz.prog w = .ok (.map (some w.heap.size)) (w.alloc (.map #[] 0)) := by
  unfold Instr.makeMap
  simp [go_sem, asInt, newObj]
  rfl

set_option maxRecDepth 10000 in
set_option maxHeartbeats 1000000 in
theorem among_any (w : World) (ao : Option Addr) (n cap : Nat) (ls : List Lb) (h : LR w ao n ls) (hok : ∀ x ∈ ls, OkL x) (hn : n < 4294967296) :
    Calls Tryz.prog 166 #[.slice ao n cap] w fun e w' => ∃ B m k ls', e = .returned (.func (.func 177) #[] #[.pointer (some ⟨B, 0, none⟩)]) ∧ w.heap.size ≤ B ∧ w.heap.size ≤ m ∧ w'.cell? ⟨B, 0, none⟩ = some (.map (some m)) ∧ SetIs w' m k ls' ∧ (∀ x, x ∈ ls' ↔ x ∈ ls) ∧ Below w.heap.size w w' := by
  have hl := h.1
  have hmm := fun W => run_makeMap_hint (n : Int) W
  go_enter Tryz.func166, Tryz.ntmps166
  go_wp2_with fail
  go_loopw [11] (fun iv wr => ∃ k : Nat, k ≤ n ∧ iv = .int .i64 k ∧ wr.cell? ⟨w.heap.size + 1, 0, none⟩ = some (.map (some w.heap.size)) ∧ (∃ ls', SetIs wr w.heap.size k ls' ∧ ∀ x, x ∈ ls' ↔ x ∈ ls.take k) ∧ Below w.heap.size w wr) (fun iv _ => n - (intOf iv).toNat)
  case atStart =>
    refine ⟨0, by omega, rfl, ?_, ⟨[], ?_, by simp⟩, bl2 _ _ _⟩
    · simp
    · exact (set_made w).of_block (Below.heap_alloc _ _ _ (by simp))
  case round =>
    obtain ⟨k, hk, rfl, hB, ⟨ls', hS, hmem⟩, hb⟩ := hrel
    by_cases hlt : k < n
    · have hltI : (k : Int) < (n : Int) := by omega
      obtain ⟨y, hy⟩ : ∃ y, ls[k]? = some y := ⟨ls[k]'(by omega), List.getElem?_eq_getElem (by omega)⟩
      obtain ⟨b, off, hao, hc⟩ := (h.up hb).2.2 (by omega)
      obtain ⟨c0, c1, c2, c3⟩ := hc k y hy
      have hyok := hok y (List.mem_of_getElem? hy)
      have hS1 : SetIs (wr.alloc (.cells #[.int .u64 (y.1 : Nat), .int .i64 y.2.1, .int .u64 (y.2.2.1 : Nat), .int .i64 y.2.2.2] 39)) w.heap.size k ls' := hS.of_block (Below.heap_alloc _ _ _ hS.lt)
      obtain ⟨w2, hrun, hS2, hg2⟩ := hS1.store (by unfold maxLen; omega) hyok
      unfold lab at hrun
      have hBlt := World.block_lt_of_cell? wr _ hB
      have hB2 : w2.cell? ⟨w.heap.size + 1, 0, none⟩ = some (.map (some w.heap.size)) := hg2.cell ((((Below.refl _ wr).alloc (Nat.le_refl _) _).cell hBlt).trans hB) (by simp)
      have hb2 : Below w.heap.size w w2 := bl_grown (hb.alloc hb.size _) (by have := hb.size; simp; omega) hg2 (fun j hj => by cases hj; exact Nat.le_refl _)
      have HM : Hid (∀ x, x ∈ y :: ls' ↔ x ∈ ls.take (k + 1)) := by
        intro x
        rw [List.take_add_one, hy]
        simp [hmem x, or_comm]
      have d0 : (wr.alloc (.cells #[.int .u64 (y.1 : Nat), .int .i64 y.2.1, .int .u64 (y.2.2.1 : Nat), .int .i64 y.2.2.2] 39)).cell? ⟨w.heap.size + 1, 0, none⟩ = some (.map (some w.heap.size)) := (((Below.refl _ wr).alloc (Nat.le_refl _) _).cell hBlt).trans hB
      subst hao
      clear hc hy hS hmem hS1 hg2 hyok hb hB h hok hmm
      have hk0 : ¬ ((k : Int) < 0) := by omega
      go_wp2
      go_roundw
      case rel => first | exact ⟨k + 1, by omega, by go_num, hB2, ⟨_, hS2, HM.out⟩, hb2⟩ | ((repeat apply Exists.intro); exact ⟨⟨k + 1, by omega, by go_num, hB2, ⟨_, hS2, HM.out⟩, hb2⟩, rfl⟩)
      case measure => simp [intOf]; omega
    · obtain rfl : k = n := by omega
      rw [List.take_of_length_le (by omega)] at hmem
      clear h hok hmm
      go_wp2
      go_ret
      exact ⟨_, _, _, _, rfl, by omega, Nat.le_refl _, hB, hS, hmem, hb⟩

set_option maxRecDepth 10000 in
/-- What is asked of the set: is a label in it? -/
theorem closure_any (w : World) (B m k : Nat) (ls : List Lb) (hB : w.cell? ⟨B, 0, none⟩ = some (.map (some m))) (hS : SetIs w m k ls) (x : Lb) (hx : OkL x) :
    Calls Tryz.prog 177 #[lab x, .pointer (some ⟨B, 0, none⟩)] w fun e w' => e = .returned (.bool (decide (x ∈ ls))) ∧ Up w w' := by
  have hlk : (Instr.lookup 96 (.map (some m)) (lab x) true).run Tryz.prog (w.alloc (.cells #[.int .u64 (x.1 : Nat), .int .i64 x.2.1, .int .u64 (x.2.2.1 : Nat), .int .i64 x.2.2.2] 39)) = _ := (hS.of_block (Below.heap_alloc _ _ _ hS.lt)).look hx
  have d0 : (w.alloc (.cells #[.int .u64 (x.1 : Nat), .int .i64 x.2.1, .int .u64 (x.2.2.1 : Nat), .int .i64 x.2.2.2] 39)).cell? ⟨B, 0, none⟩ = some (.map (some m)) := (((Below.refl _ w).alloc (Nat.le_refl _) _).cell (World.block_lt_of_cell? w _ hB)).trans hB
  unfold lab at *
  generalize decide (x ∈ ls) = r at *
  clear hS hB
  go_enter Tryz.func177, Tryz.ntmps177
  go_wp2
  go_ret
  exact ⟨rfl, ((Up.refl _).alloc _).alloc _⟩
end Go.Proofs.YtlaihgdfedalmaaGreat.Q
namespace Go.Proofs.YtlaihgdfedalmaaGreat.Q
open Go.RowKit Go.Sort
set_option linter.unusedVariables false

set_option maxRecDepth 10000 in
set_option maxHeartbeats 1000000 in
theorem indexFunc_any (w : World) (ao : Option Addr) (n cap : Nat) (ls : List Lb) (h : LR w ao n ls) (hok : ∀ x ∈ ls, OkL x) (B m k0 : Nat) (S : List Lb) (hB : w.cell? ⟨B, 0, none⟩ = some (.map (some m))) (hS : SetIs w m k0 S) :
    Calls Tryz.prog 172 #[.slice ao n cap, .func (.func 177) #[] #[.pointer (some ⟨B, 0, none⟩)]] w fun e w' => ((e = .returned (.int .i64 (-1)) ∧ ∀ x ∈ ls, x ∉ S) ∨ ∃ i y, i < n ∧ e = .returned (.int .i64 (i : Nat)) ∧ (∀ x ∈ ls.take i, x ∉ S) ∧ ls[i]? = some y ∧ y ∈ S) ∧ Up w w' := by
  have hl := h.1
  have hmax := h.2.1
  go_enter Tryz.func172, Tryz.ntmps172
  go_wp2_with fail
  go_loopw [5, 8] (fun _ iv wr => ∃ k : Nat, k ≤ n ∧ iv = .int .i64 k ∧ (∀ x ∈ ls.take k, x ∉ S) ∧ Up w wr) (fun _ iv _ => n - (intOf iv).toNat)
  case atStart => exact ⟨0, by omega, rfl, by simp, Up.refl _⟩
  case round =>
    obtain ⟨k, hk, rfl, hno, hu⟩ := hrel
    have HN : Hid (∀ x ∈ ls.take k, x ∉ S) := hno
    clear hno
    by_cases hlt : k < n
    · have hltI : (k : Int) < (n : Int) := by omega
      obtain ⟨y, hy⟩ : ∃ y, ls[k]? = some y := ⟨ls[k]'(by omega), List.getElem?_eq_getElem (by omega)⟩
      obtain ⟨b, off, hao, hc⟩ := (h.up hu.bl).2.2 (by omega)
      obtain ⟨c0, c1, c2, c3⟩ := hc k y hy
      have HY : Hid (ls[k]? = some y) := hy
      have hcl := closure_any wr B m k0 S (hu.cell hB) (hS.of_block (hu.bl.block m hS.lt)) y (hok y (List.mem_of_getElem? hy))
      unfold lab at hcl
      subst hao
      clear hc hy h hok hS hB
      have hk0 : ¬ ((k : Int) < 0) := by omega
      cases hd : decide (y ∈ S) with
      | true =>
        rw [hd] at hcl
        have hin : y ∈ S := by simpa using hd
        clear hd
        go_wp2_with fail
        refine hcl.mono ?_
        rintro e w1 ⟨rfl, hb1⟩
        have hu1 := hu.trans hb1
        clear hcl c0 c1 c2 c3 hb1
        go_wp2
        go_ret
        exact ⟨Or.inr ⟨k, y, hlt, rfl, HN.out, HY.out, hin⟩, hu1⟩
      | false =>
        rw [hd] at hcl
        have hin : y ∉ S := by simpa using hd
        have HN' : Hid (∀ x ∈ ls.take (k + 1), x ∉ S) := by
          intro x hx
          rw [List.take_add_one, HY.out] at hx
          simp at hx
          rcases hx with hx | rfl
          · exact HN.out x hx
          · exact hin
        clear hd
        go_wp2_with fail
        refine hcl.mono ?_
        rintro e w1 ⟨rfl, hb1⟩
        have hu1 := hu.trans hb1
        clear hcl c0 c1 c2 c3 hb1
        go_wp2
        go_roundw
        case rel => first | exact ⟨k + 1, by omega, by go_num, HN'.out, hu1⟩ | ((repeat apply Exists.intro); exact ⟨⟨k + 1, by omega, by go_num, HN'.out, hu1⟩, rfl⟩)
        case measure => simp [intOf]; omega
    · obtain rfl : k = n := by omega
      clear h hok hS hB
      go_wp2
      go_ret
      refine ⟨Or.inl ⟨rfl, ?_⟩, hu⟩
      have := HN.out
      rwa [List.take_of_length_le (by omega)] at this
end Go.Proofs.YtlaihgdfedalmaaGreat.Q
namespace Go.Proofs.YtlaihgdfedalmaaGreat.Q
open Go.RowKit Go.Sort
set_option linter.unusedVariables false

set_option maxRecDepth 10000 in
set_option maxHeartbeats 2000000 in
theorem deleteFunc_some (w : World) (g n cap base : Nat) (ls : List Lb) (hown : w.ownsRow base 39 4 (.slice (some ⟨g, 0, none⟩) n cap) n (flat ls)) (hok : ∀ x ∈ ls, OkL x) (B m k0 : Nat) (S : List Lb) (hB : w.cell? ⟨B, 0, none⟩ = some (.map (some m))) (hS : SetIs w m k0 S) (hgB : g ≠ B) (hgm : g ≠ m) :
    Calls Tryz.prog 164 #[.slice (some ⟨g, 0, none⟩) n cap, .func (.func 177) #[] #[.pointer (some ⟨B, 0, none⟩)]] w fun e w' => ∃ v', e = .returned v' ∧ w'.ownsRow base 39 4 v' (out S ls).length (flat (out S ls)) ∧ w.grownBy w' (some g) := by
  obtain ⟨ao, cap', hv, hLR⟩ := LR.own hown
  simp only [Value.slice.injEq] at hv
  obtain ⟨rfl, _, rfl⟩ := hv
  have hl := hLR.1
  have hmax := hLR.2.1
  obtain ⟨hblk, hbg, hnc, hcm⟩ := Blk.ofOwn hown
  have hix := indexFunc_any w (some ⟨g, 0, none⟩) n cap ls hLR hok B m k0 S hB hS
  have HOWN : Hid (w.ownsRow base 39 4 (.slice (some ⟨g, 0, none⟩) n cap) n (flat ls)) := hown
  have HBLK : Hid (Blk w g cap ls) := hblk
  clear hown hblk hLR
  have hwide : cap ≤ 9223372036854775807 := by unfold maxLen at hcm; omega
  go_enter Tryz.func164, Tryz.ntmps164
  go_wp2_with fail
  refine hix.mono ?_
  rintro e w1 ⟨⟨rfl, hno⟩ | ⟨i0, y0, hi0, rfl, hno, hy0, hin0⟩, hu1⟩
  · have HE : Hid (w1.ownsRow base 39 4 (.slice (some ⟨g, 0, none⟩) n cap) (out S ls).length (flat (out S ls)) ∧ w.grownBy w1 (some g)) := by
      refine ⟨?_, gr_below hu1.bl _⟩
      rw [out_none hno, hl]
      exact (HBLK.out.up hu1.bl).own hbg hcm n (by omega) |> fun h => by rwa [List.take_of_length_le (by omega)] at h
    clear hix hno hS hB
    go_wp2
    go_ret
    exact ⟨_, rfl, HE.out⟩
  · have H0 : Hid (ls.take i0 = out S (ls.take (i0 + 1))) := by
      show _ = _
      rw [out_step hy0, out_none hno]
      simp [hin0]
    have hnm1 : ((i0 : Int) == -1) = false := by simp
    clear hno hix hin0 hy0
    have hb1 := HBLK.out.up hu1.bl
    go_wp2_with fail
    go_loopw [5, 6, 7] (fun iv jv _ wr => ∃ (i j : Nat) (cur : List Lb), iv = .int .i64 i ∧ jv = .int .i64 j ∧ i < j ∧ j ≤ n ∧ Blk wr g cap cur ∧ cur.length = n ∧ cur.take i = out S (ls.take j) ∧ cur.drop j = ls.drop j ∧ w.grownBy wr (some g)) (fun _ jv _ _ => n - (intOf jv).toNat)
    case atStart => exact ⟨i0, i0 + 1, ls, rfl, by go_num, by omega, by omega, hb1, hl, H0.out, rfl, gr_below hu1.bl _⟩
    case round =>
      obtain ⟨i, j, cur, rfl, rfl, hij, hj, hblk, hcl, htk, hdr, hgr⟩ := hrel
      have HTK : Hid (cur.take i = out S (ls.take j)) := htk
      have HDR : Hid (cur.drop j = ls.drop j) := hdr
      clear htk hdr
      by_cases hlt : j < n
      · have hltI : (j : Int) < (n : Int) := by omega
        obtain ⟨x, hx⟩ : ∃ y, ls[j]? = some y := ⟨ls[j]'(by omega), List.getElem?_eq_getElem (by omega)⟩
        have hx' : cur[j]? = some x := by
          have h1 : (cur.drop j)[0]? = (ls.drop j)[0]? := by rw [HDR.out]
          simpa [hx] using h1
        obtain ⟨c0, c1, c2, c3⟩ := hblk.cell hx'
        have HX : Hid (ls[j]? = some x) := hx
        have hBr := hgr.cell hB (by simp; omega)
        have hSr : SetIs wr m k0 S := hS.of_block (hgr.block m hS.lt (by simp; omega))
        have ua : Up wr (wr.alloc (.cells #[.int .u64 (x.1 : Nat), .int .i64 x.2.1, .int .u64 (x.2.2.1 : Nat), .int .i64 x.2.2.2] 39)) := (Up.refl _).alloc _
        have hclo := closure_any (wr.alloc (.cells #[.int .u64 (x.1 : Nat), .int .i64 x.2.1, .int .u64 (x.2.2.1 : Nat), .int .i64 x.2.2.2] 39)) B m k0 S (ua.cell hBr) (hSr.of_block (ua.bl.block m hSr.lt)) x (hok x (List.mem_of_getElem? hx))
        unfold lab at hclo
        have HDR' : Hid (cur.drop (j + 1) = ls.drop (j + 1)) := by
          show _ = _
          rw [← List.drop_drop, ← List.drop_drop, HDR.out]
        have HST : Hid (out S (ls.take (j + 1)) = out S (ls.take j) ++ (if decide (x ∈ S) then [] else [x])) := out_step hx
        clear hx hx' hSr hBr
        have hj0 : ¬ ((j : Int) < 0) := by omega
        have hi0' : ¬ ((i : Int) < 0) := by omega
        have hin' : (i : Int) < (n : Int) := by omega
        cases hd : decide (x ∈ S) with
        | true =>
          rw [hd] at hclo HST
          clear hd
          go_wp2_with fail
          refine hclo.mono ?_
          rintro e w2 ⟨rfl, hu2⟩
          have hu3 := ua.trans hu2
          have hb3 := hblk.up hu3.bl
          have hg3 := gr_trans hgr (gr_below hu3.bl _)
          have HT : Hid (cur.take i = out S (ls.take (j + 1))) := by
            show _ = _
            rw [HST.out, HTK.out]; simp
          clear hclo ua c0 c1 c2 c3 hu2 hu3 hblk hgr HST HTK
          go_wp2
          go_roundw
          case rel => first | exact ⟨i, j + 1, cur, rfl, by go_num, by omega, by omega, hb3, hcl, HT.out, HDR'.out, hg3⟩ | ((repeat apply Exists.intro); exact ⟨⟨i, j + 1, cur, rfl, by go_num, by omega, by omega, hb3, hcl, HT.out, HDR'.out, hg3⟩, rfl⟩)
          case measure => simp [intOf]; omega
        | false =>
          rw [hd] at hclo HST
          clear hd
          go_wp2_with fail
          refine hclo.mono ?_
          rintro e w2 ⟨rfl, hu2⟩
          have hu3 := ua.trans hu2
          have hb3 := hblk.up hu3.bl
          have hg3 := gr_trans hgr (gr_below hu3.bl _)
          obtain ⟨w4, hst, hb4, hg4⟩ := hb3.set (i := i) (by omega) x
          have hg5 := gr_trans hg3 hg4
          have hbx := (bx_new wr x.1 x.2.1 x.2.2.1 x.2.2.2 39).up hu2
          obtain ⟨d0, d1, d2, d3⟩ := hbx
          have HT : Hid ((cur.set i x).take (i + 1) = out S (ls.take (j + 1))) := by
            show _ = _
            rw [HST.out, ← HTK.out, List.take_add_one]
            have : (cur.set i x)[i]? = some x := by rw [List.getElem?_set_self (by omega)]
            rw [this, List.take_set_of_le (Nat.le_refl _)]
            simp
          have HD2 : Hid ((cur.set i x).drop (j + 1) = ls.drop (j + 1)) := by
            show _ = _
            rw [List.drop_set_of_lt (by omega)]
            exact HDR'.out
          have hcl2 : (cur.set i x).length = n := by simpa using hcl
          clear hclo ua c0 c1 c2 c3 hu2 hu3 hblk hgr HST HTK hb3 hg3 hg4 HDR'
          go_wp2_with (first | (refine wpList_store_cells rfl 39 (.tmp 33) (.tmp 32) rfl ⟨g, i * 4, none⟩ #[.int .u64 (x.1 : Nat), .int .i64 x.2.1, .int .u64 (x.2.2.1 : Nat), .int .i64 x.2.2.2] rfl rfl info26 w4 hst ?_))
          go_roundw
          case rel => first | exact ⟨i + 1, j + 1, cur.set i x, by go_num, by go_num, by omega, by omega, hb4, hcl2, HT.out, HD2.out, hg5⟩ | ((repeat apply Exists.intro); exact ⟨⟨i + 1, j + 1, cur.set i x, by go_num, by go_num, by omega, by omega, hb4, hcl2, HT.out, HD2.out, hg5⟩, rfl⟩)
          case measure => simp [intOf]; omega
      · obtain rfl : j = n := by omega
        have e : cur.take i = out S ls := by have := HTK.out; rwa [List.take_of_length_le (l := ls) (by omega)] at this
        obtain ⟨w4, hst, hb4, hg4⟩ := hblk.clear (i := i) (n := j - i) (by omega) (by omega) (cap - i) 0
        have hi0' : ¬ ((i : Int) < 0) := by omega
        have hlen : (out S ls).length = i := by rw [← e, List.length_take]; omega
        have HE : Hid (w4.ownsRow base 39 4 (.slice (some ⟨g, 0, none⟩) i cap) (out S ls).length (flat (out S ls)) ∧ w.grownBy w4 (some g)) := by
          refine ⟨?_, gr_trans hgr hg4⟩
          have := hb4.own hbg hcm i (by rw [List.length_take]; omega)
          rw [e, List.take_of_length_le (by omega)] at this
          rw [hlen]; exact this
        clear hblk hgr hg4 hb4 hS hB hok HTK HDR hlen
        go_wp2
        go_ret
        exact ⟨_, rfl, HE.out⟩
end Go.Proofs.YtlaihgdfedalmaaGreat.Q
namespace Go.Proofs.YtlaihgdfedalmaaGreat.Q
open Go.Shelf
def sortL_ren : Go.Shelf.Ren := ⟨fun | 6 => 175 | 15 => 183 | 14 => 182 | 28 => 193 | 29 => 194 | 20 => 185 | 21 => 186 | 22 => 187 | 23 => 188 | 24 => 189 | 25 => 190 | 26 => 191 | 27 => 192 | 46 => 196 | 47 => 197 | 48 => 198 | 49 => 199 | 50 => 200 | 57 => 201 | n => n, fun | 22 => 43 | 24 => 39 | 25 => 213 | 3 => 3 | 39 => 197 | 0 => 0 | 53 => 236 | 55 => 31 | 4 => 4 | 46 => 229 | 45 => 228 | 50 => 233 | 5 => 5 | 9 => 9 | 66 => 237 | 70 => 240 | 76 => 242 | 77 => 243 | n => n, fun | n => n⟩
theorem sortL : Go.Proofs.SlLaysF0.n6 Tryz.prog sortL_ren := {
  mixed := by kernel_rfl
  f6 := ⟨Tryz.f175.name, by decide, Tryz.func175.trans (congrArg some (by kernel_rfl))⟩
  f14 := ⟨Tryz.f182.name, by decide, Tryz.func182.trans (congrArg some (by kernel_rfl))⟩
  f15 := Tryz.func183.trans (congrArg some (by kernel_rfl))
  f20 := ⟨Tryz.f185.name, by decide, Tryz.func185.trans (congrArg some (by kernel_rfl))⟩
  f21 := ⟨Tryz.f186.name, by decide, Tryz.func186.trans (congrArg some (by kernel_rfl))⟩
  f22 := ⟨Tryz.f187.name, by decide, Tryz.func187.trans (congrArg some (by kernel_rfl))⟩
  f23 := ⟨Tryz.f188.name, by decide, Tryz.func188.trans (congrArg some (by kernel_rfl))⟩
  f24 := ⟨Tryz.f189.name, by decide, Tryz.func189.trans (congrArg some (by kernel_rfl))⟩
  f25 := ⟨Tryz.f190.name, by decide, Tryz.func190.trans (congrArg some (by kernel_rfl))⟩
  f26 := ⟨Tryz.f191.name, by decide, Tryz.func191.trans (congrArg some (by kernel_rfl))⟩
  f27 := ⟨Tryz.f192.name, by decide, Tryz.func192.trans (congrArg some (by kernel_rfl))⟩
  f28 := Tryz.func193.trans (congrArg some (by kernel_rfl))
  f29 := Tryz.func194.trans (congrArg some (by kernel_rfl))
  f46 := ⟨Tryz.f196.name, by decide, Tryz.func196.trans (congrArg some (by kernel_rfl))⟩
  f47 := Tryz.func197.trans (congrArg some (by kernel_rfl))
  f48 := Tryz.func198.trans (congrArg some (by kernel_rfl))
  f49 := ⟨Tryz.f199.name, by decide, Tryz.func199.trans (congrArg some (by kernel_rfl))⟩
  f50 := ⟨Tryz.f200.name, by decide, Tryz.func200.trans (congrArg some (by kernel_rfl))⟩
  f57 := ⟨Tryz.f201.name, by decide, Tryz.func201.trans (congrArg some (by kernel_rfl))⟩
  t0 := Tryz.underlying0
  a0 := Tryz.isAgg0
  z0 := Tryz.sizeOf0
  v0 := Tryz.zeroValue0
  t3 := Tryz.underlying3
  a3 := Tryz.isAgg3
  z3 := Tryz.sizeOf3
  v3 := Tryz.zeroValue3
  t4 := Tryz.underlying4
  a4 := Tryz.isAgg4
  z4 := Tryz.sizeOf4
  v4 := Tryz.zeroValue4
  t5 := Tryz.underlying5
  a5 := Tryz.isAgg5
  z5 := Tryz.sizeOf5
  v5 := Tryz.zeroValue5
  t9 := Tryz.underlying9
  a9 := Tryz.isAgg9
  z9 := Tryz.sizeOf9
  v9 := Tryz.zeroValue9
  t22 := Tryz.underlying43
  a22 := Tryz.isAgg43
  z22 := Tryz.sizeOf43
  v22 := Tryz.zeroValue43
  t25 := Tryz.underlying213
  a25 := Tryz.isAgg213
  z25 := Tryz.sizeOf213
  v25 := Tryz.zeroValue213
  t39 := Tryz.underlying197
  a39 := Tryz.isAgg197
  z39 := Tryz.sizeOf197
  v39 := Tryz.zeroValue197
  t45 := Tryz.underlying228
  a45 := Tryz.isAgg228
  z45 := Tryz.sizeOf228
  v45 := Tryz.zeroValue228
  t46 := Tryz.underlying229
  a46 := Tryz.isAgg229
  z46 := Tryz.sizeOf229
  v46 := Tryz.zeroValue229
  t50 := Tryz.underlying233
  a50 := Tryz.isAgg233
  z50 := Tryz.sizeOf233
  v50 := Tryz.zeroValue233
  t53 := Tryz.underlying236
  a53 := Tryz.isAgg236
  z53 := Tryz.sizeOf236
  v53 := Tryz.zeroValue236
  t55 := Tryz.underlying31
  a55 := Tryz.isAgg31
  z55 := Tryz.sizeOf31
  v55 := Tryz.zeroValue31
  t66 := Tryz.underlying237
  a66 := Tryz.isAgg237
  z66 := Tryz.sizeOf237
  v66 := Tryz.zeroValue237
  t70 := Tryz.underlying240
  a70 := Tryz.isAgg240
  z70 := Tryz.sizeOf240
  v70 := Tryz.zeroValue240
  t76 := Tryz.underlying242
  a76 := Tryz.isAgg242
  z76 := Tryz.sizeOf242
  v76 := Tryz.zeroValue242
  t77 := Tryz.underlying243
  a77 := Tryz.isAgg243
  z77 := Tryz.sizeOf243
  v77 := Tryz.zeroValue243 }
end Go.Proofs.YtlaihgdfedalmaaGreat.Q
namespace Go.Proofs.YtlaihgdfedalmaaGreat.Q
open Go.RowKit Go.Shelf Go.Lib Go.Sort
set_option linter.unusedVariables false

/-- Is a label less than another one? -/
def ltL (x y : Lb) : Prop := x.1 < y.1 ∨ x.1 = y.1 ∧ (x.2.1 < y.2.1 ∨ x.2.1 = y.2.1 ∧ (x.2.2.1 < y.2.2.1 ∨ x.2.2.1 = y.2.2.1 ∧ x.2.2.2 < y.2.2.2))
theorem cmpL_lt (x y : Lb) : cmpL x y < 0 ↔ ltL x y := by
  obtain ⟨n1, p1, s1, q1⟩ := x
  obtain ⟨n2, p2, s2, q2⟩ := y
  unfold cmpL cmpV sgn ltL
  simp only
  repeat' split
  all_goals omega
theorem ltL_irr (x : Lb) : ¬ ltL x x := by unfold ltL; omega
theorem ltL_trans {x y z : Lb} (h : ltL x y) (k : ltL y z) : ltL x z := by unfold ltL at *; omega
theorem ltL_ntrans {x y z : Lb} (h : ¬ ltL x y) (k : ¬ ltL y z) : ¬ ltL x z := by unfold ltL at *; omega
theorem ltL_tri {x y : Lb} (h : ¬ ltL x y) (k : ¬ ltL y x) : x = y := by
  obtain ⟨n1, p1, s1, q1⟩ := x
  obtain ⟨n2, p2, s2, q2⟩ := y
  unfold ltL at *
  simp only [Prod.mk.injEq] at *
  omega
theorem ltC (x y : Lb) : ltOf cmpL x y = true ↔ ltL x y := by unfold ltOf; rw [← cmpL_lt]; simp
theorem ltC' (x y : Lb) : ltOf cmpL x y = false ↔ ¬ ltL x y := by rw [← ltC]; simp
theorem swoL : SWO (ltOf cmpL) where
  irrefl x := (ltC' _ _).2 (ltL_irr x)
  trans x y z h1 h2 := (ltC _ _).2 (ltL_trans ((ltC _ _).1 h1) ((ltC _ _).1 h2))
  ntrans x y z h1 h2 := (ltC' _ _).2 (ltL_ntrans ((ltC' _ _).1 h1) ((ltC' _ _).1 h2))

theorem flatK_flat (d : Array Lb) : flatK cellsL 4 d = (flat d.toList).toArray := by
  refine ext_get! (by simp [flat_len]) fun t ht => ?_
  have ht' : t < d.size * 4 := by simpa using ht
  rw [get_flatK _ _ _ t ht']
  have hd : t / 4 < d.size := by omega
  have hg := flat_get d.toList (t / 4) d[t / 4] (t % 4) (by simp [hd]) (by omega)
  rw [show 4 * (t / 4) + t % 4 = t by omega] at hg
  rw [getElem!_pos d _ hd]
  have hlt : t % 4 < (cellsL d[t / 4]).length := by simp [cellsL]; omega
  rw [List.getElem?_eq_getElem hlt] at hg
  rw [getElem!_pos (cellsL d[t / 4]) _ hlt]
  obtain ⟨h1, h2⟩ := List.getElem?_eq_some_iff.1 hg
  have h3 : t < (flat d.toList).toArray.size := by simpa using h1
  rw [getElem!_pos _ t h3]
  simpa using h2.symm
theorem put_flat (d : Array Lb) (ls : List Lb) (r : List Value) (h : d.size = ls.length) : putCells id 0 (flat d.toList).toArray (flat ls ++ r).toArray = (flat d.toList ++ r).toArray := by
  have e3 : (flat d.toList).length = (flat ls).length := by rw [flat_len, flat_len, Array.length_toList, h]
  apply Array.ext_getElem?
  intro i
  unfold putCells
  rw [Array.getElem?_mapIdx]
  simp only [List.getElem?_toArray, List.size_toArray, Nat.zero_le, true_and, Nat.zero_add, Nat.sub_zero, id]
  by_cases hi : i < (flat d.toList).length
  · rw [List.getElem?_append_left hi, List.getElem?_eq_getElem (by rw [List.length_append]; omega), Option.map_some, if_pos hi, List.getElem?_eq_getElem hi]
    have h3 : i < (flat d.toList).toArray.size := by simpa using hi
    rw [getElem!_pos _ i h3]
    simp
  · rw [List.getElem?_append_right (by omega), List.getElem?_append_right (by omega), show (flat ls).length = (flat d.toList).length by omega]
    cases r[i - (flat d.toList).length]? with
    | none => rfl
    | some u => simp only [Option.map_some, if_neg hi]

theorem cmpLays12 (blk off size : Nat) (w : World) : CmpLays Tryz.prog 170 #[] cellsL 4 cmpL blk off size w :=
  fun _ _ _ _ x y => (compareL_any _ x y).mono fun e w' ⟨he, hu⟩ => ⟨he, hu.grow⟩

set_option maxRecDepth 10000 in
set_option maxHeartbeats 1000000 in
theorem sortF_blk (w : World) (g cap n : Nat) (ls : List Lb) (hb : Blk w g cap ls) (hn : ls.length = n) (hlen : n < 4611686018427387904) :
    Calls Tryz.prog 175 #[.slice (some ⟨g, 0, none⟩) n cap, .func (.func 170) #[] #[]] w fun e w' => e = .returned (.tuple #[]) ∧ ∃ ls', ls'.Perm ls ∧ ls'.Pairwise (fun x y => ¬ ltL y x) ∧ Blk w' g cap ls' ∧ w.grownBy w' (some g) := by
  have hglt := hb.lt
  obtain ⟨r, h1, h2⟩ := hb
  have hH : HoldsK cellsL 4 w g 0 ls.toArray := by
    intro j hj
    rw [flatK_flat] at hj ⊢
    have hj' : j < (flat ls).length := by simpa using hj
    refine ⟨?_, by simp [World.frozen?, h1]⟩
    rw [getElem!_pos _ j hj]
    unfold World.cell?
    rw [h1]
    simp only [List.getElem?_toArray, Nat.zero_add]
    rw [List.getElem?_append_left hj', List.getElem?_eq_getElem hj']
    simp
  have eg : ∀ args w, (callFunc 170 args).run Tryz.prog w = .ok (.enter 170 args) w := enters_of Tryz.func170 (by kernel_rfl) rfl
  have hS := AnyQ.slices_SortFunc sortL 4 Tryz.isAgg39 Tryz.sizeOf39 cellsL (fun _ => rfl) (fun x v hv => by simp [cellsL] at hv; rcases hv with rfl | rfl | rfl | rfl <;> rfl) cmpL swoL 170 #[] g 0 cap ls.toArray w eg (cmpLays12 g 0 _ w) hH hglt (by simpa [hn] using hlen)
  have hsz : ls.toArray.size = n := by simpa using hn
  rw [hsz] at hS
  change Calls Tryz.prog 175 _ _ _ at hS
  refine hS.mono ?_
  rintro e w' ⟨rfl, d', q, os, hperm, hsort, rfl⟩
  have hd's : d'.size = n := by rw [hperm.1]; exact hsz
  have hP : d'.toList.Perm ls := by
    have := hperm.2.2
    rw [show d'.extract 0 n = d' by rw [← hd's]; simp, show ls.toArray.extract 0 n = ls.toArray by rw [← hsz]; simp] at this
    simpa using this
  refine ⟨rfl, d'.toList, hP, ?_, ⟨r, ?_, ?_⟩, ?_⟩
  · rw [List.pairwise_iff_getElem]
    intro a b ha hb hab
    have ha' : a < d'.size := by simpa using ha
    have hb' : b < d'.size := by simpa using hb
    have := hsort a b (Nat.zero_le _) hab (by omega)
    rw [getElem!_pos _ a ha', getElem!_pos _ b hb'] at this
    simpa using (ltC' _ _).1 this
  · unfold sortWorldK
    rw [heap_grow_old _ _ (by simpa [putRowK, putRow, mapBlock, Sort.ahead] using hglt)]
    unfold putRowK putRow
    rw [flatK_flat]
    simp only [mapBlock, Sort.ahead, Array.getElem?_modify, h1, if_true, Option.map_some, onCells]
    rw [put_flat d' ls r (by omega)]
  · rw [← h2, List.length_append, List.length_append, flat_len, flat_len, Array.length_toList]; omega
  · refine ⟨rfl, rfl, rfl, by simp [sortWorldK, putRowK, putRow, mapBlock, Sort.ahead, Sort.grow], fun k hk hne => ?_⟩
    unfold sortWorldK
    rw [heap_grow_old _ _ (by simpa [putRowK, putRow, mapBlock, Sort.ahead] using hk)]
    have hkg : ¬ g = k := fun e => hne (by rw [e])
    simp [putRowK, putRow, mapBlock, Sort.ahead, Array.getElem?_modify, hkg]

theorem sortF_none (w : World) (a : Option Addr) (cap : Nat) (fv : Value) : Calls Tryz.prog 175 #[.slice a 0 cap, fv] w fun e w' => e = .returned (.tuple #[]) ∧ w = w' := by
  have hS := AnyF.slices_SortFunc_none (P := Tryz.prog) (ρ := sortL_ren) { sortL with } a cap fv w
  change Calls Tryz.prog 175 _ _ _ at hS
  exact hS.mono fun _ _ h => ⟨h.1, h.2.symm⟩
end Go.Proofs.YtlaihgdfedalmaaGreat.Q
namespace Go.Proofs.YtlaihgdfedalmaaGreat.Q
open Go.RowKit Go.Sort
set_option linter.unusedVariables false

/-- Of the first k those that are not what stands ahead of them. -/
def keep (ls : List Lb) : Nat → List Lb
  | 0 => []
  | k + 1 => keep ls k ++ (match ls[k]? with | some x => if 0 < k ∧ ls[k - 1]? = some x then [] else [x] | none => [])
theorem keep_next {ls : List Lb} {m : Nat} {x y : Lb} (hx : ls[m + 1]? = some x) (hy : ls[m]? = some y) (h : x ≠ y) : keep ls (m + 2) = keep ls (m + 1) ++ [x] := by
  rw [keep, hx]
  simp only [Nat.add_sub_cancel, hy, Option.some.injEq]
  rw [if_neg (fun e => h e.2.symm)]
theorem keep_same {ls : List Lb} {m : Nat} {x : Lb} (hx : ls[m + 1]? = some x) (hy : ls[m]? = some x) : keep ls (m + 2) = keep ls (m + 1) := by
  rw [keep, hx]
  simp only [Nat.add_sub_cancel, hy]
  rw [if_pos ⟨by omega, trivial⟩]
  simp
theorem keep_one {ls : List Lb} {x : Lb} (hx : ls[0]? = some x) : keep ls 1 = [x] := by
  rw [keep, hx, keep]
  simp
/-- Of labels of which none is ahead of a lesser one: each once, rising. -/
theorem keep_asc {ls : List Lb} (h : ls.Pairwise (fun x y => ¬ ltL y x)) : ∀ k, k ≤ ls.length → (keep ls k).Pairwise ltL ∧ (∀ x, x ∈ keep ls k ↔ x ∈ ls.take k) ∧ (∀ m y, k = m + 1 → ls[m]? = some y → ∀ x ∈ keep ls k, ¬ ltL y x)
  | 0, _ => ⟨by simp [keep], by simp [keep], fun m y e => by omega⟩
  | k + 1, hk => by
    obtain ⟨h1, h2, h3⟩ := keep_asc h k (by omega)
    have hp := List.pairwise_iff_getElem.1 h
    obtain ⟨x, hx⟩ : ∃ x, ls[k]? = some x := ⟨ls[k]'(by omega), List.getElem?_eq_getElem (by omega)⟩
    have ht : ∀ y, y ∈ ls.take (k + 1) ↔ y ∈ ls.take k ∨ y = x := fun y => by rw [List.take_add_one, hx]; simp
    have hge : ∀ y ∈ ls.take k, ¬ ltL x y := fun y hy => by
      obtain ⟨j, hj, rfl⟩ := List.mem_iff_getElem.1 hy
      rw [List.length_take] at hj
      have hxk : ls[k]'(by omega) = x := (List.getElem?_eq_some_iff.1 hx).2
      have := hp j k (by omega) (by omega) (by omega)
      rw [hxk] at this
      simpa using this
    have fin : ∀ y, y ∈ keep ls k → ¬ ltL x y := fun y hy => hge y ((h2 y).1 hy)
    cases k with
    | zero =>
      rw [keep_one hx]
      refine ⟨by simp, fun y => by rw [ht]; simp, fun m y e hy z hz => ?_⟩
      obtain rfl : m = 0 := by omega
      rw [hx] at hy
      cases hy
      simp at hz
      subst hz
      exact ltL_irr _
    | succ m =>
      obtain ⟨y, hy⟩ : ∃ y, ls[m]? = some y := ⟨ls[m]'(by omega), List.getElem?_eq_getElem (by omega)⟩
      have hyin : y ∈ ls.take (m + 1) := by rw [List.take_add_one, hy]; simp
      by_cases e : x = y
      · subst e
        rw [keep_same hx hy]
        refine ⟨h1, fun z => ?_, fun m' y' e' hy' z hz => ?_⟩
        · rw [ht, h2 z]
          exact ⟨Or.inl, fun h => h.elim id (fun e => e ▸ hyin)⟩
        · obtain rfl : m' = m + 1 := by omega
          rw [hx] at hy'
          cases hy'
          exact fin z hz
      · rw [keep_next hx hy e]
        refine ⟨?_, fun z => ?_, fun m' y' e' hy' z hz => ?_⟩
        · rw [List.pairwise_append]
          refine ⟨h1, by simp, fun a ha b hb => ?_⟩
          simp at hb
          subst hb
          have ha3 : ¬ ltL y a := h3 m y rfl hy a ha
          have hyx : ltL y b := by
            have hnx : ¬ ltL b y := hge y hyin
            exact Classical.byContradiction fun hn => e (ltL_tri hnx hn)
          exact Classical.byContradiction fun hn => by
            have := ltL_ntrans ha3 hn
            exact this hyx
        · rw [ht, List.mem_append, h2 z]; simp
        · obtain rfl : m' = m + 1 := by omega
          rw [hx] at hy'
          cases hy'
          rw [List.mem_append] at hz
          rcases hz with hz | hz
          · exact fin z hz
          · simp at hz; subst hz; exact ltL_irr _

set_option maxRecDepth 10000 in
set_option maxHeartbeats 2000000 in
theorem compact_some (w : World) (g n cap base : Nat) (ls : List Lb) (hblk : Blk w g cap ls) (hl : ls.length = n) (hbg : base ≤ g) (hcm : cap ≤ maxLen) :
    Calls Tryz.prog 176 #[.slice (some ⟨g, 0, none⟩) n cap] w fun e w' => ∃ v', e = .returned v' ∧ w'.ownsRow base 39 4 v' (keep ls n).length (flat (keep ls n)) ∧ w.grownBy w' (some g) := by
  have hnc : n ≤ cap := by have := hblk.len; omega
  have hwide : cap ≤ 9223372036854775807 := by unfold maxLen at hcm; omega
  have HOWN : Hid (∀ w', Blk w' g cap ls → w'.ownsRow base 39 4 (.slice (some ⟨g, 0, none⟩) n cap) n (flat ls)) := fun w' hb => by
    have := hb.own hbg hcm n (by omega)
    rwa [List.take_of_length_le (by omega)] at this
  by_cases h2 : n < 2
  · have HE : Hid (w.ownsRow base 39 4 (.slice (some ⟨g, 0, none⟩) n cap) (keep ls n).length (flat (keep ls n)) ∧ w.grownBy w (some g)) := by
      have e : keep ls n = ls := by
        match n, ls, hl, h2 with
        | 0, [], _, _ => rfl
        | 1, [x], _, _ => exact keep_one rfl
      rw [e, hl]
      exact ⟨HOWN.out w hblk, gr_refl _ _⟩
    have h2I : (n : Int) < 2 := by omega
    clear hblk HOWN
    go_enter Tryz.func176, Tryz.ntmps176
    go_wp2
    go_ret
    exact ⟨_, rfl, HE.out⟩
  · have h2I : ¬ ((n : Int) < 2) := by omega
    have H1 : Hid (keep ls 1 = ls.take 1) := by
      have hx : ls[0]? = some (ls[0]'(by omega)) := List.getElem?_eq_getElem (by omega)
      show _ = _
      rw [keep_one hx, List.take_add_one, hx]; simp
    go_enter Tryz.func176, Tryz.ntmps176
    go_wp2_with fail
    go_loopw [3] (fun iv wr => ∃ m : Nat, m + 1 ≤ n ∧ iv = .int .i64 ((m : Int) + 1) ∧ keep ls (m + 1) = ls.take (m + 1) ∧ Up w wr) (fun iv _ => n - (intOf iv).toNat)
    case atStart => exact ⟨0, by omega, rfl, H1.out, Up.refl _⟩
    case round =>
      obtain ⟨m, hm, rfl, hkp, hu⟩ := hrel
      have HK : Hid (keep ls (m + 1) = ls.take (m + 1)) := hkp
      clear hkp
      have hb := hblk.up hu.bl
      by_cases hlt : m + 1 < n
      · have hltI : (m : Int) + 1 < (n : Int) := by omega
        obtain ⟨x, hx⟩ : ∃ y, ls[m + 1]? = some y := ⟨ls[m + 1]'(by omega), List.getElem?_eq_getElem (by omega)⟩
        obtain ⟨y, hy⟩ : ∃ y, ls[m]? = some y := ⟨ls[m]'(by omega), List.getElem?_eq_getElem (by omega)⟩
        obtain ⟨c0, c1, c2, c3⟩ := hb.cell hx
        obtain ⟨d0, d1, d2, d3⟩ := hb.cell hy
        have heq := fun W => lab_equal x y W
        have HX : Hid (ls[m + 1]? = some x) := hx
        have HY : Hid (ls[m]? = some y) := hy
        clear hx hy
        have hm0 : ¬ ((m : Int) + 1 < 0) := by omega
        have hm1 : ¬ ((m : Int) < 0) := by omega
        have hm2 : (m : Int) < (n : Int) := by omega
        cases he : decide (x = y) with
        | false =>
          rw [he] at heq
          have HK' : Hid (keep ls (m + 1 + 1) = ls.take (m + 1 + 1)) := by
            show _ = _
            rw [keep_next HX.out HY.out (by simpa using he), HK.out, show ls.take (m + 1 + 1) = ls.take (m + 1) ++ ls[m + 1]?.toList from List.take_add_one, HX.out]; rfl
          clear he HK
          go_wp2_with fail
          go_quiet (fail)
          go_wp2
          go_roundw
          case rel => first | exact ⟨m + 1, by omega, by go_num, HK'.out, hu.drewN _⟩ | ((repeat apply Exists.intro); exact ⟨⟨m + 1, by omega, by go_num, HK'.out, hu.drewN _⟩, rfl⟩)
          case measure => simp [intOf]; omega
        | true =>
          rw [he] at heq
          have HK' : Hid (ls.take (m + 1) = keep ls (m + 1 + 1)) := by
            have e : x = y := by simpa using he
            subst e
            show _ = _
            rw [keep_same HX.out HY.out, HK.out]
          clear he HK
          go_wp2_with fail
          go_quiet (fail)
          go_wp2_with fail
          go_loopw [3, 5] (fun kv iv wr => ∃ (k t : Nat) (cur : List Lb), kv = .int .i64 (k : Nat) ∧ iv = .int .i64 ((t : Int) + 1) ∧ k ≤ m + 1 + t ∧ m + 1 + t + 1 ≤ n ∧ Blk wr g cap cur ∧ cur.length = n ∧ cur.take k = keep ls (m + 1 + t + 1) ∧ cur.drop (m + 1 + t) = ls.drop (m + 1 + t) ∧ w.grownBy wr (some g)) (fun _ iv _ => n - (intOf iv).toNat)
          case atStart => exact ⟨m + 1, 0, ls, by go_num, rfl, by omega, by omega, hb, hl, HK'.out, rfl, gr_below (hu.drewN _).bl _⟩
          case round =>
            clear c0 c1 c2 c3 d0 d1 d2 d3 heq HX HY HK' hb
            obtain ⟨k, t, cur, rfl, rfl, hkt, ht, hb, hcl, htk, hdr, hgr⟩ := hrel
            have HTK : Hid (cur.take k = keep ls (m + 1 + t + 1)) := htk
            have HDR : Hid (cur.drop (m + 1 + t) = ls.drop (m + 1 + t)) := hdr
            clear htk hdr
            by_cases hlt2 : m + 1 + t + 1 < n
            · obtain ⟨x, hx⟩ : ∃ y, ls[m + 1 + t + 1]? = some y := ⟨ls[m + 1 + t + 1]'(by omega), List.getElem?_eq_getElem (by omega)⟩
              obtain ⟨y, hy⟩ : ∃ y, ls[m + 1 + t]? = some y := ⟨ls[m + 1 + t]'(by omega), List.getElem?_eq_getElem (by omega)⟩
              have hx' : cur[m + 1 + t + 1]? = some x := by
                have h1 : (cur.drop (m + 1 + t))[1]? = (ls.drop (m + 1 + t))[1]? := by rw [HDR.out]
                simpa [hx] using h1
              have hy' : cur[m + 1 + t]? = some y := by
                have h1 : (cur.drop (m + 1 + t))[0]? = (ls.drop (m + 1 + t))[0]? := by rw [HDR.out]
                simpa [hy] using h1
              obtain ⟨c0, c1, c2, c3⟩ := hb.cell hx'
              obtain ⟨d0, d1, d2, d3⟩ := hb.cell hy'
              rw [show (m + 1 + t + 1) * 4 = (m + 1) * 4 + (t + 1) * 4 by omega] at c0 c1 c2 c3
              rw [show (m + 1 + t) * 4 = (m + 1) * 4 + t * 4 by omega] at d0 d1 d2 d3
              have heq := fun W => lab_equal x y W
              have HX : Hid (ls[m + 1 + t + 1]? = some x) := hx
              have HY : Hid (ls[m + 1 + t]? = some y) := hy
              clear hx hy hx' hy'
              have e1 : (t : Int) + 1 < ((n - (m + 1) : Nat) : Int) := by omega
              have e2 : (t : Int) < ((n - (m + 1) : Nat) : Int) := by omega
              have e3 : ¬ ((t : Int) + 1 < 0) := by omega
              have e4 : ¬ ((t : Int) < 0) := by omega
              have e5 : ¬ ((k : Int) < 0) := by omega
              have e6 : (k : Int) < (n : Int) := by omega
              have HD1 : Hid (cur.drop (m + 1 + (t + 1)) = ls.drop (m + 1 + (t + 1))) := by
                show _ = _
                have h1 : (cur.drop (m + 1 + t)).drop 1 = (ls.drop (m + 1 + t)).drop 1 := by rw [HDR.out]
                rw [List.drop_drop, List.drop_drop] at h1
                exact h1
              cases he : decide (x = y) with
              | true =>
                rw [he] at heq
                have HT : Hid (cur.take k = keep ls (m + 1 + (t + 1) + 1)) := by
                  have e : x = y := by simpa using he
                  subst e
                  show _ = _
                  rw [show m + 1 + (t + 1) + 1 = m + 1 + t + 2 by omega, keep_same HX.out HY.out]
                  exact HTK.out
                clear he HTK
                go_wp2_with fail
                go_quiet (fail)
                go_wp2
                go_roundw
                case rel => first | exact ⟨k, t + 1, cur, by go_num, by go_num, by omega, by omega, hb, hcl, HT.out, HD1.out, gr_trans hgr (gr_below ((Up.refl _).drewN _).bl _)⟩ | ((repeat apply Exists.intro); exact ⟨⟨k, t + 1, cur, by go_num, by go_num, by omega, by omega, hb, hcl, HT.out, HD1.out, gr_trans hgr (gr_below ((Up.refl _).drewN _).bl _)⟩, rfl⟩)
                case measure => simp [intOf]; omega
              | false =>
                rw [he] at heq
                have HT : Hid ((cur.set k x).take (k + 1) = keep ls (m + 1 + (t + 1) + 1)) := by
                  show _ = _
                  rw [show m + 1 + (t + 1) + 1 = m + 1 + t + 2 by omega, keep_next HX.out HY.out (by simpa using he), ← HTK.out, List.take_add_one]
                  have : (cur.set k x)[k]? = some x := by rw [List.getElem?_set_self (by omega)]
                  rw [this, List.take_set_of_le (Nat.le_refl _)]
                  rfl
                have HD2 : Hid ((cur.set k x).drop (m + 1 + (t + 1)) = ls.drop (m + 1 + (t + 1))) := by
                  show _ = _
                  rw [List.drop_set_of_lt (by omega)]
                  exact HD1.out
                have hcl2 : (cur.set k x).length = n := by simpa using hcl
                have hset := fun q => (show Blk (wr.drewN q) g cap cur from hb).set (i := k) (by omega) x
                clear he HTK HD1
                go_wp2_with fail
                go_quiet (fail)
                obtain ⟨w4, hst, hb4, hg4⟩ := hset nq
                have hg5 : w.grownBy w4 (some g) := gr_trans hgr (gr_trans (gr_below ((Up.refl _).drewN nq).bl _) hg4)
                clear hset hg4
                go_wp2_with (first | (refine wpList_store_cells rfl 39 (.tmp 51) (.tmp 50) rfl ⟨g, k * 4, none⟩ #[.int .u64 (x.1 : Nat), .int .i64 x.2.1, .int .u64 (x.2.2.1 : Nat), .int .i64 x.2.2.2] rfl rfl info26 w4 hst ?_))
                go_roundw
                case rel => first | exact ⟨k + 1, t + 1, cur.set k x, by go_num, by go_num, by omega, by omega, hb4, hcl2, HT.out, HD2.out, hg5⟩ | ((repeat apply Exists.intro); exact ⟨⟨k + 1, t + 1, cur.set k x, by go_num, by go_num, by omega, by omega, hb4, hcl2, HT.out, HD2.out, hg5⟩, rfl⟩)
                case measure => simp [intOf]; omega
            · have ent : m + 1 + t + 1 = n := by omega
              have e1 : ¬ ((t : Int) + 1 < ((n - (m + 1) : Nat) : Int)) := by omega
              have e : cur.take k = keep ls n := by rw [← ent]; exact HTK.out
              obtain ⟨w4, hst, hb4, hg4⟩ := hb.clear (i := k) (n := n - k) (by omega) (by omega) (cap - k) 0
              have hk0 : ¬ ((k : Int) < 0) := by omega
              have hlen : (keep ls n).length = k := by rw [← e, List.length_take]; omega
              have HE : Hid (w4.ownsRow base 39 4 (.slice (some ⟨g, 0, none⟩) k cap) (keep ls n).length (flat (keep ls n)) ∧ w.grownBy w4 (some g)) := by
                refine ⟨?_, gr_trans hgr hg4⟩
                have := hb4.own hbg hcm k (by rw [List.length_take]; omega)
                rw [e, List.take_of_length_le (by omega)] at this
                rw [hlen]; exact this
              have hkn : k < n := by omega
              clear hb hgr hg4 hb4 HTK HDR hlen e HOWN hblk hu ent
              go_wp2
              go_ret
              exact ⟨_, rfl, HE.out⟩
      · have em : m + 1 = n := by omega
        have HE : Hid (wr.ownsRow base 39 4 (.slice (some ⟨g, 0, none⟩) n cap) (keep ls n).length (flat (keep ls n)) ∧ w.grownBy wr (some g)) := by
          have e : keep ls n = ls := by rw [← em, HK.out, List.take_of_length_le (by omega)]
          rw [e, hl]
          exact ⟨HOWN.out wr hb, gr_below hu.bl _⟩
        have hltI : ¬ ((m : Int) + 1 < (n : Int)) := by omega
        clear hb HK HOWN hblk em hu
        go_wp2
        go_ret
        exact ⟨_, rfl, HE.out⟩
end Go.Proofs.YtlaihgdfedalmaaGreat.Q
namespace Go.Proofs.YtlaihgdfedalmaaGreat.Q
open Go.RowKit Go.Sort
set_option linter.unusedVariables false

theorem asc_nodup {a : List Lb} (h : a.Pairwise ltL) : a.Nodup := h.imp (fun {x y} hxy e => by subst e; exact ltL_irr _ hxy)
theorem nodup_len : ∀ {a b : List Lb}, a.Nodup → (∀ x ∈ a, x ∈ b) → a.length ≤ b.length
  | [], b, _, _ => by simp
  | x :: a, b, h, hs => by
    obtain ⟨h1, h2⟩ := List.nodup_cons.1 h
    have hxb := hs x (by simp)
    have := nodup_len (b := b.erase x) h2 (fun y hy => (List.mem_erase_of_ne (fun (e : y = x) => h1 (e ▸ hy))).2 (hs y (by simp [hy])))
    rw [List.length_erase_of_mem hxb] at this
    have : 0 < b.length := List.length_pos_of_mem hxb
    simp
    omega
theorem not_nodup : ∀ {b : List Lb}, ¬ b.Nodup → ∃ l1 x l2, b = l1 ++ x :: l2 ∧ x ∈ l2
  | [], h => absurd List.nodup_nil h
  | y :: b, h => by
    by_cases hy : y ∈ b
    · exact ⟨[], y, b, rfl, hy⟩
    · obtain ⟨l1, x, l2, e, hx⟩ := not_nodup (b := b) (fun hb => h (List.nodup_cons.2 ⟨hy, hb⟩))
      exact ⟨y :: l1, x, l2, by rw [e]; rfl, hx⟩
theorem twice_iff {a b : List Lb} (ha : a.Pairwise ltL) (h : ∀ x, x ∈ a ↔ x ∈ b) : a.length < b.length ↔ ¬ b.Nodup := by
  constructor
  · intro hl hb
    have := nodup_len hb (fun x hx => (h x).2 hx)
    omega
  · intro hb
    obtain ⟨l1, x, l2, e, hx⟩ := not_nodup hb
    have := nodup_len (b := l1 ++ l2) (asc_nodup ha) (fun y hy => by
      have := (h y).1 hy
      rw [e] at this
      simp at this ⊢
      rcases this with h | h | h
      · exact Or.inl h
      · subst h; exact Or.inr hx
      · exact Or.inr h)
    rw [e]
    simp at this ⊢
    omega

theorem infoL : (Tryz.prog.info? 39).map (fun i => (i.zero, i.size, i.bytes)) = some (some (.agg #[.int .u64 0, .int .i64 0, .int .u64 0, .int .i64 0]), 4, 32) := by kernel_rfl
theorem _root_.Go.Proofs.YtlaihgdfedalmaaGreat.LR.cells {w : World} {a : Addr} {n : Nat} {ls : List Lb} (h : LR w (some a) n ls) : ∀ j u, (flat ls)[j]? = some u → w.cell? (a.add j) = some u := by
  intro j u hj
  obtain ⟨hl, _, hc⟩ := h
  have hjl : j < ls.length * 4 := by
    have := (List.getElem?_eq_some_iff.1 hj).1
    rwa [flat_len] at this
  obtain ⟨b, off, e, hcell⟩ := hc (by omega)
  cases e
  rw [Addr.add_lit]
  obtain ⟨x, hx⟩ : ∃ x, ls[j / 4]? = some x := ⟨ls[j / 4]'(by omega), List.getElem?_eq_getElem (by omega)⟩
  have hf := flat_get ls (j / 4) x (j % 4) hx (by omega)
  rw [show 4 * (j / 4) + j % 4 = j by omega, hj] at hf
  obtain ⟨c0, c1, c2, c3⟩ := hcell _ x hx
  have hm : j % 4 = 0 ∨ j % 4 = 1 ∨ j % 4 = 2 ∨ j % 4 = 3 := by omega
  rcases hm with e | e | e | e
  · rw [e] at hf; simp [cellsL] at hf; rw [hf, show off + j = off + j / 4 * 4 by omega]; exact c0
  · rw [e] at hf; simp [cellsL] at hf; rw [hf, show off + j = off + j / 4 * 4 + 1 by omega]; exact c1
  · rw [e] at hf; simp [cellsL] at hf; rw [hf, show off + j = off + j / 4 * 4 + 2 by omega]; exact c2
  · rw [e] at hf; simp [cellsL] at hf; rw [hf, show off + j = off + j / 4 * 4 + 3 by omega]; exact c3

set_option maxRecDepth 10000 in
set_option maxHeartbeats 1000000 in
theorem clone_any (w : World) (ao : Option Addr) (n cap : Nat) (ls : List Lb) (h : LR w ao n ls) (hn : n ≤ 5000) (hz : ao = none → n = 0) :
    Calls Tryz.prog 111 #[.slice ao n cap] w fun e w' => ∃ v, e = .returned v ∧ w'.ownsRow w.heap.size 39 4 v n (flat ls) ∧ Below w.heap.size w w' := by
  obtain ⟨i0, hi0, hz0, hz1, hz2⟩ := info_parts infoL
  have q32 := fun (w : World) (a : Option Addr) (n c n' c' : Nat) => Lib.run_eql_slice_nil (P := Tryz.prog) w 43 39 a n c n' c' und32
  have hl := h.1
  cases ao with
  | none =>
    obtain rfl := hz rfl
    obtain rfl : ls = [] := List.length_eq_zero_iff.1 hl
    go_enter Tryz.func111, Tryz.ntmps111
    go_wp2
    go_ret
    exact ⟨_, rfl, ⟨rfl, .inl ⟨rfl, rfl⟩⟩, Below.refl _ _⟩
  | some ad =>
    have hA : Hid (∀ j u, (flat ls)[j]? = some u → w.cell? (ad.add j) = some u) := h.cells
    have HF : Hid ((flat ls).length = n * 4) := by show _ = _; rw [flat_len, hl]
    clear h hz
    go_enter Tryz.func111, Tryz.ntmps111
    go_wp2_with (at_builtin; refine wpList_append_own_at _ rfl _ _ 43 rfl w.heap.size 39 i0 (.agg #[.int .u64 0, .int .i64 0, .int .u64 0, .int .i64 0]) 4 32 und32 hi0 hz0 hz1 hz2 rfl (by decide) _ 0 [] rfl ?d1 ad n cap (flat ls) rfl ?d2 ?d3 ?d4 ?d6 ?d7 ?d8 ?_)
    case d1 => exact World.ownsRow_made w #[] 0 (Nat.le_refl _) (Nat.zero_le _) (by simp)
    case d2 => exact HF.out
    case d3 => exact fun j u hj => ((bl1 w _).cell (World.block_lt_of_cell? w _ (hA.out j u hj))).trans (hA.out j u hj)
    case d4 => exact fun u hu => flat_one hu
    case d6 => unfold maxLen; omega
    case d7 => omega
    case d8 => simp
    intro v' w1 hown hgrow hnil hat
    have HE : Hid (w1.ownsRow w.heap.size 39 4 v' n (flat ls) ∧ Below w.heap.size w w1) := ⟨by simpa using hown, bl_grown (bl1 w _) (by simp) hgrow (by intro k hk; simp [Value.ownBlock] at hk; omega)⟩
    clear hown hgrow hnil hat
    go_wp2
    go_ret
    exact ⟨v', rfl, HE.out⟩

theorem compact_none (w : World) : Calls Tryz.prog 176 #[.slice none 0 0] w fun e w' => e = .returned (.slice none 0 0) ∧ w = w' := by
  go_enter Tryz.func176, Tryz.ntmps176
  go_wp2
  go_ret
  exact ⟨rfl, rfl⟩

set_option maxRecDepth 10000 in
set_option maxHeartbeats 1000000 in
theorem sort_any (w : World) (ao : Option Addr) (n cap : Nat) (ls : List Lb) (h : LR w ao n ls) (hn : n ≤ 5000) (hz : ao = none → n = 0) :
    Calls Tryz.prog 165 #[.slice ao n cap] w fun e w' => ∃ v rs, e = .returned v ∧ rs.Pairwise ltL ∧ (∀ x, x ∈ rs ↔ x ∈ ls) ∧ w'.ownsRow w.heap.size 39 4 v rs.length (flat rs) ∧ Below w.heap.size w w' := by
  have hl := h.1
  have hcl := clone_any w ao n cap ls h hn hz
  clear h hz
  go_enter Tryz.func165, Tryz.ntmps165
  go_wp2_with fail
  refine hcl.mono ?_
  rintro e w1 ⟨v, rfl, hown, hb1⟩
  clear hcl
  rcases hown.2 with ⟨rfl, rfl⟩ | ⟨g, cp, cur, rfl, _⟩
  · obtain rfl : ls = [] := List.length_eq_zero_iff.1 hl
    clear hown
    go_wp2_with fail
    refine (sortF_none _ _ _ _).mono ?_
    rintro e w2 ⟨rfl, rfl⟩
    go_wp2_with fail
    refine (compact_none _).mono ?_
    rintro e w2 ⟨rfl, rfl⟩
    go_wp2
    go_ret
    exact ⟨_, [], rfl, by simp, by simp, ⟨rfl, .inl ⟨rfl, rfl⟩⟩, hb1⟩
  · obtain ⟨hblk, hbg, hnc, hcm⟩ := Blk.ofOwn hown
    have hsort := sortF_blk w1 g cp n ls hblk hl (by omega)
    clear hown hblk
    go_wp2_with fail
    refine hsort.mono ?_
    rintro e w2 ⟨rfl, ls', hperm, hasc, hblk2, hg2⟩
    have hl2 : ls'.length = n := by rw [hperm.length_eq]; exact hl
    have hcp := compact_some w2 g n cp w.heap.size ls' hblk2 hl2 hbg hcm
    have HP : Hid ((keep ls' n).Pairwise ltL ∧ ∀ x, x ∈ keep ls' n ↔ x ∈ ls) := by
      obtain ⟨a1, a2, _⟩ := keep_asc hasc n (by omega)
      refine ⟨a1, fun x => ?_⟩
      rw [a2 x, List.take_of_length_le (by omega)]
      exact hperm.mem_iff
    have hb2 : Below w.heap.size w w2 := bl_grown hb1 hb1.size hg2 (fun k hk => by cases hk; exact hbg)
    clear hperm hasc hblk2 hg2 hsort
    go_wp2_with fail
    refine hcp.mono ?_
    rintro e w3 ⟨v3, rfl, hown3, hg3⟩
    have hb3 : Below w.heap.size w w3 := bl_grown hb2 hb2.size hg3 (fun k hk => by cases hk; exact hbg)
    have HE : Hid (w3.ownsRow w.heap.size 39 4 v3 (keep ls' n).length (flat (keep ls' n)) ∧ Below w.heap.size w w3) := ⟨hown3, hb3⟩
    clear hown3 hg3 hb3 hcp hb2 hb1
    go_wp2
    go_ret
    exact ⟨v3, _, rfl, HP.out.1, HP.out.2, HE.out⟩

end Go.Proofs.YtlaihgdfedalmaaGreat.Q
namespace Go.Proofs.YtlaihgdfedalmaaGreat.Q
open Go.RowKit Go.Sort
set_option linter.unusedVariables false

theorem run_append_zeros (n : Nat) (h0 : 0 < n) (hn : n ≤ 100000) (ty : TypeId) (w : World) : ∃ cap cur, Sem.run Tryz.prog (Builtin.append_ #[43, 3] ty #[.slice none 0 0, .int .i64 (n : Nat)]) w = .ok (.slice (some ⟨w.heap.size, 0, none⟩) n cap) (w.drew.alloc (.cells cur 39)) ∧ cur.size = cap * 4 ∧ n ≤ cap ∧ cap ≤ maxLen := by
  obtain ⟨i, hi, hz, hz1, hz2⟩ := info_parts infoL
  have hn0 : n ≠ 0 := by omega
  have h63' : ¬ (9223372036854775807 < (n : Int)) := by omega
  have h48' : ¬ (281474976710656 < Builtin.nextslicecap n 0 * i.bytes) := by rw [nextslicecap_zero h0, hz2]; omega
  have hw : IntKind.i64.wrap (n : Int) = n := by simp [IntKind.wrap, IntKind.bits, IntKind.signed]; omega
  have hneg : ¬ ((n : Int) < 0) := by omega
  have hbig : ¬ (281474976710656 < (n : Int) * (i.bytes : Int)) := by rw [hz2]; omega
  have ha : ∀ W, Sem.run Tryz.prog (asIntOf (.int .i64 (n : Nat))) W = .ok (.i64, (n : Int)) W := fun _ => rfl
  refine ⟨grownCap w n 0 39, Builtin.zeroCells (Value.agg #[.int .u64 0, .int .i64 0, .int .u64 0, .int .i64 0]).cells n ++ Builtin.zeroCells (Value.agg #[.int .u64 0, .int .i64 0, .int .u64 0, .int .i64 0]).cells (grownCap w n 0 39 - n), ?_, ?_, grownCap_ge _ _ _ _, grownCap_le_maxLen _ _ _ _ (by unfold maxLen; omega)⟩
  · simp [Builtin.append_, run_underlying und32, run_underlying Tryz.underlying3, sizeOf, typeInfo, zeroValue, hi, hz, hz1, asInt, ha, hw, hneg, hbig, hn0, h63', h48', Question.forced, run_firstCells_none, newRow, grownCap]
    intro h4
    omega
  · have := grownCap_ge w n 0 39
    rw [Array.size_append, size_zeroCells, size_zeroCells]
    simp [Value.cells]
    omega

/-- An append by its run. -/
theorem wpList_append_run {P : Program} {w : World} {ops : Array Oper} {rest : List Oper} {o : Oper} {a : Act} {Q : Exit → Act → World → Prop} (hgd : o.guard = none) (s x : Operand) (t u : TypeId)
    (ho : o.op = .call { callee := .builtin .append, args := #[s, x], argTypes := #[t, u] }) (v y v' : Value) (w' : World) (hs : a.eval s = v) (hx : a.eval x = y) (hrun : (Builtin.append_ #[t, u] o.type #[v, y]).run P w = .ok v' w')
    (h : wpList P ops Q rest (a.put o.dst v') w') : wpList P ops Q (o :: rest) a w := by
  refine wpList_plain hgd fun K hK => ?_
  unfold Oper.wp execOp
  simp only [ho, resolve, invoke, builtin, Sem.run_bind, Sem.run_pure, Result.andThen_ok, List.map_toArray, List.map_cons, List.map_nil, hs, hx, hrun]
  exact hK _ _ h
set_option maxRecDepth 10000 in
set_option maxHeartbeats 1000000 in
theorem grow_any (w : World) (n : Nat) (hn : n ≤ 100000) : Calls Tryz.prog 178 #[.slice none 0 0, .int .i64 (n : Nat)] w fun e w' => ∃ v, e = .returned v ∧ w'.ownsRow w.heap.size 39 4 v 0 [] ∧ Below w.heap.size w w' := by
  by_cases h0 : n = 0
  · subst h0
    go_enter Tryz.func178, Tryz.ntmps178
    go_wp2
    go_ret
    exact ⟨_, rfl, World.ownsRow_nil _ _ _ _, Below.refl _ _⟩
  · have h0I : (0 : Int) < (n : Int) := by omega
    have hneg : ¬ ((n : Int) < 0) := by omega
    obtain ⟨cap, cur, hrun, hcs, hnc, hcm⟩ := run_append_zeros n (by omega) hn 43 w
    have HE : Hid ((w.drew.alloc (.cells cur 39)).ownsRow w.heap.size 39 4 (.slice (some ⟨w.heap.size, 0, none⟩) 0 cap) 0 [] ∧ Below w.heap.size w (w.drew.alloc (.cells cur 39))) :=
      ⟨World.ownsRow_made w.drew cur cap (Nat.le_refl _) hcm hcs, (Below.refl _ w).drew.alloc (Nat.le_refl _) _⟩
    clear hcs
    go_enter Tryz.func178, Tryz.ntmps178
    go_wp2_with (at_builtin; refine wpList_append_run rfl _ _ 43 3 rfl _ _ _ _ rfl rfl hrun ?_)
    go_ret
    exact ⟨_, rfl, HE.out⟩

/-- Any labels behind a row of one's own. -/
theorem wpList_append_LR {w : World} {ops : Array Oper} {rest : List Oper} {o : Oper} {a : Act} {Q : Exit → Act → World → Prop} (hgd : o.guard = none) (s x : Operand)
    (ho : o.op = .call { callee := .builtin .append, args := #[s, x], argTypes := #[43, 43] }) (base : Nat)
    (v : Value) (n : Nat) (xs : List Lb) (hs : a.eval s = v) (hown : w.ownsRow base 39 4 v n (flat xs))
    (bo : Option Addr) (m c : Nat) (ms : List Lb) (hx : a.eval x = .slice bo m c) (hu : LR w bo m ms) (hz : bo = none → m = 0 ∧ c = 0)
    (hnm : n + m ≤ 1000000) (hbase : base ≤ w.heap.size)
    (h : ∀ v' w', w'.ownsRow base 39 4 v' (n + m) (flat (xs ++ ms)) → w.grownBy w' v.ownBlock → wpList Tryz.prog ops Q rest (a.put o.dst v') w') :
    wpList Tryz.prog ops Q (o :: rest) a w := by
  obtain ⟨i0, hi0, hz0, hz1, hz2⟩ := info_parts infoL
  cases bo with
  | none =>
    obtain ⟨rfl, rfl⟩ := hz rfl
    obtain rfl : ms = [] := List.length_eq_zero_iff.1 hu.1
    refine wpList_append_own_none hgd s x 43 ho base 39 i0 4 und32 hi0 v n (flat xs) hs hown hx ?_
    exact h v w (by simpa using hown) ⟨rfl, rfl, rfl, Nat.le_refl _, fun _ _ _ => rfl⟩
  | some ad =>
    refine wpList_append_own_at _ hgd s x 43 ho base 39 i0 (.agg #[.int .u64 0, .int .i64 0, .int .u64 0, .int .i64 0]) 4 32 und32 hi0 hz0 hz1 hz2 rfl (by decide) v n (flat xs) hs hown ad m c (flat ms) hx (by rw [flat_len, hu.1]) hu.cells (fun u hu' => flat_one hu') (by unfold maxLen; omega) (by omega) hbase (fun v' w' a b _ _ => h v' w' (by rw [flat_app]; exact a) b)

set_option maxRecDepth 10000 in
set_option maxHeartbeats 2000000 in
theorem concat_any (w : World) (B : Nat) (ao : Option Addr) (n cap : Nat) (ls : List Lb) (hA : LR w ao n ls) (hz : ao = none → n = 0 ∧ cap = 0) (bo : Option Addr) (m cbp : Nat) (ms : List Lb) (hM : LR w bo m ms) (hzm : bo = none → m = 0 ∧ cbp = 0) (hn : n + m ≤ 10000)
    (h0 : w.cell? ⟨B, 0, none⟩ = some (.slice ao n cap)) (h1 : w.cell? ⟨B, 1, none⟩ = some (.slice bo m cbp)) :
    Calls Tryz.prog 167 #[.slice (some ⟨B, 0, none⟩) 2 2] w fun e w' => ∃ v, e = .returned v ∧ w'.ownsRow w.heap.size 39 4 v (n + m) (flat (ls ++ ms)) ∧ Below w.heap.size w w' := by
  have hgr := fun W => grow_any W (n + m) (by omega)
  have hneg : ¬ ((n : Int) < 0) := by omega
  have hneg2 : ¬ ((n : Int) + (m : Int) < 0) := by omega
  have hcast : ((n + m : Nat) : Int) = (n : Int) + (m : Int) := by omega
  rw [hcast] at hgr
  clear hcast
  have HA : Hid (LR w ao n ls) := hA
  have HM : Hid (LR w bo m ms) := hM
  clear hA hM
  go_enter Tryz.func167, Tryz.ntmps167
  go_wp2
  refine wp_loop_rounds 3 ?_
  rw [rounds_succ]
  go_wp2
  rw [rounds_succ]
  go_wp2
  rw [rounds_succ]
  go_wp2_with fail
  refine (hgr _).mono ?_
  rintro e w1 ⟨v, rfl, hown, hb1⟩
  have c0 := (hb1.cell (World.block_lt_of_cell? w _ h0)).trans h0
  have c1 := (hb1.cell (World.block_lt_of_cell? w _ h1)).trans h1
  have hA1 := HA.out.up hb1
  have hs1 := hb1.size
  clear hgr
  go_wp2
  refine wp_loop_rounds 3 ?_
  rw [rounds_succ]
  go_wp2_with (at_builtin; refine wpList_append_LR rfl _ _ rfl w.heap.size _ 0 [] rfl ?d1 ao n cap ls rfl ?d2 hz ?d3 ?d4 ?_)
  case d1 => exact hown
  case d2 => exact hA1
  case d3 => omega
  case d4 => exact hs1
  intro v2 w2 hown2 hg2
  have hne : ∀ k, v.ownBlock = some k → w.heap.size ≤ k := fun k hk => (hown.lt k hk).1
  have hb2 : Below w.heap.size w w2 := bl_grown hb1 hs1 hg2 hne
  have d0 := (hb2.cell (World.block_lt_of_cell? w _ h0)).trans h0
  have d1 := (hb2.cell (World.block_lt_of_cell? w _ h1)).trans h1
  have hM2 := HM.out.up hb2
  have hs2 := hb2.size
  clear hown hg2 hne hA1 c0 c1 hb1 hs1
  go_wp2
  rw [rounds_succ]
  go_wp2_with (at_builtin; refine wpList_append_LR rfl _ _ rfl w.heap.size _ n ls rfl ?d1 bo m cbp ms rfl ?d2 hzm ?d3 ?d4 ?_)
  case d1 => exact hown2
  case d2 => exact hM2
  case d3 => omega
  case d4 => exact hs2
  intro v3 w3 hown3 hg3
  have hne : ∀ k, v2.ownBlock = some k → w.heap.size ≤ k := fun k hk => (hown2.lt k hk).1
  have hb3 : Below w.heap.size w w3 := bl_grown hb2 hs2 hg3 hne
  have HE : Hid (w3.ownsRow w.heap.size 39 4 v3 (n + m) (flat (ls ++ ms)) ∧ Below w.heap.size w w3) := ⟨hown3, hb3⟩
  clear hown2 hown3 hg3 hne hM2 d0 d1 hb2 hs2 hb3
  go_wp2
  rw [rounds_succ]
  go_wp2
  go_ret
  exact ⟨v3, rfl, HE.out⟩
end Go.Proofs.YtlaihgdfedalmaaGreat.Q
namespace Go.Proofs.YtlaihgdfedalmaaGreat.Q
open Go.RowKit Go.Sort
set_option linter.unusedVariables false

theorem out_congr {S T : List Lb} (h : ∀ x, x ∈ S ↔ x ∈ T) (ls : List Lb) : out S ls = out T ls := by
  unfold out
  apply List.filter_congr
  intro x _
  simp [h x]

set_option maxRecDepth 10000 in
theorem deleteFunc_none (w : World) (B m k0 : Nat) (S : List Lb) (hB : w.cell? ⟨B, 0, none⟩ = some (.map (some m))) (hS : SetIs w m k0 S) :
    Calls Tryz.prog 164 #[.slice none 0 0, .func (.func 177) #[] #[.pointer (some ⟨B, 0, none⟩)]] w fun e w' => e = .returned (.slice none 0 0) ∧ Below w.heap.size w w' := by
  have hix := indexFunc_any w none 0 0 [] ⟨rfl, by omega, fun h => by omega⟩ (by simp) B m k0 S hB hS
  go_enter Tryz.func164, Tryz.ntmps164
  go_wp2_with fail
  refine hix.mono ?_
  rintro e w1 ⟨⟨rfl, hno⟩ | ⟨i0, y0, hi0, _⟩, hu1⟩
  · clear hix hno hS hB
    go_wp2
    go_ret
    exact ⟨rfl, hu1.bl⟩
  · omega

theorem deleteFunc_any (w : World) (v : Value) (n base : Nat) (ls : List Lb) (hown : w.ownsRow base 39 4 v n (flat ls)) (hok : ∀ x ∈ ls, OkL x) (B m k0 : Nat) (S : List Lb) (hB : w.cell? ⟨B, 0, none⟩ = some (.map (some m))) (hS : SetIs w m k0 S) (hne : ∀ g, v.ownBlock = some g → g ≠ B ∧ g ≠ m) :
    Calls Tryz.prog 164 #[v, .func (.func 177) #[] #[.pointer (some ⟨B, 0, none⟩)]] w fun e w' => ∃ v', e = .returned v' ∧ w'.ownsRow base 39 4 v' (out S ls).length (flat (out S ls)) ∧ w.grownBy w' v.ownBlock := by
  rcases hown.2 with ⟨rfl, rfl⟩ | ⟨g, cap, cur, rfl, _⟩
  · have hl := hown.1
    rw [flat_len] at hl
    obtain rfl : ls = [] := List.length_eq_zero_iff.1 (by omega)
    refine (deleteFunc_none w B m k0 S hB hS).mono ?_
    rintro e w' ⟨rfl, hb⟩
    exact ⟨_, rfl, World.ownsRow_nil _ _ _ _, gr_below hb _⟩
  · obtain ⟨h1, h2⟩ := hne g rfl
    exact deleteFunc_some w g n cap base ls hown hok B m k0 S hB hS h1 h2

set_option maxRecDepth 10000 in
set_option maxHeartbeats 1000000 in
theorem behind_any (w : World) (ao : Option Addr) (n cap : Nat) (ls : List Lb) (hA : LR w ao n ls) (hz : ao = none → n = 0 ∧ cap = 0) (hokA : ∀ x ∈ ls, OkL x) (bo : Option Addr) (m cbp : Nat) (ms : List Lb) (hM : LR w bo m ms) (hzm : bo = none → m = 0 ∧ cbp = 0) (hokM : ∀ x ∈ ms, OkL x) (hn : n ≤ 5000) (hm : m ≤ 5000) :
    Calls Tryz.prog 138 #[.slice ao n cap, .slice bo m cbp] w fun e w' => ∃ v rs, e = .returned v ∧ rs.Pairwise ltL ∧ (∀ x, x ∈ rs ↔ x ∈ ms) ∧ w'.ownsRow w.heap.size 39 4 v (n + (out ls rs).length) (flat (ls ++ out ls rs)) ∧ Below w.heap.size w w' := by
  have hso := sort_any w bo m cbp ms hM hm (fun e => (hzm e).1)
  have HA : Hid (LR w ao n ls) := hA
  have hln := hA.1
  have hlm := hM.1
  clear hA hM
  go_enter Tryz.func138, Tryz.ntmps138
  go_wp2_with fail
  refine hso.mono ?_
  rintro e w1 ⟨v1, rs, rfl, hasc, hmem, hown1, hb1⟩
  have hA1 := HA.out.up hb1
  have ham := among_any w1 ao n cap ls hA1 hokA (by omega)
  have hrl : rs.length ≤ m := by
    have := nodup_len (asc_nodup hasc) (fun x hx => (hmem x).1 hx)
    omega
  have HR : Hid (rs.Pairwise ltL ∧ ∀ x, x ∈ rs ↔ x ∈ ms) := ⟨hasc, hmem⟩
  have hokR : ∀ x ∈ rs, OkL x := fun x hx => hokM x ((hmem x).1 hx)
  clear hso hA1 hasc hmem
  go_wp2_with fail
  refine ham.mono ?_
  rintro e w2 ⟨B, mb, k0, S, rfl, hB1, hm1, hB, hS, hSl, hb2⟩
  have hb12 := bl_step hb1 hb2
  have hlt1 : ∀ g, v1.ownBlock = some g → g < w1.heap.size := fun g hg => (hown1.lt g hg).2
  have hown2 : w2.ownsRow w.heap.size 39 4 v1 rs.length (flat rs) := by
    refine hown1.kept (gr_below hb2 none) ?_
    cases v1.ownBlock with
    | none => exact Or.inl rfl
    | some g => exact Or.inr (by simp)
  have hdl := deleteFunc_any w2 v1 rs.length w.heap.size rs hown2 hokR B mb k0 S hB hS (fun g hg => ⟨by have := hlt1 g hg; omega, by have := hlt1 g hg; omega⟩)
  have hlt2 : ∀ g, v1.ownBlock = some g → w.heap.size ≤ g := fun g hg => (hown1.lt g hg).1
  rw [out_congr hSl] at hdl
  clear ham hown1 hown2 hB hS hSl hb1 hb2 hlt1 hB1 hm1
  go_wp2_with fail
  refine hdl.mono ?_
  rintro e w3 ⟨v3, rfl, hown3, hg3⟩
  have hb3 : Below w.heap.size w w3 := bl_grown hb12 hb12.size hg3 hlt2
  obtain ⟨ao3, cp3, rfl, hLR3⟩ := LR.own hown3
  have hz3 : ao3 = none → (out ls rs).length = 0 ∧ cp3 = 0 := by
    rintro rfl
    rcases hown3.2 with ⟨h0, h1⟩ | ⟨g, cap', cur, h0, _⟩
    · simp only [Value.slice.injEq] at h0; exact ⟨h1, h0.2.2⟩
    · simp at h0
  have hol := out_le ls rs
  have hA3 := HA.out.up hb3
  have ub : Below w3.heap.size w3 (w3.alloc (.cells #[.slice ao n cap, .slice ao3 (out ls rs).length cp3] 43)) := bl1 _ _
  have hct := concat_any (w3.alloc (.cells #[.slice ao n cap, .slice ao3 (out ls rs).length cp3] 43)) w3.heap.size ao n cap ls (hA3.up ub) hz ao3 (out ls rs).length cp3 (out ls rs) (hLR3.up ub) hz3 (by omega) (cell_box w3 _ 43 0 _ rfl) (cell_box w3 _ 43 1 _ rfl)
  have hb4 := bl_step hb3 ub
  clear hdl hown3 hg3 hLR3 hA3 ub hb12 hlt2
  go_wp2_with fail
  refine hct.mono ?_
  rintro e w5 ⟨v5, rfl, hown5, hb5⟩
  have HE : Hid (w5.ownsRow w.heap.size 39 4 v5 (n + (out ls rs).length) (flat (ls ++ out ls rs)) ∧ Below w.heap.size w w5) := by
    refine ⟨⟨hown5.1, ?_⟩, bl_step hb4 hb5⟩
    rcases hown5.2 with h0 | ⟨g, cap', cur, h0, h1, h2⟩
    · exact Or.inl h0
    · exact Or.inr ⟨g, cap', cur, h0, Nat.le_trans hb4.size h1, h2⟩
  clear hct hown5 hb5 hb4 hb3
  go_wp2
  go_ret
  exact ⟨v5, rs, rfl, HR.out.1, HR.out.2, HE.out⟩
end Go.Proofs.YtlaihgdfedalmaaGreat.Q
