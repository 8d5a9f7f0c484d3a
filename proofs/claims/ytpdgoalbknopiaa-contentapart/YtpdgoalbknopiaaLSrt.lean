/-
  Sort and Twice of package label.
-/
import Derived.Test.YtpdgoalbknopiaaLComp
import Derived.Laws.AppendOwnNone
namespace Go.Proofs.Ytpdgoalbknopiaa
open Go.RowKit Go.Sort
set_option linter.unusedVariables false

theorem asc_eq : ∀ {a b : List Lb}, a.Pairwise ltL → b.Pairwise ltL → (∀ x, x ∈ a ↔ x ∈ b) → a = b
  | [], [], _, _, _ => rfl
  | [], y :: b, _, _, h => by have := (h y).2 (by simp); simp at this
  | x :: a, [], _, _, h => by have := (h x).1 (by simp); simp at this
  | x :: a, y :: b, ha, hb, h => by
    obtain ⟨ha1, ha2⟩ := List.pairwise_cons.1 ha
    obtain ⟨hb1, hb2⟩ := List.pairwise_cons.1 hb
    have hxy : x = y := by
      have h1 := (h x).1 (by simp)
      have h2 := (h y).2 (by simp)
      rw [List.mem_cons] at h1 h2
      rcases h1 with e | h1
      · exact e
      · rcases h2 with e | h2
        · exact e.symm
        · exact absurd (ltL_trans (ha1 y h2) (hb1 x h1)) (ltL_irr x)
    subst hxy
    have hna : x ∉ a := fun hm => ltL_irr x (ha1 x hm)
    have hnb : x ∉ b := fun hm => ltL_irr x (hb1 x hm)
    rw [asc_eq ha2 hb2 (fun z => ?_)]
    have := h z
    rw [List.mem_cons, List.mem_cons] at this
    constructor
    · intro hz
      rcases this.1 (Or.inr hz) with e | hz'
      · subst e; exact absurd hz hna
      · exact hz'
    · intro hz
      rcases this.2 (Or.inr hz) with e | hz'
      · subst e; exact absurd hz hnb
      · exact hz'
theorem asc_nodup {a : List Lb} (h : a.Pairwise ltL) : a.Nodup := h.imp (fun {x y} hxy e => by subst e; exact ltL_irr _ hxy)
theorem nodup_len : ∀ {a b : List Lb}, a.Nodup → (∀ x ∈ a, x ∈ b) → a.length ≤ b.length
  | [], b, _, _ => by simp
  | x :: a, b, h, hs => by
    obtain ⟨h1, h2⟩ := List.nodup_cons.1 h
    have hxb := hs x (by simp)
    have := nodup_len (b := b.erase x) h2 (fun y hy => (List.mem_erase_of_ne (fun (e : y = x) => h1 (e ▸ hy))).2 (hs y (by simp [hy])))
    rw [List.length_erase_of_mem hxb] at this
    have : 0 < b.length := List.length_pos_of_mem hxb
    simp
    omega
theorem not_nodup : ∀ {b : List Lb}, ¬ b.Nodup → ∃ l1 x l2, b = l1 ++ x :: l2 ∧ x ∈ l2
  | [], h => absurd List.nodup_nil h
  | y :: b, h => by
    by_cases hy : y ∈ b
    · exact ⟨[], y, b, rfl, hy⟩
    · obtain ⟨l1, x, l2, e, hx⟩ := not_nodup (b := b) (fun hb => h (List.nodup_cons.2 ⟨hy, hb⟩))
      exact ⟨y :: l1, x, l2, by rw [e]; rfl, hx⟩
theorem twice_iff {a b : List Lb} (ha : a.Pairwise ltL) (h : ∀ x, x ∈ a ↔ x ∈ b) : a.length < b.length ↔ ¬ b.Nodup := by
  constructor
  · intro hl hb
    have := nodup_len hb (fun x hx => (h x).2 hx)
    omega
  · intro hb
    obtain ⟨l1, x, l2, e, hx⟩ := not_nodup hb
    have := nodup_len (b := l1 ++ l2) (asc_nodup ha) (fun y hy => by
      have := (h y).1 hy
      rw [e] at this
      simp at this ⊢
      rcases this with h | h | h
      · exact Or.inl h
      · subst h; exact Or.inr hx
      · exact Or.inr h)
    rw [e]
    simp at this ⊢
    omega

theorem infoL : (Try.prog.info? 26).map (fun i => (i.zero, i.size, i.bytes)) = some (some (.agg #[.int .u64 0, .int .i64 0, .int .u64 0, .int .i64 0]), 4, 32) := by kernel_rfl
theorem LR.cells {w : World} {a : Addr} {n : Nat} {ls : List Lb} (h : LR w (some a) n ls) : ∀ j u, (flat ls)[j]? = some u → w.cell? (a.add j) = some u := by
  intro j u hj
  obtain ⟨hl, _, hc⟩ := h
  have hjl : j < ls.length * 4 := by
    have := (List.getElem?_eq_some_iff.1 hj).1
    rwa [flat_len] at this
  obtain ⟨b, off, e, hcell⟩ := hc (by omega)
  cases e
  rw [Addr.add_lit]
  obtain ⟨x, hx⟩ : ∃ x, ls[j / 4]? = some x := ⟨ls[j / 4]'(by omega), List.getElem?_eq_getElem (by omega)⟩
  have hf := flat_get ls (j / 4) x (j % 4) hx (by omega)
  rw [show 4 * (j / 4) + j % 4 = j by omega, hj] at hf
  obtain ⟨c0, c1, c2, c3⟩ := hcell _ x hx
  have hm : j % 4 = 0 ∨ j % 4 = 1 ∨ j % 4 = 2 ∨ j % 4 = 3 := by omega
  rcases hm with e | e | e | e
  · rw [e] at hf; simp [cellsL] at hf; rw [hf, show off + j = off + j / 4 * 4 by omega]; exact c0
  · rw [e] at hf; simp [cellsL] at hf; rw [hf, show off + j = off + j / 4 * 4 + 1 by omega]; exact c1
  · rw [e] at hf; simp [cellsL] at hf; rw [hf, show off + j = off + j / 4 * 4 + 2 by omega]; exact c2
  · rw [e] at hf; simp [cellsL] at hf; rw [hf, show off + j = off + j / 4 * 4 + 3 by omega]; exact c3

set_option maxRecDepth 10000 in
set_option maxHeartbeats 1000000 in
theorem clone_any (w : World) (ao : Option Addr) (n cap : Nat) (ls : List Lb) (h : LR w ao n ls) (hn : n ≤ 1000) (hz : ao = none → n = 0) :
    Calls Try.prog 75 #[.slice ao n cap] w fun e w' => ∃ v, e = .returned v ∧ w'.ownsRow w.heap.size 26 4 v n (flat ls) ∧ Below w.heap.size w w' := by
  obtain ⟨i0, hi0, hz0, hz1, hz2⟩ := info_parts infoL
  have q32 := fun (w : World) (a : Option Addr) (n c n' c' : Nat) => Lib.run_eql_slice_nil (P := Try.prog) w 36 26 a n c n' c' und32
  have hl := h.1
  cases ao with
  | none =>
    obtain rfl := hz rfl
    obtain rfl : ls = [] := List.length_eq_zero_iff.1 hl
    go_enter Try.func75, Try.ntmps75
    go_wp2
    go_ret
    exact ⟨_, rfl, ⟨rfl, .inl ⟨rfl, rfl⟩⟩, Below.refl _ _⟩
  | some ad =>
    have hA : Hid (∀ j u, (flat ls)[j]? = some u → w.cell? (ad.add j) = some u) := h.cells
    have HF : Hid ((flat ls).length = n * 4) := by show _ = _; rw [flat_len, hl]
    clear h hz
    go_enter Try.func75, Try.ntmps75
    go_wp2_with (at_builtin; refine wpList_append_own_at _ rfl _ _ 36 rfl w.heap.size 26 i0 (.agg #[.int .u64 0, .int .i64 0, .int .u64 0, .int .i64 0]) 4 32 und32 hi0 hz0 hz1 hz2 rfl (by decide) _ 0 [] rfl ?d1 ad n cap (flat ls) rfl ?d2 ?d3 ?d4 ?d6 ?d7 ?d8 ?_)
    case d1 => exact World.ownsRow_made w #[] 0 (Nat.le_refl _) (Nat.zero_le _) (by simp)
    case d2 => exact HF.out
    case d3 => exact fun j u hj => ((bl1 w _).cell (World.block_lt_of_cell? w _ (hA.out j u hj))).trans (hA.out j u hj)
    case d4 => exact fun u hu => flat_one hu
    case d6 => unfold maxLen; omega
    case d7 => omega
    case d8 => simp
    intro v' w1 hown hgrow hnil hat
    have HE : Hid (w1.ownsRow w.heap.size 26 4 v' n (flat ls) ∧ Below w.heap.size w w1) := ⟨by simpa using hown, bl_grown (bl1 w _) (by simp) hgrow (by intro k hk; simp [Value.ownBlock] at hk; omega)⟩
    clear hown hgrow hnil hat
    go_wp2
    go_ret
    exact ⟨v', rfl, HE.out⟩

theorem compact_none (w : World) : Calls Try.prog 77 #[.slice none 0 0] w fun e w' => e = .returned (.slice none 0 0) ∧ w = w' := by
  go_enter Try.func77, Try.ntmps77
  go_wp2
  go_ret
  exact ⟨rfl, rfl⟩

set_option maxRecDepth 10000 in
set_option maxHeartbeats 1000000 in
theorem sort_any (w : World) (ao : Option Addr) (n cap : Nat) (ls : List Lb) (h : LR w ao n ls) (hn : n ≤ 1000) (hz : ao = none → n = 0) :
    Calls Try.prog 71 #[.slice ao n cap] w fun e w' => ∃ v rs, e = .returned v ∧ rs.Pairwise ltL ∧ (∀ x, x ∈ rs ↔ x ∈ ls) ∧ w'.ownsRow w.heap.size 26 4 v rs.length (flat rs) ∧ Below w.heap.size w w' := by
  have hl := h.1
  have hcl := clone_any w ao n cap ls h hn hz
  clear h hz
  go_enter Try.func71, Try.ntmps71
  go_wp2_with fail
  refine hcl.mono ?_
  rintro e w1 ⟨v, rfl, hown, hb1⟩
  clear hcl
  rcases hown.2 with ⟨rfl, rfl⟩ | ⟨g, cp, cur, rfl, _⟩
  · obtain rfl : ls = [] := List.length_eq_zero_iff.1 hl
    clear hown
    go_wp2_with fail
    refine (sortF_none _ _ _ _).mono ?_
    rintro e w2 ⟨rfl, rfl⟩
    go_wp2_with fail
    refine (compact_none _).mono ?_
    rintro e w2 ⟨rfl, rfl⟩
    go_wp2
    go_ret
    exact ⟨_, [], rfl, by simp, by simp, ⟨rfl, .inl ⟨rfl, rfl⟩⟩, hb1⟩
  · obtain ⟨hblk, hbg, hnc, hcm⟩ := Blk.ofOwn hown
    have hsort := sortF_blk w1 g cp n ls hblk hl (by omega)
    clear hown hblk
    go_wp2_with fail
    refine hsort.mono ?_
    rintro e w2 ⟨rfl, ls', hperm, hasc, hblk2, hg2⟩
    have hl2 : ls'.length = n := by rw [hperm.length_eq]; exact hl
    have hcp := compact_some w2 g n cp w.heap.size ls' hblk2 hl2 hbg hcm
    have HP : Hid ((keep ls' n).Pairwise ltL ∧ ∀ x, x ∈ keep ls' n ↔ x ∈ ls) := by
      obtain ⟨a1, a2, _⟩ := keep_asc hasc n (by omega)
      refine ⟨a1, fun x => ?_⟩
      rw [a2 x, List.take_of_length_le (by omega)]
      exact hperm.mem_iff
    have hb2 : Below w.heap.size w w2 := bl_grown hb1 hb1.size hg2 (fun k hk => by cases hk; exact hbg)
    clear hperm hasc hblk2 hg2 hsort
    go_wp2_with fail
    refine hcp.mono ?_
    rintro e w3 ⟨v3, rfl, hown3, hg3⟩
    have hb3 : Below w.heap.size w w3 := bl_grown hb2 hb2.size hg3 (fun k hk => by cases hk; exact hbg)
    have HE : Hid (w3.ownsRow w.heap.size 26 4 v3 (keep ls' n).length (flat (keep ls' n)) ∧ Below w.heap.size w w3) := ⟨hown3, hb3⟩
    clear hown3 hg3 hb3 hcp hb2 hb1
    go_wp2
    go_ret
    exact ⟨v3, _, rfl, HP.out.1, HP.out.2, HE.out⟩

set_option maxRecDepth 10000 in
theorem twice_any (w : World) (ao : Option Addr) (n cap : Nat) (ls : List Lb) (h : LR w ao n ls) (hn : n ≤ 1000) (hz : ao = none → n = 0) :
    Calls Try.prog 59 #[.slice ao n cap] w fun e w' => e = .returned (.bool (decide (¬ ls.Nodup))) ∧ Below w.heap.size w w' := by
  have hl := h.1
  have hso := sort_any w ao n cap ls h hn hz
  clear h hz
  generalize hdd : decide (¬ ls.Nodup) = r
  have HD : Hid (decide (¬ ls.Nodup) = r) := hdd
  clear hdd
  go_enter Try.func59, Try.ntmps59
  go_wp2_with fail
  refine hso.mono ?_
  rintro e w1 ⟨v, rs, rfl, hasc, hmem, hown, hb⟩
  obtain ⟨ao1, cp1, rfl, _⟩ := LR.own hown
  have HT : Hid (decide (rs.length < n) = r) := by
    show _ = _
    rw [← HD.out]
    have := twice_iff hasc hmem
    rw [hl] at this
    apply decide_eq_decide.2
    exact this
  clear hso hasc hmem hown
  go_wp2
  go_ret
  exact ⟨ret_bool HT.out, hb⟩
end Go.Proofs.Ytpdgoalbknopiaa
