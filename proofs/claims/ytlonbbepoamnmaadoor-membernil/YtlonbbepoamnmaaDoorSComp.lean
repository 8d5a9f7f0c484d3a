/-
  slices.CompactFunc of states: of neighbours of one view the first.
-/
import Derived.Test.YtlonbbepoamnmaaDoorSDel
namespace Go.Proofs.YtlonbbepoamnmaaDoor
open Go.RowKit Go.Sort
set_option linter.unusedVariables false
set_option linter.unusedSimpArgs false

/-- Is what stands ahead of the same view? -/
def prevSame (M : List Tg) (k : Nat) (x : Tg) : Bool := decide (0 < k) && (match M[k - 1]? with | some y => decide (x.1.1 = y.1.1 ∧ x.1.2.1 = y.1.2.1) | none => false)
/-- Of the first k those that are not of the view of what stands ahead of them. -/
def keepT (M : List Tg) : Nat → List Tg
  | 0 => []
  | k + 1 => keepT M k ++ (match M[k]? with | some x => if prevSame M k x = true then [] else [x] | none => [])
theorem keepT_next {M : List Tg} {m : Nat} {x y : Tg} (hx : M[m + 1]? = some x) (hy : M[m]? = some y) (h : ¬ (x.1.1 = y.1.1 ∧ x.1.2.1 = y.1.2.1)) : keepT M (m + 2) = keepT M (m + 1) ++ [x] := by
  rw [keepT, hx]
  have : prevSame M (m + 1) x = false := by unfold prevSame; rw [Nat.add_sub_cancel, hy]; simp only; rw [decide_eq_false h]; simp
  simp only [this]
  rfl
theorem keepT_same {M : List Tg} {m : Nat} {x y : Tg} (hx : M[m + 1]? = some x) (hy : M[m]? = some y) (h : x.1.1 = y.1.1 ∧ x.1.2.1 = y.1.2.1) : keepT M (m + 2) = keepT M (m + 1) := by
  rw [keepT, hx]
  have : prevSame M (m + 1) x = true := by unfold prevSame; rw [Nat.add_sub_cancel, hy]; simp only; rw [decide_eq_true h]; simp
  simp only [this]
  simp
theorem keepT_one {M : List Tg} {x : Tg} (hx : M[0]? = some x) : keepT M 1 = [x] := by
  rw [keepT, hx, keepT]
  simp [prevSame]
theorem BlkT.own {w : World} {B g cap : Nat} {cur : List Tg} (h : BlkT w g cap cur) (hB : B ≤ g) (hc : cap ≤ maxLen) (i : Nat) (hi : i ≤ cur.length) : w.ownsRow B 45 4 (.slice (some ⟨g, 0, none⟩) i cap) i (fl (cur.take i)) := by
  have := Blk.own h hB hc i (by simpa using hi)
  rw [← List.map_take] at this
  exact this
theorem BlkT.setT {w : World} {g cap : Nat} {cur : List Tg} (h : BlkT w g cap cur) {i : Nat} (hi : i < cur.length) (x : Tg) :
    ∃ w', Sem.run Tryd.prog (storeCells ⟨g, i * 4, none⟩ [.int .u64 (x.1.1 : Nat), .int .i64 x.1.2.1, .int .i64 x.1.2.2.1, .slice x.1.2.2.2.1 x.1.2.2.2.2.1 x.1.2.2.2.2.2] 0) w = .ok () w' ∧ BlkT w' g cap (cur.set i x) ∧ w.grownBy w' (some g) := by
  obtain ⟨w', h1, h2, h3⟩ := Blk.set h (i := i) (by simpa using hi) x.1
  rw [← List.map_set] at h2
  exact ⟨w', h1, h2, h3⟩
theorem BlkT.clearT {w : World} {g cap : Nat} {cur : List Tg} (h : BlkT w g cap cur) {i n : Nat} (hi : i ≤ cur.length) (hn : n = cur.length - i) (c : Nat) (ty : TypeId) :
    ∃ w', Sem.run Tryd.prog (Builtin.clear_ #[36] ty #[.slice (some ⟨g, i * 4, none⟩) n c]) w = .ok (.tuple #[]) w' ∧ BlkT w' g cap (cur.take i) ∧ w.grownBy w' (some g) := by
  obtain ⟨w', h1, h2, h3⟩ := Blk.clear h (i := i) (n := n) (by simpa using hi) (by simpa using hn) c ty
  rw [← List.map_take] at h2
  exact ⟨w', h1, h2, h3⟩
theorem BlkT.c4 {w : World} {g cap j : Nat} {cur : List Tg} {x : Tg} (h : BlkT w g cap cur) (hj : cur[j]? = some x) : C4 g (j * 4) x.1 w := h.at hj

set_option maxRecDepth 10000 in
set_option maxHeartbeats 4000000 in
theorem compact_some (w : World) (g n cap base : Nat) (ls : List Tg) (hblk : BlkT w g cap ls) (hl : ls.length = n) (hbg : base ≤ g) (hcm : cap ≤ maxLen) :
    Calls Tryd.prog 96 #[.slice (some ⟨g, 0, none⟩) n cap, .func (.func 97) #[] #[]] w fun e w' => ∃ v', e = .returned v' ∧ w'.ownsRow base 45 4 v' (keepT ls n).length (fl (keepT ls n)) ∧ w.grownBy w' (some g) := by
  have hnc : n ≤ cap := by have := Blk.len hblk; simp at this; omega
  have hwide : cap ≤ 9223372036854775807 := by unfold maxLen at hcm; omega
  have HOWN : Hid (∀ w', BlkT w' g cap ls → w'.ownsRow base 45 4 (.slice (some ⟨g, 0, none⟩) n cap) n (fl ls)) := fun w' hb => by
    have := BlkT.own hb hbg hcm n (by omega)
    rwa [List.take_of_length_le (by omega)] at this
  by_cases h2 : n < 2
  · have HE : Hid (w.ownsRow base 45 4 (.slice (some ⟨g, 0, none⟩) n cap) (keepT ls n).length (fl (keepT ls n)) ∧ w.grownBy w (some g)) := by
      have e : keepT ls n = ls := by
        match n, ls, hl, h2 with
        | 0, [], _, _ => rfl
        | 1, [x], _, _ => exact keepT_one rfl
      rw [e, hl]
      exact ⟨HOWN.out w hblk, gr_refl _ _⟩
    have h2I : (n : Int) < 2 := by omega
    clear hblk HOWN
    go_enter Tryd.func96, Tryd.ntmps96
    go_wp2
    go_ret
    exact ⟨_, rfl, HE.out⟩
  · have h2I : ¬ ((n : Int) < 2) := by omega
    have H1 : Hid (keepT ls 1 = ls.take 1) := by
      have hx : ls[0]? = some (ls[0]'(by omega)) := List.getElem?_eq_getElem (by omega)
      show _ = _
      rw [keepT_one hx, List.take_add_one, hx]; simp
    go_enter Tryd.func96, Tryd.ntmps96
    go_wp2_with fail
    go_loopw [5] (fun iv wr => ∃ m : Nat, m + 1 ≤ n ∧ iv = .int .i64 ((m : Int) + 1) ∧ keepT ls (m + 1) = ls.take (m + 1) ∧ Up w wr) (fun iv _ => n - (intOf iv).toNat)
    case atStart => exact ⟨0, by omega, rfl, H1.out, Up.refl _⟩
    case round =>
      obtain ⟨m, hm, rfl, hkp, hu⟩ := hrel
      have HK : Hid (keepT ls (m + 1) = ls.take (m + 1)) := hkp
      clear hkp
      have hb := hblk.up hu
      by_cases hlt : m + 1 < n
      · have hltI : (m : Int) + 1 < (n : Int) := by omega
        obtain ⟨x, hx⟩ : ∃ y, ls[m + 1]? = some y := ⟨ls[m + 1]'(by omega), List.getElem?_eq_getElem (by omega)⟩
        obtain ⟨y, hy⟩ : ∃ y, ls[m]? = some y := ⟨ls[m]'(by omega), List.getElem?_eq_getElem (by omega)⟩
        have two : C4 g ((m + 1) * 4) x.1 wr.drew ∧ C4 g (m * 4) y.1 wr.drew := ⟨hb.drew.c4 hx, hb.drew.c4 hy⟩
        have heq := fun W => same3_any W x.1 y.1
        unfold sta at heq
        have HX : Hid (ls[m + 1]? = some x) := hx
        have HY : Hid (ls[m]? = some y) := hy
        clear hx hy
        have hm0 : ¬ ((m : Int) + 1 < 0) := by omega
        have hm1 : ¬ ((m : Int) < 0) := by omega
        have hm2 : (m : Int) < (n : Int) := by omega
        have hwm : IntKind.i64.wrap (m : Int) = (m : Int) := by rw [IntWalk.i64_left, IntWalk.wrap64_in _ (by omega)]
        have hud := hu.drew
        cases he : decide (x.1.1 = y.1.1 ∧ x.1.2.1 = y.1.2.1) with
        | false =>
          rw [he] at heq
          have HK' : Hid (keepT ls (m + 1 + 1) = ls.take (m + 1 + 1)) := by
            show _ = _
            rw [keepT_next HX.out HY.out (by simpa using he), HK.out, show ls.take (m + 1 + 1) = ls.take (m + 1) ++ ls[m + 1]?.toList from List.take_add_one, HX.out]; rfl
          clear he HK
          go_wp2_with fail
          refine wp_region_noPanic ?_
          refine wp_region_held_drew (S := fun wx => C4 g ((m + 1) * 4) x.1 wx ∧ C4 g (m * 4) y.1 wx) (by kernel_rfl) two (fun hHeld => ?_)
          refine take_first 0 (v := ?_) rfl (by kernel_rfl) (by kernel_rfl) (by kernel_rfl) (fun _ _ _ h => h) (Or.inl ⟨by rfl, by intro wx hSw; obtain ⟨⟨hSw1, hSw2, hSw3, hSw4⟩, hSw5, hSw6, hSw7, hSw8⟩ := hSw; go_simp; try with_reducible rfl⟩) (by assumption) ?_
          (try simp only [Act.put, List.setIfInBounds_toArray, List.set_cons_zero, List.set_cons_succ])
          refine take_first 1 (v := ?_) rfl (by kernel_rfl) (by kernel_rfl) (by kernel_rfl) (fun _ _ _ h => h) (Or.inl ⟨by rfl, by intro wx hSw; obtain ⟨⟨hSw1, hSw2, hSw3, hSw4⟩, hSw5, hSw6, hSw7, hSw8⟩ := hSw; go_simp; try with_reducible rfl⟩) (by assumption) ?_
          (try simp only [Act.put, List.setIfInBounds_toArray, List.set_cons_zero, List.set_cons_succ])
          refine take_first 2 (v := ?_) rfl (by kernel_rfl) (by kernel_rfl) (by kernel_rfl) (fun _ _ _ h => h) (Or.inl ⟨by rfl, by intro wx hSw; obtain ⟨⟨hSw1, hSw2, hSw3, hSw4⟩, hSw5, hSw6, hSw7, hSw8⟩ := hSw; go_simp; try with_reducible rfl⟩) (by assumption) ?_
          (try simp only [Act.put, List.setIfInBounds_toArray, List.set_cons_zero, List.set_cons_succ])
          refine take_first 3 (v := ?_) rfl (by kernel_rfl) (by kernel_rfl) (by kernel_rfl) (fun _ _ _ h => h) (Or.inl ⟨by rfl, by intro wx hSw; obtain ⟨⟨hSw1, hSw2, hSw3, hSw4⟩, hSw5, hSw6, hSw7, hSw8⟩ := hSw; go_simp; try with_reducible rfl⟩) (by assumption) ?_
          (try simp only [Act.put, List.setIfInBounds_toArray, List.set_cons_zero, List.set_cons_succ])
          refine take_first 4 (v := ?_) rfl (by kernel_rfl) (by kernel_rfl) (by kernel_rfl) (fun _ _ _ h => h) (Or.inl ⟨by rfl, by intro wx hSw; obtain ⟨⟨hSw1, hSw2, hSw3, hSw4⟩, hSw5, hSw6, hSw7, hSw8⟩ := hSw; go_simp; try with_reducible rfl⟩) (by assumption) ?_
          (try simp only [Act.put, List.setIfInBounds_toArray, List.set_cons_zero, List.set_cons_succ])
          refine take_first 5 (v := ?_) rfl (by kernel_rfl) (by kernel_rfl) (by kernel_rfl) (fun _ _ _ h => h) (Or.inl ⟨by rfl, by intro wx hSw; obtain ⟨⟨hSw1, hSw2, hSw3, hSw4⟩, hSw5, hSw6, hSw7, hSw8⟩ := hSw; go_simp; try with_reducible rfl⟩) (by assumption) ?_
          (try simp only [Act.put, List.setIfInBounds_toArray, List.set_cons_zero, List.set_cons_succ])
          refine take_first 6 (v := ?_) rfl (by kernel_rfl) (by kernel_rfl) (by kernel_rfl) (fun _ _ _ h => h) (Or.inl ⟨by rfl, by intro wx hSw; obtain ⟨⟨hSw1, hSw2, hSw3, hSw4⟩, hSw5, hSw6, hSw7, hSw8⟩ := hSw; go_simp; try with_reducible rfl⟩) (by assumption) ?_
          (try simp only [Act.put, List.setIfInBounds_toArray, List.set_cons_zero, List.set_cons_succ])
          refine take_first 7 (v := ?_) rfl (by kernel_rfl) (by kernel_rfl) (by kernel_rfl) (fun _ _ _ h => h) (Or.inl ⟨by rfl, by intro wx hSw; obtain ⟨⟨hSw1, hSw2, hSw3, hSw4⟩, hSw5, hSw6, hSw7, hSw8⟩ := hSw; go_simp; try with_reducible rfl⟩) (by assumption) ?_
          (try simp only [Act.put, List.setIfInBounds_toArray, List.set_cons_zero, List.set_cons_succ])
          refine take_first 8 (v := ?_) rfl (by kernel_rfl) (by kernel_rfl) (by kernel_rfl) (fun _ _ _ h => h) (Or.inl ⟨by rfl, by intro wx hSw; obtain ⟨⟨hSw1, hSw2, hSw3, hSw4⟩, hSw5, hSw6, hSw7, hSw8⟩ := hSw; go_simp; try with_reducible rfl⟩) (by assumption) ?_
          (try simp only [Act.put, List.setIfInBounds_toArray, List.set_cons_zero, List.set_cons_succ])
          refine take_first 9 (v := ?_) rfl (by kernel_rfl) (by kernel_rfl) (by kernel_rfl) (fun _ _ _ h => h) (Or.inl ⟨by rfl, by intro wx hSw; obtain ⟨⟨hSw1, hSw2, hSw3, hSw4⟩, hSw5, hSw6, hSw7, hSw8⟩ := hSw; go_simp; try with_reducible rfl⟩) (by assumption) ?_
          (try simp only [Act.put, List.setIfInBounds_toArray, List.set_cons_zero, List.set_cons_succ])
          refine comes_up 10 rfl (by kernel_rfl) (fun K hK => ?_)
          go_simp
          refine (heq _).mono ?_
          rintro e' w1 ⟨rfl, hup⟩
          have at1 : C4 g ((m + 1) * 4) x.1 w1 ∧ C4 g (m * 4) y.1 w1 := ⟨hHeld.1.up hup.bl, hHeld.2.up hup.bl⟩
          have hu1 := hud.trans hup
          clear hHeld hup two hud hb
          go_wp2_with fail
          refine hK.out _ _ at1 (fun hHeld => ?_)
          clear hK K
          (try simp only [Act.put, List.setIfInBounds_toArray, List.set_cons_zero, List.set_cons_succ])
          refine wpAnyH_done (by kernel_rfl) ?_ _
          refine NoPanic.normal ?_
          clear at1 hHeld heq
          go_wp2
          go_roundw
          case rel => first | exact ⟨m + 1, by omega, by go_num, HK'.out, hu1⟩ | ((repeat apply Exists.intro); exact ⟨⟨m + 1, by omega, by go_num, HK'.out, hu1⟩, rfl⟩)
          case measure => simp [intOf]; omega
        | true =>
          rw [he] at heq
          have HK' : Hid (ls.take (m + 1) = keepT ls (m + 1 + 1)) := by
            show _ = _
            rw [keepT_same HX.out HY.out (by simpa using he), HK.out]
          clear he HK
          go_wp2_with fail
          refine wp_region_noPanic ?_
          refine wp_region_held_drew (S := fun wx => C4 g ((m + 1) * 4) x.1 wx ∧ C4 g (m * 4) y.1 wx) (by kernel_rfl) two (fun hHeld => ?_)
          refine take_first 0 (v := ?_) rfl (by kernel_rfl) (by kernel_rfl) (by kernel_rfl) (fun _ _ _ h => h) (Or.inl ⟨by rfl, by intro wx hSw; obtain ⟨⟨hSw1, hSw2, hSw3, hSw4⟩, hSw5, hSw6, hSw7, hSw8⟩ := hSw; go_simp; try with_reducible rfl⟩) (by assumption) ?_
          (try simp only [Act.put, List.setIfInBounds_toArray, List.set_cons_zero, List.set_cons_succ])
          refine take_first 1 (v := ?_) rfl (by kernel_rfl) (by kernel_rfl) (by kernel_rfl) (fun _ _ _ h => h) (Or.inl ⟨by rfl, by intro wx hSw; obtain ⟨⟨hSw1, hSw2, hSw3, hSw4⟩, hSw5, hSw6, hSw7, hSw8⟩ := hSw; go_simp; try with_reducible rfl⟩) (by assumption) ?_
          (try simp only [Act.put, List.setIfInBounds_toArray, List.set_cons_zero, List.set_cons_succ])
          refine take_first 2 (v := ?_) rfl (by kernel_rfl) (by kernel_rfl) (by kernel_rfl) (fun _ _ _ h => h) (Or.inl ⟨by rfl, by intro wx hSw; obtain ⟨⟨hSw1, hSw2, hSw3, hSw4⟩, hSw5, hSw6, hSw7, hSw8⟩ := hSw; go_simp; try with_reducible rfl⟩) (by assumption) ?_
          (try simp only [Act.put, List.setIfInBounds_toArray, List.set_cons_zero, List.set_cons_succ])
          refine take_first 3 (v := ?_) rfl (by kernel_rfl) (by kernel_rfl) (by kernel_rfl) (fun _ _ _ h => h) (Or.inl ⟨by rfl, by intro wx hSw; obtain ⟨⟨hSw1, hSw2, hSw3, hSw4⟩, hSw5, hSw6, hSw7, hSw8⟩ := hSw; go_simp; try with_reducible rfl⟩) (by assumption) ?_
          (try simp only [Act.put, List.setIfInBounds_toArray, List.set_cons_zero, List.set_cons_succ])
          refine take_first 4 (v := ?_) rfl (by kernel_rfl) (by kernel_rfl) (by kernel_rfl) (fun _ _ _ h => h) (Or.inl ⟨by rfl, by intro wx hSw; obtain ⟨⟨hSw1, hSw2, hSw3, hSw4⟩, hSw5, hSw6, hSw7, hSw8⟩ := hSw; go_simp; try with_reducible rfl⟩) (by assumption) ?_
          (try simp only [Act.put, List.setIfInBounds_toArray, List.set_cons_zero, List.set_cons_succ])
          refine take_first 5 (v := ?_) rfl (by kernel_rfl) (by kernel_rfl) (by kernel_rfl) (fun _ _ _ h => h) (Or.inl ⟨by rfl, by intro wx hSw; obtain ⟨⟨hSw1, hSw2, hSw3, hSw4⟩, hSw5, hSw6, hSw7, hSw8⟩ := hSw; go_simp; try with_reducible rfl⟩) (by assumption) ?_
          (try simp only [Act.put, List.setIfInBounds_toArray, List.set_cons_zero, List.set_cons_succ])
          refine take_first 6 (v := ?_) rfl (by kernel_rfl) (by kernel_rfl) (by kernel_rfl) (fun _ _ _ h => h) (Or.inl ⟨by rfl, by intro wx hSw; obtain ⟨⟨hSw1, hSw2, hSw3, hSw4⟩, hSw5, hSw6, hSw7, hSw8⟩ := hSw; go_simp; try with_reducible rfl⟩) (by assumption) ?_
          (try simp only [Act.put, List.setIfInBounds_toArray, List.set_cons_zero, List.set_cons_succ])
          refine take_first 7 (v := ?_) rfl (by kernel_rfl) (by kernel_rfl) (by kernel_rfl) (fun _ _ _ h => h) (Or.inl ⟨by rfl, by intro wx hSw; obtain ⟨⟨hSw1, hSw2, hSw3, hSw4⟩, hSw5, hSw6, hSw7, hSw8⟩ := hSw; go_simp; try with_reducible rfl⟩) (by assumption) ?_
          (try simp only [Act.put, List.setIfInBounds_toArray, List.set_cons_zero, List.set_cons_succ])
          refine take_first 8 (v := ?_) rfl (by kernel_rfl) (by kernel_rfl) (by kernel_rfl) (fun _ _ _ h => h) (Or.inl ⟨by rfl, by intro wx hSw; obtain ⟨⟨hSw1, hSw2, hSw3, hSw4⟩, hSw5, hSw6, hSw7, hSw8⟩ := hSw; go_simp; try with_reducible rfl⟩) (by assumption) ?_
          (try simp only [Act.put, List.setIfInBounds_toArray, List.set_cons_zero, List.set_cons_succ])
          refine take_first 9 (v := ?_) rfl (by kernel_rfl) (by kernel_rfl) (by kernel_rfl) (fun _ _ _ h => h) (Or.inl ⟨by rfl, by intro wx hSw; obtain ⟨⟨hSw1, hSw2, hSw3, hSw4⟩, hSw5, hSw6, hSw7, hSw8⟩ := hSw; go_simp; try with_reducible rfl⟩) (by assumption) ?_
          (try simp only [Act.put, List.setIfInBounds_toArray, List.set_cons_zero, List.set_cons_succ])
          refine comes_up 10 rfl (by kernel_rfl) (fun K hK => ?_)
          go_simp
          refine (heq _).mono ?_
          rintro e' w1 ⟨rfl, hup⟩
          have at1 : C4 g ((m + 1) * 4) x.1 w1 ∧ C4 g (m * 4) y.1 w1 := ⟨hHeld.1.up hup.bl, hHeld.2.up hup.bl⟩
          have hu1 := hud.trans hup
          have hb1 := hblk.up hu1
          clear hHeld hup two hud hb
          go_wp2_with fail
          refine hK.out _ _ at1 (fun hHeld => ?_)
          clear hK K
          (try simp only [Act.put, List.setIfInBounds_toArray, List.set_cons_zero, List.set_cons_succ])
          refine wpAnyH_done (by kernel_rfl) ?_ _
          refine NoPanic.normal ?_
          clear at1 hHeld heq HX HY
          go_wp2_with fail
          go_loopw [5, 7] (fun kv iv wq => ∃ (k t : Nat) (cur : List Tg), kv = .int .i64 (k : Nat) ∧ iv = .int .i64 ((t : Int) + 1) ∧ k ≤ m + 1 + t ∧ m + 1 + t + 1 ≤ n ∧ BlkT wq g cap cur ∧ cur.length = n ∧ cur.take k = keepT ls (m + 1 + t + 1) ∧ cur.drop (m + 1 + t) = ls.drop (m + 1 + t) ∧ w.grownBy wq (some g)) (fun _ iv _ => n - (intOf iv).toNat)
          case atStart => exact ⟨m + 1, 0, ls, by go_num, rfl, by omega, by omega, hb1, hl, HK'.out, rfl, gr_below hu1.bl _⟩
          case round =>
            clear HK' hb1 hu1
            obtain ⟨k, t, cur, rfl, rfl, hkt, ht, hb, hcl, htk, hdr, hgr⟩ := hrel
            have HTK : Hid (cur.take k = keepT ls (m + 1 + t + 1)) := htk
            have HDR : Hid (cur.drop (m + 1 + t) = ls.drop (m + 1 + t)) := hdr
            clear htk hdr
            by_cases hlt2 : m + 1 + t + 1 < n
            · obtain ⟨x, hx⟩ : ∃ y, ls[m + 1 + t + 1]? = some y := ⟨ls[m + 1 + t + 1]'(by omega), List.getElem?_eq_getElem (by omega)⟩
              obtain ⟨y, hy⟩ : ∃ y, ls[m + 1 + t]? = some y := ⟨ls[m + 1 + t]'(by omega), List.getElem?_eq_getElem (by omega)⟩
              have hx' : cur[m + 1 + t + 1]? = some x := by
                have h1 : (cur.drop (m + 1 + t))[1]? = (ls.drop (m + 1 + t))[1]? := by rw [HDR.out]
                simpa [hx] using h1
              have hy' : cur[m + 1 + t]? = some y := by
                have h1 : (cur.drop (m + 1 + t))[0]? = (ls.drop (m + 1 + t))[0]? := by rw [HDR.out]
                simpa [hy] using h1
              have two : C4 g ((m + 1) * 4 + (t + 1) * 4) x.1 wr.drew ∧ C4 g ((m + 1) * 4 + t * 4) y.1 wr.drew := by
                have h1 := hb.drew.c4 hx'
                have h2 := hb.drew.c4 hy'
                rw [show (m + 1 + t + 1) * 4 = (m + 1) * 4 + (t + 1) * 4 by omega] at h1
                rw [show (m + 1 + t) * 4 = (m + 1) * 4 + t * 4 by omega] at h2
                exact ⟨h1, h2⟩
              have heq := fun W => same3_any W x.1 y.1
              unfold sta at heq
              have HX : Hid (ls[m + 1 + t + 1]? = some x) := hx
              have HY : Hid (ls[m + 1 + t]? = some y) := hy
              clear hx hy hx' hy'
              have e1 : (t : Int) + 1 < ((n - (m + 1) : Nat) : Int) := by omega
              have e2 : (t : Int) < ((n - (m + 1) : Nat) : Int) := by omega
              have e3 : ¬ ((t : Int) + 1 < 0) := by omega
              have e4 : ¬ ((t : Int) < 0) := by omega
              have e5 : ¬ ((k : Int) < 0) := by omega
              have e6 : (k : Int) < (n : Int) := by omega
              have hwt : IntKind.i64.wrap (t : Int) = (t : Int) := by rw [IntWalk.i64_left, IntWalk.wrap64_in _ (by omega)]
              have HD1 : Hid (cur.drop (m + 1 + (t + 1)) = ls.drop (m + 1 + (t + 1))) := by
                show _ = _
                have h1 : (cur.drop (m + 1 + t)).drop 1 = (ls.drop (m + 1 + t)).drop 1 := by rw [HDR.out]
                rw [List.drop_drop, List.drop_drop] at h1
                exact h1
              cases he : decide (x.1.1 = y.1.1 ∧ x.1.2.1 = y.1.2.1) with
              | true =>
                rw [he] at heq
                have HT : Hid (cur.take k = keepT ls (m + 1 + (t + 1) + 1)) := by
                  show _ = _
                  rw [show m + 1 + (t + 1) + 1 = m + 1 + t + 2 by omega, keepT_same HX.out HY.out (by simpa using he)]
                  exact HTK.out
                clear he HTK
                go_wp2_with fail
                refine wp_region_noPanic ?_
                refine wp_region_held_drew (S := fun wx => C4 g ((m + 1) * 4 + (t + 1) * 4) x.1 wx ∧ C4 g ((m + 1) * 4 + t * 4) y.1 wx) (by kernel_rfl) two (fun hHeld => ?_)
                refine take_first 0 (v := ?_) rfl (by kernel_rfl) (by kernel_rfl) (by kernel_rfl) (fun _ _ _ h => h) (Or.inl ⟨by rfl, by intro wx hSw; obtain ⟨⟨hSw1, hSw2, hSw3, hSw4⟩, hSw5, hSw6, hSw7, hSw8⟩ := hSw; go_simp; try with_reducible rfl⟩) (by assumption) ?_
                (try simp only [Act.put, List.setIfInBounds_toArray, List.set_cons_zero, List.set_cons_succ])
                refine take_first 1 (v := ?_) rfl (by kernel_rfl) (by kernel_rfl) (by kernel_rfl) (fun _ _ _ h => h) (Or.inl ⟨by rfl, by intro wx hSw; obtain ⟨⟨hSw1, hSw2, hSw3, hSw4⟩, hSw5, hSw6, hSw7, hSw8⟩ := hSw; go_simp; try with_reducible rfl⟩) (by assumption) ?_
                (try simp only [Act.put, List.setIfInBounds_toArray, List.set_cons_zero, List.set_cons_succ])
                refine take_first 2 (v := ?_) rfl (by kernel_rfl) (by kernel_rfl) (by kernel_rfl) (fun _ _ _ h => h) (Or.inl ⟨by rfl, by intro wx hSw; obtain ⟨⟨hSw1, hSw2, hSw3, hSw4⟩, hSw5, hSw6, hSw7, hSw8⟩ := hSw; go_simp; try with_reducible rfl⟩) (by assumption) ?_
                (try simp only [Act.put, List.setIfInBounds_toArray, List.set_cons_zero, List.set_cons_succ])
                refine take_first 3 (v := ?_) rfl (by kernel_rfl) (by kernel_rfl) (by kernel_rfl) (fun _ _ _ h => h) (Or.inl ⟨by rfl, by intro wx hSw; obtain ⟨⟨hSw1, hSw2, hSw3, hSw4⟩, hSw5, hSw6, hSw7, hSw8⟩ := hSw; go_simp; try with_reducible rfl⟩) (by assumption) ?_
                (try simp only [Act.put, List.setIfInBounds_toArray, List.set_cons_zero, List.set_cons_succ])
                refine take_first 4 (v := ?_) rfl (by kernel_rfl) (by kernel_rfl) (by kernel_rfl) (fun _ _ _ h => h) (Or.inl ⟨by rfl, by intro wx hSw; obtain ⟨⟨hSw1, hSw2, hSw3, hSw4⟩, hSw5, hSw6, hSw7, hSw8⟩ := hSw; go_simp; try with_reducible rfl⟩) (by assumption) ?_
                (try simp only [Act.put, List.setIfInBounds_toArray, List.set_cons_zero, List.set_cons_succ])
                refine take_first 5 (v := ?_) rfl (by kernel_rfl) (by kernel_rfl) (by kernel_rfl) (fun _ _ _ h => h) (Or.inl ⟨by rfl, by intro wx hSw; obtain ⟨⟨hSw1, hSw2, hSw3, hSw4⟩, hSw5, hSw6, hSw7, hSw8⟩ := hSw; go_simp; try with_reducible rfl⟩) (by assumption) ?_
                (try simp only [Act.put, List.setIfInBounds_toArray, List.set_cons_zero, List.set_cons_succ])
                refine take_first 6 (v := ?_) rfl (by kernel_rfl) (by kernel_rfl) (by kernel_rfl) (fun _ _ _ h => h) (Or.inl ⟨by rfl, by intro wx hSw; obtain ⟨⟨hSw1, hSw2, hSw3, hSw4⟩, hSw5, hSw6, hSw7, hSw8⟩ := hSw; go_simp; try with_reducible rfl⟩) (by assumption) ?_
                (try simp only [Act.put, List.setIfInBounds_toArray, List.set_cons_zero, List.set_cons_succ])
                refine take_first 7 (v := ?_) rfl (by kernel_rfl) (by kernel_rfl) (by kernel_rfl) (fun _ _ _ h => h) (Or.inl ⟨by rfl, by intro wx hSw; obtain ⟨⟨hSw1, hSw2, hSw3, hSw4⟩, hSw5, hSw6, hSw7, hSw8⟩ := hSw; go_simp; try with_reducible rfl⟩) (by assumption) ?_
                (try simp only [Act.put, List.setIfInBounds_toArray, List.set_cons_zero, List.set_cons_succ])
                refine take_first 8 (v := ?_) rfl (by kernel_rfl) (by kernel_rfl) (by kernel_rfl) (fun _ _ _ h => h) (Or.inl ⟨by rfl, by intro wx hSw; obtain ⟨⟨hSw1, hSw2, hSw3, hSw4⟩, hSw5, hSw6, hSw7, hSw8⟩ := hSw; go_simp; try with_reducible rfl⟩) (by assumption) ?_
                (try simp only [Act.put, List.setIfInBounds_toArray, List.set_cons_zero, List.set_cons_succ])
                refine take_first 9 (v := ?_) rfl (by kernel_rfl) (by kernel_rfl) (by kernel_rfl) (fun _ _ _ h => h) (Or.inl ⟨by rfl, by intro wx hSw; obtain ⟨⟨hSw1, hSw2, hSw3, hSw4⟩, hSw5, hSw6, hSw7, hSw8⟩ := hSw; go_simp; try with_reducible rfl⟩) (by assumption) ?_
                (try simp only [Act.put, List.setIfInBounds_toArray, List.set_cons_zero, List.set_cons_succ])
                refine comes_up 10 rfl (by kernel_rfl) (fun K hK => ?_)
                go_simp
                refine (heq _).mono ?_
                rintro e' w1 ⟨rfl, hup⟩
                have at1 : C4 g ((m + 1) * 4 + (t + 1) * 4) x.1 w1 ∧ C4 g ((m + 1) * 4 + t * 4) y.1 w1 := ⟨hHeld.1.up hup.bl, hHeld.2.up hup.bl⟩
                have hb1 : BlkT w1 g cap cur := hb.drew.up hup
                have hg1 : w.grownBy w1 (some g) := gr_trans (gr_drew hgr) (gr_below hup.bl _)
                clear hHeld hup two hb hgr
                go_wp2_with fail
                refine hK.out _ _ at1 (fun hHeld => ?_)
                clear hK K
                (try simp only [Act.put, List.setIfInBounds_toArray, List.set_cons_zero, List.set_cons_succ])
                refine take_first 11 (v := ?_) rfl (by kernel_rfl) (by kernel_rfl) (by kernel_rfl) (fun _ _ _ h => h) (Or.inl ⟨by rfl, by intro wx hSw; obtain ⟨⟨hSw1, hSw2, hSw3, hSw4⟩, hSw5, hSw6, hSw7, hSw8⟩ := hSw; go_simp; try with_reducible rfl⟩) (by assumption) ?_
                (try simp only [Act.put, List.setIfInBounds_toArray, List.set_cons_zero, List.set_cons_succ])
                refine wpAnyH_done (by kernel_rfl) ?_ _
                refine NoPanic.normal ?_
                clear at1 hHeld heq
                go_wp2
                go_roundw
                case rel => first | exact ⟨k, t + 1, cur, by go_num, by go_num, by omega, by omega, hb1, hcl, HT.out, HD1.out, hg1⟩ | ((repeat apply Exists.intro); exact ⟨⟨k, t + 1, cur, by go_num, by go_num, by omega, by omega, hb1, hcl, HT.out, HD1.out, hg1⟩, rfl⟩)
                case measure => simp [intOf]; omega
              | false =>
                rw [he] at heq
                have HT : Hid ((cur.set k x).take (k + 1) = keepT ls (m + 1 + (t + 1) + 1)) := by
                  show _ = _
                  rw [show m + 1 + (t + 1) + 1 = m + 1 + t + 2 by omega, keepT_next HX.out HY.out (by simpa using he), ← HTK.out, List.take_add_one]
                  have : (cur.set k x)[k]? = some x := by rw [List.getElem?_set_self (by omega)]
                  rw [this, List.take_set_of_le (Nat.le_refl _)]
                  rfl
                have HD2 : Hid ((cur.set k x).drop (m + 1 + (t + 1)) = ls.drop (m + 1 + (t + 1))) := by
                  show _ = _
                  rw [List.drop_set_of_lt (by omega)]
                  exact HD1.out
                have hcl2 : (cur.set k x).length = n := by simpa using hcl
                clear he HTK HD1
                go_wp2_with fail
                refine wp_region_noPanic ?_
                refine wp_region_held_drew (S := fun wx => C4 g ((m + 1) * 4 + (t + 1) * 4) x.1 wx ∧ C4 g ((m + 1) * 4 + t * 4) y.1 wx) (by kernel_rfl) two (fun hHeld => ?_)
                refine take_first 0 (v := ?_) rfl (by kernel_rfl) (by kernel_rfl) (by kernel_rfl) (fun _ _ _ h => h) (Or.inl ⟨by rfl, by intro wx hSw; obtain ⟨⟨hSw1, hSw2, hSw3, hSw4⟩, hSw5, hSw6, hSw7, hSw8⟩ := hSw; go_simp; try with_reducible rfl⟩) (by assumption) ?_
                (try simp only [Act.put, List.setIfInBounds_toArray, List.set_cons_zero, List.set_cons_succ])
                refine take_first 1 (v := ?_) rfl (by kernel_rfl) (by kernel_rfl) (by kernel_rfl) (fun _ _ _ h => h) (Or.inl ⟨by rfl, by intro wx hSw; obtain ⟨⟨hSw1, hSw2, hSw3, hSw4⟩, hSw5, hSw6, hSw7, hSw8⟩ := hSw; go_simp; try with_reducible rfl⟩) (by assumption) ?_
                (try simp only [Act.put, List.setIfInBounds_toArray, List.set_cons_zero, List.set_cons_succ])
                refine take_first 2 (v := ?_) rfl (by kernel_rfl) (by kernel_rfl) (by kernel_rfl) (fun _ _ _ h => h) (Or.inl ⟨by rfl, by intro wx hSw; obtain ⟨⟨hSw1, hSw2, hSw3, hSw4⟩, hSw5, hSw6, hSw7, hSw8⟩ := hSw; go_simp; try with_reducible rfl⟩) (by assumption) ?_
                (try simp only [Act.put, List.setIfInBounds_toArray, List.set_cons_zero, List.set_cons_succ])
                refine take_first 3 (v := ?_) rfl (by kernel_rfl) (by kernel_rfl) (by kernel_rfl) (fun _ _ _ h => h) (Or.inl ⟨by rfl, by intro wx hSw; obtain ⟨⟨hSw1, hSw2, hSw3, hSw4⟩, hSw5, hSw6, hSw7, hSw8⟩ := hSw; go_simp; try with_reducible rfl⟩) (by assumption) ?_
                (try simp only [Act.put, List.setIfInBounds_toArray, List.set_cons_zero, List.set_cons_succ])
                refine take_first 4 (v := ?_) rfl (by kernel_rfl) (by kernel_rfl) (by kernel_rfl) (fun _ _ _ h => h) (Or.inl ⟨by rfl, by intro wx hSw; obtain ⟨⟨hSw1, hSw2, hSw3, hSw4⟩, hSw5, hSw6, hSw7, hSw8⟩ := hSw; go_simp; try with_reducible rfl⟩) (by assumption) ?_
                (try simp only [Act.put, List.setIfInBounds_toArray, List.set_cons_zero, List.set_cons_succ])
                refine take_first 5 (v := ?_) rfl (by kernel_rfl) (by kernel_rfl) (by kernel_rfl) (fun _ _ _ h => h) (Or.inl ⟨by rfl, by intro wx hSw; obtain ⟨⟨hSw1, hSw2, hSw3, hSw4⟩, hSw5, hSw6, hSw7, hSw8⟩ := hSw; go_simp; try with_reducible rfl⟩) (by assumption) ?_
                (try simp only [Act.put, List.setIfInBounds_toArray, List.set_cons_zero, List.set_cons_succ])
                refine take_first 6 (v := ?_) rfl (by kernel_rfl) (by kernel_rfl) (by kernel_rfl) (fun _ _ _ h => h) (Or.inl ⟨by rfl, by intro wx hSw; obtain ⟨⟨hSw1, hSw2, hSw3, hSw4⟩, hSw5, hSw6, hSw7, hSw8⟩ := hSw; go_simp; try with_reducible rfl⟩) (by assumption) ?_
                (try simp only [Act.put, List.setIfInBounds_toArray, List.set_cons_zero, List.set_cons_succ])
                refine take_first 7 (v := ?_) rfl (by kernel_rfl) (by kernel_rfl) (by kernel_rfl) (fun _ _ _ h => h) (Or.inl ⟨by rfl, by intro wx hSw; obtain ⟨⟨hSw1, hSw2, hSw3, hSw4⟩, hSw5, hSw6, hSw7, hSw8⟩ := hSw; go_simp; try with_reducible rfl⟩) (by assumption) ?_
                (try simp only [Act.put, List.setIfInBounds_toArray, List.set_cons_zero, List.set_cons_succ])
                refine take_first 8 (v := ?_) rfl (by kernel_rfl) (by kernel_rfl) (by kernel_rfl) (fun _ _ _ h => h) (Or.inl ⟨by rfl, by intro wx hSw; obtain ⟨⟨hSw1, hSw2, hSw3, hSw4⟩, hSw5, hSw6, hSw7, hSw8⟩ := hSw; go_simp; try with_reducible rfl⟩) (by assumption) ?_
                (try simp only [Act.put, List.setIfInBounds_toArray, List.set_cons_zero, List.set_cons_succ])
                refine take_first 9 (v := ?_) rfl (by kernel_rfl) (by kernel_rfl) (by kernel_rfl) (fun _ _ _ h => h) (Or.inl ⟨by rfl, by intro wx hSw; obtain ⟨⟨hSw1, hSw2, hSw3, hSw4⟩, hSw5, hSw6, hSw7, hSw8⟩ := hSw; go_simp; try with_reducible rfl⟩) (by assumption) ?_
                (try simp only [Act.put, List.setIfInBounds_toArray, List.set_cons_zero, List.set_cons_succ])
                refine comes_up 10 rfl (by kernel_rfl) (fun K hK => ?_)
                go_simp
                refine (heq _).mono ?_
                rintro e' w1 ⟨rfl, hup⟩
                have at1 : C4 g ((m + 1) * 4 + (t + 1) * 4) x.1 w1 ∧ C4 g ((m + 1) * 4 + t * 4) y.1 w1 := ⟨hHeld.1.up hup.bl, hHeld.2.up hup.bl⟩
                have hb1 : BlkT w1 g cap cur := hb.drew.up hup
                have hg1 : w.grownBy w1 (some g) := gr_trans (gr_drew hgr) (gr_below hup.bl _)
                clear hHeld hup two hb hgr
                go_wp2_with fail
                refine hK.out _ _ at1 (fun hHeld => ?_)
                clear hK K
                (try simp only [Act.put, List.setIfInBounds_toArray, List.set_cons_zero, List.set_cons_succ])
                refine take_first 11 (v := ?_) rfl (by kernel_rfl) (by kernel_rfl) (by kernel_rfl) (fun _ _ _ h => h) (Or.inl ⟨by rfl, by intro wx hSw; obtain ⟨⟨hSw1, hSw2, hSw3, hSw4⟩, hSw5, hSw6, hSw7, hSw8⟩ := hSw; go_simp; try with_reducible rfl⟩) (by assumption) ?_
                (try simp only [Act.put, List.setIfInBounds_toArray, List.set_cons_zero, List.set_cons_succ])
                refine wpAnyH_done (by kernel_rfl) ?_ _
                refine NoPanic.normal ?_
                obtain ⟨w4, hst, hb4, hg4⟩ := hb1.setT (i := k) (by omega) x
                have hg5 : w.grownBy w4 (some g) := gr_trans hg1 hg4
                obtain ⟨⟨c0, c1, c2, c3⟩, _⟩ := at1
                clear hHeld heq hb1 hg1 hg4
                go_wp2_with (first | (refine wpList_store_cells rfl 45 (.tmp 56) (.tmp 55) rfl ⟨g, k * 4, none⟩ #[.int .u64 (x.1.1 : Nat), .int .i64 x.1.2.1, .int .i64 x.1.2.2.1, .slice x.1.2.2.2.1 x.1.2.2.2.2.1 x.1.2.2.2.2.2] rfl rfl infoS31 w4 hst ?_))
                go_roundw
                case rel => first | exact ⟨k + 1, t + 1, cur.set k x, by go_num, by go_num, by omega, by omega, hb4, hcl2, HT.out, HD2.out, hg5⟩ | ((repeat apply Exists.intro); exact ⟨⟨k + 1, t + 1, cur.set k x, by go_num, by go_num, by omega, by omega, hb4, hcl2, HT.out, HD2.out, hg5⟩, rfl⟩)
                case measure => simp [intOf]; omega
            · have ent : m + 1 + t + 1 = n := by omega
              have e1 : ¬ ((t : Int) + 1 < ((n - (m + 1) : Nat) : Int)) := by omega
              have e : cur.take k = keepT ls n := by rw [← ent]; exact HTK.out
              obtain ⟨w4, hst, hb4, hg4⟩ := hb.clearT (i := k) (n := n - k) (by omega) (by omega) (cap - k) 0
              have hk0 : ¬ ((k : Int) < 0) := by omega
              have hlen : (keepT ls n).length = k := by rw [← e, List.length_take]; omega
              have HE : Hid (w4.ownsRow base 45 4 (.slice (some ⟨g, 0, none⟩) k cap) (keepT ls n).length (fl (keepT ls n)) ∧ w.grownBy w4 (some g)) := by
                refine ⟨?_, gr_trans hgr hg4⟩
                have := BlkT.own hb4 hbg hcm k (by rw [List.length_take]; omega)
                rw [e, List.take_of_length_le (by omega)] at this
                rw [hlen]; exact this
              have hkn : k < n := by omega
              clear hb hgr hg4 hb4 HTK HDR hlen e HOWN hblk hu ent
              go_wp2
              go_ret
              exact ⟨_, rfl, HE.out⟩
      · have em : m + 1 = n := by omega
        have HE : Hid (wr.ownsRow base 45 4 (.slice (some ⟨g, 0, none⟩) n cap) (keepT ls n).length (fl (keepT ls n)) ∧ w.grownBy wr (some g)) := by
          have e : keepT ls n = ls := by rw [← em, HK.out, List.take_of_length_le (by omega)]
          rw [e, hl]
          exact ⟨HOWN.out wr hb, gr_below hu.bl _⟩
        have hltI : ¬ ((m : Int) + 1 < (n : Int)) := by omega
        clear hb HK HOWN hblk em hu
        go_wp2
        go_ret
        exact ⟨_, rfl, HE.out⟩
end Go.Proofs.YtlonbbepoamnmaaDoor
