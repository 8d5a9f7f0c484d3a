/-
  The document's answer: Cancel.
-/
import Derived.Test.YtplcmaiphbjfcaaWRef
namespace Go.Proofs.Ytplcmaiphbjfcaa
open Go.RowKit
set_option linter.unusedVariables false

/-- A timer in a row of one's own, in a world with one block more. -/
theorem two_new (w : World) (a b : Value) (t : TypeId) : ∀ j u, [a, b][j]? = some u → (w.alloc (.cells #[a, b] t)).cell? ((⟨w.heap.size, 0, none⟩ : Addr).add j) = some u := by
  intro j u h
  rw [Addr.add_lit, Nat.zero_add]
  rw [cell_of_row _ _ _ _ t (0, 0) (heap_alloc_new w _)]
  simpa using h

def without (R : List (Int × Nat)) (id : Int) : List (Int × Nat) := R.filter (fun x => decide (x.1 ≠ id))
theorem without_take {R : List (Int × Nat)} {id : Int} {k : Nat} {x : Int × Nat} (h : R[k]? = some x) : without (R.take (k + 1)) id = without (R.take k) id ++ (if x.1 = id then [] else [x]) := by
  unfold without
  rw [List.take_add_one, h, List.filter_append]
  by_cases e : x.1 = id <;> simp [e]
theorem without_le (R : List (Int × Nat)) (id : Int) : (without R id).length ≤ R.length := List.length_filter_le _ _

set_option maxRecDepth 20000 in
set_option maxHeartbeats 1000000 in
theorem rcancel_any (w : World) (r : Nat) (v : Value) (now : Nat) (R : List (Int × Nat)) (h : Rf w r v now R) (id : Int) (hl : R.length < 1099511627776) :
    Calls Try.prog 15 #[.pointer (some ⟨r, 0, none⟩), .int .i64 id] w fun e w' => e = .returned (.bool (decide ((without R id).length < R.length))) ∧ ∃ v', Rf w' r v' now (without R id) ∧ Turned (fun b => b = r) w w' ∧ (∀ b, v'.ownBlock = some b → w.heap.size ≤ b) := by
  obtain ⟨ao, cap, rfl, hcap, hmax⟩ := row_shape h.row
  obtain ⟨n, HN⟩ : ∃ n, Hid (R.length = n) := ⟨_, rfl⟩
  have hrlt := h.lt r (.inl rfl)
  have H : Hid (Rf w r (.slice ao R.length cap) now R) := h
  have en := HN.out
  rw [en] at hcap hl H
  obtain ⟨i0, hi0, hz0, hz1, hz2⟩ := info_parts info72
  clear h en
  go_enter Try.func15, Try.ntmps15
  go_wp2_with fail
  go_loopw [5, 6] (fun v i wr => ∃ k : Nat, k ≤ n ∧ i = .int .i64 k ∧ wr.ownsRow w.heap.size 72 2 v (without (R.take k) id).length (tc (without (R.take k) id)) ∧ Turned (fun _ => False) w wr) (fun _ i _ => n - (intOf i).toNat)
  case atStart => exact ⟨0, by omega, rfl, ⟨rfl, .inl ⟨rfl, rfl⟩⟩, Turned.refl _ _⟩
  case round =>
    obtain ⟨k, hk, rfl, hown, ht⟩ := hrel
    have hr := H.out.turned ht
    have hc1 := hr.c1
    have hfr := hr.fr 1
    have hwl : (without (R.take k) id).length ≤ k := Nat.le_trans (without_le _ _) (by rw [List.length_take]; omega)
    obtain ⟨D, HD⟩ : ∃ D, Hid ((without (R.take k) id).length = D) := ⟨_, rfl⟩
    rw [HD.out] at hown hwl
    obtain ⟨av, cv, rfl, hcv, hmv⟩ := row_shape hown
    have HR : Hid (Rf wr r (.slice ao n cap) now R) := hr
    have HT : Hid (Turned (fun _ => False) w wr) := ht
    have HO : Hid (wr.ownsRow w.heap.size 72 2 (.slice av D cv) D (tc (without (R.take k) id))) := hown
    have hws : w.heap.size ≤ wr.heap.size := ht.size
    clear hr ht hown
    by_cases hend : k = n
    · subst hend
      have htk : R.take k = R := List.take_of_length_le (by rw [HN.out]; omega)
      have HE : Hid (Rf (wr.setCell ⟨r, 1, none⟩ (.slice av D cv)) r (.slice av D cv) now (without R id) ∧ Turned (fun b => b = r) w (wr.setCell ⟨r, 1, none⟩ (.slice av D cv))) := by
        have ho := HO.out
        rw [htk] at ho
        have hne : ∀ b, (Value.slice av D cv).ownBlock = some b → b ≠ r := fun b hb => by have := (ho.lt b hb).1; omega
        refine ⟨⟨?_, ?_, ?_, ?_, ?_⟩, ?_⟩
        · rw [set_cell_other (by omega)]; exact HR.out.c0
        · exact set_cell HR.out.c1
        · intro o; rw [World.frozen?_setCell]; exact HR.out.fr o
        · have e : (without R id).length = D := by rw [← HD.out, htk]
          rw [e]
          exact row_block (row_base ho (Nat.zero_le _)) (fun b hb => set_block_other (hne b hb))
        · exact fun e => hne r e rfl
        · exact Turned.setCell (F := fun b => b = r) (HT.out.mono (fun _ f => f.elim)) (p := ⟨r, 1, none⟩) (.inl rfl) _
      have HB : Hid (∀ b, (Value.slice av D cv).ownBlock = some b → w.heap.size ≤ b) := fun b hb => (HO.out.lt b hb).1
      have HDE : Hid (decide ((without R id).length < R.length) = decide (D < k)) := by
        unfold Hid
        rw [HN.out, ← HD.out, htk]
      go_wp2_with fail
      go_ret
      refine ⟨?_, _, HE.out.1, HE.out.2, HB.out⟩
      rw [HDE.out]
      simp
    · have hkl : k < R.length := by rw [HN.out]; omega
      obtain ⟨g, rfl, hgl, hcell⟩ := HR.out.cell hkl
      obtain ⟨x, hx⟩ : ∃ x, R[k]? = some x := ⟨_, List.getElem?_eq_getElem hkl⟩
      obtain ⟨d1, d2⟩ := hcell k x hx
      have hwt := without_take (id := id) hx
      obtain ⟨xi, xd⟩ := x
      simp only at d1 d2 hwt
      have HWT : Hid (without (R.take (k + 1)) id = without (R.take k) id ++ (if xi = id then [] else [(xi, xd)])) := hwt
      clear hcell hx hwt
      by_cases he : xi = id
      · have HE : Hid (wr.ownsRow w.heap.size 72 2 (.slice av D cv) (without (R.take (k + 1)) id).length (tc (without (R.take (k + 1)) id))) := by
          unfold Hid
          rw [HWT.out, if_pos he, List.append_nil, HD.out]
          exact HO.out
        have he' : (xi != id) = false := by simpa using he
        go_wp2_with fail
        go_roundw
        case rel => exact ⟨k + 1, by omega, by go_num, HE.out, HT.out⟩
        case measure => simp [intOf]; omega
      · have he' : (xi != id) = true := by simpa using he
        go_wp2_with (first | (at_builtin; refine wpList_append_own_at _ rfl _ _ 30 rfl w.heap.size 72 i0 (.agg #[.int .i64 0, .int .u64 0]) 2 16 und30 hi0 hz0 hz1 hz2 rfl (by decide) (.slice av D cv) D (tc (without (R.take k) id)) rfl ?d1 ⟨wr.heap.size, 0, none⟩ 1 1 [.int .i64 xi, .int .u64 (xd : Nat)] rfl rfl ?d3 ?d5 ?d6 ?d7 ?d8 ?_))
        case d1 => exact row_block HO.out (fun b hb => Below.heap_alloc _ _ b (HO.out.lt b hb).2)
        case d3 => exact two_new wr _ _ 72
        case d5 => exact tc_one [(xi, xd)]
        case d6 => unfold maxLen; omega
        case d7 => omega
        case d8 => rw [World.size_alloc]; omega
        intro v' w1 hown1 hgrow hnil hat
        obtain ⟨a1, c1, rfl, _, _⟩ := row_shape hown1
        have HE : Hid (w1.ownsRow w.heap.size 72 2 (.slice a1 (D + 1) c1) (without (R.take (k + 1)) id).length (tc (without (R.take (k + 1)) id))) := by
          unfold Hid
          rw [HWT.out, if_neg he, tc_append, List.length_append, HD.out]
          exact hown1
        have HT1 : Hid (Turned (fun _ => False) w w1) := (HT.out.alloc _).trans (Turned.of_grown (F := fun b => w.heap.size ≤ b) hgrow (fun b hb => (HO.out.lt b hb).1)) (fun i hi => .inr hi)
        clear hown1 hgrow hnil hat
        go_wp2_with fail
        go_roundw
        case rel => exact ⟨k + 1, by omega, by go_num, HE.out, HT1.out⟩
        case measure => simp [intOf]; omega

end Go.Proofs.Ytplcmaiphbjfcaa
