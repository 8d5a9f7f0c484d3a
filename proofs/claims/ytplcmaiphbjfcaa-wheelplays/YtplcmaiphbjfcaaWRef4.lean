/-
  The document's answer: Arm.
-/
import Derived.Test.YtplcmaiphbjfcaaWRef3
import Derived.Deep.RegionLaw
namespace Go.Proofs.Ytplcmaiphbjfcaa
open Go.RowKit
set_option linter.unusedVariables false
set_option linter.unusedSimpArgs false

set_option maxRecDepth 20000 in
set_option maxHeartbeats 1000000 in
theorem rarm_err (w : World) (r : Nat) (v : Value) (now : Nat) (R : List (Int × Nat)) (h : Rf w r v now R) (hnow : now ≤ 1152921504606846976) (id : Int) (inn : Nat) (hin : inn < 18446744073709551616) (hbad : inn = 0 ∨ 1152921504606846976 < now + inn) :
    Calls Try.prog 13 #[.pointer (some ⟨r, 0, none⟩), .int .i64 id, .int .u64 (inn : Nat)] w fun e w' => e = .returned (.int .i64 1) ∧ w = w' := by
  have hc0 := h.c0
  clear h
  by_cases h0 : inn = 0
  · subst h0
    go_enter Try.func13, Try.ntmps13
    go_wp2_with fail
    go_ret
    exact ⟨rfl, rfl⟩
  · have h1 : ¬ ((inn : Int) < 1) := by omega
    have h2 : 1152921504606846976 < now + inn := by omega
    by_cases h3 : 1152921504606846976 < inn
    · have h3' : (1152921504606846976 : Int) < inn := by omega
      clear hbad h2
      go_enter Try.func13, Try.ntmps13
      go_wp2_with fail
      go_ret
      exact ⟨rfl, rfl⟩
    · have h3' : ¬ ((1152921504606846976 : Int) < inn) := by omega
      have h4 : (1152921504606846976 : Int) - inn < now := by omega
      clear hbad h2 h3
      go_enter Try.func13, Try.ntmps13
      go_wp2_with fail
      go_ret
      exact ⟨rfl, rfl⟩

/-- An append whose answer is known, as one step of a region that draws its order. -/
theorem step_append_run {P : Program} {ops : Array Oper} {o : Oper} {a : Act} {w : World} {K : Act → World → Prop} {Q : Exit → Act → World → Prop} {E : Prop}
    (hg : o.guard = none) (s x : Operand) (t : TypeId) (hop : o.op = Op.call { callee := Callee.builtin Builtin.append, args := #[s, x], argTypes := #[t, t] })
    (v y v' : Value) (w' : World) (hs : a.eval s = v) (hx : a.eval x = y) (hrun : (Builtin.append_ #[t, t] o.type #[v, y]).run P w = .ok v' w')
    (hK : K (a.put o.dst v') w') : if Region.wanted o (yielded ops a.tmps) = true then Oper.wp P o a w K Q else E := by
  have hw : Region.wanted o (yielded ops a.tmps) = true := by simp [Region.wanted, hg]
  rw [if_pos hw]
  unfold Oper.wp
  simp [execOp, hop, resolve, invoke, builtin, hs, hx, hrun, Result.andThen]
  exact hK

set_option maxRecDepth 20000 in
set_option maxHeartbeats 1000000 in
theorem rarm_any (w : World) (r : Nat) (v : Value) (now : Nat) (R : List (Int × Nat)) (h : Rf w r v now R) (id : Int) (inn : Nat) (hin : 0 < inn) (hle : now + inn ≤ 1152921504606846976) (hl : R.length < 1099511627776) :
    Calls Try.prog 13 #[.pointer (some ⟨r, 0, none⟩), .int .i64 id, .int .u64 (inn : Nat)] w fun e w' => e = .returned (.int .i64 0) ∧ ∃ v', Rf w' r v' now (without R id ++ [(id, now + inn)]) ∧ Turned (fun b => b = r) w w' ∧ (∀ b, v'.ownBlock = some b → w.heap.size ≤ b) := by
  have hc0 := h.c0
  have hrlt := h.lt r (.inl rfl)
  have hcan := rcancel_any w r v now R h id hl
  have h1 : ¬ ((inn : Int) < 1) := by omega
  have h3' : ¬ ((1152921504606846976 : Int) < inn) := by omega
  have h4 : ¬ ((1152921504606846976 : Int) - inn < now) := by omega
  have hwl := without_le R id
  obtain ⟨i0, hi0, hz0, hz1, hz2⟩ := info_parts info72
  clear h
  go_enter Try.func13, Try.ntmps13
  go_wp2_with fail
  refine hcan.mono ?_
  rintro e w2 ⟨rfl, v2, hr2, ht2, hn2⟩
  obtain ⟨a2, c2, rfl, hcc, hmx⟩ := row_shape hr2.row
  obtain ⟨n2, HN2⟩ : ∃ n2, Hid ((without R id).length = n2) := ⟨_, rfl⟩
  have hws : w.heap.size ≤ w2.heap.size := ht2.size
  have hr0 := hr2.c0
  have hr1 := hr2.c1
  have hno := hr2.no
  have hrow2 := hr2.row
  rw [HN2.out] at hr1 hcc hwl hn2 hno hrow2
  obtain ⟨v3, w3, hrun, hown3, hgrow3, hnil3, hat3⟩ := run_append_own_at (P := Try.prog) ((w2.alloc (.cells #[.int .i64 id, .int .u64 ((now : Int) + inn)] 72)).drew) 0 30 30 72 i0 (.agg #[.int .i64 0, .int .u64 0]) 2 16 und30 hi0 hz0 hz1 hz2 rfl (by decide) (.slice a2 n2 c2) n2 (tc (without R id))
    (row_block hrow2 (fun b hb => Below.heap_alloc _ _ b (hrow2.lt b hb).2)) ⟨w2.heap.size, 0, none⟩ 1 1 [.int .i64 id, .int .u64 ((now : Int) + inn)] rfl (two_new w2 _ _ 72) (by
      intro u hu
      simp at hu
      rcases hu with rfl | rfl <;> rfl) (by unfold maxLen; omega) (by omega) (Nat.zero_le _)
  have hk : ∀ b, b < w2.heap.size → (Value.slice a2 n2 c2).ownBlock ≠ some b → w3.heap[b]? = w2.heap[b]? := fun b hb hn => (hgrow3.block b (by show b < (World.alloc _ _).heap.size; rw [World.size_alloc]; omega) (fun e => hn e.symm)).trans (Below.heap_alloc w2 _ b hb)
  have hr2lt : r < w2.heap.size := by omega
  have hkr := hk r hr2lt hno
  have hf3 : w3.frozen? ⟨r, 1, none⟩ = false := by rw [frozen_block hkr]; exact hr2.fr 1
  have hc3 : w3.cell? ⟨r, 1, none⟩ = some (.slice a2 n2 c2) := by rw [cell_block hkr]; exact hr1
  obtain ⟨a3, c3, rfl, _, _⟩ := row_shape hown3
  have hblk : ∀ b, (Value.slice a3 (n2 + 1) c3).ownBlock = some b → w.heap.size ≤ b ∧ b ≠ r := fun b hb => by
    rcases hat3 with e | e
    · have := hn2 b (e ▸ hb); omega
    · rw [e] at hb
      have hb' : w2.heap.size + 1 = b := by
        have := Option.some.inj hb
        rw [← this]
        show _ = (World.alloc _ _).heap.size
        rw [World.size_alloc]
      omega
  have HE : Hid (Rf (w3.setCell ⟨r, 1, none⟩ (.slice a3 (n2 + 1) c3)) r (.slice a3 (n2 + 1) c3) now (without R id ++ [(id, now + inn)]) ∧ Turned (fun b => b = r) w (w3.setCell ⟨r, 1, none⟩ (.slice a3 (n2 + 1) c3)) ∧ (∀ b, (Value.slice a3 (n2 + 1) c3).ownBlock = some b → w.heap.size ≤ b)) := by
    refine ⟨⟨?_, ?_, ?_, ?_, ?_⟩, ?_, fun b hb => (hblk b hb).1⟩
    · rw [set_cell_other (by omega), cell_block hkr]; exact hr0
    · exact set_cell hc3
    · intro o; rw [World.frozen?_setCell, frozen_block hkr]; exact hr2.fr o
    · rw [List.length_append, HN2.out, tc_append]
      have e : tc [(id, now + inn)] = [.int .i64 id, .int .u64 ((now : Int) + inn)] := by simp [tc]
      rw [e]
      exact row_block hown3 (fun b hb => set_block_other (hblk b hb).2)
    · exact fun e => (hblk r e).2 rfl
    · refine Turned.setCell (F := fun b => b = r) ?_ (p := ⟨r, 1, none⟩) (.inl rfl) _
      exact ((ht2.alloc _).drewN 1).trans (Turned.of_grown (F := fun b => w.heap.size ≤ b) hgrow3 hn2) (fun i hi => .inr hi)
  clear hblk hk hkr hgrow3 hown3 hnil3 hat3 hrow2 hr2 ht2 hn2 hcan hno hc0 hmx hcc hwl hz0 hz1 hz2 hi0
  have HW : Hid (IntKind.u64.wrap ((now : Int) + inn) = (now : Int) + inn) := IntWalk.u64_in _ (by omega)
  have HRUN : Hid ((Builtin.append_ #[30, 30] 30 #[.slice a2 n2 c2, .slice (some ⟨w2.heap.size, 0, none⟩) 1 1]).run Try.prog ((w2.alloc (.cells #[.int .i64 id, .int .u64 ((now : Int) + inn)] 72)).drew) = .ok (.slice a3 (n2 + 1) c3) w3) := hrun
  clear hrun
  go_wp2_with fail
  go_region_law (refine step_append_run rfl (.tmp 29) (.tmp 38) 30 rfl (.slice a2 n2 c2) (.slice (some ⟨w2.heap.size, 0, none⟩) 1 1) (.slice a3 (n2 + 1) c3) w3 (by simp [Act.eval, Act.put]) (by simp [Act.eval, Act.put]) (by first | exact HRUN.out | (rw [HW.out]; exact HRUN.out)) ?_)
  all_goals (go_wp2_with fail; go_ret; exact ⟨rfl, _, HE.out⟩)

end Go.Proofs.Ytplcmaiphbjfcaa
