/-
  slices.Grow and slices.Concat of labels.
-/
import Derived.Test.YtdnhhbpnefhjlaaLSrt
namespace Go.Proofs.Ytdnhhbpnefhjlaa
open Go.RowKit Go.Sort
set_option linter.unusedVariables false

theorem run_append_zeros (n : Nat) (h0 : 0 < n) (hn : n ≤ 100000) (ty : TypeId) (w : World) : ∃ cap cur, Sem.run Try.prog (Builtin.append_ #[32, 3] ty #[.slice none 0 0, .int .i64 (n : Nat)]) w = .ok (.slice (some ⟨w.heap.size, 0, none⟩) n cap) (w.drew.alloc (.cells cur 26)) ∧ cur.size = cap * 4 ∧ n ≤ cap ∧ cap ≤ maxLen := by
  obtain ⟨i, hi, hz, hz1, hz2⟩ := info_parts infoL
  have hn0 : n ≠ 0 := by omega
  have h63' : ¬ (9223372036854775807 < (n : Int)) := by omega
  have h48' : ¬ (281474976710656 < Builtin.nextslicecap n 0 * i.bytes) := by rw [nextslicecap_zero h0, hz2]; omega
  have hw : IntKind.i64.wrap (n : Int) = n := by simp [IntKind.wrap, IntKind.bits, IntKind.signed]; omega
  have hneg : ¬ ((n : Int) < 0) := by omega
  have hbig : ¬ (281474976710656 < (n : Int) * (i.bytes : Int)) := by rw [hz2]; omega
  have ha : ∀ W, Sem.run Try.prog (asIntOf (.int .i64 (n : Nat))) W = .ok (.i64, (n : Int)) W := fun _ => rfl
  refine ⟨grownCap w n 0 26, Builtin.zeroCells (Value.agg #[.int .u64 0, .int .i64 0, .int .u64 0, .int .i64 0]).cells n ++ Builtin.zeroCells (Value.agg #[.int .u64 0, .int .i64 0, .int .u64 0, .int .i64 0]).cells (grownCap w n 0 26 - n), ?_, ?_, grownCap_ge _ _ _ _, grownCap_le_maxLen _ _ _ _ (by unfold maxLen; omega)⟩
  · simp [Builtin.append_, run_underlying und32, run_underlying Try.underlying3, sizeOf, typeInfo, zeroValue, hi, hz, hz1, asInt, ha, hw, hneg, hbig, hn0, h63', h48', Question.forced, run_firstCells_none, newRow, grownCap]
    intro h4
    omega
  · have := grownCap_ge w n 0 26
    rw [Array.size_append, size_zeroCells, size_zeroCells]
    simp [Value.cells]
    omega

/-- An append by its run. -/
theorem wpList_append_run {P : Program} {w : World} {ops : Array Oper} {rest : List Oper} {o : Oper} {a : Act} {Q : Exit → Act → World → Prop} (hgd : o.guard = none) (s x : Operand) (t u : TypeId)
    (ho : o.op = .call { callee := .builtin .append, args := #[s, x], argTypes := #[t, u] }) (v y v' : Value) (w' : World) (hs : a.eval s = v) (hx : a.eval x = y) (hrun : (Builtin.append_ #[t, u] o.type #[v, y]).run P w = .ok v' w')
    (h : wpList P ops Q rest (a.put o.dst v') w') : wpList P ops Q (o :: rest) a w := by
  refine wpList_plain hgd fun K hK => ?_
  unfold Oper.wp execOp
  simp only [ho, resolve, invoke, builtin, Sem.run_bind, Sem.run_pure, Result.andThen_ok, List.map_toArray, List.map_cons, List.map_nil, hs, hx, hrun]
  exact hK _ _ h
theorem und86 : Try.prog.underlying 86 = some (.slice 32) := by kernel_rfl

set_option maxRecDepth 10000 in
set_option maxHeartbeats 1000000 in
theorem grow_any (w : World) (n : Nat) (hn : n ≤ 100000) : Calls Try.prog 60 #[.slice none 0 0, .int .i64 (n : Nat)] w fun e w' => ∃ v, e = .returned v ∧ w'.ownsRow w.heap.size 26 4 v 0 [] ∧ Below w.heap.size w w' := by
  by_cases h0 : n = 0
  · subst h0
    go_enter Try.func60, Try.ntmps60
    go_wp2
    go_ret
    exact ⟨_, rfl, World.ownsRow_nil _ _ _ _, Below.refl _ _⟩
  · have h0I : (0 : Int) < (n : Int) := by omega
    have hneg : ¬ ((n : Int) < 0) := by omega
    obtain ⟨cap, cur, hrun, hcs, hnc, hcm⟩ := run_append_zeros n (by omega) hn 32 w
    have HE : Hid ((w.drew.alloc (.cells cur 26)).ownsRow w.heap.size 26 4 (.slice (some ⟨w.heap.size, 0, none⟩) 0 cap) 0 [] ∧ Below w.heap.size w (w.drew.alloc (.cells cur 26))) :=
      ⟨World.ownsRow_made w.drew cur cap (Nat.le_refl _) hcm hcs, (Below.refl _ w).drew.alloc (Nat.le_refl _) _⟩
    clear hcs
    go_enter Try.func60, Try.ntmps60
    go_wp2_with (at_builtin; refine wpList_append_run rfl _ _ 32 3 rfl _ _ _ _ rfl rfl hrun ?_)
    go_ret
    exact ⟨_, rfl, HE.out⟩

/-- Any labels behind a row of one's own. -/
theorem wpList_append_LR {w : World} {ops : Array Oper} {rest : List Oper} {o : Oper} {a : Act} {Q : Exit → Act → World → Prop} (hgd : o.guard = none) (s x : Operand)
    (ho : o.op = .call { callee := .builtin .append, args := #[s, x], argTypes := #[32, 32] }) (base : Nat)
    (v : Value) (n : Nat) (xs : List Lb) (hs : a.eval s = v) (hown : w.ownsRow base 26 4 v n (flat xs))
    (bo : Option Addr) (m c : Nat) (ms : List Lb) (hx : a.eval x = .slice bo m c) (hu : LR w bo m ms) (hz : bo = none → m = 0 ∧ c = 0)
    (hnm : n + m ≤ 1000000) (hbase : base ≤ w.heap.size)
    (h : ∀ v' w', w'.ownsRow base 26 4 v' (n + m) (flat (xs ++ ms)) → w.grownBy w' v.ownBlock → wpList Try.prog ops Q rest (a.put o.dst v') w') :
    wpList Try.prog ops Q (o :: rest) a w := by
  obtain ⟨i0, hi0, hz0, hz1, hz2⟩ := info_parts infoL
  cases bo with
  | none =>
    obtain ⟨rfl, rfl⟩ := hz rfl
    obtain rfl : ms = [] := List.length_eq_zero_iff.1 hu.1
    refine wpList_append_own_none hgd s x 32 ho base 26 i0 4 und32 hi0 v n (flat xs) hs hown hx ?_
    exact h v w (by simpa using hown) ⟨rfl, rfl, rfl, Nat.le_refl _, fun _ _ _ => rfl⟩
  | some ad =>
    refine wpList_append_own_at _ hgd s x 32 ho base 26 i0 (.agg #[.int .u64 0, .int .i64 0, .int .u64 0, .int .i64 0]) 4 32 und32 hi0 hz0 hz1 hz2 rfl (by decide) v n (flat xs) hs hown ad m c (flat ms) hx (by rw [flat_len, hu.1]) hu.cells (fun u hu' => flat_one hu') (by unfold maxLen; omega) (by omega) hbase (fun v' w' a b _ _ => h v' w' (by rw [flat_app]; exact a) b)

set_option maxRecDepth 10000 in
set_option maxHeartbeats 2000000 in
theorem concat_any (w : World) (B : Nat) (ao : Option Addr) (n cap : Nat) (ls : List Lb) (hA : LR w ao n ls) (hz : ao = none → n = 0 ∧ cap = 0) (bo : Option Addr) (m cbp : Nat) (ms : List Lb) (hM : LR w bo m ms) (hzm : bo = none → m = 0 ∧ cbp = 0) (hn : n + m ≤ 2000)
    (h0 : w.cell? ⟨B, 0, none⟩ = some (.slice ao n cap)) (h1 : w.cell? ⟨B, 1, none⟩ = some (.slice bo m cbp)) :
    Calls Try.prog 42 #[.slice (some ⟨B, 0, none⟩) 2 2] w fun e w' => ∃ v, e = .returned v ∧ w'.ownsRow w.heap.size 26 4 v (n + m) (flat (ls ++ ms)) ∧ Below w.heap.size w w' := by
  have hgr := fun W => grow_any W (n + m) (by omega)
  have hneg : ¬ ((n : Int) < 0) := by omega
  have hneg2 : ¬ ((n : Int) + (m : Int) < 0) := by omega
  have hcast : ((n + m : Nat) : Int) = (n : Int) + (m : Int) := by omega
  rw [hcast] at hgr
  clear hcast
  have HA : Hid (LR w ao n ls) := hA
  have HM : Hid (LR w bo m ms) := hM
  clear hA hM
  go_enter Try.func42, Try.ntmps42
  go_wp2
  refine wp_loop_rounds 3 ?_
  rw [rounds_succ]
  go_wp2
  rw [rounds_succ]
  go_wp2
  rw [rounds_succ]
  go_wp2_with fail
  refine (hgr _).mono ?_
  rintro e w1 ⟨v, rfl, hown, hb1⟩
  have c0 := (hb1.cell (World.block_lt_of_cell? w _ h0)).trans h0
  have c1 := (hb1.cell (World.block_lt_of_cell? w _ h1)).trans h1
  have hA1 := HA.out.up hb1
  have hs1 := hb1.size
  clear hgr
  go_wp2
  refine wp_loop_rounds 3 ?_
  rw [rounds_succ]
  go_wp2_with (at_builtin; refine wpList_append_LR rfl _ _ rfl w.heap.size _ 0 [] rfl ?d1 ao n cap ls rfl ?d2 hz ?d3 ?d4 ?_)
  case d1 => exact hown
  case d2 => exact hA1
  case d3 => omega
  case d4 => exact hs1
  intro v2 w2 hown2 hg2
  have hne : ∀ k, v.ownBlock = some k → w.heap.size ≤ k := fun k hk => (hown.lt k hk).1
  have hb2 : Below w.heap.size w w2 := bl_grown hb1 hs1 hg2 hne
  have d0 := (hb2.cell (World.block_lt_of_cell? w _ h0)).trans h0
  have d1 := (hb2.cell (World.block_lt_of_cell? w _ h1)).trans h1
  have hM2 := HM.out.up hb2
  have hs2 := hb2.size
  clear hown hg2 hne hA1 c0 c1 hb1 hs1
  go_wp2
  rw [rounds_succ]
  go_wp2_with (at_builtin; refine wpList_append_LR rfl _ _ rfl w.heap.size _ n ls rfl ?d1 bo m cbp ms rfl ?d2 hzm ?d3 ?d4 ?_)
  case d1 => exact hown2
  case d2 => exact hM2
  case d3 => omega
  case d4 => exact hs2
  intro v3 w3 hown3 hg3
  have hne : ∀ k, v2.ownBlock = some k → w.heap.size ≤ k := fun k hk => (hown2.lt k hk).1
  have hb3 : Below w.heap.size w w3 := bl_grown hb2 hs2 hg3 hne
  have HE : Hid (w3.ownsRow w.heap.size 26 4 v3 (n + m) (flat (ls ++ ms)) ∧ Below w.heap.size w w3) := ⟨hown3, hb3⟩
  clear hown2 hown3 hg3 hne hM2 d0 d1 hb2 hs2 hb3
  go_wp2
  rw [rounds_succ]
  go_wp2
  go_ret
  exact ⟨v3, rfl, HE.out⟩
end Go.Proofs.Ytdnhhbpnefhjlaa
