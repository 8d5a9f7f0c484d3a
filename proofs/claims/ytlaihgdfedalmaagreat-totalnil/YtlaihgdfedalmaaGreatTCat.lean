/-
  slices.Grow and slices.Concat of entries.
-/
import Derived.Test.YtlaihgdfedalmaaGreatTAll
import Derived.Test.YtlaihgdfedalmaaGreatERight
import Derived.Laws.AppendOwnNone
namespace Go.Proofs.YtlaihgdfedalmaaGreat.T
open Go.RowKit Go.Sort
set_option linter.unusedVariables false

/-- Entries in memory, but their messages. -/
def XR (w : World) (ao : Option Addr) (n : Nat) (xs : List Sx) : Prop :=
  xs.length = n ∧ (0 < n → ∃ b off, ao = some ⟨b, off, none⟩ ∧ ∀ j x, xs[j]? = some x → C5 w b (off + j * 5) x)
theorem XR.up {w w' : World} {ao : Option Addr} {n : Nat} {xs : List Sx} (h : XR w ao n xs) (u : Below w.heap.size w w') : XR w' ao n xs := by
  refine ⟨h.1, fun hn => ?_⟩
  obtain ⟨b, off, e, hc⟩ := h.2 hn
  refine ⟨b, off, e, fun j x hj => ?_⟩
  obtain ⟨c0, c1, c2, c3, c4⟩ := hc j x hj
  exact ⟨bl_cell u c0, bl_cell u c1, bl_cell u c2, bl_cell u c3, bl_cell u c4⟩
theorem flat_at : ∀ (xs : List Sx) (i : Nat) (u : Value), (flat xs)[i]? = some u → ∃ x, xs[i / 5]? = some x ∧ (cellsS x)[i % 5]? = some u := fun xs i u h => by
  have hi := (List.getElem?_eq_some_iff.1 h).1
  rw [flat_len] at hi
  have hj : i / 5 < xs.length := by omega
  refine ⟨xs[i / 5], List.getElem?_eq_getElem hj, ?_⟩
  have := flat_get xs (i / 5) _ (i % 5) (List.getElem?_eq_getElem hj) (Nat.mod_lt _ (by omega))
  rw [show 5 * (i / 5) + i % 5 = i by omega, h] at this
  exact this.symm
theorem XR.cells {w : World} {ad : Addr} {n : Nat} {xs : List Sx} (h : XR w (some ad) n xs) : ∀ j u, (flat xs)[j]? = some u → w.cell? (ad.add j) = some u := fun j u hu => by
  obtain ⟨x, hx, hc⟩ := flat_at xs j u hu
  have hn : 0 < n := by
    have := (List.getElem?_eq_some_iff.1 hx).1
    have := h.1
    omega
  obtain ⟨b, off, e, hcs⟩ := h.2 hn
  cases e
  obtain ⟨c0, c1, c2, c3, c4⟩ := hcs _ x hx
  rw [Addr.add_lit]
  have hm : j % 5 < 5 := Nat.mod_lt _ (by omega)
  have key : ∀ k, j % 5 = k → off + j = off + j / 5 * 5 + k := fun k hk => by omega
  have h5 : j % 5 = 0 ∨ j % 5 = 1 ∨ j % 5 = 2 ∨ j % 5 = 3 ∨ j % 5 = 4 := by omega
  rcases h5 with e | e | e | e | e <;> rw [e] at hc <;> simp [cellsS] at hc <;> subst hc <;> rw [key _ e]
  · simpa using c0
  · exact c1
  · exact c2
  · exact c3
  · exact c4
theorem run_append_zeros (n : Nat) (h0 : 0 < n) (hn : n ≤ 100000) (ty : TypeId) (w : World) : ∃ cap cur, Sem.run Tryz.prog (Builtin.append_ #[42, 3] ty #[.slice none 0 0, .int .i64 (n : Nat)]) w = .ok (.slice (some ⟨w.heap.size, 0, none⟩) n cap) (w.drew.alloc (.cells cur 41)) ∧ cur.size = cap * 5 ∧ n ≤ cap ∧ cap ≤ maxLen := by
  obtain ⟨i, hi, hz, hz1, hz2⟩ := info_parts infoE29
  have hn0 : n ≠ 0 := by omega
  have h63' : ¬ (9223372036854775807 < (n : Int)) := by omega
  have h48' : ¬ (281474976710656 < Builtin.nextslicecap n 0 * i.bytes) := by rw [nextslicecap_zero h0, hz2]; omega
  have hw : IntKind.i64.wrap (n : Int) = n := by simp [IntKind.wrap, IntKind.bits, IntKind.signed]; omega
  have hneg : ¬ ((n : Int) < 0) := by omega
  have hbig : ¬ (281474976710656 < (n : Int) * (i.bytes : Int)) := by rw [hz2]; omega
  have ha : ∀ W, Sem.run Tryz.prog (asIntOf (.int .i64 (n : Nat))) W = .ok (.i64, (n : Int)) W := fun _ => rfl
  refine ⟨grownCap w n 0 41, Builtin.zeroCells (Value.agg #[.int .u64 0, .int .i64 0, .int .u64 0, .int .i64 0, .slice none 0 0]).cells n ++ Builtin.zeroCells (Value.agg #[.int .u64 0, .int .i64 0, .int .u64 0, .int .i64 0, .slice none 0 0]).cells (grownCap w n 0 41 - n), ?_, ?_, grownCap_ge _ _ _ _, grownCap_le_maxLen _ _ _ _ (by unfold maxLen; omega)⟩
  · simp [Builtin.append_, run_underlying und35, run_underlying Tryz.underlying3, sizeOf, typeInfo, zeroValue, hi, hz, hz1, asInt, ha, hw, hneg, hbig, hn0, h63', h48', Question.forced, run_firstCells_none, newRow, grownCap]
    intro h4
    omega
  · have := grownCap_ge w n 0 41
    rw [Array.size_append, size_zeroCells, size_zeroCells]
    simp [Value.cells]
    omega

/-- An append by its run. -/
theorem wpList_append_run {P : Program} {w : World} {ops : Array Oper} {rest : List Oper} {o : Oper} {a : Act} {Q : Exit → Act → World → Prop} (hgd : o.guard = none) (s x : Operand) (t u : TypeId)
    (ho : o.op = .call { callee := .builtin .append, args := #[s, x], argTypes := #[t, u] }) (v y v' : Value) (w' : World) (hs : a.eval s = v) (hx : a.eval x = y) (hrun : (Builtin.append_ #[t, u] o.type #[v, y]).run P w = .ok v' w')
    (h : wpList P ops Q rest (a.put o.dst v') w') : wpList P ops Q (o :: rest) a w := by
  refine wpList_plain hgd fun K hK => ?_
  unfold Oper.wp execOp
  simp only [ho, resolve, invoke, builtin, Sem.run_bind, Sem.run_pure, Result.andThen_ok, List.map_toArray, List.map_cons, List.map_nil, hs, hx, hrun]
  exact hK _ _ h
set_option maxRecDepth 10000 in
set_option maxHeartbeats 1000000 in
theorem grow_any (w : World) (n : Nat) (hn : n ≤ 100000) : Calls Tryz.prog 168 #[.slice none 0 0, .int .i64 (n : Nat)] w fun e w' => ∃ v, e = .returned v ∧ w'.ownsRow w.heap.size 41 5 v 0 [] ∧ Below w.heap.size w w' := by
  by_cases h0 : n = 0
  · subst h0
    go_enter Tryz.func168, Tryz.ntmps168
    go_wp2
    go_ret
    exact ⟨_, rfl, World.ownsRow_nil _ _ _ _, Below.refl _ _⟩
  · have h0I : (0 : Int) < (n : Int) := by omega
    have hneg : ¬ ((n : Int) < 0) := by omega
    obtain ⟨cap, cur, hrun, hcs, hnc, hcm⟩ := run_append_zeros n (by omega) hn 42 w
    have HE : Hid ((w.drew.alloc (.cells cur 41)).ownsRow w.heap.size 41 5 (.slice (some ⟨w.heap.size, 0, none⟩) 0 cap) 0 [] ∧ Below w.heap.size w (w.drew.alloc (.cells cur 41))) :=
      ⟨World.ownsRow_made w.drew cur cap (Nat.le_refl _) hcm hcs, (Below.refl _ w).drew.alloc (Nat.le_refl _) _⟩
    clear hcs
    go_enter Tryz.func168, Tryz.ntmps168
    go_wp2_with (at_builtin; refine wpList_append_run rfl _ _ 42 3 rfl _ _ _ _ rfl rfl hrun ?_)
    go_ret
    exact ⟨_, rfl, HE.out⟩

/-- Any labels behind a row of one's own. -/
theorem wpList_append_XR {w : World} {ops : Array Oper} {rest : List Oper} {o : Oper} {a : Act} {Q : Exit → Act → World → Prop} (hgd : o.guard = none) (s x : Operand)
    (ho : o.op = .call { callee := .builtin .append, args := #[s, x], argTypes := #[42, 42] }) (base : Nat)
    (v : Value) (n : Nat) (xs : List Sx) (hs : a.eval s = v) (hown : w.ownsRow base 41 5 v n (flat xs))
    (bo : Option Addr) (m c : Nat) (ms : List Sx) (hx : a.eval x = .slice bo m c) (hu : XR w bo m ms) (hz : bo = none → m = 0 ∧ c = 0)
    (hnm : n + m ≤ 1000000) (hbase : base ≤ w.heap.size)
    (h : ∀ v' w', w'.ownsRow base 41 5 v' (n + m) (flat (xs ++ ms)) → w.grownBy w' v.ownBlock → wpList Tryz.prog ops Q rest (a.put o.dst v') w') :
    wpList Tryz.prog ops Q (o :: rest) a w := by
  obtain ⟨i0, hi0, hz0, hz1, hz2⟩ := info_parts infoE29
  cases bo with
  | none =>
    obtain ⟨rfl, rfl⟩ := hz rfl
    obtain rfl : ms = [] := List.length_eq_zero_iff.1 hu.1
    refine wpList_append_own_none hgd s x 42 ho base 41 i0 5 und35 hi0 v n (flat xs) hs hown hx ?_
    exact h v w (by simpa using hown) ⟨rfl, rfl, rfl, Nat.le_refl _, fun _ _ _ => rfl⟩
  | some ad =>
    refine wpList_append_own_at _ hgd s x 42 ho base 41 i0 (.agg #[.int .u64 0, .int .i64 0, .int .u64 0, .int .i64 0, .slice none 0 0]) 5 56 und35 hi0 hz0 hz1 hz2 rfl (by decide) v n (flat xs) hs hown ad m c (flat ms) hx (by rw [flat_len, hu.1]) hu.cells (fun u hu' => flat_one hu') (by unfold maxLen; omega) (by omega) hbase (fun v' w' a b _ _ => h v' w' (by rw [flat_app]; exact a) b)

set_option maxRecDepth 10000 in
set_option maxHeartbeats 2000000 in
theorem concat_any (w : World) (B : Nat) (ao : Option Addr) (n cap : Nat) (ls : List Sx) (hA : XR w ao n ls) (hz : ao = none → n = 0 ∧ cap = 0) (bo : Option Addr) (m cbp : Nat) (ms : List Sx) (hM : XR w bo m ms) (hzm : bo = none → m = 0 ∧ cbp = 0) (hn : n + m ≤ 100000)
    (h0 : w.cell? ⟨B, 0, none⟩ = some (.slice ao n cap)) (h1 : w.cell? ⟨B, 1, none⟩ = some (.slice bo m cbp)) :
    Calls Tryz.prog 141 #[.slice (some ⟨B, 0, none⟩) 2 2] w fun e w' => ∃ v, e = .returned v ∧ w'.ownsRow w.heap.size 41 5 v (n + m) (flat (ls ++ ms)) ∧ Below w.heap.size w w' := by
  have hgr := fun W => grow_any W (n + m) (by omega)
  have hneg : ¬ ((n : Int) < 0) := by omega
  have hneg2 : ¬ ((n : Int) + (m : Int) < 0) := by omega
  have hcast : ((n + m : Nat) : Int) = (n : Int) + (m : Int) := by omega
  rw [hcast] at hgr
  clear hcast
  have HA : Hid (XR w ao n ls) := hA
  have HM : Hid (XR w bo m ms) := hM
  clear hA hM
  go_enter Tryz.func141, Tryz.ntmps141
  go_wp2
  refine wp_loop_rounds 3 ?_
  rw [rounds_succ]
  go_wp2
  rw [rounds_succ]
  go_wp2
  rw [rounds_succ]
  go_wp2_with fail
  refine (hgr _).mono ?_
  rintro e w1 ⟨v, rfl, hown, hb1⟩
  have c0 := (hb1.cell (World.block_lt_of_cell? w _ h0)).trans h0
  have c1 := (hb1.cell (World.block_lt_of_cell? w _ h1)).trans h1
  have hA1 := HA.out.up hb1
  have hs1 := hb1.size
  clear hgr
  go_wp2
  refine wp_loop_rounds 3 ?_
  rw [rounds_succ]
  go_wp2_with (at_builtin; refine wpList_append_XR rfl _ _ rfl w.heap.size _ 0 [] rfl ?d1 ao n cap ls rfl ?d2 hz ?d3 ?d4 ?_)
  case d1 => exact hown
  case d2 => exact hA1
  case d3 => omega
  case d4 => exact hs1
  intro v2 w2 hown2 hg2
  have hne : ∀ k, v.ownBlock = some k → w.heap.size ≤ k := fun k hk => (hown.lt k hk).1
  have hb2 : Below w.heap.size w w2 := bl_grown hb1 hs1 hg2 hne
  have d0 := (hb2.cell (World.block_lt_of_cell? w _ h0)).trans h0
  have d1 := (hb2.cell (World.block_lt_of_cell? w _ h1)).trans h1
  have hM2 := HM.out.up hb2
  have hs2 := hb2.size
  clear hown hg2 hne hA1 c0 c1 hb1 hs1
  go_wp2
  rw [rounds_succ]
  go_wp2_with (at_builtin; refine wpList_append_XR rfl _ _ rfl w.heap.size _ n ls rfl ?d1 bo m cbp ms rfl ?d2 hzm ?d3 ?d4 ?_)
  case d1 => exact hown2
  case d2 => exact hM2
  case d3 => omega
  case d4 => exact hs2
  intro v3 w3 hown3 hg3
  have hne : ∀ k, v2.ownBlock = some k → w.heap.size ≤ k := fun k hk => (hown2.lt k hk).1
  have hb3 : Below w.heap.size w w3 := bl_grown hb2 hs2 hg3 hne
  have HE : Hid (w3.ownsRow w.heap.size 41 5 v3 (n + m) (flat (ls ++ ms)) ∧ Below w.heap.size w w3) := ⟨hown3, hb3⟩
  clear hown2 hown3 hg3 hne hM2 d0 d1 hb2 hs2 hb3
  go_wp2
  rw [rounds_succ]
  go_wp2
  go_ret
  exact ⟨v3, rfl, HE.out⟩
end Go.Proofs.YtlaihgdfedalmaaGreat.T
