/-
  The wheel's map of timers: what each operation on it answers, and what it holds behind it, in plain data.
-/
import Derived.Test.YtofhkfbibdkjgaaWLeaf
import Derived.Maps.OwnSet
namespace Go.Proofs.Ytofhkfbibdkjgaa
open Go.RowKit
open Go.Maps (Keyed has size Tidy IsMap)
set_option linter.unusedVariables false

structure Tm where
  due : Nat
  armed : Nat
  place : Nat

def Tm.val (t : Tm) : Value := .agg #[.int .u64 (t.due : Nat), .int .u64 (t.armed : Nat), .int .i64 (t.place : Nat)]
def tmD (d a p : Int) : DataW Unit := .agg [.lit (.int .u64 d), .lit (.int .u64 a), .lit (.int .i64 p)]
def Tm.dat (t : Tm) : DataW Unit := tmD t.due t.armed t.place
def rdT (v : Value) : Option (DataW Unit × List MemPlace) :=
  match v with
  | .agg cs => match cs.toList with
    | [.int .u64 d, .int .u64 a, .int .i64 p] => some (tmD d a p, [])
    | _ => none
  | _ => none
theorem rdT_val (t : Tm) : rdT t.val = some (t.dat, []) := rfl
theorem rdT_inv {v : Value} {t : Tm} {ps : List MemPlace} (h : rdT v = some (t.dat, ps)) : v = t.val := by
  unfold rdT at h
  split at h
  · rename_i cs
    split at h
    · rename_i d a p hcs
      simp only [Option.some.injEq, Prod.mk.injEq] at h
      have h1 := h.1
      simp [tmD, Tm.dat] at h1
      obtain ⟨rfl, rfl, rfl⟩ := h1
      obtain ⟨l⟩ := cs
      simp at hcs
      subst hcs
      rfl
    · cases h
  · cases h

theorem und3 : Try.prog.underlying 3 = some (.int .i64) := by kernel_rfl
theorem und62 : Try.prog.underlying 56 = some (.map 3 62) := by kernel_rfl
theorem zero68 (w : World) : (zeroValue 62).run Try.prog w = .ok (Tm.val ⟨0, 0, 0⟩) w := by rfl
theorem keyed3 : Keyed Try.prog 3 := Maps.int_keyed und3

def In (i : Int) : Prop := -9223372036854775808 ≤ i ∧ i ≤ 9223372036854775807
theorem In.wf {i : Int} (h : In i) : (Lit.int .i64 i).wf = true := by
  unfold In at h
  simp [Lit.wf, IntKind.min, IntKind.max, IntKind.bits, IntKind.signed]
  omega
theorem keyOf3 {i : Int} (h : In i) : keyOf Try.prog 3 (.int .i64 i) = some (.int .i64 i) := Maps.keyOf_int_mk und3 h.wf

/-- Block b is a map of n timers: which they are. -/
def MapIs (w : World) (b n : Nat) (T : Int → Option Tm) : Prop :=
  ∃ D : DataW Unit, w.ownsMap Try.prog 3 rdT b n D ∧ size D = n ∧ ∀ i, In i → (has D (.int .i64 i) = (T i).isSome ∧ D.atKey (.int .i64 i) (Tm.dat ⟨0, 0, 0⟩) = ((T i).getD ⟨0, 0, 0⟩).dat)

def upd (T : Int → Option Tm) (i : Int) (o : Option Tm) : Int → Option Tm := fun j => if j = i then o else T j
theorem upd_same (T : Int → Option Tm) (i : Int) (o : Option Tm) : upd T i o i = o := by simp [upd]
theorem upd_other (T : Int → Option Tm) (i j : Int) (o : Option Tm) (h : j ≠ i) : upd T i o j = T j := by simp [upd, h]

theorem MapIs.lt {w : World} {b n : Nat} {T : Int → Option Tm} (h : MapIs w b n T) : b < w.heap.size := by
  obtain ⟨D, h, _⟩ := h; exact h.lt
theorem MapIs.of_block {w w' : World} {b n : Nat} {T : Int → Option Tm} (h : MapIs w b n T) (hb : w'.heap[b]? = w.heap[b]?) : MapIs w' b n T := by
  obtain ⟨D, ⟨es, clock, hb', r⟩, h2⟩ := h
  exact ⟨D, ⟨es, clock, by rw [hb]; exact hb', r⟩, h2⟩

theorem mapIs_made (w : World) : MapIs (w.alloc (.map #[] 0)) w.heap.size 0 (fun _ => none) :=
  ⟨.map [], World.ownsMap_made w Try.prog 3 rdT, rfl, fun i hi => ⟨rfl, rfl⟩⟩

theorem MapIs.look_ok {w : World} {b n : Nat} {T : Int → Option Tm} (h : MapIs w b n T) {i : Int} (hi : In i) :
    (Instr.lookup 56 (.map (some b)) (.int .i64 i) true).run Try.prog w = .ok (.tuple #[((T i).getD ⟨0, 0, 0⟩).val, .bool (T i).isSome]) w := by
  obtain ⟨D, ho, hs, hD⟩ := h
  obtain ⟨v, ps, hrun, hv⟩ := ho.look_ok keyed3 und62 (zero68 w) (rdT_val ⟨0, 0, 0⟩) (keyOf3 hi)
  rw [(hD i hi).2] at hv
  rw [hrun, rdT_inv hv, (hD i hi).1]
theorem MapIs.look {w : World} {b n : Nat} {T : Int → Option Tm} (h : MapIs w b n T) {i : Int} (hi : In i) :
    (Instr.lookup 56 (.map (some b)) (.int .i64 i) false).run Try.prog w = .ok ((T i).getD ⟨0, 0, 0⟩).val w := by
  obtain ⟨D, ho, hs, hD⟩ := h
  obtain ⟨v, ps, hrun, hv⟩ := ho.lookup keyed3 und62 (zero68 w) (rdT_val ⟨0, 0, 0⟩) (keyOf3 hi)
  rw [(hD i hi).2] at hv
  rw [hrun, rdT_inv hv]
theorem MapIs.len {w : World} {b n : Nat} {T : Int → Option Tm} (h : MapIs w b n T) (ty : TypeId) :
    (Builtin.len_ #[56] ty #[.map (some b)]).run Try.prog w = .ok (.int .i64 (n : Nat)) w := by
  obtain ⟨D, ho, hs, hD⟩ := h
  rw [ho.len und62 ty, hs]
def cntUp (T : Int → Option Tm) (i : Int) (n : Nat) : Nat := if (T i).isSome then n else n + 1
def cntDown (T : Int → Option Tm) (i : Int) (n : Nat) : Nat := if (T i).isSome then n - 1 else n
theorem MapIs.store {w : World} {b n : Nat} {T : Int → Option Tm} (h : MapIs w b n T) (hn : n < maxLen) {i : Int} (hi : In i) (t : Tm) :
    ∃ w', (Instr.mapUpdate 56 (.map (some b)) (.int .i64 i) t.val).run Try.prog w = .ok () w' ∧ MapIs w' b (cntUp T i n) (upd T i (some t)) ∧ w.mapTurned w' b := by
  obtain ⟨D, ho, hs, hD⟩ := h
  have hk : WideAt.IsKeyLit (.int .i64 i) := by trivial
  obtain ⟨w', hrun, ho', hturn⟩ := ho.store keyed3 und62 hn (keyOf3 hi) (rdT_val t)
  have hsz : size (D.put (.int .i64 i) t.dat) = cntUp T i n := by
    unfold cntUp
    rw [Maps.size_put (ho.tidy keyed3), (hD i hi).1, hs]
  refine ⟨w', hrun, ⟨D.put (.int .i64 i) t.dat, ?_, hsz, ?_⟩, hturn⟩
  · rw [← hsz]
    obtain ⟨es, clock, a1, a2, a3, a4⟩ := ho'
    refine ⟨es, clock, a1, a2, ?_, a4⟩
    rw [a4]
    simp [size, length_sorted]
  · intro j hj
    by_cases e : j = i
    · subst e
      rw [upd_same, Maps.has_put_same ho.isMap hk, Maps.atKey_put_same ho.isMap hk]
      exact ⟨rfl, rfl⟩
    · have hne : (Lit.int .i64 j) ≠ .int .i64 i := by simpa using e
      rw [upd_other _ _ _ _ e, Maps.has_put_other hne, Maps.atKey_put_other hne]
      exact hD j hj
theorem MapIs.drop {w : World} {b n : Nat} {T : Int → Option Tm} (h : MapIs w b n T) {i : Int} (hi : In i) (ty : TypeId) :
    ∃ w', (Builtin.delete_ #[56, 3] ty #[.map (some b), .int .i64 i]).run Try.prog w = .ok (.tuple #[]) w' ∧ MapIs w' b (cntDown T i n) (upd T i none) ∧ w.mapTurned w' b := by
  obtain ⟨D, ho, hs, hD⟩ := h
  obtain ⟨w', hrun, ho', hturn⟩ := ho.drop keyed3 und62 (keyOf3 hi) ty
  have hsz : size (D.del (.int .i64 i)) = cntDown T i n := by
    unfold cntDown
    have := Maps.size_del (k := .int .i64 i) (ho.tidy keyed3)
    rw [(hD i hi).1, hs] at this
    split at this <;> simp_all
    omega
  refine ⟨w', hrun, ⟨D.del (.int .i64 i), ?_, hsz, ?_⟩, hturn⟩
  · rw [← hsz]
    obtain ⟨es, clock, a1, a2, a3, a4⟩ := ho'
    refine ⟨es, clock, a1, a2, ?_, a4⟩
    rw [a4]
    simp [size, length_sorted]
  · intro j hj
    by_cases e : j = i
    · subst e
      rw [upd_same, Maps.has_del_same, Maps.atKey_del_same]
      exact ⟨rfl, rfl⟩
    · have hne : (Lit.int .i64 j) ≠ .int .i64 i := by simpa using e
      rw [upd_other _ _ _ _ e, Maps.has_del_other hne, Maps.atKey_del_other hne]
      exact hD j hj

end Go.Proofs.Ytofhkfbibdkjgaa
