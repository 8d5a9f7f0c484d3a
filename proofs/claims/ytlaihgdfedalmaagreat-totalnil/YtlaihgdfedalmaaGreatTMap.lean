/-
  Package total's store: a map from labels to messages; what is asked of it, and what is put.
-/
import Derived.Test.YtlaihgdfedalmaaGreatQAll
import Derived.Test.YtlaihgdfedalmaaGreatEBase
import Derived.Maps.RangeWalk
namespace Go.Proofs.YtlaihgdfedalmaaGreat
open Go.RowKit Go.Sort
open Go.Maps (Keyed has size Tidy IsMap)
set_option linter.unusedVariables false

/-- How a message's slice reads: as itself. -/
def vE : Value → Option (DataW Value × List MemPlace)
  | .slice ao n cap => some (.held (.slice ao n cap), [])
  | _ => none
theorem und95 : Tryz.prog.underlying 95 = some (.map 39 37) := by kernel_rfl
theorem zero37 (w : World) : (zeroValue 37).run Tryz.prog w = .ok (.slice none 0 0) w := by kernel_rfl
abbrev Sv := Option Addr × Nat × Nat
def sv (s : Sv) : Value := .slice s.1 s.2.1 s.2.2
theorem vE_sv (s : Sv) : vE (sv s) = some (.held (sv s), []) := rfl
/-- Block b is a map from labels to slices. -/
def StoIs (w : World) (b n : Nat) (m : Lb → Option Sv) : Prop :=
  ∃ D : DataW Value, w.ownsMap Tryz.prog 39 vE b n D ∧ ∀ x k, OkL x → keyOf Tryz.prog 39 (lab x) = some k → has D k = (m x).isSome ∧ D.atKey k (.held (sv (none, 0, 0))) = .held (sv ((m x).getD (none, 0, 0)))
theorem StoIs.lt {w : World} {b n : Nat} {m : Lb → Option Sv} (h : StoIs w b n m) : b < w.heap.size := by
  obtain ⟨D, h, _⟩ := h; exact h.lt
theorem StoIs.of_block {w w' : World} {b n : Nat} {m : Lb → Option Sv} (h : StoIs w b n m) (hb : w'.heap[b]? = w.heap[b]?) : StoIs w' b n m := by
  obtain ⟨D, ⟨es, clock, hb', r⟩, h2⟩ := h
  exact ⟨D, ⟨es, clock, by rw [hb]; exact hb', r⟩, h2⟩
theorem sto_made (w : World) : StoIs (w.alloc (.map #[] 0)) w.heap.size 0 (fun _ => none) :=
  ⟨.map [], World.ownsMap_made w Tryz.prog 39 vE, fun x k hx hk => ⟨by simp [has], by simp [DataW.atKey]⟩⟩
theorem StoIs.look {w : World} {b n : Nat} {m : Lb → Option Sv} (h : StoIs w b n m) {x : Lb} (hx : OkL x) :
    (Instr.lookup 95 (.map (some b)) (lab x) true).run Tryz.prog w = .ok (.tuple #[sv ((m x).getD (none, 0, 0)), .bool (m x).isSome]) w := by
  obtain ⟨D, ho, hD⟩ := h
  obtain ⟨k, hk⟩ := Q.key26 hx
  obtain ⟨v, ps, hrun, hv⟩ := ho.look_ok Q.keyed26 und95 (zero37 w) (vE_sv (none, 0, 0)) hk
  obtain ⟨h1, h2⟩ := hD x k hx hk
  rw [hrun, h1]
  rw [h2] at hv
  cases v <;> simp [vE] at hv
  simp [hv]
theorem StoIs.store {w : World} {b n : Nat} {m : Lb → Option Sv} (h : StoIs w b n m) (hn : n < maxLen) {x : Lb} (hx : OkL x) (s : Sv) :
    ∃ w', (Instr.mapUpdate 95 (.map (some b)) (lab x) (sv s)).run Tryz.prog w = .ok () w' ∧ StoIs w' b (n + 1) (fun y => if y = x then some s else m y) ∧ w.grownBy w' (some b) := by
  obtain ⟨D, ho, hD⟩ := h
  obtain ⟨k, hk⟩ := Q.key26 hx
  obtain ⟨w', hrun, ho', hg⟩ := ho.update Q.keyed26 und95 hn hk (vE_sv s)
  refine ⟨w', hrun, ⟨_, ho', fun y ky hy hky => ?_⟩, hg⟩
  by_cases e : y = x
  · subst e
    obtain rfl : k = ky := by rw [hk] at hky; exact Option.some.inj hky
    rw [Maps.has_put_same ho.isMap (Q.keyed26.key hk), Maps.atKey_put_same ho.isMap (Q.keyed26.key hk)]
    simp
  · have hne : ky ≠ k := fun he => e (Q.lab_inj (Q.keyed26.inj (he ▸ hky) hk))
    rw [Maps.has_put_other hne, Maps.atKey_put_other hne]
    simp [e, hD y ky hy hky]
theorem StoIs.mono {w : World} {b n n' : Nat} {m : Lb → Option Sv} (h : StoIs w b n m) (hn : n ≤ n') : StoIs w b n' m := by
  obtain ⟨D, ho, hD⟩ := h
  exact ⟨D, ho.mono hn, hD⟩
theorem int_inv {d : Nat} {t : TypeId} {q : IntKind} {l : List Value} {r : List Lit} (hu : Tryz.prog.underlying t = some (.int q)) (h : Tryz.prog.keyLits (d + 1) t l = some r) : ∃ n, l = [.int q n] ∧ (Lit.int q n).wf = true := by
  unfold Program.keyLits at h
  rw [hu] at h
  rcases l with _ | ⟨a, _ | ⟨b, l⟩⟩
  · simp at h
  · cases a <;> simp at h
    rename_i q' n
    obtain ⟨⟨rfl, hw⟩, _⟩ := h
    exact ⟨n, rfl, hw⟩
  · cases a <;> simp at h
theorem wf_u64_inv {n : Int} (h : (Lit.int .u64 n).wf = true) : ∃ k : Nat, n = (k : Int) ∧ k < 18446744073709551616 := by
  have h1 : IntKind.min .u64 = 0 := by decide
  have h2 : IntKind.max .u64 = 18446744073709551615 := by decide
  simp only [Lit.wf, h1, h2, Bool.and_eq_true, decide_eq_true_eq] at h
  exact ⟨n.toNat, by omega, by omega⟩
theorem wf_i64_inv {n : Int} (h : (Lit.int .i64 n).wf = true) : In n := by
  have h1 : IntKind.min .i64 = -9223372036854775808 := by decide
  have h2 : IntKind.max .i64 = 9223372036854775807 := by decide
  simp only [Lit.wf, h1, h2, Bool.and_eq_true, decide_eq_true_eq] at h
  exact ⟨by omega, by omega⟩
set_option maxRecDepth 100000 in
theorem vid_inv {d : Nat} {l : List Value} {r : List Lit} (h : Tryz.prog.keyLits (d + 2) 33 l = some r) : ∃ (n : Nat) (p : Int), l = [.int .u64 (n : Nat), .int .i64 p] ∧ n < 18446744073709551616 ∧ In p := by
  unfold Program.keyLits at h
  rw [Tryz.underlying33] at h
  simp [cells24, cells22, cells3] at h
  obtain ⟨hl, h⟩ := h
  obtain ⟨a, b, rfl⟩ : ∃ a b, l = [a, b] := by
    match l, hl with
    | [a, b], _ => exact ⟨a, b, rfl⟩
  simp at h
  cases ha : Tryz.prog.keyLits (d + 1) 31 [a] with
  | none => rw [ha] at h; simp at h
  | some r1 =>
    cases hb : Tryz.prog.keyLits (d + 1) 3 [b] with
    | none => rw [ha, hb] at h; simp at h
    | some r2 =>
      obtain ⟨n, h1, h2⟩ := int_inv Tryz.underlying31 ha
      obtain ⟨p, h3, h4⟩ := int_inv Tryz.underlying3 hb
      obtain ⟨k, rfl, hk⟩ := wf_u64_inv h2
      simp at h1 h3
      exact ⟨k, p, by rw [h1, h3], hk, wf_i64_inv h4⟩
set_option maxRecDepth 100000 in
/-- Every key is a label's. -/
theorem key_inv {key : Value} {kl : Lit} (h : keyOf Tryz.prog 39 key = some kl) : ∃ x : { x : Lb // OkL x }, key = lab x.1 := by
  unfold keyOf at h
  rw [Tryz.underlying39] at h
  simp only [Q.kt26, Q.tsz] at h
  simp at h
  obtain ⟨hf, r, h, _⟩ := h
  have hl : key.cells.toList.length = 4 ∧ key = .agg key.cells := by
    cases key <;> simp [Value.formed, Tryz.underlying39, cells26, Value.cells] at hf ⊢
    exact hf
  rw [hl.2]
  obtain ⟨hl, _⟩ := hl
  generalize hL : key.cells.toList = l at *
  have hk : key.cells = l.toArray := by rw [← hL]
  rw [hk]
  unfold Program.keyLits at h
  rw [Tryz.underlying39] at h
  simp [cells26, cells24, cells22, cells3] at h
  obtain ⟨a, b, c, d, rfl⟩ : ∃ a b c d, l = [a, b, c, d] := by
    match l, hl with
    | [a, b, c, d], _ => exact ⟨a, b, c, d, rfl⟩
  simp at h
  cases ha : Tryz.prog.keyLits 260 33 [a, b] with
  | none => rw [ha] at h; simp at h
  | some r1 =>
    cases hb : Tryz.prog.keyLits 260 31 [c] with
    | none => rw [ha, hb] at h; simp at h
    | some r2 =>
      cases hc : Tryz.prog.keyLits 260 3 [d] with
      | none => rw [ha, hb, hc] at h; simp at h
      | some r3 =>
        obtain ⟨n, p, h1, h2, h3⟩ := vid_inv (d := 258) ha
        obtain ⟨s, h4, h5⟩ := int_inv (d := 259) Tryz.underlying31 hb
        obtain ⟨q, h6, h7⟩ := int_inv (d := 259) Tryz.underlying3 hc
        obtain ⟨k, rfl, hk⟩ := wf_u64_inv h5
        simp at h1 h4 h6
        refine ⟨⟨(n, p, k, q), h2, h3, hk, wf_i64_inv h7⟩, ?_⟩
        rw [h1.1, h1.2, h4, h6]
        rfl

/-- One more, if there is none of its label. -/
def putM (m : Lb → Option Sv) (x : Lb) (s : Sv) : Lb → Option Sv := fun y => if y = x ∧ (m x).isNone then some s else m y
set_option maxRecDepth 10000 in
theorem put_any (w : World) (b n : Nat) (m : Lb → Option Sv) (h : StoIs w b n m) (hn : n < maxLen) (x : Lb) (hx : OkL x) (s : Sv) :
    Calls Tryz.prog 59 #[.map (some b), ent x (sv s)] w fun e w' => e = .returned (.tuple #[]) ∧ StoIs w' b (n + 1) (putM m x s) ∧ w.grownBy w' (some b) := by
  have hS : StoIs (w.alloc (.cells #[.int .u64 (x.1 : Nat), .int .i64 x.2.1, .int .u64 (x.2.2.1 : Nat), .int .i64 x.2.2.2, sv s] 41)) b n m := h.of_block (Below.heap_alloc _ _ _ h.lt)
  have hlk := hS.look hx
  have hg0 : w.grownBy (w.alloc (.cells #[.int .u64 (x.1 : Nat), .int .i64 x.2.1, .int .u64 (x.2.2.1 : Nat), .int .i64 x.2.2.2, sv s] 41)) (some b) := World.grownBy_alloc w _ _
  cases hm : m x with
  | some u =>
    have hM : putM m x s = m := by funext y; unfold putM; simp [hm]
    rw [hM]
    rw [hm] at hlk
    have hfin := hS.mono (Nat.le_succ n)
    unfold lab sv at hlk
    unfold ent sv at *
    clear h hM hm hn hx hS
    go_enter Tryz.func59, Tryz.ntmps59
    go_wp2
    go_end0
    exact ⟨rfl, hfin, hg0⟩
  | none =>
    have hM : putM m x s = fun y => if y = x then some s else m y := by funext y; unfold putM; simp [hm]
    rw [hM]
    rw [hm] at hlk
    obtain ⟨w2, hrun, hS2, hg2⟩ := hS.store hn hx s
    have hg := hg0.trans hg2
    unfold lab sv at hlk hrun
    unfold ent sv at *
    clear h hM hm hn hx hS hg0 hg2
    go_enter Tryz.func59, Tryz.ntmps59
    go_wp2
    go_end0
    exact ⟨rfl, hS2, hg⟩
end Go.Proofs.YtlaihgdfedalmaaGreat
