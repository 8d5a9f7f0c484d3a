/-
  The document's Decode: one more message.
-/
import Derived.Test.YtfemjbaadnjanaaFUndAll
namespace Go.Proofs.Ytfemjbaadnjanaa
open Go.RowKit
set_option linter.unusedVariables false

section
variable {P : Program} {ops : Array Oper} {Q : Exit → Act → World → Prop} {md : Region.Mode} {S : World → Prop} {last : Nat}

def wpAnyE (P : Program) (md : Region.Mode) (ops : Array Oper) (Q : Exit → Act → World → Prop) (S : World → Prop) (last : Nat) : Nat → Array Bool → Act → World → Prop
  | 0, listed, a, w => Region.ready md ops listed = [] ∧ Q .normal a w
  | fuel + 1, listed, a, w =>
    (Region.ready md ops listed = [] → Q .normal a w) ∧
    ∀ i ∈ Region.ready md ops listed, wpOp P ops Q i (fun a' w' => ((listed.setIfInBounds i true).getD last true = false → S w') ∧ wpAnyE P md ops Q S last fuel (listed.setIfInBounds i true) a' w') a w

theorem wpAny_of_E : ∀ (fuel : Nat) (listed : Array Bool) (a : Act) (w : World), wpAnyE P md ops Q S last fuel listed a w → wpAny P md ops Q fuel listed a w
  | 0, _, _, _, h => h
  | fuel + 1, _, _, _, h => ⟨h.1, fun i hi => wpOp_mono (fun a' w' h' => wpAny_of_E fuel _ a' w' h'.2) (h.2 i hi)⟩

/-- The last one waits for number i. -/
def waits (md : Region.Mode) (ops : Array Oper) (last i : Nat) : Bool := match ops[last]? with
  | none => false
  | some o => o.after.any (fun e => Region.binds md e && e.on == i)
theorem waits_spec {i : Nat} (h : waits md ops last i = true) : ∃ o, ops[last]? = some o ∧ ∃ e ∈ o.after, Region.binds md e = true ∧ e.on = i := by
  unfold waits at h
  cases ho : ops[last]? with
  | none => rw [ho] at h; cases h
  | some o =>
    rw [ho] at h
    simp only [Array.any_eq_true] at h
    obtain ⟨k, hk, h1⟩ := h
    rw [Bool.and_eq_true, beq_iff_eq] at h1
    exact ⟨o, rfl, o.after[k], Array.getElem_mem hk, h1.1, h1.2⟩

theorem wpAnyE_first {i : Nat} {oi : Oper} {v : Value} (hi : ops[i]? = some oi) (hsel : ∀ (j : Nat) (o : Oper) cs b, ops[j]? = some o → o.op ≠ .select cs b)
    (hQ : ∀ c a w, Q (.panic c) (a.put oi.dst v) w → Q (.panic c) a w) (hw : waits md ops last i = true) :
    ∀ (fuel : Nat) (listed : Array Bool) (a : Act) (w : World),
      (∀ j oj, ops[j]? = some oj → j ≠ i → listed.getD j true = false → (∀ e ∈ oj.after, Region.binds md e = true → e.on ≠ i) → oi.apart ops oj = true) →
      i ∈ Region.ready md ops listed → YieldsIf P ops S oi v a → listed.getD last true = false → S w →
      wpAnyE P md ops Q S last fuel (listed.setIfInBounds i true) (a.put oi.dst v) w → wpAnyE P md ops Q S last (fuel + 1) listed a w := by
  intro fuel
  induction fuel with
  | zero =>
    intro listed a w _ hr hy hlu hS H
    refine ⟨fun h => (by rw [h] at hr; cases hr), fun j hj => ?_⟩
    by_cases hji : j = i
    · subst hji; exact hy.wpOp hi hS ⟨fun _ => hS, H⟩
    · have := ready_mono hj hji
      rw [H.1] at this
      cases this
  | succ fuel ih =>
    intro listed a w hfree hr hy hlu hS H
    refine ⟨fun h => (by rw [h] at hr; cases hr), fun j hj => ?_⟩
    by_cases hji : j = i
    · subst hji; exact hy.wpOp hi hS ⟨fun _ => hS, H⟩
    · have h1 := H.2 j (ready_mono hj hji)
      obtain ⟨hjun, oj, hoj, hall⟩ := mem_ready.1 hj
      have hnot : ∀ e ∈ oj.after, Region.binds md e = true → e.on ≠ i := fun e he hb heq => by
        have h1 := hall e he hb
        have h0 := (mem_ready.1 hr).1
        rw [heq] at h1
        rcases Nat.lt_or_ge i listed.size with h' | h'
        · simp [h'] at h0 h1; rw [h0] at h1; cases h1
        · simp [Array.getElem?_eq_none h'] at h1
      have hjl : j ≠ last := fun e => by
        obtain ⟨o, ho, e', he', hb, hon⟩ := waits_spec hw
        subst e
        rw [hoj] at ho
        cases ho
        exact hnot e' he' hb hon
      have h2 := wpOp_putIf hoj (hfree j oj hoj hji hjun hnot) (fun cs b => hsel i oi cs b hi) (fun cs b => hsel j oj cs b hoj) hQ hy h1
      have hfree' : ∀ k ok, ops[k]? = some ok → k ≠ i → (listed.setIfInBounds j true).getD k true = false →
          (∀ e ∈ ok.after, Region.binds md e = true → e.on ≠ i) → oi.apart ops ok = true := fun k ok hk hki hun hno => by
        refine hfree k ok hk hki ?_ hno
        by_cases hjk : j = k
        · subst hjk; exact hjun
        · rw [getD_set_ne true hjk] at hun; exact hun
      have hil : i ≠ last := fun e => by
        obtain ⟨o, ho, e', he', hb, hon⟩ := waits_spec hw
        rw [← e, hi] at ho
        cases ho
        have h0 := (mem_ready.1 hr)
        obtain ⟨h01, o', ho', hall'⟩ := h0
        rw [hi] at ho'
        cases ho'
        have h1 := hall' e' he' hb
        rw [hon] at h1
        rcases Nat.lt_or_ge i listed.size with h' | h'
        · simp [h'] at h01 h1; rw [h01] at h1; cases h1
        · simp [Array.getElem?_eq_none h'] at h1
      have e1 : (listed.setIfInBounds j true).getD last true = false := by rw [getD_set_ne true hjl]; exact hlu
      have e2 : ((listed.setIfInBounds i true).setIfInBounds j true).getD last true = false := by rw [getD_set_ne true hjl, getD_set_ne true hil]; exact hlu
      refine wpOp_mono (fun a' w' h3 => ⟨fun _ => h3.2.1 e2, ih (listed.setIfInBounds j true) a' w' hfree' (ready_mono hr (Ne.symm hji)) h3.1 e1 (h3.2.1 e2) ?_⟩) h2
      rw [Array.setIfInBounds_comm _ _ hji]
      exact h3.2.2

/-- What yields in whatever world is taken first, also where the last one does not wait for it. -/
theorem wpAnyE_pure {i : Nat} {oi : Oper} {v : Value} (hi : ops[i]? = some oi) (hsel : ∀ (j : Nat) (o : Oper) cs b, ops[j]? = some o → o.op ≠ .select cs b)
    (hQ : ∀ c a w, Q (.panic c) (a.put oi.dst v) w → Q (.panic c) a w) (hil : i ≠ last) :
    ∀ (fuel : Nat) (listed : Array Bool) (a : Act) (w : World),
      (∀ j oj, ops[j]? = some oj → j ≠ i → listed.getD j true = false → (∀ e ∈ oj.after, Region.binds md e = true → e.on ≠ i) → oi.apart ops oj = true) →
      i ∈ Region.ready md ops listed → YieldsIf P ops (fun _ => True) oi v a → (listed.getD last true = false → S w) →
      wpAnyE P md ops Q S last fuel (listed.setIfInBounds i true) (a.put oi.dst v) w → wpAnyE P md ops Q S last (fuel + 1) listed a w := by
  intro fuel
  induction fuel with
  | zero =>
    intro listed a w _ hr hy hS H
    refine ⟨fun h => (by rw [h] at hr; cases hr), fun j hj => ?_⟩
    by_cases hji : j = i
    · subst hji; exact hy.wpOp hi trivial ⟨fun h => hS (by rwa [getD_set_ne true hil] at h), H⟩
    · have := ready_mono hj hji
      rw [H.1] at this
      cases this
  | succ fuel ih =>
    intro listed a w hfree hr hy hS H
    refine ⟨fun h => (by rw [h] at hr; cases hr), fun j hj => ?_⟩
    by_cases hji : j = i
    · subst hji; exact hy.wpOp hi trivial ⟨fun h => hS (by rwa [getD_set_ne true hil] at h), H⟩
    · have h1 := H.2 j (ready_mono hj hji)
      obtain ⟨hjun, oj, hoj, hall⟩ := mem_ready.1 hj
      have hnot : ∀ e ∈ oj.after, Region.binds md e = true → e.on ≠ i := fun e he hb heq => by
        have h1 := hall e he hb
        have h0 := (mem_ready.1 hr).1
        rw [heq] at h1
        rcases Nat.lt_or_ge i listed.size with h' | h'
        · simp [h'] at h0 h1; rw [h0] at h1; cases h1
        · simp [Array.getElem?_eq_none h'] at h1
      have h2 := wpOp_putIf hoj (hfree j oj hoj hji hjun hnot) (fun cs b => hsel i oi cs b hi) (fun cs b => hsel j oj cs b hoj) hQ hy h1
      have hfree' : ∀ k ok, ops[k]? = some ok → k ≠ i → (listed.setIfInBounds j true).getD k true = false →
          (∀ e ∈ ok.after, Region.binds md e = true → e.on ≠ i) → oi.apart ops ok = true := fun k ok hk hki hun hno => by
        refine hfree k ok hk hki ?_ hno
        by_cases hjk : j = k
        · subst hjk; exact hjun
        · rw [getD_set_ne true hjk] at hun; exact hun
      have e2 : ((listed.setIfInBounds i true).setIfInBounds j true).getD last true = (listed.setIfInBounds j true).getD last true := by
        rw [Array.setIfInBounds_comm _ _ (Ne.symm hji), getD_set_ne true hil]
      refine wpOp_mono (fun a' w' h3 => ⟨fun h => h3.2.1 (e2.trans h), ih (listed.setIfInBounds j true) a' w' hfree' (ready_mono hr (Ne.symm hji)) h3.1 (fun h => h3.2.1 (e2.trans h)) ?_⟩) h2
      rw [Array.setIfInBounds_comm _ _ hji]
      exact h3.2.2
end

theorem beginE {P : Program} {l : List Oper} {Q : Exit → Act → World → Prop} {id : Nat} {a : Act} {w : World} (S : World → Prop) (last : Nat) (hm : P.follows .mixedOrders = true) (hS : S w.drew)
    (h : S w.drew → wpAnyE P .any l.toArray Q S last l.length (Array.replicate l.length false) a w.drew) : (Code.region id l.toArray true).wp P Q a w := by
  refine wp_region_any hm (wpAny_of_E (S := S) (last := last) _ _ _ _ ?_)
  have := h hS
  simpa using this
theorem takeE {P : Program} {md : Region.Mode} {l : List Oper} {Q : Exit → Act → World → Prop} {S : World → Prop} {last : Nat} (i : Nat) {oi : Oper} {v : Value} {fuel : Nat} {listed : Array Bool} {a : Act} {w : World} (hi : l[i]? = some oi)
    (hs : Region.noSelect l.toArray = true) (hf : Region.free md l.toArray listed i = true) (hr : (Region.ready md l.toArray listed).contains i = true) (hw : waits md l.toArray last i = true) (hlu : listed.getD last true = false)
    (hQ : ∀ c a w, Q (.panic c) (a.put oi.dst v) w → Q (.panic c) a w) (hy : YieldsIf P l.toArray S oi v a) (hS : S w)
    (h : wpAnyE P md l.toArray Q S last fuel (listed.setIfInBounds i true) (a.put oi.dst v) w) : wpAnyE P md l.toArray Q S last (fuel + 1) listed a w := by
  have hi' : l.toArray[i]? = some oi := by simpa using hi
  exact wpAnyE_first hi' (Region.noSelect_spec hs) hQ hw fuel listed a w (Region.free_spec hi' hf) (by simpa using hr) hy hlu hS h
theorem pureE {P : Program} {md : Region.Mode} {l : List Oper} {Q : Exit → Act → World → Prop} {S : World → Prop} {last : Nat} (i : Nat) {oi : Oper} {v : Value} {fuel : Nat} {listed : Array Bool} {a : Act} {w : World} (hi : l[i]? = some oi)
    (hs : Region.noSelect l.toArray = true) (hf : Region.free md l.toArray listed i = true) (hr : (Region.ready md l.toArray listed).contains i = true) (hil : (i != last) = true)
    (hQ : ∀ c a w, Q (.panic c) (a.put oi.dst v) w → Q (.panic c) a w) (hy : YieldsIf P l.toArray (fun _ => True) oi v a) (hS : S w)
    (h : wpAnyE P md l.toArray Q S last fuel (listed.setIfInBounds i true) (a.put oi.dst v) w) : wpAnyE P md l.toArray Q S last (fuel + 1) listed a w := by
  have hi' : l.toArray[i]? = some oi := by simpa using hi
  exact wpAnyE_pure hi' (Region.noSelect_spec hs) hQ (by simpa using hil) fuel listed a w (Region.free_spec hi' hf) (by simpa using hr) hy (fun _ => hS) h
theorem upE {P : Program} {md : Region.Mode} {l : List Oper} {Q : Exit → Act → World → Prop} {S : World → Prop} {last : Nat} (i : Nat) {o : Oper} {fuel : Nat} {listed : Array Bool} {a : Act} {w : World} (hi : l[i]? = some o) (hr : Region.ready md l.toArray listed = [i])
    (h : ∀ K' : Act → World → Prop, Shut (∀ a w, S w → (S w → wpAnyE P md l.toArray Q S last fuel (listed.setIfInBounds i true) a w) → K' a w) → if Region.wanted o (yielded l.toArray a.tmps) = true then Oper.wp P o a w K' Q else K' (a.put o.dst undef) w) :
    wpAnyE P md l.toArray Q S last (fuel + 1) listed a w := by
  refine ⟨fun h0 => absurd (hr ▸ h0) (by simp), fun j hj => ?_⟩
  rw [hr, List.mem_singleton] at hj
  subst hj
  have hi' : l.toArray[j]? = some o := by simpa using hi
  exact wpOp_step hi' (fun K' hK => h K' (fun a w hS hW => hK a w ⟨fun _ => hS, hW hS⟩))
theorem lastE {P : Program} {md : Region.Mode} {l : List Oper} {Q : Exit → Act → World → Prop} {S : World → Prop} {last : Nat} (i : Nat) {o : Oper} {fuel : Nat} {listed : Array Bool} {a : Act} {w : World} (hi : l[i]? = some o) (hr : Region.ready md l.toArray listed = [i]) (hil : (i == last) = true)
    (h : ∀ K' : Act → World → Prop, Shut (∀ a w, wpAnyE P md l.toArray Q S last fuel (listed.setIfInBounds i true) a w → K' a w) → if Region.wanted o (yielded l.toArray a.tmps) = true then Oper.wp P o a w K' Q else K' (a.put o.dst undef) w) :
    wpAnyE P md l.toArray Q S last (fuel + 1) listed a w := by
  refine ⟨fun h0 => absurd (hr ▸ h0) (by simp), fun j hj => ?_⟩
  rw [hr, List.mem_singleton] at hj
  subst hj
  have hi' : l.toArray[j]? = some o := by simpa using hi
  have hl : j = last := by simpa using hil
  exact wpOp_step hi' (fun K' hK => h K' (fun a w hW => hK a w ⟨fun hn => absurd hn (by
    subst hl
    rw [Array.getD_eq_getD_getElem?, Array.getElem?_setIfInBounds]
    rw [if_pos rfl]
    by_cases hlt : j < listed.size
    · rw [if_pos hlt]; simp
    · rw [if_neg hlt]; simp), hW⟩))
theorem doneE {P : Program} {md : Region.Mode} {l : List Oper} {Q : Exit → Act → World → Prop} {S : World → Prop} {last : Nat} {listed : Array Bool} {a : Act} {w : World} (hr : Region.ready md l.toArray listed = []) (h : Q .normal a w) :
    ∀ fuel, wpAnyE P md l.toArray Q S last fuel listed a w
  | 0 => ⟨hr, h⟩
  | _ + 1 => ⟨fun _ => h, by rw [hr]; simp⟩
end Go.Proofs.Ytfemjbaadnjanaa
namespace Go.Proofs.Ytfemjbaadnjanaa
open Go.RowKit
set_option linter.unusedVariables false
set_option linter.unusedSimpArgs false

theorem rMsg_dead : (rMsg none).2 = none := rfl
/-- As Dq, without the frame's lists. -/
structure Dz (w : World) (Q : Nat → Prop) (m B : Nat) (vo : Option Addr) (yn vc : Nat) (ys : List UInt8) (W : World) (F : PF) (a : Fa) (st : St) : Prop where
  bl : Below w.heap.size w W
  rz : W.heap[w.heap.size]? = some (.cells zero15 30 (0, 0))
  fb : W.heap[B]? = some (.cells (fcells F a) 30 (0, 0))
  rq : ∃ o, Cd.RR W m vo yn vc o ∧ Cd.same ys o st
  row : Cd.Row W vo yn vc ys
  rm : w.heap.size < m
  mB : m < B
  lt : B < W.heap.size
  q : ∀ b, Q b → b < w.heap.size
  qa : ∀ c, vo = some c → 0 < yn → Q c.block
section
variable {w W W' : World} {Q : Nat → Prop} {m B : Nat} {vo : Option Addr} {yn vc : Nat} {ys : List UInt8} {F : PF} {a : Fa} {st st' : St}
theorem Dq.dz (h : Dq w Q m B vo yn vc ys W F a st) : Dz w Q m B vo yn vc ys W F a st := ⟨h.bl, h.rz, h.fb, h.rq, h.row, h.rm, h.mB, h.lt, h.q, h.qa⟩
theorem Dz.dq (h : Dz w Q m B vo yn vc ys W F a st) (hf : FIn (fun b => Q b ∨ B < b) W F a) : Dq w Q m B vo yn vc ys W F a st := ⟨h.bl, h.rz, h.fb, hf, h.rq, h.row, h.rm, h.mB, h.lt, h.q, h.qa⟩
theorem Dz.call {o' : Option Nat} (h : Dz w Q m B vo yn vc ys W F a st) (hr : Cd.RR W' m vo yn vc o') (hs : Cd.same ys o' st') (g : W.grownBy W' (some m)) : Dz w Q m B vo yn vc ys W' F a st' := by
  obtain ⟨o, hrr, _⟩ := h.rq
  have h1 := h.rm
  have h2 := h.mB
  have h3 := h.lt
  have h4 := g.size
  have h5 := h.bl.size
  refine ⟨?_, ?_, ?_, ⟨o', hr, hs⟩, Cd.row_RR h.row hrr g, h1, h2, by omega, h.q, h.qa⟩
  · exact ⟨g.os.trans h.bl.os, g.tape.trans h.bl.tape, g.output.trans h.bl.output, by omega, fun k hk => (g.block k (by omega) (by simp; omega)).trans (h.bl.block k hk)⟩
  · exact (g.block _ (by omega) (by simp; omega)).trans h.rz
  · exact (g.block _ (by omega) (by simp; omega)).trans h.fb
/-- Blocks behind B have turned, and new ones. -/
theorem Dz.behind {r : Option Nat} (h : Dz w Q m B vo yn vc ys W F a st) (g : W.grownBy W' r) (hr : ∀ b, r = some b → B < b) : Dz w Q m B vo yn vc ys W' F a st := by
  obtain ⟨o, hrr, hs⟩ := h.rq
  have h1 := h.rm
  have h2 := h.mB
  have h3 := h.lt
  have h4 := g.size
  have h5 := h.bl.size
  have hne : ∀ k, k ≤ B → some k ≠ r := fun k hk e => by have := hr k e.symm; omega
  refine ⟨?_, ?_, ?_, ⟨o, ?_, hs⟩, ?_, h1, h2, by omega, h.q, h.qa⟩
  · exact ⟨g.os.trans h.bl.os, g.tape.trans h.bl.tape, g.output.trans h.bl.output, by omega, fun k hk => (g.block k (by omega) (hne k (by omega))).trans (h.bl.block k hk)⟩
  · exact (g.block _ (by omega) (hne _ (by omega))).trans h.rz
  · exact (g.block _ (by omega) (hne _ (by omega))).trans h.fb
  · unfold Cd.RR at *
    rw [g.block m (by omega) (hne _ (by omega))]
    exact hrr
  · obtain ⟨r1, r2, r3, r4, r5⟩ := h.row
    refine ⟨r1, r2, r3, r4, fun c hc i hi => ?_⟩
    have hq := h.q _ (h.qa c hc (by omega))
    refine g.cell (r5 c hc i hi) (fun e => ?_)
    have h6 : (c.add i).block = c.block := by unfold Addr.add; split <;> rfl
    rw [h6] at e
    exact hne _ (by omega) e
theorem Dz.up (h : Dz w Q m B vo yn vc ys W F a st) (u : Below W.heap.size W W') : Dz w Q m B vo yn vc ys W' F a st := h.behind (Cd.grown_of_below u none) (fun b e => by cases e)
theorem Dz.store {j : Nat} {v : Value} {F' : PF} {a' : Fa} (h : Dz w Q m B vo yn vc ys W F a st) (he : fcells F' a' = (fcells F a).setIfInBounds j v) : Dz w Q m B vo yn vc ys (W.setCell ⟨B, j, none⟩ v) F' a' st := by
  obtain ⟨o, hrr, hs⟩ := h.rq
  have h1 := h.rm
  have h2 := h.mB
  have h3 := h.lt
  have h5 := h.bl.size
  have g : W.grownBy (W.setCell ⟨B, j, none⟩ v) (some B) := Cd.set_grown _
  have hsz : (W.setCell ⟨B, j, none⟩ v).heap.size = W.heap.size := by simp [World.setCell]
  refine ⟨?_, ?_, ?_, ⟨o, ?_, hs⟩, ?_, h1, h2, by omega, h.q, h.qa⟩
  · exact ⟨h.bl.os, h.bl.tape, h.bl.output, by omega, fun k hk => (g.block k (by omega) (by simp; omega)).trans (h.bl.block k hk)⟩
  · exact (g.block _ (by omega) (by simp; omega)).trans h.rz
  · rw [heap_setCell_same W B j _ 30 _ h.fb, he]
  · unfold Cd.RR at *
    rw [Below.heap_setCell _ _ _ _ (by show m ≠ B; omega)]
    exact hrr
  · obtain ⟨r1, r2, r3, r4, r5⟩ := h.row
    refine ⟨r1, r2, r3, r4, fun c hc i hi => ?_⟩
    have hq := h.q _ (h.qa c hc (by omega))
    refine g.cell (r5 c hc i hi) (fun e => ?_)
    have h6 : (c.add i).block = c.block := by unfold Addr.add; split <;> rfl
    rw [h6] at e
    simp at e
    omega
theorem Dz.c11 (h : Dz w Q m B vo yn vc ys W F a st) : W.cell? ⟨B, 11, none⟩ = some (.slice a.mo F.ms.length a.mc) := by rw [cell_of_row W B 11 _ 30 (0, 0) h.fb]; rfl
theorem Dz.f11 (h : Dz w Q m B vo yn vc ys W F a st) : W.frozen? ⟨B, 11, none⟩ = false := frozen_of_row W B 11 _ 30 h.fb

/-- A row behind B, kept. -/
theorem rowq_set {X D : Type} {In : (Nat → Prop) → World → X → D → Prop} {cells : List X → List Value} {e s : Nat} {v u : Value} {xs : List X} {ds : List D} {j : Nat} (h : RowQ Q In cells e s (B + 1) W v xs ds) (hk : ∀ {p : Nat → Prop} {w w' : World} {x : X} {d : D}, In p w x d → Kp p w w' → In p w' x d) (hQ : ∀ b, Q b → b < B) : RowQ Q In cells e s (B + 1) (W.setCell ⟨B, j, none⟩ u) v xs ds :=
  h.keepOld (r := B) (fun h k => hk h k) (Cd.set_grown _) (by omega) (fun hq => by have := hQ B hq; omega)

/-- One more message is read, and put behind the others. -/
theorem msg_step (F0 : PF) {mo : Option Addr} {mc k : Nat} {xs : List (Option Addr × Nat × Nat)} {ds : List (List UInt8)}
    (h : Dz w Q m B vo yn vc ys W { F0 with ms := ds } ⟨none, 0, mo, mc, none, 0⟩ st) (hF : F0.st = [] ∧ F0.it = [])
    (hrow : RowQ Q RmX cellM 33 1 (B + 1) W (.slice mo k mc) xs ds) (hx : xs.length = k) (hk : k < 4096) (hn : yn ≤ 1048576) :
    Calls Try.prog 43 #[.pointer (some ⟨m, 0, none⟩), .int .i64 1048576] W fun e w1 => ∃ po pl pc mo' mc' w3, e = .returned (.slice po pl pc) ∧
      w1.cell? ⟨B, 11, none⟩ = some (.slice mo k mc) ∧ (w1.alloc (.cells #[.slice po pl pc] 33)).cell? ⟨B, 11, none⟩ = some (.slice mo k mc) ∧
      (Builtin.append_ #[27, 27] 27 #[.slice mo k mc, .slice (some ⟨w1.heap.size, 0, none⟩) 1 1]).run Try.prog (w1.alloc (.cells #[.slice po pl pc] 33)) = .ok (.slice mo' (k + 1) mc') w3 ∧
      w3.cell? ⟨B, 11, none⟩ = some (.slice mo k mc) ∧ w3.frozen? ⟨B, 11, none⟩ = false ∧
      Hid (∃ xs', Dz w Q m B vo yn vc ys (w3.setCell ⟨B, 11, none⟩ (.slice mo' (k + 1) mc')) { F0 with ms := ds ++ [(rMsg st).1] } ⟨none, 0, mo', mc', none, 0⟩ (rMsg st).2 ∧ RowQ Q RmX cellM 33 1 (B + 1) (w3.setCell ⟨B, 11, none⟩ (.slice mo' (k + 1) mc')) (.slice mo' (k + 1) mc') xs' (ds ++ [(rMsg st).1]) ∧ xs'.length = k + 1) := by
  obtain ⟨i0, hi0, hz0, hz1, hz2⟩ := info_parts infoM33
  obtain ⟨o, hrr, hs⟩ := h.rq
  have hmB := h.mB
  have hrm := h.rm
  have hBl := h.lt
  have hdl : ds.length = k := by rw [hrow.2.1, hx]
  have hQB : ∀ b, Q b → b < B := fun b hb => by have := h.q b hb; omega
  have hbl := h.row.1
  refine (Cd.refBytes_at W m vo yn vc ys o st hs hrr h.row (by omega) 1048576 (by omega) (by omega)).mono ?_
  rintro e w1 ⟨po, pc, rfl, hpr, hof, o1, hs1, hr1, hg1⟩
  have hlen := rMsg_len hs
  have hpr' : Cd.Row w1 po (rMsg st).1.length pc (rMsg st).1 := hpr
  have hof' : Cd.Of vo po (rMsg st).1.length := hof
  have h1 : Dz w Q m B vo yn vc ys w1 { F0 with ms := ds } ⟨none, 0, mo, mc, none, 0⟩ (rMsg st).2 := h.call hr1 hs1 hg1
  have row1 : RowQ Q RmX cellM 33 1 (B + 1) w1 (.slice mo k mc) xs ds := hrow.keepOld (fun h k => RmX.keep h k) hg1 (by omega) (fun hq => by have := h.q m hq; omega)
  have u2 : Below w1.heap.size w1 (w1.alloc (.cells #[.slice po (rMsg st).1.length pc] 33)) := bl1 _ _
  have h2 := h1.up u2
  have row2 : RowQ Q RmX cellM 33 1 (B + 1) (w1.alloc (.cells #[.slice po (rMsg st).1.length pc] 33)) (.slice mo k mc) xs ds :=
    row1.keepOld (r := B) (fun h k => RmX.keep h k) (Cd.grown_of_below u2 _) (by omega) (fun hq => by have := hQB B hq; omega)
  have hown := row2.1
  rw [hx] at hown
  have hsz2 : (w1.alloc (.cells #[.slice po (rMsg st).1.length pc] 33)).heap.size = w1.heap.size + 1 := by simp
  have hB1 := h1.lt
  obtain ⟨v', w3, hrun, hown3, hg3, _, hat⟩ := run_append_own_at (P := Try.prog) (w1.alloc (.cells #[.slice po (rMsg st).1.length pc] 33)) (B + 1) 27 27 33 i0 (.slice none 0 0) 1 24 und27 hi0 hz0 hz1 hz2 rfl (by decide) (.slice mo k mc) k (cellM xs) hown ⟨w1.heap.size, 0, none⟩ 1 1 [.slice po (rMsg st).1.length pc] rfl (fun j u hj => by
      rw [Addr.add_lit, Nat.zero_add]
      exact cell_box w1 #[.slice po (rMsg st).1.length pc] 33 j u (by simpa using hj)) (by simp [Value.oneCell']) (by unfold maxLen; omega) (by omega) (by omega)
  have hvB : ∀ b, (Value.slice mo k mc).ownBlock = some b → B < b := fun b hb => by have := (row2.1.lt b hb).1; omega
  have h3 := h2.behind hg3 hvB
  have hc1 := h1.c11
  have hc2 := h2.c11
  have hc3 := h3.c11
  simp only [hdl] at hc1 hc2 hc3
  have hx3 : RmX (fun b => Q b ∨ w1.heap.size ≤ b) (w1.alloc (.cells #[.slice po (rMsg st).1.length pc] 33)) (po, (rMsg st).1.length, pc) (rMsg st).1 :=
    (rx_of (Q := Q) (n := yn) (hpr'.below u2 (Nat.le_refl _)) hof' (fun c hc h0 => h.qa c hc (by omega)) (by omega)).imp (fun b _ hb => .inl hb)
  have row3 : RowQ Q RmX cellM 33 1 (B + 1) w3 v' (xs ++ [(po, (rMsg st).1.length, pc)]) (ds ++ [(rMsg st).1]) :=
    row2.step (fun b hb => by have := hQB b hb; omega) (fun h k => RmX.keep h k) (fun h k => RmX.imp h k) (fun b hb => (row1.1.lt b hb).2) hx3 (by omega) (by rw [List.length_append, hx, cellM_snoc]; exact hown3) hg3 hat
  have row4 := rowq_set (u := v') (j := 11) row3 (fun h k => RmX.keep h k) hQB
  obtain ⟨mo', mc', hv', _⟩ := row4.mss (by rw [List.length_append, hdl]; simp; omega)
  rw [List.length_append, hdl] at hv'
  have hv'' : v' = .slice mo' (k + 1) mc' := hv'
  subst hv''
  refine ⟨po, _, pc, mo', mc', w3, rfl, hc1, hc2, hrun, hc3, h3.f11, _, ?_, row4, by rw [List.length_append, hx]; rfl⟩
  refine h3.store ?_
  unfold fcells
  simp only [List.length_append, hdl]
  rfl
end
end Go.Proofs.Ytfemjbaadnjanaa
