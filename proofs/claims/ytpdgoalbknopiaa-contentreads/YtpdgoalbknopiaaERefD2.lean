/-
  The document's Decode of a summary's bytes.
-/
import Derived.Test.YtpdgoalbknopiaaERefS
import Derived.Deep.CutBlock
import Derived.Test.YtpdgoalbknopiaaERefA
import Derived.Test.YtpdgoalbknopiaaERefR
namespace Go.Proofs.Ytpdgoalbknopiaa
open Go.RowKit
set_option linter.unusedVariables false
set_option linter.unusedSimpArgs false

theorem info24 : (Try.prog.info? 24).map (·.size) = some 2 := by kernel_rfl
def goodS (D : DS × St) : Prop := D.2 = some [] ∧ rightS D.1.es D.1.ls (D.1.nx : Nat) D.1.hn (D.1.hp : Nat) = true
def AllPost (w w' : World) (DD : DS × St) (e : Ending) : Prop :=
  (goodS DD ∧ ∃ ca cc oa oc, e = .returned (.tuple #[.int .u8 2, .agg #[.int .u64 0, .int .i64 0, .int .u64 0, .int .i64 0, .slice none 0 0], sumv (.slice ca DD.1.es.length cc) (.slice oa DD.1.ls.length oc) (DD.1.nx : Nat) DD.1.hn (DD.1.hp : Nat)]) ∧ ER (fun _ => True) w' ca DD.1.es.length DD.1.es ∧ LR w' oa DD.1.ls.length DD.1.ls) ∨
  (¬ goodS DD ∧ e = .returned (.tuple #[.int .u8 0, .agg #[.int .u64 0, .int .i64 0, .int .u64 0, .int .i64 0, .slice none 0 0], .agg #[.slice none 0 0, .slice none 0 0, .int .i64 0, .int .u64 0, .int .i64 0]]))
theorem combN_nil {α : Type} (es : List α) (st : St) (h : st ≠ none) : combN es ([], st) = (es, st) := by
  cases st with
  | none => exact absurd rfl h
  | some zs => simp [combN]
theorem decN_dead {α : Type} (f : St → α × St) (hf : (f none).2 = none) : ∀ k, (decN f k none).2 = none
  | 0 => rfl
  | k + 1 => by unfold decN; rw [hf]
theorem combN_dead {α : Type} (es : List α) (r : List α × St) (h : r.2 = none) : combN es r = ([], none) := by unfold combN; rw [h]
theorem rInt_small (st : St) (m : Nat) : (Cd.rInt st (m : Int)).1 ≤ m := by
  cases h : (Cd.rInt st (m : Int)).2 with
  | some ys => have := (Cd.rInt_le st m ys h).2; omega
  | none =>
    unfold Cd.rInt at h ⊢
    split
    · simp
    · rename_i ys hy
      rw [hy] at h
      simp only at h
      split at h
      · rename_i hc
        rw [if_pos hc]
        simp
      · cases h
theorem encL_4 (x : Lb) : 4 ≤ (encL x).length := by
  unfold encL
  have h1 := Cd.enc_pos x.1
  have h2 := Cd.enc_pos x.2.2.1
  simp only [List.length_append, List.length_cons, List.length_nil]
  omega
theorem encE_5 (e : Lb × List UInt8) : 5 ≤ (encE e.1 e.2).length := by
  unfold encE
  have h1 := encL_4 e.1
  have h2 := Cd.enc_pos e.2.length
  simp only [List.length_append]
  omega
theorem flatMap_len {α : Type} (E : α → List UInt8) (k : Nat) (h : ∀ x, k ≤ (E x).length) : ∀ l : List α, k * l.length ≤ (l.flatMap E).length
  | [] => by simp
  | a :: r => by
    have h1 := flatMap_len E k h r
    have h2 := h a
    simp only [List.flatMap_cons, List.length_append, List.length_cons, Nat.mul_add]
    omega
/-- Of so many bytes not more parts are read. -/
theorem tail_few (es : List (Lb × List UInt8)) (ls : List Lb) (nx hn : Nat) (hp : Int) : 5 * es.length + 4 * ls.length ≤ (tailB es ls nx hn hp).length := by
  unfold tailB
  have h1 : 5 * es.length ≤ (encEs es).length := flatMap_len (fun e : Lb × List UInt8 => encE e.1 e.2) 5 encE_5 es
  have h2 : 4 * ls.length ≤ (encLs ls).length := flatMap_len encL 4 encL_4 ls
  simp only [List.length_append]
  omega
set_option maxRecDepth 10000 in
set_option maxHeartbeats 4000000 in
theorem refDec_all (w : World) (ao : Option Addr) (n cap : Nat) (x : UInt8) (t : List UInt8) (h : Cd.Row w ao n cap (x :: t)) (hn : n ≤ 3000) (h2 : x.toNat = 2) :
    Calls Try.prog 18 #[.slice ao n cap] w fun e w' => AllPost w w' (decSL (n : Int) (some t)) e ∧ Below w.heap.size w w' := by
  obtain ⟨G0, z3⟩ := bg_new w
  unfold Ze Zs at G0 z3
  have hnl : n = t.length + 1 := by have := h.1; simpa using this.symm
  have hlt0 := fun a ha => row_lt h a ha (by omega)
  obtain ⟨b, off, rfl, hc⟩ := h.open (by omega)
  have c0 := hc 0 (by omega)
  simp only [Nat.add_zero, List.getD_cons_zero] at c0
  rw [h2] at c0
  rw [show ((2 : Nat) : Int) = 2 from rfl] at c0
  have hn0 : (0 : Int) < (n : Int) := by omega
  have hnz : ((n : Int) == 0) = false := by rw [beq_eq_false_iff_ne]; omega
  have G4 := G0.below (bl1 (((w.alloc (.cells #[.int .u64 0, .int .i64 0, .int .u64 0, .int .i64 0, .slice none 0 0] 29)).alloc (.cells #[.slice none 0 0, .slice none 0 0, .int .i64 0, .int .u64 0, .int .i64 0] 38)).alloc (.cells #[.int .u64 0, .int .i64 0, .int .u64 0, .int .i64 0, .slice none 0 0] 29)) (.cells #[.slice (some ⟨b, off, none⟩) n cap, .int .i64 1] 72))
  have G5 := G4.below (bl1 ((((w.alloc (.cells #[.int .u64 0, .int .i64 0, .int .u64 0, .int .i64 0, .slice none 0 0] 29)).alloc (.cells #[.slice none 0 0, .slice none 0 0, .int .i64 0, .int .u64 0, .int .i64 0] 38)).alloc (.cells #[.int .u64 0, .int .i64 0, .int .u64 0, .int .i64 0, .slice none 0 0] 29)).alloc (.cells #[.slice (some ⟨b, off, none⟩) n cap, .int .i64 1] 72)) (.cells #[.slice none 0 0, .slice none 0 0, .int .i64 0, .int .u64 0, .int .i64 0] 38))
  have d0 := bl_cell G4.bl c0
  have d1 := bl_cell G5.bl c0
  have z4 : ((((w.alloc (.cells #[.int .u64 0, .int .i64 0, .int .u64 0, .int .i64 0, .slice none 0 0] 29)).alloc (.cells #[.slice none 0 0, .slice none 0 0, .int .i64 0, .int .u64 0, .int .i64 0] 38)).alloc (.cells #[.int .u64 0, .int .i64 0, .int .u64 0, .int .i64 0, .slice none 0 0] 29)).alloc (.cells #[.slice (some ⟨b, off, none⟩) n cap, .int .i64 1] 72)).heap.size = w.heap.size + 4 := by simp
  have hrr : Cd.RR ((((w.alloc (.cells #[.int .u64 0, .int .i64 0, .int .u64 0, .int .i64 0, .slice none 0 0] 29)).alloc (.cells #[.slice none 0 0, .slice none 0 0, .int .i64 0, .int .u64 0, .int .i64 0] 38)).alloc (.cells #[.int .u64 0, .int .i64 0, .int .u64 0, .int .i64 0, .slice none 0 0] 29)).alloc (.cells #[.slice (some ⟨b, off, none⟩) n cap, .int .i64 1] 72)) (w.heap.size + 3) (some ⟨b, off, none⟩) n cap (some 1) := by have := heap_alloc_new (((w.alloc (.cells #[.int .u64 0, .int .i64 0, .int .u64 0, .int .i64 0, .slice none 0 0] 29)).alloc (.cells #[.slice none 0 0, .slice none 0 0, .int .i64 0, .int .u64 0, .int .i64 0] 38)).alloc (.cells #[.int .u64 0, .int .i64 0, .int .u64 0, .int .i64 0, .slice none 0 0] 29)) (.cells #[.slice (some ⟨b, off, none⟩) n cap, .int .i64 1] 72); rw [z3] at this; exact this
  have q8 := heap_alloc_new ((((w.alloc (.cells #[.int .u64 0, .int .i64 0, .int .u64 0, .int .i64 0, .slice none 0 0] 29)).alloc (.cells #[.slice none 0 0, .slice none 0 0, .int .i64 0, .int .u64 0, .int .i64 0] 38)).alloc (.cells #[.int .u64 0, .int .i64 0, .int .u64 0, .int .i64 0, .slice none 0 0] 29)).alloc (.cells #[.slice (some ⟨b, off, none⟩) n cap, .int .i64 1] 72)) (.cells #[.slice none 0 0, .slice none 0 0, .int .i64 0, .int .u64 0, .int .i64 0] 38)
  rw [z4] at q8
  have dk : Dk w (some ⟨b, off, none⟩) n cap (x :: t) (((((w.alloc (.cells #[.int .u64 0, .int .i64 0, .int .u64 0, .int .i64 0, .slice none 0 0] 29)).alloc (.cells #[.slice none 0 0, .slice none 0 0, .int .i64 0, .int .u64 0, .int .i64 0] 38)).alloc (.cells #[.int .u64 0, .int .i64 0, .int .u64 0, .int .i64 0, .slice none 0 0] 29)).alloc (.cells #[.slice (some ⟨b, off, none⟩) n cap, .int .i64 1] 72)).alloc (.cells #[.slice none 0 0, .slice none 0 0, .int .i64 0, .int .u64 0, .int .i64 0] 38)) (.slice none 0 0) (.slice none 0 0) 0 0 0 (some t) :=
    ⟨G5, ⟨some 1, hrr.below (bl1 _ _), ⟨by simp, rfl⟩⟩, q8, h.below G5.bl (Nat.le_refl _), hlt0⟩
  have HXL : Hid ((x :: t).length = n ∧ x = 2) := ⟨by rw [hnl]; rfl, UInt8.toNat_inj.1 (by rw [h2]; rfl)⟩
  obtain ⟨q5, rr5, hs5⟩ := dk.rq
  have hi := Cd.refInt_step (((((w.alloc (.cells #[.int .u64 0, .int .i64 0, .int .u64 0, .int .i64 0, .slice none 0 0] 29)).alloc (.cells #[.slice none 0 0, .slice none 0 0, .int .i64 0, .int .u64 0, .int .i64 0] 38)).alloc (.cells #[.int .u64 0, .int .i64 0, .int .u64 0, .int .i64 0, .slice none 0 0] 29)).alloc (.cells #[.slice (some ⟨b, off, none⟩) n cap, .int .i64 1] 72)).alloc (.cells #[.slice none 0 0, .slice none 0 0, .int .i64 0, .int .u64 0, .int .i64 0] 38)) (w.heap.size + 3) (some ⟨b, off, none⟩) n cap (x :: t) q5 (some t) hs5 rr5 dk.row (by omega) (n : Int) (by omega) (by omega)
  have hN := rInt_small (some t) n
  have HDE : Hid (dEL (n : Int) (some t) = decN decE (Cd.rInt (some t) (n : Int)).1 (Cd.rInt (some t) (n : Int)).2) := rfl
  have HDS : Hid (decSL (n : Int) (some t) = (⟨(dEL n (some t)).1, (dLL n (dEL n (some t)).2).1, (Cd.rInt (dLL n (dEL n (some t)).2).2 n).1, (decV (Cd.rInt (dLL n (dEL n (some t)).2).2 n).2).1.1, (decV (Cd.rInt (dLL n (dEL n (some t)).2).2 n).2).1.2⟩, (decV (Cd.rInt (dLL n (dEL n (some t)).2).2 n).2).2)) := rfl
  generalize Cd.rInt (some t) (n : Int) = dv at *
  obtain ⟨N, s0⟩ := dv
  simp only at hi hN HDE
  obtain ⟨W5, hW5⟩ : ∃ W, Hid ((((((w.alloc (.cells #[.int .u64 0, .int .i64 0, .int .u64 0, .int .i64 0, .slice none 0 0] 29)).alloc (.cells #[.slice none 0 0, .slice none 0 0, .int .i64 0, .int .u64 0, .int .i64 0] 38)).alloc (.cells #[.int .u64 0, .int .i64 0, .int .u64 0, .int .i64 0, .slice none 0 0] 29)).alloc (.cells #[.slice (some ⟨b, off, none⟩) n cap, .int .i64 1] 72)).alloc (.cells #[.slice none 0 0, .slice none 0 0, .int .i64 0, .int .u64 0, .int .i64 0] 38)) = W) := ⟨_, rfl⟩
  rw [hW5.out] at dk hi
  have hWs : ((((w.alloc (.cells #[.int .u64 0, .int .i64 0, .int .u64 0, .int .i64 0, .slice none 0 0] 29)).alloc (.cells #[.slice none 0 0, .slice none 0 0, .int .i64 0, .int .u64 0, .int .i64 0] 38)).alloc (.cells #[.int .u64 0, .int .i64 0, .int .u64 0, .int .i64 0, .slice none 0 0] 29)).alloc (.cells #[.slice (some ⟨b, off, none⟩) n cap, .int .i64 1] 72)).heap.size = w.heap.size + 4 := z4
  clear G0 G4 G5 q8 hc c0 h h2 hrr hlt0 z4 q5 rr5 hs5 hnl
  go_enter Try.func18, Try.ntmps18
  go_wp2_with fail
  rw [hW5.out]
  refine hi.mono ?_
  rintro e w6 ⟨rfl, q6, hs6, rr6, g6⟩
  have dk6 := dk.call rr6 hs6 g6
  clear hi dk hW5 hs6 rr6 g6 d0 d1
  go_upto_block 0 with fail
  go_cut [10] from 57 to 75 (fun _ wx => ∃ (c : Value) (es : List (Lb × List UInt8)) (st : St), Hid (Dk w (some ⟨b, off, none⟩) n cap (x :: t) wx c (.slice none 0 0) 0 0 0 st ∧ CR (w.heap.size + 5) (some ⟨b, off, none⟩) wx c es ∧ st = (dEL n (some t)).2 ∧ (st ≠ none → es = (dEL n (some t)).1)))
  case first =>
    go_wp2_with fail
    go_loopw [10] (fun iv wr => ∃ (k : Nat) (c : Value) (es : List (Lb × List UInt8)) (st : St), k ≤ N ∧ iv = .int .i64 k ∧ es.length = k ∧ Dk w (some ⟨b, off, none⟩) n cap (x :: t) wr c (.slice none 0 0) 0 0 0 st ∧ CR (w.heap.size + 5) (some ⟨b, off, none⟩) wr c es ∧ decN decE N s0 = combN es (decN decE (N - k) st)) (fun iv _ => N - (intOf iv).toNat)
    case atStart => exact ⟨0, _, [], s0, by omega, rfl, rfl, dk6, CR.nil _ _ _, by rw [Nat.sub_zero]; exact (combN_start _ _ _).symm⟩
    case round =>
      clear dk6
      obtain ⟨k, c, es, st, hk, rfl, hek, dk, cr, hrel⟩ := hrel
      have HREL : Hid (decN decE N s0 = combN es (decN decE (N - k) st)) := hrel
      have HEK : Hid (es.length = k) := hek
      obtain ⟨qq, hrr, hsm⟩ := dk.rq
      obtain ⟨-, m1, -, -⟩ := hrr.cells
      clear hrel hek hrr
      by_cases hgo : k < N ∧ st ≠ none
      · obtain ⟨hlt, hne⟩ := hgo
        have hltI : (k : Int) < (N : Int) := by omega
        obtain ⟨zs, rfl⟩ : ∃ zs, st = some zs := by cases st with
          | none => exact absurd rfl hne
          | some zs => exact ⟨zs, rfl⟩
        obtain ⟨q, rfl, _, _⟩ := Cd.same_left hsm
        simp only [Cd.atOf] at m1
        have hqI : (0 : Int) ≤ (q : Int) := by omega
        have u0 : Below wr.heap.size wr wr.drew := (Below.refl _ _).drew
        have hc := ent_step (dk.below u0) (cr.bl u0) (by rw [HEK.out]; omega) (by omega)
        have HST2 : Hid (decN decE N s0 = match (decE (some zs)).2 with | none => ([], none) | some ys => combN (es ++ [(decE (some zs)).1]) (decN decE (N - (k + 1)) (some ys))) := by
          show _ = _
          rw [HREL.out, show N - k = (N - (k + 1)) + 1 by omega]
          cases hz : (decE (some zs)).2 with
          | none => exact combN_fail _ _ _ _ hz
          | some ys => exact combN_step _ _ _ _ ys hz
        have hS0 : wr.drew.cell? ⟨w.heap.size + 4, 0, none⟩ = some c := (dk.below u0).cell.1
        generalize decE (some zs) = de at *
        obtain ⟨⟨⟨xa, xb, xc, xd⟩, ms⟩, s2⟩ := de
        simp only [cells5] at hc HST2
        unfold ent at hc
        simp only at hc
        clear hsm cr dk hne u0
        go_wp2_with fail
        refine wp_region_noPanic ?_
        refine beginE (fun wx => wx.cell? ⟨w.heap.size + 4, 0, none⟩ = some c) 7 (by kernel_rfl) hS0 (fun hHeld => ?_)
        refine tqE 0 ?_
        refine tqE 1 ?_
        refine tqE 2 ?_
        refine upE 3 rfl (by kernel_rfl) (fun K hK => ?_)
        go_simp
        refine hc.mono ?_
        rintro e wa ⟨vo, vc, c', wb, rfl, hSa, hSb, hrun, ⟨ca', cl', cc', rfl⟩, hSc, hfz, HH⟩
        clear hc hHeld
        go_wp2_with fail
        refine hK.out _ _ hSa (fun hHeld => ?_)
        clear hK K
        (try simp only [Act.put, List.setIfInBounds_toArray, List.set_cons_zero, List.set_cons_succ])
        refine upE 4 rfl (by kernel_rfl) (fun K hK => ?_)
        go_simp
        refine hK.out _ _ hSb (fun hHeld => ?_)
        clear hK K
        (try simp only [Act.put, List.setIfInBounds_toArray, List.set_cons_zero, List.set_cons_succ])
        refine upE 5 rfl (by kernel_rfl) (fun K hK => ?_)
        refine step_append_run rfl (.tmp 70) (.tmp 73) 35 rfl c (.slice (some ⟨wa.heap.size, 0, none⟩) 1 1) (.slice ca' cl' cc') wb rfl rfl hrun ?_
        refine hK.out _ _ hSc (fun hHeld => ?_)
        clear hK K
        (try simp only [Act.put, List.setIfInBounds_toArray, List.set_cons_zero, List.set_cons_succ])
        refine pureE 6 (v := ?_) rfl (by kernel_rfl) (by kernel_rfl) (by kernel_rfl) (by kernel_rfl) (fun _ _ _ h => h) (Or.inl ⟨by rfl, by intro wx hSw; (try dsimp only at hSw); go_simp; try with_reducible rfl⟩) (by assumption) ?_
        (try simp only [Act.put, List.setIfInBounds_toArray, List.set_cons_zero, List.set_cons_succ])
        refine lastE 7 rfl (by kernel_rfl) (by kernel_rfl) (fun K hK => ?_)
        go_simp
        refine hK.out _ _ ?_
        clear hK K
        (try simp only [Act.put, List.setIfInBounds_toArray, List.set_cons_zero, List.set_cons_succ])
        refine doneE (by kernel_rfl) ?_ _
        refine NoPanic.normal ?_
        obtain ⟨hdk, hcr⟩ := HH.out
        have HREL2 : Hid (decN decE N s0 = combN (es ++ [((xa, xb, xc, xd), ms)]) (decN decE (N - (k + 1)) s2)) := by
          show _ = _
          rw [HST2.out]
          cases s2 with
          | none => rw [combN_dead _ _ (decN_dead decE rfl _)]
          | some ys => rfl
        have hdl2 : (es ++ [((xa, xb, xc, xd), ms)]).length = k + 1 := by rw [List.length_append, HEK.out]; rfl
        clear HH hrun hSa hSb hSc hfz hS0 m1 HST2 HREL
        generalize wb.setCell ⟨w.heap.size + 4, 0, none⟩ (.slice ca' cl' cc') = wc at *
        go_wp2
        go_roundw
        case rel => first | exact ⟨k + 1, .slice ca' cl' cc', es ++ [((xa, xb, xc, xd), ms)], s2, by omega, by go_num, hdl2, hdk, hcr, HREL2.out⟩ | ((repeat apply Exists.intro); exact ⟨⟨k + 1, .slice ca' cl' cc', es ++ [((xa, xb, xc, xd), ms)], s2, by omega, by go_num, hdl2, hdk, hcr, HREL2.out⟩, rfl⟩)
        case measure => simp [intOf]; omega
      · have HFIN : Hid (st = (dEL n (some t)).2 ∧ (st ≠ none → es = (dEL n (some t)).1)) := by
          show _ ∧ _
          rw [HDE.out, HREL.out]
          cases st with
          | none => rw [combN_dead _ _ (decN_dead decE rfl _)]; exact ⟨rfl, fun h => absurd rfl h⟩
          | some zs =>
            obtain rfl : k = N := by
              rcases Nat.lt_or_ge k N with h | h
              · exact absurd ⟨h, by simp⟩ hgo
              · omega
            rw [Nat.sub_self]
            show _ = (combN es ([], some zs)).2 ∧ _
            rw [show decN decE 0 (some zs) = ([], some zs) from rfl, combN_nil _ _ (by simp)]
            exact ⟨rfl, fun _ => rfl⟩
        have HOUT : Hid (∃ (c : Value) (es : List (Lb × List UInt8)) (st : St), Hid (Dk w (some ⟨b, off, none⟩) n cap (x :: t) wr c (.slice none 0 0) 0 0 0 st ∧ CR (w.heap.size + 5) (some ⟨b, off, none⟩) wr c es ∧ st = (dEL n (some t)).2 ∧ (st ≠ none → es = (dEL n (some t)).1))) := ⟨c, es, st, dk, cr, HFIN.out⟩
        have hor : ((k : Int) < N ∧ ¬ (0 : Int) ≤ Cd.atOf qq) ∨ ¬ (k : Int) < N := by
          rcases Nat.lt_or_ge k N with h | h
          · refine .inl ⟨by omega, ?_⟩
            cases st with
            | none => obtain rfl := Cd.same_none hsm; simp [Cd.atOf]
            | some zs => exact absurd ⟨h, by simp⟩ hgo
          · exact .inr (by omega)
        generalize Cd.atOf qq = Ao at m1 hor
        clear hgo dk cr HREL HEK hsm HFIN
        rcases hor with ⟨hg1, hg2⟩ | hg1
        · go_wp2_with fail
          go_meet
          exact HOUT.out
        · go_wp2_with fail
          go_meet
          exact HOUT.out
  case rest =>
    clear dk6 HDE hN
    obtain ⟨c, es, st1, HC⟩ := hcut
    obtain ⟨dk, cr, hst1, hes⟩ := HC.out
    have HE1 : Hid (st1 = (dEL n (some t)).2 ∧ (st1 ≠ none → es = (dEL n (some t)).1)) := ⟨hst1, hes⟩
    obtain ⟨q, rr, hs⟩ := dk.rq
    have hi := Cd.refInt_step wc (w.heap.size + 3) (some ⟨b, off, none⟩) n cap (x :: t) q st1 hs rr dk.row (by omega) (n : Int) (by omega) (by omega)
    have hN2 := rInt_small st1 n
    have HDL : Hid (dLL (n : Int) st1 = decN decL (Cd.rInt st1 (n : Int)).1 (Cd.rInt st1 (n : Int)).2) := rfl
    generalize Cd.rInt st1 (n : Int) = dv at *
    obtain ⟨N2, s02⟩ := dv
    simp only at hi hN2 HDL
    clear HC hst1 hes
    go_wp2_with fail
    refine hi.mono ?_
    rintro e w7 ⟨rfl, q7, hs7, rr7, g7⟩
    have dk7 := dk.call rr7 hs7 g7
    have cr7 : CR (w.heap.size + 5) (some ⟨b, off, none⟩) w7 c es := cr.gr g7 (fun k hk e => by cases hk; have := (cr.lt _ e).1; omega) (fun k a hk ha => by cases hk; have := dk.ab a ha; omega)
    have HCF : Hid ((∀ k, c.ownBlock = some k → k < w7.heap.size) ∧ w.heap.size + 5 ≤ w7.heap.size) := ⟨fun k hk => (cr7.lt k hk).2, dk7.lt⟩
    clear hi dk cr hs rr hs7 rr7 g7
    go_upto_block 2 with fail
    go_cut [12] from 80 to 98 (fun _ wx => ∃ (o : Value) (ls : List Lb) (st : St), Hid (Dk w (some ⟨b, off, none⟩) n cap (x :: t) wx c o 0 0 0 st ∧ CR (w.heap.size + 5) (some ⟨b, off, none⟩) wx c es ∧ wx.ownsRow w7.heap.size 26 4 o ls.length (flat ls) ∧ st = (dLL n st1).2 ∧ (st ≠ none → ls = (dLL n st1).1)))
    case first =>
      go_wp2_with fail
      go_loopw [12] (fun iv wr => ∃ (k : Nat) (o : Value) (ls : List Lb) (st : St), k ≤ N2 ∧ iv = .int .i64 k ∧ ls.length = k ∧ Dk w (some ⟨b, off, none⟩) n cap (x :: t) wr c o 0 0 0 st ∧ CR (w.heap.size + 5) (some ⟨b, off, none⟩) wr c es ∧ wr.ownsRow w7.heap.size 26 4 o ls.length (flat ls) ∧ w7.heap.size ≤ wr.heap.size ∧ decN decL N2 s02 = combN ls (decN decL (N2 - k) st)) (fun iv _ => N2 - (intOf iv).toNat)
      case atStart => exact ⟨0, _, [], s02, by omega, rfl, rfl, dk7, cr7, World.ownsRow_nil _ _ _ _, Nat.le_refl _, by rw [Nat.sub_zero]; exact (combN_start _ _ _).symm⟩
      case round =>
        clear dk7 cr7
        obtain ⟨k, o, ls, st, hk, rfl, hek, dk, cr, ho, hFs, hrel⟩ := hrel
        have HREL : Hid (decN decL N2 s02 = combN ls (decN decL (N2 - k) st)) := hrel
        have HEK : Hid (ls.length = k) := hek
        obtain ⟨qq, hrr, hsm⟩ := dk.rq
        obtain ⟨-, m1, -, -⟩ := hrr.cells
        clear hrel hek hrr
        by_cases hgo : k < N2 ∧ st ≠ none
        · obtain ⟨hlt, hne⟩ := hgo
          have hltI : (k : Int) < (N2 : Int) := by omega
          obtain ⟨zs, rfl⟩ : ∃ zs, st = some zs := by cases st with
            | none => exact absurd rfl hne
            | some zs => exact ⟨zs, rfl⟩
          obtain ⟨q, rfl, _, _⟩ := Cd.same_left hsm
          simp only [Cd.atOf] at m1
          have hqI : (0 : Int) ≤ (q : Int) := by omega
          have u0 : Below wr.heap.size wr wr.drew := (Below.refl _ _).drew
          have ho0 : wr.drew.ownsRow w7.heap.size 26 4 o ls.length (flat ls) := ho.kept (gr_of u0 none) (by cases o.ownBlock with | none => exact Or.inl rfl | some k => exact Or.inr (by simp))
          have hc := lab_step (dk.below u0) (cr.bl u0) HCF.out.2 HCF.out.1 ho0 (by rw [HEK.out]; omega) hFs (by omega)
          have HST2 : Hid (decN decL N2 s02 = match (decL (some zs)).2 with | none => ([], none) | some ys => combN (ls ++ [(decL (some zs)).1]) (decN decL (N2 - (k + 1)) (some ys))) := by
            show _ = _
            rw [HREL.out, show N2 - k = (N2 - (k + 1)) + 1 by omega]
            cases hz : (decL (some zs)).2 with
            | none => exact combN_fail _ _ _ _ hz
            | some ys => exact combN_step _ _ _ _ ys hz
          have hS0 : wr.drew.cell? ⟨w.heap.size + 4, 1, none⟩ = some o := (dk.below u0).cell.2.1
          generalize decL (some zs) = de at *
          obtain ⟨⟨xa, xb, xc, xd⟩, s2⟩ := de
          simp only [cellsL] at hc HST2
          unfold lab at hc
          simp only at hc
          clear hsm cr dk hne u0 ho ho0 hFs
          go_wp2_with fail
          refine wp_region_noPanic ?_
          refine beginE (fun wx => wx.cell? ⟨w.heap.size + 4, 1, none⟩ = some o) 7 (by kernel_rfl) hS0 (fun hHeld => ?_)
          refine tqE 0 ?_
          refine tqE 1 ?_
          refine tqE 2 ?_
          refine upE 3 rfl (by kernel_rfl) (fun K hK => ?_)
          go_simp
          refine hc.mono ?_
          rintro e wa ⟨o', wb, rfl, hSa, hSb, hrun, ⟨ca', cl', cc', rfl⟩, hSc, hfz, HH⟩
          clear hc hHeld
          go_wp2_with fail
          refine hK.out _ _ hSa (fun hHeld => ?_)
          clear hK K
          (try simp only [Act.put, List.setIfInBounds_toArray, List.set_cons_zero, List.set_cons_succ])
          refine upE 4 rfl (by kernel_rfl) (fun K hK => ?_)
          go_simp
          refine hK.out _ _ hSb (fun hHeld => ?_)
          clear hK K
          (try simp only [Act.put, List.setIfInBounds_toArray, List.set_cons_zero, List.set_cons_succ])
          refine upE 5 rfl (by kernel_rfl) (fun K hK => ?_)
          refine step_append_run rfl (.tmp 93) (.tmp 96) 36 rfl o (.slice (some ⟨wa.heap.size, 0, none⟩) 1 1) (.slice ca' cl' cc') wb rfl rfl hrun ?_
          refine hK.out _ _ hSc (fun hHeld => ?_)
          clear hK K
          (try simp only [Act.put, List.setIfInBounds_toArray, List.set_cons_zero, List.set_cons_succ])
          refine pureE 6 (v := ?_) rfl (by kernel_rfl) (by kernel_rfl) (by kernel_rfl) (by kernel_rfl) (fun _ _ _ h => h) (Or.inl ⟨by rfl, by intro wx hSw; (try dsimp only at hSw); go_simp; try with_reducible rfl⟩) (by assumption) ?_
          (try simp only [Act.put, List.setIfInBounds_toArray, List.set_cons_zero, List.set_cons_succ])
          refine lastE 7 rfl (by kernel_rfl) (by kernel_rfl) (fun K hK => ?_)
          go_simp
          refine hK.out _ _ ?_
          clear hK K
          (try simp only [Act.put, List.setIfInBounds_toArray, List.set_cons_zero, List.set_cons_succ])
          refine doneE (by kernel_rfl) ?_ _
          refine NoPanic.normal ?_
          obtain ⟨hdk, hcr, hoo, hFF⟩ := HH.out
          have HREL2 : Hid (decN decL N2 s02 = combN (ls ++ [(xa, xb, xc, xd)]) (decN decL (N2 - (k + 1)) s2)) := by
            show _ = _
            rw [HST2.out]
            cases s2 with
            | none => rw [combN_dead _ _ (decN_dead decL rfl _)]
            | some ys => rfl
          have hdl2 : (ls ++ [(xa, xb, xc, xd)]).length = k + 1 := by rw [List.length_append, HEK.out]; rfl
          clear HH hrun hSa hSb hSc hfz hS0 m1 HST2 HREL
          generalize wb.setCell ⟨w.heap.size + 4, 1, none⟩ (.slice ca' cl' cc') = wc at *
          go_wp2
          go_roundw
          case rel => first | exact ⟨k + 1, .slice ca' cl' cc', ls ++ [(xa, xb, xc, xd)], s2, by omega, by go_num, hdl2, hdk, hcr, hoo, hFF, HREL2.out⟩ | ((repeat apply Exists.intro); exact ⟨⟨k + 1, .slice ca' cl' cc', ls ++ [(xa, xb, xc, xd)], s2, by omega, by go_num, hdl2, hdk, hcr, hoo, hFF, HREL2.out⟩, rfl⟩)
          case measure => simp [intOf]; omega
        · have HFIN : Hid (st = (dLL n st1).2 ∧ (st ≠ none → ls = (dLL n st1).1)) := by
            show _ ∧ _
            rw [HDL.out, HREL.out]
            cases st with
            | none => rw [combN_dead _ _ (decN_dead decL rfl _)]; exact ⟨rfl, fun h => absurd rfl h⟩
            | some zs =>
              obtain rfl : k = N2 := by
                rcases Nat.lt_or_ge k N2 with h | h
                · exact absurd ⟨h, by simp⟩ hgo
                · omega
              rw [Nat.sub_self]
              rw [show decN decL 0 (some zs) = ([], some zs) from rfl, combN_nil _ _ (by simp)]
              exact ⟨rfl, fun _ => rfl⟩
          have HOUT : Hid (∃ (o : Value) (ls : List Lb) (st : St), Hid (Dk w (some ⟨b, off, none⟩) n cap (x :: t) wr c o 0 0 0 st ∧ CR (w.heap.size + 5) (some ⟨b, off, none⟩) wr c es ∧ wr.ownsRow w7.heap.size 26 4 o ls.length (flat ls) ∧ st = (dLL n st1).2 ∧ (st ≠ none → ls = (dLL n st1).1))) := ⟨o, ls, st, dk, cr, ho, HFIN.out⟩
          have hor : ((k : Int) < N2 ∧ ¬ (0 : Int) ≤ Cd.atOf qq) ∨ ¬ (k : Int) < N2 := by
            rcases Nat.lt_or_ge k N2 with h | h
            · refine .inl ⟨by omega, ?_⟩
              cases st with
              | none => obtain rfl := Cd.same_none hsm; simp [Cd.atOf]
              | some zs => exact absurd ⟨h, by simp⟩ hgo
            · exact .inr (by omega)
          generalize Cd.atOf qq = Ao at m1 hor
          clear hgo dk cr HREL HEK hsm HFIN ho hFs
          rcases hor with ⟨hg1, hg2⟩ | hg1
          · go_wp2_with fail
            go_meet
            exact HOUT.out
          · go_wp2_with fail
            go_meet
            exact HOUT.out
    case rest =>
      clear dk7 cr7 HDL hN2
      obtain ⟨o, ls, st2, HC⟩ := hcut
      obtain ⟨dk, cr, ho, hst2, hls⟩ := HC.out
      have HE2 : Hid (st2 = (dLL n st1).2 ∧ (st2 ≠ none → ls = (dLL n st1).1)) := ⟨hst2, hls⟩
      obtain ⟨q, rr, hs⟩ := dk.rq
      have hi := Cd.refInt_step wc (w.heap.size + 3) (some ⟨b, off, none⟩) n cap (x :: t) q st2 hs rr dk.row (by omega) (n : Int) (by omega) (by omega)
      have hN3 := rInt_small st2 n
      have HNX : Hid (∀ r, (Cd.rInt st2 (n : Int)).2 = some r → st2 ≠ none) := fun r h e => by rw [e] at h; simp [Cd.rInt, Cd.rUint] at h
      have HDS2 : Hid (decSL (n : Int) (some t) = (⟨(dEL n (some t)).1, (dLL n st1).1, (Cd.rInt st2 n).1, (decV (Cd.rInt st2 n).2).1.1, (decV (Cd.rInt st2 n).2).1.2⟩, (decV (Cd.rInt st2 n).2).2)) := by
        show _ = _
        rw [HDS.out, ← HE1.out.1, ← HE2.out.1]
      generalize Cd.rInt st2 (n : Int) = dv at *
      obtain ⟨nx, st3⟩ := dv
      simp only at hi hN3 HDS2 HNX
      have keep : ∀ {A B : World} {k : Nat}, A.ownsRow w7.heap.size 26 4 o ls.length (flat ls) → A.grownBy B (some k) → k < w7.heap.size → B.ownsRow w7.heap.size 26 4 o ls.length (flat ls) := fun {A B k} h g hk => by
        refine h.kept g ?_
        cases hv : o.ownBlock with
        | none => exact Or.inl rfl
        | some j => exact Or.inr (fun e => by have := (h.lt j hv).1; cases e; omega)
      have HK : Hid (∀ {A B : World} {k : Nat}, A.ownsRow w7.heap.size 26 4 o ls.length (flat ls) → A.grownBy B (some k) → k < w7.heap.size → B.ownsRow w7.heap.size 26 4 o ls.length (flat ls)) := keep
      have HKC : Hid (∀ {A B : World} {k : Nat}, CR (w.heap.size + 5) (some ⟨b, off, none⟩) A c es → A.grownBy B (some k) → w.heap.size ≤ k → k < w.heap.size + 5 → CR (w.heap.size + 5) (some ⟨b, off, none⟩) B c es) := fun {A B k} h g h1 h2 => h.gr g (fun j hj e => by cases hj; have := (h.lt _ e).1; omega) (fun j a hj ha => by cases hj; have := dk.ab a ha; omega)
      have h7 := HCF.out.2
      clear HC hst2 hls HDS keep
      go_wp2_with fail
      refine hi.mono ?_
      rintro e w9 ⟨rfl, q9, hs9, rr9, g9⟩
      have dk9 := dk.call rr9 hs9 g9
      have cr9 := HKC.out cr g9 (by omega) (by omega)
      have ho9 := HK.out ho g9 (by omega)
      obtain ⟨-, -, y2, -, -⟩ := dk9.cell
      have yf := dk9.free 2
      have dkA := dk9.setNext (nx : Nat)
      have crA := HKC.out cr9 (Cd.set_grown (r := w.heap.size + 4) (i := 2) (.int .i64 (nx : Nat))) (by omega) (by omega)
      have hoA := HK.out ho9 (Cd.set_grown (r := w.heap.size + 4) (i := 2) (.int .i64 (nx : Nat))) (by omega)
      obtain ⟨qA, rrA, hsA⟩ := dkA.rq
      have hv := refDecode_step _ (w.heap.size + 3) (some ⟨b, off, none⟩) n cap (x :: t) qA st3 hsA rrA dkA.row (by omega)
      have HVI : Hid (∀ r, (decV st3).2 = some r → ∃ r', st3 = some r') := fun r h => by
        obtain ⟨h1, _⟩ := decV_inv (pr2 h)
        exact ⟨_, h1⟩
      generalize decV st3 = dv at *
      obtain ⟨⟨hn', hp'⟩, st4⟩ := dv
      simp only at hv HDS2 HVI
      unfold vid at hv
      clear hi dk cr ho rr hs dk9 cr9 ho9 hs9 rr9 g9 rrA hsA
      go_wp2_with fail
      obtain ⟨wA, hwA⟩ : ∃ W, Hid (w9.setCell ⟨w.heap.size + 4, 2, none⟩ (.int .i64 (nx : Nat)) = W) := ⟨_, rfl⟩
      rw [hwA.out] at dkA crA hoA hv ⊢
      refine hv.mono ?_
      rintro e wB ⟨rfl, qB, hsB, rrB, gB⟩
      have dkB := dkA.call rrB hsB gB
      have crB := HKC.out crA gB (by omega) (by omega)
      have hoB := HK.out hoA gB (by omega)
      obtain ⟨hth, dkC, gC⟩ := dkB.setHigh hn' (hp' : Nat)
      have crC := HKC.out crB gC (by omega) (by omega)
      have hoC := HK.out hoB gC (by omega)
      clear hv dkA crA hoA dkB crB hoB hsB rrB gB gC hwA y2 yf
      obtain ⟨wC, hwC⟩ : ∃ W, Hid (wB.setCells (w.heap.size + 4) 3 [.int .u64 (hn' : Nat), .int .i64 (hp' : Nat)] = W) := ⟨_, rfl⟩
      rw [hwC.out] at dkC crC hoC
      obtain ⟨qC, rrC, hsC⟩ := dkC.rq
      have HAT := at_end hsC
      rw [HXL.out.1] at HAT
      have HS : Hid (∀ W, Below wC.heap.size wC W → S7 (w.heap.size + 3) (Cd.atOf qC) (w.heap.size + 4) c o (.int .i64 (nx : Nat)) (.int .u64 (hn' : Nat)) (.int .i64 (hp' : Nat)) (some ⟨b, off, none⟩) n cap (x :: t) W) := fun W u => S7.of (rrC.below u) ((dkC.below u).sb) (dkC.row.below u (Nat.le_refl _))
      have HG : Hid (∀ W, Below wC.heap.size wC W → Dk w (some ⟨b, off, none⟩) n cap (x :: t) W c o (nx : Nat) hn' (hp' : Nat) st4 ∧ CR (w.heap.size + 5) (some ⟨b, off, none⟩) W c es ∧ W.ownsRow w7.heap.size 26 4 o ls.length (flat ls)) := fun W u => ⟨dkC.below u, crC.bl u, hoC.kept (gr_of u none) (by cases o.ownBlock with | none => exact Or.inl rfl | some k => exact Or.inr (by simp))⟩
      have ud : Below wC.heap.size wC wC.drew := (Below.refl _ _).drew
      have s0' := HS.out _ ud
      generalize Cd.atOf qC = atc at *
      clear rrC hsC
      unfold S7 at s0'
      by_cases hend : st4 = some []
      · have hat : (atc == (n : Int)) = true := by rw [beq_iff_eq]; exact HAT.2 hend
        have hatn : (atc != (n : Int)) = false := by simp only [bne, hat, Bool.not_true]
        have hD : decSL (n : Int) (some t) = (⟨es, ls, nx, hn', hp'⟩, some []) := by
          obtain ⟨r3, e3⟩ := HVI.out [] hend
          have n2 := HNX.out r3 e3
          have n1 : st1 ≠ none := fun e => n2 (by rw [HE2.out.1, e]; simp [dLL, Cd.rInt, Cd.rUint, decN])
          rw [HDS2.out, hend, ← HE1.out.2 n1, ← HE2.out.2 n2]
        obtain ⟨i1, iE, iL, i4, i5, i6⟩ := decSL_inv hD
        simp only [Option.some.injEq] at i1 iE iL i4 i5 i6
        have few := tail_few es ls nx hn' ((hp' : Nat) : Int)
        rw [← i1] at few
        have hxt : (x :: t) = allB es ls nx hn' ((hp' : Nat) : Int) := by rw [allB_tail, ← i1, HXL.out.2]
        have hlen : t.length + 1 = n := HXL.out.1
        have hel : es.length ≤ 1000 := by omega
        have hll : ls.length ≤ 1000 := by omega
        obtain ⟨ca, cc, rfl, hER⟩ := crC.er
        have hoc2 := hoC.2
        obtain ⟨oa, oc, rfl, hLR⟩ := LR.own hoC
        have hmc : ls.length ≤ oc := by
          rcases hoc2 with ⟨h1, h2⟩ | ⟨g, cp, cur, h1, _, _, h2, _⟩
          · omega
          · simp at h1; omega
        have hrt := refRight_any (fun _ => True) wC.drew ca es.length cc es (hER.bl ud) oa ls.length oc ls (hLR.up ud) hmc (by omega) (nx : Nat) hn' ((hp' : Nat) : Int)
        have HAL : Hid (∀ W, Below wC.heap.size wC W → rightS es ls (nx : Nat) hn' ((hp' : Nat) : Int) = true → _) := fun W u hr => refAll_any (fun _ => True) W ca es.length cc es (hER.bl u) hel oa ls.length oc ls (hLR.up u) hll nx hn' ((hp' : Nat) : Int) iE iL (by have := (right_parts hr (fun e he => ⟨(iE e he).1, (iE e he).2.1⟩) (fun y hy => ⟨(iL y hy).1, (iL y hy).2.1⟩)).2.2.2.1; omega) i5 i6
        rw [← hxt] at HAL
        unfold sumv at hrt HAL
        have HDD : Hid (decSL (n : Int) (some t) = (⟨es, ls, nx, hn', hp'⟩, some [])) := hD
        obtain ⟨g, hg⟩ : ∃ g, rightS es ls (nx : Nat) hn' ((hp' : Nat) : Int) = g := ⟨_, rfl⟩
        clear HAT dkC crC hoC hend HE1 HE2 HNX HVI HDS2 hD i1 few hlen hoc2 hER hLR iE iL i4 i5 i6 hxt
        cases g with
        | false =>
          have HNG : Hid (¬ goodS (decSL (n : Int) (some t))) := fun h => by have := h.2; rw [HDD.out] at this; rw [hg] at this; cases this
          rw [hg] at hrt
          clear HAL HDD hg
          go_wp2_with (refine wpList_store_mid rfl 24 (.tmp 106) (.tmp 105) rfl (w.heap.size + 4) 3 #[.int .u64 (hn' : Nat), .int .i64 (hp' : Nat)] rfl rfl hth info24 (by simp [Value.oneCell']) ?_)
          rw [hwC.out]
          clear hwC hth
          refine wp_region_noPanic ?_
          refine wp_region_held_drew (S := S7 (w.heap.size + 3) atc (w.heap.size + 4) (.slice ca es.length cc) (.slice oa ls.length oc) (.int .i64 (nx : Nat)) (.int .u64 (hn' : Nat)) (.int .i64 (hp' : Nat)) (some ⟨b, off, none⟩) n cap (x :: t)) (by kernel_rfl) s0' (fun hHeld => ?_)
          unfold S7 at hHeld
          refine tq 0 ?_
          refine tq 1 ?_
          refine tq 2 ?_
          refine tq 3 ?_
          refine tq 4 ?_
          refine tq 5 ?_
          refine tq 6 ?_
          refine tq 7 ?_
          refine tq 8 ?_
          refine comes_up 9 rfl (by kernel_rfl) (fun K hK => ?_)
          go_simp
          refine hrt.mono ?_
          rintro e wD ⟨rfl, uD⟩
          have u9 := bl_step ud uD.bl
          clear hrt uD s0'
          go_wp2_with fail
          refine hK.out _ _ (HS.out _ u9) (fun hHeld => ?_)
          clear hK K
          (try simp only [Act.put, List.setIfInBounds_toArray, List.set_cons_zero, List.set_cons_succ])
          unfold S7 at hHeld
          refine tq 10 ?_
          refine tq 11 ?_
          refine tq 12 ?_
          refine tqS 13 ?_
          refine tqS 14 ?_
          refine tqS 15 ?_
          refine tqS 16 ?_
          refine tqS 17 ?_
          refine tqS 18 ?_
          refine tq 19 ?_
          refine wpAnyH_done (by kernel_rfl) ?_ _
          refine NoPanic.normal ?_
          clear hHeld HS
          obtain ⟨dkD, _, _⟩ := HG.out _ u9
          have hsn : (S5 w.heap.size (w.heap.size + 2) (.int .u64 0) (.int .i64 0) (.int .u64 0) (.int .i64 0) (.slice none 0 0)) wD.drew := S5.of dkD.bg.nn (by omega) (by omega)
          have BW : Below w.heap.size w wD.drew := dkD.bg.bl.drew
          have q1 : wD.drew.heap[w.heap.size]? = _ := dkD.bg.r1
          have q2 : wD.drew.heap[w.heap.size + 1]? = _ := dkD.bg.r2
          clear u9 ud dkD HG
          obtain ⟨p2', pA, pB, pO⟩ := fin2 wD.drew w.heap.size _ _ q1 q2 #[.int .u64 0, .int .i64 0, .int .u64 0, .int .i64 0, .slice none 0 0] #[.slice none 0 0, .slice none 0 0, .int .i64 0, .int .u64 0, .int .i64 0]
          have a0 := pA 0
          have a1 := pA 1
          have a2 := pA 2
          have a3 := pA 3
          have a4 := pA 4
          have b0 := pB 0
          have b1 := pB 1
          have b2 := pB 2
          have b3 := pB 3
          have b4 := pB 4
          simp only [List.getElem?_toArray, List.getElem?_cons_zero, List.getElem?_cons_succ] at a0 a1 a2 a3 a4 b0 b1 b2 b3 b4
          have HEND : Hid (Below w.heap.size w ((wD.drew.setRow w.heap.size #[.int .u64 0, .int .i64 0, .int .u64 0, .int .i64 0, .slice none 0 0]).setRow (w.heap.size + 1) #[.slice none 0 0, .slice none 0 0, .int .i64 0, .int .u64 0, .int .i64 0])) := bl_row (bl_row BW (Nat.le_refl _) _) (by omega) _
          have HS0 : Hid ((S5 w.heap.size (w.heap.size + 2) (.int .u64 0) (.int .i64 0) (.int .u64 0) (.int .i64 0) (.slice none 0 0)) wD.drew) := hsn
          have HS1 : Hid ((S5 w.heap.size (w.heap.size + 2) (.int .u64 0) (.int .i64 0) (.int .u64 0) (.int .i64 0) (.slice none 0 0)) (wD.drew.setRow w.heap.size #[.int .u64 0, .int .i64 0, .int .u64 0, .int .i64 0, .slice none 0 0])) := HS0.out.by (fun k j h1 h2 => (pO k j h1 h2).1)
          have HS2 : Hid ((S5 w.heap.size (w.heap.size + 2) (.int .u64 0) (.int .i64 0) (.int .u64 0) (.int .i64 0) (.slice none 0 0)) ((wD.drew.setRow w.heap.size #[.int .u64 0, .int .i64 0, .int .u64 0, .int .i64 0, .slice none 0 0]).setRow (w.heap.size + 1) #[.slice none 0 0, .slice none 0 0, .int .i64 0, .int .u64 0, .int .i64 0])) := HS0.out.by (fun k j h1 h2 => (pO k j h1 h2).2)
          clear pA pB pO BW
          go_wp2_with fail
          refine wp_region_noPanic ?_
          refine wp_region_held_drew (S := (S5 w.heap.size (w.heap.size + 2) (.int .u64 0) (.int .i64 0) (.int .u64 0) (.int .i64 0) (.slice none 0 0))) (by kernel_rfl) HS0.out (fun hHeld => ?_)
          unfold S5 at hHeld
          refine tq 0 ?_
          refine tq 1 ?_
          refine tq 2 ?_
          refine comes_up 3 rfl (by kernel_rfl) (fun K hK => ?_)
          refine step_store_row rfl 29 (.tmp 3) (.tmp 127) rfl w.heap.size #[.int .u64 0, .int .i64 0, .int .u64 0, .int .i64 0, .slice none 0 0] rfl rfl 29 _ q1 infoS29 rfl (by simp [Value.oneCell']) ?_
          refine hK.out _ _ HS1.out (fun hHeld => ?_)
          clear hK K
          (try simp only [Act.put])
          refine comes_up 4 rfl (by kernel_rfl) (fun K hK => ?_)
          refine step_store_row rfl 38 (.tmp 4) (.tmp 128) rfl (w.heap.size + 1) #[.slice none 0 0, .slice none 0 0, .int .i64 0, .int .u64 0, .int .i64 0] rfl rfl 38 _ p2' infoS38 rfl (by simp [Value.oneCell']) ?_
          refine hK.out _ _ HS2.out (fun hHeld => ?_)
          clear hK K
          (try simp only [Act.put])
          refine wpAnyH_done (by kernel_rfl) ?_ _
          refine NoPanic.normal ?_
          go_wp2
          refine bodyPost_ret (v := .tuple #[.int .u8 0, .agg #[.int .u64 0, .int .i64 0, .int .u64 0, .int .i64 0, .slice none 0 0], .agg #[.slice none 0 0, .slice none 0 0, .int .i64 0, .int .u64 0, .int .i64 0]]) ?_ rfl ?_
          · simp [results, Try.results18, go_sem, a0, a1, a2, a3, a4, b0, b1, b2, b3, b4]
          · exact ⟨.inr ⟨HNG.out, rfl⟩, HEND.out⟩
        | true =>
          have HGD : Hid (goodS (decSL (n : Int) (some t)) ∧ decSL (n : Int) (some t) = (⟨es, ls, nx, hn', hp'⟩, some [])) := ⟨by rw [HDD.out]; exact ⟨rfl, hg⟩, HDD.out⟩
          rw [hg] at hrt
          have HAL2 : Hid (∀ W, Below wC.heap.size wC W → _) := fun W u => HAL.out W u hg
          clear HAL HDD hg
          generalize x :: t = L at *
          have hbe := Cd.str_beq L L
          simp only [decide_true] at hbe
          go_wp2_with (refine wpList_store_mid rfl 24 (.tmp 106) (.tmp 105) rfl (w.heap.size + 4) 3 #[.int .u64 (hn' : Nat), .int .i64 (hp' : Nat)] rfl rfl hth info24 (by simp [Value.oneCell']) ?_)
          rw [hwC.out]
          clear hwC hth
          refine wp_region_noPanic ?_
          refine wp_region_held_drew (S := S7 (w.heap.size + 3) atc (w.heap.size + 4) (.slice ca es.length cc) (.slice oa ls.length oc) (.int .i64 (nx : Nat)) (.int .u64 (hn' : Nat)) (.int .i64 (hp' : Nat)) (some ⟨b, off, none⟩) n cap L) (by kernel_rfl) s0' (fun hHeld => ?_)
          unfold S7 at hHeld
          refine tq 0 ?_
          refine tq 1 ?_
          refine tq 2 ?_
          refine tq 3 ?_
          refine tq 4 ?_
          refine tq 5 ?_
          refine tq 6 ?_
          refine tq 7 ?_
          refine tq 8 ?_
          refine comes_up 9 rfl (by kernel_rfl) (fun K hK => ?_)
          go_simp
          refine hrt.mono ?_
          rintro e wD ⟨rfl, uD⟩
          have u9 := bl_step ud uD.bl
          clear hrt uD s0'
          go_wp2_with fail
          refine hK.out _ _ (HS.out _ u9) (fun hHeld => ?_)
          clear hK K
          (try simp only [Act.put, List.setIfInBounds_toArray, List.set_cons_zero, List.set_cons_succ])
          unfold S7 at hHeld
          refine tq 10 ?_
          refine tq 11 ?_
          refine tq 12 ?_
          refine tq 13 ?_
          refine tq 16 ?_
          refine tq 17 ?_
          refine comes_up 14 rfl (by kernel_rfl) (fun K hK => ?_)
          go_simp
          refine (HAL2.out _ u9).mono ?_
          rintro e wE ⟨v8, rfl, ho8, hb8⟩
          obtain ⟨qo, qc, rfl, hr8, _⟩ := Cd.owns_row ho8
          have hcv8 := Cd.conv_row hr8
          have uE := bl_step u9 hb8
          clear HAL2 ho8 hb8 hr8
          go_wp2_with fail
          refine hK.out _ _ (HS.out _ uE) (fun hHeld => ?_)
          clear hK K
          (try simp only [Act.put, List.setIfInBounds_toArray, List.set_cons_zero, List.set_cons_succ])
          unfold S7 at hHeld
          refine comes_up 15 rfl (by kernel_rfl) (fun K hK => ?_)
          go_simp
          go_wp2_with fail
          refine hK.out _ _ (HS.out _ uE) (fun hHeld => ?_)
          clear hK K
          (try simp only [Act.put, List.setIfInBounds_toArray, List.set_cons_zero, List.set_cons_succ])
          unfold S7 at hHeld
          clear hcv8
          refine tq 18 ?_
          refine tq 19 ?_
          refine wpAnyH_done (by kernel_rfl) ?_ _
          refine NoPanic.normal ?_
          clear hHeld HS
          obtain ⟨dkD, crD, hoD⟩ := HG.out _ uE
          have hsn : (S5 w.heap.size (w.heap.size + 2) (.int .u64 0) (.int .i64 0) (.int .u64 0) (.int .i64 0) (.slice none 0 0)) wE.drew := S5.of dkD.bg.nn (by omega) (by omega)
          have hsm : S5 w.heap.size (w.heap.size + 4) (.slice ca es.length cc) (.slice oa ls.length oc) (.int .i64 (nx : Nat)) (.int .u64 (hn' : Nat)) (.int .i64 (hp' : Nat)) wE.drew := S5.of dkD.sb (by omega) (by omega)
          have BW : Below w.heap.size w wE.drew := dkD.bg.bl.drew
          have q1 : wE.drew.heap[w.heap.size]? = _ := dkD.bg.r1
          have q2 : wE.drew.heap[w.heap.size + 1]? = _ := dkD.bg.r2
          clear u9 ud uE HG hbe
          obtain ⟨p2', pA, pB, pO⟩ := fin2 wE.drew w.heap.size _ _ q1 q2 #[.int .u64 0, .int .i64 0, .int .u64 0, .int .i64 0, .slice none 0 0] #[.slice ca es.length cc, .slice oa ls.length oc, .int .i64 (nx : Nat), .int .u64 (hn' : Nat), .int .i64 (hp' : Nat)]
          have a0 := pA 0
          have a1 := pA 1
          have a2 := pA 2
          have a3 := pA 3
          have a4 := pA 4
          have b0 := pB 0
          have b1 := pB 1
          have b2 := pB 2
          have b3 := pB 3
          have b4 := pB 4
          simp only [List.getElem?_toArray, List.getElem?_cons_zero, List.getElem?_cons_succ] at a0 a1 a2 a3 a4 b0 b1 b2 b3 b4
          have HEND : Hid (Below w.heap.size w ((wE.drew.setRow w.heap.size #[.int .u64 0, .int .i64 0, .int .u64 0, .int .i64 0, .slice none 0 0]).setRow (w.heap.size + 1) #[.slice ca es.length cc, .slice oa ls.length oc, .int .i64 (nx : Nat), .int .u64 (hn' : Nat), .int .i64 (hp' : Nat)])) := bl_row (bl_row BW (Nat.le_refl _) _) (by omega) _
          have HS0 : Hid ((S10 w.heap.size (w.heap.size + 2) (.int .u64 0) (.int .i64 0) (.int .u64 0) (.int .i64 0) (.slice none 0 0) (w.heap.size + 4) (.slice ca es.length cc) (.slice oa ls.length oc) (.int .i64 (nx : Nat)) (.int .u64 (hn' : Nat)) (.int .i64 (hp' : Nat))) wE.drew) := S10.mk5 hsn hsm
          have HS1 : Hid ((S10 w.heap.size (w.heap.size + 2) (.int .u64 0) (.int .i64 0) (.int .u64 0) (.int .i64 0) (.slice none 0 0) (w.heap.size + 4) (.slice ca es.length cc) (.slice oa ls.length oc) (.int .i64 (nx : Nat)) (.int .u64 (hn' : Nat)) (.int .i64 (hp' : Nat))) (wE.drew.setRow w.heap.size #[.int .u64 0, .int .i64 0, .int .u64 0, .int .i64 0, .slice none 0 0])) := HS0.out.by (fun k j h1 h2 => (pO k j h1 h2).1)
          have HS2 : Hid ((S10 w.heap.size (w.heap.size + 2) (.int .u64 0) (.int .i64 0) (.int .u64 0) (.int .i64 0) (.slice none 0 0) (w.heap.size + 4) (.slice ca es.length cc) (.slice oa ls.length oc) (.int .i64 (nx : Nat)) (.int .u64 (hn' : Nat)) (.int .i64 (hp' : Nat))) ((wE.drew.setRow w.heap.size #[.int .u64 0, .int .i64 0, .int .u64 0, .int .i64 0, .slice none 0 0]).setRow (w.heap.size + 1) #[.slice ca es.length cc, .slice oa ls.length oc, .int .i64 (nx : Nat), .int .u64 (hn' : Nat), .int .i64 (hp' : Nat)])) := HS0.out.by (fun k j h1 h2 => (pO k j h1 h2).2)
          have gr1 : ∀ (A : World) (k : Nat) (cs : Array Value), A.grownBy (A.setRow k cs) (some k) := fun A k cs => ⟨rfl, rfl, rfl, by simp, fun j hj hne => setRow_other _ _ _ _ (by simpa using hne)⟩
          have crF := HKC.out (HKC.out (A := wE.drew) (crD.bl (Below.refl _ _).drew) (gr1 _ w.heap.size #[.int .u64 0, .int .i64 0, .int .u64 0, .int .i64 0, .slice none 0 0]) (by omega) (by omega)) (gr1 _ (w.heap.size + 1) #[.slice ca es.length cc, .slice oa ls.length oc, .int .i64 (nx : Nat), .int .u64 (hn' : Nat), .int .i64 (hp' : Nat)]) (by omega) (by omega)
          have hoF := HK.out (HK.out (A := wE.drew) hoD (gr1 _ w.heap.size #[.int .u64 0, .int .i64 0, .int .u64 0, .int .i64 0, .slice none 0 0]) (by omega)) (gr1 _ (w.heap.size + 1) #[.slice ca es.length cc, .slice oa ls.length oc, .int .i64 (nx : Nat), .int .u64 (hn' : Nat), .int .i64 (hp' : Nat)]) (by omega)
          have HF2 : Hid (ER (fun _ => True) ((wE.drew.setRow w.heap.size #[.int .u64 0, .int .i64 0, .int .u64 0, .int .i64 0, .slice none 0 0]).setRow (w.heap.size + 1) #[.slice ca es.length cc, .slice oa ls.length oc, .int .i64 (nx : Nat), .int .u64 (hn' : Nat), .int .i64 (hp' : Nat)]) ca es.length es ∧ LR ((wE.drew.setRow w.heap.size #[.int .u64 0, .int .i64 0, .int .u64 0, .int .i64 0, .slice none 0 0]).setRow (w.heap.size + 1) #[.slice ca es.length cc, .slice oa ls.length oc, .int .i64 (nx : Nat), .int .u64 (hn' : Nat), .int .i64 (hp' : Nat)]) oa ls.length ls) := by
            obtain ⟨a1, b1, e1, k1⟩ := crF.er
            obtain ⟨a2, b2, e2, k2⟩ := LR.own hoF
            simp only [Value.slice.injEq, true_and] at e1 e2
            obtain ⟨rfl, rfl⟩ := e1
            obtain ⟨rfl, rfl⟩ := e2
            exact ⟨k1, k2⟩
          clear crF hoF gr1 dkD crD hoD
          clear pA pB pO BW
          go_wp2_with fail
          refine wp_region_noPanic ?_
          refine wp_region_held_drew (S := (S10 w.heap.size (w.heap.size + 2) (.int .u64 0) (.int .i64 0) (.int .u64 0) (.int .i64 0) (.slice none 0 0) (w.heap.size + 4) (.slice ca es.length cc) (.slice oa ls.length oc) (.int .i64 (nx : Nat)) (.int .u64 (hn' : Nat)) (.int .i64 (hp' : Nat)))) (by kernel_rfl) HS0.out (fun hHeld => ?_)
          unfold S10 at hHeld
          refine tq 0 ?_
          refine tq 1 ?_
          refine tq 2 ?_
          refine comes_up 3 rfl (by kernel_rfl) (fun K hK => ?_)
          refine step_store_row rfl 29 (.tmp 3) (.tmp 129) rfl w.heap.size #[.int .u64 0, .int .i64 0, .int .u64 0, .int .i64 0, .slice none 0 0] rfl rfl 29 _ q1 infoS29 rfl (by simp [Value.oneCell']) ?_
          refine hK.out _ _ HS1.out (fun hHeld => ?_)
          clear hK K
          (try simp only [Act.put])
          refine comes_up 4 rfl (by kernel_rfl) (fun K hK => ?_)
          refine step_store_row rfl 38 (.tmp 4) (.tmp 130) rfl (w.heap.size + 1) #[.slice ca es.length cc, .slice oa ls.length oc, .int .i64 (nx : Nat), .int .u64 (hn' : Nat), .int .i64 (hp' : Nat)] rfl rfl 38 _ p2' infoS38 rfl (by simp [Value.oneCell']) ?_
          refine hK.out _ _ HS2.out (fun hHeld => ?_)
          clear hK K
          (try simp only [Act.put])
          refine wpAnyH_done (by kernel_rfl) ?_ _
          refine NoPanic.normal ?_
          go_wp2
          refine bodyPost_ret (v := .tuple #[.int .u8 2, .agg #[.int .u64 0, .int .i64 0, .int .u64 0, .int .i64 0, .slice none 0 0], .agg #[.slice ca es.length cc, .slice oa ls.length oc, .int .i64 (nx : Nat), .int .u64 (hn' : Nat), .int .i64 (hp' : Nat)]]) ?_ rfl ?_
          · simp [results, Try.results18, go_sem, a0, a1, a2, a3, a4, b0, b1, b2, b3, b4]
          · exact ⟨.inl ⟨HGD.out.1, by rw [HGD.out.2]; exact ⟨ca, cc, oa, oc, rfl, HF2.out.1, HF2.out.2⟩⟩, HEND.out⟩
      · have hat : (atc == (n : Int)) = false := by rw [beq_eq_false_iff_ne]; exact fun e => hend (HAT.1 e)
        have hatn : (atc != (n : Int)) = true := by simp only [bne, hat, Bool.not_false]
        have HNG : Hid (¬ goodS (decSL (n : Int) (some t))) := fun h => hend (by have := h.1; rw [HDS2.out] at this; exact this)
        clear HAT dkC crC hoC hend HE1 HE2 HNX HVI HDS2
        go_wp2_with (refine wpList_store_mid rfl 24 (.tmp 106) (.tmp 105) rfl (w.heap.size + 4) 3 #[.int .u64 (hn' : Nat), .int .i64 (hp' : Nat)] rfl rfl hth info24 (by simp [Value.oneCell']) ?_)
        rw [hwC.out]
        clear hwC hth
        refine wp_region_noPanic ?_
        refine wp_region_held_drew (S := S7 (w.heap.size + 3) atc (w.heap.size + 4) c o (.int .i64 (nx : Nat)) (.int .u64 (hn' : Nat)) (.int .i64 (hp' : Nat)) (some ⟨b, off, none⟩) n cap (x :: t)) (by kernel_rfl) s0' (fun hHeld => ?_)
        unfold S7 at hHeld
        refine tq 0 ?_
        refine tq 1 ?_
        refine tq 2 ?_
        refine tq 3 ?_
        refine tq 4 ?_
        refine tq 5 ?_
        refine tq 6 ?_
        refine tq 7 ?_
        refine tqS 8 ?_
        refine tqS 9 ?_
        refine tqS 10 ?_
        refine tq 11 ?_
        refine tq 12 ?_
        refine tqS 13 ?_
        refine tqS 14 ?_
        refine tqS 15 ?_
        refine tqS 16 ?_
        refine tqS 17 ?_
        refine tqS 18 ?_
        refine tq 19 ?_
        refine wpAnyH_done (by kernel_rfl) ?_ _
        refine NoPanic.normal ?_
        clear hHeld s0' HS
        obtain ⟨dkD, _, _⟩ := HG.out _ ud
        have hsn : (S5 w.heap.size (w.heap.size + 2) (.int .u64 0) (.int .i64 0) (.int .u64 0) (.int .i64 0) (.slice none 0 0)) wC.drew.drew := S5.of dkD.bg.nn (by omega) (by omega)
        have BW : Below w.heap.size w wC.drew.drew := dkD.bg.bl.drew
        have q1 : wC.drew.drew.heap[w.heap.size]? = _ := dkD.bg.r1
        have q2 : wC.drew.drew.heap[w.heap.size + 1]? = _ := dkD.bg.r2
        obtain ⟨V6, hV6⟩ : ∃ V, wC.drew = V := ⟨_, rfl⟩
        rw [hV6] at hsn BW q1 q2
        rw [hV6]
        clear hV6 ud dkD HG
        obtain ⟨p2', pA, pB, pO⟩ := fin2 V6.drew w.heap.size _ _ q1 q2 #[.int .u64 0, .int .i64 0, .int .u64 0, .int .i64 0, .slice none 0 0] #[.slice none 0 0, .slice none 0 0, .int .i64 0, .int .u64 0, .int .i64 0]
        have a0 := pA 0
        have a1 := pA 1
        have a2 := pA 2
        have a3 := pA 3
        have a4 := pA 4
        have b0 := pB 0
        have b1 := pB 1
        have b2 := pB 2
        have b3 := pB 3
        have b4 := pB 4
        simp only [List.getElem?_toArray, List.getElem?_cons_zero, List.getElem?_cons_succ] at a0 a1 a2 a3 a4 b0 b1 b2 b3 b4
        have HEND : Hid (Below w.heap.size w ((V6.drew.setRow w.heap.size #[.int .u64 0, .int .i64 0, .int .u64 0, .int .i64 0, .slice none 0 0]).setRow (w.heap.size + 1) #[.slice none 0 0, .slice none 0 0, .int .i64 0, .int .u64 0, .int .i64 0])) := bl_row (bl_row BW (Nat.le_refl _) _) (by omega) _
        have HS0 : Hid ((S5 w.heap.size (w.heap.size + 2) (.int .u64 0) (.int .i64 0) (.int .u64 0) (.int .i64 0) (.slice none 0 0)) V6.drew) := hsn
        have HS1 : Hid ((S5 w.heap.size (w.heap.size + 2) (.int .u64 0) (.int .i64 0) (.int .u64 0) (.int .i64 0) (.slice none 0 0)) (V6.drew.setRow w.heap.size #[.int .u64 0, .int .i64 0, .int .u64 0, .int .i64 0, .slice none 0 0])) := HS0.out.by (fun k j h1 h2 => (pO k j h1 h2).1)
        have HS2 : Hid ((S5 w.heap.size (w.heap.size + 2) (.int .u64 0) (.int .i64 0) (.int .u64 0) (.int .i64 0) (.slice none 0 0)) ((V6.drew.setRow w.heap.size #[.int .u64 0, .int .i64 0, .int .u64 0, .int .i64 0, .slice none 0 0]).setRow (w.heap.size + 1) #[.slice none 0 0, .slice none 0 0, .int .i64 0, .int .u64 0, .int .i64 0])) := HS0.out.by (fun k j h1 h2 => (pO k j h1 h2).2)
        clear pA pB pO BW
        go_wp2_with fail
        refine wp_region_noPanic ?_
        refine wp_region_held_drew (S := (S5 w.heap.size (w.heap.size + 2) (.int .u64 0) (.int .i64 0) (.int .u64 0) (.int .i64 0) (.slice none 0 0))) (by kernel_rfl) HS0.out (fun hHeld => ?_)
        unfold S5 at hHeld
        refine tq 0 ?_
        refine tq 1 ?_
        refine tq 2 ?_
        refine comes_up 3 rfl (by kernel_rfl) (fun K hK => ?_)
        refine step_store_row rfl 29 (.tmp 3) (.tmp 127) rfl w.heap.size #[.int .u64 0, .int .i64 0, .int .u64 0, .int .i64 0, .slice none 0 0] rfl rfl 29 _ q1 infoS29 rfl (by simp [Value.oneCell']) ?_
        refine hK.out _ _ HS1.out (fun hHeld => ?_)
        clear hK K
        (try simp only [Act.put])
        refine comes_up 4 rfl (by kernel_rfl) (fun K hK => ?_)
        refine step_store_row rfl 38 (.tmp 4) (.tmp 128) rfl (w.heap.size + 1) #[.slice none 0 0, .slice none 0 0, .int .i64 0, .int .u64 0, .int .i64 0] rfl rfl 38 _ p2' infoS38 rfl (by simp [Value.oneCell']) ?_
        refine hK.out _ _ HS2.out (fun hHeld => ?_)
        clear hK K
        (try simp only [Act.put])
        refine wpAnyH_done (by kernel_rfl) ?_ _
        refine NoPanic.normal ?_
        go_wp2
        refine bodyPost_ret (v := .tuple #[.int .u8 0, .agg #[.int .u64 0, .int .i64 0, .int .u64 0, .int .i64 0, .slice none 0 0], .agg #[.slice none 0 0, .slice none 0 0, .int .i64 0, .int .u64 0, .int .i64 0]]) ?_ rfl ?_
        · simp [results, Try.results18, go_sem, a0, a1, a2, a3, a4, b0, b1, b2, b3, b4]
        · exact ⟨.inr ⟨HNG.out, rfl⟩, HEND.out⟩
end Go.Proofs.Ytpdgoalbknopiaa
