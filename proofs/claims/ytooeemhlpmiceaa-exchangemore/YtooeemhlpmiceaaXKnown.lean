/-
  The document's Known: all content that was told.
-/
import Derived.Test.YtooeemhlpmiceaaXFew
import Derived.Test.YtooeemhlpmiceaaXFull
namespace Go.Proofs.Ytooeemhlpmiceaa
open Go.RowKit
set_option linter.unusedVariables false
set_option linter.unusedSimpArgs false

theorem mergeE_cat (l a b : List En) : mergeE l (a ++ b) = mergeE (mergeE l a) b := by unfold mergeE; rw [List.foldl_append]
def KnownPost (w' : World) (ss : List Pt) (e : Ending) : Prop := ∃ va vc, e = .returned (.slice va (knownT ss).length vc) ∧ ER (fun _ => True) w' va (knownT ss).length (knownT ss)
set_option maxRecDepth 10000 in
set_option maxHeartbeats 2000000 in
theorem refKnown_any (w : World) (ao : Option Addr) (n cap : Nat) (ss : List Pt) (h : SL (fun _ => True) w ao n ss) (hlen : (allT ss).length ≤ 1000) :
    Calls Try.prog 34 #[.slice ao n cap] w fun e w' => KnownPost w' ss e ∧ Below w.heap.size w w' := by
  have hl := h.1
  have hmax := h.2.1
  go_enter Try.func34, Try.ntmps34
  go_wp2_with fail
  go_loopw [3, 4] (fun ov iv wr => ∃ (k : Nat) (oo : Option Addr) (oc : Nat), k ≤ n ∧ iv = .int .i64 k ∧ ov = .slice oo (knownT (ss.take k)).length oc ∧ ER (fun _ => True) wr oo (knownT (ss.take k)).length (knownT (ss.take k)) ∧ Below w.heap.size w wr ∧ Hid (oo = none → oc = 0)) (fun _ iv _ => n - (intOf iv).toNat)
  case atStart => exact ⟨0, none, 0, by omega, rfl, rfl, ER.nil _ _ _, Below.refl _ _, fun _ => rfl⟩
  case round =>
    obtain ⟨k, oo, oc, hk, rfl, rfl, hE, hb, HZ⟩ := hrel
    by_cases hlt : k < n
    · have hltI : (k : Int) < (n : Int) := by omega
      have hk0 : ¬ ((k : Int) < 0) := by omega
      obtain ⟨t, ht⟩ : ∃ z, ss[k]? = some z := ⟨ss[k]'(by omega), List.getElem?_eq_getElem (by omega)⟩
      have HT : Hid (knownT (ss.take (k + 1)) = mergeE (knownT (ss.take k)) t.es) := by
        show _ = _
        unfold knownT
        rw [← mergeE_cat]
        congr 1
        unfold allT
        rw [List.take_add_one, ht]
        simp
      have hlen2 : (knownT (ss.take k)).length + t.es.length ≤ 2000 := by
        have e : allT ss = allT (ss.take k) ++ allT (ss.drop k) := by unfold allT; rw [← List.flatMap_append, List.take_append_drop]
        have h1 := congrArg List.length e
        rw [List.length_append] at h1
        have h2 := mergeE_len (allT (ss.take k)) []
        have h3 : t.es.length ≤ (allT ss).length := by
          unfold allT
          obtain ⟨p, q, hpq⟩ := List.append_of_mem (List.mem_of_getElem? ht)
          rw [hpq]
          simp only [List.flatMap_append, List.flatMap_cons, List.length_append]
          omega
        unfold knownT
        simp only [List.length_nil, Nat.zero_add] at h2
        omega
      obtain ⟨b, off, hao, _, hc⟩ := h.2.2 (by omega)
      obtain ⟨ca, cc, oa, oc2, ⟨c1, c2, c3, c4, c5⟩, hr1, hr2, hr3, hr4, hr5⟩ := hc k t ht
      have kk : ∀ {ad : Addr} {v : Value}, w.cell? ad = some v → wr.cell? ad = some v := fun hv => (hb.cell (World.block_lt_of_cell? w _ hv)).trans hv
      replace c1 := kk c1
      have hE2 := hr1.kp (Kp.bl hb)
      subst hao
      have hm := refMerge_any (fun _ => True) wr (fun _ _ => trivial) oo (knownT (ss.take k)).length oc (knownT (ss.take k)) hE HZ.out ca t.es.length cc t.es hE2 (by omega)
      rw [← HT.out] at hm
      clear hc ht kk hr1 hr2 hr3 hr4 hr5 hE hE2 c2 c3 c4 c5 HT HZ
      go_wp2_with fail
      refine hm.mono ?_
      rintro e w2 ⟨v2, q2, rfl, hE3, u2, hz3⟩
      have hb2 := bl_step hb u2
      clear hm
      go_wp2
      go_roundw
      case rel => first | exact ⟨k + 1, v2, q2, by omega, by go_num, rfl, hE3, hb2, hz3⟩ | ((repeat apply Exists.intro); exact ⟨⟨k + 1, v2, q2, by omega, by go_num, rfl, hE3, hb2, hz3⟩, rfl⟩)
      case measure => simp [intOf]; omega
    · obtain rfl : n = k := by omega
      have hltI : ¬ ((n : Int) < (n : Int)) := by omega
      rw [List.take_of_length_le (by omega)] at hE
      rw [List.take_of_length_le (by omega)]
      go_wp2
      go_ret
      exact ⟨⟨oo, oc, rfl, hE⟩, hb⟩
theorem known_asc (ts : List Pt) : ((knownT ts).map (·.1)).Pairwise ltL := by
  have := mergeE_asc (allT ts) [] (by simp [Asc])
  unfold knownT
  rw [List.pairwise_map]
  exact this
end Go.Proofs.Ytooeemhlpmiceaa
