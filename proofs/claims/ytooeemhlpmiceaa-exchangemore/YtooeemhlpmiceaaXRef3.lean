/-
  The document's Short and Full.
-/
import Derived.Test.YtooeemhlpmiceaaXRef2
import Derived.Test.YtooeemhlpmiceaaXTurn
import Derived.Test.YtooeemhlpmiceaaQRefB
namespace Go.Proofs.Ytooeemhlpmiceaa
open Go.RowKit
set_option linter.unusedVariables false
set_option linter.unusedSimpArgs false

theorem at_node {ts : List Pt} (hd : ∀ t ∈ ts, ∀ u ∈ ts, t.node = u.node → t = u) {t : Pt} (ht : t ∈ ts) : atT ts t.node = some t := by
  unfold atT
  cases hf : ts.find? (fun u => decide (u.node = t.node)) with
  | none =>
    rw [List.find?_eq_none] at hf
    exact absurd (by simp) (hf t ht)
  | some u =>
    have h1 := List.find?_some hf
    have h2 := List.mem_of_find?_eq_some hf
    rw [hd u h2 t ht (by simpa using h1)]
theorem short_no {ss : List Pt} (h : Chn (highT ss) ss ss.length (-1)) : shortT ss = [] ∧ chT ss = -1 := by
  have e : (ss.take ss.length).foldl (chF (highT ss)) (-1) = chT ss := by rw [List.take_of_length_le (Nat.le_refl _)]; rfl
  rcases h with ⟨_, h⟩ | ⟨j, u, h1, _⟩
  · rw [e] at h
    unfold shortT
    rw [if_pos h]
    exact ⟨rfl, h⟩
  · omega
theorem short_at {ss : List Pt} (hd : ∀ t ∈ ss, ∀ u ∈ ss, t.node = u.node → t = u) (hnn : ∀ t ∈ ss, 0 ≤ t.node) {j : Nat} {t : Pt} (hj : ss[j]? = some t) (h : Chn (highT ss) ss ss.length (j : Nat)) : shortT ss = t.ls ∧ chT ss = t.node := by
  have e : (ss.take ss.length).foldl (chF (highT ss)) (-1) = chT ss := by rw [List.take_of_length_le (Nat.le_refl _)]; rfl
  rcases h with ⟨h, _⟩ | ⟨j', u, h1, _, h3, h4⟩
  · omega
  · obtain rfl : j = j' := by omega
    rw [hj] at h3
    cases h3
    rw [e] at h4
    have hm := List.mem_of_getElem? hj
    have := hnn t hm
    unfold shortT
    rw [if_neg (by omega), h4, at_node hd hm]
    exact ⟨rfl, rfl⟩
def ShPost (w' : World) (ss : List Pt) (e : Ending) : Prop := ∃ va vc, e = .returned (.slice va (shortT ss).length vc) ∧ LR w' va (shortT ss).length (shortT ss) ∧ (va = none → (shortT ss).length = 0 ∧ vc = 0)
set_option maxRecDepth 10000 in
set_option maxHeartbeats 2000000 in
theorem refShort_any (w : World) (na : Option Addr) (n nc : Nat) (sa : Option Addr) (sc : Nat) (ss : List Pt) (hN : NL w na n ss) (h : SL (fun _ => True) w sa n ss) (hnn : ∀ t ∈ ss, 0 ≤ t.node) (hd : ∀ t ∈ ss, ∀ u ∈ ss, t.node = u.node → t = u) :
    Calls Try.prog 32 #[.slice na n nc, .slice sa n sc] w fun e w' => ShPost w' ss e ∧ Below w.heap.size w w' := by
  have hl := h.1
  have hmax := h.2.1
  have k1 := refChosen_any w na n nc sa sc ss hN h hnn
  go_enter Try.func32, Try.ntmps32
  go_wp2_with fail
  refine k1.mono ?_
  rintro e w1 ⟨⟨x, rfl, hx⟩, u1⟩
  have HX : Hid (Chn (highT ss) ss ss.length x) := hx
  have h1 := h.bl u1
  clear k1
  rcases hx with ⟨hx1, _⟩ | ⟨j, t, hx1, hjk, hj, _⟩
  · subst hx1
    obtain ⟨e1, _⟩ := short_no HX.out
    go_wp2
    go_ret
    refine ⟨?_, u1⟩
    unfold ShPost
    rw [e1]
    exact ⟨none, 0, rfl, ⟨rfl, by simp, fun hn => by simp at hn⟩, fun _ => ⟨rfl, rfl⟩⟩
  · subst hx1
    obtain ⟨e1, _⟩ := short_at hd hnn hj HX.out
    have hj0 : ¬ ((j : Int) < 0) := by omega
    have hj1 : (j : Int) < (n : Int) := by omega
    obtain ⟨b, off, hao, _, hc⟩ := h1.2.2 (by omega)
    obtain ⟨ca, cc, oa, oc, ⟨c1, c2, c3, c4, c5⟩, g1, g2, g3, g4, g5⟩ := hc j t hj
    subst hao
    clear hc HX h1 h hN c1 c3 c4 c5 hnn hd
    go_wp2
    go_ret
    refine ⟨?_, u1⟩
    unfold ShPost
    rw [e1]
    exact ⟨oa, oc, rfl, g2, g5⟩
def FlPost (w' : World) (B : Nat) (ss : List Pt) (e : Ending) : Prop := ∃ v, e = .returned v ∧ w'.ownsRow B 34 4 v (fullT ss).length (flat (fullT ss))
set_option maxRecDepth 10000 in
set_option maxHeartbeats 2000000 in
theorem refFull_any (w : World) (na : Option Addr) (n nc : Nat) (sa : Option Addr) (sc : Nat) (ss : List Pt) (hN : NL w na n ss) (h : SL (fun _ => True) w sa n ss) (hnn : ∀ t ∈ ss, 0 ≤ t.node) (hd : ∀ t ∈ ss, ∀ u ∈ ss, t.node = u.node → t = u) (hlen : (allT ss).length ≤ 1000) (hll : ∀ t ∈ ss, t.ls.length ≤ 1000) :
    Calls Try.prog 36 #[.slice na n nc, .slice sa n sc] w fun e w' => FlPost w' w.heap.size ss e ∧ Below w.heap.size w w' := by
  have k1 := refShort_any w na n nc sa sc ss hN h hnn hd
  have HSL : Hid ((shortT ss).length ≤ 1000) := short_len hll
  have hkl : (knownT ss).length ≤ (allT ss).length := by have := mergeE_len (allT ss) []; unfold knownT; simpa using this
  go_enter Try.func36, Try.ntmps36
  go_wp2_with fail
  refine k1.mono ?_
  rintro e w1 ⟨⟨a1, c1, rfl, hL1, hz1⟩, u1⟩
  have k2 := refKnown_any w1 sa n sc ss (h.bl u1) hlen
  clear k1
  go_wp2_with fail
  refine k2.mono ?_
  rintro e w2 ⟨⟨a2, c2, rfl, hE2⟩, u2⟩
  have k3 := refLabels_any _ w2 a2 (knownT ss).length c2 (knownT ss) hE2 (by omega)
  have u02 := bl_step u1 u2
  have hL2 := hL1.up u2
  clear k2 hL1
  go_wp2_with fail
  refine k3.mono ?_
  rintro e w3 ⟨v3, rfl, ho3, u3⟩
  obtain ⟨a3, c3, rfl, hL3, hz3⟩ := LR.own2 ho3
  have u03 := bl_step u02 u3
  have k4 := Q.refBehind_any w3 a1 (shortT ss).length c1 (shortT ss) (hL2.up u3) hz1 a3 (knownT ss).length c3 ((knownT ss).map (·.1)) hL3 HSL.out (by omega)
  clear k3 ho3 hE2
  go_wp2_with fail
  refine k4.mono ?_
  rintro e w4 ⟨v4, rs, rfl, hrs, hmem, ho4, u4⟩
  have hrs2 : rs = (knownT ss).map (·.1) := ris_ext (hrs.imp (fun h => (ltL_q _ _).1 h)) (known_ris ss) hmem
  subst hrs2
  have HO : Hid (w4.ownsRow w.heap.size 34 4 v4 (fullT ss).length (flat (fullT ss))) := by
    have e : (shortT ss).length + (out (shortT ss) ((knownT ss).map (·.1))).length = (fullT ss).length := by unfold fullT; rw [List.length_append]
    rw [e] at ho4
    exact own_base ho4 u03.size
  have uf := bl_step u03 u4
  clear k4 ho4 hrs hmem
  go_wp2
  go_ret
  exact ⟨⟨v4, rfl, HO.out⟩, uf⟩
/-- Nodes that told: not below nothing, and each once. -/
theorem told_nn (ss : List Pt) (m : Nat) : ∀ t ∈ toldL ss m, 0 ≤ t.node := fun t ht => by
  unfold toldL at ht
  obtain ⟨i, _, rfl⟩ := List.mem_map.1 ht
  unfold toldP
  simp only
  omega
end Go.Proofs.Ytooeemhlpmiceaa
