/-
  exchange's Known and Full.
-/
import Derived.Test.YtlaihgdfedalmaaGreatXShort
import Derived.Test.YtlaihgdfedalmaaGreatQAll
import Derived.Test.YtlaihgdfedalmaaGreatFLaw
namespace Go.Proofs.YtlaihgdfedalmaaGreat
open Go.RowKit
set_option linter.unusedVariables false
set_option linter.unusedSimpArgs false

/-- All entries that were told, one behind the other. -/
def allT (ts : List Pt) : List En := ts.flatMap (·.es)
def knownT (ts : List Pt) : List En := mergeE [] (allT ts)
/-- Rows of entries that grow, their messages elsewhere. -/
def OX (w1 w : World) (v : Value) (out : List En) : Prop :=
  ∃ xs : List T.Sx, xs.length = out.length ∧ w.ownsRow w1.heap.size 41 5 v out.length (T.flat xs) ∧ (∀ (j : Nat) e x, out[j]? = some e → xs[j]? = some x → x.1 = e.1 ∧ Cd.Row w1 x.2.1 x.2.2.1 x.2.2.2 e.2) ∧ Below w1.heap.size w1 w
theorem OX.nil (w1 : World) : OX w1 w1 (.slice none 0 0) [] := ⟨[], rfl, World.ownsRow_nil _ _ _ _, fun j e x he => by simp at he, Below.refl _ _⟩
theorem OX.eo {w1 w : World} {v : Value} {out : List En} (h : OX w1 w v out) : EO 0 w v out := by
  obtain ⟨xs, hl, ho, hm, hb⟩ := h
  refine ⟨xs, hl, own_base ho (Nat.zero_le _), fun j e x he hx => ?_⟩
  obtain ⟨h1, h2⟩ := hm j e x he hx
  refine ⟨h1, row_bl h2 hb (row_lt h2), fun a ha hn => ?_⟩
  have hlt := row_lt h2 a ha hn
  exact ⟨Nat.zero_le _, Nat.lt_of_lt_of_le hlt hb.size, fun e => by have := (ho.lt _ e).1; omega⟩
/-- Others' memory is laid beside. -/
theorem OX.bl {w1 w w' : World} {v : Value} {out : List En} (h : OX w1 w v out) (u : Below w.heap.size w w') : OX w1 w' v out := by
  obtain ⟨xs, h1, h2, h3, h4⟩ := h
  refine ⟨xs, h1, h2.kept (row := none) ⟨u.os, u.tape, u.output, u.size, fun i hi _ => u.block i hi⟩ ?_, h3, h4.trans (u.mono h4.size)⟩
  cases v.ownBlock with
  | none => exact Or.inl rfl
  | some k => exact Or.inr (by simp)
/-- append of a list of entries. -/
theorem wpList_append_OX {w1 w : World} {ops : Array Oper} {rest : List Oper} {o : Oper} {a : Act} {Q : Exit → Act → World → Prop} (hgd : o.guard = none) (s x : Operand)
    (ho : o.op = .call { callee := .builtin .append, args := #[s, x], argTypes := #[42, 42] }) (v : Value) (out : List En) (hs : a.eval s = v) (h : OX w1 w v out) (bo : Option Addr) (m c : Nat) (es : List En) (hx : a.eval x = .slice bo m c) (hE : ER (fun _ => True) w1 bo m es) (hz : bo = none → m = 0 ∧ c = 0) (hnm : out.length + m ≤ 1000000)
    (hk : ∀ v' w', OX w1 w' v' (out ++ es) → wpList Tryz.prog ops Q rest (a.put o.dst v') w') : wpList Tryz.prog ops Q (o :: rest) a w := by
  obtain ⟨xs, hl, how, hm, hb⟩ := h
  obtain ⟨ys, hyr, hys⟩ := hE.xr
  have hel := hE.1
  refine T.wpList_append_XR hgd s x ho w1.heap.size v out.length xs hs how bo m c ys hx (hyr.up hb) hz hnm hb.size (fun v' w' ho' hg => hk v' w' ?_)
  refine ⟨xs ++ ys, by simp [hl, hyr.1, hel], by rw [List.length_append, hel]; exact ho', fun j e y he hy => ?_, bl_grown hb hb.size hg (fun k hk => (how.lt k hk).1)⟩
  by_cases hj : j < out.length
  · rw [List.getElem?_append_left hj] at he
    rw [List.getElem?_append_left (by omega)] at hy
    exact hm j e y he hy
  · rw [List.getElem?_append_right (by omega)] at he hy
    rw [hl] at hy
    exact hys _ e y he hy

set_option maxRecDepth 10000 in
set_option maxHeartbeats 2000000 in
theorem known_any (p : Nat → Prop) (w : World) (ao : Option Addr) (n cap : Nat) (ts : List Pt) (h : TL p w ao n ts) (hlen : (allT ts).length ≤ 100000) (hml : ∀ e ∈ allT ts, e.2.length ≤ 140737488355328) :
    Calls Tryz.prog 140 #[.slice ao n cap] w fun e w' => ∃ v, e = .returned v ∧ EO w.heap.size w' v (knownT ts) ∧ Below w.heap.size w w' := by
  have hl := h.1
  have hmax := h.2.1
  go_enter Tryz.func140, Tryz.ntmps140
  go_wp2_with fail
  go_loopw [3, 5, 8] (fun ov bv iv wr => ∃ (k : Nat) (oo : Option Addr) (oc : Nat), k ≤ n ∧ iv = .int .i64 k ∧ ov = .slice oo (allT (ts.take k)).length oc ∧ (∃ u, bv = u) ∧ OX w wr ov (allT (ts.take k))) (fun _ _ iv _ => n - (intOf iv).toNat)
  case atStart => exact ⟨0, none, 0, by omega, rfl, rfl, ⟨_, rfl⟩, OX.nil w⟩
  case round =>
    obtain ⟨k, oo, oc, hk, rfl, rfl, ⟨bv, hbv⟩, hO⟩ := hrel
    replace hbv := hbv.symm
    subst hbv
    have hb : Below w.heap.size w wr := by obtain ⟨_, _, _, _, hq⟩ := hO; exact hq
    by_cases hlt : k < n
    · have hltI : (k : Int) < (n : Int) := by omega
      have hk0 : ¬ ((k : Int) < 0) := by omega
      obtain ⟨t, ht⟩ : ∃ z, ts[k]? = some z := ⟨ts[k]'(by omega), List.getElem?_eq_getElem (by omega)⟩
      have HT : Hid (allT (ts.take (k + 1)) = allT (ts.take k) ++ t.es) := by show _ = _; unfold allT; rw [List.take_add_one, ht]; simp
      have hlen2 : (allT (ts.take k)).length + t.es.length ≤ 100000 := by
        have e : allT ts = allT (ts.take (k + 1)) ++ allT (ts.drop (k + 1)) := by unfold allT; rw [← List.flatMap_append, List.take_append_drop]
        have := congrArg List.length e
        rw [List.length_append, HT.out, List.length_append] at this
        omega
      obtain ⟨b, off, hao, _, hc⟩ := h.2.2 (by omega)
      obtain ⟨c0, ca, cc, oa, oc2, ⟨c1, c2, c3, c4, c5⟩, hr1, hr2, hr3, hr4, hr5⟩ := hc k t ht
      have kk : ∀ {ad : Addr} {v : Value}, w.cell? ad = some v → wr.cell? ad = some v := fun hv => (hb.cell (World.block_lt_of_cell? w _ hv)).trans hv
      replace c0 := kk c0
      replace c1 := kk c1
      replace c2 := kk c2
      replace c3 := kk c3
      replace c4 := kk c4
      replace c5 := kk c5
      have hE := hr1.mono (q := fun _ => True) (fun _ _ => trivial)
      have HZ : Hid (ca = none → t.es.length = 0 ∧ cc = 0) := hr4
      obtain ⟨tn, te, tl, tx, th, tp⟩ := t
      simp only at c0 c1 c2 c3 c4 c5 HT hE HZ hlen2
      subst hao
      have ba := bl1 wr (.cells #[.int .i64 tn, .slice ca te.length cc, .slice oa tl.length oc2, .int .i64 tx, .int .u64 (th : Nat), .int .i64 tp] 120)
      have x1 := cell_box wr #[.int .i64 tn, .slice ca te.length cc, .slice oa tl.length oc2, .int .i64 tx, .int .u64 (th : Nat), .int .i64 tp] 120 1 _ rfl
      have hOa := hO.bl ba
      obtain ⟨ak, hak⟩ : ∃ l, allT (ts.take k) = l := ⟨_, rfl⟩
      rw [hak] at hOa HT hlen2
      rw [hak]
      clear hc ht kk hr1 hr2 hr3 hr4 hr5 hb hO hak ba
      go_wp2_with (first | (refine wpList_load_T rfl (.tmp 10) rfl b (off + k * 6) rfl _ _ _ _ _ _ c0 c1 c2 c3 c4 c5 ?_) | (at_builtin; refine wpList_append_OX (w1 := w) rfl (.tmp 12) (.tmp 15) rfl _ ak rfl ?d1 ca te.length cc te rfl hE HZ.out ?d2 ?_))
      case d2 => omega
      intro v2 w2 hO2
      obtain ⟨o2, q2, hv2, -, -⟩ := hO2.eo.er2
      subst hv2
      rw [← HT.out] at hO2
      clear hOa x1 c0 c1 c2 c3 c4 c5
      have HL : Hid ((ak ++ te).length = (allT (ts.take (k + 1))).length) := by show _ = _; rw [HT.out]
      rw [HL.out]
      go_wp2
      go_roundw
      case rel => first | exact ⟨k + 1, o2, q2, by omega, by go_num, rfl, ⟨_, rfl⟩, hO2⟩ | ((repeat apply Exists.intro); exact ⟨⟨k + 1, o2, q2, by omega, by go_num, rfl, ⟨_, rfl⟩, hO2⟩, rfl⟩)
      case measure => simp [intOf]; omega
    · obtain rfl : n = k := by omega
      have hltI : ¬ ((n : Int) < (n : Int)) := by omega
      rw [List.take_of_length_le (by omega)] at hO
      rw [List.take_of_length_le (by omega)]
      obtain ⟨o2, q2, hv2, hz2, hE2⟩ := hO.eo.er2
      simp only [Value.slice.injEq] at hv2
      obtain ⟨rfl, -, rfl⟩ := hv2
      have hme := merge_any wr none 0 0 [] (ER.nil _ _ _) (fun _ => ⟨rfl, rfl⟩) oo (allT ts).length oc (allT ts) hE2 hz2 (by omega) (fun e he => hml e (by simpa using he))
      simp only [List.nil_append] at hme
      clear hO hE2 hz2
      go_wp2_with fail
      refine hme.mono ?_
      rintro e w2 ⟨v, rfl, hO2, u2⟩
      have uf := bl_step hb u2
      have HO : Hid (EO w.heap.size w2 v (knownT ts)) := hO2.base hb.size
      clear hme hO2
      go_wp2
      go_ret
      exact ⟨v, rfl, HO.out, uf⟩
/-- The order that is told, and behind it all other labels that were told, rising. -/
def fullT (ts : List Pt) : List Lb := shortT ts ++ out (shortT ts) ((knownT ts).map (·.1))
theorem ltL_q (x y : Lb) : Q.ltL x y ↔ ltL x y := by unfold Q.ltL ltL; exact Iff.rfl
theorem ris_ext {a b : List Lb} (ha : a.Pairwise ltL) (hb : b.Pairwise ltL) (h : ∀ x, x ∈ a ↔ x ∈ b) : a = b := by
  have key : ∀ r : List Lb, r.Pairwise ltL → Asc (r.map fun e => (e, ([] : List UInt8))) := fun r hr => by
    unfold Asc
    rw [List.pairwise_map]
    exact hr
  have mem : ∀ (r : List Lb) (z : En), z ∈ (r.map fun e => (e, ([] : List UInt8))) ↔ z.2 = [] ∧ z.1 ∈ r := fun r z => by
    rw [List.mem_map]
    constructor
    · rintro ⟨e, he, rfl⟩
      exact ⟨rfl, he⟩
    · rintro ⟨h1, h2⟩
      exact ⟨z.1, h2, by rw [← h1]⟩
  have := asc_ext (key a ha) (key b hb) (fun z => by rw [mem, mem, h z.1])
  have h2 := congrArg (List.map (·.1)) this
  rw [List.map_map, List.map_map] at h2
  have e : ∀ r : List Lb, r.map ((fun x : En => x.1) ∘ fun e => (e, ([] : List UInt8))) = r := fun r => by
    induction r with
    | nil => rfl
    | cons x r ih => rw [List.map_cons, ih]; rfl
  rw [e, e] at h2
  exact h2
theorem known_ris (ts : List Pt) : ((knownT ts).map (·.1)).Pairwise ltL := by
  rw [List.pairwise_map]
  exact mergeE_asc _ _ (by unfold Asc; simp)
theorem short_mem {ts : List Pt} {P : Lb → Prop} (h : ∀ t ∈ ts, ∀ x ∈ t.ls, P x) : ∀ x ∈ shortT ts, P x := fun x hx => by
  unfold shortT at hx
  split at hx
  · simp at hx
  · cases ha : atT ts (chT ts) with
    | none => rw [ha] at hx; simp at hx
    | some t =>
      rw [ha] at hx
      have ht : t ∈ ts := List.mem_of_find?_eq_some ha
      exact h t ht x (by simpa using hx)
theorem short_len {ts : List Pt} {n : Nat} (h : ∀ t ∈ ts, t.ls.length ≤ n) : (shortT ts).length ≤ n := by
  unfold shortT
  split
  · simp
  · cases ha : atT ts (chT ts) with
    | none => simp
    | some t => simpa using h t (List.mem_of_find?_eq_some ha)
theorem LR.own2 {w : World} {B n : Nat} {v : Value} {ls : List Lb} (h : w.ownsRow B 39 4 v n (flat ls)) : ∃ ao cap, v = .slice ao n cap ∧ LR w ao n ls ∧ (ao = none → n = 0 ∧ cap = 0) := by
  obtain ⟨ao, cap, hv, hL⟩ := LR.own h
  refine ⟨ao, cap, hv, hL, fun e => ?_⟩
  rcases id h.2 with ⟨hn, h3⟩ | ⟨g, cap', cur, hs, _⟩
  · rw [hn] at hv
    simp at hv
    exact ⟨h3, hv.2.2.symm⟩
  · rw [hs] at hv
    simp at hv
    rw [e] at hv
    simp at hv
set_option maxRecDepth 10000 in
set_option maxHeartbeats 2000000 in
theorem full_any (p : Nat → Prop) (w : World) (ao : Option Addr) (n cap : Nat) (ts : List Pt) (h : TL p w ao n ts) (hlen : (allT ts).length ≤ 5000) (hml : ∀ e ∈ allT ts, e.2.length ≤ 140737488355328) (hok : ∀ e ∈ allT ts, OkL e.1) (hll : ∀ t ∈ ts, t.ls.length ≤ 5000) (hlo : ∀ t ∈ ts, ∀ x ∈ t.ls, OkL x) :
    Calls Tryz.prog 109 #[.slice ao n cap] w fun e w' => ∃ v, e = .returned v ∧ w'.ownsRow w.heap.size 39 4 v (fullT ts).length (flat (fullT ts)) ∧ Below w.heap.size w w' := by
  have k1 := short_any p w ao n cap ts h hll
  have HSL : Hid ((shortT ts).length ≤ 5000) := short_len hll
  have HSO : Hid (∀ x ∈ shortT ts, OkL x) := short_mem hlo
  have HKO : Hid (∀ x ∈ (knownT ts).map (·.1), OkL x) := fun x hx => by
    obtain ⟨e, he, rfl⟩ := List.mem_map.1 hx
    rcases mergeE_mem _ _ e he with h | h
    · simp at h
    · exact hok e h
  have hkl : (knownT ts).length ≤ (allT ts).length := by have := mergeE_len (allT ts) []; unfold knownT; simpa using this
  go_enter Tryz.func109, Tryz.ntmps109
  go_wp2_with fail
  refine k1.mono ?_
  rintro e w1 ⟨v1, rfl, ho1, u1⟩
  obtain ⟨a1, c1, rfl, hL1, hz1⟩ := LR.own2 ho1
  have k2 := known_any p w1 ao n cap ts (h.bl u1) (by omega) hml
  clear k1 ho1
  go_wp2_with fail
  refine k2.mono ?_
  rintro e w2 ⟨v2, rfl, hO2, u2⟩
  obtain ⟨a2, c2, rfl, hz2, hE2⟩ := hO2.er2
  have k3 := labels_any _ w2 a2 (knownT ts).length c2 (knownT ts) hE2 (by omega)
  have u02 := bl_step u1 u2
  have hL2 := hL1.up u2
  clear k2 hO2 hz2 hL1
  go_wp2_with fail
  refine k3.mono ?_
  rintro e w3 ⟨v3, rfl, ho3, u3⟩
  obtain ⟨a3, c3, rfl, hL3, hz3⟩ := LR.own2 ho3
  have u03 := bl_step u02 u3
  have k4 := Q.behind_any w3 a1 (shortT ts).length c1 (shortT ts) (hL2.up u3) hz1 HSO.out a3 (knownT ts).length c3 ((knownT ts).map (·.1)) hL3 hz3 HKO.out HSL.out (by omega)
  clear k3 ho3 hE2
  go_wp2_with fail
  refine k4.mono ?_
  rintro e w4 ⟨v4, rs, rfl, hrs, hmem, ho4, u4⟩
  have hrs2 : rs = (knownT ts).map (·.1) := ris_ext (hrs.imp (fun h => (ltL_q _ _).1 h)) (known_ris ts) hmem
  subst hrs2
  have HO : Hid (w4.ownsRow w.heap.size 39 4 v4 (fullT ts).length (flat (fullT ts))) := by
    have e : (shortT ts).length + (out (shortT ts) ((knownT ts).map (·.1))).length = (fullT ts).length := by unfold fullT; rw [List.length_append]
    rw [e] at ho4
    exact own_base ho4 u03.size
  have uf := bl_step u03 u4
  clear k4 ho4 hrs hmem
  go_wp2
  go_ret
  exact ⟨v4, rfl, HO.out, uf⟩
end Go.Proofs.YtlaihgdfedalmaaGreat
