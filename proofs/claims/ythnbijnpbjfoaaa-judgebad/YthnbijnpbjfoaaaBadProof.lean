/-
  JudgeBad: traces of the statements' group with one event lost, doubled or changed are told to be those of one group just when the document says so. No condition.
-/
import Derived.Test.YthnbijnpbjfoaaaJTrA
import Derived.Test.YthnbijnpbjfoaaaJTrOk
import Derived.Test.YthnbijnpbjfoaaaJTr2
import Derived.Test.YthnbijnpbjfoaaaJAwake
namespace Go.Proofs.Ythnbijnpbjfoaaa.judgeBad
open Go.ChangeShapes Go.WideShapes Go.ChangeAt Go.RowKit Go.Deep
set_option linter.unusedVariables false

/-- What is known behind the switch. -/
structure Sw (w wx : World) (B g n k b cap i : Nat) (es : List Ev) (X : Nat → List Ev) (R' : Nat → Sr) (mid : List Ev) : Prop where
  tl : TL B wx g n (n + 1) R' (upd X n (es.take i ++ mid))
  rk : R' k = (some ⟨b, 0, none⟩, es.length, cap)
  ok : ∀ e ∈ mid, EvOk e
  ln : mid.length ≤ 2
  bl : Below w.heap.size w wx
theorem E6.up0 {w w' : World} {Q : Nat} {e : Ev} {t : Sr} (h : E6 w Q 0 e t) (u : Below w.heap.size w w') : E6 w' Q 0 e t := E6.up h u
theorem set6 {w : World} {Q i : Nat} {v : Value} {j : Nat} {u : Value} (h : w.cell? ⟨Q, j, none⟩ = some u) (hne : j ≠ i) : (w.setCell ⟨Q, i, none⟩ v).cell? ⟨Q, j, none⟩ = some u := setCell_other' (by first | (simp; done) | (simp; exact hne)) h
theorem same6 {w : World} {Q i : Nat} {v u : Value} (h : w.cell? ⟨Q, i, none⟩ = some u) : (w.setCell ⟨Q, i, none⟩ v).cell? ⟨Q, i, none⟩ = some v := World.cell?_setCell_same' _ _ _ (by rw [h]; rfl)
/-- One changed event. -/
theorem Sw.one {w w4 w5 : World} {B g n k b cap i : Nat} {es : List Ev} {X : Nat → List Ev} {R' : Nat → Sr} {e : Ev} {t : Sr} (h : Sw w w4 B g n k b cap i es X R' []) (hB : w.heap.size ≤ B) (hkn : k < n) (hi : i < es.length) (he : es.length ≤ 200) (hok : EvOk e) (hx : Cp t ∧ Rw (fun b => b < B) w4 t.1 t.2.1 e.m) (ht5 : TL B w5 g n (n + 1) R' (upd X n (es.take i ++ []))) (hb5 : Below w.heap.size w w5) (hk5 : Below B w4 w5) (A : World) (hA : A = w5.alloc (.cells #[.int .u8 (e.k : Nat), .int .u64 (e.n : Nat), .int .i64 e.p, .int .u16 (e.s : Nat), .int .i64 e.f, .slice t.1 t.2.1 t.2.2] 49)) :
    ∃ (r6 : Sr) (w6 : World), (Builtin.append_ #[41, 41] 41 #[slv (R' n), .slice (some ⟨w5.heap.size, 0, none⟩) 1 1]).run Try.prog A = .ok (slv r6) w6 ∧ Sw w w6 B g n k b cap i es X (upd R' n r6) [e] := by
  have uA : Below w5.heap.size w5 A := by rw [hA]; exact bl1 _ _
  have htA := ht5.up uA
  have hac := cell_one w5 (e, t)
  rw [← hA] at hac
  obtain ⟨r6, w6, h1, h2, h3, _⟩ := htA.side [(e, t)] (fun z hz => by
    rw [List.mem_singleton] at hz; subst hz
    exact ⟨hx.1, (hx.2.keep (Kp.below hk5 (fun _ hb => hb))).keep (Kp.up uA)⟩) (by rw [upd_same, List.append_nil, List.length_take]; simp only [List.length_singleton]; omega) 1 hac
  refine ⟨r6, w6, h1, ⟨?_, by rw [upd_ne _ _ (by omega)]; exact h.rk, fun e' he' => by rw [List.mem_singleton] at he'; subst he'; exact hok, by simp, (bl_step hb5 uA).trans (h3.mono hB)⟩⟩
  rw [upd_same, upd_upd, List.append_nil] at h2
  exact h2
/-- .. twice. -/
theorem Sw.two {w w4 : World} {B g n k b cap i : Nat} {es : List Ev} {X : Nat → List Ev} {R' : Nat → Sr} {e : Ev} {t : Sr} (h : Sw w w4 B g n k b cap i es X R' []) (hB : w.heap.size ≤ B) (hkn : k < n) (hi : i < es.length) (he : es.length ≤ 200) (hok : EvOk e) (hx : Cp t ∧ Rw (fun b => b < B) w4 t.1 t.2.1 e.m) (A : World) (hA : A = w4.alloc (.cells #[.int .u8 (e.k : Nat), .int .u64 (e.n : Nat), .int .i64 e.p, .int .u16 (e.s : Nat), .int .i64 e.f, .slice t.1 t.2.1 t.2.2, .int .u8 (e.k : Nat), .int .u64 (e.n : Nat), .int .i64 e.p, .int .u16 (e.s : Nat), .int .i64 e.f, .slice t.1 t.2.1 t.2.2] 49)) :
    ∃ (r6 : Sr) (w6 : World), (Builtin.append_ #[41, 41] 41 #[slv (R' n), .slice (some ⟨w4.heap.size, 0, none⟩) 2 2]).run Try.prog A = .ok (slv r6) w6 ∧ Sw w w6 B g n k b cap i es X (upd R' n r6) [e, e] := by
  have uA : Below w4.heap.size w4 A := by rw [hA]; exact bl1 _ _
  have htA := h.tl.up uA
  have hac := cell_two w4 (e, t)
  rw [← hA] at hac
  obtain ⟨r6, w6, h1, h2, h3, _⟩ := htA.side [(e, t), (e, t)] (fun z hz => by
    simp only [List.mem_cons, List.not_mem_nil, or_false, or_self] at hz; subst hz
    exact ⟨hx.1, hx.2.keep (Kp.up uA)⟩) (by rw [upd_same, List.append_nil, List.length_take]; simp only [List.length_cons, List.length_nil]; omega) 2 hac
  refine ⟨r6, w6, h1, ⟨?_, by rw [upd_ne _ _ (by omega)]; exact h.rk, fun e' he' => by simp only [List.mem_cons, List.not_mem_nil, or_false, or_self] at he'; subst he'; exact hok, by simp, (bl_step h.bl uA).trans (h3.mono hB)⟩⟩
  rw [upd_same, upd_upd, List.append_nil] at h2
  exact h2
/-- What an event of the statements' traces bears. -/
theorem traces_f {n : Nat} {runs : List Rn} (h1 : 1 ≤ n) (h6 : n ≤ 6) {q j : Nat} (hq : q ≤ min runs.length 6) {e : Ev} (he : e ∈ traceX n runs q j) : EvOk e ∧ 0 ≤ e.f ∧ e.f < 100 ∧ e.n ≤ 100 ∧ e.k ≤ 4 := by
  rw [traceX_gd] at he
  obtain ⟨r, hr, h⟩ := Gd.L_mem _ _ _ _ he
  have hi := (gdT_ok n runs h1 h6).inv e h
  refine ⟨segT_ok h1 h6 (by omega) h, ?_⟩
  have hg := gdT_ok n runs h1 h6
  have hx : runs[r]? = some (runs[r]'(by omega)) := List.getElem?_eq_getElem _
  generalize runs[r]'(by omega) = x at hx
  have hA : ∀ y ∈ allS n (vwF n r x) (snd10 x), 0 ≤ y.f ∧ y.f < (n : Int) := fun y hy => by
    have := allS_of (n := n) (by omega) hy
    exact ⟨this.2.1, this.2.2.1⟩
  have hnn : e.n ≤ 100 := by omega
  unfold Gd.seg at h
  split at h
  · rw [List.mem_cons, List.mem_append, List.mem_append] at h
    rcases h with rfl | h | h | h
    · exact ⟨by show (0 : Int) ≤ 0; omega, by show (0 : Int) < 100; omega, hnn, by show 1 ≤ 4; omega⟩
    · have hk := (hg.own r j e h).1
      rw [(gdT_some hx).2.2.1] at h
      unfold ownS at h
      obtain ⟨y, _, rfl⟩ := List.mem_map.1 h
      exact ⟨by show (0 : Int) ≤ 0; omega, by show (0 : Int) < 100; omega, hnn, by omega⟩
    · have hk := (hg.rcv r j e h).1
      rw [(gdT_some hx).2.2.2.1] at h
      have h2 := hA e (List.mem_of_mem_take h)
      exact ⟨h2.1, by omega, hnn, by omega⟩
    · have hk := (hg.saf r j e h).1
      rw [(gdT_some hx).2.2.2.2] at h
      split at h
      · obtain ⟨y, hy, rfl⟩ := List.mem_map.1 h
        have h2 := hA y (List.mem_of_mem_take hy)
        exact ⟨by show 0 ≤ y.f; omega, by show y.f < 100; omega, hnn, by omega⟩
      · cases h
  · cases h
set_option maxRecDepth 10000 in
set_option maxHeartbeats 8000000 in
theorem walk (w : World) (nb : Nat) (hnb : nb < 256) (ao : Option Addr) (N cap0 : Nat) (runs : List Rn) (h : RunsR w ao N runs) (hc : Cp (ao, N, cap0)) (who : Nat) (hwho : who < 256) (at_ : Nat) (hat : at_ < 256) (how : Nat) (hhow : how < 256) :
    Calls Try.prog 7 #[.int .u8 (nb : Nat), .slice ao N cap0, .int .u8 (who : Nat), .int .u8 (at_ : Nat), .int .u8 (how : Nat)] w fun e w' => e = .returned (.bool true) ∧ Below w.heap.size w w' := by
  have HI : Hid (RunsR w ao N runs) := h
  have hN42 : N ≤ 4398046511104 := h.2.1
  have hNr : runs.length = N := h.1
  clear h hc
  go_enter Try.func7, Try.ntmps7
  go_wp2_with fail
  refine (awake_any _).mono ?_
  rintro e w1 ⟨rfl, b1⟩
  have HB : Hid (Below w.heap.size w w1) := b1
  clear b1
  by_cases hn : N ≤ 6
  case neg =>
    have hnI : (N : Int) > 6 := by omega
    go_wp2_with fail
    refine (awake_any _).mono ?_
    rintro e w2 ⟨rfl, b2⟩
    have HE : Hid (Below w.heap.size w w2) := HB.out.trans (b2.mono HB.out.size)
    clear b2
    go_wp2
    go_ret
    exact ⟨rfl, HE.out⟩
  have hnI : ¬ ((N : Int) > 6) := by omega
  obtain ⟨n, hn0⟩ : ∃ n, 1 + nb % 6 = n := ⟨_, rfl⟩
  have hn1 : 1 ≤ n := by omega
  have hn6 : n ≤ 6 := by omega
  have hnn : 1 + (nb : Int) % 6 = (n : Int) := by omega
  have htr := traces_any w1 ao N cap0 runs (HI.out.keep HB.out) n hn1 hn6
  obtain ⟨X, hX⟩ : ∃ X, traceX n runs (min N 6) = X := ⟨_, rfl⟩
  have HX : Hid (traceX n runs (min N 6) = X ∧ (∀ j, (X j).length ≤ 190) ∧ ∀ j e, e ∈ X j → EvOk e ∧ 0 ≤ e.f ∧ e.f < 100 ∧ e.n ≤ 100 ∧ e.k ≤ 4) := by
    refine ⟨hX, fun j => ?_, fun j e he => ?_⟩
    · rw [← hX]
      have := traceX_len n runs (min N 6) j
      omega
    · rw [← hX] at he
      exact traces_f hn1 hn6 (by omega) he
  clear hX
  go_wp2_with fail
  refine htr.mono ?_
  rintro e w2 ⟨g, R, rfl, htl, b2⟩
  rw [HX.out.1] at htl
  obtain ⟨k, hk0⟩ : ∃ k, who % n = k := ⟨_, rfl⟩
  have hkn : k < n := by rw [← hk0]; exact Nat.mod_lt _ (by omega)
  have hkk : (who : Int) % (n : Int) = (k : Int) := by rw [← hk0]; simp
  have hknI : (k : Int) < (n : Int) := by omega
  have hk00 : ¬ ((k : Int) < 0) := by omega
  have hnI0 : ¬ ((n : Int) = 0) := by omega
  have HT : Hid (TL w1.heap.size w2 g n n R X ∧ Below w.heap.size w w2 ∧ w.heap.size ≤ w1.heap.size) := ⟨htl, HB.out.trans (b2.mono HB.out.size), HB.out.size⟩
  have hck := htl.cell k hkn
  have hrow := htl.row k hkn
  obtain ⟨es, hes⟩ : ∃ es, X k = es := ⟨_, rfl⟩
  rw [hes] at hrow
  obtain ⟨⟨ra, rn, rc⟩, hrk⟩ : ∃ r, R k = r := ⟨_, rfl⟩
  rw [hrk] at hrow hck
  replace hck : w2.cell? ⟨g, k, none⟩ = some (.slice ra rn rc) := hck
  have hrn : rn = es.length := hrow.1
  have he190 : es.length ≤ 190 := by rw [← hes]; exact HX.out.2.1 k
  have HK : Hid (X k = es ∧ R k = (ra, rn, rc) ∧ rn = es.length ∧ EvO w1.heap.size w2 (ra, rn, rc) es) := ⟨hes, hrk, hrn, hrow⟩
  have hrn190 : rn ≤ 190 := by omega
  clear hk0 htl b2 htr hrow hes hrk hrn he190
  by_cases h0 : rn = 0
  · have h0I : ((rn : Int) == 0) = true := by simp; omega
    go_wp2
    go_ret
    exact ⟨rfl, HT.out.2.1⟩
  have h0I : ((rn : Int) == 0) = false := by simp; omega
  obtain ⟨i, hi0⟩ : ∃ i, at_ % rn = i := ⟨_, rfl⟩
  have hirn : i < rn := by rw [← hi0]; exact Nat.mod_lt _ (by omega)
  have hii : (at_ : Int) % (rn : Int) = (i : Int) := by rw [← hi0]; simp
  have hiI : (i : Int) < (rn : Int) := by omega
  have hi00 : ¬ ((i : Int) < 0) := by omega
  have hrnI0 : ¬ ((rn : Int) = 0) := by omega
  obtain ⟨e, he⟩ : ∃ e, es[i]? = some e := ⟨es[i]'(by have := HK.out.2.2.1; omega), List.getElem?_eq_getElem _⟩
  obtain ⟨b, cap, ⟨ta, tn, tc⟩, hre, h6, hxok⟩ := HK.out.2.2.2.at he
  simp only [Prod.mk.injEq] at hre
  obtain ⟨rfl, -, hcap⟩ := hre
  obtain rfl : rc = cap := hcap
  obtain ⟨f1, f2, f3, f4, f5⟩ := HX.out.2.2 k e (by rw [HK.out.1]; exact List.mem_of_getElem? he)
  obtain ⟨w3, hw3⟩ : ∃ w3, w2.alloc (.cells #[.int .u8 (e.k : Nat), .int .u64 (e.n : Nat), .int .i64 e.p, .int .u16 (e.s : Nat), .int .i64 e.f, .slice ta tn tc] 49) = w3 := ⟨_, rfl⟩
  obtain ⟨Q, hQ⟩ : ∃ Q, w2.heap.size = Q := ⟨_, rfl⟩
  have u3 : Below w2.heap.size w2 w3 := by rw [← hw3]; exact bl1 _ _
  have hq6 : E6 w3 Q 0 e (ta, tn, tc) := by rw [← hw3, ← hQ]; exact e6_new w2 e (ta, tn, tc) 49
  have hs3 : w3.heap.size = Q + 1 := by rw [← hw3, ← hQ]; simp
  have ht3 := (HT.out.1.up u3).extend
  have hXk : upd X n [] k = es := by rw [upd_ne _ _ (by omega)]; exact HK.out.1
  have hRk : upd R n (none, 0, 0) k = (some ⟨b, 0, none⟩, rn, rc) := by rw [upd_ne _ _ (by omega)]; exact HK.out.2.1
  obtain ⟨r4, w4, hrun4, ht4, hb4, hg4, hat4⟩ := ht3.sideHead (m := i) hkn (by rw [hXk, ← HK.out.2.2.1]; omega) (by rw [upd_same, List.length_nil]; omega)
  rw [hRk, upd_same] at hrun4
  rw [hXk, upd_same, upd_upd, upd_upd, List.nil_append] at ht4
  rw [upd_same] at hg4 hat4
  have u4 : Below w3.heap.size w3 w4 := ⟨hg4.os, hg4.tape, hg4.output, hg4.size, fun j hj => hg4.block j hj (by simp [slv, Value.ownBlock])⟩
  have hq4 : E6 w4 Q 0 e (ta, tn, tc) := hq6.up u4
  have HQ : Hid ((∀ j, j < n + 1 → (slv (upd R n r4 j)).ownBlock ≠ some Q) ∧ Q ≠ g ∧ w1.heap.size ≤ Q) := by
    refine ⟨fun j hj => ?_, fun e' => ?_, by rw [← hQ]; exact HT.out.1.sz⟩
    · by_cases ej : j = n
      · subst ej
        rw [upd_same]
        intro hq
        rcases hat4 with h' | ⟨kk, h', hk'⟩
        · rw [h'] at hq; simp [slv, Value.ownBlock] at hq
        · rw [h'] at hq
          simp at hq
          omega
      · rw [upd_ne _ _ ej]
        intro hq
        have := ((HT.out.1.row j (by omega)).blk hq).2.1
        omega
    · have := HT.out.1.glt
      omega
  have HS4 : Hid (Sw w w4 w1.heap.size g n k b rc i es X (upd R n r4) []) := by
    refine ⟨by rw [List.append_nil]; exact ht4, by rw [upd_ne _ _ (by omega), HK.out.2.1, HK.out.2.2.1], by simp, by simp, bl_step (bl_step HT.out.2.1 u3) u4⟩
  have HQF : Hid (∃ cs, w4.heap[Q]? = some (.cells cs 49 (0, 0))) := by
    have h1 : w3.heap[Q]? = some (.cells #[.int .u8 (e.k : Nat), .int .u64 (e.n : Nat), .int .i64 e.p, .int .u16 (e.s : Nat), .int .i64 e.f, .slice ta tn tc] 49 (0, 0)) := by rw [← hw3, ← hQ]; exact heap_alloc_new _ _
    exact ⟨_, (u4.block Q (by omega)).trans h1⟩
  have HXO : Hid (EvOk e ∧ Cp (ta, tn, tc) ∧ Rw (fun b => b < w1.heap.size) w4 ta tn e.m ∧ i < es.length ∧ es.length ≤ 200) := ⟨f1, hxok.1, (hxok.2.keep (Kp.up u3)).keep (Kp.up u4), by have := HK.out.2.2.1; omega, by have := HK.out.2.2.1; omega⟩
  have HRUN4 : Hid ((Builtin.append_ #[41, 41] 41 #[.slice none 0 0, .slice (some ⟨b, 0, none⟩) i rc]).run Try.prog w3 = .ok (.slice r4.1 r4.2.1 r4.2.2) w4) := hrun4
  have hck3 := bl_cell u3 hck
  have hrc : rn ≤ rc := by have := HK.out.2.2.2.cp.1; exact this
  have hsl := fun W => slice_to41 W (some ⟨b, 0, none⟩) rn rc i (by omega) (fun a e => by cases e; rfl)
  obtain ⟨c, hc0⟩ : ∃ c, how % 6 = c := ⟨_, rfl⟩
  have hcc : (how : Int) % 6 = (c : Int) := by rw [← hc0]; simp
  have hc6 : c < 6 := by rw [← hc0]; exact Nat.mod_lt _ (by omega)
  have HN : Hid (1 ≤ n ∧ n ≤ 6) := ⟨hn1, hn6⟩
  clear hi0 he f1 hxok u3 hq6 hs3 ht3 hXk hRk hrun4 ht4 hb4 hg4 hat4 u4 hc0 hn0
  go_upto_region 9 with (refine wpList_load_Ev rfl (.tmp 54) rfl b (i * 6) rfl e (ta, tn, tc) h6 ?_)
  (try simp only [hw3, hQ])
  clear hw3 hQ h6 hck
  go_upto_block 0 with (at_builtin; refine wpList_append_runE rfl (.tmp 56) (.tmp 62) 41 rfl (.slice none 0 0) (.slice (some ⟨b, 0, none⟩) i rc) (.slice r4.1 r4.2.1 r4.2.2) w4 rfl rfl HRUN4.out ?_)
  (try simp only [hcc])
  clear hkk hii hcc
  obtain ⟨R4, hR4⟩ : ∃ R4, upd R n r4 = R4 := ⟨_, rfl⟩
  have HR4 : Hid (R4 n = r4) := by show R4 n = r4; rw [← hR4, upd_same]
  have HS : Hid (Sw w w4 w1.heap.size g n k b rc i es X R4 []) := by rw [← hR4]; exact HS4.out
  have HQR : Hid (∀ j, j < n + 1 → (slv (R4 j)).ownBlock ≠ some Q) := by rw [← hR4]; exact HQ.out.1
  clear hR4 HS4 HRUN4 hck3 hsl
  go_cut [15] from 66 to 119 (fun mv wx => ∃ (R' : Nat → Sr) (mid : List Ev), mv = .slice (R' n).1 (R' n).2.1 (R' n).2.2 ∧ Hid (Sw w wx w1.heap.size g n k b rc i es X R' mid))
  case first =>
    obtain ⟨x0, x1, x2, x3, x4, x5⟩ := hq4
    simp only [Nat.zero_add] at x0 x1 x2 x3 x4 x5
    have HE6 : Hid (E6 w4 Q 0 e (ta, tn, tc)) := ⟨by simpa using x0, by simpa using x1, by simpa using x2, by simpa using x3, by simpa using x4, by simpa using x5⟩
    obtain ⟨p4, hp4⟩ : ∃ p4, w4.heap.size = p4 := ⟨_, rfl⟩
    have hcs : c = 0 ∨ c = 1 ∨ c = 2 ∨ c = 3 ∨ c = 4 ∨ c = 5 := by omega
    have hfz : ∀ j, w4.frozen? ⟨Q, j, none⟩ = false := fun j => by
      obtain ⟨cs, hcs'⟩ := HQF.out
      simp [World.frozen?, hcs']
    rcases hcs with rfl | rfl | rfl | rfl | rfl | rfl
    · go_wp2_with fail
      go_meet
      exact ⟨R4, [], by rw [HR4.out], HS.out⟩
    · obtain ⟨A, hA⟩ : ∃ A, w4.alloc (.cells #[.int .u8 (e.k : Nat), .int .u64 (e.n : Nat), .int .i64 e.p, .int .u16 (e.s : Nat), .int .i64 e.f, .slice ta tn tc, .int .u8 (e.k : Nat), .int .u64 (e.n : Nat), .int .i64 e.p, .int .u16 (e.s : Nat), .int .i64 e.f, .slice ta tn tc] 49) = A := ⟨_, rfl⟩
      obtain ⟨r6, w6, hrun, hsw⟩ := HS.out.two HT.out.2.2 hkn HXO.out.2.2.2.1 HXO.out.2.2.2.2 HXO.out.1 ⟨HXO.out.2.1, HXO.out.2.2.1⟩ A hA.symm
      rw [HR4.out, hp4] at hrun
      have HRUN : Hid ((Builtin.append_ #[41, 41] 41 #[.slice r4.1 r4.2.1 r4.2.2, .slice (some ⟨p4, 0, none⟩) 2 2]).run Try.prog A = .ok (.slice r6.1 r6.2.1 r6.2.2) w6) := hrun
      have HSW : Hid (Sw w w6 w1.heap.size g n k b rc i es X (upd R4 n r6) [e, e]) := hsw
      have hqq := HE6.out
      clear hrun hsw
      go_wp2_with (first | refine wpList_load_Ev rfl (.tmp 14) rfl Q 0 rfl e (ta, tn, tc) hqq ?_ | (at_builtin; (try simp only [hA, hp4]); refine wpList_append_runE rfl (.tmp 68) (.tmp 71) 41 rfl (.slice r4.1 r4.2.1 r4.2.2) (.slice (some ⟨p4, 0, none⟩) 2 2) (.slice r6.1 r6.2.1 r6.2.2) w6 rfl rfl HRUN.out ?_))
      go_meet
      exact ⟨_, [e, e], by rw [upd_same], HSW.out⟩
    · obtain ⟨f', hf'⟩ : ∃ f', e.f + 1 = f' := ⟨_, rfl⟩
      have hw1 : IntKind.i64.wrap (e.f + 1) = f' := by rw [hf']; exact IntWalk.i64_in _ (by omega)
      obtain ⟨w5, hw5⟩ : ∃ w5, w4.setCell ⟨Q, 4, none⟩ (.int .i64 f') = w5 := ⟨_, rfl⟩
      have hqq : E6 w5 Q 0 { e with f := f' } (ta, tn, tc) := by rw [← hw5]; exact ⟨by simpa using set6 x0 (by omega), by simpa using set6 x1 (by omega), by simpa using set6 x2 (by omega), by simpa using set6 x3 (by omega), by simpa using same6 x4, by simpa using set6 x5 (by omega)⟩
      have ht5 := HS.out.tl.setQ (i := 4) (v := .int .i64 f') HQR.out HQ.out.2.1 HQ.out.2.2
      rw [hw5] at ht5
      have hb5 : Below w1.heap.size w4 w5 := by rw [← hw5]; exact TL.below (Below.refl _ _) HQ.out.2.2
      have hs5 : w5.heap.size = p4 := by rw [← hw5, ← hp4]; simp [World.setCell]
      obtain ⟨A, hA⟩ : ∃ A, w5.alloc (.cells #[.int .u8 (({ e with f := f' } : Ev).k : Nat), .int .u64 (({ e with f := f' } : Ev).n : Nat), .int .i64 ({ e with f := f' } : Ev).p, .int .u16 (({ e with f := f' } : Ev).s : Nat), .int .i64 ({ e with f := f' } : Ev).f, .slice ta tn tc] 49) = A := ⟨_, rfl⟩
      have hok : EvOk { e with f := f' } := by
        obtain ⟨o1, o2, o3, o4, o5, o6, o7⟩ := HXO.out.1
        exact ⟨by first | exact o1 | (show k' < 256; omega), by first | exact o2 | (show n' < _; omega), o3, o4, by first | exact o5 | exact hs16, by first | exact o6 | (show _ ≤ f'; omega), by first | exact o7 | (show f' ≤ _; omega)⟩
      obtain ⟨r6, w6, hrun, hsw⟩ := HS.out.one (e := { e with f := f' }) HT.out.2.2 hkn HXO.out.2.2.2.1 HXO.out.2.2.2.2 hok ⟨HXO.out.2.1, HXO.out.2.2.1⟩ ht5 (HS.out.bl.trans (hb5.mono HT.out.2.2)) hb5 A hA.symm
      rw [HR4.out, hs5] at hrun
      have HRUN : Hid ((Builtin.append_ #[41, 41] 41 #[.slice r4.1 r4.2.1 r4.2.2, .slice (some ⟨p4, 0, none⟩) 1 1]).run Try.prog A = .ok (.slice r6.1 r6.2.1 r6.2.2) w6) := hrun
      have HSW : Hid (Sw w w6 w1.heap.size g n k b rc i es X (upd R4 n r6) [{ e with f := f' }]) := hsw
      simp only at hA
      have hfz1 := hfz 4
      clear hrun hsw ht5 hb5 hok hfz
      go_wp2_with (first | refine wpList_load_Ev rfl (.tmp 14) rfl Q 0 rfl { e with f := f' } (ta, tn, tc) hqq ?_ | (at_builtin; (try simp only [hA, hs5]); refine wpList_append_runE rfl (.tmp 79) (.tmp 81) 41 rfl (.slice r4.1 r4.2.1 r4.2.2) (.slice (some ⟨p4, 0, none⟩) 1 1) (.slice r6.1 r6.2.1 r6.2.2) w6 rfl rfl HRUN.out ?_))
      go_meet
      exact ⟨_, [{ e with f := f' }], by rw [upd_same], HSW.out⟩
    · obtain ⟨k', hk'⟩ : ∃ k', e.k % 4 + 1 = k' := ⟨_, rfl⟩
      have hf' : (e.k : Int) % 4 + 1 = (k' : Int) := (by omega); have hw1 : IntKind.u8.wrap ((e.k : Int) % 4 + 1) = (k' : Int) := by rw [hf']; exact IntWalk.u8_in _ (by omega)
      obtain ⟨w5, hw5⟩ : ∃ w5, w4.setCell ⟨Q, 0, none⟩ (.int .u8 (k' : Nat)) = w5 := ⟨_, rfl⟩
      have hqq : E6 w5 Q 0 { e with k := k' } (ta, tn, tc) := by rw [← hw5]; exact ⟨by simpa using same6 x0, by simpa using set6 x1 (by omega), by simpa using set6 x2 (by omega), by simpa using set6 x3 (by omega), by simpa using set6 x4 (by omega), by simpa using set6 x5 (by omega)⟩
      have ht5 := HS.out.tl.setQ (i := 0) (v := .int .u8 (k' : Nat)) HQR.out HQ.out.2.1 HQ.out.2.2
      rw [hw5] at ht5
      have hb5 : Below w1.heap.size w4 w5 := by rw [← hw5]; exact TL.below (Below.refl _ _) HQ.out.2.2
      have hs5 : w5.heap.size = p4 := by rw [← hw5, ← hp4]; simp [World.setCell]
      obtain ⟨A, hA⟩ : ∃ A, w5.alloc (.cells #[.int .u8 (({ e with k := k' } : Ev).k : Nat), .int .u64 (({ e with k := k' } : Ev).n : Nat), .int .i64 ({ e with k := k' } : Ev).p, .int .u16 (({ e with k := k' } : Ev).s : Nat), .int .i64 ({ e with k := k' } : Ev).f, .slice ta tn tc] 49) = A := ⟨_, rfl⟩
      have hok : EvOk { e with k := k' } := by
        obtain ⟨o1, o2, o3, o4, o5, o6, o7⟩ := HXO.out.1
        exact ⟨by first | exact o1 | (show k' < 256; omega), by first | exact o2 | (show n' < _; omega), o3, o4, by first | exact o5 | exact hs16, by first | exact o6 | (show _ ≤ f'; omega), by first | exact o7 | (show f' ≤ _; omega)⟩
      obtain ⟨r6, w6, hrun, hsw⟩ := HS.out.one (e := { e with k := k' }) HT.out.2.2 hkn HXO.out.2.2.2.1 HXO.out.2.2.2.2 hok ⟨HXO.out.2.1, HXO.out.2.2.1⟩ ht5 (HS.out.bl.trans (hb5.mono HT.out.2.2)) hb5 A hA.symm
      rw [HR4.out, hs5] at hrun
      have HRUN : Hid ((Builtin.append_ #[41, 41] 41 #[.slice r4.1 r4.2.1 r4.2.2, .slice (some ⟨p4, 0, none⟩) 1 1]).run Try.prog A = .ok (.slice r6.1 r6.2.1 r6.2.2) w6) := hrun
      have HSW : Hid (Sw w w6 w1.heap.size g n k b rc i es X (upd R4 n r6) [{ e with k := k' }]) := hsw
      simp only at hA
      have hfz1 := hfz 0
      clear hrun hsw ht5 hb5 hok hfz
      go_wp2_with (first | refine wpList_load_Ev rfl (.tmp 14) rfl Q 0 rfl { e with k := k' } (ta, tn, tc) hqq ?_ | (at_builtin; (try simp only [hA, hs5]); refine wpList_append_runE rfl (.tmp 90) (.tmp 92) 41 rfl (.slice r4.1 r4.2.1 r4.2.2) (.slice (some ⟨p4, 0, none⟩) 1 1) (.slice r6.1 r6.2.1 r6.2.2) w6 rfl rfl HRUN.out ?_))
      go_meet
      exact ⟨_, [{ e with k := k' }], by rw [upd_same], HSW.out⟩
    · obtain ⟨n', hn'⟩ : ∃ n', e.n + 1 = n' := ⟨_, rfl⟩
      have hf' : (e.n : Int) + 1 = (n' : Int) := (by omega); have hw1 : IntKind.u64.wrap ((e.n : Int) + 1) = (n' : Int) := by rw [hf']; exact IntWalk.u64_in _ (by omega)
      obtain ⟨w5, hw5⟩ : ∃ w5, w4.setCell ⟨Q, 1, none⟩ (.int .u64 (n' : Nat)) = w5 := ⟨_, rfl⟩
      have hqq : E6 w5 Q 0 { e with n := n' } (ta, tn, tc) := by rw [← hw5]; exact ⟨by simpa using set6 x0 (by omega), by simpa using same6 x1, by simpa using set6 x2 (by omega), by simpa using set6 x3 (by omega), by simpa using set6 x4 (by omega), by simpa using set6 x5 (by omega)⟩
      have ht5 := HS.out.tl.setQ (i := 1) (v := .int .u64 (n' : Nat)) HQR.out HQ.out.2.1 HQ.out.2.2
      rw [hw5] at ht5
      have hb5 : Below w1.heap.size w4 w5 := by rw [← hw5]; exact TL.below (Below.refl _ _) HQ.out.2.2
      have hs5 : w5.heap.size = p4 := by rw [← hw5, ← hp4]; simp [World.setCell]
      obtain ⟨A, hA⟩ : ∃ A, w5.alloc (.cells #[.int .u8 (({ e with n := n' } : Ev).k : Nat), .int .u64 (({ e with n := n' } : Ev).n : Nat), .int .i64 ({ e with n := n' } : Ev).p, .int .u16 (({ e with n := n' } : Ev).s : Nat), .int .i64 ({ e with n := n' } : Ev).f, .slice ta tn tc] 49) = A := ⟨_, rfl⟩
      have hok : EvOk { e with n := n' } := by
        obtain ⟨o1, o2, o3, o4, o5, o6, o7⟩ := HXO.out.1
        exact ⟨by first | exact o1 | (show k' < 256; omega), by first | exact o2 | (show n' < _; omega), o3, o4, by first | exact o5 | exact hs16, by first | exact o6 | (show _ ≤ f'; omega), by first | exact o7 | (show f' ≤ _; omega)⟩
      obtain ⟨r6, w6, hrun, hsw⟩ := HS.out.one (e := { e with n := n' }) HT.out.2.2 hkn HXO.out.2.2.2.1 HXO.out.2.2.2.2 hok ⟨HXO.out.2.1, HXO.out.2.2.1⟩ ht5 (HS.out.bl.trans (hb5.mono HT.out.2.2)) hb5 A hA.symm
      rw [HR4.out, hs5] at hrun
      have HRUN : Hid ((Builtin.append_ #[41, 41] 41 #[.slice r4.1 r4.2.1 r4.2.2, .slice (some ⟨p4, 0, none⟩) 1 1]).run Try.prog A = .ok (.slice r6.1 r6.2.1 r6.2.2) w6) := hrun
      have HSW : Hid (Sw w w6 w1.heap.size g n k b rc i es X (upd R4 n r6) [{ e with n := n' }]) := hsw
      simp only at hA
      have hfz1 := hfz 1
      clear hrun hsw ht5 hb5 hok hfz
      go_wp2_with (first | refine wpList_load_Ev rfl (.tmp 14) rfl Q 0 rfl { e with n := n' } (ta, tn, tc) hqq ?_ | (at_builtin; (try simp only [hA, hs5]); refine wpList_append_runE rfl (.tmp 104) (.tmp 106) 41 rfl (.slice r4.1 r4.2.1 r4.2.2) (.slice (some ⟨p4, 0, none⟩) 1 1) (.slice r6.1 r6.2.1 r6.2.2) w6 rfl rfl HRUN.out ?_))
      go_meet
      exact ⟨_, [{ e with n := n' }], by rw [upd_same], HSW.out⟩
    · obtain ⟨s', hs'⟩ : ∃ s', e.s ^^^ 1 = s' := ⟨_, rfl⟩
      have hs16 : s' < 65536 := (by rw [← hs']; exact Nat.xor_lt_two_pow (n := 16) (by have := HXO.out.1.2.2.2.2.1; omega) (by omega)); have hw1 : bits .xor .u16 (e.s : Int) 1 = (s' : Int) := by rw [← hs']; exact u16_xor_nat e.s 1 (by have := HXO.out.1.2.2.2.2.1; omega) (by omega)
      obtain ⟨w5, hw5⟩ : ∃ w5, w4.setCell ⟨Q, 3, none⟩ (.int .u16 (s' : Nat)) = w5 := ⟨_, rfl⟩
      have hqq : E6 w5 Q 0 { e with s := s' } (ta, tn, tc) := by rw [← hw5]; exact ⟨by simpa using set6 x0 (by omega), by simpa using set6 x1 (by omega), by simpa using set6 x2 (by omega), by simpa using same6 x3, by simpa using set6 x4 (by omega), by simpa using set6 x5 (by omega)⟩
      have ht5 := HS.out.tl.setQ (i := 3) (v := .int .u16 (s' : Nat)) HQR.out HQ.out.2.1 HQ.out.2.2
      rw [hw5] at ht5
      have hb5 : Below w1.heap.size w4 w5 := by rw [← hw5]; exact TL.below (Below.refl _ _) HQ.out.2.2
      have hs5 : w5.heap.size = p4 := by rw [← hw5, ← hp4]; simp [World.setCell]
      obtain ⟨A, hA⟩ : ∃ A, w5.alloc (.cells #[.int .u8 (({ e with s := s' } : Ev).k : Nat), .int .u64 (({ e with s := s' } : Ev).n : Nat), .int .i64 ({ e with s := s' } : Ev).p, .int .u16 (({ e with s := s' } : Ev).s : Nat), .int .i64 ({ e with s := s' } : Ev).f, .slice ta tn tc] 49) = A := ⟨_, rfl⟩
      have hok : EvOk { e with s := s' } := by
        obtain ⟨o1, o2, o3, o4, o5, o6, o7⟩ := HXO.out.1
        exact ⟨by first | exact o1 | (show k' < 256; omega), by first | exact o2 | (show n' < _; omega), o3, o4, by first | exact o5 | exact hs16, by first | exact o6 | (show _ ≤ f'; omega), by first | exact o7 | (show f' ≤ _; omega)⟩
      obtain ⟨r6, w6, hrun, hsw⟩ := HS.out.one (e := { e with s := s' }) HT.out.2.2 hkn HXO.out.2.2.2.1 HXO.out.2.2.2.2 hok ⟨HXO.out.2.1, HXO.out.2.2.1⟩ ht5 (HS.out.bl.trans (hb5.mono HT.out.2.2)) hb5 A hA.symm
      rw [HR4.out, hs5] at hrun
      have HRUN : Hid ((Builtin.append_ #[41, 41] 41 #[.slice r4.1 r4.2.1 r4.2.2, .slice (some ⟨p4, 0, none⟩) 1 1]).run Try.prog A = .ok (.slice r6.1 r6.2.1 r6.2.2) w6) := hrun
      have HSW : Hid (Sw w w6 w1.heap.size g n k b rc i es X (upd R4 n r6) [{ e with s := s' }]) := hsw
      simp only at hA
      have hfz1 := hfz 3
      clear hrun hsw ht5 hb5 hok hfz
      go_wp2_with (first | refine wpList_load_Ev rfl (.tmp 14) rfl Q 0 rfl { e with s := s' } (ta, tn, tc) hqq ?_ | (at_builtin; (try simp only [hA, hs5]); refine wpList_append_runE rfl (.tmp 116) (.tmp 118) 41 rfl (.slice r4.1 r4.2.1 r4.2.2) (.slice (some ⟨p4, 0, none⟩) 1 1) (.slice r6.1 r6.2.1 r6.2.2) w6 rfl rfl HRUN.out ?_))
      go_meet
      exact ⟨_, [{ e with s := s' }], by rw [upd_same], HSW.out⟩
  case rest =>
    obtain ⟨R', mid, rfl, HSW⟩ := hcut
    have hX5 : upd X n (es.take i ++ mid) k = es := by rw [upd_ne _ _ (by omega)]; exact HK.out.1
    have hin := HXO.out.2.2.2.1
    have hes := HXO.out.2.2.2.2
    have hm2 := HSW.out.ln
    obtain ⟨r6, w6, hrun6, ht6, hb6⟩ := HSW.out.tl.sideTail (m := i + 1) (b := b) (cap := rc) hkn (by rw [hX5]; omega) (by rw [upd_same, hX5, List.length_append, List.length_take]; omega) (by rw [hX5]; exact HSW.out.rk)
    rw [upd_same, hX5, upd_upd] at ht6
    rw [hX5, ← HK.out.2.2.1] at hrun6
    obtain ⟨j1, hj1⟩ : ∃ j1, i + 1 = j1 := ⟨_, rfl⟩
    have hj1I : (i : Int) + 1 = (j1 : Int) := by omega
    rw [hj1] at hrun6 ht6
    have hsl := fun W => slice_from41 W b 0 rn rc j1 (by omega) hrc
    obtain ⟨ad, had⟩ : ∃ ad : Addr, (if rc = j1 then (⟨b, 0, none⟩ : Addr) else ⟨b, 0 + j1 * 6, none⟩) = ad := ⟨_, rfl⟩
    rw [had] at hrun6
    simp only [had] at hsl
    obtain ⟨l2, hl2⟩ : ∃ l2, rn - j1 = l2 := ⟨_, rfl⟩
    obtain ⟨c2, hc2⟩ : ∃ c2, rc - j1 = c2 := ⟨_, rfl⟩
    rw [hl2, hc2] at hrun6
    simp only [hl2, hc2] at hsl
    have hck := HSW.out.tl.cell k hkn
    rw [HSW.out.rk, ← HK.out.2.2.1] at hck
    replace hck : wc.cell? ⟨g, k, none⟩ = some (.slice (some ⟨b, 0, none⟩) rn rc) := hck
    have g6 := ht6.cell k hkn
    have f6 := ht6.fz k
    have ht7 := ht6.move hkn
    have hw6 : (upd R' n r6) n = r6 := upd_same _ _ _
    rw [hw6, upd_same] at ht7
    obtain ⟨w7, hw7⟩ : ∃ w7, w6.setCell ⟨g, k, none⟩ (.slice r6.1 r6.2.1 r6.2.2) = w7 := ⟨_, rfl⟩
    have ht7 : TL w1.heap.size w7 g n n (upd (upd R' n r6) k r6) (upd (upd X n (es.take i ++ mid ++ es.drop j1)) k (es.take i ++ mid ++ es.drop j1)) := by rw [← hw7]; exact ht7
    have hb7 : Below w.heap.size w w7 := by
      rw [← hw7]
      exact TL.below ((HSW.out.bl).trans (hb6.mono HT.out.2.2)) (Nat.le_trans HT.out.2.2 ht6.gB)
    obtain ⟨X7, hX7⟩ : ∃ X7, upd (upd X n (es.take i ++ mid ++ es.drop j1)) k (es.take i ++ mid ++ es.drop j1) = X7 := ⟨_, rfl⟩
    rw [hX7] at ht7
    have hat : ∀ j, j < n → (j = k ∧ X7 j = es.take i ++ mid ++ es.drop j1) ∨ X7 j = X j := fun j hj => by
      by_cases e' : j = k
      · subst e'; exact .inl ⟨rfl, by rw [← hX7, upd_same]⟩
      · exact .inr (by rw [← hX7, upd_ne _ _ e', upd_ne _ _ (by omega)])
    have hlen : ∀ j, j < n → (X7 j).length ≤ 400 := fun j hj => by
      rcases hat j hj with ⟨_, e'⟩ | e'
      · rw [e', List.length_append, List.length_append, List.length_take, List.length_drop]; omega
      · rw [e']; have := HX.out.2.1 j; omega
    have hok : ∀ fs ∈ (List.range n).map X7, ∀ y ∈ fs, EvOk y := fun fs hfs y hy => by
      obtain ⟨j, hj, rfl⟩ := List.mem_map.1 hfs
      have hjn : j < n := by simpa using hj
      rcases hat j hjn with ⟨_, e'⟩ | e'
      · rw [e', List.mem_append, List.mem_append] at hy
        rcases hy with (hy | hy) | hy
        · exact (HX.out.2.2 k y (by rw [HK.out.1]; exact List.mem_of_mem_take hy)).1
        · exact HSW.out.ok y hy
        · exact (HX.out.2.2 k y (by rw [HK.out.1]; exact List.mem_of_mem_drop hy)).1
      · rw [e'] at hy; exact (HX.out.2.2 j y hy).1
    have hsum : (((List.range n).map X7).map List.length).sum ≤ 9000 := by
      have h1 := sum_le_mul (l := ((List.range n).map X7).map List.length) (c := 400) (fun x hx => by
        obtain ⟨fs, hfs, rfl⟩ := List.mem_map.1 hx
        obtain ⟨j, hj, rfl⟩ := List.mem_map.1 hfs
        exact hlen j (by simpa using hj))
      have hl : (((List.range n).map X7).map List.length).length = n := by simp
      rw [hl] at h1
      have : n * 400 ≤ 6 * 400 := Nat.mul_le_mul_right _ HN.out.2
      omega
    have h9 : ∀ fs ∈ (List.range n).map X7, fs.length ≤ 9000 := fun fs hfs => by
      have := len_le_sum hfs
      omega
    have hev := ht7.evs (by have := HN.out.2; omega) (fun j hj => by have := hlen j hj; omega)
    have hvw := views_any w7 (some ⟨g, 0, none⟩) n n ((List.range n).map X7) hev.lt hok hsum
    have hdw := fun W (u : Below w7.heap.size w7 W) => refViews19_any W (fun _ => True) (some ⟨g, 0, none⟩) n n ((List.range n).map X7) (hev.keep u (Kp.up u)) hok h9 (by have := HN.out.2; omega)
    have HF : Hid ((∀ fs ∈ (List.range n).map X7, ∀ y ∈ fs, EvOk y) ∧ Below w.heap.size w w7) := ⟨hok, hb7⟩
    have HRUN6 : Hid ((Builtin.append_ #[41, 41] 41 #[.slice (R' n).1 (R' n).2.1 (R' n).2.2, .slice (some ad) l2 c2]).run Try.prog wc = .ok (.slice r6.1 r6.2.1 r6.2.2) w6) := hrun6
    have g6 : ∃ v, w6.cell? ⟨g, k, none⟩ = some v := ⟨_, g6⟩
    obtain ⟨v6, g6⟩ := g6
    clear hrun6 ht6 hb6 ht7 hw6 hX7 hat hlen hok hsum h9 hev hX5 hj1 had hl2 hc2 hb7 hin hes hm2
    go_upto_region 27 with (at_builtin; refine wpList_append_runE rfl (.tmp 122) (.tmp 129) 41 rfl (.slice (R' n).1 (R' n).2.1 (R' n).2.2) (.slice (some ad) l2 c2) (.slice r6.1 r6.2.1 r6.2.2) w6 rfl rfl HRUN6.out ?_)
    (try simp only [hw7])
    clear hw7
    go_wp2_with fail
    refine hvw.mono ?_
    rintro e' w8 ⟨a, rfl, ha, b8⟩
    have HA : Hid (ViewsR ((List.range n).map X7) a ∧ Below w7.heap.size w7 w8) := ⟨ha, b8⟩
    clear ha b8 hvw
    go_wp2_with fail
    refine (hdw _ HA.out.2).mono ?_
    rintro e' w9 ⟨⟨c', rfl, hc'⟩, b9⟩
    obtain rfl := views_same HF.out.1 HA.out.1 hc'
    have HE : Hid (Below w.heap.size w w9) := HF.out.2.trans ((HA.out.2.trans (b9.mono HA.out.2.size)).mono HF.out.2.size)
    clear hc' b9 hdw
    go_wp2
    go_ret
    exact ⟨by simp, HE.out⟩

set_option maxRecDepth 100000 in
theorem lifted (os : Os) (started : os.Started) (H : Type) (enc : TypeId × Value → H) :
    ReturnsInHanded {} Try.checked os 7 .any (Rows.judgeBadSpec.pre6 enc Try.prog Try.f7 Rows.judgeBadRow.domain false) (Rows.judgeBadSpec.post enc Try.prog Try.f7 false true false false) := by
  refine returnsInHanded_of_change_sized (C := Try.checked) own started (by kernel_rfl) Try.func7
    (ChangeSpec.witness6 (enc := enc) (C := Try.checked) false ⟨#[], #[.int .u8 0, .slice none 0 0, .int .u8 0, .int .u8 0, .int .u8 0], []⟩ 12 (by kernel_rfl) (by kernel_rfl) (by kernel_rfl) (by kernel_rfl)) ?_
  intro W base args ds gs before hval0 hW hcnd hsz0 _
  have hsz : (DataW.weightsEach Try.prog (Try.f7.params.toList ++ Rows.judgeBadSpec.plain.varTypes Try.prog) (ds ++ gs)).all (· ≤ reachBytes) = true := hsz0
  have hval : ∀ (j : Nat) t v, Try.f7.params[j]? = some t → args[j]? = some v → Value.okWide Try.prog W .any base t v := hval0
  have hW' := hW
  obtain ⟨p, q, hA0, hV, rfl, hfz, hnd⟩ := hW
  have hA : DataW.TrodAll enc Try.prog W 0 (fun _ => true) true Try.f7.params.toList args.toList ds p := hA0
  rw [Try.params7] at hA hval hsz
  obtain ⟨v0, vs0, d0, ds0, p0, q0, hargs0, rfl, rfl, h0, r0⟩ := trodAll_cons hA
  obtain ⟨v1, vs1, d1, ds1, p1, q1, hargs1, rfl, rfl, h1, r1⟩ := trodAll_cons r0
  obtain ⟨v2, vs2, d2, ds2, p2, q2, hargs2, rfl, rfl, h2, r2⟩ := trodAll_cons r1
  obtain ⟨v3, vs3, d3, ds3, p3, q3, hargs3, rfl, rfl, h3, r3⟩ := trodAll_cons r2
  obtain ⟨v4, vs4, d4, ds4, p4, q4, hargs4, rfl, rfl, h4, r4⟩ := trodAll_cons r3
  obtain ⟨rfl, rfl, rfl⟩ := trodAll_nil r4
  obtain rfl : args = #[v0, v1, v2, v3, v4] := by cases args; simp_all
  obtain ⟨rfl, rfl⟩ := trodVars_none hV
  obtain ⟨a0, rfl, rfl, rfl, w0⟩ := open_int Try.underlying5 (hval 0 5 v0 rfl rfl) h0
  obtain ⟨a1, len1, cap1, rfl⟩ := okWide_slice Try.underlying38 (hval 1 38 v1 rfl rfl)
  have k1 := h1
  have lt1 : ∀ x ∈ p1, x.block < W.heap.size := by obtain ⟨m, hm⟩ := k1; exact DataW.trod_lt m _ _ _ hm
  obtain ⟨xs1, hx1, hc1⟩ := open_runs h1 (fits_of hsz (j := 1) rfl rfl)
  obtain ⟨a2, rfl, rfl, rfl, w2⟩ := open_int Try.underlying5 (hval 2 5 v2 rfl rfl) h2
  obtain ⟨a3, rfl, rfl, rfl, w3⟩ := open_int Try.underlying5 (hval 3 5 v3 rfl rfl) h3
  obtain ⟨a4, rfl, rfl, rfl, w4⟩ := open_int Try.underlying5 (hval 4 5 v4 rfl rfl) h4
  clear hA0 hval0 hsz hsz0
  obtain ⟨n0, rfl, hn0⟩ := u8_of_wf w0
  obtain ⟨n2, rfl, hn2⟩ := u8_of_wf w2
  obtain ⟨n3, rfl, hn3⟩ := u8_of_wf w3
  obtain ⟨n4, rfl, hn4⟩ := u8_of_wf w4
  refine (walk W n0 hn0 a1 len1 cap1 xs1 hx1 hc1 n2 hn2 n3 hn3 n4 hn4).mono fun e W' ⟨he, bel⟩ => ?_
  subst he
  exact ⟨_, rfl, _, _, _, [], _, [], hW', trodAll_mk1 (shut_bool Try.underlying4 _), (trodAll_cons_mk (shut_int Try.underlying5 w0) (trodAll_cons_mk (Below.trod laidOut (by kernel_rfl) (of_decide_eq_true (by kernel_rfl)) k1 bel lt1) (trodAll_cons_mk (shut_int Try.underlying5 w2) (trodAll_cons_mk (shut_int Try.underlying5 w3) (trodAll_cons_mk (shut_int Try.underlying5 w4) trodAll_mk0))))), rfl, bel.frame _, fun h => by cases h⟩

theorem over : Rows.judgeBadRow.holds Try.pinned (OpenSpec.ofChange Rows.judgeBadSpec) :=
  OpenClaim.holds_of_wide 7 Try.f7 rfl rfl rfl rfl rfl rfl rfl ⟨rfl, rfl, rfl, rfl, rfl⟩ rfl rfl rfl rfl rfl (by kernel_rfl) Try.func7 (by kernel_rfl)
    (of_decide_eq_true (by kernel_rfl)) (by unfold Func.isWrapper; first | (rw [if_pos (by decide +kernel)]; kernel_rfl) | (rw [if_neg (by decide +kernel)]; exact ⟨rfl, rfl⟩))
    (fun os started H enc _ => lifted os started H enc)

end Go.Proofs.Ythnbijnpbjfoaaa.judgeBad
namespace Go.Proofs.Ythnbijnpbjfoaaa
theorem judgeBad_holds : Rows.JudgeBadSaid := judgeBad.over
#print axioms judgeBad_holds
end Go.Proofs.Ythnbijnpbjfoaaa
