/-
  JudgeMixes: messages mixed in any way, with each node's in their order, and delivered up to anywhere, are one sequence for judge.Total, and it is the one; with two unlike neighbours of one node turned about they aren't. For any lists; no condition but the form's reach.
-/
import Derived.Test.YthnbijnpbjfoaaaJItems
import Derived.Test.YthnbijnpbjfoaaaJAwake
import Derived.Test.YthnbijnpbjfoaaaJArgs
import Derived.Test.YthnbijnpbjfoaaaJOwnP
import Derived.BigRegion
namespace Go.Proofs.Ythnbijnpbjfoaaa.judgeMixes
open Go.ChangeShapes Go.WideShapes Go.ChangeAt Go.RowKit Go.Deep
set_option linter.unusedVariables false

theorem told_snoc {S : List Di} {acc : List (List By)} {k : Nat} {m : By} {own : List By} (h : Told S acc) (ho : acc[k]? = some own) (hm : own[cnt S (k : Int)]? = some m) : Told (S ++ [((k : Int), m)]) acc := fun j d hd => by
  by_cases hj : j < S.length
  · rw [List.getElem?_append_left hj] at hd
    obtain ⟨a, o, b, c⟩ := h j d hd
    exact ⟨a, o, b, by rw [List.take_append_of_le_length (by omega)]; exact c⟩
  · have hl := (List.getElem?_eq_some_iff.1 hd).1
    simp at hl
    have : j = S.length := by omega
    subst this
    rw [List.getElem?_append_right (by omega)] at hd
    simp at hd
    subst hd
    refine ⟨by simp, own, by simpa using ho, ?_⟩
    rw [List.take_append_of_le_length (by omega), List.take_length]
    exact hm
theorem set_grown {w : World} {r i : Nat} (v : Value) : w.grownBy (w.setCell ⟨r, i, none⟩ v) (some r) :=
  ⟨rfl, rfl, rfl, by simp [World.setCell], fun k _ hne => heap_setCell_other _ _ _ _ (fun e => hne (by rw [e]))⟩
theorem told_nil (acc : List (List By)) : Told [] acc := fun k d hd => by simp at hd
theorem take_set {α : Type} {l : List α} {i k : Nat} {a : α} (h : i ≤ k) : (l.set k a).take i = l.take i := by
  apply List.ext_getElem?
  intro j
  rw [List.getElem?_take, List.getElem?_take]
  by_cases hj : j < i
  · rw [if_pos hj, if_pos hj, List.getElem?_set_ne (by omega)]
  · rw [if_neg hj, if_neg hj]
theorem swap_no {acc : List (List By)} {S : List Di} {k k1 : Nat} {f : Int} {xx yy : By} (ht : Told S acc) (hd : S[k]? = some (f, xx)) (hd' : S[k1]? = some (f, yy)) (hk : k + 1 = k1) (hne : xx ≠ yy) : ¬ ∃ T, SeqOk acc [(S.set k (f, yy)).set k1 (f, xx)] T := by
  rintro ⟨T, h1, h2, h3⟩
  have hkl := (List.getElem?_eq_some_iff.1 hd).1
  have hT : T = (S.set k (f, yy)).set k1 (f, xx) := by
    have hp := h1 _ (List.mem_singleton.2 rfl)
    rcases h2 with rfl | h2
    · have := hp.length_le
      simp at this
      rw [this] at hkl
      simp at hkl
    · exact List.mem_singleton.1 h2
  subst hT
  have hy : ((S.set k (f, yy)).set k1 (f, xx))[k]? = some (f, yy) := by
    rw [List.getElem?_set_ne (by omega), List.getElem?_set_self hkl]
  obtain ⟨_, own, a, b⟩ := h3 k _ hy
  obtain ⟨_, own', a', b'⟩ := ht k _ hd
  simp only at a a' b b'
  rw [a] at a'
  cases a'
  rw [take_set (by omega), take_set (Nat.le_refl _)] at b
  rw [b] at b'
  exact hne (by simpa using b'.symm)
/-- What the append reads. -/
def M10 (b o i : Nat) (q : Sr) (g : Nat) (c : Nat) (b2 o2 : Nat) (t : Sr) (w : World) : Prop :=
  w.cell? ⟨b, o + i, none⟩ = some (.slice q.1 q.2.1 q.2.2) ∧ w.cell? ⟨g, i, none⟩ = some (.int .i64 (c : Nat)) ∧ w.cell? ⟨b2, o2 + c, none⟩ = some (.slice t.1 t.2.1 t.2.2)
theorem M10.up {b o i : Nat} {q : Sr} {g : Nat} {c : Nat} {b2 o2 : Nat} {t : Sr} {w w' : World} (h : M10 b o i q g c b2 o2 t w) (u : Below w.heap.size w w') : M10 b o i q g c b2 o2 t w' := ⟨bl_cell u h.1, bl_cell u h.2.1, bl_cell u h.2.2⟩

set_option maxRecDepth 10000 in
set_option maxHeartbeats 8000000 in
theorem walk (w : World) (ao : Option Addr) (n cap : Nat) (acc : List (List By)) (h : Bss w ao n acc) (hc : Cp (ao, n, cap)) (po : Option Addr) (pn pc : Nat) (picks : By) (hp : Rw (fun _ => True) w po pn picks) (pcp : Cp (po, pn, pc)) (eo : Option Addr) (en ec : Nat) (ends : By) (he : Rw (fun _ => True) w eo en ends) (ecp : Cp (eo, en, ec)) (turn : Nat) (ht : turn < 256) :
    Calls Try.prog 4 #[.slice ao n cap, .slice po pn pc, .slice eo en ec, .int .u8 (turn : Nat)] w fun e w' => e = .returned (.bool true) ∧ Below w.heap.size w w' := by
  have hl := h.len
  have hm := h.le
  have hpl := hp.1
  have hel := he.1
  have hpm := hp.2.1
  have HI : Hid (Bss w ao n acc ∧ Rw (fun _ => True) w po pn picks ∧ Rw (fun _ => True) w eo en ends) := ⟨h, hp, he⟩
  clear h hp he hc pcp ecp
  go_enter Try.func4, Try.ntmps4
  go_wp2_with fail
  refine (awake_any _).mono ?_
  rintro e w1 ⟨rfl, b1⟩
  have HB : Hid (Below w.heap.size w w1) := b1
  clear b1
  by_cases hn0 : n = 0
  case pos =>
    subst hn0
    go_wp2_with fail
    refine (awake_any _).mono ?_
    rintro e w2 ⟨rfl, b2⟩
    have HE : Hid (Below w.heap.size w w2) := HB.out.trans (b2.mono HB.out.size)
    clear b2
    go_wp2
    go_ret
    exact ⟨rfl, HE.out⟩
  have hn0I : ((n : Int) == 0) = false := by simp; omega
  by_cases hn : n ≤ 8
  case neg =>
    have hnI : (n : Int) > 8 := by omega
    go_wp2_with fail
    refine (awake_any _).mono ?_
    rintro e w2 ⟨rfl, b2⟩
    have HE : Hid (Below w.heap.size w w2) := HB.out.trans (b2.mono HB.out.size)
    clear b2
    go_wp2
    go_ret
    exact ⟨rfl, HE.out⟩
  have hnI : ¬ ((n : Int) > 8) := by omega
  by_cases hen : en ≤ 8
  case neg =>
    have hmI : (en : Int) > 8 := by omega
    go_wp2_with fail
    refine (awake_any _).mono ?_
    rintro e w2 ⟨rfl, b2⟩
    have HE : Hid (Below w.heap.size w w2) := HB.out.trans (b2.mono HB.out.size)
    clear b2
    go_wp2
    go_ret
    exact ⟨rfl, HE.out⟩
  have henI : ¬ ((en : Int) > 8) := by omega
  have hmk := make31 n (by omega)
  have hc0 := Cnt.made w1 n
  obtain ⟨w2, hw2⟩ : ∃ w2, w1.alloc (.cells (madeCells #[.int .i64 0] n) 3) = w2 := ⟨_, rfl⟩
  rw [hw2] at hc0
  have u2 : Below w1.heap.size w1 w2 := by rw [← hw2]; exact bl1 _ _
  have hz2 : w2.heap.size = w1.heap.size + 1 := by rw [← hw2]; simp
  obtain ⟨G, hG⟩ : ∃ G, w1.heap.size = G := ⟨_, rfl⟩
  have HG : Hid (w1.heap.size = G) := hG
  simp only [hG] at hc0 hmk hz2
  have HC0 : Hid (Cnt w2 G n (fun _ => 0) ∧ w2.heap.size = G + 1 ∧ Below w.heap.size w w2 ∧ w.heap.size ≤ G) := ⟨hc0, hz2, HB.out.trans (u2.mono HB.out.size), by have := HB.out.size; omega⟩
  clear hc0 u2 hz2 hG
  go_wp2_with fail
  (try simp only [HG.out])
  clear hw2 hmk
  go_loopw [10, 11, 12] (fun sv iv _ wr => ∃ (i : Nat) (S : List Di) (r : Sr), i ≤ pn ∧ i ≤ 60 ∧ iv = .int .i64 (i : Nat) ∧ sv = .slice r.1 r.2.1 r.2.2 ∧ S.length ≤ i ∧ Told S acc ∧ Cnt wr G n (fun j => cnt S (j : Int)) ∧ OwP (fun b => b < w.heap.size) (G + 1) wr r S ∧ Below w.heap.size w wr ∧ G + 1 ≤ wr.heap.size) (fun _ iv _ _ => pn - (intOf iv).toNat)
  case atStart => exact ⟨0, [], (none, 0, 0), by omega, by omega, rfl, rfl, by simp, told_nil _, HC0.out.1, OwP.nil _ _ _, HC0.out.2.2.1, by have := HC0.out.2.1; omega⟩
  case round =>
    obtain ⟨i, S, r, hi, hi6, rfl, rfl, hSi, hto, hct, how, hbl, hGs⟩ := hrel
    have HS : Hid (Told S acc ∧ Cnt wr G n (fun j => cnt S (j : Int)) ∧ OwP (fun b => b < w.heap.size) (G + 1) wr r S ∧ Below w.heap.size w wr ∧ G + 1 ≤ wr.heap.size) := ⟨hto, hct, how, hbl, hGs⟩
    clear hto hct how hGs
    by_cases hgo : i < pn ∧ i < 60
    · obtain ⟨hlt, h60⟩ := hgo
      have hltI : (i : Int) < (pn : Int) := by omega
      have h60I : (i : Int) < 60 := by omega
      have hi0 : ¬ ((i : Int) < 0) := by omega
      obtain ⟨x, hx⟩ : ∃ x, picks[i]? = some x := ⟨picks[i]'(by omega), List.getElem?_eq_getElem (by omega)⟩
      obtain ⟨pb, poff, rfl, _, hpcell⟩ := (HI.out.2.1.up hbl).2.2.2 (by omega)
      have p0 := hpcell i x hx
      have hx256 : x.toNat < 256 := x.toNat_lt
      clear hpcell hx
      generalize x.toNat = xn at p0 hx256
      obtain ⟨k, hk⟩ : ∃ k, xn % n = k := ⟨_, rfl⟩
      have hkn : k < n := by rw [← hk]; exact Nat.mod_lt _ (by omega)
      have hkI : (xn : Int) % (n : Int) = (k : Int) := by rw [← hk]; exact_mod_cast rfl
      have hnz : ¬ ((n : Int) = 0) := by omega
      have hk0 : ¬ ((k : Int) < 0) := by omega
      have hknI : (k : Int) < (n : Int) := by omega
      obtain ⟨own, ho⟩ : ∃ own, acc[k]? = some own := ⟨acc[k]'(by omega), List.getElem?_eq_getElem (by omega)⟩
      obtain ⟨b, off, q, rfl, q0, _, hqb⟩ := HI.out.1.at ho
      have HQ0 : Hid (w.cell? ⟨b, off + k, none⟩ = some (.slice q.1 q.2.1 q.2.2)) := q0
      have q0 := bl_cell hbl q0
      obtain ⟨c, hcc⟩ : ∃ c, cnt S (k : Int) = c := ⟨_, rfl⟩
      have y0 := (HS.out.2.1 k hkn).1
      simp only [hcc] at y0
      have hcl : c ≤ 60 := by
        have := cnt_le S (k : Int) S.length
        rw [List.take_length, hcc] at this
        omega
      have HQ : Hid (acc[k]? = some own ∧ Bs w q.1 q.2.1 own ∧ own.length = q.2.1 ∧ cnt S (k : Int) = c) := ⟨ho, hqb, hqb.len, hcc⟩
      obtain ⟨qa, qn, qc⟩ := q
      simp only at HQ q0
      clear ho hqb hcc hk hbl
      by_cases hcq : c < qn
      case neg =>
        have hcqI : ¬ ((c : Int) < (qn : Int)) := by omega
        go_wp2_with fail
        go_quiet (fail)
        have HN : Hid (Told S acc ∧ Cnt (wr.drewN nq) G n (fun j => cnt S (j : Int)) ∧ OwP (fun b => b < w.heap.size) (G + 1) (wr.drewN nq) r S ∧ Below w.heap.size w (wr.drewN nq) ∧ G + 1 ≤ (wr.drewN nq).heap.size) := by
          have u : Below wr.heap.size wr (wr.drewN nq) := bl_drewN (Below.refl _ _) nq
          exact ⟨HS.out.1, HS.out.2.1.up u, HS.out.2.2.1.keep u, bl_drewN HS.out.2.2.2.1 nq, HS.out.2.2.2.2⟩
        go_wp2
        go_roundw
        case rel => exact ⟨i + 1, S, r, by omega, by omega, by go_num, rfl, by omega, HN.out⟩
        case measure => simp [intOf]; omega
      have hcqI : (c : Int) < (qn : Int) := by omega
      have hc0 : ¬ ((c : Int) < 0) := by omega
      obtain ⟨m, hmm⟩ : ∃ m, own[c]? = some m := ⟨own[c]'(by have := HQ.out.2.2.1; omega), List.getElem?_eq_getElem _⟩
      have HM : Hid (own[c]? = some m) := hmm
      obtain ⟨b2, o2, t, hqa, t0, _, htr⟩ := HQ.out.2.1.at hmm
      have HT0 : Hid (w.cell? ⟨b2, o2 + c, none⟩ = some (.slice t.1 t.2.1 t.2.2)) := t0
      have t0 := bl_cell HS.out.2.2.2.1 t0
      have HTR : Hid (Rw (fun b => b < w.heap.size) w t.1 t.2.1 m) := htr.imp (fun b hb _ => hb)
      clear htr
      subst hqa
      clear hmm
      go_wp2_with fail
      go_quiet (fail)
      obtain ⟨w2', hw2'⟩ : ∃ w2', wr.drewN nq = w2' := ⟨_, rfl⟩
      have u2 : Up wr w2' := by rw [← hw2']; exact (Up.refl _).drewN _
      (try simp only [hw2'])
      clear hw2'
      obtain ⟨D, hD⟩ : ∃ D, w2'.drew = D := ⟨_, rfl⟩
      have uD : Up wr D := by rw [← hD]; exact u2.drew
      have m0 : M10 b off k (some ⟨b2, o2, none⟩, qn, qc) G c b2 o2 t w2' := ⟨bl_cell u2.bl q0, bl_cell u2.bl y0, bl_cell u2.bl t0⟩
      have mD : M10 b off k (some ⟨b2, o2, none⟩, qn, qc) G c b2 o2 t D := ⟨bl_cell uD.bl q0, bl_cell uD.bl y0, bl_cell uD.bl t0⟩
      obtain ⟨A, hA⟩ : ∃ A, D.alloc (.cells #[.int .i64 (k : Nat), .slice t.1 t.2.1 t.2.2] 34) = A := ⟨_, rfl⟩
      have uA : Below D.heap.size D A := by rw [← hA]; exact bl1 _ _
      have uWA := bl_step uD.bl uA
      have mA := mD.up uA
      obtain ⟨g, hg⟩ : ∃ g, D.heap.size = g := ⟨_, rfl⟩
      have HAc : ∀ j u, ([.int .i64 (k : Nat), .slice t.1 t.2.1 t.2.2] : List Value)[j]? = some u → A.cell? ((⟨g, 0, none⟩ : Addr).add j) = some u := fun j u hj => by
        rw [← hA, ← hg, Addr.add_lit, Nat.zero_add]
        exact cell_box D _ 34 j u (by simpa using hj)
      have how2 : OwP (fun b => b < w.heap.size) (G + 1) A r S := HS.out.2.2.1.keep uWA
      have hwA := HS.out.2.2.2.1.trans (uWA.mono HS.out.2.2.2.1.size)
      have hAs : G + 1 ≤ A.heap.size := Nat.le_trans HS.out.2.2.2.2 uWA.size
      obtain ⟨r', w5, hrun, how5, hb5⟩ := how2.run (fun b hb => by have := HC0.out.2.2.2; omega) ((k : Int), t) ((k : Int), m) ⟨rfl, HTR.out.keep (Kp.up hwA)⟩ (by omega) hAs HAc
      have hw5 : Below w.heap.size w w5 := hwA.trans (hb5.mono (by have := HC0.out.2.2.2; omega))
      have m5 : M10 b off k (some ⟨b2, o2, none⟩, qn, qc) G c b2 o2 t w5 := ⟨bl_cell hw5 HQ0.out, (hb5.cell (Nat.lt_succ_self G)).trans mA.2.1, bl_cell hw5 HT0.out⟩
      have HW5 : Hid (Below w.heap.size w w5) := hw5
      have HRUN : Hid ((Builtin.append_ #[25, 25] 25 #[.slice r.1 r.2.1 r.2.2, .slice (some ⟨g, 0, none⟩) 1 1]).run Try.prog A = .ok (.slice r'.1 r'.2.1 r'.2.2) w5) := hrun
      have HA5 : Hid (OwP (fun b => b < w.heap.size) (G + 1) w5 r' (S ++ [((k : Int), m)]) ∧ Below (G + 1) A w5 ∧ Below wr.heap.size wr A) := ⟨how5, hb5, uWA⟩
      clear hrun how5 hb5 how2 HAc uWA uA
      go_wp2_with fail
      refine wp_region_noPanic ?_
      refine wp_region_held_drew (S := M10 b off k (some ⟨b2, o2, none⟩, qn, qc) G c b2 o2 t) (by kernel_rfl) (m0.up ((Up.refl w2').drew).bl) (fun hHeld => ?_)
      simp only [hD] at hHeld ⊢
      unfold M10 at hHeld
      refine tq 0 ?_
      refine tq 1 ?_
      refine tq 2 ?_
      refine tq 3 ?_
      refine tq 4 ?_
      refine tq 5 ?_
      refine tq 6 ?_
      refine tq 7 ?_
      refine tq 8 ?_
      refine tq 9 ?_
      refine tq 10 ?_
      refine tq 11 ?_
      refine tq 12 ?_
      refine comes_up 13 rfl (by kernel_rfl) (fun K hK => ?_)
      go_simp
      (try simp only [hA, hg])
      refine hK.out _ _ (mA) (fun hHeld => ?_)
      clear hK K
      (try simp only [Act.put, List.setIfInBounds_toArray, List.set_cons_zero, List.set_cons_succ])
      refine comes_up 14 rfl (by kernel_rfl) (fun K hK => ?_)
      refine step_append_run rfl (.tmp 70) (.tmp 83) 25 rfl (.slice r.1 r.2.1 r.2.2) (.slice (some ⟨g, 0, none⟩) 1 1) (.slice r'.1 r'.2.1 r'.2.2) w5 (by simp [Act.eval]) (by simp [Act.eval]) HRUN.out ?_
      refine hK.out _ _ (m5) (fun hHeld => ?_)
      clear hK K
      (try simp only [Act.put, List.setIfInBounds_toArray, List.set_cons_zero, List.set_cons_succ])
      refine tq 15 ?_
      refine wpAnyH_done (by kernel_rfl) ?_ _
      refine NoPanic.normal ?_
      clear hHeld HRUN m0 mD mA uD u2
      have hct5 : Cnt w5 G n (fun j => cnt S (j : Int)) := (HS.out.2.1.up HA5.out.2.2).below HA5.out.2.1 (Nat.lt_succ_self G)
      obtain ⟨y5, fz5⟩ := hct5 k hkn
      simp only [HQ.out.2.2.2] at y5
      obtain ⟨w6, hw6⟩ : ∃ w6, w5.setCell ⟨G, k, none⟩ (.int .i64 ((c + 1 : Nat) : Int)) = w6 := ⟨_, rfl⟩
      have HN : Hid (Told (S ++ [((k : Int), m)]) acc ∧ Cnt w6 G n (fun j => cnt (S ++ [((k : Int), m)]) (j : Int)) ∧ OwP (fun b => b < w.heap.size) (G + 1) w6 r' (S ++ [((k : Int), m)]) ∧ Below w.heap.size w w6 ∧ G + 1 ≤ w6.heap.size) := by
        refine ⟨told_snoc HS.out.1 HQ.out.1 (by rw [HQ.out.2.2.2]; exact HM.out), ?_, ?_, ?_, ?_⟩
        · rw [← hw6]
          have hs := hct5.set (v := c + 1) hkn
          intro j hj
          obtain ⟨a, b⟩ := hs j hj
          refine ⟨?_, b⟩
          rw [a]
          simp only
          rw [cnt_snoc]
          by_cases e : j = k
          · subst e
            rw [if_pos rfl, if_pos rfl, HQ.out.2.2.2]
          · have : ¬ ((k : Int) = (j : Int)) := by omega
            rw [if_neg e]
            simp only [if_neg this, Nat.add_zero]
        · rw [← hw6]
          exact HA5.out.1.other (set_grown _) (Nat.lt_succ_self G) (fun b hb => by have := HC0.out.2.2.2; omega)
        · rw [← hw6]
          exact HW5.out.setCell HC0.out.2.2.2 _
        · rw [← hw6]
          have := HA5.out.2.1.size
          have := HA5.out.2.2.size
          have := HS.out.2.2.2.2
          simp [World.setCell]
          omega
      have hw7 : w5.setCell ⟨G, k, none⟩ (.int .i64 ((c : Int) + 1)) = w6 := by rw [← hw6]; rfl
      clear hct5
      go_wp2_with fail
      (try simp only [hw7])
      clear hw6 hw7
      go_roundw
      case rel => exact ⟨i + 1, S ++ [((k : Int), m)], r', by omega, by omega, by go_num, rfl, by simp; omega, HN.out⟩
      case measure => simp [intOf]; omega
    · generalize wr = W3 at *
      have HW : Hid (Its (fun _ => True) W3 r.1 r.2.1 S ∧ r.2.1 = S.length ∧ Cp r ∧ Told S acc ∧ Below w.heap.size w W3) := ⟨HS.out.2.2.1.its (by omega), HS.out.2.2.1.1, HS.out.2.2.1.cp.1, HS.out.1, HS.out.2.2.2.1⟩
      have hrn : r.2.1 ≤ 60 := by have := HW.out.2.1; omega
      have hrc := HW.out.2.2.1
      have hgg := HS.out.2.2.1.cp.2
      obtain ⟨ra, rn, rc⟩ := r
      simp only [Cp] at hrc hgg hrn HW
      obtain ⟨hrc1, hrc2, hrc3⟩ := hrc
      have ho4 := own_one W3 (ra, rn, rc) W3.heap.size (Nat.le_refl _)
      have hb4 : Below W3.heap.size W3 (W3.alloc (.cells #[.slice ra rn rc] 25)) := bl1 _ _
      have H4 : Hid ((W3.alloc (.cells #[.slice ra rn rc] 25)).ownsRow W3.heap.size 25 1 (.slice (some ⟨W3.heap.size, 0, none⟩) 1 1) 1 (([((ra, rn, rc) : Sr)]).map slv) ∧ Below W3.heap.size W3 (W3.alloc (.cells #[.slice ra rn rc] 25))) := ⟨ho4, hb4⟩
      have hnone : ra = none → rn = 0 ∧ rc = 0 := fun h => by have := hrc3 h; omega
      have HCP : Hid (Cp (ra, rn, rc) ∧ (ra = none → rn = 0 ∧ rc = 0)) := ⟨HW.out.2.2.1, hnone⟩
      clear ho4 hb4 HS hSi hbl HC0 hrc3 hnone
      by_cases hlt : i < pn
      case' pos => have hltI : (i : Int) < (pn : Int) := by omega
      case' pos => have h60I : ¬ ((i : Int) < 60) := by omega
      case' neg => have hltI : ¬ ((i : Int) < (pn : Int)) := by omega
      case pos =>
        go_wp2_with fail
        go_loopw [13, 14] (fun dv jv wx => ∃ (j : Nat) (rs : List Sr) (xs : List (List Di)) (q : Sr), j ≤ en ∧ jv = .int .i64 (j : Nat) ∧ dv = .slice q.1 q.2.1 q.2.2 ∧ wx.ownsRow W3.heap.size 25 1 (.slice q.1 q.2.1 q.2.2) (j + 1) (rs.map slv) ∧ rs.length = j + 1 ∧ xs.length = j + 1 ∧ (∀ r ∈ rs, Cp r) ∧ (∀ (j : Nat) r x, rs[j]? = some r → xs[j]? = some x → Its (fun _ => True) W3 r.1 r.2.1 x) ∧ (∀ x ∈ xs, x <+: S) ∧ S ∈ xs ∧ Below W3.heap.size W3 wx) (fun _ jv _ => en - (intOf jv).toNat)
        case atStart => exact ⟨0, [(ra, rn, rc)], [S], (some ⟨W3.heap.size, 0, none⟩, 1, 1), by omega, rfl, rfl, H4.out.1, rfl, rfl, (fun r hr => by rw [List.mem_singleton] at hr; subst hr; exact HW.out.2.2.1), (fun j r x hr hx => by
          obtain ⟨_, rfl⟩ := one_get hr
          obtain ⟨_, rfl⟩ := one_get hx
          exact HW.out.1), (fun x hx => by rw [List.mem_singleton] at hx; subst hx; exact List.prefix_refl _), by simp, H4.out.2⟩
        case round =>
          clear H4
          obtain ⟨j, rs, xs, q, hj, rfl, rfl, hown, hrl, hxl, hrc, hre, hpre, hin, hbx⟩ := hrel
          have HR : Hid (rs.length = j + 1 ∧ xs.length = j + 1 ∧ (∀ r ∈ rs, Cp r) ∧ (∀ (j : Nat) r x, rs[j]? = some r → xs[j]? = some x → Its (fun _ => True) W3 r.1 r.2.1 x) ∧ (∀ x ∈ xs, x <+: S) ∧ S ∈ xs ∧ Below W3.heap.size W3 wr ∧ wr.ownsRow W3.heap.size 25 1 (.slice q.1 q.2.1 q.2.2) (j + 1) (rs.map slv)) := ⟨hrl, hxl, hrc, hre, hpre, hin, hbx, hown⟩
          clear hrl hxl hrc hre hpre hin hown
          by_cases hje : j < en
          · have hjI : (j : Int) < (en : Int) := by omega
            have hj0 : ¬ ((j : Int) < 0) := by omega
            obtain ⟨y, hy⟩ : ∃ y, ends[j]? = some y := ⟨ends[j]'(by omega), List.getElem?_eq_getElem (by omega)⟩
            obtain ⟨eb, eoff, heo, _, hecell⟩ := (HI.out.2.2.up (HW.out.2.2.2.2.trans (hbx.mono HW.out.2.2.2.2.size))).2.2.2 (by omega)
            have e0 := hecell j y hy
            subst heo
            have hy256 : y.toNat < 256 := y.toNat_lt
            clear hecell hy
            generalize y.toNat = yn at e0 hy256
            obtain ⟨kk, hkk⟩ : ∃ kk, yn % (rn + 1) = kk := ⟨_, rfl⟩
            have hkr : kk ≤ rn := by have : yn % (rn + 1) < rn + 1 := Nat.mod_lt _ (by omega); omega
            have hkI : (yn : Int) % ((rn : Int) + 1) = (kk : Int) := by rw [← hkk]; exact_mod_cast rfl
            have hnz : ¬ ((rn : Int) + 1 = 0) := by omega
            have hk0 : ¬ ((kk : Int) < 0) := by omega
            have hkc : ¬ ((rc : Int) < (kk : Int)) := by omega
            have HK : Hid (Its (fun _ => True) W3 ra kk (S.take kk) ∧ kk ≤ rn) := ⟨HW.out.1.take hkr, hkr⟩
            have hown := HR.out.2.2.2.2.2.2.2
            have hbz := hbx.size
            clear hkk hbx
            cases ra with
            | none =>
              obtain ⟨rfl, rfl⟩ := HCP.out.2 rfl
              obtain rfl : kk = 0 := by omega
              go_wp2_with (at_builtin; refine wpList_append_row rfl (.tmp 99) (.tmp 111) 23 25 rfl und23' info25 W3.heap.size _ (j + 1) rs rfl ?a1pos (none, 0, 0) wr.heap.size rfl rfl ?a2pos ?a3pos ?_)
              case a2pos => omega
              intro v' w' hown' hb'
              obtain ⟨q', rfl, hq'⟩ := own_row1 hown'
              have HN : Hid (w'.ownsRow W3.heap.size 25 1 (.slice q'.1 q'.2.1 q'.2.2) (j + 1 + 1) ((rs ++ [((none, 0, 0) : Sr)]).map slv) ∧ (rs ++ [((none, 0, 0) : Sr)]).length = j + 1 + 1 ∧ (xs ++ [S.take 0]).length = j + 1 + 1 ∧ (∀ r ∈ rs ++ [((none, 0, 0) : Sr)], Cp r) ∧ (∀ (j : Nat) r x, (rs ++ [((none, 0, 0) : Sr)])[j]? = some r → (xs ++ [S.take 0])[j]? = some x → Its (fun _ => True) W3 r.1 r.2.1 x) ∧ (∀ x ∈ xs ++ [S.take 0], x <+: S) ∧ S ∈ xs ++ [S.take 0] ∧ Below W3.heap.size W3 w') := by
                refine ⟨by rw [List.map_append]; exact hown', by simp [HR.out.1], by simp [HR.out.2.1], fun r hr => ?_, each_app (E := fun w r x => Its (fun _ => True) w r.1 r.2.1 x) (w := W3) (s := (none, 0, 0)) (y := S.take 0) (by rw [HR.out.1, HR.out.2.1]) HR.out.2.2.2.1 HK.out.1, fun x hx => ?_, List.mem_append_left _ HR.out.2.2.2.2.2.1, HR.out.2.2.2.2.2.2.1.trans hb'⟩
                · rw [List.mem_append, List.mem_singleton] at hr
                  rcases hr with hr | rfl
                  · exact HR.out.2.2.1 r hr
                  · exact Cp.nil
                · rw [List.mem_append, List.mem_singleton] at hx
                  rcases hx with hx | rfl
                  · exact HR.out.2.2.2.2.1 x hx
                  · exact List.take_prefix _ _
              clear hown' hb' hown hq'
              go_wp2
              go_roundw
              case rel => exact ⟨j + 1, rs ++ [(none, 0, 0)], xs ++ [S.take 0], q', by omega, by go_num, rfl, HN.out⟩
              case measure => simp [intOf]; omega
            | some aw =>
              obtain ⟨g, hag⟩ := (hgg.resolve_left (by simp))
              simp only [Option.some.injEq] at hag
              subst hag
              go_wp2_with (at_builtin; refine wpList_append_row rfl (.tmp 99) (.tmp 111) 23 25 rfl und23' info25 W3.heap.size _ (j + 1) rs rfl ?b1pos (some ⟨g, 0, none⟩, kk, rc) wr.heap.size rfl rfl ?b2pos ?b3pos ?_)
              case b2pos => omega
              intro v' w' hown' hb'
              obtain ⟨q', rfl, hq'⟩ := own_row1 hown'
              have HN : Hid (w'.ownsRow W3.heap.size 25 1 (.slice q'.1 q'.2.1 q'.2.2) (j + 1 + 1) ((rs ++ [((some ⟨g, 0, none⟩, kk, rc) : Sr)]).map slv) ∧ (rs ++ [((some ⟨g, 0, none⟩, kk, rc) : Sr)]).length = j + 1 + 1 ∧ (xs ++ [S.take kk]).length = j + 1 + 1 ∧ (∀ r ∈ rs ++ [((some ⟨g, 0, none⟩, kk, rc) : Sr)], Cp r) ∧ (∀ (j : Nat) r x, (rs ++ [((some ⟨g, 0, none⟩, kk, rc) : Sr)])[j]? = some r → (xs ++ [S.take kk])[j]? = some x → Its (fun _ => True) W3 r.1 r.2.1 x) ∧ (∀ x ∈ xs ++ [S.take kk], x <+: S) ∧ S ∈ xs ++ [S.take kk] ∧ Below W3.heap.size W3 w') := by
                refine ⟨by rw [List.map_append]; exact hown', by simp [HR.out.1], by simp [HR.out.2.1], fun r hr => ?_, each_app (E := fun w r x => Its (fun _ => True) w r.1 r.2.1 x) (w := W3) (s := (some ⟨g, 0, none⟩, kk, rc)) (y := S.take kk) (by rw [HR.out.1, HR.out.2.1]) HR.out.2.2.2.1 HK.out.1, fun x hx => ?_, List.mem_append_left _ HR.out.2.2.2.2.2.1, HR.out.2.2.2.2.2.2.1.trans hb'⟩
                · rw [List.mem_append, List.mem_singleton] at hr
                  rcases hr with hr | rfl
                  · exact HR.out.2.2.1 r hr
                  · have := HCP.out.1
                    have := HK.out.2
                    simp only [Cp] at *
                    refine ⟨by omega, by omega, fun e => by cases e⟩
                · rw [List.mem_append, List.mem_singleton] at hx
                  rcases hx with hx | rfl
                  · exact HR.out.2.2.2.2.1 x hx
                  · exact List.take_prefix _ _
              clear hown' hb' hown hq'
              go_wp2
              go_roundw
              case rel => exact ⟨j + 1, rs ++ [(some ⟨g, 0, none⟩, kk, rc)], xs ++ [S.take kk], q', by omega, by go_num, rfl, HN.out⟩
              case measure => simp [intOf]; omega
          · obtain rfl : j = en := by omega
            obtain ⟨qd, hqd, hqd1, hqd2⟩ := Lr.mk (E := fun w r x => Its (fun _ => True) w r.1 r.2.1 x) (xs := xs) HR.out.2.2.2.2.2.2.2 (by omega) HR.out.2.1 HR.out.2.2.1 (fun j r x hr hx => (HR.out.2.2.2.1 j r x hr hx).up hbx)
            have hbw := HW.out.2.2.2.2.trans (hbx.mono HW.out.2.2.2.2.size)
            have htt := total_any wr _ n cap acc (Bss.up HI.out.1 hbw) (by omega) qd.1 (j + 1) qd.2.2 xs hqd2
            have hok : SeqOk acc xs S := ⟨HR.out.2.2.2.2.1, .inr HR.out.2.2.2.2.2.1, HW.out.2.2.2.1⟩
            have hqe : Value.slice q.1 q.2.1 q.2.2 = .slice qd.1 (j + 1) qd.2.2 := by rw [hqd, hqd1]
            simp only [Value.slice.injEq] at hqe
            obtain ⟨hq1, hq2, hq3⟩ := hqe
            rw [← hq1, ← hq2, ← hq3] at htt
            have HOK : Hid (SeqOk acc xs S ∧ Below w.heap.size w wr ∧ Below W3.heap.size W3 wr) := ⟨hok, hbw, hbx⟩
            clear hqd hqd1 hqd2 hbw hok hq1 hq2 hq3 hbx
            go_wp2_with fail
            refine htt.mono ?_
            rintro e w5 ⟨hp5, b5⟩
            obtain ⟨x5, rfl, hi5⟩ : ∃ r : Sr, e = .returned (.tuple #[.slice r.1 r.2.1 r.2.2, .bool true]) ∧ Its (fun _ => True) w5 r.1 r.2.1 S := by
              rcases hp5 with ⟨r, S', e1, h1, h2⟩ | ⟨r, _, _, h2⟩
              · have := h2.unique HOK.out.1
                subst this
                exact ⟨r, e1, h1⟩
              · exact absurd ⟨_, HOK.out.1⟩ h2
            have hs5 : Its (fun _ => True) w5 ra rn S := HW.out.1.up (bl_step HOK.out.2.2 b5)
            have hit5 := fun c1 c2 => items_any (fun _ => True) (fun _ => True) w5 x5.1 ra x5.2.1 rn c1 c2 S S hi5 hs5
            simp only [decide_true] at hit5
            have H5 : Hid (Below w.heap.size w w5 ∧ Its (fun _ => True) w5 ra rn S) := ⟨bl_step HOK.out.2.1 b5, hs5⟩
            clear hp5 htt hi5 hs5 b5
            go_wp2_with fail
            refine (hit5 _ _).mono ?_
            rintro e w6 ⟨rfl, u6⟩
            have H6 : Hid (Below w.heap.size w w6 ∧ Its (fun _ => True) w6 ra rn S) := ⟨bl_step H5.out.1 u6.bl, H5.out.2.up u6.bl⟩
            clear hit5 u6
            by_cases hr2 : rn < 2
            · have hr2I : (rn : Int) < 2 := by omega
              go_wp2
              go_ret
              exact ⟨rfl, H6.out.1⟩
            have hr2I : ¬ ((rn : Int) < 2) := by omega
            obtain ⟨k, hk⟩ : ∃ k, turn % (rn - 1) = k := ⟨_, rfl⟩
            have hk2 : k < rn - 1 := by rw [← hk]; exact Nat.mod_lt _ (by omega)
            have hrI : (rn : Int) - 1 = ((rn - 1 : Nat) : Int) := by omega
            have hkI : (turn : Int) % ((rn - 1 : Nat) : Int) = (k : Int) := by rw [← hk]; exact_mod_cast rfl
            have hnz : ¬ (((rn - 1 : Nat) : Int) = 0) := by omega
            have hk0 : ¬ ((k : Int) < 0) := by omega
            have hkn : (k : Int) < (rn : Int) := by omega
            have hkn1 : (k : Int) + 1 < (rn : Int) := by omega
            have hkn0 : ¬ ((k : Int) + 1 < 0) := by omega
            have hln := HW.out.2.1
            obtain ⟨d, hd⟩ : ∃ d, S[k]? = some d := ⟨S[k]'(by omega), List.getElem?_eq_getElem _⟩
            obtain ⟨d', hd'⟩ : ∃ d', S[k + 1]? = some d' := ⟨S[k + 1]'(by omega), List.getElem?_eq_getElem _⟩
            have hud : Below w6.heap.size w6 w6.drew := ((Up.refl w6).drew).bl
            obtain ⟨b1, o1, t1, ha1, p0, p1, pr⟩ := (H6.out.2.up hud).at hd
            obtain ⟨b1', o1', t2, ha2, q0, q1, qr⟩ := (H6.out.2.up hud).at hd'
            have hbo : b1' = b1 ∧ o1' = o1 := by rw [ha1] at ha2; simp at ha2; exact ⟨ha2.1.symm, ha2.2.symm⟩
            obtain ⟨rfl, rfl⟩ := hbo
            obtain ⟨k1, hk1⟩ : ∃ k1, k + 1 = k1 := ⟨_, rfl⟩
            rw [hk1] at q0 q1
            have hwr : IntKind.i64.wrap ((k : Int) + 1) = (k1 : Int) := by rw [← hk1]; exact wrap_in (by omega) (by omega)
            have hk10 : ¬ ((k1 : Int) < 0) := by omega
            have hk1n : (k1 : Int) < (rn : Int) := by omega
            have two : TwoI b1' (o1' + k * 2) b1' (o1' + k1 * 2) d d' t1 t2 w6.drew := ⟨p0, p1, conv_rw pr, q0, q1, conv_rw qr⟩
            have HK1 : Hid (k + 1 = k1 ∧ k1 < rn) := ⟨hk1, by omega⟩
            have HI6 : Hid (Its (fun _ => True) w6.drew (some ⟨b1', o1', none⟩) rn S) := by show Its _ _ _ _ _; rw [← ha1]; exact H6.out.2.up hud
            have hbe := str_beq d.2 d'.2
            have HDD : Hid (S[k]? = some d ∧ S[k + 1]? = some d' ∧ rn = S.length) := ⟨hd, hd', hln⟩
            clear hk1
            subst ha1
            clear hd hd' hud pr qr p0 p1 q0 q1 hk hln
            obtain ⟨f, xx⟩ := d
            obtain ⟨f', yy⟩ := d'
            simp only at hbe
            by_cases hf : f = f'
            case neg =>
              have hfn : (f != f') = true := by simpa using hf
              clear hbe
              go_wp2_with fail
              refine wp_region_noPanic ?_
              refine wp_region_held_drew (S := TwoI b1' (o1' + k * 2) b1' (o1' + k1 * 2) (f, xx) (f', yy) t1 t2) (by kernel_rfl) (two) (fun hHeld => ?_)
              unfold TwoI at hHeld
              refine tq 0 ?_
              refine tq 1 ?_
              refine tq 2 ?_
              refine tq 3 ?_
              refine tq 4 ?_
              refine tq 5 ?_
              refine tq 6 ?_
              refine tq 7 ?_
              refine tq 8 ?_
              refine tq 9 ?_
              refine tq 10 ?_
              refine tq 11 ?_
              refine tq 12 ?_
              refine tqS 13 ?_
              refine tqS 14 ?_
              refine tqS 15 ?_
              refine tqS 16 ?_
              refine tqS 17 ?_
              refine tqS 18 ?_
              refine tqS 19 ?_
              refine tqS 20 ?_
              refine tqS 21 ?_
              refine tqS 22 ?_
              refine tqS 23 ?_
              refine tqS 24 ?_
              refine tqS 25 ?_
              refine tqS 26 ?_
              refine tq 27 ?_
              refine wpAnyH_done (by kernel_rfl) ?_ _
              refine NoPanic.normal ?_
              go_wp2
              go_ret
              exact ⟨rfl, H6.out.1.drew⟩
            subst hf
            cases hde : decide (xx = yy) with
            | true =>
              rw [hde] at hbe
              go_wp2_with fail
              refine wp_region_noPanic ?_
              refine wp_region_held_drew (S := TwoI b1' (o1' + k * 2) b1' (o1' + k1 * 2) (f, xx) (f, yy) t1 t2) (by kernel_rfl) (two) (fun hHeld => ?_)
              unfold TwoI at hHeld
              refine tq 0 ?_
              refine tq 1 ?_
              refine tq 2 ?_
              refine tq 3 ?_
              refine tq 4 ?_
              refine tq 5 ?_
              refine tq 6 ?_
              refine tq 7 ?_
              refine tq 8 ?_
              refine tq 9 ?_
              refine tq 10 ?_
              refine tq 11 ?_
              refine tq 12 ?_
              refine tq 13 ?_
              refine tq 14 ?_
              refine tq 15 ?_
              refine tq 16 ?_
              refine tq 17 ?_
              refine tq 18 ?_
              refine tq 19 ?_
              refine tq 20 ?_
              refine tq 21 ?_
              refine tq 22 ?_
              refine tq 23 ?_
              refine tq 24 ?_
              refine tq 25 ?_
              refine tq 26 ?_
              refine tq 27 ?_
              refine wpAnyH_done (by kernel_rfl) ?_ _
              refine NoPanic.normal ?_
              go_wp2
              go_ret
              exact ⟨rfl, H6.out.1.drew⟩
            | false =>
              rw [hde] at hbe
              have HNE : Hid (xx ≠ yy) := of_decide_eq_false hde
              clear hde
              go_wp2_with fail
              refine wp_region_noPanic ?_
              refine wp_region_held_drew (S := TwoI b1' (o1' + k * 2) b1' (o1' + k1 * 2) (f, xx) (f, yy) t1 t2) (by kernel_rfl) (two) (fun hHeld => ?_)
              unfold TwoI at hHeld
              refine tq 0 ?_
              refine tq 1 ?_
              refine tq 2 ?_
              refine tq 3 ?_
              refine tq 4 ?_
              refine tq 5 ?_
              refine tq 6 ?_
              refine tq 7 ?_
              refine tq 8 ?_
              refine tq 9 ?_
              refine tq 10 ?_
              refine tq 11 ?_
              refine tq 12 ?_
              refine tq 13 ?_
              refine tq 14 ?_
              refine tq 15 ?_
              refine tq 16 ?_
              refine tq 17 ?_
              refine tq 18 ?_
              refine tq 19 ?_
              refine tq 20 ?_
              refine tq 21 ?_
              refine tq 22 ?_
              refine tq 23 ?_
              refine tq 24 ?_
              refine tq 25 ?_
              refine tq 26 ?_
              refine tq 27 ?_
              refine wpAnyH_done (by kernel_rfl) ?_ _
              refine NoPanic.normal ?_
              clear two hHeld hbe
              obtain ⟨w7, hw7⟩ : ∃ w7, w6.drew = w7 := ⟨_, rfl⟩
              (try simp only [hw7])
              obtain ⟨xs0, hI0, hlen0, hit0⟩ := HI6.out
              rw [hw7] at hI0 hit0
              have H7 : Hid (Below w.heap.size w w7) := by show Below _ _ _; rw [← hw7]; exact H6.out.1.drew
              have hxl0 := hI0.1
              have HC7 : Hid ((cellI xs0).length = rn * 2 ∧ (∀ j u, (cellI xs0)[j]? = some u → w7.cell? ((⟨b1', o1', none⟩ : Addr).add j) = some u) ∧ (∀ (j : Nat) (x : Ix) (d : Di), xs0[j]? = some x → S[j]? = some d → It (fun _ => True) w7 x d) ∧ xs0.length = rn) := ⟨by rw [cellI_len, hxl0], hI0.cells, hit0, hxl0⟩
              obtain ⟨i0, hi0', hz0', hz1', hz2'⟩ := info_parts infoI
              clear hw7 hI0 hit0 hlen0 hxl0
              go_wp2_with (at_builtin; refine wpList_append_own_at _ rfl (.tmp 164) (.tmp 165) 25 rfl w7.heap.size 34 i0 (.agg #[.int .i64 0, .slice none 0 0]) 2 32 und25 hi0' hz0' hz1' hz2' rfl (by decide) _ 0 [] rfl ?m1pos ⟨b1', o1', none⟩ rn rc (cellI xs0) rfl ?m2pos ?m3pos ?m4pos ?m6pos ?m7pos ?m8pos ?_)
              case m1pos => exact ⟨rfl, .inl ⟨rfl, rfl⟩⟩
              case m2pos => exact HC7.out.1
              case m3pos => exact HC7.out.2.1
              case m4pos => exact fun u hu => cellI_one hu
              case m6pos => unfold maxLen; omega
              case m7pos => omega
              case m8pos => exact Nat.le_refl _
              intro v8 w8 hown8 hgrow8 _ _
              have hb8 : Below w7.heap.size w7 w8 := bl_grown (Below.refl _ _) (Nat.le_refl _) hgrow8 (fun kk hk => by simp [Value.ownBlock] at hk)
              have hr8 := IR.own (xs := xs0) (B := w7.heap.size) (n := rn) (v := v8) (w := w8) (by simpa using hown8) (by omega)
              obtain ⟨g2, cap2, rfl, hg2, hg2l, hfz, hIR⟩ : ∃ g cap', v8 = .slice (some ⟨g, 0, none⟩) rn cap' ∧ w7.heap.size ≤ g ∧ g < w8.heap.size ∧ (∀ i, w8.frozen? ⟨g, i, none⟩ = false) ∧ IR (fun b => b = g) w8 (some ⟨g, 0, none⟩) rn xs0 := by
                rcases hr8 with ⟨_, h0⟩ | h8
                · omega
                · exact h8
              obtain ⟨x, hx⟩ : ∃ x, xs0[k]? = some x := ⟨xs0[k]'(by have := HC7.out.2.2.2; omega), List.getElem?_eq_getElem _⟩
              obtain ⟨y, hy⟩ : ∃ y, xs0[k1]? = some y := ⟨xs0[k1]'(by have := HC7.out.2.2.2; have := HK1.out.2; omega), List.getElem?_eq_getElem _⟩
              obtain ⟨b8, o8, e8, _, hc8⟩ := hIR.2.2.2 (by omega)
              simp only [Option.some.injEq, Addr.mk.injEq] at e8
              obtain ⟨rfl, rfl, _⟩ := e8
              obtain ⟨c0, c1⟩ := hc8 k x hx
              obtain ⟨d0, d1⟩ := hc8 k1 y hy
              simp only [Nat.zero_add] at c0 c1 d0 d1
              have hcap8 := own_cap hown8
              have H8 : Hid (IR (fun b => b = g2) w8 (some ⟨g2, 0, none⟩) rn xs0 ∧ Below w7.heap.size w7 w8 ∧ w7.heap.size ≤ g2 ∧ g2 < w8.heap.size ∧ xs0[k]? = some x ∧ xs0[k1]? = some y ∧ rn ≤ cap2 ∧ cap2 ≤ 9223372036854775807) := ⟨hIR, hb8, hg2, hg2l, hx, hy, by omega, hcap8.2⟩
              clear hown8 hgrow8 hr8 hIR hx hy hc8 hb8 hg2 hg2l
              obtain ⟨xf, xo, xn, xc⟩ := x
              obtain ⟨yf, yo, yn, yc⟩ := y
              simp only at c0 c1 d0 d1
              have hkk := HK1.out.1
              have n1 : ¬ (k1 * 2 = k * 2) := by omega
              have n2 : ¬ (k1 * 2 = k * 2 + 1) := by omega
              have n3 : ¬ (k1 * 2 + 1 = k * 2) := by omega
              have n4 : ¬ (k1 * 2 + 1 = k * 2 + 1) := by omega
              have m1 : ¬ (k * 2 = k1 * 2) := by omega
              have m2 : ¬ (k * 2 = k1 * 2 + 1) := by omega
              have m3 : ¬ (k * 2 + 1 = k1 * 2) := by omega
              have m4 : ¬ (k * 2 + 1 = k1 * 2 + 1) := by omega
              clear hkk
              obtain ⟨w9, hw9⟩ : ∃ w9, ((((w8.setCell ⟨g2, k * 2, none⟩ (.int .i64 yf)).setCell ⟨g2, k * 2 + 1, none⟩ (.slice yo yn yc)).setCell ⟨g2, k1 * 2, none⟩ (.int .i64 xf)).setCell ⟨g2, k1 * 2 + 1, none⟩ (.slice xo xn xc)).drew = w9 := ⟨_, rfl⟩
              have HI9 : Hid (Its (fun _ => True) w9 (some ⟨g2, 0, none⟩) rn ((S.set k (f, yy)).set k1 (f, xx)) ∧ Below w.heap.size w w9 ∧ rn ≤ cap2 ∧ cap2 ≤ 9223372036854775807) := by
                obtain ⟨i1, i2, i3, i4, i5, i6, i7, i8⟩ := H8.out
                have hxl := HC7.out.2.2.2
                have hkr := HK1.out
                have hb9 : Below w7.heap.size w7 w9 := by
                  rw [← hw9]
                  exact ((((i2.setCell i3 _).setCell i3 _).setCell i3 _).setCell i3 _).drew
                have hir := (i1.put (k := k) (y := (yf, yo, yn, yc)) (by omega)).put (k := k1) (y := (xf, xo, xn, xc)) (by simp; omega)
                have hir9 : IR (fun b => b = g2) w9 (some ⟨g2, 0, none⟩) rn ((xs0.set k (yf, yo, yn, yc)).set k1 (xf, xo, xn, xc)) := by
                  rw [← hw9]
                  exact hir.keep (Kp.up ((Up.refl _).drew).bl)
                have kp : Kp (fun b => b < w7.heap.size) w7 w9 := Kp.below hb9 (fun _ hb => hb)
                have itk : ∀ (j : Nat) (x : Ix) (d : Di), xs0[j]? = some x → S[j]? = some d → It (fun _ => True) w9 x d := fun j x d hx hd => (((HC7.out.2.2.1 j x d hx hd).imp (q := fun b => b < w7.heap.size) (fun b hb _ => hb)).keep kp).imp (fun _ _ _ => trivial)
                refine ⟨⟨_, hir9.imp (fun _ _ _ => trivial), by simp [← HDD.out.2.2], fun j u v hu hv => ?_⟩, H7.out.trans (hb9.mono H7.out.size), i7, i8⟩
                have hsl := HDD.out.2.2
                by_cases e1 : j = k1
                · subst e1
                  rw [List.getElem?_set_self (by simp; omega)] at hu hv
                  cases hu
                  cases hv
                  exact itk k _ _ i5 HDD.out.1
                · rw [List.getElem?_set_ne (by omega)] at hu hv
                  by_cases e2 : j = k
                  · subst e2
                    rw [List.getElem?_set_self (by omega)] at hu hv
                    cases hu
                    cases hv
                    exact itk k1 _ _ i6 (by rw [← hkr.1]; exact HDD.out.2.1)
                  · rw [List.getElem?_set_ne (by omega)] at hu hv
                    exact itk j u v hu hv
              obtain ⟨w10, hw10⟩ : ∃ w10, w9.alloc (.cells #[.slice (some ⟨g2, 0, none⟩) rn cap2] 25) = w10 := ⟨_, rfl⟩
              have u10 : Below w9.heap.size w9 w10 := by rw [← hw10]; exact bl1 _ _
              have hi10 : Iss w10 (some ⟨w9.heap.size, 0, none⟩) 1 [(S.set k (f, yy)).set k1 (f, xx)] :=
                lr_one (r := (some ⟨g2, 0, none⟩, rn, cap2)) (by rw [← hw10]; exact cell_box w9 _ 25 0 _ rfl) ⟨HI9.out.2.2.1, HI9.out.2.2.2, fun e => by cases e⟩ (HI9.out.1.up u10)
              have hb10 := bl_step HI9.out.2.1 u10
              have ht9 := total_any w10 ao n cap acc (Bss.up HI.out.1 hb10) (by omega) (some ⟨w9.heap.size, 0, none⟩) 1 1 _ hi10
              have H9 : Hid (True ∧ Below w.heap.size w w10) := ⟨trivial, hb10⟩
              clear u10 hi10 hb10
              go_wp2_with fail
              go_big_region
              (try simp only [hw9])
              clear c0 c1 d0 d1 n1 n2 n3 n4 m1 m2 m3 m4 hw9 hfz
              go_wp2_with fail
              (try simp only [hw10])
              clear hw10
              refine ht9.mono ?_
              rintro e w11 ⟨hp11, b11⟩
              obtain ⟨s11, rfl⟩ : ∃ r : Sr, e = .returned (.tuple #[.slice r.1 r.2.1 r.2.2, .bool false]) := by
                rcases hp11 with ⟨r, S', _, _, h2⟩ | ⟨r, e1, _, _⟩
                · exact absurd ⟨_, h2⟩ (swap_no HW.out.2.2.2.1 HDD.out.1 (k1 := k1) (by rw [← HK1.out.1]; exact HDD.out.2.1) HK1.out.1 HNE.out)
                · exact ⟨r, e1⟩
              have HE : Hid (Below w.heap.size w w11) := bl_step H9.out.2 b11
              clear hp11 ht9 b11
              go_wp2
              go_ret
              exact ⟨rfl, HE.out⟩
      case neg =>
        go_wp2_with fail
        go_loopw [13, 14] (fun dv jv wx => ∃ (j : Nat) (rs : List Sr) (xs : List (List Di)) (q : Sr), j ≤ en ∧ jv = .int .i64 (j : Nat) ∧ dv = .slice q.1 q.2.1 q.2.2 ∧ wx.ownsRow W3.heap.size 25 1 (.slice q.1 q.2.1 q.2.2) (j + 1) (rs.map slv) ∧ rs.length = j + 1 ∧ xs.length = j + 1 ∧ (∀ r ∈ rs, Cp r) ∧ (∀ (j : Nat) r x, rs[j]? = some r → xs[j]? = some x → Its (fun _ => True) W3 r.1 r.2.1 x) ∧ (∀ x ∈ xs, x <+: S) ∧ S ∈ xs ∧ Below W3.heap.size W3 wx) (fun _ jv _ => en - (intOf jv).toNat)
        case atStart => exact ⟨0, [(ra, rn, rc)], [S], (some ⟨W3.heap.size, 0, none⟩, 1, 1), by omega, rfl, rfl, H4.out.1, rfl, rfl, (fun r hr => by rw [List.mem_singleton] at hr; subst hr; exact HW.out.2.2.1), (fun j r x hr hx => by
          obtain ⟨_, rfl⟩ := one_get hr
          obtain ⟨_, rfl⟩ := one_get hx
          exact HW.out.1), (fun x hx => by rw [List.mem_singleton] at hx; subst hx; exact List.prefix_refl _), by simp, H4.out.2⟩
        case round =>
          clear H4
          obtain ⟨j, rs, xs, q, hj, rfl, rfl, hown, hrl, hxl, hrc, hre, hpre, hin, hbx⟩ := hrel
          have HR : Hid (rs.length = j + 1 ∧ xs.length = j + 1 ∧ (∀ r ∈ rs, Cp r) ∧ (∀ (j : Nat) r x, rs[j]? = some r → xs[j]? = some x → Its (fun _ => True) W3 r.1 r.2.1 x) ∧ (∀ x ∈ xs, x <+: S) ∧ S ∈ xs ∧ Below W3.heap.size W3 wr ∧ wr.ownsRow W3.heap.size 25 1 (.slice q.1 q.2.1 q.2.2) (j + 1) (rs.map slv)) := ⟨hrl, hxl, hrc, hre, hpre, hin, hbx, hown⟩
          clear hrl hxl hrc hre hpre hin hown
          by_cases hje : j < en
          · have hjI : (j : Int) < (en : Int) := by omega
            have hj0 : ¬ ((j : Int) < 0) := by omega
            obtain ⟨y, hy⟩ : ∃ y, ends[j]? = some y := ⟨ends[j]'(by omega), List.getElem?_eq_getElem (by omega)⟩
            obtain ⟨eb, eoff, heo, _, hecell⟩ := (HI.out.2.2.up (HW.out.2.2.2.2.trans (hbx.mono HW.out.2.2.2.2.size))).2.2.2 (by omega)
            have e0 := hecell j y hy
            subst heo
            have hy256 : y.toNat < 256 := y.toNat_lt
            clear hecell hy
            generalize y.toNat = yn at e0 hy256
            obtain ⟨kk, hkk⟩ : ∃ kk, yn % (rn + 1) = kk := ⟨_, rfl⟩
            have hkr : kk ≤ rn := by have : yn % (rn + 1) < rn + 1 := Nat.mod_lt _ (by omega); omega
            have hkI : (yn : Int) % ((rn : Int) + 1) = (kk : Int) := by rw [← hkk]; exact_mod_cast rfl
            have hnz : ¬ ((rn : Int) + 1 = 0) := by omega
            have hk0 : ¬ ((kk : Int) < 0) := by omega
            have hkc : ¬ ((rc : Int) < (kk : Int)) := by omega
            have HK : Hid (Its (fun _ => True) W3 ra kk (S.take kk) ∧ kk ≤ rn) := ⟨HW.out.1.take hkr, hkr⟩
            have hown := HR.out.2.2.2.2.2.2.2
            have hbz := hbx.size
            clear hkk hbx
            cases ra with
            | none =>
              obtain ⟨rfl, rfl⟩ := HCP.out.2 rfl
              obtain rfl : kk = 0 := by omega
              go_wp2_with (at_builtin; refine wpList_append_row rfl (.tmp 99) (.tmp 111) 23 25 rfl und23' info25 W3.heap.size _ (j + 1) rs rfl ?a1neg (none, 0, 0) wr.heap.size rfl rfl ?a2neg ?a3neg ?_)
              case a2neg => omega
              intro v' w' hown' hb'
              obtain ⟨q', rfl, hq'⟩ := own_row1 hown'
              have HN : Hid (w'.ownsRow W3.heap.size 25 1 (.slice q'.1 q'.2.1 q'.2.2) (j + 1 + 1) ((rs ++ [((none, 0, 0) : Sr)]).map slv) ∧ (rs ++ [((none, 0, 0) : Sr)]).length = j + 1 + 1 ∧ (xs ++ [S.take 0]).length = j + 1 + 1 ∧ (∀ r ∈ rs ++ [((none, 0, 0) : Sr)], Cp r) ∧ (∀ (j : Nat) r x, (rs ++ [((none, 0, 0) : Sr)])[j]? = some r → (xs ++ [S.take 0])[j]? = some x → Its (fun _ => True) W3 r.1 r.2.1 x) ∧ (∀ x ∈ xs ++ [S.take 0], x <+: S) ∧ S ∈ xs ++ [S.take 0] ∧ Below W3.heap.size W3 w') := by
                refine ⟨by rw [List.map_append]; exact hown', by simp [HR.out.1], by simp [HR.out.2.1], fun r hr => ?_, each_app (E := fun w r x => Its (fun _ => True) w r.1 r.2.1 x) (w := W3) (s := (none, 0, 0)) (y := S.take 0) (by rw [HR.out.1, HR.out.2.1]) HR.out.2.2.2.1 HK.out.1, fun x hx => ?_, List.mem_append_left _ HR.out.2.2.2.2.2.1, HR.out.2.2.2.2.2.2.1.trans hb'⟩
                · rw [List.mem_append, List.mem_singleton] at hr
                  rcases hr with hr | rfl
                  · exact HR.out.2.2.1 r hr
                  · exact Cp.nil
                · rw [List.mem_append, List.mem_singleton] at hx
                  rcases hx with hx | rfl
                  · exact HR.out.2.2.2.2.1 x hx
                  · exact List.take_prefix _ _
              clear hown' hb' hown hq'
              go_wp2
              go_roundw
              case rel => exact ⟨j + 1, rs ++ [(none, 0, 0)], xs ++ [S.take 0], q', by omega, by go_num, rfl, HN.out⟩
              case measure => simp [intOf]; omega
            | some aw =>
              obtain ⟨g, hag⟩ := (hgg.resolve_left (by simp))
              simp only [Option.some.injEq] at hag
              subst hag
              go_wp2_with (at_builtin; refine wpList_append_row rfl (.tmp 99) (.tmp 111) 23 25 rfl und23' info25 W3.heap.size _ (j + 1) rs rfl ?b1neg (some ⟨g, 0, none⟩, kk, rc) wr.heap.size rfl rfl ?b2neg ?b3neg ?_)
              case b2neg => omega
              intro v' w' hown' hb'
              obtain ⟨q', rfl, hq'⟩ := own_row1 hown'
              have HN : Hid (w'.ownsRow W3.heap.size 25 1 (.slice q'.1 q'.2.1 q'.2.2) (j + 1 + 1) ((rs ++ [((some ⟨g, 0, none⟩, kk, rc) : Sr)]).map slv) ∧ (rs ++ [((some ⟨g, 0, none⟩, kk, rc) : Sr)]).length = j + 1 + 1 ∧ (xs ++ [S.take kk]).length = j + 1 + 1 ∧ (∀ r ∈ rs ++ [((some ⟨g, 0, none⟩, kk, rc) : Sr)], Cp r) ∧ (∀ (j : Nat) r x, (rs ++ [((some ⟨g, 0, none⟩, kk, rc) : Sr)])[j]? = some r → (xs ++ [S.take kk])[j]? = some x → Its (fun _ => True) W3 r.1 r.2.1 x) ∧ (∀ x ∈ xs ++ [S.take kk], x <+: S) ∧ S ∈ xs ++ [S.take kk] ∧ Below W3.heap.size W3 w') := by
                refine ⟨by rw [List.map_append]; exact hown', by simp [HR.out.1], by simp [HR.out.2.1], fun r hr => ?_, each_app (E := fun w r x => Its (fun _ => True) w r.1 r.2.1 x) (w := W3) (s := (some ⟨g, 0, none⟩, kk, rc)) (y := S.take kk) (by rw [HR.out.1, HR.out.2.1]) HR.out.2.2.2.1 HK.out.1, fun x hx => ?_, List.mem_append_left _ HR.out.2.2.2.2.2.1, HR.out.2.2.2.2.2.2.1.trans hb'⟩
                · rw [List.mem_append, List.mem_singleton] at hr
                  rcases hr with hr | rfl
                  · exact HR.out.2.2.1 r hr
                  · have := HCP.out.1
                    have := HK.out.2
                    simp only [Cp] at *
                    refine ⟨by omega, by omega, fun e => by cases e⟩
                · rw [List.mem_append, List.mem_singleton] at hx
                  rcases hx with hx | rfl
                  · exact HR.out.2.2.2.2.1 x hx
                  · exact List.take_prefix _ _
              clear hown' hb' hown hq'
              go_wp2
              go_roundw
              case rel => exact ⟨j + 1, rs ++ [(some ⟨g, 0, none⟩, kk, rc)], xs ++ [S.take kk], q', by omega, by go_num, rfl, HN.out⟩
              case measure => simp [intOf]; omega
          · obtain rfl : j = en := by omega
            obtain ⟨qd, hqd, hqd1, hqd2⟩ := Lr.mk (E := fun w r x => Its (fun _ => True) w r.1 r.2.1 x) (xs := xs) HR.out.2.2.2.2.2.2.2 (by omega) HR.out.2.1 HR.out.2.2.1 (fun j r x hr hx => (HR.out.2.2.2.1 j r x hr hx).up hbx)
            have hbw := HW.out.2.2.2.2.trans (hbx.mono HW.out.2.2.2.2.size)
            have htt := total_any wr _ n cap acc (Bss.up HI.out.1 hbw) (by omega) qd.1 (j + 1) qd.2.2 xs hqd2
            have hok : SeqOk acc xs S := ⟨HR.out.2.2.2.2.1, .inr HR.out.2.2.2.2.2.1, HW.out.2.2.2.1⟩
            have hqe : Value.slice q.1 q.2.1 q.2.2 = .slice qd.1 (j + 1) qd.2.2 := by rw [hqd, hqd1]
            simp only [Value.slice.injEq] at hqe
            obtain ⟨hq1, hq2, hq3⟩ := hqe
            rw [← hq1, ← hq2, ← hq3] at htt
            have HOK : Hid (SeqOk acc xs S ∧ Below w.heap.size w wr ∧ Below W3.heap.size W3 wr) := ⟨hok, hbw, hbx⟩
            clear hqd hqd1 hqd2 hbw hok hq1 hq2 hq3 hbx
            go_wp2_with fail
            refine htt.mono ?_
            rintro e w5 ⟨hp5, b5⟩
            obtain ⟨x5, rfl, hi5⟩ : ∃ r : Sr, e = .returned (.tuple #[.slice r.1 r.2.1 r.2.2, .bool true]) ∧ Its (fun _ => True) w5 r.1 r.2.1 S := by
              rcases hp5 with ⟨r, S', e1, h1, h2⟩ | ⟨r, _, _, h2⟩
              · have := h2.unique HOK.out.1
                subst this
                exact ⟨r, e1, h1⟩
              · exact absurd ⟨_, HOK.out.1⟩ h2
            have hs5 : Its (fun _ => True) w5 ra rn S := HW.out.1.up (bl_step HOK.out.2.2 b5)
            have hit5 := fun c1 c2 => items_any (fun _ => True) (fun _ => True) w5 x5.1 ra x5.2.1 rn c1 c2 S S hi5 hs5
            simp only [decide_true] at hit5
            have H5 : Hid (Below w.heap.size w w5 ∧ Its (fun _ => True) w5 ra rn S) := ⟨bl_step HOK.out.2.1 b5, hs5⟩
            clear hp5 htt hi5 hs5 b5
            go_wp2_with fail
            refine (hit5 _ _).mono ?_
            rintro e w6 ⟨rfl, u6⟩
            have H6 : Hid (Below w.heap.size w w6 ∧ Its (fun _ => True) w6 ra rn S) := ⟨bl_step H5.out.1 u6.bl, H5.out.2.up u6.bl⟩
            clear hit5 u6
            by_cases hr2 : rn < 2
            · have hr2I : (rn : Int) < 2 := by omega
              go_wp2
              go_ret
              exact ⟨rfl, H6.out.1⟩
            have hr2I : ¬ ((rn : Int) < 2) := by omega
            obtain ⟨k, hk⟩ : ∃ k, turn % (rn - 1) = k := ⟨_, rfl⟩
            have hk2 : k < rn - 1 := by rw [← hk]; exact Nat.mod_lt _ (by omega)
            have hrI : (rn : Int) - 1 = ((rn - 1 : Nat) : Int) := by omega
            have hkI : (turn : Int) % ((rn - 1 : Nat) : Int) = (k : Int) := by rw [← hk]; exact_mod_cast rfl
            have hnz : ¬ (((rn - 1 : Nat) : Int) = 0) := by omega
            have hk0 : ¬ ((k : Int) < 0) := by omega
            have hkn : (k : Int) < (rn : Int) := by omega
            have hkn1 : (k : Int) + 1 < (rn : Int) := by omega
            have hkn0 : ¬ ((k : Int) + 1 < 0) := by omega
            have hln := HW.out.2.1
            obtain ⟨d, hd⟩ : ∃ d, S[k]? = some d := ⟨S[k]'(by omega), List.getElem?_eq_getElem _⟩
            obtain ⟨d', hd'⟩ : ∃ d', S[k + 1]? = some d' := ⟨S[k + 1]'(by omega), List.getElem?_eq_getElem _⟩
            have hud : Below w6.heap.size w6 w6.drew := ((Up.refl w6).drew).bl
            obtain ⟨b1, o1, t1, ha1, p0, p1, pr⟩ := (H6.out.2.up hud).at hd
            obtain ⟨b1', o1', t2, ha2, q0, q1, qr⟩ := (H6.out.2.up hud).at hd'
            have hbo : b1' = b1 ∧ o1' = o1 := by rw [ha1] at ha2; simp at ha2; exact ⟨ha2.1.symm, ha2.2.symm⟩
            obtain ⟨rfl, rfl⟩ := hbo
            obtain ⟨k1, hk1⟩ : ∃ k1, k + 1 = k1 := ⟨_, rfl⟩
            rw [hk1] at q0 q1
            have hwr : IntKind.i64.wrap ((k : Int) + 1) = (k1 : Int) := by rw [← hk1]; exact wrap_in (by omega) (by omega)
            have hk10 : ¬ ((k1 : Int) < 0) := by omega
            have hk1n : (k1 : Int) < (rn : Int) := by omega
            have two : TwoI b1' (o1' + k * 2) b1' (o1' + k1 * 2) d d' t1 t2 w6.drew := ⟨p0, p1, conv_rw pr, q0, q1, conv_rw qr⟩
            have HK1 : Hid (k + 1 = k1 ∧ k1 < rn) := ⟨hk1, by omega⟩
            have HI6 : Hid (Its (fun _ => True) w6.drew (some ⟨b1', o1', none⟩) rn S) := by show Its _ _ _ _ _; rw [← ha1]; exact H6.out.2.up hud
            have hbe := str_beq d.2 d'.2
            have HDD : Hid (S[k]? = some d ∧ S[k + 1]? = some d' ∧ rn = S.length) := ⟨hd, hd', hln⟩
            clear hk1
            subst ha1
            clear hd hd' hud pr qr p0 p1 q0 q1 hk hln
            obtain ⟨f, xx⟩ := d
            obtain ⟨f', yy⟩ := d'
            simp only at hbe
            by_cases hf : f = f'
            case neg =>
              have hfn : (f != f') = true := by simpa using hf
              clear hbe
              go_wp2_with fail
              refine wp_region_noPanic ?_
              refine wp_region_held_drew (S := TwoI b1' (o1' + k * 2) b1' (o1' + k1 * 2) (f, xx) (f', yy) t1 t2) (by kernel_rfl) (two) (fun hHeld => ?_)
              unfold TwoI at hHeld
              refine tq 0 ?_
              refine tq 1 ?_
              refine tq 2 ?_
              refine tq 3 ?_
              refine tq 4 ?_
              refine tq 5 ?_
              refine tq 6 ?_
              refine tq 7 ?_
              refine tq 8 ?_
              refine tq 9 ?_
              refine tq 10 ?_
              refine tq 11 ?_
              refine tq 12 ?_
              refine tqS 13 ?_
              refine tqS 14 ?_
              refine tqS 15 ?_
              refine tqS 16 ?_
              refine tqS 17 ?_
              refine tqS 18 ?_
              refine tqS 19 ?_
              refine tqS 20 ?_
              refine tqS 21 ?_
              refine tqS 22 ?_
              refine tqS 23 ?_
              refine tqS 24 ?_
              refine tqS 25 ?_
              refine tqS 26 ?_
              refine tq 27 ?_
              refine wpAnyH_done (by kernel_rfl) ?_ _
              refine NoPanic.normal ?_
              go_wp2
              go_ret
              exact ⟨rfl, H6.out.1.drew⟩
            subst hf
            cases hde : decide (xx = yy) with
            | true =>
              rw [hde] at hbe
              go_wp2_with fail
              refine wp_region_noPanic ?_
              refine wp_region_held_drew (S := TwoI b1' (o1' + k * 2) b1' (o1' + k1 * 2) (f, xx) (f, yy) t1 t2) (by kernel_rfl) (two) (fun hHeld => ?_)
              unfold TwoI at hHeld
              refine tq 0 ?_
              refine tq 1 ?_
              refine tq 2 ?_
              refine tq 3 ?_
              refine tq 4 ?_
              refine tq 5 ?_
              refine tq 6 ?_
              refine tq 7 ?_
              refine tq 8 ?_
              refine tq 9 ?_
              refine tq 10 ?_
              refine tq 11 ?_
              refine tq 12 ?_
              refine tq 13 ?_
              refine tq 14 ?_
              refine tq 15 ?_
              refine tq 16 ?_
              refine tq 17 ?_
              refine tq 18 ?_
              refine tq 19 ?_
              refine tq 20 ?_
              refine tq 21 ?_
              refine tq 22 ?_
              refine tq 23 ?_
              refine tq 24 ?_
              refine tq 25 ?_
              refine tq 26 ?_
              refine tq 27 ?_
              refine wpAnyH_done (by kernel_rfl) ?_ _
              refine NoPanic.normal ?_
              go_wp2
              go_ret
              exact ⟨rfl, H6.out.1.drew⟩
            | false =>
              rw [hde] at hbe
              have HNE : Hid (xx ≠ yy) := of_decide_eq_false hde
              clear hde
              go_wp2_with fail
              refine wp_region_noPanic ?_
              refine wp_region_held_drew (S := TwoI b1' (o1' + k * 2) b1' (o1' + k1 * 2) (f, xx) (f, yy) t1 t2) (by kernel_rfl) (two) (fun hHeld => ?_)
              unfold TwoI at hHeld
              refine tq 0 ?_
              refine tq 1 ?_
              refine tq 2 ?_
              refine tq 3 ?_
              refine tq 4 ?_
              refine tq 5 ?_
              refine tq 6 ?_
              refine tq 7 ?_
              refine tq 8 ?_
              refine tq 9 ?_
              refine tq 10 ?_
              refine tq 11 ?_
              refine tq 12 ?_
              refine tq 13 ?_
              refine tq 14 ?_
              refine tq 15 ?_
              refine tq 16 ?_
              refine tq 17 ?_
              refine tq 18 ?_
              refine tq 19 ?_
              refine tq 20 ?_
              refine tq 21 ?_
              refine tq 22 ?_
              refine tq 23 ?_
              refine tq 24 ?_
              refine tq 25 ?_
              refine tq 26 ?_
              refine tq 27 ?_
              refine wpAnyH_done (by kernel_rfl) ?_ _
              refine NoPanic.normal ?_
              clear two hHeld hbe
              obtain ⟨w7, hw7⟩ : ∃ w7, w6.drew = w7 := ⟨_, rfl⟩
              (try simp only [hw7])
              obtain ⟨xs0, hI0, hlen0, hit0⟩ := HI6.out
              rw [hw7] at hI0 hit0
              have H7 : Hid (Below w.heap.size w w7) := by show Below _ _ _; rw [← hw7]; exact H6.out.1.drew
              have hxl0 := hI0.1
              have HC7 : Hid ((cellI xs0).length = rn * 2 ∧ (∀ j u, (cellI xs0)[j]? = some u → w7.cell? ((⟨b1', o1', none⟩ : Addr).add j) = some u) ∧ (∀ (j : Nat) (x : Ix) (d : Di), xs0[j]? = some x → S[j]? = some d → It (fun _ => True) w7 x d) ∧ xs0.length = rn) := ⟨by rw [cellI_len, hxl0], hI0.cells, hit0, hxl0⟩
              obtain ⟨i0, hi0', hz0', hz1', hz2'⟩ := info_parts infoI
              clear hw7 hI0 hit0 hlen0 hxl0
              go_wp2_with (at_builtin; refine wpList_append_own_at _ rfl (.tmp 164) (.tmp 165) 25 rfl w7.heap.size 34 i0 (.agg #[.int .i64 0, .slice none 0 0]) 2 32 und25 hi0' hz0' hz1' hz2' rfl (by decide) _ 0 [] rfl ?m1neg ⟨b1', o1', none⟩ rn rc (cellI xs0) rfl ?m2neg ?m3neg ?m4neg ?m6neg ?m7neg ?m8neg ?_)
              case m1neg => exact ⟨rfl, .inl ⟨rfl, rfl⟩⟩
              case m2neg => exact HC7.out.1
              case m3neg => exact HC7.out.2.1
              case m4neg => exact fun u hu => cellI_one hu
              case m6neg => unfold maxLen; omega
              case m7neg => omega
              case m8neg => exact Nat.le_refl _
              intro v8 w8 hown8 hgrow8 _ _
              have hb8 : Below w7.heap.size w7 w8 := bl_grown (Below.refl _ _) (Nat.le_refl _) hgrow8 (fun kk hk => by simp [Value.ownBlock] at hk)
              have hr8 := IR.own (xs := xs0) (B := w7.heap.size) (n := rn) (v := v8) (w := w8) (by simpa using hown8) (by omega)
              obtain ⟨g2, cap2, rfl, hg2, hg2l, hfz, hIR⟩ : ∃ g cap', v8 = .slice (some ⟨g, 0, none⟩) rn cap' ∧ w7.heap.size ≤ g ∧ g < w8.heap.size ∧ (∀ i, w8.frozen? ⟨g, i, none⟩ = false) ∧ IR (fun b => b = g) w8 (some ⟨g, 0, none⟩) rn xs0 := by
                rcases hr8 with ⟨_, h0⟩ | h8
                · omega
                · exact h8
              obtain ⟨x, hx⟩ : ∃ x, xs0[k]? = some x := ⟨xs0[k]'(by have := HC7.out.2.2.2; omega), List.getElem?_eq_getElem _⟩
              obtain ⟨y, hy⟩ : ∃ y, xs0[k1]? = some y := ⟨xs0[k1]'(by have := HC7.out.2.2.2; have := HK1.out.2; omega), List.getElem?_eq_getElem _⟩
              obtain ⟨b8, o8, e8, _, hc8⟩ := hIR.2.2.2 (by omega)
              simp only [Option.some.injEq, Addr.mk.injEq] at e8
              obtain ⟨rfl, rfl, _⟩ := e8
              obtain ⟨c0, c1⟩ := hc8 k x hx
              obtain ⟨d0, d1⟩ := hc8 k1 y hy
              simp only [Nat.zero_add] at c0 c1 d0 d1
              have hcap8 := own_cap hown8
              have H8 : Hid (IR (fun b => b = g2) w8 (some ⟨g2, 0, none⟩) rn xs0 ∧ Below w7.heap.size w7 w8 ∧ w7.heap.size ≤ g2 ∧ g2 < w8.heap.size ∧ xs0[k]? = some x ∧ xs0[k1]? = some y ∧ rn ≤ cap2 ∧ cap2 ≤ 9223372036854775807) := ⟨hIR, hb8, hg2, hg2l, hx, hy, by omega, hcap8.2⟩
              clear hown8 hgrow8 hr8 hIR hx hy hc8 hb8 hg2 hg2l
              obtain ⟨xf, xo, xn, xc⟩ := x
              obtain ⟨yf, yo, yn, yc⟩ := y
              simp only at c0 c1 d0 d1
              have hkk := HK1.out.1
              have n1 : ¬ (k1 * 2 = k * 2) := by omega
              have n2 : ¬ (k1 * 2 = k * 2 + 1) := by omega
              have n3 : ¬ (k1 * 2 + 1 = k * 2) := by omega
              have n4 : ¬ (k1 * 2 + 1 = k * 2 + 1) := by omega
              have m1 : ¬ (k * 2 = k1 * 2) := by omega
              have m2 : ¬ (k * 2 = k1 * 2 + 1) := by omega
              have m3 : ¬ (k * 2 + 1 = k1 * 2) := by omega
              have m4 : ¬ (k * 2 + 1 = k1 * 2 + 1) := by omega
              clear hkk
              obtain ⟨w9, hw9⟩ : ∃ w9, ((((w8.setCell ⟨g2, k * 2, none⟩ (.int .i64 yf)).setCell ⟨g2, k * 2 + 1, none⟩ (.slice yo yn yc)).setCell ⟨g2, k1 * 2, none⟩ (.int .i64 xf)).setCell ⟨g2, k1 * 2 + 1, none⟩ (.slice xo xn xc)).drew = w9 := ⟨_, rfl⟩
              have HI9 : Hid (Its (fun _ => True) w9 (some ⟨g2, 0, none⟩) rn ((S.set k (f, yy)).set k1 (f, xx)) ∧ Below w.heap.size w w9 ∧ rn ≤ cap2 ∧ cap2 ≤ 9223372036854775807) := by
                obtain ⟨i1, i2, i3, i4, i5, i6, i7, i8⟩ := H8.out
                have hxl := HC7.out.2.2.2
                have hkr := HK1.out
                have hb9 : Below w7.heap.size w7 w9 := by
                  rw [← hw9]
                  exact ((((i2.setCell i3 _).setCell i3 _).setCell i3 _).setCell i3 _).drew
                have hir := (i1.put (k := k) (y := (yf, yo, yn, yc)) (by omega)).put (k := k1) (y := (xf, xo, xn, xc)) (by simp; omega)
                have hir9 : IR (fun b => b = g2) w9 (some ⟨g2, 0, none⟩) rn ((xs0.set k (yf, yo, yn, yc)).set k1 (xf, xo, xn, xc)) := by
                  rw [← hw9]
                  exact hir.keep (Kp.up ((Up.refl _).drew).bl)
                have kp : Kp (fun b => b < w7.heap.size) w7 w9 := Kp.below hb9 (fun _ hb => hb)
                have itk : ∀ (j : Nat) (x : Ix) (d : Di), xs0[j]? = some x → S[j]? = some d → It (fun _ => True) w9 x d := fun j x d hx hd => (((HC7.out.2.2.1 j x d hx hd).imp (q := fun b => b < w7.heap.size) (fun b hb _ => hb)).keep kp).imp (fun _ _ _ => trivial)
                refine ⟨⟨_, hir9.imp (fun _ _ _ => trivial), by simp [← HDD.out.2.2], fun j u v hu hv => ?_⟩, H7.out.trans (hb9.mono H7.out.size), i7, i8⟩
                have hsl := HDD.out.2.2
                by_cases e1 : j = k1
                · subst e1
                  rw [List.getElem?_set_self (by simp; omega)] at hu hv
                  cases hu
                  cases hv
                  exact itk k _ _ i5 HDD.out.1
                · rw [List.getElem?_set_ne (by omega)] at hu hv
                  by_cases e2 : j = k
                  · subst e2
                    rw [List.getElem?_set_self (by omega)] at hu hv
                    cases hu
                    cases hv
                    exact itk k1 _ _ i6 (by rw [← hkr.1]; exact HDD.out.2.1)
                  · rw [List.getElem?_set_ne (by omega)] at hu hv
                    exact itk j u v hu hv
              obtain ⟨w10, hw10⟩ : ∃ w10, w9.alloc (.cells #[.slice (some ⟨g2, 0, none⟩) rn cap2] 25) = w10 := ⟨_, rfl⟩
              have u10 : Below w9.heap.size w9 w10 := by rw [← hw10]; exact bl1 _ _
              have hi10 : Iss w10 (some ⟨w9.heap.size, 0, none⟩) 1 [(S.set k (f, yy)).set k1 (f, xx)] :=
                lr_one (r := (some ⟨g2, 0, none⟩, rn, cap2)) (by rw [← hw10]; exact cell_box w9 _ 25 0 _ rfl) ⟨HI9.out.2.2.1, HI9.out.2.2.2, fun e => by cases e⟩ (HI9.out.1.up u10)
              have hb10 := bl_step HI9.out.2.1 u10
              have ht9 := total_any w10 ao n cap acc (Bss.up HI.out.1 hb10) (by omega) (some ⟨w9.heap.size, 0, none⟩) 1 1 _ hi10
              have H9 : Hid (True ∧ Below w.heap.size w w10) := ⟨trivial, hb10⟩
              clear u10 hi10 hb10
              go_wp2_with fail
              go_big_region
              (try simp only [hw9])
              clear c0 c1 d0 d1 n1 n2 n3 n4 m1 m2 m3 m4 hw9 hfz
              go_wp2_with fail
              (try simp only [hw10])
              clear hw10
              refine ht9.mono ?_
              rintro e w11 ⟨hp11, b11⟩
              obtain ⟨s11, rfl⟩ : ∃ r : Sr, e = .returned (.tuple #[.slice r.1 r.2.1 r.2.2, .bool false]) := by
                rcases hp11 with ⟨r, S', _, _, h2⟩ | ⟨r, e1, _, _⟩
                · exact absurd ⟨_, h2⟩ (swap_no HW.out.2.2.2.1 HDD.out.1 (k1 := k1) (by rw [← HK1.out.1]; exact HDD.out.2.1) HK1.out.1 HNE.out)
                · exact ⟨r, e1⟩
              have HE : Hid (Below w.heap.size w w11) := bl_step H9.out.2 b11
              clear hp11 ht9 b11
              go_wp2
              go_ret
              exact ⟨rfl, HE.out⟩

set_option maxRecDepth 100000 in
theorem lifted (os : Os) (started : os.Started) (H : Type) (enc : TypeId × Value → H) :
    ReturnsInHanded {} Try.checked os 4 .any (Rows.judgeMixesSpec.pre6 enc Try.prog Try.f4 Rows.judgeMixesRow.domain false) (Rows.judgeMixesSpec.post enc Try.prog Try.f4 false true false false) := by
  refine returnsInHanded_of_change_sized (C := Try.checked) own started (by kernel_rfl) Try.func4
    (ChangeSpec.witness6 (enc := enc) (C := Try.checked) false ⟨#[], #[.slice none 0 0, .slice none 0 0, .slice none 0 0, .int .u8 0], []⟩ 12 (by kernel_rfl) (by kernel_rfl) (by kernel_rfl) (by kernel_rfl)) ?_
  intro W base args ds gs before hval0 hW hcnd hsz0 _
  have hsz : (DataW.weightsEach Try.prog (Try.f4.params.toList ++ Rows.judgeMixesSpec.plain.varTypes Try.prog) (ds ++ gs)).all (· ≤ reachBytes) = true := hsz0
  have hval : ∀ (j : Nat) t v, Try.f4.params[j]? = some t → args[j]? = some v → Value.okWide Try.prog W .any base t v := hval0
  have hW' := hW
  obtain ⟨p, q, hA0, hV, rfl, hfz, hnd⟩ := hW
  have hA : DataW.TrodAll enc Try.prog W 0 (fun _ => true) true Try.f4.params.toList args.toList ds p := hA0
  rw [Try.params4] at hA hval hsz
  obtain ⟨v0, vs0, d0, ds0, p0, q0, hargs0, rfl, rfl, h0, r0⟩ := trodAll_cons hA
  obtain ⟨v1, vs1, d1, ds1, p1, q1, hargs1, rfl, rfl, h1, r1⟩ := trodAll_cons r0
  obtain ⟨v2, vs2, d2, ds2, p2, q2, hargs2, rfl, rfl, h2, r2⟩ := trodAll_cons r1
  obtain ⟨v3, vs3, d3, ds3, p3, q3, hargs3, rfl, rfl, h3, r3⟩ := trodAll_cons r2
  obtain ⟨rfl, rfl, rfl⟩ := trodAll_nil r3
  obtain rfl : args = #[v0, v1, v2, v3] := by cases args; simp_all
  obtain ⟨rfl, rfl⟩ := trodVars_none hV
  obtain ⟨a0, len0, cap0, rfl⟩ := okWide_slice Try.underlying22 (hval 0 22 v0 rfl rfl)
  have k0 := h0
  have lt0 : ∀ x ∈ p0, x.block < W.heap.size := by obtain ⟨m, hm⟩ := k0; exact DataW.trod_lt m _ _ _ hm
  obtain ⟨xs0, hx0, hc0⟩ := open_bss h0 (fits_of hsz (j := 0) rfl rfl)
  obtain ⟨a1, len1, cap1, rfl⟩ := okWide_slice Try.underlying30 (hval 1 30 v1 rfl rfl)
  have k1 := h1
  have lt1 : ∀ x ∈ p1, x.block < W.heap.size := by obtain ⟨m, hm⟩ := k1; exact DataW.trod_lt m _ _ _ hm
  obtain ⟨xs1, hx1, hc1⟩ := open_by h1 (fits_of hsz (j := 1) rfl rfl)
  obtain ⟨a2, len2, cap2, rfl⟩ := okWide_slice Try.underlying30 (hval 2 30 v2 rfl rfl)
  have k2 := h2
  have lt2 : ∀ x ∈ p2, x.block < W.heap.size := by obtain ⟨m, hm⟩ := k2; exact DataW.trod_lt m _ _ _ hm
  obtain ⟨xs2, hx2, hc2⟩ := open_by h2 (fits_of hsz (j := 2) rfl rfl)
  obtain ⟨a3, rfl, rfl, rfl, w3⟩ := open_int Try.underlying5 (hval 3 5 v3 rfl rfl) h3
  clear hA0 hval0 hsz hsz0
  obtain ⟨n3, rfl, hn3⟩ := u8_of_wf w3
  refine (walk W a0 len0 cap0 xs0 hx0 hc0 a1 len1 cap1 xs1 hx1 hc1 a2 len2 cap2 xs2 hx2 hc2 n3 hn3).mono fun e W' ⟨he, bel⟩ => ?_
  subst he
  exact ⟨_, rfl, _, _, _, [], _, [], hW', trodAll_mk1 (shut_bool Try.underlying4 _), (trodAll_cons_mk (Below.trod laidOut (by kernel_rfl) (of_decide_eq_true (by kernel_rfl)) k0 bel lt0) (trodAll_cons_mk (Below.trod laidOut (by kernel_rfl) (of_decide_eq_true (by kernel_rfl)) k1 bel lt1) (trodAll_cons_mk (Below.trod laidOut (by kernel_rfl) (of_decide_eq_true (by kernel_rfl)) k2 bel lt2) (trodAll_cons_mk (shut_int Try.underlying5 w3) trodAll_mk0)))), rfl, bel.frame _, fun h => by cases h⟩

theorem over : Rows.judgeMixesRow.holds Try.pinned (OpenSpec.ofChange Rows.judgeMixesSpec) :=
  OpenClaim.holds_of_wide 4 Try.f4 rfl rfl rfl rfl rfl rfl rfl ⟨rfl, rfl, rfl, rfl, rfl⟩ rfl rfl rfl rfl rfl (by kernel_rfl) Try.func4 (by kernel_rfl)
    (of_decide_eq_true (by kernel_rfl)) (by unfold Func.isWrapper; first | (rw [if_pos (by decide +kernel)]; kernel_rfl) | (rw [if_neg (by decide +kernel)]; exact ⟨rfl, rfl⟩))
    (fun os started H enc _ => lifted os started H enc)

end Go.Proofs.Ythnbijnpbjfoaaa.judgeMixes
namespace Go.Proofs.Ythnbijnpbjfoaaa
theorem judgeMixes_holds : Rows.JudgeMixesSaid := judgeMixes.over
#print axioms judgeMixes_holds
end Go.Proofs.Ythnbijnpbjfoaaa
