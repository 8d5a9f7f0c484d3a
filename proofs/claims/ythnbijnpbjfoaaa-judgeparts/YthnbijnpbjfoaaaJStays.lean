/-
  judge's staysOf: a node's times in views, one behind the other.
-/
import Derived.Test.YthnbijnpbjfoaaaJStays1
namespace Go.Proofs.Ythnbijnpbjfoaaa
open Go.RowKit Go.Sort
set_option linter.unusedVariables false

theorem und49s : (Try.prog.underlying 49).any (·.isRow) = true := by kernel_rfl
theorem info49 : (Try.prog.info? 49).map (·.size) = some 6 := by kernel_rfl
/-- An event is read. -/
theorem wpList_load_Ev {ops : Array Oper} {rest : List Oper} {o : Oper} {a : Act} {w : World} {Q : Exit → Act → World → Prop} (hgd : o.guard = none) (x : Operand) (ho : o.op = .load 49 x) (b of : Nat) (hx : a.eval x = .pointer (some ⟨b, of, none⟩)) (e : Ev) (r : Sr) (h6 : E6 w b of e r)
    (h : wpList Try.prog ops Q rest (a.put o.dst (.agg #[.int .u8 (e.k : Nat), .int .u64 (e.n : Nat), .int .i64 e.p, .int .u16 (e.s : Nat), .int .i64 e.f, .slice r.1 r.2.1 r.2.2])) w) : wpList Try.prog ops Q (o :: rest) a w := by
  obtain ⟨d, hd, hr⟩ := (Option.any_eq_true _ _).1 und49s
  obtain ⟨h0, h1, h2, h3, h4, h5⟩ := h6
  refine wpList_load_mid hgd 49 x ho b of hx [.int .u8 (e.k : Nat), .int .u64 (e.n : Nat), .int .i64 e.p, .int .u16 (e.s : Nat), .int .i64 e.f, .slice r.1 r.2.1 r.2.2] d (fun j u hj => ?_) hd hr info49 h
  match j, hj with
  | 0, hj => simp at hj; subst hj; simpa using h0
  | 1, hj => simp at hj; subst hj; exact h1
  | 2, hj => simp at hj; subst hj; exact h2
  | 3, hj => simp at hj; subst hj; exact h3
  | 4, hj => simp at hj; subst hj; exact h4
  | 5, hj => simp at hj; subst hj; exact h5
  | n + 6, hj => simp at hj
theorem info59 : (Try.prog.info? 59).map (fun i => (i.zero, i.size, i.bytes)) = some (some (.pointer none), 1, 8) := by kernel_rfl
theorem und55 : Try.prog.underlying 55 = some (.slice 59) := by kernel_rfl
def zeroE : Ev := ⟨0, 0, 0, 0, 0, []⟩
theorem st_start {pE : Nat → Prop} {w w1 : World} {node : Nat} {es : List Ev} (h1 : w.alloc (.cells (freshCells node zeroE) 62) = w1) : StI pE w w1 node es 0 [] (zeroY node) [] w.heap.size (w.heap.size + 1) (none, 0, 0) := by
  have y9 := y9_new w node zeroE
  rw [h1] at y9
  refine ⟨by simp [runD], rfl, ⟨(none, 0, 0), (none, 0, 0), by omega, by rw [← h1]; simp, y9, fun i => by rw [← h1]; exact frozen_new w _ 62 i, OwB.nil _ _ _, OwP.nil _ _ _⟩, Nat.le_refl _, fun j q' y' hq => by simp at hq, ⟨rfl, .inl ⟨rfl, rfl⟩⟩, fun b hb => by simp [slv, Value.ownBlock] at hb, by rw [← h1]; exact bl1 _ _, by simp [zeroY], rfl⟩
def StaysPost (pE : Nat → Prop) (w : World) (node : Nat) (es : List Ev) (e : Ending) (w' : World) : Prop :=
  ((∃ (ys : List Sy) (qs : List Nat) (r : Sr), staysD node es = some ys ∧ e = .returned (.tuple #[.slice r.1 r.2.1 r.2.2, .bool true]) ∧ w'.ownsRow w.heap.size 59 1 (slv r) ys.length (qs.map ptr) ∧ qs.length = ys.length ∧ ∀ (j : Nat) q y, qs[j]? = some q → ys[j]? = some y → Fin (fun b => (pE b ∨ w.heap.size ≤ b) ∧ (slv r).ownBlock ≠ some b) w' q y) ∨
    (staysD node es = none ∧ e = .returned (.tuple #[.slice none 0 0, .bool false]))) ∧ Below w.heap.size w w'
theorem st_end {pE : Nat → Prop} {w wr : World} {node n : Nat} {es : List Ev} {done : List Sy} {cur : Sy} {qs : List Nat} {q Z : Nat} {rl : Sr} (h : StI pE w wr node es n done cur qs q Z rl) (hn : es.length = n) (hn9 : n ≤ 9000) (hpE : ∀ b, pE b → b < w.heap.size) : StaysPost pE w node es (.returned (.tuple #[.slice rl.1 rl.2.1 rl.2.2, .bool true])) wr := by
  have hrun := h.run
  rw [← hn, List.take_length] at hrun
  have hqZ := h.isc.qZ
  have hW := h.W0q
  have hold : ∀ b, (slv rl).ownBlock = some b → w.heap.size ≤ b ∧ b < Z ∧ b ≠ q := fun b hb' => ⟨(own_blk h.row hb').1, h.blk b hb'⟩
  have hcf : Fin (fun b => (pE b ∨ w.heap.size ≤ b) ∧ (slv rl).ownBlock ≠ some b) wr q cur := by
    refine h.isc.fin (fun b hb' => ⟨.inl hb', fun e => ?_⟩) ⟨.inr hW, fun e => (hold q e).2.2 rfl⟩ (fun b h1 h2 => ⟨.inr ?_, fun e => ?_⟩) ?_
    · have := hpE b hb'
      have := hold b e
      omega
    · omega
    · have := hold b e
      omega
    · have := h.bd
      omega
  have hall : ∀ (j : Nat) q1 y1, (qs ++ [q])[j]? = some q1 → (done ++ [cur])[j]? = some y1 → Fin (fun b => (pE b ∨ w.heap.size ≤ b) ∧ (slv rl).ownBlock ≠ some b) wr q1 y1 := by
    intro j q1 y1 hq1 hy1
    by_cases hj : j < done.length
    · rw [List.getElem?_append_left (by rw [h.len]; exact hj)] at hq1
      rw [List.getElem?_append_left hj] at hy1
      exact (h.fin j q1 y1 hq1 hy1).imp (fun b _ hb' => ⟨hb'.1, hb'.2.2⟩)
    · have hl2 := (List.getElem?_eq_some_iff.1 hy1).1
      simp at hl2
      have : j = done.length := by omega
      subst this
      rw [List.getElem?_append_right (by rw [h.len]; exact Nat.le_refl _), h.len] at hq1
      rw [List.getElem?_append_right (Nat.le_refl _)] at hy1
      simp at hq1 hy1
      subst hq1 hy1
      exact hcf
  refine ⟨.inl ⟨(done ++ [cur]).tail, (qs ++ [q]).tail, rl, by unfold staysD; rw [hrun]; rfl, rfl, by simpa using h.row, by simp [h.len], fun j q1 y1 hq1 hy1 => ?_⟩, h.bl⟩
  rw [List.getElem?_tail] at hq1 hy1
  exact hall _ q1 y1 hq1 hy1

set_option maxRecDepth 10000 in
set_option maxHeartbeats 4000000 in
theorem stays_any (pE : Nat → Prop) (w : World) (node : Nat) (ao : Option Addr) (n cap : Nat) (es : List Ev) (h : EvR pE w ao n es) (hok : ∀ e ∈ es, EvOk e) (hpE : ∀ b, pE b → b < w.heap.size) (hn9 : n ≤ 9000) :
    Calls Try.prog 22 #[.int .i64 (node : Nat), .slice ao n cap] w fun e w' => StaysPost pE w node es e w' := by
  have hl := h.1
  have HI : Hid (EvR pE w ao n es ∧ ∀ e ∈ es, EvOk e) := ⟨h, hok⟩
  obtain ⟨w1, hw1⟩ : ∃ w1, w.alloc (.cells #[.int .i64 (node : Nat), .int .u64 0, .int .i64 0, .int .u16 0, .slice none 0 0, .slice none 0 0, .int .i64 0, .int .u64 0, .int .i64 0] 62) = w1 := ⟨_, rfl⟩
  have HS : Hid (StI pE w w1 node es 0 [] (zeroY node) [] w.heap.size (w.heap.size + 1) (none, 0, 0)) := st_start hw1
  clear h hok
  go_enter Try.func22, Try.ntmps22
  go_wp2_with fail
  (try simp only [hw1])
  clear hw1
  go_loopw [6, 7, 9, 15] (fun lv pv _ iv wr => ∃ (k : Nat) (done : List Sy) (cur : Sy) (qs : List Nat) (q Z : Nat) (rl : Sr), k ≤ n ∧ iv = .int .i64 (k : Nat) ∧ pv = .pointer (some ⟨q, 0, none⟩) ∧ lv = .slice rl.1 rl.2.1 rl.2.2 ∧ StI pE w wr node es k done cur qs q Z rl) (fun _ _ _ iv _ => n - (intOf iv).toNat)
  case atStart => exact ⟨0, [], zeroY node, [], w.heap.size, w.heap.size + 1, (none, 0, 0), by omega, rfl, rfl, rfl, HS.out⟩
  case round =>
    clear HS
    obtain ⟨k, done, cur, qs, q, Z, rl, hk, rfl, rfl, rfl, hst⟩ := hrel
    have HST : Hid (StI pE w wr node es k done cur qs q Z rl) := hst
    clear hst
    by_cases hlt : k < n
    · have hltI : (k : Int) < (n : Int) := by omega
      have hk0 : ¬ ((k : Int) < 0) := by omega
      obtain ⟨e, he⟩ : ∃ e, es[k]? = some e := ⟨es[k]'(by omega), List.getElem?_eq_getElem (by omega)⟩
      have heok := HI.out.2 e (List.mem_of_getElem? he)
      obtain ⟨b, off, r, rfl, h6, hcp, hrw⟩ := (HI.out.1.keep (Kp.below HST.out.bl hpE)).at he
      obtain ⟨w2, hw2⟩ : ∃ w2, wr.alloc (.cells #[.int .u8 (e.k : Nat), .int .u64 (e.n : Nat), .int .i64 e.p, .int .u16 (e.s : Nat), .int .i64 e.f, .slice r.1 r.2.1 r.2.2] 49) = w2 := ⟨_, rfl⟩
      have u2 : Up wr w2 := by rw [← hw2]; exact (Up.refl _).alloc _
      have x6 := e6_new wr e r 49
      rw [hw2] at x6
      obtain ⟨X, hX⟩ : ∃ X, wr.heap.size = X := ⟨_, rfl⟩
      rw [hX] at x6
      have hXq : q < X := by have := HST.out.isc.qZ; omega
      have hst2 := HST.out.up u2.bl
      have HS2 : Hid (StI pE w w2 node es k done cur qs q Z rl ∧ es[k]? = some e ∧ Cp r ∧ Rw pE w2 r.1 r.2.1 e.m ∧ EvOk e) := ⟨hst2, he, hcp, hrw.up u2.bl, heok⟩
      clear he hcp hrw hst2 u2 heok
      obtain ⟨x0, x1, x2, x3, x4, x5⟩ := x6
      simp only [Nat.zero_add] at x1 x2 x3 x4 x5
      by_cases hk1 : e.k = 1
      · have hkb : ((e.k : Int) == 1) = true := by simp; omega
        have hkn : ((e.k : Int) != 1) = false := by simp; omega
        have HK1 : Hid (e.k = 1) := hk1
        clear hk1
        obtain ⟨rs, rg, _, _, hy9, hfz, _, _⟩ := HS2.out.1.isc
        have hba := before_any w2 q cur rs rg hy9 e HS2.out.2.2.2.2.2.2.2.2.1
        unfold ptr viv at hba
        obtain ⟨bb, hbb⟩ : ∃ bb, beforeD cur e = bb := ⟨_, rfl⟩
        rw [hbb] at hba
        have HBB : Hid (beforeD cur e = bb) := hbb
        clear hbb hy9 hfz
        go_wp2_with (refine wpList_load_Ev rfl (.tmp 17) rfl b (off + k * 6) rfl e r h6 ?_)
        (try simp only [hX, hw2])
        clear hw2 hX h6
        go_wp2_with fail
        refine hba.mono ?_
        rintro ee w3 ⟨rfl, u3⟩
        cases bb with
        | false =>
          have HN : Hid (staysD node es = none ∧ Below w.heap.size w w3) := ⟨HS2.out.1.no_view HS2.out.2.1 HK1.out HBB.out, bl_step HS2.out.1.bl u3.bl⟩
          clear hba u3 x0 x1 x2 x3 x4 x5
          go_wp2
          go_ret2
          exact ⟨.inr ⟨HN.out.1, rfl⟩, HN.out.2⟩
        | true =>
          have x1 := bl_cell u3.bl x1
          have x2 := bl_cell u3.bl x2
          have x3 := bl_cell u3.bl x3
          have HS3 : Hid (StI pE w w3 node es k done cur qs q Z rl) := HS2.out.1.up u3.bl
          obtain ⟨rs, rg, hqz, hzw, hy9, hfz, _, _⟩ := HS3.out.isc
          have q7 := hy9.2.2.2.2.2.2.2.1
          have q8 := hy9.2.2.2.2.2.2.2.2
          have f7 := hfz 7
          have f8 := hfz 8
          obtain ⟨w4, hw4⟩ : ∃ w4, (w3.setCell ⟨q, 7, none⟩ (.int .u64 (e.n : Nat))).setCell ⟨q, 8, none⟩ (.int .i64 e.p) = w4 := ⟨_, rfl⟩
          obtain ⟨q', hq'⟩ : ∃ q', w4.heap.size = q' := ⟨_, rfl⟩
          obtain ⟨w5, hw5⟩ : ∃ w5, w4.alloc (.cells #[.int .i64 (node : Nat), .int .u64 (e.n : Nat), .int .i64 e.p, .int .u16 (e.s : Nat), .slice none 0 0, .slice none 0 0, .int .i64 0, .int .u64 0, .int .i64 0] 62) = w5 := ⟨_, rfl⟩
          have hne : ∀ i j, (⟨X, i, none⟩ : Addr) ≠ ⟨q, j, none⟩ := fun i j e => by
            have := congrArg Addr.block e
            simp only at this
            omega
          have z1 : w4.cell? ⟨X, 1, none⟩ = some (.int .u64 (e.n : Nat)) := by rw [← hw4]; exact setCell_other' (hne _ _) (setCell_other' (hne _ _) x1)
          have z2 : w4.cell? ⟨X, 2, none⟩ = some (.int .i64 e.p) := by rw [← hw4]; exact setCell_other' (hne _ _) (setCell_other' (hne _ _) x2)
          have z3 : w4.cell? ⟨X, 3, none⟩ = some (.int .u16 (e.s : Nat)) := by rw [← hw4]; exact setCell_other' (hne _ _) (setCell_other' (hne _ _) x3)
          have hrow := HS3.out.row
          have hlen : done.length ≤ 9000 := by
            have := HS3.out.donelen
            omega
          obtain ⟨vs, hvs⟩ : ∃ vs, ((qs ++ [q]).tail).map ptr = vs := ⟨_, rfl⟩
          have HV : Hid (((qs ++ [q]).tail).map ptr = vs) := hvs
          rw [hvs] at hrow
          obtain ⟨dn, hdn⟩ : ∃ dn, done.length = dn := ⟨_, rfl⟩
          have HDN : Hid (done.length = dn) := hdn
          rw [hdn] at hrow hlen
          have t34 : Tch q Z w3 w4 := by rw [← hw4]; exact (Tch.set _ _ _).trans (Tch.set _ _ _)
          have hrow5 : w5.ownsRow w.heap.size 59 1 (.slice rl.1 rl.2.1 rl.2.2) dn vs := by
            have h4 := own_of_block hrow t34.size (fun b hb => t34.block b (HS3.out.blk b hb).1 (HS3.out.blk b hb).2)
            have := own_keep h4 (w' := w5) (by rw [← hw5]; exact bl1 _ _)
            exact this
          have hsz5 : w.heap.size ≤ w5.heap.size := by
            have := HS3.out.bl.size
            have := t34.size
            rw [← hw5]
            simp
            omega
          have HW : Hid ((w3.setCell ⟨q, 7, none⟩ (.int .u64 (e.n : Nat))).setCell ⟨q, 8, none⟩ (.int .i64 e.p) = w4 ∧ w4.heap.size = q' ∧ w4.alloc (.cells (freshCells node e) 62) = w5) := ⟨hw4, hq', hw5⟩
          clear hba u3 hy9 hfz x4 x5 x0 hrow hvs hdn t34 hqz hzw hne hXq
          go_wp2_with (at_builtin; refine wpList_append_gen rfl (.tmp 42) (.tmp 44) 55 59 rfl (.pointer none) 1 8 und55 info59 rfl (by decide) (by omega) w.heap.size _ dn vs rfl ?d1 [.pointer (some ⟨q', 0, none⟩)] rfl ?d2 w5.heap.size rfl rfl ?d3 ?d4 ?_)
          case d1 => exact hrow5
          case d2 => first | rfl | (intro u hu; simp at hu; subst hu; rfl)
          case d3 => omega
          case d4 => exact hsz5
          intro v' w6 hown hgrow hat
          obtain ⟨rl', rfl, hst6⟩ := HS3.out.view (v' := v') (w6 := w6) hpE HS2.out.2.1 HK1.out HBB.out HW.out.1 HW.out.2.1 HW.out.2.2 (by rw [HV.out, HDN.out]; exact hown) hgrow hat (by omega)
          have HN : Hid _ := hst6
          unfold slv
          clear hown hgrow hat hst6 z1 z2 z3 hrow5 hsz5
          go_wp2
          go_roundw
          case rel => exact ⟨k + 1, _, _, _, q', _, rl', by omega, by go_num, rfl, rfl, HN.out⟩
          case measure => simp [intOf]; omega
      · have hkb : ((e.k : Int) == 1) = false := by simp; omega
        have hkn : ((e.k : Int) != 1) = true := by simp; omega
        have hta := take_any pE Z w2 q cur HS2.out.1.isc (HS2.out.1.hp hpE) e r HS2.out.2.2.1 HS2.out.2.2.2.1 (by have := HS2.out.1.bd; omega) (by have := HS2.out.1.bd; omega) HS2.out.1.bd.2.2
        unfold ptr evv at hta
        go_wp2_with (refine wpList_load_Ev rfl (.tmp 17) rfl b (off + k * 6) rfl e r h6 ?_)
        (try simp only [hX, hw2])
        clear hw2 hX h6
        go_wp2_with fail
        refine hta.mono ?_
        rintro ee w3 ⟨ht3, ht4⟩
        rcases ht3 with ⟨y', h1, rfl, h2⟩ | ⟨h1, rfl⟩
        · have HN : Hid (StI pE w w3 node es (k + 1) done y' qs q Z rl) := HS2.out.1.take HS2.out.2.1 hk1 h1 h2 ht4
          clear hta h1 h2 ht4 x0 x1 x2 x3 x4 x5
          go_wp2
          go_roundw
          case rel => exact ⟨k + 1, done, y', qs, q, Z, rl, by omega, by go_num, rfl, rfl, HN.out⟩
          case measure => simp [intOf]; omega
        · have HN : Hid (staysD node es = none ∧ Below w.heap.size w w3) := ⟨HS2.out.1.no_take HS2.out.2.1 hk1 h1, HS2.out.1.bl.trans (ht4.below HS2.out.1.W0q (by have := HS2.out.1.W0q; have := HS2.out.1.isc.qZ; omega))⟩
          clear hta h1 ht4 x0 x1 x2 x3 x4 x5
          go_wp2
          go_ret2
          exact ⟨.inr ⟨HN.out.1, rfl⟩, HN.out.2⟩
    · obtain rfl : k = n := by omega
      have HE : Hid _ := st_end HST.out hl hn9 hpE
      go_wp2
      go_ret2
      exact HE.out
end Go.Proofs.Ythnbijnpbjfoaaa
