/-
  The law's told: what nodes from 0 on told, in an order that is turned.
-/
import Derived.Test.YtooeemhlpmiceaaXTol
namespace Go.Proofs.Ytooeemhlpmiceaa
open Go.RowKit
set_option linter.unusedVariables false
set_option linter.unusedSimpArgs false

/-- append of one thing that was just laid. -/
theorem wpList_append_gen {w : World} {ops : Array Oper} {rest : List Oper} {o : Oper} {a : Act} {Q : Exit → Act → World → Prop} (hgd : o.guard = none) (s x : Operand) (T E : TypeId)
    (ho : o.op = .call { callee := .builtin .append, args := #[s, x], argTypes := #[T, T] }) (z : Value) (size bytes : Nat) (hT : Try.prog.underlying T = some (.slice E)) (hi : (Try.prog.info? E).map (fun i => (i.zero, i.size, i.bytes)) = some (some z, size, bytes)) (hzs : z.cells.size = size) (hsz : 0 < size) (hby : bytes ≤ 1000)
    (B : Nat) (v : Value) (n : Nat) (xs : List Value) (hs : a.eval s = v) (hown : w.ownsRow B E size v n xs) (cs : List Value) (hcl : cs.length = size) (hone : ∀ u ∈ cs, u.oneCell' = true)
    (g : Nat) (hg : w.heap.size = g) (hx : a.eval x = .slice (some ⟨g, 0, none⟩) 1 1) (hn : n ≤ 10000) (hB : B ≤ w.heap.size)
    (h : ∀ v' w', w'.ownsRow B E size v' (n + 1) (xs ++ cs) → w.grownBy w' v.ownBlock → (v'.ownBlock = v.ownBlock ∨ ∃ k, v'.ownBlock = some k ∧ w.heap.size ≤ k) → wpList Try.prog ops Q rest (a.put o.dst v') w') :
    wpList Try.prog ops Q (o :: rest) a (w.alloc (.cells cs.toArray E)) := by
  subst hg
  have hal := bl1 w (.cells cs.toArray E)
  have hga : w.grownBy (w.alloc (.cells cs.toArray E)) none := ⟨hal.os, hal.tape, hal.output, hal.size, fun i hi _ => hal.block i hi⟩
  have hown2 := hown.kept (row := none) hga (by cases v.ownBlock with | none => exact Or.inl rfl | some k => exact Or.inr (by simp))
  obtain ⟨i0, hi0, hz0, hz1, hz2⟩ := info_parts hi
  have hb2 : (n + 1) * bytes ≤ 140737488355328 := by
    have h1 : (n + 1) * bytes ≤ 10001 * 1000 := Nat.mul_le_mul (by omega) hby
    omega
  refine wpList_append_own_at _ hgd s x T ho B E i0 z size bytes hT hi0 hz0 hz1 hz2 hzs hsz v n xs hs hown2 ⟨w.heap.size, 0, none⟩ 1 1 cs hx (by omega) (fun j u hj => ?_) hone (by unfold maxLen; omega) hb2 (Nat.le_trans hB hal.size) (fun v' w' a b _ d => h v' w' a ?_ ?_)
  · rw [Addr.add_lit, Nat.zero_add]
    exact cell_box w _ E j u (by simpa using hj)
  · exact ⟨b.os.trans hga.os, b.tape.trans hga.tape, b.output.trans hga.output, Nat.le_trans hga.size b.size, fun i hi hne => (b.block i (Nat.lt_of_lt_of_le hi hga.size) hne).trans (hga.block i hi (by simp))⟩
  · rcases d with d | d
    · exact .inl d
    · exact .inr ⟨_, d, hal.size⟩
theorem infoT : (Try.prog.info? 65).map (fun i => (i.zero, i.size, i.bytes)) = some (some (.agg #[.int .i64 0, .slice none 0 0, .slice none 0 0, .int .i64 0, .int .u64 0, .int .i64 0]), 6, 80) := by kernel_rfl
theorem infoSm : (Try.prog.info? 63).map (fun i => (i.zero, i.size, i.bytes)) = some (some (.agg #[.slice none 0 0, .slice none 0 0, .int .i64 0, .int .u64 0, .int .i64 0]), 5, 72) := by kernel_rfl
theorem infoIn : (Try.prog.info? 3).map (fun i => (i.zero, i.size, i.bytes)) = some (some (.int .i64 0), 1, 8) := by kernel_rfl
theorem und45 : Try.prog.underlying 45 = some (.slice 65) := by kernel_rfl
theorem und43 : Try.prog.underlying 43 = some (.slice 63) := by kernel_rfl
theorem und46 : Try.prog.underlying 46 = some (.slice 3) := by kernel_rfl
theorem und63s : (Try.prog.underlying 63).any (·.isRow) = true := by kernel_rfl
theorem info63 : (Try.prog.info? 63).map (·.size) = some 5 := by kernel_rfl
/-- A summary is read. -/
theorem wpList_load_S {ops : Array Oper} {rest : List Oper} {o : Oper} {a : Act} {w : World} {Q : Exit → Act → World → Prop} (hgd : o.guard = none) (x : Operand) (ho : o.op = .load 63 x) (b of : Nat) (hx : a.eval x = .pointer (some ⟨b, of, none⟩))
    (v1 v2 v3 v4 v5 : Value) (h1 : w.cell? ⟨b, of, none⟩ = some v1) (h2 : w.cell? ⟨b, of + 1, none⟩ = some v2) (h3 : w.cell? ⟨b, of + 2, none⟩ = some v3) (h4 : w.cell? ⟨b, of + 3, none⟩ = some v4) (h5 : w.cell? ⟨b, of + 4, none⟩ = some v5)
    (h : wpList Try.prog ops Q rest (a.put o.dst (.agg #[v1, v2, v3, v4, v5])) w) : wpList Try.prog ops Q (o :: rest) a w := by
  obtain ⟨d, hd, hr⟩ := (Option.any_eq_true _ _).1 und63s
  refine wpList_load_mid hgd 63 x ho b of hx [v1, v2, v3, v4, v5] d (fun j u hj => ?_) hd hr info63 h
  match j, hj with
  | 0, hj => simp at hj; subst hj; simpa using h1
  | 1, hj => simp at hj; subst hj; exact h2
  | 2, hj => simp at hj; subst hj; exact h3
  | 3, hj => simp at hj; subst hj; exact h4
  | 4, hj => simp at hj; subst hj; exact h5
  | n + 5, hj => simp at hj
/-- What is told at a place. -/
def toldP (ss : List Pt) (m i : Nat) : Pt :=
  let t := ss.getD ((i + m) % ss.length) ⟨0, [], [], 0, 0, 0⟩
  { t with node := ((i + m) % ss.length : Nat), es := mergeE [] t.es }
def toldL (ss : List Pt) (m : Nat) : List Pt := (List.range ss.length).map (toldP ss m)

def ToldPost (w w' : World) (ss : List Pt) (m : Nat) (e : Ending) : Prop := ∃ p vt vn vs els, e = .returned (.tuple #[vt, vn, vs]) ∧ Tol w w' p vt vn vs els els els ∧ els.map (·.1) = toldL ss m
theorem lr_lt {w : World} {ao : Option Addr} {n : Nat} {ls : List Lb} (h : LR w ao n ls) : ∀ a, ao = some a → 0 < n → a.block < w.heap.size := fun a ha hn => by
  obtain ⟨b, off, e, hc⟩ := h.2.2 hn
  rw [e] at ha
  cases ha
  have hl := h.1
  exact World.block_lt_of_cell? w _ (hc 0 _ (List.getElem?_eq_getElem (by omega))).1
theorem LR.up' {w w' : World} {ao : Option Addr} {n : Nat} {ls : List Lb} (h : LR w ao n ls) (u : Below w.heap.size w w') : LR w' ao n ls := h.up u
set_option maxRecDepth 20000 in
set_option maxHeartbeats 4000000 in
theorem told_any (w : World) (ao : Option Addr) (n cap : Nat) (ss : List Pt) (h : SL (fun _ => True) w ao n ss) (hn : n ≤ 1000) (hlen : ∀ t ∈ ss, t.es.length ≤ 10000) (m : Nat) (hm : m < 256) :
    Calls Try.prog 26 #[.slice ao n cap, .int .u8 (m : Nat)] w fun e w' => ToldPost w w' ss m e := by
  have hl := h.1
  go_enter Try.func26, Try.ntmps26
  go_wp2_with fail
  go_loopw [7, 8, 9, 10, 11, 12] (fun tv nv sv iv kv xv wr => ∃ (k : Nat) (p : Nat → Prop) (els : List El) (ta : Option Addr) (tc : Nat) (na : Option Addr) (nc : Nat) (sa : Option Addr) (sc : Nat), k ≤ n ∧ iv = .int .i64 k ∧ els.length = k ∧ tv = .slice ta k tc ∧ nv = .slice na k nc ∧ sv = .slice sa k sc ∧ (∃ u, kv = u) ∧ (∃ u, xv = u) ∧ Tol w wr p (.slice ta k tc) (.slice na k nc) (.slice sa k sc) els els els ∧ els.map (·.1) = (List.range k).map (toldP ss m)) (fun _ _ _ iv _ _ _ => n - (intOf iv).toNat)
  case atStart => exact ⟨0, _, [], none, 0, none, 0, none, 0, by omega, rfl, rfl, rfl, rfl, rfl, ⟨_, rfl⟩, ⟨_, rfl⟩, Tol.nil w, rfl⟩
  case round =>
    obtain ⟨k, p, els, ta, tc, na, nc, sa, sc, hk, rfl, hel, rfl, rfl, rfl, ⟨kv, hkv⟩, ⟨xv, hxv⟩, hT, hpl⟩ := hrel
    replace hkv := hkv.symm
    subst hkv
    replace hxv := hxv.symm
    subst hxv
    have HP : Hid (els.map (·.1) = (List.range k).map (toldP ss m)) := hpl
    clear hpl
    by_cases hlt : k < n
    · have hltI : (k : Int) < (n : Int) := by omega
      have hn1 : 0 < (n : Int) := by omega
      obtain ⟨i, hi⟩ : ∃ i : Nat, (k + m) % n = i := ⟨_, rfl⟩
      have hin : i < n := by rw [← hi]; exact Nat.mod_lt _ (by omega)
      have hiI : (((k : Int) + (m : Int)) % (n : Int)) = (i : Int) := by rw [← hi]; simp
      have hinI : (i : Int) < (n : Int) := by omega
      have hi0 : ¬ ((i : Int) < 0) := by omega
      obtain ⟨t, ht⟩ : ∃ z, ss[i]? = some z := ⟨ss[i]'(by omega), List.getElem?_eq_getElem (by omega)⟩
      have HTP : Hid (toldP ss m k = { t with node := (i : Nat), es := mergeE [] t.es }) := by
        show toldP ss m k = _
        unfold toldP
        rw [hl, hi]
        simp only [List.getD_eq_getElem?_getD, ht, Option.getD_some]
      obtain ⟨b, off, hao, _, hc⟩ := h.2.2 (by omega)
      obtain ⟨ca, cc, oa, oc, ⟨c1, c2, c3, c4, c5⟩, hr1, hr2, hr3, hr4, hr5⟩ := hc i t ht
      have hb := hT.bl
      have hpo := hT.old
      have kk : ∀ {ad : Addr} {v : Value}, w.cell? ad = some v → wr.cell? ad = some v := fun hv => (hb.cell (World.block_lt_of_cell? w _ hv)).trans hv
      replace c1 := kk c1
      replace c2 := kk c2
      replace c3 := kk c3
      replace c4 := kk c4
      replace c5 := kk c5
      have hEs : ER p wr ca t.es.length t.es := (hr1.here.mono (fun k hk => hpo k hk.2)).kp (fun ad v hp hv => kk hv)
      have hLs : LR wr oa t.ls.length t.ls := hr2.up' hb
      have HLp : Hid (∀ a, oa = some a → 0 < t.ls.length → p a.block) := fun a ha hn => hpo _ (lr_lt hr2 a ha hn)
      have HZ5 : Hid (oa = none → t.ls.length = 0 ∧ oc = 0) := hr5
      have HLN : Hid (t.es.length ≤ 10000) := hlen t (List.mem_of_getElem? ht)
      obtain ⟨tn, te, tl, tx, th, tp⟩ := t
      simp only at c1 c2 c3 c4 c5 hEs hLs HLp HZ5 HTP HLN
      subst hao
      clear hc ht kk hr1 hr2 hr3 hr4 hr5 hb hpo
      obtain ⟨g, hg⟩ : ∃ g, Hid (wr.heap.size = g) := ⟨_, rfl⟩
      have ba := bl1 wr (.cells #[.slice ca te.length cc, .slice oa tl.length oc, .int .i64 tx, .int .u64 (th : Nat), .int .i64 tp] 63)
      have hbx : (wr.alloc (.cells #[.slice ca te.length cc, .slice oa tl.length oc, .int .i64 tx, .int .u64 (th : Nat), .int .i64 tp] 63)).heap[wr.heap.size]? = some (.cells #[.slice ca te.length cc, .slice oa tl.length oc, .int .i64 tx, .int .u64 (th : Nat), .int .i64 tp] 63 (0, 0)) := heap_alloc_new _ _
      have x0 := cell_box wr #[.slice ca te.length cc, .slice oa tl.length oc, .int .i64 tx, .int .u64 (th : Nat), .int .i64 tp] 63 0 _ rfl
      have hTa := hT.up ba
      have hsa : (wr.alloc (.cells #[.slice ca te.length cc, .slice oa tl.length oc, .int .i64 tx, .int .u64 (th : Nat), .int .i64 tp] 63)).heap.size = wr.heap.size + 1 := by simp
      have hEa := hEs.bl ba
      have hLa := hLs.up ba
      have hrow : ∀ j, (Value.slice ta k tc).ownBlock = some j ∨ (Value.slice na k nc).ownBlock = some j ∨ (Value.slice sa k sc).ownBlock = some j → j < wr.heap.size := fun j hj => by
        rcases hj with hj | hj | hj
        · exact (own_ne hT.rt j hj).2
        · exact (own_ne hT.rn j hj).2
        · exact (own_ne hT.rs j hj).2
      have hpl := hT.lt
      have hw0 := hT.bl.size
      obtain ⟨wa, hwa⟩ : ∃ W, Hid (wr.alloc (.cells #[.slice ca te.length cc, .slice oa tl.length oc, .int .i64 tx, .int .u64 (th : Nat), .int .i64 tp] 63) = W) := ⟨_, rfl⟩
      rw [hwa.out] at hbx x0 hTa hsa hEa hLa
      rw [hg.out] at hbx x0 hsa hrow hpl hw0
      have r1 := refMerge_any (fun k => p k ∨ wa.heap.size ≤ k) wa (fun k hk => .inr hk) none 0 0 [] (ER.nil _ _ _) (fun _ => rfl) ca te.length cc te (hEa.mono (fun k hk => .inl hk)) (by have := HLN.out; omega)
      clear hT hEs hLs ba hEa
      go_wp2_with (refine wpList_load_S rfl (.tmp 28) rfl b (off + i * 5) rfl _ _ _ _ _ c1 c2 c3 c4 c5 ?_)
      rw [hwa.out, hg.out]
      obtain ⟨me, hme⟩ : ∃ l, Hid (mergeE [] te = l) := ⟨_, rfl⟩
      rw [hme.out] at r1 HTP
      refine r1.mono ?_
      rintro e wb ⟨qa, qc, rfl, hE', ub, hq'⟩
      have hTb := hTa.more ub
      have hbb : wb.heap[g]? = some (.cells #[.slice ca te.length cc, .slice oa tl.length oc, .int .i64 tx, .int .u64 (th : Nat), .int .i64 tp] 63 (0, 0)) := (ub.block g (by omega)).trans hbx
      have kB := cell_of_row wb g 0 _ 63 (0, 0) hbb
      have zB := frozen_of_row wb g 0 _ 63 hbb
      simp only [List.getElem?_toArray, List.getElem?_cons_zero] at kB
      have hsub := ub.size
      have HX : Hid (Fx (fun k => p k ∨ wa.heap.size ≤ k ∧ k < wb.heap.size) wb (({ node := (i : Nat), es := me, ls := tl, nx := tx, hn := th, hp := tp } : Pt), (qa, qc), (oa, oc))) :=
        ⟨hE'.here.mono (fun k hk => by rcases hk.1 with h | h; exact .inl h; exact .inr ⟨h, hk.2⟩), hLa.up ub, fun a ha hn => .inl (HLp.out a ha hn), fun e => ⟨by
          by_cases h0 : me.length = 0
          · exact h0
          · obtain ⟨_, _, hh, _⟩ := hE'.2.2 (by omega)
            rw [show qa = none from e] at hh
            exact absurd hh (by simp), hq' e⟩, HZ5.out⟩
      have hgs : wb.grownBy (wb.setCell ⟨g, 0, none⟩ (.slice qa me.length qc)) (some g) := ⟨rfl, rfl, rfl, by simp [World.setCell], fun k _ hk => heap_setCell_other wb ⟨g, 0, none⟩ k _ (fun e => hk (by simp [e]))⟩
      have hnp : ¬ (p g ∨ wa.heap.size ≤ g ∧ g < wb.heap.size) := by
        rintro (h1 | h1)
        · have := hpl g h1; omega
        · omega
      have hTc := hTb.gr hgs (fun k hk => by
        cases hk
        exact ⟨hw0, hnp, fun e => by have := hrow g (.inl e); omega, fun e => by have := hrow g (.inr (.inl e)); omega, fun e => by have := hrow g (.inr (.inr e)); omega⟩)
      have HXc : Hid (Fx (fun k => p k ∨ wa.heap.size ≤ k ∧ k < wb.heap.size) (wb.setCell ⟨g, 0, none⟩ (.slice qa me.length qc)) (({ node := (i : Nat), es := me, ls := tl, nx := tx, hn := th, hp := tp } : Pt), (qa, qc), (oa, oc))) :=
        HX.out.kp (fun ad v hp hv => (World.cell?_of_block (hgs.block _ (World.block_lt_of_cell? wb _ hv) (fun e => by simp at e; rw [e] at hp; exact hnp hp))).trans hv)
      have hbc := heap_setCell_same wb g 0 _ 63 (.slice qa me.length qc) hbb
      have hszc : (wb.setCell ⟨g, 0, none⟩ (.slice qa me.length qc)).heap.size = wb.heap.size := by simp [World.setCell]
      have kC := fun j => cell_of_row (wb.setCell ⟨g, 0, none⟩ (.slice qa me.length qc)) g j _ 63 (0, 0) hbc
      have k0 := kC 0
      have k1 := kC 1
      have k2 := kC 2
      have k3 := kC 3
      have k4 := kC 4
      simp at k0 k1 k2 k3 k4
      have hrt := hTc.rt
      rw [hel] at hrt
      have hwB := hTc.bl.size
      clear r1 hTa hTb HX hE' hq' hgs hbx x0 c1 c2 c3 c4 c5 ub hLa kC HLp HZ5
      go_wp2_with (first | (refine wpList_load_S rfl (.tmp 12) rfl g 0 rfl _ _ _ _ _ k0 k1 k2 k3 k4 ?_) | (at_builtin; refine wpList_append_gen rfl (.tmp 34) (.tmp 38) 45 65 rfl _ 6 80 und45 infoT rfl (by decide) (by omega) w.heap.size _ k (f6 els) rfl ?d1 [.int .i64 (i : Nat), .slice qa me.length qc, .slice oa tl.length oc, .int .i64 tx, .int .u64 (th : Nat), .int .i64 tp] rfl ?d2 wb.heap.size ?d5 rfl ?d3 ?d4 ?_))
      case d1 => exact hrt
      case d2 => intro u hu; simp at hu; rcases hu with rfl | rfl | rfl | rfl | rfl | rfl <;> rfl
      case d5 => exact hszc
      case d3 => omega
      case d4 => exact hwB
      intro vt1 w3 ho3 hg3 hat3
      obtain ⟨X, hX⟩ : ∃ X : El, X = (({ node := (i : Nat), es := me, ls := tl, nx := tx, hn := th, hp := tp } : Pt), (qa, qc), (oa, oc)) := ⟨_, rfl⟩
      rw [← hX] at HXc
      have hT3 := hTc.putT (x := X) hg3 (by rw [f6_snoc, hel, hX]; exact ho3) (by rw [hszc]; exact hat3) HXc.out
      obtain ⟨ta1, tc1, rfl⟩ := own_shape ho3
      have hb3 : w3.heap[g]? = _ := (hg3.block g (by omega) (fun e => by have := hrow g (.inl e.symm); omega)).trans hbc
      have hs3 := hg3.size
      have hrn := hT3.rn
      rw [hel] at hrn
      have hw3 := hT3.bl.size
      clear hTc hrt hg3 ho3 hat3 hbc k0 k1 k2 k3 k4 kB zB hbb HXc hwB
      go_wp2_with (at_builtin; refine wpList_append_gen rfl (.tmp 40) (.tmp 42) 46 3 rfl (.int .i64 0) 1 8 und46 infoIn rfl (by decide) (by omega) w.heap.size _ k (els.map cN) rfl ?d1 [.int .i64 (i : Nat)] rfl ?d2 w3.heap.size rfl rfl ?d3 ?d4 ?_)
      case d1 => exact hrn
      case d2 => intro u hu; simp at hu; subst hu; rfl
      case d3 => omega
      case d4 => exact hw3
      intro vn1 w4 ho4 hg4 hat4
      have hT4 := hT3.putN (x := X) hg4 (by rw [List.map_append, hel, hX]; exact ho4) hat4
      obtain ⟨na1, nc1, rfl⟩ := own_shape ho4
      have hb4 : w4.heap[g]? = _ := (hg4.block g (by omega) (fun e => by have := hrow g (.inr (.inl e.symm)); omega)).trans hb3
      have kC := fun j => cell_of_row w4 g j _ 63 (0, 0) hb4
      have k0 := kC 0
      have k1 := kC 1
      have k2 := kC 2
      have k3 := kC 3
      have k4 := kC 4
      simp at k0 k1 k2 k3 k4
      have hrs := hT4.rs
      rw [hel] at hrs
      have hw4 := hT4.bl.size
      clear hT3 hrn hg4 ho4 hat4 hb3 hb4 kC hw3
      go_wp2_with (first | (refine wpList_load_S rfl (.tmp 12) rfl g 0 rfl _ _ _ _ _ k0 k1 k2 k3 k4 ?_) | (at_builtin; refine wpList_append_gen rfl (.tmp 44) (.tmp 46) 43 63 rfl _ 5 72 und43 infoSm rfl (by decide) (by omega) w.heap.size _ k (f5 els) rfl ?d1 [.slice qa me.length qc, .slice oa tl.length oc, .int .i64 tx, .int .u64 (th : Nat), .int .i64 tp] rfl ?d2 w4.heap.size rfl rfl ?d3 ?d4 ?_))
      case d1 => exact hrs
      case d2 => intro u hu; simp at hu; rcases hu with rfl | rfl | rfl | rfl | rfl <;> rfl
      case d3 => omega
      case d4 => exact hw4
      intro vs1 w5 ho5 hg5 hat5
      have hT5 := hT4.putS (x := X) hg5 (by rw [f5_snoc, hel, hX]; exact ho5) hat5 (hT4.ft X (by simp))
      obtain ⟨sa1, sc1, rfl⟩ := own_shape ho5
      have HP2 : Hid ((els ++ [X]).map (·.1) = (List.range (k + 1)).map (toldP ss m)) := by
        show _ = _
        rw [List.map_append, HP.out, List.range_succ, List.map_append]
        congr 1
        simp only [List.map_cons, List.map_nil]
        rw [HTP.out, hX]
      have hel2 : (els ++ [X]).length = k + 1 := by rw [List.length_append, hel]; rfl
      clear hT4 hrs hg5 ho5 hat5 k0 k1 k2 k3 k4 hX HP HTP
      generalize els ++ [X] = els2 at *
      go_wp2
      go_roundw
      case rel => first | exact ⟨k + 1, _, els2, ta1, tc1, na1, nc1, sa1, sc1, by omega, by go_num, hel2, rfl, rfl, rfl, ⟨_, rfl⟩, ⟨_, rfl⟩, hT5, HP2.out⟩ | ((repeat apply Exists.intro); exact ⟨⟨k + 1, _, els2, ta1, tc1, na1, nc1, sa1, sc1, by omega, by go_num, hel2, rfl, rfl, rfl, ⟨_, rfl⟩, ⟨_, rfl⟩, hT5, HP2.out⟩, rfl⟩)
      case measure => simp [intOf]; omega
    · obtain rfl : n = k := by omega
      have hltI : ¬ ((n : Int) < (n : Int)) := by omega
      have HE : Hid (els.map (·.1) = toldL ss m) := by show _ = _; unfold toldL; rw [hl]; exact HP.out
      clear HP
      go_wp2
      go_ret3
      exact ⟨p, _, _, _, els, rfl, hT, HE.out⟩
end Go.Proofs.Ytooeemhlpmiceaa
