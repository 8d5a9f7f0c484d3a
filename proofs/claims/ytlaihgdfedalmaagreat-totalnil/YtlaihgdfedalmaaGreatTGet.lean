/-
  Package total: what a node sent is read by a node.
-/
import Derived.Test.YtlaihgdfedalmaaGreatTRecv
import Derived.Test.YtlaihgdfedalmaaGreatEDec2
import Derived.Test.YtlaihgdfedalmaaGreatEMath4
import Derived.Test.YtlaihgdfedalmaaGreatTSum
namespace Go.Proofs.YtlaihgdfedalmaaGreat
open Go.RowKit Go.Sort Go.Conc
set_option linter.unusedVariables false
set_option linter.unusedSimpArgs false

theorem enc_one : Cd.enc 1 = [1] := Cd.encF_small 9 1 (by omega)
theorem enc_two : Cd.enc 2 = [2] := Cd.encF_small 9 2 (by omega)
theorem er_lt {p : Nat → Prop} {w : World} {ao : Option Addr} {n : Nat} {es : List En} (h : ER p w ao n es) : ER (fun k => p k ∧ k < w.heap.size) w ao n es := by
  refine ⟨h.1, h.2.1, fun hn => ?_⟩
  obtain ⟨b, off, e, hp, hc⟩ := h.2.2 hn
  have h0 : ∃ y, es[0]? = some y := ⟨es[0]'(by have := h.1; omega), List.getElem?_eq_getElem (by have := h.1; omega)⟩
  obtain ⟨y0, hy0⟩ := h0
  obtain ⟨_, _, _, c0, _⟩ := hc 0 y0 hy0
  refine ⟨b, off, e, ⟨hp, World.block_lt_of_cell? w _ c0⟩, fun j y hy => ?_⟩
  obtain ⟨so, sn, sc, a0, a1, a2, a3, a4, a5, a6⟩ := hc j y hy
  refine ⟨so, sn, sc, a0, a1, a2, a3, a4, a5, fun ad he hs => ⟨a6 ad he hs, ?_⟩⟩
  have := World.block_lt_of_cell? w _ (a5.2.2.2.2 ad he 0 hs)
  rwa [add_block] at this
theorem rd_one {w : World} {col : Nat → Nat} {Z : Nat → Prop} {q : Nat} {T : Tot} {a : Ta} (h : Tt w col Z q T a) (hv : T.vn ≠ 0) (hs : T.vs < 65536) (f : Int) (hf : hasN T.vs f = true) (ao : Option Addr) (n cap : Nat) (x : Lb) (m : List UInt8) (hx : RE (x, m)) (hr : Cd.Row w ao n cap (1 :: encE x m)) :
    Calls Tryz.prog 57 #[.pointer (some ⟨q, 0, none⟩), .int .i64 f, .slice ao n cap] w (RdOne w x m) := by
  obtain ⟨h1, h2, h3, h4⟩ := hx
  simp only at h1 h2 h3 h4
  have hd : decE (some (encE x m)) = ((x, m), some []) := by have := dec_encE x m h1 h2 h3 h4 []; simpa using this
  have hlen := encE_len x m h4
  have hk : Cd.rInt (some (1 :: encE x m)) 2 = (1, some (encE x m)) := by
    have := rInt_enc 1 (by omega) 2 (by omega) (encE x m)
    rw [enc_one] at this; exact this
  have hn : n ≤ 140737488355328 := by have h5 := hr.1; have h6 : (1 :: encE x m).length = (encE x m).length + 1 := rfl; omega
  refine (read_ok w q f T.vn T.vs hv hs hf (h.cell 4 (by omega)) (h.cell 6 (by omega)) ao n cap (fun W w1 k x' m' c o nx hn hp er => k = 1 ∧ x' = x ∧ er = 0 ∧ w1.ownsRow W.heap.size 5 1 (sv m') m.length (m.map Cd.by8)) (fun W u => ?_)).mono ?_
  · have hg := decode_one_good W ao n cap (1 :: encE x m) (hr.below u (Nat.le_refl _)) hn _ hk (fun ys e => by cases e; omega) (by rw [hd]; exact ⟨by unfold formE; simp [h3, h4], rfl⟩)
    rw [hd] at hg
    refine hg.mono ?_
    rintro e w' ⟨s, rfl, ho, u'⟩
    obtain ⟨so, sc, rfl⟩ := own_shape ho
    exact ⟨1, x, (so, m.length, sc), (none, 0, 0), (none, 0, 0), 0, 0, 0, 0, rfl, u', rfl, rfl, rfl, ho⟩
  · rintro e w' ⟨W, w1, k, x', m', c, o, nx, hn', hp, er, u, hsz, u1, ⟨rfl, rfl, rfl, ho⟩, rfl, rfl⟩
    obtain ⟨m0, m1, m2⟩ := m'
    have hl := ho.lt
    have hsz1 := u1.size
    have ho2 := own_row (own_row ho #[.int .u64 (x'.1 : Nat), .int .i64 x'.2.1, .int .u64 (x'.2.2.1 : Nat), .int .i64 x'.2.2.2, sv (m0, m1, m2)] (g := w.heap.size) (fun k e => by have := (hl k e).1; omega)) #[sv c, sv o, .int .i64 nx, .int .u64 hn', .int .i64 hp] (g := w.heap.size + 1) (fun k e => by have := (hl k e).1; omega)
    obtain ⟨so, sc, e, hrow, hb⟩ := own_bytes ho2
    unfold sv at e
    simp only [Value.slice.injEq] at e
    obtain ⟨rfl, rfl, rfl⟩ := e
    refine ⟨(m0, m.length, m2), c, o, nx, hn', hp, rfl, bl_rowL (bl_rowL (bl_step u u1) (Nat.le_refl _) _) (Nat.le_succ _) _, hrow, fun ad e _ => ?_⟩
    have := hb ad e
    omega
theorem lr_lt2 {w : World} {ao : Option Addr} {n : Nat} {ls : List Lb} (h : LR w ao n ls) : ∀ a, ao = some a → 0 < n → a.block < w.heap.size := fun a ha hn => by
  obtain ⟨b, off, e, hc⟩ := h.2.2 hn
  obtain ⟨y, hy⟩ : ∃ y, ls[0]? = some y := ⟨ls[0]'(by have := h.1; omega), List.getElem?_eq_getElem (by have := h.1; omega)⟩
  have := World.block_lt_of_cell? w _ (hc 0 y hy).1
  rw [e] at ha
  cases ha
  exact this
theorem rd_all {w : World} {col : Nat → Nat} {Z : Nat → Prop} {q : Nat} {T : Tot} {a : Ta} (h : Tt w col Z q T a) (hv : T.vn ≠ 0) (hs : T.vs < 65536) (t : Pt) (hf : hasN T.vs t.node = true) (ao : Option Addr) (n cap : Nat) (hR : rightS t.es t.ls t.nx t.hn t.hp = true) (he : ∀ e ∈ t.es, e.1.1 < 18446744073709551616 ∧ e.1.2.2.1 < 18446744073709551616) (hl : ∀ x ∈ t.ls, x.1 < 18446744073709551616 ∧ x.2.2.1 < 18446744073709551616) (hel : t.es.length ≤ 5000) (hll : t.ls.length ≤ 5000) (hh : t.hn < 18446744073709551616) (hr : Cd.Row w ao n cap (allB t.es t.ls t.nx.toNat t.hn t.hp)) :
    Calls Tryz.prog 57 #[.pointer (some ⟨q, 0, none⟩), .int .i64 t.node, .slice ao n cap] w (RdAll w t) := by
  obtain ⟨node, es, ls, nx, hn', hp⟩ := t
  simp only at hf hR he hl hel hll hh hr ⊢
  obtain ⟨p1, p2, p3, p4, p5⟩ := right_parts hR he hl
  have hnx : ((nx.toNat : Nat) : Int) = nx := by omega
  have hhp : ((hp.toNat : Nat) : Int) = hp := by
    unfold formV at p5
    simp at p5
    omega
  have hd : decS (some (tailB es ls nx.toNat hn' hp)) = (⟨es, ls, nx.toNat, hn', hp.toNat⟩, some []) := decS_tail p1 p2 (by omega) (by omega) (by omega) hh p5
  have hk : Cd.rInt (some (allB es ls nx.toNat hn' hp)) 2 = (2, some (tailB es ls nx.toNat hn' hp)) := by
    rw [allB_tail]
    have := rInt_enc 2 (by omega) 2 (by omega) (tailB es ls nx.toNat hn' hp)
    rw [enc_two] at this; exact this
  have htl : (tailB es ls nx.toNat hn' hp).length ≤ 1000000 := by
    have q1 := encEs_len es (fun e he' => (p1 e he').2.2.2)
    have q2 := encLs_len ls
    have e9 : ∀ k, (Cd.enc k).length ≤ 10 := fun k => Cd.enc_length k
    unfold tailB
    simp only [List.length_append, List.length_cons, List.length_nil]
    have := e9 es.length; have := e9 ls.length; have := e9 nx.toNat; have := e9 hn'
    omega
  have hnl : n ≤ 140737488355328 := by have h5 := hr.1; rw [allB_tail] at h5; simp only [List.length_cons] at h5; omega
  refine (read_ok w q node T.vn T.vs hv hs hf (h.cell 4 (by omega)) (h.cell 6 (by omega)) ao n cap (fun W w1 k x' m' c o nx2 hn2 hp2 er => k = 2 ∧ er = 0 ∧ c.2.1 = es.length ∧ o.2.1 = ls.length ∧ nx2 = nx ∧ hn2 = (hn' : Int) ∧ hp2 = hp ∧ ER (fun k => W.heap.size < k) w1 c.1 es.length es ∧ LR w1 o.1 ls.length ls ∧ (c.1 = none → es.length = 0 ∧ c.2.2 = 0) ∧ (o.1 = none → ls.length = 0 ∧ o.2.2 = 0) ∧ ∀ a, o.1 = some a → W.heap.size < a.block) (fun W u => ?_)).mono ?_
  · have hg := decode_all_good W ao n cap _ (hr.below u (Nat.le_refl _)) hnl _ hk (fun ys e => by cases e; exact htl) (by rw [hd]; exact hll) (by rw [hd]; show es.length ≤ 1000000; omega) (by rw [hd]; exact ⟨by show rightS es ls (nx.toNat : Int) hn' (hp.toNat : Int) = true; rw [hnx, hhp]; exact hR, rfl⟩)
    rw [hd] at hg
    simp only at hg
    refine hg.mono ?_
    rintro e w' ⟨ca, cc, oa, oc, rfl, g1, g2, ⟨g3, g4, g5⟩, _, u'⟩
    refine ⟨2, (0, 0, 0, 0), (none, 0, 0), (ca, es.length, cc), (oa, ls.length, oc), nx, hn', hp, 0, ?_, u', rfl, rfl, rfl, rfl, rfl, rfl, rfl, g1, g2, g3, g4, g5⟩
    rw [hnx, hhp]
    rfl
  · rintro e w' ⟨W, w1, k, x', m', ⟨c0, c1, c2⟩, ⟨o0, o1, o2⟩, nx2, hn2, hp2, er, u, hsz, u1, ⟨rfl, rfl, e1, e2, rfl, rfl, rfl, g1, g2, g3, g4, g5⟩, rfl, rfl⟩
    simp only at e1 e2 g1 g2 g3 g4 g5
    subst e1 e2
    have hsz1 := u1.size
    obtain ⟨r1, hr1⟩ : ∃ r1 : Array Value, #[.int .u64 (x'.1 : Nat), .int .i64 x'.2.1, .int .u64 (x'.2.2.1 : Nat), .int .i64 x'.2.2.2, sv m'] = r1 := ⟨_, rfl⟩
    obtain ⟨r2, hr2⟩ : ∃ r2 : Array Value, #[sv (c0, es.length, c2), sv (o0, ls.length, o2), .int .i64 nx2, .int .u64 (hn' : Int), .int .i64 hp2] = r2 := ⟨_, rfl⟩
    rw [hr1, hr2]
    have q1 := er_row (er_row g1 r1 (g := w.heap.size) (by omega)) r2 (g := w.heap.size + 1) (by omega)
    have q2 := lr_rowS (lr_rowS g2 r1 (g := w.heap.size) (fun a e => by have := g5 a e; omega)) r2 (g := w.heap.size + 1) (fun a e => by have := g5 a e; omega)
    refine ⟨x', m', c0, c2, o0, o2, by rw [← hr2]; rfl, bl_rowL (bl_rowL (bl_step u u1) (Nat.le_refl _) _) (Nat.le_succ _) _, (er_lt q1).mono (fun k e => ⟨by omega, e.2⟩), q2, fun ad e hn => ⟨by have := g5 ad e; omega, lr_lt2 q2 ad e hn⟩, g3, g4⟩
end Go.Proofs.YtlaihgdfedalmaaGreat
