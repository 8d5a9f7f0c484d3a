/-
  Texts of the walk, one behind the other.
-/
import Derived.Test.YtlaihgdfedalmaaGreatMix50
import Derived.Test.YtlaihgdfedalmaaGreatMix49
import Derived.Test.YtlaihgdfedalmaaGreatMix47
import Derived.Test.YtlaihgdfedalmaaGreatFMergeA
import Derived.Test.YtlaihgdfedalmaaGreatFFind
/-
  Unlike entries and unlike summaries have unlike bytes.
-/
namespace Go.Proofs.YtlaihgdfedalmaaGreat
open Go.RowKit
set_option linter.unusedVariables false

def RE (e : Lb × List UInt8) : Prop := e.1.1 < 18446744073709551616 ∧ e.1.2.2.1 < 18446744073709551616 ∧ formL e.1 = true ∧ e.2.length ≤ 64
def RL (x : Lb) : Prop := x.1 < 18446744073709551616 ∧ x.2.2.1 < 18446744073709551616 ∧ formL x = true
/-- What a right summary's parts are. -/
theorem right_parts {es : List (Lb × List UInt8)} {ls : List Lb} {nx : Int} {hn : Nat} {hp : Int} (h : rightS es ls nx hn hp = true) (ho : ∀ e ∈ es, e.1.1 < 18446744073709551616 ∧ e.1.2.2.1 < 18446744073709551616) (hl : ∀ x ∈ ls, x.1 < 18446744073709551616 ∧ x.2.2.1 < 18446744073709551616) :
    (∀ e ∈ es, RE e) ∧ (∀ x ∈ ls, RL x) ∧ 1 ≤ nx ∧ nx ≤ (ls.length : Int) + 1 ∧ formV hn hp = true := by
  unfold rightS at h
  simp only [Bool.and_eq_true, decide_eq_true_eq] at h
  obtain ⟨⟨⟨⟨h1, h2, _⟩, h3⟩, h4⟩, h5⟩ := h
  refine ⟨fun e he => ?_, fun x hx => ⟨(hl x hx).1, (hl x hx).2, List.all_eq_true.1 h2 x hx⟩, h3, h4, h5⟩
  obtain ⟨i, hi, hie⟩ := List.getElem_of_mem he
  unfold ascE at h1
  have := List.all_eq_true.1 h1 i (by simpa using hi)
  unfold gooE at this
  simp only [Bool.and_eq_true] at this
  have h6 := this.2
  rw [show es.getD i den = e by simp [List.getD, List.getElem?_eq_getElem hi, hie]] at h6
  unfold formE at h6
  simp only [Bool.and_eq_true, decide_eq_true_eq] at h6
  exact ⟨(ho e he).1, (ho e he).2, h6.1, h6.2⟩
end Go.Proofs.YtlaihgdfedalmaaGreat

/-
  What is read of a summary's bytes is the summary.
-/
namespace Go.Proofs.YtlaihgdfedalmaaGreat
open Go.RowKit
set_option linter.unusedVariables false

theorem decN_encEs : ∀ (es : List (Lb × List UInt8)) (t : List UInt8), (∀ e ∈ es, RE e) → decN decE es.length (some (encEs es ++ t)) = (es, some t)
  | [], t, _ => by simp [decN, encEs]
  | e :: es, t, h => by
    have h1 := dec_encE e.1 e.2 (h e (by simp)).1 (h e (by simp)).2.1 (h e (by simp)).2.2.1 (h e (by simp)).2.2.2 (encEs es ++ t)
    have h2 := decN_encEs es t (fun x hx => h x (by simp [hx]))
    have e0 : encEs (e :: es) ++ t = encE e.1 e.2 ++ (encEs es ++ t) := by simp [encEs]
    simp only [List.length_cons]
    unfold decN
    rw [e0, h1]
    simp only
    rw [h2]
theorem decN_encLs : ∀ (ls : List Lb) (t : List UInt8), (∀ x ∈ ls, RL x) → decN decL ls.length (some (encLs ls ++ t)) = (ls, some t)
  | [], t, _ => by simp [decN, encLs]
  | x :: ls, t, h => by
    have h1 := dec_encL x (h x (by simp)).1 (h x (by simp)).2.1 (h x (by simp)).2.2 (encLs ls ++ t)
    have h2 := decN_encLs ls t (fun y hy => h y (by simp [hy]))
    have e0 : encLs (x :: ls) ++ t = encL x ++ (encLs ls ++ t) := by simp [encLs]
    simp only [List.length_cons]
    unfold decN
    rw [e0, h1]
    simp only
    rw [h2]
/-- A summary's bytes behind the first one. -/
def tailB (es : List (Lb × List UInt8)) (ls : List Lb) (nx : Nat) (hn : Nat) (hp : Int) : List UInt8 := Cd.enc es.length ++ (encEs es ++ (Cd.enc ls.length ++ (encLs ls ++ (Cd.enc nx ++ (Cd.enc hn ++ [pb hp])))))
theorem allB_tail (es : List (Lb × List UInt8)) (ls : List Lb) (nx : Nat) (hn : Nat) (hp : Int) : allB es ls nx hn hp = 2 :: tailB es ls nx hn hp := by simp [allB, tailB]
theorem decS_tail {es : List (Lb × List UInt8)} {ls : List Lb} {nx hn : Nat} {hp : Int} (he : ∀ e ∈ es, RE e) (hl : ∀ x ∈ ls, RL x) (n1 : es.length < 9223372036854775808) (n2 : ls.length < 9223372036854775808) (n3 : nx < 9223372036854775808) (n4 : hn < 18446744073709551616) (hf : formV hn hp = true) :
    decS (some (tailB es ls nx hn hp)) = (⟨es, ls, nx, hn, hp.toNat⟩, some []) := by
  have h1 : dE (some (tailB es ls nx hn hp)) = (es, some (Cd.enc ls.length ++ (encLs ls ++ (Cd.enc nx ++ (Cd.enc hn ++ [pb hp]))))) := by
    unfold dE tailB
    rw [rInt_enc es.length (by omega) mx (by unfold mx; omega)]
    exact decN_encEs es _ he
  have h2 : dL (some (Cd.enc ls.length ++ (encLs ls ++ (Cd.enc nx ++ (Cd.enc hn ++ [pb hp]))))) = (ls, some (Cd.enc nx ++ (Cd.enc hn ++ [pb hp]))) := by
    unfold dL
    rw [rInt_enc ls.length (by omega) mx (by unfold mx; omega)]
    exact decN_encLs ls _ hl
  have h3 := rInt_enc nx (by omega) mx (by unfold mx; omega) (Cd.enc hn ++ [pb hp])
  have h4 : decV (some (Cd.enc hn ++ [pb hp])) = ((hn, hp.toNat), some []) := by
    have := dec_encV hn n4 hp hf []
    simpa using this
  unfold decS
  rw [h1]
  simp only
  rw [h2]
  simp only
  rw [h3]
  simp only
  rw [h4]
end Go.Proofs.YtlaihgdfedalmaaGreat

/-
  What is read as an entry, or as a summary, was its bytes.
-/
namespace Go.Proofs.YtlaihgdfedalmaaGreat
open Go.RowKit
set_option linter.unusedVariables false

end Go.Proofs.YtlaihgdfedalmaaGreat

/-
  Package total: what a node sent is read by a node.
-/
namespace Go.Proofs.YtlaihgdfedalmaaGreat
open Go.RowKit Go.Sort Go.Conc
set_option linter.unusedVariables false
set_option linter.unusedSimpArgs false

theorem enc_one : Cd.enc 1 = [1] := Cd.encF_small 9 1 (by omega)
theorem enc_two : Cd.enc 2 = [2] := Cd.encF_small 9 2 (by omega)
theorem er_lt {p : Nat → Prop} {w : World} {ao : Option Addr} {n : Nat} {es : List En} (h : ER p w ao n es) : ER (fun k => p k ∧ k < w.heap.size) w ao n es := by
  refine ⟨h.1, h.2.1, fun hn => ?_⟩
  obtain ⟨b, off, e, hp, hc⟩ := h.2.2 hn
  have h0 : ∃ y, es[0]? = some y := ⟨es[0]'(by have := h.1; omega), List.getElem?_eq_getElem (by have := h.1; omega)⟩
  obtain ⟨y0, hy0⟩ := h0
  obtain ⟨_, _, _, c0, _⟩ := hc 0 y0 hy0
  refine ⟨b, off, e, ⟨hp, World.block_lt_of_cell? w _ c0⟩, fun j y hy => ?_⟩
  obtain ⟨so, sn, sc, a0, a1, a2, a3, a4, a5, a6⟩ := hc j y hy
  refine ⟨so, sn, sc, a0, a1, a2, a3, a4, a5, fun ad he hs => ⟨a6 ad he hs, ?_⟩⟩
  have := World.block_lt_of_cell? w _ (a5.2.2.2.2 ad he 0 hs)
  rwa [add_block] at this
theorem rd_one {w : World} {col : Nat → Nat} {Z : Nat → Prop} {q : Nat} {T : Tot} {a : Ta} (h : Tt w col Z q T a) (hv : T.vn ≠ 0) (hs : T.vs < 65536) (f : Int) (hf : hasN T.vs f = true) (ao : Option Addr) (n cap : Nat) (x : Lb) (m : List UInt8) (hx : RE (x, m)) (hr : Cd.Row w ao n cap (1 :: encE x m)) :
    Calls Tryz.prog 57 #[.pointer (some ⟨q, 0, none⟩), .int .i64 f, .slice ao n cap] w (RdOne w x m) := by
  obtain ⟨h1, h2, h3, h4⟩ := hx
  simp only at h1 h2 h3 h4
  have hd : decE (some (encE x m)) = ((x, m), some []) := by have := dec_encE x m h1 h2 h3 h4 []; simpa using this
  have hlen := encE_len x m h4
  have hk : Cd.rInt (some (1 :: encE x m)) 2 = (1, some (encE x m)) := by
    have := rInt_enc 1 (by omega) 2 (by omega) (encE x m)
    rw [enc_one] at this; exact this
  have hn : n ≤ 140737488355328 := by have h5 := hr.1; have h6 : (1 :: encE x m).length = (encE x m).length + 1 := rfl; omega
  refine (read_ok w q f T.vn T.vs hv hs hf (h.cell 4 (by omega)) (h.cell 6 (by omega)) ao n cap (fun W w1 k x' m' c o nx hn hp er => k = 1 ∧ x' = x ∧ er = 0 ∧ w1.ownsRow W.heap.size 5 1 (sv m') m.length (m.map Cd.by8)) (fun W u => ?_)).mono ?_
  · have hg := decode_one_good W ao n cap (1 :: encE x m) (hr.below u (Nat.le_refl _)) hn _ hk (fun ys e => by cases e; omega) (by rw [hd]; exact ⟨by unfold formE; simp [h3, h4], rfl⟩)
    rw [hd] at hg
    refine hg.mono ?_
    rintro e w' ⟨s, rfl, ho, u'⟩
    obtain ⟨so, sc, rfl⟩ := own_shape ho
    exact ⟨1, x, (so, m.length, sc), (none, 0, 0), (none, 0, 0), 0, 0, 0, 0, rfl, u', rfl, rfl, rfl, ho⟩
  · rintro e w' ⟨W, w1, k, x', m', c, o, nx, hn', hp, er, u, hsz, u1, ⟨rfl, rfl, rfl, ho⟩, rfl, rfl⟩
    obtain ⟨m0, m1, m2⟩ := m'
    have hl := ho.lt
    have hsz1 := u1.size
    have ho2 := own_row (own_row ho #[.int .u64 (x'.1 : Nat), .int .i64 x'.2.1, .int .u64 (x'.2.2.1 : Nat), .int .i64 x'.2.2.2, sv (m0, m1, m2)] (g := w.heap.size) (fun k e => by have := (hl k e).1; omega)) #[sv c, sv o, .int .i64 nx, .int .u64 hn', .int .i64 hp] (g := w.heap.size + 1) (fun k e => by have := (hl k e).1; omega)
    obtain ⟨so, sc, e, hrow, hb⟩ := own_bytes ho2
    unfold sv at e
    simp only [Value.slice.injEq] at e
    obtain ⟨rfl, rfl, rfl⟩ := e
    refine ⟨(m0, m.length, m2), c, o, nx, hn', hp, rfl, bl_rowL (bl_rowL (bl_step u u1) (Nat.le_refl _) _) (Nat.le_succ _) _, hrow, fun ad e _ => ?_⟩
    have := hb ad e
    omega
theorem lr_lt2 {w : World} {ao : Option Addr} {n : Nat} {ls : List Lb} (h : LR w ao n ls) : ∀ a, ao = some a → 0 < n → a.block < w.heap.size := fun a ha hn => by
  obtain ⟨b, off, e, hc⟩ := h.2.2 hn
  obtain ⟨y, hy⟩ : ∃ y, ls[0]? = some y := ⟨ls[0]'(by have := h.1; omega), List.getElem?_eq_getElem (by have := h.1; omega)⟩
  have := World.block_lt_of_cell? w _ (hc 0 y hy).1
  rw [e] at ha
  cases ha
  exact this
theorem rd_all {w : World} {col : Nat → Nat} {Z : Nat → Prop} {q : Nat} {T : Tot} {a : Ta} (h : Tt w col Z q T a) (hv : T.vn ≠ 0) (hs : T.vs < 65536) (t : Pt) (hf : hasN T.vs t.node = true) (ao : Option Addr) (n cap : Nat) (hR : rightS t.es t.ls t.nx t.hn t.hp = true) (he : ∀ e ∈ t.es, e.1.1 < 18446744073709551616 ∧ e.1.2.2.1 < 18446744073709551616) (hl : ∀ x ∈ t.ls, x.1 < 18446744073709551616 ∧ x.2.2.1 < 18446744073709551616) (hel : t.es.length ≤ 5000) (hll : t.ls.length ≤ 5000) (hh : t.hn < 18446744073709551616) (hr : Cd.Row w ao n cap (allB t.es t.ls t.nx.toNat t.hn t.hp)) :
    Calls Tryz.prog 57 #[.pointer (some ⟨q, 0, none⟩), .int .i64 t.node, .slice ao n cap] w (RdAll w t) := by
  obtain ⟨node, es, ls, nx, hn', hp⟩ := t
  simp only at hf hR he hl hel hll hh hr ⊢
  obtain ⟨p1, p2, p3, p4, p5⟩ := right_parts hR he hl
  have hnx : ((nx.toNat : Nat) : Int) = nx := by omega
  have hhp : ((hp.toNat : Nat) : Int) = hp := by
    unfold formV at p5
    simp at p5
    omega
  have hd : decS (some (tailB es ls nx.toNat hn' hp)) = (⟨es, ls, nx.toNat, hn', hp.toNat⟩, some []) := decS_tail p1 p2 (by omega) (by omega) (by omega) hh p5
  have hk : Cd.rInt (some (allB es ls nx.toNat hn' hp)) 2 = (2, some (tailB es ls nx.toNat hn' hp)) := by
    rw [allB_tail]
    have := rInt_enc 2 (by omega) 2 (by omega) (tailB es ls nx.toNat hn' hp)
    rw [enc_two] at this; exact this
  have htl : (tailB es ls nx.toNat hn' hp).length ≤ 1000000 := by
    have q1 := encEs_len es (fun e he' => (p1 e he').2.2.2)
    have q2 := encLs_len ls
    have e9 : ∀ k, (Cd.enc k).length ≤ 10 := fun k => Cd.enc_length k
    unfold tailB
    simp only [List.length_append, List.length_cons, List.length_nil]
    have := e9 es.length; have := e9 ls.length; have := e9 nx.toNat; have := e9 hn'
    omega
  have hnl : n ≤ 140737488355328 := by have h5 := hr.1; rw [allB_tail] at h5; simp only [List.length_cons] at h5; omega
  refine (read_ok w q node T.vn T.vs hv hs hf (h.cell 4 (by omega)) (h.cell 6 (by omega)) ao n cap (fun W w1 k x' m' c o nx2 hn2 hp2 er => k = 2 ∧ er = 0 ∧ c.2.1 = es.length ∧ o.2.1 = ls.length ∧ nx2 = nx ∧ hn2 = (hn' : Int) ∧ hp2 = hp ∧ ER (fun k => W.heap.size < k) w1 c.1 es.length es ∧ LR w1 o.1 ls.length ls ∧ (c.1 = none → es.length = 0 ∧ c.2.2 = 0) ∧ (o.1 = none → ls.length = 0 ∧ o.2.2 = 0) ∧ ∀ a, o.1 = some a → W.heap.size < a.block) (fun W u => ?_)).mono ?_
  · have hg := decode_all_good W ao n cap _ (hr.below u (Nat.le_refl _)) hnl _ hk (fun ys e => by cases e; exact htl) (by rw [hd]; exact hll) (by rw [hd]; show es.length ≤ 1000000; omega) (by rw [hd]; exact ⟨by show rightS es ls (nx.toNat : Int) hn' (hp.toNat : Int) = true; rw [hnx, hhp]; exact hR, rfl⟩)
    rw [hd] at hg
    simp only at hg
    refine hg.mono ?_
    rintro e w' ⟨ca, cc, oa, oc, rfl, g1, g2, ⟨g3, g4, g5⟩, _, u'⟩
    refine ⟨2, (0, 0, 0, 0), (none, 0, 0), (ca, es.length, cc), (oa, ls.length, oc), nx, hn', hp, 0, ?_, u', rfl, rfl, rfl, rfl, rfl, rfl, rfl, g1, g2, g3, g4, g5⟩
    rw [hnx, hhp]
    rfl
  · rintro e w' ⟨W, w1, k, x', m', ⟨c0, c1, c2⟩, ⟨o0, o1, o2⟩, nx2, hn2, hp2, er, u, hsz, u1, ⟨rfl, rfl, e1, e2, rfl, rfl, rfl, g1, g2, g3, g4, g5⟩, rfl, rfl⟩
    simp only at e1 e2 g1 g2 g3 g4 g5
    subst e1 e2
    have hsz1 := u1.size
    obtain ⟨r1, hr1⟩ : ∃ r1 : Array Value, #[.int .u64 (x'.1 : Nat), .int .i64 x'.2.1, .int .u64 (x'.2.2.1 : Nat), .int .i64 x'.2.2.2, sv m'] = r1 := ⟨_, rfl⟩
    obtain ⟨r2, hr2⟩ : ∃ r2 : Array Value, #[sv (c0, es.length, c2), sv (o0, ls.length, o2), .int .i64 nx2, .int .u64 (hn' : Int), .int .i64 hp2] = r2 := ⟨_, rfl⟩
    rw [hr1, hr2]
    have q1 := er_row (er_row g1 r1 (g := w.heap.size) (by omega)) r2 (g := w.heap.size + 1) (by omega)
    have q2 := lr_rowS (lr_rowS g2 r1 (g := w.heap.size) (fun a e => by have := g5 a e; omega)) r2 (g := w.heap.size + 1) (fun a e => by have := g5 a e; omega)
    refine ⟨x', m', c0, c2, o0, o2, by rw [← hr2]; rfl, bl_rowL (bl_rowL (bl_step u u1) (Nat.le_refl _) _) (Nat.le_succ _) _, (er_lt q1).mono (fun k e => ⟨by omega, e.2⟩), q2, fun ad e hn => ⟨by have := g5 ad e; omega, lr_lt2 q2 ad e hn⟩, g3, g4⟩
end Go.Proofs.YtlaihgdfedalmaaGreat

/-
  Package total's mark: a label is safe.
-/
namespace Go.Proofs.YtlaihgdfedalmaaGreat
open Go.RowKit Go.Sort Go.Conc
set_option linter.unusedVariables false
set_option linter.unusedSimpArgs false

def Tot.mark (T : Tot) (x : Lb) : Tot := { T with safe := x :: T.safe, K := T.K + 1 }
def S5m (q B : Nat) (v19 b0 b1 b2 b3 : Value) (W : World) : Prop := W.cell? ⟨q, 19, none⟩ = some v19 ∧ W.cell? ⟨B, 0, none⟩ = some b0 ∧ W.cell? ⟨B, 1, none⟩ = some b1 ∧ W.cell? ⟨B, 2, none⟩ = some b2 ∧ W.cell? ⟨B, 3, none⟩ = some b3
set_option maxRecDepth 10000 in
set_option maxHeartbeats 1000000 in
theorem mark_any (w : World) (col : Nat → Nat) (Z : Nat → Prop) (q : Nat) (T : Tot) (a : Ta) (h : Tt w col Z q T a) (x : Lb) (hx : OkL x) (hK : T.K < 1000000) :
    Calls Tryz.prog 70 #[.pointer (some ⟨q, 0, none⟩), lab x] w fun e w' => e = .returned (.tuple #[]) ∧ LabPost w col Z q (T.mark x) w' := by
  have u : Below w.heap.size w (w.alloc (.cells #[.int .u64 (x.1 : Nat), .int .i64 x.2.1, .int .u64 (x.2.2.1 : Nat), .int .i64 x.2.2.2] 39)).drew := (bl1 _ _).drew
  have h1 := h.still u
  have hql : q < w.heap.size := h.d.lt q (by rw [h.fq]; omega)
  have hsl : a.sb < w.heap.size := h.d.lt a.sb (by rw [h.d.csb]; omega)
  have hqs : q ≠ a.sb := fun e => by have h1 := h.fq; have h2 := h.d.csb; rw [← e] at h2; omega
  obtain ⟨S, c1, c2⟩ := h1.d.sa
  obtain ⟨w2, hrun, hS2, g⟩ := c1.store (by unfold maxLen; omega) hx
  obtain ⟨h2, g2⟩ := h1.saf (K' := T.K + 1) (safe' := x :: T.safe) (Nat.le_succ _) (Nat.le_refl _) hS2 (fun y => by simp [c2 y]) g
  have HF : Hid (LabPost w col Z q (T.mark x) w2) := ⟨col, a, h2, (Gt.bl col u).trans g2⟩
  have cb := fun j v (e : (#[.int .u64 (x.1 : Nat), .int .i64 x.2.1, .int .u64 (x.2.2.1 : Nat), .int .i64 x.2.2.2] : Array Value)[j]? = some v) => cell_box w #[.int .u64 (x.1 : Nat), .int .i64 x.2.1, .int .u64 (x.2.2.1 : Nat), .int .i64 x.2.2.2] 39 j v e
  have hs1 : S5m q w.heap.size (.map (some a.sb)) (.int .u64 (x.1 : Nat)) (.int .i64 x.2.1) (.int .u64 (x.2.2.1 : Nat)) (.int .i64 x.2.2.2) (w.alloc (.cells #[.int .u64 (x.1 : Nat), .int .i64 x.2.1, .int .u64 (x.2.2.1 : Nat), .int .i64 x.2.2.2] 39)).drew :=
    ⟨h1.cell 19 (by omega), cb 0 _ rfl, cb 1 _ rfl, cb 2 _ rfl, cb 3 _ rfl⟩
  have hblk : ∀ k, k ≤ w.heap.size → k ≠ a.sb → w2.heap[k]? = (w.alloc (.cells #[.int .u64 (x.1 : Nat), .int .i64 x.2.1, .int .u64 (x.2.2.1 : Nat), .int .i64 x.2.2.2] 39)).drew.heap[k]? := fun k hk hne => g.block k (by show k < (w.alloc _).heap.size; simp; omega) (by simp; exact hne)
  have hs2 : S5m q w.heap.size (.map (some a.sb)) (.int .u64 (x.1 : Nat)) (.int .i64 x.2.1) (.int .u64 (x.2.2.1 : Nat)) (.int .i64 x.2.2.2) w2 :=
    ⟨(cell_block (hblk q (by omega) hqs)).trans hs1.1, (cell_block (hblk _ (Nat.le_refl _) (by omega))).trans hs1.2.1, (cell_block (hblk _ (Nat.le_refl _) (by omega))).trans hs1.2.2.1, (cell_block (hblk _ (Nat.le_refl _) (by omega))).trans hs1.2.2.2.1, (cell_block (hblk _ (Nat.le_refl _) (by omega))).trans hs1.2.2.2.2⟩
  unfold lab at hrun ⊢
  clear h h1 h2 g2 c1 c2 hS2 g hblk cb hx hK hqs hql hsl u
  go_enter Tryz.func70, Tryz.ntmps70
  go_wp2_with fail
  refine wp_region_noPanic ?_
  refine wp_region_held_drew (S := S5m q w.heap.size (.map (some a.sb)) (.int .u64 (x.1 : Nat)) (.int .i64 x.2.1) (.int .u64 (x.2.2.1 : Nat)) (.int .i64 x.2.2.2)) (by kernel_rfl) (hs1) (fun hHeld => ?_)
  unfold S5m at hHeld
  refine tq 0 ?_
  refine tq 1 ?_
  refine tq 2 ?_
  refine tq 3 ?_
  refine tq 4 ?_
  refine tq 5 ?_
  refine comes_up 6 rfl (by kernel_rfl) (fun K hK => ?_)
  go_simp
  refine hK.out _ _ (hs2) (fun hHeld => ?_)
  clear hK K
  (try simp only [Act.put, List.setIfInBounds_toArray, List.set_cons_zero, List.set_cons_succ])
  refine wpAnyH_done (by kernel_rfl) ?_ _
  refine NoPanic.normal ?_
  clear hHeld hs1 hs2 hrun
  go_wp2
  go_end0
  exact ⟨rfl, HF.out⟩
end Go.Proofs.YtlaihgdfedalmaaGreat

/-
  Package total's markFrom: somebody's summary is safe.
-/
namespace Go.Proofs.YtlaihgdfedalmaaGreat
open Go.RowKit Go.Sort Go.Conc
set_option linter.unusedVariables false
set_option linter.unusedSimpArgs false

theorem und39s : (Tryz.prog.underlying 39).any (·.isRow) = true := by kernel_rfl
/-- A label is read. -/
theorem wpList_load_L {ops : Array Oper} {rest : List Oper} {o : Oper} {a : Act} {w : World} {Q : Exit → Act → World → Prop} (hgd : o.guard = none) (x : Operand) (ho : o.op = .load 39 x) (b of : Nat) (hx : a.eval x = .pointer (some ⟨b, of, none⟩))
    (v1 v2 v3 v4 : Value) (h1 : w.cell? ⟨b, of, none⟩ = some v1) (h2 : w.cell? ⟨b, of + 1, none⟩ = some v2) (h3 : w.cell? ⟨b, of + 2, none⟩ = some v3) (h4 : w.cell? ⟨b, of + 3, none⟩ = some v4)
    (h : wpList Tryz.prog ops Q rest (a.put o.dst (.agg #[v1, v2, v3, v4])) w) : wpList Tryz.prog ops Q (o :: rest) a w := by
  obtain ⟨d, hd, hr⟩ := (Option.any_eq_true _ _).1 und39s
  refine wpList_load_mid hgd 39 x ho b of hx [v1, v2, v3, v4] d (fun j u hj => ?_) hd hr infoS39 h
  match j, hj with
  | 0, hj => simp at hj; subst hj; simpa using h1
  | 1, hj => simp at hj; subst hj; exact h2
  | 2, hj => simp at hj; subst hj; exact h3
  | 3, hj => simp at hj; subst hj; exact h4
  | n + 4, hj => simp at hj
/-- All these are safe. -/
def Tot.marks (T : Tot) (ls : List Lb) : Tot := ls.foldl Tot.mark T
theorem marks_is : ∀ (ls : List Lb) (T : Tot), T.marks ls = { T with safe := ls.reverse ++ T.safe, K := T.K + ls.length }
  | [], T => rfl
  | x :: r, T => by
    show (T.mark x).marks r = _
    rw [marks_is r (T.mark x)]
    unfold Tot.mark
    simp only [List.reverse_cons, List.append_assoc, List.singleton_append, List.length_cons]
    congr 1
    omega
theorem marks_take {T : Tot} {ls : List Lb} {k : Nat} {x : Lb} (h : ls[k]? = some x) : T.marks (ls.take (k + 1)) = (T.marks (ls.take k)).mark x := by unfold Tot.marks; exact foldl_take _ _ _ _ _ h
def Tot.markFrom (T : Tot) (f : Int) : Tot := if withN T.sf f = T.vs then ({ T with sf := withN T.sf f } : Tot).marks (fullT T.told) else { T with sf := withN T.sf f }
theorem Tt.setSf {w : World} {col : Nat → Nat} {Z : Nat → Prop} {q : Nat} {T : Tot} {a : Ta} (h : Tt w col Z q T a) (s : Nat) : Tt (w.setCell ⟨q, 18, none⟩ (.int .u16 (s : Nat))) col Z q { T with sf := s } a :=
  h.setc 18 _ (fun j hj => by unfold tcell; split <;> simp_all) (by omega) (fun W d => ⟨d.ch, d.con, d.am, d.sa, d.bu, d.od, d.tl, d.cc, d.ccb, d.cab, d.csb, d.cbv, d.cov, d.ctv, d.lt, d.zf, d.zl⟩)
def S2f (q : Nat) (v18 v6 : Value) (W : World) : Prop := W.cell? ⟨q, 18, none⟩ = some v18 ∧ W.cell? ⟨q, 6, none⟩ = some v6
/-- Where the loop stands: w0 behind Full. -/
structure Mr (w0 : World) (col : Nat → Nat) (Z : Nat → Prop) (q : Nat) (T : Tot) (ao : Option Addr) (ls : List Lb) (k : Nat) (wr : World) : Prop where
  t : ∃ c a, Tt wr c Z q (T.marks (ls.take k)) a ∧ Gt w0 col wr c
  l : LR wr ao ls.length ls
  z : ∀ ad, ao = some ad → 0 < ls.length → Z ad.block
set_option maxRecDepth 10000 in
set_option maxHeartbeats 4000000 in
theorem markFrom_any {w : World} {col : Nat → Nat} {Z : Nat → Prop} {q : Nat} {T : Tot} {a : Ta} (h : Tt w col Z q T a) (hn : Tn T) (hsf : T.sf < 65536) (hb : Tb T.told) (hK : T.K + 10000 < 1000000) (f : Int) : Calls Tryz.prog 71 #[.pointer (some ⟨q, 0, none⟩), .int .i64 f] w fun e w' => e = .returned (.tuple #[]) ∧ Stp w col Z q (T.markFrom f) w' := by
  have c18 := h.cell 18 (by omega)
  simp only [tcell] at c18
  have hwi := with_any w T.sf hsf f
  obtain ⟨s, hs⟩ : ∃ s, withN T.sf f = s := ⟨_, rfl⟩
  have hR : T.markFrom f = if s = T.vs then ({ T with sf := s } : Tot).marks (fullT T.told) else { T with sf := s } := by unfold Tot.markFrom; rw [hs]
  rw [hs] at hwi
  rw [hR]
  have f18 := h.fr 18
  obtain ⟨w1, hw1⟩ : ∃ w1, w.setCell ⟨q, 18, none⟩ (.int .u16 (s : Nat)) = w1 := ⟨_, rfl⟩
  have HW1 : Hid (w.setCell ⟨q, 18, none⟩ (.int .u16 (s : Nat)) = w1) := hw1
  have h1 : Tt w1 col Z q { T with sf := s } a := by rw [← hw1]; exact h.setSf s
  have G1 : Gt w col w1 col := by rw [← hw1]; exact Gt.set (by rw [h.fq]; omega) _
  have hs1 : S2f q (.int .u16 (s : Nat)) (.int .u16 (T.vs : Nat)) w1.drew := ⟨h1.cell 18 (by omega), h1.cell 6 (by omega)⟩
  have hd := h1.still (Below.refl _ w1).drew
  have G2 := G1.trans (Gt.bl col (Below.refl _ w1).drew)
  obtain ⟨w2, hw2⟩ : ∃ w2, w1.drew = w2 := ⟨_, rfl⟩
  rw [hw2] at hd G2
  have HW2 : Hid (w1.drew = w2) := hw2
  have H2 : Hid (Tt w2 col Z q { T with sf := s } a ∧ Gt w col w2 col) := ⟨hd, G2⟩
  by_cases hsv : s = T.vs
  · rw [if_pos hsv]
    have ev : ((s : Int) != (T.vs : Int)) = false := by simp; omega
    have HT : Hid (Tb T.told ∧ T.K + 10000 < 1000000) := ⟨hb, hK⟩
    obtain ⟨ta, tc, htv, hTL⟩ := hd.tolds
    have c17 := hd.cell 17 (by omega)
    simp only [tcell] at c17
    rw [htv] at c17
    have hfu := full_any _ w2 ta T.told.length tc T.told hTL hb.al hb.am hb.ao hb.ll hb.lo
    obtain ⟨ls, hls⟩ : ∃ ls, fullT T.told = ls := ⟨_, rfl⟩
    have HLS : Hid (ls.length ≤ 10000 ∧ ∀ x ∈ ls, OkL x) := by rw [← hls]; exact ⟨full_len HT.out.1, full_ok HT.out.1⟩
    rw [hls]
    rw [hls] at hfu
    clear h hn hsf hb hK hs hR hw1 h1 G1 hd G2 hw2 hsv htv hTL hls
    go_enter Tryz.func71, Tryz.ntmps71
    go_wp2_with fail
    refine hwi.mono ?_
    rintro e w' ⟨rfl, rfl⟩
    clear hwi
    go_upto_region 1 with fail
    rw [HW1.out]
    clear c18 f18 HW1
    go_wp2_with fail
    refine wp_region_noPanic ?_
    refine wp_region_held_drew (S := S2f q (.int .u16 (s : Nat)) (.int .u16 (T.vs : Nat))) (by kernel_rfl) (hs1) (fun hHeld => ?_)
    unfold S2f at hHeld
    refine tq 0 ?_
    refine tq 1 ?_
    refine tq 2 ?_
    refine tq 3 ?_
    refine tq 4 ?_
    refine tq 5 ?_
    refine tq 6 ?_
    refine tq 7 ?_
    refine tq 8 ?_
    refine tq 9 ?_
    refine wpAnyH_done (by kernel_rfl) ?_ _
    refine NoPanic.normal ?_
    rw [HW2.out]
    clear hHeld hs1 HW2
    go_wp2_with fail
    refine hfu.mono ?_
    rintro e w3 ⟨v3, rfl, ho3, u3⟩
    obtain ⟨ao, cap, rfl, hL, hz⟩ := LR.own2 ho3
    have hmax := hL.2.1
    have HI : Hid (Mr w3 col (fun k => Z k ∨ (w2.heap.size ≤ k ∧ k < w3.heap.size)) q { T with sf := s } ao ls 0 w3) := by
      refine ⟨⟨col, a, ?_, Gt.refl _ _⟩, hL, fun ad e hn => ?_⟩
      · have h3 := H2.out.1.more u3
        have e : ({ T with sf := s } : Tot).marks (ls.take 0) = { T with sf := s } := rfl
        rw [e]; exact h3
      · have := ho3.lt ad.block (by rw [e]; rfl)
        exact .inr this
    have H3 : Hid (Below w2.heap.size w2 w3) := u3
    obtain ⟨Z2, hZ2⟩ : ∃ Z2 : Nat → Prop, (fun k => Z k ∨ (w2.heap.size ≤ k ∧ k < w3.heap.size)) = Z2 := ⟨_, rfl⟩
    have H4 : Hid ((∀ b, Z b → Z2 b) ∧ ∀ b, Z2 b → Z b ∨ w2.heap.size ≤ b) := by rw [← hZ2]; exact ⟨fun _ e => .inl e, fun _ e => e.imp id (fun e => e.1)⟩
    rw [hZ2] at HI
    clear hfu c17 ho3 u3 hL hz hZ2
    go_wp2_with fail
    go_loopw [31] (fun iv wr => ∃ k : Nat, k ≤ ls.length ∧ iv = .int .i64 (k : Nat) ∧ Hid (Mr w3 col Z2 q { T with sf := s } ao ls k wr)) (fun iv _ => ls.length - (intOf iv).toNat)
    case atStart => exact ⟨0, Nat.zero_le _, rfl, HI⟩
    case round =>
      clear HI
      obtain ⟨k, hk, rfl, HI⟩ := hrel
      by_cases hlt : k < ls.length
      · have hltI : (k : Int) < (ls.length : Int) := by omega
        have hk0 : ¬ ((k : Int) < 0) := by omega
        obtain ⟨x, hx⟩ : ∃ z, ls[k]? = some z := ⟨ls[k]'hlt, List.getElem?_eq_getElem hlt⟩
        obtain ⟨b, off, hao, hc⟩ := HI.out.l.2.2 (by omega)
        obtain ⟨c0, c1, c2, c3⟩ := hc k x hx
        have hxo := HLS.out.2 x (List.mem_of_getElem? hx)
        have HMT : Hid (({ T with sf := s } : Tot).marks (ls.take (k + 1)) = (({ T with sf := s } : Tot).marks (ls.take k)).mark x) := marks_take hx
        obtain ⟨w4, hw4⟩ : ∃ w4, (wr.alloc (.cells #[.int .u64 0, .int .i64 0, .int .u64 0, .int .i64 0] 39)).setRow wr.heap.size #[.int .u64 (x.1 : Nat), .int .i64 x.2.1, .int .u64 (x.2.2.1 : Nat), .int .i64 x.2.2.2] = w4 := ⟨_, rfl⟩
        have HW4 : Hid ((wr.alloc (.cells #[.int .u64 0, .int .i64 0, .int .u64 0, .int .i64 0] 39)).setRow wr.heap.size #[.int .u64 (x.1 : Nat), .int .i64 x.2.1, .int .u64 (x.2.2.1 : Nat), .int .i64 x.2.2.2] = w4) := hw4
        have hB0 : (wr.alloc (.cells #[.int .u64 0, .int .i64 0, .int .u64 0, .int .i64 0] 39)).heap[wr.heap.size]? = some (.cells #[.int .u64 0, .int .i64 0, .int .u64 0, .int .i64 0] 39 (0, 0)) := heap_alloc_new _ _
        have u4 : Below wr.heap.size wr w4 := by rw [← hw4]; exact bl_rowL (bl1 _ _) (Nat.le_refl _) _
        have hB4 : w4.heap[wr.heap.size]? = some (.cells #[.int .u64 (x.1 : Nat), .int .i64 x.2.1, .int .u64 (x.2.2.1 : Nat), .int .i64 x.2.2.2] 39 (0, 0)) := by rw [← hw4]; exact setRow_heap _ _ _ _ _ _ hB0
        have k0 : w4.cell? ⟨wr.heap.size, 0, none⟩ = _ := cell_of_heap hB4 0
        have k1 : w4.cell? ⟨wr.heap.size, 1, none⟩ = _ := cell_of_heap hB4 1
        have k2 : w4.cell? ⟨wr.heap.size, 2, none⟩ = _ := cell_of_heap hB4 2
        have k3 : w4.cell? ⟨wr.heap.size, 3, none⟩ = _ := cell_of_heap hB4 3
        simp only [List.getElem?_toArray, List.getElem?_cons_zero, List.getElem?_cons_succ] at k0 k1 k2 k3
        obtain ⟨c, ar, ht, hg⟩ := HI.out.t
        have h4 := ht.still u4
        have hmk := mark_any w4 c Z2 q _ ar h4 x hxo (by rw [marks_is]; simp only [List.length_take]; have := HT.out.2; have := HLS.out.1; omega)
        unfold lab at hmk
        have H5 : Hid (Tt w4 c Z2 q (({ T with sf := s } : Tot).marks (ls.take k)) ar ∧ Gt w3 col w4 c ∧ Below wr.heap.size wr w4) := ⟨h4, hg.trans (Gt.bl c u4), u4⟩
        have HAO : Hid (ao = some ⟨b, off, none⟩) := hao
        rw [hao]
        clear hao hc hx hxo hw4 u4 hB4 ht hg h4
        go_wp2_with (first | (refine wpList_store_row rfl 39 (.tmp 5) (.tmp 34) rfl wr.heap.size #[.int .u64 (x.1 : Nat), .int .i64 x.2.1, .int .u64 (x.2.2.1 : Nat), .int .i64 x.2.2.2] rfl rfl 39 _ hB0 infoS39 rfl (by simp [Value.oneCell']) ?_; rw [HW4.out]) | (refine wpList_load_L rfl (.tmp 5) rfl wr.heap.size 0 rfl _ _ _ _ k0 k1 k2 k3 ?_))
        clear hB0 HW4 c0 c1 c2 c3
        refine hmk.mono ?_
        rintro e w5 ⟨rfl, c', a', h5, g5⟩
        have HN : Hid (Mr w3 col Z2 q { T with sf := s } ao ls (k + 1) w5) := by
          refine ⟨⟨c', a', by rw [HMT.out]; exact h5, H5.out.2.1.trans g5⟩, ?_, HI.out.z⟩
          exact LR.kp (LR.up HI.out.l H5.out.2.2) HI.out.z (g5.turned.kp (fun b hz e => by have := H5.out.1.d.zf b hz; omega))
        rw [HAO.out] at HN
        clear hmk k0 k1 k2 k3 h5 g5 HI H5 HMT
        go_wp2
        go_roundw
        case rel => first | exact ⟨k + 1, by omega, by go_num, HN⟩ | ((repeat apply Exists.intro); exact ⟨⟨k + 1, by omega, by go_num, HN⟩, rfl⟩)
        case measure => simp [intOf]; omega
      · obtain rfl : k = ls.length := by omega
        have HF : Hid (Stp w col Z q (({ T with sf := s } : Tot).marks ls) wr) := by
          obtain ⟨c, ar, ht, hg⟩ := HI.out.t
          rw [List.take_length] at ht
          exact ⟨c, Z2, ar, ht, (H2.out.2.trans (Gt.bl col H3.out)).trans hg, H4.out.1, fun b e => (H4.out.2 b e).imp id (fun e => Nat.le_trans H2.out.2.turned.size e)⟩
        clear HI
        go_wp2
        go_end0
        exact ⟨rfl, HF.out⟩
  · rw [if_neg hsv]
    have ev : ((s : Int) != (T.vs : Int)) = true := by simp; omega
    have HF : Hid (Stp w col Z q { T with sf := s } w2) := ⟨col, Z, a, H2.out.1, H2.out.2, fun _ e => e, fun _ e => .inl e⟩
    clear h hn hsf hb hK hs hR hw1 h1 G1 hd G2 hw2 hsv H2
    go_enter Tryz.func71, Tryz.ntmps71
    go_wp2_with fail
    refine hwi.mono ?_
    rintro e w' ⟨rfl, rfl⟩
    clear hwi
    go_upto_region 1 with fail
    rw [HW1.out]
    clear c18 f18 HW1
    go_wp2_with fail
    refine wp_region_noPanic ?_
    refine wp_region_held_drew (S := S2f q (.int .u16 (s : Nat)) (.int .u16 (T.vs : Nat))) (by kernel_rfl) (hs1) (fun hHeld => ?_)
    unfold S2f at hHeld
    refine tq 0 ?_
    refine tq 1 ?_
    refine tq 2 ?_
    refine tq 3 ?_
    refine tq 4 ?_
    refine tq 5 ?_
    refine tq 6 ?_
    refine tq 7 ?_
    refine tq 8 ?_
    refine tq 9 ?_
    refine wpAnyH_done (by kernel_rfl) ?_ _
    refine NoPanic.normal ?_
    rw [HW2.out]
    clear hHeld hs1 HW2
    go_wp2
    refine bodyPost_ret (results_none rfl _ _ _) rfl ?_
    exact ⟨rfl, HF.out⟩
end Go.Proofs.YtlaihgdfedalmaaGreat

/-
  Package total's Safe: a message of the view is safe.
-/
namespace Go.Proofs.YtlaihgdfedalmaaGreat
open Go.RowKit Go.Sort Go.Conc
set_option linter.unusedVariables false
set_option linter.unusedSimpArgs false

def Tot.sureOne (T : Tot) (x : Lb) : Tot := if T.prim then (T.mark x).confirm else T
def Tot.sureAll (T : Tot) (f : Int) : Tot := if T.prim then (T.markFrom f).confirm else T
set_option maxRecDepth 10000 in
set_option maxHeartbeats 1000000 in
theorem safe_err (w : World) (q : Value) (f : Int) (ao : Option Addr) (n cap : Nat) (E : Int) (hE : E ≠ 0) (hr : Calls Tryz.prog 57 #[q, .int .i64 f, .slice ao n cap] w (RdErr w E)) : Calls Tryz.prog 25 #[q, .int .i64 f, .slice ao n cap] w fun e w' => e = .returned (.int .i64 E) ∧ Below w.heap.size w w' := by
  have e1 : (E != 0) = true := by simp [hE]
  go_enter Tryz.func25, Tryz.ntmps25
  go_wp2_with fail
  refine hr.mono ?_
  rintro e w1 ⟨kd, x, ⟨m0, m1, m2⟩, ⟨c0, c1, c2⟩, ⟨o0, o1, o2⟩, nx, hn, hp, rfl, u⟩
  obtain ⟨a1, a2, u2⟩ := read_rows w1 _ (Below.refl _ _)
  obtain ⟨b2, f1, f2⟩ := read_fin _ _ a1 a2 #[.int .u64 (x.1 : Nat), .int .i64 x.2.1, .int .u64 (x.2.2.1 : Nat), .int .i64 x.2.2.2, .slice m0 m1 m2] #[.slice c0 c1 c2, .slice o0 o1 o2, .int .i64 nx, .int .u64 hn, .int .i64 hp]
  have uf := bl_rowL (bl_rowL (bl_step u u2) u.size #[.int .u64 (x.1 : Nat), .int .i64 x.2.1, .int .u64 (x.2.2.1 : Nat), .int .i64 x.2.2.2, .slice m0 m1 m2]) (Nat.le_trans u.size (Nat.le_succ _)) #[.slice c0 c1 c2, .slice o0 o1 o2, .int .i64 nx, .int .u64 hn, .int .i64 hp]
  clear hr f1 f2 a2 u2 u hE
  unfold ent sv
  go_wp2_with (first | (refine wpList_store_row rfl 41 (.tmp 8) (.tmp 17) rfl w1.heap.size #[.int .u64 (x.1 : Nat), .int .i64 x.2.1, .int .u64 (x.2.2.1 : Nat), .int .i64 x.2.2.2, .slice m0 m1 m2] rfl rfl 41 _ a1 infoS41 rfl (by simp [Value.oneCell']) ?_) | (refine wpList_store_row rfl 45 (.tmp 9) (.tmp 18) rfl (w1.heap.size + 1) #[.slice c0 c1 c2, .slice o0 o1 o2, .int .i64 nx, .int .u64 hn, .int .i64 hp] rfl rfl 45 _ b2 infoS38 rfl (by simp [Value.oneCell']) ?_))
  go_ret
  exact ⟨rfl, uf⟩
set_option maxRecDepth 10000 in
set_option maxHeartbeats 4000000 in
theorem safe_one {w : World} {col : Nat → Nat} {Z : Nat → Prop} {q : Nat} {T : Tot} {a : Ta} (h : Tt w col Z q T a) (hn : Tn T) (hK : T.K < 1000000) (hol : T.ord.length ≤ 5000) (ho : ∀ x ∈ T.ord, OkL x) (hnx : In T.nx) (f : Int) (ao : Option Addr) (n cap : Nat) (x : Lb) (hx : OkL x) (bs : List UInt8) (hr : Calls Tryz.prog 57 #[.pointer (some ⟨q, 0, none⟩), .int .i64 f, .slice ao n cap] w (RdOne w x bs)) :
    Calls Tryz.prog 25 #[.pointer (some ⟨q, 0, none⟩), .int .i64 f, .slice ao n cap] w fun e w' => e = .returned (.int .i64 0) ∧ Stp w col Z q (T.sureOne x) w' := by
  have HT : Hid (Tt w col Z q T a ∧ Tn T ∧ T.K < 1000000 ∧ T.ord.length ≤ 5000 ∧ (∀ x ∈ T.ord, OkL x) ∧ In T.nx ∧ OkL x) := ⟨h, hn, hK, hol, ho, hnx, hx⟩
  clear h hn hK hol ho hnx hx
  go_enter Tryz.func25, Tryz.ntmps25
  go_wp2_with fail
  refine hr.mono ?_
  rintro e w1 ⟨⟨m0, m1, m2⟩, ⟨c0, c1, c2⟩, ⟨o0, o1, o2⟩, nx, hn, hp, rfl, u, -, -⟩
  obtain ⟨a1, b2, hL, u14⟩ := lay_of u #[.int .u64 (x.1 : Nat), .int .i64 x.2.1, .int .u64 (x.2.2.1 : Nat), .int .i64 x.2.2.2, .slice m0 m1 m2] #[.slice c0 c1 c2, .slice o0 o1 o2, .int .i64 nx, .int .u64 hn, .int .i64 hp]
  obtain ⟨w4, hw4⟩ : ∃ w4, ((((w1.alloc (.cells #[.int .u64 0, .int .i64 0, .int .u64 0, .int .i64 0, .slice none 0 0] 41)).alloc (.cells #[.slice none 0 0, .slice none 0 0, .int .i64 0, .int .u64 0, .int .i64 0] 45)).setRow w1.heap.size #[.int .u64 (x.1 : Nat), .int .i64 x.2.1, .int .u64 (x.2.2.1 : Nat), .int .i64 x.2.2.2, .slice m0 m1 m2]).setRow (w1.heap.size + 1) #[.slice c0 c1 c2, .slice o0 o1 o2, .int .i64 nx, .int .u64 hn, .int .i64 hp]) = w4 := ⟨_, rfl⟩
  have HW4 : Hid (((((w1.alloc (.cells #[.int .u64 0, .int .i64 0, .int .u64 0, .int .i64 0, .slice none 0 0] 41)).alloc (.cells #[.slice none 0 0, .slice none 0 0, .int .i64 0, .int .u64 0, .int .i64 0] 45)).setRow w1.heap.size #[.int .u64 (x.1 : Nat), .int .i64 x.2.1, .int .u64 (x.2.2.1 : Nat), .int .i64 x.2.2.2, .slice m0 m1 m2]).setRow (w1.heap.size + 1) #[.slice c0 c1 c2, .slice o0 o1 o2, .int .i64 nx, .int .u64 hn, .int .i64 hp]) = w4) := hw4
  rw [hw4] at hL u14
  have h4 := HT.out.1.still hL.u
  have hpr := prim_any h4 HT.out.2.1
  obtain ⟨b, hb⟩ : ∃ b, T.prim = b := ⟨_, rfl⟩
  rw [hb] at hpr
  have HB : Hid (T.prim = b) := hb
  have H4 : Hid (Lay w w4 w1.heap.size #[.int .u64 (x.1 : Nat), .int .i64 x.2.1, .int .u64 (x.2.2.1 : Nat), .int .i64 x.2.2.2, .slice m0 m1 m2] #[.slice c0 c1 c2, .slice o0 o1 o2, .int .i64 nx, .int .u64 hn, .int .i64 hp]) := hL
  clear hr u hL u14 hw4 h4 hb
  unfold ent sv
  go_wp2_with (first | (refine wpList_store_row rfl 41 (.tmp 8) (.tmp 17) rfl w1.heap.size #[.int .u64 (x.1 : Nat), .int .i64 x.2.1, .int .u64 (x.2.2.1 : Nat), .int .i64 x.2.2.2, .slice m0 m1 m2] rfl rfl 41 _ a1 infoS41 rfl (by simp [Value.oneCell']) ?_) | (refine wpList_store_row rfl 45 (.tmp 9) (.tmp 18) rfl (w1.heap.size + 1) #[.slice c0 c1 c2, .slice o0 o1 o2, .int .i64 nx, .int .u64 hn, .int .i64 hp] rfl rfl 45 _ b2 infoS38 rfl (by simp [Value.oneCell']) ?_; rw [HW4.out]))
  clear a1 b2 HW4
  refine hpr.mono ?_
  rintro e w6 ⟨rfl, k6, hk6⟩
  have u6 : Below w4.heap.size w4 w6 := by rw [hk6]; exact ⟨rfl, rfl, rfl, Nat.le_refl _, fun _ _ => rfl⟩
  clear hpr hk6
  have u06 := bl_step H4.out.u u6
  cases b with
  | false =>
    have HF : Hid (Stp w col Z q (T.sureOne x) w6) := by
      have e : T.sureOne x = T := by unfold Tot.sureOne; rw [HB.out]; rfl
      rw [e]
      exact Stp.still HT.out.1 u06
    clear H4 HB HT u6 u06
    go_wp2
    go_ret
    exact ⟨rfl, HF.out⟩
  | true =>
    have hB6 : w6.heap[w1.heap.size]? = some (.cells #[.int .u64 (x.1 : Nat), .int .i64 x.2.1, .int .u64 (x.2.2.1 : Nat), .int .i64 x.2.2.2, .slice m0 m1 m2] 41 (0, 0)) := (u6.block _ (Array.getElem?_eq_some_iff.1 H4.out.b1).1).trans H4.out.b1
    have k0 := cell_of_heap hB6 0
    have k1 := cell_of_heap hB6 1
    have k2 := cell_of_heap hB6 2
    have k3 := cell_of_heap hB6 3
    simp only [List.getElem?_toArray, List.getElem?_cons_zero, List.getElem?_cons_succ] at k0 k1 k2 k3
    have hmk := mark_any w6 col Z q T a (HT.out.1.still u06) x HT.out.2.2.2.2.2.2 HT.out.2.2.1
    unfold lab at hmk
    have H6 : Hid (Below w.heap.size w w6) := u06
    clear H4 u6 u06 hB6
    go_wp2_with (refine wpList_load_L rfl (.tmp 31) rfl w1.heap.size 0 rfl _ _ _ _ k0 k1 k2 k3 ?_)
    refine hmk.mono ?_
    rintro e w7 ⟨rfl, c7, a7, h7, g7⟩
    have hcf := confirm_any w7 c7 Z q (T.mark x) a7 h7 HT.out.2.2.2.1 HT.out.2.2.2.2.2.1 HT.out.2.2.2.2.1
    have G7 : Hid (Gt w col w7 c7) := (Gt.bl col H6.out).trans g7
    clear hmk h7 g7 k0 k1 k2 k3 H6
    go_wp2_with fail
    refine hcf.mono ?_
    rintro e w8 ⟨rfl, c8, a8, h8, g8⟩
    have HF : Hid (Stp w col Z q (T.sureOne x) w8) := by
      have e : T.sureOne x = (T.mark x).confirm := by unfold Tot.sureOne; rw [HB.out]; rfl
      rw [e]
      exact ⟨c8, Z, a8, h8, G7.out.trans g8, fun _ e => e, fun _ e => .inl e⟩
    clear hcf h8 g8 G7 HB HT
    go_wp2
    go_ret
    exact ⟨rfl, HF.out⟩
set_option maxRecDepth 10000 in
set_option maxHeartbeats 4000000 in
theorem safe_all {w : World} {col : Nat → Nat} {Z : Nat → Prop} {q : Nat} {T : Tot} {a : Ta} (h : Tt w col Z q T a) (hn : Tn T) (hK : T.K + 10000 < 1000000) (hol : T.ord.length ≤ 5000) (ho : ∀ x ∈ T.ord, OkL x) (hnx : In T.nx) (hsf : T.sf < 65536) (hb : Tb T.told) (t : Pt) (ao : Option Addr) (n cap : Nat) (hr : Calls Tryz.prog 57 #[.pointer (some ⟨q, 0, none⟩), .int .i64 t.node, .slice ao n cap] w (RdAll w t)) :
    Calls Tryz.prog 25 #[.pointer (some ⟨q, 0, none⟩), .int .i64 t.node, .slice ao n cap] w fun e w' => e = .returned (.int .i64 0) ∧ Stp w col Z q (T.sureAll t.node) w' := by
  have HT : Hid (Tt w col Z q T a ∧ Tn T ∧ T.K + 10000 < 1000000 ∧ T.ord.length ≤ 5000 ∧ (∀ x ∈ T.ord, OkL x) ∧ In T.nx ∧ T.sf < 65536 ∧ Tb T.told) := ⟨h, hn, hK, hol, ho, hnx, hsf, hb⟩
  clear h hn hK hol ho hnx hsf hb
  go_enter Tryz.func25, Tryz.ntmps25
  go_wp2_with fail
  refine hr.mono ?_
  rintro e w1 ⟨x, ⟨m0, m1, m2⟩, ca, cc, oa, oc, rfl, u, -⟩
  obtain ⟨a1, b2, hL, u14⟩ := lay_of u #[.int .u64 (x.1 : Nat), .int .i64 x.2.1, .int .u64 (x.2.2.1 : Nat), .int .i64 x.2.2.2, .slice m0 m1 m2] #[.slice ca t.es.length cc, .slice oa t.ls.length oc, .int .i64 t.nx, .int .u64 (t.hn : Nat), .int .i64 t.hp]
  obtain ⟨w4, hw4⟩ : ∃ w4, ((((w1.alloc (.cells #[.int .u64 0, .int .i64 0, .int .u64 0, .int .i64 0, .slice none 0 0] 41)).alloc (.cells #[.slice none 0 0, .slice none 0 0, .int .i64 0, .int .u64 0, .int .i64 0] 45)).setRow w1.heap.size #[.int .u64 (x.1 : Nat), .int .i64 x.2.1, .int .u64 (x.2.2.1 : Nat), .int .i64 x.2.2.2, .slice m0 m1 m2]).setRow (w1.heap.size + 1) #[.slice ca t.es.length cc, .slice oa t.ls.length oc, .int .i64 t.nx, .int .u64 (t.hn : Nat), .int .i64 t.hp]) = w4 := ⟨_, rfl⟩
  have HW4 : Hid (((((w1.alloc (.cells #[.int .u64 0, .int .i64 0, .int .u64 0, .int .i64 0, .slice none 0 0] 41)).alloc (.cells #[.slice none 0 0, .slice none 0 0, .int .i64 0, .int .u64 0, .int .i64 0] 45)).setRow w1.heap.size #[.int .u64 (x.1 : Nat), .int .i64 x.2.1, .int .u64 (x.2.2.1 : Nat), .int .i64 x.2.2.2, .slice m0 m1 m2]).setRow (w1.heap.size + 1) #[.slice ca t.es.length cc, .slice oa t.ls.length oc, .int .i64 t.nx, .int .u64 (t.hn : Nat), .int .i64 t.hp]) = w4) := hw4
  rw [hw4] at hL u14
  have h4 := HT.out.1.still hL.u
  have hpr := prim_any h4 HT.out.2.1
  obtain ⟨b, hb⟩ : ∃ b, T.prim = b := ⟨_, rfl⟩
  rw [hb] at hpr
  have HB : Hid (T.prim = b) := hb
  have H4 : Hid (Below w.heap.size w w4) := hL.u
  clear hr u hL u14 hw4 h4 hb
  unfold ent sv
  go_wp2_with (first | (refine wpList_store_row rfl 41 (.tmp 8) (.tmp 17) rfl w1.heap.size #[.int .u64 (x.1 : Nat), .int .i64 x.2.1, .int .u64 (x.2.2.1 : Nat), .int .i64 x.2.2.2, .slice m0 m1 m2] rfl rfl 41 _ a1 infoS41 rfl (by simp [Value.oneCell']) ?_) | (refine wpList_store_row rfl 45 (.tmp 9) (.tmp 18) rfl (w1.heap.size + 1) #[.slice ca t.es.length cc, .slice oa t.ls.length oc, .int .i64 t.nx, .int .u64 (t.hn : Nat), .int .i64 t.hp] rfl rfl 45 _ b2 infoS38 rfl (by simp [Value.oneCell']) ?_; rw [HW4.out]))
  clear a1 b2 HW4
  refine hpr.mono ?_
  rintro e w6 ⟨rfl, k6, hk6⟩
  have u6 : Below w4.heap.size w4 w6 := by rw [hk6]; exact ⟨rfl, rfl, rfl, Nat.le_refl _, fun _ _ => rfl⟩
  clear hpr hk6
  have u06 := bl_step H4.out u6
  cases b with
  | false =>
    have HF : Hid (Stp w col Z q (T.sureAll t.node) w6) := by
      have e : T.sureAll t.node = T := by unfold Tot.sureAll; rw [HB.out]; rfl
      rw [e]
      exact Stp.still HT.out.1 u06
    clear H4 HB HT u6 u06
    go_wp2
    go_ret
    exact ⟨rfl, HF.out⟩
  | true =>
    have hmk := markFrom_any (HT.out.1.still u06) HT.out.2.1 HT.out.2.2.2.2.2.2.1 HT.out.2.2.2.2.2.2.2 HT.out.2.2.1 t.node
    have H6 : Hid (Below w.heap.size w w6) := u06
    clear H4 u6 u06
    go_wp2_with fail
    refine hmk.mono ?_
    rintro e w7 ⟨rfl, c7, Z7, a7, h7, g7, z7, y7⟩
    have eo : (T.markFrom t.node).ord = T.ord ∧ (T.markFrom t.node).nx = T.nx := by
      unfold Tot.markFrom
      split
      · rw [marks_is]; exact ⟨rfl, rfl⟩
      · exact ⟨rfl, rfl⟩
    have hcf := confirm_any w7 c7 Z7 q (T.markFrom t.node) a7 h7 (by rw [eo.1]; exact HT.out.2.2.2.1) (by rw [eo.2]; exact HT.out.2.2.2.2.2.1) (by rw [eo.1]; exact HT.out.2.2.2.2.1)
    have G7 : Hid (Gt w col w7 c7 ∧ (∀ b, Z b → Z7 b) ∧ ∀ b, Z7 b → Z b ∨ w.heap.size ≤ b) := ⟨(Gt.bl col H6.out).trans g7, z7, fun b hb => (y7 b hb).imp id (fun e => Nat.le_trans H6.out.size e)⟩
    clear hmk h7 g7 H6 z7 y7 eo
    go_wp2_with fail
    refine hcf.mono ?_
    rintro e w8 ⟨rfl, c8, a8, h8, g8⟩
    have HF : Hid (Stp w col Z q (T.sureAll t.node) w8) := by
      have e : T.sureAll t.node = (T.markFrom t.node).confirm := by unfold Tot.sureAll; rw [HB.out]; rfl
      rw [e]
      exact ⟨c8, Z7, a8, h8, G7.out.1.trans g8, G7.out.2.1, G7.out.2.2⟩
    clear hcf h8 g8 G7 HB HT
    go_wp2
    go_ret
    exact ⟨rfl, HF.out⟩
end Go.Proofs.YtlaihgdfedalmaaGreat

/-
  Package total's Next.
-/
namespace Go.Proofs.YtlaihgdfedalmaaGreat
open Go.RowKit Go.Sort Go.Conc
set_option linter.unusedVariables false
set_option linter.unusedSimpArgs false

def Tot.next (T : Tot) : Option (List UInt8) :=
  if T.vn = 0 then none else if T.st = 0 then (if rightS T.con T.ord T.nx T.hn T.hp then some (allB T.con T.ord T.nx.toNat T.hn T.hp) else none)
  else if T.st = 2 then (match T.buf with | [] => none | e :: _ => if formE e.1 e.2.length then some (1 :: encE e.1 e.2) else none) else none
/-- What is told: new bytes, or nothing. -/
def NextPost (w : World) (r : Option (List UInt8)) (e : Ending) (w' : World) : Prop := Below w.heap.size w w' ∧ match r with
  | none => e = .returned (.tuple #[.slice none 0 0, .bool false])
  | some b => ∃ v, e = .returned (.tuple #[v, .bool true]) ∧ w'.ownsRow w.heap.size 5 1 v b.length (b.map Cd.by8)
theorem next_nil (w : World) : Calls Tryz.prog 20 #[.pointer none] w fun e w' => e = .returned (.tuple #[.slice none 0 0, .bool false]) ∧ w' = w := by
  go_enter Tryz.func20, Tryz.ntmps20
  go_wp2
  go_ret2
  exact ⟨rfl, rfl⟩
set_option maxRecDepth 10000 in
set_option maxHeartbeats 1000000 in
theorem next_none (w : World) (q : Nat) (c4 : w.cell? ⟨q, 4, none⟩ = some (.int .u64 ((0 : Nat) : Int))) : Calls Tryz.prog 20 #[.pointer (some ⟨q, 0, none⟩)] w fun e w' => e = .returned (.tuple #[.slice none 0 0, .bool false]) ∧ w' = w := by
  have hiv := inView_any w q 0 c4
  have e1 : decide ((0 : Nat) ≠ 0) = false := by simp
  rw [e1] at hiv
  clear e1 c4
  go_enter Tryz.func20, Tryz.ntmps20
  go_wp2_with fail
  refine hiv.mono ?_
  rintro e w1 ⟨rfl, rfl⟩
  clear hiv
  go_wp2
  go_ret2
  exact ⟨rfl, rfl⟩
set_option maxRecDepth 10000 in
set_option maxHeartbeats 1000000 in
/-- A summary is to be sent. -/
theorem next_send0 (w : World) (q : Nat) (n : Nat) (hn0 : n ≠ 0) (c4 : w.cell? ⟨q, 4, none⟩ = some (.int .u64 (n : Nat))) (c7 : w.cell? ⟨q, 7, none⟩ = some (.int .u8 0)) (R : Ending → World → Prop) (sv' : World → Value → Prop)
    (hsum : Calls Tryz.prog 36 #[.pointer (some ⟨q, 0, none⟩)] w (fun e w1 => ∃ v, e = .returned v ∧ sv' w1 v))
    (henc : ∀ w1 v, sv' w1 v → Calls Tryz.prog 54 #[v] w1 (fun e w2 => ∃ mo ml mc, e = .returned (.tuple #[.slice mo ml mc, .int .i64 0]) ∧ R (.returned (.tuple #[.slice mo ml mc, .bool true])) w2)) :
    Calls Tryz.prog 20 #[.pointer (some ⟨q, 0, none⟩)] w R := by
  have hiv := inView_any w q n c4
  have e1 : decide (n ≠ 0) = true := by simp [hn0]
  rw [e1] at hiv
  clear e1 c4
  go_enter Tryz.func20, Tryz.ntmps20
  go_wp2_with fail
  refine hiv.mono ?_
  rintro e w1 ⟨rfl, rfl⟩
  clear hiv
  go_wp2_with fail
  refine hsum.mono ?_
  rintro e w2 ⟨v, rfl, hv⟩
  have he := henc w2 v hv
  clear hsum henc hv c7
  go_wp2_with fail
  refine he.mono ?_
  rintro e w3 ⟨mo, ml, mc, rfl, hR⟩
  have HR : Hid (R (.returned (.tuple #[.slice mo ml mc, .bool true])) w3) := hR
  clear he hR
  go_wp2
  exact HR.out
set_option maxRecDepth 10000 in
set_option maxHeartbeats 1000000 in
/-- A summary is to be sent. -/
theorem next_send3 (w : World) (q : Nat) (n : Nat) (hn0 : n ≠ 0) (c4 : w.cell? ⟨q, 4, none⟩ = some (.int .u64 (n : Nat))) (c7 : w.cell? ⟨q, 7, none⟩ = some (.int .u8 0)) (R : Ending → World → Prop) (sv' : World → Value → Prop)
    (hsum : Calls Tryz.prog 36 #[.pointer (some ⟨q, 0, none⟩)] w (fun e w1 => ∃ v, e = .returned v ∧ sv' w1 v))
    (henc : ∀ w1 v, sv' w1 v → Calls Tryz.prog 54 #[v] w1 (fun e w2 => ∃ mo ml mc, e = .returned (.tuple #[.slice mo ml mc, .int .i64 3]) ∧ R (.returned (.tuple #[.slice mo ml mc, .bool false])) w2)) :
    Calls Tryz.prog 20 #[.pointer (some ⟨q, 0, none⟩)] w R := by
  have hiv := inView_any w q n c4
  have e1 : decide (n ≠ 0) = true := by simp [hn0]
  rw [e1] at hiv
  clear e1 c4
  go_enter Tryz.func20, Tryz.ntmps20
  go_wp2_with fail
  refine hiv.mono ?_
  rintro e w1 ⟨rfl, rfl⟩
  clear hiv
  go_wp2_with fail
  refine hsum.mono ?_
  rintro e w2 ⟨v, rfl, hv⟩
  have he := henc w2 v hv
  clear hsum henc hv c7
  go_wp2_with fail
  refine he.mono ?_
  rintro e w3 ⟨mo, ml, mc, rfl, hR⟩
  have HR : Hid (R (.returned (.tuple #[.slice mo ml mc, .bool false])) w3) := hR
  clear he hR
  go_wp2
  exact HR.out
set_option maxRecDepth 10000 in
set_option maxHeartbeats 1000000 in
theorem next_idle1 (w : World) (q : Nat) (n : Nat) (hn0 : n ≠ 0) (c4 : w.cell? ⟨q, 4, none⟩ = some (.int .u64 (n : Nat))) (s : Nat) (h0 : ((s : Int) == 0) = false) (h2 : ((s : Int) == 2) = false) (c7 : w.cell? ⟨q, 7, none⟩ = some (.int .u8 (s : Nat))) : Calls Tryz.prog 20 #[.pointer (some ⟨q, 0, none⟩)] w fun e w' => e = .returned (.tuple #[.slice none 0 0, .bool false]) ∧ w' = w := by
  have hiv := inView_any w q n c4
  have e1 : decide (n ≠ 0) = true := by simp [hn0]
  rw [e1] at hiv
  clear e1 c4
  go_enter Tryz.func20, Tryz.ntmps20
  go_wp2_with fail
  refine hiv.mono ?_
  rintro e w1 ⟨rfl, rfl⟩
  clear hiv
  go_wp2
  go_ret2
  exact ⟨rfl, rfl⟩
set_option maxRecDepth 10000 in
set_option maxHeartbeats 1000000 in
theorem next_idle2 (w : World) (q : Nat) (n : Nat) (hn0 : n ≠ 0) (c4 : w.cell? ⟨q, 4, none⟩ = some (.int .u64 (n : Nat))) (c7 : w.cell? ⟨q, 7, none⟩ = some (.int .u8 2)) (bo : Option Addr) (cap : Nat) (c9 : w.cell? ⟨q, 9, none⟩ = some (.slice bo 0 cap)) : Calls Tryz.prog 20 #[.pointer (some ⟨q, 0, none⟩)] w fun e w' => e = .returned (.tuple #[.slice none 0 0, .bool false]) ∧ w' = w := by
  have hiv := inView_any w q n c4
  have e1 : decide (n ≠ 0) = true := by simp [hn0]
  rw [e1] at hiv
  clear e1 c4
  go_enter Tryz.func20, Tryz.ntmps20
  go_wp2_with fail
  refine hiv.mono ?_
  rintro e w1 ⟨rfl, rfl⟩
  clear hiv
  go_wp2
  go_ret2
  exact ⟨rfl, rfl⟩
set_option maxRecDepth 10000 in
set_option maxHeartbeats 1000000 in
/-- An entry is to be sent. -/
theorem next_one0 (w : World) (q : Nat) (n : Nat) (hn0 : n ≠ 0) (c4 : w.cell? ⟨q, 4, none⟩ = some (.int .u64 (n : Nat))) (c7 : w.cell? ⟨q, 7, none⟩ = some (.int .u8 2)) (bo : Nat) (off L cap : Nat) (c9 : w.cell? ⟨q, 9, none⟩ = some (.slice (some ⟨bo, off, none⟩) (L + 1) cap))
    (y : Lb) (v4 : Value) (d0 : w.cell? ⟨bo, off, none⟩ = some (.int .u64 (y.1 : Nat))) (d1 : w.cell? ⟨bo, off + 1, none⟩ = some (.int .i64 y.2.1)) (d2 : w.cell? ⟨bo, off + 2, none⟩ = some (.int .u64 (y.2.2.1 : Nat))) (d3 : w.cell? ⟨bo, off + 3, none⟩ = some (.int .i64 y.2.2.2)) (d4 : w.cell? ⟨bo, off + 4, none⟩ = some v4) (R : Ending → World → Prop)
    (henc : Calls Tryz.prog 55 #[.agg #[.int .u64 (y.1 : Nat), .int .i64 y.2.1, .int .u64 (y.2.2.1 : Nat), .int .i64 y.2.2.2, v4]] w (fun e w2 => ∃ mo ml mc, e = .returned (.tuple #[.slice mo ml mc, .int .i64 0]) ∧ R (.returned (.tuple #[.slice mo ml mc, .bool true])) w2)) :
    Calls Tryz.prog 20 #[.pointer (some ⟨q, 0, none⟩)] w R := by
  have hiv := inView_any w q n c4
  have e1 : decide (n ≠ 0) = true := by simp [hn0]
  rw [e1] at hiv
  have hL : (0 : Int) < ((L + 1 : Nat) : Int) := by omega
  clear e1 c4
  go_enter Tryz.func20, Tryz.ntmps20
  go_wp2_with fail
  refine hiv.mono ?_
  rintro e w1 ⟨rfl, rfl⟩
  clear hiv
  have hL1 : ¬ (((L + 1 : Nat) : Int) ≤ 0) := by omega
  generalize hM : L + 1 = M at *
  clear hM
  go_wp2_with (refine wpList_load_E rfl (.tmp 44) rfl bo off rfl y v4 d0 d1 d2 d3 d4 ?_)
  refine henc.mono ?_
  rintro e w3 ⟨mo, ml, mc, rfl, hR⟩
  have HR : Hid (R (.returned (.tuple #[.slice mo ml mc, .bool true])) w3) := hR
  clear henc hR
  go_wp2
  exact HR.out
set_option maxRecDepth 10000 in
set_option maxHeartbeats 1000000 in
/-- An entry is to be sent. -/
theorem next_one3 (w : World) (q : Nat) (n : Nat) (hn0 : n ≠ 0) (c4 : w.cell? ⟨q, 4, none⟩ = some (.int .u64 (n : Nat))) (c7 : w.cell? ⟨q, 7, none⟩ = some (.int .u8 2)) (bo : Nat) (off L cap : Nat) (c9 : w.cell? ⟨q, 9, none⟩ = some (.slice (some ⟨bo, off, none⟩) (L + 1) cap))
    (y : Lb) (v4 : Value) (d0 : w.cell? ⟨bo, off, none⟩ = some (.int .u64 (y.1 : Nat))) (d1 : w.cell? ⟨bo, off + 1, none⟩ = some (.int .i64 y.2.1)) (d2 : w.cell? ⟨bo, off + 2, none⟩ = some (.int .u64 (y.2.2.1 : Nat))) (d3 : w.cell? ⟨bo, off + 3, none⟩ = some (.int .i64 y.2.2.2)) (d4 : w.cell? ⟨bo, off + 4, none⟩ = some v4) (R : Ending → World → Prop)
    (henc : Calls Tryz.prog 55 #[.agg #[.int .u64 (y.1 : Nat), .int .i64 y.2.1, .int .u64 (y.2.2.1 : Nat), .int .i64 y.2.2.2, v4]] w (fun e w2 => ∃ mo ml mc, e = .returned (.tuple #[.slice mo ml mc, .int .i64 3]) ∧ R (.returned (.tuple #[.slice mo ml mc, .bool false])) w2)) :
    Calls Tryz.prog 20 #[.pointer (some ⟨q, 0, none⟩)] w R := by
  have hiv := inView_any w q n c4
  have e1 : decide (n ≠ 0) = true := by simp [hn0]
  rw [e1] at hiv
  have hL : (0 : Int) < ((L + 1 : Nat) : Int) := by omega
  clear e1 c4
  go_enter Tryz.func20, Tryz.ntmps20
  go_wp2_with fail
  refine hiv.mono ?_
  rintro e w1 ⟨rfl, rfl⟩
  clear hiv
  have hL1 : ¬ (((L + 1 : Nat) : Int) ≤ 0) := by omega
  generalize hM : L + 1 = M at *
  clear hM
  go_wp2_with (refine wpList_load_E rfl (.tmp 44) rfl bo off rfl y v4 d0 d1 d2 d3 d4 ?_)
  refine henc.mono ?_
  rintro e w3 ⟨mo, ml, mc, rfl, hR⟩
  have HR : Hid (R (.returned (.tuple #[.slice mo ml mc, .bool false])) w3) := hR
  clear henc hR
  go_wp2
  exact HR.out
theorem own_mono {w : World} {B B' : Nat} {e : TypeId} {sz n : Nat} {v : Value} {cs : List Value} (h : w.ownsRow B e sz v n cs) (hB : B' ≤ B) : w.ownsRow B' e sz v n cs := by
  refine ⟨h.1, ?_⟩
  rcases h.2 with h1 | ⟨g, cap, cur, h1, h2, h3⟩
  · exact .inl h1
  · exact .inr ⟨g, cap, cur, h1, Nat.le_trans hB h2, h3⟩
theorem nextT_any {w : World} {col : Nat → Nat} {Z : Nat → Prop} {q : Nat} {T : Tot} {a : Ta} (h : Tt w col Z q T a) (hK : T.K ≤ 100000) (hcl : T.con.length ≤ 5000) (hc : ∀ e ∈ T.con, OkL e.1 ∧ e.2.length ≤ 64) (hol : T.ord.length ≤ 5000) (ho : ∀ x ∈ T.ord, OkL x) (hh : T.hn < 18446744073709551616) (hb : ∀ e ∈ T.buf, OkL e.1) :
    Calls Tryz.prog 20 #[.pointer (some ⟨q, 0, none⟩)] w (NextPost w T.next) := by
  have c4 := h.cell 4 (by omega)
  have c7 := h.cell 7 (by omega)
  have c9 := h.cell 9 (by omega)
  simp only [tcell] at c4 c7 c9
  unfold Tot.next
  by_cases h0 : T.vn = 0
  · rw [if_pos h0]
    rw [h0] at c4
    refine (next_none w q c4).mono ?_
    rintro e w' ⟨rfl, rfl⟩
    exact ⟨Below.refl _ _, rfl⟩
  rw [if_neg h0]
  by_cases h1 : T.st = 0
  · rw [if_pos h1]
    rw [h1] at c7
    have hsum := summary_any h hK (fun e he => by have := (hc e he).2; omega) hol
    cases hR : rightS T.con T.ord T.nx T.hn T.hp with
    | false =>
      rw [if_neg (by simp)]
      refine next_send3 w q T.vn h0 c4 c7 _ (fun w1 v => SumPost w T.con T.ord T.nx T.hn T.hp (.returned v) w1) (hsum.mono ?_) ?_
      · rintro e w1 ⟨ca, cc, oa, oc, rfl, k1⟩
        exact ⟨_, rfl, ca, cc, oa, oc, rfl, k1⟩
      · rintro w1 v ⟨ca, cc, oa, oc, hv, k1, k2, k3, k4⟩
        cases hv
        refine (encodeAll_bad _ w1 ca _ cc T.con k1 (by omega) oa _ oc T.ord k2 hol (fun e => (k3.2.1 e).1) T.nx T.hn T.hp hR).mono ?_
        rintro e w2 ⟨rfl, u⟩
        exact ⟨none, 0, 0, rfl, bl_step k4 u, rfl⟩
    | true =>
      rw [if_pos rfl]
      obtain ⟨p1, p2, p3, p4, p5⟩ := right_parts hR (fun e he => ⟨(hc e he).1.1, (hc e he).1.2.2.1⟩) (fun x hx => ⟨(ho x hx).1, (ho x hx).2.2.1⟩)
      have hnx : T.nx = (T.nx.toNat : Nat) := by omega
      refine next_send0 w q T.vn h0 c4 c7 _ (fun w1 v => SumPost w T.con T.ord T.nx T.hn T.hp (.returned v) w1) (hsum.mono ?_) ?_
      · rintro e w1 ⟨ca, cc, oa, oc, rfl, k1⟩
        exact ⟨_, rfl, ca, cc, oa, oc, rfl, k1⟩
      · rintro w1 v ⟨ca, cc, oa, oc, hv, k1, k2, k3, k4⟩
        cases hv
        rw [hnx]
        refine (encodeAll_any _ w1 ca _ cc T.con k1 hcl oa _ oc T.ord k2 hol (fun e => (k3.2.1 e).1) T.nx.toNat T.hn T.hp (by rw [← hnx]; exact hR) (fun e he => p1 e he) (fun x hx => p2 x hx) (by omega) hh p5).mono ?_
        rintro e w2 ⟨v2, rfl, hv2, u⟩
        obtain ⟨so, sc, rfl, _, _⟩ := own_bytes hv2
        exact ⟨so, _, sc, rfl, bl_step k4 u, _, rfl, own_mono hv2 k4.size⟩
  rw [if_neg h1]
  by_cases h2 : T.st = 2
  · rw [if_pos h2]
    rw [h2] at c7
    obtain ⟨xs, x1, x2, x3⟩ := h.d.bu
    obtain ⟨bo, bc, hbv, _, _⟩ := x2.shape
    rw [hbv] at c9 x2
    cases hbu : T.buf with
    | nil =>
      rw [hbu] at c9
      refine (next_idle2 w q T.vn h0 c4 c7 bo bc c9).mono ?_
      rintro e w' ⟨rfl, rfl⟩
      exact ⟨Below.refl _ _, rfl⟩
    | cons y r =>
      rw [hbu] at c9 x1 x2 x3
      obtain ⟨z, zs, rfl⟩ : ∃ z zs, xs = z :: zs := by
        cases xs with
        | nil => simp at x1
        | cons z zs => exact ⟨z, zs, rfl⟩
      obtain ⟨m1, m2⟩ := x3 0 y z rfl rfl
      have hy := hb y (by rw [hbu]; simp)
      have hcell : ∀ i u, (cells5 z)[i]? = some u → ∃ b off, bo = some ⟨b, off, none⟩ ∧ w.cell? ⟨b, off + i, none⟩ = some u := fun i u hu => by
        have hu' : (flatE (z :: zs))[i]? = some u := by
          have hlt := (List.getElem?_eq_some_iff.1 hu).1
          rw [show flatE (z :: zs) = cells5 z ++ flatE zs by simp [flatE], List.getElem?_append_left hlt]
          exact hu
        obtain ⟨_, b, off, e1, _, e2⟩ := x2.cell hu'
        exact ⟨b, off, e1, e2⟩
      obtain ⟨zl, zo, zn, zc⟩ := z
      obtain ⟨b, off, rfl, d0⟩ := hcell 0 _ rfl
      have dd : ∀ i u, (cells5 (zl, zo, zn, zc))[i]? = some u → w.cell? ⟨b, off + i, none⟩ = some u := fun i u hu => by
        obtain ⟨b', off', e1, e2⟩ := hcell i u hu
        cases e1
        exact e2
      simp only at m1
      subst m1
      have d0' := dd 0 _ rfl
      have d1 := dd 1 _ rfl
      have d2 := dd 2 _ rfl
      have d3 := dd 3 _ rfl
      have d4 := dd 4 _ rfl
      show Calls Tryz.prog 20 #[.pointer (some ⟨q, 0, none⟩)] w (NextPost w (if formE y.1 y.2.length then some (1 :: encE y.1 y.2) else none))
      cases hf : formE y.1 y.2.length with
      | false =>
        rw [if_neg (by simp)]
        refine next_one3 w q T.vn h0 c4 c7 b off r.length bc c9 y.1 _ d0' d1 d2 d3 d4 _ ?_
        refine (encodeOne_bad w y.1 zo zn zc (by have e := m2.1.1; simp only at e; rw [← e]; exact hf)).mono ?_
        rintro e w2 ⟨rfl, u⟩
        exact ⟨none, 0, 0, rfl, u, rfl⟩
      | true =>
        rw [if_pos rfl]
        refine next_one0 w q T.vn h0 c4 c7 b off r.length bc c9 y.1 _ d0' d1 d2 d3 d4 _ ?_
        refine (encodeOne_any w y.1 hy.1 hy.2.2.1 zo zn zc y.2 m2.1 (by have e := m2.1.1; simp only at e; rw [← e]; exact hf)).mono ?_
        rintro e w2 ⟨v2, rfl, hv2, u⟩
        obtain ⟨so, sc, rfl, _, _⟩ := own_bytes hv2
        exact ⟨so, _, sc, rfl, u, _, rfl, hv2⟩
  · rw [if_neg h2]
    refine (next_idle1 w q T.vn h0 c4 T.st (by have : (T.st : Int) ≠ 0 := by omega
                                               simpa using this) (by have : (T.st : Int) ≠ 2 := by omega
                                                                     simpa using this) c7).mono ?_
    rintro e w' ⟨rfl, rfl⟩
    exact ⟨Below.refl _ _, rfl⟩
end Go.Proofs.YtlaihgdfedalmaaGreat

/-
  Package total's Sent.
-/
namespace Go.Proofs.YtlaihgdfedalmaaGreat
open Go.RowKit Go.Sort Go.Conc
set_option linter.unusedVariables false
set_option linter.unusedSimpArgs false

theorem sent_nil (w : World) : Calls Tryz.prog 21 #[.pointer none] w fun e w' => e = .returned (.int .i64 6) ∧ w' = w := by
  go_enter Tryz.func21, Tryz.ntmps21
  go_wp2
  go_ret
  exact ⟨rfl, rfl⟩
set_option maxRecDepth 10000 in
set_option maxHeartbeats 1000000 in
theorem sent_no (w : World) (q : Nat) (h : Calls Tryz.prog 20 #[.pointer (some ⟨q, 0, none⟩)] w (fun e w' => e = .returned (.tuple #[.slice none 0 0, .bool false]) ∧ Below w.heap.size w w')) : Calls Tryz.prog 21 #[.pointer (some ⟨q, 0, none⟩)] w fun e w' => e = .returned (.int .i64 8) ∧ Below w.heap.size w w' := by
  go_enter Tryz.func21, Tryz.ntmps21
  go_wp2_with fail
  refine h.mono ?_
  rintro e w1 ⟨rfl, u⟩
  clear h
  go_wp2
  go_ret
  exact ⟨rfl, u⟩
set_option maxRecDepth 10000 in
set_option maxHeartbeats 1000000 in
theorem sent_sum (w : World) (q : Nat) (R : World → Prop) (h : Calls Tryz.prog 20 #[.pointer (some ⟨q, 0, none⟩)] w (fun e w' => ∃ mo ml mc, e = .returned (.tuple #[.slice mo ml mc, .bool true]) ∧ w'.cell? ⟨q, 7, none⟩ = some (.int .u8 0) ∧ w'.frozen? ⟨q, 7, none⟩ = false ∧ R (w'.setCell ⟨q, 7, none⟩ (.int .u8 1)))) : Calls Tryz.prog 21 #[.pointer (some ⟨q, 0, none⟩)] w fun e w' => e = .returned (.int .i64 0) ∧ R w' := by
  go_enter Tryz.func21, Tryz.ntmps21
  go_wp2_with fail
  refine h.mono ?_
  rintro e w1 ⟨mo, ml, mc, rfl, c7, f7, hR⟩
  have HR : Hid _ := hR
  clear h hR
  go_wp2
  go_ret
  exact ⟨rfl, HR.out⟩
set_option maxRecDepth 10000 in
set_option maxHeartbeats 1000000 in
theorem sent_one1 (w : World) (q bo off : Nat) (R : World → Prop) (h : Calls Tryz.prog 20 #[.pointer (some ⟨q, 0, none⟩)] w (fun e w' => ∃ mo ml mc, e = .returned (.tuple #[.slice mo ml mc, .bool true]) ∧ w'.cell? ⟨q, 7, none⟩ = some (.int .u8 2) ∧ w'.cell? ⟨q, 9, none⟩ = some (.slice (some ⟨bo, off, none⟩) 1 1) ∧ w'.frozen? ⟨q, 9, none⟩ = false ∧ R (w'.setCell ⟨q, 9, none⟩ (.slice (some ⟨bo, off, none⟩) 0 0)))) : Calls Tryz.prog 21 #[.pointer (some ⟨q, 0, none⟩)] w fun e w' => e = .returned (.int .i64 0) ∧ R w' := by
  go_enter Tryz.func21, Tryz.ntmps21
  go_wp2_with fail
  refine h.mono ?_
  rintro e w1 ⟨mo, ml, mc, rfl, c7, c9, f9, hR⟩
  have HR : Hid _ := hR
  clear h hR
  go_wp2
  go_ret
  exact ⟨rfl, HR.out⟩
set_option maxRecDepth 10000 in
set_option maxHeartbeats 1000000 in
theorem sent_one (w : World) (q bo off M cap : Nat) (h1 : 1 ≤ M) (h2 : M ≤ cap) (h3 : 1 < cap) (R : World → Prop) (h : Calls Tryz.prog 20 #[.pointer (some ⟨q, 0, none⟩)] w (fun e w' => ∃ mo ml mc, e = .returned (.tuple #[.slice mo ml mc, .bool true]) ∧ w'.cell? ⟨q, 7, none⟩ = some (.int .u8 2) ∧ w'.cell? ⟨q, 9, none⟩ = some (.slice (some ⟨bo, off, none⟩) M cap) ∧ w'.frozen? ⟨q, 9, none⟩ = false ∧ R (w'.setCell ⟨q, 9, none⟩ (.slice (some ⟨bo, off + 5, none⟩) (M - 1) (cap - 1))))) : Calls Tryz.prog 21 #[.pointer (some ⟨q, 0, none⟩)] w fun e w' => e = .returned (.int .i64 0) ∧ R w' := by
  go_enter Tryz.func21, Tryz.ntmps21
  go_wp2_with fail
  refine h.mono ?_
  rintro e w1 ⟨mo, ml, mc, rfl, c7, c9, f9, hR⟩
  have HR : Hid _ := hR
  clear h hR
  go_wp2
  go_ret
  exact ⟨rfl, HR.out⟩
/-- What a node's own things are bounded by. -/
structure Tk (T : Tot) : Prop where
  K : T.K ≤ 100000
  cl : T.con.length ≤ 5000
  c : ∀ e ∈ T.con, OkL e.1 ∧ e.2.length ≤ 64
  ol : T.ord.length ≤ 5000
  o : ∀ x ∈ T.ord, OkL x
  h : T.hn < 18446744073709551616
  b : ∀ e ∈ T.buf, OkL e.1
def Tot.sent (T : Tot) : Tot × Int := match T.next with
  | none => (T, 8)
  | some _ => if T.st = 2 then ({ T with buf := T.buf.tail }, 0) else ({ T with st := 1 }, 0)
theorem rw_tail {w : World} {e : TypeId} {bo off M cap : Nat} {c cs : List Value} (h : Rw w e 5 (.slice (some ⟨bo, off, none⟩) M cap) M (c ++ cs)) (hc : c.length = 5) (hM : 1 ≤ M) :
    M ≤ cap ∧ (cap = 1 → Rw w e 5 (.slice (some ⟨bo, off, none⟩) 0 0) 0 cs) ∧ (1 < cap → Rw w e 5 (.slice (some ⟨bo, off + 5, none⟩) (M - 1) (cap - 1)) (M - 1) cs) := by
  obtain ⟨h0, h1, ao, cap', hv, hm, ⟨rfl, rfl, rfl⟩ | ⟨b, o, N, f, rfl, hr, h2, h3, h4⟩⟩ := h
  · omega
  · simp only [Value.slice.injEq, Option.some.injEq, Addr.mk.injEq] at hv
    obtain ⟨⟨rfl, rfl, -⟩, -, rfl⟩ := hv
    rw [List.length_append, hc] at h0
    have h1' : ∀ x ∈ cs, x.oneCell' = true := fun x hx => h1 x (by simp [hx])
    refine ⟨h3, fun e1 => ?_, fun e1 => ?_⟩
    · subst e1
      have : M = 1 := by omega
      subst this
      have hcs : cs = [] := List.eq_nil_of_length_eq_zero (by omega)
      subst hcs
      exact ⟨rfl, by simp, _, 0, rfl, Nat.zero_le _, .inr ⟨bo, off, N, f, rfl, hr, by omega, Nat.le_refl _, fun j x hj => by simp at hj⟩⟩
    · refine ⟨?_, h1', _, cap - 1, rfl, by omega, .inr ⟨bo, off + 5, N, f, rfl, hr, ?_, by omega, fun j x hj => ?_⟩⟩
      · rw [Nat.sub_mul]; omega
      · rw [Nat.sub_mul]; omega
      · have := h4 (5 + j) x (by rw [List.getElem?_append_right (by omega), hc, show 5 + j - 5 = j by omega]; exact hj)
        rw [show off + 5 + j = off + (5 + j) by omega]
        exact this
theorem Tt.setBuf {w : World} {col : Nat → Nat} {Z : Nat → Prop} {q : Nat} {T : Tot} {a : Ta} (h : Tt w col Z q T a) (v : Value) (b : List En) (hd : ∀ W, Td W col Z T a → Td W col Z { T with buf := b } { a with bv := v }) : Tt (w.setCell ⟨q, 9, none⟩ v) col Z q { T with buf := b } { a with bv := v } :=
  h.setc 9 v (fun j hj => by unfold tcell; split <;> simp_all) (by omega) hd
set_option maxHeartbeats 1000000 in
theorem sent_any {w : World} {col : Nat → Nat} {Z : Nat → Prop} {q : Nat} {T : Tot} {a : Ta} (h : Tt w col Z q T a) (hk : Tk T) :
    Calls Tryz.prog 21 #[.pointer (some ⟨q, 0, none⟩)] w fun e w' => e = .returned (.int .i64 T.sent.2) ∧ Stp w col Z q T.sent.1 w' := by
  have hnx := nextT_any h hk.K hk.cl hk.c hk.ol hk.o hk.h hk.b
  have hq : 0 < col q := by rw [h.fq]; omega
  unfold Tot.sent
  cases hN : T.next with
  | none =>
    rw [hN] at hnx
    refine (sent_no w q (hnx.mono (fun e w' p => ⟨p.2, p.1⟩))).mono ?_
    rintro e w' ⟨rfl, u⟩
    exact ⟨rfl, Stp.still h u⟩
  | some b =>
    rw [hN] at hnx
    show Calls Tryz.prog 21 #[.pointer (some ⟨q, 0, none⟩)] w fun e w' => e = .returned (.int .i64 (if T.st = 2 then (({ T with buf := T.buf.tail }, 0) : Tot × Int) else ({ T with st := 1 }, 0)).2) ∧ Stp w col Z q (if T.st = 2 then (({ T with buf := T.buf.tail }, 0) : Tot × Int) else ({ T with st := 1 }, 0)).1 w'
    have hN' := hN
    unfold Tot.next at hN'
    by_cases h0 : T.vn = 0
    · rw [if_pos h0] at hN'; cases hN'
    rw [if_neg h0] at hN'
    by_cases h1 : T.st = 0
    · rw [if_neg (by omega)]
      refine sent_sum w q (Stp w col Z q { T with st := 1 }) (hnx.mono ?_)
      rintro e w1 ⟨u, v, rfl, hv⟩
      obtain ⟨so, sc, rfl, _, _⟩ := own_bytes hv
      have hs := h.still u
      have c7 := hs.cell 7 (by omega)
      simp only [tcell, h1] at c7
      refine ⟨so, _, sc, rfl, c7, hs.fr 7, ?_⟩
      have h2 := hs.setc (T' := { T with st := 1 }) (a' := a) 7 (.int .u8 1) (fun j hj => by unfold tcell; split <;> simp_all) (by omega) (fun W d => ⟨d.ch, d.con, d.am, d.sa, d.bu, d.od, d.tl, d.cc, d.ccb, d.cab, d.csb, d.cbv, d.cov, d.ctv, d.lt, d.zf, d.zl⟩)
      exact ⟨col, Z, a, h2, (Gt.bl col u).trans (Gt.set hq _), fun _ e => e, fun _ e => .inl e⟩
    · rw [if_neg h1] at hN'
      by_cases h2 : T.st = 2
      · rw [if_pos h2] at hN' ⊢
        cases hbu : T.buf with
        | nil => rw [hbu] at hN'; cases hN'
        | cons y r =>
          obtain ⟨xs, x1, x2, x3⟩ := h.d.bu
          obtain ⟨z, zs, rfl⟩ : ∃ z zs, xs = z :: zs := by
            cases xs with
            | nil => rw [hbu] at x1; simp at x1
            | cons z zs => exact ⟨z, zs, rfl⟩
          obtain ⟨bo, off, M, cap, hM, hbv⟩ : ∃ bo off M cap, M = T.buf.length ∧ a.bv = .slice (some ⟨bo, off, none⟩) M cap := by
            obtain ⟨ao, cap, e1, _, _⟩ := x2.shape
            have hz : (flatE (z :: zs))[0]? = some (.int .u64 (z.1.1 : Nat)) := by simp [flatE, cells5]
            have x2' := x2
            rw [e1] at x2'
            obtain ⟨_, bo, off, e2, _, _⟩ := x2'.cell hz
            exact ⟨bo, off, _, cap, rfl, by rw [e1, e2]⟩
          have hM1 : 1 ≤ M := by rw [hM, hbu]; simp
          have hd : ∀ v, (∀ (W : World) (c cs : List Value), c.length = 5 → Rw W 41 5 (.slice (some ⟨bo, off, none⟩) M cap) M (c ++ cs) → Rw W 41 5 v (M - 1) cs) → v.ownBlock = some bo → ∀ W, Td W col Z T a → Td W col Z { T with buf := T.buf.tail } { a with bv := v } := by
            intro v hv hvo W d
            obtain ⟨xs', y1, y2, y3⟩ := d.bu
            obtain ⟨z', zs', rfl⟩ : ∃ z zs, xs' = z :: zs := by
              cases xs' with
              | nil => rw [hbu] at y1; simp at y1
              | cons z zs => exact ⟨z, zs, rfl⟩
            rw [hbv, ← hM, show flatE (z' :: zs') = cells5 z' ++ flatE zs' by simp [flatE]] at y2
            have y4 := hv W _ _ (by simp [cells5]) y2
            refine ⟨d.ch, d.con, d.am, d.sa, ⟨zs', by simp only [List.length_tail]; simp at y1; omega, ?_, fun j e x e1 e2 => ?_⟩, d.od, d.tl, d.cc, d.ccb, d.cab, d.csb, fun b e => d.cbv b (by rw [hbv]; simp only at e; rw [hvo] at e; cases e; rfl), d.cov, d.ctv, d.lt, d.zf, d.zl⟩
            · simp only [List.length_tail]
              rw [← hM]
              exact y4
            · simp only at e1
              rw [hbu] at e1 y3
              exact y3 (j + 1) e x (by simpa using e1) (by simpa using e2)
          obtain ⟨hMc, _, _⟩ := rw_tail (w := w) (e := 41) (bo := bo) (off := off) (M := M) (cap := cap) (c := cells5 z) (cs := flatE zs) (by rw [← hbv, hM, show cells5 z ++ flatE zs = flatE (z :: zs) by simp [flatE]]; exact x2) (by simp [cells5]) hM1
          have hfin : ∀ w1 v, Below w.heap.size w w1 → (∀ (W : World) (c cs : List Value), c.length = 5 → Rw W 41 5 (.slice (some ⟨bo, off, none⟩) M cap) M (c ++ cs) → Rw W 41 5 v (M - 1) cs) → v.ownBlock = some bo → Stp w col Z q { T with buf := T.buf.tail } (w1.setCell ⟨q, 9, none⟩ v) := by
            intro w1 v u hv hvo
            have h3 := (h.still u).setBuf v T.buf.tail (hd v hv hvo)
            exact ⟨col, Z, _, h3, (Gt.bl col u).trans (Gt.set hq _), fun _ e => e, fun _ e => .inl e⟩
          rw [← hbu]
          by_cases hc1 : cap = 1
          · obtain rfl : M = 1 := by omega
            subst hc1
            refine sent_one1 w q bo off (Stp w col Z q { T with buf := T.buf.tail }) (hnx.mono ?_)
            rintro e w1 ⟨u, v, rfl, hv⟩
            obtain ⟨so, sc, rfl, _, _⟩ := own_bytes hv
            have hs := h.still u
            have c7 := hs.cell 7 (by omega)
            have c9 := hs.cell 9 (by omega)
            simp only [tcell, h2, hbv] at c7 c9
            exact ⟨so, _, sc, rfl, c7, c9, hs.fr 9, hfin w1 _ u (fun W c cs hc hR => (rw_tail hR hc (Nat.le_refl _)).2.1 rfl) rfl⟩
          · refine sent_one w q bo off M cap hM1 hMc (by omega) (Stp w col Z q { T with buf := T.buf.tail }) (hnx.mono ?_)
            rintro e w1 ⟨u, v, rfl, hv⟩
            obtain ⟨so, sc, rfl, _, _⟩ := own_bytes hv
            have hs := h.still u
            have c7 := hs.cell 7 (by omega)
            have c9 := hs.cell 9 (by omega)
            simp only [tcell, h2, hbv] at c7 c9
            exact ⟨so, _, sc, rfl, c7, c9, hs.fr 9, hfin w1 _ u (fun W c cs hc hR => (rw_tail hR hc hM1).2.2 (by omega)) rfl⟩
      · rw [if_neg h2] at hN'; cases hN'
end Go.Proofs.YtlaihgdfedalmaaGreat

/-
  Package total: what is to be sent is sent, received, and safe.
-/
namespace Go.Proofs.YtlaihgdfedalmaaGreat
open Go.RowKit Go.Sort Go.Conc
set_option linter.unusedVariables false
set_option linter.unusedSimpArgs false

theorem Stp.bind {w w1 w2 : World} {col col1 : Nat → Nat} {Z Z1 : Nat → Prop} {q : Nat} {T' : Tot} (g : Gt w col w1 col1) (hz : ∀ b, Z b → Z1 b) (hy : ∀ b, Z1 b → Z b ∨ w.heap.size ≤ b) (k : Stp w1 col1 Z1 q T' w2) : Stp w col Z q T' w2 := by
  obtain ⟨c, Z', a, h1, h2, h3, h4⟩ := k
  exact ⟨c, Z', a, h1, g.trans h2, fun b hb => h3 b (hz b hb), fun b hb => (h4 b hb).elim (hy b) (fun e => .inr (Nat.le_trans g.turned.size e))⟩
/-- A row that is none of the node's. -/
def Fre (w : World) (col : Nat → Nat) (ao : Option Addr) (n cap : Nat) (b : List UInt8) : Prop := Cd.Row w ao n cap b ∧ ∀ a, ao = some a → 0 < n → col a.block = 0 ∧ a.block < w.heap.size
theorem Fre.go {w w' : World} {col col' : Nat → Nat} {ao : Option Addr} {n cap : Nat} {b : List UInt8} (h : Fre w col ao n cap b) (g : Gt w col w' col') : Fre w' col' ao n cap b := by
  refine ⟨row_kp (p := fun k => col k = 0 ∧ k < w.heap.size) h.1 h.2 (fun ad v hp hv => ?_), fun a e hn => ?_⟩
  · rw [World.cell?_of_block (w := w) (g.turned.block _ hp.2 (by omega))]
    exact hv
  · obtain ⟨h1, h2⟩ := h.2 a e hn
    refine ⟨?_, Nat.lt_of_lt_of_le h2 g.turned.size⟩
    by_cases hc : col' a.block = 0
    · exact hc
    · rcases g.foot a.block (by omega) with h3 | h3 <;> omega
set_option maxRecDepth 10000 in
set_option maxHeartbeats 2000000 in
theorem step_gen {w : World} {col : Nat → Nat} {Z : Nat → Prop} {q : Nat} {T T1 T2 T3 : Tot} {a : Ta} (h : Tt w col Z q T a) (b : List UInt8) (hnx : Calls Tryz.prog 20 #[.pointer (some ⟨q, 0, none⟩)] w (NextPost w (some b)))
    (hse : ∀ W A, Tt W col Z q T A → Calls Tryz.prog 21 #[.pointer (some ⟨q, 0, none⟩)] W fun e w' => e = .returned (.int .i64 0) ∧ Stp W col Z q T1 w')
    (hre : ∀ W c Z' A ao n cap, Tt W c Z' q T1 A → Cd.Row W ao n cap b → Calls Tryz.prog 23 #[.pointer (some ⟨q, 0, none⟩), .int .i64 0, .slice ao n cap] W fun e w' => e = .returned (.int .i64 0) ∧ Stp W c Z' q T2 w')
    (hsa : ∀ W c Z' A ao n cap, Tt W c Z' q T2 A → Cd.Row W ao n cap b → Calls Tryz.prog 25 #[.pointer (some ⟨q, 0, none⟩), .int .i64 0, .slice ao n cap] W fun e w' => e = .returned (.int .i64 0) ∧ Stp W c Z' q T3 w') :
    Calls Tryz.prog 40 #[.pointer (some ⟨q, 0, none⟩)] w fun e w' => e = .returned (.bool true) ∧ Stp w col Z q T3 w' := by
  have H0 : Hid (Tt w col Z q T a) := h
  have HRE : Hid (∀ W c Z' A ao n cap, Tt W c Z' q T1 A → Cd.Row W ao n cap b → Calls Tryz.prog 23 #[.pointer (some ⟨q, 0, none⟩), .int .i64 0, .slice ao n cap] W fun e w' => e = .returned (.int .i64 0) ∧ Stp W c Z' q T2 w') := hre
  have HSA : Hid (∀ W c Z' A ao n cap, Tt W c Z' q T2 A → Cd.Row W ao n cap b → Calls Tryz.prog 25 #[.pointer (some ⟨q, 0, none⟩), .int .i64 0, .slice ao n cap] W fun e w' => e = .returned (.int .i64 0) ∧ Stp W c Z' q T3 w') := hsa
  have HSE : Hid (∀ W A, Tt W col Z q T A → Calls Tryz.prog 21 #[.pointer (some ⟨q, 0, none⟩)] W fun e w' => e = .returned (.int .i64 0) ∧ Stp W col Z q T1 w') := hse
  clear h hse hre hsa
  go_enter Tryz.func40, Tryz.ntmps40
  go_wp2_with fail
  refine hnx.mono ?_
  rintro e w1 ⟨u1, v, rfl, hv⟩
  obtain ⟨so, sc, rfl, hrow, hbl⟩ := own_bytes hv
  have h1 := H0.out.still u1
  have HF1 : Hid (Fre w1 col so b.length sc b) := ⟨hrow, fun ad e hn => by
    have := hbl ad e
    refine ⟨?_, this.2⟩
    by_cases hc : col ad.block = 0
    · exact hc
    · have := H0.out.d.lt ad.block (by omega); omega⟩
  have hs := HSE.out w1 a h1
  have HU1 : Hid (Below w.heap.size w w1) := u1
  clear hnx u1 hv hrow hbl h1 HSE
  go_wp2_with fail
  refine hs.mono ?_
  rintro e w2 ⟨rfl, c2, Z2, a2, h2, g2, z2, y2⟩
  have HF2 : Hid (Fre w2 c2 so b.length sc b) := HF1.out.go g2
  have hr := HRE.out w2 c2 Z2 a2 so b.length sc h2 HF2.out.1
  have HG2 : Hid (Gt w col w2 c2 ∧ (∀ b, Z b → Z2 b) ∧ ∀ b, Z2 b → Z b ∨ w.heap.size ≤ b) := ⟨(Gt.bl col HU1.out).trans g2, z2, fun b hb => (y2 b hb).imp id (fun e => Nat.le_trans HU1.out.size e)⟩
  clear hs h2 g2 z2 y2 HF1 HU1 HRE
  go_wp2_with fail
  refine hr.mono ?_
  rintro e w3 ⟨rfl, c3, Z3, a3, h3, g3, z3, y3⟩
  have HF3 : Hid (Fre w3 c3 so b.length sc b) := HF2.out.go g3
  have hf := HSA.out w3 c3 Z3 a3 so b.length sc h3 HF3.out.1
  have HG3 : Hid (Gt w col w3 c3 ∧ (∀ b, Z b → Z3 b) ∧ ∀ b, Z3 b → Z b ∨ w.heap.size ≤ b) := ⟨HG2.out.1.trans g3, fun b hb => z3 b (HG2.out.2.1 b hb), fun b hb => (y3 b hb).elim (HG2.out.2.2 b) (fun e => .inr (Nat.le_trans HG2.out.1.turned.size e))⟩
  clear hr h3 g3 z3 y3 HF2 HG2 HSA
  go_wp2_with fail
  refine hf.mono ?_
  rintro e w4 ⟨rfl, hst⟩
  have HF : Hid (Stp w col Z q T3 w4) := Stp.bind HG3.out.1 HG3.out.2.1 HG3.out.2.2 hst
  clear hf hst HF3 HG3 H0
  go_wp2
  go_ret
  exact ⟨rfl, HF.out⟩
end Go.Proofs.YtlaihgdfedalmaaGreat

/-
  Package total's Take: the next message of the one order.
-/
namespace Go.Proofs.YtlaihgdfedalmaaGreat
open Go.RowKit Go.Sort Go.Conc
set_option linter.unusedVariables false
set_option linter.unusedSimpArgs false

def Tot.take (T : Tot) : Tot × Option (Int × List UInt8) :=
  if T.nx ≤ T.rep then (T, none) else match atL T.ord T.rep with
    | none => (T, none)
    | some l => match findE T.con l with
      | none => (T, none)
      | some m => ({ T with rep := T.rep + 1 }, some (l.2.2.2, m))
def TakePost (w : World) (r : Option (Int × List UInt8)) (e : Ending) (w' : World) : Prop := match r with
  | none => e = .returned (.tuple #[.agg #[.int .i64 0, .slice none 0 0], .int .i64 6])
  | some y => ∃ v, e = .returned (.tuple #[.agg #[.int .i64 y.1, v], .int .i64 0]) ∧ w'.ownsRow w.heap.size 5 1 v y.2.length (y.2.map Cd.by8)
theorem infoS61 : (Tryz.prog.info? 61).map (·.size) = some 2 := by kernel_rfl
def Sq1 (v : Value) (W : World) : Prop := v = v ∧ v = v
set_option maxRecDepth 10000 in
set_option maxHeartbeats 1000000 in
theorem take_nil (w : World) : Calls Tryz.prog 27 #[.pointer none] w fun e w' => TakePost w none e w' ∧ Below w.heap.size w w' := by
  obtain ⟨w1, hw1⟩ : ∃ w1, (w.alloc (.cells #[.int .i64 0, .slice none 0 0] 61)).drew = w1 := ⟨_, rfl⟩
  have hB : w1.heap[w.heap.size]? = some (.cells #[.int .i64 0, .slice none 0 0] 61 (0, 0)) := by rw [← hw1]; exact heap_alloc_new w (.cells #[.int .i64 0, .slice none 0 0] 61)
  have u := bl_rowL (show Below w.heap.size w w1 by rw [← hw1]; exact (bl1 w _).drew) (Nat.le_refl _) #[.int .i64 0, .slice none 0 0]
  have k0 : (w1.setRow w.heap.size #[.int .i64 0, .slice none 0 0]).cell? ⟨w.heap.size, 0, none⟩ = some (.int .i64 0) := cell_setRow_same _ _ 0 _ _ _ _ hB
  have k1 : (w1.setRow w.heap.size #[.int .i64 0, .slice none 0 0]).cell? ⟨w.heap.size, 1, none⟩ = some (.slice none 0 0) := cell_setRow_same _ _ 1 _ _ _ _ hB
  have HW1 : Hid ((w.alloc (.cells #[.int .i64 0, .slice none 0 0] 61)).drew = w1) := hw1
  have hd : Sq1 undef (w.alloc (.cells #[.int .i64 0, .slice none 0 0] 61)).drew := ⟨rfl, rfl⟩
  clear hw1
  go_enter Tryz.func27, Tryz.ntmps27
  go_wp2_with fail
  refine wp_region_noPanic ?_
  refine wp_region_held_drew (S := Sq1 undef) (by kernel_rfl) (hd) (fun hHeld => ?_)
  unfold Sq1 at hHeld
  refine tq 0 ?_
  refine tq 1 ?_
  refine tq 2 ?_
  refine tqS 3 ?_
  refine tqS 4 ?_
  refine tqS 5 ?_
  refine tqS 6 ?_
  refine tqS 7 ?_
  refine tqS 8 ?_
  refine tqS 9 ?_
  refine tqS 10 ?_
  refine tqS 11 ?_
  refine tq 12 ?_
  refine wpAnyH_done (by kernel_rfl) ?_ _
  refine NoPanic.normal ?_
  rw [HW1.out]
  clear hHeld hd
  go_wp2_with (refine wpList_store_row rfl 61 (.tmp 2) (.tmp 21) rfl w.heap.size #[.int .i64 0, .slice none 0 0] rfl rfl 61 _ hB infoS61 rfl (by simp [Value.oneCell']) ?_)
  refine bodyPost_ret (v := .tuple #[.agg #[.int .i64 0, .slice none 0 0], .int .i64 6]) ?_ rfl ⟨rfl, u⟩
  simp [results, Tryz.results27, go_sem, k0, k1]
def S2t (q : Nat) (v14 v13 : Value) (W : World) : Prop := W.cell? ⟨q, 14, none⟩ = some v14 ∧ W.cell? ⟨q, 13, none⟩ = some v13
set_option maxRecDepth 10000 in
set_option maxHeartbeats 1000000 in
theorem take_late (w : World) (q : Nat) (r n : Int) (hrn : n ≤ r) (h : S2t q (.int .i64 r) (.int .i64 n) w) : Calls Tryz.prog 27 #[.pointer (some ⟨q, 0, none⟩)] w fun e w' => TakePost w none e w' ∧ Below w.heap.size w w' := by
  have ua := bl1 w (.cells #[.int .i64 0, .slice none 0 0] 61)
  have hs0 : S2t q (.int .i64 r) (.int .i64 n) (w.alloc (.cells #[.int .i64 0, .slice none 0 0] 61)).drew := ⟨bl_cell ua h.1, bl_cell ua h.2⟩
  obtain ⟨w1, hw1⟩ : ∃ w1, (w.alloc (.cells #[.int .i64 0, .slice none 0 0] 61)).drew = w1 := ⟨_, rfl⟩
  have hB : w1.heap[w.heap.size]? = some (.cells #[.int .i64 0, .slice none 0 0] 61 (0, 0)) := by rw [← hw1]; exact heap_alloc_new w (.cells #[.int .i64 0, .slice none 0 0] 61)
  have u := bl_rowL (show Below w.heap.size w w1 by rw [← hw1]; exact ua.drew) (Nat.le_refl _) #[.int .i64 0, .slice none 0 0]
  have k0 : (w1.setRow w.heap.size #[.int .i64 0, .slice none 0 0]).cell? ⟨w.heap.size, 0, none⟩ = some (.int .i64 0) := cell_setRow_same _ _ 0 _ _ _ _ hB
  have k1 : (w1.setRow w.heap.size #[.int .i64 0, .slice none 0 0]).cell? ⟨w.heap.size, 1, none⟩ = some (.slice none 0 0) := cell_setRow_same _ _ 1 _ _ _ _ hB
  have HW1 : Hid ((w.alloc (.cells #[.int .i64 0, .slice none 0 0] 61)).drew = w1) := hw1
  clear h ua hw1
  go_enter Tryz.func27, Tryz.ntmps27
  go_wp2_with fail
  refine wp_region_noPanic ?_
  refine wp_region_held_drew (S := S2t q (.int .i64 r) (.int .i64 n)) (by kernel_rfl) (hs0) (fun hHeld => ?_)
  unfold S2t at hHeld
  refine tq 0 ?_
  refine tq 1 ?_
  refine tq 2 ?_
  refine tq 3 ?_
  refine tq 4 ?_
  refine tq 5 ?_
  refine tq 6 ?_
  refine tq 7 ?_
  refine tq 8 ?_
  refine tq 9 ?_
  refine tq 10 ?_
  refine tq 11 ?_
  refine tq 12 ?_
  refine wpAnyH_done (by kernel_rfl) ?_ _
  refine NoPanic.normal ?_
  rw [HW1.out]
  clear hHeld hs0
  go_wp2_with (refine wpList_store_row rfl 61 (.tmp 2) (.tmp 21) rfl w.heap.size #[.int .i64 0, .slice none 0 0] rfl rfl 61 _ hB infoS61 rfl (by simp [Value.oneCell']) ?_)
  refine bodyPost_ret (v := .tuple #[.agg #[.int .i64 0, .slice none 0 0], .int .i64 6]) ?_ rfl ⟨rfl, u⟩
  simp [results, Tryz.results27, go_sem, k0, k1]
theorem Tt.setRep {w : World} {col : Nat → Nat} {Z : Nat → Prop} {q : Nat} {T : Tot} {a : Ta} (h : Tt w col Z q T a) (p : Int) : Tt (w.setCell ⟨q, 14, none⟩ (.int .i64 p)) col Z q { T with rep := p } a :=
  h.setc 14 _ (fun j hj => by unfold tcell; split <;> simp_all) (by omega) (fun W d => ⟨d.ch, d.con, d.am, d.sa, d.bu, d.od, d.tl, d.cc, d.ccb, d.cab, d.csb, d.cbv, d.cov, d.ctv, d.lt, d.zf, d.zl⟩)
theorem Tt.row {w : World} {col : Nat → Nat} {Z : Nat → Prop} {q : Nat} {T : Tot} {a : Ta} (h : Tt w col Z q T a) {g : Nat} (hc : col g = 0) (hz : ¬ Z g) (cs : Array Value) : Tt (w.setRow g cs) col Z q T a :=
  h.frame (fun b hb => setRow_other _ _ _ _ (fun e => by have e' : b = g := (by first | exact e | exact e.symm); rw [e', hc] at hb; omega)) (by simp) (fun ad v hza hv => by
    rw [World.cell?_of_block (w := w) (setRow_other _ _ _ _ (fun e => by have e' : ad.block = g := (by first | exact e | exact e.symm); rw [e'] at hza; exact hz hza))]
    exact hv) (fun _ e => e) h.d.zf (fun b e => by have := h.d.zl b e; simpa using this)
def S6k (q B cb : Nat) (b0 b1 b2 b3 s : Value) (r : Bool) (W : World) : Prop := W.cell? ⟨q, 10, none⟩ = some (.map (some cb)) ∧ W.cell? ⟨B, 0, none⟩ = some b0 ∧ W.cell? ⟨B, 1, none⟩ = some b1 ∧ W.cell? ⟨B, 2, none⟩ = some b2 ∧ W.cell? ⟨B, 3, none⟩ = some b3 ∧ (Instr.lookup 95 (.map (some cb)) (.agg #[b0, b1, b2, b3]) true).run Tryz.prog W = .ok (.tuple #[s, .bool r]) W
def S1k (B : Nat) (v : Value) (W : World) : Prop := W.cell? ⟨B, 3, none⟩ = some v ∧ W.cell? ⟨B, 3, none⟩ = some v
def S1r (q : Nat) (p : Int) (W : World) : Prop := W.cell? ⟨q, 14, none⟩ = some (.int .i64 p) ∧ W.cell? ⟨q, 14, none⟩ = some (.int .i64 p)
/-- Behind the look at the order: the label in a box. -/
structure Tc (w1 : World) (y : Lb) (g : Nat) (wx : World) : Prop where
  u : Below w1.heap.size w1 wx
  b : wx.heap[g]? = some (.cells #[.int .u64 (y.1 : Nat), .int .i64 y.2.1, .int .u64 (y.2.2.1 : Nat), .int .i64 y.2.2.2] 39 (0, 0))
  g : w1.heap.size ≤ g
theorem okL_zero : OkL (0, 0, 0, 0) := by unfold OkL In; simp
theorem atL_mem {ord : List Lb} {p : Int} {l : Lb} (h : atL ord p = some l) : l ∈ ord := by
  unfold atL at h
  split at h
  · cases h
  · exact List.mem_of_getElem? h
set_option maxRecDepth 10000 in
set_option maxHeartbeats 4000000 in
theorem take_some {w : World} {col : Nat → Nat} {Z : Nat → Prop} {q : Nat} {T : Tot} {a : Ta} (h : Tt w col Z q T a) (hol : T.ord.length ≤ 5000) (ho : ∀ x ∈ T.ord, OkL x) (hrep : In T.rep) (hml : ∀ e ∈ T.con, e.2.length ≤ 140737488355328) (hlt : T.rep < T.nx) :
    Calls Tryz.prog 27 #[.pointer (some ⟨q, 0, none⟩)] w fun e w' => TakePost w T.take.2 e w' ∧ Stp w col Z q T.take.1 w' := by
  have hql : q < w.heap.size := h.d.lt q (by rw [h.fq]; omega)
  have hcl : a.cb < w.heap.size := h.d.lt a.cb (by rw [h.d.ccb]; omega)
  obtain ⟨R, hR⟩ : ∃ R, T.take = R := ⟨_, rfl⟩
  have HR : Hid (T.take = R) := hR
  rw [hR]
  obtain ⟨y, hy⟩ : ∃ y, (atL T.ord T.rep).getD (0, 0, 0, 0) = y := ⟨_, rfl⟩
  obtain ⟨r, hr⟩ : ∃ r, (atL T.ord T.rep).isSome = r := ⟨_, rfl⟩
  have hyo : OkL y := by
    rw [← hy]
    cases hl : atL T.ord T.rep with
    | none => exact okL_zero
    | some l => exact ho l (atL_mem hl)
  obtain ⟨m, hS, hC, hZ⟩ := h.d.con
  obtain ⟨kn, hkn⟩ : ∃ kn, (m y).isSome = kn := ⟨_, rfl⟩
  obtain ⟨⟨s0, s1, s2⟩, hs⟩ : ∃ s : Sv, (m y).getD (none, 0, 0) = s := ⟨_, rfl⟩
  obtain ⟨w1, hw1⟩ : ∃ w1, (w.alloc (.cells #[.int .i64 0, .slice none 0 0] 61)).drew = w1 := ⟨_, rfl⟩
  have u1 : Below w.heap.size w w1 := by rw [← hw1]; exact (bl1 w _).drew
  have s1' : w1.heap.size = w.heap.size + 1 := by rw [← hw1]; show (w.alloc _).heap.size = _; simp
  have hB1 : w1.heap[w.heap.size]? = some (.cells #[.int .i64 0, .slice none 0 0] 61 (0, 0)) := by rw [← hw1]; exact heap_alloc_new w (.cells #[.int .i64 0, .slice none 0 0] 61)
  have HW1 : Hid ((w.alloc (.cells #[.int .i64 0, .slice none 0 0] 61)).drew = w1) := hw1
  have h1 := h.still u1
  have hsA : S2t q (.int .i64 T.rep) (.int .i64 T.nx) (w.alloc (.cells #[.int .i64 0, .slice none 0 0] 61)).drew := by rw [hw1]; exact ⟨h1.cell 14 (by omega), h1.cell 13 (by omega)⟩
  have hs0 : S1r q T.rep w1.drew := ⟨h1.cell 14 (by omega), h1.cell 14 (by omega)⟩
  have HT : Hid (Tt w col Z q T a ∧ Below w.heap.size w w1 ∧ w1.heap.size = w.heap.size + 1 ∧ w1.heap[w.heap.size]? = some (.cells #[.int .i64 0, .slice none 0 0] 61 (0, 0)) ∧ In T.rep ∧ T.ord.length ≤ 5000 ∧ T.rep < T.nx) := ⟨h, u1, s1', hB1, hrep, hol, hlt⟩
  have HY : Hid ((atL T.ord T.rep).getD (0, 0, 0, 0) = y ∧ (atL T.ord T.rep).isSome = r) := ⟨hy, hr⟩
  have HC : Hid (StoIs w a.cb T.K m ∧ Con w m T.con ∧ (∀ x s, OkL x → m x = some s → ∀ ad, s.1 = some ad → 0 < s.2.1 → Z ad.block) ∧ OkL y ∧ (m y).isSome = kn ∧ (m y).getD (none, 0, 0) = (s0, s1, s2) ∧ ∀ e ∈ T.con, e.2.length ≤ 140737488355328) := ⟨hS, hC, hZ, hyo, hkn, hs, hml⟩
  have hat := (h1.still (Below.refl _ w1).drew).at hrep
  rw [hy, hr] at hat
  unfold lab at hat
  have hlt' : ¬ T.nx ≤ T.rep := by omega
  clear h hR hy hr hyo hS hC hZ hkn hs hw1 u1 s1' hB1 h1 hml ho hol hrep
  go_enter Tryz.func27, Tryz.ntmps27
  go_wp2_with fail
  refine wp_region_noPanic ?_
  refine wp_region_held_drew (S := S2t q (.int .i64 T.rep) (.int .i64 T.nx)) (by kernel_rfl) (hsA) (fun hHeld => ?_)
  unfold S2t at hHeld
  refine tq 0 ?_
  refine tq 1 ?_
  refine tq 2 ?_
  refine tq 3 ?_
  refine tq 4 ?_
  refine tq 5 ?_
  refine tq 6 ?_
  refine tq 7 ?_
  refine tq 8 ?_
  refine tq 9 ?_
  refine tq 10 ?_
  refine tq 11 ?_
  refine tq 12 ?_
  refine wpAnyH_done (by kernel_rfl) ?_ _
  refine NoPanic.normal ?_
  rw [HW1.out]
  clear hHeld hsA HW1
  go_upto_region 3 with fail
  clear hlt hlt'
  go_cut [4, 5] from 22 to 32 (fun v4 v5 wx => ∃ g : Nat, v4 = .pointer (some ⟨g, 0, none⟩) ∧ v5 = .bool r ∧ Hid (Tc w1 y g wx))
  case first =>
    refine wp_region_noPanic ?_
    refine wp_region_held_drew (S := S1r q T.rep) (by kernel_rfl) (hs0) (fun hHeld => ?_)
    unfold S1r at hHeld
    refine tq 0 ?_
    refine tq 1 ?_
    refine tq 2 ?_
    refine tq 3 ?_
    refine tq 4 ?_
    refine tq 5 ?_
    refine tq 6 ?_
    have uA : Below w1.heap.size w1 (w1.alloc (.cells #[.int .u64 0, .int .i64 0, .int .u64 0, .int .i64 0] 39)).drew := (bl1 _ _).drew
    have hsA : S1r q T.rep (w1.alloc (.cells #[.int .u64 0, .int .i64 0, .int .u64 0, .int .i64 0] 39)).drew := ⟨bl_cell (w := w1) uA (by exact hs0.1), bl_cell (w := w1) uA (by exact hs0.1)⟩
    refine comes_up2 7 11 rfl rfl (by kernel_rfl) (fun K hK => ?_) (fun K hK => ?_)
    · go_simp
      refine hat.mono ?_
      rintro e w2 ⟨rfl, u2'⟩
      have u2 : Below w1.heap.size w1 w2 := ⟨u2'.os, u2'.tape, u2'.output, u2'.size, u2'.block⟩
      have hs1 : S1r q T.rep w2 := ⟨bl_cell u2 (by exact hs0.1), bl_cell u2 (by exact hs0.1)⟩
      clear hat u2' hsA uA
      go_wp2_with fail
      refine hK.out _ _ (hs1) (fun hHeld => ?_)
      clear hK K
      (try simp only [Act.put, List.setIfInBounds_toArray, List.set_cons_zero, List.set_cons_succ])
      refine tq 8 ?_
      refine tq 9 ?_
      refine tq 10 ?_
      refine comes_up 11 rfl (by kernel_rfl) (fun K hK => ?_)
      go_simp
      have uA : Below w1.heap.size w1 (w2.alloc (.cells #[.int .u64 0, .int .i64 0, .int .u64 0, .int .i64 0] 39)) := u2.alloc u2.size _
      have hsA : S1r q T.rep (w2.alloc (.cells #[.int .u64 0, .int .i64 0, .int .u64 0, .int .i64 0] 39)) := ⟨bl_cell uA (by exact hs0.1), bl_cell uA (by exact hs0.1)⟩
      have hBA : (w2.alloc (.cells #[.int .u64 0, .int .i64 0, .int .u64 0, .int .i64 0] 39)).heap[w2.heap.size]? = some (.cells #[.int .u64 0, .int .i64 0, .int .u64 0, .int .i64 0] 39 (0, 0)) := heap_alloc_new w2 _
      refine hK.out _ _ (hsA) (fun hHeld => ?_)
      clear hK K
      (try simp only [Act.put, List.setIfInBounds_toArray, List.set_cons_zero, List.set_cons_succ])
      refine comes_up 12 rfl (by kernel_rfl) (fun K hK => ?_)
      refine step_store_row rfl 39 (.tmp 4) (.tmp 31) rfl w2.heap.size #[.int .u64 (y.1 : Nat), .int .i64 y.2.1, .int .u64 (y.2.2.1 : Nat), .int .i64 y.2.2.2] rfl rfl 39 _ hBA infoS39 rfl (by simp [Value.oneCell']) ?_
      have uB : Below w1.heap.size w1 ((w2.alloc (.cells #[.int .u64 0, .int .i64 0, .int .u64 0, .int .i64 0] 39)).setRow w2.heap.size #[.int .u64 (y.1 : Nat), .int .i64 y.2.1, .int .u64 (y.2.2.1 : Nat), .int .i64 y.2.2.2]) := bl_rowL uA u2.size _
      have hsB : S1r q T.rep ((w2.alloc (.cells #[.int .u64 0, .int .i64 0, .int .u64 0, .int .i64 0] 39)).setRow w2.heap.size #[.int .u64 (y.1 : Nat), .int .i64 y.2.1, .int .u64 (y.2.2.1 : Nat), .int .i64 y.2.2.2]) := ⟨bl_cell uB (by exact hs0.1), bl_cell uB (by exact hs0.1)⟩
      have hBB := setRow_heap _ w2.heap.size _ #[.int .u64 (y.1 : Nat), .int .i64 y.2.1, .int .u64 (y.2.2.1 : Nat), .int .i64 y.2.2.2] _ _ hBA
      refine hK.out _ _ (hsB) (fun hHeld => ?_)
      clear hK K
      (try simp only [Act.put, List.setIfInBounds_toArray, List.set_cons_zero, List.set_cons_succ])
      refine tq 13 ?_
      refine wpAnyH_done (by kernel_rfl) ?_ _
      refine NoPanic.normal ?_
      have HI : Hid (Tc w1 y w2.heap.size ((w2.alloc (.cells #[.int .u64 0, .int .i64 0, .int .u64 0, .int .i64 0] 39)).setRow w2.heap.size #[.int .u64 (y.1 : Nat), .int .i64 y.2.1, .int .u64 (y.2.2.1 : Nat), .int .i64 y.2.2.2])) := ⟨uB, hBB, u2.size⟩
      clear hHeld hs0 hs1 hsA hsB uA uB hBA hBB u2
      go_wp2_with fail
      go_meet
      exact ⟨_, rfl, rfl, HI⟩
    · go_simp
      refine hK.out _ _ (hsA) (fun hHeld => ?_)
      clear hK K
      (try simp only [Act.put, List.setIfInBounds_toArray, List.set_cons_zero, List.set_cons_succ])
      have hBA : (w1.alloc (.cells #[.int .u64 0, .int .i64 0, .int .u64 0, .int .i64 0] 39)).drew.heap[w1.heap.size]? = some (.cells #[.int .u64 0, .int .i64 0, .int .u64 0, .int .i64 0] 39 (0, 0)) := heap_alloc_new w1 _
      have hat2 := ((HT.out.1.still HT.out.2.1).still uA).at HT.out.2.2.2.2.1
      rw [HY.out.1, HY.out.2] at hat2
      unfold lab at hat2
      refine comes_up 7 rfl (by kernel_rfl) (fun K hK => ?_)
      go_simp
      refine hat2.mono ?_
      rintro e w2 ⟨rfl, u2'⟩
      have u2 : Below w1.heap.size w1 w2 := bl_step uA u2'
      have hs1 : S1r q T.rep w2 := ⟨bl_cell u2 (by exact hs0.1), bl_cell u2 (by exact hs0.1)⟩
      have hB1 : w2.heap[w1.heap.size]? = some (.cells #[.int .u64 0, .int .i64 0, .int .u64 0, .int .i64 0] 39 (0, 0)) := (u2'.block _ (by show w1.heap.size < (w1.alloc _).heap.size; simp)).trans hBA
      clear hat hat2 u2' hsA uA hBA
      go_wp2_with fail
      refine hK.out _ _ (hs1) (fun hHeld => ?_)
      clear hK K
      (try simp only [Act.put, List.setIfInBounds_toArray, List.set_cons_zero, List.set_cons_succ])
      refine tq 8 ?_
      refine tq 9 ?_
      refine tq 10 ?_
      refine comes_up 12 rfl (by kernel_rfl) (fun K hK => ?_)
      refine step_store_row rfl 39 (.tmp 4) (.tmp 31) rfl w1.heap.size #[.int .u64 (y.1 : Nat), .int .i64 y.2.1, .int .u64 (y.2.2.1 : Nat), .int .i64 y.2.2.2] rfl rfl 39 _ hB1 infoS39 rfl (by simp [Value.oneCell']) ?_
      have uB : Below w1.heap.size w1 (w2.setRow w1.heap.size #[.int .u64 (y.1 : Nat), .int .i64 y.2.1, .int .u64 (y.2.2.1 : Nat), .int .i64 y.2.2.2]) := bl_rowL u2 (Nat.le_refl _) _
      have hsB : S1r q T.rep (w2.setRow w1.heap.size #[.int .u64 (y.1 : Nat), .int .i64 y.2.1, .int .u64 (y.2.2.1 : Nat), .int .i64 y.2.2.2]) := ⟨bl_cell uB (by exact hs0.1), bl_cell uB (by exact hs0.1)⟩
      have hBB := setRow_heap _ w1.heap.size _ #[.int .u64 (y.1 : Nat), .int .i64 y.2.1, .int .u64 (y.2.2.1 : Nat), .int .i64 y.2.2.2] _ _ hB1
      refine hK.out _ _ (hsB) (fun hHeld => ?_)
      clear hK K
      (try simp only [Act.put, List.setIfInBounds_toArray, List.set_cons_zero, List.set_cons_succ])
      refine tq 13 ?_
      refine wpAnyH_done (by kernel_rfl) ?_ _
      refine NoPanic.normal ?_
      have HI : Hid (Tc w1 y w1.heap.size (w2.setRow w1.heap.size #[.int .u64 (y.1 : Nat), .int .i64 y.2.1, .int .u64 (y.2.2.1 : Nat), .int .i64 y.2.2.2])) := ⟨uB, hBB, Nat.le_refl _⟩
      clear hHeld hs0 hs1 hsB uB hB1 hBB u2
      go_wp2_with fail
      go_meet
      exact ⟨_, rfl, rfl, HI⟩
  case rest =>
    obtain ⟨g, rfl, rfl, HI⟩ := hcut
    clear hs0 hat
    obtain ⟨w3, hw3⟩ : ∃ w3, wc.drew = w3 := ⟨_, rfl⟩
    have u3 : Below w1.heap.size w1 w3 := by rw [← hw3]; exact HI.out.u.drew
    have hB3 : w3.heap[g]? = some (.cells #[.int .u64 (y.1 : Nat), .int .i64 y.2.1, .int .u64 (y.2.2.1 : Nat), .int .i64 y.2.2.2] 39 (0, 0)) := by rw [← hw3]; exact HI.out.b
    have uw := bl_step HT.out.2.1 u3
    have h3 := HT.out.1.still uw
    have hc := fun j => cell_of_heap hB3 j
    have hS3 : S6k q g a.cb (.int .u64 (y.1 : Nat)) (.int .i64 y.2.1) (.int .u64 (y.2.2.1 : Nat)) (.int .i64 y.2.2.2) (.slice s0 s1 s2) kn w3 := by
      refine ⟨h3.cell 10 (by omega), hc 0, hc 1, hc 2, hc 3, ?_⟩
      have := (HC.out.1.of_block (w' := w3) (uw.block _ hcl)).look HC.out.2.2.2.1
      rw [HC.out.2.2.2.2.1, HC.out.2.2.2.2.2.1] at this
      exact this
    have hg := HI.out.g
    have hr3 : w3.heap[w.heap.size]? = some (.cells #[.int .i64 0, .slice none 0 0] 61 (0, 0)) := (u3.block _ (by have := HT.out.2.2.1; omega)).trans HT.out.2.2.2.1
    have H3 : Hid (Below w.heap.size w w3 ∧ w3.heap[g]? = some (.cells #[.int .u64 (y.1 : Nat), .int .i64 y.2.1, .int .u64 (y.2.2.1 : Nat), .int .i64 y.2.2.2] 39 (0, 0)) ∧ w.heap.size < g ∧ Tt w3 col Z q T a) := ⟨uw, hB3, by have := HT.out.2.2.1; omega, h3⟩
    have HW3 : Hid (wc.drew = w3) := hw3
    have hS3' : S6k q g a.cb (.int .u64 (y.1 : Nat)) (.int .i64 y.2.1) (.int .u64 (y.2.2.1 : Nat)) (.int .i64 y.2.2.2) (.slice s0 s1 s2) kn wc.drew := by rw [hw3]; exact hS3
    clear hw3 u3 hB3 uw h3 hc hg hS3
    go_wp2_with fail
    refine wp_region_noPanic ?_
    refine wp_region_held_drew (S := S6k q g a.cb (.int .u64 (y.1 : Nat)) (.int .i64 y.2.1) (.int .u64 (y.2.2.1 : Nat)) (.int .i64 y.2.2.2) (.slice s0 s1 s2) kn) (by kernel_rfl) (hS3') (fun hHeld => ?_)
    unfold S6k at hHeld
    refine tq 0 ?_
    refine tq 1 ?_
    refine tq 2 ?_
    refine tq 3 ?_
    refine tq 4 ?_
    refine tq 5 ?_
    refine tq 6 ?_
    refine tq 7 ?_
    refine tq 8 ?_
    refine tq 9 ?_
    refine tq 10 ?_
    refine wpAnyH_done (by kernel_rfl) ?_ _
    refine NoPanic.normal ?_
    rw [HW3.out]
    clear hHeld hS3' HW3
    by_cases hfound : r = true ∧ kn = true
    · obtain ⟨rfl, rfl⟩ := hfound
      obtain ⟨l, hl⟩ := Option.isSome_iff_exists.1 HY.out.2
      have hly : l = y := by have := HY.out.1; rw [hl] at this; exact this
      subst hly
      obtain ⟨s', hs'⟩ := Option.isSome_iff_exists.1 HC.out.2.2.2.2.1
      have hse : s' = (s0, s1, s2) := by have := HC.out.2.2.2.2.2.1; rw [hs'] at this; exact this
      rw [hse] at hs'
      obtain ⟨bs, hfb, hrow⟩ := HC.out.2.1.2.2.2 l _ HC.out.2.2.2.1 hs'
      have hzz := HC.out.2.2.1 l _ HC.out.2.2.2.1 hs'
      have hRe : R = ({ T with rep := T.rep + 1 }, some (l.2.2.2, bs)) := by
        rw [← HR.out]
        unfold Tot.take
        rw [if_neg (by have := HT.out.2.2.2.2.2.2; omega), hl]
        simp only
        rw [hfb]
      have hpl := atL_some hl
      have hlen := HT.out.2.2.2.2.2.1
      have hwr : IntKind.wrap .i64 (T.rep + 1) = T.rep + 1 := by unfold IntKind.wrap; simp [IntKind.bits, IntKind.signed]; omega
      have h3 := H3.out.2.2.2
      have c14 := h3.cell 14 (by omega)
      have f14 := h3.fr 14
      simp only [tcell] at c14
      obtain ⟨w4, hw4⟩ : ∃ w4, w3.setCell ⟨q, 14, none⟩ (.int .i64 (T.rep + 1)) = w4 := ⟨_, rfl⟩
      have HW4 : Hid (w3.setCell ⟨q, 14, none⟩ (.int .i64 (T.rep + 1)) = w4) := hw4
      have h4 : Tt w4 col Z q { T with rep := T.rep + 1 } a := by rw [← hw4]; exact h3.setRep _
      have G4 : Gt w col w4 col := by rw [← hw4]; exact (Gt.bl col H3.out.1).trans (Gt.set (by rw [h3.fq]; omega) _)
      have s4 : w4.heap.size = w3.heap.size := by rw [← hw4]; simp [World.setCell]
      have hgq : g ≠ q := by have := H3.out.2.2.1; omega
      have hB4 : w4.heap[g]? = some (.cells #[.int .u64 (l.1 : Nat), .int .i64 l.2.1, .int .u64 (l.2.2.1 : Nat), .int .i64 l.2.2.2] 39 (0, 0)) := by rw [← hw4]; exact (Below.heap_setCell _ _ _ _ hgq).trans H3.out.2.1
      have hr4 : w4.heap[w.heap.size]? = some (.cells #[.int .i64 0, .slice none 0 0] 61 (0, 0)) := by rw [← hw4]; exact (Below.heap_setCell _ _ _ _ (show w.heap.size ≠ q by omega)).trans hr3
      have hgw : Hid (w.heap.size < g) := H3.out.2.2.1
      have hs4 : S1k g (.int .i64 l.2.2.2) w4.drew := ⟨cell_of_heap (w := w4) hB4 3, cell_of_heap (w := w4) hB4 3⟩
      have hrow4 : Cd.Row w4.drew s0 s1 s2 bs := row_kp hrow hzz (G4.turned.kp (fun b hz e => by have := HT.out.1.d.zf b hz; omega))
      have hcn := bclone_any w4.drew s0 s1 s2 bs hrow4 (by have h1 : bs.length = s1 := hrow.1; have h2 : bs.length ≤ 140737488355328 := HC.out.2.2.2.2.2.2 (l, bs) (find_mem hfb); omega)
      have H4 : Hid (Tt w4 col Z q { T with rep := T.rep + 1 } a ∧ Gt w col w4 col ∧ w4.heap[w.heap.size]? = some (.cells #[.int .i64 0, .slice none 0 0] 61 (0, 0)) ∧ w4.heap.size = w3.heap.size ∧ R = ({ T with rep := T.rep + 1 }, some (l.2.2.2, bs)) ∧ w.heap.size < w3.heap.size) := ⟨h4, G4, hr4, s4, hRe, by have := H3.out.2.2.1; have := (Array.getElem?_eq_some_iff.1 H3.out.2.1).1; omega⟩
      clear hl hs' hse hfb hrow hzz hRe hpl hlen h3 hw4 h4 G4 s4 hgq hB4 hr4 hrow4 hr3 H3 HI HR HY HC
      go_upto_region 8 with fail
      rw [HW4.out]
      clear c14 f14 hwr HW4
      refine wp_region_noPanic ?_
      refine wp_region_held_drew (S := S1k g (.int .i64 l.2.2.2)) (by kernel_rfl) (hs4) (fun hHeld => ?_)
      unfold S1k at hHeld
      refine tq 0 ?_
      refine tq 1 ?_
      refine tq 2 ?_
      refine comes_up 3 rfl (by kernel_rfl) (fun K hK => ?_)
      go_simp
      refine hcn.mono ?_
      rintro e w5 ⟨v5, rfl, ho5, u5'⟩
      have u5 : Below w4.heap.size w4 w5 := ⟨u5'.os, u5'.tape, u5'.output, u5'.size, u5'.block⟩
      have hs5 : S1k g (.int .i64 l.2.2.2) w5 := ⟨bl_cell u5 (by exact hs4.1), bl_cell u5 (by exact hs4.1)⟩
      have hB5 : w5.heap[w.heap.size]? = some (.cells #[.int .i64 0, .slice none 0 0] 61 (0, 0)) := (u5.block _ (by have := H4.out; omega)).trans H4.out.2.2.1
      obtain ⟨o5, q5, rfl⟩ := own_shape ho5
      clear hcn u5'
      go_wp2_with fail
      refine hK.out _ _ (hs5) (fun hHeld => ?_)
      clear hK K
      (try simp only [Act.put, List.setIfInBounds_toArray, List.set_cons_zero, List.set_cons_succ])
      refine tq 4 ?_
      refine comes_up 5 rfl (by kernel_rfl) (fun K hK => ?_)
      refine step_store_row rfl 61 (.tmp 2) (.tmp 60) rfl w.heap.size #[.int .i64 l.2.2.2, .slice o5 bs.length q5] rfl rfl 61 _ hB5 infoS61 rfl (by simp [Value.oneCell']) ?_
      have hs6 : S1k g (.int .i64 l.2.2.2) (w5.setRow w.heap.size #[.int .i64 l.2.2.2, .slice o5 bs.length q5]) := by
        have e6 : (w5.setRow w.heap.size #[.int .i64 l.2.2.2, .slice o5 bs.length q5]).heap[g]? = w5.heap[g]? := setRow_other _ _ _ _ (by first | exact Nat.ne_of_gt hgw.out | exact Nat.ne_of_lt hgw.out)
        exact ⟨(cell_block e6).trans hs5.1, (cell_block e6).trans hs5.1⟩
      refine hK.out _ _ (hs6) (fun hHeld => ?_)
      clear hK K
      (try simp only [Act.put, List.setIfInBounds_toArray, List.set_cons_zero, List.set_cons_succ])
      refine tq 6 ?_
      refine wpAnyH_done (by kernel_rfl) ?_ _
      refine NoPanic.normal ?_
      have k0 : (w5.setRow w.heap.size #[.int .i64 l.2.2.2, .slice o5 bs.length q5]).cell? ⟨w.heap.size, 0, none⟩ = some (.int .i64 l.2.2.2) := cell_setRow_same _ _ 0 _ _ _ _ hB5
      have k1 : (w5.setRow w.heap.size #[.int .i64 l.2.2.2, .slice o5 bs.length q5]).cell? ⟨w.heap.size, 1, none⟩ = some (.slice o5 bs.length q5) := cell_setRow_same _ _ 1 _ _ _ _ hB5
      have HF : Hid (TakePost w R.2 (.returned (.tuple #[.agg #[.int .i64 l.2.2.2, .slice o5 bs.length q5], .int .i64 0])) (w5.setRow w.heap.size #[.int .i64 l.2.2.2, .slice o5 bs.length q5]) ∧ Stp w col Z q R.1 (w5.setRow w.heap.size #[.int .i64 l.2.2.2, .slice o5 bs.length q5])) := by
        obtain ⟨h4, G4, hr4, s4, hRe, hsz⟩ := H4.out
        rw [hRe]
        have hl5 := ho5.lt
        have hd4 : w4.drew.heap.size = w4.heap.size := rfl
        refine ⟨⟨_, rfl, own_mono (own_row ho5 _ (fun k e => by have := (hl5 k e).1; omega)) (by omega)⟩, col, Z, a, (h4.still u5).row ?_ ?_ _, ?_, fun _ e => e, fun _ e => .inl e⟩
        · by_cases hc : col w.heap.size = 0
          · exact hc
          · have := HT.out.1.d.lt w.heap.size (by omega); omega
        · intro hz
          have := HT.out.1.d.zl _ hz
          omega
        · refine ⟨((G4.turned.trans (Turned.of_below (F := fun _ => False) u5) (fun i e => False.elim e))).trans (Turned.of_grown (F := fun k => k = w.heap.size) (Go.Proofs.YtlaihgdfedalmaaGreat.T.gr_setRow w5 w.heap.size _) (fun k e => by cases e; rfl)) (fun i e => .inr (by omega)), fun b hb => .inl hb⟩
      clear hHeld hs4 hs5 hs6 hB5 ho5 u5 H4 HT
      go_wp2_with fail
      refine bodyPost_ret (v := .tuple #[.agg #[.int .i64 l.2.2.2, .slice o5 bs.length q5], .int .i64 0]) ?_ rfl HF.out
      simp [results, Tryz.results27, go_sem, k0, k1]
    · have hRe : R = (T, none) := by
        rw [← HR.out]
        unfold Tot.take
        rw [if_neg (by have := HT.out.2.2.2.2.2.2; omega)]
        cases hl : atL T.ord T.rep with
        | none => rfl
        | some l =>
          simp only
          have hly : l = y := by have := HY.out.1; rw [hl] at this; exact this
          subst hly
          have hr1 : r = true := by rw [← HY.out.2, hl]; rfl
          have hk1 : kn = false := by
            cases hk : kn with
            | false => rfl
            | true => exact absurd ⟨hr1, hk⟩ hfound
          have hmn : m l = none := by
            have := HC.out.2.2.2.2.1
            rw [hk1] at this
            cases hm : m l with
            | none => rfl
            | some s => rw [hm] at this; cases this
          rw [HC.out.2.1.2.2.1 l HC.out.2.2.2.1 hmn]
      have k0 : (w3.setRow w.heap.size #[.int .i64 0, .slice none 0 0]).cell? ⟨w.heap.size, 0, none⟩ = some (.int .i64 0) := cell_setRow_same _ _ 0 _ _ _ _ hr3
      have k1 : (w3.setRow w.heap.size #[.int .i64 0, .slice none 0 0]).cell? ⟨w.heap.size, 1, none⟩ = some (.slice none 0 0) := cell_setRow_same _ _ 1 _ _ _ _ hr3
      have HF : Hid (TakePost w R.2 (.returned (.tuple #[.agg #[.int .i64 0, .slice none 0 0], .int .i64 6])) (w3.setRow w.heap.size #[.int .i64 0, .slice none 0 0]) ∧ Stp w col Z q R.1 (w3.setRow w.heap.size #[.int .i64 0, .slice none 0 0])) := by
        rw [hRe]
        exact ⟨rfl, Stp.still HT.out.1 (bl_rowL H3.out.1 (Nat.le_refl _) _)⟩
      clear hRe HR HY HC H3 HI HT
      have hrk : (r = true → kn = false) := fun e => by
        cases hk : kn with
        | false => rfl
        | true => exact absurd ⟨e, hk⟩ hfound
      clear hfound
      cases r with
      | false =>
        clear hrk
        go_wp2_with (refine wpList_store_row rfl 61 (.tmp 2) (.tmp 48) rfl w.heap.size #[.int .i64 0, .slice none 0 0] rfl rfl 61 _ hr3 infoS61 rfl (by simp [Value.oneCell']) ?_)
        refine bodyPost_ret (v := .tuple #[.agg #[.int .i64 0, .slice none 0 0], .int .i64 6]) ?_ rfl HF.out
        simp [results, Tryz.results27, go_sem, k0, k1]
      | true =>
        obtain rfl := hrk rfl
        clear hrk
        go_wp2_with (refine wpList_store_row rfl 61 (.tmp 2) (.tmp 48) rfl w.heap.size #[.int .i64 0, .slice none 0 0] rfl rfl 61 _ hr3 infoS61 rfl (by simp [Value.oneCell']) ?_)
        refine bodyPost_ret (v := .tuple #[.agg #[.int .i64 0, .slice none 0 0], .int .i64 6]) ?_ rfl HF.out
        simp [results, Tryz.results27, go_sem, k0, k1]
theorem take_any {w : World} {col : Nat → Nat} {Z : Nat → Prop} {q : Nat} {T : Tot} {a : Ta} (h : Tt w col Z q T a) (hol : T.ord.length ≤ 5000) (ho : ∀ x ∈ T.ord, OkL x) (hrep : In T.rep) (hml : ∀ e ∈ T.con, e.2.length ≤ 140737488355328) :
    Calls Tryz.prog 27 #[.pointer (some ⟨q, 0, none⟩)] w fun e w' => TakePost w T.take.2 e w' ∧ Stp w col Z q T.take.1 w' := by
  by_cases hlt : T.rep < T.nx
  · exact take_some h hol ho hrep hml hlt
  · have e : T.take = (T, none) := by unfold Tot.take; rw [if_pos (by omega)]
    rw [e]
    refine (take_late w q T.rep T.nx (by omega) ⟨h.cell 14 (by omega), h.cell 13 (by omega)⟩).mono ?_
    rintro e w' ⟨hp, u⟩
    exact ⟨hp, Stp.still h u⟩
end Go.Proofs.YtlaihgdfedalmaaGreat

/-
  Package total: the statements' example.
-/
namespace Go.Proofs.YtlaihgdfedalmaaGreat
open Go.RowKit Go.Sort Go.Conc
set_option linter.unusedVariables false
set_option linter.unusedSimpArgs false

def aX : Lb := (1, 0, 1, 0)
def aT1 : Tot := { n := 1, self := 0, qc := 4, acc := 1, vn := 0, vp := 0, vs := 0, st := 0, seq := 0, dl := [[97]], buf := [], con := [], ord := [], nx := 1, rep := 1, hn := 0, hp := 0, told := [], sf := 0, safe := [], K := 0 }
def aT2 : Tot := { n := 1, self := 0, qc := 4, acc := 1, vn := 1, vp := 0, vs := 1, st := 0, seq := 1, dl := [], buf := [(aX, [97])], con := [(aX, [97])], ord := [], nx := 1, rep := 1, hn := 0, hp := 0, told := [], sf := 0, safe := [], K := 1 }
def aP : Pt := { node := 0, es := [(aX, [97])], ls := [], nx := 1, hn := 0, hp := 0 }
def aT3 : Tot := { aT2 with st := 2, ord := [aX], hn := 1, hp := 0, told := [aP], K := 3 }
def aT4 : Tot := { aT3 with nx := 2, sf := 1, safe := [aX], K := 4 }
def aT5 : Tot := { aT4 with buf := [], K := 6 }
def aT6 : Tot := { aT5 with safe := [aX, aX], K := 7 }
def aT0 : Tot := { n := 1, self := 0, qc := 4, acc := 0, vn := 0, vp := 0, vs := 0, st := 0, seq := 0, dl := [], buf := [], con := [], ord := [], nx := 1, rep := 1, hn := 0, hp := 0, told := [], sf := 0, safe := [], K := 0 }
theorem a1 : aT0.bcast [97] = (aT1, 0) := by kernel_rfl
theorem a2 : aT1.view 1 0 1 = (aT2, 0) := by kernel_rfl
theorem a3n : aT2.next = some (allB aP.es aP.ls aP.nx.toNat aP.hn aP.hp) := by kernel_rfl
theorem a3s : aT2.sent = ({ aT2 with st := 1 }, 0) := by kernel_rfl
theorem a3 : ({ aT2 with st := 1 } : Tot).gotAll aP = (aT3, 0) := by kernel_rfl
theorem a4 : aT3.sureAll 0 = aT4 := by kernel_rfl
theorem a5n : aT4.next = some (1 :: encE aX [97]) := by kernel_rfl
theorem a5s : aT4.sent = ({ aT4 with buf := [] }, 0) := by kernel_rfl
theorem a5 : ({ aT4 with buf := [] } : Tot).gotOne aX [97] = aT5 := by kernel_rfl
theorem a6 : aT5.sureOne aX = aT6 := by kernel_rfl
theorem a7 : aT6.take = ({ aT6 with rep := 2 }, some (0, [97])) := by kernel_rfl
theorem okl_aX : OkL aX := by unfold OkL In aX; simp
theorem re_aX : RE (aX, [97]) := ⟨by show (1 : Nat) < _; omega, by show (1 : Nat) < _; omega, by kernel_rfl, by show (1 : Nat) ≤ _; omega⟩
section
variable {w : World} {col : Nat → Nat} {Z : Nat → Prop} {q : Nat} {a : Ta}
theorem tb_aP : Tb [aP] := by
  have e : allT [aP] = [(aX, [97])] := rfl
  refine ⟨by rw [e]; show 1 ≤ 5000; omega, fun x hx => ?_, fun x hx => ?_, fun t ht => ?_, fun t ht x hx => ?_⟩
  · rw [e, List.mem_singleton] at hx; subst hx; show 1 ≤ _; omega
  · rw [e, List.mem_singleton] at hx; subst hx; exact okl_aX
  · rw [List.mem_singleton] at ht; subst ht; show 0 ≤ _; omega
  · rw [List.mem_singleton] at ht; subst ht; cases hx
theorem awake_step1 (h : Tt w col Z q aT2 a) : Calls Tryz.prog 40 #[.pointer (some ⟨q, 0, none⟩)] w fun e w' => e = .returned (.bool true) ∧ Stp w col Z q aT4 w' := by
  have hcon : ∀ e ∈ aT2.con, OkL e.1 ∧ e.2.length ≤ 64 := fun e he => by
    have : e = (aX, [97]) := by simpa [aT2] using he
    subst this
    exact ⟨okl_aX, by show 1 ≤ 64; omega⟩
  have hbuf : ∀ e ∈ aT2.buf, OkL e.1 := fun e he => by
    have : e = (aX, [97]) := by simpa [aT2] using he
    subst this
    exact okl_aX
  have hes : ∀ e ∈ aP.es, e.1.1 < 18446744073709551616 ∧ e.1.2.2.1 < 18446744073709551616 := fun e he => by
    have : e = (aX, [97]) := by simpa [aP] using he
    subst this
    exact ⟨by show (1 : Nat) < _; omega, by show (1 : Nat) < _; omega⟩
  have hls : ∀ x ∈ aP.ls, x.1 < 18446744073709551616 ∧ x.2.2.1 < 18446744073709551616 := fun x hx => by cases hx
  have hok : ∀ e ∈ aP.es, OkL e.1 := fun e he => by
    have : e = (aX, [97]) := by simpa [aP] using he
    subst this
    exact okl_aX
  have hord3 : ∀ x ∈ aT3.ord, OkL x := fun x hx => by
    have : x = aX := by simpa [aT3, aT2] using hx
    subst this
    exact okl_aX
  refine step_gen (T1 := { aT2 with st := 1 }) (T2 := aT3) h (allB aP.es aP.ls aP.nx.toNat aP.hn aP.hp) ?_ (fun W A hA => ?_) (fun W c Z' A ao n cap hA hr => ?_) (fun W c Z' A ao n cap hA hr => ?_)
  · have := nextT_any h (by show 1 ≤ 100000; omega) (by show 1 ≤ 5000; omega) hcon (by show 0 ≤ 5000; omega) (fun x hx => by cases hx) (by show 0 < 18446744073709551616; omega) hbuf
    rwa [a3n] at this
  · have := sent_any hA ⟨by show 1 ≤ 100000; omega, by show 1 ≤ 5000; omega, hcon, by show 0 ≤ 5000; omega, (fun x hx => by cases hx), by show 0 < 18446744073709551616; omega, hbuf⟩
    rw [a3s] at this
    exact this
  · have := recv_all hA aP hok ⟨⟨by show (1 : Int) ≤ 1; omega, by show (1 : Int) ≤ 16; omega⟩, ⟨by show (0 : Int) ≤ 0; omega, by show (0 : Int) < 1; omega⟩, by show 1 < 18446744073709551616; omega, by unfold In; show _ ≤ (0 : Int) ∧ (0 : Int) ≤ _; omega, by show 1 < 65536; omega, by show 1 < 256; omega, by show 2 ≤ 1000000; omega⟩ tb_aP (by show 0 ≤ 4999; omega) ao n cap (rd_all hA (by show (1 : Nat) ≠ 0; omega) (by show 1 < 65536; omega) aP (by kernel_rfl) ao n cap (by kernel_rfl) hes hls (by show 1 ≤ 5000; omega) (by show 0 ≤ 5000; omega) (by show 0 < 18446744073709551616; omega) hr)
    rw [a3] at this
    exact this
  · have := safe_all hA ⟨⟨by show (1 : Int) ≤ 1; omega, by show (1 : Int) ≤ 16; omega⟩, ⟨by show (0 : Int) ≤ 0; omega, by show (0 : Int) < 1; omega⟩, by show 1 < 18446744073709551616; omega, by unfold In; show _ ≤ (0 : Int) ∧ (0 : Int) ≤ _; omega, by show 1 < 65536; omega, by show 2 < 256; omega, by show 3 ≤ 1000000; omega⟩ (by show 3 + 10000 < 1000000; omega) (by show 1 ≤ 5000; omega) hord3 (by unfold In; show _ ≤ (1 : Int) ∧ (1 : Int) ≤ _; omega) (by show 0 < 65536; omega) tb_aP aP ao n cap (rd_all hA (by show (1 : Nat) ≠ 0; omega) (by show 1 < 65536; omega) aP (by kernel_rfl) ao n cap (by kernel_rfl) hes hls (by show 1 ≤ 5000; omega) (by show 0 ≤ 5000; omega) (by show 0 < 18446744073709551616; omega) hr)
    rw [show aP.node = 0 from rfl, a4] at this
    exact this
theorem awake_step2 (h : Tt w col Z q aT4 a) : Calls Tryz.prog 40 #[.pointer (some ⟨q, 0, none⟩)] w fun e w' => e = .returned (.bool true) ∧ Stp w col Z q aT6 w' := by
  have hcon : ∀ e ∈ aT4.con, OkL e.1 ∧ e.2.length ≤ 64 := fun e he => by
    have : e = (aX, [97]) := by simpa [aT4, aT3, aT2] using he
    subst this
    exact ⟨okl_aX, by show 1 ≤ 64; omega⟩
  have hbuf : ∀ e ∈ aT4.buf, OkL e.1 := fun e he => by
    have : e = (aX, [97]) := by simpa [aT4, aT3, aT2] using he
    subst this
    exact okl_aX
  have hord : ∀ x ∈ aT4.ord, OkL x := fun x hx => by
    have : x = aX := by simpa [aT4, aT3, aT2] using hx
    subst this
    exact okl_aX
  have tn : ∀ K : Nat, K ≤ 1000000 → ∀ b : List En, Tn { aT4 with buf := b, K := K } := fun K hK b => ⟨⟨by show (1 : Int) ≤ 1; omega, by show (1 : Int) ≤ 16; omega⟩, ⟨by show (0 : Int) ≤ 0; omega, by show (0 : Int) < 1; omega⟩, by show 1 < 18446744073709551616; omega, by unfold In; show _ ≤ (0 : Int) ∧ (0 : Int) ≤ _; omega, by show 1 < 65536; omega, by show 2 < 256; omega, hK⟩
  refine step_gen (T1 := { aT4 with buf := [] }) (T2 := aT5) h (1 :: encE aX [97]) ?_ (fun W A hA => ?_) (fun W c Z' A ao n cap hA hr => ?_) (fun W c Z' A ao n cap hA hr => ?_)
  · have := nextT_any h (by show 4 ≤ 100000; omega) (by show 1 ≤ 5000; omega) hcon (by show 1 ≤ 5000; omega) hord (by show 1 < 18446744073709551616; omega) hbuf
    rwa [a5n] at this
  · have := sent_any hA ⟨by show 4 ≤ 100000; omega, by show 1 ≤ 5000; omega, hcon, by show 1 ≤ 5000; omega, hord, by show 1 < 18446744073709551616; omega, hbuf⟩
    rw [a5s] at this
    exact this
  · have := recv_one hA (tn 4 (by omega) []) (by show 4 + 2 < 1000000; omega) (by show 1 ≤ 4999; omega) 0 ao n cap aX okl_aX [97] (rd_one hA (by show (1 : Nat) ≠ 0; omega) (by show 1 < 65536; omega) 0 (by kernel_rfl) ao n cap aX [97] re_aX hr)
    rw [a5] at this
    exact this
  · have := safe_one hA (tn 6 (by omega) []) (by show 6 < 1000000; omega) (by show 1 ≤ 5000; omega) hord (by unfold In; show _ ≤ (2 : Int) ∧ (2 : Int) ≤ _; omega) 0 ao n cap aX okl_aX [97] (rd_one hA (by show (1 : Nat) ≠ 0; omega) (by show 1 < 65536; omega) 0 (by kernel_rfl) ao n cap aX [97] re_aX hr)
    rw [a6] at this
    exact this
end
end Go.Proofs.YtlaihgdfedalmaaGreat
