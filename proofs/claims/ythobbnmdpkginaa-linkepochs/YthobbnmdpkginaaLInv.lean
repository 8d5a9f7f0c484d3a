/-
  What holds of two ends, in plain data: what is taken there is a beginning of what was put here.
-/
import Derived.Test.YthobbnmdpkginaaLAct
namespace Go.Proofs.Ythobbnmdpkginaa
open Go.RowKit
set_option linter.unusedVariables false
set_option linter.unusedSimpArgs false

/-- A packet that the sender of 'put' may have sent, who has a of them acked. -/
structure Pok (N : Nat) (put : List Value) (a o : Nat) (t : Px) : Prop where
  base : t.base ≤ a
  most : t.zs.length ≤ N
  fits : t.base + t.zs.length ≤ put.length
  zs : t.zs = (put.drop t.base).take t.zs.length
  ack : t.ack ≤ o
/-- One way: what was put, acked, waits to be acked; has come, waits to be taken, was taken; packets under way; how many have come the other way. -/
structure Dir (M N : Nat) (put : List Value) (a : Nat) (x : List Value) (n : Nat) (y g : List Value) (tk : List Px) (o : Nat) : Prop where
  hx : x = put.drop a
  hg : g = put.take g.length
  hy : y = (put.take n).drop g.length
  an : a ≤ n
  nN : n ≤ a + N
  np : n ≤ put.length
  gn : g.length ≤ n
  xM : x.length ≤ M
  yM : y.length ≤ M
  pk : ∀ t ∈ tk, Pok N put a o t
section
variable {M N : Nat} {put : List Value} {a : Nat} {x : List Value} {n : Nat} {y g : List Value} {tk : List Px} {o : Nat}
theorem Dir.xl (h : Dir M N put a x n y g tk o) : a + x.length = put.length := by
  have := h.an
  have := h.np
  rw [h.hx, List.length_drop]; omega
theorem Dir.yl (h : Dir M N put a x n y g tk o) : g.length + y.length = n := by
  have := h.gn
  have := h.np
  rw [h.hy, List.length_drop, List.length_take]; omega
theorem Pok.puts {t : Px} (h : Pok N put a o t) (v : Value) : Pok N (put ++ [v]) a o t :=
  ⟨h.base, h.most, by have := h.fits; simp; omega, by
    have hf := h.fits
    rw [List.drop_append_of_le_length (by omega), List.take_append_of_le_length (by rw [List.length_drop]; omega)]
    exact h.zs, h.ack⟩
theorem Pok.on {t : Px} (h : Pok N put a o t) {a' o' : Nat} (ha : a ≤ a') (ho : o ≤ o') : Pok N put a' o' t :=
  ⟨Nat.le_trans h.base ha, h.most, h.fits, h.zs, Nat.le_trans h.ack ho⟩
theorem Dir.puts (h : Dir M N put a x n y g tk o) (v : Value) (hr : x.length < M) : Dir M N (put ++ [v]) a (x ++ [v]) n y g tk o where
  hx := by
    have := h.an
    have := h.np
    rw [List.drop_append_of_le_length (by omega), ← h.hx]
  hg := by
    have := h.gn
    have := h.np
    rw [List.take_append_of_le_length (by omega)]; exact h.hg
  hy := by
    have := h.np
    rw [List.take_append_of_le_length (by omega)]; exact h.hy
  an := h.an
  nN := h.nN
  np := by have := h.np; simp; omega
  gn := h.gn
  xM := by simp; omega
  yM := h.yM
  pk := fun t ht => (h.pk t ht).puts v
/-- The packet that is sent now. -/
theorem Dir.pok (h : Dir M N put a x n y g tk o) (iv : Value) : Pok N put a o ⟨a, iv, x.take N, o⟩ := by
  have hl := h.xl
  refine ⟨Nat.le_refl _, by simp; omega, by simp; omega, ?_, Nat.le_refl _⟩
  show x.take N = (put.drop a).take (x.take N).length
  rw [← h.hx, List.length_take]
  by_cases hc : N ≤ x.length
  · rw [Nat.min_eq_left hc]
  · rw [Nat.min_eq_right (by omega), List.take_of_length_le (by omega), List.take_length]
theorem Dir.out (h : Dir M N put a x n y g tk o) (iv : Value) : Dir M N put a x n y g (tk ++ [⟨a, iv, x.take N, o⟩]) o :=
  { h with pk := fun t ht => (List.mem_append.1 ht).elim (h.pk t) (fun e => by rw [List.mem_singleton.1 e]; exact h.pok iv) }
theorem Dir.other (h : Dir M N put a x n y g tk o) {o' : Nat} (ho : o ≤ o') : Dir M N put a x n y g tk o' :=
  { h with pk := fun t ht => (h.pk t ht).on (Nat.le_refl _) ho }
theorem Dir.less (h : Dir M N put a x n y g tk o) {tk' : List Px} (hs : ∀ t ∈ tk', t ∈ tk) : Dir M N put a x n y g tk' o :=
  { h with pk := fun t ht => h.pk t (hs t ht) }
/-- The sender hears how many have come. -/
theorem Dir.acks (h : Dir M N put a x n y g tk o) (k : Nat) (hk : k ≤ n) : Dir M N put (max a k) (x.drop (k - a)) n y g tk o where
  hx := by
    rw [h.hx, List.drop_drop]
    congr 1
    omega
  hg := h.hg
  hy := h.hy
  an := by have := h.an; omega
  nN := by have := h.nN; omega
  np := h.np
  gn := h.gn
  xM := by have := h.xM; rw [List.length_drop]; omega
  yM := h.yM
  pk := fun t ht => (h.pk t ht).on (by omega) (Nat.le_refl _)
/-- A packet comes. -/
theorem Dir.comes (h : Dir M N put a x n y g tk o) {t : Px} (ht : Pok N put a o t) (c : Nat) (hc : c = min (t.zs.length - (n - t.base)) (M - y.length)) : Dir M N put a x (n + c) (y ++ (t.zs.drop (n - t.base)).take c) g tk o := by
  have h1 := ht.base
  have h2 := ht.most
  have h3 := ht.fits
  have h4 := h.an
  have h5 := h.nN
  have h6 := h.np
  have h7 := h.gn
  have hcl : c ≤ t.zs.length - (n - t.base) := by omega
  have hcM : c ≤ M - y.length := by omega
  clear hc
  have hz : (t.zs.drop (n - t.base)).take c = (put.drop n).take c := by
    rw [ht.zs, List.drop_take, List.drop_drop, show t.base + (n - t.base) = n by omega, List.take_take]
    congr 1
    omega
  have hyl : y.length = n - g.length := by rw [h.hy, List.length_drop, List.length_take]; omega
  refine { h with hy := ?_, an := by omega, nN := ?_, np := ?_, gn := by omega, yM := ?_ }
  · rw [hz, List.take_add, List.drop_append_of_le_length (by rw [List.length_take]; omega), ← h.hy]
  · by_cases h0 : c = 0
    · omega
    · omega
  · by_cases h0 : c = 0
    · omega
    · omega
  · have := h.yM
    rw [hz, List.length_append, List.length_take]
    omega
/-- Something is taken. -/
theorem Dir.takes {v : Value} {r : List Value} (h : Dir M N put a x n (v :: r) g tk o) : Dir M N put a x n r (g ++ [v]) tk o := by
  have h6 := h.np
  have h7 := h.gn
  have hy := h.hy
  have hyl : r.length + 1 = n - g.length := by
    have := congrArg List.length hy
    rw [List.length_drop, List.length_take, List.length_cons] at this
    omega
  have hd : (put.take n).drop g.length = put[g.length]'(by omega) :: (put.take n).drop (g.length + 1) := by
    rw [List.drop_eq_getElem_cons (by rw [List.length_take]; omega)]
    congr 1
    exact List.getElem_take
  rw [hd] at hy
  simp only [List.cons.injEq] at hy
  obtain ⟨e1, e2⟩ := hy
  refine { h with hg := ?_, hy := by rw [List.length_append]; exact e2, gn := by simp; omega, yM := by have := h.yM; simp at this; omega }
  rw [List.length_append, List.length_singleton, List.take_add_one, List.getElem?_eq_getElem (by omega), ← h.hg, e1]
  rfl
end

structure Inv (M N : Nat) (p : Pl) : Prop where
  M1 : 1 ≤ M
  M12 : M ≤ 12
  N1 : 1 ≤ N
  N8 : N ≤ 8
  A : Dir M N p.pA p.aA p.xA p.nB p.yB p.gB p.tB p.nA
  B : Dir M N p.pB p.aB p.xB p.nA p.yA p.gA p.tA p.nB
  kA : ∀ x ∈ p.pA, Kd 9 x
  kB : ∀ x ∈ p.pB, Kd 3 x
def Pl.zero : Pl := ⟨0, [], 0, [], 0, [], 0, [], [], [], [], [], [], []⟩
theorem dir_zero (M N : Nat) : Dir M N [] 0 [] 0 [] [] [] 0 := ⟨rfl, rfl, rfl, by omega, by omega, by simp, by simp, by simp, by simp, by simp⟩
theorem inv_zero {M N : Nat} (h1 : 1 ≤ M) (h2 : M ≤ 12) (h3 : 1 ≤ N) (h4 : N ≤ 8) : Inv M N .zero := ⟨h1, h2, h3, h4, dir_zero M N, dir_zero M N, by simp [Pl.zero], by simp [Pl.zero]⟩
/-- How much there is of it at most. -/
structure Sz (k : Nat) (p : Pl) : Prop where
  pA : p.pA.length ≤ k
  pB : p.pB.length ≤ k
  tA : p.tA.length ≤ k
  tB : p.tB.length ≤ k
theorem Sz.mono {k k' : Nat} {p : Pl} (h : Sz k p) (hk : k ≤ k') : Sz k' p := ⟨by have := h.pA; omega, by have := h.pB; omega, by have := h.tA; omega, by have := h.tB; omega⟩

section
variable {M N : Nat} {p : Pl}
theorem Inv.yA (h : Inv M N p) : ∀ y ∈ p.yA, Kd 3 y := fun y hy => by
  rw [h.B.hy] at hy
  exact h.kB y (List.mem_of_mem_take (List.mem_of_mem_drop hy))
theorem Inv.yB (h : Inv M N p) : ∀ y ∈ p.yB, Kd 9 y := fun y hy => by
  rw [h.A.hy] at hy
  exact h.kA y (List.mem_of_mem_take (List.mem_of_mem_drop hy))
theorem Inv.xA (h : Inv M N p) : ∀ y ∈ p.xA, Kd 9 y := fun y hy => by
  rw [h.A.hx] at hy
  exact h.kA y (List.mem_of_mem_drop hy)
theorem Inv.xB (h : Inv M N p) : ∀ y ∈ p.xB, Kd 3 y := fun y hy => by
  rw [h.B.hx] at hy
  exact h.kB y (List.mem_of_mem_drop hy)
/-- Something is put. -/
theorem Inv.putA (h : Inv M N p) (v : Value) (hv : Kd 9 v) (hr : p.xA.length < M) : Inv M N { p with xA := p.xA ++ [v], pA := p.pA ++ [v] } :=
  { M1 := h.M1, M12 := h.M12, N1 := h.N1, N8 := h.N8, A := h.A.puts v hr, B := h.B, kA := fun x hx => (List.mem_append.1 hx).elim (h.kA x) (fun e => by rw [List.mem_singleton.1 e]; exact hv), kB := h.kB }
theorem Inv.putB (h : Inv M N p) (v : Value) (hv : Kd 3 v) (hr : p.xB.length < M) : Inv M N { p with xB := p.xB ++ [v], pB := p.pB ++ [v] } :=
  { M1 := h.M1, M12 := h.M12, N1 := h.N1, N8 := h.N8, A := h.A, B := h.B.puts v hr, kA := h.kA, kB := fun x hx => (List.mem_append.1 hx).elim (h.kB x) (fun e => by rw [List.mem_singleton.1 e]; exact hv) }
theorem Inv.outA (h : Inv M N p) (iv : Value) : Inv M N { p with tB := p.tB ++ [⟨p.aA, iv, p.xA.take N, p.nA⟩] } :=
  { M1 := h.M1, M12 := h.M12, N1 := h.N1, N8 := h.N8, A := h.A.out iv, B := h.B, kA := h.kA, kB := h.kB }
theorem Inv.outB (h : Inv M N p) (iv : Value) : Inv M N { p with tA := p.tA ++ [⟨p.aB, iv, p.xB.take N, p.nB⟩] } :=
  { M1 := h.M1, M12 := h.M12, N1 := h.N1, N8 := h.N8, A := h.A, B := h.B.out iv, kA := h.kA, kB := h.kB }
theorem Inv.inB (h : Inv M N p) {t : Px} (ht : Pok N p.pA p.aA p.nA t) (c : Nat) (hc : c = min (t.zs.length - (p.nB - t.base)) (M - p.yB.length)) : Inv M N { p with aB := max p.aB t.ack, xB := p.xB.drop (t.ack - p.aB), nB := p.nB + c, yB := p.yB ++ (t.zs.drop (p.nB - t.base)).take c } :=
  { M1 := h.M1, M12 := h.M12, N1 := h.N1, N8 := h.N8, A := h.A.comes ht c hc, B := (h.B.acks t.ack ht.ack).other (Nat.le_add_right _ _), kA := h.kA, kB := h.kB }
theorem Inv.inA (h : Inv M N p) {t : Px} (ht : Pok N p.pB p.aB p.nB t) (c : Nat) (hc : c = min (t.zs.length - (p.nA - t.base)) (M - p.yA.length)) : Inv M N { p with aA := max p.aA t.ack, xA := p.xA.drop (t.ack - p.aA), nA := p.nA + c, yA := p.yA ++ (t.zs.drop (p.nA - t.base)).take c } :=
  { M1 := h.M1, M12 := h.M12, N1 := h.N1, N8 := h.N8, A := (h.A.acks t.ack ht.ack).other (Nat.le_add_right _ _), B := h.B.comes ht c hc, kA := h.kA, kB := h.kB }
theorem Inv.takeA (h : Inv M N p) {v : Value} {r : List Value} (hy : p.yA = v :: r) : Inv M N { p with yA := r, gA := p.gA ++ [v] } :=
  { M1 := h.M1, M12 := h.M12, N1 := h.N1, N8 := h.N8, A := h.A, B := by have := h.B; rw [hy] at this; exact this.takes, kA := h.kA, kB := h.kB }
theorem Inv.takeB (h : Inv M N p) {v : Value} {r : List Value} (hy : p.yB = v :: r) : Inv M N { p with yB := r, gB := p.gB ++ [v] } :=
  { M1 := h.M1, M12 := h.M12, N1 := h.N1, N8 := h.N8, A := by have := h.A; rw [hy] at this; exact this.takes, B := h.B, kA := h.kA, kB := h.kB }
theorem Inv.dropB (h : Inv M N p) {x : Px} {r : List Px} (hx : p.tB = x :: r) : Inv M N { p with tB := r } :=
  { M1 := h.M1, M12 := h.M12, N1 := h.N1, N8 := h.N8, A := h.A.less (fun t ht => by rw [hx]; exact List.mem_cons_of_mem _ ht), B := h.B, kA := h.kA, kB := h.kB }
/-- What In asks of a packet. -/
theorem Inv.okB (h : Inv M N p) {t : Px} (ht : Pok N p.pA p.aA p.nA t) : t.base ≤ p.nB ∧ t.ack ≤ p.aB + min N p.xB.length := by
  have := ht.base
  have := ht.ack
  have := h.A.an
  have := h.B.nN
  have := h.B.np
  have := h.B.xl
  omega
theorem Inv.okA (h : Inv M N p) {t : Px} (ht : Pok N p.pB p.aB p.nB t) : t.base ≤ p.nA ∧ t.ack ≤ p.aA + min N p.xA.length := by
  have := ht.base
  have := ht.ack
  have := h.B.an
  have := h.A.nN
  have := h.A.np
  have := h.A.xl
  omega
theorem Inv.small (h : Inv M N p) {k : Nat} (hs : Sz k p) : p.nA ≤ k ∧ p.nB ≤ k ∧ p.aA ≤ k ∧ p.aB ≤ k ∧ p.gA.length ≤ k ∧ p.gB.length ≤ k := by
  have := h.A.an
  have := h.B.an
  have := h.A.np
  have := h.B.np
  have := h.A.gn
  have := h.B.gn
  have := hs.pA
  have := hs.pB
  omega
end
end Go.Proofs.Ythobbnmdpkginaa
