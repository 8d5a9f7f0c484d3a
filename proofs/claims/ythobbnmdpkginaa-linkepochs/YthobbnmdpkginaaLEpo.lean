/-
  Two ends beside another end; what happens to them, step by step.
-/
import Derived.Test.YthobbnmdpkginaaLIns
import Derived.Test.YthobbnmdpkginaaLInEA
namespace Go.Proofs.Ythobbnmdpkginaa
open Go.RowKit
set_option linter.unusedVariables false
set_option linter.unusedSimpArgs false

section
variable {w0 w w' : World} {Z Z' : Nat → Prop} {q ka kb M N : Nat} {p p' : Pl}
/-- Blocks that are none of theirs turn, while no packet is under way. -/
theorem Ws.aliens {G : Nat → Prop} (h : Ws w0 w Z q ka kb M N p) (hA : p.tA = []) (hB : p.tB = []) (t : Turned G w w') (hG : ∀ b, G b → Z b) (hlo : ∀ b, G b → w0.heap.size ≤ b) (hZ' : ∀ b, Z' b → Z b ∨ (w.heap.size ≤ b ∧ b < w'.heap.size)) : Ws w0 w' Z' q ka kb M N p := by
  obtain ⟨col, d, h1, e1, e2, ow, hZ⟩ := h
  have hne : ∀ b, b < w.heap.size → col b ≠ 0 → w'.heap[b]? = w.heap[b]? := fun b hb hc => t.block b hb (fun hg => hc (hZ b (hG b hg)).1)
  refine ⟨rc col w 0, d, ?_, e1, e2, ⟨ow.turned.trans t (fun i hi => .inr (hlo i hi)), fun b hb => ?_⟩, fun b hb => ?_⟩
  · refine ⟨fun x => ?_, fun x => ?_, fun x => ?_, fun x => ?_, fun x => ?_, fun x => ?_, fun x => ?_, fun x => ?_, fun x => ?_⟩
    · obtain ⟨k, e⟩ := h1.q9 x
      exact ⟨k.frame (hne q k.lt (by rw [e]; decide)), by rw [rc_old k.lt]; exact e⟩
    · obtain ⟨k, e⟩ := h1.la x
      exact ⟨k.frame (fun b hb => hne b (k.lt b hb) (by rw [e b hb]; decide)), fun b hb => by rw [rc_old (k.lt b hb)]; exact e b hb⟩
    · obtain ⟨k, e⟩ := h1.lb x
      exact ⟨k.frame (fun b hb => hne b (k.lt b hb) (by rw [e b hb]; decide)), fun b hb => by rw [rc_old (k.lt b hb)]; exact e b hb⟩
    · obtain ⟨k, e⟩ := h1.r2 x
      exact ⟨k.frame (fun b hb => hne b (k.lt b hb) (by rw [e b hb]; decide)), fun b hb => by rw [rc_old (k.lt b hb)]; exact e b hb⟩
    · obtain ⟨k, e⟩ := h1.r3 x
      exact ⟨k.frame (fun b hb => hne b (k.lt b hb) (by rw [e b hb]; decide)), fun b hb => by rw [rc_old (k.lt b hb)]; exact e b hb⟩
    · obtain ⟨k, e⟩ := h1.r4 x
      exact ⟨k.frame (fun b hb => hne b (k.lt b hb) (by rw [e b hb]; decide)), fun b hb => by rw [rc_old (k.lt b hb)]; exact e b hb⟩
    · obtain ⟨k, e⟩ := h1.r5 x
      exact ⟨k.frame (fun b hb => hne b (k.lt b hb) (by rw [e b hb]; decide)), fun b hb => by rw [rc_old (k.lt b hb)]; exact e b hb⟩
    · obtain ⟨k, e⟩ := h1.r6 x
      exact ⟨⟨k.1.frame (fun b hb => hne b (k.1.lt b hb) (by rw [e b hb]; decide)), fun y hy => by rw [hA] at hy; cases hy⟩, fun b hb => by rw [rc_old (k.1.lt b hb)]; exact e b hb⟩
    · obtain ⟨k, e⟩ := h1.r7 x
      exact ⟨⟨k.1.frame (fun b hb => hne b (k.1.lt b hb) (by rw [e b hb]; decide)), fun y hy => by rw [hB] at hy; cases hy⟩, fun b hb => by rw [rc_old (k.1.lt b hb)]; exact e b hb⟩
  · by_cases hlt : b < w.heap.size
    · rw [rc_old hlt] at hb
      exact ow.foot b hb
    · have := ow.turned.size
      omega
  · rcases hZ' b hb with h' | h'
    · exact ⟨by rw [rc_old (hZ b h').2]; exact (hZ b h').1, Nat.lt_of_lt_of_le (hZ b h').2 t.size⟩
    · exact ⟨if_neg (by omega), h'.2⟩
/-- The other end stays while these go on. -/
theorem Lnk.kep {es er : TypeId} {F : Nat → Prop} {k vn : Nat} {vp : Int} {M' N' ack next : Nat} {xs ys : List Value} (h : Lnk w es er F k vn vp M' N' ack xs next ys) (hk : Kep F w w') : Lnk w' es er F k vn vp M' N' ack xs next ys := h.frame hk.2

/-- Nothing has been sent yet: what was put waits. -/
def Pa (ys : List Value) : Pl := { Pl.zero with xA := ys, pA := ys }
theorem ws_put0 {ys : List Value} (h : Ws w0 w Z q ka kb M N (Pa ys)) (inv : Inv M N (Pa ys)) (hl : ys.length ≤ 900) (s : ByteArray) :
    Calls Try.prog 12 #[.pointer (some ⟨q, 0, none⟩), .agg #[.int .u8 0, .string s, .int .i64 0]] w fun e w' => e = .returned (.tuple #[]) ∧ ∃ ka' kb' ys', Ws w0 w' Z q ka' kb' M N (Pa ys') ∧ Kep Z w w' ∧ Inv M N (Pa ys') ∧ ys' ≠ [] := by
  obtain ⟨col, d, h1, e1, e2, o, hZ⟩ := h
  by_cases hr : ys.length < M
  · refine (act0_any h1 0 s 0 (by omega) (by omega) (by show ys.length ≤ 1000; omega) hr).mono ?_
    rintro e w' ⟨rfl, n1⟩
    obtain ⟨ka', kb', h2, k2⟩ := nx_ws h1 o hZ n1
    exact ⟨rfl, ka', kb', ys ++ [.string s], h2, k2, inv.putA _ (kd9 s) hr, by simp⟩
  · have hxM : ys.length ≤ M := inv.A.xM
    refine (act0_busy h1 0 s 0 (by omega) (by omega) (by show ys.length = M; omega)).mono ?_
    rintro e w' ⟨rfl, n1⟩
    obtain ⟨ka', kb', h2, k2⟩ := nx_ws h1 o hZ n1
    exact ⟨rfl, ka', kb', ys, h2, k2, inv, by
      have := inv.M1
      intro e
      rw [e] at hr
      simp at hr
      omega⟩
/-- A packet is under way. -/
structure E2 (N : Nat) (ys : List Value) (p : Pl) : Prop where
  pA : p.pA = ys
  pB : p.pB = []
  gB : p.gB = []
  yB : p.yB = []
  nB : p.nB = 0
  tB : ∃ x, p.tB = [x] ∧ x.base = 0 ∧ x.zs = ys.take N
structure E4 (ys : List Value) (p : Pl) : Prop where
  pA : p.pA = ys
  pB : p.pB = []
  gB : p.gB = []
  yB : ys = [] ↔ p.yB = []
structure E7 (ys : List Value) (p : Pl) : Prop where
  pA : p.pA = ys
  pB : p.pB = []
  gB : ys = [] ↔ p.gB = []
theorem ep2 {ys : List Value} (h : Ws w0 w Z q ka kb M N (Pa ys)) (inv : Inv M N (Pa ys)) :
    Calls Try.prog 12 #[.pointer (some ⟨q, 0, none⟩), .agg #[.int .u8 2, .string ⟨#[]⟩, .int .i64 0]] w fun e w' => e = .returned (.tuple #[]) ∧ ∃ ka' kb' p', Ws w0 w' Z q ka' kb' M N p' ∧ Inv M N p' ∧ E2 N ys p' := by
  obtain ⟨col, d, h1, e1, e2, o, hZ⟩ := h
  refine (act2_any h1 2 ⟨#[]⟩ 0 (by omega) (by omega) (by show (0 : Nat) ≤ 1000; omega) inv.xA).mono ?_
  rintro e w' ⟨rfl, iv, n1⟩
  obtain ⟨ka', kb', h2, k2⟩ := nx_ws h1 o hZ n1
  exact ⟨rfl, ka', kb', _, h2, inv.outA iv, ⟨rfl, rfl, rfl, rfl, rfl, ⟨_, rfl, rfl, rfl⟩⟩⟩
theorem ep4 {ys : List Value} (h : Ws w0 w Z q ka kb M N p) (inv : Inv M N p) (e2 : E2 N ys p) (hl : ys.length ≤ 900) :
    Calls Try.prog 12 #[.pointer (some ⟨q, 0, none⟩), .agg #[.int .u8 4, .string ⟨#[]⟩, .int .i64 0]] w fun e w' => e = .returned (.tuple #[]) ∧ ∃ ka' kb' p', Ws w0 w' Z q ka' kb' M N p' ∧ Inv M N p' ∧ E4 ys p' := by
  obtain ⟨col, d, h1, e1, e2', o, hZ⟩ := h
  obtain ⟨x, hx, hb, hz⟩ := e2.tB
  have ok := inv.A.pk x (by rw [hx]; simp)
  have ob := inv.okB ok
  have hak : x.ack ≤ 0 := by
    have h1 := ok.ack
    have h2 := inv.B.np
    rw [e2.pB] at h2
    simp at h2
    omega
  obtain ⟨c, hc⟩ : ∃ c, c = min (x.zs.length - (p.nB - x.base)) (M - p.yB.length) := ⟨_, rfl⟩
  refine (act4_any h1 4 ⟨#[]⟩ 0 (by omega) (by omega) (by rw [hx]; simp) 0 ⟨0, by rw [IntKind.wrap_u64]; rfl, by rw [hx]; simp⟩ x (by rw [hx]; simp) ob.1 (by rw [e2.nB]; omega) ob.2 (by omega) c hc).mono ?_
  rintro e w' ⟨rfl, n1⟩
  obtain ⟨ka', kb', h2, k2⟩ := nx_ws h1 o hZ n1
  refine ⟨rfl, ka', kb', _, h2, inv.inB ok c hc, ⟨e2.pA, e2.pB, e2.gB, ?_⟩⟩
  have hM := inv.M1
  have hN := inv.N1
  show ys = [] ↔ p.yB ++ (x.zs.drop (p.nB - x.base)).take c = []
  rw [e2.yB, e2.nB, hb] at hc ⊢
  simp only [Nat.sub_zero, Nat.zero_sub, List.drop_zero, List.nil_append, List.length_nil, hz, List.length_take] at hc ⊢
  constructor
  · intro h0
    rw [h0]
    simp
  · intro h0
    have hl := congrArg List.length h0
    simp only [List.length_take, List.length_nil] at hl
    exact List.length_eq_zero_iff.1 (by omega)
theorem ep7 {ys : List Value} (h : Ws w0 w Z q ka kb M N p) (inv : Inv M N p) (e4 : E4 ys p) :
    Calls Try.prog 12 #[.pointer (some ⟨q, 0, none⟩), .agg #[.int .u8 7, .string ⟨#[]⟩, .int .i64 0]] w fun e w' => e = .returned (.tuple #[]) ∧ ∃ ka' kb' p', Ws w0 w' Z q ka' kb' M N p' ∧ Inv M N p' ∧ E7 ys p' := by
  obtain ⟨col, d, h1, e1, e2', o, hZ⟩ := h
  cases hy : p.yB with
  | nil =>
    refine (act7_none h1 7 ⟨#[]⟩ 0 (by omega) (by omega) hy).mono ?_
    rintro e w' ⟨rfl, n1⟩
    obtain ⟨ka', kb', h2, k2⟩ := nx_ws h1 o hZ n1
    exact ⟨rfl, ka', kb', p, h2, inv, ⟨e4.pA, e4.pB, by rw [e4.gB]; exact ⟨fun _ => rfl, fun _ => e4.yB.2 hy⟩⟩⟩
  | cons y r =>
    refine (act7_any h1 7 ⟨#[]⟩ 0 (by omega) (by omega) (by rw [e4.gB]; simp) y r hy (inv.yB y (by rw [hy]; simp))).mono ?_
    rintro e w' ⟨rfl, n1⟩
    obtain ⟨ka', kb', h2, k2⟩ := nx_ws h1 o hZ n1
    refine ⟨rfl, ka', kb', _, h2, inv.takeB hy, ⟨e4.pA, e4.pB, ?_⟩⟩
    show ys = [] ↔ p.gB ++ [y] = []
    constructor
    · intro h0
      have := e4.yB.1 h0
      rw [hy] at this
      cases this
    · intro h0
      simp at h0
end
end Go.Proofs.Ythobbnmdpkginaa
