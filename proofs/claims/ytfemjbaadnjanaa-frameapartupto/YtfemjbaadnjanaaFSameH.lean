/-
  The document's Same, of any two frames.
-/
import Derived.Test.YtfemjbaadnjanaaFSameG
namespace Go.Proofs.Ytfemjbaadnjanaa
open Go.RowKit
set_option linter.unusedVariables false
set_option linter.unusedSimpArgs false

theorem int_ne (a b : Int) : ∃ c : Bool, (a != b) = c ∧ (c = false → a = b) := ⟨_, rfl, fun h => by simpa using h⟩
theorem vid_ne (n1 : Nat) (p1 : Int) (n2 : Nat) (p2 : Int) : ∃ c : Bool, (∀ W : World, Sem.run Try.prog (Op.equalIn 10000 24 (.agg #[.int .u64 (n1 : Nat), .int .i64 p1]) (.agg #[.int .u64 (n2 : Nat), .int .i64 p2])) W = .ok c W) ∧ (c = true → n1 = n2 ∧ p1 = p2) :=
  ⟨_, fun W => vid_equal n1 p1 n2 p2 W, fun h => by simpa using h⟩

set_option maxRecDepth 20000 in
set_option maxHeartbeats 8000000 in
theorem sameF_head (w : World) (F G : PF) (a b : Fa)
    (hne : ¬ (F.kind = G.kind ∧ F.frm = G.frm ∧ (F.idN = G.idN ∧ F.idP = G.idP) ∧ F.set = G.set ∧ (F.curN = G.curN ∧ F.curP = G.curP) ∧ (F.promN = G.promN ∧ F.promP = G.promP) ∧ F.base = G.base ∧ F.ack = G.ack ∧ F.safe = G.safe ∧ F.ms.length = G.ms.length)) :
    Calls Try.prog 16 #[fval F a, fval G b] w fun e w' => e = .returned (.bool false) ∧ Up w w' := by
  obtain ⟨w0, hw0, hu0, hb0⟩ := boxed w F a
  obtain ⟨w1, hw1, hu1, hb1⟩ := boxed w0 G b
  have hs0 : w0.heap.size = w.heap.size + 1 := by rw [← hw0]; simp
  rw [hs0] at hb1
  have hu01 := hu0.trans hu1
  obtain ⟨d0, d1, d2, d3, d4, d5, d6, d7, d8, d9, d10, d11, d12, d13, d14⟩ := hb0.up hu1.bl
  obtain ⟨e0, e1, e2, e3, e4, e5, e6, e7, e8, e9, e10, e11, e12, e13, e14⟩ := hb1
  obtain ⟨c0, q0, r0⟩ := int_ne F.kind G.kind
  obtain ⟨c1, q1, r1⟩ := int_ne F.frm G.frm
  obtain ⟨c2, q2, r2⟩ := vid_ne F.idN F.idP G.idN G.idP
  obtain ⟨c3, q3, r3⟩ := int_ne F.set G.set
  obtain ⟨c4, q4, r4⟩ := vid_ne F.curN F.curP G.curN G.curP
  obtain ⟨c5, q5, r5⟩ := vid_ne F.promN F.promP G.promN G.promP
  obtain ⟨c6, q6, r6⟩ := int_ne F.base G.base
  obtain ⟨c7, q7, r7⟩ := int_ne F.ack G.ack
  obtain ⟨c8, q8, r8⟩ := int_ne F.safe G.safe
  obtain ⟨c9, q9, r9⟩ := int_ne F.ms.length G.ms.length
  have HN : Hid (c0 = false → c1 = false → c2 = true → c3 = false → c4 = true → c5 = true → c6 = false → c7 = false → c8 = false → c9 = false → False) := by
    intro g0 g1 g2 g3 g4 g5 g6 g7 g8 g9
    have := r0 g0
    have := r3 g3
    have := r6 g6
    have := r7 g7
    have := r8 g8
    have := r9 g9
    exact hne ⟨by omega, r1 g1, r2 g2, by omega, r4 g4, r5 g5, by omega, by omega, by omega, by omega⟩
  clear r0 r1 r2 r3 r4 r5 r6 r7 r8 r9 hne hb0
  unfold fval fcells at *
  go_enter Try.func16, Try.ntmps16
  go_wp2
  all_goals first | (go_ret; first | exact ⟨rfl, hu01⟩ | (simp only [hw0, hw1]; exact ⟨rfl, hu01⟩)) | exact (HN.out (by first | assumption | exact Bool.eq_false_iff.2 (by assumption)) (by first | assumption | exact Bool.eq_false_iff.2 (by assumption)) (by first | assumption | exact Bool.eq_false_iff.2 (by assumption)) (by first | assumption | exact Bool.eq_false_iff.2 (by assumption)) (by first | assumption | exact Bool.eq_false_iff.2 (by assumption)) (by first | assumption | exact Bool.eq_false_iff.2 (by assumption)) (by first | assumption | exact Bool.eq_false_iff.2 (by assumption)) (by first | assumption | exact Bool.eq_false_iff.2 (by assumption)) (by first | assumption | exact Bool.eq_false_iff.2 (by assumption)) (by first | assumption | exact Bool.eq_false_iff.2 (by assumption))).elim

theorem alt_eq (F G : PF) (h : F.kind = G.kind ∧ F.frm = G.frm ∧ (F.idN = G.idN ∧ F.idP = G.idP) ∧ F.set = G.set ∧ (F.curN = G.curN ∧ F.curP = G.curP) ∧ (F.promN = G.promN ∧ F.promP = G.promP) ∧ F.base = G.base ∧ F.ack = G.ack ∧ F.safe = G.safe ∧ F.ms.length = G.ms.length) : G = alt F G.st G.ms G.it := by
  obtain ⟨h0, h1, ⟨h2, h3⟩, h4, ⟨h5, h6⟩, ⟨h7, h8⟩, h9, h10, h11, _⟩ := h
  cases F
  cases G
  simp only [alt] at *
  subst h0 h1 h2 h3 h4 h5 h6 h7 h8 h9 h10 h11
  rfl
theorem eqB_alt (F : PF) (S : List Sd) (M : List (List UInt8)) (I : List Di) : eqB F (alt F S M I) = (eqB F.ms M && (eqB F.st S && decide (F.it = I))) := by
  by_cases h1 : F.ms = M
  · by_cases h2 : F.st = S
    · by_cases h3 : F.it = I
      · rw [eqB_true h1, eqB_true h2, decide_eq_true h3, eqB_true (by rw [← h1, ← h2, ← h3]; rfl)]
        rfl
      · rw [decide_eq_false h3, eqB_false (fun e => h3 (by have := congrArg PF.it e; exact this))]
        simp
    · rw [eqB_false h2, eqB_false (fun e => h2 (by have := congrArg PF.st e; exact this))]
      simp
  · rw [eqB_false h1, eqB_false (fun e => h1 (by have := congrArg PF.ms e; exact this))]
    simp
theorem sameF_any (p q : Nat → Prop) (w : World) (F G : PF) (a b : Fa) (h : FIn p w F a) (h' : FIn q w G b) :
    Calls Try.prog 16 #[fval F a, fval G b] w fun e w' => e = .returned (.bool (eqB F G)) ∧ Up w w' := by
  by_cases hh : F.kind = G.kind ∧ F.frm = G.frm ∧ (F.idN = G.idN ∧ F.idP = G.idP) ∧ F.set = G.set ∧ (F.curN = G.curN ∧ F.curP = G.curP) ∧ (F.promN = G.promN ∧ F.promP = G.promP) ∧ F.base = G.base ∧ F.ack = G.ack ∧ F.safe = G.safe ∧ F.ms.length = G.ms.length
  · have hG := alt_eq F G hh
    have hM : G.ms.length = F.ms.length := hh.2.2.2.2.2.2.2.2.2.symm
    generalize G.st = S at hG
    generalize hgm : G.ms = M at hG hM
    generalize G.it = I at hG
    subst hG
    rw [eqB_alt]
    exact sameF_lists p q w F S M I hM a b h h'
  · rw [eqB_false (fun e => hh (by subst e; exact ⟨rfl, rfl, ⟨rfl, rfl⟩, rfl, ⟨rfl, rfl⟩, ⟨rfl, rfl⟩, rfl, rfl, rfl, rfl⟩))]
    exact sameF_head w F G a b hh
end Go.Proofs.Ytfemjbaadnjanaa
