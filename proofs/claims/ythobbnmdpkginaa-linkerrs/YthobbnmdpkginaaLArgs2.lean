/-
  A view's number and a packet as they are handed in.
-/
import Derived.Test.YthobbnmdpkginaaLArgs
import Derived.Lib.SmallJoins
namespace Go.Proofs.Ythobbnmdpkginaa
open Go.ChangeShapes Go.WideShapes Go.ChangeAt Go.RowKit Go.Deep Go.Joins
set_option linter.unusedVariables false
set_option linter.unusedSimpArgs false
set_option maxRecDepth 100000
theorem bytes9 : Try.prog.bytesOf 9 = 16 := by kernel_rfl
theorem size_texts {H : Type} {enc : TypeId × Value → H} {W : World} {a : Option Addr} {len cap : Nat} {d : DataW H} {p : List MemPlace} {ts : List TypeId} {ds : List (DataW H)} {j : Nat}
    (h : DataW.Trod enc Try.prog W 0 (fun _ => true) true 32 (.slice a len cap) d p) (hsz : (DataW.weightsEach Try.prog ts ds).all (· ≤ reachBytes) = true) (ht : ts[j]? = some 32) (hd : ds[j]? = some d) : len ≤ 140737488355328 := by
  obtain ⟨fuel, hf⟩ := h
  rcases open_slice Try.underlying32 hf with ⟨hcs, _⟩ | ⟨x, l, c, mm, n, D, Pl, hcs, hb, hl, hm, hmm, hx, _⟩
  · simp [Value.cells] at hcs
    obtain ⟨rfl, rfl, rfl⟩ := hcs
    omega
  · simp [Value.cells] at hcs
    obtain ⟨rfl, rfl, rfl⟩ := hcs
    simp only [Prod.mk.injEq] at hx
    obtain ⟨rfl, _⟩ := hx
    have := sized_slice hsz ht hd Try.underlying32
    rw [bytes9] at this
    simp only [List.length_map, List.length_range, reachBytes] at this
    omega

theorem shut_vid {H : Type} {enc : TypeId × Value → H} {W : World} {base : Nat} {spare : Nat → Bool} {held : Bool} {n q : Int} (wa : (Lit.int .u64 n).wf = true) (wb : (Lit.int .i64 q).wf = true) :
    DataW.Trod enc Try.prog W base spare held 43 (.agg #[.int .u64 n, .int .i64 q]) (.agg [.lit (.int .u64 n), .lit (.int .i64 q)]) ([] ++ []) :=
  shut_agg2 (y0 := (.lit (.int .u64 n), [])) (y1 := (.lit (.int .i64 q), [])) Try.underlying43 (by kernel_rfl) cells43 ⟨1, by simp [DataW.trod, Try.underlying41, wa]⟩ ⟨1, by simp [DataW.trod, Try.underlying3, wb]⟩
theorem vid43 : ∃ f0 f1 : Field, Try.prog.underlying 43 = some (.struct #[f0, f1]) ∧ f0.offset = 0 ∧ f1.offset = 1 ∧ f0.type = 41 ∧ f1.type = 3 := ⟨_, _, Try.underlying43, rfl, rfl, rfl, rfl⟩
theorem pkt45 : ∃ f0 f1 f2 f3 : Field, Try.prog.underlying 45 = some (.struct #[f0, f1, f2, f3]) ∧ f0.offset = 0 ∧ f1.offset = 2 ∧ f2.offset = 3 ∧ f3.offset = 4 ∧ f0.type = 43 ∧ f1.type = 41 ∧ f2.type = 32 ∧ f3.type = 41 := ⟨_, _, _, _, Try.underlying45, rfl, rfl, rfl, rfl, rfl, rfl, rfl, rfl⟩
theorem trod_pkt {H : Type} {enc : TypeId × Value → H} {W : World} {held : Bool} {fuel : Nat} {cs : List Value} {y : DataW H × List MemPlace} (h : DataW.trod enc Try.prog W 0 (fun _ => true) held fuel 45 cs = some y) :
    ∃ (vn : Nat) (vp : Int) (base : Nat) (ao : Option Addr) (n cap ack : Nat) (zs : List Value), cs = [.int .u64 (vn : Nat), .int .i64 vp, .int .u64 (base : Nat), .slice ao n cap, .int .u64 (ack : Nat)] ∧ Tx W 9 (.slice ao n cap) zs ∧ base < 18446744073709551616 ∧ ack < 18446744073709551616 := by
  obtain ⟨f0, f1, f2, f3, he, p0, p1, p2, p3, t0, t1, t2, t3⟩ := pkt45
  obtain ⟨g0, g1, hg43, q0, q1, u0, u1⟩ := vid43
  obtain ⟨xs, k, hk, hxy, hcl, hxl, hg⟩ := DataW.trod_struct he h
  rw [cells45] at hcl
  subst hxy
  match xs, hxl, cs, hcl with
  | [y0, y1, y2, y3], _, [v0, v1, v2, v3, v4], _ =>
    have a0 := hg 0 f0 rfl
    have a1 := hg 1 f1 rfl
    have a2 := hg 2 f2 rfl
    have a3 := hg 3 f3 rfl
    simp [p0, p1, p2, p3, t0, t1, t2, t3, cells43, cells41, cells32] at a0 a1 a2 a3
    obtain ⟨xs', k', hk', hxy', hcl', hxl', hg'⟩ := DataW.trod_struct hg43 a0
    match xs', hxl' with
    | [z0, z1], _ =>
      have b0 := hg' 0 g0 rfl
      have b1 := hg' 1 g1 rfl
      simp [q0, q1, u0, u1, cells41, cells3] at b0 b1
      obtain ⟨n0, c0, _, w0⟩ := DataW.trod_int Try.underlying41 b0
      obtain ⟨n1, c1, _, w1⟩ := DataW.trod_int Try.underlying3 b1
      obtain ⟨n2, c2, _, w2⟩ := DataW.trod_int Try.underlying41 a1
      obtain ⟨ao, n, cap, zs, hcs, hrw⟩ := trod_texts a2
      obtain ⟨n4, c4, _, w4⟩ := DataW.trod_int Try.underlying41 a3
      simp at c0 c1 c2 c4 hcs
      obtain ⟨m0, e0, hm0⟩ := u64_of_wf w0
      obtain ⟨m2, e2, hm2⟩ := u64_of_wf w2
      obtain ⟨m4, e4, hm4⟩ := u64_of_wf w4
      subst c0 c1 c2 c4 hcs e0 e2 e4
      exact ⟨m0, n1, m2, ao, n, cap, m4, zs, rfl, hrw, hm2, hm4⟩
theorem open_pkt {H : Type} {enc : TypeId × Value → H} {W : World} {base : Nat} {v : Value} {d : DataW H} {p : List MemPlace} (hv : Value.okWide Try.prog W .any base 45 v) (h : DataW.Trod enc Try.prog W 0 (fun _ => true) true 45 v d p) :
    ∃ (vn : Nat) (vp : Int) (base : Nat) (ao : Option Addr) (n cap ack : Nat) (zs : List Value), v = .agg #[.int .u64 (vn : Nat), .int .i64 vp, .int .u64 (base : Nat), .slice ao n cap, .int .u64 (ack : Nat)] ∧ Tx W 9 (.slice ao n cap) zs ∧ base < 18446744073709551616 ∧ ack < 18446744073709551616 := by
  obtain ⟨f0, f1, f2, f3, he, _⟩ := pkt45
  obtain ⟨cs, rfl, hs⟩ := okWide_struct he hv
  obtain ⟨fuel, hf'⟩ := h
  obtain ⟨vn, vp, b, ao, n, cap, ack, zs, hc, h1, h2, h3⟩ := trod_pkt hf'
  refine ⟨vn, vp, b, ao, n, cap, ack, zs, ?_, h1, h2, h3⟩
  have e : cs.toList = [.int .u64 (vn : Nat), .int .i64 vp, .int .u64 (b : Nat), .slice ao n cap, .int .u64 (ack : Nat)] := by simpa [Value.cells] using hc
  rw [show cs = #[.int .u64 (vn : Nat), .int .i64 vp, .int .u64 (b : Nat), .slice ao n cap, .int .u64 (ack : Nat)] from Array.toList_inj.1 e]
end Go.Proofs.Ythobbnmdpkginaa
