/-
  A frame as it is handed in.
-/
import Derived.Test.YtfemjbaadnjanaaFArgs
namespace Go.Proofs.Ytfemjbaadnjanaa
open Go.ChangeShapes Go.WideShapes Go.ChangeAt Go.RowKit Go.Deep
set_option linter.unusedVariables false
set_option linter.unusedSimpArgs false

theorem frame30 : ∃ f0 f1 f2 f3 f4 f5 f6 f7 f8 f9 f10 f11 : Field, Try.prog.underlying 30 = some (.struct #[f0, f1, f2, f3, f4, f5, f6, f7, f8, f9, f10, f11]) ∧
    (f0.offset = 0 ∧ f1.offset = 1 ∧ f2.offset = 2 ∧ f3.offset = 4 ∧ f4.offset = 5 ∧ f5.offset = 7 ∧ f6.offset = 9 ∧ f7.offset = 10 ∧ f8.offset = 11 ∧ f9.offset = 12 ∧ f10.offset = 13 ∧ f11.offset = 14) ∧
    (f0.type = 5 ∧ f1.type = 3 ∧ f2.type = 24 ∧ f3.type = 25 ∧ f4.type = 24 ∧ f5.type = 24 ∧ f6.type = 26 ∧ f7.type = 22 ∧ f8.type = 27 ∧ f9.type = 28 ∧ f10.type = 22 ∧ f11.type = 22) :=
  ⟨_, _, _, _, _, _, _, _, _, _, _, _, Try.underlying30, ⟨rfl, rfl, rfl, rfl, rfl, rfl, rfl, rfl, rfl, rfl, rfl, rfl⟩, ⟨rfl, rfl, rfl, rfl, rfl, rfl, rfl, rfl, rfl, rfl, rfl, rfl⟩⟩
/-- A view's number that was handed in. -/
theorem trod_vid {H : Type} {enc : TypeId × Value → H} {W : World} {held : Bool} {fuel : Nat} {v0 v1 : Value} {y : DataW H × List MemPlace} (h : DataW.trod enc Try.prog W 0 (fun _ => true) held fuel 24 [v0, v1] = some y) : ∃ (n : Nat) (p : Int), v0 = .int .u64 (n : Nat) ∧ v1 = .int .i64 p ∧ n < 18446744073709551616 ∧ In64 p := by
  obtain ⟨g0, g1, he', q0, q1, u0, u1⟩ := vid24
  obtain ⟨ys, k', hk', hyy, _, hyl, hg'⟩ := DataW.trod_struct he' h
  match ys, hyl with
  | [z0, z1], _ =>
    have c0 := hg' 0 g0 rfl
    have c1 := hg' 1 g1 rfl
    simp [q0, q1, u0, u1, cells22, cells3] at c0 c1
    obtain ⟨n0, e0, _, w0⟩ := DataW.trod_int Try.underlying22 c0
    obtain ⟨n1, e1, _, w1⟩ := DataW.trod_int Try.underlying3 c1
    simp at e0 e1
    subst e0 e1
    obtain ⟨m0, rfl, hm0⟩ := u64_of_wf w0
    exact ⟨m0, n1, rfl, rfl, hm0, in_of_wf w1⟩

set_option maxRecDepth 10000 in
set_option maxHeartbeats 1000000 in
/-- A frame that was handed in. -/
theorem trod_frame {H : Type} {enc : TypeId × Value → H} {W : World} {held : Bool} {fuel : Nat} {cs : List Value} {y : DataW H × List MemPlace} (h : DataW.trod enc Try.prog W 0 (fun _ => true) held fuel 30 cs = some y) (hf : Rows.uptoBulk y.1 ≤ 1048576) :
    ∃ (F : PF) (a : Fa), cs = (fcells F a).toList ∧ FIn (fun _ => True) W F a ∧ POk F ∧ tot F ≤ Rows.uptoBulk y.1 := by
  obtain ⟨f0, f1, f2, f3, f4, f5, f6, f7, f8, f9, f10, f11, he, ⟨p0, p1, p2, p3, p4, p5, p6, p7, p8, p9, p10, p11⟩, t0, t1, t2, t3, t4, t5, t6, t7, t8, t9, t10, t11⟩ := frame30
  obtain ⟨xs, k, hk, hxy, hcl, hxl, hg⟩ := DataW.trod_struct he h
  rw [cells30] at hcl
  subst hxy
  match xs, hxl, cs, hcl with
  | [y0, y1, y2, y3, y4, y5, y6, y7, y8, y9, y10, y11], _, [v0, v1, v2, v3, v4, v5, v6, v7, v8, v9, v10, v11, v12, v13, v14], _ =>
    have a0 := hg 0 f0 rfl
    have a1 := hg 1 f1 rfl
    have a2 := hg 2 f2 rfl
    have a3 := hg 3 f3 rfl
    have a4 := hg 4 f4 rfl
    have a5 := hg 5 f5 rfl
    have a6 := hg 6 f6 rfl
    have a7 := hg 7 f7 rfl
    have a8 := hg 8 f8 rfl
    have a9 := hg 9 f9 rfl
    have a10 := hg 10 f10 rfl
    have a11 := hg 11 f11 rfl
    clear hg
    simp [p0, t0, cells5] at a0
    simp [p1, t1, cells3] at a1
    simp [p2, t2, cells28] at a2
    simp [p3, t3, cells25] at a3
    simp [p4, t4, cells28] at a4
    simp [p5, t5, cells28] at a5
    simp [p6, t6, cells26] at a6
    simp [p7, t7, cells22] at a7
    simp [p8, t8, cells27] at a8
    simp [p9, t9, cells28'] at a9
    simp [p10, t10, cells22] at a10
    simp [p11, t11, cells22] at a11
    have hall : Rows.uptoBulk y6.1 + Rows.uptoBulk y8.1 + Rows.uptoBulk y9.1 ≤ Rows.uptoBulk (DataW.agg ([y0, y1, y2, y3, y4, y5, y6, y7, y8, y9, y10, y11].map (·.1))) := by
      simp only [Rows.uptoBulk, List.map_cons, List.map_nil, Rows.uptoBulkAll]; omega
    have hf' : Rows.uptoBulk (DataW.agg ([y0, y1, y2, y3, y4, y5, y6, y7, y8, y9, y10, y11].map (·.1))) ≤ 1048576 := hf
    obtain ⟨k0, e0, _, w0⟩ := DataW.trod_int Try.underlying5 a0
    obtain ⟨fr, e1, _, w1⟩ := DataW.trod_int Try.underlying3 a1
    obtain ⟨n2, p2', rfl, rfl, hn2, hp2⟩ := trod_vid a2
    obtain ⟨se, e3, _, w3⟩ := DataW.trod_int Try.underlying25 a3
    obtain ⟨n4, p4', rfl, rfl, hn4, hp4⟩ := trod_vid a4
    obtain ⟨n5, p5', rfl, rfl, hn5, hp5⟩ := trod_vid a5
    obtain ⟨so, sn, sc, sd, e6, hs, hsok, hsb⟩ := trod_states a6 (by omega)
    obtain ⟨ba, e7, _, w7⟩ := DataW.trod_int Try.underlying22 a7
    obtain ⟨mo, mn, mc, md, e8, hm, hmb⟩ := trod_msgs a8 (by omega)
    obtain ⟨io, inn, ic, idd, e9, hi, hib⟩ := trod_items a9 (by omega)
    obtain ⟨ac, e10, _, w10⟩ := DataW.trod_int Try.underlying22 a10
    obtain ⟨sa, e11, _, w11⟩ := DataW.trod_int Try.underlying22 a11
    simp at e0 e1 e3 e6 e7 e8 e9 e10 e11
    subst e0 e1 e3 e6 e7 e8 e9 e10 e11
    obtain ⟨kd, rfl, hkd⟩ := u8_of_wf w0
    obtain ⟨st, rfl, hst⟩ := u16_of_wf w3
    obtain ⟨b, rfl, hbb⟩ := u64_of_wf w7
    obtain ⟨ak, rfl, hak⟩ := u64_of_wf w10
    obtain ⟨sf, rfl, hsf⟩ := u64_of_wf w11
    have hsl : sd.length = sn := by obtain ⟨_, _, h2, _⟩ := hs; exact h2
    have hml : md.length = mn := by obtain ⟨_, _, h2, _⟩ := hm; exact h2
    have hil : idd.length = inn := hi.len
    subst hsl hml hil
    refine ⟨⟨kd, fr, n2, p2', st, n4, p4', n5, p5', sd, b, md, idd, ak, sf⟩, ⟨so, sc, mo, mc, io, ic⟩, rfl, ⟨hs, hm, hi⟩, ⟨hkd, in_of_wf w1, hn2, hp2, hst, hn4, hp4, hn5, hp5, hsok, hbb, hak, hsf⟩, ?_⟩
    refine Nat.le_trans ?_ hall
    show md.length + idd.length + sd.length + mtot md + itot idd + stot sd ≤ _
    omega
set_option maxRecDepth 10000 in
theorem open_frame {H : Type} {enc : TypeId × Value → H} {W : World} {base : Nat} {v : Value} {d : DataW H} {p : List MemPlace} (hv : Value.okWide Try.prog W .any base 30 v) (h : DataW.Trod enc Try.prog W 0 (fun _ => true) true 30 v d p) (hf : Rows.uptoBulk d ≤ 1048576) :
    ∃ (F : PF) (a : Fa), v = fval F a ∧ FIn (fun _ => True) W F a ∧ POk F ∧ tot F ≤ 1048576 := by
  obtain ⟨f0, f1, f2, f3, f4, f5, f6, f7, f8, f9, f10, f11, he, _⟩ := frame30
  obtain ⟨cs, rfl, hs⟩ := okWide_struct he hv
  obtain ⟨fuel, hf'⟩ := h
  obtain ⟨F, a, hc, hin, hok, ht⟩ := trod_frame hf' hf
  refine ⟨F, a, ?_, hin, hok, Nat.le_trans ht hf⟩
  have e : cs.toList = (fcells F a).toList := by simpa [Value.cells] using hc
  unfold fval
  rw [Array.toList_inj.1 e]
end Go.Proofs.Ytfemjbaadnjanaa
