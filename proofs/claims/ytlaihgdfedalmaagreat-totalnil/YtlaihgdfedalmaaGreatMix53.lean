/-
  Texts of the walk, one behind the other.
-/
import Derived.Test.YtlaihgdfedalmaaGreatMix51
import Derived.Test.YtlaihgdfedalmaaGreatTNew
import Derived.Lib.SlBytesConst
import Derived.Test.YtlaihgdfedalmaaGreatEAlike
import Derived.Test.YtlaihgdfedalmaaGreatEArgs3
/-
  Package total: the statements' example runs.
-/
namespace Go.Proofs.YtlaihgdfedalmaaGreat
open Go.RowKit Go.Sort Go.Conc
set_option linter.unusedVariables false
set_option linter.unusedSimpArgs false

theorem Stp.below {w0 w w' : World} {col : Nat → Nat} {Z : Nat → Prop} {q : Nat} {T : Tot} (u : Below w0.heap.size w0 w) (hc : ∀ b, 0 < col b → w0.heap.size ≤ b) (h : Stp w col Z q T w') : Below w0.heap.size w0 w' := by
  obtain ⟨c, Z', a, h1, g, h3, h4⟩ := h
  exact u.trans (g.turned.below u.size hc)
/-- A node that the call has made. -/
def Own1 (w0 w : World) (q : Nat) (T : Tot) : Prop := ∃ col Z a, Tt w col Z q T a ∧ Below w0.heap.size w0 w ∧ ∀ b, 0 < col b → w0.heap.size ≤ b
theorem Own1.go {w0 w w' : World} {q : Nat} {T' : Tot} {col : Nat → Nat} {Z : Nat → Prop} (u : Below w0.heap.size w0 w) (hc : ∀ b, 0 < col b → w0.heap.size ≤ b) (h : Stp w col Z q T' w') : Own1 w0 w' q T' := by
  have hb := Stp.below u hc h
  obtain ⟨c, Z', a, h1, g, h3, h4⟩ := h
  exact ⟨c, Z', a, h1, hb, fun b hb => (g.foot b hb).elim (hc b) (fun e => Nat.le_trans u.size e)⟩
theorem aT0_new : Tot.new 1 0 4 = aT0 := rfl
set_option maxRecDepth 10000 in
set_option maxHeartbeats 4000000 in
theorem awake_any (w : World) : Calls Tryz.prog 11 #[] w fun e w' => e = .returned (.bool true) ∧ Below w.heap.size w w' := by
  have hnew := new_ok w 1 0 4 (by omega) (by omega) (by omega) (fun _ => False) (fun b hb => hb.elim)
  rw [aT0_new] at hnew
  go_enter Tryz.func11, Tryz.ntmps11
  go_wp2_with fail
  refine hnew.mono ?_
  rintro e w1 ⟨q, col, a, rfl, h1, u1, hc1⟩
  have hcs := Lib.run_convert_bytes_const (P := Tryz.prog) w1 37 5 #[.int .u8 97] 1 1 Tryz.underlying37 Tryz.underlying5
  obtain ⟨w2, hw2⟩ : ∃ w2, w1.alloc (.cells #[.int .u8 97] 5 (1, 2)) = w2 := ⟨_, rfl⟩
  have HW2 : Hid (w1.alloc (.cells #[.int .u8 97] 5 (1, 2)) = w2) := hw2
  have u2 : Below w1.heap.size w1 w2 := by rw [← hw2]; exact bl1 _ _
  have hrow : Cd.Row w2 (some ⟨w1.heap.size, 0, none⟩) 1 1 [97] := by
    refine ⟨rfl, Nat.le_refl _, by unfold maxLen; omega, (fun e => by cases e), fun ad e i hi => ?_⟩
    cases e
    obtain rfl : i = 0 := by omega
    rw [Addr.add_lit, ← hw2]
    exact (cell_of_row _ w1.heap.size 0 #[.int .u8 97] 5 (1, 2) (heap_alloc_new w1 (.cells #[.int .u8 97] 5 (1, 2))))
  have hbc := bcast_any w2 col _ q aT0 a (h1.still u2) ⟨⟨⟨by show (1 : Int) ≤ 1; omega, by show (1 : Int) ≤ 16; omega⟩, ⟨by show (0 : Int) ≤ 0; omega, by show (0 : Int) < 1; omega⟩, by show 0 < 18446744073709551616; omega, by unfold In; show _ ≤ (0 : Int) ∧ (0 : Int) ≤ _; omega, by show 0 < 65536; omega, by show 0 < 256; omega, by show 0 ≤ 1000000; omega⟩, by show 0 + (0 + 1) < 18446744073709551616; omega, by show 0 + (0 + 1) ≤ 1000; omega, by show 0 + (0 + 1) ≤ 1000000; omega⟩ (by show 0 ≤ 64; omega) (some ⟨w1.heap.size, 0, none⟩) 1 1 [97] hrow
  rw [a1] at hbc
  have H2 : Hid (Below w.heap.size w w2 ∧ ∀ b, 0 < col b → w.heap.size ≤ b) := ⟨bl_step u1 u2, hc1⟩
  clear hnew h1 u1 hc1 hw2 u2 hrow
  go_wp2_with fail
  rw [HW2.out]
  clear hcs
  refine hbc.mono ?_
  rintro e w3 ⟨rfl, hst⟩
  obtain ⟨c3, Z3, a3, h3, b3, k3⟩ := Own1.go H2.out.1 H2.out.2 hst
  have hwt : Calls Tryz.prog 37 #[.pointer (some ⟨q, 0, none⟩)] w3 (fun e w' => e = .returned (.int .i64 1) ∧ w' = w3) := waiting_any h3
  have hvw : Calls Tryz.prog 18 #[.pointer (some ⟨q, 0, none⟩), .agg #[.int .u64 1, .int .i64 0, .int .u16 1]] w3 (fun e w' => e = .returned (.int .i64 0) ∧ Stp w3 c3 Z3 q aT2 w') :=
    view_ok w3 c3 Z3 q aT1 a3 h3 1 0 1 (by omega) (by kernel_rfl) (by kernel_rfl) ⟨⟨⟨by show (1 : Int) ≤ 1; omega, by show (1 : Int) ≤ 16; omega⟩, ⟨by show (0 : Int) ≤ 0; omega, by show (0 : Int) < 1; omega⟩, by show 1 < 18446744073709551616; omega, by unfold In; show _ ≤ (0 : Int) ∧ (0 : Int) ≤ _; omega, by show 1 < 65536; omega, by show 0 < 256; omega, by show 0 ≤ 1000000; omega⟩, by show 0 + 1 < 18446744073709551616; omega, by show 0 + 1 ≤ 1000; omega, by show 0 + 1 ≤ 1000000; omega⟩
  have H3 : Hid (Below w.heap.size w w3 ∧ ∀ b, 0 < c3 b → w.heap.size ≤ b) := ⟨b3, k3⟩
  clear hbc hst h3 b3 k3 H2 HW2
  go_wp2_with fail
  refine hwt.mono ?_
  rintro e w' ⟨rfl, rfl⟩
  clear hwt
  go_wp2_with fail
  refine hvw.mono ?_
  rintro e w4 ⟨rfl, hst⟩
  obtain ⟨c4, Z4, a4, h4, b4, k4⟩ := Own1.go H3.out.1 H3.out.2 hst
  have hs1 := awake_step1 h4
  have H4 : Hid (Below w.heap.size w w4 ∧ ∀ b, 0 < c4 b → w.heap.size ≤ b) := ⟨b4, k4⟩
  clear hvw hst h4 b4 k4 H3
  go_wp2_with fail
  refine hs1.mono ?_
  rintro e w5 ⟨rfl, hst⟩
  obtain ⟨c5, Z5, a5', h5, b5, k5⟩ := Own1.go H4.out.1 H4.out.2 hst
  have hs2 := awake_step2 h5
  have H5 : Hid (Below w.heap.size w w5 ∧ ∀ b, 0 < c5 b → w.heap.size ≤ b) := ⟨b5, k5⟩
  clear hs1 hst h5 b5 k5 H4
  go_wp2_with fail
  refine hs2.mono ?_
  rintro e w6 ⟨rfl, hst⟩
  obtain ⟨c6, Z6, a6', h6, b6, k6⟩ := Own1.go H5.out.1 H5.out.2 hst
  have htk := take_any h6 (by show 1 ≤ 5000; omega) (fun x hx => by
    have : x = aX := by simpa [aT6, aT5, aT4, aT3, aT2] using hx
    subst this
    exact okl_aX) (by unfold In; show _ ≤ (1 : Int) ∧ (1 : Int) ≤ _; omega) (fun e he => by
    have : e = (aX, [97]) := by simpa [aT6, aT5, aT4, aT3, aT2] using he
    subst this
    show 1 ≤ 140737488355328; omega)
  rw [a7] at htk
  have H6 : Hid (Below w.heap.size w w6 ∧ ∀ b, 0 < c6 b → w.heap.size ≤ b) := ⟨b6, k6⟩
  clear hs2 hst h6 b6 k6 H5
  go_wp2_with fail
  refine htk.mono ?_
  rintro e w7 ⟨⟨v, rfl, ho⟩, hst⟩
  have b7 := Stp.below H6.out.1 H6.out.2 hst
  obtain ⟨so, sc, rfl, hrow, hbl⟩ := own_bytes ho
  have hB0 : (w7.alloc (.cells #[.int .i64 0, .slice none 0 0] 61)).heap[w7.heap.size]? = some (.cells #[.int .i64 0, .slice none 0 0] 61 (0, 0)) := heap_alloc_new _ _
  obtain ⟨w8, hw8⟩ : ∃ w8, (w7.alloc (.cells #[.int .i64 0, .slice none 0 0] 61)).setRow w7.heap.size #[.int .i64 0, .slice so 1 sc] = w8 := ⟨_, rfl⟩
  have HW8 : Hid ((w7.alloc (.cells #[.int .i64 0, .slice none 0 0] 61)).setRow w7.heap.size #[.int .i64 0, .slice so 1 sc] = w8) := hw8
  have u8 : Below w7.heap.size w7 w8 := by rw [← hw8]; exact bl_rowL (bl1 _ _) (Nat.le_refl _) _
  have hB8 : w8.heap[w7.heap.size]? = some (.cells #[.int .i64 0, .slice so 1 sc] 61 (0, 0)) := by rw [← hw8]; exact setRow_heap _ _ _ _ _ _ hB0
  have k0 : w8.cell? ⟨w7.heap.size, 0, none⟩ = some (.int .i64 0) := cell_of_heap hB8 0
  have k1 : w8.cell? ⟨w7.heap.size, 1, none⟩ = some (.slice so 1 sc) := cell_of_heap hB8 1
  have hcv : (convert 37 9 (.slice so 1 sc)).run Tryz.prog w8 = .ok (.string ⟨#[97]⟩) w8 := Cd.conv_row (hrow.below u8 (Nat.le_refl _))
  have HF : Hid (Below w.heap.size w w8) := bl_step b7 u8
  clear htk hst b7 ho hrow hbl hw8 u8 hB8 H6
  go_wp2_with (refine wpList_store_row rfl 61 (.tmp 3) (.tmp 45) rfl w7.heap.size #[.int .i64 0, .slice so 1 sc] rfl rfl 61 _ hB0 infoS61 rfl (by simp [Value.oneCell']) ?_; rw [HW8.out])

  go_ret
  exact ⟨rfl, HF.out⟩
end Go.Proofs.YtlaihgdfedalmaaGreat

/-
  Package total: a nil one has nothing.
-/
namespace Go.Proofs.YtlaihgdfedalmaaGreat
open Go.RowKit Go.Sort Go.Conc
set_option linter.unusedVariables false
set_option linter.unusedSimpArgs false

theorem rd_nil (w : World) (f : Value) (ao : Option Addr) (n cap : Nat) : Calls Tryz.prog 57 #[.pointer none, f, .slice ao n cap] w (RdErr w 6) := by
  refine (read_nil w f ao n cap).mono ?_
  rintro e w' ⟨rfl, u⟩
  exact ⟨0, (0, 0, 0, 0), (none, 0, 0), (none, 0, 0), (none, 0, 0), 0, 0, 0, rfl, u⟩
set_option maxRecDepth 10000 in
theorem summary_nil (w : World) : Calls Tryz.prog 36 #[.pointer none] w fun e w' => e = .returned (.agg #[.slice none 0 0, .slice none 0 0, .int .i64 0, .int .u64 0, .int .i64 0]) ∧ Below w.heap.size w w' := by
  have hB := heap_alloc_new w (.cells #[.slice none 0 0, .slice none 0 0, .int .i64 0, .int .u64 0, .int .i64 0] 45)
  have u := bl_rowL (bl1 w (.cells #[.slice none 0 0, .slice none 0 0, .int .i64 0, .int .u64 0, .int .i64 0] 45)) (Nat.le_refl _) #[.slice none 0 0, .slice none 0 0, .int .i64 0, .int .u64 0, .int .i64 0]
  have hB2 := setRow_heap _ w.heap.size _ #[.slice none 0 0, .slice none 0 0, .int .i64 0, .int .u64 0, .int .i64 0] _ _ hB
  have k := fun j => cell_of_heap hB2 j
  have k0 := k 0
  have k1 := k 1
  have k2 := k 2
  have k3 := k 3
  have k4 := k 4
  simp only [List.getElem?_toArray, List.getElem?_cons_zero, List.getElem?_cons_succ] at k0 k1 k2 k3 k4
  clear k hB2
  go_enter Tryz.func36, Tryz.ntmps36
  go_wp2_with (refine wpList_store_row rfl 45 (.tmp 2) (.tmp 5) rfl w.heap.size #[.slice none 0 0, .slice none 0 0, .int .i64 0, .int .u64 0, .int .i64 0] rfl rfl 45 _ hB infoS38 rfl (by simp [Value.oneCell']) ?_)
  refine bodyPost_ret (v := .agg #[.slice none 0 0, .slice none 0 0, .int .i64 0, .int .u64 0, .int .i64 0]) ?_ rfl ⟨rfl, u⟩
  simp [results, Tryz.results36, go_sem, k0, k1, k2, k3, k4]
theorem alike_zero (w : World) : Calls Tryz.prog 39 #[.agg #[.slice none 0 0, .slice none 0 0, .int .i64 0, .int .u64 0, .int .i64 0], .agg #[.slice none 0 0, .slice none 0 0, .int .i64 0, .int .u64 0, .int .i64 0]] w fun e w' => e = .returned (.bool true) ∧ Below w.heap.size w w' := by
  have h := alike_any (fun _ => True) (fun _ => True) w none 0 0 [] ⟨rfl, by omega, fun h => by omega⟩ none 0 0 [] ⟨rfl, by omega, fun h => by omega⟩ 0 0 0 none 0 0 [] ⟨rfl, by omega, fun h => by omega⟩ none 0 0 [] ⟨rfl, by omega, fun h => by omega⟩ 0 0 0
  refine Calls.mono h ?_
  rintro e w' ⟨rfl, u⟩
  exact ⟨rfl, u.bl⟩
end Go.Proofs.YtlaihgdfedalmaaGreat

/-
  Views as they are handed in.
-/
namespace Go.Proofs.YtlaihgdfedalmaaGreat
open Go.ChangeShapes Go.WideShapes Go.ChangeAt Go.RowKit Go.Deep
set_option linter.unusedVariables false
set_option linter.unusedSimpArgs false

theorem u16_of_wf {a : Int} (h : (Lit.int .u16 a).wf = true) : ∃ n : Nat, a = n ∧ n < 65536 := by
  simp [Lit.wf, IntKind.min, IntKind.max, IntKind.bits, IntKind.signed] at h
  exact ⟨a.toNat, by omega, by omega⟩
theorem cellsU16 : Tryz.prog.cellsOf 34 = 1 := by kernel_rfl
theorem cellsV36 : Tryz.prog.cellsOf 36 = 3 := by kernel_rfl
theorem view36 : ∃ f0 f1 : Field, Tryz.prog.underlying 36 = some (.struct #[f0, f1]) ∧ f0.offset = 0 ∧ f1.offset = 2 ∧ f0.type = 33 ∧ f1.type = 34 :=
  ⟨_, _, Tryz.underlying36, rfl, rfl, rfl, rfl⟩
set_option maxRecDepth 100000 in
theorem trod_view {H : Type} {enc : TypeId × Value → H} {W : World} {base : Nat} {sp : Nat → Bool} {held : Bool} {fuel : Nat} {cs : List Value} {y : DataW H × List MemPlace} (h : DataW.trod enc Tryz.prog W base sp held fuel 36 cs = some y) : ∃ (n : Nat) (p : Int) (s : Nat), n < 18446744073709551616 ∧ In p ∧ s < 65536 ∧ cs = [.int .u64 (n : Nat), .int .i64 p, .int .u16 (s : Nat)] := by
  obtain ⟨f0, f1, he, p0, p1, t0, t1⟩ := view36
  obtain ⟨g0, g1, he', q0, q1, u0, u1⟩ := vid24
  obtain ⟨xs, k, hk, hxy, hcl, hxl, hf⟩ := DataW.trod_struct he h
  rw [cellsV36] at hcl
  match xs, hxl, cs, hcl with
  | [y0, y1], _, [v0, v1, v2], _ =>
    have a0 := hf 0 f0 rfl
    have a1 := hf 1 f1 rfl
    simp [p0, p1, t0, t1, cells24, cellsU16] at a0 a1
    obtain ⟨ys, k', hk', hyy, _, hyl, hg⟩ := DataW.trod_struct he' a0
    match ys, hyl with
    | [z0, z1], _ =>
      have b0 := hg 0 g0 rfl
      have b1 := hg 1 g1 rfl
      simp [q0, q1, u0, u1, cells22, cells3] at b0 b1
      obtain ⟨n0, c0, _, w0⟩ := DataW.trod_int Tryz.underlying31 b0
      obtain ⟨n1, c1, _, w1⟩ := DataW.trod_int Tryz.underlying3 b1
      obtain ⟨n2, c2, _, w2⟩ := DataW.trod_int Tryz.underlying34 a1
      simp at c0 c1 c2
      subst c0 c1 c2
      obtain ⟨m0, rfl, hm0⟩ := u64_of_wf w0
      obtain ⟨m2, rfl, hm2⟩ := u16_of_wf w2
      exact ⟨m0, n1, m2, hm0, in_of_wf w1, hm2, rfl⟩
set_option maxRecDepth 100000 in
theorem open_view {H : Type} {enc : TypeId × Value → H} {W : World} {base : Nat} {v : Value} {d : DataW H} {p : List MemPlace} (hv : Value.okWide Tryz.prog W .any base 36 v) (h : DataW.Trod enc Tryz.prog W 0 (fun _ => true) true 36 v d p) : ∃ (n : Nat) (q : Int) (s : Nat), n < 18446744073709551616 ∧ In q ∧ s < 65536 ∧ v = .agg #[.int .u64 (n : Nat), .int .i64 q, .int .u16 (s : Nat)] := by
  obtain ⟨f0, f1, he, _⟩ := view36
  obtain ⟨cs, rfl, hs⟩ := okWide_struct he hv
  obtain ⟨fuel, hf⟩ := h
  obtain ⟨n, q, s, h1, h2, h3, hc⟩ := trod_view hf
  refine ⟨n, q, s, h1, h2, h3, ?_⟩
  obtain ⟨l⟩ := cs
  have e : l = [.int .u64 (n : Nat), .int .i64 q, .int .u16 (s : Nat)] := by simpa [Value.cells] using hc
  rw [e]
set_option maxRecDepth 100000 in
theorem open_bytesT {H : Type} {enc : TypeId × Value → H} {W : World} {ao : Option Addr} {n cap : Nat} {d : DataW H} {p : List MemPlace} (h : DataW.Trod enc Tryz.prog W 0 (fun _ => true) true 37 (.slice ao n cap) d p) : ∃ xs, Cd.Row W ao n cap xs := by
  obtain ⟨fuel, hf⟩ := h
  obtain ⟨ao', n', cap', xs, hcs, hr⟩ := trod_bytes hf
  simp [Value.cells] at hcs
  obtain ⟨rfl, rfl, rfl⟩ := hcs
  exact ⟨xs, hr⟩
end Go.Proofs.YtlaihgdfedalmaaGreat
