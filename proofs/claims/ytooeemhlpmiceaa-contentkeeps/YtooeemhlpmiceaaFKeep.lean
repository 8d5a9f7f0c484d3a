/-
  content.Find's answer is memory of its own; content.Put; bytes are turned.
-/
import Derived.Test.YtooeemhlpmiceaaFBin
import Derived.Test.YtooeemhlpmiceaaTMerge
import Derived.Laws.OwnMore
namespace Go.Proofs.Ytooeemhlpmiceaa
open Go.RowKit
set_option linter.unusedVariables false
set_option linter.unusedSimpArgs false

set_option maxRecDepth 10000 in
set_option maxHeartbeats 1000000 in
theorem find_own (p : Nat → Prop) (w : World) (ao : Option Addr) (n cap : Nat) (es : List En) (h : ER p w ao n es) (hasc : Asc es) (hn : n ≤ 1000000) (hml : ∀ e ∈ es, e.2.length ≤ 140737488355328) (y : Lb) :
    Calls Try.prog 21 #[.slice ao n cap, lab y] w fun e w' => (∃ v, e = .returned (.tuple #[v, .bool (findE es y).isSome]) ∧ w'.ownsRow w.heap.size 5 1 v ((findE es y).getD []).length (((findE es y).getD []).map Cd.by8)) ∧ Below w.heap.size w w' := by
  have hl := h.1
  have b0 : Up w (w.alloc (.cells #[.int .u64 (y.1 : Nat), .int .i64 y.2.1, .int .u64 (y.2.2.1 : Nat), .int .i64 y.2.2.2] 34)) := (Up.refl _).alloc _
  obtain ⟨d0, d1, d2, d3⟩ := bx_new w y.1 y.2.1 y.2.2.1 y.2.2.2 34
  have hbs := binsearch_any p _ ao n cap es (h.bl b0.bl) hasc hn y
  have hcl := fun W a m c xs (hW : Cd.Row W a m c xs) (hm : m ≤ 140737488355328) => bclone_any W a m c xs hW hm
  unfold lab
  unfold ent at hbs
  go_enter Try.func21, Try.ntmps21
  go_wp2_with fail
  refine hbs.mono ?_
  rintro e w1 ⟨i, b, rfl, hA, hB, hb, hu1⟩
  have up1 := b0.trans hu1
  have H1 := h.bl up1.bl
  clear hbs d0 d1 d2 d3
  cases b with
  | false =>
    have HF : Hid (findE es y = none) := find_not (fun j z hz e => by
      by_cases hj : j < i
      · have := hA j z hj hz
        rw [e] at this
        exact ltL_irr _ this
      · by_cases hji : j = i
        · subst hji
          have := hb.2 ⟨z, hz, e⟩
          cases this
        · have hlen := (List.getElem?_eq_some_iff.1 hz).1
          have hi : es[i]? = some (es[i]'(by omega)) := List.getElem?_eq_getElem (by omega)
          have h1 := asc_get hasc hi hz (by omega)
          rw [e] at h1
          exact hB i _ (Nat.le_refl _) hi h1)
    clear hA hB hb hasc hcl
    go_wp2
    go_ret2
    refine ⟨⟨_, by rw [HF.out]; rfl, ?_⟩, up1.bl⟩
    rw [HF.out]
    exact World.ownsRow_nil _ _ _ _
  | true =>
    obtain ⟨x, hx, hxy⟩ := hb.1 rfl
    have hin := (List.getElem?_eq_some_iff.1 hx).1
    have hil : i < n := by omega
    have hiI : (i : Int) < (n : Int) := by omega
    have hk0 : ¬ ((i : Int) < 0) := by omega
    obtain ⟨bb, off, hao, _, hc⟩ := H1.2.2 (by omega)
    obtain ⟨so, sn, sc, c0, c1, c2, c3, c4, hrow, _⟩ := hc i x hx
    have HF : Hid (findE es y = some x.2) := find_at hx hxy (fun j z hj hz e => by
      have := hA j z hj hz
      rw [e] at this
      exact ltL_irr _ this)
    have hk := hcl w1 so sn sc x.2 hrow (by rw [← hrow.1]; exact hml x (List.mem_of_getElem? hx))
    subst hao
    clear hA hB hb hasc hcl hc hx H1
    go_wp2_with fail
    refine hk.mono ?_
    rintro e w2 ⟨v2, rfl, ho2, hb2⟩
    have bl2' := bl_step up1.bl hb2
    have hob := own_base ho2 up1.bl.size
    clear hk ho2 c0 c1 c2 c3 c4
    go_wp2
    go_ret2
    refine ⟨⟨v2, by rw [HF.out]; rfl, ?_⟩, bl2'⟩
    rw [HF.out]
    exact hob

theorem xor1 (z : Nat) (hz : z < 256) : ∃ z1 : Nat, z1 < 256 ∧ bits .xor .u8 (z : Int) 1 = (z1 : Int) := by
  have h1 := u8_xor_nat z 1 hz (by omega)
  exact ⟨z ^^^ 1, Nat.xor_lt_two_pow (n := 8) hz (by omega), h1⟩
set_option maxRecDepth 10000 in
set_option maxHeartbeats 1000000 in
/-- Put: one more. -/
theorem put_any (w : World) (ao : Option Addr) (n cap : Nat) (es : List En) (h : ER (fun _ => True) w ao n es) (hz : ao = none → n = 0 ∧ cap = 0) (x : Lb) (so : Option Addr) (sn sc : Nat) (ms : List UInt8) (hr : Cd.Row w so sn sc ms) (hn : n ≤ 1000) (hml : ∀ e ∈ es, e.2.length ≤ 140737488355328) (hm : ms.length ≤ 140737488355328) :
    Calls Try.prog 23 #[.slice ao n cap, ent x (.slice so sn sc)] w fun e w' => ∃ v, e = .returned v ∧ EO w.heap.size w' v (mergeE [] (es ++ [(x, ms)])) ∧ Below w.heap.size w w' := by
  have b0 := bl1 w (.cells #[.int .u64 (x.1 : Nat), .int .i64 x.2.1, .int .u64 (x.2.2.1 : Nat), .int .i64 x.2.2.2, .slice so sn sc] 37)
  have c0 := ex_new w x (.slice so sn sc) 37
  have b1 := bl1 (w.alloc (.cells #[.int .u64 (x.1 : Nat), .int .i64 x.2.1, .int .u64 (x.2.2.1 : Nat), .int .i64 x.2.2.2, .slice so sn sc] 37)) (.cells #[.int .u64 (x.1 : Nat), .int .i64 x.2.1, .int .u64 (x.2.2.1 : Nat), .int .i64 x.2.2.2, .slice so sn sc] 37)
  have c1 := ex_new (w.alloc (.cells #[.int .u64 (x.1 : Nat), .int .i64 x.2.1, .int .u64 (x.2.2.1 : Nat), .int .i64 x.2.2.2, .slice so sn sc] 37)) x (.slice so sn sc) 37
  have b01 := bl_step b0 b1
  have hs : (w.alloc (.cells #[.int .u64 (x.1 : Nat), .int .i64 x.2.1, .int .u64 (x.2.2.1 : Nat), .int .i64 x.2.2.2, .slice so sn sc] 37)).heap.size = w.heap.size + 1 := by simp
  rw [hs] at c1
  have hER : ER (fun _ => True) ((w.alloc (.cells #[.int .u64 (x.1 : Nat), .int .i64 x.2.1, .int .u64 (x.2.2.1 : Nat), .int .i64 x.2.2.2, .slice so sn sc] 37)).alloc (.cells #[.int .u64 (x.1 : Nat), .int .i64 x.2.1, .int .u64 (x.2.2.1 : Nat), .int .i64 x.2.2.2, .slice so sn sc] 37)) (some ⟨w.heap.size + 1, 0, none⟩) 1 [(x, ms)] := by
    refine ⟨rfl, by omega, fun _ => ⟨w.heap.size + 1, 0, rfl, trivial, fun j e hj => ?_⟩⟩
    have hj0 : j = 0 := by have := (List.getElem?_eq_some_iff.1 hj).1; simp at this; exact this
    subst hj0
    simp at hj
    subst hj
    exact ⟨so, sn, sc, c1.1, c1.2.1, c1.2.2.1, c1.2.2.2.1, c1.2.2.2.2, hr.below b01 (Nat.le_refl _), fun _ _ _ => trivial⟩
  have hme := merge_any _ ao n cap es (h.bl b01) hz (some ⟨w.heap.size + 1, 0, none⟩) 1 1 [(x, ms)] hER (fun e => by cases e) (by omega) (fun e he => by
    rcases List.mem_append.1 he with h | h
    · exact hml e h
    · simp at h; subst h; exact hm)
  obtain ⟨d0, d1, d2, d3, d4⟩ := c0
  have HS : Hid (w.heap.size ≤ ((w.alloc (.cells #[.int .u64 (x.1 : Nat), .int .i64 x.2.1, .int .u64 (x.2.2.1 : Nat), .int .i64 x.2.2.2, .slice so sn sc] 37)).alloc (.cells #[.int .u64 (x.1 : Nat), .int .i64 x.2.1, .int .u64 (x.2.2.1 : Nat), .int .i64 x.2.2.2, .slice so sn sc] 37)).heap.size) := b01.size
  clear c1 hs hER b0 b1 h hz hml hm
  unfold ent
  go_enter Try.func23, Try.ntmps23
  go_wp2_with (refine wpList_load_E rfl (.tmp 3) rfl w.heap.size 0 rfl x (.slice so sn sc) d0 d1 d2 d3 d4 ?_)
  refine hme.mono ?_
  rintro e w2 ⟨v, rfl, hO, u⟩
  have uf := bl_step b01 u
  have hOf := hO.base HS.out
  clear hme hO
  go_wp2
  go_ret
  exact ⟨v, rfl, hOf, uf⟩
end Go.Proofs.Ytooeemhlpmiceaa
