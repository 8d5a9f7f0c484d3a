/-
  Proved: for every number n and every more, CodeShort(n, more) returns true: a number that is written longer than it must be is none; the document's two examples hold. No condition.
-/
import Derived.Test.YtlnphniokaclcaaRows
import Derived.Test.YtlnphniokaclcaaAwake
import Derived.ProofKit
import Derived.OpenShut
import Derived.ShutString
import Derived.ChangeOld
import Derived.Below
namespace Go.Proofs.Ytlnphniokaclcaa.codeShort
open Go.ChangeShapes Go.WideShapes Go.ChangeAt Go.RowKit
open Go.ChangeMaps (open_string shut_string)
set_option linter.unusedVariables false

theorem own : ownKnob Try.prog.godebug = none := by kernel_rfl

theorem rdF_long : ∀ (zs : List UInt8) (i acc : Nat), (∀ z ∈ zs, 128 ≤ z.toNat) → 0 < i + zs.length → rdF i acc (zs ++ [0]) = none
  | [], i, acc, _, h => by
    simp only [List.nil_append, rdF]
    rw [if_neg (by simp), if_neg (by simp), if_pos ⟨rfl, by simpa using h⟩]
  | z :: t, i, acc, hz, h => by
    have h1 : 128 ≤ z.toNat := hz z (by simp)
    simp only [List.cons_append, rdF, h1, if_true]
    split
    · rfl
    · exact rdF_long t (i + 1) _ (fun y hy => hz y (by simp [hy])) (by omega)
theorem enc_parts : ∀ (f n : Nat), n < 2 * 128 ^ f → ∃ init last, encF f n = init ++ [last] ∧ (∀ z ∈ init, 128 ≤ z.toNat) ∧ last.toNat < 128
  | 0, n, h => ⟨[], UInt8.ofNat n, rfl, by simp, by rw [ofNat_toNat _ (by omega)]; omega⟩
  | f + 1, n, h => by
    by_cases hn : n < 128
    · exact ⟨[], UInt8.ofNat n, by rw [encF_small _ _ hn]; rfl, by simp, by rw [ofNat_toNat _ (by omega)]; omega⟩
    · obtain ⟨init, last, he, ha, hl⟩ := enc_parts f (n / 128) (by rw [Nat.pow_succ] at h; omega)
      refine ⟨UInt8.ofNat (n % 128 + 128) :: init, last, by rw [encF_big _ _ (by omega), he]; rfl, ?_, hl⟩
      intro z hz
      simp only [List.mem_cons] at hz
      rcases hz with rfl | hz
      · rw [ofNat_toNat _ (by omega)]; omega
      · exact ha z hz
theorem or_last (last y : UInt8) (hl : last.toNat < 128) (hy : y = UInt8.ofNat (last.toNat + 128)) : bits .or .u8 (last.toNat : Int) 128 = (y.toNat : Int) := by
  have := or_128 last.toNat
  rw [show ((last.toNat : Int) % 256) = (last.toNat : Int) by omega, show last.toNat % 128 = last.toNat by omega] at this
  rw [this, hy]

set_option maxRecDepth 10000 in
set_option maxHeartbeats 1000000 in
theorem walk (N : Nat) (a1 : Int) (hN : N < 18446744073709551616) (h10 : 0 ≤ a1) (h11 : a1 < 256) (w : World) :
    Calls Try.prog 10 #[.int .u64 N, .int .u8 a1] w fun e w' => e = .returned (.bool true) ∧ Below w.heap.size w w' := by
  obtain ⟨i0, hi, hz0, hz1, hz2⟩ := info_parts Try.info5
  obtain ⟨init, last, he, hall, hlast⟩ := enc_parts 9 N (by omega)
  have hel := enc_length N
  have hil : init.length + 1 ≤ 10 := by rw [enc, he] at hel; simpa using hel
  obtain ⟨y, hy⟩ : ∃ y, y = UInt8.ofNat (last.toNat + 128) := ⟨_, rfl⟩
  have hor := or_last last y hlast hy
  have HY : Hid (128 ≤ y.toNat) := by show 128 ≤ y.toNat; rw [hy, ofNat_toNat _ (by omega)]; omega
  have HA : Hid (∀ z ∈ init, 128 ≤ z.toNat) := hall
  clear hall hy hel
  go_enter Try.func10, Try.ntmps10
  go_wp2_with (first | (go_at_call 11; refine (awake_any _).mono ?_; rintro e w1 ⟨rfl, hb1⟩))
  refine (uint_any _ none 0 0 [] ⟨rfl, Nat.le_refl _, by unfold maxLen; omega, fun _ => ⟨rfl, rfl⟩, fun a ha => (by cases ha)⟩ N hN (by omega)).mono ?_
  rintro e w2 ⟨v, rfl, hown, hb2⟩
  have hown2 : w2.ownsRow w.heap.size 5 1 v (init.length + 1) ((init ++ [last]).map by8) := by
    rw [enc, he] at hown
    have := owns_mono hown hb1.size
    simpa using this
  have hb : Below w.heap.size w w2 := hb1.trans (hb2.mono hb1.size)
  clear hown hb1 hb2 he
  have hs := hb.size
  rcases hown2.2 with ⟨_, h0⟩ | ⟨g, cap, cur, hv, hg, _, hc1, hc2, _, _⟩
  · omega
  rw [hv] at hown2 ⊢
  clear hv
  unfold maxLen at hc2
  have hcell : w2.cell? ⟨g, init.length, none⟩ = some (.int .u8 (last.toNat : Int)) := by
    rw [hown2.cellAt init.length (by omega)]
    simp [by8]
  have hfr : w2.frozen? ⟨g, init.length, none⟩ = false := hown2.frozenAt _
  have hst := (hown2.stored init.length (by8 y)).1
  have hb3 : Below w.heap.size w (w2.setCell ⟨g, init.length, none⟩ (.int .u8 (y.toNat : Int))) := hb.setCell hg _
  have HST : Hid ((w2.setCell ⟨g, init.length, none⟩ (.int .u8 (y.toNat : Int))).ownsRow w.heap.size 5 1 (Value.slice (some { block := g, off := 0 }) (init.length + 1) cap) (init.length + 1) ((init ++ [y]).map by8)) := by
    have e : (List.map by8 (init ++ [last])).set init.length (by8 y) = (init ++ [y]).map by8 := by simp
    rw [e] at hst
    exact hst
  clear hst hown2 hb
  go_wp2
  go_loopw [5, 7] (fun v i wr => ∃ (j : Nat) (zs : List UInt8), (j : Int) ≤ a1 % 4 ∧ i = .int .i64 (1 + (j : Int)) ∧ zs.length = init.length + 1 + j ∧ (∀ z ∈ zs, 128 ≤ z.toNat) ∧ wr.ownsRow w.heap.size 5 1 v zs.length (zs.map by8) ∧ Below w.heap.size w wr) (fun _ i _ => 5 - (intOf i).toNat)
  case atStart =>
    refine ⟨0, init ++ [y], by omega, rfl, by simp, ?_, by simpa using HST.out, hb3⟩
    intro z hz
    simp only [List.mem_append, List.mem_singleton] at hz
    rcases hz with hz | rfl
    · exact HA.out z hz
    · exact HY.out
  case round =>
    obtain ⟨j, zs, hj, rfl, hzl, hz, hown, hbel⟩ := hrel
    have hsz := hbel.size
    have HZ : Hid (∀ z ∈ zs, 128 ≤ z.toNat) := hz
    have HZL : Hid (zs.length = init.length + 1 + j) := hzl
    have hzb : zs.length ≤ 14 := by omega
    have hzp : 0 < zs.length := by omega
    clear hz hzl HST hb3
    by_cases hlt : (j : Int) < a1 % 4
    · go_wp2_with (first | (at_builtin; refine wpList_append_own _ rfl _ _ 22 rfl w.heap.size 5 i0 (.int .u8 0) 1 1 Try.underlying22 hi hz0 hz1 hz2 rfl (by decide) u5 _ _ rfl (hown.alloc _) ⟨wr.heap.size, 0, none⟩ 1 1 [by8 128] rfl rfl ?f3 ?f4 ?f6 ?f7 ?f8 ?_))
      case f3 => exact cell_one_new _ _ _
      case f4 => exact by8_one [128]
      case f6 => unfold maxLen; omega
      case f7 => omega
      case f8 => simp; omega
      · intro v' w1 hown1 hgrow1 _
        have R := own_step (y := 128) hbel hown (by simpa using hown1) hgrow1
        clear hown1 hgrow1
        go_wp2
        go_roundw
        case rel =>
          refine ⟨j + 1, zs ++ [128], by omega, by go_num, by have := HZL.out; simp; omega, ?_, by simpa using R.1, R.2⟩
          intro z hz
          simp only [List.mem_append, List.mem_singleton] at hz
          rcases hz with hz | rfl
          · exact HZ.out z hz
          · decide
        case measure => simp [intOf]; omega
    · go_wp2_with (first | (at_builtin; refine wpList_append_own _ rfl _ _ 22 rfl w.heap.size 5 i0 (.int .u8 0) 1 1 Try.underlying22 hi hz0 hz1 hz2 rfl (by decide) u5 _ _ rfl (hown.alloc _) ⟨wr.heap.size, 0, none⟩ 1 1 [by8 0] rfl rfl ?e3 ?e4 ?e6 ?e7 ?e8 ?_))
      case e3 => first | exact cell_one_new _ _ _ | exact fun j u h => h
      case e4 => first | exact by8_one [0] | rfl
      case e6 => unfold maxLen; omega
      case e7 => omega
      case e8 => first | omega | (simp; omega)
      · intro v' w1 hown1 hgrow1 _
        have R := own_step (y := 0) hbel hown (by simpa using hown1) hgrow1
        clear hown1 hgrow1
        obtain ⟨ao, cap', hv, hrow, _⟩ := owns_row R.1
        have hb4 := R.2
        have hs4 := hb4.size
        have HN : Hid (rUint (some (zs ++ [0])) = (0, none)) := by
          show rUint (some (zs ++ [0])) = (0, none)
          have : rd (zs ++ [0]) = none := rdF_long zs 0 0 HZ.out (by omega)
          simp only [rUint, this]
        rw [hv]
        clear hv R
        go_wp2_with fail
        refine (newReader_any _ _ _ _ _ hrow (by omega)).mono ?_
        rintro e w5 ⟨r, rfl, hr, hrd, hb5⟩
        go_wp2_with fail
        refine (uint_rd _ _ _ hrd).mono ?_
        rw [HN.out]
        rintro e w6 ⟨rfl, hrd6, hg6⟩
        go_wp2_with fail
        refine (bad_rd _ _ _ hrd6).mono ?_
        rintro e w7 ⟨rfl, rfl⟩
        go_wp2_with fail
        refine (left_rd _ _ _ hrd6).mono ?_
        rintro e w7 ⟨rfl, rfl⟩
        go_wp2
        go_ret
        have hb6 : Below w.heap.size w w5 := hb4.trans (hb5.mono hs4)
        have hs6 := hb6.size
        exact ⟨rfl, hb6.grown hg6 hs6 (fun k hk => by simp at hk; omega)⟩

set_option maxRecDepth 100000 in
theorem lifted (os : Os) (started : os.Started) (H : Type) (enc : TypeId × Value → H) :
    ReturnsInHanded {} Try.checked os 10 .any (Rows.codeShortSpec.pre6 enc Try.prog Try.f10 Rows.codeShortRow.domain false) (Rows.codeShortSpec.post enc Try.prog Try.f10 false true false false) := by
  refine returnsInHanded_of_change (C := Try.checked) own started (by kernel_rfl) Try.func10
    (ChangeSpec.witness6 (enc := enc) (C := Try.checked) false ⟨#[], #[.int .u64 0, .int .u8 0], []⟩ 8 (by kernel_rfl) (by kernel_rfl) (by kernel_rfl) (by kernel_rfl)) ?_
  intro W base args ds gs before hval0 hW hcnd _
  have hval : ∀ (j : Nat) t v, Try.f10.params[j]? = some t → args[j]? = some v → Value.okWide Try.prog W .any base t v := hval0
  have hW' := hW
  obtain ⟨p, q, hA0, hV, rfl, hfz, hnd⟩ := hW
  have hA : DataW.TrodAll enc Try.prog W 0 (fun _ => true) true Try.f10.params.toList args.toList ds p := hA0
  rw [Try.params10] at hA hval
  obtain ⟨v0, vs0, d0, ds0, p0, q0, hargs, rfl, rfl, h0, r0⟩ := trodAll_cons hA
  obtain ⟨v1, vs1, d1, ds1, p1, q1, rfl, rfl, rfl, h1, r1⟩ := trodAll_cons r0
  obtain ⟨rfl, rfl, rfl⟩ := trodAll_nil r1
  obtain rfl : args = #[v0, v1] := by cases args; simp_all
  obtain ⟨rfl, rfl⟩ := trodVars_none hV
  obtain ⟨a0, rfl, rfl, rfl, w0⟩ := open_int Try.underlying23 (hval 0 23 v0 rfl rfl) h0
  obtain ⟨a1, rfl, rfl, rfl, w1⟩ := open_int Try.underlying5 (hval 1 5 v1 rfl rfl) h1
  clear hA0 hval0
  have b0 := bounds_u64 w0
  have b1 := bounds_u8 w1
  obtain ⟨N, rfl⟩ := Int.eq_ofNat_of_zero_le b0.1
  refine (walk N a1 (by omega) (by omega) (by omega) W).mono fun e W' ⟨he, bel⟩ => ?_
  subst he
  exact ⟨_, rfl, _, _, _, [], _, [], hW', trodAll_mk1 (shut_bool Try.underlying4 _), (trodAll_cons_mk (shut_int Try.underlying23 w0) (trodAll_cons_mk (shut_int Try.underlying5 w1) trodAll_mk0)), rfl, bel.frame _, fun h => by cases h⟩

theorem over : Rows.codeShortRow.holds Try.pinned (OpenSpec.ofChange Rows.codeShortSpec) :=
  OpenClaim.holds_of_wide 10 Try.f10 rfl rfl rfl rfl rfl rfl rfl ⟨rfl, rfl, rfl, rfl, rfl⟩ rfl rfl rfl rfl rfl (by kernel_rfl) Try.func10 (by kernel_rfl)
    (of_decide_eq_true (by kernel_rfl)) (by unfold Func.isWrapper; first | (rw [if_pos (by decide +kernel)]; kernel_rfl) | (rw [if_neg (by decide +kernel)]; exact ⟨rfl, rfl⟩))
    (fun os started H enc _ => lifted os started H enc)

end Go.Proofs.Ytlnphniokaclcaa.codeShort
namespace Go.Proofs.Ytlnphniokaclcaa
theorem codeShort_holds : Rows.CodeShortSaid := codeShort.over
#print axioms codeShort_holds
end Go.Proofs.Ytlnphniokaclcaa
