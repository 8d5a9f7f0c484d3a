/-
  Proved: for all numbers a and b of views and every set, MemberRefuses(a, b, set) returns true: what is proposed below what was accepted is refused, and the refusal tells what that was. The row lists one package-level variable of the library (math/bits.deBruijn32tab), tied to the program's text by the card; no other condition.
-/
import Derived.Test.YtlonbbepoamnmaaDoorMLaid
import Derived.Test.YtlonbbepoamnmaaDoorMRefuse
import Derived.Test.YtlonbbepoamnmaaDoorCards
import Derived.Test.YtlonbbepoamnmaaDoorTie
import Derived.SevenTiedAt
import Derived.Lib.SmallJoins
namespace Go.Proofs.YtlonbbepoamnmaaDoor.memberRefuses
open Go.ChangeShapes Go.WideShapes Go.ChangeAt Go.RowKit Go.Joins
set_option linter.unusedVariables false

theorem u64_of_wf {a : Int} (h : (Lit.int .u64 a).wf = true) : ∃ n : Nat, a = n ∧ n < 18446744073709551616 := by
  simp [Lit.wf, IntKind.min, IntKind.max, IntKind.bits, IntKind.signed] at h
  exact ⟨a.toNat, by omega, by omega⟩
theorem cells31 : Tryd.prog.cellsOf 31 = 2 := by kernel_rfl
theorem shut_vid {H : Type} {enc : TypeId × Value → H} {W : World} {base : Nat} {spare : Nat → Bool} {held : Bool} {n q : Int} (wa : (Lit.int .u64 n).wf = true) (wb : (Lit.int .i64 q).wf = true) :
    DataW.Trod enc Tryd.prog W base spare held 31 (.agg #[.int .u64 n, .int .i64 q]) (.agg [.lit (.int .u64 n), .lit (.int .i64 q)]) ([] ++ []) :=
  Go.Joins.shut_agg2 (y0 := (.lit (.int .u64 n), [])) (y1 := (.lit (.int .i64 q), [])) Tryd.underlying31 (by kernel_rfl) cells31 ⟨1, by simp [DataW.trod, Tryd.underlying29, wa]⟩ ⟨1, by simp [DataW.trod, Tryd.underlying3, wb]⟩

set_option maxRecDepth 100000 in
theorem lifted (os : Os) (started : os.Started) (H : Type) (enc : TypeId × Value → H) :
    ReturnsInHanded {} Tryd.checked os 9 .any (fun w args => (Rows.memberRefusesSpec.pre enc Tryd.prog Tryd.f9 [] false w args ∧ laidMetH Tryd.prog laid1 w) ∧ sizedMet enc Tryd.prog Tryd.f9 (OpenSpec.ofChange Rows.memberRefusesSpec) false w args)
      (Rows.memberRefusesSpec.post enc Tryd.prog Tryd.f9 false true false false) := by
  refine returnsInHanded_of_change_and (C := Tryd.checked) (X := fun w _ => laidMetH Tryd.prog laid1 w) (fun _ _ _ hh h => h.of_heap hh) own started (by kernel_rfl) Tryd.func9
    (ChangeSpec.witness_shaped (enc := enc) (C := Tryd.checked) (os := os) (X := fun w _ => laidMetH Tryd.prog laid1 w) false (World.doorLaid Tryd.prog 400 os) #[.agg #[.int .u64 0, .int .i64 0], .agg #[.int .u64 0, .int .i64 0], .int .u16 0] 8 rfl (World.shaped_of_RefB (by kernel_rfl) (by kernel_rfl)) (by kernel_rfl) (by kernel_rfl) (by kernel_rfl) (door_met os _)) ?_
  intro W base args ds gs before hval0 hW _ _ hL _
  have hval : ∀ (j : Nat) t v, Tryd.f9.params[j]? = some t → args[j]? = some v → Value.okWide Tryd.prog W .any base t v := hval0
  have hW' := hW
  obtain ⟨p, q, hA0, hV, rfl, hfz, hnd⟩ := hW
  have hA : DataW.TrodAll enc Tryd.prog W 0 (fun _ => true) true Tryd.f9.params.toList args.toList ds p := hA0
  rw [Tryd.params9] at hA hval
  obtain ⟨v0, vs0, d0, ds0, p0, q0, hargs0, rfl, rfl, h0, r0⟩ := trodAll_cons hA
  obtain ⟨v1, vs1, d1, ds1, p1, q1, hargs1, rfl, rfl, h1, r1⟩ := trodAll_cons r0
  obtain ⟨v2, vs2, d2, ds2, p2, q2, hargs2, rfl, rfl, h2, r2⟩ := trodAll_cons r1
  obtain ⟨rfl, rfl, rfl⟩ := trodAll_nil r2
  obtain rfl : args = #[v0, v1, v2] := by cases args; simp_all
  obtain ⟨rfl, rfl⟩ := trodVars_none hV
  obtain ⟨c0a, c0b, y0a, y0b, m0, rfl, rfl, rfl, hy0a, hy0b⟩ := open_agg2 Tryd.underlying31 (by kernel_rfl) cells31 (hval 0 31 v0 rfl rfl) h0
  obtain ⟨n0', e0a, rfl, w0a⟩ := DataW.trod_int Tryd.underlying29 hy0a
  obtain ⟨q0, e0b, rfl, w0b⟩ := DataW.trod_int Tryd.underlying3 hy0b
  simp at e0a e0b
  subst e0a e0b
  obtain ⟨c1a, c1b, y1a, y1b, m1, rfl, rfl, rfl, hy1a, hy1b⟩ := open_agg2 Tryd.underlying31 (by kernel_rfl) cells31 (hval 1 31 v1 rfl rfl) h1
  obtain ⟨n1', e1a, rfl, w1a⟩ := DataW.trod_int Tryd.underlying29 hy1a
  obtain ⟨q1, e1b, rfl, w1b⟩ := DataW.trod_int Tryd.underlying3 hy1b
  simp at e1a e1b
  subst e1a e1b
  obtain ⟨a2, rfl, rfl, rfl, w2⟩ := open_int Tryd.underlying32 (hval 2 32 v2 rfl rfl) h2
  obtain ⟨n0, rfl, hn0⟩ := u64_of_wf w0a
  obtain ⟨n1, rfl, hn1⟩ := u64_of_wf w1a
  obtain ⟨n2, rfl, hn2⟩ := u16_of_wf w2
  have hT := tab_of_laid hL
  clear hA0 hval0
  refine (refuse_walk W hT n0 q0 n1 q1 n2 hn2).mono fun e W' ⟨he, bel⟩ => ?_
  subst he
  exact ⟨_, rfl, _, _, _, [], _, [], hW', trodAll_mk1 (shut_bool Tryd.underlying4 _), (trodAll_cons_mk (shut_vid w0a w0b) (trodAll_cons_mk (shut_vid w1a w1b) (trodAll_cons_mk (shut_int Tryd.underlying32 w2) trodAll_mk0))), rfl, bel.frame _, fun h => by cases h⟩

theorem over : Rows.MemberRefusesSaid :=
  OpenClaim.holds_of_wide 9 Tryd.f9 rfl rfl rfl rfl rfl rfl rfl ⟨rfl, rfl, rfl, rfl, rfl⟩ rfl rfl rfl rfl rfl (by kernel_rfl) Tryd.func9 (by kernel_rfl)
    (of_decide_eq_true (by kernel_rfl)) (by unfold Func.isWrapper; first | (rw [if_pos (by decide +kernel)]; kernel_rfl) | (rw [if_neg (by decide +kernel)]; exact ⟨rfl, rfl⟩))
    (fun os started H enc _ => lifted os started H enc)

end Go.Proofs.YtlonbbepoamnmaaDoor.memberRefuses
namespace Go.Proofs.YtlonbbepoamnmaaDoor
theorem memberRefuses_card : Rows.MemberRefusesCardSaid :=
  Claim7.holds_tied_plain_at .later [] [.data] true (true, "4ea4f5f4c975cb59735565d8e837db36148b3943be6111ce806ce9aec651b25b") false
    memberRefuses.over (fun _ h => by cases h) (by kernel_rfl) (fun _ h => by cases h) memberRefuses_row_tie rfl ⟨rfl, rfl⟩ (by kernel_rfl) rfl
    (fun f fn hf hfn => by
      obtain rfl : f = 9 := Option.some.inj ((show Tryd.prog.funcNamed "folkmoot/folkmootlaw13.MemberRefuses" = some 9 by kernel_rfl).symm.trans hf) |>.symm
      obtain rfl : fn = Tryd.f9 := (Option.some.inj (Tryd.func9.symm.trans hfn)).symm
      exact ⟨by kernel_rfl, fun j t ht => by
        rw [Tryd.params9] at ht
        have hm : t ∈ [31, 31, 32] := by simpa using Array.mem_of_getElem? ht
        have hall : ([31, 31, 32].all fun u => !Tryd.prog.wantsStandIn u) = true := by kernel_rfl
        exact (show Tryd.prog.wantsStandIn t = false by simpa using List.all_eq_true.1 hall t hm)⟩)
    (by kernel_rfl)
#print axioms memberRefuses_card
end Go.Proofs.YtlonbbepoamnmaaDoor
