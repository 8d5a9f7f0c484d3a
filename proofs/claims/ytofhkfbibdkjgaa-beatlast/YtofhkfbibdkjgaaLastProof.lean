/-
  Proved: for all numbers every, miss, gap and rounds, BeatLast(every, miss, gap, rounds) returns true: who is heard of at every tick, or often enough, is never missed; who isn't any more is missed at its time; the document's example holds. No condition.
-/
import Derived.Test.YtofhkfbibdkjgaaRows
import Derived.Test.YtofhkfbibdkjgaaBMore
import Derived.ProofKit
import Derived.OpenShut
import Derived.ShutString
import Derived.ChangeOld
import Derived.Below
namespace Go.Proofs.Ytofhkfbibdkjgaa.beatLast
open Go.ChangeShapes Go.WideShapes Go.ChangeAt Go.RowKit
open Go.ChangeMaps (open_string shut_string)
set_option linter.unusedVariables false

theorem right_last (v m : Nat) : Right ((2 : Nat) : Int) ((1 + v % 6 : Nat) : Int) ((2 + v % 6 + m % 12 : Nat) : Int) 1 1 1 := by unfold Right; omega
theorem est_3 {left : Nat → Nat} (h : 0 < left 0) : estN 1 left 2 = 3 := by
  rw [estN, if_pos (.inl rfl), estN, if_pos (.inr h), estN]
  decide
theorem est_2 {left : Nat → Nat} (h : left 0 = 0) : estN 1 left 2 = 2 := by
  rw [estN, if_pos (.inl rfl), estN, if_neg (show ¬ (0 = 1 ∨ 0 < left 0) by omega), estN]
  decide

set_option maxRecDepth 20000 in
set_option maxHeartbeats 1000000 in
theorem walk (w : World) (v : Nat) (hv : v < 256) (m : Nat) (hm : m < 256) (gp : Nat) (hgp : gp < 256) (T : Nat) (hT : T < 256) :
    Calls Try.prog 5 #[.int .u8 (v : Nat), .int .u8 (m : Nat), .int .u8 (gp : Nat), .int .u8 (T : Nat)] w fun e w' => e = .returned (.bool true) ∧ Below w.heap.size w w' := by
  have hR := right_last v m
  have hc := fun w => config_any w 1 v m (by omega) hv hm
  simp only [show 1 + 1 % 16 = 2 by rfl] at hc
  obtain ⟨B, hB⟩ : ∃ B, 1 + v % 6 = B := ⟨_, rfl⟩
  obtain ⟨M, hM⟩ : ∃ M, 2 + v % 6 + m % 12 = M := ⟨_, rfl⟩
  have hM2 : 2 ≤ M := by omega
  have hM18 : M ≤ 18 := by omega
  rw [hB, hM] at hR
  simp only [hB, hM] at hc
  clear hB hM
  have hnew := fun w => bnew_any w 2 B M 1 1 1 hR 1 (by omega)
  clear hR
  obtain ⟨G, hG⟩ : ∃ G : Nat, 1 + (gp : Int) % ((M : Int) - 1) = G := ⟨1 + gp % (M - 1), by
    rw [show (M : Int) - 1 = ((M - 1 : Nat) : Int) by omega]
    simp⟩
  have hG1 : 1 ≤ G ∧ G ≤ M - 1 := by
    have h1 := Int.emod_nonneg (gp : Int) (show (M : Int) - 1 ≠ 0 by omega)
    have h2 := Int.emod_lt_of_pos (gp : Int) (show (0 : Int) < (M : Int) - 1 by omega)
    omega
  obtain ⟨R, hTR⟩ : ∃ R : Nat, (T : Int) % 20 = R := ⟨T % 20, by omega⟩
  have hR20 : R < 20 := by omega
  go_enter Try.func5, Try.ntmps5
  go_wp2_with fail
  refine (awake_any _).mono ?_
  rintro e w1 ⟨rfl, t1⟩
  go_wp2_with fail
  refine (hc _).mono ?_
  rintro e w2 ⟨rfl, t2⟩
  unfold cfg at hnew ⊢
  have t12 : Hid (Turned (fun _ => False) w w2) := t1.trans t2 (fun _ f => f.elim)
  clear t1 t2 hc
  go_wp2_with fail
  have t3 : Hid (Turned (fun _ => False) w (w2.alloc (Obj.cells #[.int .i64 2, .int .i64 (B : Nat), .int .i64 (M : Nat), .int .i64 1, .int .i64 1, .int .i64 1] 23))) := t12.out.alloc _
  have hg : (w2.alloc (Obj.cells #[.int .i64 2, .int .i64 (B : Nat), .int .i64 (M : Nat), .int .i64 1, .int .i64 1, .int .i64 1] 23)).heap[w2.heap.size]? = some (.cells #[.int .i64 2, .int .i64 (B : Nat), .int .i64 (M : Nat), .int .i64 1, .int .i64 1, .int .i64 1] 23 (0, 0)) := heap_alloc_new _ _
  have hgl : w2.heap.size < (w2.alloc (Obj.cells #[.int .i64 2, .int .i64 (B : Nat), .int .i64 (M : Nat), .int .i64 1, .int .i64 1, .int .i64 1] 23)).heap.size := by simp
  generalize w2.alloc (Obj.cells #[.int .i64 2, .int .i64 (B : Nat), .int .i64 (M : Nat), .int .i64 1, .int .i64 1, .int .i64 1] 23) = w3 at *
  generalize w2.heap.size = g at *
  clear t12
  refine (hnew w3).mono ?_
  rintro e w4 ⟨q, F4, rfl, b4, o4⟩
  have HG' : Hid (∀ wr F, Own w3 wr F → wr.cell? ⟨g, 2, none⟩ = some (.int .i64 (M : Nat))) := fun wr F ho => by
    rw [cell_block (ho.turned.block g hgl (fun f => f))]
    exact (cfg_load hg).2.2
  clear hg hgl hnew
  have HK : Hid (∃ F r left, Bt w4 F q 1 2 B M (1 + 20 * 0) r left ∧ Own w3 w4 F) := ⟨F4, _, _, b4, o4⟩
  have c4 := HG'.out w4 F4 o4
  clear b4 o4
  go_wp2_with fail
  clear c4 hG
  go_loopw [13] (fun iv wr => ∃ k : Nat, k ≤ R ∧ iv = .int .i64 k ∧ ∃ F r left, Bt wr F q 1 2 B M (1 + 20 * k) r left ∧ Own w3 wr F) (fun iv _ => R - (intOf iv).toNat)
  case atStart => exact ⟨0, by omega, rfl, HK.out⟩
  case round =>
    obtain ⟨k, hk, rfl, F, r, left, hb, ho⟩ := hrel
    by_cases hkR : k = R
    · -- the last time
      subst hkR
      have HO : Hid (Own w3 wr F) := ho
      have hh := heard_any hb (by omega) 0 (by omega) (by omega)
      clear hb ho
      go_wp2_with fail
      refine hh.mono ?_
      rintro e w5 ⟨rfl, F5, b5, g5⟩
      have HK5 : Hid (∃ F r left, left 0 = M - 0 ∧ Bt w5 F q 1 2 B M (1 + 20 * k + 1 + 0) r left ∧ Own w3 w5 F) := ⟨F5, _, _, put_same _ _ _, b5, HO.out.go g5⟩
      clear hh b5 g5 HO
      go_wp2_with fail
      go_loopw [15] (fun iv wr => ∃ j : Nat, j ≤ M ∧ iv = .int .i64 j ∧ ∃ F r left, left 0 = M - j ∧ Bt wr F q 1 2 B M (1 + 20 * k + 1 + j) r left ∧ Own w3 wr F) (fun iv _ => M - (intOf iv).toNat)
      case atStart => exact ⟨0, by omega, rfl, HK5.out⟩
      case round =>
        obtain ⟨j, hj, rfl, F, r, left, hl, hb, ho⟩ := hrel
        have cM := HG'.out _ F ho
        by_cases hjM : j = M
        · subst hjM
          have he := est_any hb
          rw [est_2 (by omega)] at he
          have HB : ∀ w', Turned (fun _ => False) wr w' → Hid (Below w.heap.size w w') := fun w' t => ((t3.out.trans ho.turned (fun _ f => .inl f)).trans t (fun _ f => .inl f)).below (Nat.le_refl _) (fun _ f => f.elim)
          clear hb ho hl
          go_wp2_with fail
          refine he.mono ?_
          rintro e w6 ⟨rfl, t6⟩
          have HB6 := HB _ t6
          clear he t6 cM HB
          go_wp2_with fail
          go_ret
          exact ⟨rfl, HB6.out⟩
        · have hlt : (j : Int) < M := by omega
          have he := est_any hb
          rw [est_3 (by omega)] at he
          have HH : Hid (left 0 = M - j ∧ Bt wr F q 1 2 B M (1 + 20 * k + 1 + j) r left ∧ Own w3 wr F) := ⟨hl, hb, ho⟩
          clear hb ho hl
          go_wp2_with fail
          refine he.mono ?_
          rintro e w6 ⟨rfl, t6⟩
          have b6 := HH.out.2.1.still t6
          have O6 : Hid (Own w3 w6 F) := HH.out.2.2.go (Go2.still t6)
          clear he t6 cM
          go_wp2_with fail
          refine (tick_some b6 (by omega)).mono ?_
          rintro e w7 ⟨bb, F7, r7, rfl, b7, g7⟩
          have H7 : Hid (left 0 - 1 = M - (j + 1) ∧ Bt w7 F7 q 1 2 B M (1 + 20 * k + 1 + (j + 1)) r7 (fun j => left j - 1) ∧ Own w3 w7 F7) := ⟨by have := HH.out.1; omega, b7.more (by omega), O6.out.go g7⟩
          clear b6 b7 g7
          go_wp2_with fail
          go_roundw
          case rel => exact ⟨j + 1, by omega, by go_num, F7, r7, (fun j => left j - 1), H7.out⟩
          case measure => simp [intOf]; omega
    · have hlt : (k : Int) < R := by omega
      have HO : Hid (Own w3 wr F) := ho
      have hh := heard_any hb (by omega) 0 (by omega) (by omega)
      clear hb ho
      go_wp2_with fail
      refine hh.mono ?_
      rintro e w5 ⟨rfl, F5, b5, g5⟩
      have HK5 : Hid (∃ F r left, left 0 = M - 0 ∧ Bt w5 F q 1 2 B M (1 + 20 * k + 1 + 0) r left ∧ Own w3 w5 F) := ⟨F5, _, _, put_same _ _ _, b5, HO.out.go g5⟩
      clear hh b5 g5 HO
      go_wp2_with fail
      go_loopw [14] (fun iv wr => ∃ j : Nat, j ≤ G ∧ iv = .int .i64 j ∧ ∃ F r left, left 0 = M - j ∧ Bt wr F q 1 2 B M (1 + 20 * k + 1 + j) r left ∧ Own w3 wr F) (fun iv _ => G - (intOf iv).toNat)
      case atStart => exact ⟨0, by omega, rfl, HK5.out⟩
      case round =>
        obtain ⟨j, hj, rfl, F, r, left, hl, hb, ho⟩ := hrel
        by_cases hjG : j = G
        · subst hjG
          have H7 : Hid (∃ F r left, Bt wr F q 1 2 B M (1 + 20 * (k + 1)) r left ∧ Own w3 wr F) := ⟨F, r, left, hb.more (by omega), ho⟩
          clear hb ho hl
          go_wp2_with fail
          go_roundw
          case rel => exact ⟨k + 1, by omega, by go_num, H7.out⟩
          case measure => simp [intOf]; omega
        · have hlt2 : (j : Int) < G := by omega
          have he := est_any hb
          rw [est_3 (by omega)] at he
          have HH : Hid (left 0 = M - j ∧ Bt wr F q 1 2 B M (1 + 20 * k + 1 + j) r left ∧ Own w3 wr F) := ⟨hl, hb, ho⟩
          clear hb ho hl
          go_wp2_with fail
          refine he.mono ?_
          rintro e w6 ⟨rfl, t6⟩
          have b6 := HH.out.2.1.still t6
          have O6 : Hid (Own w3 w6 F) := HH.out.2.2.go (Go2.still t6)
          clear he t6
          go_wp2_with fail
          refine (tick_some b6 (by omega)).mono ?_
          rintro e w7 ⟨bb, F7, r7, rfl, b7, g7⟩
          have H7 : Hid (left 0 - 1 = M - (j + 1) ∧ Bt w7 F7 q 1 2 B M (1 + 20 * k + 1 + (j + 1)) r7 (fun j => left j - 1) ∧ Own w3 w7 F7) := ⟨by have := HH.out.1; omega, b7.more (by omega), O6.out.go g7⟩
          clear b6 b7 g7
          go_wp2_with fail
          go_roundw
          case rel => exact ⟨j + 1, by omega, by go_num, F7, r7, (fun j => left j - 1), H7.out⟩
          case measure => simp [intOf]; omega

set_option maxRecDepth 100000 in
theorem lifted (os : Os) (started : os.Started) (H : Type) (enc : TypeId × Value → H) :
    ReturnsInHanded {} Try.checked os 5 .any (Rows.beatLastSpec.pre6 enc Try.prog Try.f5 Rows.beatLastRow.domain false) (Rows.beatLastSpec.post enc Try.prog Try.f5 false true false false) := by
  refine returnsInHanded_of_change (C := Try.checked) own started (by kernel_rfl) Try.func5
    (ChangeSpec.witness6 (enc := enc) (C := Try.checked) false ⟨#[], #[.int .u8 0, .int .u8 0, .int .u8 0, .int .u8 0], []⟩ 5 (by kernel_rfl) (by kernel_rfl) (by kernel_rfl) (by kernel_rfl)) ?_
  intro W base args ds gs before hval0 hW hcnd _
  have hval : ∀ (j : Nat) t v, Try.f5.params[j]? = some t → args[j]? = some v → Value.okWide Try.prog W .any base t v := hval0
  have hW' := hW
  obtain ⟨p, q, hA0, hV, rfl, hfz, hnd⟩ := hW
  have hA : DataW.TrodAll enc Try.prog W 0 (fun _ => true) true Try.f5.params.toList args.toList ds p := hA0
  rw [Try.params5] at hA hval
  obtain ⟨v0, vs0, d0, ds0, p0, q0, hargs0, rfl, rfl, h0, r0⟩ := trodAll_cons hA
  obtain ⟨v1, vs1, d1, ds1, p1, q1, hargs1, rfl, rfl, h1, r1⟩ := trodAll_cons r0
  obtain ⟨v2, vs2, d2, ds2, p2, q2, hargs2, rfl, rfl, h2, r2⟩ := trodAll_cons r1
  obtain ⟨v3, vs3, d3, ds3, p3, q3, hargs3, rfl, rfl, h3, r3⟩ := trodAll_cons r2
  obtain ⟨rfl, rfl, rfl⟩ := trodAll_nil r3
  obtain rfl : args = #[v0, v1, v2, v3] := by cases args; simp_all
  obtain ⟨rfl, rfl⟩ := trodVars_none hV
  obtain ⟨a0, rfl, rfl, rfl, w0⟩ := open_int Try.underlying5 (hval 0 5 v0 rfl rfl) h0
  obtain ⟨a1, rfl, rfl, rfl, w1⟩ := open_int Try.underlying5 (hval 1 5 v1 rfl rfl) h1
  obtain ⟨a2, rfl, rfl, rfl, w2⟩ := open_int Try.underlying5 (hval 2 5 v2 rfl rfl) h2
  obtain ⟨a3, rfl, rfl, rfl, w3⟩ := open_int Try.underlying5 (hval 3 5 v3 rfl rfl) h3
  clear hA0 hval0
  obtain ⟨n0, rfl, hn0⟩ := u8_of_wf w0
  obtain ⟨n1, rfl, hn1⟩ := u8_of_wf w1
  obtain ⟨n2, rfl, hn2⟩ := u8_of_wf w2
  obtain ⟨n3, rfl, hn3⟩ := u8_of_wf w3
  refine (walk W n0 hn0 n1 hn1 n2 hn2 n3 hn3).mono fun e W' ⟨he, bel⟩ => ?_
  subst he
  exact ⟨_, rfl, _, _, _, [], _, [], hW', trodAll_mk1 (shut_bool Try.underlying4 _), (trodAll_cons_mk (shut_int Try.underlying5 w0) (trodAll_cons_mk (shut_int Try.underlying5 w1) (trodAll_cons_mk (shut_int Try.underlying5 w2) (trodAll_cons_mk (shut_int Try.underlying5 w3) trodAll_mk0)))), rfl, bel.frame _, fun h => by cases h⟩

theorem over : Rows.beatLastRow.holds Try.pinned (OpenSpec.ofChange Rows.beatLastSpec) :=
  OpenClaim.holds_of_wide 5 Try.f5 rfl rfl rfl rfl rfl rfl rfl ⟨rfl, rfl, rfl, rfl, rfl⟩ rfl rfl rfl rfl rfl (by kernel_rfl) Try.func5 (by kernel_rfl)
    (of_decide_eq_true (by kernel_rfl)) (by unfold Func.isWrapper; first | (rw [if_pos (by decide +kernel)]; kernel_rfl) | (rw [if_neg (by decide +kernel)]; exact ⟨rfl, rfl⟩))
    (fun os started H enc _ => lifted os started H enc)

end Go.Proofs.Ytofhkfbibdkjgaa.beatLast
namespace Go.Proofs.Ytofhkfbibdkjgaa
theorem beatLast_holds : Rows.BeatLastSaid := beatLast.over
#print axioms beatLast_holds
end Go.Proofs.Ytofhkfbibdkjgaa
