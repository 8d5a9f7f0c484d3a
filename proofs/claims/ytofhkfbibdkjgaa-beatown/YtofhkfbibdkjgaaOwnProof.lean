/-
  Proved: for all numbers nodes, every, miss, ticks and every list heard, BeatOwn(nodes, every, miss, heard, ticks) returns true: one's own beats come at the first tick, and at each Beat-th one from there on, whoever is heard of; the document's example holds. No condition.
-/
import Derived.Test.YtofhkfbibdkjgaaRows
import Derived.Test.YtofhkfbibdkjgaaBMore
import Derived.ProofKit
import Derived.OpenShut
import Derived.ShutString
import Derived.ChangeOld
import Derived.Below
namespace Go.Proofs.Ytofhkfbibdkjgaa.beatOwn
open Go.ChangeShapes Go.WideShapes Go.ChangeAt Go.RowKit
open Go.ChangeMaps (open_string shut_string)
set_option linter.unusedVariables false

theorem right_own (n v m : Nat) : Right ((1 + n % 16 : Nat) : Int) ((1 + v % 6 : Nat) : Int) ((2 + v % 6 + m % 12 : Nat) : Int) 1 1 1 := by unfold Right; omega

set_option maxRecDepth 20000 in
set_option maxHeartbeats 1000000 in
theorem walk (w : World) (n : Nat) (hn : n < 256) (v : Nat) (hv : v < 256) (m : Nat) (hm : m < 256) (a : Option Addr) (len cap : Nat) (xs : List Nat) (hx : Nums w .u8 a len 256 xs) (T : Nat) (hT : T < 256) :
    Calls Try.prog 7 #[.int .u8 (n : Nat), .int .u8 (v : Nat), .int .u8 (m : Nat), .slice a len cap, .int .u8 (T : Nat)] w fun e w' => e = .returned (.bool true) ∧ Below w.heap.size w w' := by
  have hR := right_own n v m
  have hc := fun w => config_any w n v m hn hv hm
  obtain ⟨N, hN⟩ : ∃ N, 1 + n % 16 = N := ⟨_, rfl⟩
  obtain ⟨B, hB⟩ : ∃ B, 1 + v % 6 = B := ⟨_, rfl⟩
  obtain ⟨M, hM⟩ : ∃ M, 2 + v % 6 + m % 12 = M := ⟨_, rfl⟩
  have hB1 : 1 ≤ B := by omega
  have hB6 : B ≤ 6 := by omega
  have hN1 : 1 ≤ N := by omega
  rw [hN, hB, hM] at hR
  simp only [hN, hB, hM] at hc
  clear hN hB hM
  have hnew := fun w => bnew_any w N B M 1 1 1 hR 0 (by omega)
  have HX : Hid (Nums w .u8 a len 256 xs) := hx
  have hlen := hx.max
  clear hx hR
  go_enter Try.func7, Try.ntmps7
  go_wp2_with fail
  refine (awake_any _).mono ?_
  rintro e w1 ⟨rfl, t1⟩
  go_wp2_with fail
  refine (hc _).mono ?_
  rintro e w2 ⟨rfl, t2⟩
  unfold cfg at hnew ⊢
  have t12 : Hid (Turned (fun _ => False) w w2) := t1.trans t2 (fun _ f => f.elim)
  clear t1 t2 hc
  go_wp2_with fail
  have t3 : Hid (Turned (fun _ => False) w (w2.alloc (Obj.cells #[.int .i64 (N : Nat), .int .i64 (B : Nat), .int .i64 (M : Nat), .int .i64 1, .int .i64 1, .int .i64 1] 23))) := t12.out.alloc _
  have hg : (w2.alloc (Obj.cells #[.int .i64 (N : Nat), .int .i64 (B : Nat), .int .i64 (M : Nat), .int .i64 1, .int .i64 1, .int .i64 1] 23)).heap[w2.heap.size]? = some (.cells #[.int .i64 (N : Nat), .int .i64 (B : Nat), .int .i64 (M : Nat), .int .i64 1, .int .i64 1, .int .i64 1] 23 (0, 0)) := heap_alloc_new _ _
  have hgl : w2.heap.size < (w2.alloc (Obj.cells #[.int .i64 (N : Nat), .int .i64 (B : Nat), .int .i64 (M : Nat), .int .i64 1, .int .i64 1, .int .i64 1] 23)).heap.size := by simp
  generalize w2.alloc (Obj.cells #[.int .i64 (N : Nat), .int .i64 (B : Nat), .int .i64 (M : Nat), .int .i64 1, .int .i64 1, .int .i64 1] 23) = w3 at *
  generalize w2.heap.size = g at *
  clear t12
  refine (hnew w3).mono ?_
  rintro e w4 ⟨q, F4, rfl, b4, o4⟩
  have HG : ∀ wr F, Own w3 wr F → wr.cell? ⟨g, 1, none⟩ = some (.int .i64 (B : Nat)) := fun wr F ho => by
    rw [cell_block (ho.turned.block g hgl (fun f => f))]
    exact (cfg_load hg).2.1
  have HG' : Hid (∀ wr F, Own w3 wr F → wr.cell? ⟨g, 1, none⟩ = some (.int .i64 (B : Nat))) := HG
  clear HG hg hgl hnew
  have HK : Hid (∃ F left, Bt w4 F q 0 N B M (1 + 2 * 0) (rOf B 0) left ∧ Own w3 w4 F) := ⟨F4, _, b4, o4⟩
  clear b4 o4
  go_wp2_with fail
  go_loopw [14, 15] (fun nv iv wr => ∃ k : Nat, k ≤ T ∧ iv = .int .i64 k ∧ nv = .int .i64 (cntOf B k : Nat) ∧ ∃ F left, Bt wr F q 0 N B M (1 + 2 * k) (rOf B k) left ∧ Own w3 wr F) (fun _ iv _ => T - (intOf iv).toNat)
  case atStart => exact ⟨0, by omega, rfl, by rw [cntOf_zero]; rfl, HK.out⟩
  case round =>
    obtain ⟨k, hk, rfl, rfl, F, left, hb, ho⟩ := hrel
    have cB := HG'.out wr F ho
    by_cases hkT : k = T
    · have HB : Hid (Below w.heap.size w wr) := (t3.out.trans ho.turned (fun _ f => .inl f)).below (Nat.le_refl _) (fun _ f => f.elim)
      clear hb ho
      subst hkT
      have hcl := cntOf_le hB1 k
      have HD : Hid ((k + B - 1) / B = cntOf B k) := cntOf_div hB1 k
      generalize cntOf B k = c at *
      go_wp2_with fail
      go_ret
      refine ⟨ret_bool ?_, HB.out⟩
      rw [beq_iff_eq, show (k : Int) + B - 1 = ((k + B - 1 : Nat) : Int) by omega, ← HD.out]
      simp
    · have hlt : (k : Int) < T := by omega
      have hcl := cntOf_le hB1 k
      have HO : Hid (Own w3 wr F) := ho
      by_cases hl : k < len
      · have hli : (k : Int) < len := by omega
        obtain ⟨ad, rfl, hbl, hcell⟩ := (HX.out.turned (t3.out.trans ho.turned (fun _ f => .inl f))).cell (by omega)
        have dk := hcell k hl
        have hxk := HX.out.lt k
        generalize xs.getD k 0 = x at *
        obtain ⟨y, hy⟩ : ∃ y : Nat, (x : Int) % 20 = (y : Int) := ⟨x % 20, by omega⟩
        have hh := heard_some hb (by omega) y
        clear hcell hbl ho
        by_cases hd : k % B = 0
        · have hmod : (k : Int) % (B : Int) = 0 := by exact_mod_cast hd
          have HC : Hid (cntOf B (k + 1) = cntOf B k + 1) := by unfold Hid; rw [cntOf_succ hB1, if_pos hd]
          obtain ⟨hr, HR⟩ := rOf_due hB1 hd
          rw [hr] at hb hh
          have HR' : Hid (rOf B (k + 1) = B) := HR
          generalize cntOf B k = c at *
          clear hb HR hr hd
          go_wp2_with fail
          rw [hy]
          refine hh.mono ?_
          rintro e w5 ⟨z, F5, left5, rfl, b5, g5⟩
          have c5 := HG'.out w5 F5 (HO.out.go g5)
          have O5 : Hid (Own w3 w5 F5) := HO.out.go g5
          clear g5 hh hy cB
          go_wp2_with fail
          refine (tick0_due b5 (by omega)).mono ?_
          rintro e w6 ⟨rfl, F6, b6, g6⟩
          have O6 : Hid (Bt w6 F6 q 0 N B M (1 + 2 * k + 1 + 1) (rOf B (k + 1)) (fun j => left5 j - 1) ∧ Own w3 w6 F6) := ⟨by rw [HR'.out]; exact b6, O5.out.go g6⟩
          have c6 := HG'.out w6 F6 O6.out.2
          clear b5 b6 g6 c5
          go_wp2_with fail
          go_roundw
          case rel => exact ⟨k + 1, by omega, by go_num, by rw [HC.out]; go_num, F6, _, O6.out.1.more (by omega), O6.out.2⟩
          case measure => simp [intOf]; omega
        · have HC : Hid (cntOf B (k + 1) = cntOf B k) := by unfold Hid; rw [cntOf_succ hB1, if_neg hd]
          obtain ⟨hr, HR⟩ := rOf_on hB1 hd
          have HR' : Hid (rOf B (k + 1) = rOf B k - 1) := HR
          have Hr : Hid (rOf B k ≠ 1) := hr
          generalize cntOf B k = c at *
          generalize rOf B k = rk at *
          clear hb HR hr hd
          go_wp2_with fail
          rw [hy]
          refine hh.mono ?_
          rintro e w5 ⟨z, F5, left5, rfl, b5, g5⟩
          have O5 : Hid (Own w3 w5 F5) := HO.out.go g5
          clear g5 hh hy cB
          go_wp2_with fail
          refine (tick0_not b5 Hr.out (by omega)).mono ?_
          rintro e w6 ⟨rfl, F6, b6, g6⟩
          have O6 : Hid (Bt w6 F6 q 0 N B M (1 + 2 * k + 1 + 1) (rOf B (k + 1)) (fun j => left5 j - 1) ∧ Own w3 w6 F6) := ⟨by rw [HR'.out]; exact b6, O5.out.go g6⟩
          clear b5 b6 g6
          go_wp2_with fail
          go_roundw
          case rel => exact ⟨k + 1, by omega, by go_num, by rw [HC.out], F6, _, O6.out.1.more (by omega), O6.out.2⟩
          case measure => simp [intOf]; omega
      · have hli : ¬ ((k : Int) < len) := by omega
        clear ho
        by_cases hd : k % B = 0
        · have hmod : (k : Int) % (B : Int) = 0 := by exact_mod_cast hd
          have HC : Hid (cntOf B (k + 1) = cntOf B k + 1) := by unfold Hid; rw [cntOf_succ hB1, if_pos hd]
          obtain ⟨hr, HR⟩ := rOf_due hB1 hd
          rw [hr] at hb
          have HR' : Hid (rOf B (k + 1) = B) := HR
          generalize cntOf B k = c at *
          clear HR hr hd cB
          go_wp2_with fail
          refine (tick0_due hb (by omega)).mono ?_
          rintro e w6 ⟨rfl, F6, b6, g6⟩
          have O6 : Hid (Bt w6 F6 q 0 N B M (1 + 2 * k + 1) (rOf B (k + 1)) (fun j => left j - 1) ∧ Own w3 w6 F6) := ⟨by rw [HR'.out]; exact b6, HO.out.go g6⟩
          have c6 := HG'.out w6 F6 O6.out.2
          clear hb b6 g6
          go_wp2_with fail
          go_roundw
          case rel => exact ⟨k + 1, by omega, by go_num, by rw [HC.out]; go_num, F6, _, O6.out.1.more (by omega), O6.out.2⟩
          case measure => simp [intOf]; omega
        · have HC : Hid (cntOf B (k + 1) = cntOf B k) := by unfold Hid; rw [cntOf_succ hB1, if_neg hd]
          obtain ⟨hr, HR⟩ := rOf_on hB1 hd
          have HR' : Hid (rOf B (k + 1) = rOf B k - 1) := HR
          have Hr : Hid (rOf B k ≠ 1) := hr
          generalize cntOf B k = c at *
          generalize rOf B k = rk at *
          clear HR hr hd cB
          go_wp2_with fail
          refine (tick0_not hb Hr.out (by omega)).mono ?_
          rintro e w6 ⟨rfl, F6, b6, g6⟩
          have O6 : Hid (Bt w6 F6 q 0 N B M (1 + 2 * k + 1) (rOf B (k + 1)) (fun j => left j - 1) ∧ Own w3 w6 F6) := ⟨by rw [HR'.out]; exact b6, HO.out.go g6⟩
          clear hb b6 g6
          go_wp2_with fail
          go_roundw
          case rel => exact ⟨k + 1, by omega, by go_num, by rw [HC.out], F6, _, O6.out.1.more (by omega), O6.out.2⟩
          case measure => simp [intOf]; omega

set_option maxRecDepth 100000 in
theorem lifted (os : Os) (started : os.Started) (H : Type) (enc : TypeId × Value → H) :
    ReturnsInHanded {} Try.checked os 7 .any (Rows.beatOwnSpec.pre6 enc Try.prog Try.f7 Rows.beatOwnRow.domain false) (Rows.beatOwnSpec.post enc Try.prog Try.f7 false true false false) := by
  refine returnsInHanded_of_change (C := Try.checked) own started (by kernel_rfl) Try.func7
    (ChangeSpec.witness6 (enc := enc) (C := Try.checked) false ⟨#[], #[.int .u8 0, .int .u8 0, .int .u8 0, .slice none 0 0, .int .u8 0], []⟩ 7 (by kernel_rfl) (by kernel_rfl) (by kernel_rfl) (by kernel_rfl)) ?_
  intro W base args ds gs before hval0 hW hcnd _
  have hval : ∀ (j : Nat) t v, Try.f7.params[j]? = some t → args[j]? = some v → Value.okWide Try.prog W .any base t v := hval0
  have hW' := hW
  obtain ⟨p, q, hA0, hV, rfl, hfz, hnd⟩ := hW
  have hA : DataW.TrodAll enc Try.prog W 0 (fun _ => true) true Try.f7.params.toList args.toList ds p := hA0
  rw [Try.params7] at hA hval
  obtain ⟨v0, vs0, d0, ds0, p0, q0, hargs0, rfl, rfl, h0, r0⟩ := trodAll_cons hA
  obtain ⟨v1, vs1, d1, ds1, p1, q1, hargs1, rfl, rfl, h1, r1⟩ := trodAll_cons r0
  obtain ⟨v2, vs2, d2, ds2, p2, q2, hargs2, rfl, rfl, h2, r2⟩ := trodAll_cons r1
  obtain ⟨v3, vs3, d3, ds3, p3, q3, hargs3, rfl, rfl, h3, r3⟩ := trodAll_cons r2
  obtain ⟨v4, vs4, d4, ds4, p4, q4, hargs4, rfl, rfl, h4, r4⟩ := trodAll_cons r3
  obtain ⟨rfl, rfl, rfl⟩ := trodAll_nil r4
  obtain rfl : args = #[v0, v1, v2, v3, v4] := by cases args; simp_all
  obtain ⟨rfl, rfl⟩ := trodVars_none hV
  obtain ⟨a0, rfl, rfl, rfl, w0⟩ := open_int Try.underlying5 (hval 0 5 v0 rfl rfl) h0
  obtain ⟨a1, rfl, rfl, rfl, w1⟩ := open_int Try.underlying5 (hval 1 5 v1 rfl rfl) h1
  obtain ⟨a2, rfl, rfl, rfl, w2⟩ := open_int Try.underlying5 (hval 2 5 v2 rfl rfl) h2
  obtain ⟨a3, len3, cap3, rfl⟩ := okWide_slice Try.underlying34 (hval 3 34 v3 rfl rfl)
  have k3 := h3
  have lt3 : ∀ x ∈ p3, x.block < W.heap.size := by obtain ⟨m, hm⟩ := k3; exact DataW.trod_lt m _ _ _ hm
  obtain ⟨xs3, hx3⟩ := open_nums Try.underlying34 Try.underlying5 cells5 (fun _ h => u8_of_wf h) (by omega) h3
  obtain ⟨a4, rfl, rfl, rfl, w4⟩ := open_int Try.underlying5 (hval 4 5 v4 rfl rfl) h4
  clear hA0 hval0
  obtain ⟨n0, rfl, hn0⟩ := u8_of_wf w0
  obtain ⟨n1, rfl, hn1⟩ := u8_of_wf w1
  obtain ⟨n2, rfl, hn2⟩ := u8_of_wf w2
  obtain ⟨n4, rfl, hn4⟩ := u8_of_wf w4
  refine (walk W n0 hn0 n1 hn1 n2 hn2 a3 len3 cap3 xs3 hx3 n4 hn4).mono fun e W' ⟨he, bel⟩ => ?_
  subst he
  exact ⟨_, rfl, _, _, _, [], _, [], hW', trodAll_mk1 (shut_bool Try.underlying4 _), (trodAll_cons_mk (shut_int Try.underlying5 w0) (trodAll_cons_mk (shut_int Try.underlying5 w1) (trodAll_cons_mk (shut_int Try.underlying5 w2) (trodAll_cons_mk (Below.trod laidOut (by kernel_rfl) (of_decide_eq_true (by kernel_rfl)) k3 bel lt3) (trodAll_cons_mk (shut_int Try.underlying5 w4) trodAll_mk0))))), rfl, bel.frame _, fun h => by cases h⟩

theorem over : Rows.beatOwnRow.holds Try.pinned (OpenSpec.ofChange Rows.beatOwnSpec) :=
  OpenClaim.holds_of_wide 7 Try.f7 rfl rfl rfl rfl rfl rfl rfl ⟨rfl, rfl, rfl, rfl, rfl⟩ rfl rfl rfl rfl rfl (by kernel_rfl) Try.func7 (by kernel_rfl)
    (of_decide_eq_true (by kernel_rfl)) (by unfold Func.isWrapper; first | (rw [if_pos (by decide +kernel)]; kernel_rfl) | (rw [if_neg (by decide +kernel)]; exact ⟨rfl, rfl⟩))
    (fun os started H enc _ => lifted os started H enc)

end Go.Proofs.Ytofhkfbibdkjgaa.beatOwn
namespace Go.Proofs.Ytofhkfbibdkjgaa
theorem beatOwn_holds : Rows.BeatOwnSaid := beatOwn.over
#print axioms beatOwn_holds
end Go.Proofs.Ytofhkfbibdkjgaa
