/-
  Proved: for every number most and every list of numbers l, RingKinds(most, l) returns true: rings of numbers, of truths and of texts are alike; the document's example holds. No condition.
-/
import Derived.Test.YtipgmdeehmjokaaRows
import Derived.Test.YtipgmdeehmjokaaRThree
namespace Go.Proofs.Ytipgmdeehmjokaa.ringKinds
open Go.ChangeShapes Go.WideShapes Go.ChangeAt Go.RowKit
open Go.ChangeMaps (open_string shut_string)
set_option linter.unusedVariables false

theorem cell_one (w : World) (x : Nat) : (w.alloc (.cells #[.int .u8 (x : Nat)] 5)).cell? ⟨w.heap.size, 0, none⟩ = some (num x) := by
  have hb : (w.alloc (.cells #[.int .u8 (x : Nat)] 5)).heap[w.heap.size]? = some (.cells #[.int .u8 (x : Nat)] 5 (0, 0)) := Deep.blk_alloc_new _ _
  unfold World.cell?; rw [hb]; rfl

theorem three_new {w w1 w2 w3 w4 : World} {m : Nat} (t1 : Turned (fun _ => False) w w1) (ra : Ring w2 5 w1.heap.size (.slice none 0 0) m 0 []) (t2 : Turned (fun _ => False) w1 w2) (rb : Ring w3 4 w2.heap.size (.slice none 0 0) m 0 []) (t3 : Turned (fun _ => False) w2 w3) (rc : Ring w4 49 w3.heap.size (.slice none 0 0) m 0 []) (t4 : Turned (fun _ => False) w3 w4) :
    Three w w4 w1.heap.size (.slice none 0 0) 0 w2.heap.size (.slice none 0 0) 0 w3.heap.size (.slice none 0 0) 0 m [] [] [] [] := by
  have ea : ∀ {p b : Nat}, Foot p (.slice none 0 0) b → b = p := by
    rintro p b (h | h)
    · exact h
    · cases h
  have l1 := ra.plt
  have l2 := rb.plt
  have s1 := t1.size
  have s2 := t2.size
  have s3 := t3.size
  exact {
    ra := (ra.turned t3 (fun _ _ hf => hf)).turned t4 (fun _ _ hf => hf)
    rb := rb.turned t4 (fun _ _ hf => hf)
    rc := rc
    boxes := ⟨rfl, fun j v y hv => by simp at hv⟩
    sab := fun b h1 h2 => by have := ea h1; have := ea h2; omega
    sac := fun b h1 h2 => by have := ea h1; have := ea h2; omega
    sbc := fun b h1 h2 => by have := ea h1; have := ea h2; omega
    turned := ((t1.trans t2 (fun _ hf => hf.elim)).trans t3 (fun _ hf => hf.elim)).trans t4 (fun _ hf => hf.elim)
    own := by
      rintro b (h | h | h)
      · have := ea h; omega
      · have := ea h; omega
      · have := ea h; omega }

set_option maxRecDepth 10000 in
set_option maxHeartbeats 4000000 in
theorem walk (w : World) (a0 : Nat) (h0 : a0 < 256) (a1 : Option Addr) (len cap : Nat) (xs : List Nat) (hx : Nums w .u8 a1 len 256 xs) :
    Calls Try.prog 7 #[.int .u8 (a0 : Nat), .slice a1 len cap] w fun e w' => e = .returned (.bool true) ∧ Below w.heap.size w w' := by
  have hmax := hx.max
  have HX : Hid (Nums w .u8 a1 len 256 xs) := hx
  clear hx
  obtain ⟨m, HM⟩ : ∃ m : Nat, Hid (m = 1 + a0 % 9) := ⟨_, rfl⟩
  have hm1 : 1 ≤ m := by have := HM.out; omega
  have hm2 : m ≤ 9 := by have := HM.out; omega
  have em : (1 : Int) + (a0 : Int) % 9 = (m : Int) := by have := HM.out; omega
  go_enter Try.func7, Try.ntmps7
  go_wp2_with fail
  refine (awake_any _).mono ?_
  rintro e w1 ⟨rfl, t1⟩
  go_wp2_with fail
  refine (newU_any _ m hm1 (by omega)).mono ?_
  rintro e w2 ⟨rfl, r2, t2⟩
  go_wp2_with fail
  refine (newB_any _ m hm1 (by omega)).mono ?_
  rintro e w3 ⟨rfl, r3, t3⟩
  go_wp2_with fail
  refine (newY_any _ m hm1 (by omega)).mono ?_
  rintro e w4 ⟨rfl, r4, t4⟩
  have th := three_new t1 r2 t2 r3 t3 r4 t4
  clear t1 r2 t2 r3 t3 r4 t4 em h0 HM
  go_wp2_with fail
  generalize w1.heap.size = pa at *
  generalize w2.heap.size = pb at *
  generalize w3.heap.size = pc at *
  go_loopw [12] (fun iv wr => ∃ (i fa fb fc : Nat) (sa sb sc : Value) (ys : List Nat) (zs : List Value), i ≤ len ∧ i ≤ 60 ∧ iv = .int .i64 i ∧ Three w wr pa sa fa pb sb fb pc sc fc m ys ys ys zs) (fun iv _ => 60 - (intOf iv).toNat)
  case atStart => exact ⟨0, 0, 0, 0, _, _, _, [], [], by omega, by omega, rfl, th⟩
  case round =>
    clear th
    obtain ⟨i, fa, fb, fc, sa, sb, sc, ys, zs, hi, hi60, rfl, th⟩ := hrel
    by_cases hlt : i < len ∧ i < 60
    · obtain ⟨hlt1, hlt2⟩ := hlt
      have hltI : (i : Int) < len := by omega
      have hltI2 : (i : Int) < 60 := by omega
      obtain ⟨ad, rfl, _, hc⟩ := (HX.out.turned th.turned).cell (by omega)
      have hci := hc i hlt1
      have hx256 := HX.out.lt i
      clear hc
      obtain ⟨x, HXX⟩ : ∃ x, Hid (xs.getD i 0 = x) := ⟨_, rfl⟩
      have ex := HXX.out
      rw [ex] at hci hx256
      clear ex
      by_cases h3 : x % 3 = 0
      · have h3I : (x : Int) % 3 = 0 := by omega
        cases ys with
        | nil =>
          obtain rfl : zs = [] := List.length_eq_zero_iff.1 th.boxes.1
          go_wp2_with fail
          refine (takeU_none th.ra).mono ?_
          rintro e w5 ⟨rfl, rfl⟩
          go_wp2_with fail
          refine (takeB_none th.rb).mono ?_
          rintro e w5 ⟨rfl, rfl⟩
          go_wp2_with fail
          refine (takeY_none th.rc).mono ?_
          rintro e w5 ⟨rfl, rfl⟩
          go_wp2
          go_roundw
          case rel => first | exact ⟨i + 1, fa, fb, fc, sa, sb, sc, [], [], by omega, by omega, by go_num, th⟩ | ((repeat apply Exists.intro); exact ⟨⟨i + 1, fa, fb, fc, sa, sb, sc, [], [], by omega, by omega, by go_num, th⟩, rfl⟩)
          case measure => simp [intOf]; omega
        | cons y ys =>
          go_wp2_with fail
          refine (takeU_any th.ra).mono ?_
          rintro e w5 ⟨rfl, sa5, fa5, r5, g5⟩
          have th5 := th.goA g5 r5
          clear th r5 g5
          go_wp2_with fail
          refine (takeB_any th5.rb).mono ?_
          rintro e w6 ⟨rfl, sb6, fb6, r6, g6⟩
          have th6 := th5.goB g6 r6
          clear th5 r6 g6
          obtain ⟨g, zs', rfl, hgc, hgf, hbx⟩ := th6.boxes.cons
          go_wp2_with fail
          refine (takeY_any th6.rc).mono ?_
          rintro e w7 ⟨rfl, sc7, fc7, r7, g7⟩
          have th7 := th6.goC g7 hbx r7
          have hgc7 : w7.cell? ⟨g, 0, none⟩ = some (.int .u8 (y : Nat)) := by
            rw [cell_block (g7.turned.block g (World.block_lt_of_cell? w6 _ hgc) (fun hf => hgf (.inr (.inr hf))))]; exact hgc
          clear th6 r7 g7 hgc hbx hgf
          simp only [num, big]
          go_wp2
          go_roundw
          case rel => first | exact ⟨i + 1, fa5, fb6, fc7, sa5, sb6, sc7, ys, zs', by omega, by omega, by go_num, th7⟩ | ((repeat apply Exists.intro); exact ⟨⟨i + 1, fa5, fb6, fc7, sa5, sb6, sc7, ys, zs', by omega, by omega, by go_num, th7⟩, rfl⟩)
          case measure => simp [intOf]; omega
      · have h3I : ¬ ((x : Int) % 3 = 0) := by omega
        have hcw : ∀ {w' : World}, Turned (fun _ => False) w w' → w'.cell? (ad.add i) = some (.int .u8 (x : Nat)) := fun {w'} t => by
          obtain ⟨ad', e1, _, hc⟩ := (HX.out.turned t).cell (by omega)
          cases e1
          have := hc i hlt1
          rwa [HXX.out] at this
        by_cases hroom : ys.length < m
        · go_wp2_with fail
          refine (putU_any th.ra (by rw [List.length_map]; exact hroom) _ (one_int _ _)).mono ?_
          rintro e w5 ⟨rfl, sa5, fa5, r5, g5⟩
          have th5 := th.goA (ya' := ys ++ [x]) g5 (by rw [List.map_append]; exact r5)
          clear th r5 g5 hci
          have hci := hcw th5.turned
          go_wp2_with fail
          refine (putB_any th5.rb (by rw [List.length_map]; exact hroom) _ (one_bool _)).mono ?_
          rintro e w6 ⟨rfl, sb6, fb6, r6, g6⟩
          have th6 := th5.goB (yb' := ys ++ [x]) g6 (by rw [List.map_append]; exact r6)
          clear th5 r6 g6 hci
          have hci := hcw th6.turned
          have tal : ∀ o, Turned (fun _ => False) w6 (w6.alloc o) := fun o => (Turned.refl _ w6).alloc o
          have th6' := fun o => th6.still (F := fun _ => False) (tal o)
          have hbn : ∀ o, Boxes (w6.alloc o) (fun b => Foot pa sa5 b ∨ Foot pb sb6 b ∨ Foot pc sc b) zs ys := fun o => (th6' o).boxes
          have hfresh : ¬ (Foot pa sa5 w6.heap.size ∨ Foot pb sb6 w6.heap.size ∨ Foot pc sc w6.heap.size) := by
            rintro (h | h | h)
            · have := th6.ra.foot_lt _ h; omega
            · have := th6.rb.foot_lt _ h; omega
            · have := th6.rc.foot_lt _ h; omega
          have hzl : zs.length = ys.length := th6.boxes.1
          clear th6 tal
          go_wp2_with fail
          refine (putY_any (th6' _).rc (by rw [hzl]; exact hroom) _ (one_slice _ _ _)).mono ?_
          rintro e w7 ⟨rfl, sc7, fc7, r7, g7⟩
          have th7 := (th6' _).goC g7 ((hbn _).snoc (g := w6.heap.size) (y := x) (by exact cell_one w6 x) hfresh) r7
          clear th6' r7 g7 hbn hfresh hcw hci
          go_wp2
          go_roundw
          case rel => first | exact ⟨i + 1, fa5, fb6, fc7, sa5, sb6, sc7, _, _, by omega, by omega, by go_num, th7⟩ | ((repeat apply Exists.intro); exact ⟨⟨i + 1, fa5, fb6, fc7, sa5, sb6, sc7, _, _, by omega, by omega, by go_num, th7⟩, rfl⟩)
          case measure => simp [intOf]; omega
        · have hfull : ys.length = m := by have := th.ra.le; rw [List.length_map] at this; omega
          have hzl : zs.length = ys.length := th.boxes.1
          go_wp2_with fail
          refine (putU_busy th.ra (by rw [List.length_map]; exact hfull) _).mono ?_
          rintro e w5 ⟨rfl, q5, rfl⟩
          have th5 := th.still (F := fun _ => False) ((Turned.refl _ _).drewN q5)
          clear th hci
          generalize wr.drewN q5 = w5 at *
          have hci := hcw th5.turned
          go_wp2_with fail
          refine (putB_busy th5.rb (by rw [List.length_map]; exact hfull) _).mono ?_
          rintro e w6 ⟨rfl, q6, rfl⟩
          have th6 := th5.still (F := fun _ => False) ((Turned.refl _ _).drewN q6)
          clear th5 hci
          generalize w5.drewN q6 = w6 at *
          have hci := hcw th6.turned
          go_wp2_with fail
          have th7 := fun o => th6.still (F := fun _ => False) ((Turned.refl _ _).alloc o)
          clear th6
          refine (putY_busy (th7 _).rc (by rw [hzl]; exact hfull) _).mono ?_
          rintro e w7 ⟨rfl, q7, rfl⟩
          have th8 := (th7 (.cells #[.int .u8 (x : Nat)] 5)).still (F := fun _ => False) ((Turned.refl _ _).drewN q7)
          clear th7 hcw hci
          go_wp2
          go_roundw
          case rel => first | exact ⟨i + 1, fa, fb, fc, sa, sb, sc, ys, zs, by omega, by omega, by go_num, th8⟩ | ((repeat apply Exists.intro); exact ⟨⟨i + 1, fa, fb, fc, sa, sb, sc, ys, zs, by omega, by omega, by go_num, th8⟩, rfl⟩)
          case measure => simp [intOf]; omega
    · have hla := lenU_any th.ra
      have hlb := lenB_any th.rb
      have hlc := lenY_any th.rc
      rw [List.length_map] at hla hlb
      rw [th.boxes.1] at hlc
      have hb : Below w.heap.size w wr := th.turned.below (Nat.le_refl _) (fun _ hf => hf.elim)
      have hor : ((i : Int) < len ∧ ¬ ((i : Int) < 60)) ∨ ¬ ((i : Int) < len) := by omega
      clear th
      generalize ys.length = Y at *
      rcases hor with ⟨h4, h5⟩ | h5
      all_goals
        go_wp2_with fail
        refine hla.mono ?_
        rintro e w5 ⟨rfl, rfl⟩
        go_wp2_with fail
        refine hlb.mono ?_
        rintro e w5 ⟨rfl, rfl⟩
        go_wp2_with fail
        refine hlb.mono ?_
        rintro e w5 ⟨rfl, rfl⟩
        go_wp2_with fail
        refine hlc.mono ?_
        rintro e w5 ⟨rfl, rfl⟩
        go_wp2
        go_ret
        exact ⟨rfl, hb⟩

set_option maxRecDepth 100000 in
theorem lifted (os : Os) (started : os.Started) (H : Type) (enc : TypeId × Value → H) :
    ReturnsInHanded {} Try.checked os 7 .any (Rows.ringKindsSpec.pre6 enc Try.prog Try.f7 Rows.ringKindsRow.domain false) (Rows.ringKindsSpec.post enc Try.prog Try.f7 false true false false) := by
  refine returnsInHanded_of_change (C := Try.checked) own started (by kernel_rfl) Try.func7
    (ChangeSpec.witness6 (enc := enc) (C := Try.checked) false ⟨#[], #[.int .u8 0, .slice none 0 0], []⟩ 7 (by kernel_rfl) (by kernel_rfl) (by kernel_rfl) (by kernel_rfl)) ?_
  intro W base args ds gs before hval0 hW hcnd _
  have hval : ∀ (j : Nat) t v, Try.f7.params[j]? = some t → args[j]? = some v → Value.okWide Try.prog W .any base t v := hval0
  have hW' := hW
  obtain ⟨p, q, hA0, hV, rfl, hfz, hnd⟩ := hW
  have hA : DataW.TrodAll enc Try.prog W 0 (fun _ => true) true Try.f7.params.toList args.toList ds p := hA0
  rw [Try.params7] at hA hval
  obtain ⟨v0, vs0, d0, ds0, p0, q0, hargs0, rfl, rfl, h0, r0⟩ := trodAll_cons hA
  obtain ⟨v1, vs1, d1, ds1, p1, q1, hargs1, rfl, rfl, h1, r1⟩ := trodAll_cons r0
  obtain ⟨rfl, rfl, rfl⟩ := trodAll_nil r1
  obtain rfl : args = #[v0, v1] := by cases args; simp_all
  obtain ⟨rfl, rfl⟩ := trodVars_none hV
  obtain ⟨a0, rfl, rfl, rfl, w0⟩ := open_int Try.underlying5 (hval 0 5 v0 rfl rfl) h0
  obtain ⟨a1, len1, cap1, rfl⟩ := okWide_slice Try.underlying49 (hval 1 49 v1 rfl rfl)
  have k1 := h1
  have lt1 : ∀ x ∈ p1, x.block < W.heap.size := by obtain ⟨m, hm⟩ := k1; exact DataW.trod_lt m _ _ _ hm
  obtain ⟨xs1, hx1⟩ := open_nums Try.underlying49 Try.underlying5 cells5 (fun _ h => u8_of_wf h) (by omega) h1
  clear hA0 hval0
  obtain ⟨n0, rfl, hn0⟩ := u8_of_wf w0
  refine (walk W n0 hn0 a1 len1 cap1 xs1 hx1).mono fun e W' ⟨he, bel⟩ => ?_
  subst he
  exact ⟨_, rfl, _, _, _, [], _, [], hW', trodAll_mk1 (shut_bool Try.underlying4 _), (trodAll_cons_mk (shut_int Try.underlying5 w0) (trodAll_cons_mk (Below.trod laidOut (by kernel_rfl) (of_decide_eq_true (by kernel_rfl)) k1 bel lt1) trodAll_mk0)), rfl, bel.frame _, fun h => by cases h⟩

theorem over : Rows.ringKindsRow.holds Try.pinned (OpenSpec.ofChange Rows.ringKindsSpec) :=
  OpenClaim.holds_of_wide 7 Try.f7 rfl rfl rfl rfl rfl rfl rfl ⟨rfl, rfl, rfl, rfl, rfl⟩ rfl rfl rfl rfl rfl (by kernel_rfl) Try.func7 (by kernel_rfl)
    (of_decide_eq_true (by kernel_rfl)) (by unfold Func.isWrapper; first | (rw [if_pos (by decide +kernel)]; kernel_rfl) | (rw [if_neg (by decide +kernel)]; exact ⟨rfl, rfl⟩))
    (fun os started H enc _ => lifted os started H enc)

end Go.Proofs.Ytipgmdeehmjokaa.ringKinds
namespace Go.Proofs.Ytipgmdeehmjokaa
theorem ringKinds_holds : Rows.RingKindsSaid := ringKinds.over
#print axioms ringKinds_holds
end Go.Proofs.Ytipgmdeehmjokaa
