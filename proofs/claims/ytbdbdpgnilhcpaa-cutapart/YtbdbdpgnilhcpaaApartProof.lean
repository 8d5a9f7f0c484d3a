/-
  Proved: for all lists of states a and b and every view's number v, CutApart(a, b, v) returns true: states of one view don't touch what those of another one have; the document's example holds. No condition.
-/
import Derived.Test.YtbdbdpgnilhcpaaRows
import Derived.Test.YtbdbdpgnilhcpaaSApart
namespace Go.Proofs.Ytbdbdpgnilhcpaa.cutApart
open Go.ChangeShapes Go.WideShapes Go.ChangeAt Go.RowKit Go.Joins
set_option linter.unusedVariables false
set_option linter.unusedSimpArgs false

/-- a's states, as of v. -/
def mineL (vn : Nat) (vp : Int) (ss : List Sx) : List Sx := ss.map (fun x => (vn, vp, x.2.2))
theorem mineL_get {vn : Nat} {vp : Int} {ss : List Sx} {i : Nat} {x : Sx} (h : ss[i]? = some x) : (mineL vn vp ss)[i]? = some (vn, vp, x.2.2) := by unfold mineL; rw [List.getElem?_map, h]; rfl
/-- What lies in a row says what its pairs say. -/
def Va (w : World) (q : Pr) : Prop := Its (fun _ => True) w q.1.2.2.2.1 q.1.2.2.2.2.1 q.2 ∧ OkS q.1
theorem pairs_sts {w w' : World} {bo : Option Addr} {k : Nat} {q : Nat → Prop} {Q : List Pr} (h : ∀ x ∈ Q, Va w x) (hu : Below w.heap.size w w') (hs : SR q w' bo k (Q.map (·.1))) : Sts (fun _ => True) w' bo k (Q.map (·.1)) (Q.map (·.2)) := by
  refine ⟨hs.imp (fun _ _ _ => trivial), by rw [← hs.1]; simp, fun j x e hx he => ?_⟩
  rw [List.getElem?_map] at hx he
  obtain ⟨y, hy, rfl⟩ := Option.map_eq_some_iff.1 hx
  rw [hy] at he
  simp at he
  subst he
  exact (h y (List.mem_of_getElem? hy)).1.keep (Kp.up hu)

theorem sr_one2 (w : World) (o : Obj) (x : Sx) : SR (fun _ => True) ((w.alloc o).alloc (.cells #[.int .u64 (x.1 : Nat), .int .i64 x.2.1, .int .i64 x.2.2.1, .slice x.2.2.2.1 x.2.2.2.2.1 x.2.2.2.2.2] 31)) (some ⟨w.heap.size + 1, 0, none⟩) 1 [x] := by
  have := SR.one (w.alloc o) x
  have e : (w.alloc o).heap.size = w.heap.size + 1 := by simp
  rw [e] at this
  exact this
theorem bl_two {w w' : World} {B : Nat} (h : Below B w w') (hB : B ≤ w'.heap.size) (o o' : Obj) : Below B w ((w'.alloc o).alloc o') := (h.alloc hB o).alloc (by simp; omega) o'

set_option maxRecDepth 10000 in
set_option maxHeartbeats 4000000 in
theorem walk (w : World) (ao : Option Addr) (n cap : Nat) (ss : List Sx) (es : List (List Di)) (h : Sts (fun _ => True) w ao n ss es) (hg : ∀ x ∈ ss, Good x) (hz : ao = none → n = 0 ∧ cap = 0) (hc : n ≤ cap) (hd : cap ≤ 9223372036854775807)
    (bo : Option Addr) (nb capb : Nat) (sb : List Sx) (eb : List (List Di)) (hB : Sts (fun _ => True) w bo nb sb eb) (hgb : ∀ x ∈ sb, Good x) (hzb : bo = none → nb = 0 ∧ capb = 0) (hcb : nb ≤ capb) (hdb : capb ≤ 9223372036854775807) (vn : Nat) (hvn : vn < 18446744073709551616) (vp : Int) (hvp : In vp) :
    Calls Try.prog 8 #[.slice ao n cap, .slice bo nb capb, .agg #[.int .u64 (vn : Nat), .int .i64 vp]] w fun e w' => e = .returned (.bool true) ∧ Below w.heap.size w w' := by
  obtain ⟨w0, hw0⟩ : ∃ w0, w.alloc (.cells #[.int .u64 (vn : Nat), .int .i64 vp] 28) = w0 := ⟨_, rfl⟩
  have k0 : w0.cell? ⟨w.heap.size, 0, none⟩ = some (.int .u64 (vn : Nat)) := by rw [← hw0]; exact cell_box w _ 28 0 _ rfl
  have k1 : w0.cell? ⟨w.heap.size, 1, none⟩ = some (.int .i64 vp) := by rw [← hw0]; exact cell_box w _ 28 1 _ rfl
  have hb0 : Below w.heap.size w w0 := by rw [← hw0]; exact bl1 _ _
  have HS : Hid (Sts (fun _ => True) w ao n ss es ∧ Sts (fun _ => True) w bo nb sb eb ∧ ∀ x ∈ sb, Good x) := ⟨h, hB, hgb⟩
  have cl : ∀ {a b : World} {ad : Addr} {v : Value}, Below a.heap.size a b → a.cell? ad = some v → b.cell? ad = some v := fun {a b ad v} u hc => Kp.up (p := fun _ => True) u _ _ trivial hc
  have CL : Hid _ := @cl
  clear h hg hz hc cl hvp hB hgb hzb hcb
  go_enter Try.func8, Try.ntmps8
  go_wp2_with fail
  (try simp only [hw0])
  refine (awake_any _).mono ?_
  rintro e w1 ⟨rfl, hb1⟩
  have hb01 := bl_step hb0 hb1
  have hri := right_any (fun _ => True) w1 ao n cap ss (HS.out.1.1.up hb01)
  obtain ⟨ra, HRA⟩ : ∃ ra, Hid (rightB ss n = ra) := ⟨_, rfl⟩
  rw [HRA.out] at hri
  have k0 := CL.out hb1 k0
  have k1 := CL.out hb1 k1
  clear hb0 hb1 hw0
  go_wp2_with fail
  refine hri.mono ?_
  rintro e w2 ⟨rfl, hu2⟩
  have hb02 := bl_step hb01 hu2.bl
  have k0 := CL.out hu2.bl k0
  have k1 := CL.out hu2.bl k1
  clear hri hb01 hu2
  cases ra with
  | false =>
    clear HRA HS
    go_wp2_with fail
    refine (awake_any _).mono ?_
    rintro e w3 ⟨rfl, hb3⟩
    have hb03 := bl_step hb02 hb3
    clear hb02 hb3 k0 k1
    go_wp2
    go_ret
    exact ⟨rfl, hb03⟩
  | true =>
    obtain ⟨hfl, h40⟩ := right_true HRA.out
    have hrb := right_any (fun _ => True) w2 bo nb capb sb (HS.out.2.1.1.up hb02)
    obtain ⟨rb, HRB⟩ : ∃ rb, Hid (rightB sb nb = rb) := ⟨_, rfl⟩
    rw [HRB.out] at hrb
    clear HRA
    go_wp2_with fail
    refine hrb.mono ?_
    rintro e w3 ⟨rfl, hu3⟩
    have hb03 := bl_step hb02 hu3.bl
    have k0 := CL.out hu3.bl k0
    have k1 := CL.out hu3.bl k1
    clear hrb hb02 hu3
    cases rb with
    | false =>
      clear HRB HS hfl
      go_wp2_with fail
      refine (awake_any _).mono ?_
      rintro e w4 ⟨rfl, hb4⟩
      have hb04 := bl_step hb03 hb4
      clear hb03 hb4 k0 k1
      go_wp2
      go_ret
      exact ⟨rfl, hb04⟩
    | true =>
      obtain ⟨hflb, h40b⟩ := right_true HRB.out
      clear HRB
      by_cases hv0 : vn = 0
      · subst hv0
        clear HS hfl hflb
        go_wp2_with fail
        refine (awake_any _).mono ?_
        rintro e w4 ⟨rfl, hb4⟩
        have hb04 := bl_step hb03 hb4
        clear hb03 hb4 k0 k1
        go_wp2
        go_ret
        exact ⟨rfl, hb04⟩
      · have hv0I : ((vn : Int) == 0) = false := by simp; omega
        have HV0 : Hid (vn ≠ 0) := hv0
        have hoka := HS.out.1.ok hfl
        have hokb := HS.out.2.1.ok hflb
        have HA3 : Hid (Sts (fun _ => True) w3 ao n ss es ∧ ∀ x ∈ ss, OkS x) := ⟨HS.out.1.up hb03, hoka⟩
        have HB3 : Hid (Sts (fun _ => True) w3 bo nb sb eb ∧ (∀ x ∈ sb, OkS x) ∧ ∀ x ∈ sb, Good x) := ⟨HS.out.2.1.up hb03, hokb, HS.out.2.2⟩
        have hsl := HS.out.1.1.1
        have hsbl := HS.out.2.1.1.1
        clear HS hfl hflb hv0 hoka hokb
        go_wp2_with fail
        go_loopw [7, 9, 10] (fun mv iv _ wr => ∃ i : Nat, i ≤ n ∧ iv = .int .i64 (i : Nat) ∧ wr.ownsRow w3.heap.size 31 4 mv i (flat ((mineL vn vp ss).take i)) ∧ Below w3.heap.size w3 wr) (fun _ iv _ _ => n - (intOf iv).toNat)
        case atStart => exact ⟨0, by omega, rfl, World.ownsRow_nil _ _ _ _, Below.refl _ _⟩
        case round =>
          obtain ⟨i, hi, rfl, hown, hb⟩ := hrel
          obtain ⟨mo, mcap, rfl, hsrm, _⟩ := SR.own hown
          have k0r := CL.out hb k0
          have k1r := CL.out hb k1
          by_cases hlt : i < n
          · have hltI : (i : Int) < (n : Int) := by omega
            have hi0 : ¬ ((i : Int) < 0) := by omega
            obtain ⟨x, hx⟩ : ∃ x, ss[i]? = some x := ⟨ss[i]'(by omega), List.getElem?_eq_getElem (by omega)⟩
            obtain ⟨b, off, hao, _, hc⟩ := (HA3.out.1.1.up hb).2.2.2 (by omega)
            subst hao
            obtain ⟨c0, c1, c2, c3⟩ := hc i x hx
            have HTK : Hid ((mineL vn vp ss).take (i + 1) = (mineL vn vp ss).take i ++ [(vn, vp, x.2.2)]) := by show _ = _; rw [List.take_add_one, mineL_get hx]; rfl
            have hSx := fun W o => sr_one2 W o (vn, vp, x.2.2)
            simp only at hSx
            have ho1 := fun o o' => (hown.alloc o).alloc o'
            have hlt1 : ∀ g, (Value.slice mo i mcap).ownBlock = some g → w3.heap.size ≤ g := fun g hg => (hown.lt g hg).1
            have k0a := CL.out (bl1 wr (.cells #[.int .u64 (x.1 : Nat), .int .i64 x.2.1, .int .i64 x.2.2.1, .slice x.2.2.2.1 x.2.2.2.2.1 x.2.2.2.2.2] 31)) k0r
            have k1a := CL.out (bl1 wr (.cells #[.int .u64 (x.1 : Nat), .int .i64 x.2.1, .int .i64 x.2.2.1, .slice x.2.2.2.1 x.2.2.2.2.1 x.2.2.2.2.2] 31)) k1r
            clear hc hx hsrm hown
            go_upto_region 9 with fail
            go_wp2_with (at_builtin; refine wpList_append_S rfl (.tmp 48) (.tmp 50) rfl w3.heap.size _ i ((mineL vn vp ss).take i) rfl ?_ (fun _ => True) (some ⟨wr.heap.size + 1, 0, none⟩) 1 1 [(vn, vp, x.2.2)] rfl ?_ ?_ ?_ ?_ ?_)
            all_goals first | (exact ho1 _ _) | (exact hSx _ _) | (exact fun (e : (some _ : Option Addr) = none) => nomatch e) | omega | (have := hb.size; simp; omega) | skip
            intro v' w5 hown5 hg5
            have hb5 : Below w3.heap.size w3 w5 := bl_grown (bl_two hb hb.size _ _) (by have := hb.size; simp; omega) hg5 hlt1
            have HE : Hid (w5.ownsRow w3.heap.size 31 4 v' (i + 1) (flat ((mineL vn vp ss).take (i + 1)))) := by rw [HTK.out]; exact hown5
            clear hown5 hg5 ho1 hlt1 hSx k0a k1a k0r k1r c0 c1 c2 c3 HTK hb
            go_wp2
            go_roundw
            case rel => first | exact ⟨i + 1, by omega, by go_num, HE.out, hb5⟩ | ((repeat apply Exists.intro); exact ⟨⟨i + 1, by omega, by go_num, HE.out, hb5⟩, rfl⟩)
            case measure => simp [intOf]; omega
          · have hin : i = n := by omega
            have hltI : ¬ ((i : Int) < (n : Int)) := by omega
            have hml : (mineL vn vp ss).length = n := by simp [mineL]; omega
            rw [List.take_of_length_le (by omega)] at hown hsrm
            obtain ⟨w4, hw4⟩ : ∃ w4, w4 = wr := ⟨_, rfl⟩
            have HM4 : Hid (w4.ownsRow w3.heap.size 31 4 (.slice mo i mcap) i (flat (mineL vn vp ss)) ∧ Below w3.heap.size w3 w4) := by rw [hw4]; exact ⟨hown, hb⟩
            have hs34 : w3.heap.size ≤ w4.heap.size := HM4.out.2.size
            obtain ⟨PM, hPM⟩ : ∃ PM : List Pr, (mineL vn vp ss).zip es = PM := ⟨_, rfl⟩
            have HPM : Hid (PM.length = n ∧ PM.map (·.1) = mineL vn vp ss ∧ PM.map (·.2) = es ∧ (∀ q ∈ PM, Va w3 q ∧ ofV vn vp q = true)) := by
              have hel := HA3.out.1.2.1
              refine ⟨by rw [← hPM, List.length_zip]; omega, by rw [← hPM]; exact List.map_fst_zip (by omega), by rw [← hPM]; exact List.map_snd_zip (by omega), fun q hq => ?_⟩
              rw [← hPM] at hq
              obtain ⟨j, hj⟩ := List.mem_iff_getElem?.1 hq
              rw [List.getElem?_zip_eq_some] at hj
              obtain ⟨h1, h2⟩ := hj
              unfold mineL at h1
              rw [List.getElem?_map] at h1
              obtain ⟨x, hx, e⟩ := Option.map_eq_some_iff.1 h1
              refine ⟨⟨?_, ?_⟩, ?_⟩
              · rw [← e]; exact HA3.out.1.2.2 j x q.2 hx h2
              · have := HA3.out.2 x (List.mem_of_getElem? hx)
                rw [← e]; exact this
              · unfold ofV; rw [← e]; simp
            clear hPM hown hsrm
            subst hw4
            clear hb
            go_wp2_with fail
            go_loopw [8, 11, 12] (fun av iv _ wr => ∃ (j : Nat) (Q : List Pr), j ≤ nb ∧ iv = .int .i64 (j : Nat) ∧ Q.length ≤ 2 * j ∧ Q.filter (ofV vn vp) = PM.take j ∧ (∀ q ∈ Q, Va w3 q) ∧ wr.ownsRow w4.heap.size 31 4 av Q.length (flat (Q.map (·.1))) ∧ Below w4.heap.size w4 wr) (fun _ iv _ _ => nb - (intOf iv).toNat)
            case atStart => exact ⟨0, [], by omega, rfl, by simp, by simp, by simp, World.ownsRow_nil _ _ _ _, Below.refl _ _⟩
            case round =>
              obtain ⟨j, Q, hj, rfl, hQl, hQf, hQv, hownq, hbq⟩ := hrel
              obtain ⟨qo, qcap, rfl, hsrq, _⟩ := SR.own hownq
              have k0q := CL.out hbq k0r
              have k1q := CL.out hbq k1r
              have HQ : Hid (Q.filter (ofV vn vp) = PM.take j ∧ ∀ q ∈ Q, Va w3 q) := ⟨hQf, hQv⟩
              clear hQf hQv
              by_cases hltb : j < nb
              · have hltbI : (j : Int) < (nb : Int) := by omega
                have hj0 : ¬ ((j : Int) < 0) := by omega
                obtain ⟨y, hy⟩ : ∃ y, sb[j]? = some y := ⟨sb[j]'(by omega), List.getElem?_eq_getElem (by omega)⟩
                obtain ⟨ey, hey⟩ : ∃ e, eb[j]? = some e := ⟨eb[j]'(by have := HB3.out.1.2.1; omega), List.getElem?_eq_getElem _⟩
                obtain ⟨b2, off2, hbo, _, hc2⟩ := (HB3.out.1.1.up (bl_step HM4.out.2 hbq)).2.2.2 (by omega)
                subst hbo
                obtain ⟨c0, c1, c2, c3⟩ := hc2 j y hy
                have heq := fun W => vid_equal y.1 y.2.1 vn vp W
                have HY : Hid (y ∈ sb ∧ Its (fun _ => True) w3 y.2.2.2.1 y.2.2.2.2.1 ey) := ⟨List.mem_of_getElem? hy, HB3.out.1.2.2 j y ey hy hey⟩
                have k0a := CL.out (bl1 wr (.cells #[.int .u64 (y.1 : Nat), .int .i64 y.2.1, .int .i64 y.2.2.1, .slice y.2.2.2.1 y.2.2.2.2.1 y.2.2.2.2.2] 31)) k0q
                have k1a := CL.out (bl1 wr (.cells #[.int .u64 (y.1 : Nat), .int .i64 y.2.1, .int .i64 y.2.2.1, .slice y.2.2.2.1 y.2.2.2.2.1 y.2.2.2.2.2] 31)) k1q
                clear hc2 hy hey
                cases he : decide (y.1 = vn ∧ y.2.1 = vp) with
                | true =>
                  simp only [he] at heq
                  obtain ⟨z, hz⟩ : ∃ z : Nat, (y.1 + 1) % 18446744073709551616 = z := ⟨_, rfl⟩
                  have hwr : IntKind.u64.wrap ((y.1 : Int) + 1) = (z : Int) := by rw [IntKind.wrap_u64]; omega
                  have HZ : Hid (z ≠ vn) := by
                    have h1 : y.1 = vn ∧ y.2.1 = vp := by simpa using he
                    show z ≠ vn
                    omega
                  clear he hz
                  go_upto_region 16 with fail
                  have hBv : Va w3 (((z, y.2.1, y.2.2) : Sx), ey) := ⟨HY.out.2, HB3.out.2.1 y HY.out.1⟩
                  have hBo : ofV vn vp (((z, y.2.1, y.2.2) : Sx), ey) = false := by unfold ofV; simp; intro h; exact absurd h HZ.out
                  have HBX : Hid (Va w3 (((z, y.2.1, y.2.2) : Sx), ey) ∧ ofV vn vp (((z, y.2.1, y.2.2) : Sx), ey) = false) := ⟨hBv, hBo⟩
                  clear hBv hBo hwr HY heq k0a k1a c0 c1 c2 c3
                  by_cases hjn : j < i
                  · have hjnI : (j : Int) < (i : Int) := by omega
                    obtain ⟨pm, hpm⟩ : ∃ pm, PM[j]? = some pm := ⟨PM[j]'(by have := HPM.out.1; omega), List.getElem?_eq_getElem _⟩
                    obtain ⟨mo', mc', e1, hsrm, _⟩ := SR.own HM4.out.1
                    simp only [Value.slice.injEq] at e1
                    obtain ⟨rfl, _, rfl⟩ := e1
                    have hW1 : Below w4.heap.size w4 (wr.alloc (.cells #[.int .u64 (z : Nat), .int .i64 y.2.1, .int .i64 y.2.2.1, .slice y.2.2.2.1 y.2.2.2.2.1 y.2.2.2.2.2] 31)) := hbq.alloc hbq.size _
                    obtain ⟨bm, om, hmo, _, hcm⟩ := (hsrm.up hW1).2.2.2 (by omega)
                    subst hmo
                    have hmj : (mineL vn vp ss)[j]? = some pm.1 := by rw [← HPM.out.2.1, List.getElem?_map, hpm]; rfl
                    obtain ⟨m0, m1, m2, m3⟩ := hcm j pm.1 hmj
                    have HPJ : Hid (PM.take (j + 1) = PM.take j ++ [pm] ∧ Va w3 pm ∧ ofV vn vp pm = true) := ⟨by rw [List.take_add_one, hpm]; rfl, (HPM.out.2.2.2 pm (List.mem_of_getElem? hpm)).1, (HPM.out.2.2.2 pm (List.mem_of_getElem? hpm)).2⟩
                    have hSm := sr_one2 wr (.cells #[.int .u64 (z : Nat), .int .i64 y.2.1, .int .i64 y.2.2.1, .slice y.2.2.2.1 y.2.2.2.2.1 y.2.2.2.2.2] 31) pm.1
                    have ho1 := (hownq.alloc (.cells #[.int .u64 (z : Nat), .int .i64 y.2.1, .int .i64 y.2.2.1, .slice y.2.2.2.1 y.2.2.2.2.1 y.2.2.2.2.2] 31)).alloc (.cells #[.int .u64 (pm.1.1 : Nat), .int .i64 pm.1.2.1, .int .i64 pm.1.2.2.1, .slice pm.1.2.2.2.1 pm.1.2.2.2.2.1 pm.1.2.2.2.2.2] 31)
                    have hlt1 : ∀ g, (Value.slice qo Q.length qcap).ownBlock = some g → w4.heap.size ≤ g ∧ g < wr.heap.size := fun g hg => hownq.lt g hg
                    have hbox0 : (wr.alloc (.cells #[.int .u64 (z : Nat), .int .i64 y.2.1, .int .i64 y.2.2.1, .slice y.2.2.2.1 y.2.2.2.2.1 y.2.2.2.2.2] 31)).cell? ⟨wr.heap.size, 0, none⟩ = _ := cell_box wr #[.int .u64 (z : Nat), .int .i64 y.2.1, .int .i64 y.2.2.1, .slice y.2.2.2.1 y.2.2.2.2.1 y.2.2.2.2.2] 31 0 _ rfl
                    have hbox1 : (wr.alloc (.cells #[.int .u64 (z : Nat), .int .i64 y.2.1, .int .i64 y.2.2.1, .slice y.2.2.2.1 y.2.2.2.2.1 y.2.2.2.2.2] 31)).cell? ⟨wr.heap.size, 1, none⟩ = _ := cell_box wr #[.int .u64 (z : Nat), .int .i64 y.2.1, .int .i64 y.2.2.1, .slice y.2.2.2.1 y.2.2.2.2.1 y.2.2.2.2.2] 31 1 _ rfl
                    have hbox2 : (wr.alloc (.cells #[.int .u64 (z : Nat), .int .i64 y.2.1, .int .i64 y.2.2.1, .slice y.2.2.2.1 y.2.2.2.2.1 y.2.2.2.2.2] 31)).cell? ⟨wr.heap.size, 2, none⟩ = _ := cell_box wr #[.int .u64 (z : Nat), .int .i64 y.2.1, .int .i64 y.2.2.1, .slice y.2.2.2.1 y.2.2.2.2.1 y.2.2.2.2.2] 31 2 _ rfl
                    have hbox3 : (wr.alloc (.cells #[.int .u64 (z : Nat), .int .i64 y.2.1, .int .i64 y.2.2.1, .slice y.2.2.2.1 y.2.2.2.2.1 y.2.2.2.2.2] 31)).cell? ⟨wr.heap.size, 3, none⟩ = _ := cell_box wr #[.int .u64 (z : Nat), .int .i64 y.2.1, .int .i64 y.2.2.1, .slice y.2.2.2.1 y.2.2.2.2.1 y.2.2.2.2.2] 31 3 _ rfl
                    have HBOX : Hid _ := And.intro hbox0 (And.intro hbox1 (And.intro hbox2 hbox3))
                    clear hbox0 hbox1 hbox2 hbox3 hcm hpm hmj hsrm hW1 hownq hsrq
                    go_upto_region 17 with fail
                    go_wp2_with (at_builtin; refine wpList_append_S rfl (.tmp 76) (.tmp 81) rfl w4.heap.size _ Q.length (Q.map (·.1)) rfl ?_ (fun _ => True) (some ⟨wr.heap.size + 1, 0, none⟩) 1 1 [pm.1] rfl ?_ ?_ ?_ ?_ ?_)
                    all_goals first | (exact ho1) | (exact hSm) | (exact fun (e : (some _ : Option Addr) = none) => nomatch e) | omega | (have := hbq.size; simp; omega) | skip
                    intro v5 w5 hown5 hg5
                    have hb5 : Below w4.heap.size w4 w5 := bl_grown (bl_two hbq hbq.size _ _) (by have := hbq.size; simp; omega) hg5 (fun g hg => (hlt1 g hg).1)
                    have hown5' : w5.ownsRow w4.heap.size 31 4 v5 (Q ++ [pm]).length (flat ((Q ++ [pm]).map (·.1))) := by simpa using hown5
                    have keepb : ∀ {k : Nat} {v : Value}, (wr.alloc (.cells #[.int .u64 (z : Nat), .int .i64 y.2.1, .int .i64 y.2.2.1, .slice y.2.2.2.1 y.2.2.2.2.1 y.2.2.2.2.2] 31)).cell? ⟨wr.heap.size, k, none⟩ = some v → w5.cell? ⟨wr.heap.size, k, none⟩ = some v := fun {k v} hcell => by
                      refine hg5.cell (CL.out (bl1 _ _) hcell) (fun e => ?_)
                      have := (hlt1 _ e.symm).2
                      simp at this
                    have x0 := keepb HBOX.out.1
                    have x1 := keepb HBOX.out.2.1
                    have x2 := keepb HBOX.out.2.2.1
                    have x3 := keepb HBOX.out.2.2.2
                    have HQ5 : Hid ((Q ++ [pm]).filter (ofV vn vp) = PM.take (j + 1) ∧ ∀ q ∈ Q ++ [pm], Va w3 q) := by
                      refine ⟨by rw [List.filter_append, HQ.out.1, HPJ.out.1]; simp [HPJ.out.2.2], fun q hq => ?_⟩
                      rw [List.mem_append] at hq
                      rcases hq with hq | hq
                      · exact HQ.out.2 q hq
                      · simp at hq; subst hq; exact HPJ.out.2.1
                    have hQ5l : (Q ++ [pm]).length ≤ 2 * j + 1 := by simp; omega
                    obtain ⟨Q5, hQ5⟩ : ∃ Q5, Q ++ [pm] = Q5 := ⟨_, rfl⟩
                    rw [hQ5] at hown5' HQ5 hQ5l
                    obtain ⟨qo5, qc5, rfl, hsr5, _⟩ := SR.own hown5'
                    have hSb := SR.one w5 ((z, y.2.1, y.2.2) : Sx)
                    have ho5 := hown5'.alloc (.cells #[.int .u64 (z : Nat), .int .i64 y.2.1, .int .i64 y.2.2.1, .slice y.2.2.2.1 y.2.2.2.2.1 y.2.2.2.2.2] 31)
                    have hlt5 : ∀ g, (Value.slice qo5 Q5.length qc5).ownBlock = some g → w4.heap.size ≤ g := fun g hg => (hown5'.lt g hg).1
                    (try simp only at hSb)
                    clear hown5 hg5 hown5' hsr5 hlt1 hQ5 HPJ ho1 hSm m0 m1 m2 m3 keepb HBOX hbq HQ
                    go_upto_region 18 with fail
                    go_wp2_with (at_builtin; refine wpList_append_S rfl (.tmp 83) (.tmp 85) rfl w4.heap.size _ Q5.length (Q5.map (·.1)) rfl ?_ (fun _ => True) (some ⟨w5.heap.size, 0, none⟩) 1 1 [((z, y.2.1, y.2.2) : Sx)] rfl ?_ ?_ ?_ ?_ ?_)
                    all_goals first | (exact ho5) | (exact hSb) | (exact fun (e : (some _ : Option Addr) = none) => nomatch e) | omega | (have := hb5.size; simp; omega) | skip
                    intro v6 w6 hown6 hg6
                    have hb6 : Below w4.heap.size w4 w6 := bl_grown (hb5.alloc hb5.size _) (by have := hb5.size; simp; omega) hg6 hlt5
                    have HE : Hid (Q5.length + 1 ≤ 2 * (j + 1) ∧ (Q5 ++ [(((z, y.2.1, y.2.2) : Sx), ey)]).filter (ofV vn vp) = PM.take (j + 1) ∧ (∀ q ∈ Q5 ++ [(((z, y.2.1, y.2.2) : Sx), ey)], Va w3 q) ∧ w6.ownsRow w4.heap.size 31 4 v6 (Q5 ++ [(((z, y.2.1, y.2.2) : Sx), ey)]).length (flat ((Q5 ++ [(((z, y.2.1, y.2.2) : Sx), ey)]).map (·.1)))) := by
                      refine ⟨by omega, by rw [List.filter_append, HQ5.out.1]; simp [HBX.out.2], fun q hq => ?_, by simpa using hown6⟩
                      rw [List.mem_append] at hq
                      rcases hq with hq | hq
                      · exact HQ5.out.2 q hq
                      · simp at hq; subst hq; exact HBX.out.1
                    clear hown6 hg6 ho5 hSb hlt5 x0 x1 x2 x3 hb5
                    go_wp2
                    go_roundw
                    case rel => first | exact ⟨j + 1, Q5 ++ [(((z, y.2.1, y.2.2) : Sx), ey)], by omega, by go_num, by simp; have := HE.out.1; omega, HE.out.2.1, HE.out.2.2.1, HE.out.2.2.2, hb6⟩ | ((repeat apply Exists.intro); exact ⟨⟨j + 1, Q5 ++ [(((z, y.2.1, y.2.2) : Sx), ey)], by omega, by go_num, by simp; have := HE.out.1; omega, HE.out.2.1, HE.out.2.2.1, HE.out.2.2.2, hb6⟩, rfl⟩)
                    case measure => simp [intOf]; omega
                  · have hjnI : ¬ ((j : Int) < (i : Int)) := by omega
                    have HTK : Hid (PM.take (j + 1) = PM.take j) := by
                      have := HPM.out.1
                      show _ = _
                      rw [List.take_of_length_le (by omega), List.take_of_length_le (by omega)]
                    have hSb := sr_one2 wr (.cells #[.int .u64 (z : Nat), .int .i64 y.2.1, .int .i64 y.2.2.1, .slice y.2.2.2.1 y.2.2.2.2.1 y.2.2.2.2.2] 31) ((z, y.2.1, y.2.2) : Sx)
                    (try simp only at hSb)
                    have ho1 := (hownq.alloc (.cells #[.int .u64 (z : Nat), .int .i64 y.2.1, .int .i64 y.2.2.1, .slice y.2.2.2.1 y.2.2.2.2.1 y.2.2.2.2.2] 31)).alloc (.cells #[.int .u64 (z : Nat), .int .i64 y.2.1, .int .i64 y.2.2.1, .slice y.2.2.2.1 y.2.2.2.2.1 y.2.2.2.2.2] 31)
                    have hlt1 : ∀ g, (Value.slice qo Q.length qcap).ownBlock = some g → w4.heap.size ≤ g := fun g hg => (hownq.lt g hg).1
                    clear hownq hsrq
                    go_upto_region 18 with fail
                    go_wp2_with (at_builtin; refine wpList_append_S rfl (.tmp 83) (.tmp 85) rfl w4.heap.size _ Q.length (Q.map (·.1)) rfl ?_ (fun _ => True) (some ⟨wr.heap.size + 1, 0, none⟩) 1 1 [((z, y.2.1, y.2.2) : Sx)] rfl ?_ ?_ ?_ ?_ ?_)
                    all_goals first | (exact ho1) | (exact hSb) | (exact fun (e : (some _ : Option Addr) = none) => nomatch e) | omega | (have := hbq.size; simp; omega) | skip
                    intro v6 w6 hown6 hg6
                    have hb6 : Below w4.heap.size w4 w6 := bl_grown (bl_two hbq hbq.size _ _) (by have := hbq.size; simp; omega) hg6 hlt1
                    have HE : Hid ((Q ++ [(((z, y.2.1, y.2.2) : Sx), ey)]).filter (ofV vn vp) = PM.take (j + 1) ∧ (∀ q ∈ Q ++ [(((z, y.2.1, y.2.2) : Sx), ey)], Va w3 q) ∧ w6.ownsRow w4.heap.size 31 4 v6 (Q ++ [(((z, y.2.1, y.2.2) : Sx), ey)]).length (flat ((Q ++ [(((z, y.2.1, y.2.2) : Sx), ey)]).map (·.1)))) := by
                      refine ⟨by rw [List.filter_append, HQ.out.1, HTK.out]; simp [HBX.out.2], fun q hq => ?_, by simpa using hown6⟩
                      rw [List.mem_append] at hq
                      rcases hq with hq | hq
                      · exact HQ.out.2 q hq
                      · simp at hq; subst hq; exact HBX.out.1
                    clear hown6 hg6 ho1 hSb hlt1 hbq
                    go_wp2
                    go_roundw
                    case rel => first | exact ⟨j + 1, Q ++ [(((z, y.2.1, y.2.2) : Sx), ey)], by omega, by go_num, by simp; omega, HE.out.1, HE.out.2.1, HE.out.2.2, hb6⟩ | ((repeat apply Exists.intro); exact ⟨⟨j + 1, Q ++ [(((z, y.2.1, y.2.2) : Sx), ey)], by omega, by go_num, by simp; omega, HE.out.1, HE.out.2.1, HE.out.2.2, hb6⟩, rfl⟩)
                    case measure => simp [intOf]; omega
                | false =>
                  simp only [he] at heq
                  have h9 : ¬ (y.1 = vn ∧ y.2.1 = vp) := of_decide_eq_false he
                  have HZ : Hid (¬ (y.1 = vn ∧ y.2.1 = vp)) := h9
                  clear he h9
                  go_upto_region 16 with fail
                  have hBv : Va w3 (y, ey) := ⟨HY.out.2, HB3.out.2.1 y HY.out.1⟩
                  have hBo : ofV vn vp (y, ey) = false := by unfold ofV; exact decide_eq_false HZ.out
                  have HBX : Hid (Va w3 (y, ey) ∧ ofV vn vp (y, ey) = false) := ⟨hBv, hBo⟩
                  clear hBv hBo HY heq k0a k1a c0 c1 c2 c3
                  by_cases hjn : j < i
                  · have hjnI : (j : Int) < (i : Int) := by omega
                    obtain ⟨pm, hpm⟩ : ∃ pm, PM[j]? = some pm := ⟨PM[j]'(by have := HPM.out.1; omega), List.getElem?_eq_getElem _⟩
                    obtain ⟨mo', mc', e1, hsrm, _⟩ := SR.own HM4.out.1
                    simp only [Value.slice.injEq] at e1
                    obtain ⟨rfl, _, rfl⟩ := e1
                    have hW1 : Below w4.heap.size w4 (wr.alloc (.cells #[.int .u64 (y.1 : Nat), .int .i64 y.2.1, .int .i64 y.2.2.1, .slice y.2.2.2.1 y.2.2.2.2.1 y.2.2.2.2.2] 31)) := hbq.alloc hbq.size _
                    obtain ⟨bm, om, hmo, _, hcm⟩ := (hsrm.up hW1).2.2.2 (by omega)
                    subst hmo
                    have hmj : (mineL vn vp ss)[j]? = some pm.1 := by rw [← HPM.out.2.1, List.getElem?_map, hpm]; rfl
                    obtain ⟨m0, m1, m2, m3⟩ := hcm j pm.1 hmj
                    have HPJ : Hid (PM.take (j + 1) = PM.take j ++ [pm] ∧ Va w3 pm ∧ ofV vn vp pm = true) := ⟨by rw [List.take_add_one, hpm]; rfl, (HPM.out.2.2.2 pm (List.mem_of_getElem? hpm)).1, (HPM.out.2.2.2 pm (List.mem_of_getElem? hpm)).2⟩
                    have hSm := sr_one2 wr (.cells #[.int .u64 (y.1 : Nat), .int .i64 y.2.1, .int .i64 y.2.2.1, .slice y.2.2.2.1 y.2.2.2.2.1 y.2.2.2.2.2] 31) pm.1
                    have ho1 := (hownq.alloc (.cells #[.int .u64 (y.1 : Nat), .int .i64 y.2.1, .int .i64 y.2.2.1, .slice y.2.2.2.1 y.2.2.2.2.1 y.2.2.2.2.2] 31)).alloc (.cells #[.int .u64 (pm.1.1 : Nat), .int .i64 pm.1.2.1, .int .i64 pm.1.2.2.1, .slice pm.1.2.2.2.1 pm.1.2.2.2.2.1 pm.1.2.2.2.2.2] 31)
                    have hlt1 : ∀ g, (Value.slice qo Q.length qcap).ownBlock = some g → w4.heap.size ≤ g ∧ g < wr.heap.size := fun g hg => hownq.lt g hg
                    have hbox0 : (wr.alloc (.cells #[.int .u64 (y.1 : Nat), .int .i64 y.2.1, .int .i64 y.2.2.1, .slice y.2.2.2.1 y.2.2.2.2.1 y.2.2.2.2.2] 31)).cell? ⟨wr.heap.size, 0, none⟩ = _ := cell_box wr #[.int .u64 (y.1 : Nat), .int .i64 y.2.1, .int .i64 y.2.2.1, .slice y.2.2.2.1 y.2.2.2.2.1 y.2.2.2.2.2] 31 0 _ rfl
                    have hbox1 : (wr.alloc (.cells #[.int .u64 (y.1 : Nat), .int .i64 y.2.1, .int .i64 y.2.2.1, .slice y.2.2.2.1 y.2.2.2.2.1 y.2.2.2.2.2] 31)).cell? ⟨wr.heap.size, 1, none⟩ = _ := cell_box wr #[.int .u64 (y.1 : Nat), .int .i64 y.2.1, .int .i64 y.2.2.1, .slice y.2.2.2.1 y.2.2.2.2.1 y.2.2.2.2.2] 31 1 _ rfl
                    have hbox2 : (wr.alloc (.cells #[.int .u64 (y.1 : Nat), .int .i64 y.2.1, .int .i64 y.2.2.1, .slice y.2.2.2.1 y.2.2.2.2.1 y.2.2.2.2.2] 31)).cell? ⟨wr.heap.size, 2, none⟩ = _ := cell_box wr #[.int .u64 (y.1 : Nat), .int .i64 y.2.1, .int .i64 y.2.2.1, .slice y.2.2.2.1 y.2.2.2.2.1 y.2.2.2.2.2] 31 2 _ rfl
                    have hbox3 : (wr.alloc (.cells #[.int .u64 (y.1 : Nat), .int .i64 y.2.1, .int .i64 y.2.2.1, .slice y.2.2.2.1 y.2.2.2.2.1 y.2.2.2.2.2] 31)).cell? ⟨wr.heap.size, 3, none⟩ = _ := cell_box wr #[.int .u64 (y.1 : Nat), .int .i64 y.2.1, .int .i64 y.2.2.1, .slice y.2.2.2.1 y.2.2.2.2.1 y.2.2.2.2.2] 31 3 _ rfl
                    have HBOX : Hid _ := And.intro hbox0 (And.intro hbox1 (And.intro hbox2 hbox3))
                    clear hbox0 hbox1 hbox2 hbox3 hcm hpm hmj hsrm hW1 hownq hsrq
                    go_upto_region 17 with fail
                    go_wp2_with (at_builtin; refine wpList_append_S rfl (.tmp 76) (.tmp 81) rfl w4.heap.size _ Q.length (Q.map (·.1)) rfl ?_ (fun _ => True) (some ⟨wr.heap.size + 1, 0, none⟩) 1 1 [pm.1] rfl ?_ ?_ ?_ ?_ ?_)
                    all_goals first | (exact ho1) | (exact hSm) | (exact fun (e : (some _ : Option Addr) = none) => nomatch e) | omega | (have := hbq.size; simp; omega) | skip
                    intro v5 w5 hown5 hg5
                    have hb5 : Below w4.heap.size w4 w5 := bl_grown (bl_two hbq hbq.size _ _) (by have := hbq.size; simp; omega) hg5 (fun g hg => (hlt1 g hg).1)
                    have hown5' : w5.ownsRow w4.heap.size 31 4 v5 (Q ++ [pm]).length (flat ((Q ++ [pm]).map (·.1))) := by simpa using hown5
                    have keepb : ∀ {k : Nat} {v : Value}, (wr.alloc (.cells #[.int .u64 (y.1 : Nat), .int .i64 y.2.1, .int .i64 y.2.2.1, .slice y.2.2.2.1 y.2.2.2.2.1 y.2.2.2.2.2] 31)).cell? ⟨wr.heap.size, k, none⟩ = some v → w5.cell? ⟨wr.heap.size, k, none⟩ = some v := fun {k v} hcell => by
                      refine hg5.cell (CL.out (bl1 _ _) hcell) (fun e => ?_)
                      have := (hlt1 _ e.symm).2
                      simp at this
                    have x0 := keepb HBOX.out.1
                    have x1 := keepb HBOX.out.2.1
                    have x2 := keepb HBOX.out.2.2.1
                    have x3 := keepb HBOX.out.2.2.2
                    have HQ5 : Hid ((Q ++ [pm]).filter (ofV vn vp) = PM.take (j + 1) ∧ ∀ q ∈ Q ++ [pm], Va w3 q) := by
                      refine ⟨by rw [List.filter_append, HQ.out.1, HPJ.out.1]; simp [HPJ.out.2.2], fun q hq => ?_⟩
                      rw [List.mem_append] at hq
                      rcases hq with hq | hq
                      · exact HQ.out.2 q hq
                      · simp at hq; subst hq; exact HPJ.out.2.1
                    have hQ5l : (Q ++ [pm]).length ≤ 2 * j + 1 := by simp; omega
                    obtain ⟨Q5, hQ5⟩ : ∃ Q5, Q ++ [pm] = Q5 := ⟨_, rfl⟩
                    rw [hQ5] at hown5' HQ5 hQ5l
                    obtain ⟨qo5, qc5, rfl, hsr5, _⟩ := SR.own hown5'
                    have hSb := SR.one w5 y
                    have ho5 := hown5'.alloc (.cells #[.int .u64 (y.1 : Nat), .int .i64 y.2.1, .int .i64 y.2.2.1, .slice y.2.2.2.1 y.2.2.2.2.1 y.2.2.2.2.2] 31)
                    have hlt5 : ∀ g, (Value.slice qo5 Q5.length qc5).ownBlock = some g → w4.heap.size ≤ g := fun g hg => (hown5'.lt g hg).1
                    (try simp only at hSb)
                    clear hown5 hg5 hown5' hsr5 hlt1 hQ5 HPJ ho1 hSm m0 m1 m2 m3 keepb HBOX hbq HQ
                    go_upto_region 18 with fail
                    go_wp2_with (at_builtin; refine wpList_append_S rfl (.tmp 83) (.tmp 85) rfl w4.heap.size _ Q5.length (Q5.map (·.1)) rfl ?_ (fun _ => True) (some ⟨w5.heap.size, 0, none⟩) 1 1 [y] rfl ?_ ?_ ?_ ?_ ?_)
                    all_goals first | (exact ho5) | (exact hSb) | (exact fun (e : (some _ : Option Addr) = none) => nomatch e) | omega | (have := hb5.size; simp; omega) | skip
                    intro v6 w6 hown6 hg6
                    have hb6 : Below w4.heap.size w4 w6 := bl_grown (hb5.alloc hb5.size _) (by have := hb5.size; simp; omega) hg6 hlt5
                    have HE : Hid (Q5.length + 1 ≤ 2 * (j + 1) ∧ (Q5 ++ [(y, ey)]).filter (ofV vn vp) = PM.take (j + 1) ∧ (∀ q ∈ Q5 ++ [(y, ey)], Va w3 q) ∧ w6.ownsRow w4.heap.size 31 4 v6 (Q5 ++ [(y, ey)]).length (flat ((Q5 ++ [(y, ey)]).map (·.1)))) := by
                      refine ⟨by omega, by rw [List.filter_append, HQ5.out.1]; simp [HBX.out.2], fun q hq => ?_, by simpa using hown6⟩
                      rw [List.mem_append] at hq
                      rcases hq with hq | hq
                      · exact HQ5.out.2 q hq
                      · simp at hq; subst hq; exact HBX.out.1
                    clear hown6 hg6 ho5 hSb hlt5 x0 x1 x2 x3 hb5
                    go_wp2
                    go_roundw
                    case rel => first | exact ⟨j + 1, Q5 ++ [(y, ey)], by omega, by go_num, by simp; have := HE.out.1; omega, HE.out.2.1, HE.out.2.2.1, HE.out.2.2.2, hb6⟩ | ((repeat apply Exists.intro); exact ⟨⟨j + 1, Q5 ++ [(y, ey)], by omega, by go_num, by simp; have := HE.out.1; omega, HE.out.2.1, HE.out.2.2.1, HE.out.2.2.2, hb6⟩, rfl⟩)
                    case measure => simp [intOf]; omega
                  · have hjnI : ¬ ((j : Int) < (i : Int)) := by omega
                    have HTK : Hid (PM.take (j + 1) = PM.take j) := by
                      have := HPM.out.1
                      show _ = _
                      rw [List.take_of_length_le (by omega), List.take_of_length_le (by omega)]
                    have hSb := sr_one2 wr (.cells #[.int .u64 (y.1 : Nat), .int .i64 y.2.1, .int .i64 y.2.2.1, .slice y.2.2.2.1 y.2.2.2.2.1 y.2.2.2.2.2] 31) y
                    (try simp only at hSb)
                    have ho1 := (hownq.alloc (.cells #[.int .u64 (y.1 : Nat), .int .i64 y.2.1, .int .i64 y.2.2.1, .slice y.2.2.2.1 y.2.2.2.2.1 y.2.2.2.2.2] 31)).alloc (.cells #[.int .u64 (y.1 : Nat), .int .i64 y.2.1, .int .i64 y.2.2.1, .slice y.2.2.2.1 y.2.2.2.2.1 y.2.2.2.2.2] 31)
                    have hlt1 : ∀ g, (Value.slice qo Q.length qcap).ownBlock = some g → w4.heap.size ≤ g := fun g hg => (hownq.lt g hg).1
                    clear hownq hsrq
                    go_upto_region 18 with fail
                    go_wp2_with (at_builtin; refine wpList_append_S rfl (.tmp 83) (.tmp 85) rfl w4.heap.size _ Q.length (Q.map (·.1)) rfl ?_ (fun _ => True) (some ⟨wr.heap.size + 1, 0, none⟩) 1 1 [y] rfl ?_ ?_ ?_ ?_ ?_)
                    all_goals first | (exact ho1) | (exact hSb) | (exact fun (e : (some _ : Option Addr) = none) => nomatch e) | omega | (have := hbq.size; simp; omega) | skip
                    intro v6 w6 hown6 hg6
                    have hb6 : Below w4.heap.size w4 w6 := bl_grown (bl_two hbq hbq.size _ _) (by have := hbq.size; simp; omega) hg6 hlt1
                    have HE : Hid ((Q ++ [(y, ey)]).filter (ofV vn vp) = PM.take (j + 1) ∧ (∀ q ∈ Q ++ [(y, ey)], Va w3 q) ∧ w6.ownsRow w4.heap.size 31 4 v6 (Q ++ [(y, ey)]).length (flat ((Q ++ [(y, ey)]).map (·.1)))) := by
                      refine ⟨by rw [List.filter_append, HQ.out.1, HTK.out]; simp [HBX.out.2], fun q hq => ?_, by simpa using hown6⟩
                      rw [List.mem_append] at hq
                      rcases hq with hq | hq
                      · exact HQ.out.2 q hq
                      · simp at hq; subst hq; exact HBX.out.1
                    clear hown6 hg6 ho1 hSb hlt1 hbq
                    go_wp2
                    go_roundw
                    case rel => first | exact ⟨j + 1, Q ++ [(y, ey)], by omega, by go_num, by simp; omega, HE.out.1, HE.out.2.1, HE.out.2.2, hb6⟩ | ((repeat apply Exists.intro); exact ⟨⟨j + 1, Q ++ [(y, ey)], by omega, by go_num, by simp; omega, HE.out.1, HE.out.2.1, HE.out.2.2, hb6⟩, rfl⟩)
                    case measure => simp [intOf]; omega
              · have hjb : j = nb := by omega
                have hltbI : ¬ ((j : Int) < (nb : Int)) := by omega
                have HQ2 : Hid (w4.heap.size ≤ w4.heap.size ∧ wr.ownsRow w4.heap.size 31 4 (.slice qo Q.length qcap) Q.length (flat (Q.map (·.1))) ∧ Below w4.heap.size w4 wr ∧ Q.length ≤ 2 * j) := ⟨Nat.le_refl _, hownq, hbq, hQl⟩
                clear hownq hsrq hbq k0q k1q hQl
                go_wp2_with fail
                go_loopw [8, 13] (fun av iv wq => ∃ (t : Nat) (R : List Pr), nb ≤ t ∧ (t = nb ∨ t ≤ i) ∧ iv = .int .i64 (t : Nat) ∧ R.length ≤ nb + t ∧ R.filter (ofV vn vp) = PM.take t ∧ (∀ q ∈ R, Va w3 q) ∧ wq.ownsRow w4.heap.size 31 4 av R.length (flat (R.map (·.1))) ∧ Below w4.heap.size w4 wq) (fun _ iv _ => i - (intOf iv).toNat)
                case atStart => exact ⟨nb, Q, by omega, .inl rfl, rfl, by have := HQ2.out.2.2.2; omega, by rw [← hjb]; exact HQ.out.1, HQ.out.2, HQ2.out.2.1, HQ2.out.2.2.1⟩
                case round =>
                  clear HQ HQ2
                  obtain ⟨t, R, ht, hti, rfl, hRl, hRf, hRv, hownr, hbr⟩ := hrel
                  obtain ⟨po, pcap, rfl, hsrr, _⟩ := SR.own hownr
                  have HR : Hid (R.filter (ofV vn vp) = PM.take t ∧ ∀ q ∈ R, Va w3 q) := ⟨hRf, hRv⟩
                  clear hRf hRv
                  by_cases htn : t < i
                  · have htnI : (t : Int) < (i : Int) := by omega
                    have ht0 : ¬ ((t : Int) < 0) := by omega
                    obtain ⟨pm, hpm⟩ : ∃ pm, PM[t]? = some pm := ⟨PM[t]'(by have := HPM.out.1; omega), List.getElem?_eq_getElem _⟩
                    obtain ⟨mo', mc', e1, hsrm, _⟩ := SR.own HM4.out.1
                    simp only [Value.slice.injEq] at e1
                    obtain ⟨rfl, _, rfl⟩ := e1
                    obtain ⟨bm, om, hmo, _, hcm⟩ := (hsrm.up hbr).2.2.2 (by omega)
                    subst hmo
                    have hmj : (mineL vn vp ss)[t]? = some pm.1 := by rw [← HPM.out.2.1, List.getElem?_map, hpm]; rfl
                    obtain ⟨m0, m1, m2, m3⟩ := hcm t pm.1 hmj
                    have HPJ : Hid (PM.take (t + 1) = PM.take t ++ [pm] ∧ Va w3 pm ∧ ofV vn vp pm = true) := ⟨by rw [List.take_add_one, hpm]; rfl, (HPM.out.2.2.2 pm (List.mem_of_getElem? hpm)).1, (HPM.out.2.2.2 pm (List.mem_of_getElem? hpm)).2⟩
                    have hSm := SR.one wr pm.1
                    have ho1 := hownr.alloc (.cells #[.int .u64 (pm.1.1 : Nat), .int .i64 pm.1.2.1, .int .i64 pm.1.2.2.1, .slice pm.1.2.2.2.1 pm.1.2.2.2.2.1 pm.1.2.2.2.2.2] 31)
                    have hlt1 : ∀ g, (Value.slice po R.length pcap).ownBlock = some g → w4.heap.size ≤ g := fun g hg => (hownr.lt g hg).1
                    clear hcm hpm hmj hsrm hownr hsrr
                    go_upto_region 22 with fail
                    go_wp2_with (at_builtin; refine wpList_append_S rfl (.tmp 95) (.tmp 100) rfl w4.heap.size _ R.length (R.map (·.1)) rfl ?_ (fun _ => True) (some ⟨wr.heap.size, 0, none⟩) 1 1 [pm.1] rfl ?_ ?_ ?_ ?_ ?_)
                    all_goals first | (exact ho1) | (exact hSm) | (exact fun (e : (some _ : Option Addr) = none) => nomatch e) | omega | (have := hbr.size; simp; omega) | skip
                    intro v5 w5 hown5 hg5
                    have hb5 : Below w4.heap.size w4 w5 := bl_grown (hbr.alloc hbr.size _) (by have := hbr.size; simp; omega) hg5 hlt1
                    have HE : Hid ((R ++ [pm]).filter (ofV vn vp) = PM.take (t + 1) ∧ (∀ q ∈ R ++ [pm], Va w3 q) ∧ w5.ownsRow w4.heap.size 31 4 v5 (R ++ [pm]).length (flat ((R ++ [pm]).map (·.1)))) := by
                      refine ⟨by rw [List.filter_append, HR.out.1, HPJ.out.1]; simp [HPJ.out.2.2], fun q hq => ?_, by simpa using hown5⟩
                      rw [List.mem_append] at hq
                      rcases hq with hq | hq
                      · exact HR.out.2 q hq
                      · simp at hq; subst hq; exact HPJ.out.2.1
                    clear hown5 hg5 ho1 hSm hlt1 m0 m1 m2 m3 HPJ hbr
                    go_wp2
                    go_roundw
                    case rel => first | exact ⟨t + 1, R ++ [pm], by omega, .inr (by omega), by go_num, by simp; omega, HE.out.1, HE.out.2.1, HE.out.2.2, hb5⟩ | ((repeat apply Exists.intro); exact ⟨⟨t + 1, R ++ [pm], by omega, .inr (by omega), by go_num, by simp; omega, HE.out.1, HE.out.2.1, HE.out.2.2, hb5⟩, rfl⟩)
                    case measure => simp [intOf]; omega
                  · have htnI : ¬ ((t : Int) < (i : Int)) := by omega
                    have hfil : R.filter (ofV vn vp) = PM := by rw [HR.out.1, List.take_of_length_le (by have := HPM.out.1; omega)]
                    have hAp : Apart vn vp PM R := ⟨hfil, HV0.out⟩
                    have HAP : Hid (Apart vn vp PM R ∧ ∀ q ∈ R, Va w3 q) := ⟨hAp, HR.out.2⟩
                    have hb3r : Below w3.heap.size w3 wr := bl_step HM4.out.2 hbr
                    have hownm : wr.ownsRow w3.heap.size 31 4 (.slice mo i mcap) i (flat (PM.map (·.1))) := by rw [HPM.out.2.1]; exact own_below HM4.out.1 hbr
                    obtain ⟨mo', mc', e1, hsrm, _⟩ := SR.own hownm
                    simp only [Value.slice.injEq] at e1
                    obtain ⟨rfl, _, rfl⟩ := e1
                    have hstm := pairs_sts (fun q hq => (HPM.out.2.2.2 q hq).1) hb3r hsrm
                    have hjm := join_any _ wr mo i mcap _ _ hstm (fun x hx => by obtain ⟨q, hq, rfl⟩ := List.mem_map.1 hx; exact (HPM.out.2.2.2 q hq).1.2) (by omega)
                    rw [hin] at hjm
                    have HSR : Hid (SR (fun _ => True) wr po R.length (R.map (·.1))) := hsrr.imp (fun _ _ _ => trivial)
                    have hb0r := bl_step hb03 hb3r
                    have k0 := CL.out hb3r k0
                    have k1 := CL.out hb3r k1
                    clear hownr hsrr hfil hAp hsrm hownm hstm HR k0r k1r hbr
                    go_wp2_with fail
                    refine hjm.mono ?_
                    rintro e w5 ⟨jo, jcap, J, rsJ, rfl, hJ, _, halJ, hstJ, _, hb5⟩
                    obtain ⟨jl, hjl⟩ : ∃ jl, J.length = jl := ⟨_, rfl⟩
                    rw [hjl] at hstJ ⊢
                    have HJL : Hid (J.length = jl) := hjl
                    clear hjl
                    have hsta := pairs_sts HAP.out.2 (bl_step hb3r hb5) (HSR.out.up hb5)
                    have hja := join_any _ w5 po R.length pcap _ _ hsta (fun x hx => by obtain ⟨q, hq, rfl⟩ := List.mem_map.1 hx; exact (HAP.out.2 q hq).2) (by omega)
                    have HJ5 : Hid (IsJoin (tagl (PM.map (·.1))) J ∧ Alike (J.map (·.1)) rsJ ∧ Sts (fun _ => True) w5 jo jl rsJ (esAt (PM.map (·.2)) J)) := ⟨hJ, halJ, hstJ.imp (fun _ _ _ => trivial)⟩
                    have hb05 := bl_step hb0r hb5
                    have k0 := CL.out hb5 k0
                    have k1 := CL.out hb5 k1
                    clear hjm hJ halJ hstJ hsta HSR hb3r hb0r hb5
                    go_wp2_with fail
                    refine hja.mono ?_
                    rintro e w6 ⟨ko, kcap, K, rsK, rfl, hK, _, halK, hstK, _, hb6⟩
                    have HJ6 : Hid (IsJoin (tagl (PM.map (·.1))) J ∧ Alike (J.map (·.1)) rsJ ∧ Sts (fun _ => True) w6 jo jl rsJ (esAt (PM.map (·.2)) J)) := ⟨HJ5.out.1, HJ5.out.2.1, HJ5.out.2.2.up hb6⟩
                    have HK6 : Hid (IsJoin (tagl (R.map (·.1))) K ∧ Alike (K.map (·.1)) rsK ∧ Sts (fun _ => True) w6 ko K.length rsK (esAt (R.map (·.2)) K)) := ⟨hK, halK, hstK.imp (fun _ _ _ => trivial)⟩
                    have hb06 := bl_step hb05 hb6
                    have k0 := CL.out hb6 k0
                    have k1 := CL.out hb6 k1
                    have hKl : K.length ≤ 1000 := by
                      have := nodup_len (ascV_nodup hK.1) (fun x hx => ((hK.2 x).1 hx).1)
                      rw [tagl_len] at this
                      simp at this
                      omega
                    have hJ1 : jl ≤ 1 := by rw [← HJL.out]; exact HAP.out.1.one HJ5.out.1
                    have HCN : Hid (K.countP (fun t => decide (t.1.1 = vn ∧ t.1.2.1 = vp)) = jl) := by show _ = _; rw [← HJL.out]; exact HAP.out.1.count HJ5.out.1 hK
                    clear hja hK halK hstK HJ5 hb05 hb6
                    go_wp2_with fail
                    go_loopw [16, 17] (fun nv iv wq => ∃ k c : Nat, k ≤ K.length ∧ iv = .int .i64 (k : Nat) ∧ nv = .int .i64 (c : Nat) ∧ c ≤ k ∧ (K.take k).countP (fun t => decide (t.1.1 = vn ∧ t.1.2.1 = vp)) = c ∧ Up w6 wq) (fun _ iv _ => K.length - (intOf iv).toNat)
                    case atStart => exact ⟨0, 0, by omega, rfl, rfl, by omega, by simp, Up.refl _⟩
                    case round =>
                      obtain ⟨k, c, hk, rfl, rfl, hck, hcnt, hu⟩ := hrel
                      have HC : Hid ((K.take k).countP (fun t => decide (t.1.1 = vn ∧ t.1.2.1 = vp)) = c) := hcnt
                      have k0w := hu.cell k0
                      have k1w := hu.cell k1
                      clear hcnt
                      by_cases hltk : k < K.length
                      · have hltkI : (k : Int) < (K.length : Int) := by omega
                        have hk0 : ¬ ((k : Int) < 0) := by omega
                        obtain ⟨q, hq⟩ : ∃ q, K[k]? = some q := ⟨K[k]'(by omega), List.getElem?_eq_getElem (by omega)⟩
                        have hrl : rsK.length = K.length := HK6.out.2.2.1.1
                        obtain ⟨r, hr⟩ : ∃ r, rsK[k]? = some r := ⟨rsK[k]'(by omega), List.getElem?_eq_getElem (by omega)⟩
                        obtain ⟨a1, a2, a3⟩ := HK6.out.2.1.2 k q.1 r (by rw [List.getElem?_map, hq]; rfl) hr
                        obtain ⟨bk, ok, hko, _, hck2⟩ := (HK6.out.2.2.1.up hu.bl).2.2.2 (by omega)
                        subst hko
                        obtain ⟨c0, c1, c2, c3⟩ := hck2 k r hr
                        have heq := fun W => vid_equal r.1 r.2.1 vn vp W
                        have hek : (esAt (R.map (·.2)) K)[k]? = some ((R.map (·.2)).getD q.2 []) := by unfold esAt; rw [List.getElem?_map, hq]; rfl
                        have HIr : Hid (Its (fun _ => True) w6 r.2.2.2.1 r.2.2.2.2.1 ((R.map (·.2)).getD q.2 [])) := HK6.out.2.2.2.2 k r _ hr hek
                        have hstep : (K.take (k + 1)).countP (fun t => decide (t.1.1 = vn ∧ t.1.2.1 = vp)) = c + (if decide (r.1 = vn ∧ r.2.1 = vp) then 1 else 0) := by
                          rw [List.take_add_one, hq, List.countP_append, HC.out, a1, a2]
                          simp [List.countP_cons]
                        have HQ4 : Hid (q ∈ K ∧ r.1 = q.1.1 ∧ r.2.1 = q.1.2.1 ∧ r.2.2.1 = q.1.2.2.1) := ⟨List.mem_of_getElem? hq, a1, a2, a3⟩
                        cases he : decide (r.1 = vn ∧ r.2.1 = vp) with
                        | false =>
                          simp only [he] at heq
                          rw [he] at hstep
                          have HST : Hid ((K.take (k + 1)).countP (fun t => decide (t.1.1 = vn ∧ t.1.2.1 = vp)) = c) := by simpa [Hid] using hstep
                          clear he hstep a1 a2 a3 hck2 hr hq hek HIr HQ4
                          go_wp2_with fail
                          go_quiet (fail)
                          have hun := hu.drewN nq
                          clear c0 c1 c2 c3 heq
                          go_wp2
                          go_roundw
                          case rel => first | exact ⟨k + 1, c, by omega, by go_num, rfl, by omega, HST.out, hun⟩ | ((repeat apply Exists.intro); exact ⟨⟨k + 1, c, by omega, by go_num, rfl, by omega, HST.out, hun⟩, rfl⟩)
                          case measure => simp [intOf]; omega
                        | true =>
                          simp only [he] at heq
                          rw [he] at hstep
                          have HST : Hid ((K.take (k + 1)).countP (fun t => decide (t.1.1 = vn ∧ t.1.2.1 = vp)) = c + 1) := by simpa [Hid] using hstep
                          have hrv : r.1 = vn ∧ r.2.1 = vp := of_decide_eq_true he
                          obtain ⟨ut, hJu, hu1, hu2⟩ := HAP.out.1.hit HJ6.out.1 HK6.out.1 HQ4.out.1 (by rw [← HQ4.out.2.1, ← HQ4.out.2.2.1]; exact hrv)
                          have hJl : jl = 1 := by rw [← HJL.out, hJu]; rfl
                          subst hJl
                          have HSJ : Hid (Sts (fun _ => True) w6 jo 1 rsJ [(R.map (·.2)).getD q.2 []] ∧ Alike [r] rsJ) := by
                            obtain ⟨g1, g2, g3⟩ := HJ6.out
                            rw [hJu] at g2 g3
                            refine ⟨?_, ?_⟩
                            · have : esAt (PM.map (·.2)) [ut] = [(R.map (·.2)).getD q.2 []] := by unfold esAt; simp only [List.map_cons, List.map_nil]; rw [hu2]
                              rw [this] at g3
                              exact g3
                            · refine ⟨by have := g2.1; simpa using this, fun jj x y hx hy => ?_⟩
                              match jj, hx, hy with
                              | 0, hx, hy =>
                                simp at hx; subst hx
                                obtain ⟨z1, z2, z3⟩ := g2.2 0 ut.1 y rfl hy
                                rw [hu1] at z1 z2 z3
                                exact ⟨z1.trans HQ4.out.2.1.symm, z2.trans HQ4.out.2.2.1.symm, z3.trans HQ4.out.2.2.2.symm⟩
                              | jj + 1, hx, hy => simp at hx
                          have hsm := fun (W : World) (u : Below w6.heap.size w6 W) (bo : Option Addr) (hs : SR (fun _ => True) W bo 1 [r]) => same_true (fun _ => True) (fun _ => True) W bo jo 1 1 jcap [r] rsJ [(R.map (·.2)).getD q.2 []] ⟨hs, rfl, fun jj x e hx he => by
                            match jj, hx, he with
                            | 0, hx, he => simp only [List.getElem?_cons_zero, Option.some.injEq] at hx he; subst hx he; exact HIr.out.keep (Kp.up u)
                            | jj + 1, hx, he => simp at hx⟩ (HSJ.out.1.up u) HSJ.out.2
                          have HSM : Hid _ := hsm
                          have hSr := fun W => SR.one W r
                          clear he hstep a1 a2 a3 hck2 hr hq hek hrv hJu hu1 hu2 hsm
                          have hun0 := hu
                          go_wp2_with fail
                          go_quiet (fail)
                          have hun := hu.drewN nq
                          have hsm := HSM.out ((wr.drewN nq).alloc (.cells #[.int .u64 (r.1 : Nat), .int .i64 r.2.1, .int .i64 r.2.2.1, .slice r.2.2.2.1 r.2.2.2.2.1 r.2.2.2.2.2] 31)) (hun.alloc _).bl _ (hSr _)
                          go_wp2_with fail
                          refine hsm.mono ?_
                          rintro e' w7 ⟨rfl, hu7⟩
                          have hu07 := (hun.alloc _).trans hu7
                          clear hsm hu7 hun heq c0 c1 c2 c3 hSr
                          go_wp2
                          go_roundw
                          case rel => first | exact ⟨k + 1, c + 1, by omega, by go_num, by go_num, by omega, HST.out, hu07⟩ | ((repeat apply Exists.intro); exact ⟨⟨k + 1, c + 1, by omega, by go_num, by go_num, by omega, HST.out, hu07⟩, rfl⟩)
                          case measure => simp [intOf]; omega
                      · have hkK : k = K.length := by omega
                        have hltkI : ¬ ((k : Int) < (K.length : Int)) := by omega
                        have hcJ : c = jl := by rw [← HC.out, List.take_of_length_le (by omega)]; exact HCN.out
                        have hb07 := bl_step hb06 hu.bl
                        have hcJI : ((c : Int) == (jl : Int)) = true := by simp [hcJ]
                        have hJ1I : (jl : Int) ≤ 1 := by omega
                        clear HC HCN hu k0w k1w hcJ
                        go_wp2
                        go_ret
                        exact ⟨(by first | rfl | exact ret_bool (by simp [hJ1I])), hb07⟩

set_option maxRecDepth 100000 in
theorem lifted (os : Os) (started : os.Started) (H : Type) (enc : TypeId × Value → H) :
    ReturnsInHanded {} Try.checked os 8 .any (Rows.cutApartSpec.pre6 enc Try.prog Try.f8 Rows.cutApartRow.domain false) (Rows.cutApartSpec.post enc Try.prog Try.f8 false true false false) := by
  refine returnsInHanded_of_change_sized (C := Try.checked) own started (by kernel_rfl) Try.func8
    (ChangeSpec.witness6 (enc := enc) (C := Try.checked) false ⟨#[], #[.slice none 0 0, .slice none 0 0, .agg #[.int .u64 0, .int .i64 0]], []⟩ 8 (by kernel_rfl) (by kernel_rfl) (by kernel_rfl) (by kernel_rfl)) ?_
  intro W base args ds gs before hval0 hW hcnd hsz0 _
  have hsz : (DataW.weightsEach Try.prog (Try.f8.params.toList ++ Rows.cutApartSpec.plain.varTypes Try.prog) (ds ++ gs)).all (· ≤ reachBytes) = true := hsz0
  have hval : ∀ (j : Nat) t v, Try.f8.params[j]? = some t → args[j]? = some v → Value.okWide Try.prog W .any base t v := hval0
  have hW' := hW
  obtain ⟨p, q, hA0, hV, rfl, hfz, hnd⟩ := hW
  have hA : DataW.TrodAll enc Try.prog W 0 (fun _ => true) true Try.f8.params.toList args.toList ds p := hA0
  rw [Try.params8] at hA hval hsz
  obtain ⟨v0, vs0, d0, ds0, p0, q0, hargs0, rfl, rfl, h0, r0⟩ := trodAll_cons hA
  obtain ⟨v1, vs1, d1, ds1, p1, q1, hargs1, rfl, rfl, h1, r1⟩ := trodAll_cons r0
  obtain ⟨v2, vs2, d2, ds2, p2, q2, hargs2, rfl, rfl, h2, r2⟩ := trodAll_cons r1
  obtain ⟨rfl, rfl, rfl⟩ := trodAll_nil r2
  obtain rfl : args = #[v0, v1, v2] := by cases args; simp_all
  obtain ⟨rfl, rfl⟩ := trodVars_none hV
  obtain ⟨a0, len0, cap0, rfl⟩ := okWide_slice Try.underlying22 (hval 0 22 v0 rfl rfl)
  have k0 := h0
  have lt0 : ∀ x ∈ p0, x.block < W.heap.size := by obtain ⟨m, hm⟩ := k0; exact DataW.trod_lt m _ _ _ hm
  obtain ⟨xs0, ys0, hx0, ho0, hz0, hc0, hd0⟩ := open_states h0 hsz (j := 0) rfl rfl
  obtain ⟨a1, len1, cap1, rfl⟩ := okWide_slice Try.underlying22 (hval 1 22 v1 rfl rfl)
  have k1 := h1
  have lt1 : ∀ x ∈ p1, x.block < W.heap.size := by obtain ⟨m, hm⟩ := k1; exact DataW.trod_lt m _ _ _ hm
  obtain ⟨xs1, ys1, hx1, ho1, hz1, hc1, hd1⟩ := open_states h1 hsz (j := 1) rfl rfl
  obtain ⟨c2a, c2b, y2a, y2b, m2, rfl, rfl, rfl, hy2a, hy2b⟩ := open_agg2 Try.underlying28 (by kernel_rfl) cells28 (hval 2 28 v2 rfl rfl) h2
  obtain ⟨n2', e2a, rfl, w2a⟩ := DataW.trod_int Try.underlying26 hy2a
  obtain ⟨q2, e2b, rfl, w2b⟩ := DataW.trod_int Try.underlying3 hy2b
  simp at e2a e2b
  subst e2a e2b
  clear hA0 hval0 hsz hsz0
  obtain ⟨n2, rfl, hn2⟩ := u64_of_wf w2a
  refine (walk W a0 len0 cap0 xs0 ys0 hx0 ho0 hz0 hc0 hd0 a1 len1 cap1 xs1 ys1 hx1 ho1 hz1 hc1 hd1 n2 hn2 q2 (in_of_wf w2b)).mono fun e W' ⟨he, bel⟩ => ?_
  subst he
  exact ⟨_, rfl, _, _, _, [], _, [], hW', trodAll_mk1 (shut_bool Try.underlying4 _), (trodAll_cons_mk (Below.trod laidOut (by kernel_rfl) (of_decide_eq_true (by kernel_rfl)) k0 bel lt0) (trodAll_cons_mk (Below.trod laidOut (by kernel_rfl) (of_decide_eq_true (by kernel_rfl)) k1 bel lt1) (trodAll_cons_mk (shut_vid w2a w2b) trodAll_mk0))), rfl, bel.frame _, fun h => by cases h⟩

theorem over : Rows.cutApartRow.holds Try.pinned (OpenSpec.ofChange Rows.cutApartSpec) :=
  OpenClaim.holds_of_wide 8 Try.f8 rfl rfl rfl rfl rfl rfl rfl ⟨rfl, rfl, rfl, rfl, rfl⟩ rfl rfl rfl rfl rfl (by kernel_rfl) Try.func8 (by kernel_rfl)
    (of_decide_eq_true (by kernel_rfl)) (by unfold Func.isWrapper; first | (rw [if_pos (by decide +kernel)]; kernel_rfl) | (rw [if_neg (by decide +kernel)]; exact ⟨rfl, rfl⟩))
    (fun os started H enc _ => lifted os started H enc)

end Go.Proofs.Ytbdbdpgnilhcpaa.cutApart
namespace Go.Proofs.Ytbdbdpgnilhcpaa
theorem cutApart_holds : Rows.CutApartSaid := cutApart.over
#print axioms cutApart_holds
end Go.Proofs.Ytbdbdpgnilhcpaa
