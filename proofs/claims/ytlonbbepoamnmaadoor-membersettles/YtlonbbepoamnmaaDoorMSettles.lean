/-
  MemberSettles: the walk.
-/
import Derived.Test.YtlonbbepoamnmaaDoorMSe
namespace Go.Proofs.YtlonbbepoamnmaaDoor
open Go.RowKit
set_option linter.unusedVariables false

/-- A round has come so far. -/
def Qb (lv : Nat) (c : Vid) (n i : Nat) (g : Gp) : Prop := ∃ g0 H0, GInv n g0 H0 ∧ Sb lv c n g0 ∧ g = g0.bt n i
def Qf (lv : Nat) (c : Vid) (n cc : Nat) (g : Gp) : Prop := Tk lv c n n g ∧ mu n g + cc ≤ 1980
theorem qf_begin {lv : Nat} {c : Vid} {n : Nat} {g : Gp} (h6 : n ≤ 6) (hb : g.bag.length ≤ 972) (t : Tk lv c n n g) : Qf lv c n 0 g := ⟨t, by have := mu_le n h6 g; omega⟩
/-- The view of round k. -/
def Vk (n k : Nat) (c : Vid) (v : Vid × Nat) : Prop := (k ≤ 2 ∧ v = ((0, 0), 0)) ∨ (3 ≤ k ∧ v = (c, 2 ^ n - 1))
def Rk (w : World) (n gq vx k : Nat) (wr : World) : Prop := ∃ c v, Vk n k c v ∧ SeAt w n gq vx v (Sb (min k 3) c n) (150 + 2100 * k) 900 wr

abbrev S5 (gq lb n lc q vx t cn : Nat) (cp : Int) (al : Nat) (w : World) : Prop := w.cell? ⟨gq, 1, none⟩ = some (.slice (some ⟨lb, 0, none⟩) n lc) ∧ w.cell? ⟨lb, t, none⟩ = some (.pointer (some ⟨q, 0, none⟩)) ∧ w.cell? ⟨vx, 0, none⟩ = some (.int .u64 (cn : Nat)) ∧ w.cell? ⟨vx, 1, none⟩ = some (.int .i64 cp) ∧ w.cell? ⟨vx, 2, none⟩ = some (.int .u16 (al : Nat))
set_option maxRecDepth 20000 in
set_option maxHeartbeats 8000000 in
theorem settles_walk (w : World) (tab : Tab w) (n0 : Nat) (hn0 : n0 < 256) (ao : Option Addr) (len cap : Nat) (xs : Nat → Mv) (hx : Mvs w ao len xs) : Calls Tryd.prog 6 #[.int .u8 (n0 : Nat), .slice ao len cap] w fun e w' => e = .returned (.bool true) ∧ Below w.heap.size w w' := by
  obtain ⟨n, hn⟩ : ∃ n, 1 + n0 % 6 = n := ⟨_, rfl⟩
  have n1 : 1 ≤ n := by omega
  have n6 : n ≤ 6 := by omega
  have HE : Hid ((1 : Int) + (n0 : Int) % 6 = (n : Int)) := by show _ = _; omega
  have ha := awake_any w tab
  have HX : Hid (Mvs w ao len xs) := hx
  have hlen := hx.max
  have HT : Hid (Tab w) := tab
  clear hn hx tab
  go_enter Tryd.func6, Tryd.ntmps6
  go_wp2_with fail
  refine ha.mono ?_
  rintro e w1 ⟨rfl, b1⟩
  have hbeg := begin_any w1 (Kept.of b1) (fun b hb => Nat.lt_of_lt_of_le hb b1.size) HT.out.lt (HT.out.below b1 HT.out.lt) n n1 n6
  clear ha b1
  go_wp2_with fail
  rw [HE.out]
  refine hbeg.mono ?_
  rintro e w2 ⟨gq, rfl, hG2⟩
  have HM : Hid (∃ g, GrpOk w (Old w) n gq g w2 ∧ Se n g 0 (6 * 0)) := ⟨_, hG2, se_new n1 n6⟩
  clear hbeg hG2
  go_upto_block 0 with fail
  go_cut [6] from 23 to 38 (fun _ wx => ∃ g, GrpOk w (Old w) n gq g wx ∧ Se n g 150 900)
  case first =>
    go_wp2_with fail
    go_loopw [6] (fun iv wr => ∃ k : Nat, k ≤ 150 ∧ k ≤ len ∧ iv = .int .i64 (k : Nat) ∧ Hid (∃ g, GrpOk w (Old w) n gq g wr ∧ Se n g k (6 * k))) (fun iv _ => 150 - (intOf iv).toNat)
    case atStart => exact ⟨0, by omega, by omega, rfl, HM⟩
    case round =>
      obtain ⟨k, hk, hkl, rfl, hw⟩ := hrel
      have hk0 : ¬ ((k : Int) < 0) := by omega
      have HD : Hid (∃ g, GrpOk w (Old w) n gq g wr ∧ Se n g 150 900) := by
        obtain ⟨g, h1, h2⟩ := hw.out
        exact ⟨g, h1, ⟨h2.inv, (h2.more hk).hi, by have := h2.bag; omega, (h2.more hk).views⟩⟩
      by_cases hlt : k < len
      · have hltI : (k : Int) < (len : Int) := by omega
        by_cases h200 : k < 150
        · have h200I : (k : Int) < 150 := by omega
          obtain ⟨g, hok, hse⟩ := hw.out
          have hG := hok.2
          obtain ⟨col, A, hG⟩ := hG
          obtain ⟨b, off, hao, hbl, hc⟩ := (HX.out.keep rfl hG.bel.below).cell (by omega)
          obtain ⟨m0, m1, m2, m3⟩ := hc k hlt
          obtain ⟨H, hinv⟩ := hse.inv
          have hmv := move_any hok hinv (xs k) (HX.out.lt k hlt) (by have := hse.bag; omega) (fun i => by have := hse.views i; omega)
          have HN : Hid (Se n (g.move n (xs k)) (k + 1) (6 * (k + 1))) := hse.move (xs k)
          unfold mval at hmv
          clear hc hG hbl hw hok hse HD
          subst hao
          go_wp2_with fail
          refine hmv.mono ?_
          rintro e w3 ⟨rfl, h3⟩
          have HM3 : Hid (∃ g, GrpOk w (Old w) n gq g w3 ∧ Se n g (k + 1) (6 * (k + 1))) := ⟨_, h3, HN.out⟩
          clear hmv h3 m0 m1 m2 m3
          go_wp2_with fail
          go_roundw
          case rel => exact ⟨k + 1, by omega, by omega, by go_num, HM3⟩
          case measure => simp [intOf]; omega
        · have h200I : ¬ ((k : Int) < 150) := by omega
          go_wp2_with fail
          go_meet
          exact HD.out
      · have hltI : ¬ ((k : Int) < (len : Int)) := by omega
        go_wp2_with fail
        go_meet
        exact HD.out
  case rest =>
    obtain ⟨g, hok, hse⟩ := hcut
    have c0 : wc.cell? ⟨gq, 0, none⟩ = some (.int .i64 (n : Nat)) := by obtain ⟨_, _, _, hG⟩ := hok; exact hG.c0
    obtain ⟨vx, hvx⟩ : ∃ vx, wc.heap.size = vx := ⟨_, rfl⟩
    obtain ⟨wv, hwv⟩ : ∃ wv, wc.alloc (.cells #[.int .u64 0, .int .i64 0, .int .u16 0] 34) = wv := ⟨_, rfl⟩
    have HR : Hid (Rk w n gq vx 0 wv) := ⟨(0, 0), ((0, 0), 0), .inl ⟨by omega, rfl⟩, g, by have := sw_new hok; rw [hwv, hvx] at this; exact this, hse.more (by omega), .inl (by omega)⟩
    have HV : Hid (wc.alloc (.cells #[.int .u64 0, .int .i64 0, .int .u16 0] 34) = wv ∧ wc.heap.size = vx) := ⟨hwv, hvx⟩
    have hp1 : IntKind.u16.wrap ((2 : Int) ^ n) = ((2 ^ n : Nat) : Int) := wrap_pow n (by omega)
    have h64 : 2 ^ n ≤ 64 := Nat.pow_le_pow_right (n := 2) (j := 6) (by omega) n6
    have hpos : 1 ≤ 2 ^ n := Nat.one_le_two_pow
    obtain ⟨al, hal⟩ : ∃ al, 2 ^ n - 1 = al := ⟨_, rfl⟩
    have HP : Hid (IntKind.u16.wrap ((2 : Int) ^ n - 1) = (al : Nat)) := by
      have e0 : ((2 ^ n : Nat) : Int) = (2 : Int) ^ n := by simp
      have e : (2 : Int) ^ n - 1 = ((2 ^ n - 1 : Nat) : Int) := by rw [← e0]; omega
      show _ = _
      rw [e, hal]
      exact IntWalk.u16_in _ (by omega)
    have HAL : Hid (2 ^ n - 1 = al ∧ al < 65536) := ⟨hal, by omega⟩
    have hnI : ¬ ((n : Int) < 0) := by omega
    clear hok hse hwv hvx hal HM
    go_upto_block 2 with fail
    rw [HV.out.1, HV.out.2, HP.out]
    generalize ((2 : Int) ^ n) = t2
    clear hp1 h64 hpos c0 HP HV
    go_wp2_with fail
    go_loopw [9, 10, 11, 12, 13] (fun kv iv jv cv tv wr => ∃ (k : Nat) (y1 y2 y3 y4 : Value), k ≤ 8 ∧ kv = .int .i64 (k : Nat) ∧ iv = y1 ∧ jv = y2 ∧ cv = y3 ∧ tv = y4 ∧ Hid (Rk w n gq vx k wr)) (fun kv _ _ _ _ _ => 8 - (intOf kv).toNat)
    case atStart => exact ⟨0, _, _, _, _, by omega, rfl, rfl, rfl, rfl, rfl, HR⟩
    case round =>
      obtain ⟨k, y1, y2, y3, y4, hk, rfl, e1, e2, e3, e4, hw⟩ := hrel
      replace e1 := e1.symm
      replace e2 := e2.symm
      replace e3 := e3.symm
      replace e4 := e4.symm
      subst e1 e2 e3 e4
      have HB : Hid (Below w.heap.size w wr) := by obtain ⟨_, _, _, _, h, _⟩ := hw.out; obtain ⟨_, _, _, hG, _⟩ := h; exact hG.bel.below
      by_cases hk8 : k < 8
      · have hkI : (k : Int) < 8 := by omega
        obtain ⟨c, v, hvk, hse⟩ := hw.out
        have HVK : Hid (Vk n k c v) := hvk
        obtain ⟨lv, hlv⟩ : ∃ lv, min k 3 = lv := ⟨_, rfl⟩
        obtain ⟨K0, hK0⟩ : ∃ K0, 150 + 2100 * k = K0 := ⟨_, rfl⟩
        rw [hlv, hK0] at hse
        have HLV : Hid (min k 3 = lv ∧ 150 + 2100 * k = K0) := ⟨hlv, hK0⟩
        have HK9 : Hid (K0 ≤ 20000) := by show _ ≤ _; omega
        have H3 : Hid (SeAt w n gq vx v (Qb lv c n 0) K0 900 wr) := hse.imp (fun g H hinv _ hq => ⟨g, H, hinv, hq, (bt_zero g n).symm⟩)
        clear hw hvk hse hlv hK0 HR HB
        go_wp2_with fail
        go_loopw [10] (fun iv wz => ∃ i : Nat, i ≤ n ∧ iv = .int .i64 (i : Nat) ∧ Hid (SeAt w n gq vx v (Qb lv c n i) (K0 + i) (900 + 6 * i) wz)) (fun iv _ => n - (intOf iv).toNat)
        case atStart => exact ⟨0, by omega, rfl, H3⟩
        case round =>
          obtain ⟨i, hi, rfl, hz⟩ := hrel
          have d0 : wr.cell? ⟨gq, 0, none⟩ = some (.int .i64 (n : Nat)) := by obtain ⟨_, h, _⟩ := hz.out; obtain ⟨_, _, _, hG, _⟩ := h; exact hG.c0
          by_cases hin : i < n
          · have hiI : (i : Int) < (n : Int) := by omega
            have hcv : IntKind.u8.wrap ((i : Nat) : Int) = (i : Nat) := by unfold IntKind.wrap; simp [IntKind.bits, IntKind.signed]; omega
            have hmv := SeAt.move (Q' := Qb lv c n (i + 1)) (bb' := 900 + 6 * (i + 1)) hz.out ⟨8, i, 0, false⟩ ⟨by show (8 : Nat) < 256; omega, by show i < 256; omega, by show (0 : Nat) < 65536; omega⟩ (by have := HK9.out; omega) (by omega) (fun g H hinv _ hq _ hb => by
              obtain ⟨g0, H0, q1, q2, rfl⟩ := hq
              exact ⟨⟨g0, H0, q1, q2, bt_move hin⟩, by omega⟩)
            unfold mval at hmv
            clear hz H3
            go_wp2_with fail
            refine hmv.mono ?_
            rintro e w3 ⟨rfl, h3⟩
            have HN : Hid (SeAt w n gq vx v (Qb lv c n (i + 1)) (K0 + (i + 1)) (900 + 6 * (i + 1)) w3) := h3
            clear hmv h3 d0
            go_wp2_with fail
            go_roundw
            case rel => exact ⟨i + 1, by omega, by go_num, HN⟩
            case measure => simp [intOf]; omega
          · obtain rfl : i = n := by omega
            have hiI : ¬ ((i : Int) < (i : Int)) := by omega
            have H4 : Hid (SeAt w i gq vx v (Tk lv c i 0) (K0 + i + 0) (900 + 6 * i + 6 * 0) wr) := hz.out.weak (by omega) (fun g H hinv hb hq => by
              obtain ⟨g0, H0, q1, q2, rfl⟩ := hq
              exact ⟨tz_of q1 q2, by omega⟩)
            clear hz H3
            go_wp2_with fail
            clear d0
            go_loopw [11] (fun jv wz => ∃ j : Nat, j ≤ i ∧ jv = .int .i64 (j : Nat) ∧ Hid (SeAt w i gq vx v (Tk lv c i j) (K0 + i + j) (900 + 6 * i + 6 * j) wz)) (fun jv _ => i - (intOf jv).toNat)
            case atStart => exact ⟨0, by omega, rfl, H4⟩
            case round =>
              obtain ⟨j, hj, rfl, hz⟩ := hrel
              have d0 : wr.cell? ⟨gq, 0, none⟩ = some (.int .i64 (i : Nat)) := by obtain ⟨_, h, _⟩ := hz.out; obtain ⟨_, _, _, hG, _⟩ := h; exact hG.c0
              by_cases hjn : j < i
              · have hjI : (j : Int) < (i : Int) := by omega
                have hcv : IntKind.u8.wrap ((j : Nat) : Int) = (j : Nat) := by unfold IntKind.wrap; simp [IntKind.bits, IntKind.signed]; omega
                have hmv := SeAt.move (Q' := Tk lv c i (j + 1)) (bb' := 900 + 6 * i + 6 * (j + 1)) hz.out ⟨0, j, al, false⟩ ⟨by show (0 : Nat) < 256; omega, by show j < 256; omega, HAL.out.2⟩ (by have := HK9.out; omega) (by omega) (fun g H hinv hh hq _ hb => by
                  refine ⟨?_, by omega⟩
                  have := tk_step hinv hjn (by have := HK9.out; omega) hq
                  rw [HAL.out.1] at this
                  exact this)
                unfold mval at hmv
                clear hz H4
                go_wp2_with fail
                refine hmv.mono ?_
                rintro e w3 ⟨rfl, h3⟩
                have HN : Hid (SeAt w i gq vx v (Tk lv c i (j + 1)) (K0 + i + (j + 1)) (900 + 6 * i + 6 * (j + 1)) w3) := h3
                clear hmv h3 d0
                go_wp2_with fail
                go_roundw
                case rel => exact ⟨j + 1, by omega, by go_num, HN⟩
                case measure => simp [intOf]; omega
              · obtain rfl : j = i := by omega
                have hjI : ¬ ((j : Int) < (j : Int)) := by omega
                have H5 : Hid (SeAt w j gq vx v (Qf lv c j 0) (K0 + 12 + 0) 1980 wr) := hz.out.weak (by omega) (fun g H hinv hb hq => ⟨qf_begin n6 (by omega) hq, by omega⟩)
                clear hz H4
                go_wp2_with fail
                clear d0
                go_loopw [12] (fun cv wz => ∃ cc : Nat, cc ≤ 1980 ∧ cv = .int .i64 (cc : Nat) ∧ Hid (SeAt w j gq vx v (Qf lv c j cc) (K0 + 12 + cc) 1980 wz)) (fun cv _ => 1981 - (intOf cv).toNat)
                case atStart => exact ⟨0, by omega, rfl, H5⟩
                case round =>
                  obtain ⟨cc, hcc, rfl, hz⟩ := hrel
                  obtain ⟨g5, hsw, hse5, hqf⟩ := hz.out
                  have hsw' := hsw
                  obtain ⟨_, col5, A5, hG5, _, _, _, x0, x1, x2, xf⟩ := hsw
                  obtain ⟨bo, bc, hbv, _, _⟩ := hG5.bag.len
                  have d2 := hG5.c2
                  rw [hbv] at d2
                  cases hbag : g5.bag with
                  | nil =>
                    rw [hbag] at d2
                    obtain ⟨H, hinv⟩ := hse5.inv
                    obtain ⟨f0, f1, f2, f3⟩ := tk_end hinv hbag hqf.1
                    have hSe : Se j g5 (150 + 2100 * (k + 1)) 900 := by
                      have h9 := hse5.more (K' := 150 + 2100 * (k + 1)) (by have := HLV.out.2; omega)
                      exact ⟨h9.inv, h9.hi, by rw [hbag]; simp, h9.views⟩
                    have HLK : Hid (min k 3 = lv) := HLV.out.1
                    by_cases hk2 : k < 2
                    · have hk2I : (k : Int) < 2 := by omega
                      have HNX : Hid (Rk w j gq vx (k + 1) wr) := by
                        have hl := HLK.out
                        refine ⟨c, v, .inl ⟨by omega, ?_⟩, g5, hsw', hSe, ?_⟩
                        · rcases HVK.out with ⟨_, h⟩ | ⟨h, _⟩
                          · exact h
                          · omega
                        · by_cases hk0 : k = 0
                          · exact .inr (.inl ⟨by omega, f0 (by omega)⟩)
                          · exact .inr (.inr (.inl ⟨by omega, f1 (by omega)⟩))
                      clear hsw' hse5 hqf hG5 hbv hbag hinv f0 f1 f2 f3 hSe hz x0 x1 x2 xf
                      go_wp2_with fail
                      go_roundw
                      case rel => exact ⟨k + 1, _, _, _, _, by omega, by go_num, rfl, rfl, rfl, rfl, HNX⟩
                      case measure => simp [intOf]; omega
                    · have hk2I : ¬ ((k : Int) < 2) := by omega
                      by_cases hk3 : k = 2
                      · have hkB : ((k : Int) == 2) = true := by simp [hk3]
                        obtain ⟨c6, hst⟩ := f2 (by have := HLK.out; omega)
                        obtain ⟨lb0, lc0, hlv0, _, hlc0⟩ := hG5.lcell n1
                        have d1 := hG5.c1
                        rw [hlv0] at d1
                        have dl0 := hlc0 0 (by omega)
                        obtain ⟨s1, s2, s3⟩ := hst.all 0 (by omega)
                        rw [HAL.out.1] at s3
                        have hcu := cur_any (hG5.mb 0 (by omega))
                        rw [s1, s3] at hcu
                        unfold vw at hcu
                        have xf0 := xf 0
                        have xf1 := xf 1
                        have xf2 := xf 2
                        have hvl : vx < wr.heap.size := World.block_lt_of_cell? _ _ x0
                        have HSW : Hid (Sw w (Old w) j gq vx g5 v wr ∧ Se j g5 (150 + 2100 * (k + 1)) 900 ∧ St j c6 g5) := ⟨hsw', hSe, hst⟩
                        have hj1 : (0 : Int) < (j : Int) := by omega
                        clear hsw' hse5 hqf hG5 hbv hbag hinv f0 f1 f2 f3 hSe hz hlv0 hlc0 s1 s2 s3 hst xf
                        go_wp2_with fail
                        refine hcu.mono ?_
                        rintro e w9 ⟨rfl, u9⟩
                        have x0 := u9.cell x0
                        have x1 := u9.cell x1
                        have x2 := u9.cell x2
                        have xf0 : w9.frozen? ⟨vx, 0, none⟩ = false := (u9.bl.frozen hvl).trans xf0
                        have xf1 : w9.frozen? ⟨vx, 1, none⟩ = false := (u9.bl.frozen hvl).trans xf1
                        have xf2 : w9.frozen? ⟨vx, 2, none⟩ = false := (u9.bl.frozen hvl).trans xf2
                        obtain ⟨ws, hws⟩ : ∃ ws, ((w9.setCell ⟨vx, 0, none⟩ (.int .u64 (c6.1 : Nat))).setCell ⟨vx, 1, none⟩ (.int .i64 c6.2)).setCell ⟨vx, 2, none⟩ (.int .u16 (al : Nat)) = ws := ⟨_, rfl⟩
                        have HWS : Hid (((w9.setCell ⟨vx, 0, none⟩ (.int .u64 (c6.1 : Nat))).setCell ⟨vx, 1, none⟩ (.int .i64 c6.2)).setCell ⟨vx, 2, none⟩ (.int .u16 (al : Nat)) = ws) := hws
                        have h6 : SeAt w j gq vx (c6, al) (St j c6) (150 + 2100 * (k + 1)) 900 ws := ⟨g5, by rw [← hws]; exact (HSW.out.1.up u9.bl).set (c6, al), HSW.out.2.1, HSW.out.2.2⟩
                        clear hcu u9 hws HSW
                        have HD6 : Hid (SeAt w j gq vx (c6, al) (St j c6) (150 + 2100 * (k + 1)) 900 ws) := h6
                        go_wp2_with fail
                        rw [HWS.out]
                        go_loopw [13] (fun tv wz => ∃ t : Nat, t ≤ j ∧ tv = .int .i64 (t : Nat) ∧ Hid (SeAt w j gq vx (c6, al) (St j c6) (150 + 2100 * (k + 1)) 900 wz)) (fun tv _ => j - (intOf tv).toNat)
                        case atStart => exact ⟨0, by omega, rfl, HD6⟩
                        case round =>
                          obtain ⟨t, ht, rfl, hz⟩ := hrel
                          have ht0 : ¬ ((t : Int) < 0) := by omega
                          obtain ⟨g6, hsw6, hse6, hst6⟩ := hz.out
                          obtain ⟨_, col6, A6, hG6, _, _, _, x0, x1, x2, _⟩ := hsw6
                          have d0 := hG6.c0
                          by_cases htn : t < j
                          · have htI : (t : Int) < (j : Int) := by omega
                            obtain ⟨lb, lc, hlv, _, hlc⟩ := hG6.lcell n1
                            have d1 := hG6.c1
                            rw [hlv] at d1
                            have dl := hlc t htn
                            obtain ⟨s1, s2, s3⟩ := hst6.all t htn
                            rw [HAL.out.1] at s3
                            have hcu := cur_any (hG6.drew.mb t htn)
                            rw [s1, s3] at hcu
                            unfold vw at hcu
                            have hop := fun W (u : Below wr.drew.heap.size wr.drew W) => open_any ((hG6.drew.up u).mb t htn)
                            have ho1 : (g6.ms t).opn = true := by unfold Mm.opn; rw [s1, s2, decide_eq_true (show 0 < c6.1 by have := hst6.pos; omega)]; simp
                            rw [ho1] at hop
                            obtain ⟨cn, cp⟩ := c6
                            have vq := fun W => view_equal cn cp al cn cp al W
                            simp only [and_self, decide_true] at vq
                            simp only at hcu x0 x1 x2
                            have hS : S5 gq lb j lc (A6.qs t) vx t cn cp al wr.drew := ⟨d1, dl, x0, x1, x2⟩
                            have HZ : Hid (SeAt w j gq vx ((cn, cp), al) (St j (cn, cp)) (150 + 2100 * (k + 1)) 900 wr.drew) := hz.out.up ((Below.refl _ _).drew)
                            clear hG6 hse6 hst6 hlv hlc d1 dl x0 x1 x2 s1 s2 s3 ho1 hz HD6
                            go_wp2_with fail
                            refine wp_region_noPanic ?_
                            refine wp_region_held_drew (S := fun wx => S5 gq lb j lc (A6.qs t) vx t cn cp al wx) (by kernel_rfl) hS (fun hHeld => ?_)
                            refine tk 0 rfl (fun wx ⟨a1, a2, a3, a4, a5⟩ => by go_simp; try with_reducible rfl) ?_
                            refine tk 1 rfl (fun wx ⟨a1, a2, a3, a4, a5⟩ => by go_simp; try with_reducible rfl) ?_
                            refine tk 2 rfl (fun wx ⟨a1, a2, a3, a4, a5⟩ => by go_simp; try with_reducible rfl) ?_
                            refine tk 3 rfl (fun wx ⟨a1, a2, a3, a4, a5⟩ => by go_simp; try with_reducible rfl) ?_
                            refine tk 4 rfl (fun wx ⟨a1, a2, a3, a4, a5⟩ => by go_simp; try with_reducible rfl) ?_
                            refine tk 5 rfl (fun wx ⟨a1, a2, a3, a4, a5⟩ => by go_simp; try with_reducible rfl) ?_
                            refine tk 6 rfl (fun wx ⟨a1, a2, a3, a4, a5⟩ => by go_simp; try with_reducible rfl) ?_
                            refine tk 8 rfl (fun wx ⟨a1, a2, a3, a4, a5⟩ => by go_simp; try with_reducible rfl) ?_
                            refine comes_up 7 rfl (by kernel_rfl) (fun K hK => ?_)
                            go_simp
                            refine hcu.mono ?_
                            rintro e w7 ⟨rfl, u7⟩
                            have hS7 : S5 gq lb j lc (A6.qs t) vx t cn cp al w7 := ⟨u7.cell hS.1, u7.cell hS.2.1, u7.cell hS.2.2.1, u7.cell hS.2.2.2.1, u7.cell hS.2.2.2.2⟩
                            have hop7 := hop w7 u7.bl
                            clear hcu hop
                            go_wp2_with fail
                            refine hK.out _ _ hS7 (fun hHeld => ?_)
                            clear hK K
                            (try simp only [Act.put, List.setIfInBounds_toArray, List.set_cons_zero, List.set_cons_succ])
                            refine tk 9 rfl (fun wx ⟨a1, a2, a3, a4, a5⟩ => by go_simp; try with_reducible rfl) ?_
                            refine tk 10 rfl (fun wx ⟨a1, a2, a3, a4, a5⟩ => by go_simp; try with_reducible rfl) ?_
                            refine tk 11 rfl (fun wx ⟨a1, a2, a3, a4, a5⟩ => by go_simp; try with_reducible rfl) ?_
                            refine tk 12 rfl (fun wx ⟨a1, a2, a3, a4, a5⟩ => by go_simp; try with_reducible rfl) ?_
                            refine tk 13 rfl (fun wx ⟨a1, a2, a3, a4, a5⟩ => by go_simp; try with_reducible rfl) ?_
                            refine tk 14 rfl (fun wx ⟨a1, a2, a3, a4, a5⟩ => by go_simp; try with_reducible rfl) ?_
                            refine tk 15 rfl (fun wx ⟨a1, a2, a3, a4, a5⟩ => by go_simp; try with_reducible rfl) ?_
                            refine tk 16 rfl (fun wx ⟨a1, a2, a3, a4, a5⟩ => by go_simp; try with_reducible rfl) ?_
                            refine tk 17 rfl (fun wx ⟨a1, a2, a3, a4, a5⟩ => by go_simp; try with_reducible rfl) ?_
                            refine tk 18 rfl (fun wx ⟨a1, a2, a3, a4, a5⟩ => by go_simp; try with_reducible rfl) ?_
                            refine tk 19 rfl (fun wx ⟨a1, a2, a3, a4, a5⟩ => by go_simp; try with_reducible rfl) ?_
                            refine tk 20 rfl (fun wx ⟨a1, a2, a3, a4, a5⟩ => by go_simp; try with_reducible rfl) ?_
                            refine tk 21 rfl (fun wx ⟨a1, a2, a3, a4, a5⟩ => by go_simp; try with_reducible rfl) ?_
                            refine tk 22 rfl (fun wx ⟨a1, a2, a3, a4, a5⟩ => by go_simp; try with_reducible rfl) ?_
                            refine tk 23 rfl (fun wx ⟨a1, a2, a3, a4, a5⟩ => by go_simp; try with_reducible rfl) ?_
                            refine comes_up 24 rfl (by kernel_rfl) (fun K hK => ?_)
                            go_simp
                            refine hop7.mono ?_
                            rintro e w8 ⟨rfl, u8⟩
                            have hS8 : S5 gq lb j lc (A6.qs t) vx t cn cp al w8 := ⟨u8.cell hS7.1, u8.cell hS7.2.1, u8.cell hS7.2.2.1, u8.cell hS7.2.2.2.1, u8.cell hS7.2.2.2.2⟩
                            have HZ8 : Hid (SeAt w j gq vx ((cn, cp), al) (St j (cn, cp)) (150 + 2100 * (k + 1)) 900 w8) := (HZ.out.up u7.bl).up u8.bl
                            clear hop7 u7 u8 HZ
                            go_wp2_with fail
                            refine hK.out _ _ hS8 (fun hHeld => ?_)
                            clear hK K
                            (try simp only [Act.put, List.setIfInBounds_toArray, List.set_cons_zero, List.set_cons_succ])
                            refine tk 25 rfl (fun wx ⟨a1, a2, a3, a4, a5⟩ => by go_simp; try with_reducible rfl) ?_
                            refine tk 26 rfl (fun wx ⟨a1, a2, a3, a4, a5⟩ => by go_simp; try with_reducible rfl) ?_
                            refine wpAnyH_done (by kernel_rfl) ?_ _
                            refine NoPanic.normal ?_
                            clear hHeld hS hS7 hS8 vq
                            go_wp2_with fail
                            go_roundw
                            case rel => exact ⟨t + 1, by omega, by go_num, HZ8⟩
                            case measure => simp [intOf]; omega
                          · obtain rfl : t = j := by omega
                            have htI : ¬ ((t : Int) < (t : Int)) := by omega
                            have HNX : Hid (Rk w t gq vx (k + 1) wr) := ⟨c6, (c6, al), .inr ⟨by omega, by rw [HAL.out.1]⟩, hz.out.imp (fun g H hinv _ hq => .inr (.inr (.inr ⟨by omega, hq⟩)))⟩
                            clear hG6 hse6 hst6 hz x0 x1 x2
                            go_wp2_with fail
                            go_roundw
                            case rel => exact ⟨k + 1, _, _, _, _, by omega, by go_num, rfl, rfl, rfl, rfl, HNX⟩
                            case measure => simp [intOf]; omega
                      · have hkB : ((k : Int) == 2) = false := by
                          have : ¬ (k : Int) = 2 := by omega
                          simpa using this
                        have hst := f3 (by have := HLK.out; omega)
                        have hv2 : v = (c, al) := by
                          rcases HVK.out with ⟨h, _⟩ | ⟨_, h⟩
                          · omega
                          · rw [h, HAL.out.1]
                        obtain ⟨c6, hc6⟩ : ∃ c6, c = c6 := ⟨_, rfl⟩
                        have h6 : SeAt w j gq vx (c6, al) (St j c6) (150 + 2100 * (k + 1)) 900 wr := ⟨g5, by rw [← hc6, ← hv2]; exact hsw', hSe, by rw [← hc6]; exact hst⟩
                        clear hsw' hse5 hqf hG5 hbv hbag hinv f0 f1 f2 f3 hSe hz hst hv2 x0 x1 x2 xf hc6
                        have HD6 : Hid (SeAt w j gq vx (c6, al) (St j c6) (150 + 2100 * (k + 1)) 900 wr) := h6
                        go_wp2_with fail
                        skip
                        go_loopw [13] (fun tv wz => ∃ t : Nat, t ≤ j ∧ tv = .int .i64 (t : Nat) ∧ Hid (SeAt w j gq vx (c6, al) (St j c6) (150 + 2100 * (k + 1)) 900 wz)) (fun tv _ => j - (intOf tv).toNat)
                        case atStart => exact ⟨0, by omega, rfl, HD6⟩
                        case round =>
                          obtain ⟨t, ht, rfl, hz⟩ := hrel
                          have ht0 : ¬ ((t : Int) < 0) := by omega
                          obtain ⟨g6, hsw6, hse6, hst6⟩ := hz.out
                          obtain ⟨_, col6, A6, hG6, _, _, _, x0, x1, x2, _⟩ := hsw6
                          have d0 := hG6.c0
                          by_cases htn : t < j
                          · have htI : (t : Int) < (j : Int) := by omega
                            obtain ⟨lb, lc, hlv, _, hlc⟩ := hG6.lcell n1
                            have d1 := hG6.c1
                            rw [hlv] at d1
                            have dl := hlc t htn
                            obtain ⟨s1, s2, s3⟩ := hst6.all t htn
                            rw [HAL.out.1] at s3
                            have hcu := cur_any (hG6.drew.mb t htn)
                            rw [s1, s3] at hcu
                            unfold vw at hcu
                            have hop := fun W (u : Below wr.drew.heap.size wr.drew W) => open_any ((hG6.drew.up u).mb t htn)
                            have ho1 : (g6.ms t).opn = true := by unfold Mm.opn; rw [s1, s2, decide_eq_true (show 0 < c6.1 by have := hst6.pos; omega)]; simp
                            rw [ho1] at hop
                            obtain ⟨cn, cp⟩ := c6
                            have vq := fun W => view_equal cn cp al cn cp al W
                            simp only [and_self, decide_true] at vq
                            simp only at hcu x0 x1 x2
                            have hS : S5 gq lb j lc (A6.qs t) vx t cn cp al wr.drew := ⟨d1, dl, x0, x1, x2⟩
                            have HZ : Hid (SeAt w j gq vx ((cn, cp), al) (St j (cn, cp)) (150 + 2100 * (k + 1)) 900 wr.drew) := hz.out.up ((Below.refl _ _).drew)
                            clear hG6 hse6 hst6 hlv hlc d1 dl x0 x1 x2 s1 s2 s3 ho1 hz HD6
                            go_wp2_with fail
                            refine wp_region_noPanic ?_
                            refine wp_region_held_drew (S := fun wx => S5 gq lb j lc (A6.qs t) vx t cn cp al wx) (by kernel_rfl) hS (fun hHeld => ?_)
                            refine tk 0 rfl (fun wx ⟨a1, a2, a3, a4, a5⟩ => by go_simp; try with_reducible rfl) ?_
                            refine tk 1 rfl (fun wx ⟨a1, a2, a3, a4, a5⟩ => by go_simp; try with_reducible rfl) ?_
                            refine tk 2 rfl (fun wx ⟨a1, a2, a3, a4, a5⟩ => by go_simp; try with_reducible rfl) ?_
                            refine tk 3 rfl (fun wx ⟨a1, a2, a3, a4, a5⟩ => by go_simp; try with_reducible rfl) ?_
                            refine tk 4 rfl (fun wx ⟨a1, a2, a3, a4, a5⟩ => by go_simp; try with_reducible rfl) ?_
                            refine tk 5 rfl (fun wx ⟨a1, a2, a3, a4, a5⟩ => by go_simp; try with_reducible rfl) ?_
                            refine tk 6 rfl (fun wx ⟨a1, a2, a3, a4, a5⟩ => by go_simp; try with_reducible rfl) ?_
                            refine tk 8 rfl (fun wx ⟨a1, a2, a3, a4, a5⟩ => by go_simp; try with_reducible rfl) ?_
                            refine comes_up 7 rfl (by kernel_rfl) (fun K hK => ?_)
                            go_simp
                            refine hcu.mono ?_
                            rintro e w7 ⟨rfl, u7⟩
                            have hS7 : S5 gq lb j lc (A6.qs t) vx t cn cp al w7 := ⟨u7.cell hS.1, u7.cell hS.2.1, u7.cell hS.2.2.1, u7.cell hS.2.2.2.1, u7.cell hS.2.2.2.2⟩
                            have hop7 := hop w7 u7.bl
                            clear hcu hop
                            go_wp2_with fail
                            refine hK.out _ _ hS7 (fun hHeld => ?_)
                            clear hK K
                            (try simp only [Act.put, List.setIfInBounds_toArray, List.set_cons_zero, List.set_cons_succ])
                            refine tk 9 rfl (fun wx ⟨a1, a2, a3, a4, a5⟩ => by go_simp; try with_reducible rfl) ?_
                            refine tk 10 rfl (fun wx ⟨a1, a2, a3, a4, a5⟩ => by go_simp; try with_reducible rfl) ?_
                            refine tk 11 rfl (fun wx ⟨a1, a2, a3, a4, a5⟩ => by go_simp; try with_reducible rfl) ?_
                            refine tk 12 rfl (fun wx ⟨a1, a2, a3, a4, a5⟩ => by go_simp; try with_reducible rfl) ?_
                            refine tk 13 rfl (fun wx ⟨a1, a2, a3, a4, a5⟩ => by go_simp; try with_reducible rfl) ?_
                            refine tk 14 rfl (fun wx ⟨a1, a2, a3, a4, a5⟩ => by go_simp; try with_reducible rfl) ?_
                            refine tk 15 rfl (fun wx ⟨a1, a2, a3, a4, a5⟩ => by go_simp; try with_reducible rfl) ?_
                            refine tk 16 rfl (fun wx ⟨a1, a2, a3, a4, a5⟩ => by go_simp; try with_reducible rfl) ?_
                            refine tk 17 rfl (fun wx ⟨a1, a2, a3, a4, a5⟩ => by go_simp; try with_reducible rfl) ?_
                            refine tk 18 rfl (fun wx ⟨a1, a2, a3, a4, a5⟩ => by go_simp; try with_reducible rfl) ?_
                            refine tk 19 rfl (fun wx ⟨a1, a2, a3, a4, a5⟩ => by go_simp; try with_reducible rfl) ?_
                            refine tk 20 rfl (fun wx ⟨a1, a2, a3, a4, a5⟩ => by go_simp; try with_reducible rfl) ?_
                            refine tk 21 rfl (fun wx ⟨a1, a2, a3, a4, a5⟩ => by go_simp; try with_reducible rfl) ?_
                            refine tk 22 rfl (fun wx ⟨a1, a2, a3, a4, a5⟩ => by go_simp; try with_reducible rfl) ?_
                            refine tk 23 rfl (fun wx ⟨a1, a2, a3, a4, a5⟩ => by go_simp; try with_reducible rfl) ?_
                            refine comes_up 24 rfl (by kernel_rfl) (fun K hK => ?_)
                            go_simp
                            refine hop7.mono ?_
                            rintro e w8 ⟨rfl, u8⟩
                            have hS8 : S5 gq lb j lc (A6.qs t) vx t cn cp al w8 := ⟨u8.cell hS7.1, u8.cell hS7.2.1, u8.cell hS7.2.2.1, u8.cell hS7.2.2.2.1, u8.cell hS7.2.2.2.2⟩
                            have HZ8 : Hid (SeAt w j gq vx ((cn, cp), al) (St j (cn, cp)) (150 + 2100 * (k + 1)) 900 w8) := (HZ.out.up u7.bl).up u8.bl
                            clear hop7 u7 u8 HZ
                            go_wp2_with fail
                            refine hK.out _ _ hS8 (fun hHeld => ?_)
                            clear hK K
                            (try simp only [Act.put, List.setIfInBounds_toArray, List.set_cons_zero, List.set_cons_succ])
                            refine tk 25 rfl (fun wx ⟨a1, a2, a3, a4, a5⟩ => by go_simp; try with_reducible rfl) ?_
                            refine tk 26 rfl (fun wx ⟨a1, a2, a3, a4, a5⟩ => by go_simp; try with_reducible rfl) ?_
                            refine wpAnyH_done (by kernel_rfl) ?_ _
                            refine NoPanic.normal ?_
                            clear hHeld hS hS7 hS8 vq
                            go_wp2_with fail
                            go_roundw
                            case rel => exact ⟨t + 1, by omega, by go_num, HZ8⟩
                            case measure => simp [intOf]; omega
                          · obtain rfl : t = j := by omega
                            have htI : ¬ ((t : Int) < (t : Int)) := by omega
                            have HNX : Hid (Rk w t gq vx (k + 1) wr) := ⟨c6, (c6, al), .inr ⟨by omega, by rw [HAL.out.1]⟩, hz.out.imp (fun g H hinv _ hq => .inr (.inr (.inr ⟨by omega, hq⟩)))⟩
                            clear hG6 hse6 hst6 hz x0 x1 x2
                            go_wp2_with fail
                            go_roundw
                            case rel => exact ⟨k + 1, _, _, _, _, by omega, by go_num, rfl, rfl, rfl, rfl, HNX⟩
                            case measure => simp [intOf]; omega
                  | cons x l =>
                    rw [hbag] at d2
                    obtain ⟨m, hm⟩ : ∃ m, (x :: l).length = m := ⟨_, rfl⟩
                    have hm0 : (0 : Int) < (m : Int) := by rw [← hm]; simp <;> omega
                    rw [hm] at d2
                    have hlt : cc < 1980 := by
                      have h8 := bag_mu j g5
                      rw [hbag, hm] at h8
                      have := hqf.2
                      omega
                    have hc5 : ¬ ((5000 : Int) < (cc : Int)) := by omega
                    have hpre : SeAt w j gq vx v (fun g => Qf lv c j cc g ∧ g.bag ≠ []) (K0 + 12 + cc) 1980 wr := ⟨g5, hsw', hse5, hqf, by rw [hbag]; simp⟩
                    have hmv := SeAt.move (Q' := Qf lv c j (cc + 1)) (bb' := 1980) hpre ⟨3, 0, 0, false⟩ ⟨by show (3 : Nat) < 256; omega, by show (0 : Nat) < 256; omega, by show (0 : Nat) < 65536; omega⟩ (by have := HK9.out; omega) (by omega) (fun g H hinv _ hq _ _ => by
                      obtain ⟨⟨ht, hmu⟩, hne⟩ := hq
                      cases hb : g.bag with
                      | nil => exact absurd hb hne
                      | cons x l =>
                        rw [move_del hb]
                        have h8 := mu_del hinv hb
                        have h9 := bag_mu j (g.del x l)
                        exact ⟨⟨tk_del hinv hb ht, by omega⟩, by omega⟩)
                    unfold mval at hmv
                    clear hsw' hse5 hqf hG5 hbv hbag hz x0 x1 x2 xf hm hpre H5
                    go_wp2_with fail
                    refine hmv.mono ?_
                    rintro e w3 ⟨rfl, h3⟩
                    have HN : Hid (SeAt w j gq vx v (Qf lv c j (cc + 1)) (K0 + 12 + (cc + 1)) 1980 w3) := h3
                    clear hmv h3 d2
                    go_wp2_with fail
                    go_roundw
                    case rel => exact ⟨cc + 1, by omega, by go_num, HN⟩
                    case measure => simp [intOf]; omega
      · have hkI : ¬ ((k : Int) < 8) := by omega
        clear hw
        go_wp2_with fail
        go_ret
        exact ⟨rfl, HB.out⟩
end Go.Proofs.YtlonbbepoamnmaaDoor
