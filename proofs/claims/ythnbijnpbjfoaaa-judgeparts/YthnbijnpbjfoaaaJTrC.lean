/-
  The statements' traces: how many messages each receives.
-/
import Derived.Test.YthnbijnpbjfoaaaJTrB
namespace Go.Proofs.Ythnbijnpbjfoaaa
open Go.RowKit Go.Sort
set_option linter.unusedVariables false
set_option linter.unusedSimpArgs false

set_option maxRecDepth 100000 in
set_option maxHeartbeats 16000000 in
theorem had_loop {w w3 : World} {N cap n k g b off vn sv V rn rc hm hc sm : Nat} {ra ha : Option Addr} {sS sF : Sr} {runs : List Rn} {x : Rn} {X2 : Nat → List Ev} {ALL : List Ev} {R3 : Nat → Sr} {lb : Bool} (hn0 : 1 ≤ n) (hn6 : n ≤ 6) (hltI : (k : Int) < (N : Int)) (hk0 : ¬ ((k : Int) < 0)) (hkI : (k : Int) < 6) (hN42 : N ≤ 4398046511104) (hNr : runs.length = N) (sv16 : sv < 65536) (hhm : x.had.length = hm) (hhm47 : hm ≤ 140737488355328) (hsmle : sm ≤ rn) (rn10 : rn ≤ 10)
    (HRUN : Hid (R4 w b (off + k * 4) x sS (ha, hm, hc) sF ∧ Rw (fun _ => True) w ha hm x.had)) (HX2 : Hid (∀ j, (X2 j).length ≤ 300)) (HTS : Hid (TS w w3 g n V (vn, 0, sv) R3 (upd X2 n ALL) ∧ R3 n = (ra, rn, rc))) (HRN : Hid (rn = ALL.length)) (HLB : Hid (lastF runs k = lb)) (HSM : Hid (sameF rn x.had = sm))
    (HSL : Hid (∀ m, m ≤ rn → ∀ W, (Instr.slice 41 (.slice ra rn rc) none (some (.int .i64 (m : Nat))) none).run Try.prog W = .ok (.slice ra m rc) W)) {x2 x3 x4 x9 x10 x11 x12 x16 x17 x18 x19 x20 x21 x22 x23 x24 x25 x26 x27 x28 x29 x30 x31 x32 x33 x34 x35 x36 x37 x38 x39 x40 x41 x42 x43 x44 x45 x46 x47 x48 x49 x50 x51 x52 x53 x54 x55 x56 x57 x58 x59 x60 x61 x62 x63 x64 x65 x66 x67 x68 x69 x70 x71 x72 x73 x74 x75 x76 x77 x78 x79 x80 x81 x82 x83 x84 x85 x86 x87 x88 x89 x90 x91 x92 x93 x94 x95 x96 x97 x98 x99 x100 x101 x102 x103 x104 x105 x106 x107 x108 x109 x110 x111 x112 x113 x114 x115 x116 x117 x118 x119 x120 x121 x122 x123 x124 x125 x126 x127 x128 x129 x130 x131 x132 x133 x134 x135 x136 x137 x138 x139 x140 x141 x142 x143 x144 x145 x146 x147 x148 x149 x150 x151 x152 x153 x154 x155 x156 x157 x158 x159 x160 x161 x162 x163 x164 x165 x166 x167 x168 x169 x170 x171 x172 x173 x174 x175 x176 x177 x178 x179 x180 x181 x182 x183 x184 x185 x186 x187 x188 x189 x190 x191 x192 x193 x194 x195 x196 x197 x198 x199 x200 x201 x202 x203 x204 x205 x206 x207 x208 x209 x210 x211 x212 x213 x214 x215 x216 x217 x218 x219 x220 x221 x222 x223 x224 x225 x226 x227 x228 x229 x230 x231 x232 x233 x234 x235 x236 x237 x238 x239 x240 x241 x242 x243 x244 x245 x246 x247 x248 x249 x250 x251 x252 x253 x254 x255 x256 x257 x258 x259 : Value} {Q' : Exit → Act → World → Prop} {J K' : Act → World → Prop}
    (hJ : ∀ a' w', (∃ u13 u15 u16 u17 u147 u148 u149 u150 u151 u152 u153 u154 u155 u156 u157 u158 u159 u160 u161 u162 u163 u164 u165 u166 u167 u168 u169 u170 u171 u172 u173 u174 u175 u176 u177 u178 u179 u180 u181 u182 u183 u184 u185 u186 u187 u188 u189 u190 u191 u192 u193 u194 u195 u196 u197 u198 u199 u200 u201 u202 u203 u204 u205 u206 : Value, (∃ R, u13 = .int .i64 ((leastF rn lb x.had sv n : Nat) : Int) ∧ R n = (ra, rn, rc) ∧ Hid (TS w w' g n V (vn, 0, sv) R (upd (Xg X2 (segR (vn, 0, sv) ALL lb x.had) n) n ALL))) ∧ a' = ⟨#[.int .i64 (n : Nat), .slice (some ⟨b, off, none⟩) N cap, x2, x3, x4, .slice (some ⟨g, 0, none⟩) n n, .int .i64 (k : Nat), .pointer (some ⟨V, 0, none⟩), .slice ra rn rc, x9, x10, x11, x12, u13, .int .i64 (sm : Nat), u15, u16, u17, x18, x19, x20, x21, x22, x23, x24, x25, x26, x27, x28, x29, x30, x31, x32, x33, x34, x35, x36, x37, x38, x39, x40, x41, x42, x43, x44, x45, x46, x47, x48, x49, x50, x51, x52, x53, x54, x55, x56, x57, x58, x59, x60, x61, x62, x63, x64, x65, x66, x67, x68, x69, x70, x71, x72, x73, x74, x75, x76, x77, x78, x79, x80, x81, x82, x83, x84, x85, x86, x87, x88, x89, x90, x91, x92, x93, x94, x95, x96, x97, x98, x99, x100, x101, x102, x103, x104, x105, x106, x107, x108, x109, x110, x111, x112, x113, x114, x115, x116, x117, x118, x119, x120, x121, x122, x123, x124, x125, x126, x127, x128, x129, x130, x131, x132, x133, x134, x135, x136, x137, x138, x139, x140, x141, x142, x143, x144, x145, x146, u147, u148, u149, u150, u151, u152, u153, u154, u155, u156, u157, u158, u159, u160, u161, u162, u163, u164, u165, u166, u167, u168, u169, u170, u171, u172, u173, u174, u175, u176, u177, u178, u179, u180, u181, u182, u183, u184, u185, u186, u187, u188, u189, u190, u191, u192, u193, u194, u195, u196, u197, u198, u199, u200, u201, u202, u203, u204, u205, u206, x207, x208, x209, x210, x211, x212, x213, x214, x215, x216, x217, x218, x219, x220, x221, x222, x223, x224, x225, x226, x227, x228, x229, x230, x231, x232, x233, x234, x235, x236, x237, x238, x239, x240, x241, x242, x243, x244, x245, x246, x247, x248, x249, x250, x251, x252, x253, x254, x255, x256, x257, x258, x259], []⟩) → J a' w') (hK : ∀ a' w', Met J a' w' → K' a' w') :
    Code.wp Try.prog (blk17 6) (Exit.then K' Q') ⟨#[.int .i64 (n : Nat), .slice (some ⟨b, off, none⟩) N cap, x2, x3, x4, .slice (some ⟨g, 0, none⟩) n n, .int .i64 (k : Nat), .pointer (some ⟨V, 0, none⟩), .slice ra rn rc, x9, x10, x11, x12, .int .i64 (rn : Nat), .int .i64 (sm : Nat), .int .i64 0, x16, x17, x18, x19, x20, x21, x22, x23, x24, x25, x26, x27, x28, x29, x30, x31, x32, x33, x34, x35, x36, x37, x38, x39, x40, x41, x42, x43, x44, x45, x46, x47, x48, x49, x50, x51, x52, x53, x54, x55, x56, x57, x58, x59, x60, x61, x62, x63, x64, x65, x66, x67, x68, x69, x70, x71, x72, x73, x74, x75, x76, x77, x78, x79, x80, x81, x82, x83, x84, x85, x86, x87, x88, x89, x90, x91, x92, x93, x94, x95, x96, x97, x98, x99, x100, x101, x102, x103, x104, x105, x106, x107, x108, x109, x110, x111, x112, x113, x114, x115, x116, x117, x118, x119, x120, x121, x122, x123, x124, x125, x126, x127, x128, x129, x130, x131, x132, x133, x134, x135, x136, x137, x138, x139, x140, x141, x142, x143, x144, x145, x146, x147, x148, x149, x150, x151, x152, x153, x154, x155, x156, x157, x158, x159, x160, x161, x162, x163, x164, x165, x166, x167, x168, x169, x170, x171, x172, x173, x174, x175, x176, x177, x178, x179, x180, x181, x182, x183, x184, x185, x186, x187, x188, x189, x190, x191, x192, x193, x194, x195, x196, x197, x198, x199, x200, x201, x202, x203, x204, x205, x206, x207, x208, x209, x210, x211, x212, x213, x214, x215, x216, x217, x218, x219, x220, x221, x222, x223, x224, x225, x226, x227, x228, x229, x230, x231, x232, x233, x234, x235, x236, x237, x238, x239, x240, x241, x242, x243, x244, x245, x246, x247, x248, x249, x250, x251, x252, x253, x254, x255, x256, x257, x258, x259], []⟩ w3 := by
  conv => arg 2; whnf
  go_wp2_with fail
  -- how many each receives
  go_loopw [13, 15, 16, 17] (fun lv iv _ _ wr => ∃ (i : Nat) (R : Nat → Sr), i ≤ n ∧ iv = .int .i64 (i : Nat) ∧ lv = .int .i64 ((leastF rn lb x.had sv i : Nat) : Int) ∧ R n = (ra, rn, rc) ∧ TS w wr g n V (vn, 0, sv) R (upd (Xg X2 (segR (vn, 0, sv) ALL lb x.had) i) n ALL)) (fun _ iv _ _ _ => n - (intOf iv).toNat)
  case atStart => exact ⟨0, R3, by omega, rfl, rfl, HTS.out.2, by rw [Xg_zero]; exact HTS.out.1⟩
  case round =>
    clear HTS
    obtain ⟨i, R, hi, rfl, rfl, hRn, hts⟩ := hrel
    have HS : Hid (R n = (ra, rn, rc) ∧ TS w wr g n V (vn, 0, sv) R (upd (Xg X2 (segR (vn, 0, sv) ALL lb x.had) i) n ALL)) := ⟨hRn, hts⟩
    have c2 := bl_cell hts.bl HRUN.out.1.2.2.1
    simp only at c2
    obtain ⟨v0, v1, v2⟩ := hts.vb.at
    simp only at v0 v1 v2
    obtain ⟨L, hL⟩ : ∃ L, leastF rn lb x.had sv i = L := ⟨_, rfl⟩
    have HL : Hid (leastF rn lb x.had sv i = L) := hL
    have hLle : L ≤ rn := by rw [← hL]; exact leastF_le _ _ _ _ _
    simp only [hL]
    clear hRn hts hL
    by_cases hil : i < n
    · have hilI : (i : Int) < (n : Int) := by omega
      have hi0 : ¬ ((i : Int) < 0) := by omega
      go_upto_region 28 with fail
      go_cut [17] from 153 to 161 (fun bv wx => bv = .bool lb ∧ wr = wx)
      case first =>
        by_cases hk1 : k + 1 = N
        · have hkb : ((k : Int) + 1 == (N : Int)) = true := by simp; omega
          have HE : Hid (lb = true) := by show lb = true; rw [← HLB.out]; unfold lastF; rw [hNr]; simp [hk1]
          clear hk1
          go_wp2_with fail
          go_meet
          exact ⟨by rw [HE.out], rfl⟩
        · have hkb : ((k : Int) + 1 == (N : Int)) = false := by simp; omega
          by_cases hk5 : k = 5
          · have hkb5 : ((k : Int) == 5) = true := by simp; omega
            have HE : Hid (lb = true) := by show lb = true; rw [← HLB.out]; unfold lastF; rw [hNr]; simp [hk5]
            clear hk1 hk5
            go_wp2_with fail
            go_meet
            exact ⟨by rw [HE.out], rfl⟩
          · have hkb5 : ((k : Int) == 5) = false := by simp; omega
            have HE : Hid (lb = false) := by show lb = false; rw [← HLB.out]; unfold lastF; rw [hNr]; simp [hk1, hk5]
            clear hk1 hk5
            go_wp2_with fail
            go_meet
            exact ⟨by rw [HE.out], rfl⟩
      case rest =>
        obtain ⟨rfl, rfl⟩ := hcut
        go_upto_region 29 with fail
        go_cut [172] from 162 to 171 (fun bv wx => bv = .bool (lb && decide (i < hm)) ∧ wr = wx)
        case first =>
          cases lb with
          | false =>
            go_wp2_with fail
            go_meet
            exact ⟨rfl, rfl⟩
          | true =>
            by_cases him : i < hm
            · have himI : (i : Int) < (hm : Int) := by omega
              have HE : Hid (i < hm) := him
              clear him
              go_wp2_with fail
              go_meet
              exact ⟨by simp [HE.out], rfl⟩
            · have himI : ¬ ((i : Int) < (hm : Int)) := by omega
              have HE : Hid (¬ i < hm) := him
              clear him
              go_wp2_with fail
              go_meet
              exact ⟨by simp [HE.out], rfl⟩
        case rest =>
          obtain ⟨rfl, rfl⟩ := hcut
          obtain ⟨bb2, hbb⟩ : ∃ bb, (lb && decide (i < hm)) = bb := ⟨_, rfl⟩
          rw [hbb]
          have HBB2 : Hid ((lb && decide (i < hm)) = bb2) := hbb
          obtain ⟨hv, hhv⟩ : ∃ hv, havF rn lb x.had i = hv := ⟨_, rfl⟩
          have hvle : hv ≤ rn := by rw [← hhv]; exact havF_le _ _ _ _
          have HHV : Hid (havF rn lb x.had i = hv) := hhv
          clear hbb hhv
          go_upto_if 172 with fail
          go_cut [16] from 173 to 185 (fun mv wx => mv = .int .i64 (hv : Nat) ∧ wr = wx)
          case first =>
            cases bb2 with
            | true =>
              have hb2 := HBB2.out
              simp only [Bool.and_eq_true, decide_eq_true_eq] at hb2
              have h0I : (i : Int) < (hm : Int) := by omega
              obtain ⟨hb, ho, hae, hcb, hb256⟩ := HRUN.out.2.byte hb2.2
              have hcb := bl_cell HS.out.2.bl hcb
              obtain ⟨bv, hbv⟩ : ∃ bv, byAt x.had i = bv := ⟨_, rfl⟩
              rw [hbv] at hcb hb256
              have hmd : (bv : Int) % ((rn : Int) + 1) = (hv : Int) := by
                have := HHV.out
                unfold havF at this
                rw [if_pos ⟨hb2.1, by omega⟩, hbv] at this
                rw [← this]; simp
              have hr1 : ¬ ((rn : Int) + 1 = 0) := by omega
              subst hae
              clear hb2 hbv
              go_wp2_with fail
              go_meet
              exact ⟨rfl, rfl⟩
            | false =>
              have HE : Hid (sm = hv) := by
                have := HHV.out
                unfold havF at this
                rw [if_neg (fun h => by
                  have h2 := HBB2.out
                  rw [h.1, show decide (i < hm) = true from decide_eq_true (by omega)] at h2
                  cases h2), HSM.out] at this
                exact this
              go_wp2_with fail
              go_meet
              exact ⟨by rw [HE.out], rfl⟩
          case rest =>
            obtain ⟨rfl, rfl⟩ := hcut
            have hbt := bit_test sv i sv16
            obtain ⟨bt, hbt2⟩ : ∃ bt, sv.testBit i = bt := ⟨_, rfl⟩
            rw [hbt2] at hbt
            have HBT : Hid (sv.testBit i = bt) := hbt2
            clear hbt2 c2
            cases bt with
            | false =>
              have HN : Hid (TS w wr g n V (vn, 0, sv) R (upd (Xg X2 (segR (vn, 0, sv) ALL lb x.had) (i + 1)) n ALL)) := by
                rw [Xg_no]
                · exact HS.out.2
                · unfold segR
                  rw [if_neg (by show ¬ sv.testBit i = true; rw [HBT.out]; simp)]
              have HL2 : Hid (leastF rn lb x.had sv (i + 1) = L) := by
                show _ = _
                unfold leastF
                rw [if_neg (by rw [HBT.out]; simp)]
                exact HL.out
              go_wp2
              go_roundw
              case rel => first | exact ⟨i + 1, R, by omega, by go_num, by rw [HL2.out], HS.out.1, HN.out⟩ | ((repeat apply Exists.intro); exact ⟨⟨i + 1, R, by omega, by go_num, by rw [HL2.out], HS.out.1, HN.out⟩, rfl⟩)
              case measure => simp [intOf]; omega
            | true =>
              obtain ⟨D2, hD2⟩ : ∃ D2, wr.drew = D2 := ⟨_, rfl⟩
              have uD : RowKit.Below wr.heap.size wr D2 := by rw [← hD2]; exact ((Up.refl wr).drew).bl
              have htA := HS.out.2.up uD
              have hXi : Xg X2 (segR (vn, 0, sv) ALL lb x.had) i i = X2 i := Xg_at _ _ _
              obtain ⟨r', w5, hrun, hput⟩ := htA.putAll hil (hv := hv) (by rw [← HRN.out]; exact hvle) (by rw [hXi]; have := HX2.out i; omega)
              rw [HS.out.1] at hrun
              obtain ⟨ri, hri⟩ : ∃ ri, R i = ri := ⟨_, rfl⟩
              have hgc : wr.cell? ⟨g, i, none⟩ = some (.slice ri.1 ri.2.1 ri.2.2) := by rw [← hri]; exact HS.out.2.tl.cell i hil
              have sa : HS3 g i ri D2 := ⟨bl_cell uD hgc, trivial⟩
              have g5 : w5.cell? ⟨g, i, none⟩ = some (.slice ri.1 ri.2.1 ri.2.2) := by have := hput.cell; rw [hri] at this; exact this
              have sc : HS3 g i ri w5 := ⟨g5, trivial⟩
              have f5 := hput.fz
              have HN : Hid (upd R i r' n = (ra, rn, rc) ∧ TS w (w5.setCell ⟨g, i, none⟩ (.slice r'.1 r'.2.1 r'.2.2)) g n V (vn, 0, sv) (upd R i r') (upd (Xg X2 (segR (vn, 0, sv) ALL lb x.had) (i + 1)) n ALL)) := by
                refine ⟨by rw [hput.last]; exact HS.out.1, ?_⟩
                have h1 := hput.ts
                rw [hXi, upd_comm _ _ _ (by omega)] at h1
                have e : ALL.take hv = segR (vn, 0, sv) ALL lb x.had i := by
                  unfold segR
                  rw [if_pos (by show sv.testBit i = true; exact HBT.out), ← HRN.out, HHV.out]
                rw [e, Xg_step] at h1
                exact h1
              have HRUN2 : Hid ((Builtin.append_ #[41, 41] 41 #[.slice ri.1 ri.2.1 ri.2.2, .slice ra hv rc]).run Try.prog D2 = .ok (.slice r'.1 r'.2.1 r'.2.2) w5) := by rw [← hri]; exact hrun
              have HSC : Hid (HS3 g i ri w5) := sc
              have hsl := HSL.out hv hvle
              clear hrun hput htA hXi hgc uD hri sc
              go_wp2_with fail
              refine wp_region_noPanic ?_
              refine beginE (HS3 g i ri) 11 (by kernel_rfl) (by rw [hD2]; exact sa) (fun hHeld => ?_)
              simp only [hD2] at hHeld ⊢
              unfold HS3 at hHeld
              refine tqE 0 ?_
              refine tqE 1 ?_
              refine tqE 2 ?_
              refine tqE 3 ?_
              refine tqE 4 ?_
              refine tqE 5 ?_
              refine tqE 6 ?_
              refine tqE 7 ?_
              refine tqE 8 ?_
              refine upE 9 rfl (by kernel_rfl) (fun K hK => ?_)
              refine step_append_run rfl (.tmp 197) (.tmp 200) 41 rfl (.slice ri.1 ri.2.1 ri.2.2) (.slice ra hv rc) (.slice r'.1 r'.2.1 r'.2.2) w5 (by simp [Act.eval]) (by simp [Act.eval]) HRUN2.out ?_
              refine hK.out _ _ (HSC.out) (fun hHeld => ?_)
              clear hK K
              (try simp only [Act.put, List.setIfInBounds_toArray, List.set_cons_zero, List.set_cons_succ])
              refine pureE 10 (v := ?_) rfl (by kernel_rfl) (by kernel_rfl) (by kernel_rfl) (by kernel_rfl) (fun _ _ _ h => h) (Or.inl ⟨by rfl, by intro wx hSw; (try dsimp only at hSw); go_simp; try with_reducible rfl⟩) (by assumption) ?_
              (try simp only [Act.put, List.setIfInBounds_toArray, List.set_cons_zero, List.set_cons_succ])
              refine lastE 11 rfl (by kernel_rfl) (by kernel_rfl) (fun K hK => ?_)
              go_simp
              refine hK.out _ _ ?_
              clear hK K
              (try simp only [Act.put, List.setIfInBounds_toArray, List.set_cons_zero, List.set_cons_succ])
              refine doneE (by kernel_rfl) ?_ _
              refine NoPanic.normal ?_
              by_cases hlt2 : hv < L
              · have hltI2 : (hv : Int) < (L : Int) := by omega
                have HL2 : Hid (leastF rn lb x.had sv (i + 1) = hv) := by
                  show _ = _
                  unfold leastF
                  rw [if_pos ⟨HBT.out, by rw [HHV.out, HL.out]; exact hlt2⟩, HHV.out]
                go_wp2
                go_roundw
                case rel => first | exact ⟨i + 1, _, by omega, by go_num, by rw [HL2.out], HN.out.1, HN.out.2⟩ | ((repeat apply Exists.intro); exact ⟨⟨i + 1, _, by omega, by go_num, by rw [HL2.out], HN.out.1, HN.out.2⟩, rfl⟩)
                case measure => simp [intOf]; omega
              · have hltI2 : ¬ ((hv : Int) < (L : Int)) := by omega
                have HL2 : Hid (leastF rn lb x.had sv (i + 1) = L) := by
                  show _ = _
                  unfold leastF
                  rw [if_neg (by rw [HHV.out, HL.out]; exact fun h => hlt2 h.2), HL.out]
                go_wp2
                go_roundw
                case rel => first | exact ⟨i + 1, _, by omega, by go_num, by rw [HL2.out], HN.out.1, HN.out.2⟩ | ((repeat apply Exists.intro); exact ⟨⟨i + 1, _, by omega, by go_num, by rw [HL2.out], HN.out.1, HN.out.2⟩, rfl⟩)
                case measure => simp [intOf]; omega
    · obtain rfl : n = i := by omega
      have hilI : ¬ ((n : Int) < (n : Int)) := by omega
      go_wp2_with fail
      go_meet
      exact ⟨R, by rw [HL.out], HS.out.1, HS.out.2⟩
end Go.Proofs.Ythnbijnpbjfoaaa
