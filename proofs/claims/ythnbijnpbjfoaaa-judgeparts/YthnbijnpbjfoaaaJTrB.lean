/-
  The statements' traces: who sends what.
-/
import Derived.Test.YthnbijnpbjfoaaaJTr1
import Derived.Deep.CutRange
import Derived.Deep.CutBlock
namespace Go.Proofs.Ythnbijnpbjfoaaa
open Go.RowKit Go.Sort
set_option linter.unusedVariables false
set_option linter.unusedSimpArgs false

def findBlock (n : Nat) : Code → Option Code
  | .block m c => if m = n then some (.block m c) else findBlock n c
  | .seq a b => match findBlock n a with
    | some c => some c
    | none => findBlock n b
  | .loop c => findBlock n c
  | .scope c => findBlock n c
  | .cond _ a b => match findBlock n a with
    | some c => some c
    | none => findBlock n b
  | _ => none
noncomputable def blk17 (n : Nat) : Code := (Try.f17.body.bind (findBlock n)).getD .skip
def HS0 (b o s : Nat) (w : World) : Prop := w.cell? ⟨b, o, none⟩ = some (.int .u16 (s : Nat)) ∧ True
def HS1 (g i V : Nat) (r : Sr) (v : Vw) (w : World) : Prop := w.cell? ⟨g, i, none⟩ = some (.slice r.1 r.2.1 r.2.2) ∧ w.cell? ⟨V, 0, none⟩ = some (.int .u64 (v.1 : Nat)) ∧ w.cell? ⟨V, 1, none⟩ = some (.int .i64 v.2.1) ∧ w.cell? ⟨V, 2, none⟩ = some (.int .u16 (v.2.2 : Nat))
theorem HS1.up {g i V : Nat} {r : Sr} {v : Vw} {w w' : World} (h : HS1 g i V r v w) (u : RowKit.Below w.heap.size w w') : HS1 g i V r v w' := ⟨bl_cell u h.1, bl_cell u h.2.1, bl_cell u h.2.2.1, bl_cell u h.2.2.2⟩
def HS2 (g i V Q : Nat) (r m : Sr) (v : Vw) (w : World) : Prop := w.cell? ⟨g, i, none⟩ = some (.slice r.1 r.2.1 r.2.2) ∧ w.cell? ⟨V, 0, none⟩ = some (.int .u64 (v.1 : Nat)) ∧ w.cell? ⟨V, 1, none⟩ = some (.int .i64 v.2.1) ∧ w.cell? ⟨V, 2, none⟩ = some (.int .u16 (v.2.2 : Nat)) ∧ w.cell? ⟨Q, 1, none⟩ = some (.slice m.1 m.2.1 m.2.2)
theorem HS2.up {g i V Q : Nat} {r m : Sr} {v : Vw} {w w' : World} (h : HS2 g i V Q r m v w) (u : RowKit.Below w.heap.size w w') : HS2 g i V Q r m v w' := ⟨bl_cell u h.1, bl_cell u h.2.1, bl_cell u h.2.2.1, bl_cell u h.2.2.2.1, bl_cell u h.2.2.2.2⟩
def HS3 (g i : Nat) (r : Sr) (w : World) : Prop := w.cell? ⟨g, i, none⟩ = some (.slice r.1 r.2.1 r.2.2) ∧ True
def HS4 (g i Q : Nat) (r : Sr) (e : Ev) (t : Sr) (w : World) : Prop := w.cell? ⟨g, i, none⟩ = some (.slice r.1 r.2.1 r.2.2) ∧ w.cell? ⟨Q, 0, none⟩ = some (.int .u8 4) ∧ w.cell? ⟨Q, 1, none⟩ = some (.int .u64 (e.n : Nat)) ∧ w.cell? ⟨Q, 2, none⟩ = some (.int .i64 e.p) ∧ w.cell? ⟨Q, 3, none⟩ = some (.int .u16 (e.s : Nat)) ∧ w.cell? ⟨Q, 4, none⟩ = some (.int .i64 e.f) ∧ w.cell? ⟨Q, 5, none⟩ = some (.slice t.1 t.2.1 t.2.2)
theorem HS4.up {g i Q : Nat} {r t : Sr} {e : Ev} {w w' : World} (h : HS4 g i Q r e t w) (u : RowKit.Below w.heap.size w w') : HS4 g i Q r e t w' := ⟨bl_cell u h.1, bl_cell u h.2.1, bl_cell u h.2.2.1, bl_cell u h.2.2.2.1, bl_cell u h.2.2.2.2.1, bl_cell u h.2.2.2.2.2.1, bl_cell u h.2.2.2.2.2.2⟩
set_option maxRecDepth 100000 in
set_option maxHeartbeats 16000000 in
theorem sends_loop {w w2 w3 : World} {N cap n k g b off vn sv V sn sc : Nat} {sa : Option Addr} {sH sF : Sr} {x : Rn} {X1 : Nat → List Ev} {R : Nat → Sr} (hn0 : 1 ≤ n) (hn6 : n ≤ 6) (hltI : (k : Int) < (N : Int)) (hk0 : ¬ ((k : Int) < 0)) (hN42 : N ≤ 4398046511104) (sv16 : sv < 65536) (hsn : x.sends.length = sn) (hsn42 : sn ≤ 4398046511104)
    (HRUN : Hid (R4 w b (off + k * 4) x (sa, sn, sc) sH sF ∧ SendsR w sa sn x.sends)) (HX1 : Hid (∀ j, (X1 j).length ≤ 201)) (HT3 : Hid (TS w w3 g n V (vn, 0, sv) R (upd X1 n []) ∧ R n = (none, 0, 0))) {x2 x3 x4 x9 x11 x12 x13 x14 x15 x16 x17 x18 x19 x20 x21 x22 x23 x24 x25 x26 x27 x28 x29 x30 x31 x32 x33 x34 x35 x36 x37 x38 x39 x40 x41 x42 x43 x44 x45 x46 x47 x48 x49 x50 x51 x52 x53 x54 x55 x56 x57 x58 x59 x60 x61 x62 x63 x64 x65 x66 x67 x68 x69 x70 x71 x72 x73 x74 x75 x76 x77 x78 x79 x80 x81 x82 x83 x84 x85 x86 x87 x88 x89 x90 x91 x92 x93 x94 x95 x96 x97 x98 x99 x100 x101 x102 x103 x104 x105 x106 x107 x108 x109 x110 x111 x112 x113 x114 x115 x116 x117 x118 x119 x120 x121 x122 x123 x124 x125 x126 x127 x128 x129 x130 x131 x132 x133 x134 x135 x136 x137 x138 x139 x140 x141 x142 x143 x144 x145 x146 x147 x148 x149 x150 x151 x152 x153 x154 x155 x156 x157 x158 x159 x160 x161 x162 x163 x164 x165 x166 x167 x168 x169 x170 x171 x172 x173 x174 x175 x176 x177 x178 x179 x180 x181 x182 x183 x184 x185 x186 x187 x188 x189 x190 x191 x192 x193 x194 x195 x196 x197 x198 x199 x200 x201 x202 x203 x204 x205 x206 x207 x208 x209 x210 x211 x212 x213 x214 x215 x216 x217 x218 x219 x220 x221 x222 x223 x224 x225 x226 x227 x228 x229 x230 x231 x232 x233 x234 x235 x236 x237 x238 x239 x240 x241 x242 x243 x244 x245 x246 x247 x248 x249 x250 x251 x252 x253 x254 x255 x256 x257 x258 x259 : Value} {Q' : Exit → Act → World → Prop} {J K' : Act → World → Prop}
    (hJ : ∀ a' w', (∃ u8 u10 u11 u12 u70 u71 u72 u73 u74 u75 u76 u77 u78 u79 u80 u81 u82 u83 u84 u85 u86 u87 u88 u89 u90 u91 u92 u93 u94 u95 u96 u97 u98 u99 u100 u101 u102 u103 u104 u105 u106 u107 u108 u109 u110 u111 u112 u113 u114 u115 u116 u117 u118 u119 u120 u121 u122 u123 : Value, (∃ R, u8 = .slice (R n).1 (R n).2.1 (R n).2.2 ∧ Hid (TS w w' g n V (vn, 0, sv) R (upd (fun j => X1 j ++ ownS n (vn, 0, sv) (x.sends.take 10) j) n (allS n (vn, 0, sv) (x.sends.take 10))))) ∧ a' = ⟨#[.int .i64 (n : Nat), .slice (some ⟨b, off, none⟩) N cap, x2, x3, x4, .slice (some ⟨g, 0, none⟩) n n, .int .i64 (k : Nat), .pointer (some ⟨V, 0, none⟩), u8, x9, u10, u11, u12, x13, x14, x15, x16, x17, x18, x19, x20, x21, x22, x23, x24, x25, x26, x27, x28, x29, x30, x31, x32, x33, x34, x35, x36, x37, x38, x39, x40, x41, x42, x43, x44, x45, x46, x47, x48, x49, x50, x51, x52, x53, x54, x55, x56, x57, x58, x59, x60, x61, x62, x63, x64, x65, x66, x67, x68, x69, u70, u71, u72, u73, u74, u75, u76, u77, u78, u79, u80, u81, u82, u83, u84, u85, u86, u87, u88, u89, u90, u91, u92, u93, u94, u95, u96, u97, u98, u99, u100, u101, u102, u103, u104, u105, u106, u107, u108, u109, u110, u111, u112, u113, u114, u115, u116, u117, u118, u119, u120, u121, u122, u123, x124, x125, x126, x127, x128, x129, x130, x131, x132, x133, x134, x135, x136, x137, x138, x139, x140, x141, x142, x143, x144, x145, x146, x147, x148, x149, x150, x151, x152, x153, x154, x155, x156, x157, x158, x159, x160, x161, x162, x163, x164, x165, x166, x167, x168, x169, x170, x171, x172, x173, x174, x175, x176, x177, x178, x179, x180, x181, x182, x183, x184, x185, x186, x187, x188, x189, x190, x191, x192, x193, x194, x195, x196, x197, x198, x199, x200, x201, x202, x203, x204, x205, x206, x207, x208, x209, x210, x211, x212, x213, x214, x215, x216, x217, x218, x219, x220, x221, x222, x223, x224, x225, x226, x227, x228, x229, x230, x231, x232, x233, x234, x235, x236, x237, x238, x239, x240, x241, x242, x243, x244, x245, x246, x247, x248, x249, x250, x251, x252, x253, x254, x255, x256, x257, x258, x259], []⟩) → J a' w') (hK : ∀ a' w', Met J a' w' → K' a' w') :
    Code.wp Try.prog (blk17 4) (Exit.then K' Q') ⟨#[.int .i64 (n : Nat), .slice (some ⟨b, off, none⟩) N cap, x2, x3, x4, .slice (some ⟨g, 0, none⟩) n n, .int .i64 (k : Nat), .pointer (some ⟨V, 0, none⟩), .slice none 0 0, x9, .int .i64 0, x11, x12, x13, x14, x15, x16, x17, x18, x19, x20, x21, x22, x23, x24, x25, x26, x27, x28, x29, x30, x31, x32, x33, x34, x35, x36, x37, x38, x39, x40, x41, x42, x43, x44, x45, x46, x47, x48, x49, x50, x51, x52, x53, x54, x55, x56, x57, x58, x59, x60, x61, x62, x63, x64, x65, x66, x67, x68, x69, x70, x71, x72, x73, x74, x75, x76, x77, x78, x79, x80, x81, x82, x83, x84, x85, x86, x87, x88, x89, x90, x91, x92, x93, x94, x95, x96, x97, x98, x99, x100, x101, x102, x103, x104, x105, x106, x107, x108, x109, x110, x111, x112, x113, x114, x115, x116, x117, x118, x119, x120, x121, x122, x123, x124, x125, x126, x127, x128, x129, x130, x131, x132, x133, x134, x135, x136, x137, x138, x139, x140, x141, x142, x143, x144, x145, x146, x147, x148, x149, x150, x151, x152, x153, x154, x155, x156, x157, x158, x159, x160, x161, x162, x163, x164, x165, x166, x167, x168, x169, x170, x171, x172, x173, x174, x175, x176, x177, x178, x179, x180, x181, x182, x183, x184, x185, x186, x187, x188, x189, x190, x191, x192, x193, x194, x195, x196, x197, x198, x199, x200, x201, x202, x203, x204, x205, x206, x207, x208, x209, x210, x211, x212, x213, x214, x215, x216, x217, x218, x219, x220, x221, x222, x223, x224, x225, x226, x227, x228, x229, x230, x231, x232, x233, x234, x235, x236, x237, x238, x239, x240, x241, x242, x243, x244, x245, x246, x247, x248, x249, x250, x251, x252, x253, x254, x255, x256, x257, x258, x259], []⟩ w3 := by
  conv => arg 2; whnf
  go_wp2_with fail
  -- sends
  go_loopw [8, 10, 11, 12] (fun av iv _ _ wr => ∃ (t : Nat) (R : Nat → Sr), t ≤ 10 ∧ t ≤ sn ∧ iv = .int .i64 (t : Nat) ∧ av = .slice (R n).1 (R n).2.1 (R n).2.2 ∧ TS w wr g n V (vn, 0, sv) R (upd (fun j => X1 j ++ ownS n (vn, 0, sv) (x.sends.take t) j) n (allS n (vn, 0, sv) (x.sends.take t)))) (fun _ iv _ _ _ => sn - (intOf iv).toNat)
  case atStart =>
    obtain ⟨h1, h2⟩ := HT3.out
    refine ⟨0, R, by omega, by omega, rfl, by rw [h2], ?_⟩
    simpa [ownS, allS] using h1
  case round =>
    clear HT3
    obtain ⟨t, R, ht10, htS, rfl, rfl, hts⟩ := hrel
    have HS : Hid (TS w wr g n V (vn, 0, sv) R (upd (fun j => X1 j ++ ownS n (vn, 0, sv) (x.sends.take t) j) n (allS n (vn, 0, sv) (x.sends.take t)))) := hts
    have c1 := bl_cell hts.bl HRUN.out.1.2.1
    simp only at c1
    clear hts
    have HEND : Hid (¬ (t < sn ∧ t < 10) → TS w wr g n V (vn, 0, sv) R (upd (fun j => X1 j ++ ownS n (vn, 0, sv) (x.sends.take 10) j) n (allS n (vn, 0, sv) (x.sends.take 10)))) := fun hc => by
      have e : x.sends.take 10 = x.sends.take t := by
        by_cases h1 : t < sn
        · have : t = 10 := by omega
          rw [this]
        · rw [List.take_of_length_le (by omega), List.take_of_length_le (by omega)]
      rw [e]
      exact HS.out
    by_cases htl : t < sn
    · have htlI : (t : Int) < (sn : Int) := by omega
      have ht0 : ¬ ((t : Int) < 0) := by omega
      by_cases ht : t < 10
      · have htI : (t : Int) < 10 := by omega
        obtain ⟨y, hy⟩ : ∃ y, x.sends[t]? = some y := ⟨x.sends[t]'(by omega), List.getElem?_eq_getElem _⟩
        obtain ⟨b2, o2, ⟨ma, mn, mc⟩, hsa, y0, y1, hcm, hrm, hy256⟩ := HRUN.out.2.at hy
        subst hsa
        simp only at y1 hrm
        have y0 := bl_cell HS.out.bl y0
        have y1 := bl_cell HS.out.bl y1
        have HY : Hid (x.sends.take (t + 1) = x.sends.take t ++ [y] ∧ Cp (ma, mn, mc) ∧ Rw (fun _ => True) w ma mn y.m) := ⟨take_snoc hy, hcm, hrm⟩
        obtain ⟨w4, hw4⟩ : ∃ w4, wr.alloc (.cells #[.int .u8 (y.i : Nat), .slice ma mn mc] 70) = w4 := ⟨_, rfl⟩
        obtain ⟨Q, hQ⟩ : ∃ Q, wr.heap.size = Q := ⟨_, rfl⟩
        have u4 : RowKit.Below wr.heap.size wr w4 := by rw [← hw4]; exact bl1 _ _
        have q0 : w4.cell? ⟨Q, 0, none⟩ = some (.int .u8 (y.i : Nat)) := by rw [← hw4, ← hQ]; exact cell_box wr _ 70 0 _ rfl
        have q1 : w4.cell? ⟨Q, 1, none⟩ = some (.slice ma mn mc) := by rw [← hw4, ← hQ]; exact cell_box wr _ 70 1 _ rfl
        have HQ : Hid (∃ c, w4.heap[Q]? = some (.cells c 70 (0, 0))) := by rw [← hw4, ← hQ]; exact ⟨_, heap_alloc_new _ _⟩
        have HS4 : Hid (TS w w4 g n V (vn, 0, sv) R (upd (fun j => X1 j ++ ownS n (vn, 0, sv) (x.sends.take t) j) n (allS n (vn, 0, sv) (x.sends.take t)))) := HS.out.up u4
        obtain ⟨v0, v1, v2⟩ := HS4.out.vb.at
        simp only at v0 v1 v2
        obtain ⟨kk, hkk0⟩ : ∃ kk, y.i % n = kk := ⟨_, rfl⟩
        have hkk : (y.i : Int) % (n : Int) = (kk : Int) := by rw [← hkk0]; simp
        have hkn : kk < n := by rw [← hkk0]; exact Nat.mod_lt _ (by omega)
        have hkI : (kk : Int) < (n : Int) := by omega
        have hkk1 : ¬ ((kk : Int) < 0) := by omega
        have hnI : ¬ ((n : Int) = 0) := by omega
        have HKK : Hid (y.i % n = kk) := hkk0
        have hbt := bit_test sv kk sv16
        obtain ⟨bt, hbt2⟩ : ∃ bt, sv.testBit kk = bt := ⟨_, rfl⟩
        rw [hbt2] at hbt
        have HBT : Hid (sv.testBit kk = bt) := hbt2
        clear hy hcm hrm hkk0 hbt2 u4
        go_upto_region 16 with fail
        (try simp only [hw4, hQ])
        clear hw4 hQ
        cases bt with
        | false =>
          have HN : Hid (TS w w4 g n V (vn, 0, sv) R (upd (fun j => X1 j ++ ownS n (vn, 0, sv) (x.sends.take (t + 1)) j) n (allS n (vn, 0, sv) (x.sends.take (t + 1))))) := by
            have e1 : (fun j => X1 j ++ ownS n (vn, 0, sv) (x.sends.take (t + 1)) j) = fun j => X1 j ++ ownS n (vn, 0, sv) (x.sends.take t) j := by
              funext j
              rw [HY.out.1, ownS_snoc, if_neg (by rw [HKK.out]; show ¬ (sv.testBit kk = true ∧ _); rw [HBT.out]; simp), List.append_nil]
            rw [e1, HY.out.1, allS_snoc, if_neg (by rw [HKK.out]; show ¬ sv.testBit kk = true; rw [HBT.out]; simp), List.append_nil]
            exact HS4.out
          go_wp2
          go_roundw
          case rel => exact ⟨t + 1, R, by omega, by omega, by go_num, rfl, HN.out⟩
          case measure => simp [intOf]; omega
        | true =>
          have hY200 : ∀ j, (X1 j ++ ownS n (vn, 0, sv) (x.sends.take t) j).length ≤ 300 := fun j => by
            have h1 := HX1.out j
            have h2 := ownS_len n (vn, 0, sv) (x.sends.take t) j
            rw [List.length_take] at h2
            rw [List.length_append]; omega
          have hA200 : (allS n (vn, 0, sv) (x.sends.take t)).length ≤ 10 := by
            have h2 := allS_len n (vn, 0, sv) (x.sends.take t)
            rw [List.length_take] at h2
            omega
          obtain ⟨Y, hY⟩ : ∃ Y, (fun j => X1 j ++ ownS n (vn, 0, sv) (x.sends.take t) j) = Y := ⟨_, rfl⟩
          have hYat : ∀ j, (Y j).length ≤ 300 := fun j => by rw [← hY]; exact hY200 j
          obtain ⟨ALL, hALL⟩ : ∃ ALL, allS n (vn, 0, sv) (x.sends.take t) = ALL := ⟨_, rfl⟩
          rw [hALL] at hA200
          have hts4 := HS4.out
          rw [hY, hALL] at hts4
          obtain ⟨D2, hD2⟩ : ∃ D2, w4.drew = D2 := ⟨_, rfl⟩
          have uD : RowKit.Below w4.heap.size w4 D2 := by rw [← hD2]; exact ((Up.refl w4).drew).bl
          obtain ⟨A, hA⟩ : ∃ A, D2.alloc (.cells #[.int .u8 2, .int .u64 (vn : Nat), .int .i64 0, .int .u16 (sv : Nat), .int .i64 0, .slice ma mn mc] 49) = A := ⟨_, rfl⟩
          obtain ⟨q, hqq⟩ : ∃ q, D2.heap.size = q := ⟨_, rfl⟩
          have uA : RowKit.Below w4.heap.size w4 A := by rw [← hA]; exact bl_step uD (bl1 _ _)
          have htA := hts4.up uA
          have hXi : upd Y n ALL kk = Y kk := upd_ne _ _ (by omega)
          have hac := cell_one D2 (evS (vn, 0, sv) y.m, ((ma, mn, mc) : Sr))
          rw [show D2.alloc (.cells #[.int .u8 ((evS (vn, 0, sv) y.m).k : Nat), .int .u64 ((evS (vn, 0, sv) y.m).n : Nat), .int .i64 (evS (vn, 0, sv) y.m).p, .int .u16 ((evS (vn, 0, sv) y.m).s : Nat), .int .i64 (evS (vn, 0, sv) y.m).f, .slice ma mn mc] 49) = A from hA, hqq] at hac
          obtain ⟨r', w5, hrun, hput⟩ := htA.put hkn [(evS (vn, 0, sv) y.m, ((ma, mn, mc) : Sr))] (fun z hz => by rw [List.mem_singleton] at hz; subst hz; exact exOk_of HY.out.2.1 HY.out.2.2 htA.bl) (by rw [hXi]; have := hYat kk; simp only [List.length_singleton]; omega) 1 hac
          obtain ⟨ri, hri⟩ : ∃ ri, R kk = ri := ⟨_, rfl⟩
          have hgc : w4.cell? ⟨g, kk, none⟩ = some (.slice ri.1 ri.2.1 ri.2.2) := by rw [← hri]; exact hts4.tl.cell kk hkn
          have sa : HS2 g kk V Q ri (ma, mn, mc) (vn, 0, sv) D2 := HS2.up ⟨hgc, v0, v1, v2, q1⟩ uD
          have sb : HS2 g kk V Q ri (ma, mn, mc) (vn, 0, sv) A := HS2.up ⟨hgc, v0, v1, v2, q1⟩ uA
          have hv5 := hput.vb htA hkn ⟨_, htA.vb⟩ (by decide)
          have hQA : ∃ c, A.heap[Q]? = some (.cells c 70 (0, 0)) := by
            obtain ⟨c, hc⟩ := HQ.out
            exact ⟨c, (uA.block Q (Array.getElem?_eq_some_iff.1 hc).1).trans hc⟩
          have hq5 := hput.vb htA hkn hQA (by decide)
          have g5 : w5.cell? ⟨g, kk, none⟩ = some (.slice ri.1 ri.2.1 ri.2.2) := by have := hput.cell; rw [hri] at this; exact this
          have sc : HS2 g kk V Q ri (ma, mn, mc) (vn, 0, sv) w5 := ⟨g5, hv5 _ _ sb.2.1, hv5 _ _ sb.2.2.1, hv5 _ _ sb.2.2.2.1, hq5 _ _ sb.2.2.2.2⟩
          have f5 := hput.fz
          obtain ⟨w6, hw6⟩ : ∃ w6, w5.setCell ⟨g, kk, none⟩ (.slice r'.1 r'.2.1 r'.2.2) = w6 := ⟨_, rfl⟩
          have hts6 : TS w w6 g n V (vn, 0, sv) (upd R kk r') (upd (fun j => X1 j ++ ownS n (vn, 0, sv) (x.sends.take (t + 1)) j) n ALL) := by
            have h1 := hput.ts
            rw [hXi, upd_comm _ _ _ (by omega)] at h1
            rw [← hw6]
            have e : upd Y kk (Y kk ++ [(evS (vn, 0, sv) y.m, ((ma, mn, mc) : Sr))].map Prod.fst) = fun j => X1 j ++ ownS n (vn, 0, sv) (x.sends.take (t + 1)) j := by
              funext j
              rw [HY.out.1, ownS_snoc, HKK.out]
              by_cases ej : j = kk
              · subst ej
                rw [upd_same, if_pos ⟨HBT.out, rfl⟩, ← hY, List.append_assoc]
                rfl
              · rw [upd_ne _ _ ej, if_neg (fun h => ej h.2.symm), List.append_nil, ← hY]
            rw [e] at h1
            exact h1
          have hRn6 : upd R kk r' n = R n := hput.last
          have q6 : w6.cell? ⟨Q, 1, none⟩ = some (.slice ma mn mc) := by
            rw [← hw6]
            refine setCell_other' (fun e => ?_) sc.2.2.2.2
            obtain ⟨c, hc⟩ := hQA
            obtain ⟨c2, hc2⟩ := htA.tl.blk
            simp at e
            rw [e.1, hc2] at hc
            simp at hc
          obtain ⟨z0, z1, z2⟩ := hts6.vb.at
          simp only at z0 z1 z2
          have h3v : ∀ (j : Nat) u, (cellsV (vn, 0, sv))[j]? = some u → w6.cell? ⟨V, 0 + j, none⟩ = some u := fun j u hj => by
            match j, hj with
            | 0, hj => simp [cellsV] at hj; subst hj; exact z0
            | 1, hj => simp [cellsV] at hj; subst hj; exact z1
            | 2, hj => simp [cellsV] at hj; subst hj; exact z2
            | j + 3, hj => simp [cellsV] at hj
          obtain ⟨A6, hA6⟩ : ∃ A6, w6.alloc (.cells #[.int .u8 3, .int .u64 (vn : Nat), .int .i64 0, .int .u16 (sv : Nat), .int .i64 (kk : Nat), .slice ma mn mc] 49) = A6 := ⟨_, rfl⟩
          obtain ⟨p6, hp6⟩ : ∃ p6, w6.heap.size = p6 := ⟨_, rfl⟩
          have uA6 : RowKit.Below w6.heap.size w6 A6 := by rw [← hA6]; exact bl1 _ _
          have hac6 := cell_one w6 (evR (vn, 0, sv) kk y.m, ((ma, mn, mc) : Sr))
          rw [show w6.alloc (.cells #[.int .u8 ((evR (vn, 0, sv) kk y.m).k : Nat), .int .u64 ((evR (vn, 0, sv) kk y.m).n : Nat), .int .i64 (evR (vn, 0, sv) kk y.m).p, .int .u16 ((evR (vn, 0, sv) kk y.m).s : Nat), .int .i64 (evR (vn, 0, sv) kk y.m).f, .slice ma mn mc] 49) = A6 from hA6, hp6] at hac6
          have htA6 := hts6.up uA6
          obtain ⟨r3, w7, hrun3, hts7, _⟩ := htA6.side [(evR (vn, 0, sv) kk y.m, ((ma, mn, mc) : Sr))] (fun z hz => by rw [List.mem_singleton] at hz; subst hz; exact exOk_of HY.out.2.1 HY.out.2.2 htA6.bl) (by rw [upd_same]; simp only [List.length_singleton]; omega) 1 hac6
          have HN : Hid (TS w w7 g n V (vn, 0, sv) (upd (upd R kk r') n r3) (upd (fun j => X1 j ++ ownS n (vn, 0, sv) (x.sends.take (t + 1)) j) n (allS n (vn, 0, sv) (x.sends.take (t + 1))))) := by
            have e : ALL ++ [(evR (vn, 0, sv) kk y.m, ((ma, mn, mc) : Sr))].map Prod.fst = allS n (vn, 0, sv) (x.sends.take (t + 1)) := by
              rw [HY.out.1, allS_snoc, HKK.out, if_pos HBT.out, hALL]
              rfl
            rw [upd_same, upd_upd, e] at hts7
            exact hts7
          have HR3 : Hid (upd (upd R kk r') n r3 n = r3) := upd_same _ _ _
          have HRUN2 : Hid ((Builtin.append_ #[41, 41] 41 #[.slice ri.1 ri.2.1 ri.2.2, .slice (some ⟨q, 0, none⟩) 1 1]).run Try.prog A = .ok (.slice r'.1 r'.2.1 r'.2.2) w5) := by rw [← hri]; exact hrun
          have HRUN3 : Hid ((Builtin.append_ #[41, 41] 41 #[.slice (R n).1 (R n).2.1 (R n).2.2, .slice (some ⟨p6, 0, none⟩) 1 1]).run Try.prog A6 = .ok (.slice r3.1 r3.2.1 r3.2.2) w7) := by rw [← hRn6]; exact hrun3
          have HSC : Hid (HS2 g kk V Q ri (ma, mn, mc) (vn, 0, sv) w5) := sc
          clear hrun hput htA hac hXi hgc uD uA hv5 hri sc hts4 hY hALL hYat hY200 hA200 hQA hq5 hts6 hRn6 uA6 hac6 htA6 hrun3 hts7
          go_wp2_with fail
          refine wp_region_noPanic ?_
          refine beginE (HS2 g kk V Q ri (ma, mn, mc) (vn, 0, sv)) 13 (by kernel_rfl) (by rw [hD2]; exact sa) (fun hHeld => ?_)
          simp only [hD2] at hHeld ⊢
          unfold HS2 at hHeld
          refine tqE 0 ?_
          refine tqE 1 ?_
          refine tqE 2 ?_
          refine tqE 3 ?_
          refine tqE 4 ?_
          refine tqE 5 ?_
          refine tqE 6 ?_
          refine tqE 7 ?_
          refine tqE 8 ?_
          refine tqE 9 ?_
          refine upE 10 rfl (by kernel_rfl) (fun K hK => ?_)
          go_simp
          (try simp only [hA, hqq])
          refine hK.out _ _ (sb) (fun hHeld => ?_)
          clear hK K
          (try simp only [Act.put, List.setIfInBounds_toArray, List.set_cons_zero, List.set_cons_succ])
          refine upE 11 rfl (by kernel_rfl) (fun K hK => ?_)
          refine step_append_run rfl (.tmp 108) (.tmp 113) 41 rfl (.slice ri.1 ri.2.1 ri.2.2) (.slice (some ⟨q, 0, none⟩) 1 1) (.slice r'.1 r'.2.1 r'.2.2) w5 (by simp [Act.eval]) (by simp [Act.eval]) HRUN2.out ?_
          refine hK.out _ _ (HSC.out) (fun hHeld => ?_)
          clear hK K
          (try simp only [Act.put, List.setIfInBounds_toArray, List.set_cons_zero, List.set_cons_succ])
          refine pureE 12 (v := ?_) rfl (by kernel_rfl) (by kernel_rfl) (by kernel_rfl) (by kernel_rfl) (fun _ _ _ h => h) (Or.inl ⟨by rfl, by intro wx hSw; (try dsimp only at hSw); go_simp; try with_reducible rfl⟩) (by assumption) ?_
          (try simp only [Act.put, List.setIfInBounds_toArray, List.set_cons_zero, List.set_cons_succ])
          refine lastE 13 rfl (by kernel_rfl) (by kernel_rfl) (fun K hK => ?_)
          go_simp
          refine hK.out _ _ ?_
          clear hK K
          (try simp only [Act.put, List.setIfInBounds_toArray, List.set_cons_zero, List.set_cons_succ])
          refine doneE (by kernel_rfl) ?_ _
          refine NoPanic.normal ?_
          (try simp only [hw6])
          clear hw6 hHeld sa sb
          go_wp2_with (first | refine wpList_load_Vw rfl (.tmp 7) rfl V 0 rfl (vn, 0, sv) h3v ?_ | (at_builtin; (try simp only [hA6, hp6]); refine wpList_append_runE rfl (.tmp 116) (.tmp 122) 41 rfl (.slice (R n).1 (R n).2.1 (R n).2.2) (.slice (some ⟨p6, 0, none⟩) 1 1) (.slice r3.1 r3.2.1 r3.2.2) w7 rfl rfl HRUN3.out ?_))
          go_roundw
          case rel => exact ⟨t + 1, _, by omega, by omega, by go_num, by rw [HR3.out], HN.out⟩
          case measure => simp [intOf]; omega
      · have htI : ¬ ((t : Int) < 10) := by omega
        have HE : Hid _ := HEND.out (fun h => ht h.2)
        go_wp2_with fail
        go_meet
        exact ⟨R, rfl, HE.out⟩
    · have htlI : ¬ ((t : Int) < (sn : Int)) := by omega
      have HE : Hid _ := HEND.out (fun h => htl h.1)
      go_wp2_with fail
      go_meet
      exact ⟨R, rfl, HE.out⟩
end Go.Proofs.Ythnbijnpbjfoaaa
