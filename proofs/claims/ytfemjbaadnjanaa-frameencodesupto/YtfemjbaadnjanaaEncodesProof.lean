/-
  Proved: for every frame f, FrameEncodes(f) returns true, where what f holds, counted each time it is reached, is of bulk at most 1048576: a right frame's bytes are the document's, and are read back as a frame that is the same; a frame that is not right is refused. Condition: that bound on what is handed in.
-/
import Derived.Test.YtfemjbaadnjanaaRows
import Derived.Test.YtfemjbaadnjanaaFAwake
import Derived.Test.YtfemjbaadnjanaaFDec
import Derived.Test.YtfemjbaadnjanaaFRefG
import Derived.Test.YtfemjbaadnjanaaFRefE5
import Derived.Test.YtfemjbaadnjanaaFSameF
import Derived.Test.YtfemjbaadnjanaaFGreat
import Derived.Test.YtfemjbaadnjanaaFArgs2
import Derived.JoinedCond
namespace Go.Proofs.Ytfemjbaadnjanaa.frameEncodes
open Go.ChangeShapes Go.WideShapes Go.ChangeAt Go.RowKit
set_option linter.unusedVariables false
set_option linter.unusedSimpArgs false

/-- What the last region reads: the frame, the one that was read back, the bytes. -/
def Sx7 (G g : Nat) (F : PF) (a b : Fa) (po : Option Addr) (pn pc : Nat) (s : ByteArray) (wx : World) : Prop :=
  Bf G F a wx ∧ Bf g F b wx ∧ (convert 33 9 (.slice po pn pc)).run Try.prog wx = .ok (.string s) wx

set_option maxRecDepth 20000 in
set_option maxHeartbeats 4000000 in
theorem walk (w : World) (F : PF) (a : Fa) (h : FIn (fun _ => True) w F a) (ho : POk F) (ht : tot F ≤ 1048576) :
    Calls Try.prog 3 #[fval F a] w fun e w' => e = .returned (.bool true) ∧ Below w.heap.size w w' := by
  obtain ⟨w0, hw0, hu0, hb0⟩ := boxed w F a
  have HB : Hid (∀ V, Below w0.heap.size w0 V → Bf w.heap.size F a V) := fun V u => hb0.up u
  have HF : Hid (∀ V, Below w0.heap.size w0 V → FIn (fun _ => True) V F a) := fun V u => (h.up hu0.bl).up u
  have hgr := fun V (u : Below w0.heap.size w0 V) => great_any' _ V F a (HF.out V u) ht
  have henc := fun V (u : Below w0.heap.size w0 V) => encodeF_any (fun _ => True) V F a (HF.out V u) ho
  have hfm := fun V (u : Below w0.heap.size w0 V) => refForm7_any (fun _ => True) V F a (HF.out V u) ho.frm ho.kind
  have HO : Hid (POk F) := ho
  have HU : Hid (Below w.heap.size w w0) := hu0.bl
  have HU0 : Hid (Below w0.heap.size w0 w0) := Below.refl _ _
  obtain ⟨d0, d1, d2, d3, d4, d5, d6, d7, d8, d9, d10, d11, d12, d13, d14⟩ := hb0
  unfold fval fcells at *
  clear h ho hu0
  by_cases hg : 20000 < tot F
  · simp only [hg, decide_true] at hgr
    clear henc hfm hg ht
    go_enter Try.func3, Try.ntmps3
    go_wp2_with fail
    (try simp only [hw0])
    refine (hgr _ HU0.out).mono ?_
    rintro e w1 ⟨rfl, hu1⟩
    have hb1 := bl_step HU.out hu1.bl
    clear hgr d0 d1 d2 d3 d4 d5 d6 d7 d8 d9 d10 d11 d12 d13 d14 hu1
    go_wp2_with fail
    refine (awake_any _).mono ?_
    rintro e w2 ⟨rfl, hb2⟩
    have hb02 := bl_step hb1 hb2
    go_wp2
    go_ret
    exact ⟨rfl, hb02⟩
  · have HL : Hid ((wire F).length + 4 ≤ 1048576) := by
      show _ ≤ _
      have := wire_le F
      omega
    simp only [hg, decide_false] at hgr
    clear hg ht
    go_enter Try.func3, Try.ntmps3
    go_wp2_with fail
    (try simp only [hw0])
    refine (hgr _ HU0.out).mono ?_
    rintro e w1 ⟨rfl, hu1⟩
    have hb1 : Below w0.heap.size w0 w1 := hu1.bl
    clear hgr d0 d1 d2 d3 d4 d5 d6 d7 d8 d9 d10 d11 d12 d13 d14 hu1
    go_wp2_with fail
    refine (awake_any _).mono ?_
    rintro e w2 ⟨rfl, hb2⟩
    have hb02 : Below w0.heap.size w0 w2 := bl_step hb1 hb2
    have henc2 := henc w2 hb02
    obtain ⟨d0, d1, d2, d3, d4, d5, d6, d7, d8, d9, d10, d11, d12, d13, d14⟩ := HB.out w2 hb02
    clear hb1 hb2 henc
    go_wp2_with fail
    refine henc2.mono ?_
    rintro e w3 ⟨hans, hb3⟩
    have hb03 : Below w0.heap.size w0 w3 := bl_step hb02 hb3
    have hfm3 := hfm w3 hb03
    unfold EncAns at hans
    clear henc2 hb02 hb3 hfm d0 d1 d2 d3 d4 d5 d6 d7 d8 d9 d10 d11 d12 d13 d14
    obtain ⟨d0, d1, d2, d3, d4, d5, d6, d7, d8, d9, d10, d11, d12, d13, d14⟩ := HB.out w3 hb03
    cases hr : rightF F with
    | false =>
      rw [hr, if_pos rfl] at hans
      subst hans
      rw [hr] at hfm3
      go_wp2_with fail
      refine hfm3.mono ?_
      rintro e w4 ⟨rfl, hu4⟩
      have hb04 := bl_step HU.out (bl_step hb03 hu4.bl)
      clear hfm3 d0 d1 d2 d3 d4 d5 d6 d7 d8 d9 d10 d11 d12 d13 d14 hu4
      go_wp2
      go_ret
      exact ⟨rfl, hb04⟩
    | true =>
      rw [hr, if_neg (by simp), if_neg (by have := HL.out; omega)] at hans
      obtain ⟨v, rfl, hown⟩ := hans
      rw [hr] at hfm3
      have HR : Hid (rightF F = true) := hr
      have HDS : Hid (decF 9223372036854775807 (sealB (wire F)) = (0, F)) := decF_seal 9223372036854775807 F hr HO.out HL.out (by omega) (by omega)
      obtain ⟨ao, cap, rfl, hrow, _⟩ := Cd.owns_row hown
      have hpl : (wire F).length + 4 ≤ 140737488355328 := by have := HL.out; omega
      have HRW : Hid (∀ V, Below w3.heap.size w3 V → Cd.Row V ao ((wire F).length + 4) cap (sealB (wire F))) := fun V u => hrow.below u (Nat.le_refl _)
      have HL2 : Hid ((wire F).length ≤ 1048576) := by have := HL.out; show _ ≤ _; omega
      generalize hpq : (wire F).length + 4 = pl at *
      clear hpq hr hown hrow
      go_wp2_with fail
      refine hfm3.mono ?_
      rintro e w4 ⟨rfl, hu4⟩
      have hb34 : Below w3.heap.size w3 w4 := hu4.bl
      have hdec := decodeF_any w4 ao pl cap _ (HRW.out w4 hb34) hpl
      clear hfm3 hu4 d0 d1 d2 d3 d4 d5 d6 d7 d8 d9 d10 d11 d12 d13 d14
      go_wp2_with fail
      refine hdec.mono ?_
      rintro e w5 ⟨hda, hb5⟩
      unfold DecAns at hda
      rw [HDS.out] at hda
      obtain ⟨b, rfl, hgin⟩ := hda
      have hb35 : Below w3.heap.size w3 w5 := bl_step hb34 hb5
      clear hdec hb5 hb34
      unfold fval fcells
      obtain ⟨w6, hw6⟩ : ∃ w6, w5.alloc (.cells #[.int .u8 (F.kind : Nat), .int .i64 F.frm, .int .u64 (F.idN : Nat), .int .i64 F.idP, .int .u16 (F.set : Nat), .int .u64 (F.curN : Nat), .int .i64 F.curP, .int .u64 (F.promN : Nat), .int .i64 F.promP, .slice b.so F.st.length b.sc, .int .u64 (F.base : Nat), .slice b.mo F.ms.length b.mc, .slice b.io F.it.length b.ic, .int .u64 (F.ack : Nat), .int .u64 (F.safe : Nat)] 30) = w6 := ⟨_, rfl⟩
      have hb56 : Below w5.heap.size w5 w6 := by rw [← hw6]; exact bl1 _ _
      have hbg : Bf w5.heap.size F b w6 := by rw [← hw6]; exact bf_new w5 F b 30
      have hb36 : Below w3.heap.size w3 w6 := bl_step hb35 hb56
      have HWW : Hid (w5.alloc (.cells #[.int .u8 (F.kind : Nat), .int .i64 F.frm, .int .u64 (F.idN : Nat), .int .i64 F.idP, .int .u16 (F.set : Nat), .int .u64 (F.curN : Nat), .int .i64 F.curP, .int .u64 (F.promN : Nat), .int .i64 F.promP, .slice b.so F.st.length b.sc, .int .u64 (F.base : Nat), .slice b.mo F.ms.length b.mc, .slice b.io F.it.length b.ic, .int .u64 (F.ack : Nat), .int .u64 (F.safe : Nat)] 30) = w6) := hw6
      have HS : Hid (∀ V, Below w6.heap.size w6 V → Sx7 w.heap.size w5.heap.size F a b ao pl cap (Cd.str (sealB (wire F))) V) := fun V u => ⟨HB.out V (bl_step (bl_step hb03 hb36) u), hbg.up u, Cd.conv_row (HRW.out V (bl_step hb36 u))⟩
      have HFG : Hid (∀ V, Below w6.heap.size w6 V → FIn (fun x => w4.heap.size ≤ x) V F b ∧ FIn (fun _ => True) V F a) := fun V u => ⟨(hgin.up hb56).up u, HF.out V (bl_step (bl_step hb03 hb36) u)⟩
      have HSTR : Hid (∀ V v, Ow w6.heap.size w6 V v (sealB (wire F)) → True) := fun _ _ _ => trivial
      have hre := fun V (u : Below w6.heap.size w6 V) => refEncF_any (fun _ => True) V F a (HFG.out V u).2 HR.out HO.out HL2.out
      have hsm := fun V (u : Below w6.heap.size w6 V) => sameF_true _ _ V F b a (HFG.out V u).1 (HFG.out V u).2
      have HB6 : Hid (Below w.heap.size w w6) := bl_step HU.out (bl_step hb03 hb36)
      obtain ⟨s, hs⟩ : ∃ s, Cd.str (sealB (wire F)) = s := ⟨_, rfl⟩
      have HSE : Hid (Cd.str (sealB (wire F)) = s) := hs
      rw [hs] at HS
      clear hs HSTR
      clear hw6 hb56 hbg hb36 hb35 hgin hb03 HF HR HDS HU HU0 HO
      go_wp2_with fail
      rw [HWW.out]
      clear HWW
      have u6 : Below w6.heap.size w6 w6.drew := ((Up.refl w6).drew).bl
      refine wp_region_noPanic ?_
      refine wp_region_held_drew (S := Sx7 w.heap.size w5.heap.size F a b ao pl cap s) (by kernel_rfl) (HS.out _ u6) (fun hHeld => ?_)
      refine take_first 0 (v := ?_) rfl (by kernel_rfl) (by kernel_rfl) (by kernel_rfl) (fun _ _ _ h => h) (Or.inl ⟨by rfl, by intro wx hSw; (try dsimp only at hSw); obtain ⟨⟨x0, x1, x2, x3, x4, x5, x6, x7, x8, x9, x10, x11, x12, x13, x14⟩, ⟨y0, y1, y2, y3, y4, y5, y6, y7, y8, y9, y10, y11, y12, y13, y14⟩, hcv⟩ := hSw; go_simp; try with_reducible rfl⟩) (by assumption) ?_
      (try simp only [Act.put, List.setIfInBounds_toArray, List.set_cons_zero, List.set_cons_succ])
      refine take_first 1 (v := ?_) rfl (by kernel_rfl) (by kernel_rfl) (by kernel_rfl) (fun _ _ _ h => h) (Or.inl ⟨by rfl, by intro wx hSw; (try dsimp only at hSw); obtain ⟨⟨x0, x1, x2, x3, x4, x5, x6, x7, x8, x9, x10, x11, x12, x13, x14⟩, ⟨y0, y1, y2, y3, y4, y5, y6, y7, y8, y9, y10, y11, y12, y13, y14⟩, hcv⟩ := hSw; go_simp; try with_reducible rfl⟩) (by assumption) ?_
      (try simp only [Act.put, List.setIfInBounds_toArray, List.set_cons_zero, List.set_cons_succ])
      refine take_first 2 (v := ?_) rfl (by kernel_rfl) (by kernel_rfl) (by kernel_rfl) (fun _ _ _ h => h) (Or.inl ⟨by rfl, by intro wx hSw; (try dsimp only at hSw); obtain ⟨⟨x0, x1, x2, x3, x4, x5, x6, x7, x8, x9, x10, x11, x12, x13, x14⟩, ⟨y0, y1, y2, y3, y4, y5, y6, y7, y8, y9, y10, y11, y12, y13, y14⟩, hcv⟩ := hSw; go_simp; try with_reducible rfl⟩) (by assumption) ?_
      (try simp only [Act.put, List.setIfInBounds_toArray, List.set_cons_zero, List.set_cons_succ])
      refine take_first 3 (v := ?_) rfl (by kernel_rfl) (by kernel_rfl) (by kernel_rfl) (fun _ _ _ h => h) (Or.inl ⟨by rfl, by intro wx hSw; (try dsimp only at hSw); obtain ⟨⟨x0, x1, x2, x3, x4, x5, x6, x7, x8, x9, x10, x11, x12, x13, x14⟩, ⟨y0, y1, y2, y3, y4, y5, y6, y7, y8, y9, y10, y11, y12, y13, y14⟩, hcv⟩ := hSw; go_simp; try with_reducible rfl⟩) (by assumption) ?_
      (try simp only [Act.put, List.setIfInBounds_toArray, List.set_cons_zero, List.set_cons_succ])
      refine take_first 4 (v := ?_) rfl (by kernel_rfl) (by kernel_rfl) (by kernel_rfl) (fun _ _ _ h => h) (Or.inl ⟨by rfl, by intro wx hSw; (try dsimp only at hSw); obtain ⟨⟨x0, x1, x2, x3, x4, x5, x6, x7, x8, x9, x10, x11, x12, x13, x14⟩, ⟨y0, y1, y2, y3, y4, y5, y6, y7, y8, y9, y10, y11, y12, y13, y14⟩, hcv⟩ := hSw; go_simp; try with_reducible rfl⟩) (by assumption) ?_
      (try simp only [Act.put, List.setIfInBounds_toArray, List.set_cons_zero, List.set_cons_succ])
      refine take_first 5 (v := ?_) rfl (by kernel_rfl) (by kernel_rfl) (by kernel_rfl) (fun _ _ _ h => h) (Or.inl ⟨by rfl, by intro wx hSw; (try dsimp only at hSw); obtain ⟨⟨x0, x1, x2, x3, x4, x5, x6, x7, x8, x9, x10, x11, x12, x13, x14⟩, ⟨y0, y1, y2, y3, y4, y5, y6, y7, y8, y9, y10, y11, y12, y13, y14⟩, hcv⟩ := hSw; go_simp; try with_reducible rfl⟩) (by assumption) ?_
      (try simp only [Act.put, List.setIfInBounds_toArray, List.set_cons_zero, List.set_cons_succ])
      refine comes_up 6 rfl (by kernel_rfl) (fun K hK => ?_)
      go_simp
      refine (hre _ u6).mono ?_
      rintro e w7 ⟨v7, rfl, ho7⟩
      have u7 : Below w6.heap.size w6 w7 := bl_step u6 ho7.2.1
      obtain ⟨qo, qc, rfl, hrx7⟩ := own_rx ho7.1 (by rw [sealB_len]; have := HL2.out; omega)
      have hcv7 := Cd.conv_row hrx7.row
      rw [HSE.out] at hcv7
      generalize (sealB (wire F)).length = ql at *
      clear hHeld hre ho7 hrx7
      go_wp2_with fail
      refine hK.out _ _ (HS.out w7 u7) (fun hHeld => ?_)
      clear hK K
      (try simp only [Act.put, List.setIfInBounds_toArray, List.set_cons_zero, List.set_cons_succ])
      refine comes_up 7 rfl (by kernel_rfl) (fun K hK => ?_)
      go_simp
      go_wp2_with fail
      refine hK.out _ _ (HS.out w7 u7) (fun hHeld => ?_)
      clear hK K
      (try simp only [Act.put, List.setIfInBounds_toArray, List.set_cons_zero, List.set_cons_succ])
      clear hcv7
      refine take_first 8 (v := ?_) rfl (by kernel_rfl) (by kernel_rfl) (by kernel_rfl) (fun _ _ _ h => h) (Or.inl ⟨by rfl, by intro wx hSw; (try dsimp only at hSw); obtain ⟨⟨x0, x1, x2, x3, x4, x5, x6, x7, x8, x9, x10, x11, x12, x13, x14⟩, ⟨y0, y1, y2, y3, y4, y5, y6, y7, y8, y9, y10, y11, y12, y13, y14⟩, hcv⟩ := hSw; go_simp; try with_reducible rfl⟩) (by assumption) ?_
      (try simp only [Act.put, List.setIfInBounds_toArray, List.set_cons_zero, List.set_cons_succ])
      refine take_first 9 (v := ?_) rfl (by kernel_rfl) (by kernel_rfl) (by kernel_rfl) (fun _ _ _ h => h) (Or.inl ⟨by rfl, by intro wx hSw; (try dsimp only at hSw); obtain ⟨⟨x0, x1, x2, x3, x4, x5, x6, x7, x8, x9, x10, x11, x12, x13, x14⟩, ⟨y0, y1, y2, y3, y4, y5, y6, y7, y8, y9, y10, y11, y12, y13, y14⟩, hcv⟩ := hSw; go_simp; try with_reducible rfl⟩) (by assumption) ?_
      (try simp only [Act.put, List.setIfInBounds_toArray, List.set_cons_zero, List.set_cons_succ])
      refine take_first 10 (v := ?_) rfl (by kernel_rfl) (by kernel_rfl) (by kernel_rfl) (fun _ _ _ h => h) (Or.inl ⟨by rfl, by intro wx hSw; (try dsimp only at hSw); obtain ⟨⟨x0, x1, x2, x3, x4, x5, x6, x7, x8, x9, x10, x11, x12, x13, x14⟩, ⟨y0, y1, y2, y3, y4, y5, y6, y7, y8, y9, y10, y11, y12, y13, y14⟩, hcv⟩ := hSw; go_simp; try with_reducible rfl⟩) (by assumption) ?_
      (try simp only [Act.put, List.setIfInBounds_toArray, List.set_cons_zero, List.set_cons_succ])
      refine take_first 11 (v := ?_) rfl (by kernel_rfl) (by kernel_rfl) (by kernel_rfl) (fun _ _ _ h => h) (Or.inl ⟨by rfl, by intro wx hSw; (try dsimp only at hSw); obtain ⟨⟨x0, x1, x2, x3, x4, x5, x6, x7, x8, x9, x10, x11, x12, x13, x14⟩, ⟨y0, y1, y2, y3, y4, y5, y6, y7, y8, y9, y10, y11, y12, y13, y14⟩, hcv⟩ := hSw; go_simp; try with_reducible rfl⟩) (by assumption) ?_
      (try simp only [Act.put, List.setIfInBounds_toArray, List.set_cons_zero, List.set_cons_succ])
      refine take_first 12 (v := ?_) rfl (by kernel_rfl) (by kernel_rfl) (by kernel_rfl) (fun _ _ _ h => h) (Or.inl ⟨by rfl, by intro wx hSw; (try dsimp only at hSw); obtain ⟨⟨x0, x1, x2, x3, x4, x5, x6, x7, x8, x9, x10, x11, x12, x13, x14⟩, ⟨y0, y1, y2, y3, y4, y5, y6, y7, y8, y9, y10, y11, y12, y13, y14⟩, hcv⟩ := hSw; go_simp; try with_reducible rfl⟩) (by assumption) ?_
      (try simp only [Act.put, List.setIfInBounds_toArray, List.set_cons_zero, List.set_cons_succ])
      refine take_first 13 (v := ?_) rfl (by kernel_rfl) (by kernel_rfl) (by kernel_rfl) (fun _ _ _ h => h) (Or.inl ⟨by rfl, by intro wx hSw; (try dsimp only at hSw); obtain ⟨⟨x0, x1, x2, x3, x4, x5, x6, x7, x8, x9, x10, x11, x12, x13, x14⟩, ⟨y0, y1, y2, y3, y4, y5, y6, y7, y8, y9, y10, y11, y12, y13, y14⟩, hcv⟩ := hSw; go_simp; try with_reducible rfl⟩) (by assumption) ?_
      (try simp only [Act.put, List.setIfInBounds_toArray, List.set_cons_zero, List.set_cons_succ])
      refine take_first 14 (v := ?_) rfl (by kernel_rfl) (by kernel_rfl) (by kernel_rfl) (fun _ _ _ h => h) (Or.inl ⟨by rfl, by intro wx hSw; (try dsimp only at hSw); obtain ⟨⟨x0, x1, x2, x3, x4, x5, x6, x7, x8, x9, x10, x11, x12, x13, x14⟩, ⟨y0, y1, y2, y3, y4, y5, y6, y7, y8, y9, y10, y11, y12, y13, y14⟩, hcv⟩ := hSw; go_simp; try with_reducible rfl⟩) (by assumption) ?_
      (try simp only [Act.put, List.setIfInBounds_toArray, List.set_cons_zero, List.set_cons_succ])
      refine take_first 15 (v := ?_) rfl (by kernel_rfl) (by kernel_rfl) (by kernel_rfl) (fun _ _ _ h => h) (Or.inl ⟨by rfl, by intro wx hSw; (try dsimp only at hSw); obtain ⟨⟨x0, x1, x2, x3, x4, x5, x6, x7, x8, x9, x10, x11, x12, x13, x14⟩, ⟨y0, y1, y2, y3, y4, y5, y6, y7, y8, y9, y10, y11, y12, y13, y14⟩, hcv⟩ := hSw; go_simp; try with_reducible rfl⟩) (by assumption) ?_
      (try simp only [Act.put, List.setIfInBounds_toArray, List.set_cons_zero, List.set_cons_succ])
      refine take_first 16 (v := ?_) rfl (by kernel_rfl) (by kernel_rfl) (by kernel_rfl) (fun _ _ _ h => h) (Or.inl ⟨by rfl, by intro wx hSw; (try dsimp only at hSw); obtain ⟨⟨x0, x1, x2, x3, x4, x5, x6, x7, x8, x9, x10, x11, x12, x13, x14⟩, ⟨y0, y1, y2, y3, y4, y5, y6, y7, y8, y9, y10, y11, y12, y13, y14⟩, hcv⟩ := hSw; go_simp; try with_reducible rfl⟩) (by assumption) ?_
      (try simp only [Act.put, List.setIfInBounds_toArray, List.set_cons_zero, List.set_cons_succ])
      refine comes_up 17 rfl (by kernel_rfl) (fun K hK => ?_)
      go_simp
      refine (hsm w7 u7).mono ?_
      rintro e w8 ⟨rfl, hu8⟩
      have u8 : Below w6.heap.size w6 w8 := bl_step u7 hu8.bl
      clear hHeld hsm hu8
      go_wp2_with fail
      refine hK.out _ _ (HS.out w8 u8) (fun hHeld => ?_)
      clear hK K
      (try simp only [Act.put, List.setIfInBounds_toArray, List.set_cons_zero, List.set_cons_succ])
      refine take_first 18 (v := ?_) rfl (by kernel_rfl) (by kernel_rfl) (by kernel_rfl) (fun _ _ _ h => h) (Or.inl ⟨by rfl, by intro wx hSw; (try dsimp only at hSw); obtain ⟨⟨x0, x1, x2, x3, x4, x5, x6, x7, x8, x9, x10, x11, x12, x13, x14⟩, ⟨y0, y1, y2, y3, y4, y5, y6, y7, y8, y9, y10, y11, y12, y13, y14⟩, hcv⟩ := hSw; go_simp; try with_reducible rfl⟩) (by assumption) ?_
      (try simp only [Act.put, List.setIfInBounds_toArray, List.set_cons_zero, List.set_cons_succ])
      refine take_first 19 (v := ?_) rfl (by kernel_rfl) (by kernel_rfl) (by kernel_rfl) (fun _ _ _ h => h) (Or.inl ⟨by rfl, by intro wx hSw; (try dsimp only at hSw); obtain ⟨⟨x0, x1, x2, x3, x4, x5, x6, x7, x8, x9, x10, x11, x12, x13, x14⟩, ⟨y0, y1, y2, y3, y4, y5, y6, y7, y8, y9, y10, y11, y12, y13, y14⟩, hcv⟩ := hSw; go_simp; try with_reducible rfl⟩) (by assumption) ?_
      (try simp only [Act.put, List.setIfInBounds_toArray, List.set_cons_zero, List.set_cons_succ])
      refine wpAnyH_done (by kernel_rfl) ?_ _
      refine NoPanic.normal ?_
      clear hHeld
      go_wp2
      go_ret
      exact ⟨rfl, bl_step HB6.out u8⟩
set_option maxRecDepth 20000 in
theorem contract (H : Type) (enc : TypeId × Value → H) (W : World) (base : Nat) (args : Array Value) (ds gs : List (DataW H)) (before : List MemPlace)
    (hval : ∀ (j : Nat) t v, Try.f3.params[j]? = some t → args[j]? = some v → Value.okWide Try.prog W .any base t v)
    (hW : DataW.Whole enc Try.prog Try.f3.params.toList Rows.frameEncodesSpec.vars false W args.toList ds gs before) (hk : Rows.uptoSmall H (ds ++ gs) = true) :
    Calls Try.prog 3 args W fun e W' => ∃ v, e = .returned v ∧ Rows.frameEncodesSpec.post enc Try.prog Try.f3 false true false false W args v W' := by
  have hW' := hW
  obtain ⟨p, q, hA0, hV, rfl, hfz, hnd⟩ := hW
  have hA : DataW.TrodAll enc Try.prog W 0 (fun _ => true) true Try.f3.params.toList args.toList ds p := hA0
  rw [Try.params3] at hA hval
  obtain ⟨v0, vs0, d0, ds0, p0, q0, hargs0, rfl, rfl, h0, r0⟩ := trodAll_cons hA
  obtain ⟨rfl, rfl, rfl⟩ := trodAll_nil r0
  obtain rfl : args = #[v0] := by cases args; simp_all
  obtain ⟨rfl, rfl⟩ := trodVars_none hV
  have hbl : Rows.uptoBulkAll ([d0] ++ []) ≤ 1048576 := of_decide_eq_true hk
  have hf0 : Rows.uptoBulk d0 ≤ 1048576 := Nat.le_trans (part_le (by simp)) hbl
  have k0 := h0
  have lt0 : ∀ x ∈ p0, x.block < W.heap.size := by obtain ⟨m, hm⟩ := k0; exact DataW.trod_lt m _ _ _ hm
  obtain ⟨F0, a0, rfl, hin0, hok0, ht0⟩ := open_frame (hval 0 30 v0 rfl rfl) h0 hf0
  clear hA0 hbl
  refine (walk W F0 a0 hin0 hok0 ht0).mono fun e W' ⟨he, bel⟩ => ?_
  subst he
  exact ⟨_, rfl, _, _, _, [], _, [], hW', trodAll_mk1 (shut_bool Try.underlying4 _), (trodAll_cons_mk (Below.trod laidOut (by kernel_rfl) (of_decide_eq_true (by kernel_rfl)) k0 bel lt0) trodAll_mk0), rfl, bel.frame _, fun h => by cases h⟩

set_option maxRecDepth 100000 in
theorem lifted (os : Os) (started : os.Started) (H : Type) (enc : TypeId × Value → H) (I : Stop.Interp) :
    ReturnsInHanded {} Try.checked os 3 .any ((Rows.OpenSpec.upto Rows.frameEncodesSpec).pre6 enc Try.prog Try.f3 Rows.frameEncodesUptoRow.domain false) (((Rows.OpenSpec.upto Rows.frameEncodesSpec).at I).post enc Try.prog Try.f3 false true false false) := by
  refine returnsInHanded_of_cond (C := Try.checked) (s := Rows.OpenSpec.upto Rows.frameEncodesSpec) (k := Rows.uptoSmall) rfl own started (by kernel_rfl) Try.func3
    (OpenSpec.witness (enc := enc) (C := Try.checked) (s := Rows.OpenSpec.upto Rows.frameEncodesSpec) (k := Rows.uptoSmall) rfl false ⟨#[], #[.agg #[.int .u8 0, .int .i64 0, .int .u64 0, .int .i64 0, .int .u16 0, .int .u64 0, .int .i64 0, .int .u64 0, .int .i64 0, .slice none 0 0, .int .u64 0, .slice none 0 0, .slice none 0 0, .int .u64 0, .int .u64 0]], []⟩ 8 (by kernel_rfl) (by kernel_rfl) (by kernel_rfl)
      (x := ([.agg [.lit (.int .u8 0), .lit (.int .i64 0), .agg [.lit (.int .u64 0), .lit (.int .i64 0)], .lit (.int .u16 0), .agg [.lit (.int .u64 0), .lit (.int .i64 0)], .agg [.lit (.int .u64 0), .lit (.int .i64 0)], .nil, .lit (.int .u64 0), .nil, .nil, .lit (.int .u64 0), .lit (.int .u64 0)]], [], [])) (by kernel_rfl) rfl (by kernel_rfl)) ?_
  intro W base args ds gs before hval hW _ hk _
  exact contract H enc W base args ds gs before hval hW hk

theorem over : Rows.FrameEncodesUptoSaid :=
  OpenClaim.holds_of_cond 3 Try.f3 rfl rfl rfl rfl rfl rfl rfl ⟨rfl, rfl, rfl, rfl, rfl⟩ rfl rfl rfl rfl rfl (by kernel_rfl) Try.func3 (by kernel_rfl)
    (of_decide_eq_true (by kernel_rfl)) (by unfold Func.isWrapper; first | (rw [if_pos (by decide +kernel)]; kernel_rfl) | (rw [if_neg (by decide +kernel)]; exact ⟨rfl, rfl⟩))
    (fun os started H enc _ I => lifted os started H enc I)

end Go.Proofs.Ytfemjbaadnjanaa.frameEncodes
namespace Go.Proofs.Ytfemjbaadnjanaa
theorem frameEncodesUpto_holds : Rows.FrameEncodesUptoSaid := frameEncodes.over
#print axioms frameEncodesUpto_holds
end Go.Proofs.Ytfemjbaadnjanaa
