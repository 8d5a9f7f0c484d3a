/-
  Proved: for every frame f, FrameKeeps(f) returns true, where what f holds, counted each time it is reached, is of bulk at most 1048576: what is handed in stays as it was, and what is told is memory of its own. Condition: that bound on what is handed in.
-/
import Derived.Test.YtfemjbaadnjanaaRows
import Derived.Test.YtfemjbaadnjanaaFXr
import Derived.Test.YtfemjbaadnjanaaFAwake
import Derived.Test.YtfemjbaadnjanaaFRefG
import Derived.Test.YtfemjbaadnjanaaFRefE5
import Derived.Test.YtfemjbaadnjanaaFSameF
import Derived.Test.YtfemjbaadnjanaaFGreat
import Derived.Test.YtfemjbaadnjanaaFArgs2
import Derived.JoinedCond
namespace Go.Proofs.Ytfemjbaadnjanaa.frameKeeps
open Go.ChangeShapes Go.WideShapes Go.ChangeAt Go.RowKit
set_option linter.unusedVariables false
set_option linter.unusedSimpArgs false

theorem bl_step2 {w0 wc wr : World} {L H : Nat} (h : Below w0.heap.size w0 wc ∧ w0.heap.size ≤ L) (x : Xr L H wc wr) : Below w0.heap.size w0 wr :=
  h.1.trans (x.below.mono h.2)
theorem grown_below {w0 w6 wr : World} {g : Nat} (h : Below w0.heap.size w0 w6) (k : w6.grownBy wr (some g)) (hg : w0.heap.size ≤ g) : Below w0.heap.size w0 wr :=
  ⟨k.os.trans h.os, k.tape.trans h.tape, k.output.trans h.output, Nat.le_trans h.size k.size, fun b hb => (k.block b (by have := h.size; omega) (by simp; omega)).trans (h.block b hb)⟩

set_option maxRecDepth 20000 in
set_option maxHeartbeats 4000000 in
theorem walk (w : World) (F : PF) (a : Fa) (h : FIn (fun _ => True) w F a) (ho : POk F) (ht : tot F ≤ 1048576) :
    Calls Try.prog 7 #[fval F a] w fun e w' => e = .returned (.bool true) ∧ Below w.heap.size w w' := by
  obtain ⟨w0, hw0, hu0, hb0⟩ := boxed w F a
  have HB : Hid (∀ V, Below w0.heap.size w0 V → Bf w.heap.size F a V) := fun V u => hb0.up u
  have HF : Hid (∀ V, Below w0.heap.size w0 V → FIn (fun _ => True) V F a) := fun V u => (h.up hu0.bl).up u
  have hgr := fun V (u : Below w0.heap.size w0 V) => great_any' _ V F a (HF.out V u) ht
  have henc := fun V (u : Below w0.heap.size w0 V) => encodeF_any (fun _ => True) V F a (HF.out V u) ho
  have hfm := fun V (u : Below w0.heap.size w0 V) => refForm7_any (fun _ => True) V F a (HF.out V u) ho.frm ho.kind
  have HO : Hid (POk F) := ho
  have HU0 : Hid (Below w.heap.size w w0) := hu0.bl
  have HU00 : Hid (Below w0.heap.size w0 w0) := Below.refl _ _
  obtain ⟨d0, d1, d2, d3, d4, d5, d6, d7, d8, d9, d10, d11, d12, d13, d14⟩ := hb0
  unfold fval fcells at *
  clear h ho hu0
  by_cases hg : 20000 < tot F
  · simp only [hg, decide_true] at hgr
    clear henc hfm hg ht
    as_aux_lemma =>
    go_enter Try.func7, Try.ntmps7
    go_wp2_with fail
    (try simp only [hw0])
    refine (hgr _ HU00.out).mono ?_
    rintro e w1 ⟨rfl, hu1⟩
    have hb1 := bl_step HU0.out hu1.bl
    clear hgr d0 d1 d2 d3 d4 d5 d6 d7 d8 d9 d10 d11 d12 d13 d14 hu1
    go_wp2_with fail
    refine (awake_any _).mono ?_
    rintro e wz ⟨rfl, hbz⟩
    have hb02 := bl_step hb1 hbz
    go_wp2
    go_ret
    exact ⟨rfl, hb02⟩
  · have HL : Hid ((wire F).length + 4 ≤ 1048576) := by
      show _ ≤ _
      have := wire_le F
      omega
    have HL2 : Hid ((wire F).length ≤ 1048576) := by have := HL.out; show _ ≤ _; omega
    simp only [hg, decide_false] at hgr
    clear hg ht
    as_aux_lemma =>
    go_enter Try.func7, Try.ntmps7
    go_wp2_with fail
    (try simp only [hw0])
    refine (hgr _ HU00.out).mono ?_
    rintro e w1 ⟨rfl, hu1⟩
    have hb1 : Below w0.heap.size w0 w1 := hu1.bl
    clear hgr d0 d1 d2 d3 d4 d5 d6 d7 d8 d9 d10 d11 d12 d13 d14 hu1
    go_wp2_with fail
    refine (awake_any _).mono ?_
    rintro e w2 ⟨rfl, hb2⟩
    have hb02 : Below w0.heap.size w0 w2 := bl_step hb1 hb2
    have hfm2 := hfm w2 hb02
    obtain ⟨d0, d1, d2, d3, d4, d5, d6, d7, d8, d9, d10, d11, d12, d13, d14⟩ := HB.out w2 hb02
    clear hb1 hb2 hfm
    go_wp2_with fail
    refine hfm2.mono ?_
    rintro e w3 ⟨rfl, hu3⟩
    have hb03 : Below w0.heap.size w0 w3 := bl_step hb02 hu3.bl
    clear hfm2 hb02 hu3 d0 d1 d2 d3 d4 d5 d6 d7 d8 d9 d10 d11 d12 d13 d14
    cases hr : rightF F with
    | false =>
      clear henc hr
      as_aux_lemma =>
      go_wp2_with fail
      refine (awake_any _).mono ?_
      rintro e wz ⟨rfl, hbz⟩
      have hbf := bl_step HU0.out (bl_step hb03 hbz)
      go_wp2
      go_ret
      exact ⟨rfl, hbf⟩
    | true =>
      as_aux_lemma =>
      have henc3 := henc w3 hb03
      have HR : Hid (rightF F = true) := hr
      obtain ⟨d0, d1, d2, d3, d4, d5, d6, d7, d8, d9, d10, d11, d12, d13, d14⟩ := HB.out w3 hb03
      clear henc
      go_wp2_with fail
      refine henc3.mono ?_
      rintro e w4 ⟨hans, hb34⟩
      unfold EncAns at hans
      rw [hr, if_neg (by simp), if_neg (by have := HL.out; omega)] at hans
      obtain ⟨v, rfl, hown⟩ := hans
      have hb04 : Below w0.heap.size w0 w4 := bl_step hb03 hb34
      obtain ⟨pl, hpl⟩ : ∃ pl, (wire F).length + 4 = pl := ⟨_, rfl⟩
      rw [hpl] at hown
      have hpl4 : 4 ≤ pl := by omega
      have hplM : pl ≤ 1048576 := by have := HL.out; omega
      have HSL : Hid ((sealB (wire F)).length = pl) := by show _ = _; rw [sealB_len]; exact hpl
      obtain ⟨gp, cq, hv5, hgB⟩ : ∃ g cq, v = .slice (some ⟨g, 0, none⟩) pl cq ∧ w3.heap.size ≤ g := by
        rcases hown.2 with ⟨_, h0⟩ | ⟨g, cq, cur, hv, hg, _⟩
        · omega
        · exact ⟨g, cq, hv, hg⟩
      have hgl := (hown.lt gp (by rw [hv5]; rfl)).2
      rw [hv5] at hown
      have hcqm : cq ≤ 9223372036854775807 := by
        rcases hown.2 with ⟨h0, _⟩ | ⟨g2, cq2, cur, hv, hg, _, _, hc2, _⟩
        · cases h0
        · obtain ⟨_, rfl⟩ : gp = g2 ∧ cq = cq2 := by simpa using hv
          unfold maxLen at hc2
          omega
      subst hv5
      have hrow : Cd.Row w4 (some ⟨gp, 0, none⟩) pl cq (sealB (wire F)) := by
        obtain ⟨ao', cap', hv', hrow', _⟩ := Cd.owns_row hown
        cases hv'
        exact hrow'
      have hsz03 := hb03.size
      have HDS : Hid (decF 9223372036854775807 (sealB (wire F)) = (0, F)) := decF_seal 9223372036854775807 F hr HO.out HL.out (by omega) (by omega)
      have hdec := decodeFU_any w4 (some ⟨gp, 0, none⟩) pl cq _ hrow (by omega)
      (try simp only [hpl])
      clear henc3 hrow hr d0 d1 d2 d3 d4 d5 d6 d7 d8 d9 d10 d11 d12 d13 d14 hb34 hb03 hpl
      as_aux_lemma =>
      go_wp2_with fail
      refine hdec.mono ?_
      rintro e w5 ⟨hda, hb5⟩
      unfold DecAnsU at hda
      rw [HDS.out] at hda
      obtain ⟨b, rfl, hgU⟩ := hda
      have hgU5 : FInU (fun x => w4.heap.size ≤ x ∧ x < w5.heap.size) w5 F b := hgU.imp (fun b hb hp => ⟨hp, hb⟩)
      clear hdec HDS hgU
      unfold fval fcells
      obtain ⟨w6, hw6⟩ : ∃ w6, w5.alloc (.cells #[.int .u8 (F.kind : Nat), .int .i64 F.frm, .int .u64 (F.idN : Nat), .int .i64 F.idP, .int .u16 (F.set : Nat), .int .u64 (F.curN : Nat), .int .i64 F.curP, .int .u64 (F.promN : Nat), .int .i64 F.promP, .slice b.so F.st.length b.sc, .int .u64 (F.base : Nat), .slice b.mo F.ms.length b.mc, .slice b.io F.it.length b.ic, .int .u64 (F.ack : Nat), .int .u64 (F.safe : Nat)] 30) = w6 := ⟨_, rfl⟩
      have hb56 : Below w5.heap.size w5 w6 := by rw [← hw6]; exact bl1 _ _
      have hbg : Bf w5.heap.size F b w6 := by rw [← hw6]; exact bf_new w5 F b 30
      have hs6 : w6.heap.size = w5.heap.size + 1 := by rw [← hw6]; simp
      have hgU6 := hgU5.up hb56
      have hown6 : w6.ownsRow w3.heap.size 5 1 (.slice (some ⟨gp, 0, none⟩) pl cq) pl ((sealB (wire F)).map Cd.by8) := own_up (own_up hown hb5) hb56
      have hb06 : Below w0.heap.size w0 w6 := bl_step (bl_step hb04 hb5) hb56
      have hs45 := hb5.size
      have HW6 : Hid (w5.alloc (.cells #[.int .u8 (F.kind : Nat), .int .i64 F.frm, .int .u64 (F.idN : Nat), .int .i64 F.idP, .int .u16 (F.set : Nat), .int .u64 (F.curN : Nat), .int .i64 F.curP, .int .u64 (F.promN : Nat), .int .i64 F.promP, .slice b.so F.st.length b.sc, .int .u64 (F.base : Nat), .slice b.mo F.ms.length b.mc, .slice b.io F.it.length b.ic, .int .u64 (F.ack : Nat), .int .u64 (F.safe : Nat)] 30) = w6) := hw6
      clear hown hb5 hb56 hgU5 hw6 hb04
      go_wp2_with fail
      rw [HW6.out]
      clear HW6
      as_aux_lemma =>
      go_loopw [7] (fun iv wr => ∃ (i : Nat) (zs : List UInt8), i ≤ pl ∧ iv = .int .i64 i ∧ zs.length = pl ∧ wr.ownsRow w3.heap.size 5 1 (.slice (some ⟨gp, 0, none⟩) pl cq) pl (zs.map Cd.by8) ∧ w6.grownBy wr (some gp)) (fun iv _ => pl - (intOf iv).toNat)
      case atStart => exact ⟨0, sealB (wire F), by omega, rfl, HSL.out, hown6, Cd.grown_refl _ _⟩
      case round =>
        obtain ⟨i, zs, hi, rfl, hzl, hownr, hgrw⟩ := hrel
        have HZL : Hid (zs.length = pl) := hzl
        clear hzl hown6
        by_cases hlt : i < pl
        · have hltI : (i : Int) < pl := by omega
          obtain ⟨z0, hz0⟩ : ∃ z0, z0 = zs.getD i 0 := ⟨_, rfl⟩
          have hcell : wr.cell? ⟨gp, i, none⟩ = some (.int .u8 (z0.toNat : Int)) := by
            rw [hownr.cellAt i (by omega), hz0]
            have hzl := HZL.out
            simp [Cd.by8, List.getElem?_eq_getElem (show i < zs.length by omega)]
          have hfr : wr.frozen? ⟨gp, i, none⟩ = false := hownr.frozenAt i
          obtain ⟨z1, hz1, hxz⟩ := xor1 z0.toNat (Cd.u8_lt z0)
          have hst1 := (hownr.stored i (Cd.by8 (UInt8.ofNat z1))).1
          have HOW : Hid ((wr.setCell ⟨gp, i, none⟩ (.int .u8 (z1 : Nat))).ownsRow w3.heap.size 5 1 (.slice (some ⟨gp, 0, none⟩) pl cq) pl ((zs.set i (UInt8.ofNat z1)).map Cd.by8)) := by
            have e : (zs.map Cd.by8).set i (Cd.by8 (UInt8.ofNat z1)) = (zs.set i (UInt8.ofNat z1)).map Cd.by8 := (List.map_set).symm
            rw [e] at hst1
            have e2 : Cd.by8 (UInt8.ofNat z1) = .int .u8 (z1 : Nat) := by unfold Cd.by8; rw [Cd.ofNat_toNat _ hz1]
            rw [e2] at hst1
            exact hst1
          have HGR : Hid (w6.grownBy (wr.setCell ⟨gp, i, none⟩ (.int .u8 (z1 : Nat))) (some gp)) := Cd.grown_trans hgrw (Cd.set_grown _)
          have HXZ : Hid (bits .xor .u8 (z0.toNat : Int) 1 = (z1 : Int)) := hxz
          clear hst1 hz0 hxz hgrw hownr
          as_aux_lemma =>
          go_wp2
          (try rw [HXZ.out])
          go_roundw
          case rel => first | exact ⟨i + 1, zs.set i (UInt8.ofNat z1), by omega, by go_num, by rw [List.length_set]; exact HZL.out, HOW.out, HGR.out⟩ | ((repeat apply Exists.intro); exact ⟨⟨i + 1, zs.set i (UInt8.ofNat z1), by omega, by go_num, by rw [List.length_set]; exact HZL.out, HOW.out, HGR.out⟩, rfl⟩)
          case measure => simp [intOf]; omega
        · have hltI : ¬ (i : Int) < pl := by omega
          have hb0a : Below w0.heap.size w0 wr := grown_below hb06 hgrw (by omega)
          have hgUa := hgU6.keep (Kb.grown hgrw (fun x hx => by simp; omega)) hgrw.size
          have hbga := hbg.keep (p := fun x => x = w5.heap.size) (Kp.grown hgrw (fun x hx => by omega)) rfl
          have hsa := hgrw.size
          generalize hwa : wr = wa at *
          have hsame := sameF_true _ _ wa F b a hgUa.fin (HF.out wa hb0a)
          unfold fval fcells at hsame
          obtain ⟨d0, d1, d2, d3, d4, d5, d6, d7, d8, d9, d10, d11, d12, d13, d14⟩ := HB.out wa hb0a
          obtain ⟨y0, y1, y2, y3, y4, y5, y6, y7, y8, y9, y10, y11, y12, y13, y14⟩ := hbga
          clear hownr hgrw HZL hgU6 hbg hb06 hwa
          as_aux_lemma =>
          go_wp2_with fail
          refine hsame.mono ?_
          rintro e wb ⟨rfl, hub⟩
          have hbab := hub.bl
          have hb0b := bl_step hb0a hbab
          have hre8 := refEncF_any (fun _ => True) wb F a (HF.out wb hb0b) HR.out HO.out HL2.out
          unfold fval fcells at hre8
          have hgUb := hgUa.up hbab
          have hbgb : Bf w5.heap.size F b wb := (Bf.mk y0 y1 y2 y3 y4 y5 y6 y7 y8 y9 y10 y11 y12 y13 y14).up hbab
          have hsb := hbab.size
          clear hsame hub d0 d1 d2 d3 d4 d5 d6 d7 d8 d9 d10 d11 d12 d13 d14 y0 y1 y2 y3 y4 y5 y6 y7 y8 y9 y10 y11 y12 y13 y14 hgUa hbab
          obtain ⟨d0, d1, d2, d3, d4, d5, d6, d7, d8, d9, d10, d11, d12, d13, d14⟩ := HB.out wb hb0b
          as_aux_lemma =>
          go_wp2_with fail
          refine hre8.mono ?_
          rintro e wc ⟨v8, rfl, ho8⟩
          obtain ⟨vo8, vc8, hv8, hrow8, _⟩ := Cd.owns_row ho8.1
          have hbbc : Below wb.heap.size wb wc := ho8.2.1
          have hl8 : ∀ x, v8.ownBlock = some x → wb.heap.size ≤ x := fun x hx => (ho8.1.lt x hx).1
          obtain ⟨vn8, hvn8⟩ : ∃ n, (sealB (wire F)).length = n := ⟨_, rfl⟩
          rw [hvn8] at hv8 hrow8
          subst hv8
          have hb0c : Below w0.heap.size w0 wc ∧ w0.heap.size ≤ w4.heap.size := ⟨bl_step hb0b hbbc, by omega⟩
          have HU : Hid (FInU (fun x => w4.heap.size ≤ x ∧ x < w5.heap.size) wc F b) := hgUb.up hbbc
          have HPB : Hid (∀ x, (w4.heap.size ≤ x ∧ x < w5.heap.size) → w4.heap.size ≤ x ∧ x < w5.heap.size) := fun _ h => h
          have hbgc := hbgb.up hbbc
          have HR8 : Hid (∀ V, Xr w4.heap.size w5.heap.size wc V → Cd.Row V vo8 vn8 vc8 (sealB (wire F))) := fun V x => by
            obtain ⟨r1, r2, r3, r4, r5⟩ := hrow8
            refine ⟨r1, r2, r3, r4, fun ad had j hj => ?_⟩
            have h6 : (ad.add j).block = ad.block := by unfold Addr.add; split <;> rfl
            have h7 := hl8 ad.block (by rw [had]; rfl)
            rw [World.cell?_of_block (w := wc) (x.out _ (.inr (by rw [h6]; omega)))]
            exact r5 ad had j hj
          obtain ⟨s, hs⟩ : ∃ s, Cd.str (sealB (wire F)) = s := ⟨_, rfl⟩
          have HSE : Hid (Cd.str (sealB (wire F)) = s) := hs
          obtain ⟨ML, hML⟩ : ∃ n, F.ms.length = n := ⟨_, rfl⟩
          obtain ⟨IL, hIL⟩ : ∃ n, F.it.length = n := ⟨_, rfl⟩
          have HML : Hid (F.ms.length = ML) := hML
          have HIL : Hid (F.it.length = IL) := hIL
          obtain ⟨mlo, hmlo⟩ : ∃ x, b.mo = x := ⟨_, rfl⟩
          obtain ⟨ilo, hilo⟩ : ∃ x, b.io = x := ⟨_, rfl⟩
          obtain ⟨mlc, hmlc⟩ : ∃ x, b.mc = x := ⟨_, rfl⟩
          obtain ⟨ilc, hilc⟩ : ∃ x, b.ic = x := ⟨_, rfl⟩
          have Hmlo : Hid (b.mo = mlo) := hmlo
          have Hilo : Hid (b.io = ilo) := hilo
          have HC11 : Hid (∀ V, Xr w4.heap.size w5.heap.size wc V → V.cell? ⟨w5.heap.size, 11, none⟩ = some (.slice mlo ML mlc)) := fun V x => by
            rw [World.cell?_of_block (w := wc) (x.out _ (.inr (Nat.le_refl _))), ← hmlo, ← hML, ← hmlc]; exact hbgc.c11
          have HC12 : Hid (∀ V, Xr w4.heap.size w5.heap.size wc V → V.cell? ⟨w5.heap.size, 12, none⟩ = some (.slice ilo IL ilc)) := fun V x => by
            rw [World.cell?_of_block (w := wc) (x.out _ (.inr (Nat.le_refl _))), ← hilo, ← hIL, ← hilc]; exact hbgc.c12
          have hMLb : ML ≤ 5864062014805 := by rw [← hML]; obtain ⟨xs, hmr, _⟩ := HU.out.ms; exact hmr.2.1
          have hILb : IL ≤ 4398046511104 := by rw [← hIL]; obtain ⟨xs, hmr, _⟩ := HU.out.it; exact hmr.2.1
          have hxr : Xr w4.heap.size w5.heap.size wc wc := Xr.refl _ _ _
          clear hre8 ho8 hrow8 hl8 hbbc hgUb hbgb hbgc hb0a hb0b hsb hsa hML hIL hmlo hilo hmlc hilc hs hvn8 d0 d1 d2 d3 d4 d5 d6 d7 d8 d9 d10 d11 d12 d13 d14 hcqm hgl hgB
          as_aux_lemma =>
          go_wp2_with fail
          as_aux_lemma =>
          go_loopw [9] (fun iv wr => ∃ i : Nat, i ≤ ML ∧ iv = .int .i64 i ∧ Xr w4.heap.size w5.heap.size wc wr) (fun iv _ => ML - (intOf iv).toNat)
          case atStart => exact ⟨0, by omega, rfl, hxr⟩
          case round =>
            clear hxr
            obtain ⟨i, hi, rfl, hxr⟩ := hrel
            have c11 := HC11.out wr hxr
            by_cases hlt : i < ML
            · have hltI : (i : Int) < ML := by omega
              obtain ⟨lb, lo, mo, mn, mc, hao, hmc, hmx, hall⟩ := ms_at HU.out.ms HPB.out (i := i) (by rw [HML.out]; exact hlt)
              have HALL : Hid (∀ wr, Xr w4.heap.size w5.heap.size wc wr → wr.cell? ⟨lb, lo + i, none⟩ = some (.slice mo mn mc) ∧ ∀ k, k < mn → ∃ mb off, mo = some ⟨mb, off, none⟩ ∧ w4.heap.size ≤ mb ∧ mb < w5.heap.size ∧ (∃ z : Nat, z < 256 ∧ wr.cell? ⟨mb, off + k, none⟩ = some (.int .u8 (z : Nat))) ∧ wr.frozen? ⟨mb, off + k, none⟩ = false) := hall
              rw [Hmlo.out] at hao
              subst hao
              clear hall
              as_aux_lemma =>
              go_wp2_with fail
              clear c11
              as_aux_lemma =>
              go_loopw [10] (fun kv wr => ∃ k : Nat, k ≤ mn ∧ kv = .int .i64 k ∧ Xr w4.heap.size w5.heap.size wc wr) (fun kv _ => mn - (intOf kv).toNat)
              case atStart => exact ⟨0, by omega, rfl, hxr⟩
              case round =>
                clear hxr
                obtain ⟨k, hk, rfl, hxr⟩ := hrel
                have c11 := HC11.out wr hxr
                obtain ⟨hhd, hby⟩ := HALL.out wr hxr
                by_cases hkl : k < mn
                · have hklI : (k : Int) < mn := by omega
                  obtain ⟨mb, off, rfl, hm1, hm2, ⟨z, hz, hbc⟩, hfz⟩ := hby k hkl
                  obtain ⟨z1, hz1, hxz⟩ := xor1 z hz
                  have HX2 : Hid (Xr w4.heap.size w5.heap.size wc (wr.setCell ⟨mb, off + k, none⟩ (.int .u8 (z1 : Nat))).drew) := (hxr.set hbc ⟨hm1, hm2⟩ hz1).drew
                  have HXZ : Hid (bits .xor .u8 (z : Int) 1 = (z1 : Int)) := hxz
                  clear hby hxr hxz
                  as_aux_lemma =>
                  go_wp2_with fail
                  go_region
                  (try rw [HXZ.out])
                  go_wp2
                  go_roundw
                  case rel => first | exact ⟨k + 1, by omega, by go_num, HX2.out⟩ | ((repeat apply Exists.intro); exact ⟨⟨k + 1, by omega, by go_num, HX2.out⟩, rfl⟩)
                  case measure => simp [intOf]; omega
                · have hklI : ¬ (k : Int) < mn := by omega
                  clear hby
                  as_aux_lemma =>
                  go_wp2
                  go_roundw
                  case rel => first | exact ⟨i + 1, by omega, by go_num, hxr⟩ | ((repeat apply Exists.intro); exact ⟨⟨i + 1, by omega, by go_num, hxr⟩, rfl⟩)
                  case measure => simp [intOf]; omega
            · have hltI : ¬ (i : Int) < ML := by omega
              as_aux_lemma =>
              go_wp2_with fail
              clear c11
              as_aux_lemma =>
              go_loopw [11] (fun iv wr => ∃ i : Nat, i ≤ IL ∧ iv = .int .i64 i ∧ Xr w4.heap.size w5.heap.size wc wr) (fun iv _ => IL - (intOf iv).toNat)
              case atStart => exact ⟨0, by omega, rfl, hxr⟩
              case round =>
                clear hxr
                obtain ⟨i, hi, rfl, hxr⟩ := hrel
                have c12 := HC12.out wr hxr
                by_cases hlt : i < IL
                · have hltI : (i : Int) < IL := by omega
                  obtain ⟨lb, lo, mo, mn, mc, hao, hmc, hmx, hall⟩ := it_at HU.out.it HPB.out (i := i) (by rw [HIL.out]; exact hlt)
                  have HALL : Hid (∀ wr, Xr w4.heap.size w5.heap.size wc wr → wr.cell? ⟨lb, lo + i * 2 + 1, none⟩ = some (.slice mo mn mc) ∧ ∀ k, k < mn → ∃ mb off, mo = some ⟨mb, off, none⟩ ∧ w4.heap.size ≤ mb ∧ mb < w5.heap.size ∧ (∃ z : Nat, z < 256 ∧ wr.cell? ⟨mb, off + k, none⟩ = some (.int .u8 (z : Nat))) ∧ wr.frozen? ⟨mb, off + k, none⟩ = false) := hall
                  rw [Hilo.out] at hao
                  subst hao
                  clear hall
                  as_aux_lemma =>
                  go_wp2_with fail
                  clear c12
                  as_aux_lemma =>
                  go_loopw [12] (fun kv wr => ∃ k : Nat, k ≤ mn ∧ kv = .int .i64 k ∧ Xr w4.heap.size w5.heap.size wc wr) (fun kv _ => mn - (intOf kv).toNat)
                  case atStart => exact ⟨0, by omega, rfl, hxr⟩
                  case round =>
                    clear hxr
                    obtain ⟨k, hk, rfl, hxr⟩ := hrel
                    have c12 := HC12.out wr hxr
                    obtain ⟨hhd, hby⟩ := HALL.out wr hxr
                    by_cases hkl : k < mn
                    · have hklI : (k : Int) < mn := by omega
                      obtain ⟨mb, off, rfl, hm1, hm2, ⟨z, hz, hbc⟩, hfz⟩ := hby k hkl
                      obtain ⟨z1, hz1, hxz⟩ := xor1 z hz
                      have HX2 : Hid (Xr w4.heap.size w5.heap.size wc (wr.setCell ⟨mb, off + k, none⟩ (.int .u8 (z1 : Nat))).drew) := (hxr.set hbc ⟨hm1, hm2⟩ hz1).drew
                      have HXZ : Hid (bits .xor .u8 (z : Int) 1 = (z1 : Int)) := hxz
                      clear hby hxr hxz
                      as_aux_lemma =>
                      go_wp2_with fail
                      go_region
                      (try rw [HXZ.out])
                      go_wp2
                      go_roundw
                      case rel => first | exact ⟨k + 1, by omega, by go_num, HX2.out⟩ | ((repeat apply Exists.intro); exact ⟨⟨k + 1, by omega, by go_num, HX2.out⟩, rfl⟩)
                      case measure => simp [intOf]; omega
                    · have hklI : ¬ (k : Int) < mn := by omega
                      clear hby
                      as_aux_lemma =>
                      go_wp2
                      go_roundw
                      case rel => first | exact ⟨i + 1, by omega, by go_num, hxr⟩ | ((repeat apply Exists.intro); exact ⟨⟨i + 1, by omega, by go_num, hxr⟩, rfl⟩)
                      case measure => simp [intOf]; omega
                · have hltI : ¬ (i : Int) < IL := by omega
                  as_aux_lemma =>
                  go_wp2_with fail
                  clear c12
                  as_aux_lemma =>
                  have u0x : Below wr.heap.size wr wr.drew := ((Up.refl wr).drew).bl
                  have hb0r : Below w0.heap.size w0 wr := bl_step2 hb0c hxr
                  have HS : Hid (∀ V, Below wr.heap.size wr V → Bf w.heap.size F a V ∧ (convert 33 9 (.slice vo8 vn8 vc8)).run Try.prog V = .ok (.string s) V) := fun V u => ⟨HB.out V (bl_step hb0r u), by rw [← HSE.out]; exact Cd.conv_row ((HR8.out wr hxr).below u (Nat.le_refl _))⟩
                  have hre := fun V (u : Below wr.heap.size wr V) => refEncF_any (fun _ => True) V F a (HF.out V (bl_step hb0r u)) HR.out HO.out HL2.out
                  unfold fval fcells at hre
                  have HB6 : Hid (Below w.heap.size w wr) := bl_step HU0.out hb0r
                  clear hxr hb0c hb0r
                  as_aux_lemma =>
                  refine wp_region_noPanic ?_
                  refine wp_region_held_drew (S := fun wx => Bf w.heap.size F a wx ∧ (convert 33 9 (.slice vo8 vn8 vc8)).run Try.prog wx = .ok (.string s) wx) (by kernel_rfl) (HS.out _ u0x) (fun hHeld => ?_)
                  refine take_first 0 (v := ?_) rfl (by kernel_rfl) (by kernel_rfl) (by kernel_rfl) (fun _ _ _ h => h) (Or.inl ⟨by rfl, by intro wx hSw; (try dsimp only at hSw); obtain ⟨⟨x0, x1, x2, x3, x4, x5, x6, x7, x8, x9, x10, x11, x12, x13, x14⟩, hcv⟩ := hSw; go_simp; try with_reducible rfl⟩) (by assumption) ?_
                  (try simp only [Act.put, List.setIfInBounds_toArray, List.set_cons_zero, List.set_cons_succ])
                  refine take_first 3 (v := ?_) rfl (by kernel_rfl) (by kernel_rfl) (by kernel_rfl) (fun _ _ _ h => h) (Or.inl ⟨by rfl, by intro wx hSw; (try dsimp only at hSw); go_simp; try with_reducible rfl⟩) (by assumption) ?_
                  (try simp only [Act.put, List.setIfInBounds_toArray, List.set_cons_zero, List.set_cons_succ])
                  refine take_first 4 (v := ?_) rfl (by kernel_rfl) (by kernel_rfl) (by kernel_rfl) (fun _ _ _ h => h) (Or.inl ⟨by rfl, by intro wx hSw; (try dsimp only at hSw); obtain ⟨⟨x0, x1, x2, x3, x4, x5, x6, x7, x8, x9, x10, x11, x12, x13, x14⟩, hcv⟩ := hSw; go_simp; try with_reducible rfl⟩) (by assumption) ?_
                  (try simp only [Act.put, List.setIfInBounds_toArray, List.set_cons_zero, List.set_cons_succ])
                  refine comes_up 1 rfl (by kernel_rfl) (fun K hK => ?_)
                  go_simp
                  refine (hre _ u0x).mono ?_
                  rintro e w7 ⟨v7, rfl, ho7⟩
                  have u7 : Below wr.heap.size wr w7 := bl_step u0x ho7.2.1
                  obtain ⟨qo, qc, rfl, hrx7⟩ := own_rx ho7.1 (by rw [sealB_len]; have := HL2.out; omega)
                  have hcv7 := Cd.conv_row hrx7.row
                  rw [HSE.out] at hcv7
                  generalize (sealB (wire F)).length = ql at *
                  clear hHeld hre ho7 hrx7
                  go_wp2_with fail
                  refine hK.out _ _ (HS.out w7 u7) (fun hHeld => ?_)
                  clear hK K
                  (try simp only [Act.put, List.setIfInBounds_toArray, List.set_cons_zero, List.set_cons_succ])
                  refine comes_up 2 rfl (by kernel_rfl) (fun K hK => ?_)
                  go_simp
                  go_wp2_with fail
                  refine hK.out _ _ (HS.out w7 u7) (fun hHeld => ?_)
                  clear hK K
                  (try simp only [Act.put, List.setIfInBounds_toArray, List.set_cons_zero, List.set_cons_succ])
                  clear hcv7
                  refine take_first 5 (v := ?_) rfl (by kernel_rfl) (by kernel_rfl) (by kernel_rfl) (fun _ _ _ h => h) (Or.inl ⟨by rfl, by intro wx hSw; (try dsimp only at hSw); go_simp; try with_reducible rfl⟩) (by assumption) ?_
                  (try simp only [Act.put, List.setIfInBounds_toArray, List.set_cons_zero, List.set_cons_succ])
                  refine take_first 6 (v := ?_) rfl (by kernel_rfl) (by kernel_rfl) (by kernel_rfl) (fun _ _ _ h => h) (Or.inl ⟨by rfl, by intro wx hSw; (try dsimp only at hSw); go_simp; try with_reducible rfl⟩) (by assumption) ?_
                  (try simp only [Act.put, List.setIfInBounds_toArray, List.set_cons_zero, List.set_cons_succ])
                  refine wpAnyH_done (by kernel_rfl) ?_ _
                  refine NoPanic.normal ?_
                  clear hHeld
                  go_wp2
                  go_ret
                  exact ⟨rfl, bl_step HB6.out u7⟩

set_option maxRecDepth 20000 in
theorem contract (H : Type) (enc : TypeId × Value → H) (W : World) (base : Nat) (args : Array Value) (ds gs : List (DataW H)) (before : List MemPlace)
    (hval : ∀ (j : Nat) t v, Try.f7.params[j]? = some t → args[j]? = some v → Value.okWide Try.prog W .any base t v)
    (hW : DataW.Whole enc Try.prog Try.f7.params.toList Rows.frameKeepsSpec.vars false W args.toList ds gs before) (hk : Rows.uptoSmall H (ds ++ gs) = true) :
    Calls Try.prog 7 args W fun e W' => ∃ v, e = .returned v ∧ Rows.frameKeepsSpec.post enc Try.prog Try.f7 false true false false W args v W' := by
  have hW' := hW
  obtain ⟨p, q, hA0, hV, rfl, hfz, hnd⟩ := hW
  have hA : DataW.TrodAll enc Try.prog W 0 (fun _ => true) true Try.f7.params.toList args.toList ds p := hA0
  rw [Try.params7] at hA hval
  obtain ⟨v0, vs0, d0, ds0, p0, q0, hargs0, rfl, rfl, h0, r0⟩ := trodAll_cons hA
  obtain ⟨rfl, rfl, rfl⟩ := trodAll_nil r0
  obtain rfl : args = #[v0] := by cases args; simp_all
  obtain ⟨rfl, rfl⟩ := trodVars_none hV
  have hbl : Rows.uptoBulkAll ([d0] ++ []) ≤ 1048576 := of_decide_eq_true hk
  have hf0 : Rows.uptoBulk d0 ≤ 1048576 := Nat.le_trans (part_le (by simp)) hbl
  have k0 := h0
  have lt0 : ∀ x ∈ p0, x.block < W.heap.size := by obtain ⟨m, hm⟩ := k0; exact DataW.trod_lt m _ _ _ hm
  obtain ⟨F0, a0, rfl, hin0, hok0, ht0⟩ := open_frame (hval 0 30 v0 rfl rfl) h0 hf0
  clear hA0 hbl
  refine (walk W F0 a0 hin0 hok0 ht0).mono fun e W' ⟨he, bel⟩ => ?_
  subst he
  exact ⟨_, rfl, _, _, _, [], _, [], hW', trodAll_mk1 (shut_bool Try.underlying4 _), (trodAll_cons_mk (Below.trod laidOut (by kernel_rfl) (of_decide_eq_true (by kernel_rfl)) k0 bel lt0) trodAll_mk0), rfl, bel.frame _, fun h => by cases h⟩

set_option maxRecDepth 100000 in
theorem lifted (os : Os) (started : os.Started) (H : Type) (enc : TypeId × Value → H) (I : Stop.Interp) :
    ReturnsInHanded {} Try.checked os 7 .any ((Rows.OpenSpec.upto Rows.frameKeepsSpec).pre6 enc Try.prog Try.f7 Rows.frameKeepsUptoRow.domain false) (((Rows.OpenSpec.upto Rows.frameKeepsSpec).at I).post enc Try.prog Try.f7 false true false false) := by
  refine returnsInHanded_of_cond (C := Try.checked) (s := Rows.OpenSpec.upto Rows.frameKeepsSpec) (k := Rows.uptoSmall) rfl own started (by kernel_rfl) Try.func7
    (OpenSpec.witness (enc := enc) (C := Try.checked) (s := Rows.OpenSpec.upto Rows.frameKeepsSpec) (k := Rows.uptoSmall) rfl false ⟨#[], #[.agg #[.int .u8 0, .int .i64 0, .int .u64 0, .int .i64 0, .int .u16 0, .int .u64 0, .int .i64 0, .int .u64 0, .int .i64 0, .slice none 0 0, .int .u64 0, .slice none 0 0, .slice none 0 0, .int .u64 0, .int .u64 0]], []⟩ 8 (by kernel_rfl) (by kernel_rfl) (by kernel_rfl)
      (x := ([.agg [.lit (.int .u8 0), .lit (.int .i64 0), .agg [.lit (.int .u64 0), .lit (.int .i64 0)], .lit (.int .u16 0), .agg [.lit (.int .u64 0), .lit (.int .i64 0)], .agg [.lit (.int .u64 0), .lit (.int .i64 0)], .nil, .lit (.int .u64 0), .nil, .nil, .lit (.int .u64 0), .lit (.int .u64 0)]], [], [])) (by kernel_rfl) rfl (by kernel_rfl)) ?_
  intro W base args ds gs before hval hW _ hk _
  exact contract H enc W base args ds gs before hval hW hk

theorem over : Rows.FrameKeepsUptoSaid :=
  OpenClaim.holds_of_cond 7 Try.f7 rfl rfl rfl rfl rfl rfl rfl ⟨rfl, rfl, rfl, rfl, rfl⟩ rfl rfl rfl rfl rfl (by kernel_rfl) Try.func7 (by kernel_rfl)
    (of_decide_eq_true (by kernel_rfl)) (by unfold Func.isWrapper; first | (rw [if_pos (by decide +kernel)]; kernel_rfl) | (rw [if_neg (by decide +kernel)]; exact ⟨rfl, rfl⟩))
    (fun os started H enc _ I => lifted os started H enc I)

end Go.Proofs.Ytfemjbaadnjanaa.frameKeeps
namespace Go.Proofs.Ytfemjbaadnjanaa
theorem frameKeepsUpto_holds : Rows.FrameKeepsUptoSaid := frameKeeps.over
#print axioms frameKeepsUpto_holds
end Go.Proofs.Ytfemjbaadnjanaa
