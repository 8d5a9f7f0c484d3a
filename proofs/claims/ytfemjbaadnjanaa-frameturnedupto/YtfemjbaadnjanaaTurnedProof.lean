/-
  Proved: for every frame f and all numbers at, pattern and cut, FrameTurned(f, at, pattern, cut) returns true, where what f holds, counted each time it is reached, is of bulk at most 1048576: a frame's bytes with bits turned that stand within 32 are refused, and cut short they are read as the document reads them. Condition: that bound on what is handed in.
-/
import Derived.Test.YtfemjbaadnjanaaRows
import Derived.Test.YtfemjbaadnjanaaFDocT
import Derived.Test.YtfemjbaadnjanaaFAwake
import Derived.Test.YtfemjbaadnjanaaFSameF
import Derived.Test.YtfemjbaadnjanaaFGreat
import Derived.Test.YtfemjbaadnjanaaFArgs2
import Derived.JoinedCond
namespace Go.Proofs.Ytfemjbaadnjanaa
open Go.RowKit
set_option linter.unusedVariables false
set_option linter.unusedSimpArgs false

theorem opened_bad (zs : List UInt8) (h4 : 4 ≤ zs.length) (h : Cd.crcAll 4294967295 zs ≠ Cd.residue) : Cd.opened zs = (5, []) := by
  unfold Cd.opened
  rw [if_neg (by omega)]
  split
  · rename_i he
    refine absurd ?_ h
    have := Cd.crc_sealed (zs.take (zs.length - 4))
    rw [he, List.take_append_drop] at this
    exact this
  · rfl

/-- What the loop holds: so many bits are turned. -/
def Turned (ss zs : List UInt8) (L k pat i : Nat) : Prop :=
  zs.length = L ∧ Cd.crcAll 4294967295 zs = Cd.residue ^^^ Cd.crcBits (8 * L - k) (pat % 2 ^ i) ∧ (pat % 2 ^ i = 0 → zs = ss)
theorem Turned.skip {ss zs : List UInt8} {L k pat i : Nat} (h : Turned ss zs L k pat i) (hb : pat / 2 ^ i % 2 = 0) : Turned ss zs L k pat (i + 1) := by
  unfold Turned
  rw [Cd.mod_succ_zero pat i hb]
  exact h
theorem Turned.turn {ss zs : List UInt8} {L k pat i : Nat} (h : Turned ss zs L k pat i) (hb : pat / 2 ^ i % 2 = 1) (hk : k + i < 8 * L) (z : UInt8) (hz : z.toNat = (zs.getD ((k + i) / 8) 0).toNat ^^^ 2 ^ ((k + i) % 8)) : Turned ss (zs.set ((k + i) / 8) z) L k pat (i + 1) := by
  obtain ⟨h1, h2, h3⟩ := h
  have hm := Cd.mod_succ_one pat i hb
  refine ⟨by simpa using h1, ?_, ?_⟩
  · rw [Cd.crcAll_turn zs ((k + i) / 8) ((k + i) % 8) _ (by omega) (by omega) z hz, h2, hm, Cd.crcBits_xor, Nat.xor_assoc, h1]
    congr 2
    rw [← Cd.pow_ne_zero_shift (8 * L - k) i (by omega)]
    congr 1
    omega
  · intro h0
    exfalso
    rw [hm] at h0
    have hlt : pat % 2 ^ i < 2 ^ i := Nat.mod_lt _ (Nat.pow_pos (by omega))
    have e : pat % 2 ^ i = 2 ^ i := by
      have := congrArg (· ^^^ 2 ^ i) h0
      simp only [Nat.xor_assoc, Nat.xor_self, Nat.xor_zero, Nat.zero_xor] at this
      exact this
    omega
theorem Turned.start (xs : List UInt8) (k pat : Nat) : Turned (xs ++ Cd.le4 (Cd.crcSum xs)) (xs ++ Cd.le4 (Cd.crcSum xs)) (xs.length + 4) k pat 0 := by
  refine ⟨by rw [List.length_append, Cd.le4_len], ?_, fun _ => rfl⟩
  rw [Cd.crc_sealed, Nat.pow_zero, Nat.mod_one]
  have : ∀ N, Cd.crcBits N 0 = 0 := by
    intro N
    induction N with
    | zero => rfl
    | succ N ih => rw [Cd.crcBits, ih]; rfl
  rw [this, Nat.xor_zero]
/-- The end: nothing was turned, or it is seen. -/
theorem Turned.fin {ss zs : List UInt8} {L k pat i : Nat} (h : Turned ss zs L k pat i) (hi : i ≤ 32) (h4 : 4 ≤ L) : zs = ss ∨ Cd.opened zs = (5, []) := by
  obtain ⟨h1, h2, h3⟩ := h
  by_cases h0 : pat % 2 ^ i = 0
  · exact .inl (h3 h0)
  · right
    refine opened_bad zs (by omega) ?_
    rw [h2]
    intro hc
    have hp : 2 ^ i ≤ 2 ^ 32 := Nat.pow_le_pow_right (by omega) hi
    have hlt : pat % 2 ^ i < 4294967296 := by have := Nat.mod_lt pat (show 0 < 2 ^ i from Nat.pow_pos (by omega)); omega
    have e : Cd.crcBits (8 * L - k) (pat % 2 ^ i) = 0 := by
      have := congrArg (Cd.residue ^^^ ·) hc
      simp only [← Nat.xor_assoc, Nat.xor_self, Nat.zero_xor] at this
      exact this
    exact h0 (Cd.crcBits_zero _ _ hlt e)
end Go.Proofs.Ytfemjbaadnjanaa
namespace Go.Proofs.Ytfemjbaadnjanaa.frameTurned
open Go.ChangeShapes Go.WideShapes Go.ChangeAt Go.RowKit
set_option linter.unusedVariables false
set_option linter.unusedSimpArgs false

set_option maxRecDepth 100000 in
theorem slice33 (w : World) (ao : Option Addr) (L cap k : Nat) (hk : k ≤ cap) (hao : ∀ a, ao = some a → a.spot = none) : (Instr.slice 33 (.slice ao L cap) none (some (.int .i64 (k : Nat))) none).run Try.prog w = .ok (.slice ao k cap) w := by
  have hu : Try.prog.underlying 33 = some (.slice (Try.prog.elem 33)) := by kernel_rfl
  have hs : (sizeOf (Try.prog.elem 33)).run Try.prog w = .ok 1 w := by rfl
  rw [run_slice_h w 33 ao L cap hu .i64 (k : Nat) (by omega) (by omega), hs]
  simp only [Result.andThen_ok, sliced, Int.toNat_natCast, Nat.sub_zero, Nat.zero_mul]
  congr 2
  split
  · rfl
  · cases ao with
    | none => rfl
    | some a => simp [Addr.add]

set_option maxRecDepth 20000 in
set_option maxHeartbeats 4000000 in
theorem walk (w : World) (F : PF) (a : Fa) (h : FIn (fun _ => True) w F a) (ho : POk F) (ht : tot F ≤ 1048576) (at' : Nat) (hat : at' < 65536) (pat : Nat) (hpat : pat < 4294967296) (cut : Nat) (hcut : cut < 65536) :
    Calls Try.prog 5 #[fval F a, .int .u16 (at' : Nat), .int .u32 (pat : Nat), .int .u16 (cut : Nat)] w fun e w' => e = .returned (.bool true) ∧ Below w.heap.size w w' := by
  obtain ⟨w0, hw0, hu0, hb0⟩ := boxed w F a
  have HB : Hid (∀ V, Below w0.heap.size w0 V → Bf w.heap.size F a V) := fun V u => hb0.up u
  have HF : Hid (∀ V, Below w0.heap.size w0 V → FIn (fun _ => True) V F a) := fun V u => (h.up hu0.bl).up u
  have hgr := fun V (u : Below w0.heap.size w0 V) => great_any' _ V F a (HF.out V u) ht
  have henc := fun V (u : Below w0.heap.size w0 V) => encodeF_any (fun _ => True) V F a (HF.out V u) ho
  have hfm := fun V (u : Below w0.heap.size w0 V) => refForm7_any (fun _ => True) V F a (HF.out V u) ho.frm ho.kind
  have HO : Hid (POk F) := ho
  have HU : Hid (Below w.heap.size w w0) := hu0.bl
  have HU0 : Hid (Below w0.heap.size w0 w0) := Below.refl _ _
  obtain ⟨d0, d1, d2, d3, d4, d5, d6, d7, d8, d9, d10, d11, d12, d13, d14⟩ := hb0
  unfold fval fcells at *
  clear h ho hu0
  by_cases hg : 20000 < tot F
  · simp only [hg, decide_true] at hgr
    clear henc hfm hg ht
    go_enter Try.func5, Try.ntmps5
    go_wp2_with fail
    (try simp only [hw0])
    refine (hgr _ HU0.out).mono ?_
    rintro e w1 ⟨rfl, hu1⟩
    have hb1 := bl_step HU.out hu1.bl
    clear hgr d0 d1 d2 d3 d4 d5 d6 d7 d8 d9 d10 d11 d12 d13 d14 hu1
    go_wp2_with fail
    refine (awake_any _).mono ?_
    rintro e wz ⟨rfl, hbz⟩
    have hb02 := bl_step hb1 hbz
    go_wp2
    go_ret
    exact ⟨rfl, hb02⟩
  · have HL : Hid ((wire F).length + 4 ≤ 1048576) := by
      show _ ≤ _
      have := wire_le F
      omega
    simp only [hg, decide_false] at hgr
    clear hg ht
    go_enter Try.func5, Try.ntmps5
    go_wp2_with fail
    (try simp only [hw0])
    refine (hgr _ HU0.out).mono ?_
    rintro e w1 ⟨rfl, hu1⟩
    have hb1 : Below w0.heap.size w0 w1 := hu1.bl
    clear hgr d0 d1 d2 d3 d4 d5 d6 d7 d8 d9 d10 d11 d12 d13 d14 hu1
    go_wp2_with fail
    refine (awake_any _).mono ?_
    rintro e w2 ⟨rfl, hb2⟩
    have hb02 : Below w0.heap.size w0 w2 := bl_step hb1 hb2
    have hfm2 := hfm w2 hb02
    obtain ⟨d0, d1, d2, d3, d4, d5, d6, d7, d8, d9, d10, d11, d12, d13, d14⟩ := HB.out w2 hb02
    clear hb1 hb2 hfm
    go_wp2_with fail
    refine hfm2.mono ?_
    rintro e w3 ⟨rfl, hu3⟩
    have hb03 : Below w0.heap.size w0 w3 := bl_step hb02 hu3.bl
    clear hfm2 hb02 hu3 d0 d1 d2 d3 d4 d5 d6 d7 d8 d9 d10 d11 d12 d13 d14
    cases hr : rightF F with
    | false =>
      clear henc hr
      go_wp2_with fail
      refine (awake_any _).mono ?_
      rintro e wz ⟨rfl, hbz⟩
      have hbf := bl_step HU.out (bl_step hb03 hbz)
      go_wp2
      go_ret
      exact ⟨rfl, hbf⟩
    | true =>
      by_cases hp0 : pat = 0
      · subst hp0
        clear henc hr
        go_wp2_with fail
        refine (awake_any _).mono ?_
        rintro e wz ⟨rfl, hbz⟩
        have hbf := bl_step HU.out (bl_step hb03 hbz)
        go_wp2
        go_ret
        exact ⟨rfl, hbf⟩
      · have hpb : ((pat : Int) == 0) = false := by simp; omega
        have henc3 := henc w3 hb03
        obtain ⟨d0, d1, d2, d3, d4, d5, d6, d7, d8, d9, d10, d11, d12, d13, d14⟩ := HB.out w3 hb03
        clear henc
        go_wp2_with fail
        refine henc3.mono ?_
        rintro e w4 ⟨hans, hb34⟩
        unfold EncAns at hans
        rw [hr, if_neg (by simp), if_neg (by have := HL.out; omega)] at hans
        obtain ⟨v, rfl, hown⟩ := hans
        have hb04 : Below w0.heap.size w0 w4 := bl_step hb03 hb34
        have HB4 : Hid (Below w.heap.size w w4) := bl_step HU.out hb04
        obtain ⟨ao, cap, rfl, hrow, _⟩ := Cd.owns_row hown
        obtain ⟨pl, hpl⟩ : ∃ pl, (wire F).length + 4 = pl := ⟨_, rfl⟩
        rw [hpl] at hrow
        have hpl4 : 4 ≤ pl := by omega
        have hplM : pl ≤ 1048576 := by have := HL.out; omega
        have HSL : Hid ((sealB (wire F)).length = pl) := by show _ = _; rw [sealB_len]; exact hpl
        have HRW : Hid (∀ V, Below w4.heap.size w4 V → Cd.Row V ao pl cap (sealB (wire F))) := fun V u => hrow.below u (Nat.le_refl _)
        have hplc : pl ≤ cap := hrow.2.1
        obtain ⟨gp, gpo, hao, hcp⟩ := hrow.open (by omega)
        have hcells : ∀ (j : Nat) (u : Value), ((sealB (wire F)).map Cd.by8)[j]? = some u → w4.cell? ((⟨gp, gpo, none⟩ : Addr).add j) = some u := fun j u hj => by
          rw [List.getElem?_map] at hj
          obtain ⟨x, hx, rfl⟩ := Option.map_eq_some_iff.1 hj
          have hjl := (List.getElem?_eq_some_iff.1 hx).1
          rw [Addr.add_lit, hcp j (by have := HSL.out; omega)]
          simp [Cd.by8, List.getD, hx]
        have hsp : ∀ ad, ao = some ad → ad.spot = none := fun ad e => by rw [hao] at e; cases e; rfl
        obtain ⟨k, hk⟩ : ∃ k, k = at' % (8 * pl) := ⟨_, rfl⟩
        have hkl : k < 8 * pl := by rw [hk]; exact Nat.mod_lt _ (by omega)
        have hki : (at' : Int) % (8 * (pl : Int)) = (k : Int) := by rw [hk]; push_cast; rfl
        obtain ⟨nn, hnn⟩ : ∃ nn, nn = cut % pl := ⟨_, rfl⟩
        have hnl : nn < pl := by rw [hnn]; exact Nat.mod_lt _ (by omega)
        have hni : (cut : Int) % (pl : Int) = (nn : Int) := by rw [hnn]; push_cast; rfl
        have hsl := fun W => slice33 W ao pl cap nn (by omega) hsp
        have hz8 : ((8 * (pl : Int)) == 0) = false := by simp; omega
        have hzp : ((pl : Int) == 0) = false := by simp; omega
        have hst := Turned.start (wire F) k pat
        have hst' : Turned (sealB (wire F)) (sealB (wire F)) pl k pat 0 := by rw [← hpl]; exact hst
        (try simp only [hpl])
        subst hao
        clear hk hnn hst henc3 hown hrow hcp hr d0 d1 d2 d3 d4 d5 d6 d7 d8 d9 d10 d11 d12 d13 d14 hb34 hb03 hb04 hsp HO HU HU0 HB HF hw0 hpl
        go_wp2_with (first | (at_builtin; refine wpList_append_ow rfl _ _ rfl w4.heap.size w4 w4 (.slice none 0 0) [] rfl ?q1 ⟨gp, gpo, none⟩ pl cap (sealB (wire F)) rfl ?q2 ?q3 ?q4 ?_) | fail)
        case q1 => exact ⟨World.ownsRow_nil _ _ _ _, Below.refl _ _, Nat.le_refl _⟩
        case q2 => exact HSL.out
        case q3 => exact hcells
        case q4 => have := HSL.out; simp; omega
        intro v5 w5 how0
        have how : Ow w4.heap.size w4 w5 v5 (sealB (wire F)) := how0
        obtain ⟨ho1, hb45, _⟩ := how
        rw [HSL.out] at ho1
        obtain ⟨g, cq, hv5, hgB⟩ : ∃ g cq, v5 = .slice (some ⟨g, 0, none⟩) pl cq ∧ w4.heap.size ≤ g := by
          rcases ho1.2 with ⟨_, h0⟩ | ⟨g, cq, cur, hv, hg, _⟩
          · omega
          · exact ⟨g, cq, hv, hg⟩
        rw [hv5] at ho1
        have hcqm : cq ≤ 9223372036854775807 := by
          rcases ho1.2 with ⟨h0, _⟩ | ⟨g2, cq2, cur, hv, hg, _, _, hc2, _⟩
          · cases h0
          · obtain ⟨_, rfl⟩ : g = g2 ∧ cq = cq2 := by simpa using hv
            unfold maxLen at hc2
            omega
        subst hv5
        clear how0 hcells
        go_wp2_with fail
        (try simp only [hki])
        clear hki hz8
        obtain ⟨ao, hao⟩ : ∃ ao : Option Addr, some ⟨gp, gpo, none⟩ = ao := ⟨_, rfl⟩
        rw [hao] at HRW hsl
        (try rw [hao])
        go_loopw [13] (fun iv wr => ∃ (i : Nat) (zs : List UInt8), i ≤ 32 ∧ k + i ≤ 8 * pl ∧ iv = .int .i64 i ∧ Turned (sealB (wire F)) zs pl k pat i ∧ wr.ownsRow w4.heap.size 5 1 (.slice (some ⟨g, 0, none⟩) pl cq) pl (zs.map Cd.by8) ∧ Below w4.heap.size w4 wr) (fun iv _ => 32 - (intOf iv).toNat)
        case atStart => exact ⟨0, sealB (wire F), by omega, by omega, rfl, hst', ho1, hb45⟩
        case round =>
          obtain ⟨i, zs, hi, hki2, rfl, htu, hownr, hbr⟩ := hrel
          have HT : Hid (Turned (sealB (wire F)) zs pl k pat i) := htu
          have HZL : Hid (zs.length = pl) := htu.1
          clear htu hst' ho1 hb45
          by_cases hlt : i < 32 ∧ k + i < 8 * pl
          · obtain ⟨hi32, hkin⟩ := hlt
            obtain ⟨X, hX⟩ : ∃ X, X = pat / 2 ^ i := ⟨_, rfl⟩
            have hXl : X < 4294967296 := by have := Nat.div_le_self pat (2 ^ i); omega
            have hXi : (pat : Int) / 2 ^ i = (X : Int) := by rw [hX]; simp
            have HX : Hid (X = pat / 2 ^ i) := hX
            obtain ⟨q, hq⟩ : ∃ q, q = (k + i) / 8 := ⟨_, rfl⟩
            obtain ⟨b, hb⟩ : ∃ b, b = (k + i) % 8 := ⟨_, rfl⟩
            have hq0 : q < pl := by omega
            have hb8 : b < 8 := by omega
            have hqi : ((k : Int) + (i : Int)) / 8 = (q : Int) := by omega
            have hbi : ((k : Int) + (i : Int)) % 8 = (b : Int) := by omega
            have HQ : Hid (q = (k + i) / 8) := hq
            have HBB : Hid (b = (k + i) % 8) := hb
            obtain ⟨z0, hz0⟩ : ∃ z0, z0 = zs.getD q 0 := ⟨_, rfl⟩
            have hcell : wr.cell? ⟨g, q, none⟩ = some (.int .u8 (z0.toNat : Int)) := by
              rw [hownr.cellAt q (by omega), hz0]
              have hzl := HZL.out
              simp [Cd.by8, List.getElem?_eq_getElem (show q < zs.length by omega)]
            have hfr : wr.frozen? ⟨g, q, none⟩ = false := hownr.frozenAt q
            have HZ0 : Hid (z0 = zs.getD q 0) := hz0
            have hzu := Cd.u8_lt z0
            clear hX hq hb hz0 hsl hni hzp
            go_wp2
            · have hbt : (bits .and .u32 (X : Int) 1 == 1) = true := by assumption
              have hX2 : X % 2 = 1 := by
                have h1 := u32_and_nat X 1 hXl (by omega)
                rw [Nat.and_one_is_mod] at h1
                have h1' : bits .and .u32 (X : Int) 1 = ((X % 2 : Nat) : Int) := h1
                rw [h1', beq_iff_eq] at hbt
                omega
              obtain ⟨z1, hz1⟩ : ∃ z1, z1 = UInt8.ofNat (z0.toNat ^^^ 2 ^ b) := ⟨_, rfl⟩
              have hpb8 : 2 ^ b ≤ 2 ^ 7 := Nat.pow_le_pow_right (by omega) (by omega)
              have hxl : z0.toNat ^^^ 2 ^ b < 256 := Nat.xor_lt_two_pow (n := 8) (by omega) (by omega)
              have hz1n : z1.toNat = z0.toNat ^^^ 2 ^ b := by rw [hz1, Cd.ofNat_toNat _ hxl]
              have hval : bits .xor .u8 (z0.toNat : Int) (2 ^ b % 256) = (z1.toNat : Int) := by
                rw [show ((2 : Int) ^ b % 256) = ((2 ^ b : Nat) : Int) by
                  have : ((2 : Int) ^ b) = ((2 ^ b : Nat) : Int) := by simp
                  rw [this]
                  generalize 2 ^ b = y at hpb8
                  omega]
                rw [u8_xor_nat _ _ hzu (by omega), hz1n]
              have HTN : Hid (Turned (sealB (wire F)) (zs.set q z1) pl k pat (i + 1)) := by
                have := HT.out.turn (by rw [← HX.out]; exact hX2) hkin z1 (by rw [← HQ.out, ← HBB.out, ← HZ0.out]; exact hz1n)
                rw [← HQ.out] at this
                exact this
              have hst1 := (hownr.stored q (Cd.by8 z1)).1
              have HOW : Hid ((wr.setCell ⟨g, q, none⟩ (.int .u8 (z1.toNat : Int))).drew.ownsRow w4.heap.size 5 1 (.slice (some ⟨g, 0, none⟩) pl cq) pl ((zs.set q z1).map Cd.by8)) := by
                have e : (zs.map Cd.by8).set q (Cd.by8 z1) = (zs.set q z1).map Cd.by8 := (List.map_set).symm
                rw [e] at hst1
                exact hst1
              have HBE : Hid (Below w4.heap.size w4 (wr.setCell ⟨g, q, none⟩ (.int .u8 (z1.toNat : Int))).drew) := (hbr.setCell hgB _).drew
              have HV : Hid (bits .xor .u8 (z0.toNat : Int) (2 ^ b % 256) = (z1.toNat : Int)) := hval
              clear hst1 hval hz1n hz1 hpb8 hxl hbt
              go_region
              rw [HV.out]
              go_wp2
              go_roundw
              case rel => first | exact ⟨i + 1, zs.set q z1, by omega, by omega, by go_num, HTN.out, HOW.out, HBE.out⟩ | ((repeat apply Exists.intro); exact ⟨⟨i + 1, zs.set q z1, by omega, by omega, by go_num, HTN.out, HOW.out, HBE.out⟩, rfl⟩)
              case measure => simp [intOf]; omega
            · have hbt : (bits .and .u32 (X : Int) 1 == 1) = false := by assumption
              have hX2 : X % 2 = 0 := by
                have h1 := u32_and_nat X 1 hXl (by omega)
                rw [Nat.and_one_is_mod] at h1
                have h1' : bits .and .u32 (X : Int) 1 = ((X % 2 : Nat) : Int) := h1
                rw [h1', beq_eq_false_iff_ne] at hbt
                omega
              go_roundw
              case rel => first | exact ⟨i + 1, zs, by omega, by omega, by go_num, HT.out.skip (by rw [← HX.out]; exact hX2), hownr, hbr⟩ | ((repeat apply Exists.intro); exact ⟨⟨i + 1, zs, by omega, by omega, by go_num, HT.out.skip (by rw [← HX.out]; exact hX2), hownr, hbr⟩, rfl⟩)
              case measure => simp [intOf]; omega
          · have HFIN : Hid (zs = sealB (wire F) ∨ Cd.opened zs = (5, [])) := HT.out.fin hi (by omega)
            have hrowz : Cd.Row wr (some ⟨g, 0, none⟩) pl cq zs := by
              obtain ⟨ao', cap', hv', hrow', _⟩ := Cd.owns_row hownr
              cases hv'
              exact hrow'
            have hb45r := hbr
            clear hbr HT
            by_cases hi32 : i < 32
            · have hkn : ¬ (k : Int) + i < 8 * (pl : Int) := by omega
              have hi32I : (i : Int) < 32 := by omega
              clear hlt
              as_aux_lemma =>
              have hsz5 := hb45r.size
              have hdec := decodeF_any wr (some ⟨g, 0, none⟩) pl cq zs hrowz (by omega)
              have HRZ : Hid (∀ V, Below wr.heap.size wr V → Cd.Row V (some ⟨g, 0, none⟩) pl cq zs) := fun V u => hrowz.below u (Nat.le_refl _)
              have HRP : Hid (∀ V, Below wr.heap.size wr V → Cd.Row V ao pl cap (sealB (wire F))) := fun V u => (HRW.out wr hb45r).below u (Nat.le_refl _)
              clear hrowz hownr
              go_wp2_with fail
              refine hdec.mono ?_
              rintro e w7 ⟨hda, hb7⟩
              unfold DecAns at hda
              have HC1 : Hid (∀ C G, decF 9223372036854775807 zs = (C, G) → zs = sealB (wire F) ∨ C = 5) := fun C G hd => HFIN.out.imp id (fun h5 => by
                have hzl := HZL.out
                unfold decF at hd
                rw [if_neg (by omega), h5] at hd
                simp at hd
                exact hd.1.symm)
              obtain ⟨CG, hCG⟩ : ∃ CG, decF 9223372036854775807 zs = CG := ⟨_, rfl⟩
              rw [hCG] at hda
              obtain ⟨C1, G1⟩ := CG
              have HC2 := HC1.out C1 G1 hCG
              simp only at hda
              obtain ⟨a1, rfl, -⟩ := hda
              unfold fval fcells
              obtain ⟨w8, hw8⟩ : ∃ w8, w7.alloc (.cells #[.int .u8 (G1.kind : Nat), .int .i64 G1.frm, .int .u64 (G1.idN : Nat), .int .i64 G1.idP, .int .u16 (G1.set : Nat), .int .u64 (G1.curN : Nat), .int .i64 G1.curP, .int .u64 (G1.promN : Nat), .int .i64 G1.promP, .slice a1.so G1.st.length a1.sc, .int .u64 (G1.base : Nat), .slice a1.mo G1.ms.length a1.mc, .slice a1.io G1.it.length a1.ic, .int .u64 (G1.ack : Nat), .int .u64 (G1.safe : Nat)] 30) = w8 := ⟨_, rfl⟩
              have hb8 : Below wr.heap.size wr w8 := bl_step hb7 (by rw [← hw8]; exact bl1 _ _)
              have HW8 : Hid (w7.alloc (.cells #[.int .u8 (G1.kind : Nat), .int .i64 G1.frm, .int .u64 (G1.idN : Nat), .int .i64 G1.idP, .int .u16 (G1.set : Nat), .int .u64 (G1.curN : Nat), .int .i64 G1.curP, .int .u64 (G1.promN : Nat), .int .i64 G1.promP, .slice a1.so G1.st.length a1.sc, .int .u64 (G1.base : Nat), .slice a1.mo G1.ms.length a1.mc, .slice a1.io G1.it.length a1.ic, .int .u64 (G1.ack : Nat), .int .u64 (G1.safe : Nat)] 30) = w8) := hw8
              have hrp8 := (HRP.out w8 hb8).takeCap nn (by omega)
              have hdec2 := decodeF_any w8 ao nn cap _ hrp8 (by omega)
              have HRN : Hid (∀ V, Below w8.heap.size w8 V → Cd.Row V ao nn cap ((sealB (wire F)).take nn)) := fun V u => hrp8.below u (Nat.le_refl _)
              clear hdec hw8 hb7 hCG HC1 hrp8
              go_wp2_with fail
              (try rw [HW8.out])
              refine hdec2.mono ?_
              rintro e w9 ⟨hda, hb9⟩
              unfold DecAns at hda
              rw [decF_any 9223372036854775807 1073741824 _ (by omega) (by omega) (by omega) (by omega)] at hda
              have href := fun V (u : Below w8.heap.size w8 V) => refDecF_any V ao nn cap _ (HRN.out V u) (by omega)
              unfold RefAns at href
              generalize decF 1073741824 ((sealB (wire F)).take nn) = CF at *
              obtain ⟨C2, G2⟩ := CF
              simp only at hda href
              obtain ⟨a2, rfl, hin9⟩ := hda
              unfold fval fcells
              obtain ⟨w10, hw10⟩ : ∃ w10, w9.alloc (.cells #[.int .u8 (G2.kind : Nat), .int .i64 G2.frm, .int .u64 (G2.idN : Nat), .int .i64 G2.idP, .int .u16 (G2.set : Nat), .int .u64 (G2.curN : Nat), .int .i64 G2.curP, .int .u64 (G2.promN : Nat), .int .i64 G2.promP, .slice a2.so G2.st.length a2.sc, .int .u64 (G2.base : Nat), .slice a2.mo G2.ms.length a2.mc, .slice a2.io G2.it.length a2.ic, .int .u64 (G2.ack : Nat), .int .u64 (G2.safe : Nat)] 30) = w10 := ⟨_, rfl⟩
              have hb910 : Below w9.heap.size w9 w10 := by rw [← hw10]; exact bl1 _ _
              have hbf : Bf w9.heap.size G2 a2 w10 := by rw [← hw10]; exact bf_new w9 G2 a2 30
              have hin10 := hin9.up hb910
              have HW10 : Hid (w9.alloc (.cells #[.int .u8 (G2.kind : Nat), .int .i64 G2.frm, .int .u64 (G2.idN : Nat), .int .i64 G2.idP, .int .u16 (G2.set : Nat), .int .u64 (G2.curN : Nat), .int .i64 G2.curP, .int .u64 (G2.promN : Nat), .int .i64 G2.promP, .slice a2.so G2.st.length a2.sc, .int .u64 (G2.base : Nat), .slice a2.mo G2.ms.length a2.mc, .slice a2.io G2.it.length a2.ic, .int .u64 (G2.ack : Nat), .int .u64 (G2.safe : Nat)] 30) = w10) := hw10
              have hb810 : Below w8.heap.size w8 w10 := bl_step hb9 hb910
              have href10 := href w10 hb810
              clear hdec2 href hin9 hw10 hb9 hb910 HW8
              go_wp2_with fail
              rw [HW10.out]
              refine href10.mono ?_
              rintro e w11 ⟨⟨a3, rfl, hin11⟩, hb11⟩
              unfold fval fcells
              obtain ⟨w12, hw12⟩ : ∃ w12, w11.alloc (.cells #[.int .u8 (G2.kind : Nat), .int .i64 G2.frm, .int .u64 (G2.idN : Nat), .int .i64 G2.idP, .int .u16 (G2.set : Nat), .int .u64 (G2.curN : Nat), .int .i64 G2.curP, .int .u64 (G2.promN : Nat), .int .i64 G2.promP, .slice a3.so G2.st.length a3.sc, .int .u64 (G2.base : Nat), .slice a3.mo G2.ms.length a3.mc, .slice a3.io G2.it.length a3.ic, .int .u64 (G2.ack : Nat), .int .u64 (G2.safe : Nat)] 30) = w12 := ⟨_, rfl⟩
              have hb1112 : Below w11.heap.size w11 w12 := by rw [← hw12]; exact bl1 _ _
              have hbg : Bf w11.heap.size G2 a3 w12 := by rw [← hw12]; exact bf_new w11 G2 a3 30
              have hb1012 : Below w10.heap.size w10 w12 := bl_step hb11 hb1112
              have hbf12 := hbf.up hb1012
              have hsame := sameF_true _ _ w12 G2 a2 a3 (hin10.up hb1012) (hin11.up hb1112)
              unfold fval fcells at hsame
              have hbr12 : Below wr.heap.size wr w12 := bl_step hb8 (bl_step hb810 hb1012)
              have hcvq := Cd.conv_row (HRZ.out w12 hbr12)
              have hcvp := Cd.conv_row (HRP.out w12 hbr12)
              have hbeq := Cd.str_beq zs (sealB (wire F))
              have HE : Hid (Below w.heap.size w w12) := bl_step HB4.out (bl_step hb45r hbr12)
              have HW12 : Hid (w11.alloc (.cells #[.int .u8 (G2.kind : Nat), .int .i64 G2.frm, .int .u64 (G2.idN : Nat), .int .i64 G2.idP, .int .u16 (G2.set : Nat), .int .u64 (G2.curN : Nat), .int .i64 G2.curP, .int .u64 (G2.promN : Nat), .int .i64 G2.promP, .slice a3.so G2.st.length a3.sc, .int .u64 (G2.base : Nat), .slice a3.mo G2.ms.length a3.mc, .slice a3.io G2.it.length a3.ic, .int .u64 (G2.ack : Nat), .int .u64 (G2.safe : Nat)] 30) = w12) := hw12
              obtain ⟨x0, x1, x2, x3, x4, x5, x6, x7, x8, x9, x10, x11, x12, x13, x14⟩ := hbf12
              obtain ⟨y0, y1, y2, y3, y4, y5, y6, y7, y8, y9, y10, y11, y12, y13, y14⟩ := hbg
              obtain ⟨sq, hsq⟩ : ∃ sq, Cd.str zs = sq := ⟨_, rfl⟩
              obtain ⟨sp, hsp⟩ : ∃ sp, Cd.str (sealB (wire F)) = sp := ⟨_, rfl⟩
              rw [hsq] at hcvq hbeq
              rw [hsp] at hcvp hbeq
              clear href10 hin11 hin10 hbf hb11 hb1112 hb1012 hb810 hb8 HW10 hsq hsp hbr12 HRZ HRP HRN hsz5 hb45r HRW HZL HFIN
              by_cases hzs : zs = sealB (wire F)
              · rw [decide_eq_true hzs] at hbeq
                clear HC2 hzs
                go_wp2_with fail
                (try rw [HW12.out])
                (try simp only [hw12])
                refine hsame.mono ?_
                rintro e w13 ⟨rfl, hu13⟩
                have hb13 := bl_step HE.out hu13.bl
                clear hsame hu13 hw12 hcvq hcvp x0 x1 x2 x3 x4 x5 x6 x7 x8 x9 x10 x11 x12 x13 x14 y0 y1 y2 y3 y4 y5 y6 y7 y8 y9 y10 y11 y12 y13 y14
                go_wp2
                go_ret
                exact ⟨rfl, hb13⟩
              · rw [decide_eq_false hzs] at hbeq
                obtain rfl : C1 = 5 := HC2.resolve_left hzs
                clear HC2 hzs
                go_wp2_with fail
                (try rw [HW12.out])
                (try simp only [hw12])
                refine hsame.mono ?_
                rintro e w13 ⟨rfl, hu13⟩
                have hb13 := bl_step HE.out hu13.bl
                clear hsame hu13 hw12 hcvq hcvp x0 x1 x2 x3 x4 x5 x6 x7 x8 x9 x10 x11 x12 x13 x14 y0 y1 y2 y3 y4 y5 y6 y7 y8 y9 y10 y11 y12 y13 y14
                go_wp2
                go_ret
                exact ⟨rfl, hb13⟩
            · have hi32I : ¬ (i : Int) < 32 := by omega
              clear hlt
              as_aux_lemma =>
              have hsz5 := hb45r.size
              have hdec := decodeF_any wr (some ⟨g, 0, none⟩) pl cq zs hrowz (by omega)
              have HRZ : Hid (∀ V, Below wr.heap.size wr V → Cd.Row V (some ⟨g, 0, none⟩) pl cq zs) := fun V u => hrowz.below u (Nat.le_refl _)
              have HRP : Hid (∀ V, Below wr.heap.size wr V → Cd.Row V ao pl cap (sealB (wire F))) := fun V u => (HRW.out wr hb45r).below u (Nat.le_refl _)
              clear hrowz hownr
              go_wp2_with fail
              refine hdec.mono ?_
              rintro e w7 ⟨hda, hb7⟩
              unfold DecAns at hda
              have HC1 : Hid (∀ C G, decF 9223372036854775807 zs = (C, G) → zs = sealB (wire F) ∨ C = 5) := fun C G hd => HFIN.out.imp id (fun h5 => by
                have hzl := HZL.out
                unfold decF at hd
                rw [if_neg (by omega), h5] at hd
                simp at hd
                exact hd.1.symm)
              obtain ⟨CG, hCG⟩ : ∃ CG, decF 9223372036854775807 zs = CG := ⟨_, rfl⟩
              rw [hCG] at hda
              obtain ⟨C1, G1⟩ := CG
              have HC2 := HC1.out C1 G1 hCG
              simp only at hda
              obtain ⟨a1, rfl, -⟩ := hda
              unfold fval fcells
              obtain ⟨w8, hw8⟩ : ∃ w8, w7.alloc (.cells #[.int .u8 (G1.kind : Nat), .int .i64 G1.frm, .int .u64 (G1.idN : Nat), .int .i64 G1.idP, .int .u16 (G1.set : Nat), .int .u64 (G1.curN : Nat), .int .i64 G1.curP, .int .u64 (G1.promN : Nat), .int .i64 G1.promP, .slice a1.so G1.st.length a1.sc, .int .u64 (G1.base : Nat), .slice a1.mo G1.ms.length a1.mc, .slice a1.io G1.it.length a1.ic, .int .u64 (G1.ack : Nat), .int .u64 (G1.safe : Nat)] 30) = w8 := ⟨_, rfl⟩
              have hb8 : Below wr.heap.size wr w8 := bl_step hb7 (by rw [← hw8]; exact bl1 _ _)
              have HW8 : Hid (w7.alloc (.cells #[.int .u8 (G1.kind : Nat), .int .i64 G1.frm, .int .u64 (G1.idN : Nat), .int .i64 G1.idP, .int .u16 (G1.set : Nat), .int .u64 (G1.curN : Nat), .int .i64 G1.curP, .int .u64 (G1.promN : Nat), .int .i64 G1.promP, .slice a1.so G1.st.length a1.sc, .int .u64 (G1.base : Nat), .slice a1.mo G1.ms.length a1.mc, .slice a1.io G1.it.length a1.ic, .int .u64 (G1.ack : Nat), .int .u64 (G1.safe : Nat)] 30) = w8) := hw8
              have hrp8 := (HRP.out w8 hb8).takeCap nn (by omega)
              have hdec2 := decodeF_any w8 ao nn cap _ hrp8 (by omega)
              have HRN : Hid (∀ V, Below w8.heap.size w8 V → Cd.Row V ao nn cap ((sealB (wire F)).take nn)) := fun V u => hrp8.below u (Nat.le_refl _)
              clear hdec hw8 hb7 hCG HC1 hrp8
              go_wp2_with fail
              (try rw [HW8.out])
              refine hdec2.mono ?_
              rintro e w9 ⟨hda, hb9⟩
              unfold DecAns at hda
              rw [decF_any 9223372036854775807 1073741824 _ (by omega) (by omega) (by omega) (by omega)] at hda
              have href := fun V (u : Below w8.heap.size w8 V) => refDecF_any V ao nn cap _ (HRN.out V u) (by omega)
              unfold RefAns at href
              generalize decF 1073741824 ((sealB (wire F)).take nn) = CF at *
              obtain ⟨C2, G2⟩ := CF
              simp only at hda href
              obtain ⟨a2, rfl, hin9⟩ := hda
              unfold fval fcells
              obtain ⟨w10, hw10⟩ : ∃ w10, w9.alloc (.cells #[.int .u8 (G2.kind : Nat), .int .i64 G2.frm, .int .u64 (G2.idN : Nat), .int .i64 G2.idP, .int .u16 (G2.set : Nat), .int .u64 (G2.curN : Nat), .int .i64 G2.curP, .int .u64 (G2.promN : Nat), .int .i64 G2.promP, .slice a2.so G2.st.length a2.sc, .int .u64 (G2.base : Nat), .slice a2.mo G2.ms.length a2.mc, .slice a2.io G2.it.length a2.ic, .int .u64 (G2.ack : Nat), .int .u64 (G2.safe : Nat)] 30) = w10 := ⟨_, rfl⟩
              have hb910 : Below w9.heap.size w9 w10 := by rw [← hw10]; exact bl1 _ _
              have hbf : Bf w9.heap.size G2 a2 w10 := by rw [← hw10]; exact bf_new w9 G2 a2 30
              have hin10 := hin9.up hb910
              have HW10 : Hid (w9.alloc (.cells #[.int .u8 (G2.kind : Nat), .int .i64 G2.frm, .int .u64 (G2.idN : Nat), .int .i64 G2.idP, .int .u16 (G2.set : Nat), .int .u64 (G2.curN : Nat), .int .i64 G2.curP, .int .u64 (G2.promN : Nat), .int .i64 G2.promP, .slice a2.so G2.st.length a2.sc, .int .u64 (G2.base : Nat), .slice a2.mo G2.ms.length a2.mc, .slice a2.io G2.it.length a2.ic, .int .u64 (G2.ack : Nat), .int .u64 (G2.safe : Nat)] 30) = w10) := hw10
              have hb810 : Below w8.heap.size w8 w10 := bl_step hb9 hb910
              have href10 := href w10 hb810
              clear hdec2 href hin9 hw10 hb9 hb910 HW8
              go_wp2_with fail
              rw [HW10.out]
              refine href10.mono ?_
              rintro e w11 ⟨⟨a3, rfl, hin11⟩, hb11⟩
              unfold fval fcells
              obtain ⟨w12, hw12⟩ : ∃ w12, w11.alloc (.cells #[.int .u8 (G2.kind : Nat), .int .i64 G2.frm, .int .u64 (G2.idN : Nat), .int .i64 G2.idP, .int .u16 (G2.set : Nat), .int .u64 (G2.curN : Nat), .int .i64 G2.curP, .int .u64 (G2.promN : Nat), .int .i64 G2.promP, .slice a3.so G2.st.length a3.sc, .int .u64 (G2.base : Nat), .slice a3.mo G2.ms.length a3.mc, .slice a3.io G2.it.length a3.ic, .int .u64 (G2.ack : Nat), .int .u64 (G2.safe : Nat)] 30) = w12 := ⟨_, rfl⟩
              have hb1112 : Below w11.heap.size w11 w12 := by rw [← hw12]; exact bl1 _ _
              have hbg : Bf w11.heap.size G2 a3 w12 := by rw [← hw12]; exact bf_new w11 G2 a3 30
              have hb1012 : Below w10.heap.size w10 w12 := bl_step hb11 hb1112
              have hbf12 := hbf.up hb1012
              have hsame := sameF_true _ _ w12 G2 a2 a3 (hin10.up hb1012) (hin11.up hb1112)
              unfold fval fcells at hsame
              have hbr12 : Below wr.heap.size wr w12 := bl_step hb8 (bl_step hb810 hb1012)
              have hcvq := Cd.conv_row (HRZ.out w12 hbr12)
              have hcvp := Cd.conv_row (HRP.out w12 hbr12)
              have hbeq := Cd.str_beq zs (sealB (wire F))
              have HE : Hid (Below w.heap.size w w12) := bl_step HB4.out (bl_step hb45r hbr12)
              have HW12 : Hid (w11.alloc (.cells #[.int .u8 (G2.kind : Nat), .int .i64 G2.frm, .int .u64 (G2.idN : Nat), .int .i64 G2.idP, .int .u16 (G2.set : Nat), .int .u64 (G2.curN : Nat), .int .i64 G2.curP, .int .u64 (G2.promN : Nat), .int .i64 G2.promP, .slice a3.so G2.st.length a3.sc, .int .u64 (G2.base : Nat), .slice a3.mo G2.ms.length a3.mc, .slice a3.io G2.it.length a3.ic, .int .u64 (G2.ack : Nat), .int .u64 (G2.safe : Nat)] 30) = w12) := hw12
              obtain ⟨x0, x1, x2, x3, x4, x5, x6, x7, x8, x9, x10, x11, x12, x13, x14⟩ := hbf12
              obtain ⟨y0, y1, y2, y3, y4, y5, y6, y7, y8, y9, y10, y11, y12, y13, y14⟩ := hbg
              obtain ⟨sq, hsq⟩ : ∃ sq, Cd.str zs = sq := ⟨_, rfl⟩
              obtain ⟨sp, hsp⟩ : ∃ sp, Cd.str (sealB (wire F)) = sp := ⟨_, rfl⟩
              rw [hsq] at hcvq hbeq
              rw [hsp] at hcvp hbeq
              clear href10 hin11 hin10 hbf hb11 hb1112 hb1012 hb810 hb8 HW10 hsq hsp hbr12 HRZ HRP HRN hsz5 hb45r HRW HZL HFIN
              by_cases hzs : zs = sealB (wire F)
              · rw [decide_eq_true hzs] at hbeq
                clear HC2 hzs
                go_wp2_with fail
                (try rw [HW12.out])
                (try simp only [hw12])
                refine hsame.mono ?_
                rintro e w13 ⟨rfl, hu13⟩
                have hb13 := bl_step HE.out hu13.bl
                clear hsame hu13 hw12 hcvq hcvp x0 x1 x2 x3 x4 x5 x6 x7 x8 x9 x10 x11 x12 x13 x14 y0 y1 y2 y3 y4 y5 y6 y7 y8 y9 y10 y11 y12 y13 y14
                go_wp2
                go_ret
                exact ⟨rfl, hb13⟩
              · rw [decide_eq_false hzs] at hbeq
                obtain rfl : C1 = 5 := HC2.resolve_left hzs
                clear HC2 hzs
                go_wp2_with fail
                (try rw [HW12.out])
                (try simp only [hw12])
                refine hsame.mono ?_
                rintro e w13 ⟨rfl, hu13⟩
                have hb13 := bl_step HE.out hu13.bl
                clear hsame hu13 hw12 hcvq hcvp x0 x1 x2 x3 x4 x5 x6 x7 x8 x9 x10 x11 x12 x13 x14 y0 y1 y2 y3 y4 y5 y6 y7 y8 y9 y10 y11 y12 y13 y14
                go_wp2
                go_ret
                exact ⟨rfl, hb13⟩

set_option maxRecDepth 20000 in
theorem contract (H : Type) (enc : TypeId × Value → H) (W : World) (base : Nat) (args : Array Value) (ds gs : List (DataW H)) (before : List MemPlace)
    (hval : ∀ (j : Nat) t v, Try.f5.params[j]? = some t → args[j]? = some v → Value.okWide Try.prog W .any base t v)
    (hW : DataW.Whole enc Try.prog Try.f5.params.toList Rows.frameTurnedSpec.vars false W args.toList ds gs before) (hk : Rows.uptoSmall H (ds ++ gs) = true) :
    Calls Try.prog 5 args W fun e W' => ∃ v, e = .returned v ∧ Rows.frameTurnedSpec.post enc Try.prog Try.f5 false true false false W args v W' := by
  have hW' := hW
  obtain ⟨p, q, hA0, hV, rfl, hfz, hnd⟩ := hW
  have hA : DataW.TrodAll enc Try.prog W 0 (fun _ => true) true Try.f5.params.toList args.toList ds p := hA0
  rw [Try.params5] at hA hval
  obtain ⟨v0, vs0, d0, ds0, p0, q0, hargs0, rfl, rfl, h0, r0⟩ := trodAll_cons hA
  obtain ⟨v1, vs1, d1, ds1, p1, q1, hargs1, rfl, rfl, h1, r1⟩ := trodAll_cons r0
  obtain ⟨v2, vs2, d2, ds2, p2, q2, hargs2, rfl, rfl, h2, r2⟩ := trodAll_cons r1
  obtain ⟨v3, vs3, d3, ds3, p3, q3, hargs3, rfl, rfl, h3, r3⟩ := trodAll_cons r2
  obtain ⟨rfl, rfl, rfl⟩ := trodAll_nil r3
  obtain rfl : args = #[v0, v1, v2, v3] := by cases args; simp_all
  obtain ⟨rfl, rfl⟩ := trodVars_none hV
  have hbl : Rows.uptoBulkAll ([d0, d1, d2, d3] ++ []) ≤ 1048576 := of_decide_eq_true hk
  have hf0 : Rows.uptoBulk d0 ≤ 1048576 := Nat.le_trans (part_le (by simp)) hbl
  have k0 := h0
  have lt0 : ∀ x ∈ p0, x.block < W.heap.size := by obtain ⟨m, hm⟩ := k0; exact DataW.trod_lt m _ _ _ hm
  obtain ⟨F0, a0, rfl, hin0, hok0, ht0⟩ := open_frame (hval 0 30 v0 rfl rfl) h0 hf0
  obtain ⟨b1, rfl, rfl, rfl, w1⟩ := open_int Try.underlying25 (hval 1 25 v1 rfl rfl) h1
  obtain ⟨n1, rfl, hn1⟩ := u16_of_wf w1
  obtain ⟨b2, rfl, rfl, rfl, w2⟩ := open_int Try.underlying45 (hval 2 45 v2 rfl rfl) h2
  obtain ⟨n2, rfl, hn2⟩ := u32_of_wf w2
  obtain ⟨b3, rfl, rfl, rfl, w3⟩ := open_int Try.underlying25 (hval 3 25 v3 rfl rfl) h3
  obtain ⟨n3, rfl, hn3⟩ := u16_of_wf w3
  clear hA0 hbl
  refine (walk W F0 a0 hin0 hok0 ht0 n1 hn1 n2 hn2 n3 hn3).mono fun e W' ⟨he, bel⟩ => ?_
  subst he
  exact ⟨_, rfl, _, _, _, [], _, [], hW', trodAll_mk1 (shut_bool Try.underlying4 _), (trodAll_cons_mk (Below.trod laidOut (by kernel_rfl) (of_decide_eq_true (by kernel_rfl)) k0 bel lt0) (trodAll_cons_mk (shut_int Try.underlying25 w1) (trodAll_cons_mk (shut_int Try.underlying45 w2) (trodAll_cons_mk (shut_int Try.underlying25 w3) trodAll_mk0)))), rfl, bel.frame _, fun h => by cases h⟩

set_option maxRecDepth 100000 in
theorem lifted (os : Os) (started : os.Started) (H : Type) (enc : TypeId × Value → H) (I : Stop.Interp) :
    ReturnsInHanded {} Try.checked os 5 .any ((Rows.OpenSpec.upto Rows.frameTurnedSpec).pre6 enc Try.prog Try.f5 Rows.frameTurnedUptoRow.domain false) (((Rows.OpenSpec.upto Rows.frameTurnedSpec).at I).post enc Try.prog Try.f5 false true false false) := by
  refine returnsInHanded_of_cond (C := Try.checked) (s := Rows.OpenSpec.upto Rows.frameTurnedSpec) (k := Rows.uptoSmall) rfl own started (by kernel_rfl) Try.func5
    (OpenSpec.witness (enc := enc) (C := Try.checked) (s := Rows.OpenSpec.upto Rows.frameTurnedSpec) (k := Rows.uptoSmall) rfl false ⟨#[], #[.agg #[.int .u8 0, .int .i64 0, .int .u64 0, .int .i64 0, .int .u16 0, .int .u64 0, .int .i64 0, .int .u64 0, .int .i64 0, .slice none 0 0, .int .u64 0, .slice none 0 0, .slice none 0 0, .int .u64 0, .int .u64 0], .int .u16 0, .int .u32 0, .int .u16 0], []⟩ 8 (by kernel_rfl) (by kernel_rfl) (by kernel_rfl)
      (x := ([.agg [.lit (.int .u8 0), .lit (.int .i64 0), .agg [.lit (.int .u64 0), .lit (.int .i64 0)], .lit (.int .u16 0), .agg [.lit (.int .u64 0), .lit (.int .i64 0)], .agg [.lit (.int .u64 0), .lit (.int .i64 0)], .nil, .lit (.int .u64 0), .nil, .nil, .lit (.int .u64 0), .lit (.int .u64 0)], .lit (.int .u16 0), .lit (.int .u32 0), .lit (.int .u16 0)], [], [])) (by kernel_rfl) rfl (by kernel_rfl)) ?_
  intro W base args ds gs before hval hW _ hk _
  exact contract H enc W base args ds gs before hval hW hk

theorem over : Rows.FrameTurnedUptoSaid :=
  OpenClaim.holds_of_cond 5 Try.f5 rfl rfl rfl rfl rfl rfl rfl ⟨rfl, rfl, rfl, rfl, rfl⟩ rfl rfl rfl rfl rfl (by kernel_rfl) Try.func5 (by kernel_rfl)
    (of_decide_eq_true (by kernel_rfl)) (by unfold Func.isWrapper; first | (rw [if_pos (by decide +kernel)]; kernel_rfl) | (rw [if_neg (by decide +kernel)]; exact ⟨rfl, rfl⟩))
    (fun os started H enc _ I => lifted os started H enc I)

end Go.Proofs.Ytfemjbaadnjanaa.frameTurned
namespace Go.Proofs.Ytfemjbaadnjanaa
theorem frameTurnedUpto_holds : Rows.FrameTurnedUptoSaid := frameTurned.over
#print axioms frameTurnedUpto_holds
end Go.Proofs.Ytfemjbaadnjanaa
