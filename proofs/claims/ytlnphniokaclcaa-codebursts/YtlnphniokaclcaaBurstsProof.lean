/-
  Proved: for all bytes p, every at and every pattern, CodeBursts(p, at, pattern) returns true: sealed bytes of which some bits that stand within 32 are turned are refused. No condition.
-/
import Derived.Test.YtlnphniokaclcaaArgs
import Derived.Test.YtlnphniokaclcaaRefOpen
import Derived.Test.YtlnphniokaclcaaBurstMath
import Derived.BigRegion
namespace Go.Proofs.Ytlnphniokaclcaa.codeBursts
open Go.ChangeShapes Go.WideShapes Go.ChangeAt Go.RowKit
open Go.ChangeMaps (open_string shut_string)
set_option linter.unusedVariables false
set_option linter.unusedSimpArgs false

theorem open_all (w : World) (ao : Option Addr) (n cap : Nat) (xs : List UInt8) (h : Row w ao n cap xs) (hr : n ≤ 140737488355328) :
    Calls Try.prog 29 #[.slice ao n cap] w fun e w' => ∃ vo vc, e = .returned (.tuple #[.slice vo (opened xs).2.length vc, .int .i64 ((opened xs).1 : Nat)]) ∧ Row w' vo (opened xs).2.length vc (opened xs).2 ∧ Below w.heap.size w w' := by
  by_cases h4 : 4 ≤ n
  · refine (open_long w ao n cap xs h h4 hr).mono ?_
    rintro e w' ⟨v, rfl, hown, hb⟩
    obtain ⟨vo, vc, rfl, hrow, _⟩ := owns_row hown
    exact ⟨vo, vc, rfl, hrow, hb⟩
  · refine (open_short w ao n cap (by omega) h.2.2.1).mono ?_
    rintro e w' ⟨rfl, rfl⟩
    have : opened xs = (3, []) := by unfold opened; rw [if_pos (by have := h.1; omega)]
    rw [this]
    exact ⟨none, 0, rfl, ⟨rfl, Nat.le_refl _, by unfold maxLen; omega, fun _ => ⟨rfl, rfl⟩, fun a ha => (by cases ha)⟩, Below.refl _ _⟩
theorem opened_seal (xs : List UInt8) : opened (xs ++ le4 (crcSum xs)) = (0, xs) := by
  have hl : (xs ++ le4 (crcSum xs)).length = xs.length + 4 := by rw [List.length_append, le4_len]
  unfold opened
  rw [if_neg (by omega), hl, show xs.length + 4 - 4 = xs.length by omega, List.take_left, List.drop_left, if_pos rfl]
theorem opened_bad (zs : List UInt8) (h4 : 4 ≤ zs.length) (h : crcAll 4294967295 zs ≠ residue) : opened zs = (5, []) := by
  unfold opened
  rw [if_neg (by omega)]
  split
  · rename_i he
    refine absurd ?_ h
    have := crc_sealed (zs.take (zs.length - 4))
    rw [he, List.take_append_drop] at this
    exact this
  · rfl

/-- What the loop holds: so many bits are turned. -/
def Turned (ss zs : List UInt8) (L k pat i : Nat) : Prop :=
  zs.length = L ∧ crcAll 4294967295 zs = residue ^^^ crcBits (8 * L - k) (pat % 2 ^ i) ∧ (pat % 2 ^ i = 0 → zs = ss)
theorem Turned.skip {ss zs : List UInt8} {L k pat i : Nat} (h : Turned ss zs L k pat i) (hb : pat / 2 ^ i % 2 = 0) : Turned ss zs L k pat (i + 1) := by
  unfold Turned
  rw [mod_succ_zero pat i hb]
  exact h
theorem Turned.turn {ss zs : List UInt8} {L k pat i : Nat} (h : Turned ss zs L k pat i) (hb : pat / 2 ^ i % 2 = 1) (hk : k + i < 8 * L) (z : UInt8) (hz : z.toNat = (zs.getD ((k + i) / 8) 0).toNat ^^^ 2 ^ ((k + i) % 8)) : Turned ss (zs.set ((k + i) / 8) z) L k pat (i + 1) := by
  obtain ⟨h1, h2, h3⟩ := h
  have hm := mod_succ_one pat i hb
  refine ⟨by simpa using h1, ?_, ?_⟩
  · rw [crcAll_turn zs ((k + i) / 8) ((k + i) % 8) _ (by omega) (by omega) z hz, h2, hm, crcBits_xor, Nat.xor_assoc, h1]
    congr 2
    rw [← pow_ne_zero_shift (8 * L - k) i (by omega)]
    congr 1
    omega
  · intro h0
    exfalso
    rw [hm] at h0
    have hlt : pat % 2 ^ i < 2 ^ i := Nat.mod_lt _ (Nat.pow_pos (by omega))
    have e : pat % 2 ^ i = 2 ^ i := by
      have := congrArg (· ^^^ 2 ^ i) h0
      simp only [Nat.xor_assoc, Nat.xor_self, Nat.xor_zero, Nat.zero_xor] at this
      exact this
    omega
theorem Turned.start (xs : List UInt8) (k pat : Nat) : Turned (xs ++ le4 (crcSum xs)) (xs ++ le4 (crcSum xs)) (xs.length + 4) k pat 0 := by
  refine ⟨by rw [List.length_append, le4_len], ?_, fun _ => rfl⟩
  rw [crc_sealed, Nat.pow_zero, Nat.mod_one]
  have : ∀ N, crcBits N 0 = 0 := by
    intro N
    induction N with
    | zero => rfl
    | succ N ih => rw [crcBits, ih]; rfl
  rw [this, Nat.xor_zero]
/-- The end: nothing was turned, or it is seen. -/
theorem Turned.fin {ss zs : List UInt8} {L k pat i : Nat} (h : Turned ss zs L k pat i) (hi : i ≤ 32) (h4 : 4 ≤ L) : zs = ss ∨ opened zs = (5, []) := by
  obtain ⟨h1, h2, h3⟩ := h
  by_cases h0 : pat % 2 ^ i = 0
  · exact .inl (h3 h0)
  · right
    refine opened_bad zs (by omega) ?_
    rw [h2]
    intro hc
    have hp : 2 ^ i ≤ 2 ^ 32 := Nat.pow_le_pow_right (by omega) hi
    have hlt : pat % 2 ^ i < 4294967296 := by have := Nat.mod_lt pat (show 0 < 2 ^ i from Nat.pow_pos (by omega)); omega
    have e : crcBits (8 * L - k) (pat % 2 ^ i) = 0 := by
      have := congrArg (residue ^^^ ·) hc
      simp only [← Nat.xor_assoc, Nat.xor_self, Nat.zero_xor] at this
      exact this
    exact h0 (crcBits_zero _ _ hlt e)

set_option maxRecDepth 10000 in
set_option maxHeartbeats 1000000 in
theorem walk_none (w : World) (ao : Option Addr) (n cap : Nat) (at' pat : Int) (hc : n ≤ cap) (hm : cap ≤ maxLen) (h0 : pat = 0 ∨ (pat ≠ 0 ∧ 8000 < n)) :
    Calls Try.prog 7 #[.slice ao n cap, .int .u16 at', .int .u32 pat] w fun e w' => e = .returned (.bool true) ∧ Below w.heap.size w w' := by
  unfold maxLen at hm
  rcases h0 with rfl | ⟨hp, h8⟩
  · go_enter Try.func7, Try.ntmps7
    go_wp2_with fail
    refine (awake_any _).mono ?_
    rintro e w1 ⟨rfl, hb1⟩
    go_wp2_with fail
    refine (awake_any _).mono ?_
    rintro e w2 ⟨rfl, hb2⟩
    go_wp2
    go_ret
    exact ⟨rfl, hb1.trans (hb2.mono hb1.size)⟩
  · have hpb : (pat == 0) = false := by simpa using hp
    clear hp
    go_enter Try.func7, Try.ntmps7
    go_wp2_with fail
    refine (awake_any _).mono ?_
    rintro e w1 ⟨rfl, hb1⟩
    go_wp2_with fail
    refine (awake_any _).mono ?_
    rintro e w2 ⟨rfl, hb2⟩
    go_wp2
    go_ret
    exact ⟨rfl, hb1.trans (hb2.mono hb1.size)⟩

set_option maxRecDepth 10000 in
set_option maxHeartbeats 2000000 in
theorem walk (w : World) (ao : Option Addr) (n cap : Nat) (xs : List UInt8) (h : Row w ao n cap xs) (at' pat : Nat) (ha : at' < 65536) (hp : pat < 4294967296) (hp0 : 0 < pat) (h8 : n ≤ 8000) :
    Calls Try.prog 7 #[.slice ao n cap, .int .u16 (at' : Int), .int .u32 (pat : Int)] w fun e w' => e = .returned (.bool true) ∧ Below w.heap.size w w' := by
  have hlen := h.1
  have hle := h.2.1
  have hm := h.2.2.1
  unfold maxLen at hm
  have hpb : ((pat : Int) == 0) = false := by rw [beq_eq_false_iff_ne]; omega
  obtain ⟨k, hk⟩ : ∃ k, k = at' % (8 * (n + 4)) := ⟨_, rfl⟩
  have hkl : k < 8 * (n + 4) := by rw [hk]; exact Nat.mod_lt _ (by omega)
  have hki : (at' : Int) % (8 * ((n : Int) + 4)) = (k : Int) := by
    rw [hk, show (8 * ((n : Int) + 4)) = ((8 * (n + 4) : Nat) : Int) by simp]
    exact (Int.natCast_emod at' (8 * (n + 4))).symm
  clear hk
  have hst := Turned.start xs k pat
  rw [hlen] at hst
  go_enter Try.func7, Try.ntmps7
  go_wp2_with fail
  refine (awake_any _).mono ?_
  rintro e w1 ⟨rfl, hb1⟩
  have hs1 := hb1.size
  have h1 := h.below hb1 (Nat.le_refl _)
  go_wp2_with fail
  refine (seal_any _ _ _ _ _ h1 (by omega)).mono ?_
  rintro e w2 ⟨v2, rfl, hown2, hb2⟩
  have hs2 := hb2.size
  have hbw2 : Below w.heap.size w w2 := hb1.trans (hb2.mono hs1)
  obtain ⟨ss, hss⟩ : ∃ ss, ss = xs ++ le4 (crcSum xs) := ⟨_, rfl⟩
  rw [← hss] at hown2 hst
  have hown : w2.ownsRow w.heap.size 5 1 v2 (n + 4) (ss.map by8) := owns_mono hown2 hs1
  rcases hown.2 with ⟨_, h0⟩ | ⟨g, cq, cur, hv, hg, _, hc1, hc2, _, _⟩
  · omega
  rw [hv] at hown ⊢
  unfold maxLen at hc2
  have HSS : Hid (ss = xs ++ le4 (crcSum xs)) := hss
  clear hown2 hv hss
  go_wp2
  rw [hki]
  clear hki
  go_loopw [9] (fun iv wr => ∃ (i : Nat) (zs : List UInt8), i ≤ 32 ∧ k + i ≤ 8 * (n + 4) ∧ iv = .int .i64 i ∧ Turned ss zs (n + 4) k pat i ∧ wr.ownsRow w.heap.size 5 1 (.slice (some ⟨g, 0, none⟩) (n + 4) cq) (n + 4) (zs.map by8) ∧ Below w.heap.size w wr) (fun iv _ => 32 - (intOf iv).toNat)
  case atStart => exact ⟨0, ss, by omega, by omega, rfl, hst, hown, hbw2⟩
  case round =>
    obtain ⟨i, zs, hi, hki2, rfl, htu, hownr, hbr⟩ := hrel
    have HT : Hid (Turned ss zs (n + 4) k pat i) := htu
    have hzl : zs.length = n + 4 := htu.1
    have HZL : Hid (zs.length = n + 4) := hzl
    clear htu hst hown hzl
    by_cases hlt : i < 32 ∧ k + i < 8 * (n + 4)
    · obtain ⟨hi32, hkin⟩ := hlt
      obtain ⟨X, hX⟩ : ∃ X, X = pat / 2 ^ i := ⟨_, rfl⟩
      have hXl : X < 4294967296 := by have := Nat.div_le_self pat (2 ^ i); omega
      have hXi : (pat : Int) / 2 ^ i = (X : Int) := by rw [hX]; simp
      have HX : Hid (X = pat / 2 ^ i) := hX
      obtain ⟨q, hq⟩ : ∃ q, q = (k + i) / 8 := ⟨_, rfl⟩
      obtain ⟨b, hb⟩ : ∃ b, b = (k + i) % 8 := ⟨_, rfl⟩
      have hq0 : q < n + 4 := by omega
      have hb8 : b < 8 := by omega
      have hqi : ((k : Int) + (i : Int)) / 8 = (q : Int) := by omega
      have hbi : ((k : Int) + (i : Int)) % 8 = (b : Int) := by omega
      have HQ : Hid (q = (k + i) / 8) := hq
      have HB : Hid (b = (k + i) % 8) := hb
      obtain ⟨z0, hz0⟩ : ∃ z0, z0 = zs.getD q 0 := ⟨_, rfl⟩
      have hcell : wr.cell? ⟨g, q, none⟩ = some (.int .u8 (z0.toNat : Int)) := by
        rw [hownr.cellAt q (by omega), hz0]
        have hzl := HZL.out
        simp [by8, List.getElem?_eq_getElem (show q < zs.length by omega)]
      have hfr : wr.frozen? ⟨g, q, none⟩ = false := hownr.frozenAt q
      have HZ0 : Hid (z0 = zs.getD q 0) := hz0
      have hzu := u8_lt z0
      clear hX hq hb hz0
      go_wp2
      · have hbt : (bits .and .u32 (X : Int) 1 == 1) = true := by assumption
        have hX2 : X % 2 = 1 := by
          have h1 := u32_and_nat X 1 hXl (by omega)
          rw [Nat.and_one_is_mod] at h1
          have h1' : bits .and .u32 (X : Int) 1 = ((X % 2 : Nat) : Int) := h1
          rw [h1', beq_iff_eq] at hbt
          omega
        obtain ⟨z1, hz1⟩ : ∃ z1, z1 = UInt8.ofNat (z0.toNat ^^^ 2 ^ b) := ⟨_, rfl⟩
        have hpb8 : 2 ^ b ≤ 2 ^ 7 := Nat.pow_le_pow_right (by omega) (by omega)
        have hxl : z0.toNat ^^^ 2 ^ b < 256 := Nat.xor_lt_two_pow (n := 8) (by omega) (by omega)
        have hz1n : z1.toNat = z0.toNat ^^^ 2 ^ b := by rw [hz1, ofNat_toNat _ hxl]
        have hval : bits .xor .u8 (z0.toNat : Int) (2 ^ b % 256) = (z1.toNat : Int) := by
          rw [show ((2 : Int) ^ b % 256) = ((2 ^ b : Nat) : Int) by
            have : ((2 : Int) ^ b) = ((2 ^ b : Nat) : Int) := by simp
            rw [this]
            generalize 2 ^ b = y at hpb8
            omega]
          rw [u8_xor_nat _ _ hzu (by omega), hz1n]
        have HTN : Hid (Turned ss (zs.set q z1) (n + 4) k pat (i + 1)) := by
          have := HT.out.turn (by rw [← HX.out]; exact hX2) hkin z1 (by rw [← HQ.out, ← HB.out, ← HZ0.out]; exact hz1n)
          rw [← HQ.out] at this
          exact this
        have hst1 := (hownr.stored q (by8 z1)).1
        have HOW : Hid ((wr.setCell ⟨g, q, none⟩ (.int .u8 (z1.toNat : Int))).drew.ownsRow w.heap.size 5 1 (.slice (some ⟨g, 0, none⟩) (n + 4) cq) (n + 4) ((zs.set q z1).map by8)) := by
          have e : (zs.map by8).set q (by8 z1) = (zs.set q z1).map by8 := (List.map_set).symm
          rw [e] at hst1
          exact hst1
        have HBE : Hid (Below w.heap.size w (wr.setCell ⟨g, q, none⟩ (.int .u8 (z1.toNat : Int))).drew) := (hbr.setCell hg _).drew
        have HV : Hid (bits .xor .u8 (z0.toNat : Int) (2 ^ b % 256) = (z1.toNat : Int)) := hval
        clear hst1 hval hz1n hz1 hpb8 hxl hbt
        go_region
        rw [HV.out]
        go_wp2
        go_roundw
        case rel => exact ⟨i + 1, zs.set q z1, by omega, by omega, by go_num, HTN.out, HOW.out, HBE.out⟩
        case measure => simp [intOf]; omega
      · have hbt : (bits .and .u32 (X : Int) 1 == 1) = false := by assumption
        have hX2 : X % 2 = 0 := by
          have h1 := u32_and_nat X 1 hXl (by omega)
          rw [Nat.and_one_is_mod] at h1
          have h1' : bits .and .u32 (X : Int) 1 = ((X % 2 : Nat) : Int) := h1
          rw [h1', beq_eq_false_iff_ne] at hbt
          omega
        go_roundw
        case rel => first | exact ⟨i + 1, zs, by omega, by omega, by go_num, HT.out.skip (by rw [← HX.out]; exact hX2), hownr, hbr⟩ | ((repeat apply Exists.intro); exact ⟨⟨i + 1, zs, by omega, by omega, by go_num, HT.out.skip (by rw [← HX.out]; exact hX2), hownr, hbr⟩, rfl⟩)
        case measure => simp [intOf]; omega
    · have hfin := HT.out.fin hi (by omega)
      have hrowz : Row wr (some ⟨g, 0, none⟩) (n + 4) cq zs := by
        obtain ⟨ao', cap', hv', hrow', _⟩ := owns_row hownr
        cases hv'
        exact hrow'
      have hop := open_all _ _ _ _ _ hrowz (by omega)
      have hs := hbr.size
      have hxr := h.below hbr (Nat.le_refl _)
      rcases hfin with rfl | h5
      · have ho : opened zs = (0, xs) := by rw [HSS.out]; exact opened_seal xs
        rw [ho] at hop
        simp only [hlen] at hop
        clear ho HT HZL hxr
        by_cases hi32 : i < 32
        · have hkn : ¬ k + i < 8 * (n + 4) := by omega
          clear hlt
          go_wp2_with fail
          refine hop.mono ?_
          rintro e w5 ⟨vo, vc, rfl, hrow5, hb5⟩
          have hb50 : Below w.heap.size w w5.drew := (hbr.trans (hb5.mono hs)).drew
          have hcs : ∀ wx, Below w5.heap.size w5 wx → (convert 22 9 (.slice (some ⟨g, 0, none⟩) (n + 4) cq)).run Try.prog wx = .ok (.string (str zs)) wx := fun wx hb => conv_row ((hrowz.below hb5 (Nat.le_refl _)).below hb (Nat.le_refl _))
          have hbd : Below w5.heap.size w5 w5.drew := (Below.refl _ _).drew
          have hseal := seal_any w5.drew ao n cap xs (h.below hb50 (Nat.le_refl _)) (by omega)
          rw [← HSS.out] at hseal
          clear hrow5
          go_wp2
          refine wp_region_noPanic ?_
          refine wp_region_held_drew (S := fun wx => (convert 22 9 (.slice (some ⟨g, 0, none⟩) (n + 4) cq)).run Try.prog wx = .ok (.string (str zs)) wx) (by kernel_rfl) (hcs _ hbd) (fun hHeld => ?_)
          refine take_first 0 (v := ?_) rfl (by kernel_rfl) (by kernel_rfl) (by kernel_rfl) (fun _ _ _ h => h) (Or.inl ⟨by rfl, by intro wx hSw; (try dsimp only at hSw); go_simp; try with_reducible rfl⟩) (by assumption) ?_
          (try simp only [Act.put, List.setIfInBounds_toArray, List.set_cons_zero, List.set_cons_succ])
          refine take_first 1 (v := ?_) rfl (by kernel_rfl) (by kernel_rfl) (by kernel_rfl) (fun _ _ _ h => h) (Or.inl ⟨by rfl, by intro wx hSw; (try dsimp only at hSw); go_simp; try with_reducible rfl⟩) (by assumption) ?_
          (try simp only [Act.put, List.setIfInBounds_toArray, List.set_cons_zero, List.set_cons_succ])
          refine take_first 2 (v := ?_) rfl (by kernel_rfl) (by kernel_rfl) (by kernel_rfl) (fun _ _ _ h => h) (Or.inl ⟨by rfl, by intro wx hSw; (try dsimp only at hSw); go_simp; try with_reducible rfl⟩) (by assumption) ?_
          (try simp only [Act.put, List.setIfInBounds_toArray, List.set_cons_zero, List.set_cons_succ])
          refine take_first 3 (v := ?_) rfl (by kernel_rfl) (by kernel_rfl) (by kernel_rfl) (fun _ _ _ h => h) (Or.inl ⟨by rfl, by intro wx hSw; (try dsimp only at hSw); go_simp; try with_reducible rfl⟩) (by assumption) ?_
          (try simp only [Act.put, List.setIfInBounds_toArray, List.set_cons_zero, List.set_cons_succ])
          refine take_first 4 (v := ?_) rfl (by kernel_rfl) (by kernel_rfl) (by kernel_rfl) (fun _ _ _ h => h) (Or.inl ⟨by rfl, by intro wx hSw; (try dsimp only at hSw); go_simp; try with_reducible rfl⟩) (by assumption) ?_
          (try simp only [Act.put, List.setIfInBounds_toArray, List.set_cons_zero, List.set_cons_succ])
          refine take_first 5 (v := ?_) rfl (by kernel_rfl) (by kernel_rfl) (by kernel_rfl) (fun _ _ _ h => h) (Or.inl ⟨by rfl, by intro wx hSw; (try dsimp only at hSw); go_simp; try with_reducible rfl⟩) (by assumption) ?_
          (try simp only [Act.put, List.setIfInBounds_toArray, List.set_cons_zero, List.set_cons_succ])
          refine comes_up 6 rfl (by kernel_rfl) (fun K hK => ?_)
          go_simp
          refine hseal.mono ?_
          rintro e w6 ⟨v6, rfl, hown6, hb6⟩
          have hb60 : Below w5.heap.size w5 w6 := hbd.trans hb6
          have hbw6 : Below w.heap.size w w6 := hb50.trans (hb6.mono hb50.size)
          obtain ⟨ao6, cap6, hv6, hrow6, _⟩ := owns_row hown6
          rw [hv6]
          have hc6 := conv_row hrow6
          clear hown6 hrow6 hv6
          go_wp2_with fail
          refine hK.out _ _ (hcs _ hb60) (fun hHeld => ?_)
          clear hK K
          (try simp only [Act.put, List.setIfInBounds_toArray, List.set_cons_zero, List.set_cons_succ])
          refine comes_up 7 rfl (by kernel_rfl) (fun K hK => ?_)
          go_simp
          refine hK.out _ _ (hcs _ hb60) (fun hHeld => ?_)
          clear hK K
          (try simp only [Act.put, List.setIfInBounds_toArray, List.set_cons_zero, List.set_cons_succ])
          refine take_first 8 (v := ?_) rfl (by kernel_rfl) (by kernel_rfl) (by kernel_rfl) (fun _ _ _ h => h) (Or.inl ⟨by rfl, by intro wx hSw; (try dsimp only at hSw); go_simp; try with_reducible rfl⟩) (by assumption) ?_
          (try simp only [Act.put, List.setIfInBounds_toArray, List.set_cons_zero, List.set_cons_succ])
          refine take_first 9 (v := ?_) rfl (by kernel_rfl) (by kernel_rfl) (by kernel_rfl) (fun _ _ _ h => h) (Or.inl ⟨by rfl, by intro wx hSw; (try dsimp only at hSw); go_simp; try with_reducible rfl⟩) (by assumption) ?_
          (try simp only [Act.put, List.setIfInBounds_toArray, List.set_cons_zero, List.set_cons_succ])
          refine take_first 10 (v := ?_) rfl (by kernel_rfl) (by kernel_rfl) (by kernel_rfl) (fun _ _ _ h => h) (Or.inl ⟨by rfl, by intro wx hSw; (try dsimp only at hSw); go_simp; try with_reducible rfl⟩) (by assumption) ?_
          (try simp only [Act.put, List.setIfInBounds_toArray, List.set_cons_zero, List.set_cons_succ])
          refine wpAnyH_done (by kernel_rfl) ?_ _
          refine NoPanic.normal ?_
          go_wp2
          go_ret
          exact ⟨rfl, hbw6⟩
        · clear hlt
          go_wp2_with fail
          refine hop.mono ?_
          rintro e w5 ⟨vo, vc, rfl, hrow5, hb5⟩
          have hb50 : Below w.heap.size w w5.drew := (hbr.trans (hb5.mono hs)).drew
          have hcs : ∀ wx, Below w5.heap.size w5 wx → (convert 22 9 (.slice (some ⟨g, 0, none⟩) (n + 4) cq)).run Try.prog wx = .ok (.string (str zs)) wx := fun wx hb => conv_row ((hrowz.below hb5 (Nat.le_refl _)).below hb (Nat.le_refl _))
          have hbd : Below w5.heap.size w5 w5.drew := (Below.refl _ _).drew
          have hseal := seal_any w5.drew ao n cap xs (h.below hb50 (Nat.le_refl _)) (by omega)
          rw [← HSS.out] at hseal
          clear hrow5
          go_wp2
          refine wp_region_noPanic ?_
          refine wp_region_held_drew (S := fun wx => (convert 22 9 (.slice (some ⟨g, 0, none⟩) (n + 4) cq)).run Try.prog wx = .ok (.string (str zs)) wx) (by kernel_rfl) (hcs _ hbd) (fun hHeld => ?_)
          refine take_first 0 (v := ?_) rfl (by kernel_rfl) (by kernel_rfl) (by kernel_rfl) (fun _ _ _ h => h) (Or.inl ⟨by rfl, by intro wx hSw; (try dsimp only at hSw); go_simp; try with_reducible rfl⟩) (by assumption) ?_
          (try simp only [Act.put, List.setIfInBounds_toArray, List.set_cons_zero, List.set_cons_succ])
          refine take_first 1 (v := ?_) rfl (by kernel_rfl) (by kernel_rfl) (by kernel_rfl) (fun _ _ _ h => h) (Or.inl ⟨by rfl, by intro wx hSw; (try dsimp only at hSw); go_simp; try with_reducible rfl⟩) (by assumption) ?_
          (try simp only [Act.put, List.setIfInBounds_toArray, List.set_cons_zero, List.set_cons_succ])
          refine take_first 2 (v := ?_) rfl (by kernel_rfl) (by kernel_rfl) (by kernel_rfl) (fun _ _ _ h => h) (Or.inl ⟨by rfl, by intro wx hSw; (try dsimp only at hSw); go_simp; try with_reducible rfl⟩) (by assumption) ?_
          (try simp only [Act.put, List.setIfInBounds_toArray, List.set_cons_zero, List.set_cons_succ])
          refine take_first 3 (v := ?_) rfl (by kernel_rfl) (by kernel_rfl) (by kernel_rfl) (fun _ _ _ h => h) (Or.inl ⟨by rfl, by intro wx hSw; (try dsimp only at hSw); go_simp; try with_reducible rfl⟩) (by assumption) ?_
          (try simp only [Act.put, List.setIfInBounds_toArray, List.set_cons_zero, List.set_cons_succ])
          refine take_first 4 (v := ?_) rfl (by kernel_rfl) (by kernel_rfl) (by kernel_rfl) (fun _ _ _ h => h) (Or.inl ⟨by rfl, by intro wx hSw; (try dsimp only at hSw); go_simp; try with_reducible rfl⟩) (by assumption) ?_
          (try simp only [Act.put, List.setIfInBounds_toArray, List.set_cons_zero, List.set_cons_succ])
          refine take_first 5 (v := ?_) rfl (by kernel_rfl) (by kernel_rfl) (by kernel_rfl) (fun _ _ _ h => h) (Or.inl ⟨by rfl, by intro wx hSw; (try dsimp only at hSw); go_simp; try with_reducible rfl⟩) (by assumption) ?_
          (try simp only [Act.put, List.setIfInBounds_toArray, List.set_cons_zero, List.set_cons_succ])
          refine comes_up 6 rfl (by kernel_rfl) (fun K hK => ?_)
          go_simp
          refine hseal.mono ?_
          rintro e w6 ⟨v6, rfl, hown6, hb6⟩
          have hb60 : Below w5.heap.size w5 w6 := hbd.trans hb6
          have hbw6 : Below w.heap.size w w6 := hb50.trans (hb6.mono hb50.size)
          obtain ⟨ao6, cap6, hv6, hrow6, _⟩ := owns_row hown6
          rw [hv6]
          have hc6 := conv_row hrow6
          clear hown6 hrow6 hv6
          go_wp2_with fail
          refine hK.out _ _ (hcs _ hb60) (fun hHeld => ?_)
          clear hK K
          (try simp only [Act.put, List.setIfInBounds_toArray, List.set_cons_zero, List.set_cons_succ])
          refine comes_up 7 rfl (by kernel_rfl) (fun K hK => ?_)
          go_simp
          refine hK.out _ _ (hcs _ hb60) (fun hHeld => ?_)
          clear hK K
          (try simp only [Act.put, List.setIfInBounds_toArray, List.set_cons_zero, List.set_cons_succ])
          refine take_first 8 (v := ?_) rfl (by kernel_rfl) (by kernel_rfl) (by kernel_rfl) (fun _ _ _ h => h) (Or.inl ⟨by rfl, by intro wx hSw; (try dsimp only at hSw); go_simp; try with_reducible rfl⟩) (by assumption) ?_
          (try simp only [Act.put, List.setIfInBounds_toArray, List.set_cons_zero, List.set_cons_succ])
          refine take_first 9 (v := ?_) rfl (by kernel_rfl) (by kernel_rfl) (by kernel_rfl) (fun _ _ _ h => h) (Or.inl ⟨by rfl, by intro wx hSw; (try dsimp only at hSw); go_simp; try with_reducible rfl⟩) (by assumption) ?_
          (try simp only [Act.put, List.setIfInBounds_toArray, List.set_cons_zero, List.set_cons_succ])
          refine take_first 10 (v := ?_) rfl (by kernel_rfl) (by kernel_rfl) (by kernel_rfl) (fun _ _ _ h => h) (Or.inl ⟨by rfl, by intro wx hSw; (try dsimp only at hSw); go_simp; try with_reducible rfl⟩) (by assumption) ?_
          (try simp only [Act.put, List.setIfInBounds_toArray, List.set_cons_zero, List.set_cons_succ])
          refine wpAnyH_done (by kernel_rfl) ?_ _
          refine NoPanic.normal ?_
          go_wp2
          go_ret
          exact ⟨rfl, hbw6⟩
      · rw [h5] at hop
        clear h5 HT HZL hxr
        by_cases hi32 : i < 32
        · have hkn : ¬ k + i < 8 * (n + 4) := by omega
          clear hlt
          go_wp2_with fail
          refine hop.mono ?_
          rintro e w5 ⟨vo, vc, rfl, hrow5, hb5⟩
          have hb50 : Below w.heap.size w w5.drew := (hbr.trans (hb5.mono hs)).drew
          clear hrow5
          go_wp2
          refine wp_region_noPanic ?_
          refine wp_region_held_drew (S := fun _ => True) (by kernel_rfl) trivial (fun hHeld => ?_)
          refine take_first 0 (v := ?_) rfl (by kernel_rfl) (by kernel_rfl) (by kernel_rfl) (fun _ _ _ h => h) (Or.inl ⟨by rfl, by intro wx hSw; (try dsimp only at hSw); go_simp; try with_reducible rfl⟩) (by assumption) ?_
          (try simp only [Act.put, List.setIfInBounds_toArray, List.set_cons_zero, List.set_cons_succ])
          refine take_first 1 (v := ?_) rfl (by kernel_rfl) (by kernel_rfl) (by kernel_rfl) (fun _ _ _ h => h) (Or.inl ⟨by rfl, by intro wx hSw; (try dsimp only at hSw); go_simp; try with_reducible rfl⟩) (by assumption) ?_
          (try simp only [Act.put, List.setIfInBounds_toArray, List.set_cons_zero, List.set_cons_succ])
          refine take_first 2 (v := ?_) rfl (by kernel_rfl) (by kernel_rfl) (by kernel_rfl) (fun _ _ _ h => h) (Or.inl ⟨by rfl, by intro wx hSw; (try dsimp only at hSw); go_simp; try with_reducible rfl⟩) (by assumption) ?_
          (try simp only [Act.put, List.setIfInBounds_toArray, List.set_cons_zero, List.set_cons_succ])
          refine take_first 3 (v := undef) rfl (by kernel_rfl) (by kernel_rfl) (by kernel_rfl) (fun _ _ _ h => h) (Or.inr ⟨by rfl, rfl⟩) (by assumption) ?_
          (try simp only [Act.put, List.setIfInBounds_toArray, List.set_cons_zero, List.set_cons_succ])
          refine take_first 4 (v := undef) rfl (by kernel_rfl) (by kernel_rfl) (by kernel_rfl) (fun _ _ _ h => h) (Or.inr ⟨by rfl, rfl⟩) (by assumption) ?_
          (try simp only [Act.put, List.setIfInBounds_toArray, List.set_cons_zero, List.set_cons_succ])
          refine take_first 5 (v := undef) rfl (by kernel_rfl) (by kernel_rfl) (by kernel_rfl) (fun _ _ _ h => h) (Or.inr ⟨by rfl, rfl⟩) (by assumption) ?_
          (try simp only [Act.put, List.setIfInBounds_toArray, List.set_cons_zero, List.set_cons_succ])
          refine take_first 6 (v := undef) rfl (by kernel_rfl) (by kernel_rfl) (by kernel_rfl) (fun _ _ _ h => h) (Or.inr ⟨by rfl, rfl⟩) (by assumption) ?_
          (try simp only [Act.put, List.setIfInBounds_toArray, List.set_cons_zero, List.set_cons_succ])
          refine take_first 7 (v := undef) rfl (by kernel_rfl) (by kernel_rfl) (by kernel_rfl) (fun _ _ _ h => h) (Or.inr ⟨by rfl, rfl⟩) (by assumption) ?_
          (try simp only [Act.put, List.setIfInBounds_toArray, List.set_cons_zero, List.set_cons_succ])
          refine take_first 8 (v := undef) rfl (by kernel_rfl) (by kernel_rfl) (by kernel_rfl) (fun _ _ _ h => h) (Or.inr ⟨by rfl, rfl⟩) (by assumption) ?_
          (try simp only [Act.put, List.setIfInBounds_toArray, List.set_cons_zero, List.set_cons_succ])
          refine take_first 9 (v := ?_) rfl (by kernel_rfl) (by kernel_rfl) (by kernel_rfl) (fun _ _ _ h => h) (Or.inl ⟨by rfl, by intro wx hSw; (try dsimp only at hSw); go_simp; try with_reducible rfl⟩) (by assumption) ?_
          (try simp only [Act.put, List.setIfInBounds_toArray, List.set_cons_zero, List.set_cons_succ])
          refine take_first 10 (v := ?_) rfl (by kernel_rfl) (by kernel_rfl) (by kernel_rfl) (fun _ _ _ h => h) (Or.inl ⟨by rfl, by intro wx hSw; (try dsimp only at hSw); go_simp; try with_reducible rfl⟩) (by assumption) ?_
          (try simp only [Act.put, List.setIfInBounds_toArray, List.set_cons_zero, List.set_cons_succ])
          refine wpAnyH_done (by kernel_rfl) ?_ _
          refine NoPanic.normal ?_
          go_wp2
          go_ret
          exact ⟨rfl, hb50⟩
        · clear hlt
          go_wp2_with fail
          refine hop.mono ?_
          rintro e w5 ⟨vo, vc, rfl, hrow5, hb5⟩
          have hb50 : Below w.heap.size w w5.drew := (hbr.trans (hb5.mono hs)).drew
          clear hrow5
          go_wp2
          refine wp_region_noPanic ?_
          refine wp_region_held_drew (S := fun _ => True) (by kernel_rfl) trivial (fun hHeld => ?_)
          refine take_first 0 (v := ?_) rfl (by kernel_rfl) (by kernel_rfl) (by kernel_rfl) (fun _ _ _ h => h) (Or.inl ⟨by rfl, by intro wx hSw; (try dsimp only at hSw); go_simp; try with_reducible rfl⟩) (by assumption) ?_
          (try simp only [Act.put, List.setIfInBounds_toArray, List.set_cons_zero, List.set_cons_succ])
          refine take_first 1 (v := ?_) rfl (by kernel_rfl) (by kernel_rfl) (by kernel_rfl) (fun _ _ _ h => h) (Or.inl ⟨by rfl, by intro wx hSw; (try dsimp only at hSw); go_simp; try with_reducible rfl⟩) (by assumption) ?_
          (try simp only [Act.put, List.setIfInBounds_toArray, List.set_cons_zero, List.set_cons_succ])
          refine take_first 2 (v := ?_) rfl (by kernel_rfl) (by kernel_rfl) (by kernel_rfl) (fun _ _ _ h => h) (Or.inl ⟨by rfl, by intro wx hSw; (try dsimp only at hSw); go_simp; try with_reducible rfl⟩) (by assumption) ?_
          (try simp only [Act.put, List.setIfInBounds_toArray, List.set_cons_zero, List.set_cons_succ])
          refine take_first 3 (v := undef) rfl (by kernel_rfl) (by kernel_rfl) (by kernel_rfl) (fun _ _ _ h => h) (Or.inr ⟨by rfl, rfl⟩) (by assumption) ?_
          (try simp only [Act.put, List.setIfInBounds_toArray, List.set_cons_zero, List.set_cons_succ])
          refine take_first 4 (v := undef) rfl (by kernel_rfl) (by kernel_rfl) (by kernel_rfl) (fun _ _ _ h => h) (Or.inr ⟨by rfl, rfl⟩) (by assumption) ?_
          (try simp only [Act.put, List.setIfInBounds_toArray, List.set_cons_zero, List.set_cons_succ])
          refine take_first 5 (v := undef) rfl (by kernel_rfl) (by kernel_rfl) (by kernel_rfl) (fun _ _ _ h => h) (Or.inr ⟨by rfl, rfl⟩) (by assumption) ?_
          (try simp only [Act.put, List.setIfInBounds_toArray, List.set_cons_zero, List.set_cons_succ])
          refine take_first 6 (v := undef) rfl (by kernel_rfl) (by kernel_rfl) (by kernel_rfl) (fun _ _ _ h => h) (Or.inr ⟨by rfl, rfl⟩) (by assumption) ?_
          (try simp only [Act.put, List.setIfInBounds_toArray, List.set_cons_zero, List.set_cons_succ])
          refine take_first 7 (v := undef) rfl (by kernel_rfl) (by kernel_rfl) (by kernel_rfl) (fun _ _ _ h => h) (Or.inr ⟨by rfl, rfl⟩) (by assumption) ?_
          (try simp only [Act.put, List.setIfInBounds_toArray, List.set_cons_zero, List.set_cons_succ])
          refine take_first 8 (v := undef) rfl (by kernel_rfl) (by kernel_rfl) (by kernel_rfl) (fun _ _ _ h => h) (Or.inr ⟨by rfl, rfl⟩) (by assumption) ?_
          (try simp only [Act.put, List.setIfInBounds_toArray, List.set_cons_zero, List.set_cons_succ])
          refine take_first 9 (v := ?_) rfl (by kernel_rfl) (by kernel_rfl) (by kernel_rfl) (fun _ _ _ h => h) (Or.inl ⟨by rfl, by intro wx hSw; (try dsimp only at hSw); go_simp; try with_reducible rfl⟩) (by assumption) ?_
          (try simp only [Act.put, List.setIfInBounds_toArray, List.set_cons_zero, List.set_cons_succ])
          refine take_first 10 (v := ?_) rfl (by kernel_rfl) (by kernel_rfl) (by kernel_rfl) (fun _ _ _ h => h) (Or.inl ⟨by rfl, by intro wx hSw; (try dsimp only at hSw); go_simp; try with_reducible rfl⟩) (by assumption) ?_
          (try simp only [Act.put, List.setIfInBounds_toArray, List.set_cons_zero, List.set_cons_succ])
          refine wpAnyH_done (by kernel_rfl) ?_ _
          refine NoPanic.normal ?_
          go_wp2
          go_ret
          exact ⟨rfl, hb50⟩

set_option maxRecDepth 100000 in
theorem lifted (os : Os) (started : os.Started) (H : Type) (enc : TypeId × Value → H) :
    ReturnsInHanded {} Try.checked os 7 .any (Rows.codeBurstsSpec.pre6 enc Try.prog Try.f7 Rows.codeBurstsRow.domain false) (Rows.codeBurstsSpec.post enc Try.prog Try.f7 false true false false) := by
  refine returnsInHanded_of_change_sized (C := Try.checked) own started (by kernel_rfl) Try.func7
    (ChangeSpec.witness6 (enc := enc) (C := Try.checked) false ⟨#[], #[.slice none 0 0, .int .u16 0, .int .u32 0], []⟩ 8 (by kernel_rfl) (by kernel_rfl) (by kernel_rfl) (by kernel_rfl)) ?_
  intro W base args ds gs before hval0 hW hcnd hsz0 _
  have hsz : (DataW.weightsEach Try.prog (Try.f7.params.toList ++ Rows.codeBurstsSpec.plain.varTypes Try.prog) (ds ++ gs)).all (· ≤ reachBytes) = true := hsz0
  have hval : ∀ (j : Nat) t v, Try.f7.params[j]? = some t → args[j]? = some v → Value.okWide Try.prog W .any base t v := hval0
  have hW' := hW
  obtain ⟨p, q, hA0, hV, rfl, hfz, hnd⟩ := hW
  have hA : DataW.TrodAll enc Try.prog W 0 (fun _ => true) true Try.f7.params.toList args.toList ds p := hA0
  rw [Try.params7] at hA hval hsz
  obtain ⟨v0, vs0, d0, ds0, p0, q0, hargs, rfl, rfl, h0, r0⟩ := trodAll_cons hA
  obtain ⟨v1, vs1, d1, ds1, p1, q1, rfl, rfl, rfl, h1, r1⟩ := trodAll_cons r0
  obtain ⟨v2, vs2, d2, ds2, p2, q2, rfl, rfl, rfl, h2, r2⟩ := trodAll_cons r1
  obtain ⟨rfl, rfl, rfl⟩ := trodAll_nil r2
  obtain rfl : args = #[v0, v1, v2] := by cases args; simp_all
  obtain ⟨rfl, rfl⟩ := trodVars_none hV
  obtain ⟨a0, len0, cap0, rfl⟩ := okWide_slice Try.underlying22 (hval 0 22 v0 rfl rfl)
  have k0 := h0
  have lt0 : ∀ x ∈ p0, x.block < W.heap.size := by obtain ⟨m, hm⟩ := k0; exact DataW.trod_lt m _ _ _ hm
  obtain ⟨a1, rfl, rfl, rfl, w1⟩ := open_int Try.underlying51 (hval 1 51 v1 rfl rfl) h1
  obtain ⟨a2, rfl, rfl, rfl, w2⟩ := open_int Try.underlying44 (hval 2 44 v2 rfl rfl) h2
  obtain ⟨xs, hrow, hcap⟩ := open_bytes h0 hsz (j := 0) rfl rfl
  clear hA0 hval0
  have b1 := bounds_u16 w1
  have b2 := bounds_u32 w2
  obtain ⟨A, rfl⟩ := Int.eq_ofNat_of_zero_le b1.1
  obtain ⟨P, rfl⟩ := Int.eq_ofNat_of_zero_le b2.1
  have fin : Calls Try.prog 7 #[.slice a0 len0 cap0, .int .u16 (A : Int), .int .u32 (P : Int)] W fun e w' => e = .returned (.bool true) ∧ Below W.heap.size W w' := by
    by_cases hP : P = 0
    · exact walk_none W a0 len0 cap0 A P hrow.2.1 hrow.2.2.1 (.inl (by omega))
    · by_cases h8 : len0 ≤ 8000
      · exact walk W a0 len0 cap0 xs hrow A P (by omega) (by omega) (by omega) h8
      · exact walk_none W a0 len0 cap0 A P hrow.2.1 hrow.2.2.1 (.inr ⟨by omega, by omega⟩)
  refine fin.mono fun e W' ⟨he, bel⟩ => ?_
  subst he
  exact ⟨_, rfl, _, _, _, [], _, [], hW', trodAll_mk1 (shut_bool Try.underlying4 _), (trodAll_cons_mk (Below.trod laidOut (by kernel_rfl) (of_decide_eq_true (by kernel_rfl)) k0 bel lt0) (trodAll_cons_mk (shut_int Try.underlying51 w1) (trodAll_cons_mk (shut_int Try.underlying44 w2) trodAll_mk0))), rfl, bel.frame _, fun h => by cases h⟩

theorem over : Rows.codeBurstsRow.holds Try.pinned (OpenSpec.ofChange Rows.codeBurstsSpec) :=
  OpenClaim.holds_of_wide 7 Try.f7 rfl rfl rfl rfl rfl rfl rfl ⟨rfl, rfl, rfl, rfl, rfl⟩ rfl rfl rfl rfl rfl (by kernel_rfl) Try.func7 (by kernel_rfl)
    (of_decide_eq_true (by kernel_rfl)) (by unfold Func.isWrapper; first | (rw [if_pos (by decide +kernel)]; kernel_rfl) | (rw [if_neg (by decide +kernel)]; exact ⟨rfl, rfl⟩))
    (fun os started H enc _ => lifted os started H enc)

end Go.Proofs.Ytlnphniokaclcaa.codeBursts
namespace Go.Proofs.Ytlnphniokaclcaa
theorem codeBursts_holds : Rows.CodeBurstsSaid := codeBursts.over
#print axioms codeBursts_holds
end Go.Proofs.Ytlnphniokaclcaa
