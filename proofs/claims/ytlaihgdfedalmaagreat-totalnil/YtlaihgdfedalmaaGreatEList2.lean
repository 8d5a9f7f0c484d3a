/-
  A list of labels out of bytes.
-/
import Derived.Test.YtlaihgdfedalmaaGreatEList
import Derived.Test.YtlaihgdfedalmaaGreatLSrtAll
namespace Go.Proofs.YtlaihgdfedalmaaGreat
open Go.RowKit
set_option linter.unusedVariables false
set_option linter.unusedSimpArgs false

theorem und36 : Tryz.prog.underlying 43 = some (.slice 39) := by kernel_rfl
theorem ownL_lt {w : World} {B n : Nat} {v : Value} {xs : List Value} (h : w.ownsRow B 39 4 v n xs) : ∀ k, v.ownBlock = some k → B ≤ k ∧ k < w.heap.size := fun k hk => ⟨(h.lt k hk).1, (h.lt k hk).2⟩
theorem ownL_gr {w w' : World} {B n : Nat} {v : Value} {xs : List Value} {row : Option Nat} (h : w.ownsRow B 39 4 v n xs) (g : w.grownBy w' row) (hr : ∀ k, row = some k → k < B) : w'.ownsRow B 39 4 v n xs := by
  refine h.kept (row := row) g ?_
  cases hv : v.ownBlock with
  | none => exact Or.inl rfl
  | some k =>
    refine Or.inr (fun e => ?_)
    have h1 := (ownL_lt h k hv).1
    have h2 := hr k (by rw [← e])
    omega
theorem ownL_bl {w w' : World} {B n : Nat} {v : Value} {xs : List Value} (h : w.ownsRow B 39 4 v n xs) (u : Below w.heap.size w w') : w'.ownsRow B 39 4 v n xs :=
  ownL_gr (row := none) h ⟨u.os, u.tape, u.output, u.size, fun i hi _ => u.block i hi⟩ (fun k hk => by cases hk)
theorem rowL_shape {w : World} {B n : Nat} {v : Value} {xs : List Value} (h : w.ownsRow B 39 4 v n xs) : ∃ ao cap, v = .slice ao n cap := by
  rcases h.2 with ⟨rfl, rfl⟩ | ⟨g, cap, cur, rfl, _⟩
  · exact ⟨_, _, rfl⟩
  · exact ⟨_, _, rfl⟩

set_option maxRecDepth 20000 in
set_option maxHeartbeats 2000000 in
theorem readLs_rd (w : World) (r : Nat) (st : Option (List UInt8)) (h : Cd.Rd w r st) (hl : ∀ xs, st = some xs → xs.length ≤ 1000000) :
    Calls Tryz.prog 158 #[.pointer (some ⟨r, 0, none⟩), .func (.func 155) #[] #[]] w fun e w' => ∃ v, e = .returned v ∧ w'.ownsRow w.heap.size 39 4 v (decN decL (Cd.rInt st 9223372036854775807).1 (Cd.rInt st 9223372036854775807).2).1.length (flat (decN decL (Cd.rInt st 9223372036854775807).1 (Cd.rInt st 9223372036854775807).2).1) ∧ Cd.Rd w' r (decN decL (Cd.rInt st 9223372036854775807).1 (Cd.rInt st 9223372036854775807).2).2 ∧ w.grownBy w' (some r) := by
  have hrl := h.lt
  have hi := Cd.int_rd w r st h 9223372036854775807 (by omega) (by omega)
  have hlen : ∀ ys, (Cd.rInt st 9223372036854775807).2 = some ys → ys.length ≤ 1000000 := fun ys hy => by
    obtain ⟨xs, h1, h2⟩ := Cd.rInt_len _ _ _ hy
    have := hl xs h1
    omega
  have hle := Cd.rInt_le st 9223372036854775807
  have h0 : (Cd.rInt st 9223372036854775807).2 = none → (Cd.rInt st 9223372036854775807).1 = 0 := fun e => by
    unfold Cd.rInt at e ⊢
    split
    · rfl
    · rename_i zs hz
      rw [hz] at e
      simp only at e
      split at e <;> simp_all
  generalize Cd.rInt st 9223372036854775807 = RI at *
  obtain ⟨N, st1⟩ := RI
  simp only at hi hlen hle h0 ⊢
  generalize hF : decN decL N st1 = F
  have HN : (N : Int) ≤ 9223372036854775807 := by
    cases st1 with
    | none => have := h0 rfl; omega
    | some ys => exact (hle ys rfl).2
  have HF : Hid (combN [] (decN decL N st1) = F) := by rw [combN_start]; exact hF
  clear hF hle hl
  have hre : ∀ (W : World) (sk : Option (List UInt8)), Cd.Rd W r sk → _ := fun W sk hW => readLabel_rd W r sk hW
  obtain ⟨i0, hi0, hz0, hz1, hz2⟩ := info_parts infoLS
  go_enter Tryz.func158, Tryz.ntmps158
  go_wp2_with fail
  refine hi.mono ?_
  rintro e w1 ⟨rfl, hr1, hg1⟩
  clear hi h
  go_wp2_with fail
  go_loopw [5, 9] (fun lv iv wr => ∃ (k : Nat) (ls : List Lb) (sk : Option (List UInt8)), k ≤ N ∧ iv = .int .i64 k ∧ wr.ownsRow w.heap.size 39 4 lv k (flat ls) ∧ ls.length = k ∧ Cd.Rd wr r sk ∧ (∀ ys, sk = some ys → k + ys.length ≤ 1000000) ∧ (sk = none → k = 0 ∧ N = 0) ∧ combN ls (decN decL (N - k) sk) = F ∧ w.grownBy wr (some r) ∧ (∃ ao cap, lv = .slice ao k cap)) (fun _ iv _ => N - (intOf iv).toNat)
  case atStart => exact ⟨0, [], st1, by omega, rfl, World.ownsRow_nil _ _ _ _, rfl, hr1, fun ys hy => by have := hlen ys hy; omega, fun e => ⟨rfl, h0 e⟩, HF.out, hg1, _, _, rfl⟩
  case round =>
    obtain ⟨k, es, sk, hk, rfl, hE, hek, hrk, hbk, hnk, hcb, hgk, ao, cap, rfl⟩ := hrel
    have HCB : Hid (combN es (decN decL (N - k) sk) = F) := hcb
    clear hcb HF
    by_cases hlt : k < N
    · have hltI : (k : Int) < (N : Int) := by omega
      obtain ⟨yk, rfl⟩ : ∃ y, sk = some y := by
        cases sk with
        | none => have := (hnk rfl).2; omega
        | some y => exact ⟨y, rfl⟩
      have hre1 := hre wr (some yk) hrk
      have HD : Hid (∀ ys, (decL (some yk)).2 = some ys → ys.length < yk.length) := fun ys hy => by
        obtain ⟨xs, h1, h2⟩ := decL_less _ _ hy
        cases h1
        exact h2
      have hst := combN_step decL es (N - (k + 1)) (some yk)
      have hfa := combN_fail decL es (N - (k + 1)) (some yk)
      rw [show N - (k + 1) + 1 = N - k by omega, HCB.out] at hst hfa
      have HB : Hid (k + yk.length ≤ 1000000) := hbk yk rfl
      generalize decL (some yk) = DE at *
      obtain ⟨⟨a0, a1, a2, a3⟩, st2⟩ := DE
      unfold lab at hre1
      simp only at hre1 HD hst hfa
      have hEsz := hgk.size
      clear hre hnk hbk HCB
      go_wp2_with fail
      refine hre1.mono ?_
      rintro e w2 ⟨rfl, hr2, hg2⟩
      have hE2 := ownL_gr hE hg2 (fun q hq => by cases hq; omega)
      have hg02 := Cd.grown_trans hgk hg2
      have hu := bl1 w2 (.cells #[.int .u64 (a0 : Nat), .int .i64 a1, .int .u64 (a2 : Nat), .int .i64 a3] 39)
      have hr3 := Cd.rd_below hr2 hu
      have hbad := Cd.bad_rd _ r st2 hr3
      have hE3 := ownL_bl hE2 hu
      have hg03 := gr_both hg02 (row := none) ⟨hu.os, hu.tape, hu.output, hu.size, fun i hi _ => hu.block i hi⟩ (fun q hq => by cases hq)
      obtain ⟨e0, e1, e2, e3⟩ := bx_new w2 a0 a1 a2 a3 39
      obtain ⟨W3, hW3⟩ : ∃ W, Hid (w2.alloc (.cells #[.int .u64 (a0 : Nat), .int .i64 a1, .int .u64 (a2 : Nat), .int .i64 a3] 39) = W) := ⟨_, rfl⟩
      rw [hW3.out] at hbad hE3 hg03 e0 e1 e2 e3 hr3
      obtain ⟨g2, hg2'⟩ : ∃ g, Hid (w2.heap.size = g) := ⟨_, rfl⟩
      rw [hg2'.out] at e0 e1 e2 e3
      clear hre1 hr2 hg2 hE hE2 hg02 hu
      cases st2 with
      | none =>
        have HFF : Hid (([], none) = F) := (hfa rfl).symm
        simp only [Option.isNone_none] at hbad
        clear hst hfa HD
        go_wp2_with fail
        rw [hW3.out, hg2'.out]
        refine hbad.mono ?_
        rintro e w4 ⟨rfl, rfl⟩
        clear hbad
        go_wp2
        go_ret
        rw [← HFF.out]
        exact ⟨_, rfl, World.ownsRow_nil _ _ _ _, hr3, hg03⟩
      | some zs =>
        have HFF : Hid (F = combN (es ++ [(a0, a1, a2, a3)]) (decN decL (N - (k + 1)) (some zs))) := hst zs rfl
        have hzl := HD.out zs rfl
        have hkb := HB.out
        simp only [Option.isNone_some] at hbad
        have hal := bl1 W3 (.cells #[.int .u64 (a0 : Nat), .int .i64 a1, .int .u64 (a2 : Nat), .int .i64 a3] 39)
        have hxoA := ownL_bl hE3 hal
        have hcA : ∀ j u, (cellsL (a0, a1, a2, a3))[j]? = some u → (W3.alloc (.cells #[.int .u64 (a0 : Nat), .int .i64 a1, .int .u64 (a2 : Nat), .int .i64 a3] 39)).cell? ((⟨W3.heap.size, 0, none⟩ : Addr).add j) = some u := fun j u hj => by
          rw [Addr.add_lit, Nat.zero_add]
          exact cell_box W3 _ 39 j u (by simpa [cellsL] using hj)
        have hsB : w.heap.size ≤ (W3.alloc (.cells #[.int .u64 (a0 : Nat), .int .i64 a1, .int .u64 (a2 : Nat), .int .i64 a3] 39)).heap.size := by have := hg03.size; simp; omega
        clear hst hfa HD
        go_wp2_with fail
        rw [hW3.out, hg2'.out]
        refine hbad.mono ?_
        rintro e w4 ⟨rfl, rfl⟩
        clear hbad
        go_wp2_with (at_builtin; refine wpList_append_own_at _ rfl (.tmp 16) (.tmp 18) 43 rfl w.heap.size 39 i0 (.agg #[.int .u64 0, .int .i64 0, .int .u64 0, .int .i64 0]) 4 32 und36 hi0 hz0 hz1 hz2 rfl (by decide) _ k (flat es) rfl ?d1 ⟨W3.heap.size, 0, none⟩ 1 1 (cellsL (a0, a1, a2, a3)) rfl ?d0 ?d2 ?d3 ?d4 ?d5 ?d6 ?_)
        case d1 => exact hxoA
        case d0 => simp [cellsL]
        case d2 => exact hcA
        case d3 => intro u hu; simp [cellsL] at hu; rcases hu with rfl | rfl | rfl | rfl <;> rfl
        case d4 => unfold maxLen; omega
        case d5 => omega
        case d6 => exact hsB
        intro v' w5 hown5 hg5 _ hat5
        have hvb : ∀ q, (Value.slice ao k cap).ownBlock = some q → w.heap.size ≤ q := fun q hq => (ownL_lt hE3 q hq).1
        have hEf : w5.ownsRow w.heap.size 39 4 v' (k + 1) (flat (es ++ [(a0, a1, a2, a3)])) := by
          rw [flat_app]
          simpa [flat] using hown5
        have hr5 : Cd.Rd w5 r (some zs) := rd_gr (Cd.rd_below hr3 hal) hg5 (fun q hq => by have := hvb q hq; omega)
        have hg05 : w.grownBy w5 (some r) := gr_both (gr_both hg03 (row := none) ⟨hal.os, hal.tape, hal.output, hal.size, fun i hi _ => hal.block i hi⟩ (fun q hq => by cases hq)) hg5 hvb
        obtain ⟨ao5, cp5, rfl⟩ := rowL_shape hEf
        have HFE : Hid (w5.ownsRow w.heap.size 39 4 (.slice ao5 (k + 1) cp5) (k + 1) (flat (es ++ [(a0, a1, a2, a3)])) ∧ Cd.Rd w5 r (some zs) ∧ w.grownBy w5 (some r)) := ⟨hEf, hr5, hg05⟩
        clear hxoA hcA hown5 hg5 hat5 hE3 hg03 hr3 e0 e1 e2 e3 hal hEf hr5 hg05 hvb
        go_wp2
        go_roundw
        case rel => first | exact ⟨k + 1, es ++ [(a0, a1, a2, a3)], some zs, by omega, by go_num, HFE.out.1, by simp [hek], HFE.out.2.1, fun ys hy => by cases hy; omega, fun e => (by cases e), HFF.out.symm, HFE.out.2.2, _, _, rfl⟩ | ((repeat apply Exists.intro); exact ⟨⟨k + 1, es ++ [(a0, a1, a2, a3)], some zs, by omega, by go_num, HFE.out.1, by simp [hek], HFE.out.2.1, fun ys hy => by cases hy; omega, fun e => (by cases e), HFF.out.symm, HFE.out.2.2, _, _, rfl⟩, rfl⟩)
        case measure => simp [intOf]; omega
    · obtain rfl : N = k := by omega
      have hltI : ¬ ((N : Int) < (N : Int)) := by omega
      have HFF : Hid (F.1 = es ∧ F.2 = sk) := by
        have := HCB.out
        rw [Nat.sub_self] at this
        unfold combN decN at this
        rw [← this]
        cases sk with
        | none =>
          have := (hnk rfl).1
          have : es = [] := List.eq_nil_of_length_eq_zero (by omega)
          subst this
          exact ⟨rfl, rfl⟩
        | some ys => exact ⟨by simp, rfl⟩
      clear HCB hre
      go_wp2
      go_ret
      rw [HFF.out.1, HFF.out.2]
      exact ⟨_, rfl, by rw [hek]; exact hE, hrk, hgk⟩
end Go.Proofs.YtlaihgdfedalmaaGreat
