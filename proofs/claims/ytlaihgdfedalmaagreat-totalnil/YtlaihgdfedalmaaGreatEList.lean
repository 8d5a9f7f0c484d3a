/-
  Lists of entries, and of labels, out of bytes.
-/
import Derived.Test.YtlaihgdfedalmaaGreatEDec
import Derived.Test.YtlaihgdfedalmaaGreatMix1
namespace Go.Proofs.YtlaihgdfedalmaaGreat
open Go.RowKit
set_option linter.unusedVariables false
set_option linter.unusedSimpArgs false

theorem rUint_less (st : Option (List UInt8)) (ys : List UInt8) (h : (Cd.rUint st).2 = some ys) : ∃ xs, st = some xs ∧ ys.length < xs.length := by
  cases st with
  | none => simp [Cd.rUint] at h
  | some xs =>
    refine ⟨xs, rfl, ?_⟩
    unfold Cd.rUint at h
    simp only at h
    split at h
    · cases h
    · rename_i n s hr
      have := Cd.rd_size hr
      simp at h
      subst h
      simp
      omega
theorem decV_less (st : Option (List UInt8)) (ys : List UInt8) (h : (decV st).2 = some ys) : ∃ xs, st = some xs ∧ ys.length < xs.length := by
  unfold decV at h
  split at h
  · cases h
  · rename_i zs hz
    simp at h
    subst h
    obtain ⟨us, h1, h2⟩ := Cd.rInt_len _ _ _ hz
    obtain ⟨xs, h3, h4⟩ := rUint_less _ _ h1
    exact ⟨xs, h3, by omega⟩
theorem decL_less (st : Option (List UInt8)) (ys : List UInt8) (h : (decL st).2 = some ys) : ∃ xs, st = some xs ∧ ys.length < xs.length := by
  unfold decL at h
  split at h
  · rename_i zs hf hz
    simp at h
    subst h
    obtain ⟨us, h1, h2⟩ := Cd.rInt_len _ _ _ hz
    obtain ⟨xs, h3, h4⟩ := Cd.rUint_len _ _ h1
    obtain ⟨vs, h5, h6⟩ := decV_less _ _ h3
    exact ⟨vs, h5, by omega⟩
  · cases h
theorem rBytes_len (st : Option (List UInt8)) (m : Int) (ys : List UInt8) (h : (Cd.rBytes st m).2 = some ys) : ∃ xs, st = some xs ∧ ys.length ≤ xs.length := by
  unfold Cd.rBytes at h
  split at h
  · cases h
  · rename_i zs hz
    split at h
    · cases h
    · simp at h
      subst h
      obtain ⟨us, h1, h2⟩ := Cd.rInt_len _ _ _ hz
      exact ⟨us, h1, by simp; omega⟩
theorem decE_less (st : Option (List UInt8)) (ys : List UInt8) (h : (decE st).2 = some ys) : ∃ xs, st = some xs ∧ ys.length < xs.length := by
  unfold decE at h
  obtain ⟨us, h1, h2⟩ := rBytes_len _ _ _ h
  obtain ⟨xs, h3, h4⟩ := decL_less _ _ h1
  exact ⟨xs, h3, by omega⟩
/-- So many parts; a fault: none of them. -/
def decN {α : Type} (f : Option (List UInt8) → α × Option (List UInt8)) : Nat → Option (List UInt8) → List α × Option (List UInt8)
  | 0, st => ([], st)
  | k + 1, st => match (f st).2, (decN f k (f st).2).2 with
    | some _, some zs => ((f st).1 :: (decN f k (f st).2).1, some zs)
    | _, _ => ([], none)
def combN {α : Type} (es : List α) (r : List α × Option (List UInt8)) : List α × Option (List UInt8) := match r.2 with | none => ([], none) | some zs => (es ++ r.1, some zs)
theorem decN_none {α : Type} (f : Option (List UInt8) → α × Option (List UInt8)) (k : Nat) (st : Option (List UInt8)) (h : (decN f k st).2 = none) : (decN f k st).1 = [] := by
  cases k with
  | zero => rfl
  | succ k =>
    unfold decN at h ⊢
    split at h
    · cases h
    · rfl
theorem combN_start {α : Type} (f : Option (List UInt8) → α × Option (List UInt8)) (k : Nat) (st : Option (List UInt8)) : combN [] (decN f k st) = decN f k st := by
  have := decN_none f k st
  unfold combN
  split
  · rename_i h
    exact Prod.ext (this h).symm h.symm
  · rename_i zs h
    exact Prod.ext (by simp) h.symm
theorem combN_step {α : Type} (f : Option (List UInt8) → α × Option (List UInt8)) (es : List α) (k : Nat) (st : Option (List UInt8)) (ys : List UInt8) (h : (f st).2 = some ys) : combN es (decN f (k + 1) st) = combN (es ++ [(f st).1]) (decN f k (some ys)) := by
  unfold combN
  conv => lhs; unfold decN
  rw [h]
  cases hd : (decN f k (some ys)).2 with
  | none => simp
  | some zs => simp
theorem combN_fail {α : Type} (f : Option (List UInt8) → α × Option (List UInt8)) (es : List α) (k : Nat) (st : Option (List UInt8)) (h : (f st).2 = none) : combN es (decN f (k + 1) st) = ([], none) := by
  unfold combN decN
  rw [h]
theorem rd_gr {w w' : World} {r : Nat} {st : Option (List UInt8)} {row : Option Nat} (h : Cd.Rd w r st) (g : w.grownBy w' row) (hr : ∀ k, row = some k → r < k) : Cd.Rd w' r st := by
  have he : w'.heap[r]? = w.heap[r]? := g.block r h.lt (fun e => by have := hr _ e.symm; omega)
  cases st with
  | none => exact he.trans h
  | some xs =>
    obtain ⟨ao, n, cap, h1, h2, h3⟩ := h
    exact ⟨ao, n, cap, he.trans h1, row_grown h2 g (fun a ha _ e => by have := h3 a ha; have := hr _ e; omega), h3⟩
theorem gr_both {w a b : World} {r : Nat} {row : Option Nat} (h : w.grownBy a (some r)) (g : a.grownBy b row) (hr : ∀ k, row = some k → w.heap.size ≤ k) : w.grownBy b (some r) :=
  ⟨g.os.trans h.os, g.tape.trans h.tape, g.output.trans h.output, Nat.le_trans h.size g.size, fun k hk hne => (g.block k (Nat.lt_of_lt_of_le hk h.size) (fun e => by have := hr _ e.symm; omega)).trans (h.block k hk hne)⟩

set_option maxRecDepth 20000 in
set_option maxHeartbeats 2000000 in
theorem readEs_rd (w : World) (r : Nat) (st : Option (List UInt8)) (h : Cd.Rd w r st) (hl : ∀ xs, st = some xs → xs.length ≤ 1000000) :
    Calls Tryz.prog 157 #[.pointer (some ⟨r, 0, none⟩), .func (.func 125) #[] #[]] w fun e w' => ∃ v, e = .returned v ∧ EO w.heap.size w' v (decN decE (Cd.rInt st 9223372036854775807).1 (Cd.rInt st 9223372036854775807).2).1 ∧ Cd.Rd w' r (decN decE (Cd.rInt st 9223372036854775807).1 (Cd.rInt st 9223372036854775807).2).2 ∧ w.grownBy w' (some r) := by
  have hrl := h.lt
  have hi := Cd.int_rd w r st h 9223372036854775807 (by omega) (by omega)
  have hlen : ∀ ys, (Cd.rInt st 9223372036854775807).2 = some ys → ys.length ≤ 1000000 := fun ys hy => by
    obtain ⟨xs, h1, h2⟩ := Cd.rInt_len _ _ _ hy
    have := hl xs h1
    omega
  have hle := Cd.rInt_le st 9223372036854775807
  have h0 : (Cd.rInt st 9223372036854775807).2 = none → (Cd.rInt st 9223372036854775807).1 = 0 := fun e => by
    unfold Cd.rInt at e ⊢
    split
    · rfl
    · rename_i zs hz
      rw [hz] at e
      simp only at e
      split at e <;> simp_all
  generalize Cd.rInt st 9223372036854775807 = RI at *
  obtain ⟨N, st1⟩ := RI
  simp only at hi hlen hle h0 ⊢
  generalize hF : decN decE N st1 = F
  have HN : (N : Int) ≤ 9223372036854775807 := by
    cases st1 with
    | none => have := h0 rfl; omega
    | some ys => exact (hle ys rfl).2
  have HF : Hid (combN [] (decN decE N st1) = F) := by rw [combN_start]; exact hF
  clear hF hle hl
  have hre : ∀ (W : World) (sk : Option (List UInt8)), Cd.Rd W r sk → (∀ ys, sk = some ys → ys.length ≤ 1000000) → _ := fun W sk hW hb => readEntry_rd W r sk hW (fun xs hx => by have := hb xs hx; omega)
  obtain ⟨i0, hi0, hz0, hz1, hz2⟩ := info_parts infoE29
  go_enter Tryz.func157, Tryz.ntmps157
  go_wp2_with fail
  refine hi.mono ?_
  rintro e w1 ⟨rfl, hr1, hg1⟩
  clear hi h
  go_wp2_with fail
  go_loopw [5, 9] (fun lv iv wr => ∃ (k : Nat) (es : List (Lb × List UInt8)) (sk : Option (List UInt8)), k ≤ N ∧ iv = .int .i64 k ∧ EO w.heap.size wr lv es ∧ es.length = k ∧ Cd.Rd wr r sk ∧ (∀ ys, sk = some ys → k + ys.length ≤ 1000000) ∧ (sk = none → k = 0 ∧ N = 0) ∧ combN es (decN decE (N - k) sk) = F ∧ w.grownBy wr (some r) ∧ (∃ ao cap, lv = .slice ao k cap)) (fun _ iv _ => N - (intOf iv).toNat)
  case atStart => exact ⟨0, [], st1, by omega, rfl, EO.nil _ _, rfl, hr1, fun ys hy => by have := hlen ys hy; omega, fun e => ⟨rfl, h0 e⟩, HF.out, hg1, _, _, rfl⟩
  case round =>
    obtain ⟨k, es, sk, hk, rfl, hE, hek, hrk, hbk, hnk, hcb, hgk, ao, cap, rfl⟩ := hrel
    have HCB : Hid (combN es (decN decE (N - k) sk) = F) := hcb
    clear hcb HF
    by_cases hlt : k < N
    · have hltI : (k : Int) < (N : Int) := by omega
      obtain ⟨yk, rfl⟩ : ∃ y, sk = some y := by
        cases sk with
        | none => have := (hnk rfl).2; omega
        | some y => exact ⟨y, rfl⟩
      have hre1 := hre wr (some yk) hrk (fun ys hy => by have := hbk ys hy; omega)
      have HD : Hid (∀ ys, (decE (some yk)).2 = some ys → ys.length < yk.length) := fun ys hy => by
        obtain ⟨xs, h1, h2⟩ := decE_less _ _ hy
        cases h1
        exact h2
      have hst := combN_step decE es (N - (k + 1)) (some yk)
      have hfa := combN_fail decE es (N - (k + 1)) (some yk)
      rw [show N - (k + 1) + 1 = N - k by omega, HCB.out] at hst hfa
      have HB : Hid (k + yk.length ≤ 1000000) := hbk yk rfl
      generalize decE (some yk) = DE at *
      obtain ⟨⟨⟨a0, a1, a2, a3⟩, mm⟩, st2⟩ := DE
      unfold ent at hre1
      simp only at hre1 HD hst hfa
      have hEsz := hgk.size
      have HVB : Hid (∀ q, (Value.slice ao k cap).ownBlock = some q → q < wr.heap.size) := fun q hq => by
        obtain ⟨_, _, ho, _⟩ := hE
        exact (ownE_lt ho q hq).2
      clear hre hnk hbk HCB
      go_wp2_with fail
      refine hre1.mono ?_
      rintro e w2 ⟨s, rfl, hos, hr2, hg2⟩
      obtain ⟨so, sc, rfl⟩ := row_shape hos
      have hE2 := hE.gr hg2 (fun q hq => by cases hq; omega)
      have hg02 := Cd.grown_trans hgk hg2
      have hu := bl1 w2 (.cells #[.int .u64 (a0 : Nat), .int .i64 a1, .int .u64 (a2 : Nat), .int .i64 a3, .slice so mm.length sc] 41)
      have hr3 := Cd.rd_below hr2 hu
      have hbad := Cd.bad_rd _ r st2 hr3
      have hE3 := hE2.bl hu
      have hg03 := gr_both hg02 (row := none) ⟨hu.os, hu.tape, hu.output, hu.size, fun i hi _ => hu.block i hi⟩ (fun q hq => by cases hq)
      obtain ⟨e0, e1, e2, e3, e4⟩ := ex_new w2 (a0, a1, a2, a3) (.slice so mm.length sc) 41
      simp only at e0 e1 e2 e3 e4
      have HMB : Hid (∀ a : Addr, so = some a → 0 < mm.length → wr.heap.size ≤ a.block ∧ a.block < w2.heap.size) := fun a ha hn => by
        obtain ⟨_, _, hv, _, hB⟩ := Cd.owns_row hos
        simp only [Value.slice.injEq] at hv
        exact ⟨hB a (by rw [← hv.1]; exact ha), Cd.owns_lt hos a ha⟩
      obtain ⟨_, _, hv, hrw, _⟩ := Cd.owns_row hos
      simp only [Value.slice.injEq] at hv
      obtain ⟨rfl, _, rfl⟩ := hv
      have hrw3 := hrw.below hu (Nat.le_refl _)
      obtain ⟨W3, hW3⟩ : ∃ W, Hid (w2.alloc (.cells #[.int .u64 (a0 : Nat), .int .i64 a1, .int .u64 (a2 : Nat), .int .i64 a3, .slice so mm.length sc] 41) = W) := ⟨_, rfl⟩
      rw [hW3.out] at hbad hE3 hg03 e0 e1 e2 e3 e4 hr3 hrw3
      have hlt3 : w2.heap.size < W3.heap.size := by rw [← hW3.out]; simp
      obtain ⟨g2, hg2'⟩ : ∃ g, Hid (w2.heap.size = g) := ⟨_, rfl⟩
      rw [hg2'.out] at e0 e1 e2 e3 e4 hlt3
      clear hre1 hos hr2 hg2 hE hE2 hg02 hu hrw
      cases st2 with
      | none =>
        have HFF : Hid (([], none) = F) := (hfa rfl).symm
        simp only [Option.isNone_none] at hbad
        clear hst hfa HD
        go_wp2_with fail
        rw [hW3.out, hg2'.out]
        refine hbad.mono ?_
        rintro e w4 ⟨rfl, rfl⟩
        clear hbad
        go_wp2
        go_ret
        rw [← HFF.out]
        exact ⟨_, rfl, EO.nil _ _, hr3, hg03⟩
      | some zs =>
        have HFF : Hid (F = combN (es ++ [((a0, a1, a2, a3), mm)]) (decN decE (N - (k + 1)) (some zs))) := hst zs rfl
        have hzl := HD.out zs rfl
        have hkb := HB.out
        simp only [Option.isNone_some] at hbad
        obtain ⟨xs, hxl, hxo, hxm⟩ := id hE3
        have hxo' : W3.ownsRow w.heap.size 41 5 (.slice ao k cap) k (flatE xs) := by rw [← hek]; rw [← hek] at hxo; exact hxo
        have hal := bl1 W3 (.cells #[.int .u64 (a0 : Nat), .int .i64 a1, .int .u64 (a2 : Nat), .int .i64 a3, .slice so mm.length sc] 41)
        have hxoA : (W3.alloc (.cells #[.int .u64 (a0 : Nat), .int .i64 a1, .int .u64 (a2 : Nat), .int .i64 a3, .slice so mm.length sc] 41)).ownsRow w.heap.size 41 5 (.slice ao k cap) k (flatE xs) := hxo'.alloc _
        have hcA : ∀ j u, (cells5 ((a0, a1, a2, a3), (so, mm.length, sc)))[j]? = some u → (W3.alloc (.cells #[.int .u64 (a0 : Nat), .int .i64 a1, .int .u64 (a2 : Nat), .int .i64 a3, .slice so mm.length sc] 41)).cell? ((⟨W3.heap.size, 0, none⟩ : Addr).add j) = some u := fun j u hj => by
          rw [Addr.add_lit, Nat.zero_add]
          exact cell_box W3 _ 41 j u (by simpa [cells5] using hj)
        have hsB : w.heap.size ≤ (W3.alloc (.cells #[.int .u64 (a0 : Nat), .int .i64 a1, .int .u64 (a2 : Nat), .int .i64 a3, .slice so mm.length sc] 41)).heap.size := by have := hg03.size; simp; omega
        clear hst hfa HD
        go_wp2_with fail
        rw [hW3.out, hg2'.out]
        refine hbad.mono ?_
        rintro e w4 ⟨rfl, rfl⟩
        clear hbad
        go_wp2_with (at_builtin; refine wpList_append_own_at _ rfl (.tmp 16) (.tmp 18) 42 rfl w.heap.size 41 i0 (.agg #[.int .u64 0, .int .i64 0, .int .u64 0, .int .i64 0, .slice none 0 0]) 5 56 und35 hi0 hz0 hz1 hz2 rfl (by decide) _ k (flatE xs) rfl ?d1 ⟨W3.heap.size, 0, none⟩ 1 1 (cells5 ((a0, a1, a2, a3), (so, mm.length, sc))) rfl ?d0 ?d2 ?d3 ?d4 ?d5 ?d6 ?_)
        case d1 => exact hxoA
        case d0 => simp [cells5]
        case d2 => exact hcA
        case d3 => intro u hu; simp [cells5] at hu; rcases hu with rfl | rfl | rfl | rfl | rfl <;> rfl
        case d4 => unfold maxLen; omega
        case d5 => omega
        case d6 => exact hsB
        intro v' w5 hown5 hg5 _ hat5
        have HMB' := HMB.out
        rw [hg2'.out] at HMB'
        have hrsz : w.heap.size ≤ wr.heap.size := hEsz
        have hvb : ∀ q, (Value.slice ao k cap).ownBlock = some q → w.heap.size ≤ q ∧ q < wr.heap.size := fun q hq => ⟨(ownE_lt hxo' q hq).1, HVB.out q hq⟩
        have hEf : EO w.heap.size w5 v' (es ++ [((a0, a1, a2, a3), mm)]) := by
          refine EO.snoc (s := (so, mm.length, sc)) hxl (w := W3.alloc (.cells #[.int .u64 (a0 : Nat), .int .i64 a1, .int .u64 (a2 : Nat), .int .i64 a3, .slice so mm.length sc] 41)) (v := .slice ao k cap) (fun j e x he hx => ?_) (hrw3.below hal (Nat.le_refl _)) (fun a ha hn => ⟨Nat.le_trans hrsz (HMB' a ha hn).1, fun hq => ?_⟩) (by rw [hek]; exact hown5) hg5 (by simpa using hat5)
          · obtain ⟨q1, q2, q3⟩ := hxm j e x he hx
            exact ⟨q1, q2.below hal (Nat.le_refl _), fun a ha hn => ⟨(q3 a ha hn).1, Nat.lt_of_lt_of_le (q3 a ha hn).2.1 hal.size, (q3 a ha hn).2.2⟩⟩
          · have := (hvb _ hq).2
            have := (HMB' a ha hn).1
            omega
        have hr5 : Cd.Rd w5 r (some zs) := rd_gr (Cd.rd_below hr3 hal) hg5 (fun q hq => by have := (hvb q hq).1; omega)
        have hg05 : w.grownBy w5 (some r) := gr_both (gr_both hg03 (row := none) ⟨hal.os, hal.tape, hal.output, hal.size, fun i hi _ => hal.block i hi⟩ (fun q hq => by cases hq)) hg5 (fun q hq => (hvb q hq).1)
        obtain ⟨ao5, cp5, hv5, _⟩ := hEf.er
        simp only [List.length_append, List.length_cons, List.length_nil, Nat.zero_add, hek] at hv5
        subst hv5
        have HFE : Hid (EO w.heap.size w5 (.slice ao5 (k + 1) cp5) (es ++ [((a0, a1, a2, a3), mm)]) ∧ Cd.Rd w5 r (some zs) ∧ w.grownBy w5 (some r)) := ⟨hEf, hr5, hg05⟩
        clear hxo hxo' hxoA hcA hown5 hg5 hat5 hE3 hg03 hr3 hrw3 e0 e1 e2 e3 e4 hal hEf hr5 hg05 hvb HMB' hxm
        go_wp2
        go_roundw
        case rel => first | exact ⟨k + 1, es ++ [((a0, a1, a2, a3), mm)], some zs, by omega, by go_num, HFE.out.1, by simp [hek], HFE.out.2.1, fun ys hy => by cases hy; omega, fun e => (by cases e), HFF.out.symm, HFE.out.2.2, _, _, rfl⟩ | ((repeat apply Exists.intro); exact ⟨⟨k + 1, es ++ [((a0, a1, a2, a3), mm)], some zs, by omega, by go_num, HFE.out.1, by simp [hek], HFE.out.2.1, fun ys hy => by cases hy; omega, fun e => (by cases e), HFF.out.symm, HFE.out.2.2, _, _, rfl⟩, rfl⟩)
        case measure => simp [intOf]; omega
    · obtain rfl : N = k := by omega
      have hltI : ¬ ((N : Int) < (N : Int)) := by omega
      have HFF : Hid (F.1 = es ∧ F.2 = sk) := by
        have := HCB.out
        rw [Nat.sub_self] at this
        unfold combN decN at this
        rw [← this]
        cases sk with
        | none =>
          have := (hnk rfl).1
          have : es = [] := List.eq_nil_of_length_eq_zero (by omega)
          subst this
          exact ⟨rfl, rfl⟩
        | some ys => exact ⟨by simp, rfl⟩
      clear HCB hre
      go_wp2
      go_ret
      rw [HFF.out.1, HFF.out.2]
      exact ⟨_, rfl, hE, hrk, hgk⟩
end Go.Proofs.YtlaihgdfedalmaaGreat
