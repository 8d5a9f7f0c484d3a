/-
  Texts of the walk, one behind the other.
-/
import Derived.Test.YtlaihgdfedalmaaGreatMix47
import Derived.Test.YtlaihgdfedalmaaGreatLSrtAll
import Derived.Test.YtlaihgdfedalmaaGreatEAlike
import Derived.Test.YtlaihgdfedalmaaGreatTLine
import Derived.Test.YtlaihgdfedalmaaGreatTList
import Derived.Test.YtlaihgdfedalmaaGreatXFull
import Derived.Deep.CutBlock
import Derived.Test.YtlaihgdfedalmaaGreatXHigh
import Derived.Deep.MidRow
import Derived.Test.YtlaihgdfedalmaaGreatXCho
/-
  A list of labels out of bytes.
-/
namespace Go.Proofs.YtlaihgdfedalmaaGreat
open Go.RowKit
set_option linter.unusedVariables false
set_option linter.unusedSimpArgs false

theorem und36 : Tryz.prog.underlying 43 = some (.slice 39) := by kernel_rfl
theorem ownL_lt {w : World} {B n : Nat} {v : Value} {xs : List Value} (h : w.ownsRow B 39 4 v n xs) : ∀ k, v.ownBlock = some k → B ≤ k ∧ k < w.heap.size := fun k hk => ⟨(h.lt k hk).1, (h.lt k hk).2⟩
theorem ownL_gr {w w' : World} {B n : Nat} {v : Value} {xs : List Value} {row : Option Nat} (h : w.ownsRow B 39 4 v n xs) (g : w.grownBy w' row) (hr : ∀ k, row = some k → k < B) : w'.ownsRow B 39 4 v n xs := by
  refine h.kept (row := row) g ?_
  cases hv : v.ownBlock with
  | none => exact Or.inl rfl
  | some k =>
    refine Or.inr (fun e => ?_)
    have h1 := (ownL_lt h k hv).1
    have h2 := hr k (by rw [← e])
    omega
theorem ownL_bl {w w' : World} {B n : Nat} {v : Value} {xs : List Value} (h : w.ownsRow B 39 4 v n xs) (u : Below w.heap.size w w') : w'.ownsRow B 39 4 v n xs :=
  ownL_gr (row := none) h ⟨u.os, u.tape, u.output, u.size, fun i hi _ => u.block i hi⟩ (fun k hk => by cases hk)
theorem rowL_shape {w : World} {B n : Nat} {v : Value} {xs : List Value} (h : w.ownsRow B 39 4 v n xs) : ∃ ao cap, v = .slice ao n cap := by
  rcases h.2 with ⟨rfl, rfl⟩ | ⟨g, cap, cur, rfl, _⟩
  · exact ⟨_, _, rfl⟩
  · exact ⟨_, _, rfl⟩

set_option maxRecDepth 20000 in
set_option maxHeartbeats 2000000 in
theorem readLs_rd (w : World) (r : Nat) (st : Option (List UInt8)) (h : Cd.Rd w r st) (hl : ∀ xs, st = some xs → xs.length ≤ 1000000) :
    Calls Tryz.prog 158 #[.pointer (some ⟨r, 0, none⟩), .func (.func 155) #[] #[]] w fun e w' => ∃ v, e = .returned v ∧ w'.ownsRow w.heap.size 39 4 v (decN decL (Cd.rInt st 9223372036854775807).1 (Cd.rInt st 9223372036854775807).2).1.length (flat (decN decL (Cd.rInt st 9223372036854775807).1 (Cd.rInt st 9223372036854775807).2).1) ∧ Cd.Rd w' r (decN decL (Cd.rInt st 9223372036854775807).1 (Cd.rInt st 9223372036854775807).2).2 ∧ w.grownBy w' (some r) := by
  have hrl := h.lt
  have hi := Cd.int_rd w r st h 9223372036854775807 (by omega) (by omega)
  have hlen : ∀ ys, (Cd.rInt st 9223372036854775807).2 = some ys → ys.length ≤ 1000000 := fun ys hy => by
    obtain ⟨xs, h1, h2⟩ := Cd.rInt_len _ _ _ hy
    have := hl xs h1
    omega
  have hle := Cd.rInt_le st 9223372036854775807
  have h0 : (Cd.rInt st 9223372036854775807).2 = none → (Cd.rInt st 9223372036854775807).1 = 0 := fun e => by
    unfold Cd.rInt at e ⊢
    split
    · rfl
    · rename_i zs hz
      rw [hz] at e
      simp only at e
      split at e <;> simp_all
  generalize Cd.rInt st 9223372036854775807 = RI at *
  obtain ⟨N, st1⟩ := RI
  simp only at hi hlen hle h0 ⊢
  generalize hF : decN decL N st1 = F
  have HN : (N : Int) ≤ 9223372036854775807 := by
    cases st1 with
    | none => have := h0 rfl; omega
    | some ys => exact (hle ys rfl).2
  have HF : Hid (combN [] (decN decL N st1) = F) := by rw [combN_start]; exact hF
  clear hF hle hl
  have hre : ∀ (W : World) (sk : Option (List UInt8)), Cd.Rd W r sk → _ := fun W sk hW => readLabel_rd W r sk hW
  obtain ⟨i0, hi0, hz0, hz1, hz2⟩ := info_parts infoLS
  go_enter Tryz.func158, Tryz.ntmps158
  go_wp2_with fail
  refine hi.mono ?_
  rintro e w1 ⟨rfl, hr1, hg1⟩
  clear hi h
  go_wp2_with fail
  go_loopw [5, 9] (fun lv iv wr => ∃ (k : Nat) (ls : List Lb) (sk : Option (List UInt8)), k ≤ N ∧ iv = .int .i64 k ∧ wr.ownsRow w.heap.size 39 4 lv k (flat ls) ∧ ls.length = k ∧ Cd.Rd wr r sk ∧ (∀ ys, sk = some ys → k + ys.length ≤ 1000000) ∧ (sk = none → k = 0 ∧ N = 0) ∧ combN ls (decN decL (N - k) sk) = F ∧ w.grownBy wr (some r) ∧ (∃ ao cap, lv = .slice ao k cap)) (fun _ iv _ => N - (intOf iv).toNat)
  case atStart => exact ⟨0, [], st1, by omega, rfl, World.ownsRow_nil _ _ _ _, rfl, hr1, fun ys hy => by have := hlen ys hy; omega, fun e => ⟨rfl, h0 e⟩, HF.out, hg1, _, _, rfl⟩
  case round =>
    obtain ⟨k, es, sk, hk, rfl, hE, hek, hrk, hbk, hnk, hcb, hgk, ao, cap, rfl⟩ := hrel
    have HCB : Hid (combN es (decN decL (N - k) sk) = F) := hcb
    clear hcb HF
    by_cases hlt : k < N
    · have hltI : (k : Int) < (N : Int) := by omega
      obtain ⟨yk, rfl⟩ : ∃ y, sk = some y := by
        cases sk with
        | none => have := (hnk rfl).2; omega
        | some y => exact ⟨y, rfl⟩
      have hre1 := hre wr (some yk) hrk
      have HD : Hid (∀ ys, (decL (some yk)).2 = some ys → ys.length < yk.length) := fun ys hy => by
        obtain ⟨xs, h1, h2⟩ := decL_less _ _ hy
        cases h1
        exact h2
      have hst := combN_step decL es (N - (k + 1)) (some yk)
      have hfa := combN_fail decL es (N - (k + 1)) (some yk)
      rw [show N - (k + 1) + 1 = N - k by omega, HCB.out] at hst hfa
      have HB : Hid (k + yk.length ≤ 1000000) := hbk yk rfl
      generalize decL (some yk) = DE at *
      obtain ⟨⟨a0, a1, a2, a3⟩, st2⟩ := DE
      unfold lab at hre1
      simp only at hre1 HD hst hfa
      have hEsz := hgk.size
      clear hre hnk hbk HCB
      go_wp2_with fail
      refine hre1.mono ?_
      rintro e w2 ⟨rfl, hr2, hg2⟩
      have hE2 := ownL_gr hE hg2 (fun q hq => by cases hq; omega)
      have hg02 := Cd.grown_trans hgk hg2
      have hu := bl1 w2 (.cells #[.int .u64 (a0 : Nat), .int .i64 a1, .int .u64 (a2 : Nat), .int .i64 a3] 39)
      have hr3 := Cd.rd_below hr2 hu
      have hbad := Cd.bad_rd _ r st2 hr3
      have hE3 := ownL_bl hE2 hu
      have hg03 := gr_both hg02 (row := none) ⟨hu.os, hu.tape, hu.output, hu.size, fun i hi _ => hu.block i hi⟩ (fun q hq => by cases hq)
      obtain ⟨e0, e1, e2, e3⟩ := bx_new w2 a0 a1 a2 a3 39
      obtain ⟨W3, hW3⟩ : ∃ W, Hid (w2.alloc (.cells #[.int .u64 (a0 : Nat), .int .i64 a1, .int .u64 (a2 : Nat), .int .i64 a3] 39) = W) := ⟨_, rfl⟩
      rw [hW3.out] at hbad hE3 hg03 e0 e1 e2 e3 hr3
      obtain ⟨g2, hg2'⟩ : ∃ g, Hid (w2.heap.size = g) := ⟨_, rfl⟩
      rw [hg2'.out] at e0 e1 e2 e3
      clear hre1 hr2 hg2 hE hE2 hg02 hu
      cases st2 with
      | none =>
        have HFF : Hid (([], none) = F) := (hfa rfl).symm
        simp only [Option.isNone_none] at hbad
        clear hst hfa HD
        go_wp2_with fail
        rw [hW3.out, hg2'.out]
        refine hbad.mono ?_
        rintro e w4 ⟨rfl, rfl⟩
        clear hbad
        go_wp2
        go_ret
        rw [← HFF.out]
        exact ⟨_, rfl, World.ownsRow_nil _ _ _ _, hr3, hg03⟩
      | some zs =>
        have HFF : Hid (F = combN (es ++ [(a0, a1, a2, a3)]) (decN decL (N - (k + 1)) (some zs))) := hst zs rfl
        have hzl := HD.out zs rfl
        have hkb := HB.out
        simp only [Option.isNone_some] at hbad
        have hal := bl1 W3 (.cells #[.int .u64 (a0 : Nat), .int .i64 a1, .int .u64 (a2 : Nat), .int .i64 a3] 39)
        have hxoA := ownL_bl hE3 hal
        have hcA : ∀ j u, (cellsL (a0, a1, a2, a3))[j]? = some u → (W3.alloc (.cells #[.int .u64 (a0 : Nat), .int .i64 a1, .int .u64 (a2 : Nat), .int .i64 a3] 39)).cell? ((⟨W3.heap.size, 0, none⟩ : Addr).add j) = some u := fun j u hj => by
          rw [Addr.add_lit, Nat.zero_add]
          exact cell_box W3 _ 39 j u (by simpa [cellsL] using hj)
        have hsB : w.heap.size ≤ (W3.alloc (.cells #[.int .u64 (a0 : Nat), .int .i64 a1, .int .u64 (a2 : Nat), .int .i64 a3] 39)).heap.size := by have := hg03.size; simp; omega
        clear hst hfa HD
        go_wp2_with fail
        rw [hW3.out, hg2'.out]
        refine hbad.mono ?_
        rintro e w4 ⟨rfl, rfl⟩
        clear hbad
        go_wp2_with (at_builtin; refine wpList_append_own_at _ rfl (.tmp 16) (.tmp 18) 43 rfl w.heap.size 39 i0 (.agg #[.int .u64 0, .int .i64 0, .int .u64 0, .int .i64 0]) 4 32 und36 hi0 hz0 hz1 hz2 rfl (by decide) _ k (flat es) rfl ?d1 ⟨W3.heap.size, 0, none⟩ 1 1 (cellsL (a0, a1, a2, a3)) rfl ?d0 ?d2 ?d3 ?d4 ?d5 ?d6 ?_)
        case d1 => exact hxoA
        case d0 => simp [cellsL]
        case d2 => exact hcA
        case d3 => intro u hu; simp [cellsL] at hu; rcases hu with rfl | rfl | rfl | rfl <;> rfl
        case d4 => unfold maxLen; omega
        case d5 => omega
        case d6 => exact hsB
        intro v' w5 hown5 hg5 _ hat5
        have hvb : ∀ q, (Value.slice ao k cap).ownBlock = some q → w.heap.size ≤ q := fun q hq => (ownL_lt hE3 q hq).1
        have hEf : w5.ownsRow w.heap.size 39 4 v' (k + 1) (flat (es ++ [(a0, a1, a2, a3)])) := by
          rw [flat_app]
          simpa [flat] using hown5
        have hr5 : Cd.Rd w5 r (some zs) := rd_gr (Cd.rd_below hr3 hal) hg5 (fun q hq => by have := hvb q hq; omega)
        have hg05 : w.grownBy w5 (some r) := gr_both (gr_both hg03 (row := none) ⟨hal.os, hal.tape, hal.output, hal.size, fun i hi _ => hal.block i hi⟩ (fun q hq => by cases hq)) hg5 hvb
        obtain ⟨ao5, cp5, rfl⟩ := rowL_shape hEf
        have HFE : Hid (w5.ownsRow w.heap.size 39 4 (.slice ao5 (k + 1) cp5) (k + 1) (flat (es ++ [(a0, a1, a2, a3)])) ∧ Cd.Rd w5 r (some zs) ∧ w.grownBy w5 (some r)) := ⟨hEf, hr5, hg05⟩
        clear hxoA hcA hown5 hg5 hat5 hE3 hg03 hr3 e0 e1 e2 e3 hal hEf hr5 hg05 hvb
        go_wp2
        go_roundw
        case rel => first | exact ⟨k + 1, es ++ [(a0, a1, a2, a3)], some zs, by omega, by go_num, HFE.out.1, by simp [hek], HFE.out.2.1, fun ys hy => by cases hy; omega, fun e => (by cases e), HFF.out.symm, HFE.out.2.2, _, _, rfl⟩ | ((repeat apply Exists.intro); exact ⟨⟨k + 1, es ++ [(a0, a1, a2, a3)], some zs, by omega, by go_num, HFE.out.1, by simp [hek], HFE.out.2.1, fun ys hy => by cases hy; omega, fun e => (by cases e), HFF.out.symm, HFE.out.2.2, _, _, rfl⟩, rfl⟩)
        case measure => simp [intOf]; omega
    · obtain rfl : N = k := by omega
      have hltI : ¬ ((N : Int) < (N : Int)) := by omega
      have HFF : Hid (F.1 = es ∧ F.2 = sk) := by
        have := HCB.out
        rw [Nat.sub_self] at this
        unfold combN decN at this
        rw [← this]
        cases sk with
        | none =>
          have := (hnk rfl).1
          have : es = [] := List.eq_nil_of_length_eq_zero (by omega)
          subst this
          exact ⟨rfl, rfl⟩
        | some ys => exact ⟨by simp, rfl⟩
      clear HCB hre
      go_wp2
      go_ret
      rw [HFF.out.1, HFF.out.2]
      exact ⟨_, rfl, by rw [hek]; exact hE, hrk, hgk⟩
end Go.Proofs.YtlaihgdfedalmaaGreat

/-
  A summary out of bytes.
-/
namespace Go.Proofs.YtlaihgdfedalmaaGreat
open Go.RowKit
set_option linter.unusedVariables false
set_option linter.unusedSimpArgs false

def mx : Int := 9223372036854775807
/-- A summary's parts as they are read. -/
structure DS where
  es : List (Lb × List UInt8)
  ls : List Lb
  nx : Nat
  hn : Nat
  hp : Nat
def dE (st : Option (List UInt8)) := decN decE (Cd.rInt st mx).1 (Cd.rInt st mx).2
def dL (st : Option (List UInt8)) := decN decL (Cd.rInt st mx).1 (Cd.rInt st mx).2
def decS (st : Option (List UInt8)) : DS × Option (List UInt8) :=
  (⟨(dE st).1, (dL (dE st).2).1, (Cd.rInt (dL (dE st).2).2 mx).1, (decV (Cd.rInt (dL (dE st).2).2 mx).2).1.1, (decV (Cd.rInt (dL (dE st).2).2 mx).2).1.2⟩, (decV (Cd.rInt (dL (dE st).2).2 mx).2).2)
theorem decN_len {α : Type} (f : Option (List UInt8) → α × Option (List UInt8)) (hf : ∀ st ys, (f st).2 = some ys → ∃ xs, st = some xs ∧ ys.length < xs.length) : ∀ (k : Nat) (st : Option (List UInt8)) (ys : List UInt8), (decN f k st).2 = some ys → ∃ xs, st = some xs ∧ ys.length ≤ xs.length
  | 0, st, ys, h => ⟨ys, h, Nat.le_refl _⟩
  | k + 1, st, ys, h => by
    unfold decN at h
    split at h
    · rename_i a zs h1 h2
      cases h
      obtain ⟨us, h3, h4⟩ := decN_len f hf k _ _ h2
      obtain ⟨xs, h5, h6⟩ := hf _ _ h3
      exact ⟨xs, h5, by omega⟩
    · cases h
theorem dE_len (st : Option (List UInt8)) (ys : List UInt8) (h : (dE st).2 = some ys) : ∃ xs, st = some xs ∧ ys.length ≤ xs.length := by
  obtain ⟨us, h1, h2⟩ := decN_len decE decE_less _ _ _ h
  obtain ⟨xs, h3, h4⟩ := Cd.rInt_len _ _ _ h1
  exact ⟨xs, h3, by omega⟩
theorem noByte_sum (a : Option Addr) (n c : Nat) (b : Option Addr) (m d : Nat) (x y z : Int) : noByte #[.slice a n c, .slice b m d, .int .i64 x, .int .u64 y, .int .i64 z] := by
  intro v hv k
  simp at hv
  rcases hv with rfl | rfl | rfl | rfl | rfl <;> simp
theorem er_row {p : Nat → Prop} {w : World} {ao : Option Addr} {n : Nat} {es : List (Lb × List UInt8)} (h : ER p w ao n es) {g : Nat} (cs : Array Value) (hg : ¬ p g) : ER p (w.setRow g cs) ao n es :=
  h.kp (fun ad v hp hv => (cell_setRow_other _ _ _ _ (fun e => hg (by rw [← e]; exact hp))).trans hv)
theorem er_gr {p : Nat → Prop} {w w' : World} {ao : Option Addr} {n : Nat} {es : List (Lb × List UInt8)} {r : Nat} (h : ER p w ao n es) (g : w.grownBy w' (some r)) (hg : ¬ p r) : ER p w' ao n es :=
  h.kp (fun ad v hp hv => (World.cell?_of_block (a := ad) (g.block _ (World.block_lt_of_cell? w _ hv) (fun e => hg (by cases e; exact hp)))).trans hv)
theorem gr_setRowE (w : World) (g : Nat) (cs : Array Value) : w.grownBy (w.setRow g cs) (some g) := ⟨rfl, rfl, rfl, by simp, fun k hk hne => setRow_other _ _ _ _ (by simpa using hne)⟩
theorem EO.nz {B : Nat} {w : World} {v : Value} {es : List (Lb × List UInt8)} (h : EO B w v es) (ao : Option Addr) (n cap : Nat) (hv : v = .slice ao n cap) (e : ao = none) : n = 0 ∧ cap = 0 := by
  obtain ⟨_, _, ho, _⟩ := h
  rcases id ho.2 with ⟨hn, h3⟩ | ⟨g, cap', cur, hs, _⟩
  · rw [hn] at hv
    simp only [Value.slice.injEq] at hv
    omega
  · rw [hs] at hv
    simp only [Value.slice.injEq] at hv
    rw [e] at hv
    cases hv.1
/-- What readSummary holds of memory. -/
structure Rs (w W : World) (r b : Nat) (c : Array Value) (st : Option (List UInt8)) (ao : Option Addr) (n : Nat) (es : List (Lb × List UInt8)) : Prop where
  rd : Cd.Rd W r st
  ans : W.heap[w.heap.size]? = some (.cells #[.slice none 0 0, .slice none 0 0, .int .i64 0, .int .u64 0, .int .i64 0] 45 (0, 0))
  got : W.heap[b]? = some (.cells c 45 (0, 0))
  gr : w.grownBy W (some r)
  rl : r < w.heap.size
  bl : w.heap.size < b
  er : ER (fun k => w.heap.size < k ∧ k < b) W ao n es
variable {w W W' : World} {r b n : Nat} {c : Array Value} {st st' : Option (List UInt8)} {ao : Option Addr} {es : List (Lb × List UInt8)}
theorem Rs.step (h : Rs w W r b c st ao n es) (hr : Cd.Rd W' r st') (g : W.grownBy W' (some r)) : Rs w W' r b c st' ao n es :=
  have key : ∀ k o, W.heap[k]? = some o → k ≠ r → W'.heap[k]? = some o := fun k o hk hne => (g.block k (Array.getElem?_eq_some_iff.1 hk).1 (by simpa using hne)).trans hk
  { rd := hr, ans := key _ _ h.ans (by have := h.rl; omega), got := key _ _ h.got (by have := h.rl; have := h.bl; omega), gr := Cd.grown_trans h.gr g, rl := h.rl, bl := h.bl, er := er_gr h.er g (fun e => by have := h.rl; omega) }
theorem Rs.set (h : Rs w W r b c st ao n es) (hn : noByte c) (cs : Array Value) : Rs w (W.setRow b cs) r b cs st ao n es :=
  have h1 := h.rl
  have h2 := h.bl
  { rd := rd_setRow h.rd (by omega) h.got hn, ans := (setRow_other _ _ _ _ (by omega)).trans h.ans, got := setRow_heap _ _ _ _ _ _ h.got, gr := gr_row h.gr (by omega) _, rl := h1, bl := h2, er := er_row h.er cs (fun e => by omega) }

set_option maxRecDepth 20000 in
set_option maxHeartbeats 2000000 in
theorem readSummary_rd (w : World) (r : Nat) (st : Option (List UInt8)) (h : Cd.Rd w r st) (hl : ∀ xs, st = some xs → xs.length ≤ 1000000) :
    Calls Tryz.prog 126 #[.pointer (some ⟨r, 0, none⟩)] w fun e w' => ∃ ao ac bo bc, e = .returned (sumv (.slice ao (decS st).1.es.length ac) (.slice bo (decS st).1.ls.length bc) (decS st).1.nx (decS st).1.hn (decS st).1.hp) ∧ ER (fun k => w.heap.size < k) w' ao (decS st).1.es.length (decS st).1.es ∧ LR w' bo (decS st).1.ls.length (decS st).1.ls ∧ ((ao = none → (decS st).1.es.length = 0 ∧ ac = 0) ∧ (bo = none → (decS st).1.ls.length = 0 ∧ bc = 0)) ∧ (decS st).1.ls.length ≤ bc ∧ (∀ a, bo = some a → w.heap.size < a.block) ∧ Cd.Rd w' r (decS st).2 ∧ w.grownBy w' (some r) := by
  have hrl := h.lt
  have h1 := rd_alloc h (.cells #[.slice none 0 0, .slice none 0 0, .int .i64 0, .int .u64 0, .int .i64 0] 45)
  have hE := readEs_rd _ r st h1 hl
  have hL := fun W (hW : Cd.Rd W r (dE st).2) => readLs_rd W r (dE st).2 hW (fun xs hx => by
    obtain ⟨us, h2, h3⟩ := dE_len _ _ hx
    have := hl us h2
    omega)
  have hI := fun W (hW : Cd.Rd W r (dL (dE st).2).2) => Cd.int_rd W r (dL (dE st).2).2 hW 9223372036854775807 (by omega) (by omega)
  have hV := fun W (hW : Cd.Rd W r (Cd.rInt (dL (dE st).2).2 mx).2) => decode_rd W r (Cd.rInt (dL (dE st).2).2 mx).2 hW
  have HDS : Hid (decS st = (⟨(dE st).1, (dL (dE st).2).1, (Cd.rInt (dL (dE st).2).2 mx).1, (decV (Cd.rInt (dL (dE st).2).2 mx).2).1.1, (decV (Cd.rInt (dL (dE st).2).2 mx).2).1.2⟩, (decV (Cd.rInt (dL (dE st).2).2 mx).2).2)) := rfl
  generalize decS st = S at *
  have hE' : Calls Tryz.prog 157 #[.pointer (some ⟨r, 0, none⟩), .func (.func 125) #[] #[]] (w.alloc (.cells #[.slice none 0 0, .slice none 0 0, .int .i64 0, .int .u64 0, .int .i64 0] 45)) (fun e w' => ∃ v, e = .returned v ∧ EO (w.heap.size + 1) w' v (dE st).1 ∧ Cd.Rd w' r (dE st).2 ∧ (w.alloc (.cells #[.slice none 0 0, .slice none 0 0, .int .i64 0, .int .u64 0, .int .i64 0] 45)).grownBy w' (some r)) := by
    refine hE.mono ?_
    rintro e w' ⟨v, q1, q2, q3, q4⟩
    exact ⟨v, q1, by simpa [dE, mx] using q2, q3, q4⟩
  have hL' : ∀ W, Cd.Rd W r (dE st).2 → Calls Tryz.prog 158 #[.pointer (some ⟨r, 0, none⟩), .func (.func 155) #[] #[]] W (fun e w' => ∃ v, e = .returned v ∧ w'.ownsRow W.heap.size 39 4 v (dL (dE st).2).1.length (flat (dL (dE st).2).1) ∧ Cd.Rd w' r (dL (dE st).2).2 ∧ W.grownBy w' (some r)) := hL
  clear hE hL
  generalize dE st = DE at *
  obtain ⟨es, st1⟩ := DE
  simp only at hE' hL' hI hV HDS
  generalize dL st1 = DL at *
  obtain ⟨ls, st2⟩ := DL
  simp only at hL' hI hV HDS
  have hI' : ∀ W, Cd.Rd W r st2 → Calls Tryz.prog 124 #[.pointer (some ⟨r, 0, none⟩), .int .i64 9223372036854775807] W (fun e w' => e = .returned (.int .i64 ((Cd.rInt st2 mx).1 : Nat)) ∧ Cd.Rd w' r (Cd.rInt st2 mx).2 ∧ W.grownBy w' (some r)) := hI
  clear hI
  generalize Cd.rInt st2 mx = RI at *
  obtain ⟨nx, st3⟩ := RI
  simp only at hI' hV HDS
  generalize decV st3 = DV at *
  obtain ⟨⟨hn, hp⟩, st4⟩ := DV
  simp only at hV HDS
  unfold vid at hV
  clear hl h
  go_enter Tryz.func126, Tryz.ntmps126
  go_wp2_with fail
  refine hE'.mono ?_
  rintro e w1 ⟨v, rfl, hEO, hr1, hg1⟩
  have hEO2 := EO.nz hEO
  obtain ⟨ao, ac, rfl, hz, hc, hER⟩ := hEO.er
  have HZ0 : Hid (ao = none → es.length = 0 ∧ ac = 0) := fun e => hEO2 ao es.length ac rfl e
  have hans1 : w1.heap[w.heap.size]? = some (.cells #[.slice none 0 0, .slice none 0 0, .int .i64 0, .int .u64 0, .int .i64 0] 45 (0, 0)) := (hg1.block w.heap.size (by simp) (by simp; omega)).trans (heap_alloc_new _ _)
  have hs1 : w.heap.size < w1.heap.size := (Array.getElem?_eq_some_iff.1 hans1).1
  have R1 : Rs w (w1.alloc (.cells #[.slice ao es.length ac, .slice none 0 0, .int .i64 0, .int .u64 0, .int .i64 0] 45)) r w1.heap.size #[.slice ao es.length ac, .slice none 0 0, .int .i64 0, .int .u64 0, .int .i64 0] st1 ao es.length es :=
    { rd := rd_alloc hr1 _, ans := (Below.heap_alloc _ _ _ hs1).trans hans1, got := heap_alloc_new _ _, gr := Cd.grown_trans (grown_alloc hg1) (gr_of (bl1 _ _) _), rl := hrl, bl := hs1,
      er := ((hER.here).mono (fun k hk => ⟨by have := hk.1; omega, hk.2⟩)).bl (bl1 _ _) }
  have hL1 := hL' _ R1.rd
  have hsW1 : (w1.alloc (.cells #[.slice ao es.length ac, .slice none 0 0, .int .i64 0, .int .u64 0, .int .i64 0] 45)).heap.size = w1.heap.size + 1 := by simp
  rw [hsW1] at hL1
  clear hE' hL' hEO hEO2 hER hg1 hr1 h1 hans1
  go_wp2_with fail
  refine hL1.mono ?_
  rintro e w2 ⟨u, rfl, hu2, hr2, hg2⟩
  obtain ⟨bo, bc, hbv⟩ := rowL_shape hu2
  subst hbv
  have R2 := R1.step hr2 hg2
  have R3 := R2.set (noByte_sum _ _ _ _ _ _ _ _ _) #[.slice ao es.length ac, .slice bo ls.length bc, .int .i64 0, .int .u64 0, .int .i64 0]
  have hu3 := ownL_gr hu2 (gr_setRowE w2 w1.heap.size #[.slice ao es.length ac, .slice bo ls.length bc, .int .i64 0, .int .u64 0, .int .i64 0]) (fun k hk => by cases hk; omega)
  have e3 := setCell_eq_setRow w2 w1.heap.size 1 _ 45 (0, 0) (.slice bo ls.length bc) R2.got
  have f1 := cell_of_row w2 w1.heap.size 1 _ 45 (0, 0) R2.got
  have f2 := frozen_of_row w2 w1.heap.size 1 _ 45 R2.got
  simp at e3 f1
  obtain ⟨W3, hW3⟩ : ∃ W, Hid (w2.setRow w1.heap.size #[.slice ao es.length ac, .slice bo ls.length bc, .int .i64 0, .int .u64 0, .int .i64 0] = W) := ⟨_, rfl⟩
  rw [hW3.out] at R3 hu3 e3
  have hI3 := hI' W3 R3.rd
  clear hL1 R1 R2 hr2 hg2 hu2 hI'
  go_wp2_with fail
  refine hI3.mono ?_
  rintro e w4 ⟨rfl, hr4, hg4⟩
  have R4 := R3.step hr4 hg4
  have hu4 := ownL_gr hu3 hg4 (fun k hk => by cases hk; omega)
  have R5 := R4.set (noByte_sum _ _ _ _ _ _ _ _ _) #[.slice ao es.length ac, .slice bo ls.length bc, .int .i64 (nx : Nat), .int .u64 0, .int .i64 0]
  have hu5 := ownL_gr hu4 (gr_setRowE w4 w1.heap.size #[.slice ao es.length ac, .slice bo ls.length bc, .int .i64 (nx : Nat), .int .u64 0, .int .i64 0]) (fun k hk => by cases hk; omega)
  have e5 := setCell_eq_setRow w4 w1.heap.size 2 _ 45 (0, 0) (.int .i64 (nx : Nat)) R4.got
  have f3 := cell_of_row w4 w1.heap.size 2 _ 45 (0, 0) R4.got
  have f4 := frozen_of_row w4 w1.heap.size 2 _ 45 R4.got
  simp at e5 f3
  obtain ⟨W5, hW5⟩ : ∃ W, Hid (w4.setRow w1.heap.size #[.slice ao es.length ac, .slice bo ls.length bc, .int .i64 (nx : Nat), .int .u64 0, .int .i64 0] = W) := ⟨_, rfl⟩
  rw [hW5.out] at R5 hu5 e5
  have hV5 := hV W5 R5.rd
  clear hI3 R3 R4 hr4 hg4 hu3 hu4 hV e3 f1 f2
  go_wp2_with fail
  refine hV5.mono ?_
  rintro e w6 ⟨rfl, hr6, hg6⟩
  have R6 := R5.step hr6 hg6
  have hu6 := ownL_gr hu5 hg6 (fun k hk => by cases hk; omega)
  have R7 := R6.set (noByte_sum _ _ _ _ _ _ _ _ _) #[.slice ao es.length ac, .slice bo ls.length bc, .int .i64 (nx : Nat), .int .u64 (hn : Nat), .int .i64 0]
  have R8 := R7.set (noByte_sum _ _ _ _ _ _ _ _ _) #[.slice ao es.length ac, .slice bo ls.length bc, .int .i64 (nx : Nat), .int .u64 (hn : Nat), .int .i64 (hp : Nat)]
  have hu7 := ownL_gr hu6 (gr_setRowE w6 w1.heap.size #[.slice ao es.length ac, .slice bo ls.length bc, .int .i64 (nx : Nat), .int .u64 (hn : Nat), .int .i64 0]) (fun k hk => by cases hk; omega)
  have hu8 := ownL_gr hu7 (gr_setRowE _ w1.heap.size #[.slice ao es.length ac, .slice bo ls.length bc, .int .i64 (nx : Nat), .int .u64 (hn : Nat), .int .i64 (hp : Nat)]) (fun k hk => by cases hk; omega)
  have e7 := setCell_eq_setRow w6 w1.heap.size 3 _ 45 (0, 0) (.int .u64 (hn : Nat)) R6.got
  have e8 := setCell_eq_setRow _ w1.heap.size 4 _ 45 (0, 0) (.int .i64 (hp : Nat)) R7.got
  have f5 := cell_of_row w6 w1.heap.size 3 _ 45 (0, 0) R6.got
  have f6 := frozen_of_row w6 w1.heap.size 3 _ 45 R6.got
  have f7 := cell_of_row _ w1.heap.size 4 _ 45 (0, 0) R7.got
  have f8 := frozen_of_row _ w1.heap.size 4 _ 45 R7.got
  have f9 := cell_of_row w6 w1.heap.size 4 _ 45 (0, 0) R6.got
  have f10 := frozen_of_row w6 w1.heap.size 4 _ 45 R6.got
  have hans8 := R8.ans
  have kk := fun j => cell_of_row _ w1.heap.size j _ 45 (0, 0) R8.got
  have k0 := kk 0
  have k1 := kk 1
  have k2 := kk 2
  have k3 := kk 3
  have k4 := kk 4
  simp at e7 e8 f5 f7 f9
  simp only [List.getElem?_toArray, List.getElem?_cons_zero, List.getElem?_cons_succ] at k0 k1 k2 k3 k4
  rw [setRow_setRow] at e8 k0 k1 k2 k3 k4 hans8 R8 hu8
  obtain ⟨W8, hW8⟩ : ∃ W, Hid (w6.setRow w1.heap.size #[.slice ao es.length ac, .slice bo ls.length bc, .int .i64 (nx : Nat), .int .u64 (hn : Nat), .int .i64 (hp : Nat)] = W) := ⟨_, rfl⟩
  rw [hW8.out] at e8 k0 k1 k2 k3 k4 hans8 R8 hu8
  have hrl8 := R8.rl
  have hbl8 := R8.bl
  have HFIN : Hid (∃ ao' ac' bo' bc', Ending.returned (.agg #[.slice ao es.length ac, .slice bo ls.length bc, .int .i64 (nx : Nat), .int .u64 (hn : Nat), .int .i64 (hp : Nat)]) = .returned (sumv (.slice ao' S.1.es.length ac') (.slice bo' S.1.ls.length bc') S.1.nx S.1.hn S.1.hp) ∧ ER (fun k => w.heap.size < k) (W8.setRow w.heap.size #[.slice ao es.length ac, .slice bo ls.length bc, .int .i64 (nx : Nat), .int .u64 (hn : Nat), .int .i64 (hp : Nat)]) ao' S.1.es.length S.1.es ∧ LR (W8.setRow w.heap.size #[.slice ao es.length ac, .slice bo ls.length bc, .int .i64 (nx : Nat), .int .u64 (hn : Nat), .int .i64 (hp : Nat)]) bo' S.1.ls.length S.1.ls ∧ ((ao' = none → S.1.es.length = 0 ∧ ac' = 0) ∧ (bo' = none → S.1.ls.length = 0 ∧ bc' = 0)) ∧ S.1.ls.length ≤ bc' ∧ (∀ a, bo' = some a → w.heap.size < a.block) ∧ Cd.Rd (W8.setRow w.heap.size #[.slice ao es.length ac, .slice bo ls.length bc, .int .i64 (nx : Nat), .int .u64 (hn : Nat), .int .i64 (hp : Nat)]) r S.2 ∧ w.grownBy (W8.setRow w.heap.size #[.slice ao es.length ac, .slice bo ls.length bc, .int .i64 (nx : Nat), .int .u64 (hn : Nat), .int .i64 (hp : Nat)]) (some r)) := by
    rw [HDS.out]
    have hu9 := ownL_gr hu8 (gr_setRowE W8 w.heap.size #[.slice ao es.length ac, .slice bo ls.length bc, .int .i64 (nx : Nat), .int .u64 (hn : Nat), .int .i64 (hp : Nat)]) (fun k hk => by cases hk; omega)
    obtain ⟨bo2, bc2, hv2, hLR⟩ := LR.own hu9
    simp only [Value.slice.injEq] at hv2
    obtain ⟨rfl, _, rfl⟩ := hv2
    refine ⟨ao, ac, bo, bc, rfl, (er_row R8.er _ (fun e => by omega)).mono (fun k hk => hk.1), hLR, ?_, ?_, ?_, rd_setRow R8.rd (by omega) R8.ans (noByte_sum _ _ _ _ _ _ _ _ _), gr_row R8.gr (Nat.le_refl _) _⟩
    · refine ⟨HZ0.out, fun e => ?_⟩
      rcases hu9.2 with ⟨h1, h0⟩ | ⟨g, cap, cur, h1, _⟩
      · simp only [Value.slice.injEq] at h1
        exact ⟨h0, h1.2.2⟩
      · rw [e] at h1; cases h1
    · rcases hu9.2 with ⟨h1, h0⟩ | ⟨g, cap, cur, h1, _, _, h2, _⟩
      · show ls.length ≤ bc
        omega
      · cases h1
        exact h2
    · intro a e
      rcases hu9.2 with ⟨h1, h0⟩ | ⟨g, cap, cur, h1, h2, _⟩
      · rw [e] at h1; cases h1
      · rw [e] at h1
        cases h1
        show w.heap.size < g
        omega
  have cR := fun j => cell_setRow_same W8 w.heap.size j _ #[.slice ao es.length ac, .slice bo ls.length bc, .int .i64 (nx : Nat), .int .u64 (hn : Nat), .int .i64 (hp : Nat)] _ _ hans8
  have c0 := cR 0
  have c1 := cR 1
  have c2 := cR 2
  have c3 := cR 3
  have c4 := cR 4
  simp only [List.getElem?_toArray, List.getElem?_cons_zero, List.getElem?_cons_succ] at c0 c1 c2 c3 c4
  clear hV5 R5 R6 R7 R8 hr6 hg6 hu5 hu6 hu7 hu8 e5 f3 f4 cR kk HDS
  go_wp2_with (first | (refine wpList_store_row rfl 45 (.tmp 2) (.tmp 19) rfl w.heap.size #[.slice ao es.length ac, .slice bo ls.length bc, .int .i64 (nx : Nat), .int .u64 (hn : Nat), .int .i64 (hp : Nat)] rfl rfl 45 _ hans8 infoS38 rfl (by simp [Value.oneCell']) ?_))
  refine bodyPost_ret (v := .agg #[.slice ao es.length ac, .slice bo ls.length bc, .int .i64 (nx : Nat), .int .u64 (hn : Nat), .int .i64 (hp : Nat)]) ?_ rfl HFIN.out
  simp [results, Tryz.results126, go_sem, c0, c1, c2, c3, c4]
end Go.Proofs.YtlaihgdfedalmaaGreat

/-
  Package total's Summary.
-/
namespace Go.Proofs.YtlaihgdfedalmaaGreat
open Go.RowKit Go.Sort Go.Conc
set_option linter.unusedVariables false
set_option linter.unusedSimpArgs false

theorem lr_of_rw {w : World} {v : Value} {n : Nat} {ls : List Lb} (h : Rw w 39 4 v n (flat ls)) : ∃ ao cap, v = .slice ao n cap ∧ LR w ao n ls ∧ (ao = none → n = 0 ∧ cap = 0) ∧ ∀ a, ao = some a → v.ownBlock = some a.block := by
  have hl : ls.length = n := by have := h.1; rw [flat_len] at this; omega
  have h' := h
  obtain ⟨h0, h1, ao, cap, rfl, hm, ⟨rfl, rfl, rfl⟩ | ⟨b, off, N, f, rfl, hr, h2, h3, h4⟩⟩ := h
  · exact ⟨none, 0, rfl, ⟨hl, by omega, fun e => by omega⟩, fun _ => ⟨rfl, rfl⟩, fun a e => by cases e⟩
  · refine ⟨_, cap, rfl, ⟨hl, by unfold maxLen at hm; omega, fun hn => ⟨b, off, rfl, fun j x hj => ?_⟩⟩, (fun e => by cases e), (fun a e => by cases e; rfl)⟩
    have hcell : ∀ i, i < 4 → w.cell? ⟨b, off + j * 4 + i, none⟩ = (cellsL x)[i]? := fun i hi => by
      have e := flat_get ls j x i hj hi
      have hlt : i < (cellsL x).length := by simpa [cellsL] using hi
      rw [List.getElem?_eq_getElem hlt] at e ⊢
      obtain ⟨_, b', off', e1, _, e2⟩ := h'.cell e
      cases e1
      rw [show off + j * 4 + i = off + (4 * j + i) by omega]
      exact e2
    exact ⟨hcell 0 (by omega), hcell 1 (by omega), hcell 2 (by omega), hcell 3 (by omega)⟩
theorem lr_rowS {w : World} {ao : Option Addr} {n : Nat} {ls : List Lb} (h : LR w ao n ls) {g : Nat} (cs : Array Value) (hg : ∀ a, ao = some a → a.block ≠ g) : LR (w.setRow g cs) ao n ls :=
  h.of_cells (fun ad v e hv => (cell_setRow_other _ _ _ _ (fun e2 => by
    cases ao with
    | none => simp at e
    | some a =>
      simp at e
      exact hg a rfl (by rw [e]; exact e2))).trans hv)
def S5s (q : Nat) (v10 v11 v13 v15 v16 : Value) (W : World) : Prop := W.cell? ⟨q, 10, none⟩ = some v10 ∧ W.cell? ⟨q, 11, none⟩ = some v11 ∧ W.cell? ⟨q, 13, none⟩ = some v13 ∧ W.cell? ⟨q, 15, none⟩ = some v15 ∧ W.cell? ⟨q, 16, none⟩ = some v16
/-- A summary in new memory. -/
def SumPost (w : World) (es : List En) (ls : List Lb) (nx : Int) (hn : Nat) (hp : Int) (e : Ending) (w' : World) : Prop := ∃ ca cc oa oc, e = .returned (sumv (.slice ca es.length cc) (.slice oa ls.length oc) nx hn hp) ∧ ER (fun k => w.heap.size < k) w' ca es.length es ∧ LR w' oa ls.length ls ∧ ((ca = none → es.length = 0 ∧ cc = 0) ∧ (oa = none → ls.length = 0 ∧ oc = 0) ∧ ∀ a, oa = some a → w.heap.size < a.block) ∧ Below w.heap.size w w'
set_option maxRecDepth 10000 in
set_option maxHeartbeats 1000000 in
theorem summary_any {w : World} {col : Nat → Nat} {Z : Nat → Prop} {q : Nat} {T : Tot} {a : Ta} (h : Tt w col Z q T a) (hK : T.K ≤ 100000) (hml : ∀ e ∈ T.con, e.2.length ≤ 140737488355328) (hol : T.ord.length ≤ 5000) :
    Calls Tryz.prog 36 #[.pointer (some ⟨q, 0, none⟩)] w (SumPost w T.con T.ord T.nx T.hn T.hp) := by
  have u0 : Below w.heap.size w (w.alloc (.cells Zs 45)) := bl1 _ _
  have hg0 : (w.alloc (.cells Zs 45)).heap[w.heap.size]? = some (.cells Zs 45 (0, 0)) := heap_alloc_new w _
  have hql : q < w.heap.size := h.d.lt q (by rw [h.fq]; omega)
  obtain ⟨ov, oc, hov, hLR0, hz0, hob⟩ := lr_of_rw h.d.od
  have HS : Hid (∀ W, Below w.heap.size w W → S5s q (.map (some a.cb)) (.slice ov T.ord.length oc) (.int .i64 T.nx) (.int .u64 (T.hn : Nat)) (.int .i64 T.hp) W) := fun W u => ⟨(h.still u).cell 10 (by omega), ((h.still u).cell 11 (by omega)).trans (by show some a.ov = _; rw [hov]), (h.still u).cell 13 (by omega), (h.still u).cell 15 (by omega), (h.still u).cell 16 (by omega)⟩
  have HL : Hid (∀ W, Below w.heap.size w W → Calls Tryz.prog 77 #[.map (some a.cb)] W (fun e w' => ∃ v B, e = .returned v ∧ W.heap.size ≤ B ∧ EO B w' v T.con ∧ Below W.heap.size W w')) := fun W u => by
    obtain ⟨m, c1, c2, _⟩ := (h.still u).d.con
    exact list_any W a.cb T.K m T.con c1 hK c2 hml
  have HO : Hid (∀ W, Below w.heap.size w W → Calls Tryz.prog 78 #[.pointer (some ⟨q, 11, none⟩)] W (fun e w' => ∃ v, e = .returned v ∧ w'.ownsRow W.heap.size 39 4 v T.ord.length (flat T.ord) ∧ Below W.heap.size W w')) := fun W u =>
    lineList_any W q 11 ov T.ord.length oc T.ord (HS.out W u).2.1 (hLR0.up u) hol (fun e => (hz0 e).1)
  clear hLR0 hz0 hob hov
  have hs0 := HS.out _ u0.drew
  have hl0 := HL.out _ u0.drew
  clear h HL
  unfold Zs at u0 hg0 hs0 hl0
  go_enter Tryz.func36, Tryz.ntmps36
  go_wp2_with fail
  refine wp_region_noPanic ?_
  refine wp_region_held_drew (S := S5s q (.map (some a.cb)) (.slice ov T.ord.length oc) (.int .i64 T.nx) (.int .u64 (T.hn : Nat)) (.int .i64 T.hp)) (by kernel_rfl) (hs0) (fun hHeld => ?_)
  unfold S5s at hHeld
  refine tq 0 ?_
  refine tq 1 ?_
  refine tq 2 ?_
  refine tq 3 ?_
  refine tq 5 ?_
  refine tq 6 ?_
  refine tq 7 ?_
  refine tq 9 ?_
  refine tq 10 ?_
  refine tq 11 ?_
  refine tq 12 ?_
  refine tq 13 ?_
  refine tq 14 ?_
  refine tq 15 ?_
  refine tq 16 ?_
  refine comes_up 4 rfl (by kernel_rfl) (fun K hK => ?_)
  go_simp
  refine hl0.mono ?_
  rintro e w1 ⟨v, B, rfl, hB, hEO, u1⟩
  have uw1 : Below w.heap.size w w1 := bl_step u0.drew u1
  have hs1 := HS.out w1 uw1
  have ho1 := HO.out w1 uw1
  have hnz := hEO.nz
  obtain ⟨ca, cc, rfl, -, -, hER⟩ := hEO.er
  have hg1 := (u1.block w.heap.size (by simp)).trans hg0
  have hsz1 : w.heap.size < w1.heap.size := (Array.getElem?_eq_some_iff.1 hg1).1
  have hER1 : ER (fun k => w.heap.size < k ∧ k < w1.heap.size) w1 ca T.con.length T.con := hER.here.mono (fun k hk => ⟨by have := hk.1; simp at hB; omega, hk.2⟩)
  have hz1 : ca = none → T.con.length = 0 ∧ cc = 0 := fun e => hnz ca _ cc rfl e
  clear hl0 hEO hER hnz HO hg0
  go_wp2_with fail
  refine hK.out _ _ (hs1) (fun hHeld => ?_)
  clear hK K
  (try simp only [Act.put, List.setIfInBounds_toArray, List.set_cons_zero, List.set_cons_succ])
  refine comes_up 8 rfl (by kernel_rfl) (fun K hK => ?_)
  go_simp
  refine ho1.mono ?_
  rintro e w2 ⟨v, rfl, hro, u2⟩
  have uw2 : Below w.heap.size w w2 := bl_step uw1 u2
  have hs2 := HS.out w2 uw2
  obtain ⟨oa, oc2, rfl, hLR2, hz2⟩ := LR.own2 hro
  have hb2 : ∀ a, oa = some a → w.heap.size < a.block := fun a e => by
    rcases hro.2 with ⟨h1, h0⟩ | ⟨g, cap, cur, h1, h2, _⟩
    · rw [e] at h1; cases h1
    · rw [e] at h1; cases h1; show w.heap.size < g; omega
  have hg2 := (u2.block w.heap.size hsz1).trans hg1
  have hER2 := (hER1.bl u2).mono (fun k hk => hk.1)
  have uw3 : Below w.heap.size w (w2.setRow w.heap.size #[.slice ca T.con.length cc, .slice oa T.ord.length oc2, .int .i64 T.nx, .int .u64 (T.hn : Nat), .int .i64 T.hp]) := bl_rowL uw2 (Nat.le_refl _) _
  have hs3 := HS.out _ uw3
  have HF : Hid (SumPost w T.con T.ord T.nx T.hn T.hp (.returned (.agg #[.slice ca T.con.length cc, .slice oa T.ord.length oc2, .int .i64 T.nx, .int .u64 (T.hn : Nat), .int .i64 T.hp])) (w2.setRow w.heap.size #[.slice ca T.con.length cc, .slice oa T.ord.length oc2, .int .i64 T.nx, .int .u64 (T.hn : Nat), .int .i64 T.hp])) :=
    ⟨ca, cc, oa, oc2, rfl, er_row hER2 _ (fun e => by omega), lr_rowS hLR2 _ (fun a e => by have := hb2 a e; omega), ⟨hz1, hz2, hb2⟩, uw3⟩
  have cR := fun j => cell_setRow_same w2 w.heap.size j _ #[.slice ca T.con.length cc, .slice oa T.ord.length oc2, .int .i64 T.nx, .int .u64 (T.hn : Nat), .int .i64 T.hp] _ _ hg2
  have k0 := cR 0
  have k1 := cR 1
  have k2 := cR 2
  have k3 := cR 3
  have k4 := cR 4
  simp only [List.getElem?_toArray, List.getElem?_cons_zero, List.getElem?_cons_succ] at k0 k1 k2 k3 k4
  clear ho1 hro hER1 hER2 hLR2 hz1 hz2 hb2 uw1 uw2 uw3 u1 u2 hg1 cR HS
  go_wp2_with fail
  refine hK.out _ _ (hs2) (fun hHeld => ?_)
  clear hK K
  (try simp only [Act.put, List.setIfInBounds_toArray, List.set_cons_zero, List.set_cons_succ])
  refine tq 17 ?_
  refine comes_up 18 rfl (by kernel_rfl) (fun K hK => ?_)
  refine step_store_row rfl 45 (.tmp 2) (.tmp 23) rfl w.heap.size #[.slice ca T.con.length cc, .slice oa T.ord.length oc2, .int .i64 T.nx, .int .u64 (T.hn : Nat), .int .i64 T.hp] rfl rfl 45 _ hg2 infoS38 rfl (by simp [Value.oneCell']) ?_
  refine hK.out _ _ (hs3) (fun hHeld => ?_)
  clear hK K
  (try simp only [Act.put, List.setIfInBounds_toArray, List.set_cons_zero, List.set_cons_succ])
  refine wpAnyH_done (by kernel_rfl) ?_ _
  refine NoPanic.normal ?_
  clear hHeld hs0 hs1 hs2 hs3 hg2
  go_wp2
  refine bodyPost_ret (v := .agg #[.slice ca T.con.length cc, .slice oa T.ord.length oc2, .int .i64 T.nx, .int .u64 (T.hn : Nat), .int .i64 T.hp]) ?_ rfl HF.out
  simp [results, Tryz.results36, go_sem, k0, k1, k2, k3, k4]
end Go.Proofs.YtlaihgdfedalmaaGreat

/-
  Package total's confirm: next goes on as far as labels are safe.
-/
namespace Go.Proofs.YtlaihgdfedalmaaGreat
open Go.RowKit Go.Sort Go.Conc
set_option linter.unusedVariables false
set_option linter.unusedSimpArgs false

def confN (ord safe : List Lb) : Nat → Int → Int
  | 0, p => p
  | f + 1, p => match atL ord p with
    | some l => if l ∈ safe then confN ord safe f (p + 1) else p
    | none => p
/-- How far next goes on. -/
def conf (ord safe : List Lb) (p : Int) : Int := confN ord safe ((ord.length : Int) + 1 - p).toNat p
theorem atL_some {ord : List Lb} {p : Int} {l : Lb} (h : atL ord p = some l) : 1 ≤ p ∧ p ≤ (ord.length : Int) := by
  unfold atL at h
  split at h
  · cases h
  · have := (List.getElem?_eq_some_iff.1 h).1
    omega
theorem conf_none {ord safe : List Lb} {p : Int} (h : atL ord p = none) : conf ord safe p = p := by
  unfold conf
  cases ((ord.length : Int) + 1 - p).toNat with
  | zero => rfl
  | succ f => unfold confN; rw [h]
theorem conf_stop {ord safe : List Lb} {p : Int} {l : Lb} (h : atL ord p = some l) (hn : l ∉ safe) : conf ord safe p = p := by
  unfold conf
  cases ((ord.length : Int) + 1 - p).toNat with
  | zero => rfl
  | succ f => unfold confN; rw [h]; simp only; rw [if_neg hn]
theorem conf_go {ord safe : List Lb} {p : Int} {l : Lb} (h : atL ord p = some l) (hn : l ∈ safe) : conf ord safe p = conf ord safe (p + 1) := by
  have := atL_some h
  unfold conf
  rw [show ((ord.length : Int) + 1 - p).toNat = ((ord.length : Int) + 1 - (p + 1)).toNat + 1 by omega]
  conv => lhs; unfold confN
  rw [h]; simp only; rw [if_pos hn]
def Tot.confirm (T : Tot) : Tot := { T with nx := conf T.ord T.safe T.nx }
theorem Tt.setNx {w : World} {col : Nat → Nat} {Z : Nat → Prop} {q : Nat} {T : Tot} {a : Ta} (h : Tt w col Z q T a) (p : Int) : Tt (w.setCell ⟨q, 13, none⟩ (.int .i64 p)) col Z q { T with nx := p } a :=
  h.setc 13 _ (fun j hj => by unfold tcell; split <;> simp_all) (by omega) (fun W d => ⟨d.ch, d.con, d.am, d.sa, d.bu, d.od, d.tl, d.cc, d.ccb, d.cab, d.csb, d.cbv, d.cov, d.ctv, d.lt, d.zf, d.zl⟩)
def S1c (q : Nat) (p : Int) (W : World) : Prop := W.cell? ⟨q, 13, none⟩ = some (.int .i64 p) ∧ W.cell? ⟨q, 13, none⟩ = some (.int .i64 p)
def S6c (q B sb : Nat) (b0 b1 b2 b3 : Value) (r : Bool) (W : World) : Prop := W.cell? ⟨q, 19, none⟩ = some (.map (some sb)) ∧ W.cell? ⟨B, 0, none⟩ = some b0 ∧ W.cell? ⟨B, 1, none⟩ = some b1 ∧ W.cell? ⟨B, 2, none⟩ = some b2 ∧ W.cell? ⟨B, 3, none⟩ = some b3 ∧ (Instr.lookup 96 (.map (some sb)) (.agg #[b0, b1, b2, b3]) true).run Tryz.prog W = .ok (.tuple #[.agg #[], .bool r]) W
/-- The order's label at a place, asked of the node. -/
theorem Tt.at {w : World} {col : Nat → Nat} {Z : Nat → Prop} {q : Nat} {T : Tot} {a : Ta} (h : Tt w col Z q T a) {p : Int} (hp : In p) : Calls Tryz.prog 73 #[.pointer (some ⟨q, 11, none⟩), .int .i64 p] w fun e w' => e = .returned (.tuple #[lab ((atL T.ord p).getD (0, 0, 0, 0)), .bool (atL T.ord p).isSome]) ∧ Below w.heap.size w w' := by
  obtain ⟨ao, cap, hv, hL, _, _⟩ := lr_of_rw h.d.od
  have hc := h.cell 11 (by omega)
  simp only [tcell, hv] at hc
  exact at_any w q 11 ao T.ord.length cap T.ord hc hL p hp
def nxOf (q : Nat) (wr : World) : Int := match wr.cell? ⟨q, 13, none⟩ with
  | some (.int _ n) => n
  | _ => 0
structure Cf (w : World) (col : Nat → Nat) (Z : Nat → Prop) (q : Nat) (T : Tot) (a : Ta) (p : Int) (g : Nat) (wr : World) : Prop where
  t : Tt wr col Z q { T with nx := p } a
  gt : Gt w col wr col
  b : ∃ y : Lb, y = (atL T.ord p).getD (0, 0, 0, 0) ∧ wr.heap[g]? = some (.cells #[.int .u64 (y.1 : Nat), .int .i64 y.2.1, .int .u64 (y.2.2.1 : Nat), .int .i64 y.2.2.2] 39 (0, 0))
  c : conf T.ord T.safe p = conf T.ord T.safe T.nx
  i : In p
  gn : w.heap.size ≤ g
set_option maxRecDepth 10000 in
set_option maxHeartbeats 2000000 in
theorem confirm_any (w : World) (col : Nat → Nat) (Z : Nat → Prop) (q : Nat) (T : Tot) (a : Ta) (h : Tt w col Z q T a) (hol : T.ord.length ≤ 5000) (hnx : In T.nx) (ho : ∀ x ∈ T.ord, OkL x) :
    Calls Tryz.prog 72 #[.pointer (some ⟨q, 0, none⟩)] w fun e w' => e = .returned (.tuple #[]) ∧ LabPost w col Z q T.confirm w' := by
  have hql : q < w.heap.size := h.d.lt q (by rw [h.fq]; omega)
  obtain ⟨R, hR⟩ : ∃ R, T.confirm = R := ⟨_, rfl⟩
  have HR : Hid (T.confirm = R) := hR
  rw [hR]
  have hs0 : S1c q T.nx w.drew := ⟨h.cell 13 (by omega), h.cell 13 (by omega)⟩
  have hat := (h.still (Below.refl _ w).drew).at hnx
  obtain ⟨y, hy⟩ : ∃ y, (atL T.ord T.nx).getD (0, 0, 0, 0) = y := ⟨_, rfl⟩
  obtain ⟨r, hr⟩ : ∃ r, (atL T.ord T.nx).isSome = r := ⟨_, rfl⟩
  rw [hy, hr] at hat
  have HY : Hid ((atL T.ord T.nx).getD (0, 0, 0, 0) = y ∧ (atL T.ord T.nx).isSome = r) := ⟨hy, hr⟩
  have HT : Hid (Tt w col Z q T a ∧ T.ord.length ≤ 5000 ∧ In T.nx ∧ ∀ x ∈ T.ord, OkL x) := ⟨h, hol, hnx, ho⟩
  unfold lab at hat
  clear h hR hy hr hol hnx ho
  go_enter Tryz.func72, Tryz.ntmps72
  go_upto_region 0 with fail
  go_cut [2, 3] from 6 to 16 (fun v2 v3 wx => ∃ g : Nat, v2 = .pointer (some ⟨g, 0, none⟩) ∧ v3 = .bool r ∧ Hid (Cf w col Z q T a T.nx g wx))
  case first =>
    refine wp_region_noPanic ?_
    refine wp_region_held_drew (S := S1c q T.nx) (by kernel_rfl) (hs0) (fun hHeld => ?_)
    unfold S1c at hHeld
    refine tq 0 ?_
    refine tq 1 ?_
    refine tq 2 ?_
    refine tq 3 ?_
    refine tq 4 ?_
    refine tq 5 ?_
    refine tq 6 ?_
    have uA : Below w.heap.size w (w.alloc (.cells #[.int .u64 0, .int .i64 0, .int .u64 0, .int .i64 0] 39)).drew := (bl1 _ _).drew
    have hsA : S1c q T.nx (w.alloc (.cells #[.int .u64 0, .int .i64 0, .int .u64 0, .int .i64 0] 39)).drew := ⟨bl_cell (w := w) uA (by exact hs0.1), bl_cell (w := w) uA (by exact hs0.1)⟩
    refine comes_up2 7 11 rfl rfl (by kernel_rfl) (fun K hK => ?_) (fun K hK => ?_)
    · go_simp
      refine hat.mono ?_
      rintro e w1 ⟨rfl, u1'⟩
      have u1 : Below w.heap.size w w1 := ⟨u1'.os, u1'.tape, u1'.output, u1'.size, u1'.block⟩
      have hs1 : S1c q T.nx w1 := ⟨bl_cell u1 (by exact hs0.1), bl_cell u1 (by exact hs0.1)⟩
      clear hat u1' hsA uA
      go_wp2_with fail
      refine hK.out _ _ (hs1) (fun hHeld => ?_)
      clear hK K
      (try simp only [Act.put, List.setIfInBounds_toArray, List.set_cons_zero, List.set_cons_succ])
      refine tq 8 ?_
      refine tq 9 ?_
      refine tq 10 ?_
      refine comes_up 11 rfl (by kernel_rfl) (fun K hK => ?_)
      go_simp
      have uA : Below w.heap.size w (w1.alloc (.cells #[.int .u64 0, .int .i64 0, .int .u64 0, .int .i64 0] 39)) := u1.alloc u1.size _
      have hsA : S1c q T.nx (w1.alloc (.cells #[.int .u64 0, .int .i64 0, .int .u64 0, .int .i64 0] 39)) := ⟨bl_cell uA (by exact hs0.1), bl_cell uA (by exact hs0.1)⟩
      have hBA : (w1.alloc (.cells #[.int .u64 0, .int .i64 0, .int .u64 0, .int .i64 0] 39)).heap[w1.heap.size]? = some (.cells #[.int .u64 0, .int .i64 0, .int .u64 0, .int .i64 0] 39 (0, 0)) := heap_alloc_new w1 _
      refine hK.out _ _ (hsA) (fun hHeld => ?_)
      clear hK K
      (try simp only [Act.put, List.setIfInBounds_toArray, List.set_cons_zero, List.set_cons_succ])
      refine comes_up 12 rfl (by kernel_rfl) (fun K hK => ?_)
      refine step_store_row rfl 39 (.tmp 2) (.tmp 15) rfl w1.heap.size #[.int .u64 (y.1 : Nat), .int .i64 y.2.1, .int .u64 (y.2.2.1 : Nat), .int .i64 y.2.2.2] rfl rfl 39 _ hBA infoS39 rfl (by simp [Value.oneCell']) ?_
      have uB : Below w.heap.size w ((w1.alloc (.cells #[.int .u64 0, .int .i64 0, .int .u64 0, .int .i64 0] 39)).setRow w1.heap.size #[.int .u64 (y.1 : Nat), .int .i64 y.2.1, .int .u64 (y.2.2.1 : Nat), .int .i64 y.2.2.2]) := bl_rowL uA u1.size _
      have hsB : S1c q T.nx ((w1.alloc (.cells #[.int .u64 0, .int .i64 0, .int .u64 0, .int .i64 0] 39)).setRow w1.heap.size #[.int .u64 (y.1 : Nat), .int .i64 y.2.1, .int .u64 (y.2.2.1 : Nat), .int .i64 y.2.2.2]) := ⟨bl_cell uB (by exact hs0.1), bl_cell uB (by exact hs0.1)⟩
      have hBB := setRow_heap _ w1.heap.size _ #[.int .u64 (y.1 : Nat), .int .i64 y.2.1, .int .u64 (y.2.2.1 : Nat), .int .i64 y.2.2.2] _ _ hBA
      refine hK.out _ _ (hsB) (fun hHeld => ?_)
      clear hK K
      (try simp only [Act.put, List.setIfInBounds_toArray, List.set_cons_zero, List.set_cons_succ])
      refine tq 13 ?_
      refine wpAnyH_done (by kernel_rfl) ?_ _
      refine NoPanic.normal ?_
      have HI : Hid (Cf w col Z q T a T.nx w1.heap.size ((w1.alloc (.cells #[.int .u64 0, .int .i64 0, .int .u64 0, .int .i64 0] 39)).setRow w1.heap.size #[.int .u64 (y.1 : Nat), .int .i64 y.2.1, .int .u64 (y.2.2.1 : Nat), .int .i64 y.2.2.2])) := ⟨HT.out.1.still uB, Gt.bl col uB, ⟨y, HY.out.1.symm, hBB⟩, rfl, HT.out.2.2.1, u1.size⟩
      clear hHeld hs0 hs1 hsA hsB uA uB hBA hBB u1 HY
      go_wp2_with fail
      go_meet
      exact ⟨_, rfl, rfl, HI⟩
    · go_simp
      refine hK.out _ _ (hsA) (fun hHeld => ?_)
      clear hK K
      (try simp only [Act.put, List.setIfInBounds_toArray, List.set_cons_zero, List.set_cons_succ])
      have hBA : (w.alloc (.cells #[.int .u64 0, .int .i64 0, .int .u64 0, .int .i64 0] 39)).drew.heap[w.heap.size]? = some (.cells #[.int .u64 0, .int .i64 0, .int .u64 0, .int .i64 0] 39 (0, 0)) := heap_alloc_new w _
      have hat2 := (HT.out.1.still uA).at HT.out.2.2.1
      rw [HY.out.1, HY.out.2] at hat2
      unfold lab at hat2
      refine comes_up 7 rfl (by kernel_rfl) (fun K hK => ?_)
      go_simp
      refine hat2.mono ?_
      rintro e w1 ⟨rfl, u1'⟩
      have u1 : Below w.heap.size w w1 := bl_step uA u1'
      have hs1 : S1c q T.nx w1 := ⟨bl_cell u1 (by exact hs0.1), bl_cell u1 (by exact hs0.1)⟩
      have hB1 : w1.heap[w.heap.size]? = some (.cells #[.int .u64 0, .int .i64 0, .int .u64 0, .int .i64 0] 39 (0, 0)) := (u1'.block _ (by show w.heap.size < (w.alloc _).heap.size; simp)).trans hBA
      clear hat hat2 u1' hsA uA hBA
      go_wp2_with fail
      refine hK.out _ _ (hs1) (fun hHeld => ?_)
      clear hK K
      (try simp only [Act.put, List.setIfInBounds_toArray, List.set_cons_zero, List.set_cons_succ])
      refine tq 8 ?_
      refine tq 9 ?_
      refine tq 10 ?_
      refine comes_up 12 rfl (by kernel_rfl) (fun K hK => ?_)
      refine step_store_row rfl 39 (.tmp 2) (.tmp 15) rfl w.heap.size #[.int .u64 (y.1 : Nat), .int .i64 y.2.1, .int .u64 (y.2.2.1 : Nat), .int .i64 y.2.2.2] rfl rfl 39 _ hB1 infoS39 rfl (by simp [Value.oneCell']) ?_
      have uB : Below w.heap.size w (w1.setRow w.heap.size #[.int .u64 (y.1 : Nat), .int .i64 y.2.1, .int .u64 (y.2.2.1 : Nat), .int .i64 y.2.2.2]) := bl_rowL u1 (Nat.le_refl _) _
      have hsB : S1c q T.nx (w1.setRow w.heap.size #[.int .u64 (y.1 : Nat), .int .i64 y.2.1, .int .u64 (y.2.2.1 : Nat), .int .i64 y.2.2.2]) := ⟨bl_cell uB (by exact hs0.1), bl_cell uB (by exact hs0.1)⟩
      have hBB := setRow_heap _ w.heap.size _ #[.int .u64 (y.1 : Nat), .int .i64 y.2.1, .int .u64 (y.2.2.1 : Nat), .int .i64 y.2.2.2] _ _ hB1
      refine hK.out _ _ (hsB) (fun hHeld => ?_)
      clear hK K
      (try simp only [Act.put, List.setIfInBounds_toArray, List.set_cons_zero, List.set_cons_succ])
      refine tq 13 ?_
      refine wpAnyH_done (by kernel_rfl) ?_ _
      refine NoPanic.normal ?_
      have HI : Hid (Cf w col Z q T a T.nx w.heap.size (w1.setRow w.heap.size #[.int .u64 (y.1 : Nat), .int .i64 y.2.1, .int .u64 (y.2.2.1 : Nat), .int .i64 y.2.2.2])) := ⟨HT.out.1.still uB, Gt.bl col uB, ⟨y, HY.out.1.symm, hBB⟩, rfl, HT.out.2.2.1, Nat.le_refl _⟩
      clear hHeld hs0 hs1 hsB uB hB1 hBB u1 HY
      go_wp2_with fail
      go_meet
      exact ⟨_, rfl, rfl, HI⟩
  case rest =>
    obtain ⟨g, rfl, rfl, HI⟩ := hcut
    have HRR : Hid ((atL T.ord T.nx).isSome = r) := HY.out.2
    clear hs0 hat HY
    obtain ⟨v3, hv3⟩ : ∃ v3, v3 = Value.bool r := ⟨_, rfl⟩
    rw [← hv3]
    have HV3 : Hid (v3 = .bool (atL T.ord T.nx).isSome) := by rw [HRR.out]; exact hv3
    clear hv3 HRR
    go_wp2_with fail
    go_loopw [2, 3] (fun v2 v3 wr => ∃ (p : Int) (g : Nat), v2 = .pointer (some ⟨g, 0, none⟩) ∧ Hid (v3 = .bool (atL T.ord p).isSome) ∧ Hid (Cf w col Z q T a p g wr)) (fun _ _ wr => ((T.ord.length : Int) + 1 - nxOf q wr).toNat)
    case atStart => exact ⟨T.nx, g, rfl, HV3, HI⟩
    case round =>
      obtain ⟨p, g, rfl, HV, HI⟩ := hrel
      have hv := HV.out
      clear HV
      cases hl : atL T.ord p with
      | none =>
        rw [hl] at hv
        subst hv
        have HF : Hid (LabPost w col Z q R wr) := by
          have e : R = { T with nx := p } := by rw [← HR.out]; unfold Tot.confirm; rw [← HI.out.c, conf_none hl]
          exact ⟨col, a, e ▸ HI.out.t, HI.out.gt⟩
        clear hl HI HR
        simp only [Option.isSome_none]
        go_wp2
        go_end0
        exact ⟨rfl, HF.out⟩
      | some l =>
        rw [hl] at hv
        subst hv
        simp only [Option.isSome_some]
        have hpl := atL_some hl
        have hll : OkL l := HT.out.2.2.2 l (by
          unfold atL at hl
          rw [if_neg (by omega)] at hl
          exact List.mem_of_getElem? hl)
        obtain ⟨y1, hy1, hB⟩ := HI.out.b
        rw [hl, Option.getD_some] at hy1
        subst hy1
        have hgl : g < wr.heap.size := (Array.getElem?_eq_some_iff.1 hB).1
        have ht := HI.out.t
        have hqr : q < wr.heap.size := ht.d.lt q (by rw [ht.fq]; omega)
        have hsl : a.sb < wr.heap.size := ht.d.lt a.sb (by rw [ht.d.csb]; omega)
        have hgq : g ≠ q := fun e => by have := HI.out.gn; omega
        obtain ⟨S, c1, c2⟩ := ht.d.sa
        simp only at c1 c2
        have hxS : decide (y1 ∈ S) = decide (y1 ∈ T.safe) := decide_eq_decide.2 (c2 y1)
        have hS6 : ∀ W : World, Below wr.heap.size wr W → S6c q g a.sb (.int .u64 (y1.1 : Nat)) (.int .i64 y1.2.1) (.int .u64 (y1.2.2.1 : Nat)) (.int .i64 y1.2.2.2) (decide (y1 ∈ T.safe)) W := fun W u => by
          have hc := fun j => (cell_block (o := j) (u.block g hgl)).trans (cell_of_heap hB j)
          refine ⟨(ht.still u).cell 19 (by omega), hc 0, hc 1, hc 2, hc 3, ?_⟩
          have := ((c1.of_block (w' := W) (u.block _ hsl)).look hll)
          rw [hxS] at this
          exact this
        obtain ⟨w2, hw2⟩ : ∃ w2, (wr.alloc (.cells #[] 139)).drew = w2 := ⟨_, rfl⟩
        have u2 : Below wr.heap.size wr w2 := by rw [← hw2]; exact (bl1 wr (.cells #[] 139)).drew
        have hs1 := hS6 wr.drew (Below.refl _ _).drew
        have hs2 := hS6 w2 u2
        have HW2 : Hid ((wr.alloc (.cells #[] 139)).drew = w2) := hw2
        have h2 := ht.still u2
        have hB2 : w2.heap[g]? = some (.cells #[.int .u64 (y1.1 : Nat), .int .i64 y1.2.1, .int .u64 (y1.2.2.1 : Nat), .int .i64 y1.2.2.2] 39 (0, 0)) := (u2.block g hgl).trans hB
        have G2 : Hid (Gt w col w2 col) := HI.out.gt.trans (Gt.bl col u2)
        have hgt : Hid (g ≠ q ∧ g < w2.heap.size ∧ w.heap.size ≤ w2.heap.size ∧ q < w2.heap.size) := ⟨hgq, by have := u2.size; omega, by have := u2.size; have := HI.out.gn; omega, by have := u2.size; omega⟩
        clear ht c1 c2 hS6 hw2 u2 hB hll hxS hgl hqr hsl hgq
        by_cases hin : y1 ∈ T.safe
        · rw [decide_eq_true hin] at hs1 hs2
          have HCF : Hid (conf T.ord T.safe (p + 1) = conf T.ord T.safe T.nx ∧ 1 ≤ p ∧ p ≤ (T.ord.length : Int) ∧ nxOf q wr = p) := ⟨by rw [← HI.out.c]; exact (conf_go hl hin).symm, hpl.1, hpl.2, by unfold nxOf; rw [HI.out.t.cell 13 (by omega)]; rfl⟩
          have hol := HT.out.2.1
          have hp1 : In (p + 1) := by unfold In; omega
          have hwr : IntKind.wrap .i64 (p + 1) = p + 1 := by unfold IntKind.wrap; simp [IntKind.bits, IntKind.signed]; omega
          obtain ⟨w3, hw3⟩ : ∃ w3, w2.setCell ⟨q, 13, none⟩ (.int .i64 (p + 1)) = w3 := ⟨_, rfl⟩
          have h3 : Tt w3 col Z q { T with nx := p + 1 } a := by rw [← hw3]; exact h2.setNx (p + 1)
          have G3 : Hid (Gt w col w3 col) := by rw [← hw3]; exact G2.out.trans (Gt.set (by rw [h2.fq]; omega) _)
          have HS3 : Hid (w3.heap.size = w2.heap.size) := by unfold Hid; rw [← hw3]; simp [World.setCell]
          have hB3 : w3.heap[g]? = some (.cells #[.int .u64 (y1.1 : Nat), .int .i64 y1.2.1, .int .u64 (y1.2.2.1 : Nat), .int .i64 y1.2.2.2] 39 (0, 0)) := by rw [← hw3]; exact (Below.heap_setCell _ _ _ _ hgt.out.1).trans hB2
          have c13 := h2.cell 13 (by omega)
          have f13 := h2.fr 13
          simp only [tcell] at c13
          have HW3 : Hid (w2.setCell ⟨q, 13, none⟩ (.int .i64 (p + 1)) = w3) := hw3
          have k0 : w3.cell? ⟨g, 0, none⟩ = _ := cell_of_heap hB3 0
          have k1 : w3.cell? ⟨g, 1, none⟩ = _ := cell_of_heap hB3 1
          have k2 : w3.cell? ⟨g, 2, none⟩ = _ := cell_of_heap hB3 2
          have k3 : w3.cell? ⟨g, 3, none⟩ = _ := cell_of_heap hB3 3
          simp only [List.getElem?_toArray, List.getElem?_cons_zero, List.getElem?_cons_succ] at k0 k1 k2 k3
          have hB4 : (w3.alloc (.cells #[.int .u64 0, .int .i64 0, .int .u64 0, .int .i64 0] 39)).heap[w3.heap.size]? = some (.cells #[.int .u64 0, .int .i64 0, .int .u64 0, .int .i64 0] 39 (0, 0)) := heap_alloc_new w3 _
          obtain ⟨w4, hw4⟩ : ∃ w4, (w3.alloc (.cells #[.int .u64 0, .int .i64 0, .int .u64 0, .int .i64 0] 39)).setRow w3.heap.size #[.int .u64 (y1.1 : Nat), .int .i64 y1.2.1, .int .u64 (y1.2.2.1 : Nat), .int .i64 y1.2.2.2] = w4 := ⟨_, rfl⟩
          have HW4 : Hid ((w3.alloc (.cells #[.int .u64 0, .int .i64 0, .int .u64 0, .int .i64 0] 39)).setRow w3.heap.size #[.int .u64 (y1.1 : Nat), .int .i64 y1.2.1, .int .u64 (y1.2.2.1 : Nat), .int .i64 y1.2.2.2] = w4) := hw4
          have u4 : Below w3.heap.size w3 w4 := by rw [← hw4]; exact bl_rowL (bl1 _ _) (Nat.le_refl _) _
          have hB5 : w4.heap[w3.heap.size]? = some (.cells #[.int .u64 (y1.1 : Nat), .int .i64 y1.2.1, .int .u64 (y1.2.2.1 : Nat), .int .i64 y1.2.2.2] 39 (0, 0)) := by rw [← hw4]; exact setRow_heap _ w3.heap.size _ #[.int .u64 (y1.1 : Nat), .int .i64 y1.2.1, .int .u64 (y1.2.2.1 : Nat), .int .i64 y1.2.2.2] _ _ hB4
          have h4 := h3.still u4
          have hat := (h4.still (Below.refl _ w4).drew).at hp1
          obtain ⟨z, hz⟩ : ∃ z, (atL T.ord (p + 1)).getD (0, 0, 0, 0) = z := ⟨_, rfl⟩
          simp only [hz] at hat
          obtain ⟨vb, hvb⟩ : ∃ vb, vb = Value.bool (atL T.ord (p + 1)).isSome := ⟨_, rfl⟩
          rw [← hvb] at hat
          have HZ : Hid ((atL T.ord (p + 1)).getD (0, 0, 0, 0) = z ∧ vb = Value.bool (atL T.ord (p + 1)).isSome) := ⟨hz, hvb⟩
          have hs4 : S1c q (p + 1) w4.drew := ⟨h4.cell 13 (by omega), h4.cell 13 (by omega)⟩
          have HI3 : Hid (Tt w3 col Z q { T with nx := p + 1 } a ∧ Below w3.heap.size w3 w4 ∧ w3.heap.size < w4.heap.size ∧ In (p + 1)) := ⟨h3, u4, (Array.getElem?_eq_some_iff.1 hB5).1, hp1⟩
          unfold lab at hat
          clear h2 h3 h4 hw3 hw4 hB2 hB3 u4 hz hvb hp1 hol hl hin HI G2
          go_wp2_with fail
          refine wp_region_noPanic ?_
          refine wp_region_held_drew (S := S6c q g a.sb (.int .u64 (y1.1 : Nat)) (.int .i64 y1.2.1) (.int .u64 (y1.2.2.1 : Nat)) (.int .i64 y1.2.2.2) true) (by kernel_rfl) (hs1) (fun hHeld => ?_)
          unfold S6c at hHeld
          refine tq 0 ?_
          refine tq 1 ?_
          refine tq 2 ?_
          refine tq 3 ?_
          refine tq 4 ?_
          refine tq 5 ?_
          refine tq 6 ?_
          refine tq 7 ?_
          refine tq 8 ?_
          refine comes_up 9 rfl (by kernel_rfl) (fun K hK => ?_)
          go_simp
          rw [HW2.out]
          refine hK.out _ _ (hs2) (fun hHeld => ?_)
          clear hK K
          (try simp only [Act.put, List.setIfInBounds_toArray, List.set_cons_zero, List.set_cons_succ])
          refine comes_up 10 rfl (by kernel_rfl) (fun K hK => ?_)
          go_simp
          refine hK.out _ _ (hs2) (fun hHeld => ?_)
          clear hK K
          (try simp only [Act.put, List.setIfInBounds_toArray, List.set_cons_zero, List.set_cons_succ])
          refine tq 11 ?_
          refine wpAnyH_done (by kernel_rfl) ?_ _
          refine NoPanic.normal ?_
          clear hHeld hs1 hs2
          go_upto_region 5 with fail
          go_upto_region 6 with fail
          rw [HW3.out]
          clear c13 f13 HW3 hwr
          go_upto_region 7 with fail
          clear k0 k1 k2 k3
          go_wp2_with (refine wpList_store_row rfl 39 (.tmp 2) (.tmp 47) rfl w3.heap.size #[.int .u64 (y1.1 : Nat), .int .i64 y1.2.1, .int .u64 (y1.2.2.1 : Nat), .int .i64 y1.2.2.2] rfl rfl 39 _ hB4 infoS39 rfl (by simp [Value.oneCell']) ?_)
          rw [HW4.out]
          clear HW4 hB4
          refine wp_region_noPanic ?_
          refine wp_region_held_drew (S := S1c q (p + 1)) (by kernel_rfl) (hs4) (fun hHeld => ?_)
          unfold S1c at hHeld
          refine tq 0 ?_
          refine tq 1 ?_
          refine tq 2 ?_
          refine tq 3 ?_
          refine tq 4 ?_
          refine tq 5 ?_
          refine tq 6 ?_
          refine comes_up 7 rfl (by kernel_rfl) (fun K hK => ?_)
          go_simp
          refine hat.mono ?_
          rintro e w5 ⟨rfl, u5'⟩
          have u5 : Below w4.heap.size w4 w5 := ⟨u5'.os, u5'.tape, u5'.output, u5'.size, u5'.block⟩
          have hs5 : S1c q (p + 1) w5 := ⟨bl_cell u5 (by exact hs4.1), bl_cell u5 (by exact hs4.1)⟩
          have hB6 : w5.heap[w3.heap.size]? = some (.cells #[.int .u64 (y1.1 : Nat), .int .i64 y1.2.1, .int .u64 (y1.2.2.1 : Nat), .int .i64 y1.2.2.2] 39 (0, 0)) := (u5.block _ HI3.out.2.2.1).trans hB5
          clear hat u5' hB5
          go_wp2_with fail
          refine hK.out _ _ (hs5) (fun hHeld => ?_)
          clear hK K
          (try simp only [Act.put, List.setIfInBounds_toArray, List.set_cons_zero, List.set_cons_succ])
          refine tq 8 ?_
          refine tq 9 ?_
          refine tq 10 ?_
          refine comes_up 11 rfl (by kernel_rfl) (fun K hK => ?_)
          refine step_store_row rfl 39 (.tmp 2) (.tmp 27) rfl w3.heap.size #[.int .u64 (z.1 : Nat), .int .i64 z.2.1, .int .u64 (z.2.2.1 : Nat), .int .i64 z.2.2.2] rfl rfl 39 _ hB6 infoS39 rfl (by simp [Value.oneCell']) ?_
          have u6 : Below w3.heap.size w3 (w5.setRow w3.heap.size #[.int .u64 (z.1 : Nat), .int .i64 z.2.1, .int .u64 (z.2.2.1 : Nat), .int .i64 z.2.2.2]) := bl_rowL (bl_step HI3.out.2.1 u5) (Nat.le_refl _) _
          have h6 := HI3.out.1.still u6
          have hs6 : S1c q (p + 1) (w5.setRow w3.heap.size #[.int .u64 (z.1 : Nat), .int .i64 z.2.1, .int .u64 (z.2.2.1 : Nat), .int .i64 z.2.2.2]) := ⟨h6.cell 13 (by omega), h6.cell 13 (by omega)⟩
          have hB7 := setRow_heap _ w3.heap.size _ #[.int .u64 (z.1 : Nat), .int .i64 z.2.1, .int .u64 (z.2.2.1 : Nat), .int .i64 z.2.2.2] _ _ hB6
          refine hK.out _ _ (hs6) (fun hHeld => ?_)
          clear hK K
          (try simp only [Act.put, List.setIfInBounds_toArray, List.set_cons_zero, List.set_cons_succ])
          refine tq 12 ?_
          refine wpAnyH_done (by kernel_rfl) ?_ _
          refine NoPanic.normal ?_
          have HN : Hid (Cf w col Z q T a (p + 1) w3.heap.size (w5.setRow w3.heap.size #[.int .u64 (z.1 : Nat), .int .i64 z.2.1, .int .u64 (z.2.2.1 : Nat), .int .i64 z.2.2.2])) := ⟨h6, G3.out.trans (Gt.bl col u6), ⟨z, HZ.out.1.symm, hB7⟩, HCF.out.1, HI3.out.2.2.2, by have := hgt.out; have := HS3.out; omega⟩
          have HM : Hid (nxOf q (w5.setRow w3.heap.size #[.int .u64 (z.1 : Nat), .int .i64 z.2.1, .int .u64 (z.2.2.1 : Nat), .int .i64 z.2.2.2]) = p + 1) := by unfold Hid nxOf; rw [h6.cell 13 (by omega)]; rfl
          have HZ2 : Hid (vb = Value.bool (atL T.ord (p + 1)).isSome) := HZ.out.2
          clear hHeld hs4 hs5 hs6 h6 u6 hB6 hB7 u5 HZ HI3 G3
          go_wp2
          go_roundw
          case rel => first | exact ⟨p + 1, _, rfl, HZ2, HN⟩ | ((repeat apply Exists.intro); exact ⟨⟨p + 1, _, rfl, HZ2, HN⟩, rfl⟩)
          case measure => have h1 := HM.out; have h2 := HCF.out; rw [h1, h2.2.2.2]; omega
        · rw [decide_eq_false hin] at hs1 hs2
          have HF : Hid (LabPost w col Z q R w2) := by
            have e : R = { T with nx := p } := by rw [← HR.out]; unfold Tot.confirm; rw [← HI.out.c, conf_stop hl hin]
            exact ⟨col, a, e ▸ h2, G2.out⟩
          clear h2 hB2 hl hin HI HR G2 hgt
          go_wp2_with fail
          refine wp_region_noPanic ?_
          refine wp_region_held_drew (S := S6c q g a.sb (.int .u64 (y1.1 : Nat)) (.int .i64 y1.2.1) (.int .u64 (y1.2.2.1 : Nat)) (.int .i64 y1.2.2.2) false) (by kernel_rfl) (hs1) (fun hHeld => ?_)
          unfold S6c at hHeld
          refine tq 0 ?_
          refine tq 1 ?_
          refine tq 2 ?_
          refine tq 3 ?_
          refine tq 4 ?_
          refine tq 5 ?_
          refine tq 6 ?_
          refine tq 7 ?_
          refine tq 8 ?_
          refine comes_up 9 rfl (by kernel_rfl) (fun K hK => ?_)
          go_simp
          rw [HW2.out]
          refine hK.out _ _ (hs2) (fun hHeld => ?_)
          clear hK K
          (try simp only [Act.put, List.setIfInBounds_toArray, List.set_cons_zero, List.set_cons_succ])
          refine comes_up 10 rfl (by kernel_rfl) (fun K hK => ?_)
          go_simp
          refine hK.out _ _ (hs2) (fun hHeld => ?_)
          clear hK K
          (try simp only [Act.put, List.setIfInBounds_toArray, List.set_cons_zero, List.set_cons_succ])
          refine tq 11 ?_
          refine wpAnyH_done (by kernel_rfl) ?_ _
          refine NoPanic.normal ?_
          clear hHeld hs1 hs2
          go_wp2
          refine bodyPost_ret (results_none rfl _ _ _) rfl ?_
          exact ⟨rfl, HF.out⟩
end Go.Proofs.YtlaihgdfedalmaaGreat

/-
  Package total's View.
-/
namespace Go.Proofs.YtlaihgdfedalmaaGreat
open Go.RowKit Go.Sort Go.Conc
set_option linter.unusedVariables false
set_option linter.unusedSimpArgs false

/-- A view as a value. -/
def vw (n : Nat) (p : Int) (s : Nat) : Value := .agg #[.int .u64 (n : Nat), .int .i64 p, .int .u16 (s : Nat)]
/-- A view begins: nothing of the one before is left but what is known. -/
def Tot.fresh (T : Tot) (n : Nat) (p : Int) (s : Nat) : Tot := { T with vn := n, vp := p, vs := s, st := 0, seq := 0, buf := [], told := [], sf := 0, safe := [] }
def Tot.view (T : Tot) (n : Nat) (p : Int) (s : Nat) : Tot × Int := if gtV (n, p) (T.vn, T.vp) && hasN s T.self then ((T.fresh n p s).labelAll, 0) else (T, 9)
theorem view_nil (w : World) (n : Nat) (p : Int) (s : Nat) : Calls Tryz.prog 18 #[.pointer none, vw n p s] w fun e w' => e = .returned (.int .i64 6) ∧ Below w.heap.size w w' := by
  have u := bl1 w (.cells #[.int .u64 (n : Nat), .int .i64 p, .int .u16 (s : Nat)] 36)
  unfold vw
  go_enter Tryz.func18, Tryz.ntmps18
  go_wp2
  go_ret
  exact ⟨rfl, u⟩
def S6v (g q : Nat) (g0 g1 g2 v4 v5 v1 : Value) (W : World) : Prop := W.cell? ⟨g, 0, none⟩ = some g0 ∧ W.cell? ⟨g, 1, none⟩ = some g1 ∧ W.cell? ⟨g, 2, none⟩ = some g2 ∧ W.cell? ⟨q, 4, none⟩ = some v4 ∧ W.cell? ⟨q, 5, none⟩ = some v5 ∧ W.cell? ⟨q, 1, none⟩ = some v1
theorem S6v.up {g q : Nat} {g0 g1 g2 v4 v5 v1 : Value} {W W' : World} (h : S6v g q g0 g1 g2 v4 v5 v1 W) (u : Below W.heap.size W W') : S6v g q g0 g1 g2 v4 v5 v1 W' :=
  ⟨bl_cell u h.1, bl_cell u h.2.1, bl_cell u h.2.2.1, bl_cell u h.2.2.2.1, bl_cell u h.2.2.2.2.1, bl_cell u h.2.2.2.2.2⟩
section
variable {w : World} {col : Nat → Nat} {Z : Nat → Prop} {q : Nat} {T : Tot} {a : Ta}
/-- The cells that a new view writes. -/
def viewW (w : World) (q n : Nat) (p : Int) (s : Nat) : World := ((((((((w.setCell ⟨q, 4, none⟩ (.int .u64 (n : Nat))).setCell ⟨q, 5, none⟩ (.int .i64 p)).setCell ⟨q, 6, none⟩ (.int .u16 (s : Nat))).setCell ⟨q, 7, none⟩ (.int .u8 0)).setCell ⟨q, 8, none⟩ (.int .u64 0)).setCell ⟨q, 9, none⟩ (.slice none 0 0)).setCell ⟨q, 17, none⟩ (.slice none 0 0)).setCell ⟨q, 18, none⟩ (.int .u16 0))
theorem Tt.viewW (h : Tt w col Z q T a) (n : Nat) (p : Int) (s : Nat) : Tt (viewW w q n p s) col Z q { T.fresh n p s with safe := T.safe } { a with bv := .slice none 0 0, tv := .slice none 0 0 } ∧ Gt w col (Go.Proofs.YtlaihgdfedalmaaGreat.viewW w q n p s) col := by
  have hq : 0 < col q := by rw [h.fq]; omega
  have h1 := h.setc (T' := { T with vn := n }) (a' := a) 4 (.int .u64 (n : Nat)) (fun j hj => by unfold tcell; split <;> simp_all) (by omega) (fun W d => ⟨d.ch, d.con, d.am, d.sa, d.bu, d.od, d.tl, d.cc, d.ccb, d.cab, d.csb, d.cbv, d.cov, d.ctv, d.lt, d.zf, d.zl⟩)
  have h2 := h1.setc (T' := { T with vn := n, vp := p }) (a' := a) 5 (.int .i64 p) (fun j hj => by unfold tcell; split <;> simp_all) (by omega) (fun W d => ⟨d.ch, d.con, d.am, d.sa, d.bu, d.od, d.tl, d.cc, d.ccb, d.cab, d.csb, d.cbv, d.cov, d.ctv, d.lt, d.zf, d.zl⟩)
  have h3 := h2.setc (T' := { T with vn := n, vp := p, vs := s }) (a' := a) 6 (.int .u16 (s : Nat)) (fun j hj => by unfold tcell; split <;> simp_all) (by omega) (fun W d => ⟨d.ch, d.con, d.am, d.sa, d.bu, d.od, d.tl, d.cc, d.ccb, d.cab, d.csb, d.cbv, d.cov, d.ctv, d.lt, d.zf, d.zl⟩)
  have h4 := h3.setc (T' := { T with vn := n, vp := p, vs := s, st := 0 }) (a' := a) 7 (.int .u8 0) (fun j hj => by unfold tcell; split <;> simp_all) (by omega) (fun W d => ⟨d.ch, d.con, d.am, d.sa, d.bu, d.od, d.tl, d.cc, d.ccb, d.cab, d.csb, d.cbv, d.cov, d.ctv, d.lt, d.zf, d.zl⟩)
  have h5 := h4.setc (T' := { T with vn := n, vp := p, vs := s, st := 0, seq := 0 }) (a' := a) 8 (.int .u64 0) (fun j hj => by unfold tcell; split <;> simp_all) (by omega) (fun W d => ⟨d.ch, d.con, d.am, d.sa, d.bu, d.od, d.tl, d.cc, d.ccb, d.cab, d.csb, d.cbv, d.cov, d.ctv, d.lt, d.zf, d.zl⟩)
  have h6 := h5.setc (T' := { T with vn := n, vp := p, vs := s, st := 0, seq := 0, buf := [] }) (a' := { a with bv := .slice none 0 0 }) 9 (.slice none 0 0) (fun j hj => by unfold tcell; split <;> simp_all) (by omega) (fun W d => ⟨d.ch, d.con, d.am, d.sa, ⟨[], rfl, rw_nil _ _ _, fun j e x e1 => by simp at e1⟩, d.od, d.tl, d.cc, d.ccb, d.cab, d.csb, fun b e => by simp [Value.ownBlock] at e, d.cov, d.ctv, d.lt, d.zf, d.zl⟩)
  have h7 := h6.setc (T' := { T with vn := n, vp := p, vs := s, st := 0, seq := 0, buf := [], told := [] }) (a' := { a with bv := .slice none 0 0, tv := .slice none 0 0 }) 17 (.slice none 0 0) (fun j hj => by unfold tcell; split <;> simp_all) (by omega) (fun W d => ⟨d.ch, d.con, d.am, d.sa, d.bu, d.od, ⟨[], rfl, rw_nil _ _ _, fun x hx => by simp at hx⟩, d.cc, d.ccb, d.cab, d.csb, d.cbv, d.cov, fun b e => by simp [Value.ownBlock] at e, d.lt, d.zf, d.zl⟩)
  have h8 := h7.setc (T' := { T with vn := n, vp := p, vs := s, st := 0, seq := 0, buf := [], told := [], sf := 0 }) (a' := { a with bv := .slice none 0 0, tv := .slice none 0 0 }) 18 (.int .u16 0) (fun j hj => by unfold tcell; split <;> simp_all) (by omega) (fun W d => ⟨d.ch, d.con, d.am, d.sa, d.bu, d.od, d.tl, d.cc, d.ccb, d.cab, d.csb, d.cbv, d.cov, d.ctv, d.lt, d.zf, d.zl⟩)
  exact ⟨h8, (((((((Gt.set hq _).trans (Gt.set hq _)).trans (Gt.set hq _)).trans (Gt.set hq _)).trans (Gt.set hq _)).trans (Gt.set hq _)).trans (Gt.set hq _)).trans (Gt.set hq _)⟩
/-- The chain of worlds of a new view's stores. -/
structure Vch (w1 : World) (q n : Nat) (p : Int) (s : Nat) (sb : Nat) (W4 W5 W6 W7 W8 W9 : World) : Prop where
  th : w1.there q 4 3
  e4 : w1.setCells q 4 [.int .u64 (n : Nat), .int .i64 p, .int .u16 (s : Nat)] = W4
  c7 : ∃ x, W4.cell? ⟨q, 7, none⟩ = some (.int .u8 x)
  f7 : W4.frozen? ⟨q, 7, none⟩ = false
  e5 : W4.setCell ⟨q, 7, none⟩ (.int .u8 0) = W5
  c8 : ∃ x, W5.cell? ⟨q, 8, none⟩ = some (.int .u64 x)
  f8 : W5.frozen? ⟨q, 8, none⟩ = false
  e6 : W5.setCell ⟨q, 8, none⟩ (.int .u64 0) = W6
  c9 : ∃ x, W6.cell? ⟨q, 9, none⟩ = some x
  f9 : W6.frozen? ⟨q, 9, none⟩ = false
  e7 : W6.setCell ⟨q, 9, none⟩ (.slice none 0 0) = W7
  c17 : ∃ x, W7.cell? ⟨q, 17, none⟩ = some x
  f17 : W7.frozen? ⟨q, 17, none⟩ = false
  e8 : W7.setCell ⟨q, 17, none⟩ (.slice none 0 0) = W8
  c18 : ∃ x, W8.cell? ⟨q, 18, none⟩ = some (.int .u16 x)
  f18 : W8.frozen? ⟨q, 18, none⟩ = false
  e9 : W8.setCell ⟨q, 18, none⟩ (.int .u16 0) = W9
  c19 : W9.cell? ⟨q, 19, none⟩ = some (.map (some sb))
theorem Tt.vch (h : Tt w col Z q T a) (n : Nat) (p : Int) (s : Nat) : ∃ W4 W5 W6 W7 W8, Vch w q n p s a.sb W4 W5 W6 W7 W8 (Go.Proofs.YtlaihgdfedalmaaGreat.viewW w q n p s) := by
  have co : ∀ (W : World) (k j : Nat) (v : Value), k ≠ j → (W.setCell ⟨q, j, none⟩ v).cell? ⟨q, k, none⟩ = W.cell? ⟨q, k, none⟩ := fun W k j v hk => World.cell?_setCell_other _ _ _ _ (by intro e; simp only [Addr.mk.injEq] at e; omega)
  refine ⟨_, _, _, _, _, ⟨fun j hj => ⟨by rw [h.cell (4 + j) (by omega)]; rfl, h.fr _⟩, rfl, ⟨((T.st : Nat) : Int), ?_⟩, ?_, rfl, ⟨((T.seq : Nat) : Int), ?_⟩, ?_, rfl, ⟨a.bv, ?_⟩, ?_, rfl, ⟨a.tv, ?_⟩, ?_, rfl, ⟨((T.sf : Nat) : Int), ?_⟩, ?_, rfl, ?_⟩⟩
  all_goals (try simp only [Go.Proofs.YtlaihgdfedalmaaGreat.viewW, World.setCells, Nat.reduceAdd, World.frozen?_setCell, h.fr])
  all_goals (try simp only [co _ _ _ _ (show (7 : Nat) ≠ 4 by omega), co _ _ _ _ (show (7 : Nat) ≠ 5 by omega), co _ _ _ _ (show (7 : Nat) ≠ 6 by omega), co _ _ _ _ (show (8 : Nat) ≠ 4 by omega), co _ _ _ _ (show (8 : Nat) ≠ 5 by omega), co _ _ _ _ (show (8 : Nat) ≠ 6 by omega), co _ _ _ _ (show (8 : Nat) ≠ 7 by omega), co _ _ _ _ (show (9 : Nat) ≠ 4 by omega), co _ _ _ _ (show (9 : Nat) ≠ 5 by omega), co _ _ _ _ (show (9 : Nat) ≠ 6 by omega), co _ _ _ _ (show (9 : Nat) ≠ 7 by omega), co _ _ _ _ (show (9 : Nat) ≠ 8 by omega), co _ _ _ _ (show (17 : Nat) ≠ 4 by omega), co _ _ _ _ (show (17 : Nat) ≠ 5 by omega), co _ _ _ _ (show (17 : Nat) ≠ 6 by omega), co _ _ _ _ (show (17 : Nat) ≠ 7 by omega), co _ _ _ _ (show (17 : Nat) ≠ 8 by omega), co _ _ _ _ (show (17 : Nat) ≠ 9 by omega), co _ _ _ _ (show (18 : Nat) ≠ 4 by omega), co _ _ _ _ (show (18 : Nat) ≠ 5 by omega), co _ _ _ _ (show (18 : Nat) ≠ 6 by omega), co _ _ _ _ (show (18 : Nat) ≠ 7 by omega), co _ _ _ _ (show (18 : Nat) ≠ 8 by omega), co _ _ _ _ (show (18 : Nat) ≠ 9 by omega), co _ _ _ _ (show (18 : Nat) ≠ 17 by omega), co _ _ _ _ (show (19 : Nat) ≠ 4 by omega), co _ _ _ _ (show (19 : Nat) ≠ 5 by omega), co _ _ _ _ (show (19 : Nat) ≠ 6 by omega), co _ _ _ _ (show (19 : Nat) ≠ 7 by omega), co _ _ _ _ (show (19 : Nat) ≠ 8 by omega), co _ _ _ _ (show (19 : Nat) ≠ 9 by omega), co _ _ _ _ (show (19 : Nat) ≠ 17 by omega), co _ _ _ _ (show (19 : Nat) ≠ 18 by omega)])
  · exact h.cell 7 (by omega)
  · exact h.cell 8 (by omega)
  · exact h.cell 9 (by omega)
  · exact h.cell 17 (by omega)
  · exact h.cell 18 (by omega)
  · exact h.cell 19 (by omega)
end
theorem wpList_clear96 {w : World} {ops : Array Oper} {rest : List Oper} {o : Oper} {a : Act} {Q : Exit → Act → World → Prop} (hgd : o.guard = none) (x : Operand)
    (ho : o.op = .call { callee := .builtin .clear, args := #[x], argTypes := #[96] }) (b : Nat) (w' : World) (hx : a.eval x = .map (some b)) (hrun : ∀ ty, Sem.run Tryz.prog (Builtin.clear_ #[96] ty #[.map (some b)]) w = .ok (.tuple #[]) w')
    (h : wpList Tryz.prog ops Q rest (a.put o.dst (.tuple #[])) w') : wpList Tryz.prog ops Q (o :: rest) a w := by
  refine wpList_plain hgd fun K hK => ?_
  unfold Oper.wp execOp
  simp only [ho, resolve, invoke, builtin, Sem.run_bind, Sem.run_pure, Result.andThen_ok, List.map_toArray, List.map_cons, List.map_nil, hx, hrun]
  exact hK _ _ h
theorem info36 : (Tryz.prog.info? 36).map (·.size) = some 3 := by kernel_rfl
set_option maxRecDepth 10000 in
set_option maxHeartbeats 1000000 in
theorem view_ok (w : World) (col : Nat → Nat) (Z : Nat → Prop) (q : Nat) (T : Tot) (a : Ta) (h : Tt w col Z q T a) (n : Nat) (p : Int) (s : Nat) (hs : s < 65536) (hgt : gtV (n, p) (T.vn, T.vp) = true) (hha : hasN s T.self = true) (hl : Lim (T.fresh n p s) T.dl.length) :
    Calls Tryz.prog 18 #[.pointer (some ⟨q, 0, none⟩), vw n p s] w fun e w' => e = .returned (.int .i64 0) ∧ Stp w col Z q (T.fresh n p s).labelAll w' := by
  have u := bl1 w (.cells #[.int .u64 (n : Nat), .int .i64 p, .int .u16 (s : Nat)] 36)
  have cb := fun j v (e : (#[.int .u64 (n : Nat), .int .i64 p, .int .u16 (s : Nat)] : Array Value)[j]? = some v) => cell_box w #[.int .u64 (n : Nat), .int .i64 p, .int .u16 (s : Nat)] 36 j v e
  have hS0 : S6v w.heap.size q (.int .u64 (n : Nat)) (.int .i64 p) (.int .u16 (s : Nat)) (.int .u64 (T.vn : Nat)) (.int .i64 T.vp) (.int .i64 T.self) (w.alloc (.cells #[.int .u64 (n : Nat), .int .i64 p, .int .u16 (s : Nat)] 36)) :=
    ⟨cb 0 _ rfl, cb 1 _ rfl, cb 2 _ rfl, bl_cell u (h.cell 4 (by omega)), bl_cell u (h.cell 5 (by omega)), bl_cell u (h.cell 1 (by omega))⟩
  have hS : S6v w.heap.size q (.int .u64 (n : Nat)) (.int .i64 p) (.int .u16 (s : Nat)) (.int .u64 (T.vn : Nat)) (.int .i64 T.vp) (.int .i64 T.self) (w.alloc (.cells #[.int .u64 (n : Nat), .int .i64 p, .int .u16 (s : Nat)] 36)).drew := hS0.up ((Below.refl _ _).drew)
  have hu : Below w.heap.size w (w.alloc (.cells #[.int .u64 (n : Nat), .int .i64 p, .int .u16 (s : Nat)] 36)).drew := u.drew
  have habv := fun W => above_any W (n, p) (T.vn, T.vp)
  have hhas := fun W => has_any W s hs T.self
  clear cb hS0 u
  have key : Hid (∀ w1, Below w.heap.size w w1 → ∃ w2, (∀ ty, Sem.run Tryz.prog (Builtin.clear_ #[96] ty #[.map (some a.sb)]) (viewW w1 q n p s) = .ok (.tuple #[]) w2) ∧ Calls Tryz.prog 48 #[.pointer (some ⟨q, 0, none⟩)] w2 (fun e w' => e = .returned (.tuple #[]) ∧ Stp w col Z q (T.fresh n p s).labelAll w')) := by
    intro w1 u1
    obtain ⟨h2, g2⟩ := (h.still u1).viewW n p s
    obtain ⟨S, c1, c2⟩ := h2.d.sa
    obtain ⟨w2, hrun, hS2, g⟩ := clear_set c1
    obtain ⟨h3, g3⟩ := h2.saf (K' := T.K) (safe' := []) (Nat.le_refl _) (Nat.zero_le _) hS2 (fun x => Iff.rfl) g
    refine ⟨w2, hrun, (labelDelay_any w2 col Z q (T.fresh n p s) _ h3 hl).mono ?_⟩
    rintro e w' ⟨rfl, col', a', h4, g4⟩
    exact ⟨rfl, col', Z, a', h4, (((Gt.bl col u1).trans g2).trans g3).trans g4, fun _ e => e, fun _ e => .inl e⟩
  have HC : Hid (∀ W, Below w.heap.size w W → ∃ W4 W5 W6 W7 W8, Vch W q n p s a.sb W4 W5 W6 W7 W8 (viewW W q n p s)) := fun W u1 => (h.still u1).vch n p s
  rw [hgt] at habv
  rw [hha] at hhas
  clear h hl hgt hha
  unfold vw
  simp only [vid] at habv
  go_enter Tryz.func18, Tryz.ntmps18
  go_wp2_with fail
  refine wp_region_noPanic ?_
  refine wp_region_held_drew (S := S6v w.heap.size q (.int .u64 (n : Nat)) (.int .i64 p) (.int .u16 (s : Nat)) (.int .u64 (T.vn : Nat)) (.int .i64 T.vp) (.int .i64 T.self)) (by kernel_rfl) (hS) (fun hHeld => ?_)
  unfold S6v at hHeld
  refine tq 0 ?_
  refine tq 1 ?_
  refine tq 2 ?_
  refine tq 3 ?_
  refine tq 4 ?_
  refine tq 5 ?_
  refine tq 6 ?_
  refine comes_up 7 rfl (by kernel_rfl) (fun K hK => ?_)
  go_simp
  refine (habv _).mono ?_
  rintro e w1 ⟨rfl, hu1⟩
  have hS1 := hS.up hu1.bl
  have hu2 := bl_step hu hu1.bl
  have hh1 := hhas w1
  clear habv hu1 hhas
  go_wp2_with fail
  refine hK.out _ _ (hS1) (fun hHeld => ?_)
  clear hK K
  (try simp only [Act.put, List.setIfInBounds_toArray, List.set_cons_zero, List.set_cons_succ])
  refine tq 8 ?_
  refine tq 9 ?_
  refine tq 10 ?_
  refine tq 11 ?_
  refine tq 12 ?_
  refine tq 13 ?_
  refine tq 14 ?_
  refine tq 15 ?_
  refine comes_up 16 rfl (by kernel_rfl) (fun K hK => ?_)
  go_simp
  refine hh1.mono ?_
  rintro e w2 ⟨rfl, rfl⟩
  go_wp2_with fail
  refine hK.out _ _ (hS1) (fun hHeld => ?_)
  clear hK K
  (try simp only [Act.put, List.setIfInBounds_toArray, List.set_cons_zero, List.set_cons_succ])
  refine tq 17 ?_
  refine tq 18 ?_
  refine wpAnyH_done (by kernel_rfl) ?_ _
  refine NoPanic.normal ?_
  clear hS hHeld hh1 hu
  obtain ⟨x0, x1, x2, x3, x4, x5⟩ := hS1
  obtain ⟨w3, hrun, hcall⟩ := key.out w1 hu2
  obtain ⟨W4, W5, W6, W7, W8, V⟩ := HC.out w1 hu2
  generalize viewW w1 q n p s = W9 at *
  obtain ⟨hth, e4, ⟨y7, c7⟩, f7, e5, ⟨y8, c8⟩, f8, e6, ⟨y9, c9⟩, f9, e7, ⟨y17, c17⟩, f17, e8, ⟨y18, c18⟩, f18, e9, c19⟩ := V
  have E4 : Hid (w1.setCells q 4 [.int .u64 (n : Nat), .int .i64 p, .int .u16 (s : Nat)] = W4) := e4
  clear key HC hu2 e4
  go_wp2_with (first | (refine wpList_store_mid rfl 36 (.tmp 31) (.tmp 29) rfl q 4 #[.int .u64 (n : Nat), .int .i64 p, .int .u16 (s : Nat)] rfl rfl hth info36 (by simp [Value.oneCell']) ?_; rw [show (#[.int .u64 (n : Nat), .int .i64 p, .int .u16 (s : Nat)] : Array Value).toList = [.int .u64 (n : Nat), .int .i64 p, .int .u16 (s : Nat)] from rfl, E4.out]) | (refine wpList_clear96 rfl (.tmp 48) rfl a.sb w3 rfl hrun ?_))
  refine hcall.mono ?_
  rintro e w4 ⟨rfl, hS4⟩
  have HS : Hid _ := hS4
  clear hS4 hcall hrun
  go_wp2
  go_ret
  exact ⟨rfl, HS.out⟩
end Go.Proofs.YtlaihgdfedalmaaGreat

/-
  Package total's settle: when the last of the view tells, all go on from one order.
-/
namespace Go.Proofs.YtlaihgdfedalmaaGreat
open Go.RowKit Go.Sort Go.Conc
set_option linter.unusedVariables false
set_option linter.unusedSimpArgs false

/-- What nodes told, out of a row. -/
theorem tl_rw {w : World} {p : Nat → Prop} {vt : Value} {els : List El} (ho : Rw w 120 6 vt els.length (f6 els)) (hf : ∀ x ∈ els, Fx p w x) : ∃ ta tc, vt = .slice ta els.length tc ∧ TL (fun _ => True) w ta els.length (els.map (·.1)) := by
  obtain ⟨hl, h1, ao, cap, rfl, hm, hcase⟩ := ho
  have hcm : els.length ≤ 9223372036854775807 := by unfold maxLen at hm; omega
  rcases hcase with ⟨h0, hz, rfl⟩ | ⟨b, off, N, f, rfl, hr, hN, hnc, hc⟩
  · exact ⟨ao, _, rfl, by simp, hcm, fun hn => by omega⟩
  · refine ⟨_, _, rfl, by simp, hcm, fun hn => ⟨b, off, rfl, trivial, fun j t hj => ?_⟩⟩
    rw [List.getElem?_map] at hj
    obtain ⟨x, hx, rfl⟩ := Option.map_eq_some_iff.1 hj
    have hcell : ∀ i, i < 6 → w.cell? ⟨b, off + j * 6 + i, none⟩ = (c6 x)[i]? := fun i hi => by
      have e := f6_get els j x i hx hi
      have hlt : i < (c6 x).length := by simpa [c6, c5] using hi
      rw [List.getElem?_eq_getElem hlt] at e ⊢
      have hlt2 := (List.getElem?_eq_some_iff.1 e).1
      have h6 : els.length * 6 ≤ cap * 6 := Nat.mul_le_mul_right _ hnc
      have := hc (6 * j + i) _ e
      rw [show off + j * 6 + i = off + (6 * j + i) by omega, hr.cell (by omega), this]
    obtain ⟨f1, f2, f3, f4, f5⟩ := hf x (List.mem_of_getElem? hx)
    exact ⟨hcell 0 (by omega), x.2.1.1, x.2.1.2, x.2.2.1, x.2.2.2, ⟨hcell 1 (by omega), hcell 2 (by omega), hcell 3 (by omega), hcell 4 (by omega), hcell 5 (by omega)⟩, f1.mono (fun _ _ => trivial), f2, fun _ _ _ => trivial, f4, f5⟩
/-- Bounds on what was told. -/
structure Tb (ts : List Pt) : Prop where
  al : (allT ts).length ≤ 5000
  am : ∀ e ∈ allT ts, e.2.length ≤ 140737488355328
  ao : ∀ e ∈ allT ts, OkL e.1
  ll : ∀ t ∈ ts, t.ls.length ≤ 5000
  lo : ∀ t ∈ ts, ∀ x ∈ t.ls, OkL x
theorem full_len {ts : List Pt} (h : Tb ts) : (fullT ts).length ≤ 10000 := by
  have h1 := short_len h.ll
  have h2 := out_le (shortT ts) ((knownT ts).map (·.1))
  have h3 : (knownT ts).length ≤ (allT ts).length := by have := mergeE_len (allT ts) []; unfold knownT; simpa using this
  have h4 := h.al
  unfold fullT
  rw [List.length_append]
  rw [List.length_map] at h2
  omega
theorem full_ok {ts : List Pt} (h : Tb ts) : ∀ x ∈ fullT ts, OkL x := fun x hx => by
  unfold fullT at hx
  rcases List.mem_append.1 hx with hx | hx
  · exact short_mem h.lo x hx
  · unfold out at hx
    obtain ⟨e, he, rfl⟩ := List.mem_map.1 (List.mem_filter.1 hx).1
    rcases mergeE_mem _ _ e he with h' | h'
    · simp at h'
    · exact h.ao e h'
/-- The view's order is there: the node goes on. -/
def Tot.settled (T : Tot) : Tot :=
  if T.prim then { T with nx := nxT T.told, ord := fullT T.told, hn := T.vn, hp := T.vp, st := 2, K := T.K + (fullT T.told).length }
  else { T with nx := nxT T.told, ord := shortT T.told, hn := (highT T.told).1, hp := (highT T.told).2, st := 2, K := T.K + (shortT T.told).length }
def Tot.settle (T : Tot) : Tot := if T.st = 1 ∧ cntF 16 T.vs ≤ T.told.length then T.settled else T
section
variable {w : World} {col : Nat → Nat} {Z : Nat → Prop} {q : Nat} {T : Tot} {a : Ta}
theorem Tt.setHi (h : Tt w col Z q T a) (n : Nat) (p : Int) : Tt ((w.setCell ⟨q, 15, none⟩ (.int .u64 (n : Nat))).setCell ⟨q, 16, none⟩ (.int .i64 p)) col Z q { T with hn := n, hp := p } a := by
  have h1 := h.setc (T' := { T with hn := n }) (a' := a) 15 (.int .u64 (n : Nat)) (fun j hj => by unfold tcell; split <;> simp_all) (by omega) (fun W d => ⟨d.ch, d.con, d.am, d.sa, d.bu, d.od, d.tl, d.cc, d.ccb, d.cab, d.csb, d.cbv, d.cov, d.ctv, d.lt, d.zf, d.zl⟩)
  exact h1.setc (T' := { T with hn := n, hp := p }) (a' := a) 16 (.int .i64 p) (fun j hj => by unfold tcell; split <;> simp_all) (by omega) (fun W d => ⟨d.ch, d.con, d.am, d.sa, d.bu, d.od, d.tl, d.cc, d.ccb, d.cab, d.csb, d.cbv, d.cov, d.ctv, d.lt, d.zf, d.zl⟩)
theorem Tt.setSt (h : Tt w col Z q T a) (s : Nat) : Tt (w.setCell ⟨q, 7, none⟩ (.int .u8 (s : Nat))) col Z q { T with st := s } a :=
  h.setc 7 _ (fun j hj => by unfold tcell; split <;> simp_all) (by omega) (fun W d => ⟨d.ch, d.con, d.am, d.sa, d.bu, d.od, d.tl, d.cc, d.ccb, d.cab, d.csb, d.cbv, d.cov, d.ctv, d.lt, d.zf, d.zl⟩)
theorem Tt.there (h : Tt w col Z q T a) (o n : Nat) (hn : o + n ≤ 20) : w.there q o n := fun j hj => ⟨by rw [h.cell (o + j) (by omega)]; rfl, h.fr _⟩
theorem Tt.tolds (h : Tt w col Z q T a) : ∃ ta tc, a.tv = .slice ta T.told.length tc ∧ TL (fun _ => True) w ta T.told.length T.told := by
  obtain ⟨xs, h1, h2, h3⟩ := h.d.tl
  have hl : T.told.length = xs.length := by rw [← h1]; simp
  rw [hl] at h2 ⊢
  obtain ⟨ta, tc, e1, e2⟩ := tl_rw h2 h3
  rw [h1] at e2
  exact ⟨ta, tc, e1, e2⟩
/-- A new line of labels is laid into the node. -/
theorem Tt.line (h : Tt w col Z q T a) {w3 w4 : World} {v : Value} {n m : Nat} {ls S' : List Lb} (hv : w3.ownsRow w.heap.size 39 4 v n (flat ls)) (hn : n = ls.length) (u3 : Below w.heap.size w w3) (u4 : Below w3.heap.size w3 w4) (hm : w3.heap.size ≤ m) (hS : Q.SetIs w4 m n S') (hS' : ∀ x, x ∈ S' ↔ x ∈ ls) (hK : n ≤ 10000) :
    Tt ((w4.setCell ⟨q, 11, none⟩ v).setCell ⟨q, 12, none⟩ (.map (some m))) (ocol col a.ab m a.ov v) Z q { T with ord := ls, K := T.K + ls.length } { a with ov := v, ab := m } ∧ Gt w col ((w4.setCell ⟨q, 11, none⟩ v).setCell ⟨q, 12, none⟩ (.map (some m))) (ocol col a.ab m a.ov v) := by
  subst hn
  have hl := hv.lt
  have hR := (rw_of_own (fun x hx => flat_one hx) hv).1
  exact h.newO (bl_step u3 u4) (Nat.le_add_right _ _) (Nat.le_trans u3.size hm) (set_mono hS (Nat.le_add_left _ _)) hS' v (hR.frame (fun k e => u4.block k (hl k e).2)) (fun k e => ⟨(hl k e).1, by have := (hl k e).2; omega⟩)
end
def S3s (q : Nat) (v7 v17 v6 : Value) (W : World) : Prop := W.cell? ⟨q, 7, none⟩ = some v7 ∧ W.cell? ⟨q, 17, none⟩ = some v17 ∧ W.cell? ⟨q, 6, none⟩ = some v6
set_option maxRecDepth 10000 in
set_option maxHeartbeats 2000000 in
theorem settle_idle (w : World) (q s : Nat) (hs : s ≠ 1) (v17 v6 : Value) (h : S3s q (.int .u8 (s : Nat)) v17 v6 w) : Calls Tryz.prog 101 #[.pointer (some ⟨q, 0, none⟩)] w fun e w' => e = .returned (.tuple #[]) ∧ w' = w.drew := by
  have hs0 : S3s q (.int .u8 (s : Nat)) v17 v6 w.drew := h
  have e1 : ((s : Int) != 1) = true := by simp; omega
  clear h
  go_enter Tryz.func101, Tryz.ntmps101
  go_wp2_with fail
  refine wp_region_noPanic ?_
  refine wp_region_held_drew (S := S3s q (.int .u8 (s : Nat)) v17 v6) (by kernel_rfl) (hs0) (fun hHeld => ?_)
  unfold S3s at hHeld
  refine tq 0 ?_
  refine tq 1 ?_
  refine tq 2 ?_
  refine tq 3 ?_
  refine tq 4 ?_
  refine tq 5 ?_
  refine tqS 6 ?_
  refine tqS 7 ?_
  refine tqS 8 ?_
  refine tqS 9 ?_
  refine tqS 10 ?_
  refine tqS 11 ?_
  refine tqS 12 ?_
  refine tqS 13 ?_
  refine tqS 14 ?_
  refine tqS 15 ?_
  refine tqS 16 ?_
  refine tqS 17 ?_
  refine tq 18 ?_
  refine wpAnyH_done (by kernel_rfl) ?_ _
  refine NoPanic.normal ?_
  clear hHeld hs0
  go_wp2
  refine bodyPost_ret (results_none rfl _ _ _) rfl ?_
  exact ⟨rfl, rfl⟩
set_option maxRecDepth 10000 in
set_option maxHeartbeats 2000000 in
theorem settle_few (w : World) (q n s : Nat) (ta : Option Addr) (tc : Nat) (hs : s < 65536) (hn : n < cntF 16 s) (h : S3s q (.int .u8 1) (.slice ta n tc) (.int .u16 (s : Nat)) w) : Calls Tryz.prog 101 #[.pointer (some ⟨q, 0, none⟩)] w fun e w' => e = .returned (.tuple #[]) ∧ ∃ k, w' = w.drewN k := by
  have hs0 : S3s q (.int .u8 1) (.slice ta n tc) (.int .u16 (s : Nat)) w.drew := h
  have hcn := count_any w.drew s hs
  obtain ⟨c, hc⟩ : ∃ c, cntF 16 s = c := ⟨_, rfl⟩
  rw [hc] at hcn hn
  have hlt : (n : Int) < (c : Int) := by omega
  clear h hc hs hn
  go_enter Tryz.func101, Tryz.ntmps101
  go_wp2_with fail
  refine wp_region_noPanic ?_
  refine wp_region_held_drew (S := S3s q (.int .u8 1) (.slice ta n tc) (.int .u16 (s : Nat))) (by kernel_rfl) (hs0) (fun hHeld => ?_)
  unfold S3s at hHeld
  refine tq 0 ?_
  refine tq 1 ?_
  refine tq 2 ?_
  refine tq 3 ?_
  refine tq 4 ?_
  refine tq 5 ?_
  refine tq 6 ?_
  refine tq 7 ?_
  refine tq 8 ?_
  refine tq 9 ?_
  refine tq 10 ?_
  refine tq 11 ?_
  refine tq 12 ?_
  refine tq 13 ?_
  refine tq 14 ?_
  refine tq 15 ?_
  refine comes_up 16 rfl (by kernel_rfl) (fun K hK => ?_)
  go_simp
  refine hcn.mono ?_
  rintro e w1 ⟨rfl, k, rfl⟩
  go_wp2_with fail
  refine hK.out _ _ ((show S3s q (.int .u8 1) (.slice ta n tc) (.int .u16 (s : Nat)) (w.drew.drewN k) from hs0)) (fun hHeld => ?_)
  clear hK K
  (try simp only [Act.put, List.setIfInBounds_toArray, List.set_cons_zero, List.set_cons_succ])
  refine tq 17 ?_
  refine tq 18 ?_
  refine wpAnyH_done (by kernel_rfl) ?_ _
  refine NoPanic.normal ?_
  clear hHeld hs0
  go_wp2
  refine bodyPost_ret (results_none rfl _ _ _) rfl ?_
  exact ⟨rfl, 1 + k, rfl⟩
theorem infoS33 : (Tryz.prog.info? 33).map (·.size) = some 2 := by kernel_rfl
set_option maxRecDepth 10000 in
set_option maxHeartbeats 4000000 in
theorem settle_prim {w : World} {col : Nat → Nat} {Z : Nat → Prop} {q : Nat} {T : Tot} {a : Ta} (h : Tt w col Z q T a) (hn : Tn T) (hb : Tb T.told) (hst : T.st = 1) (hle : cntF 16 T.vs ≤ T.told.length) (hp : T.prim = true) : Calls Tryz.prog 101 #[.pointer (some ⟨q, 0, none⟩)] w fun e w' => e = .returned (.tuple #[]) ∧ LabPost w col Z q T.settled w' := by
  obtain ⟨ta, tc, htv, hTL⟩ := h.tolds
  have h7 := h.cell 7 (by omega)
  have h17 := h.cell 17 (by omega)
  have h6 := h.cell 6 (by omega)
  simp only [tcell] at h7 h17 h6
  rw [htv] at h17
  rw [hst] at h7
  have hs0 : S3s q (.int .u8 1) (.slice ta T.told.length tc) (.int .u16 (T.vs : Nat)) w.drew := ⟨h7, h17, h6⟩
  have hcn := count_any w.drew T.vs hn.vs
  obtain ⟨c, hc⟩ : ∃ c, cntF 16 T.vs = c := ⟨_, rfl⟩
  rw [hc] at hcn hle
  have hlt : ¬ (T.told.length : Int) < (c : Int) := by omega
  have HT : Hid (Tt w col Z q T a ∧ Tn T ∧ Tb T.told ∧ T.prim = true ∧ a.tv = .slice ta T.told.length tc ∧ TL (fun _ => True) w ta T.told.length T.told) := ⟨h, hn, hb, hp, htv, hTL⟩
  have hR : T.settled = { T with nx := nxT T.told, ord := fullT T.told, hn := T.vn, hp := T.vp, st := 2, K := T.K + (fullT T.told).length } := by unfold Tot.settled; rw [if_pos hp]
  have HR : Hid (T.settled = { T with nx := nxT T.told, ord := fullT T.told, hn := T.vn, hp := T.vp, st := 2, K := T.K + (fullT T.told).length }) := hR
  clear h hn hb hp htv hTL hc hle h7 h17 h6 hst hR
  go_enter Tryz.func101, Tryz.ntmps101
  go_wp2_with fail
  refine wp_region_noPanic ?_
  refine wp_region_held_drew (S := S3s q (.int .u8 1) (.slice ta T.told.length tc) (.int .u16 (T.vs : Nat))) (by kernel_rfl) (hs0) (fun hHeld => ?_)
  unfold S3s at hHeld
  refine tq 0 ?_
  refine tq 1 ?_
  refine tq 2 ?_
  refine tq 3 ?_
  refine tq 4 ?_
  refine tq 5 ?_
  refine tq 6 ?_
  refine tq 7 ?_
  refine tq 8 ?_
  refine tq 9 ?_
  refine tq 10 ?_
  refine tq 11 ?_
  refine tq 12 ?_
  refine tq 13 ?_
  refine tq 14 ?_
  refine tq 15 ?_
  refine comes_up 16 rfl (by kernel_rfl) (fun K hK => ?_)
  go_simp
  refine hcn.mono ?_
  rintro e w1 ⟨rfl, k, rfl⟩
  go_wp2_with fail
  refine hK.out _ _ ((show S3s q (.int .u8 1) (.slice ta T.told.length tc) (.int .u16 (T.vs : Nat)) (w.drew.drewN k) from hs0)) (fun hHeld => ?_)
  clear hK K
  (try simp only [Act.put, List.setIfInBounds_toArray, List.set_cons_zero, List.set_cons_succ])
  refine tq 17 ?_
  refine tq 18 ?_
  refine wpAnyH_done (by kernel_rfl) ?_ _
  refine NoPanic.normal ?_
  clear hHeld hs0 hcn
  have u0 : Below w.heap.size w (w.drewN (1 + k)) := ⟨rfl, rfl, rfl, Nat.le_refl _, fun _ _ => rfl⟩
  generalize w.drewN (1 + k) = W0 at *
  have h0 := HT.out.1.still u0
  have c17 : W0.cell? ⟨q, 17, none⟩ = some (.slice ta T.told.length tc) := by have := h0.cell 17 (by omega); simp only [tcell, HT.out.2.2.2.2.1] at this; exact this
  have hnx := next_any _ W0 ta T.told.length tc T.told (HT.out.2.2.2.2.2.bl u0)
  have HU0 : Hid (Below w.heap.size w W0) := u0
  clear u0 h0
  go_wp2_with fail
  refine hnx.mono ?_
  rintro e W1 ⟨rfl, u1⟩
  have HU1 : Hid (Below w.heap.size w W1) := bl_step HU0.out u1
  clear hnx c17 u1 HU0
  have h1 := HT.out.1.still HU1.out
  have c13 := h1.cell 13 (by omega)
  have f13 := h1.fr 13
  simp only [tcell] at c13
  obtain ⟨W2, hW2⟩ : ∃ W2, W1.setCell ⟨q, 13, none⟩ (.int .i64 (nxT T.told)) = W2 := ⟨_, rfl⟩
  have HW2 : Hid (W1.setCell ⟨q, 13, none⟩ (.int .i64 (nxT T.told)) = W2) := hW2
  have h2 : Tt W2 col Z q { T with nx := nxT T.told } a := by rw [← hW2]; exact h1.setNx _
  have G2 : Gt w col W2 col := by rw [← hW2]; exact (Gt.bl col HU1.out).trans (Gt.set (by rw [h1.fq]; omega) _)
  have hpr := prim_any h2 ⟨HT.out.2.1.n, HT.out.2.1.self, HT.out.2.1.vn, HT.out.2.1.vp, HT.out.2.1.vs, HT.out.2.1.st, HT.out.2.1.K⟩
  have hpe : ({ T with nx := nxT T.told } : Tot).prim = true := HT.out.2.2.2.1
  rw [hpe] at hpr
  have H2 : Hid (Tt W2 col Z q { T with nx := nxT T.told } a ∧ Gt w col W2 col) := ⟨h2, G2⟩
  clear h1 hW2 h2 G2 hpe
  generalize nxT T.told = nx at *
  go_upto_region 2 with fail
  rw [HW2.out]
  clear c13 f13 HW2
  go_wp2_with fail
  refine hpr.mono ?_
  rintro e W3 ⟨rfl, k2, hk2⟩
  have u3 : Below W2.heap.size W2 W3 := by rw [hk2]; exact ⟨rfl, rfl, rfl, Nat.le_refl _, fun _ _ => rfl⟩
  have h3 := H2.out.1.still u3
  have G3 := H2.out.2.trans (Gt.bl col u3)
  clear hpr hk2
  have c17 : W3.cell? ⟨q, 17, none⟩ = some (.slice ta T.told.length tc) := by have := h3.cell 17 (by omega); simp only [tcell, HT.out.2.2.2.2.1] at this; exact this
  have hTL3 : TL (fun _ => True) W3 ta T.told.length T.told := by
    obtain ⟨ta', tc', e1, e2⟩ := h3.tolds
    have e3 := e1.symm.trans HT.out.2.2.2.2.1
    simp only [Value.slice.injEq] at e3
    rw [← e3.1]; exact e2
  have hb := HT.out.2.2.1
  have hfu := full_any _ W3 ta T.told.length tc T.told hTL3 hb.al hb.am hb.ao hb.ll hb.lo
  have H3 : Hid (Tt W3 col Z q { T with nx := nx } a ∧ Gt w col W3 col) := ⟨h3, G3⟩
  clear u3 h3 G3 H2 hTL3 hb
  go_wp2_with fail
  refine hfu.mono ?_
  rintro e W4 ⟨v4, rfl, ho4, u4⟩
  clear hfu c17
  obtain ⟨ao4, cap4, rfl, hL4, hz4⟩ := LR.own2 ho4
  have hnl := newLine_any W4 ao4 (fullT T.told).length cap4 (fullT T.told) hL4 (full_ok HT.out.2.2.1) (by have := full_len HT.out.2.2.1; omega)
  have H4 : Hid (W4.ownsRow W3.heap.size 39 4 (.slice ao4 (fullT T.told).length cap4) (fullT T.told).length (flat (fullT T.told)) ∧ Below W3.heap.size W3 W4) := ⟨ho4, u4⟩
  clear hL4 hz4 ho4 u4
  go_wp2_with fail
  refine hnl.mono ?_
  rintro e W5 ⟨m, S', rfl, hm, hS, hS', u5⟩
  clear hnl
  obtain ⟨h6, G6⟩ := H3.out.1.line H4.out.1 rfl H4.out.2 u5 hm hS hS' (by have := full_len HT.out.2.2.1; omega)
  have hth := ((H3.out.1.still H4.out.2).still u5).there 11 2 (by omega)
  obtain ⟨W6, hW6⟩ : ∃ W6, (W5.setCell ⟨q, 11, none⟩ (.slice ao4 (fullT T.told).length cap4)).setCell ⟨q, 12, none⟩ (.map (some m)) = W6 := ⟨_, rfl⟩
  have E6 : Hid (W5.setCells q 11 [.slice ao4 (fullT T.told).length cap4, .map (some m)] = W6) := hW6
  rw [hW6] at h6 G6
  have G6' := H3.out.2.trans G6
  have H6 : Hid (Tt W6 _ Z q _ _ ∧ Gt w col W6 _) := ⟨h6, G6'⟩
  clear hm hS hS' u5 hW6 G6 G6' h6 H3 H4
  have c4 := H6.out.1.cell 4 (by omega)
  have c5 := H6.out.1.cell 5 (by omega)
  simp only [tcell] at c4 c5
  have hth2 := H6.out.1.there 15 2 (by omega)
  have h7 := H6.out.1.setHi T.vn T.vp
  obtain ⟨W7, hW7⟩ : ∃ W7, (W6.setCell ⟨q, 15, none⟩ (.int .u64 (T.vn : Nat))).setCell ⟨q, 16, none⟩ (.int .i64 T.vp) = W7 := ⟨_, rfl⟩
  have E7 : Hid (W6.setCells q 15 [.int .u64 (T.vn : Nat), .int .i64 T.vp] = W7) := hW7
  rw [hW7] at h7
  have hc7 := h7.cell 7 (by omega)
  have hf7 := h7.fr 7
  simp only [tcell] at hc7
  have G7 := H6.out.2.trans ((Gt.set (k := 15) (by rw [H6.out.1.fq]; omega) (.int .u64 (T.vn : Nat))).trans (Gt.set (k := 16) (by rw [H6.out.1.fq]; omega) (.int .i64 T.vp)))
  rw [hW7] at G7
  have HF : Hid (LabPost w col Z q T.settled (W7.setCell ⟨q, 7, none⟩ (.int .u8 2))) := by
    rw [HR.out]
    exact ⟨_, _, h7.setSt 2, G7.trans (Gt.set (by rw [h7.fq]; omega) _)⟩
  clear h7 G7 hW7 H6 HR HT HU1
  go_wp2_with (first | (refine wpList_store_mid rfl 98 (.tmp 39) (.tmp 37) rfl q 11 #[.slice ao4 (fullT T.told).length cap4, .map (some m)] rfl rfl hth infoS98 (by simp [Value.oneCell']) ?_; rw [show (#[.slice ao4 (fullT T.told).length cap4, .map (some m)] : Array Value).toList = [.slice ao4 (fullT T.told).length cap4, .map (some m)] from rfl, E6.out]) | (refine wpList_store_mid rfl 33 (.tmp 47) (.tmp 45) rfl q 15 #[.int .u64 (T.vn : Nat), .int .i64 T.vp] rfl rfl hth2 infoS33 (by simp [Value.oneCell']) ?_; rw [show (#[.int .u64 (T.vn : Nat), .int .i64 T.vp] : Array Value).toList = [.int .u64 (T.vn : Nat), .int .i64 T.vp] from rfl, E7.out]))
  go_end0
  exact ⟨rfl, HF.out⟩
set_option maxRecDepth 10000 in
set_option maxHeartbeats 4000000 in
theorem settle_not {w : World} {col : Nat → Nat} {Z : Nat → Prop} {q : Nat} {T : Tot} {a : Ta} (h : Tt w col Z q T a) (hn : Tn T) (hb : Tb T.told) (hst : T.st = 1) (hle : cntF 16 T.vs ≤ T.told.length) (hp : T.prim = false) : Calls Tryz.prog 101 #[.pointer (some ⟨q, 0, none⟩)] w fun e w' => e = .returned (.tuple #[]) ∧ LabPost w col Z q T.settled w' := by
  obtain ⟨ta, tc, htv, hTL⟩ := h.tolds
  have h7 := h.cell 7 (by omega)
  have h17 := h.cell 17 (by omega)
  have h6 := h.cell 6 (by omega)
  simp only [tcell] at h7 h17 h6
  rw [htv] at h17
  rw [hst] at h7
  have hs0 : S3s q (.int .u8 1) (.slice ta T.told.length tc) (.int .u16 (T.vs : Nat)) w.drew := ⟨h7, h17, h6⟩
  have hcn := count_any w.drew T.vs hn.vs
  obtain ⟨c, hc⟩ : ∃ c, cntF 16 T.vs = c := ⟨_, rfl⟩
  rw [hc] at hcn hle
  have hlt : ¬ (T.told.length : Int) < (c : Int) := by omega
  have HT : Hid (Tt w col Z q T a ∧ Tn T ∧ Tb T.told ∧ T.prim = false ∧ a.tv = .slice ta T.told.length tc ∧ TL (fun _ => True) w ta T.told.length T.told) := ⟨h, hn, hb, hp, htv, hTL⟩
  have hR : T.settled = { T with nx := nxT T.told, ord := shortT T.told, hn := (highT T.told).1, hp := (highT T.told).2, st := 2, K := T.K + (shortT T.told).length } := by unfold Tot.settled; rw [if_neg (by rw [hp]; simp)]
  have HR : Hid (T.settled = { T with nx := nxT T.told, ord := shortT T.told, hn := (highT T.told).1, hp := (highT T.told).2, st := 2, K := T.K + (shortT T.told).length }) := hR
  clear h hn hb hp htv hTL hc hle h7 h17 h6 hst hR
  go_enter Tryz.func101, Tryz.ntmps101
  go_wp2_with fail
  refine wp_region_noPanic ?_
  refine wp_region_held_drew (S := S3s q (.int .u8 1) (.slice ta T.told.length tc) (.int .u16 (T.vs : Nat))) (by kernel_rfl) (hs0) (fun hHeld => ?_)
  unfold S3s at hHeld
  refine tq 0 ?_
  refine tq 1 ?_
  refine tq 2 ?_
  refine tq 3 ?_
  refine tq 4 ?_
  refine tq 5 ?_
  refine tq 6 ?_
  refine tq 7 ?_
  refine tq 8 ?_
  refine tq 9 ?_
  refine tq 10 ?_
  refine tq 11 ?_
  refine tq 12 ?_
  refine tq 13 ?_
  refine tq 14 ?_
  refine tq 15 ?_
  refine comes_up 16 rfl (by kernel_rfl) (fun K hK => ?_)
  go_simp
  refine hcn.mono ?_
  rintro e w1 ⟨rfl, k, rfl⟩
  go_wp2_with fail
  refine hK.out _ _ ((show S3s q (.int .u8 1) (.slice ta T.told.length tc) (.int .u16 (T.vs : Nat)) (w.drew.drewN k) from hs0)) (fun hHeld => ?_)
  clear hK K
  (try simp only [Act.put, List.setIfInBounds_toArray, List.set_cons_zero, List.set_cons_succ])
  refine tq 17 ?_
  refine tq 18 ?_
  refine wpAnyH_done (by kernel_rfl) ?_ _
  refine NoPanic.normal ?_
  clear hHeld hs0 hcn
  have u0 : Below w.heap.size w (w.drewN (1 + k)) := ⟨rfl, rfl, rfl, Nat.le_refl _, fun _ _ => rfl⟩
  generalize w.drewN (1 + k) = W0 at *
  have h0 := HT.out.1.still u0
  have c17 : W0.cell? ⟨q, 17, none⟩ = some (.slice ta T.told.length tc) := by have := h0.cell 17 (by omega); simp only [tcell, HT.out.2.2.2.2.1] at this; exact this
  have hnx := next_any _ W0 ta T.told.length tc T.told (HT.out.2.2.2.2.2.bl u0)
  have HU0 : Hid (Below w.heap.size w W0) := u0
  clear u0 h0
  go_wp2_with fail
  refine hnx.mono ?_
  rintro e W1 ⟨rfl, u1⟩
  have HU1 : Hid (Below w.heap.size w W1) := bl_step HU0.out u1
  clear hnx c17 u1 HU0
  have h1 := HT.out.1.still HU1.out
  have c13 := h1.cell 13 (by omega)
  have f13 := h1.fr 13
  simp only [tcell] at c13
  obtain ⟨W2, hW2⟩ : ∃ W2, W1.setCell ⟨q, 13, none⟩ (.int .i64 (nxT T.told)) = W2 := ⟨_, rfl⟩
  have HW2 : Hid (W1.setCell ⟨q, 13, none⟩ (.int .i64 (nxT T.told)) = W2) := hW2
  have h2 : Tt W2 col Z q { T with nx := nxT T.told } a := by rw [← hW2]; exact h1.setNx _
  have G2 : Gt w col W2 col := by rw [← hW2]; exact (Gt.bl col HU1.out).trans (Gt.set (by rw [h1.fq]; omega) _)
  have hpr := prim_any h2 ⟨HT.out.2.1.n, HT.out.2.1.self, HT.out.2.1.vn, HT.out.2.1.vp, HT.out.2.1.vs, HT.out.2.1.st, HT.out.2.1.K⟩
  have hpe : ({ T with nx := nxT T.told } : Tot).prim = false := HT.out.2.2.2.1
  rw [hpe] at hpr
  have H2 : Hid (Tt W2 col Z q { T with nx := nxT T.told } a ∧ Gt w col W2 col) := ⟨h2, G2⟩
  clear h1 hW2 h2 G2 hpe
  generalize nxT T.told = nx at *
  go_upto_region 2 with fail
  rw [HW2.out]
  clear c13 f13 HW2
  go_wp2_with fail
  refine hpr.mono ?_
  rintro e W3 ⟨rfl, k2, hk2⟩
  have u3 : Below W2.heap.size W2 W3 := by rw [hk2]; exact ⟨rfl, rfl, rfl, Nat.le_refl _, fun _ _ => rfl⟩
  have h3 := H2.out.1.still u3
  have G3 := H2.out.2.trans (Gt.bl col u3)
  clear hpr hk2
  have c17 : W3.cell? ⟨q, 17, none⟩ = some (.slice ta T.told.length tc) := by have := h3.cell 17 (by omega); simp only [tcell, HT.out.2.2.2.2.1] at this; exact this
  have hTL3 : TL (fun _ => True) W3 ta T.told.length T.told := by
    obtain ⟨ta', tc', e1, e2⟩ := h3.tolds
    have e3 := e1.symm.trans HT.out.2.2.2.2.1
    simp only [Value.slice.injEq] at e3
    rw [← e3.1]; exact e2
  have hb := HT.out.2.2.1
  have hfu := short_any _ W3 ta T.told.length tc T.told hTL3 hb.ll
  have H3 : Hid (Tt W3 col Z q { T with nx := nx } a ∧ Gt w col W3 col) := ⟨h3, G3⟩
  clear u3 h3 G3 H2 hTL3 hb
  go_wp2_with fail
  refine hfu.mono ?_
  rintro e W4 ⟨v4, rfl, ho4, u4⟩
  clear hfu c17
  obtain ⟨ao4, cap4, rfl, hL4, hz4⟩ := LR.own2 ho4
  have hnl := newLine_any W4 ao4 (shortT T.told).length cap4 (shortT T.told) hL4 (short_mem HT.out.2.2.1.lo) (by have := short_len HT.out.2.2.1.ll; omega)
  have H4 : Hid (W4.ownsRow W3.heap.size 39 4 (.slice ao4 (shortT T.told).length cap4) (shortT T.told).length (flat (shortT T.told)) ∧ Below W3.heap.size W3 W4) := ⟨ho4, u4⟩
  clear hL4 hz4 ho4 u4
  go_wp2_with fail
  refine hnl.mono ?_
  rintro e W5 ⟨m, S', rfl, hm, hS, hS', u5⟩
  clear hnl
  obtain ⟨h6, G6⟩ := H3.out.1.line H4.out.1 rfl H4.out.2 u5 hm hS hS' (by have := short_len HT.out.2.2.1.ll; omega)
  have hth := ((H3.out.1.still H4.out.2).still u5).there 11 2 (by omega)
  obtain ⟨W6, hW6⟩ : ∃ W6, (W5.setCell ⟨q, 11, none⟩ (.slice ao4 (shortT T.told).length cap4)).setCell ⟨q, 12, none⟩ (.map (some m)) = W6 := ⟨_, rfl⟩
  have E6 : Hid (W5.setCells q 11 [.slice ao4 (shortT T.told).length cap4, .map (some m)] = W6) := hW6
  rw [hW6] at h6 G6
  have G6' := H3.out.2.trans G6
  have H6 : Hid (Tt W6 _ Z q _ _ ∧ Gt w col W6 _) := ⟨h6, G6'⟩
  clear hm hS hS' u5 hW6 G6 G6' h6 H3 H4
  have c17 : W6.cell? ⟨q, 17, none⟩ = some (.slice ta T.told.length tc) := by have := H6.out.1.cell 17 (by omega); simp only [tcell, HT.out.2.2.2.2.1] at this; exact this
  have hTL6 : TL (fun _ => True) W6 ta T.told.length T.told := by
    obtain ⟨ta', tc', e1, e2⟩ := H6.out.1.tolds
    have e3 := e1.symm.trans HT.out.2.2.2.2.1
    simp only [Value.slice.injEq] at e3
    rw [← e3.1]; exact e2
  have hhi := high_any _ W6 ta T.told.length tc T.told hTL6
  obtain ⟨hn1, hhn1⟩ : ∃ n, (highT T.told).1 = n := ⟨_, rfl⟩
  obtain ⟨hp1, hhp1⟩ : ∃ n, (highT T.told).2 = n := ⟨_, rfl⟩
  rw [hhn1, hhp1] at hhi HR
  unfold vid at hhi
  clear hTL6 hhn1 hhp1
  go_wp2_with (refine wpList_store_mid rfl 98 (.tmp 56) (.tmp 54) rfl q 11 #[.slice ao4 (shortT T.told).length cap4, .map (some m)] rfl rfl hth infoS98 (by simp [Value.oneCell']) ?_; rw [show (#[.slice ao4 (shortT T.told).length cap4, .map (some m)] : Array Value).toList = [.slice ao4 (shortT T.told).length cap4, .map (some m)] from rfl, E6.out])
  refine hhi.mono ?_
  rintro e W7 ⟨rfl, u7'⟩
  have u7 : Below W6.heap.size W6 W7 := ⟨u7'.os, u7'.tape, u7'.output, u7'.size, u7'.block⟩
  clear hhi c17 hth E6 u7'
  have h7 := H6.out.1.still u7
  have hth2 := h7.there 15 2 (by omega)
  have h8 := h7.setHi hn1 hp1
  obtain ⟨W8, hW8⟩ : ∃ W8, (W7.setCell ⟨q, 15, none⟩ (.int .u64 (hn1 : Nat))).setCell ⟨q, 16, none⟩ (.int .i64 hp1) = W8 := ⟨_, rfl⟩
  have E8 : Hid (W7.setCells q 15 [.int .u64 (hn1 : Nat), .int .i64 hp1] = W8) := hW8
  rw [hW8] at h8
  have hc7 := h8.cell 7 (by omega)
  have hf7 := h8.fr 7
  simp only [tcell] at hc7
  have G8 := (H6.out.2.trans (Gt.bl _ u7)).trans ((Gt.set (k := 15) (by rw [h7.fq]; omega) (.int .u64 (hn1 : Nat))).trans (Gt.set (k := 16) (by rw [h7.fq]; omega) (.int .i64 hp1)))
  rw [hW8] at G8
  have HF : Hid (LabPost w col Z q T.settled (W8.setCell ⟨q, 7, none⟩ (.int .u8 2))) := by
    rw [HR.out]
    exact ⟨_, _, h8.setSt 2, G8.trans (Gt.set (by rw [h8.fq]; omega) _)⟩
  clear h7 h8 G8 hW8 H6 HR HT HU1 u7
  go_wp2_with (refine wpList_store_mid rfl 33 (.tmp 64) (.tmp 62) rfl q 15 #[.int .u64 (hn1 : Nat), .int .i64 hp1] rfl rfl hth2 infoS33 (by simp [Value.oneCell']) ?_; rw [show (#[.int .u64 (hn1 : Nat), .int .i64 hp1] : Array Value).toList = [.int .u64 (hn1 : Nat), .int .i64 hp1] from rfl, E8.out])
  go_end0
  exact ⟨rfl, HF.out⟩
theorem settle_any {w : World} {col : Nat → Nat} {Z : Nat → Prop} {q : Nat} {T : Tot} {a : Ta} (h : Tt w col Z q T a) (hn : Tn T) (hb : Tb T.told) : Calls Tryz.prog 101 #[.pointer (some ⟨q, 0, none⟩)] w fun e w' => e = .returned (.tuple #[]) ∧ LabPost w col Z q T.settle w' := by
  unfold Tot.settle
  by_cases hst : T.st = 1
  · by_cases hle : cntF 16 T.vs ≤ T.told.length
    · rw [if_pos ⟨hst, hle⟩]
      cases hp : T.prim with
      | true => exact settle_prim h hn hb hst hle hp
      | false => exact settle_not h hn hb hst hle hp
    · rw [if_neg (fun c => hle c.2)]
      obtain ⟨ta, tc, htv, _⟩ := h.tolds
      have h7 := h.cell 7 (by omega)
      have h17 := h.cell 17 (by omega)
      simp only [tcell] at h7 h17
      rw [htv] at h17
      rw [hst] at h7
      refine (settle_few w q T.told.length T.vs ta tc hn.vs (by omega) ⟨h7, h17, h.cell 6 (by omega)⟩).mono ?_
      rintro e w' ⟨rfl, k, rfl⟩
      exact ⟨rfl, col, a, h.still ⟨rfl, rfl, rfl, Nat.le_refl _, fun _ _ => rfl⟩, Gt.bl col ⟨rfl, rfl, rfl, Nat.le_refl _, fun _ _ => rfl⟩⟩
  · rw [if_neg (fun c => hst c.1)]
    refine (settle_idle w q T.st hst _ _ ⟨h.cell 7 (by omega), h.cell 17 (by omega), h.cell 6 (by omega)⟩).mono ?_
    rintro e w' ⟨rfl, rfl⟩
    exact ⟨rfl, col, a, h.still ⟨rfl, rfl, rfl, Nat.le_refl _, fun _ _ => rfl⟩, Gt.bl col ⟨rfl, rfl, rfl, Nat.le_refl _, fun _ _ => rfl⟩⟩
end Go.Proofs.YtlaihgdfedalmaaGreat
