/-
  Contracts of what writes numbers as bytes: Uint of package code, Uint of the document's answer: each answers the bytes that came, and the number's bytes behind them, in new memory.
-/
import Derived.Test.YtpdgoalbknopiaaCdLeaf
namespace Go.Proofs.Ytpdgoalbknopiaa.Cd
open Go.RowKit
set_option linter.unusedVariables false

def by8 (x : UInt8) : Value := .int .u8 (x.toNat : Int)
theorem by8_one (ys : List UInt8) : ∀ u ∈ ys.map by8, u.oneCell' = true := by
  intro u hu
  simp only [List.mem_map] at hu
  obtain ⟨y, _, rfl⟩ := hu
  rfl
theorem Try.info5 : (Try.prog.info? 5).map (fun i => (i.zero, i.size, i.bytes)) = some (some (.int .u8 0), 1, 1) := by kernel_rfl

theorem Row.below {B : Nat} {w w' : World} {ao : Option Addr} {n cap : Nat} {xs : List UInt8} (h : Row w ao n cap xs) (hb : Below B w w') (hB : w.heap.size ≤ B) : Row w' ao n cap xs := by
  obtain ⟨h1, h2, h3, h4, h5⟩ := h
  refine ⟨h1, h2, h3, h4, fun a ha i hi => ?_⟩
  have hc := h5 a ha i hi
  have := World.block_lt_of_cell? w _ hc
  rw [hb.cell (by omega)]
  exact hc
theorem Row.olds {w : World} {ao : Option Addr} {n cap : Nat} {xs : List UInt8} (h : Row w ao n cap xs) : ∀ b, ao = some b → ∀ (j : Nat) u, (xs.map by8)[j]? = some u → w.cell? (b.add j) = some u := by
  intro b hb j u hu
  have hj : j < xs.length := by
    rcases Nat.lt_or_ge j xs.length with h | h
    · exact h
    · simp [List.getElem?_eq_none (show (xs.map by8).length ≤ j by simpa using h)] at hu
  rw [h.2.2.2.2 b hb j (by have := h.1; omega)]
  simp [List.getElem?_eq_getElem hj] at hu
  simp [by8, List.getElem?_eq_getElem hj] at hu ⊢
  exact hu

theorem or_128 (m : Nat) : bits .or .u8 ((m : Int) % 256) 128 = (((UInt8.ofNat (m % 128 + 128)).toNat : Nat) : Int) := by
  rw [ofNat_toNat _ (by omega)]
  have h := u8_or_nat (m % 256) 128 (by omega) (by omega)
  rw [show ((m : Int) % 256) = ((m % 256 : Nat) : Int) by omega]
  rw [show (128 : Int) = ((128 : Nat) : Int) from rfl, h]
  have h2 : m % 256 ||| 128 = m % 128 + 128 := by
    have e : m % 256 = 2 ^ 7 * (m / 128 % 2) + m % 128 := by omega
    have l := Nat.two_pow_add_eq_or_of_lt (show m % 128 < 2 ^ 7 by omega) (m / 128 % 2)
    have l1 := Nat.two_pow_add_eq_or_of_lt (show m % 128 < 2 ^ 7 by omega) 1
    rw [e, l]
    have hm : m / 128 % 2 = 0 ∨ m / 128 % 2 = 1 := by omega
    rcases hm with h0 | h0
    · rw [h0]
      simp only [Nat.mul_zero, Nat.zero_or]
      rw [show m % 128 + 128 = 2 ^ 7 * 1 + m % 128 by omega, l1, Nat.or_comm]
    · rw [h0, Nat.or_assoc, Nat.or_comm (m % 128) 128, ← Nat.or_assoc]
      rw [show m % 128 + 128 = 2 ^ 7 * 1 + m % 128 by omega, l1]
      rfl
  rw [h2]

theorem owns_mono {w : World} {B B' : Nat} {e : TypeId} {size : Nat} {v : Value} {n : Nat} {xs : List Value} (h : w.ownsRow B e size v n xs) (hB : B' ≤ B) : w.ownsRow B' e size v n xs := by
  refine ⟨h.1, ?_⟩
  rcases h.2 with hn | ⟨g, cap, cur, hv, hb, r⟩
  · exact .inl hn
  · exact .inr ⟨g, cap, cur, hv, by omega, r⟩
theorem arg_step {w wr w1 : World} {o : Obj} {n : Nat} {xs : List UInt8} {y : UInt8} {v' : Value} (hbel : Below w.heap.size w wr)
    (hown : w1.ownsRow (wr.heap.size + 1) 5 1 v' (n + 1) (xs.map by8 ++ [by8 y])) (hgrow : (wr.alloc o).grownBy w1 none) :
    w1.ownsRow w.heap.size 5 1 v' (n + [y].length) ((xs ++ [y]).map by8) ∧ Below w.heap.size w w1 := by
  have hs := hbel.size
  refine ⟨by simpa using owns_mono hown (by omega), (hbel.alloc hs o).grown hgrow (by simp; omega) (by simp)⟩
theorem own_step {w wr w1 : World} {o : Obj} {L : Nat} {zs : List UInt8} {y : UInt8} {v v' : Value} (hbel : Below w.heap.size w wr) (h0 : wr.ownsRow w.heap.size 5 1 v L (zs.map by8))
    (hown : w1.ownsRow w.heap.size 5 1 v' (L + 1) (zs.map by8 ++ [by8 y])) (hgrow : (wr.alloc o).grownBy w1 v.ownBlock) :
    w1.ownsRow w.heap.size 5 1 v' (L + 1) ((zs ++ [y]).map by8) ∧ Below w.heap.size w w1 := by
  have hs := hbel.size
  refine ⟨by simpa using hown, (hbel.alloc hs o).grown hgrow (by simp; omega) (fun k hk => (h0.lt k hk).1)⟩

/-- What the walk holds in its slots: as it came, or a row of the call's own. -/
def UintAt (w wr : World) (ao : Option Addr) (n : Nat) (xs acc : List UInt8) (v : Value) : Prop :=
  Below w.heap.size w wr ∧ ((v = .slice ao n n ∧ acc = []) ∨ (wr.ownsRow w.heap.size 5 1 v (n + acc.length) ((xs ++ acc).map by8)))

set_option maxRecDepth 10000 in
set_option maxHeartbeats 1000000 in
theorem uint_any (w : World) (ao : Option Addr) (n cap : Nat) (xs : List UInt8) (h : Row w ao n cap xs) (N : Nat) (hN : N < 18446744073709551616) (hr : n + 10 ≤ 140737488355328) :
    Calls Try.prog 62 #[.slice ao n cap, .int .u64 (N : Nat)] w fun e w' => ∃ v, e = .returned v ∧ w'.ownsRow w.heap.size 5 1 v (n + (enc N).length) ((xs ++ enc N).map by8) ∧ Below w.heap.size w w' := by
  have hrow : Row w ao n n xs := ⟨h.1, Nat.le_refl _, by have := h.2.1; have := h.2.2.1; omega, fun e => ⟨(h.2.2.2.1 e).1, (h.2.2.2.1 e).1⟩, h.2.2.2.2⟩
  obtain ⟨hlen, hle, hm, _, _⟩ := h
  obtain ⟨i0, hi, hz0, hz1, hz2⟩ := info_parts Try.info5
  go_enter Try.func62, Try.ntmps62
  go_wp2_with (first | (go_at_call 73; refine (full_any _ _ _ _ hle hm).mono ?_; rintro e w' ⟨rfl, rfl⟩))
  go_loopw [0, 1] (fun v m wr => ∃ (k c : Nat) (acc : List UInt8), k ≤ 9 ∧ c < 2 * 128 ^ (9 - k) ∧ m = .int .u64 (c : Nat) ∧ acc.length = k ∧ acc ++ encF (9 - k) c = enc N ∧ UintAt w wr ao n xs acc v) (fun _ m _ => (intOf m).toNat)
  case atStart => exact ⟨0, N, [], by omega, by omega, rfl, rfl, by simp [enc], Below.refl _ _, .inl ⟨rfl, rfl⟩⟩
  case round => 
    obtain ⟨k, c, acc, hk, hc, rfl, hacc, henc, hbel, hv⟩ := hrel
    have HE : Hid (acc ++ encF (9 - k) c = enc N) := henc
    have HC : Hid (c < 2 * 128 ^ (9 - k)) := hc
    have HL : Hid (acc.length = k) := hacc
    have hsz := hbel.size
    have hkb : acc.length ≤ 9 := by omega
    clear henc hc hacc
    by_cases hlt : c < 128
    · have HEN : Hid (enc N = acc ++ [UInt8.ofNat c]) := by have := HE.out; rw [encF_small _ _ hlt] at this; exact this.symm
      obtain ⟨y, hy⟩ : ∃ y, y = UInt8.ofNat c := ⟨_, rfl⟩
      have hy8 : Hid (by8 y = .int .u8 (c : Int)) := by show by8 y = _; rw [hy, by8, ofNat_toNat _ (by omega)]
      rw [← hy] at HEN
      clear hy
      rcases hv with ⟨rfl, rfl⟩ | hown
      · go_wp2_with (first | (at_builtin; refine wpList_append_grows _ rfl _ _ 27 rfl 5 i0 (.int .u8 0) 1 1 Try.underlying27 hi hz0 hz1 hz2 rfl (by decide) ao n n (xs.map by8) rfl ?c0 ?c1 ?c2 ⟨wr.heap.size, 0, none⟩ 1 1 [by8 y] rfl rfl ?c3 ?c4 ?c5 ?c6 ?c7 ?_))
        case c0 => exact hrow.2.2.2.1
        case c1 => simp [hlen]
        case c2 => exact ((hrow.below hbel (Nat.le_refl _)).below ((Below.refl _ _).alloc (Nat.le_refl _) _) (Nat.le_refl _)).olds
        case c3 => rw [hy8.out]; exact cell_one_new _ _ _
        case c4 => exact by8_one [y]
        case c5 => omega
        case c6 => unfold maxLen; omega
        case c7 => omega
        · intro v' w1 hown1 hgrow1
          have R := arg_step hbel hown1 hgrow1
          clear hown1 hgrow1
          go_wp2
          go_ret
          exact ⟨v', rfl, by rw [HEN.out]; exact R.1, R.2⟩
      · go_wp2_with (first | (at_builtin; refine wpList_append_own _ rfl _ _ 27 rfl w.heap.size 5 i0 (.int .u8 0) 1 1 Try.underlying27 hi hz0 hz1 hz2 rfl (by decide) u0 _ _ rfl (hown.alloc _) ⟨wr.heap.size, 0, none⟩ 1 1 [by8 y] rfl rfl ?d3 ?d4 ?d6 ?d7 ?d8 ?_))
        case d3 => rw [hy8.out]; exact cell_one_new _ _ _
        case d4 => exact by8_one [y]
        case d6 => unfold maxLen; omega
        case d7 => omega
        case d8 => simp; omega
        · intro v' w1 hown1 hgrow1 _
          have R := own_step (y := y) hbel hown (by simpa using hown1) hgrow1
          clear hown1 hgrow1
          go_wp2
          go_ret
          exact ⟨v', rfl, by rw [HEN.out]; simpa [Nat.add_assoc] using R.1, R.2⟩
    · obtain ⟨y, hy⟩ : ∃ y, y = UInt8.ofNat (c % 128 + 128) := ⟨_, rfl⟩
      have hk9 : k < 9 := by
        rcases Nat.lt_or_ge k 9 with h | h
        · exact h
        · have := HC.out
          have e : k = 9 := by omega
          subst e
          simp at this
          omega
      obtain ⟨j, hj⟩ : ∃ j, 9 - k = j + 1 := ⟨8 - k, by omega⟩
      have HEN : Hid ((acc ++ [y]) ++ encF (9 - (k + 1)) (c / 128) = enc N) := by
        have := HE.out
        rw [hj, encF_big _ _ (by omega), ← hy] at this
        show (acc ++ [y]) ++ encF (9 - (k + 1)) (c / 128) = enc N
        rw [show 9 - (k + 1) = j by omega, List.append_assoc]
        exact this
      have HCN : Hid (c / 128 < 2 * 128 ^ (9 - (k + 1))) := by
        have := HC.out
        rw [hj, Nat.pow_succ] at this
        show c / 128 < 2 * 128 ^ (9 - (k + 1))
        rw [show 9 - (k + 1) = j by omega]
        omega
      have hyv : bits .or .u8 ((c : Int) % 256) 128 = (y.toNat : Int) := by rw [hy]; exact or_128 c
      have HLN : Hid ((acc ++ [y]).length = k + 1) := by have := HL.out; show (acc ++ [y]).length = k + 1; simp [this]
      have hcd : ((c / 128 : Nat) : Int) = (c : Int) / 128 := by omega
      have HCD : Hid (((c / 128 : Nat) : Int) = (c : Int) / 128) := hcd
      clear hy hj hcd
      rcases hv with ⟨rfl, rfl⟩ | hown
      · go_wp2_with (first | (at_builtin; refine wpList_append_grows _ rfl _ _ 27 rfl 5 i0 (.int .u8 0) 1 1 Try.underlying27 hi hz0 hz1 hz2 rfl (by decide) ao n n (xs.map by8) rfl ?e0 ?e1 ?e2 ⟨wr.heap.size, 0, none⟩ 1 1 [by8 y] rfl rfl ?e3 ?e4 ?e5 ?e6 ?e7 ?_))
        case e0 => exact hrow.2.2.2.1
        case e1 => simp [hlen]
        case e2 => exact ((hrow.below hbel (Nat.le_refl _)).below ((Below.refl _ _).alloc (Nat.le_refl _) _) (Nat.le_refl _)).olds
        case e3 => exact cell_one_new _ _ _
        case e4 => exact by8_one [y]
        case e5 => omega
        case e6 => unfold maxLen; omega
        case e7 => omega
        · intro v' w1 hown1 hgrow1
          have R := arg_step hbel hown1 hgrow1
          clear hown1 hgrow1
          go_wp2
          go_roundw
          case rel => exact ⟨k + 1, c / 128, [y], by omega, HCN.out, by rw [HCD.out], HLN.out, HEN.out, R.2, .inr R.1⟩
          case measure => simp [intOf]; omega
      · go_wp2_with (first | (at_builtin; refine wpList_append_own _ rfl _ _ 27 rfl w.heap.size 5 i0 (.int .u8 0) 1 1 Try.underlying27 hi hz0 hz1 hz2 rfl (by decide) u0 _ _ rfl (hown.alloc _) ⟨wr.heap.size, 0, none⟩ 1 1 [by8 y] rfl rfl ?f3 ?f4 ?f6 ?f7 ?f8 ?_))
        case f3 => exact cell_one_new _ _ _
        case f4 => exact by8_one [y]
        case f6 => unfold maxLen; omega
        case f7 => omega
        case f8 => simp; omega
        · intro v' w1 hown1 hgrow1 _
          have R := own_step (y := y) hbel hown (by simpa using hown1) hgrow1
          clear hown1 hgrow1
          go_wp2
          go_roundw
          case rel => exact ⟨k + 1, c / 128, acc ++ [y], by omega, HCN.out, by rw [HCD.out], HLN.out, HEN.out, R.2, .inr (by simpa [Nat.add_assoc] using R.1)⟩
          case measure => simp [intOf]; omega

end Go.Proofs.Ytpdgoalbknopiaa.Cd
