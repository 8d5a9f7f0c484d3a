/-
  Contracts of the reader of the document's answer: Uint: what it answers, and where it stands behind it.
-/
import Derived.Test.YtpdgoalbknopiaaCdReadMath
import Derived.Test.YtpdgoalbknopiaaCdRefUint
import Derived.Test.YtpdgoalbknopiaaCdStr
import Derived.Test.YtpdgoalbknopiaaCdRegion
import Derived.RegionTactic
import Derived.BigRegion
namespace Go.Proofs.Ytpdgoalbknopiaa.Cd
open Go.RowKit
set_option linter.unusedVariables false
set_option linter.unusedSimpArgs false

/-- Where the document's reader stands; none: behind a fault. -/
def atOf : Option Nat → Int
  | none => -1
  | some k => k
/-- The document's reader over bytes that came. -/
def RR (w : World) (m : Nat) (ao : Option Addr) (n cap : Nat) (o : Option Nat) : Prop :=
  w.heap[m]? = some (.cells #[.slice ao n cap, .int .i64 (atOf o)] 72 (0, 0))
theorem RR.cells {w : World} {m : Nat} {ao : Option Addr} {n cap : Nat} {o : Option Nat} (h : RR w m ao n cap o) :
    w.cell? ⟨m, 0, none⟩ = some (.slice ao n cap) ∧ w.cell? ⟨m, 1, none⟩ = some (.int .i64 (atOf o)) ∧ w.frozen? ⟨m, 0, none⟩ = false ∧ w.frozen? ⟨m, 1, none⟩ = false :=
  ⟨by rw [cell_of_row w m 0 _ 72 (0, 0) h]; rfl, by rw [cell_of_row w m 1 _ 72 (0, 0) h]; rfl, frozen_of_row w m 0 _ 72 h, frozen_of_row w m 1 _ 72 h⟩
theorem RR.set {w : World} {m : Nat} {ao : Option Addr} {n cap : Nat} {o : Option Nat} (h : RR w m ao n cap o) (o' : Option Nat) : RR (w.setCell ⟨m, 1, none⟩ (.int .i64 (atOf o'))) m ao n cap o' := by
  unfold RR
  rw [heap_setCell_same w m 1 _ 72 _ h]
  rfl
theorem RR.below {w w' : World} {m : Nat} {ao : Option Addr} {n cap : Nat} {o : Option Nat} (h : RR w m ao n cap o) (hb : Below w.heap.size w w') : RR w' m ao n cap o := by
  unfold RR
  rw [hb.block m (Array.getElem?_eq_some_iff.1 h).1]
  exact h
theorem RR.lt {w : World} {m : Nat} {ao : Option Addr} {n cap : Nat} {o : Option Nat} (h : RR w m ao n cap o) : m < w.heap.size := (Array.getElem?_eq_some_iff.1 h).1
/-- The bytes stay while the document's reader's object is written. -/
theorem row_RR {w w' : World} {m : Nat} {ao bo : Option Addr} {n cap n' cap' : Nat} {o : Option Nat} {xs : List UInt8} (h : Row w bo n' cap' xs) (hr : RR w m ao n cap o) (hg : w.grownBy w' (some m)) : Row w' bo n' cap' xs := by
  obtain ⟨h1, h2, h3, h4, h5⟩ := h
  refine ⟨h1, h2, h3, h4, fun a ha i hi => ?_⟩
  have hc := h5 a ha i hi
  have hne : (a.add i).block ≠ m := by
    intro he
    generalize a.add i = p at *
    obtain ⟨pb, po, ps⟩ := p
    have hs : ps = none := World.cell?_spot hc
    subst hs
    simp only at he
    subst he
    rw [cell_of_row w _ po _ 72 (0, 0) hr] at hc
    match po, hc with
    | 0, hc => simp at hc
    | 1, hc => simp at hc
    | k + 2, hc => simp at hc
  exact hg.cell hc (by simpa using hne)

theorem Row.takeC' {w : World} {ao : Option Addr} {n cap : Nat} {xs : List UInt8} (h : Row w ao n cap xs) (k : Nat) (hk : k ≤ n) : Row w ao k cap (xs.take k) := by
  obtain ⟨h1, h2, h3, h4, h5⟩ := h
  refine ⟨by simp; omega, by omega, h3, fun e => by have := h4 e; omega, fun a ha i hi => ?_⟩
  rw [h5 a ha i (by omega)]
  simp [hi]
/-- Where it stands behind a number. -/
def refNext (xs : List UInt8) : Option Nat → Option Nat
  | none => none
  | some k => match rd (xs.drop k) with | none => none | some (_, s) => some (k + s)
def refVal (xs : List UInt8) : Option Nat → Nat
  | none => 0
  | some k => rdNum (rd (xs.drop k))

theorem grown_of_below {w w' : World} (h : Below w.heap.size w w') (r : Option Nat) : w.grownBy w' r := ⟨h.os, h.tape, h.output, h.size, fun k hk _ => h.block k hk⟩
theorem wrap_acc (acc d j A : Nat) (hA : A = (acc + d * 128 ^ j) % 18446744073709551616) : IntKind.u64.wrap ((acc : Int) + IntKind.u64.wrap ((d : Int) * 2 ^ (7 * j))) = (A : Int) := by
  have h2 : (2 : Int) ^ (7 * j) = ((128 ^ j : Nat) : Int) := by
    rw [show (128 : Nat) = 2 ^ 7 from rfl, ← Nat.pow_mul]
    simp
  rw [IntKind.wrap_u64, IntKind.wrap_u64, h2, ← Int.natCast_mul, hA]
  omega

set_option maxRecDepth 10000 in
set_option maxHeartbeats 1000000 in
theorem refRead_none (w : World) (m : Nat) (ao : Option Addr) (n cap : Nat) (h : RR w m ao n cap none) :
    Calls Try.prog 65 #[.pointer (some ⟨m, 0, none⟩)] w fun e w' => e = .returned (.int .u64 0) ∧ w = w' := by
  obtain ⟨c0, c1, f0, f1⟩ := h.cells
  simp only [atOf] at c1
  go_enter Try.func65, Try.ntmps65
  go_wp2
  go_ret
  exact ⟨rfl, rfl⟩

set_option maxRecDepth 10000 in
set_option maxHeartbeats 4000000 in
theorem refRead_some (w : World) (m : Nat) (ao : Option Addr) (n cap : Nat) (xs : List UInt8) (k : Nat) (h : RR w m ao n cap (some k)) (hx : Row w ao n cap xs) (hk : k ≤ n) (hn : n ≤ 140737488355328) :
    Calls Try.prog 65 #[.pointer (some ⟨m, 0, none⟩)] w fun e w' => e = .returned (.int .u64 ((rdNum (rd (xs.drop k)) : Nat))) ∧ RR w' m ao n cap (refNext xs (some k)) ∧ w.grownBy w' (some m) := by
  have hcm := hx.2.1
  have hxl := hx.1
  have hcap := hx.2.2.1
  unfold maxLen at hcap
  have hop := hx.open
  obtain ⟨c0, c1, f0, f1⟩ := h.cells
  simp only [atOf] at c1
  have hk0 : ¬ (k : Int) < 0 := by omega
  have HH : Hid (RR w m ao n cap (some k)) := h
  have HX : Hid (Row w ao n cap xs) := hx
  clear h hx
  go_enter Try.func65, Try.ntmps65
  go_wp2
  go_loopw [3, 4] (fun s i wr => ∃ (j acc : Nat), j ≤ 10 ∧ k + j ≤ n ∧ i = .int .i64 j ∧ s = .int .u64 (acc : Nat) ∧ acc < 18446744073709551616 ∧ (∀ y ∈ (xs.drop k).take j, 128 ≤ y.toNat) ∧ ((j ≤ 9 ∧ acc = val ((xs.drop k).take j) ∧ rdF j acc (xs.drop (k + j)) = rd (xs.drop k)) ∨ (j = 10 ∧ rd (xs.drop k) = none)) ∧ Below w.heap.size w wr) (fun _ i _ => 10 - (intOf i).toNat)
  case atStart => exact ⟨0, 0, by omega, by omega, rfl, rfl, by omega, by simp, .inl ⟨by omega, by simp [val], rfl⟩, Below.refl _ _⟩
  case round =>
    obtain ⟨j, acc, hj, hkj, rfl, rfl, hacc, hall, hinv, hbel⟩ := hrel
    have hsz := hbel.size
    have hRR := HH.out.below hbel
    obtain ⟨d0, d1, g0, g1⟩ := hRR.cells
    simp only [atOf] at d1
    have HRR : Hid (RR wr m ao n cap (some k)) := hRR
    have HALL : Hid (∀ y ∈ (xs.drop k).take j, 128 ≤ y.toNat) := hall
    have HINV : Hid ((j ≤ 9 ∧ acc = val ((xs.drop k).take j) ∧ rdF j acc (xs.drop (k + j)) = rd (xs.drop k)) ∨ (j = 10 ∧ rd (xs.drop k) = none)) := hinv
    clear c0 c1 f0 f1 hRR hall hinv
    by_cases hj10 : j < 10
    · have hj10i : (j : Int) < 10 := by omega
      have hwr : IntKind.i64.wrap ((k : Int) + (j : Int)) = (k : Int) + (j : Int) := by simp [IntKind.wrap, IntKind.bits, IntKind.signed]; omega
      by_cases hkn : k + j < n
      · have hck00 := (HX.out.below hbel (Nat.le_refl _)).open (by omega)
        obtain ⟨b, off, hao, hcell⟩ := hck00
        subst hao
        have hck := hcell (k + j) hkn
        have hj9 : j ≤ 9 := by omega
        obtain ⟨hacc1, hrd⟩ : acc = val ((xs.drop k).take j) ∧ rdF j acc (xs.drop (k + j)) = rd (xs.drop k) := by
          rcases HINV.out with h | h
          · exact h.2
          · omega
        obtain ⟨x, hx⟩ : ∃ x, x = xs.getD (k + j) 0 := ⟨_, rfl⟩
        have hdr := drop_cons (xs := xs) (k := k + j) (by omega)
        have htk : (xs.drop k).take (j + 1) = (xs.drop k).take j ++ [x] := by
          rw [List.take_succ_eq_append_getElem (by simp; omega), hx]
          simp [List.getD, List.getElem?_eq_getElem (show k + j < xs.length by omega)]
        rw [← hx] at hck hdr
        have hxu := u8_lt x
        have hlt := val_lt ((xs.drop k).take j)
        have htl : ((xs.drop k).take j).length = j := by simp; omega
        rw [htl, ← hacc1] at hlt
        have hvs := val_snoc ((xs.drop k).take j) x
        rw [htl, ← hacc1, ← htk] at hvs
        obtain ⟨A, hA⟩ : ∃ A, A = (acc + x.toNat % 128 * 128 ^ j) % 18446744073709551616 := ⟨_, rfl⟩
        have hAl : A < 18446744073709551616 := by omega
        have hAi := wrap_acc acc (x.toNat % 128) j A hA
        rw [show ((x.toNat % 128 : Nat) : Int) = (x.toNat : Int) % 128 by omega] at hAi
        have HA : Hid (A = (acc + x.toNat % 128 * 128 ^ j) % 18446744073709551616) := hA
        have HVS : Hid (val ((xs.drop k).take (j + 1)) = acc + x.toNat % 128 * 128 ^ j) := hvs
        have HTK : Hid ((xs.drop k).take (j + 1) = (xs.drop k).take j ++ [x]) := htk
        have HRD : Hid (rdF j acc (x :: xs.drop (k + j + 1)) = rd (xs.drop k)) := by rw [hdr] at hrd; exact hrd
        have HLT : Hid (acc < 128 ^ j) := hlt
        have hkj0 : (0 : Int) ≤ (k : Int) + (j : Int) := by omega
        have hkj1 : (k : Int) + (j : Int) < (n : Int) := by omega
        have htn : ((k : Int) + (j : Int)).toNat = k + j := by omega
        clear hx hcell hA hvs htk hdr hrd hlt hacc1 htl HINV
        by_cases hx128 : 128 ≤ x.toNat
        · go_wp2
          go_region_held3 (fun wx => wx.cell? ⟨m, 0, none⟩ = some (.slice (some ⟨b, off, none⟩) n cap) ∧ wx.cell? ⟨m, 1, none⟩ = some (.int .i64 (k : Int))) (exact ⟨d0, d1⟩) (fail)
          go_wp2
          go_region_held3 (fun wx => wx.cell? ⟨m, 0, none⟩ = some (.slice (some ⟨b, off, none⟩) n cap) ∧ wx.cell? ⟨m, 1, none⟩ = some (.int .i64 (k : Int)) ∧ wx.cell? ⟨b, off + (k + j), none⟩ = some (.int .u8 (x.toNat : Int))) (exact ⟨d0, d1, hck⟩) (fail)
          go_wp2
          go_roundw
          case rel =>
            refine ⟨j + 1, A, by omega, by omega, by go_num, rfl, hAl, ?_, ?_, hbel.drew.drew⟩
            · rw [HTK.out]
              intro y hy
              simp only [List.mem_append, List.mem_singleton] at hy
              rcases hy with hy | rfl
              · exact HALL.out y hy
              · exact hx128
            · have hrd := HRD.out
              rw [rdF] at hrd
              by_cases h9 : j = 9
              · right
                rw [if_pos ⟨h9, by omega⟩] at hrd
                exact ⟨by omega, hrd.symm⟩
              · left
                rw [if_neg (by omega), if_pos hx128] at hrd
                have hAe : A = acc + x.toNat % 128 * 128 ^ j := by
                  rw [HA.out]
                  refine Nat.mod_eq_of_lt ?_
                  have := HVS.out
                  have hv := val_lt ((xs.drop k).take (j + 1))
                  have hle : ((xs.drop k).take (j + 1)).length ≤ 9 := by simp; omega
                  have := pow_le9 hle
                  omega
                exact ⟨by omega, by rw [HVS.out]; exact hAe, by rw [hAe, ← Nat.add_assoc]; exact hrd⟩
          case measure => simp [intOf]; omega
        · have hcapk : ¬ cap = k := by omega
          have hwr2 : IntKind.i64.wrap ((k : Int) + (j : Int) + 1) = (k : Int) + (j : Int) + 1 := by simp [IntKind.wrap, IntKind.bits, IntKind.signed]; omega
          have hk0' : (0 : Int) ≤ (k : Int) := by omega
          have hkl1 : (k : Int) ≤ (k : Int) + (j : Int) + 1 := by omega
          have hkl2 : (k : Int) + (j : Int) + 1 ≤ (cap : Int) := by omega
          have htn2 : ((k : Int) + (j : Int) + 1).toNat = k + j + 1 := by omega
          have hsub : k + j + 1 - k = j + 1 := by omega
          have hrowp : Row wr (some ⟨b, off + k, none⟩) (j + 1) (cap - k) ((xs.drop k).take (j + 1)) := ((HX.out.below hbel (Nat.le_refl _)).drop_at k (by omega)).takeC' (j + 1) (by omega)
          have hRRr := HRR.out
          obtain ⟨ps, hps⟩ : ∃ ps, ps = (xs.drop k).take (j + 1) := ⟨_, rfl⟩
          rw [← hps] at hrowp
          have HPS : Hid (ps = (xs.drop k).take (j + 1)) := hps
          clear hps
          have hb3 : Below wr.heap.size wr wr.drew.drew.drew := (Below.refl _ _).drew.drew.drew
          have hcells : ∀ wx, Below wr.heap.size wr wx → (wx.cell? ⟨m, 0, none⟩ = some (.slice (some ⟨b, off, none⟩) n cap) ∧ wx.cell? ⟨m, 1, none⟩ = some (.int .i64 (k : Int)) ∧ (convert 27 9 (.slice (some ⟨b, off + k, none⟩) (j + 1) (cap - k))).run Try.prog wx = .ok (.string (str ps)) wx) := fun wx hb => ⟨(hRRr.below hb).cells.1, (hRRr.below hb).cells.2.1, conv_row (hrowp.below hb (Nat.le_refl _))⟩
          have hbe := str_beq (enc A) ps
          have hlen9 : ((xs.drop k).take j).length = j := by simp; omega
          by_cases hgood : (j = 9 ∧ 1 < x.toNat) ∨ (x.toNat = 0 ∧ 0 < j)
          · have HN : Hid (rd (xs.drop k) = none) := by
              have hrd := HRD.out
              rw [rdF] at hrd
              by_cases h9 : j = 9 ∧ 1 < x.toNat
              · rw [if_pos h9] at hrd
                exact hrd.symm
              · rw [if_neg h9, if_neg hx128, if_pos (hgood.resolve_left h9)] at hrd
                exact hrd.symm
            rw [decide_eq_false (by
              rw [HPS.out, HTK.out]
              refine enc_not _ x A hAl ?_
              rcases hgood with h | h
              · exact .inr ⟨by rw [hlen9]; exact h.1, h.2⟩
              · refine .inl ⟨h.1, ?_⟩
                intro hnil
                rw [hnil] at hlen9
                simp at hlen9
                omega)] at hbe
            clear hgood hlen9
            go_wp2
            go_region_held3 (fun wx => wx.cell? ⟨m, 0, none⟩ = some (.slice (some ⟨b, off, none⟩) n cap) ∧ wx.cell? ⟨m, 1, none⟩ = some (.int .i64 (k : Int))) (exact ⟨d0, d1⟩) (fail)
            go_wp2
            go_region_held3 (fun wx => wx.cell? ⟨m, 0, none⟩ = some (.slice (some ⟨b, off, none⟩) n cap) ∧ wx.cell? ⟨m, 1, none⟩ = some (.int .i64 (k : Int)) ∧ wx.cell? ⟨b, off + (k + j), none⟩ = some (.int .u8 (x.toNat : Int))) (exact ⟨d0, d1, hck⟩) (fail)
            go_wp2
            refine wp_region_noPanic ?_
            refine wp_region_held_drew (S := fun wx => wx.cell? ⟨m, 0, none⟩ = some (.slice (some ⟨b, off, none⟩) n cap) ∧ wx.cell? ⟨m, 1, none⟩ = some (.int .i64 (k : Int)) ∧ (convert 27 9 (.slice (some ⟨b, off + k, none⟩) (j + 1) (cap - k))).run Try.prog wx = .ok (.string (str ps)) wx) (by kernel_rfl) (hcells _ hb3) (fun hHeld => ?_)
            refine take_first 0 (v := ?_) rfl (by kernel_rfl) (by kernel_rfl) (by kernel_rfl) (fun _ _ _ h => h) (Or.inl ⟨by rfl, by intro wx hSw; (try dsimp only at hSw); go_simp; try with_reducible rfl⟩) (by assumption) ?_
            (try simp only [Act.put, List.setIfInBounds_toArray, List.set_cons_zero, List.set_cons_succ])
            refine take_first 3 (v := ?_) rfl (by kernel_rfl) (by kernel_rfl) (by kernel_rfl) (fun _ _ _ h => h) (Or.inl ⟨by rfl, by intro wx hSw; (try dsimp only at hSw); go_simp; try with_reducible rfl⟩) (by assumption) ?_
            (try simp only [Act.put, List.setIfInBounds_toArray, List.set_cons_zero, List.set_cons_succ])
            refine take_first 4 (v := ?_) rfl (by kernel_rfl) (by kernel_rfl) (by kernel_rfl) (fun _ _ _ h => h) (Or.inl ⟨by rfl, by intro wx hSw; (try dsimp only at hSw); go_simp; try with_reducible rfl⟩) (by assumption) ?_
            (try simp only [Act.put, List.setIfInBounds_toArray, List.set_cons_zero, List.set_cons_succ])
            refine take_first 5 (v := ?_) rfl (by kernel_rfl) (by kernel_rfl) (by kernel_rfl) (fun _ _ _ h => h) (Or.inl ⟨by rfl, by intro wx hSw; (try dsimp only at hSw); go_simp; try with_reducible rfl⟩) (by assumption) ?_
            (try simp only [Act.put, List.setIfInBounds_toArray, List.set_cons_zero, List.set_cons_succ])
            refine take_first 6 (v := ?_) rfl (by kernel_rfl) (by kernel_rfl) (by kernel_rfl) (fun _ _ _ h => h) (Or.inl ⟨by rfl, by intro wx hSw; (try dsimp only at hSw); go_simp; try with_reducible rfl⟩) (by assumption) ?_
            (try simp only [Act.put, List.setIfInBounds_toArray, List.set_cons_zero, List.set_cons_succ])
            refine take_first 7 (v := ?_) rfl (by kernel_rfl) (by kernel_rfl) (by kernel_rfl) (fun _ _ _ h => h) (Or.inl ⟨by rfl, by intro wx hSw; (try dsimp only at hSw); go_simp; try with_reducible rfl⟩) (by assumption) ?_
            (try simp only [Act.put, List.setIfInBounds_toArray, List.set_cons_zero, List.set_cons_succ])
            refine take_first 8 (v := ?_) rfl (by kernel_rfl) (by kernel_rfl) (by kernel_rfl) (fun _ _ _ h => h) (Or.inl ⟨by rfl, by intro wx hSw; (try dsimp only at hSw); go_simp; try with_reducible rfl⟩) (by assumption) ?_
            (try simp only [Act.put, List.setIfInBounds_toArray, List.set_cons_zero, List.set_cons_succ])
            refine take_first 9 (v := ?_) rfl (by kernel_rfl) (by kernel_rfl) (by kernel_rfl) (fun _ _ _ h => h) (Or.inl ⟨by rfl, by intro wx hSw; (try dsimp only at hSw); go_simp; try with_reducible rfl⟩) (by assumption) ?_
            (try simp only [Act.put, List.setIfInBounds_toArray, List.set_cons_zero, List.set_cons_succ])
            refine take_first 10 (v := ?_) rfl (by kernel_rfl) (by kernel_rfl) (by kernel_rfl) (fun _ _ _ h => h) (Or.inl ⟨by rfl, by intro wx hSw; (try dsimp only at hSw); go_simp; try with_reducible rfl⟩) (by assumption) ?_
            (try simp only [Act.put, List.setIfInBounds_toArray, List.set_cons_zero, List.set_cons_succ])
            refine take_first 11 (v := ?_) rfl (by kernel_rfl) (by kernel_rfl) (by kernel_rfl) (fun _ _ _ h => h) (Or.inl ⟨by rfl, by intro wx hSw; (try dsimp only at hSw); go_simp; try with_reducible rfl⟩) (by assumption) ?_
            (try simp only [Act.put, List.setIfInBounds_toArray, List.set_cons_zero, List.set_cons_succ])
            refine take_first 12 (v := ?_) rfl (by kernel_rfl) (by kernel_rfl) (by kernel_rfl) (fun _ _ _ h => h) (Or.inl ⟨by rfl, by intro wx hSw; (try dsimp only at hSw); go_simp; try with_reducible rfl⟩) (by assumption) ?_
            (try simp only [Act.put, List.setIfInBounds_toArray, List.set_cons_zero, List.set_cons_succ])
            refine take_first 13 (v := ?_) rfl (by kernel_rfl) (by kernel_rfl) (by kernel_rfl) (fun _ _ _ h => h) (Or.inl ⟨by rfl, by intro wx hSw; (try dsimp only at hSw); go_simp; try with_reducible rfl⟩) (by assumption) ?_
            (try simp only [Act.put, List.setIfInBounds_toArray, List.set_cons_zero, List.set_cons_succ])
            refine take_first 14 (v := ?_) rfl (by kernel_rfl) (by kernel_rfl) (by kernel_rfl) (fun _ _ _ h => h) (Or.inl ⟨by rfl, by intro wx hSw; (try dsimp only at hSw); go_simp; try with_reducible rfl⟩) (by assumption) ?_
            (try simp only [Act.put, List.setIfInBounds_toArray, List.set_cons_zero, List.set_cons_succ])
            refine take_first 15 (v := ?_) rfl (by kernel_rfl) (by kernel_rfl) (by kernel_rfl) (fun _ _ _ h => h) (Or.inl ⟨by rfl, by intro wx hSw; (try dsimp only at hSw); go_simp; try with_reducible rfl⟩) (by assumption) ?_
            (try simp only [Act.put, List.setIfInBounds_toArray, List.set_cons_zero, List.set_cons_succ])
            refine take_first 16 (v := ?_) rfl (by kernel_rfl) (by kernel_rfl) (by kernel_rfl) (fun _ _ _ h => h) (Or.inl ⟨by rfl, by intro wx hSw; (try dsimp only at hSw); go_simp; try with_reducible rfl⟩) (by assumption) ?_
            (try simp only [Act.put, List.setIfInBounds_toArray, List.set_cons_zero, List.set_cons_succ])
            refine take_first 17 (v := ?_) rfl (by kernel_rfl) (by kernel_rfl) (by kernel_rfl) (fun _ _ _ h => h) (Or.inl ⟨by rfl, by intro wx hSw; (try dsimp only at hSw); go_simp; try with_reducible rfl⟩) (by assumption) ?_
            (try simp only [Act.put, List.setIfInBounds_toArray, List.set_cons_zero, List.set_cons_succ])
            refine take_first 18 (v := ?_) rfl (by kernel_rfl) (by kernel_rfl) (by kernel_rfl) (fun _ _ _ h => h) (Or.inl ⟨by rfl, by intro wx hSw; (try dsimp only at hSw); go_simp; try with_reducible rfl⟩) (by assumption) ?_
            (try simp only [Act.put, List.setIfInBounds_toArray, List.set_cons_zero, List.set_cons_succ])
            refine take_first 19 (v := ?_) rfl (by kernel_rfl) (by kernel_rfl) (by kernel_rfl) (fun _ _ _ h => h) (Or.inl ⟨by rfl, by intro wx hSw; (try dsimp only at hSw); go_simp; try with_reducible rfl⟩) (by assumption) ?_
            (try simp only [Act.put, List.setIfInBounds_toArray, List.set_cons_zero, List.set_cons_succ])
            refine comes_up 1 rfl (by kernel_rfl) (fun K hK => ?_)
            go_simp
            refine (refUint_any _ A hAl).mono ?_
            rintro e w5 ⟨v5, rfl, hown5, hb5⟩
            have hb6 : Below wr.heap.size wr w5 := hb3.trans hb5
            obtain ⟨ao5, cap5, hv5, hrow5, _⟩ := owns_row hown5
            rw [hv5]
            have hc5 := conv_row hrow5
            clear hown5 hrow5 hv5
            go_wp2_with fail
            refine hK.out _ _ (hcells _ hb6) (fun hHeld => ?_)
            clear hK K
            (try simp only [Act.put, List.setIfInBounds_toArray, List.set_cons_zero, List.set_cons_succ])
            refine comes_up 2 rfl (by kernel_rfl) (fun K hK => ?_)
            go_simp
            refine hK.out _ _ (hcells _ hb6) (fun hHeld => ?_)
            clear hK K
            (try simp only [Act.put, List.setIfInBounds_toArray, List.set_cons_zero, List.set_cons_succ])
            refine take_first 20 (v := ?_) rfl (by kernel_rfl) (by kernel_rfl) (by kernel_rfl) (fun _ _ _ h => h) (Or.inl ⟨by rfl, by intro wx hSw; (try dsimp only at hSw); go_simp; try with_reducible rfl⟩) (by assumption) ?_
            (try simp only [Act.put, List.setIfInBounds_toArray, List.set_cons_zero, List.set_cons_succ])
            refine wpAnyH_done (by kernel_rfl) ?_ _
            refine NoPanic.normal ?_
            have hR6 := hRRr.below hb6
            obtain ⟨q0, q1, p0, p1⟩ := hR6.cells
            simp only [atOf] at q1
            have HR6 : Hid (RR w5 m (some ⟨b, off, none⟩) n cap (some k)) := hR6
            have HG6 : Hid (w.grownBy w5 (some m)) := grown_of_below (hbel.trans (hb6.mono hsz)) (some m)
            clear hR6
            go_wp2
            go_ret
            have hnx : refNext xs (some k) = none := by simp only [refNext, HN.out]
            rw [hnx, HN.out]
            exact ⟨rfl, HR6.out.set none, grown_trans HG6.out (set_grown _)⟩
          · have hgA : A = acc + x.toNat % 128 * 128 ^ j := by
              rw [HA.out]
              refine Nat.mod_eq_of_lt ?_
              have h1 := HLT.out
              by_cases h9 : j = 9
              · subst h9
                have : x.toNat % 128 ≤ 1 := by omega
                have := Nat.mul_le_mul_right (128 ^ 9) this
                simp at this h1 ⊢
                omega
              · have h8 : (128 : Nat) ^ (j + 1) ≤ 9223372036854775808 := pow_le9 (by omega)
                have := Nat.mul_le_mul_right (128 ^ j) (show x.toNat % 128 ≤ 127 by omega)
                rw [Nat.pow_succ] at h8
                omega
            have HN : Hid (rd (xs.drop k) = some (A, j + 1)) := by
              have hrd := HRD.out
              rw [rdF, if_neg (fun h => hgood (.inl h)), if_neg hx128, if_neg (fun h => hgood (.inr h)), ← hgA] at hrd
              exact hrd.symm
            rw [decide_eq_true (by
              rw [HPS.out, HTK.out, hgA, ← HVS.out, HTK.out]
              refine enc_val _ x 9 HALL.out (by omega) ?_ (by rw [hlen9]; exact hj9)
              by_cases hx0 : x.toNat = 0
              · right
                refine List.eq_nil_of_length_eq_zero ?_
                rw [hlen9]
                omega
              · exact .inl hx0)] at hbe
            clear hgood hlen9 hgA
            go_wp2
            go_region_held3 (fun wx => wx.cell? ⟨m, 0, none⟩ = some (.slice (some ⟨b, off, none⟩) n cap) ∧ wx.cell? ⟨m, 1, none⟩ = some (.int .i64 (k : Int))) (exact ⟨d0, d1⟩) (fail)
            go_wp2
            go_region_held3 (fun wx => wx.cell? ⟨m, 0, none⟩ = some (.slice (some ⟨b, off, none⟩) n cap) ∧ wx.cell? ⟨m, 1, none⟩ = some (.int .i64 (k : Int)) ∧ wx.cell? ⟨b, off + (k + j), none⟩ = some (.int .u8 (x.toNat : Int))) (exact ⟨d0, d1, hck⟩) (fail)
            go_wp2
            refine wp_region_noPanic ?_
            refine wp_region_held_drew (S := fun wx => wx.cell? ⟨m, 0, none⟩ = some (.slice (some ⟨b, off, none⟩) n cap) ∧ wx.cell? ⟨m, 1, none⟩ = some (.int .i64 (k : Int)) ∧ (convert 27 9 (.slice (some ⟨b, off + k, none⟩) (j + 1) (cap - k))).run Try.prog wx = .ok (.string (str ps)) wx) (by kernel_rfl) (hcells _ hb3) (fun hHeld => ?_)
            refine take_first 0 (v := ?_) rfl (by kernel_rfl) (by kernel_rfl) (by kernel_rfl) (fun _ _ _ h => h) (Or.inl ⟨by rfl, by intro wx hSw; (try dsimp only at hSw); go_simp; try with_reducible rfl⟩) (by assumption) ?_
            (try simp only [Act.put, List.setIfInBounds_toArray, List.set_cons_zero, List.set_cons_succ])
            refine take_first 3 (v := ?_) rfl (by kernel_rfl) (by kernel_rfl) (by kernel_rfl) (fun _ _ _ h => h) (Or.inl ⟨by rfl, by intro wx hSw; (try dsimp only at hSw); go_simp; try with_reducible rfl⟩) (by assumption) ?_
            (try simp only [Act.put, List.setIfInBounds_toArray, List.set_cons_zero, List.set_cons_succ])
            refine take_first 4 (v := ?_) rfl (by kernel_rfl) (by kernel_rfl) (by kernel_rfl) (fun _ _ _ h => h) (Or.inl ⟨by rfl, by intro wx hSw; (try dsimp only at hSw); go_simp; try with_reducible rfl⟩) (by assumption) ?_
            (try simp only [Act.put, List.setIfInBounds_toArray, List.set_cons_zero, List.set_cons_succ])
            refine take_first 5 (v := ?_) rfl (by kernel_rfl) (by kernel_rfl) (by kernel_rfl) (fun _ _ _ h => h) (Or.inl ⟨by rfl, by intro wx hSw; (try dsimp only at hSw); go_simp; try with_reducible rfl⟩) (by assumption) ?_
            (try simp only [Act.put, List.setIfInBounds_toArray, List.set_cons_zero, List.set_cons_succ])
            refine take_first 6 (v := ?_) rfl (by kernel_rfl) (by kernel_rfl) (by kernel_rfl) (fun _ _ _ h => h) (Or.inl ⟨by rfl, by intro wx hSw; (try dsimp only at hSw); go_simp; try with_reducible rfl⟩) (by assumption) ?_
            (try simp only [Act.put, List.setIfInBounds_toArray, List.set_cons_zero, List.set_cons_succ])
            refine take_first 7 (v := ?_) rfl (by kernel_rfl) (by kernel_rfl) (by kernel_rfl) (fun _ _ _ h => h) (Or.inl ⟨by rfl, by intro wx hSw; (try dsimp only at hSw); go_simp; try with_reducible rfl⟩) (by assumption) ?_
            (try simp only [Act.put, List.setIfInBounds_toArray, List.set_cons_zero, List.set_cons_succ])
            refine take_first 8 (v := ?_) rfl (by kernel_rfl) (by kernel_rfl) (by kernel_rfl) (fun _ _ _ h => h) (Or.inl ⟨by rfl, by intro wx hSw; (try dsimp only at hSw); go_simp; try with_reducible rfl⟩) (by assumption) ?_
            (try simp only [Act.put, List.setIfInBounds_toArray, List.set_cons_zero, List.set_cons_succ])
            refine take_first 9 (v := ?_) rfl (by kernel_rfl) (by kernel_rfl) (by kernel_rfl) (fun _ _ _ h => h) (Or.inl ⟨by rfl, by intro wx hSw; (try dsimp only at hSw); go_simp; try with_reducible rfl⟩) (by assumption) ?_
            (try simp only [Act.put, List.setIfInBounds_toArray, List.set_cons_zero, List.set_cons_succ])
            refine take_first 10 (v := ?_) rfl (by kernel_rfl) (by kernel_rfl) (by kernel_rfl) (fun _ _ _ h => h) (Or.inl ⟨by rfl, by intro wx hSw; (try dsimp only at hSw); go_simp; try with_reducible rfl⟩) (by assumption) ?_
            (try simp only [Act.put, List.setIfInBounds_toArray, List.set_cons_zero, List.set_cons_succ])
            refine take_first 11 (v := ?_) rfl (by kernel_rfl) (by kernel_rfl) (by kernel_rfl) (fun _ _ _ h => h) (Or.inl ⟨by rfl, by intro wx hSw; (try dsimp only at hSw); go_simp; try with_reducible rfl⟩) (by assumption) ?_
            (try simp only [Act.put, List.setIfInBounds_toArray, List.set_cons_zero, List.set_cons_succ])
            refine take_first 12 (v := ?_) rfl (by kernel_rfl) (by kernel_rfl) (by kernel_rfl) (fun _ _ _ h => h) (Or.inl ⟨by rfl, by intro wx hSw; (try dsimp only at hSw); go_simp; try with_reducible rfl⟩) (by assumption) ?_
            (try simp only [Act.put, List.setIfInBounds_toArray, List.set_cons_zero, List.set_cons_succ])
            refine take_first 13 (v := ?_) rfl (by kernel_rfl) (by kernel_rfl) (by kernel_rfl) (fun _ _ _ h => h) (Or.inl ⟨by rfl, by intro wx hSw; (try dsimp only at hSw); go_simp; try with_reducible rfl⟩) (by assumption) ?_
            (try simp only [Act.put, List.setIfInBounds_toArray, List.set_cons_zero, List.set_cons_succ])
            refine take_first 14 (v := ?_) rfl (by kernel_rfl) (by kernel_rfl) (by kernel_rfl) (fun _ _ _ h => h) (Or.inl ⟨by rfl, by intro wx hSw; (try dsimp only at hSw); go_simp; try with_reducible rfl⟩) (by assumption) ?_
            (try simp only [Act.put, List.setIfInBounds_toArray, List.set_cons_zero, List.set_cons_succ])
            refine take_first 15 (v := ?_) rfl (by kernel_rfl) (by kernel_rfl) (by kernel_rfl) (fun _ _ _ h => h) (Or.inl ⟨by rfl, by intro wx hSw; (try dsimp only at hSw); go_simp; try with_reducible rfl⟩) (by assumption) ?_
            (try simp only [Act.put, List.setIfInBounds_toArray, List.set_cons_zero, List.set_cons_succ])
            refine take_first 16 (v := ?_) rfl (by kernel_rfl) (by kernel_rfl) (by kernel_rfl) (fun _ _ _ h => h) (Or.inl ⟨by rfl, by intro wx hSw; (try dsimp only at hSw); go_simp; try with_reducible rfl⟩) (by assumption) ?_
            (try simp only [Act.put, List.setIfInBounds_toArray, List.set_cons_zero, List.set_cons_succ])
            refine take_first 17 (v := ?_) rfl (by kernel_rfl) (by kernel_rfl) (by kernel_rfl) (fun _ _ _ h => h) (Or.inl ⟨by rfl, by intro wx hSw; (try dsimp only at hSw); go_simp; try with_reducible rfl⟩) (by assumption) ?_
            (try simp only [Act.put, List.setIfInBounds_toArray, List.set_cons_zero, List.set_cons_succ])
            refine take_first 18 (v := ?_) rfl (by kernel_rfl) (by kernel_rfl) (by kernel_rfl) (fun _ _ _ h => h) (Or.inl ⟨by rfl, by intro wx hSw; (try dsimp only at hSw); go_simp; try with_reducible rfl⟩) (by assumption) ?_
            (try simp only [Act.put, List.setIfInBounds_toArray, List.set_cons_zero, List.set_cons_succ])
            refine take_first 19 (v := ?_) rfl (by kernel_rfl) (by kernel_rfl) (by kernel_rfl) (fun _ _ _ h => h) (Or.inl ⟨by rfl, by intro wx hSw; (try dsimp only at hSw); go_simp; try with_reducible rfl⟩) (by assumption) ?_
            (try simp only [Act.put, List.setIfInBounds_toArray, List.set_cons_zero, List.set_cons_succ])
            refine comes_up 1 rfl (by kernel_rfl) (fun K hK => ?_)
            go_simp
            refine (refUint_any _ A hAl).mono ?_
            rintro e w5 ⟨v5, rfl, hown5, hb5⟩
            have hb6 : Below wr.heap.size wr w5 := hb3.trans hb5
            obtain ⟨ao5, cap5, hv5, hrow5, _⟩ := owns_row hown5
            rw [hv5]
            have hc5 := conv_row hrow5
            clear hown5 hrow5 hv5
            go_wp2_with fail
            refine hK.out _ _ (hcells _ hb6) (fun hHeld => ?_)
            clear hK K
            (try simp only [Act.put, List.setIfInBounds_toArray, List.set_cons_zero, List.set_cons_succ])
            refine comes_up 2 rfl (by kernel_rfl) (fun K hK => ?_)
            go_simp
            refine hK.out _ _ (hcells _ hb6) (fun hHeld => ?_)
            clear hK K
            (try simp only [Act.put, List.setIfInBounds_toArray, List.set_cons_zero, List.set_cons_succ])
            refine take_first 20 (v := ?_) rfl (by kernel_rfl) (by kernel_rfl) (by kernel_rfl) (fun _ _ _ h => h) (Or.inl ⟨by rfl, by intro wx hSw; (try dsimp only at hSw); go_simp; try with_reducible rfl⟩) (by assumption) ?_
            (try simp only [Act.put, List.setIfInBounds_toArray, List.set_cons_zero, List.set_cons_succ])
            refine wpAnyH_done (by kernel_rfl) ?_ _
            refine NoPanic.normal ?_
            have hR6 := hRRr.below hb6
            obtain ⟨q0, q1, p0, p1⟩ := hR6.cells
            simp only [atOf] at q1
            have HR6 : Hid (RR w5 m (some ⟨b, off, none⟩) n cap (some k)) := hR6
            have HG6 : Hid (w.grownBy w5 (some m)) := grown_of_below (hbel.trans (hb6.mono hsz)) (some m)
            clear hR6
            go_wp2
            go_ret
            have hnx : refNext xs (some k) = some (k + (j + 1)) := by simp only [refNext, HN.out]
            rw [hnx, HN.out]
            refine ⟨rfl, ?_, grown_trans HG6.out (set_grown _)⟩
            have := HR6.out.set (some (k + (j + 1)))
            simpa [atOf] using this
      · have HN : Hid (rd (xs.drop k) = none) := by
          rcases HINV.out with h | h
          · have h3 := h.2.2
            rw [List.drop_of_length_le (by omega)] at h3
            exact h3.symm
          · omega
        have HG : Hid (w.grownBy wr.drew (some m)) := grown_of_below hbel.drew (some m)
        have hRd : RR wr.drew m ao n cap (some k) := HRR.out
        clear HINV
        go_wp2
        go_region_held3 (fun wx => wx.cell? ⟨m, 0, none⟩ = some (.slice ao n cap) ∧ wx.cell? ⟨m, 1, none⟩ = some (.int .i64 (k : Int))) (exact ⟨d0, d1⟩) (fail)
        go_wp2
        go_ret
        have hnx : refNext xs (some k) = none := by simp only [refNext, HN.out]
        rw [hnx, HN.out]
        exact ⟨rfl, hRd.set none, grown_trans HG.out (set_grown _)⟩
    · have HN : Hid (rd (xs.drop k) = none) := by
        rcases HINV.out with h | h
        · omega
        · exact h.2
      have HG : Hid (w.grownBy wr.drew (some m)) := grown_of_below hbel.drew (some m)
      have hRd : RR wr.drew m ao n cap (some k) := HRR.out
      have hj10 : j = 10 := by omega
      subst hj10
      clear HINV
      go_wp2
      refine wp_region_noPanic ?_
      refine wp_region_held_drew (S := fun _ => True) (by kernel_rfl) trivial (fun hHeld => ?_)
      refine take_first 0 (v := ?_) rfl (by kernel_rfl) (by kernel_rfl) (by kernel_rfl) (fun _ _ _ h => h) (Or.inl ⟨by rfl, by intro wx hSw; (try dsimp only at hSw); go_simp; try with_reducible rfl⟩) (by assumption) ?_
      (try simp only [Act.put, List.setIfInBounds_toArray, List.set_cons_zero, List.set_cons_succ])
      refine take_first 1 (v := ?_) rfl (by kernel_rfl) (by kernel_rfl) (by kernel_rfl) (fun _ _ _ h => h) (Or.inl ⟨by rfl, by intro wx hSw; (try dsimp only at hSw); go_simp; try with_reducible rfl⟩) (by assumption) ?_
      (try simp only [Act.put, List.setIfInBounds_toArray, List.set_cons_zero, List.set_cons_succ])
      refine take_first 2 (v := ?_) rfl (by kernel_rfl) (by kernel_rfl) (by kernel_rfl) (fun _ _ _ h => h) (Or.inl ⟨by rfl, by intro wx hSw; (try dsimp only at hSw); go_simp; try with_reducible rfl⟩) (by assumption) ?_
      (try simp only [Act.put, List.setIfInBounds_toArray, List.set_cons_zero, List.set_cons_succ])
      refine take_first 3 (v := undef) rfl (by kernel_rfl) (by kernel_rfl) (by kernel_rfl) (fun _ _ _ h => h) (Or.inr ⟨by rfl, rfl⟩) (by assumption) ?_
      (try simp only [Act.put, List.setIfInBounds_toArray, List.set_cons_zero, List.set_cons_succ])
      refine take_first 4 (v := undef) rfl (by kernel_rfl) (by kernel_rfl) (by kernel_rfl) (fun _ _ _ h => h) (Or.inr ⟨by rfl, rfl⟩) (by assumption) ?_
      (try simp only [Act.put, List.setIfInBounds_toArray, List.set_cons_zero, List.set_cons_succ])
      refine take_first 5 (v := undef) rfl (by kernel_rfl) (by kernel_rfl) (by kernel_rfl) (fun _ _ _ h => h) (Or.inr ⟨by rfl, rfl⟩) (by assumption) ?_
      (try simp only [Act.put, List.setIfInBounds_toArray, List.set_cons_zero, List.set_cons_succ])
      refine take_first 6 (v := undef) rfl (by kernel_rfl) (by kernel_rfl) (by kernel_rfl) (fun _ _ _ h => h) (Or.inr ⟨by rfl, rfl⟩) (by assumption) ?_
      (try simp only [Act.put, List.setIfInBounds_toArray, List.set_cons_zero, List.set_cons_succ])
      refine take_first 7 (v := undef) rfl (by kernel_rfl) (by kernel_rfl) (by kernel_rfl) (fun _ _ _ h => h) (Or.inr ⟨by rfl, rfl⟩) (by assumption) ?_
      (try simp only [Act.put, List.setIfInBounds_toArray, List.set_cons_zero, List.set_cons_succ])
      refine take_first 8 (v := undef) rfl (by kernel_rfl) (by kernel_rfl) (by kernel_rfl) (fun _ _ _ h => h) (Or.inr ⟨by rfl, rfl⟩) (by assumption) ?_
      (try simp only [Act.put, List.setIfInBounds_toArray, List.set_cons_zero, List.set_cons_succ])
      refine take_first 9 (v := undef) rfl (by kernel_rfl) (by kernel_rfl) (by kernel_rfl) (fun _ _ _ h => h) (Or.inr ⟨by rfl, rfl⟩) (by assumption) ?_
      (try simp only [Act.put, List.setIfInBounds_toArray, List.set_cons_zero, List.set_cons_succ])
      refine take_first 10 (v := undef) rfl (by kernel_rfl) (by kernel_rfl) (by kernel_rfl) (fun _ _ _ h => h) (Or.inr ⟨by rfl, rfl⟩) (by assumption) ?_
      (try simp only [Act.put, List.setIfInBounds_toArray, List.set_cons_zero, List.set_cons_succ])
      refine take_first 11 (v := undef) rfl (by kernel_rfl) (by kernel_rfl) (by kernel_rfl) (fun _ _ _ h => h) (Or.inr ⟨by rfl, rfl⟩) (by assumption) ?_
      (try simp only [Act.put, List.setIfInBounds_toArray, List.set_cons_zero, List.set_cons_succ])
      refine take_first 12 (v := undef) rfl (by kernel_rfl) (by kernel_rfl) (by kernel_rfl) (fun _ _ _ h => h) (Or.inr ⟨by rfl, rfl⟩) (by assumption) ?_
      (try simp only [Act.put, List.setIfInBounds_toArray, List.set_cons_zero, List.set_cons_succ])
      refine take_first 13 (v := undef) rfl (by kernel_rfl) (by kernel_rfl) (by kernel_rfl) (fun _ _ _ h => h) (Or.inr ⟨by rfl, rfl⟩) (by assumption) ?_
      (try simp only [Act.put, List.setIfInBounds_toArray, List.set_cons_zero, List.set_cons_succ])
      refine take_first 14 (v := undef) rfl (by kernel_rfl) (by kernel_rfl) (by kernel_rfl) (fun _ _ _ h => h) (Or.inr ⟨by rfl, rfl⟩) (by assumption) ?_
      (try simp only [Act.put, List.setIfInBounds_toArray, List.set_cons_zero, List.set_cons_succ])
      refine take_first 15 (v := ?_) rfl (by kernel_rfl) (by kernel_rfl) (by kernel_rfl) (fun _ _ _ h => h) (Or.inl ⟨by rfl, by intro wx hSw; (try dsimp only at hSw); go_simp; try with_reducible rfl⟩) (by assumption) ?_
      (try simp only [Act.put, List.setIfInBounds_toArray, List.set_cons_zero, List.set_cons_succ])
      refine wpAnyH_done (by kernel_rfl) ?_ _
      refine NoPanic.normal ?_
      go_wp2
      go_ret
      have hnx : refNext xs (some k) = none := by simp only [refNext, HN.out]
      rw [hnx, HN.out]
      exact ⟨rfl, hRd.set none, grown_trans HG.out (set_grown _)⟩

end Go.Proofs.Ytpdgoalbknopiaa.Cd
