/-
  Proved: for all bytes p and all asks, CodeReads(p, asks) returns true: any bytes, read in any way, are read as the document says: each answer, and whether there was a fault. No condition.
-/
import Derived.Test.YtlnphniokaclcaaArgs
import Derived.Test.YtlnphniokaclcaaRefRead2
import Derived.Deep.Slices
import Derived.Test.YtlnphniokaclcaaRegion2
namespace Go.Proofs.Ytlnphniokaclcaa.codeReads
open Go.ChangeShapes Go.WideShapes Go.ChangeAt Go.RowKit
open Go.ChangeMaps (open_string shut_string)
set_option linter.unusedVariables false
set_option linter.unusedSimpArgs false

/-- The asks that came in: of each its kind and its number. -/
def RowA (w : World) (ao : Option Addr) (n cap : Nat) : Prop :=
  n ≤ cap ∧ cap ≤ maxLen ∧ (ao = none → n = 0) ∧ ∀ a, ao = some a → ∀ i, i < n → ∃ (kd : Nat) (mo : Int), kd < 256 ∧ -9223372036854775808 ≤ mo ∧ mo ≤ 9223372036854775807 ∧ w.cell? (a.add (i * 2)) = some (.int .u8 (kd : Int)) ∧ w.cell? (a.add (i * 2 + 1)) = some (.int .i64 mo)
theorem RowA.at {w : World} {ao : Option Addr} {n cap : Nat} (h : RowA w ao n cap) (i : Nat) (hi : i < n) : ∃ b off kd mo, ao = some ⟨b, off, none⟩ ∧ kd < 256 ∧ -9223372036854775808 ≤ mo ∧ mo ≤ 9223372036854775807 ∧ w.cell? ⟨b, off + i * 2, none⟩ = some (.int .u8 ((kd : Nat) : Int)) ∧ w.cell? ⟨b, off + i * 2 + 1, none⟩ = some (.int .i64 mo) := by
  obtain ⟨h1, h2, h3, h4⟩ := h
  cases ao with
  | none => have := h3 rfl; omega
  | some a =>
    obtain ⟨b, off, spot⟩ := a
    obtain ⟨kd, mo, g1, g2, g3, g4, g5⟩ := h4 _ rfl i hi
    have hs : spot = none := by
      obtain ⟨_, _, _, _, _, e4, _⟩ := h4 _ rfl 0 (by omega)
      simpa [Addr.add] using World.cell?_spot e4
    subst hs
    rw [Addr.add_lit] at g4 g5
    exact ⟨b, off, kd, mo, rfl, g1, g2, g3, g4, by rw [show off + i * 2 + 1 = off + (i * 2 + 1) by omega]; exact g5⟩
theorem RowA.below {w w' : World} {ao : Option Addr} {n cap : Nat} (h : RowA w ao n cap) (hb : Below w.heap.size w w') : RowA w' ao n cap := by
  obtain ⟨h1, h2, h3, h4⟩ := h
  refine ⟨h1, h2, h3, fun a ha i hi => ?_⟩
  obtain ⟨kd, mo, g1, g2, g3, g4, g5⟩ := h4 a ha i hi
  refine ⟨kd, mo, g1, g2, g3, ?_, ?_⟩
  · rw [hb.cell (World.block_lt_of_cell? w _ g4)]; exact g4
  · rw [hb.cell (World.block_lt_of_cell? w _ g5)]; exact g5
theorem RR_kept {w w' : World} {m r : Nat} {ao : Option Addr} {n cap : Nat} {o : Option Nat} (h : RR w m ao n cap o) (hne : m ≠ r) (hg : w.grownBy w' (some r)) : RR w' m ao n cap o := by
  unfold RR
  rw [hg.block m h.lt (by simpa using hne)]
  exact h
theorem Rd_RR {w w' : World} {m r : Nat} {ao : Option Addr} {n cap : Nat} {o : Option Nat} {st : Option (List UInt8)} (h : Rd w r st) (hr : RR w m ao n cap o) (hne : r ≠ m) (hg : w.grownBy w' (some m)) : Rd w' r st := by
  cases st with
  | none =>
    show w'.heap[r]? = _
    rw [hg.block r (Array.getElem?_eq_some_iff.1 h).1 (by simpa using hne)]
    exact h
  | some xs =>
    obtain ⟨bo, k, c, hb, hrow⟩ := h
    exact ⟨bo, k, c, by rw [hg.block r (Array.getElem?_eq_some_iff.1 hb).1 (by simpa using hne)]; exact hb, row_RR hrow hr hg⟩
theorem same_len {xs : List UInt8} {o : Option Nat} {st : Option (List UInt8)} (h : same xs o st) : ∀ ys, st = some ys → ys.length ≤ xs.length := by
  intro ys hy
  subst hy
  obtain ⟨k, _, _, rfl⟩ := same_left h
  simp
/-- The two readers, in one world. -/
structure Two (w wr : World) (r m : Nat) (ao : Option Addr) (n cap : Nat) (xs : List UInt8) (st : Option (List UInt8)) (o : Option Nat) : Prop where
  rd : Rd wr r st
  rr : RR wr m ao n cap o
  eq : same xs o st
  bel : Below w.heap.size w wr
theorem Two.below {w wr wy : World} {r m : Nat} {ao : Option Addr} {n cap : Nat} {xs : List UInt8} {st : Option (List UInt8)} {o : Option Nat} (h : Two w wr r m ao n cap xs st o) (hb : Below wr.heap.size wr wy) : Two w wy r m ao n cap xs st o :=
  ⟨rd_below h.rd hb, h.rr.below hb, h.eq, h.bel.trans (hb.mono h.bel.size)⟩
theorem Two.step {w wr w1 w2 : World} {r m : Nat} {ao : Option Addr} {n cap : Nat} {xs : List UInt8} {st st' : Option (List UInt8)} {o o' : Option Nat} (h : Two w wr r m ao n cap xs st o) (hr : w.heap.size ≤ r) (hm : w.heap.size ≤ m) (hne : r ≠ m)
    (hrd : Rd w1 r st') (hg1 : wr.grownBy w1 (some r)) (hrr : RR w2 m ao n cap o') (hg2 : w1.grownBy w2 (some m)) (hs : same xs o' st') : Two w w2 r m ao n cap xs st' o' := by
  have h1 := RR_kept h.rr hne.symm hg1
  have hb1 : Below w.heap.size w w1 := h.bel.grown hg1 h.bel.size (fun k hk => by simp at hk; omega)
  exact ⟨Rd_RR hrd h1 hne hg2, hrr, hs, hb1.grown hg2 hb1.size (fun k hk => by simp at hk; omega)⟩

set_option maxRecDepth 10000 in
set_option maxHeartbeats 16000000 in
theorem walk (w : World) (ao : Option Addr) (n cap : Nat) (xs : List UInt8) (h : Row w ao n cap xs) (qo : Option Addr) (q qcap : Nat) (hq : RowA w qo q qcap) (hr : n ≤ 140737488351232) :
    Calls Try.prog 5 #[.slice ao n cap, .slice qo q qcap] w fun e w' => e = .returned (.bool true) ∧ Below w.heap.size w w' := by
  have hxl := h.1
  have hqc := hq.1
  have hqm := hq.2.1
  unfold maxLen at hqm
  have HX : Hid (∀ wx, Below w.heap.size w wx → Row wx ao n cap xs) := fun wx hb => h.below hb (Nat.le_refl _)
  have HQ : Hid (∀ wx, Below w.heap.size w wx → RowA wx qo q qcap) := fun wx hb => hq.below hb
  go_enter Try.func5, Try.ntmps5
  go_wp2_with fail
  refine (awake_any _).mono ?_
  rintro e w1 ⟨rfl, hb1⟩
  have hs1 := hb1.size
  have h1 := h.below hb1 (Nat.le_refl _)
  go_wp2_with fail
  refine (newReader_any _ _ _ _ _ h1 (by omega)).mono ?_
  rintro e w2 ⟨r, rfl, hr2, hrd2, hb2⟩
  have hs2 := hb2.size
  have hbw2 : Below w.heap.size w w2 := hb1.trans (hb2.mono hs1)
  have hrlt := hrd2.lt
  have htwo : Two w (w2.alloc (.cells #[.slice ao n cap, .int .i64 0] 39)) r w2.heap.size ao n cap xs (some xs) (some 0) :=
    ⟨rd_below hrd2 ((Below.refl _ _).alloc (Nat.le_refl _) _), heap_alloc_new _ _, ⟨Nat.zero_le _, rfl⟩, hbw2.alloc hbw2.size _⟩
  obtain ⟨m, hm⟩ : ∃ m, m = w2.heap.size := ⟨_, rfl⟩
  have hrm : r ≠ m := by omega
  have hrw : w.heap.size ≤ r := by omega
  have hmw : w.heap.size ≤ m := by have := hbw2.size; omega
  rw [← hm] at htwo
  clear hrd2 hb2 hb1 h1 hbw2 h hq
  go_wp2
  rw [← hm]
  clear hm
  go_loopw [7] (fun i wr => ∃ (k : Nat) (st : Option (List UInt8)) (o : Option Nat), k ≤ q ∧ i = .int .i64 k ∧ Two w wr r m ao n cap xs st o) (fun i _ => q - (intOf i).toNat)
  case atStart => exact ⟨0, _, _, by omega, rfl, htwo⟩
  case round =>
    obtain ⟨k, st, o, hk, rfl, htw⟩ := hrel
    have hbel := htw.bel
    have hsz := hbel.size
    clear htwo
    by_cases hlt : k < q ∧ k < 50
    · obtain ⟨hkq, hk50⟩ := hlt
      obtain ⟨b, off, kd, mo, hqo, hkd, hmo1, hmo2, hc0, hc1⟩ := (HQ.out wr hbel).at k hkq
      subst hqo
      have htA : ∀ ob, Two w (wr.alloc ob) r m ao n cap xs st o := fun ob => htw.below ((Below.refl _ _).alloc (Nat.le_refl _) _)
      have hxr := HX.out
      obtain ⟨kr, hkr⟩ : ∃ kr, kr = kd % 4 := ⟨_, rfl⟩
      have hkr4 : kr < 4 := by omega
      have hkri : (kd : Int) % 4 = (kr : Int) := by omega
      clear hkr
      match kr, hkr4 with
      | 3, _ =>
        have htw3 := htA (.cells #[.int .u8 (kd : Int), .int .i64 mo] 41)
        clear htA htw
        go_wp2
        obtain ⟨stx, hstx⟩ : ∃ stx, stx = st := ⟨_, rfl⟩
        rw [← hstx] at htw3
        clear hstx
        have hsm := htw3.eq
        have htd := htw3.below (Below.refl _ _).drew
        have hrrd := htd.rr
        cases stx with
        | none =>
          obtain rfl := same_none hsm
          obtain ⟨a0, a1, _, _⟩ := hrrd.cells
          simp only [atOf] at a1
          have hle := refLeft_step _ m ao n cap xs none none hsm hrrd hxl (by omega)
          have hlc := left_rd _ _ _ htd.rd
          have hbd := fun wx hx => bad_rd wx r none hx
          go_region_held3 (fun wx => wx.cell? ⟨m, 1, none⟩ = some (.int .i64 (-1))) (first | exact a5 | exact a1) (first | (go_at_call 17; refine hlc.mono ?_; rintro e w6 ⟨rfl, rfl⟩) | (go_at_call 25; refine hle.mono ?_; rintro e w7 ⟨rfl, hb7⟩; have ht7 := htd.below hb7; have a5 := ht7.rr.cells.2.1) | (go_at_call 16; refine (hbd _ ht7.rd).mono ?_; rintro e w8 ⟨rfl, rfl⟩))
          go_wp2
          go_roundw
          case rel => exact ⟨k + 1, none, none, by omega, by go_num, ht7⟩
          case measure => simp [intOf]; omega
        | some ys =>
          obtain ⟨kk, rfl, hkk, rfl⟩ := same_left hsm
          obtain ⟨a0, a1, _, _⟩ := hrrd.cells
          simp only [atOf] at a1
          have hle := refLeft_step _ m ao n cap xs (some kk) (some (xs.drop kk)) hsm hrrd hxl (by omega)
          have hlc := left_rd _ _ _ htd.rd
          have hbd := fun wx hx => bad_rd wx r (some (xs.drop kk)) hx
          have hkk0 : ¬ (kk : Int) < 0 := by omega
          generalize rLeft (some (xs.drop kk)) = LL at hle hlc
          go_region_held3 (fun wx => wx.cell? ⟨m, 1, none⟩ = some (.int .i64 (kk : Int))) (first | exact a5 | exact a1) (first | (go_at_call 17; refine hlc.mono ?_; rintro e w6 ⟨rfl, rfl⟩) | (go_at_call 25; refine hle.mono ?_; rintro e w7 ⟨rfl, hb7⟩; have ht7 := htd.below hb7; have a5 := ht7.rr.cells.2.1) | (go_at_call 16; refine (hbd _ ht7.rd).mono ?_; rintro e w8 ⟨rfl, rfl⟩))
          go_wp2
          go_roundw
          case rel => exact ⟨k + 1, _, _, by omega, by go_num, ht7⟩
          case measure => simp [intOf]; omega
      | 0, _ =>
        have htw3 := htA (.cells #[.int .u8 (kd : Int), .int .i64 mo] 41)
        clear htA htw
        go_wp2_with fail
        refine (uint_rd _ _ _ htw3.rd).mono ?_
        rintro e w4 ⟨rfl, hrd4, hg4⟩
        have hb4 : Below w.heap.size w w4 := htw3.bel.grown hg4 htw3.bel.size (fun k hk => by simp at hk; omega)
        go_wp2_with fail
        refine (refUint_step _ m ao n cap xs o st htw3.eq (RR_kept htw3.rr hrm.symm hg4) (hxr _ hb4) (by omega)).mono ?_
        rintro e w5 ⟨rfl, o5, hs5, hr5, hg5⟩
        have htw5 := htw3.step hrw hmw hrm hrd4 hg4 hr5 hg5 hs5
        clear htw3 hrd4 hg4 hr5 hg5 hs5 hb4
        generalize (rUint st).1 = NN
        go_wp2
        obtain ⟨stx, hstx⟩ : ∃ stx, stx = (rUint st).2 := ⟨_, rfl⟩
        rw [← hstx] at htw5
        clear hstx
        have hsm := htw5.eq
        have htd := htw5.below (Below.refl _ _).drew
        have hrrd := htd.rr
        cases stx with
        | none =>
          obtain rfl := same_none hsm
          obtain ⟨a0, a1, _, _⟩ := hrrd.cells
          simp only [atOf] at a1
          have hle := refLeft_step _ m ao n cap xs none none hsm hrrd hxl (by omega)
          have hlc := left_rd _ _ _ htd.rd
          have hbd := fun wx hx => bad_rd wx r none hx
          go_region_held3 (fun wx => wx.cell? ⟨m, 1, none⟩ = some (.int .i64 (-1))) (first | exact a5 | exact a1) (first | (go_at_call 17; refine hlc.mono ?_; rintro e w6 ⟨rfl, rfl⟩) | (go_at_call 25; refine hle.mono ?_; rintro e w7 ⟨rfl, hb7⟩; have ht7 := htd.below hb7; have a5 := ht7.rr.cells.2.1) | (go_at_call 16; refine (hbd _ ht7.rd).mono ?_; rintro e w8 ⟨rfl, rfl⟩))
          go_wp2
          go_roundw
          case rel => exact ⟨k + 1, none, none, by omega, by go_num, ht7⟩
          case measure => simp [intOf]; omega
        | some ys =>
          obtain ⟨kk, rfl, hkk, rfl⟩ := same_left hsm
          obtain ⟨a0, a1, _, _⟩ := hrrd.cells
          simp only [atOf] at a1
          have hle := refLeft_step _ m ao n cap xs (some kk) (some (xs.drop kk)) hsm hrrd hxl (by omega)
          have hlc := left_rd _ _ _ htd.rd
          have hbd := fun wx hx => bad_rd wx r (some (xs.drop kk)) hx
          have hkk0 : ¬ (kk : Int) < 0 := by omega
          generalize rLeft (some (xs.drop kk)) = LL at hle hlc
          go_region_held3 (fun wx => wx.cell? ⟨m, 1, none⟩ = some (.int .i64 (kk : Int))) (first | exact a5 | exact a1) (first | (go_at_call 17; refine hlc.mono ?_; rintro e w6 ⟨rfl, rfl⟩) | (go_at_call 25; refine hle.mono ?_; rintro e w7 ⟨rfl, hb7⟩; have ht7 := htd.below hb7; have a5 := ht7.rr.cells.2.1) | (go_at_call 16; refine (hbd _ ht7.rd).mono ?_; rintro e w8 ⟨rfl, rfl⟩))
          go_wp2
          go_roundw
          case rel => exact ⟨k + 1, _, _, by omega, by go_num, ht7⟩
          case measure => simp [intOf]; omega
      | 1, _ =>
        have htw3 := htA (.cells #[.int .u8 (kd : Int), .int .i64 mo] 41)
        have htd3 := htw3.below (Below.refl _ _).drew
        have hmc : (wr.alloc (.cells #[.int .u8 (kd : Int), .int .i64 mo] 41)).drew.cell? ⟨wr.heap.size, 1, none⟩ = some (.int .i64 mo) := by rw [cell_of_row _ _ _ _ _ _ (show (wr.alloc (.cells #[.int .u8 (kd : Int), .int .i64 mo] 41)).drew.heap[wr.heap.size]? = some (.cells #[.int .u8 (kd : Int), .int .i64 mo] 41) from heap_alloc_new _ _)]; rfl
        have hHr : wr.heap.size ≠ r := by have := htw.rd.lt; omega
        have hHm : wr.heap.size ≠ m := by have := htw.rr.lt; omega
        have hint := int_rd _ _ _ htd3.rd mo hmo1 hmo2
        have hri := fun wx hs hr hx => refInt_step wx m ao n cap xs o st hs hr hx (by omega) mo hmo1 hmo2
        have hbr3 := htd3.bel
        generalize (rInt st mo).1 = NN at hint hri
        clear htA htw
        go_wp2
        go_region_held3 (fun wx => wx.cell? ⟨wr.heap.size, 1, none⟩ = some (.int .i64 mo)) (first | exact hm5 | exact hm4 | exact hmc) (first | (go_at_call 22; refine hint.mono ?_; rintro e w4 ⟨rfl, hrd4, hg4⟩; have hb4 : Below w.heap.size w w4 := hbr3.grown hg4 hbr3.size (fun k hk => by simp at hk; omega); have hm4 := hg4.cell hmc (by simpa using hHr)) | (go_at_call 23; refine (hri _ htd3.eq (RR_kept htd3.rr hrm.symm hg4) (hxr _ hb4)).mono ?_; rintro e w5 ⟨rfl, o5, hs5, hr5, hg5⟩; have hm5 := hg5.cell hm4 (by simpa using hHm)))
        have htw5 := htd3.step hrw hmw hrm hrd4 hg4 hr5 hg5 hs5
        clear htd3 htw3 hrd4 hg4 hr5 hg5 hs5 hb4 hm4 hm5 hint hri hmc hbr3
        go_wp2
        obtain ⟨stx, hstx⟩ : ∃ stx, stx = (rInt st mo).2 := ⟨_, rfl⟩
        rw [← hstx] at htw5
        clear hstx
        have hsm := htw5.eq
        have htd := htw5.below (Below.refl _ _).drew
        have hrrd := htd.rr
        cases stx with
        | none =>
          obtain rfl := same_none hsm
          obtain ⟨a0, a1, _, _⟩ := hrrd.cells
          simp only [atOf] at a1
          have hle := refLeft_step _ m ao n cap xs none none hsm hrrd hxl (by omega)
          have hlc := left_rd _ _ _ htd.rd
          have hbd := fun wx hx => bad_rd wx r none hx
          go_region_held3 (fun wx => wx.cell? ⟨m, 1, none⟩ = some (.int .i64 (-1))) (first | exact a5 | exact a1) (first | (go_at_call 17; refine hlc.mono ?_; rintro e w6 ⟨rfl, rfl⟩) | (go_at_call 25; refine hle.mono ?_; rintro e w7 ⟨rfl, hb7⟩; have ht7 := htd.below hb7; have a5 := ht7.rr.cells.2.1) | (go_at_call 16; refine (hbd _ ht7.rd).mono ?_; rintro e w8 ⟨rfl, rfl⟩))
          go_wp2
          go_roundw
          case rel => exact ⟨k + 1, none, none, by omega, by go_num, ht7⟩
          case measure => simp [intOf]; omega
        | some ys =>
          obtain ⟨kk, rfl, hkk, rfl⟩ := same_left hsm
          obtain ⟨a0, a1, _, _⟩ := hrrd.cells
          simp only [atOf] at a1
          have hle := refLeft_step _ m ao n cap xs (some kk) (some (xs.drop kk)) hsm hrrd hxl (by omega)
          have hlc := left_rd _ _ _ htd.rd
          have hbd := fun wx hx => bad_rd wx r (some (xs.drop kk)) hx
          have hkk0 : ¬ (kk : Int) < 0 := by omega
          generalize rLeft (some (xs.drop kk)) = LL at hle hlc
          go_region_held3 (fun wx => wx.cell? ⟨m, 1, none⟩ = some (.int .i64 (kk : Int))) (first | exact a5 | exact a1) (first | (go_at_call 17; refine hlc.mono ?_; rintro e w6 ⟨rfl, rfl⟩) | (go_at_call 25; refine hle.mono ?_; rintro e w7 ⟨rfl, hb7⟩; have ht7 := htd.below hb7; have a5 := ht7.rr.cells.2.1) | (go_at_call 16; refine (hbd _ ht7.rd).mono ?_; rintro e w8 ⟨rfl, rfl⟩))
          go_wp2
          go_roundw
          case rel => exact ⟨k + 1, _, _, by omega, by go_num, ht7⟩
          case measure => simp [intOf]; omega
      | 2, _ =>
        have htw3 := htA (.cells #[.int .u8 (kd : Int), .int .i64 mo] 41)
        have htd3 := htw3.below (Below.refl _ _).drew
        have hmc : (wr.alloc (.cells #[.int .u8 (kd : Int), .int .i64 mo] 41)).drew.cell? ⟨wr.heap.size, 1, none⟩ = some (.int .i64 mo) := by rw [cell_of_row _ _ _ _ _ _ (show (wr.alloc (.cells #[.int .u8 (kd : Int), .int .i64 mo] 41)).drew.heap[wr.heap.size]? = some (.cells #[.int .u8 (kd : Int), .int .i64 mo] 41) from heap_alloc_new _ _)]; rfl
        have hHr : wr.heap.size ≠ r := by have := htw.rd.lt; omega
        have hHm : wr.heap.size ≠ m := by have := htw.rr.lt; omega
        have hlen := same_len htd3.eq
        have hbyt := bytes_rd _ _ _ htd3.rd mo hmo1 hmo2 (fun zs hz => by have := hlen zs hz; omega)
        have hrb := fun wx hs hr hx => refBytes_step wx m ao n cap xs o st hs hr hx (by omega) mo hmo1 hmo2
        have hbr3 := htd3.bel
        generalize (rBytes st mo).1 = ys at hbyt hrb
        clear htA htw hlen
        go_wp2
        refine wp_region_noPanic ?_
        refine wp_region_held_drew (S := fun wx => wx.cell? ⟨wr.heap.size, 1, none⟩ = some (.int .i64 mo)) (by kernel_rfl) hmc (fun hHeld => ?_)
        refine take_first 0 (v := ?_) rfl (by kernel_rfl) (by kernel_rfl) (by kernel_rfl) (fun _ _ _ h => h) (Or.inl ⟨by rfl, by intro wx hSw; (try dsimp only at hSw); go_simp; try with_reducible rfl⟩) (by assumption) ?_
        (try simp only [Act.put, List.setIfInBounds_toArray, List.set_cons_zero, List.set_cons_succ])
        refine take_first 1 (v := ?_) rfl (by kernel_rfl) (by kernel_rfl) (by kernel_rfl) (fun _ _ _ h => h) (Or.inl ⟨by rfl, by intro wx hSw; (try dsimp only at hSw); go_simp; try with_reducible rfl⟩) (by assumption) ?_
        (try simp only [Act.put, List.setIfInBounds_toArray, List.set_cons_zero, List.set_cons_succ])
        refine take_first 2 (v := ?_) rfl (by kernel_rfl) (by kernel_rfl) (by kernel_rfl) (fun _ _ _ h => h) (Or.inl ⟨by rfl, by intro wx hSw; (try dsimp only at hSw); go_simp; try with_reducible rfl⟩) (by assumption) ?_
        (try simp only [Act.put, List.setIfInBounds_toArray, List.set_cons_zero, List.set_cons_succ])
        refine take_first 5 (v := ?_) rfl (by kernel_rfl) (by kernel_rfl) (by kernel_rfl) (fun _ _ _ h => h) (Or.inl ⟨by rfl, by intro wx hSw; (try dsimp only at hSw); go_simp; try with_reducible rfl⟩) (by assumption) ?_
        (try simp only [Act.put, List.setIfInBounds_toArray, List.set_cons_zero, List.set_cons_succ])
        refine take_first 6 (v := ?_) rfl (by kernel_rfl) (by kernel_rfl) (by kernel_rfl) (fun _ _ _ h => h) (Or.inl ⟨by rfl, by intro wx hSw; (try dsimp only at hSw); go_simp; try with_reducible rfl⟩) (by assumption) ?_
        (try simp only [Act.put, List.setIfInBounds_toArray, List.set_cons_zero, List.set_cons_succ])
        refine take_first 7 (v := ?_) rfl (by kernel_rfl) (by kernel_rfl) (by kernel_rfl) (fun _ _ _ h => h) (Or.inl ⟨by rfl, by intro wx hSw; (try dsimp only at hSw); go_simp; try with_reducible rfl⟩) (by assumption) ?_
        (try simp only [Act.put, List.setIfInBounds_toArray, List.set_cons_zero, List.set_cons_succ])
        refine comes_up 3 rfl (by kernel_rfl) (fun K hK => ?_)
        go_simp
        refine hbyt.mono ?_
        rintro e w4 ⟨v4, rfl, hown4, hrd4, hg4⟩
        have hb4 : Below w.heap.size w w4 := hbr3.grown hg4 hbr3.size (fun k hk => by simp at hk; omega)
        have hm4 := hg4.cell hmc (by simpa using hHr)
        obtain ⟨ao4, cap4, hv4, hrow4, _⟩ := owns_row hown4
        rw [hv4]
        have hc4 := conv_row hrow4
        clear hown4 hv4
        go_wp2_with fail
        refine hK.out _ _ hm4 (fun hHeld => ?_)
        clear hK K
        (try simp only [Act.put, List.setIfInBounds_toArray, List.set_cons_zero, List.set_cons_succ])
        refine more_held (fun wx => wx.cell? ⟨wr.heap.size, 1, none⟩ = some (.int .i64 mo) ∧ (convert 22 9 (.slice ao4 ys.length cap4)).run Try.prog wx = .ok (.string (str ys)) wx) (fun _ hx => hx.1) _ _ _ _ ?_
        have hHeld2 : (fun wx => wx.cell? ⟨wr.heap.size, 1, none⟩ = some (.int .i64 mo) ∧ (convert 22 9 (.slice ao4 ys.length cap4)).run Try.prog wx = .ok (.string (str ys)) wx) w4 := ⟨hm4, hc4⟩
        refine take_first 4 (v := ?_) rfl (by kernel_rfl) (by kernel_rfl) (by kernel_rfl) (fun _ _ _ h => h) (Or.inl ⟨by rfl, by intro wx hSw; (try dsimp only at hSw); go_simp; try with_reducible rfl⟩) (by assumption) ?_
        (try simp only [Act.put, List.setIfInBounds_toArray, List.set_cons_zero, List.set_cons_succ])
        refine comes_up 8 rfl (by kernel_rfl) (fun K hK => ?_)
        go_simp
        refine (hrb _ htd3.eq (RR_kept htd3.rr hrm.symm hg4) (hxr _ hb4)).mono ?_
        rintro e w5 ⟨vo5, vc5, rfl, hrow5, o5, hs5, hr5, hg5⟩
        have hm5 := hg5.cell hm4 (by simpa using hHm)
        have hc45 := conv_row (row_RR hrow4 (RR_kept htd3.rr hrm.symm hg4) hg5)
        have hc5 := conv_row hrow5
        go_wp2_with fail
        refine hK.out _ _ ⟨hm5, hc45⟩ (fun hHeld => ?_)
        clear hK K
        (try simp only [Act.put, List.setIfInBounds_toArray, List.set_cons_zero, List.set_cons_succ])
        refine comes_up 9 rfl (by kernel_rfl) (fun K hK => ?_)
        go_simp
        refine hK.out _ _ ⟨hm5, hc45⟩ (fun hHeld => ?_)
        clear hK K
        (try simp only [Act.put, List.setIfInBounds_toArray, List.set_cons_zero, List.set_cons_succ])
        refine take_first 10 (v := ?_) rfl (by kernel_rfl) (by kernel_rfl) (by kernel_rfl) (fun _ _ _ h => h) (Or.inl ⟨by rfl, by intro wx hSw; (try dsimp only at hSw); go_simp; try with_reducible rfl⟩) (by assumption) ?_
        (try simp only [Act.put, List.setIfInBounds_toArray, List.set_cons_zero, List.set_cons_succ])
        refine wpAnyH_done (by kernel_rfl) ?_ _
        refine NoPanic.normal ?_
        have htw5 := htd3.step hrw hmw hrm hrd4 hg4 hr5 hg5 hs5
        clear htd3 htw3 hrd4 hg4 hr5 hg5 hs5 hb4 hm4 hm5 hbyt hrb hmc hbr3 hc4 hc45 hc5 hrow4 hrow5 hHeld2 hHeld
        go_wp2
        obtain ⟨stx, hstx⟩ : ∃ stx, stx = (rBytes st mo).2 := ⟨_, rfl⟩
        rw [← hstx] at htw5
        clear hstx
        have hsm := htw5.eq
        have htd := htw5.below (Below.refl _ _).drew
        have hrrd := htd.rr
        cases stx with
        | none =>
          obtain rfl := same_none hsm
          obtain ⟨a0, a1, _, _⟩ := hrrd.cells
          simp only [atOf] at a1
          have hle := refLeft_step _ m ao n cap xs none none hsm hrrd hxl (by omega)
          have hlc := left_rd _ _ _ htd.rd
          have hbd := fun wx hx => bad_rd wx r none hx
          go_region_held3 (fun wx => wx.cell? ⟨m, 1, none⟩ = some (.int .i64 (-1))) (first | exact a5 | exact a1) (first | (go_at_call 17; refine hlc.mono ?_; rintro e w6 ⟨rfl, rfl⟩) | (go_at_call 25; refine hle.mono ?_; rintro e w7 ⟨rfl, hb7⟩; have ht7 := htd.below hb7; have a5 := ht7.rr.cells.2.1) | (go_at_call 16; refine (hbd _ ht7.rd).mono ?_; rintro e w8 ⟨rfl, rfl⟩))
          go_wp2
          go_roundw
          case rel => exact ⟨k + 1, none, none, by omega, by go_num, ht7⟩
          case measure => simp [intOf]; omega
        | some ys =>
          obtain ⟨kk, rfl, hkk, rfl⟩ := same_left hsm
          obtain ⟨a0, a1, _, _⟩ := hrrd.cells
          simp only [atOf] at a1
          have hle := refLeft_step _ m ao n cap xs (some kk) (some (xs.drop kk)) hsm hrrd hxl (by omega)
          have hlc := left_rd _ _ _ htd.rd
          have hbd := fun wx hx => bad_rd wx r (some (xs.drop kk)) hx
          have hkk0 : ¬ (kk : Int) < 0 := by omega
          generalize rLeft (some (xs.drop kk)) = LL at hle hlc
          go_region_held3 (fun wx => wx.cell? ⟨m, 1, none⟩ = some (.int .i64 (kk : Int))) (first | exact a5 | exact a1) (first | (go_at_call 17; refine hlc.mono ?_; rintro e w6 ⟨rfl, rfl⟩) | (go_at_call 25; refine hle.mono ?_; rintro e w7 ⟨rfl, hb7⟩; have ht7 := htd.below hb7; have a5 := ht7.rr.cells.2.1) | (go_at_call 16; refine (hbd _ ht7.rd).mono ?_; rintro e w8 ⟨rfl, rfl⟩))
          go_wp2
          go_roundw
          case rel => exact ⟨k + 1, _, _, by omega, by go_num, ht7⟩
          case measure => simp [intOf]; omega
    · have hb0 := htw.bel
      by_cases hkq : k < q
      · have hk50 : ¬ k < 50 := by omega
        clear hlt
        go_wp2
        go_ret
        exact ⟨rfl, hb0⟩
      · clear hlt
        go_wp2
        go_ret
        exact ⟨rfl, hb0⟩

theorem cells41 : Try.prog.cellsOf 41 = 2 := by kernel_rfl
theorem cells3 : Try.prog.cellsOf 3 = 1 := by kernel_rfl
theorem open_asks {H : Type} {enc : TypeId × Value → H} {W : World} {a : Option Addr} {len cap : Nat} {d : DataW H} {p : List MemPlace}
    (h : DataW.Trod enc Try.prog W 0 (fun _ => true) true 36 (.slice a len cap) d p) : RowA W a len cap := by
  obtain ⟨fuel, hf⟩ := h
  rcases Deep.open_slice Try.underlying36 hf with ⟨hcs, _⟩ | ⟨x, l, c, mm, nn, D, Pl, hcs, _, hl, hm, hmm, _, hel⟩
  · simp [Value.cells] at hcs
    obtain ⟨rfl, rfl, rfl⟩ := hcs
    exact ⟨Nat.le_refl _, by unfold maxLen; omega, fun _ => rfl, fun a ha => (by cases ha)⟩
  · simp [Value.cells] at hcs
    obtain ⟨rfl, rfl, rfl⟩ := hcs
    simp only [if_true] at hmm
    have aux : ∀ i, i < len → ∃ (kd : Nat) (mo : Int), kd < 256 ∧ -9223372036854775808 ≤ mo ∧ mo ≤ 9223372036854775807 ∧ W.cell? ((x.add (i * 2)).add 0) = some (.int .u8 (kd : Int)) ∧ W.cell? ((x.add (i * 2)).add 1) = some (.int .i64 mo) := by
      intro i hi
      obtain ⟨cs', h1, h2⟩ := hel i (by omega)
      rw [cells41] at h1
      obtain ⟨y0, y1, n1, _, hcl, hy0, hy1⟩ := trod_struct2 Try.underlying41 h2
      rw [cells41] at hcl
      match cs', hcl with
      | [e0, e1], _ =>
        rw [cells5] at hy0
        rw [cells3] at hy1
        obtain ⟨z0, q0, _, w0⟩ := DataW.trod_int Try.underlying5 hy0
        obtain ⟨z1, q1, _, w1⟩ := DataW.trod_int Try.underlying3 hy1
        simp at q0 q1
        subst q0 q1
        have b0 := bounds_u8 w0
        have b1 := bounds_i64 w1
        obtain ⟨_, _, hc⟩ := World.cells?_some h1
        obtain ⟨K, rfl⟩ := Int.eq_ofNat_of_zero_le b0.1
        exact ⟨K, z1, by omega, by omega, by omega, hc 0 (by omega), hc 1 (by omega)⟩
    refine ⟨hl, hm, fun e => (by cases e), fun b hb i hi => ?_⟩
    cases hb
    obtain ⟨xb, xo, xs⟩ := x
    have hs : xs = none := by
      obtain ⟨_, _, _, _, _, g, _⟩ := aux 0 (by omega)
      simpa [Addr.add] using World.cell?_spot g
    subst hs
    obtain ⟨K, mo, g1, g2, g3, g4, g5⟩ := aux i hi
    rw [Addr.add_lit, Addr.add_lit] at g4 g5
    rw [Addr.add_lit, Addr.add_lit]
    exact ⟨K, mo, g1, g2, g3, g4, by rw [← Nat.add_assoc]; exact g5⟩

set_option maxRecDepth 100000 in
theorem lifted (os : Os) (started : os.Started) (H : Type) (enc : TypeId × Value → H) :
    ReturnsInHanded {} Try.checked os 5 .any (Rows.codeReadsSpec.pre6 enc Try.prog Try.f5 Rows.codeReadsRow.domain false) (Rows.codeReadsSpec.post enc Try.prog Try.f5 false true false false) := by
  refine returnsInHanded_of_change_sized (C := Try.checked) own started (by kernel_rfl) Try.func5
    (ChangeSpec.witness6 (enc := enc) (C := Try.checked) false ⟨#[], #[.slice none 0 0, .slice none 0 0], []⟩ 8 (by kernel_rfl) (by kernel_rfl) (by kernel_rfl) (by kernel_rfl)) ?_
  intro W base args ds gs before hval0 hW hcnd hsz0 _
  have hsz : (DataW.weightsEach Try.prog (Try.f5.params.toList ++ Rows.codeReadsSpec.plain.varTypes Try.prog) (ds ++ gs)).all (· ≤ reachBytes) = true := hsz0
  have hval : ∀ (j : Nat) t v, Try.f5.params[j]? = some t → args[j]? = some v → Value.okWide Try.prog W .any base t v := hval0
  have hW' := hW
  obtain ⟨p, q, hA0, hV, rfl, hfz, hnd⟩ := hW
  have hA : DataW.TrodAll enc Try.prog W 0 (fun _ => true) true Try.f5.params.toList args.toList ds p := hA0
  rw [Try.params5] at hA hval hsz
  obtain ⟨v0, vs0, d0, ds0, p0, q0, hargs, rfl, rfl, h0, r0⟩ := trodAll_cons hA
  obtain ⟨v1, vs1, d1, ds1, p1, q1, rfl, rfl, rfl, h1, r1⟩ := trodAll_cons r0
  obtain ⟨rfl, rfl, rfl⟩ := trodAll_nil r1
  obtain rfl : args = #[v0, v1] := by cases args; simp_all
  obtain ⟨rfl, rfl⟩ := trodVars_none hV
  obtain ⟨a0, len0, cap0, rfl⟩ := okWide_slice Try.underlying22 (hval 0 22 v0 rfl rfl)
  obtain ⟨a1, len1, cap1, rfl⟩ := okWide_slice Try.underlying36 (hval 1 36 v1 rfl rfl)
  have k0 := h0
  have lt0 : ∀ x ∈ p0, x.block < W.heap.size := by obtain ⟨m, hm⟩ := k0; exact DataW.trod_lt m _ _ _ hm
  have k1 := h1
  have lt1 : ∀ x ∈ p1, x.block < W.heap.size := by obtain ⟨m, hm⟩ := k1; exact DataW.trod_lt m _ _ _ hm
  obtain ⟨xs, hrow0, hcap0⟩ := open_bytes h0 hsz (j := 0) rfl rfl
  have hrow1 := open_asks h1
  clear hA0 hval0
  refine (walk W a0 len0 cap0 xs hrow0 a1 len1 cap1 hrow1 (by have := hrow0.2.1; omega)).mono fun e W' ⟨he, bel⟩ => ?_
  subst he
  exact ⟨_, rfl, _, _, _, [], _, [], hW', trodAll_mk1 (shut_bool Try.underlying4 _), (trodAll_cons_mk (Below.trod laidOut (by kernel_rfl) (of_decide_eq_true (by kernel_rfl)) k0 bel lt0) (trodAll_cons_mk (Below.trod laidOut (by kernel_rfl) (of_decide_eq_true (by kernel_rfl)) k1 bel lt1) trodAll_mk0)), rfl, bel.frame _, fun h => by cases h⟩

theorem over : Rows.codeReadsRow.holds Try.pinned (OpenSpec.ofChange Rows.codeReadsSpec) :=
  OpenClaim.holds_of_wide 5 Try.f5 rfl rfl rfl rfl rfl rfl rfl ⟨rfl, rfl, rfl, rfl, rfl⟩ rfl rfl rfl rfl rfl (by kernel_rfl) Try.func5 (by kernel_rfl)
    (of_decide_eq_true (by kernel_rfl)) (by unfold Func.isWrapper; first | (rw [if_pos (by decide +kernel)]; kernel_rfl) | (rw [if_neg (by decide +kernel)]; exact ⟨rfl, rfl⟩))
    (fun os started H enc _ => lifted os started H enc)

end Go.Proofs.Ytlnphniokaclcaa.codeReads
namespace Go.Proofs.Ytlnphniokaclcaa
theorem codeReads_holds : Rows.CodeReadsSaid := codeReads.over
#print axioms codeReads_holds
end Go.Proofs.Ytlnphniokaclcaa
