/-
  Proved: for all numbers l and every cut, CodeJoins(l, cut) returns true: numbers that are written one behind the other are read one behind the other; cut short, the last one is missing. No condition.
-/
import Derived.Test.YtlnphniokaclcaaArgs
import Derived.Test.YtlnphniokaclcaaStr
import Derived.Test.YtlnphniokaclcaaRegion
import Derived.RegionTactic
namespace Go.Proofs.Ytlnphniokaclcaa.codeJoins
open Go.ChangeShapes Go.WideShapes Go.ChangeAt Go.RowKit
open Go.ChangeMaps (open_string shut_string)
set_option linter.unusedVariables false
set_option linter.unusedSimpArgs false

/-- A slice of numbers that came in. -/
def RowN (w : World) (ao : Option Addr) (n cap : Nat) (ns : List Nat) : Prop :=
  ns.length = n ∧ n ≤ cap ∧ cap ≤ maxLen ∧ (∀ x ∈ ns, x < 18446744073709551616) ∧ (ao = none → n = 0) ∧ ∀ a, ao = some a → ∀ i, i < n → w.cell? (a.add i) = some (.int .u64 ((ns.getD i 0 : Nat) : Int))
theorem RowN.below {B : Nat} {w w' : World} {ao : Option Addr} {n cap : Nat} {ns : List Nat} (h : RowN w ao n cap ns) (hb : Below B w w') (hB : w.heap.size ≤ B) : RowN w' ao n cap ns := by
  obtain ⟨h1, h2, h3, h4, h6, h5⟩ := h
  refine ⟨h1, h2, h3, h4, h6, fun a ha i hi => ?_⟩
  have hc := h5 a ha i hi
  have := World.block_lt_of_cell? w _ hc
  rw [hb.cell (by omega)]
  exact hc

theorem RowN.open {w : World} {ao : Option Addr} {n cap : Nat} {ns : List Nat} (h : RowN w ao n cap ns) (hn : 0 < n) : ∃ b off, ao = some ⟨b, off, none⟩ := by
  obtain ⟨h1, h2, h3, h4, h6, h5⟩ := h
  cases ao with
  | none => have := h6 rfl; omega
  | some a =>
    obtain ⟨b, off, spot⟩ := a
    have hs : spot = none := by simpa [Addr.add] using World.cell?_spot (h5 _ rfl 0 hn)
    subst hs
    exact ⟨b, off, rfl⟩
theorem RowN.at {w : World} {b off n cap : Nat} {ns : List Nat} (h : RowN w (some ⟨b, off, none⟩) n cap ns) (i : Nat) (hi : i < n) : w.cell? ⟨b, off + i, none⟩ = some (.int .u64 ((ns.getD i 0 : Nat) : Int)) := by
  rw [← Addr.add_lit]
  exact h.2.2.2.2.2 _ rfl i hi

theorem _root_.Go.Proofs.Ytlnphniokaclcaa.Row.takeC {w : World} {ao : Option Addr} {n cap : Nat} {xs : List UInt8} (h : Row w ao n cap xs) (k : Nat) (hk : k ≤ n) : Row w ao k cap (xs.take k) := by
  obtain ⟨h1, h2, h3, h4, h5⟩ := h
  refine ⟨by simp; omega, by omega, h3, fun e => by have := h4 e; omega, fun a ha i hi => ?_⟩
  rw [h5 a ha i (by omega)]
  simp [hi]

def encs (ns : List Nat) : List UInt8 := ns.flatMap enc
theorem encs_len (ns : List Nat) : (encs ns).length ≤ 10 * ns.length := by
  induction ns with
  | nil => simp [encs]
  | cons x t ih => have := enc_length x; simp only [encs, List.flatMap_cons, List.length_append, List.length_cons] at ih ⊢; omega
theorem encs_take (ns : List Nat) (k : Nat) (h : k < ns.length) : encs (ns.take (k + 1)) = encs (ns.take k) ++ enc (ns.getD k 0) := by
  unfold encs
  rw [List.take_succ_eq_append_getElem h, List.flatMap_append]
  simp only [List.flatMap_cons, List.flatMap_nil, List.append_nil, List.getD, List.getElem?_eq_getElem h, Option.getD_some]
theorem drop_at (ns : List Nat) (k : Nat) (h : k < ns.length) : ns.drop k = ns.getD k 0 :: ns.drop (k + 1) := by
  rw [List.drop_eq_getElem_cons h]
  simp [List.getD, List.getElem?_eq_getElem h]
theorem encs_drop (ns : List Nat) (k : Nat) (h : k < ns.length) : encs (ns.drop k) = enc (ns.getD k 0) ++ encs (ns.drop (k + 1)) := by
  rw [drop_at ns k h]
  simp [encs]
theorem encs_split (ns : List Nat) (k : Nat) : (encs (ns.take k)).length + (encs (ns.drop k)).length = (encs ns).length := by
  have : encs (ns.take k) ++ encs (ns.drop k) = encs ns := by
    unfold encs
    rw [← List.flatMap_append, List.take_append_drop]
  rw [← this, List.length_append]
theorem getD_lt {ns : List Nat} (h : ∀ x ∈ ns, x < 18446744073709551616) (k : Nat) : ns.getD k 0 < 18446744073709551616 := by
  rcases Nat.lt_or_ge k ns.length with hk | hk
  · simp only [List.getD, List.getElem?_eq_getElem hk, Option.getD_some]
    exact h _ (List.getElem_mem hk)
  · simp [List.getD, List.getElem?_eq_none hk]
theorem rUint_next (ns : List Nat) (k : Nat) (h : k < ns.length) (hl : ∀ x ∈ ns, x < 18446744073709551616) : rUint (some (encs (ns.drop k))) = (ns.getD k 0, some (encs (ns.drop (k + 1)))) := by
  rw [encs_drop ns k h]
  simp only [rUint, rd_enc _ _ (getD_lt hl k), List.drop_left]
theorem rUint_end (ns : List Nat) : rUint (some (encs (ns.drop ns.length))) = (0, none) := by
  rw [List.drop_length]
  rfl
/-- What is left of what was cut. -/
def rest (ns : List Nat) (c k : Nat) : List UInt8 := (encs (ns.drop k)).take (c - (encs (ns.take k)).length)
theorem rUint_rest (ns : List Nat) (c k : Nat) (h : k < ns.length) (hl : ∀ x ∈ ns, x < 18446744073709551616) (hc : (encs (ns.take k)).length ≤ c) :
    (rUint (some (rest ns c k)) = (ns.getD k 0, some (rest ns c (k + 1))) ∧ (encs (ns.take (k + 1))).length ≤ c) ∨ rUint (some (rest ns c k)) = (0, none) := by
  have e1 := encs_drop ns k h
  have e2 := encs_take ns k h
  unfold rest
  rw [e1, e2]
  by_cases hd : (enc (ns.getD k 0)).length ≤ c - (encs (ns.take k)).length
  · left
    rw [List.take_append, List.take_of_length_le hd]
    refine ⟨?_, by rw [List.length_append]; omega⟩
    simp only [rUint, rd_enc _ _ (getD_lt hl k), List.drop_left, List.length_append]
    rw [show c - (encs (ns.take k)).length - (enc (ns.getD k 0)).length = c - ((encs (ns.take k)).length + (enc (ns.getD k 0)).length) by omega]
  · right
    rw [List.take_append_of_le_length (by omega)]
    have : rd ((enc (ns.getD k 0)).take (c - (encs (ns.take k)).length)) = none := rdF_cut 9 0 0 _ _ (by unfold enc at hd; omega)
    simp only [rUint, this]

set_option maxRecDepth 10000 in
set_option maxHeartbeats 1000000 in
theorem walk_long (w : World) (ao : Option Addr) (n cap : Nat) (cut : Int) (hm : 60 < n) (hc : n ≤ cap) (hx : cap ≤ maxLen) :
    Calls Try.prog 9 #[.slice ao n cap, .int .u8 cut] w fun e w' => e = .returned (.bool true) ∧ Below w.heap.size w w' := by
  unfold maxLen at hx
  go_enter Try.func9, Try.ntmps9
  go_wp2_with fail
  refine (awake_any _).mono ?_
  rintro e w1 ⟨rfl, hb1⟩
  go_wp2_with fail
  refine (awake_any _).mono ?_
  rintro e w2 ⟨rfl, hb2⟩
  go_wp2
  go_ret
  exact ⟨rfl, hb1.trans (hb2.mono hb1.size)⟩

theorem owns_step {w wr w' : World} {v' : Value} {zs es : List UInt8} (hbel : Below w.heap.size w wr) (hown : w'.ownsRow wr.heap.size 5 1 v' (zs.length + es.length) ((zs ++ es).map by8)) (hb : Below wr.heap.size wr w') :
    w'.ownsRow w.heap.size 5 1 v' (zs ++ es).length ((zs ++ es).map by8) ∧ Below w.heap.size w w' :=
  ⟨by simpa using owns_mono hown hbel.size, hbel.trans (hb.mono hbel.size)⟩

set_option maxRecDepth 10000 in
set_option maxHeartbeats 4000000 in
theorem walk (w : World) (ao : Option Addr) (n cap : Nat) (ns : List Nat) (h : RowN w ao n cap ns) (q : Nat) (hn : n ≤ 60) (hq : q < 256) :
    Calls Try.prog 9 #[.slice ao n cap, .int .u8 (q : Int)] w fun e w' => e = .returned (.bool true) ∧ Below w.heap.size w w' := by
  have hlen : ns.length = n := h.1
  have hle := h.2.1
  have hcm := h.2.2.1
  unfold maxLen at hcm
  have HNS : Hid (∀ x ∈ ns, x < 18446744073709551616) := h.2.2.2.1
  have hel := encs_len ns
  have HR : Hid (∀ wx, Below w.heap.size w wx → RowN wx ao n cap ns) := fun wx hb => h.below hb (Nat.le_refl _)
  have hopen := h.open
  go_enter Try.func9, Try.ntmps9
  go_wp2_with fail
  refine (awake_any _).mono ?_
  rintro e w1 ⟨rfl, hb1⟩
  go_wp2
  go_loopw [5, 6] (fun v i wr => ∃ k : Nat, k ≤ n ∧ i = .int .i64 k ∧ wr.ownsRow w.heap.size 5 1 v (encs (ns.take k)).length ((encs (ns.take k)).map by8) ∧ Below w.heap.size w wr) (fun _ i _ => n - (intOf i).toNat)
  case atStart => exact ⟨0, by omega, rfl, World.ownsRow_nil _ _ _ _, hb1⟩
  case round =>
    obtain ⟨k, hk, rfl, hown, hbel⟩ := hrel
    have hsz := hbel.size
    have hkl : (encs (ns.take k)).length ≤ 600 := by have := encs_len (ns.take k); simp at this; omega
    by_cases hlt : k < n
    · obtain ⟨b, off, rfl⟩ := hopen (by omega)
      have hck := (HR.out wr hbel).at k hlt
      have HT : Hid (encs (ns.take (k + 1)) = encs (ns.take k) ++ enc (ns.getD k 0)) := encs_take ns k (by omega)
      have hNl := getD_lt HNS.out k
      obtain ⟨N, hN⟩ : ∃ N, N = ns.getD k 0 := ⟨_, rfl⟩
      rw [← hN] at hck HT hNl
      obtain ⟨zs, hzs⟩ : ∃ zs, zs = encs (ns.take k) := ⟨_, rfl⟩
      rw [← hzs] at HT hown hkl
      clear hN hzs
      obtain ⟨ao', cap', hv, hrow, _⟩ := owns_row hown
      rw [hv]
      clear hv
      go_wp2_with fail
      refine (uint_any _ _ _ _ _ hrow N hNl (by omega)).mono ?_
      rintro e w2 ⟨v2, rfl, hown2, hb2⟩
      have R := owns_step hbel hown2 hb2
      go_wp2
      go_roundw
      case rel => exact ⟨k + 1, by omega, by go_num, by rw [HT.out]; exact R.1, R.2⟩
      case measure => simp [intOf]; omega
    · have hkn : k = n := by omega
      have HZ : Hid (encs (ns.take k) = encs ns) := by show encs (ns.take k) = encs ns; rw [List.take_of_length_le (by omega)]
      rw [HZ.out] at hown
      have hzl : (encs ns).length ≤ 600 := by omega
      clear hkn HZ
      obtain ⟨ao', cap', hv, hrow, _⟩ := owns_row hown
      rw [hv]
      clear hv
      go_wp2_with fail
      refine (newReader_any _ _ _ _ _ hrow (by omega)).mono ?_
      rintro e w2 ⟨r, rfl, hr2, hrd2, hb2⟩
      have hbw2 : Below w.heap.size w w2 := hbel.trans (hb2.mono hsz)
      have hrow2 := hrow.below hb2 (Nat.le_refl _)
      go_wp2
      go_loopw [8] (fun i wx => ∃ j : Nat, j ≤ n ∧ i = .int .i64 j ∧ Rd wx r (some (encs (ns.drop j))) ∧ w2.grownBy wx (some r)) (fun i _ => n - (intOf i).toNat)
      case atStart => exact ⟨0, by omega, rfl, hrd2, grown_refl _ _⟩
      case round =>
        obtain ⟨j, hj, rfl, hrd, hg⟩ := hrel
        have hs2 := hbw2.size
        have hbr : Below w.heap.size w wr := hbw2.grown hg hs2 (fun k hk => by simp at hk; omega)
        by_cases hjn : j < n
        · obtain ⟨b, off, rfl⟩ := hopen (by omega)
          have hck := (HR.out wr hbr).at j hjn
          have hbl := World.block_lt_of_cell? _ _ ((HR.out w (Below.refl _ _)).at j hjn)
          have HU : Hid (rUint (some (encs (ns.drop j))) = (ns.getD j 0, some (encs (ns.drop (j + 1))))) := rUint_next ns j (by omega) HNS.out
          obtain ⟨N, hN⟩ : ∃ N, N = ns.getD j 0 := ⟨_, rfl⟩
          rw [← hN] at hck HU
          have hNl : N < 18446744073709551616 := by rw [hN]; exact getD_lt HNS.out j
          clear hN
          have hrdd := rd_below hrd (Below.refl _ _).drew
          have hckd : wr.drew.cell? ⟨b, off + j, none⟩ = some (.int .u64 (N : Int)) := hck
          have hbr' : b ≠ r := by simp at hbl; omega
          have hj0 : (0 : Int) ≤ (j : Int) := by omega
          have hj1 : (j : Int) < (n : Int) := by omega
          go_wp2
          go_region_held3 (fun wx => wx.cell? ⟨b, off + j, none⟩ = some (.int .u64 (N : Int))) (first | exact hck5 | exact hckd) (first | (go_at_call 14; refine (uint_rd _ _ _ hrdd).mono ?_; rw [HU.out]; rintro e w5 ⟨rfl, hrd5, hg5⟩; have hck5 := hg5.cell hckd (by simpa using hbr')) | (go_at_call 16; refine (bad_rd _ _ _ hrd5).mono ?_; rintro e w6 ⟨rfl, rfl⟩))
          go_wp2
          go_roundw
          case rel => exact ⟨j + 1, by omega, by go_num, hrd5, grown_trans hg ⟨hg5.os, hg5.tape, hg5.output, hg5.size, hg5.block⟩⟩
          case measure => simp [intOf]; omega
        · have hjn' : j = n := by omega
          have HE : Hid (rUint (some (encs (ns.drop j))) = (0, none)) := by have := rUint_end ns; rw [hlen] at this; rw [hjn']; exact this
          have HL : Hid (rLeft (some (encs (ns.drop j))) = 0) := by
            show (encs (ns.drop j)).length = 0
            rw [List.drop_of_length_le (by omega)]
            rfl
          clear hjn'
          have hL1 := left_rd _ _ _ hrd
          rw [HL.out] at hL1
          have hU1 := uint_rd _ _ _ hrd
          rw [HE.out] at hU1
          by_cases hL0 : (encs ns).length = 0
          · have hL0b : (((encs ns).length : Int) == 0) = true := by simp [hL0]
            clear hL0
            go_wp2_with (first | (go_at_call 17; refine hL1.mono ?_; rintro e w3 ⟨rfl, rfl⟩) | (go_at_call 14; refine hU1.mono ?_; rintro e w4 ⟨rfl, hrd4, hg4⟩) | (go_at_call 16; refine (bad_rd _ _ _ hrd4).mono ?_; rintro e w5 ⟨rfl, rfl⟩))
            go_ret
            have hs := hbr.size
            exact ⟨rfl, hbr.grown hg4 hs (fun k hk => by simp at hk; omega)⟩
          · have hL0b : (((encs ns).length : Int) == 0) = false := by rw [beq_eq_false_iff_ne]; omega
            have hrowr := row_kept hrow2 hrd2 hg
            have hcap := hrow2.2.1
            have hcapm := hrow2.2.2.1
            unfold maxLen at hcapm
            have hqc : q % (encs ns).length < (encs ns).length := Nat.mod_lt _ (by omega)
            have hqm0 : (0 : Int) ≤ (q : Int) % ((encs ns).length : Int) := by have := Int.natCast_emod q (encs ns).length; omega
            have hqm1 : (q : Int) % ((encs ns).length : Int) ≤ (cap' : Int) := by have := Int.natCast_emod q (encs ns).length; omega
            clear hL0
            go_wp2_with (first | (go_at_call 17; refine hL1.mono ?_; rintro e w3 ⟨rfl, rfl⟩) | (go_at_call 14; refine hU1.mono ?_; rintro e w4 ⟨rfl, hrd4, hg4⟩) | (go_at_call 16; refine (bad_rd _ _ _ hrd4).mono ?_; rintro e w5 ⟨rfl, rfl⟩))
            obtain ⟨c, hc⟩ : ∃ c, c = q % (encs ns).length := ⟨_, rfl⟩
            rw [← hc] at hqc
            have hrow4 : Row w4 ao' c cap' ((encs ns).take c) := (row_kept hrowr hrd hg4).takeC c (by omega)
            have hbr4 : Below w.heap.size w w4 := hbr.grown hg4 hbr.size (fun k hk => by simp at hk; omega)
            rw [← hc]
            refine (newReader_any _ _ _ _ _ hrow4 (by omega)).mono ?_
            rintro e w6 ⟨s, rfl, hr6, hrd6, hb6⟩
            have hbw6 : Below w.heap.size w w6 := hbr4.trans (hb6.mono hbr4.size)
            have hs4 := hbr4.size
            clear hrow4 hrowr hL1 hU1 hg4 hrd4 hrd hg hc hqm0 hqm1 hbr hb6 HE HL
            go_wp2
            go_loopw [10, 11, 12] (fun m i x wx => ∃ (j m' : Nat) (st : Option (List UInt8)), j ≤ n ∧ i = .int .i64 j ∧ m = .int .i64 m' ∧ m' ≤ j ∧ Rd wx s st ∧ w6.grownBy wx (some s) ∧ ((st = some (rest ns c j) ∧ m' = j ∧ (encs (ns.take j)).length ≤ c) ∨ (st = none ∧ m' < n))) (fun _ i _ _ => n - (intOf i).toNat)
            case atStart => exact ⟨0, 0, some (rest ns c 0), by omega, rfl, rfl, by omega, by simpa [rest, encs] using hrd6, grown_refl _ _, .inl ⟨rfl, rfl, by simp [encs]⟩⟩
            case round =>
              obtain ⟨j, m', st, hj, rfl, rfl, hmj, hrd, hg, hinv⟩ := hrel
              have hs6 := hbw6.size
              have hbr : Below w.heap.size w wr := hbw6.grown hg hs6 (fun k hk => by simp at hk; omega)
              rcases hinv with ⟨rfl, hmj2, hoff⟩ | ⟨rfl, hmn⟩
              · subst hmj2
                have hjn : m' < n := by
                  rcases Nat.lt_or_ge m' n with hlt | hge
                  · exact hlt
                  · rw [List.take_of_length_le (by omega)] at hoff
                    omega
                obtain ⟨b, off, rfl⟩ := hopen (by omega)
                have hbl := World.block_lt_of_cell? _ _ ((HR.out w (Below.refl _ _)).at m' hjn)
                have hck := (HR.out wr hbr).at m' hjn
                have hbs : b ≠ s := by simp at hbl; omega
                have hUR := rUint_rest ns c m' (by omega) HNS.out hoff
                have hU := uint_rd _ _ _ hrd
                have HO : Hid ((encs (ns.take m')).length ≤ c) := hoff
                obtain ⟨N, hN⟩ : ∃ N, N = ns.getD m' 0 := ⟨_, rfl⟩
                rw [← hN] at hck hUR
                have hNl : N < 18446744073709551616 := by rw [hN]; exact getD_lt HNS.out m'
                clear hN hoff
                rcases hUR with ⟨hu, hoff2⟩ | hu
                · rw [hu] at hU
                  have HO2 : Hid ((encs (ns.take (m' + 1))).length ≤ c) := hoff2
                  clear hu hoff2
                  go_wp2_with fail
                  refine (bad_rd _ _ _ hrd).mono ?_
                  rintro e w7 ⟨rfl, rfl⟩
                  go_wp2_with fail
                  refine hU.mono ?_
                  rintro e w8 ⟨rfl, hrd8, hg8⟩
                  have hck8 := hg8.cell hck (by simpa using hbs)
                  go_wp2_with fail
                  refine (bad_rd _ _ _ hrd8).mono ?_
                  rintro e w9 ⟨rfl, rfl⟩
                  go_wp2
                  go_roundw
                  case rel => exact ⟨m' + 1, m' + 1, _, by omega, by go_num, by go_num, by omega, hrd8, grown_trans hg hg8, .inl ⟨rfl, rfl, HO2.out⟩⟩
                  case measure => simp [intOf]; omega
                · rw [hu] at hU
                  clear hu
                  go_wp2_with fail
                  refine (bad_rd _ _ _ hrd).mono ?_
                  rintro e w7 ⟨rfl, rfl⟩
                  go_wp2_with fail
                  refine hU.mono ?_
                  rintro e w8 ⟨rfl, hrd8, hg8⟩
                  go_wp2_with fail
                  refine (bad_rd _ _ _ hrd8).mono ?_
                  rintro e w9 ⟨rfl, rfl⟩
                  go_wp2
                  go_roundw
                  case rel => exact ⟨m' + 1, m', _, by omega, by go_num, rfl, by omega, hrd8, grown_trans hg hg8, .inr ⟨rfl, by omega⟩⟩
                  case measure => simp [intOf]; omega
              · by_cases hjn : j < n
                · go_wp2_with (first | (go_at_call 16; refine (bad_rd _ _ _ hrd).mono ?_; rintro e w7 ⟨rfl, rfl⟩))
                  go_ret
                  exact ⟨rfl, hbr⟩
                · go_wp2_with (first | (go_at_call 16; refine (bad_rd _ _ _ hrd).mono ?_; rintro e w7 ⟨rfl, rfl⟩))
                  go_ret
                  exact ⟨rfl, hbr⟩

theorem cells23 : Try.prog.cellsOf 23 = 1 := by kernel_rfl
theorem open_nums {H : Type} {enc : TypeId × Value → H} {W : World} {a : Option Addr} {len cap : Nat} {d : DataW H} {p : List MemPlace}
    (h : DataW.Trod enc Try.prog W 0 (fun _ => true) true 54 (.slice a len cap) d p) : ∃ ns, RowN W a len cap ns := by
  obtain ⟨fuel, hf⟩ := h
  rcases open_ints Try.underlying54 Try.underlying23 cells23 hf with ⟨hcs, _⟩ | ⟨x, l, c, zs, hcs, _, hl, hm, hz, hx, hcell, hwz⟩
  · simp [Value.cells] at hcs
    obtain ⟨rfl, rfl, rfl⟩ := hcs
    exact ⟨[], rfl, Nat.le_refl _, by unfold maxLen; omega, by simp, fun _ => rfl, fun a ha => (by cases ha)⟩
  · simp [Value.cells] at hcs
    obtain ⟨rfl, rfl, rfl⟩ := hcs
    simp only [if_true] at hz
    refine ⟨(zs.take len).map Int.toNat, by simp; omega, hl, hm, ?_, fun e => (by cases e), fun b hb i hi => ?_⟩
    · intro x hx
      simp only [List.mem_map] at hx
      obtain ⟨z, hz1, rfl⟩ := hx
      have := bounds_u64 (hwz z (List.mem_of_mem_take hz1))
      omega
    · cases hb
      rw [hcell i (by omega)]
      have hi2 : i < zs.length := by omega
      have hw := bounds_u64 (hwz (zs.getD i 0) (by simp [List.getD, List.getElem?_eq_getElem hi2]))
      have e : (((zs.take len).map Int.toNat).getD i 0) = (zs.getD i 0).toNat := by
        simp [List.getD, hi, List.getElem?_eq_getElem hi2]
      rw [e]
      congr 2
      omega

set_option maxRecDepth 100000 in
theorem lifted (os : Os) (started : os.Started) (H : Type) (enc : TypeId × Value → H) :
    ReturnsInHanded {} Try.checked os 9 .any (Rows.codeJoinsSpec.pre6 enc Try.prog Try.f9 Rows.codeJoinsRow.domain false) (Rows.codeJoinsSpec.post enc Try.prog Try.f9 false true false false) := by
  refine returnsInHanded_of_change (C := Try.checked) own started (by kernel_rfl) Try.func9
    (ChangeSpec.witness6 (enc := enc) (C := Try.checked) false ⟨#[], #[.slice none 0 0, .int .u8 0], []⟩ 8 (by kernel_rfl) (by kernel_rfl) (by kernel_rfl) (by kernel_rfl)) ?_
  intro W base args ds gs before hval0 hW hcnd _
  have hval : ∀ (j : Nat) t v, Try.f9.params[j]? = some t → args[j]? = some v → Value.okWide Try.prog W .any base t v := hval0
  have hW' := hW
  obtain ⟨p, q, hA0, hV, rfl, hfz, hnd⟩ := hW
  have hA : DataW.TrodAll enc Try.prog W 0 (fun _ => true) true Try.f9.params.toList args.toList ds p := hA0
  rw [Try.params9] at hA hval
  obtain ⟨v0, vs0, d0, ds0, p0, q0, hargs, rfl, rfl, h0, r0⟩ := trodAll_cons hA
  obtain ⟨v1, vs1, d1, ds1, p1, q1, rfl, rfl, rfl, h1, r1⟩ := trodAll_cons r0
  obtain ⟨rfl, rfl, rfl⟩ := trodAll_nil r1
  obtain rfl : args = #[v0, v1] := by cases args; simp_all
  obtain ⟨rfl, rfl⟩ := trodVars_none hV
  obtain ⟨a0, len0, cap0, rfl⟩ := okWide_slice Try.underlying54 (hval 0 54 v0 rfl rfl)
  have k0 := h0
  have lt0 : ∀ x ∈ p0, x.block < W.heap.size := by obtain ⟨m, hm⟩ := k0; exact DataW.trod_lt m _ _ _ hm
  obtain ⟨a1, rfl, rfl, rfl, w1⟩ := open_int Try.underlying5 (hval 1 5 v1 rfl rfl) h1
  obtain ⟨ns, hrow⟩ := open_nums h0
  clear hA0 hval0
  have b1 := bounds_u8 w1
  obtain ⟨c, rfl⟩ := Int.eq_ofNat_of_zero_le b1.1
  have fin : Calls Try.prog 9 #[.slice a0 len0 cap0, .int .u8 (c : Int)] W fun e w' => e = .returned (.bool true) ∧ Below W.heap.size W w' := by
    by_cases hm : len0 ≤ 60
    · exact walk W a0 len0 cap0 ns hrow c hm (by omega)
    · exact walk_long W a0 len0 cap0 c (by omega) hrow.2.1 hrow.2.2.1
  refine fin.mono fun e W' ⟨he, bel⟩ => ?_
  subst he
  exact ⟨_, rfl, _, _, _, [], _, [], hW', trodAll_mk1 (shut_bool Try.underlying4 _), (trodAll_cons_mk (Below.trod laidOut (by kernel_rfl) (of_decide_eq_true (by kernel_rfl)) k0 bel lt0) (trodAll_cons_mk (shut_int Try.underlying5 w1) trodAll_mk0)), rfl, bel.frame _, fun h => by cases h⟩

theorem over : Rows.codeJoinsRow.holds Try.pinned (OpenSpec.ofChange Rows.codeJoinsSpec) :=
  OpenClaim.holds_of_wide 9 Try.f9 rfl rfl rfl rfl rfl rfl rfl ⟨rfl, rfl, rfl, rfl, rfl⟩ rfl rfl rfl rfl rfl (by kernel_rfl) Try.func9 (by kernel_rfl)
    (of_decide_eq_true (by kernel_rfl)) (by unfold Func.isWrapper; first | (rw [if_pos (by decide +kernel)]; kernel_rfl) | (rw [if_neg (by decide +kernel)]; exact ⟨rfl, rfl⟩))
    (fun os started H enc _ => lifted os started H enc)

end Go.Proofs.Ytlnphniokaclcaa.codeJoins
namespace Go.Proofs.Ytlnphniokaclcaa
theorem codeJoins_holds : Rows.CodeJoinsSaid := codeJoins.over
#print axioms codeJoins_holds
end Go.Proofs.Ytlnphniokaclcaa
