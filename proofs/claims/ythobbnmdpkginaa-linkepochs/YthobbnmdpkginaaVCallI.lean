/-
  The calls of a receiver, for things of one kind.
-/
import Derived.Test.YthobbnmdpkginaaSCallI
import Derived.Test.YthobbnmdpkginaaLRow
namespace Go.Proofs.Ythobbnmdpkginaa
open Go.RowKit
set_option linter.unusedVariables false

theorem vwrapI {n ack d : Nat} (h : n = ack + d) (h2 : n < 18446744073709551616) : IntKind.u64.wrap ((n : Int) - (ack : Int)) = (d : Int) := by
  rw [IntKind.wrap_u64]; omega
theorem und33e : Try.prog.underlying 33 = some (.slice (Try.prog.elem 33)) := by kernel_rfl
set_option maxRecDepth 100000 in
theorem size33 (w : World) : (sizeOf (Try.prog.elem 33)).run Try.prog w = .ok 1 w := by rfl
theorem slice_toI (w : World) (ao : Option Addr) (L cap n : Nat) (hn : n ≤ cap) (hao : ∀ a, ao = some a → a.spot = none) : (Instr.slice 33 (.slice ao L cap) none (some (.int .i64 (n : Nat))) none).run Try.prog w = .ok (.slice ao n cap) w := by
  rw [run_slice_h w 33 ao L cap und33e .i64 (n : Nat) (by omega) (by omega), size33]
  simp only [Result.andThen_ok, sliced, Int.toNat_natCast, Nat.sub_zero, Nat.zero_mul]
  congr 2
  split
  · rfl
  · cases ao with
    | none => rfl
    | some a => simp [Addr.add]
theorem vnewI_err (w : World) (most : Int) (h : most < 1 ∨ 256 < most) : Calls Try.prog 45 #[.int .i64 most] w fun e w' => e = .returned (.tuple #[.pointer none, .int .i64 1]) ∧ w = w' := by
  go_enter Try.func45, Try.ntmps45
  go_wp2_with fail
  refine (newI_err w most h).mono ?_
  rintro e w1 ⟨rfl, rfl⟩
  go_wp2
  go_ret2
  exact ⟨rfl, rfl⟩
theorem vnewI_any (w : World) (most : Nat) (h1 : 1 ≤ most) (h2 : most ≤ 256) : Calls Try.prog 45 #[.int .i64 (most : Nat)] w fun e w' => ∃ q F, e = .returned (.tuple #[.pointer (some ⟨q, 0, none⟩), .int .i64 0]) ∧ Rcv w' 3 F q most 0 [] ∧ Turned (fun _ => False) w w' ∧ ∀ b, F b → w.heap.size ≤ b := by
  go_enter Try.func45, Try.ntmps45
  go_wp2_with fail
  refine (newI_any w most h1 h2).mono ?_
  rintro e w1 ⟨rfl, r1, t1⟩
  have hs := t1.size
  have HE : ∀ t, Hid (Rcv (w1.alloc (.cells #[.pointer (some ⟨w.heap.size, 0, none⟩), .int .u64 0] t)) 3 (fun b => b = w1.heap.size ∨ Foot w.heap.size (.slice none 0 0) b) w1.heap.size most 0 []) := fun t => rcv_new r1 t
  clear r1
  go_wp2
  go_ret2
  exact ⟨_, _, rfl, (HE _).out, t1.alloc _, by rintro b (rfl | rfl | hf); exact hs; exact Nat.le_refl _; cases hf⟩
section
variable {w : World} {F : Nat → Prop} {q most next : Nat} {xs : List Value}
theorem vnextI_any (h : Rcv w 3 F q most next xs) : Calls Try.prog 48 #[.pointer (some ⟨q, 0, none⟩)] w fun e w' => e = .returned (.int .u64 (next : Nat)) ∧ w = w' := by
  obtain ⟨p, sv, first, h, hF⟩ := h
  have hc1 := h.c1
  clear h hF
  go_enter Try.func48, Try.ntmps48
  go_wp2
  go_ret
  exact ⟨rfl, rfl⟩
theorem vtakeI_none (h : Rcv w 3 F q most next []) : Calls Try.prog 46 #[.pointer (some ⟨q, 0, none⟩)] w fun e w' => e = .returned (.tuple #[.int .i64 0, .int .i64 6]) ∧ w = w' := by
  obtain ⟨p, sv, first, h, hF⟩ := h
  have hc0 := h.c0
  have hp := takeI_none h.ring
  clear h hF
  go_enter Try.func46, Try.ntmps46
  go_wp2_with fail
  refine hp.mono ?_
  rintro e w1 ⟨rfl, rfl⟩
  go_wp2
  go_ret2
  exact ⟨rfl, rfl⟩
theorem vtakeI_any {x : Value} (h : Rcv w 3 F q most next (x :: xs)) : Calls Try.prog 46 #[.pointer (some ⟨q, 0, none⟩)] w fun e w' => e = .returned (.tuple #[x, .int .i64 0]) ∧ ∃ F', Rcv w' 3 F' q most next xs ∧ Goes2 F w F' w' := by
  obtain ⟨p, sv, first, h, hF⟩ := h
  have hc0 := h.c0
  have hp := takeI_any h.ring
  have H : Hid (RcvAt w 3 q p sv most first next (x :: xs)) := h
  have HF : Hid (∀ b, F b ↔ b = q ∨ Foot p sv b) := hF
  clear h hF
  go_enter Try.func46, Try.ntmps46
  go_wp2_with fail
  refine hp.mono ?_
  rintro e w1 ⟨rfl, sv1, f1, r1, g1⟩
  have hs := H.out.goes r1 g1
  have hg := goes_foot g1 HF.out
  clear r1 g1
  go_wp2
  go_ret2
  exact ⟨rfl, _, ⟨_, _, _, hs, fun b => Iff.rfl⟩, hg⟩
theorem vofferI_err (h : Rcv w 3 F q most next xs) (base : Nat) (hb : next < base) (v : Value) : Calls Try.prog 35 #[.pointer (some ⟨q, 0, none⟩), .int .u64 (base : Nat), v] w fun e w' => e = .returned (.tuple #[.int .i64 0, .int .i64 1]) ∧ w = w' := by
  obtain ⟨p, sv, first, h, hF⟩ := h
  have hc1 := h.c1
  have hbI : (next : Int) < base := by omega
  clear h hF
  go_enter Try.func35, Try.ntmps35
  go_wp2
  go_ret2
  exact ⟨rfl, rfl⟩
theorem slice_lowI (w : World) (b off n cap d N C : Nat) (hd : d < n) (hc : n ≤ cap) (hN : N = n - d) (hC : C = cap - d) : (Instr.slice 33 (.slice (some ⟨b, off, none⟩) n cap) (some (.int .u64 (d : Nat))) none none).run Try.prog w = .ok (.slice (some ⟨b, off + d, none⟩) N C) w := by
  rw [run_slice_l w 33 (some ⟨b, off, none⟩) n cap und33e .u64 (d : Nat) (by omega) (by omega), size33]
  simp only [Result.andThen_ok, sliced, Int.toNat_natCast]
  rw [if_neg (by omega), hN, hC]
  simp [add_flat]

set_option maxRecDepth 10000 in
set_option maxHeartbeats 1000000 in
theorem vofferI_any (h : Rcv w 3 F q most next xs) (base : Nat) (hb : base ≤ next) (hnx : next < 1000000000000000000) (ao : Option Addr) (n cap : Nat) (ys : List Value) (hy : Tx w 3 (.slice ao n cap) ys) (hsep : 0 < n → ∀ b, (Value.slice ao n cap).ownBlock = some b → ¬ F b) (k : Nat) (hk : k = min (n - (next - base)) (most - xs.length)) :
    Calls Try.prog 35 #[.pointer (some ⟨q, 0, none⟩), .int .u64 (base : Nat), .slice ao n cap] w fun e w' => e = .returned (.tuple #[.int .i64 (k : Nat), .int .i64 0]) ∧ ∃ F', Rcv w' 3 F' q most (next + k) (xs ++ (ys.drop (next - base)).take k) ∧ Goes2 F w F' w' := by
  obtain ⟨hny, hncap, hcap⟩ := hy.len
  obtain ⟨d, HD⟩ : ∃ d, Hid (d = next - base) := ⟨_, rfl⟩
  have hwr := vwrapI (n := next) (ack := base) (d := d) (by have := HD.out; omega) (by omega)
  rw [← HD.out] at hk ⊢
  have hdn : d ≤ next := by have := HD.out; omega
  have hk1 : (most - xs.length < n - d ∧ k = most - xs.length) ∨ (¬ most - xs.length < n - d ∧ k = n - d) := by
    rw [hk, Nat.min_def]; split <;> omega
  have hbI : ¬ (next : Int) < base := by omega
  have hwn : IntKind.u64.wrap (n : Int) = (n : Int) := by rw [IntKind.wrap_u64]; omega
  by_cases hdn2 : n ≤ d
  · obtain rfl : k = 0 := by clear hk; omega
    clear hk1
    obtain ⟨p, sv, first, h, hF⟩ := h
    have hc1 := h.c1
    have H : Hid (RcvAt w 3 q p sv most first next xs) := h
    have HF : Hid (∀ b, F b ↔ b = q ∨ Foot p sv b) := hF
    have hdI : (n : Int) ≤ d := by omega
    clear h hF hy hsep hny hcap hncap hnx hb hdn hk
    go_enter Try.func35, Try.ntmps35
    go_wp2
    go_ret2
    exact ⟨rfl, F, ⟨p, sv, first, by simpa using H.out, HF.out⟩, Goes2.refl _ _⟩
  · obtain ⟨p, sv, first, h, hF⟩ := h
    obtain ⟨ao', cap', hv, -, -, htx, hcell0⟩ := hy
    obtain ⟨rfl, -, rfl⟩ : ao = ao' ∧ n = ys.length ∧ cap = cap' := by simpa using hv
    obtain ⟨b, off, rfl, hblt, hcell⟩ := hcell0 (by omega)
    have hc1 := h.c1
    have hc0 := h.c0
    have hroom := roomI_any h.ring
    have hle := h.ring.le
    have h256 := h.ring.most256
    have hFb := hsep (by omega) b rfl
    have H : Hid (∀ m, RcvAt (w.drewN m) 3 q p sv most first next xs) := fun m => h.drewN m
    have HF : Hid (∀ b, F b ↔ b = q ∨ Foot p sv b) := hF
    have HY : Hid (n = ys.length) := hny
    have HC : Hid (∀ j x, ys[j]? = some x → w.cell? ⟨b, off + j, none⟩ = some x) := hcell
    have HT : Hid (∀ x ∈ ys, Kd 3 x) := htx
    have HB : Hid (b < w.heap.size ∧ ¬ F b) := ⟨hblt, hFb⟩
    clear hk
    obtain ⟨N, HN⟩ : ∃ N, Hid (N = n - d) := ⟨_, rfl⟩
    obtain ⟨C, HCC⟩ : ∃ C, Hid (C = cap - d) := ⟨_, rfl⟩
    obtain ⟨R, HR⟩ : ∃ R, Hid (R = most - xs.length) := ⟨_, rfl⟩
    have eR : (most : Int) - xs.length = (R : Int) := by have := HR.out; omega
    rw [eR] at hroom
    have hsl1 := fun W => slice_lowI W b off n cap d N C (by omega) hncap HN.out HCC.out
    have hkC : k ≤ C := by have := HCC.out; omega
    have hsl2 := fun W => slice_toI W (some ⟨b, off + d, none⟩) N C k hkC (by rintro a ha; cases ha; rfl)
    rw [← HN.out, ← HR.out] at hk1
    have hkR : k ≤ R := by omega
    have hkl : k ≤ (ys.drop d).length := by rw [List.length_drop]; have := HN.out; have := HY.out; omega
    have HKL : Hid (k ≤ (ys.drop d).length) := hkl
    have HKM : Hid (xs.length + k ≤ most) := by have := HR.out; unfold Hid; omega
    have hk256 : k ≤ 256 := by omega
    have hdI : ¬ (n : Int) ≤ d := by omega
    have HW : Hid (IntKind.u64.wrap ((next : Int) + (k : Int)) = ((next + k : Nat) : Int)) := by unfold Hid; rw [IntKind.wrap_u64]; omega
    have eW : ((next + k : Nat) : Int) = (next : Int) + k := by omega
    have hnd : decide ((n : Int) ≤ d) = false := by simp; omega
    clear h hF hv hny hcell hcell0 htx hsep eR hkl hncap hcap hnx hb hdn2 hdn hblt hFb hle h256
    have fin : ∀ (wr : World) (sv : Value) (first j : Nat), RcvAt wr 3 q p sv most first next (xs ++ (ys.drop d).take j) → Goes2 F w (fun b => b = q ∨ Foot p sv b) wr → j = k → Hid (∃ F', Rcv (wr.setCell ⟨q, 1, none⟩ (.int .u64 ((next : Int) + k))) 3 F' q most (next + k) (xs ++ (ys.drop d).take k) ∧ Goes2 F w F' (wr.setCell ⟨q, 1, none⟩ (.int .u64 ((next : Int) + k)))) := by
      rintro wr sv first j h1 h2 rfl
      have h3 := h1.come (next + j)
      rw [eW] at h3
      exact ⟨_, ⟨_, _, _, h3, fun b => Iff.rfl⟩, h2.trans ⟨(Turned.refl _ _).setCell (.inl (.inl rfl)) _, fun b hb => .inl hb⟩⟩
    rw [eW] at HW
    clear eW
    rcases hk1 with ⟨hRN, hkR2⟩ | ⟨hRN, hkN2⟩
    · subst hkR2
      have hRNI : (k : Int) < N := by omega
      go_enter Try.func35, Try.ntmps35
      go_wp2_with fail
      refine hroom.mono ?_
      rintro e w1 ⟨rfl, m1, rfl⟩
      have hr0 := H.out m1
      have hG0 : Goes2 F w F (w.drewN m1) := Goes2.drewN F w m1
      clear H hc0 hc1 hroom
      go_wp2_with fail
      try simp only [hwr, hnd]
      clear hwr hnd hsl1 hsl2 hdI hRNI hbI
      generalize w.drewN m1 = w1 at *
      go_loopw [48] (fun iv wr => ∃ (j first : Nat) (sv : Value), j ≤ k ∧ iv = .int .i64 j ∧ RcvAt wr 3 q p sv most first next (xs ++ (ys.drop d).take j) ∧ Goes2 F w (fun b => b = q ∨ Foot p sv b) wr) (fun iv _ => k - (intOf iv).toNat)
      case atStart => exact ⟨0, first, sv, by omega, rfl, by simpa using hr0, ⟨hG0.turned, fun b hb => hG0.foot b ((HF.out b).2 hb)⟩⟩
      case round =>
        clear hr0 hG0
        obtain ⟨j, first, sv, hj, rfl, hr, hg⟩ := hrel
        by_cases hlt : j < k
        · have hltI : (j : Int) < k := by omega
          obtain ⟨x, hx⟩ : ∃ x, (ys.drop d)[j]? = some x := ⟨_, List.getElem?_eq_getElem (by have := HKL.out; omega)⟩
          have hx2 : ys[d + j]? = some x := by rw [← List.getElem?_drop]; exact hx
          have hci : wr.cell? ⟨b, off + d + j, none⟩ = some x := by
            rw [cell_block (hg.turned.block b HB.out.1 HB.out.2), Nat.add_assoc]
            exact HC.out _ x hx2
          obtain ⟨s, rfl⟩ := kd_i (HT.out x (List.mem_of_getElem? hx2))
          have HX : Hid ((ys.drop d)[j]? = some (.int .i64 s)) := hx
          have hc0 := hr.c0
          have hp := putI_any hr.ring (by rw [List.length_append, take_len (by have := HKL.out; omega)]; have := HKM.out; omega) (.int .i64 s) (one_int .i64 s)
          have HR2 : Hid (RcvAt wr 3 q p sv most first next (xs ++ (ys.drop d).take j)) := hr
          clear hr hx hx2
          go_wp2_with fail
          refine hp.mono ?_
          rintro e w3 ⟨rfl, sv3, f3, r3, g3⟩
          rw [← app_snoc HX.out] at r3
          have h4 := HR2.out.goes r3 g3
          have hg4 := hg.trans (goes_foot g3 (fun b => Iff.rfl))
          clear HR2 r3 g3 hg hc0 hp hci
          go_wp2
          go_roundw
          case rel => first | exact ⟨j + 1, f3, sv3, by omega, by go_num, h4, hg4⟩ | ((repeat apply Exists.intro); exact ⟨⟨j + 1, f3, sv3, by omega, by go_num, h4, hg4⟩, rfl⟩)
          case measure => simp [intOf]; omega
        · have hltI : ¬ (j : Int) < k := by omega
          have hc1 := hr.c1
          have hfr := hr.fr 1
          have hE := fin wr sv first j hr hg (by omega)
          have hwk := HW.out
          clear hr hg fin
          go_wp2
          go_ret2
          exact ⟨rfl, hE.out⟩
    · subst hkN2
      have hRNI : ¬ (R : Int) < k := by omega
      go_enter Try.func35, Try.ntmps35
      go_wp2_with fail
      refine hroom.mono ?_
      rintro e w1 ⟨rfl, m1, rfl⟩
      have hr0 := H.out m1
      have hG0 : Goes2 F w F (w.drewN m1) := Goes2.drewN F w m1
      clear H hc0 hc1 hroom
      go_wp2_with fail
      try simp only [hwr, hnd]
      clear hwr hnd hsl1 hsl2 hdI hRNI hbI
      generalize w.drewN m1 = w1 at *
      go_loopw [48] (fun iv wr => ∃ (j first : Nat) (sv : Value), j ≤ k ∧ iv = .int .i64 j ∧ RcvAt wr 3 q p sv most first next (xs ++ (ys.drop d).take j) ∧ Goes2 F w (fun b => b = q ∨ Foot p sv b) wr) (fun iv _ => k - (intOf iv).toNat)
      case atStart => exact ⟨0, first, sv, by omega, rfl, by simpa using hr0, ⟨hG0.turned, fun b hb => hG0.foot b ((HF.out b).2 hb)⟩⟩
      case round =>
        clear hr0 hG0
        obtain ⟨j, first, sv, hj, rfl, hr, hg⟩ := hrel
        by_cases hlt : j < k
        · have hltI : (j : Int) < k := by omega
          obtain ⟨x, hx⟩ : ∃ x, (ys.drop d)[j]? = some x := ⟨_, List.getElem?_eq_getElem (by have := HKL.out; omega)⟩
          have hx2 : ys[d + j]? = some x := by rw [← List.getElem?_drop]; exact hx
          have hci : wr.cell? ⟨b, off + d + j, none⟩ = some x := by
            rw [cell_block (hg.turned.block b HB.out.1 HB.out.2), Nat.add_assoc]
            exact HC.out _ x hx2
          obtain ⟨s, rfl⟩ := kd_i (HT.out x (List.mem_of_getElem? hx2))
          have HX : Hid ((ys.drop d)[j]? = some (.int .i64 s)) := hx
          have hc0 := hr.c0
          have hp := putI_any hr.ring (by rw [List.length_append, take_len (by have := HKL.out; omega)]; have := HKM.out; omega) (.int .i64 s) (one_int .i64 s)
          have HR2 : Hid (RcvAt wr 3 q p sv most first next (xs ++ (ys.drop d).take j)) := hr
          clear hr hx hx2
          go_wp2_with fail
          refine hp.mono ?_
          rintro e w3 ⟨rfl, sv3, f3, r3, g3⟩
          rw [← app_snoc HX.out] at r3
          have h4 := HR2.out.goes r3 g3
          have hg4 := hg.trans (goes_foot g3 (fun b => Iff.rfl))
          clear HR2 r3 g3 hg hc0 hp hci
          go_wp2
          go_roundw
          case rel => first | exact ⟨j + 1, f3, sv3, by omega, by go_num, h4, hg4⟩ | ((repeat apply Exists.intro); exact ⟨⟨j + 1, f3, sv3, by omega, by go_num, h4, hg4⟩, rfl⟩)
          case measure => simp [intOf]; omega
        · have hltI : ¬ (j : Int) < k := by omega
          have hc1 := hr.c1
          have hfr := hr.fr 1
          have hE := fin wr sv first j hr hg (by omega)
          have hwk := HW.out
          clear hr hg fin
          go_wp2
          go_ret2
          exact ⟨rfl, hE.out⟩
end
end Go.Proofs.Ythobbnmdpkginaa
