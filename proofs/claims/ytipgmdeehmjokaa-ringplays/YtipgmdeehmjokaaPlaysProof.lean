/-
  Proved: for every number most and every list of calls, RingPlays(most, script) returns true: a ring, whatever is put and taken and asked, is a list of at most so many; the document's example holds. No condition.
-/
import Derived.Test.YtipgmdeehmjokaaRows
import Derived.Test.YtipgmdeehmjokaaRPlay
import Derived.Deep.CutRange
import Derived.Deep.CutBlock
namespace Go.Proofs.Ytipgmdeehmjokaa.ringPlays
open Go.ChangeShapes Go.WideShapes Go.ChangeAt Go.RowKit
open Go.ChangeMaps (open_string shut_string)
set_option linter.unusedVariables false

theorem own_in {w0 w1 w2 : World} {p : Nat} {sv : Value} (t : Turned (fun _ => False) w0 w1) (h : Own w1 w2 p sv) : Own w0 w2 p sv :=
  ⟨t.trans h.turned (fun _ hf => hf.elim), fun b hb => Nat.le_trans t.size (h.foot b hb)⟩

theorem box3 (w : World) (a b c : Value) (t : TypeId) : (w.alloc (.cells #[a, b, c] t)).cell? ⟨w.heap.size, 0, none⟩ = some a ∧ (w.alloc (.cells #[a, b, c] t)).cell? ⟨w.heap.size, 1, none⟩ = some b ∧ (w.alloc (.cells #[a, b, c] t)).cell? ⟨w.heap.size, 2, none⟩ = some c := by
  have hb : (w.alloc (.cells #[a, b, c] t)).heap[w.heap.size]? = some (.cells #[a, b, c] t (0, 0)) := Deep.blk_alloc_new _ _
  refine ⟨?_, ?_, ?_⟩ <;> (unfold World.cell?; rw [hb]; rfl)

set_option maxRecDepth 20000 in
set_option maxHeartbeats 8000000 in
theorem walk (w : World) (a0 : Int) (h0 : In a0) (a1 : Option Addr) (len cap : Nat) (xs : Nat → Ac) (hx : Acts w a1 len xs) :
    Calls Try.prog 3 #[.int .i64 a0, .slice a1 len cap] w fun e w' => e = .returned (.bool true) ∧ Below w.heap.size w w' := by
  have hmax := hx.max
  have HX : Hid (Acts w a1 len xs) := hx
  clear hx
  by_cases hmost : a0 < 1 ∨ 256 < a0
  · have hor : (¬ a0 < 1 ∧ 256 < a0) ∨ a0 < 1 := by omega
    rcases hor with ⟨g1, g2⟩ | g2
    all_goals
      go_enter Try.func3, Try.ntmps3
      go_wp2_with fail
      refine (awake_any _).mono ?_
      rintro e w1 ⟨rfl, t1⟩
      go_wp2_with fail
      refine (newS_err _ _ hmost).mono ?_
      rintro e w2 ⟨rfl, rfl⟩
      go_wp2
      go_ret
      exact ⟨rfl, t1.below (Nat.le_refl _) (fun _ hf => hf.elim)⟩
  · obtain ⟨M, rfl⟩ : ∃ M : Nat, a0 = M := ⟨a0.toNat, by omega⟩
    have hm1 : 1 ≤ M := by omega
    have hm2 : M ≤ 256 := by omega
    have g1 : ¬ ((M : Int) < 1) := by omega
    have g2 : ¬ ((256 : Int) < M) := by omega
    clear hmost h0
    go_enter Try.func3, Try.ntmps3
    go_wp2_with fail
    refine (awake_any _).mono ?_
    rintro e w1 ⟨rfl, t1⟩
    go_wp2_with fail
    refine (newS_any _ M hm1 hm2).mono ?_
    rintro e w2 ⟨rfl, r2, t2⟩
    have st : St w w2 w1.heap.size (.slice none 0 0) M 0 [] (.slice none 0 0) [] := ⟨r2, own_in t1 (Own.of_new t2), lst_nil _, fun b hb => by cases hb⟩
    go_wp2_with fail
    generalize w1.heap.size = p at *
    have gd1 : decide ((M : Int) < 1) = false := by simp; omega
    have gd2 : decide ((256 : Int) < M) = false := by simp; omega
    try simp only [gd1, gd2]
    clear t1 r2 t2 g1 g2 gd1 gd2
    go_loopw [7, 8] (fun lv iv wr => ∃ (i first : Nat) (sv : Value) (ys : List Value), i ≤ len ∧ i ≤ 200 ∧ ys.length ≤ i ∧ iv = .int .i64 i ∧ St w wr p sv M first ys lv ys) (fun _ iv _ => 200 - (intOf iv).toNat)
    case atStart => exact ⟨0, 0, _, [], by omega, by omega, by simp, rfl, st⟩
    case round =>
      clear st
      obtain ⟨i, first, sv, ys, hi, hi200, hyi, rfl, st⟩ := hrel
      by_cases hlt : i < len ∧ i < 200
      · obtain ⟨hlt1, hlt2⟩ := hlt
        have hltI : (i : Int) < len := by omega
        have hltI2 : (i : Int) < 200 := by omega
        obtain ⟨ad, rfl, _, hc⟩ := (HX.out.turned st.own.turned).cell (by omega)
        obtain ⟨c0, c1, c2⟩ := hc i hlt1
        obtain ⟨hk256, hnin⟩ := HX.out.lt i hlt1
        clear hc
        generalize xs i = ac at c0 c1 c2 hk256 hnin
        obtain ⟨kd, s, N⟩ := ac
        simp only at c0 c1 c2 hk256 hnin
        obtain ⟨ao, lcap, hlv⟩ := st.lst.shape
        subst hlv
        have hstr : ∀ x ∈ ys, ∃ s, x = .string s := st.lst.1
        have hA := box3 wr (.int .u8 (kd : Nat)) (.string s) (.int .i64 N) 30
        have st1 := st.still ((Turned.refl _ wr).alloc (.cells #[.int .u8 (kd : Nat), .string s, .int .i64 N] 30))
        have hAlt : ∀ b, Foot p sv b → b < wr.heap.size := st.ring.foot_lt
        clear st
        have hkind : kd % 7 = 0 ∨ kd % 7 = 1 ∨ kd % 7 = 2 ∨ kd % 7 = 3 ∨ kd % 7 = 4 ∨ kd % 7 = 5 ∨ kd % 7 = 6 := by omega
        obtain ⟨L, HL⟩ : ∃ L, Hid (ys.length = L) := ⟨_, rfl⟩
        have hL := HL.out
        rw [hL] at hyi
        simp only [hL]
        rw [hL] at st1
        have hLM : L ≤ M := by have := st1.ring.le; rw [hL] at this; exact this
        obtain ⟨hA0, hA1, hA2⟩ := hA
        go_upto_block 2 with fail
        go_cut [7, 10, 11, 12, 13, 14, 15, 16] from 38 to 192 (fun lv _ _ _ _ _ _ _ wx => ∃ (first : Nat) (sv : Value) (zs : List Value), zs.length ≤ i + 1 ∧ St w wx p sv M first zs lv zs)
        case rest =>
          clear st1 hA0 hA1 hA2 hAlt hstr
          obtain ⟨first', sv', zs, hzi, st9⟩ := hcut
          obtain ⟨ao9, cap9, hv9⟩ := st9.lst.shape
          subst hv9
          have hln := lenS_any st9.ring
          have hrm := roomS_any st9.ring
          go_wp2_with fail
          refine hln.mono ?_
          rintro e w8 ⟨rfl, rfl⟩
          go_wp2_with fail
          refine hrm.mono ?_
          rintro e w9 ⟨rfl, q9, rfl⟩
          have st10 := st9.still ((Turned.refl _ _).drewN q9)
          clear st9 hln hrm
          go_wp2
          go_roundw
          case rel => first | exact ⟨i + 1, _, _, _, by omega, by omega, hzi, by go_num, st10⟩ | ((repeat apply Exists.intro); exact ⟨⟨i + 1, _, _, _, by omega, by omega, hzi, by go_num, st10⟩, rfl⟩)
          case measure => simp [intOf]; omega
        rcases hkind with hk | hk | hk | hk | hk | hk | hk
        · as_aux_lemma =>
          have hkI : (kd : Int) % 7 = 0 := by omega
          by_cases hroom : L < M
          · have hne : ((L : Int) == (M : Int)) = false := by simp; omega
            go_wp2_with fail
            refine (putS_any st1.ring (by omega) _ (one_string _)).mono ?_
            rintro e w3 ⟨rfl, sv3, f3, r3, g3⟩
            have st3 := st1.goes g3 r3
            have hA3 : w3.cell? ⟨wr.heap.size, 1, none⟩ = some (.string s) := by
              rw [cell_block (g3.turned.block _ (by simp) (fun hf => by have := hAlt _ hf; omega))]; exact hA1
            have st4 := fun o => st3.still ((Turned.refl _ w3).alloc o)
            clear st1 st3 r3 g3 hA0 hA1 hA2
            have hnew := cell_one_new w3 (.string s) 9 0 (.string s) rfl
            go_wp2_with (first | (at_builtin; refine wpList_append_lst rfl _ _ rfl (.slice ao L lcap) ys rfl ?q1 ?q2 ⟨w3.heap.size, 0, none⟩ 1 s rfl ?q3 ?_))
            case q1 => have := (st4 (.cells #[.string s] 9)).lst; exact this
            case q2 => omega
            case q3 => exact hnew
            intro v5 w5 hl5 hg5 hb5
            have st5 := (st4 (.cells #[.string s] 9)).appended (lv' := v5) (ls' := ys ++ [.string s]) hg5 hl5 (fun b hb => by simpa using hb5 b hb)
            obtain ⟨ao5, cap5, hv5⟩ := hl5.shape
            have e5 : (ys ++ [Value.string s]).length = L + 1 := by simp [hL]
            rw [e5] at hv5
            subst hv5
            have HLE : (ys ++ [Value.string s]).length ≤ i + 1 := by simp; omega
            clear st4 hl5 hg5 hb5 hnew
            go_wp2_with fail
            go_meet
            exact ⟨_, _, _, HLE, st5⟩
          · have hne : ((L : Int) == (M : Int)) = true := by simp; omega
            go_wp2_with fail
            refine (putS_busy st1.ring (by omega) _).mono ?_
            rintro e w3 ⟨rfl, q3, rfl⟩
            have st3 := st1.still ((Turned.refl _ _).drewN q3)
            have HLE : ys.length ≤ i + 1 := by omega
            clear st1 hA0 hA1 hA2
            generalize (wr.alloc (.cells #[.int .u8 (kd : Nat), .string s, .int .i64 N] 30)).drewN q3 = w3 at *
            go_wp2_with fail
            go_meet
            exact ⟨_, _, _, HLE, st3⟩
        · as_aux_lemma =>
          have hkI : (kd : Int) % 7 = 1 := by omega
          by_cases hroom : L < M
          · have hne : ((L : Int) == (M : Int)) = false := by simp; omega
            go_wp2_with fail
            refine (putS_any st1.ring (by omega) _ (one_string _)).mono ?_
            rintro e w3 ⟨rfl, sv3, f3, r3, g3⟩
            have st3 := st1.goes g3 r3
            have hA3 : w3.cell? ⟨wr.heap.size, 1, none⟩ = some (.string s) := by
              rw [cell_block (g3.turned.block _ (by simp) (fun hf => by have := hAlt _ hf; omega))]; exact hA1
            have st4 := fun o => st3.still ((Turned.refl _ w3).alloc o)
            clear st1 st3 r3 g3 hA0 hA1 hA2
            have hnew := cell_one_new w3 (.string s) 9 0 (.string s) rfl
            go_wp2_with (first | (at_builtin; refine wpList_append_lst rfl _ _ rfl (.slice ao L lcap) ys rfl ?q1 ?q2 ⟨w3.heap.size, 0, none⟩ 1 s rfl ?q3 ?_))
            case q1 => have := (st4 (.cells #[.string s] 9)).lst; exact this
            case q2 => omega
            case q3 => exact hnew
            intro v5 w5 hl5 hg5 hb5
            have st5 := (st4 (.cells #[.string s] 9)).appended (lv' := v5) (ls' := ys ++ [.string s]) hg5 hl5 (fun b hb => by simpa using hb5 b hb)
            obtain ⟨ao5, cap5, hv5⟩ := hl5.shape
            have e5 : (ys ++ [Value.string s]).length = L + 1 := by simp [hL]
            rw [e5] at hv5
            subst hv5
            have HLE : (ys ++ [Value.string s]).length ≤ i + 1 := by simp; omega
            clear st4 hl5 hg5 hb5 hnew
            go_wp2_with fail
            go_meet
            exact ⟨_, _, _, HLE, st5⟩
          · have hne : ((L : Int) == (M : Int)) = true := by simp; omega
            go_wp2_with fail
            refine (putS_busy st1.ring (by omega) _).mono ?_
            rintro e w3 ⟨rfl, q3, rfl⟩
            have st3 := st1.still ((Turned.refl _ _).drewN q3)
            have HLE : ys.length ≤ i + 1 := by omega
            clear st1 hA0 hA1 hA2
            generalize (wr.alloc (.cells #[.int .u8 (kd : Nat), .string s, .int .i64 N] 30)).drewN q3 = w3 at *
            go_wp2_with fail
            go_meet
            exact ⟨_, _, _, HLE, st3⟩
        · as_aux_lemma =>
          have hkI : (kd : Int) % 7 = 2 := by omega
          by_cases hroom : L < M
          · have hne : ((L : Int) == (M : Int)) = false := by simp; omega
            go_wp2_with fail
            refine (putS_any st1.ring (by omega) _ (one_string _)).mono ?_
            rintro e w3 ⟨rfl, sv3, f3, r3, g3⟩
            have st3 := st1.goes g3 r3
            have hA3 : w3.cell? ⟨wr.heap.size, 1, none⟩ = some (.string s) := by
              rw [cell_block (g3.turned.block _ (by simp) (fun hf => by have := hAlt _ hf; omega))]; exact hA1
            have st4 := fun o => st3.still ((Turned.refl _ w3).alloc o)
            clear st1 st3 r3 g3 hA0 hA1 hA2
            have hnew := cell_one_new w3 (.string s) 9 0 (.string s) rfl
            go_wp2_with (first | (at_builtin; refine wpList_append_lst rfl _ _ rfl (.slice ao L lcap) ys rfl ?q1 ?q2 ⟨w3.heap.size, 0, none⟩ 1 s rfl ?q3 ?_))
            case q1 => have := (st4 (.cells #[.string s] 9)).lst; exact this
            case q2 => omega
            case q3 => exact hnew
            intro v5 w5 hl5 hg5 hb5
            have st5 := (st4 (.cells #[.string s] 9)).appended (lv' := v5) (ls' := ys ++ [.string s]) hg5 hl5 (fun b hb => by simpa using hb5 b hb)
            obtain ⟨ao5, cap5, hv5⟩ := hl5.shape
            have e5 : (ys ++ [Value.string s]).length = L + 1 := by simp [hL]
            rw [e5] at hv5
            subst hv5
            have HLE : (ys ++ [Value.string s]).length ≤ i + 1 := by simp; omega
            clear st4 hl5 hg5 hb5 hnew
            go_wp2_with fail
            go_meet
            exact ⟨_, _, _, HLE, st5⟩
          · have hne : ((L : Int) == (M : Int)) = true := by simp; omega
            go_wp2_with fail
            refine (putS_busy st1.ring (by omega) _).mono ?_
            rintro e w3 ⟨rfl, q3, rfl⟩
            have st3 := st1.still ((Turned.refl _ _).drewN q3)
            have HLE : ys.length ≤ i + 1 := by omega
            clear st1 hA0 hA1 hA2
            generalize (wr.alloc (.cells #[.int .u8 (kd : Nat), .string s, .int .i64 N] 30)).drewN q3 = w3 at *
            go_wp2_with fail
            go_meet
            exact ⟨_, _, _, HLE, st3⟩
        · as_aux_lemma =>
          have hkI : (kd : Int) % 7 = 3 := by omega
          cases ys with
          | nil =>
            obtain rfl : L = 0 := by simpa using hL.symm
            go_wp2_with fail
            refine (takeS_none st1.ring).mono ?_
            rintro e w3 ⟨rfl, rfl⟩
            go_wp2
            go_roundw
            case rel => first | exact ⟨i + 1, first, sv, [], by omega, by omega, by simp, by go_num, st1⟩ | ((repeat apply Exists.intro); exact ⟨⟨i + 1, first, sv, [], by omega, by omega, by simp, by go_num, st1⟩, rfl⟩)
            case measure => simp [intOf]; omega
          | cons y ys =>
            simp only [List.length_cons] at hL
            go_wp2_with fail
            refine (takeS_any st1.ring).mono ?_
            rintro e w3 ⟨rfl, sv3, f3, r3, g3⟩
            have st3 := st1.goes g3 r3
            obtain ⟨b, off, lc, t, hv, hcap, rfl, hcell, hl4⟩ := st3.lst.tail
            simp only [Value.slice.injEq] at hv
            obtain ⟨rfl, hLL, rfl⟩ := hv
            clear hLL
            have st4 := st3.cut hl4 (fun b' hb' => by split at hb' <;> exact hb')
            have hsl := fun W => slice_from W b off L lcap (by omega) (by omega)
            have hne : ((L : Int) == 0) = false := by simp; omega
            have eL : L - 1 = ys.length := by omega
            simp only [eL] at hsl
            have hge : (0 : Int) < L := by omega
            generalize (if lcap = 1 then (⟨b, off, none⟩ : Addr) else ⟨b, off + 1, none⟩) = ad4 at *
            have HLE : ys.length ≤ i + 1 := by omega
            clear st1 st3 r3 g3 hl4 hA0 hA1 hA2 hL eL HL
            go_wp2_with fail
            go_meet
            exact ⟨_, _, _, HLE, st4⟩
        · as_aux_lemma =>
          have hkI : (kd : Int) % 7 = 4 := by omega
          cases ys with
          | nil =>
            obtain rfl : L = 0 := by simpa using hL.symm
            go_wp2_with fail
            refine (takeS_none st1.ring).mono ?_
            rintro e w3 ⟨rfl, rfl⟩
            go_wp2
            go_roundw
            case rel => first | exact ⟨i + 1, first, sv, [], by omega, by omega, by simp, by go_num, st1⟩ | ((repeat apply Exists.intro); exact ⟨⟨i + 1, first, sv, [], by omega, by omega, by simp, by go_num, st1⟩, rfl⟩)
            case measure => simp [intOf]; omega
          | cons y ys =>
            simp only [List.length_cons] at hL
            go_wp2_with fail
            refine (takeS_any st1.ring).mono ?_
            rintro e w3 ⟨rfl, sv3, f3, r3, g3⟩
            have st3 := st1.goes g3 r3
            obtain ⟨b, off, lc, t, hv, hcap, rfl, hcell, hl4⟩ := st3.lst.tail
            simp only [Value.slice.injEq] at hv
            obtain ⟨rfl, hLL, rfl⟩ := hv
            clear hLL
            have st4 := st3.cut hl4 (fun b' hb' => by split at hb' <;> exact hb')
            have hsl := fun W => slice_from W b off L lcap (by omega) (by omega)
            have hne : ((L : Int) == 0) = false := by simp; omega
            have eL : L - 1 = ys.length := by omega
            simp only [eL] at hsl
            have hge : (0 : Int) < L := by omega
            generalize (if lcap = 1 then (⟨b, off, none⟩ : Addr) else ⟨b, off + 1, none⟩) = ad4 at *
            have HLE : ys.length ≤ i + 1 := by omega
            clear st1 st3 r3 g3 hl4 hA0 hA1 hA2 hL eL HL
            go_wp2_with fail
            go_meet
            exact ⟨_, _, _, HLE, st4⟩
        · as_aux_lemma =>
          have hkI : (kd : Int) % 7 = 5 := by omega
          by_cases hN0 : N < 0
          · have hN1 : ¬ (0 ≤ N) := by omega
            go_wp2_with fail
            refine (atS_err st1.ring N (by omega)).mono ?_
            rintro e w3 ⟨rfl, rfl⟩
            have HLE : ys.length ≤ i + 1 := by omega
            go_wp2_with fail
            go_meet
            exact ⟨_, _, _, HLE, st1⟩
          · have hN1 : 0 ≤ N := by omega
            by_cases hNL : N < L
            · obtain ⟨n, rfl⟩ : ∃ n : Nat, N = n := ⟨N.toNat, by omega⟩
              obtain ⟨y, hy⟩ : ∃ y, ys[n]? = some y := ⟨_, List.getElem?_eq_getElem (by omega)⟩
              obtain ⟨b, off, lc, t, hv, rfl, hcell⟩ := st1.lst.at hy
              simp only [Value.slice.injEq] at hv
              obtain ⟨rfl, hLL, rfl⟩ := hv
              clear hLL
              have hat := atS_any st1.ring n _ hy
              go_wp2_with fail
              refine hat.mono ?_
              rintro e w3 ⟨rfl, q3, rfl⟩
              have st3 := st1.still ((Turned.refl _ _).drewN q3)
              have HLE : ys.length ≤ i + 1 := by omega
              have hA3 : ((wr.alloc (.cells #[.int .u8 (kd : Nat), .string s, .int .i64 (n : Int)] 30)).drewN q3).cell? ⟨wr.heap.size, 2, none⟩ = some (.int .i64 (n : Int)) := hA2
              have hcell3 : ((wr.alloc (.cells #[.int .u8 (kd : Nat), .string s, .int .i64 (n : Int)] 30)).drewN q3).cell? ⟨b, off + n, none⟩ = some (.string t) := hcell
              clear st1 hat hA0 hA1 hA2 hcell hy
              generalize (wr.alloc (.cells #[.int .u8 (kd : Nat), .string s, .int .i64 (n : Int)] 30)).drewN q3 = w3 at *
              go_wp2_with fail
              go_meet
              exact ⟨_, _, _, HLE, st3⟩
            · go_wp2_with fail
              refine (atS_err st1.ring N (by omega)).mono ?_
              rintro e w3 ⟨rfl, rfl⟩
              have HLE : ys.length ≤ i + 1 := by omega
              go_wp2_with fail
              go_meet
              exact ⟨_, _, _, HLE, st1⟩
        · as_aux_lemma =>
          have hkI : (kd : Int) % 7 = 6 := by omega
          obtain ⟨n, hn⟩ : ∃ n : Nat, n = min N.toNat ys.length := ⟨_, rfl⟩
          have hnL : n ≤ L := by omega
          have hf := firsts_int st1.ring hstr N n hn
          obtain ⟨ao2, cap2, hv2, hcap2, hl2⟩ := st1.lst.take n (by omega)
          rw [hL] at hv2
          simp only [Value.slice.injEq] at hv2
          obtain ⟨rfl, hLL, rfl⟩ := hv2
          clear hLL
          have hsl := fun W => slice_to W ao L lcap n (by omega) (fun a ha => by
            rcases hl2.2 with ⟨ao', cap', hh, h1 | ⟨b, off, _, _, h1, _⟩⟩
            · simp only [Value.slice.injEq] at hh
              rw [hh.1, h1.1] at ha; cases ha
            · simp only [Value.slice.injEq] at hh
              rw [hh.1, h1] at ha; cases ha; rfl)
          have hl2' : Hid (Lst (wr.alloc (.cells #[.int .u8 (kd : Nat), .string s, .int .i64 N] 30)) (.slice ao n lcap) (ys.take n)) := hl2
          have st2 := st1.still ((Turned.refl _ _).drew)
          have hf2 := firsts_int st2.ring hstr N n hn
          have hbl : ∀ b, (Value.slice ao n lcap).ownBlock = some b → ¬ (fun _ : Nat => False) b := fun _ _ hf => hf
          have hnI : (n : Int) ≤ L := by omega
          have htl : (ys.take n).length ≤ 1099511627776 := by rw [List.length_take]; omega
          have HLE : ys.length ≤ i + 1 := by omega
          have hcase : (N < 0 ∧ n = 0) ∨ (0 ≤ N ∧ (L : Int) < N ∧ n = L) ∨ (0 ≤ N ∧ ¬ ((L : Int) < N) ∧ N = n) := by omega
          clear st1 hf hl2 hn
          rcases hcase with ⟨h5, rfl⟩ | ⟨h5, h6, rfl⟩ | ⟨h5, h6, rfl⟩
          · have hsl0 : ∀ W, (Instr.slice 28 (.slice ao L lcap) none (some (.int .i64 0)) none).run Try.prog W = .ok (.slice ao 0 lcap) W := hsl; clear hsl
            have hSA : (wr.alloc (.cells #[.int .u8 (kd : Nat), .string s, .int .i64 N] 30)).drew.cell? ⟨wr.heap.size, 2, none⟩ = some (.int .i64 N) := hA2
            go_wp2_with fail
            refine wp_region_noPanic ?_
            refine wp_region_held_drew (S := fun wx => wx.cell? ⟨wr.heap.size, 2, none⟩ = some (.int .i64 N) ∧ True) (by kernel_rfl) ⟨hSA, trivial⟩ (fun hHeld => ?_)
            refine take_first 0 (v := ?_) rfl (by kernel_rfl) (by kernel_rfl) (by kernel_rfl) (fun _ _ _ h => h) (Or.inl ⟨by rfl, by intro wx hSw; obtain ⟨hSw1, hSw2⟩ := hSw; go_simp; try with_reducible rfl⟩) (by assumption) ?_
            (try simp only [Act.put, List.setIfInBounds_toArray, List.set_cons_zero, List.set_cons_succ])
            refine take_first 1 (v := ?_) rfl (by kernel_rfl) (by kernel_rfl) (by kernel_rfl) (fun _ _ _ h => h) (Or.inl ⟨by rfl, by intro wx hSw; obtain ⟨hSw1, hSw2⟩ := hSw; go_simp; try with_reducible rfl⟩) (by assumption) ?_
            (try simp only [Act.put, List.setIfInBounds_toArray, List.set_cons_zero, List.set_cons_succ])
            refine take_first 2 (v := ?_) rfl (by kernel_rfl) (by kernel_rfl) (by kernel_rfl) (fun _ _ _ h => h) (Or.inl ⟨by rfl, by intro wx hSw; obtain ⟨hSw1, hSw2⟩ := hSw; go_simp; try with_reducible rfl⟩) (by assumption) ?_
            (try simp only [Act.put, List.setIfInBounds_toArray, List.set_cons_zero, List.set_cons_succ])
            refine take_first 4 (v := ?_) rfl (by kernel_rfl) (by kernel_rfl) (by kernel_rfl) (fun _ _ _ h => h) (Or.inl ⟨by rfl, by intro wx hSw; obtain ⟨hSw1, hSw2⟩ := hSw; go_simp; try with_reducible rfl⟩) (by assumption) ?_
            (try simp only [Act.put, List.setIfInBounds_toArray, List.set_cons_zero, List.set_cons_succ])
            refine take_first 5 (v := ?_) rfl (by kernel_rfl) (by kernel_rfl) (by kernel_rfl) (fun _ _ _ h => h) (Or.inl ⟨by rfl, by intro wx hSw; obtain ⟨hSw1, hSw2⟩ := hSw; go_simp; try with_reducible rfl⟩) (by assumption) ?_
            (try simp only [Act.put, List.setIfInBounds_toArray, List.set_cons_zero, List.set_cons_succ])
            refine take_first 6 (v := .slice ao 0 lcap) rfl (by kernel_rfl) (by kernel_rfl) (by kernel_rfl) (fun _ _ _ h => h) (Or.inl ⟨by rfl, by intro wx hSw; obtain ⟨hSw1, hSw2⟩ := hSw; go_simp; try with_reducible rfl⟩) (by assumption) ?_
            (try simp only [Act.put, List.setIfInBounds_toArray, List.set_cons_zero, List.set_cons_succ])
            refine comes_up 3 rfl (by kernel_rfl) (fun K hK => ?_)
            go_simp
            refine hf2.mono ?_
            rintro e w3 ⟨v3, rfl, hs3, t3⟩
            have st3 := st2.still t3
            have hA3 : w3.cell? ⟨wr.heap.size, 2, none⟩ = some (.int .i64 N) := by
              rw [cell_block (t3.block _ (by show _ < (wr.alloc _).heap.size; simp) (fun hf => hf))]; exact hA2
            have hl3 := ((hl2'.out.frame (w' := (wr.alloc (.cells #[.int .u8 (kd : Nat), .string s, .int .i64 N] 30)).drew) (fun _ _ => rfl)).turned t3 hbl).strs
            have hsame := same_any hs3 hl3 htl
            clear st2 hf2 hl2' hs3 hl3 t3
            go_wp2_with fail
            refine hK.out _ _ ⟨hA3, trivial⟩ (fun hHeld => ?_)
            clear hK K
            (try simp only [Act.put, List.setIfInBounds_toArray, List.set_cons_zero, List.set_cons_succ])
            refine comes_up 7 rfl (by kernel_rfl) (fun K hK => ?_)
            go_simp
            refine hsame.mono ?_
            rintro e w4 ⟨rfl, q4, rfl⟩
            go_wp2_with fail
            refine hK.out _ _ ⟨hA3, trivial⟩ (fun hHeld => ?_)
            clear hK K
            (try simp only [Act.put, List.setIfInBounds_toArray, List.set_cons_zero, List.set_cons_succ])
            refine take_first 8 (v := ?_) rfl (by kernel_rfl) (by kernel_rfl) (by kernel_rfl) (fun _ _ _ h => h) (Or.inl ⟨by rfl, by intro wx hSw; obtain ⟨hSw1, hSw2⟩ := hSw; go_simp; try with_reducible rfl⟩) (by assumption) ?_
            (try simp only [Act.put, List.setIfInBounds_toArray, List.set_cons_zero, List.set_cons_succ])
            refine wpAnyH_done (by kernel_rfl) ?_ _
            refine NoPanic.normal ?_
            have st5 := st3.still ((Turned.refl _ _).drewN q4)
            clear st3 hsame hA0 hA1 hA2 hSA hA3
            generalize w3.drewN q4 = w5 at *
            go_wp2_with fail
            go_meet
            exact ⟨_, _, _, HLE, st5⟩
          · skip
            have hSA : (wr.alloc (.cells #[.int .u8 (kd : Nat), .string s, .int .i64 N] 30)).drew.cell? ⟨wr.heap.size, 2, none⟩ = some (.int .i64 N) := hA2
            go_wp2_with fail
            refine wp_region_noPanic ?_
            refine wp_region_held_drew (S := fun wx => wx.cell? ⟨wr.heap.size, 2, none⟩ = some (.int .i64 N) ∧ True) (by kernel_rfl) ⟨hSA, trivial⟩ (fun hHeld => ?_)
            refine take_first 0 (v := ?_) rfl (by kernel_rfl) (by kernel_rfl) (by kernel_rfl) (fun _ _ _ h => h) (Or.inl ⟨by rfl, by intro wx hSw; obtain ⟨hSw1, hSw2⟩ := hSw; go_simp; try with_reducible rfl⟩) (by assumption) ?_
            (try simp only [Act.put, List.setIfInBounds_toArray, List.set_cons_zero, List.set_cons_succ])
            refine take_first 1 (v := ?_) rfl (by kernel_rfl) (by kernel_rfl) (by kernel_rfl) (fun _ _ _ h => h) (Or.inl ⟨by rfl, by intro wx hSw; obtain ⟨hSw1, hSw2⟩ := hSw; go_simp; try with_reducible rfl⟩) (by assumption) ?_
            (try simp only [Act.put, List.setIfInBounds_toArray, List.set_cons_zero, List.set_cons_succ])
            refine take_first 2 (v := ?_) rfl (by kernel_rfl) (by kernel_rfl) (by kernel_rfl) (fun _ _ _ h => h) (Or.inl ⟨by rfl, by intro wx hSw; obtain ⟨hSw1, hSw2⟩ := hSw; go_simp; try with_reducible rfl⟩) (by assumption) ?_
            (try simp only [Act.put, List.setIfInBounds_toArray, List.set_cons_zero, List.set_cons_succ])
            refine take_first 4 (v := ?_) rfl (by kernel_rfl) (by kernel_rfl) (by kernel_rfl) (fun _ _ _ h => h) (Or.inl ⟨by rfl, by intro wx hSw; obtain ⟨hSw1, hSw2⟩ := hSw; go_simp; try with_reducible rfl⟩) (by assumption) ?_
            (try simp only [Act.put, List.setIfInBounds_toArray, List.set_cons_zero, List.set_cons_succ])
            refine take_first 5 (v := ?_) rfl (by kernel_rfl) (by kernel_rfl) (by kernel_rfl) (fun _ _ _ h => h) (Or.inl ⟨by rfl, by intro wx hSw; obtain ⟨hSw1, hSw2⟩ := hSw; go_simp; try with_reducible rfl⟩) (by assumption) ?_
            (try simp only [Act.put, List.setIfInBounds_toArray, List.set_cons_zero, List.set_cons_succ])
            refine take_first 6 (v := .slice ao n lcap) rfl (by kernel_rfl) (by kernel_rfl) (by kernel_rfl) (fun _ _ _ h => h) (Or.inl ⟨by rfl, by intro wx hSw; obtain ⟨hSw1, hSw2⟩ := hSw; go_simp; try with_reducible rfl⟩) (by assumption) ?_
            (try simp only [Act.put, List.setIfInBounds_toArray, List.set_cons_zero, List.set_cons_succ])
            refine comes_up 3 rfl (by kernel_rfl) (fun K hK => ?_)
            go_simp
            refine hf2.mono ?_
            rintro e w3 ⟨v3, rfl, hs3, t3⟩
            have st3 := st2.still t3
            have hA3 : w3.cell? ⟨wr.heap.size, 2, none⟩ = some (.int .i64 N) := by
              rw [cell_block (t3.block _ (by show _ < (wr.alloc _).heap.size; simp) (fun hf => hf))]; exact hA2
            have hl3 := ((hl2'.out.frame (w' := (wr.alloc (.cells #[.int .u8 (kd : Nat), .string s, .int .i64 N] 30)).drew) (fun _ _ => rfl)).turned t3 hbl).strs
            have hsame := same_any hs3 hl3 htl
            clear st2 hf2 hl2' hs3 hl3 t3
            go_wp2_with fail
            refine hK.out _ _ ⟨hA3, trivial⟩ (fun hHeld => ?_)
            clear hK K
            (try simp only [Act.put, List.setIfInBounds_toArray, List.set_cons_zero, List.set_cons_succ])
            refine comes_up 7 rfl (by kernel_rfl) (fun K hK => ?_)
            go_simp
            refine hsame.mono ?_
            rintro e w4 ⟨rfl, q4, rfl⟩
            go_wp2_with fail
            refine hK.out _ _ ⟨hA3, trivial⟩ (fun hHeld => ?_)
            clear hK K
            (try simp only [Act.put, List.setIfInBounds_toArray, List.set_cons_zero, List.set_cons_succ])
            refine take_first 8 (v := ?_) rfl (by kernel_rfl) (by kernel_rfl) (by kernel_rfl) (fun _ _ _ h => h) (Or.inl ⟨by rfl, by intro wx hSw; obtain ⟨hSw1, hSw2⟩ := hSw; go_simp; try with_reducible rfl⟩) (by assumption) ?_
            (try simp only [Act.put, List.setIfInBounds_toArray, List.set_cons_zero, List.set_cons_succ])
            refine wpAnyH_done (by kernel_rfl) ?_ _
            refine NoPanic.normal ?_
            have st5 := st3.still ((Turned.refl _ _).drewN q4)
            clear st3 hsame hA0 hA1 hA2 hSA hA3
            generalize w3.drewN q4 = w5 at *
            go_wp2_with fail
            go_meet
            exact ⟨_, _, _, HLE, st5⟩
          · skip
            have hSA : (wr.alloc (.cells #[.int .u8 (kd : Nat), .string s, .int .i64 (n : Int)] 30)).drew.cell? ⟨wr.heap.size, 2, none⟩ = some (.int .i64 (n : Int)) := hA2
            go_wp2_with fail
            refine wp_region_noPanic ?_
            refine wp_region_held_drew (S := fun wx => wx.cell? ⟨wr.heap.size, 2, none⟩ = some (.int .i64 (n : Int)) ∧ True) (by kernel_rfl) ⟨hSA, trivial⟩ (fun hHeld => ?_)
            refine take_first 0 (v := ?_) rfl (by kernel_rfl) (by kernel_rfl) (by kernel_rfl) (fun _ _ _ h => h) (Or.inl ⟨by rfl, by intro wx hSw; obtain ⟨hSw1, hSw2⟩ := hSw; go_simp; try with_reducible rfl⟩) (by assumption) ?_
            (try simp only [Act.put, List.setIfInBounds_toArray, List.set_cons_zero, List.set_cons_succ])
            refine take_first 1 (v := ?_) rfl (by kernel_rfl) (by kernel_rfl) (by kernel_rfl) (fun _ _ _ h => h) (Or.inl ⟨by rfl, by intro wx hSw; obtain ⟨hSw1, hSw2⟩ := hSw; go_simp; try with_reducible rfl⟩) (by assumption) ?_
            (try simp only [Act.put, List.setIfInBounds_toArray, List.set_cons_zero, List.set_cons_succ])
            refine take_first 2 (v := ?_) rfl (by kernel_rfl) (by kernel_rfl) (by kernel_rfl) (fun _ _ _ h => h) (Or.inl ⟨by rfl, by intro wx hSw; obtain ⟨hSw1, hSw2⟩ := hSw; go_simp; try with_reducible rfl⟩) (by assumption) ?_
            (try simp only [Act.put, List.setIfInBounds_toArray, List.set_cons_zero, List.set_cons_succ])
            refine take_first 4 (v := ?_) rfl (by kernel_rfl) (by kernel_rfl) (by kernel_rfl) (fun _ _ _ h => h) (Or.inl ⟨by rfl, by intro wx hSw; obtain ⟨hSw1, hSw2⟩ := hSw; go_simp; try with_reducible rfl⟩) (by assumption) ?_
            (try simp only [Act.put, List.setIfInBounds_toArray, List.set_cons_zero, List.set_cons_succ])
            refine take_first 5 (v := ?_) rfl (by kernel_rfl) (by kernel_rfl) (by kernel_rfl) (fun _ _ _ h => h) (Or.inl ⟨by rfl, by intro wx hSw; obtain ⟨hSw1, hSw2⟩ := hSw; go_simp; try with_reducible rfl⟩) (by assumption) ?_
            (try simp only [Act.put, List.setIfInBounds_toArray, List.set_cons_zero, List.set_cons_succ])
            refine take_first 6 (v := .slice ao n lcap) rfl (by kernel_rfl) (by kernel_rfl) (by kernel_rfl) (fun _ _ _ h => h) (Or.inl ⟨by rfl, by intro wx hSw; obtain ⟨hSw1, hSw2⟩ := hSw; go_simp; try with_reducible rfl⟩) (by assumption) ?_
            (try simp only [Act.put, List.setIfInBounds_toArray, List.set_cons_zero, List.set_cons_succ])
            refine comes_up 3 rfl (by kernel_rfl) (fun K hK => ?_)
            go_simp
            refine hf2.mono ?_
            rintro e w3 ⟨v3, rfl, hs3, t3⟩
            have st3 := st2.still t3
            have hA3 : w3.cell? ⟨wr.heap.size, 2, none⟩ = some (.int .i64 (n : Int)) := by
              rw [cell_block (t3.block _ (by show _ < (wr.alloc _).heap.size; simp) (fun hf => hf))]; exact hA2
            have hl3 := ((hl2'.out.frame (w' := (wr.alloc (.cells #[.int .u8 (kd : Nat), .string s, .int .i64 (n : Int)] 30)).drew) (fun _ _ => rfl)).turned t3 hbl).strs
            have hsame := same_any hs3 hl3 htl
            clear st2 hf2 hl2' hs3 hl3 t3
            go_wp2_with fail
            refine hK.out _ _ ⟨hA3, trivial⟩ (fun hHeld => ?_)
            clear hK K
            (try simp only [Act.put, List.setIfInBounds_toArray, List.set_cons_zero, List.set_cons_succ])
            refine comes_up 7 rfl (by kernel_rfl) (fun K hK => ?_)
            go_simp
            refine hsame.mono ?_
            rintro e w4 ⟨rfl, q4, rfl⟩
            go_wp2_with fail
            refine hK.out _ _ ⟨hA3, trivial⟩ (fun hHeld => ?_)
            clear hK K
            (try simp only [Act.put, List.setIfInBounds_toArray, List.set_cons_zero, List.set_cons_succ])
            refine take_first 8 (v := ?_) rfl (by kernel_rfl) (by kernel_rfl) (by kernel_rfl) (fun _ _ _ h => h) (Or.inl ⟨by rfl, by intro wx hSw; obtain ⟨hSw1, hSw2⟩ := hSw; go_simp; try with_reducible rfl⟩) (by assumption) ?_
            (try simp only [Act.put, List.setIfInBounds_toArray, List.set_cons_zero, List.set_cons_succ])
            refine wpAnyH_done (by kernel_rfl) ?_ _
            refine NoPanic.normal ?_
            have st5 := st3.still ((Turned.refl _ _).drewN q4)
            clear st3 hsame hA0 hA1 hA2 hSA hA3
            generalize w3.drewN q4 = w5 at *
            go_wp2_with fail
            go_meet
            exact ⟨_, _, _, HLE, st5⟩
      · have hstr : ∀ x ∈ ys, ∃ s, x = .string s := st.lst.1
        have hf2 := firsts_int st.ring hstr 1099511627776 ys.length (by omega)
        rw [List.take_length] at hf2
        obtain ⟨ao, lcap, hlv⟩ := st.lst.shape
        subst hlv
        have hor : ((i : Int) < len ∧ ¬ ((i : Int) < 200)) ∨ ¬ ((i : Int) < len) := by omega
        rcases hor with ⟨h4, h5⟩ | h5
        all_goals
          go_wp2_with fail
          refine hf2.mono ?_
          rintro e w3 ⟨v3, rfl, hs3, t3⟩
          have st3 := st.still t3
          have hsame := same_any hs3 st3.lst.strs (by omega)
          go_wp2_with fail
          refine hsame.mono ?_
          rintro e w4 ⟨rfl, q4, rfl⟩
          have hb := (st3.own.drewN q4).below
          clear st st3 hf2 hs3 hsame t3
          go_wp2
          go_ret
          exact ⟨rfl, hb⟩

set_option maxRecDepth 100000 in
theorem lifted (os : Os) (started : os.Started) (H : Type) (enc : TypeId × Value → H) :
    ReturnsInHanded {} Try.checked os 3 .any (Rows.ringPlaysSpec.pre6 enc Try.prog Try.f3 Rows.ringPlaysRow.domain false) (Rows.ringPlaysSpec.post enc Try.prog Try.f3 false true false false) := by
  refine returnsInHanded_of_change (C := Try.checked) own started (by kernel_rfl) Try.func3
    (ChangeSpec.witness6 (enc := enc) (C := Try.checked) false ⟨#[], #[.int .i64 0, .slice none 0 0], []⟩ 3 (by kernel_rfl) (by kernel_rfl) (by kernel_rfl) (by kernel_rfl)) ?_
  intro W base args ds gs before hval0 hW hcnd _
  have hval : ∀ (j : Nat) t v, Try.f3.params[j]? = some t → args[j]? = some v → Value.okWide Try.prog W .any base t v := hval0
  have hW' := hW
  obtain ⟨p, q, hA0, hV, rfl, hfz, hnd⟩ := hW
  have hA : DataW.TrodAll enc Try.prog W 0 (fun _ => true) true Try.f3.params.toList args.toList ds p := hA0
  rw [Try.params3] at hA hval
  obtain ⟨v0, vs0, d0, ds0, p0, q0, hargs0, rfl, rfl, h0, r0⟩ := trodAll_cons hA
  obtain ⟨v1, vs1, d1, ds1, p1, q1, hargs1, rfl, rfl, h1, r1⟩ := trodAll_cons r0
  obtain ⟨rfl, rfl, rfl⟩ := trodAll_nil r1
  obtain rfl : args = #[v0, v1] := by cases args; simp_all
  obtain ⟨rfl, rfl⟩ := trodVars_none hV
  obtain ⟨a0, rfl, rfl, rfl, w0⟩ := open_int Try.underlying3 (hval 0 3 v0 rfl rfl) h0
  obtain ⟨a1, len1, cap1, rfl⟩ := okWide_slice Try.underlying22 (hval 1 22 v1 rfl rfl)
  have k1 := h1
  have lt1 : ∀ x ∈ p1, x.block < W.heap.size := by obtain ⟨m, hm⟩ := k1; exact DataW.trod_lt m _ _ _ hm
  obtain ⟨xs1, hx1⟩ := open_acts h1
  clear hA0 hval0
  refine (walk W a0 (in_of_wf w0) a1 len1 cap1 xs1 hx1).mono fun e W' ⟨he, bel⟩ => ?_
  subst he
  exact ⟨_, rfl, _, _, _, [], _, [], hW', trodAll_mk1 (shut_bool Try.underlying4 _), (trodAll_cons_mk (shut_int Try.underlying3 w0) (trodAll_cons_mk (Below.trod laidOut (by kernel_rfl) (of_decide_eq_true (by kernel_rfl)) k1 bel lt1) trodAll_mk0)), rfl, bel.frame _, fun h => by cases h⟩

theorem over : Rows.ringPlaysRow.holds Try.pinned (OpenSpec.ofChange Rows.ringPlaysSpec) :=
  OpenClaim.holds_of_wide 3 Try.f3 rfl rfl rfl rfl rfl rfl rfl ⟨rfl, rfl, rfl, rfl, rfl⟩ rfl rfl rfl rfl rfl (by kernel_rfl) Try.func3 (by kernel_rfl)
    (of_decide_eq_true (by kernel_rfl)) (by unfold Func.isWrapper; first | (rw [if_pos (by decide +kernel)]; kernel_rfl) | (rw [if_neg (by decide +kernel)]; exact ⟨rfl, rfl⟩))
    (fun os started H enc _ => lifted os started H enc)

end Go.Proofs.Ytipgmdeehmjokaa.ringPlays
namespace Go.Proofs.Ytipgmdeehmjokaa
theorem ringPlays_holds : Rows.RingPlaysSaid := ringPlays.over
#print axioms ringPlays_holds
end Go.Proofs.Ytipgmdeehmjokaa
