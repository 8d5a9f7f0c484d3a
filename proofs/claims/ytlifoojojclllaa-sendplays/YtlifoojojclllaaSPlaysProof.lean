/-
  Proved: for all numbers most and window and every list of calls, SendPlays(most, window, script) returns true: what waits and what is in the window is as the document says, whatever is put and acked; the document's example holds. No condition.
-/
import Derived.Test.YtlifoojojclllaaRows
import Derived.Test.YtlifoojojclllaaSPlay
namespace Go.Proofs.Ytlifoojojclllaa.sendPlays
open Go.ChangeShapes Go.WideShapes Go.ChangeAt Go.RowKit
open Go.ChangeMaps (open_string shut_string)
set_option linter.unusedVariables false

set_option maxRecDepth 20000 in
set_option maxHeartbeats 1500000 in
theorem walk (w : World) (a0 : Int) (h0 : In a0) (a1 : Int) (h1 : In a1) (a2 : Option Addr) (len cap : Nat) (xs : Nat → Ac) (hx : Acts w a2 len xs) :
    Calls Try.prog 3 #[.int .i64 a0, .int .i64 a1, .slice a2 len cap] w fun e w' => e = .returned (.bool true) ∧ Below w.heap.size w w' := by
  have hmax := hx.max
  have HX : Hid (Acts w a2 len xs) := hx
  clear hx
  by_cases hmost : a0 < 1 ∨ 256 < a0
  · have hor : (¬ a0 < 1 ∧ 256 < a0) ∨ a0 < 1 := by omega
    rcases hor with ⟨g1, g2⟩ | g2
    all_goals
      go_enter Try.func3, Try.ntmps3
      go_wp2_with fail
      refine (awake9_any _).mono ?_
      rintro e w1 ⟨rfl, t1⟩
      go_wp2_with fail
      refine (snewS_err1 _ _ _ hmost).mono ?_
      rintro e w2 ⟨rfl, rfl⟩
      go_wp2
      go_ret
      exact ⟨rfl, t1.below (Nat.le_refl _) (fun _ hf => hf.elim)⟩
  · obtain ⟨M, rfl⟩ : ∃ M : Nat, a0 = M := ⟨a0.toNat, by omega⟩
    have hm1 : 1 ≤ M := by omega
    have hm2 : M ≤ 256 := by omega
    have g1 : ¬ ((M : Int) < 1) := by omega
    have g2 : ¬ ((256 : Int) < M) := by omega
    clear hmost h0
    by_cases hwin : a1 < 1 ∨ 32 < a1
    · have hor : (¬ a1 < 1 ∧ 32 < a1) ∨ a1 < 1 := by omega
      rcases hor with ⟨g3, g4⟩ | g3
      all_goals
        go_enter Try.func3, Try.ntmps3
        go_wp2_with fail
        refine (awake9_any _).mono ?_
        rintro e w1 ⟨rfl, t1⟩
        go_wp2_with fail
        refine (snewS_err2 _ M hm1 hm2 _ hwin).mono ?_
        rintro e w2 ⟨rfl, t2⟩
        go_wp2
        go_ret
        exact ⟨rfl, (t1.trans t2 (fun _ hf => hf.elim)).below (Nat.le_refl _) (fun _ hf => hf.elim)⟩
    obtain ⟨W, rfl⟩ : ∃ W : Nat, a1 = W := ⟨a1.toNat, by omega⟩
    have hw1 : 1 ≤ W := by omega
    have hw2 : W ≤ 32 := by omega
    have g3 : ¬ ((W : Int) < 1) := by omega
    have g4 : ¬ ((32 : Int) < W) := by omega
    clear hwin h1
    go_enter Try.func3, Try.ntmps3
    go_wp2_with fail
    refine (awake9_any _).mono ?_
    rintro e w1 ⟨rfl, t1⟩
    go_wp2_with fail
    refine (snewS_any _ M hm1 hm2 W hw1 hw2).mono ?_
    rintro e w2 ⟨q, F2, rfl, s2, t2, b2⟩
    have st : St w w2 q M W 0 (.slice none 0 0) [] := ⟨⟨F2, s2, bes_new (Own.behind t1 ⟨t2, b2⟩) s2.lt⟩, by simp⟩
    go_wp2_with fail
    have gd1 : decide ((M : Int) < 1) = false := by simp; omega
    have gd2 : decide ((256 : Int) < M) = false := by simp; omega
    have gd3 : decide ((W : Int) < 1) = false := by simp; omega
    have gd4 : decide ((32 : Int) < W) = false := by simp; omega
    try simp only [gd1, gd2, gd3, gd4]
    clear t1 s2 t2 b2 g1 g2 g3 g4 gd1 gd2 gd3 gd4
    go_loopw [9, 10, 11] (fun lv av iv wr => ∃ (i A : Nat) (zs : List Value), i ≤ len ∧ i ≤ 150 ∧ zs.length ≤ i ∧ av = .int .i64 A ∧ iv = .int .i64 i ∧ St w wr q M W A lv zs) (fun _ _ iv _ => 150 - (intOf iv).toNat)
    case atStart => exact ⟨0, 0, [], by omega, by omega, by simp, rfl, rfl, st⟩
    case round =>
      clear st
      obtain ⟨i, A, zs, hi, hi150, hzi, rfl, rfl, st⟩ := hrel
      by_cases hlt : i < len ∧ i < 150
      · obtain ⟨hlt1, hlt2⟩ := hlt
        have hltI : (i : Int) < len := by omega
        have hltI2 : (i : Int) < 150 := by omega
        obtain ⟨ad, rfl, _, hc⟩ := (HX.out.turned st.turned).cell (by omega)
        obtain ⟨c0, c1, c2⟩ := hc i hlt1
        obtain ⟨hk256, hnin⟩ := HX.out.lt i hlt1
        clear hc
        generalize xs i = ac at c0 c1 c2 hk256 hnin
        obtain ⟨kd, s, N⟩ := ac
        simp only at c0 c1 c2 hk256 hnin
        obtain ⟨ao, lcap, hlv⟩ := st.shape
        subst hlv
        have hA := box3 wr (.int .u8 (kd : Nat)) (.string s) (.int .u64 (N : Nat)) 31
        obtain ⟨L, HL⟩ : ∃ L, Hid (zs.length = L) := ⟨_, rfl⟩
        have hL := HL.out
        rw [hL] at hzi
        simp only [hL]
        rw [hL] at st
        have hAL : A ≤ L := by have := st.le; rw [hL] at this; exact this
        have hLM : L - A ≤ M := by have := st.room; rw [hL] at this; omega
        obtain ⟨hA0, hA1, hA2⟩ := hA
        go_upto_if 67 with fail
        go_cut [9, 10, 13, 14, 15, 16] from 50 to 191 (fun lv av _ _ _ _ wx => ∃ (A : Nat) (zs : List Value), av = .int .i64 A ∧ zs.length ≤ i + 1 ∧ St w wx q M W A lv zs)
        case rest =>
          clear st hA0 hA1 hA2 hL HL hAL hLM
          obtain ⟨A9, zs9, rfl, hz9, st9⟩ := hcut
          obtain ⟨ao9, cap9, hv9⟩ := st9.shape
          subst hv9
          obtain ⟨E, HE⟩ : ∃ E, Hid (E = min zs9.length (A9 + W)) := ⟨_, rfl⟩
          obtain ⟨ao', D9, C9, hsl, hwin⟩ := st9.window E HE.out
          have hl9 := st9.le
          have hr9 := st9.room
          clear st9
          generalize hZ : zs9.length = Z at *
          have HZ : Hid (zs9.length = Z) := hZ
          clear hZ
          by_cases hE : A9 + W < Z
          · have hEI : (A9 : Int) + W < Z := by omega
            have eE : ((E : Nat) : Int) = (A9 : Int) + W := by have := HE.out; omega
            rw [eE] at hsl
            clear eE HE
            as_aux_lemma =>
            go_wp2_with fail
            refine hwin.mono ?_
            rintro e w5 ⟨v5, rfl, st5, hsame⟩
            have hln5 := fun k => (st5.still ((Turned.refl _ w5).drewN k)).len
            have hfr5 := fun k => (st5.still ((Turned.refl _ w5).drewN k)).free
            have hac6 := fun k => (st5.still ((Turned.refl _ w5).drewN k)).acked
            have hst6 : Hid (∀ k, St w (w5.drewN k) q M W A9 (.slice ao9 Z cap9) zs9) := fun k => st5.still ((Turned.refl _ w5).drewN k)
            have eZ : ((Z - A9 : Nat) : Int) = (Z : Int) - A9 := by omega
            rw [HZ.out] at hln5 hfr5
            rw [eZ] at hln5 hfr5
            clear st5 hwin
            go_wp2_with fail
            refine hsame.mono ?_
            rintro e w6 ⟨rfl, k6, rfl⟩
            clear hsame
            go_wp2_with fail
            refine (hln5 k6).mono ?_
            rintro e w7 ⟨rfl, rfl⟩
            go_wp2_with fail
            refine (hfr5 k6).mono ?_
            rintro e w7 ⟨rfl, k7, rfl⟩
            go_wp2_with fail
            refine (hln5 (k6 + k7)).mono ?_
            rintro e w8 ⟨rfl, rfl⟩
            go_wp2_with fail
            refine (hac6 (k6 + k7)).mono ?_
            rintro e w8 ⟨rfl, rfl⟩
            have st8 := hst6.out (k6 + k7)
            clear hln5 hfr5 hac6 hst6 hsl
            generalize w5.drewN (k6 + k7) = w8 at *
            go_wp2
            go_roundw
            case rel => first | exact ⟨i + 1, A9, zs9, by omega, by omega, by rw [HZ.out]; omega, rfl, by go_num, st8⟩ | ((repeat apply Exists.intro); exact ⟨⟨i + 1, A9, zs9, by omega, by omega, by rw [HZ.out]; omega, rfl, by go_num, st8⟩, rfl⟩)
            case measure => simp [intOf]; omega
          · have hEI : ¬ (A9 : Int) + W < Z := by omega
            have eE : E = Z := by have := HE.out; omega
            rw [eE] at hsl
            clear eE HE
            as_aux_lemma =>
            go_wp2_with fail
            refine hwin.mono ?_
            rintro e w5 ⟨v5, rfl, st5, hsame⟩
            have hln5 := fun k => (st5.still ((Turned.refl _ w5).drewN k)).len
            have hfr5 := fun k => (st5.still ((Turned.refl _ w5).drewN k)).free
            have hac6 := fun k => (st5.still ((Turned.refl _ w5).drewN k)).acked
            have hst6 : Hid (∀ k, St w (w5.drewN k) q M W A9 (.slice ao9 Z cap9) zs9) := fun k => st5.still ((Turned.refl _ w5).drewN k)
            have eZ : ((Z - A9 : Nat) : Int) = (Z : Int) - A9 := by omega
            rw [HZ.out] at hln5 hfr5
            rw [eZ] at hln5 hfr5
            clear st5 hwin
            go_wp2_with fail
            refine hsame.mono ?_
            rintro e w6 ⟨rfl, k6, rfl⟩
            clear hsame
            go_wp2_with fail
            refine (hln5 k6).mono ?_
            rintro e w7 ⟨rfl, rfl⟩
            go_wp2_with fail
            refine (hfr5 k6).mono ?_
            rintro e w7 ⟨rfl, k7, rfl⟩
            go_wp2_with fail
            refine (hln5 (k6 + k7)).mono ?_
            rintro e w8 ⟨rfl, rfl⟩
            go_wp2_with fail
            refine (hac6 (k6 + k7)).mono ?_
            rintro e w8 ⟨rfl, rfl⟩
            have st8 := hst6.out (k6 + k7)
            clear hln5 hfr5 hac6 hst6 hsl
            generalize w5.drewN (k6 + k7) = w8 at *
            go_wp2
            go_roundw
            case rel => first | exact ⟨i + 1, A9, zs9, by omega, by omega, by rw [HZ.out]; omega, rfl, by go_num, st8⟩ | ((repeat apply Exists.intro); exact ⟨⟨i + 1, A9, zs9, by omega, by omega, by rw [HZ.out]; omega, rfl, by go_num, st8⟩, rfl⟩)
            case measure => simp [intOf]; omega
        have hkind : kd % 4 < 2 ∨ kd % 4 = 2 ∨ kd % 4 = 3 := by omega
        rcases hkind with hk | hk | hk
        · as_aux_lemma =>
          have hkI : (kd : Int) % 4 < 2 := by omega
          by_cases hroom : L - A < M
          · have hne : ((L : Int) - A == (M : Int)) = false := by simp; omega
            go_wp2_with fail
            refine (st.put (by rw [hL]; exact hroom) _ s).mono ?_
            rintro e w3 ⟨rfl, hbox, H3⟩
            have hA3 : w3.cell? ⟨wr.heap.size, 1, none⟩ = some (.string s) := by rw [hbox]; exact hA1
            obtain ⟨F3, s3, b3⟩ := H3.out
            have t4 : ∀ o, Turned (fun _ => False) w3 (w3.alloc o) := fun o => (Turned.refl _ w3).alloc o
            have HS4 : Hid (∀ o, Snd (w3.alloc o) 9 F3 q M W A (zs.drop A ++ [.string s]) ∧ Bes w (w3.alloc o) F3 (.slice ao L lcap) zs) := fun o => ⟨s3.still (t4 o), b3.still (t4 o)⟩
            have hnew := cell_one_new w3 (.string s) 9 0 (.string s) rfl
            have hle := st.le
            have HLA : Hid (A ≤ zs.length) := hle
            clear st H3 s3 b3 t4 hbox hA0 hA1 hA2 hle
            go_wp2_with (first | (at_builtin; refine wpList_append_lst rfl _ _ rfl (.slice ao L lcap) zs rfl ?q1 [.string s] (by simp) (by simp) ?q2 ⟨w3.heap.size, 0, none⟩ 1 rfl ?q3 ?_))
            case q1 => exact (HS4.out (.cells #[.string s] 9)).2.lst
            case q2 => rw [hL]; simp; omega
            case q3 =>
              intro j u hj
              match j, hj with
              | 0, hj =>
                obtain rfl : Value.string s = u := by simpa using hj
                exact hnew
            intro v5 w5 hl5 hg5 hb5
            have st5 := St.appended (HS4.out (.cells #[.string s] 9)).1 (HS4.out (.cells #[.string s] 9)).2 HLA.out hg5 hl5 (fun b hb => by simpa using hb5 b hb)
            obtain ⟨ao5, cap5, hv5⟩ := hl5.shape
            have e5 : (zs ++ [Value.string s]).length = L + 1 := by simp [hL]
            rw [e5] at hv5
            subst hv5
            have HLE : (zs ++ [Value.string s]).length ≤ i + 1 := by simp; omega
            clear HS4 hl5 hg5 hb5 hnew
            go_wp2_with fail
            go_meet
            exact ⟨_, _, rfl, HLE, st5⟩
          · have hne : ((L : Int) - A == (M : Int)) = true := by have := st.room; rw [hL] at this; have := st.le; simp; omega
            have st1 := st.still ((Turned.refl _ wr).alloc (.cells #[.int .u8 (kd : Nat), .string s, .int .u64 (N : Nat)] 31))
            have hbz := st1.busy (by have := st.room; rw [hL] at this ⊢; omega) s
            clear st
            go_wp2_with fail
            refine hbz.mono ?_
            rintro e w3 ⟨rfl, k3, rfl⟩
            have st3 := st1.still ((Turned.refl _ _).drewN k3)
            have HLE : zs.length ≤ i + 1 := by omega
            clear st1 hA0 hA1 hA2 hbz
            generalize (wr.alloc (.cells #[.int .u8 (kd : Nat), .string s, .int .u64 (N : Nat)] 31)).drewN k3 = w3 at *
            go_wp2_with fail
            go_meet
            exact ⟨_, _, rfl, HLE, st3⟩
        · as_aux_lemma =>
          have hkI : (kd : Int) % 4 = 2 := by omega
          have st1 := st.still ((Turned.refl _ wr).alloc (.cells #[.int .u8 (kd : Nat), .string s, .int .u64 (N : Nat)] 31))
          have hle := st.le
          rw [hL] at hle
          obtain ⟨ev, A', k1, k2, hcall⟩ := st1.ack (by omega) N (by omega)
          rw [hL] at k2
          clear st st1
          have HLE : zs.length ≤ i + 1 := by omega
          by_cases hw : W < L - A
          · have hwI : (W : Int) < (L : Int) - A := by omega
            go_wp2_with fail
            refine hcall.mono ?_
            rintro e w3 ⟨rfl, st3⟩
            have hle3 := st3.le
            rw [hL] at hle3
            clear hcall hA0 hA1 hA2
            by_cases c1 : N < A
            · have c1I : (N : Int) < A := by omega
              obtain ⟨rfl, rfl⟩ := k1 c1
              clear k1 k2
              go_wp2_with fail
              go_meet
              exact ⟨_, _, rfl, HLE, st3⟩
            · have c1I : ¬ (N : Int) < A := by omega
              by_cases c2 : A + W < N
              · have c2I : (A : Int) + W < N := by omega
                obtain ⟨rfl, rfl⟩ := (k2 c1).1 (by omega)
                clear k1 k2
                go_wp2_with fail
                go_meet
                exact ⟨_, _, rfl, HLE, st3⟩
              · have c2I : ¬ (A : Int) + W < N := by omega
                obtain ⟨rfl, rfl⟩ := (k2 c1).2 (by omega)
                clear k1 k2
                go_wp2_with fail
                go_meet
                exact ⟨_, _, rfl, HLE, st3⟩
          · have hwI : ¬ (W : Int) < (L : Int) - A := by omega
            go_wp2_with fail
            refine hcall.mono ?_
            rintro e w3 ⟨rfl, st3⟩
            have hle3 := st3.le
            rw [hL] at hle3
            clear hcall hA0 hA1 hA2
            by_cases c1 : N < A
            · have c1I : (N : Int) < A := by omega
              obtain ⟨rfl, rfl⟩ := k1 c1
              clear k1 k2
              go_wp2_with fail
              go_meet
              exact ⟨_, _, rfl, HLE, st3⟩
            · have c1I : ¬ (N : Int) < A := by omega
              by_cases c2 : L < N
              · have c2I : (A : Int) + ((L : Int) - A) < N := by omega
                have c3I : (L : Int) < N := by omega
                obtain ⟨rfl, rfl⟩ := (k2 c1).1 (by omega)
                clear k1 k2
                go_wp2_with fail
                go_meet
                exact ⟨_, _, rfl, HLE, st3⟩
              · have c2I : ¬ (A : Int) + ((L : Int) - A) < N := by omega
                have c3I : ¬ (L : Int) < N := by omega
                obtain ⟨rfl, rfl⟩ := (k2 c1).2 (by omega)
                clear k1 k2
                go_wp2_with fail
                go_meet
                exact ⟨_, _, rfl, HLE, st3⟩
        · as_aux_lemma =>
          have hkI : (kd : Int) % 4 = 3 := by omega
          obtain ⟨N', HN'⟩ : ∃ N' : Nat, Hid (N' = A + N % 5) := ⟨_, rfl⟩
          have eN' : (A : Int) + (N : Int) % 5 = (N' : Int) := by have := HN'.out; omega
          have hN' : N' ≤ A + 4 := by have := HN'.out; omega
          have st1 := st.still ((Turned.refl _ wr).alloc (.cells #[.int .u8 (kd : Nat), .string s, .int .u64 (N : Nat)] 31))
          have hle := st.le
          rw [hL] at hle
          obtain ⟨ev, A', k1, k2, hcall⟩ := st1.ack (by omega) N' (by omega)
          rw [hL] at k2
          clear st st1
          have HLE : zs.length ≤ i + 1 := by omega
          by_cases hw : W < L - A
          · have hwI : (W : Int) < (L : Int) - A := by omega
            go_wp2_with fail
            refine hcall.mono ?_
            rintro e w3 ⟨rfl, st3⟩
            have hle3 := st3.le
            rw [hL] at hle3
            clear hcall hA0 hA1 hA2
            by_cases c1 : N' < A
            · have c1I : (N' : Int) < A := by omega
              obtain ⟨rfl, rfl⟩ := k1 c1
              clear k1 k2
              go_wp2_with fail
              go_meet
              exact ⟨_, _, rfl, HLE, st3⟩
            · have c1I : ¬ (N' : Int) < A := by omega
              by_cases c2 : A + W < N'
              · have c2I : (A : Int) + W < N' := by omega
                obtain ⟨rfl, rfl⟩ := (k2 c1).1 (by omega)
                clear k1 k2
                go_wp2_with fail
                go_meet
                exact ⟨_, _, rfl, HLE, st3⟩
              · have c2I : ¬ (A : Int) + W < N' := by omega
                obtain ⟨rfl, rfl⟩ := (k2 c1).2 (by omega)
                clear k1 k2
                go_wp2_with fail
                go_meet
                exact ⟨_, _, rfl, HLE, st3⟩
          · have hwI : ¬ (W : Int) < (L : Int) - A := by omega
            go_wp2_with fail
            refine hcall.mono ?_
            rintro e w3 ⟨rfl, st3⟩
            have hle3 := st3.le
            rw [hL] at hle3
            clear hcall hA0 hA1 hA2
            by_cases c1 : N' < A
            · have c1I : (N' : Int) < A := by omega
              obtain ⟨rfl, rfl⟩ := k1 c1
              clear k1 k2
              go_wp2_with fail
              go_meet
              exact ⟨_, _, rfl, HLE, st3⟩
            · have c1I : ¬ (N' : Int) < A := by omega
              by_cases c2 : L < N'
              · have c2I : (A : Int) + ((L : Int) - A) < N' := by omega
                have c3I : (L : Int) < N' := by omega
                obtain ⟨rfl, rfl⟩ := (k2 c1).1 (by omega)
                clear k1 k2
                go_wp2_with fail
                go_meet
                exact ⟨_, _, rfl, HLE, st3⟩
              · have c2I : ¬ (A : Int) + ((L : Int) - A) < N' := by omega
                have c3I : ¬ (L : Int) < N' := by omega
                obtain ⟨rfl, rfl⟩ := (k2 c1).2 (by omega)
                clear k1 k2
                go_wp2_with fail
                go_meet
                exact ⟨_, _, rfl, HLE, st3⟩
      · have hb := st.turned.below (Nat.le_refl _) (fun _ hf => hf.elim)
        have hlt3 : ((i : Int) < len → ¬ (i : Int) < 150) := by omega
        clear st
        by_cases hl1 : (i : Int) < len
        · have hl2 := hlt3 hl1
          go_wp2
          go_ret
          exact ⟨rfl, hb⟩
        · go_wp2
          go_ret
          exact ⟨rfl, hb⟩

set_option maxRecDepth 100000 in
theorem lifted (os : Os) (started : os.Started) (H : Type) (enc : TypeId × Value → H) :
    ReturnsInHanded {} Try.checked os 3 .any (Rows.sendPlaysSpec.pre6 enc Try.prog Try.f3 Rows.sendPlaysRow.domain false) (Rows.sendPlaysSpec.post enc Try.prog Try.f3 false true false false) := by
  refine returnsInHanded_of_change (C := Try.checked) own started (by kernel_rfl) Try.func3
    (ChangeSpec.witness6 (enc := enc) (C := Try.checked) false ⟨#[], #[.int .i64 0, .int .i64 0, .slice none 0 0], []⟩ 3 (by kernel_rfl) (by kernel_rfl) (by kernel_rfl) (by kernel_rfl)) ?_
  intro W base args ds gs before hval0 hW hcnd _
  have hval : ∀ (j : Nat) t v, Try.f3.params[j]? = some t → args[j]? = some v → Value.okWide Try.prog W .any base t v := hval0
  have hW' := hW
  obtain ⟨p, q, hA0, hV, rfl, hfz, hnd⟩ := hW
  have hA : DataW.TrodAll enc Try.prog W 0 (fun _ => true) true Try.f3.params.toList args.toList ds p := hA0
  rw [Try.params3] at hA hval
  obtain ⟨v0, vs0, d0, ds0, p0, q0, hargs0, rfl, rfl, h0, r0⟩ := trodAll_cons hA
  obtain ⟨v1, vs1, d1, ds1, p1, q1, hargs1, rfl, rfl, h1, r1⟩ := trodAll_cons r0
  obtain ⟨v2, vs2, d2, ds2, p2, q2, hargs2, rfl, rfl, h2, r2⟩ := trodAll_cons r1
  obtain ⟨rfl, rfl, rfl⟩ := trodAll_nil r2
  obtain rfl : args = #[v0, v1, v2] := by cases args; simp_all
  obtain ⟨rfl, rfl⟩ := trodVars_none hV
  obtain ⟨a0, rfl, rfl, rfl, w0⟩ := open_int Try.underlying3 (hval 0 3 v0 rfl rfl) h0
  obtain ⟨a1, rfl, rfl, rfl, w1⟩ := open_int Try.underlying3 (hval 1 3 v1 rfl rfl) h1
  obtain ⟨a2, len2, cap2, rfl⟩ := okWide_slice Try.underlying22 (hval 2 22 v2 rfl rfl)
  have k2 := h2
  have lt2 : ∀ x ∈ p2, x.block < W.heap.size := by obtain ⟨m, hm⟩ := k2; exact DataW.trod_lt m _ _ _ hm
  obtain ⟨xs2, hx2⟩ := open_acts h2
  clear hA0 hval0
  refine (walk W a0 (in_of_wf w0) a1 (in_of_wf w1) a2 len2 cap2 xs2 hx2).mono fun e W' ⟨he, bel⟩ => ?_
  subst he
  exact ⟨_, rfl, _, _, _, [], _, [], hW', trodAll_mk1 (shut_bool Try.underlying4 _), (trodAll_cons_mk (shut_int Try.underlying3 w0) (trodAll_cons_mk (shut_int Try.underlying3 w1) (trodAll_cons_mk (Below.trod laidOut (by kernel_rfl) (of_decide_eq_true (by kernel_rfl)) k2 bel lt2) trodAll_mk0))), rfl, bel.frame _, fun h => by cases h⟩

theorem over : Rows.sendPlaysRow.holds Try.pinned (OpenSpec.ofChange Rows.sendPlaysSpec) :=
  OpenClaim.holds_of_wide 3 Try.f3 rfl rfl rfl rfl rfl rfl rfl ⟨rfl, rfl, rfl, rfl, rfl⟩ rfl rfl rfl rfl rfl (by kernel_rfl) Try.func3 (by kernel_rfl)
    (of_decide_eq_true (by kernel_rfl)) (by unfold Func.isWrapper; first | (rw [if_pos (by decide +kernel)]; kernel_rfl) | (rw [if_neg (by decide +kernel)]; exact ⟨rfl, rfl⟩))
    (fun os started H enc _ => lifted os started H enc)

end Go.Proofs.Ytlifoojojclllaa.sendPlays
namespace Go.Proofs.Ytlifoojojclllaa
theorem sendPlays_holds : Rows.SendPlaysSaid := sendPlays.over
#print axioms sendPlays_holds
end Go.Proofs.Ytlifoojojclllaa
