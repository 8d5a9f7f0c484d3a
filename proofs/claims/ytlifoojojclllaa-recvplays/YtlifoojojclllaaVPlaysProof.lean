/-
  Proved: for every number most and every list of calls, RecvPlays(most, script) returns true: which things come in, and in which order they are taken, is as the document says; the document's example holds. No condition.
-/
import Derived.Test.YtlifoojojclllaaRows
import Derived.Test.YtlifoojojclllaaVPlay
namespace Go.Proofs.Ytlifoojojclllaa.recvPlays
open Go.ChangeShapes Go.WideShapes Go.ChangeAt Go.RowKit
open Go.ChangeMaps (open_string shut_string)
set_option linter.unusedVariables false

set_option maxRecDepth 20000 in
set_option maxHeartbeats 2000000 in
theorem walk (w : World) (a0 : Int) (h0 : In a0) (a1 : Option Addr) (len cap : Nat) (xs : Nat → Rc) (hx : Rcs w a1 len xs) :
    Calls Try.prog 8 #[.int .i64 a0, .slice a1 len cap] w fun e w' => e = .returned (.bool true) ∧ Below w.heap.size w w' := by
  have hmax := hx.max
  have HX : Hid (Rcs w a1 len xs) := hx
  clear hx
  by_cases hmost : a0 < 1 ∨ 256 < a0
  · have hor : (¬ a0 < 1 ∧ 256 < a0) ∨ a0 < 1 := by omega
    rcases hor with ⟨g1, g2⟩ | g2
    all_goals
      go_enter Try.func8, Try.ntmps8
      go_wp2_with fail
      refine (awake10_any _).mono ?_
      rintro e w1 ⟨rfl, t1⟩
      go_wp2_with fail
      refine (vnew_err _ _ hmost).mono ?_
      rintro e w2 ⟨rfl, rfl⟩
      go_wp2
      go_ret
      exact ⟨rfl, t1.below (Nat.le_refl _) (fun _ hf => hf.elim)⟩
  · obtain ⟨M, rfl⟩ : ∃ M : Nat, a0 = M := ⟨a0.toNat, by omega⟩
    have hm1 : 1 ≤ M := by omega
    have hm2 : M ≤ 256 := by omega
    have g1 : ¬ ((M : Int) < 1) := by omega
    have g2 : ¬ ((256 : Int) < M) := by omega
    clear hmost h0
    go_enter Try.func8, Try.ntmps8
    go_wp2_with fail
    refine (awake10_any _).mono ?_
    rintro e w1 ⟨rfl, t1⟩
    go_wp2_with fail
    refine (vnew_any _ M hm1 hm2).mono ?_
    rintro e w2 ⟨q, F2, rfl, s2, t2, b2⟩
    have st : Wt w w2 q M 0 (.slice none 0 0) [] := ⟨F2, s2, bes_new (Own.behind t1 ⟨t2, b2⟩) s2.lt⟩
    go_wp2_with fail
    have gd1 : decide ((M : Int) < 1) = false := by simp; omega
    have gd2 : decide ((256 : Int) < M) = false := by simp; omega
    try simp only [gd1, gd2]
    clear t1 s2 t2 b2 g1 g2 gd1 gd2
    go_loopw [7, 8, 9] (fun lv nv iv wr => ∃ (i nx : Nat) (ls : List Value), i ≤ len ∧ i ≤ 100 ∧ nx ≤ 256 * i ∧ nv = .int .u64 nx ∧ iv = .int .i64 i ∧ Wt w wr q M nx lv ls) (fun _ _ iv _ => 100 - (intOf iv).toNat)
    case atStart => exact ⟨0, 0, [], by omega, by omega, by omega, rfl, rfl, st⟩
    case round =>
      clear st
      obtain ⟨i, nx, ls, hi, hi100, hnx, rfl, rfl, st⟩ := hrel
      by_cases hlt : i < len ∧ i < 100
      · obtain ⟨hlt1, hlt2⟩ := hlt
        have hltI : (i : Int) < len := by omega
        have hltI2 : (i : Int) < 100 := by omega
        obtain ⟨b, off, rfl, _, hc⟩ := (HX.out.turned st.turned).cell (by omega)
        obtain ⟨c0, c1, c2, c3⟩ := hc i hlt1
        obtain ⟨hk256, hb64, hn256, htx⟩ := HX.out.ok i hlt1
        clear hc
        generalize xs i = ac at c0 c1 c2 c3 hk256 hb64 hn256 htx
        obtain ⟨kd, bs, nr, aoL, nL, capL, xsL⟩ := ac
        simp only at c0 c1 c2 c3 hk256 hb64 hn256 htx
        have HTX : Hid (Tx w (.slice aoL nL capL) xsL) := htx
        have HTL : Hid (nL = xsL.length) := htx.len.1
        have hnL : nL ≤ 9223372036854775807 := by have := htx.len; omega
        clear htx
        obtain ⟨ao, lcap, hlv⟩ := st.shape
        subst hlv
        obtain ⟨hA0, hA1, hA2, hA3⟩ := box4 wr (.int .u8 (kd : Nat)) (.int .u64 (bs : Nat)) (.int .u8 (nr : Nat)) (.slice aoL nL capL) 54
        have hLM := st.le.1
        obtain ⟨L, HL⟩ : ∃ L, Hid (ls.length = L) := ⟨_, rfl⟩
        have hL := HL.out
        rw [hL] at hLM
        simp only [hL]
        rw [hL] at st
        have hkind : kd % 4 = 3 ∨ kd % 4 = 0 ∨ (kd % 4 = 1 ∨ kd % 4 = 2) := by omega
        rcases hkind with hk | hk | hk
        · as_aux_lemma =>
          have hkI : (kd : Int) % 4 = 3 := by omega
          have st1 := st.still ((Turned.refl _ wr).alloc (.cells #[.int .u8 (kd : Nat), .int .u64 (bs : Nat), .int .u8 (nr : Nat), .slice aoL nL capL] 54))
          clear st
          cases ls with
          | nil =>
            obtain rfl : L = 0 := by simpa using hL.symm
            have htk := st1.nought
            go_wp2_with fail
            refine htk.mono ?_
            rintro e w3 ⟨rfl, rfl⟩
            clear htk hA0 hA1 hA2 hA3
            generalize wr.alloc (.cells #[.int .u8 (kd : Nat), .int .u64 (bs : Nat), .int .u8 (nr : Nat), .slice aoL nL capL] 54) = w4 at *
            go_wp2
            go_roundw
            case rel => first | exact ⟨i + 1, nx, [], by omega, by omega, by omega, rfl, by go_num, st1⟩ | ((repeat apply Exists.intro); exact ⟨⟨i + 1, nx, [], by omega, by omega, by omega, rfl, by go_num, st1⟩, rfl⟩)
            case measure => simp [intOf]; omega
          | cons y ys =>
            simp only [List.length_cons] at hL
            obtain ⟨b, off, lc, t, hv, hcap, rfl, htk⟩ := st1.take
            simp only [Value.slice.injEq] at hv
            obtain ⟨rfl, -, rfl⟩ := hv
            have hsl := fun W => slice_from W b off L lcap (by omega) (by omega)
            have hne : ((L : Int) == 0) = false := by simp; omega
            have eL : L - 1 = ys.length := by omega
            simp only [eL] at hsl
            have hge : (0 : Int) < L := by omega
            generalize (if lcap = 1 then (⟨b, off, none⟩ : Addr) else ⟨b, off + 1, none⟩) = ad4 at *
            clear st1 hL eL HL
            go_wp2_with fail
            refine htk.mono ?_
            rintro e w3 ⟨rfl, hcell, st3⟩
            have st4 := st3.out
            clear htk st3 hA0 hA1 hA2 hA3
            go_wp2
            go_roundw
            case rel => first | exact ⟨i + 1, nx, ys, by omega, by omega, by omega, rfl, by go_num, st4⟩ | ((repeat apply Exists.intro); exact ⟨⟨i + 1, nx, ys, by omega, by omega, by omega, rfl, by go_num, st4⟩, rfl⟩)
            case measure => simp [intOf]; omega
        · as_aux_lemma =>
          have hkI : (kd : Int) % 4 = 0 := by omega
          by_cases hbn : nx < bs
          · have hbnI : (nx : Int) < bs := by omega
            have st1 := st.still ((Turned.refl _ wr).alloc (.cells #[.int .u8 (kd : Nat), .int .u64 (bs : Nat), .int .u8 (nr : Nat), .slice aoL nL capL] 54))
            have hof := st1.refuse bs hbn (.slice aoL nL capL)
            clear st
            go_wp2_with fail
            refine hof.mono ?_
            rintro e w4 ⟨rfl, rfl⟩
            clear hof hA0 hA1 hA2 hA3
            generalize wr.alloc (.cells #[.int .u8 (kd : Nat), .int .u64 (bs : Nat), .int .u8 (nr : Nat), .slice aoL nL capL] 54) = w4 at *
            go_wp2
            go_roundw
            case rel => first | exact ⟨i + 1, nx, ls, by omega, by omega, by omega, rfl, by go_num, st1⟩ | ((repeat apply Exists.intro); exact ⟨⟨i + 1, nx, ls, by omega, by omega, by omega, rfl, by go_num, st1⟩, rfl⟩)
            case measure => simp [intOf]; omega
          · have hbnI : ¬ (nx : Int) < bs := by omega
            obtain ⟨d, HD⟩ : ∃ d, Hid (d = nx - bs) := ⟨_, rfl⟩
            obtain ⟨K, HK⟩ : ∃ K, Hid (K = min (nL - d) (M - L)) := ⟨_, rfl⟩
            have hof := st.offer (.cells #[.int .u8 (kd : Nat), .int .u64 (bs : Nat), .int .u8 (nr : Nat), .slice aoL nL capL] 54) bs (by omega) (by omega) aoL nL capL xsL HTX.out K (by rw [hL, ← HD.out]; exact HK.out)
            rw [← HD.out] at hof
            clear st
            go_wp2_with fail
            refine hof.mono ?_
            rintro e w4 ⟨rfl, hbox, lp⟩
            have hbx : w4.cell? ⟨wr.heap.size, 3, none⟩ = some (.slice aoL nL capL) := by rw [hbox]; exact hA3
            clear hof hA0 hA1 hA2 hA3 hbox
            go_wp2_with fail
            skip
            generalize wr.heap.size = b0 at *
            go_loopw [7, 8, 16, 17] (fun lv nv kv jv wx => ∃ (j c : Nat) (ms : List Value), j ≤ nL ∧ c ≤ j ∧ c = min (j - d) (M - L) ∧ ms = ls ++ (xsL.drop d).take c ∧ nv = .int .u64 ((nx + c : Nat) : Int) ∧ kv = .int .i64 c ∧ jv = .int .i64 j ∧ wx.cell? ⟨b0, 3, none⟩ = some (.slice aoL nL capL) ∧ Lp w wx q M (nx + K) (ls ++ (xsL.drop d).take K) lv ms b0) (fun _ _ _ jv _ => nL - (intOf jv).toNat)
            case atStart => exact ⟨0, 0, ls, by omega, by omega, by omega, by simp, rfl, rfl, rfl, hbx, lp⟩
            case round =>
              clear lp hbx
              obtain ⟨j, c, ms, hj, hcj, hc, hms, rfl, rfl, rfl, hbx, lp⟩ := hrel
              have HCC : Hid (c = min (j - d) (M - L)) := hc
              have HMS : Hid (ms = ls ++ (xsL.drop d).take c) := hms
              have hml : ms.length = L + min c (nL - d) := by rw [hms, List.length_append, List.length_take, List.length_drop, hL, ← HTL.out]
              clear hc hms
              obtain ⟨ao5, cap5, hv5⟩ := lp.shape
              have hcM : L + c ≤ M := by have := HCC.out; omega
              have hcn : c ≤ nL - d := by have := HCC.out; omega
              have hml2 : ms.length = L + c := by omega
              rw [hml2] at hv5
              subst hv5
              have HML : Hid (ms.length = L + c) := hml2
              clear hml hml2
              by_cases hjn : j < nL
              · have hjnI : (j : Int) < nL := by omega
                have hwj : IntKind.u64.wrap ((j : Int)) = (j : Int) := by rw [IntKind.wrap_u64]; omega
                have hwb : IntKind.u64.wrap ((bs : Int) + (j : Int)) = (bs : Int) + (j : Int) := by rw [IntKind.wrap_u64]; omega
                have eN : ((nx + c : Nat) : Int) = (nx : Int) + c := by omega
                simp only [eN]
                by_cases hm : j = d + c ∧ L + c < M
                · obtain ⟨hm1, hm2⟩ := hm
                  have HM1 : Hid (j = d + c) := hm1
                  clear hm1
                  have hbj : ((bs : Int) + (j : Int) == (nx : Int) + c) = true := by have := HD.out; have := HM1.out; simp; omega
                  skip
                  have hLc : (L : Int) + c < M := by omega
                  obtain ⟨-, -, b, off, s, rfl, hxi, hci⟩ := (HTX.out.turned lp.turned).at hjn
                  have HXI : Hid ((xsL.drop d)[c]? = some (.string s)) := by unfold Hid; rw [List.getElem?_drop, ← HM1.out]; exact hxi
                  have HLP : Hid (∀ o, Lp w (wr.alloc o) q M (nx + K) (ls ++ (xsL.drop d).take K) (.slice ao5 (L + c) cap5) ms b0) := fun o => lp.still ((Turned.refl _ wr).alloc o)
                  have hbx2 : Hid (∀ o, (wr.alloc o).cell? ⟨b0, 3, none⟩ = some (.slice (some ⟨b, off, none⟩) nL capL)) := fun o => by rw [cell_block (Below.heap_alloc wr o _ lp.lt)]; exact hbx
                  have hnew := cell_one_new wr (.string s) 9 0 (.string s) rfl
                  have hwnc : IntKind.u64.wrap ((nx : Int) + c + 1) = (nx : Int) + c + 1 := by rw [IntKind.wrap_u64]; omega
                  clear lp hxi
                  go_wp2_with (first | (at_builtin; refine wpList_append_lst rfl _ _ rfl (.slice ao5 (L + c) cap5) ms rfl ?q1 [.string s] (by simp) (by simp) ?q2 ⟨wr.heap.size, 0, none⟩ 1 rfl ?q3 ?_))
                  case q1 => exact (HLP.out (.cells #[.string s] 9)).lst
                  case q2 => rw [HML.out]; simp; omega
                  case q3 =>
                    intro j' u hj'
                    match j', hj' with
                    | 0, hj' =>
                      obtain rfl : Value.string s = u := by simpa using hj'
                      exact hnew
                  intro v5 w5 hl5 hg5 hb5
                  obtain ⟨lp6, hc6⟩ := (HLP.out (.cells #[.string s] 9)).appended hg5 hl5 (fun b hb => by simpa using hb5 b hb)
                  have hbx6 : w5.cell? ⟨b0, 3, none⟩ = some (.slice (some ⟨b, off, none⟩) nL capL) := by rw [hc6]; exact hbx2.out _
                  obtain ⟨ao6, cap6, hv6⟩ := hl5.shape
                  have e6 : (ms ++ [Value.string s]).length = L + c + 1 := by simp [HML.out]
                  rw [e6] at hv6
                  subst hv6
                  have HM6 : Hid (ms ++ [Value.string s] = ls ++ (xsL.drop d).take (c + 1)) := by unfold Hid; rw [app_snoc HXI.out, ← HMS.out]
                  have HC6 : Hid (c + 1 = min (j + 1 - d) (M - L)) := by have := HCC.out; have := HM1.out; unfold Hid; omega
                  have HN6 : Hid (Value.int .u64 ((nx : Int) + c + 1) = .int .u64 ((nx + (c + 1) : Nat) : Int)) := by unfold Hid; congr 1
                  clear HLP hl5 hg5 hb5 hnew hc6 hci hbx hbx2 hbj
                  go_wp2
                  go_roundw
                  case rel => first | exact ⟨j + 1, c + 1, _, by omega, by omega, HC6.out, HM6.out, HN6.out, by go_num, by go_num, hbx6, lp6⟩ | ((repeat apply Exists.intro); exact ⟨⟨j + 1, c + 1, _, by omega, by omega, HC6.out, HM6.out, HN6.out, by go_num, by go_num, hbx6, lp6⟩, rfl⟩)
                  case measure => simp [intOf]; omega
                · have HC6 : Hid (c = min (j + 1 - d) (M - L)) := by have := HCC.out; unfold Hid; omega
                  by_cases hm1 : j = d + c
                  · have hbj : ((bs : Int) + (j : Int) == (nx : Int) + c) = true := by have := HD.out; simp; omega
                    have hLc : ¬ (L : Int) + c < M := by omega
                    have hLd : decide ((L : Int) + c < M) = false := by simp; omega
                    have HN6 : Hid (Value.int .u64 ((nx : Int) + c) = .int .u64 ((nx + c : Nat) : Int)) := by unfold Hid; congr 1
                    clear hm hm1
                    go_wp2
                    go_roundw
                    case rel => first | exact ⟨j + 1, c, ms, by omega, by omega, HC6.out, HMS.out, HN6.out, rfl, by go_num, hbx, lp⟩ | ((repeat apply Exists.intro); exact ⟨⟨j + 1, c, ms, by omega, by omega, HC6.out, HMS.out, HN6.out, rfl, by go_num, hbx, lp⟩, rfl⟩)
                    case measure => simp [intOf]; omega
                  · have hbj : ((bs : Int) + (j : Int) == (nx : Int) + c) = false := by have := HD.out; simp; omega
                    have HN6 : Hid (Value.int .u64 ((nx : Int) + c) = .int .u64 ((nx + c : Nat) : Int)) := by unfold Hid; congr 1
                    clear hm hm1
                    go_wp2
                    go_roundw
                    case rel => first | exact ⟨j + 1, c, ms, by omega, by omega, HC6.out, HMS.out, HN6.out, rfl, by go_num, hbx, lp⟩ | ((repeat apply Exists.intro); exact ⟨⟨j + 1, c, ms, by omega, by omega, HC6.out, HMS.out, HN6.out, rfl, by go_num, hbx, lp⟩, rfl⟩)
                    case measure => simp [intOf]; omega
              · obtain rfl : K = c := by have := HCC.out; have := HK.out; omega
                have hms := HMS.out
                rw [← hms] at lp
                have hnx6 := lp.next
                have hln6 := lp.len
                have hrm6 := lp.room
                rw [HML.out] at hln6 hrm6
                have eL : ((L + K : Nat) : Int) = (L : Int) + K := by omega
                have eN : ((nx + K : Nat) : Int) = (nx : Int) + K := by omega
                rw [eL] at hln6 hrm6
                rw [eN] at hnx6
                simp only [eN]
                have HN6 : Hid (Value.int .u64 ((nx : Int) + K) = .int .u64 ((nx + K : Nat) : Int)) := by unfold Hid; congr 1
                have HST : Hid (∀ m, Wt w (wr.drewN m) q M (nx + K) (.slice ao5 (L + K) cap5) ms) := fun m => lp.wt.still ((Turned.refl _ wr).drewN m)
                have hK256 : K ≤ 256 := by omega
                clear lp hms eL eN HMS HCC HK
                go_wp2_with fail
                refine hnx6.mono ?_
                rintro e w7 ⟨rfl, rfl⟩
                go_wp2_with fail
                refine hln6.mono ?_
                rintro e w7 ⟨rfl, rfl⟩
                go_wp2_with fail
                refine hrm6.mono ?_
                rintro e w7 ⟨rfl, m7, rfl⟩
                have st7 := HST.out m7
                clear hnx6 hln6 hrm6 HST hbx
                generalize wr.drewN m7 = w7 at *
                go_wp2
                go_roundw
                case rel => first | exact ⟨i + 1, nx + K, ms, by omega, by omega, by omega, HN6.out, by go_num, st7⟩ | ((repeat apply Exists.intro); exact ⟨⟨i + 1, nx + K, ms, by omega, by omega, by omega, HN6.out, by go_num, st7⟩, rfl⟩)
                case measure => simp [intOf]; omega
        · obtain ⟨N, HN⟩ : ∃ N : Nat, Hid (N = nr % 8) := ⟨_, rfl⟩
          have eN8 : (nr : Int) % 8 = (N : Int) := by have := HN.out; omega
          have hkI : (kd : Int) % 4 ≠ 3 := by omega
          have hkI2 : (0 : Int) < (kd : Int) % 4 := by omega
          have hkd : ((kd : Int) % 4 == 3) = false := by simp; omega
          by_cases hnn : N ≤ nx
          · obtain ⟨B, HB⟩ : ∃ B : Nat, Hid (B = nx - N) := ⟨_, rfl⟩
            have hwB := wrap_sub (n := nx) (ack := N) (d := B) (by have := HB.out; omega) (by omega)
            have hnnI : (N : Int) ≤ nx := by omega
            have hB64 : B ≤ nx := by have := HB.out; omega
            as_aux_lemma =>
            skip
            by_cases hbn : nx < B
            · exact absurd hbn (by omega)
            · have hbnI : ¬ (nx : Int) < B := by omega
              obtain ⟨d, HD⟩ : ∃ d, Hid (d = nx - B) := ⟨_, rfl⟩
              obtain ⟨K, HK⟩ : ∃ K, Hid (K = min (nL - d) (M - L)) := ⟨_, rfl⟩
              have hof := st.offer (.cells #[.int .u8 (kd : Nat), .int .u64 (bs : Nat), .int .u8 (nr : Nat), .slice aoL nL capL] 54) B (by omega) (by omega) aoL nL capL xsL HTX.out K (by rw [hL, ← HD.out]; exact HK.out)
              rw [← HD.out] at hof
              clear st
              go_wp2_with fail
              refine hof.mono ?_
              rintro e w4 ⟨rfl, hbox, lp⟩
              have hbx : w4.cell? ⟨wr.heap.size, 3, none⟩ = some (.slice aoL nL capL) := by rw [hbox]; exact hA3
              clear hof hA0 hA1 hA2 hA3 hbox
              go_wp2_with fail
              skip
              generalize wr.heap.size = b0 at *
              go_loopw [7, 8, 16, 17] (fun lv nv kv jv wx => ∃ (j c : Nat) (ms : List Value), j ≤ nL ∧ c ≤ j ∧ c = min (j - d) (M - L) ∧ ms = ls ++ (xsL.drop d).take c ∧ nv = .int .u64 ((nx + c : Nat) : Int) ∧ kv = .int .i64 c ∧ jv = .int .i64 j ∧ wx.cell? ⟨b0, 3, none⟩ = some (.slice aoL nL capL) ∧ Lp w wx q M (nx + K) (ls ++ (xsL.drop d).take K) lv ms b0) (fun _ _ _ jv _ => nL - (intOf jv).toNat)
              case atStart => exact ⟨0, 0, ls, by omega, by omega, by omega, by simp, rfl, rfl, rfl, hbx, lp⟩
              case round =>
                clear lp hbx
                obtain ⟨j, c, ms, hj, hcj, hc, hms, rfl, rfl, rfl, hbx, lp⟩ := hrel
                have HCC : Hid (c = min (j - d) (M - L)) := hc
                have HMS : Hid (ms = ls ++ (xsL.drop d).take c) := hms
                have hml : ms.length = L + min c (nL - d) := by rw [hms, List.length_append, List.length_take, List.length_drop, hL, ← HTL.out]
                clear hc hms
                obtain ⟨ao5, cap5, hv5⟩ := lp.shape
                have hcM : L + c ≤ M := by have := HCC.out; omega
                have hcn : c ≤ nL - d := by have := HCC.out; omega
                have hml2 : ms.length = L + c := by omega
                rw [hml2] at hv5
                subst hv5
                have HML : Hid (ms.length = L + c) := hml2
                clear hml hml2
                by_cases hjn : j < nL
                · have hjnI : (j : Int) < nL := by omega
                  have hwj : IntKind.u64.wrap ((j : Int)) = (j : Int) := by rw [IntKind.wrap_u64]; omega
                  have hwb : IntKind.u64.wrap ((B : Int) + (j : Int)) = (B : Int) + (j : Int) := by rw [IntKind.wrap_u64]; omega
                  have eN : ((nx + c : Nat) : Int) = (nx : Int) + c := by omega
                  simp only [eN]
                  by_cases hm : j = d + c ∧ L + c < M
                  · obtain ⟨hm1, hm2⟩ := hm
                    have HM1 : Hid (j = d + c) := hm1
                    clear hm1
                    have hbj : ((B : Int) + (j : Int) == (nx : Int) + c) = true := by have := HD.out; have := HM1.out; simp; omega
                    skip
                    have hLc : (L : Int) + c < M := by omega
                    obtain ⟨-, -, b, off, s, rfl, hxi, hci⟩ := (HTX.out.turned lp.turned).at hjn
                    have HXI : Hid ((xsL.drop d)[c]? = some (.string s)) := by unfold Hid; rw [List.getElem?_drop, ← HM1.out]; exact hxi
                    have HLP : Hid (∀ o, Lp w (wr.alloc o) q M (nx + K) (ls ++ (xsL.drop d).take K) (.slice ao5 (L + c) cap5) ms b0) := fun o => lp.still ((Turned.refl _ wr).alloc o)
                    have hbx2 : Hid (∀ o, (wr.alloc o).cell? ⟨b0, 3, none⟩ = some (.slice (some ⟨b, off, none⟩) nL capL)) := fun o => by rw [cell_block (Below.heap_alloc wr o _ lp.lt)]; exact hbx
                    have hnew := cell_one_new wr (.string s) 9 0 (.string s) rfl
                    have hwnc : IntKind.u64.wrap ((nx : Int) + c + 1) = (nx : Int) + c + 1 := by rw [IntKind.wrap_u64]; omega
                    clear lp hxi
                    go_wp2_with (first | (at_builtin; refine wpList_append_lst rfl _ _ rfl (.slice ao5 (L + c) cap5) ms rfl ?q1 [.string s] (by simp) (by simp) ?q2 ⟨wr.heap.size, 0, none⟩ 1 rfl ?q3 ?_))
                    case q1 => exact (HLP.out (.cells #[.string s] 9)).lst
                    case q2 => rw [HML.out]; simp; omega
                    case q3 =>
                      intro j' u hj'
                      match j', hj' with
                      | 0, hj' =>
                        obtain rfl : Value.string s = u := by simpa using hj'
                        exact hnew
                    intro v5 w5 hl5 hg5 hb5
                    obtain ⟨lp6, hc6⟩ := (HLP.out (.cells #[.string s] 9)).appended hg5 hl5 (fun b hb => by simpa using hb5 b hb)
                    have hbx6 : w5.cell? ⟨b0, 3, none⟩ = some (.slice (some ⟨b, off, none⟩) nL capL) := by rw [hc6]; exact hbx2.out _
                    obtain ⟨ao6, cap6, hv6⟩ := hl5.shape
                    have e6 : (ms ++ [Value.string s]).length = L + c + 1 := by simp [HML.out]
                    rw [e6] at hv6
                    subst hv6
                    have HM6 : Hid (ms ++ [Value.string s] = ls ++ (xsL.drop d).take (c + 1)) := by unfold Hid; rw [app_snoc HXI.out, ← HMS.out]
                    have HC6 : Hid (c + 1 = min (j + 1 - d) (M - L)) := by have := HCC.out; have := HM1.out; unfold Hid; omega
                    have HN6 : Hid (Value.int .u64 ((nx : Int) + c + 1) = .int .u64 ((nx + (c + 1) : Nat) : Int)) := by unfold Hid; congr 1
                    clear HLP hl5 hg5 hb5 hnew hc6 hci hbx hbx2 hbj
                    go_wp2
                    go_roundw
                    case rel => first | exact ⟨j + 1, c + 1, _, by omega, by omega, HC6.out, HM6.out, HN6.out, by go_num, by go_num, hbx6, lp6⟩ | ((repeat apply Exists.intro); exact ⟨⟨j + 1, c + 1, _, by omega, by omega, HC6.out, HM6.out, HN6.out, by go_num, by go_num, hbx6, lp6⟩, rfl⟩)
                    case measure => simp [intOf]; omega
                  · have HC6 : Hid (c = min (j + 1 - d) (M - L)) := by have := HCC.out; unfold Hid; omega
                    by_cases hm1 : j = d + c
                    · have hbj : ((B : Int) + (j : Int) == (nx : Int) + c) = true := by have := HD.out; simp; omega
                      have hLc : ¬ (L : Int) + c < M := by omega
                      have hLd : decide ((L : Int) + c < M) = false := by simp; omega
                      have HN6 : Hid (Value.int .u64 ((nx : Int) + c) = .int .u64 ((nx + c : Nat) : Int)) := by unfold Hid; congr 1
                      clear hm hm1
                      go_wp2
                      go_roundw
                      case rel => first | exact ⟨j + 1, c, ms, by omega, by omega, HC6.out, HMS.out, HN6.out, rfl, by go_num, hbx, lp⟩ | ((repeat apply Exists.intro); exact ⟨⟨j + 1, c, ms, by omega, by omega, HC6.out, HMS.out, HN6.out, rfl, by go_num, hbx, lp⟩, rfl⟩)
                      case measure => simp [intOf]; omega
                    · have hbj : ((B : Int) + (j : Int) == (nx : Int) + c) = false := by have := HD.out; simp; omega
                      have HN6 : Hid (Value.int .u64 ((nx : Int) + c) = .int .u64 ((nx + c : Nat) : Int)) := by unfold Hid; congr 1
                      clear hm hm1
                      go_wp2
                      go_roundw
                      case rel => first | exact ⟨j + 1, c, ms, by omega, by omega, HC6.out, HMS.out, HN6.out, rfl, by go_num, hbx, lp⟩ | ((repeat apply Exists.intro); exact ⟨⟨j + 1, c, ms, by omega, by omega, HC6.out, HMS.out, HN6.out, rfl, by go_num, hbx, lp⟩, rfl⟩)
                      case measure => simp [intOf]; omega
                · obtain rfl : K = c := by have := HCC.out; have := HK.out; omega
                  have hms := HMS.out
                  rw [← hms] at lp
                  have hnx6 := lp.next
                  have hln6 := lp.len
                  have hrm6 := lp.room
                  rw [HML.out] at hln6 hrm6
                  have eL : ((L + K : Nat) : Int) = (L : Int) + K := by omega
                  have eN : ((nx + K : Nat) : Int) = (nx : Int) + K := by omega
                  rw [eL] at hln6 hrm6
                  rw [eN] at hnx6
                  simp only [eN]
                  have HN6 : Hid (Value.int .u64 ((nx : Int) + K) = .int .u64 ((nx + K : Nat) : Int)) := by unfold Hid; congr 1
                  have HST : Hid (∀ m, Wt w (wr.drewN m) q M (nx + K) (.slice ao5 (L + K) cap5) ms) := fun m => lp.wt.still ((Turned.refl _ wr).drewN m)
                  have hK256 : K ≤ 256 := by omega
                  clear lp hms eL eN HMS HCC HK
                  go_wp2_with fail
                  refine hnx6.mono ?_
                  rintro e w7 ⟨rfl, rfl⟩
                  go_wp2_with fail
                  refine hln6.mono ?_
                  rintro e w7 ⟨rfl, rfl⟩
                  go_wp2_with fail
                  refine hrm6.mono ?_
                  rintro e w7 ⟨rfl, m7, rfl⟩
                  have st7 := HST.out m7
                  clear hnx6 hln6 hrm6 HST hbx
                  generalize wr.drewN m7 = w7 at *
                  go_wp2
                  go_roundw
                  case rel => first | exact ⟨i + 1, nx + K, ms, by omega, by omega, by omega, HN6.out, by go_num, st7⟩ | ((repeat apply Exists.intro); exact ⟨⟨i + 1, nx + K, ms, by omega, by omega, by omega, HN6.out, by go_num, st7⟩, rfl⟩)
                  case measure => simp [intOf]; omega
          · have hnnI : ¬ (N : Int) ≤ nx := by omega
            as_aux_lemma =>
            skip
            by_cases hbn : nx < bs
            · have hbnI : (nx : Int) < bs := by omega
              have st1 := st.still ((Turned.refl _ wr).alloc (.cells #[.int .u8 (kd : Nat), .int .u64 (bs : Nat), .int .u8 (nr : Nat), .slice aoL nL capL] 54))
              have hof := st1.refuse bs hbn (.slice aoL nL capL)
              clear st
              go_wp2_with fail
              refine hof.mono ?_
              rintro e w4 ⟨rfl, rfl⟩
              clear hof hA0 hA1 hA2 hA3
              generalize wr.alloc (.cells #[.int .u8 (kd : Nat), .int .u64 (bs : Nat), .int .u8 (nr : Nat), .slice aoL nL capL] 54) = w4 at *
              go_wp2
              go_roundw
              case rel => first | exact ⟨i + 1, nx, ls, by omega, by omega, by omega, rfl, by go_num, st1⟩ | ((repeat apply Exists.intro); exact ⟨⟨i + 1, nx, ls, by omega, by omega, by omega, rfl, by go_num, st1⟩, rfl⟩)
              case measure => simp [intOf]; omega
            · have hbnI : ¬ (nx : Int) < bs := by omega
              obtain ⟨d, HD⟩ : ∃ d, Hid (d = nx - bs) := ⟨_, rfl⟩
              obtain ⟨K, HK⟩ : ∃ K, Hid (K = min (nL - d) (M - L)) := ⟨_, rfl⟩
              have hof := st.offer (.cells #[.int .u8 (kd : Nat), .int .u64 (bs : Nat), .int .u8 (nr : Nat), .slice aoL nL capL] 54) bs (by omega) (by omega) aoL nL capL xsL HTX.out K (by rw [hL, ← HD.out]; exact HK.out)
              rw [← HD.out] at hof
              clear st
              go_wp2_with fail
              refine hof.mono ?_
              rintro e w4 ⟨rfl, hbox, lp⟩
              have hbx : w4.cell? ⟨wr.heap.size, 3, none⟩ = some (.slice aoL nL capL) := by rw [hbox]; exact hA3
              clear hof hA0 hA1 hA2 hA3 hbox
              go_wp2_with fail
              skip
              generalize wr.heap.size = b0 at *
              go_loopw [7, 8, 16, 17] (fun lv nv kv jv wx => ∃ (j c : Nat) (ms : List Value), j ≤ nL ∧ c ≤ j ∧ c = min (j - d) (M - L) ∧ ms = ls ++ (xsL.drop d).take c ∧ nv = .int .u64 ((nx + c : Nat) : Int) ∧ kv = .int .i64 c ∧ jv = .int .i64 j ∧ wx.cell? ⟨b0, 3, none⟩ = some (.slice aoL nL capL) ∧ Lp w wx q M (nx + K) (ls ++ (xsL.drop d).take K) lv ms b0) (fun _ _ _ jv _ => nL - (intOf jv).toNat)
              case atStart => exact ⟨0, 0, ls, by omega, by omega, by omega, by simp, rfl, rfl, rfl, hbx, lp⟩
              case round =>
                clear lp hbx
                obtain ⟨j, c, ms, hj, hcj, hc, hms, rfl, rfl, rfl, hbx, lp⟩ := hrel
                have HCC : Hid (c = min (j - d) (M - L)) := hc
                have HMS : Hid (ms = ls ++ (xsL.drop d).take c) := hms
                have hml : ms.length = L + min c (nL - d) := by rw [hms, List.length_append, List.length_take, List.length_drop, hL, ← HTL.out]
                clear hc hms
                obtain ⟨ao5, cap5, hv5⟩ := lp.shape
                have hcM : L + c ≤ M := by have := HCC.out; omega
                have hcn : c ≤ nL - d := by have := HCC.out; omega
                have hml2 : ms.length = L + c := by omega
                rw [hml2] at hv5
                subst hv5
                have HML : Hid (ms.length = L + c) := hml2
                clear hml hml2
                by_cases hjn : j < nL
                · have hjnI : (j : Int) < nL := by omega
                  have hwj : IntKind.u64.wrap ((j : Int)) = (j : Int) := by rw [IntKind.wrap_u64]; omega
                  have hwb : IntKind.u64.wrap ((bs : Int) + (j : Int)) = (bs : Int) + (j : Int) := by rw [IntKind.wrap_u64]; omega
                  have eN : ((nx + c : Nat) : Int) = (nx : Int) + c := by omega
                  simp only [eN]
                  by_cases hm : j = d + c ∧ L + c < M
                  · obtain ⟨hm1, hm2⟩ := hm
                    have HM1 : Hid (j = d + c) := hm1
                    clear hm1
                    have hbj : ((bs : Int) + (j : Int) == (nx : Int) + c) = true := by have := HD.out; have := HM1.out; simp; omega
                    skip
                    have hLc : (L : Int) + c < M := by omega
                    obtain ⟨-, -, b, off, s, rfl, hxi, hci⟩ := (HTX.out.turned lp.turned).at hjn
                    have HXI : Hid ((xsL.drop d)[c]? = some (.string s)) := by unfold Hid; rw [List.getElem?_drop, ← HM1.out]; exact hxi
                    have HLP : Hid (∀ o, Lp w (wr.alloc o) q M (nx + K) (ls ++ (xsL.drop d).take K) (.slice ao5 (L + c) cap5) ms b0) := fun o => lp.still ((Turned.refl _ wr).alloc o)
                    have hbx2 : Hid (∀ o, (wr.alloc o).cell? ⟨b0, 3, none⟩ = some (.slice (some ⟨b, off, none⟩) nL capL)) := fun o => by rw [cell_block (Below.heap_alloc wr o _ lp.lt)]; exact hbx
                    have hnew := cell_one_new wr (.string s) 9 0 (.string s) rfl
                    have hwnc : IntKind.u64.wrap ((nx : Int) + c + 1) = (nx : Int) + c + 1 := by rw [IntKind.wrap_u64]; omega
                    clear lp hxi
                    go_wp2_with (first | (at_builtin; refine wpList_append_lst rfl _ _ rfl (.slice ao5 (L + c) cap5) ms rfl ?q1 [.string s] (by simp) (by simp) ?q2 ⟨wr.heap.size, 0, none⟩ 1 rfl ?q3 ?_))
                    case q1 => exact (HLP.out (.cells #[.string s] 9)).lst
                    case q2 => rw [HML.out]; simp; omega
                    case q3 =>
                      intro j' u hj'
                      match j', hj' with
                      | 0, hj' =>
                        obtain rfl : Value.string s = u := by simpa using hj'
                        exact hnew
                    intro v5 w5 hl5 hg5 hb5
                    obtain ⟨lp6, hc6⟩ := (HLP.out (.cells #[.string s] 9)).appended hg5 hl5 (fun b hb => by simpa using hb5 b hb)
                    have hbx6 : w5.cell? ⟨b0, 3, none⟩ = some (.slice (some ⟨b, off, none⟩) nL capL) := by rw [hc6]; exact hbx2.out _
                    obtain ⟨ao6, cap6, hv6⟩ := hl5.shape
                    have e6 : (ms ++ [Value.string s]).length = L + c + 1 := by simp [HML.out]
                    rw [e6] at hv6
                    subst hv6
                    have HM6 : Hid (ms ++ [Value.string s] = ls ++ (xsL.drop d).take (c + 1)) := by unfold Hid; rw [app_snoc HXI.out, ← HMS.out]
                    have HC6 : Hid (c + 1 = min (j + 1 - d) (M - L)) := by have := HCC.out; have := HM1.out; unfold Hid; omega
                    have HN6 : Hid (Value.int .u64 ((nx : Int) + c + 1) = .int .u64 ((nx + (c + 1) : Nat) : Int)) := by unfold Hid; congr 1
                    clear HLP hl5 hg5 hb5 hnew hc6 hci hbx hbx2 hbj
                    go_wp2
                    go_roundw
                    case rel => first | exact ⟨j + 1, c + 1, _, by omega, by omega, HC6.out, HM6.out, HN6.out, by go_num, by go_num, hbx6, lp6⟩ | ((repeat apply Exists.intro); exact ⟨⟨j + 1, c + 1, _, by omega, by omega, HC6.out, HM6.out, HN6.out, by go_num, by go_num, hbx6, lp6⟩, rfl⟩)
                    case measure => simp [intOf]; omega
                  · have HC6 : Hid (c = min (j + 1 - d) (M - L)) := by have := HCC.out; unfold Hid; omega
                    by_cases hm1 : j = d + c
                    · have hbj : ((bs : Int) + (j : Int) == (nx : Int) + c) = true := by have := HD.out; simp; omega
                      have hLc : ¬ (L : Int) + c < M := by omega
                      have hLd : decide ((L : Int) + c < M) = false := by simp; omega
                      have HN6 : Hid (Value.int .u64 ((nx : Int) + c) = .int .u64 ((nx + c : Nat) : Int)) := by unfold Hid; congr 1
                      clear hm hm1
                      go_wp2
                      go_roundw
                      case rel => first | exact ⟨j + 1, c, ms, by omega, by omega, HC6.out, HMS.out, HN6.out, rfl, by go_num, hbx, lp⟩ | ((repeat apply Exists.intro); exact ⟨⟨j + 1, c, ms, by omega, by omega, HC6.out, HMS.out, HN6.out, rfl, by go_num, hbx, lp⟩, rfl⟩)
                      case measure => simp [intOf]; omega
                    · have hbj : ((bs : Int) + (j : Int) == (nx : Int) + c) = false := by have := HD.out; simp; omega
                      have HN6 : Hid (Value.int .u64 ((nx : Int) + c) = .int .u64 ((nx + c : Nat) : Int)) := by unfold Hid; congr 1
                      clear hm hm1
                      go_wp2
                      go_roundw
                      case rel => first | exact ⟨j + 1, c, ms, by omega, by omega, HC6.out, HMS.out, HN6.out, rfl, by go_num, hbx, lp⟩ | ((repeat apply Exists.intro); exact ⟨⟨j + 1, c, ms, by omega, by omega, HC6.out, HMS.out, HN6.out, rfl, by go_num, hbx, lp⟩, rfl⟩)
                      case measure => simp [intOf]; omega
                · obtain rfl : K = c := by have := HCC.out; have := HK.out; omega
                  have hms := HMS.out
                  rw [← hms] at lp
                  have hnx6 := lp.next
                  have hln6 := lp.len
                  have hrm6 := lp.room
                  rw [HML.out] at hln6 hrm6
                  have eL : ((L + K : Nat) : Int) = (L : Int) + K := by omega
                  have eN : ((nx + K : Nat) : Int) = (nx : Int) + K := by omega
                  rw [eL] at hln6 hrm6
                  rw [eN] at hnx6
                  simp only [eN]
                  have HN6 : Hid (Value.int .u64 ((nx : Int) + K) = .int .u64 ((nx + K : Nat) : Int)) := by unfold Hid; congr 1
                  have HST : Hid (∀ m, Wt w (wr.drewN m) q M (nx + K) (.slice ao5 (L + K) cap5) ms) := fun m => lp.wt.still ((Turned.refl _ wr).drewN m)
                  have hK256 : K ≤ 256 := by omega
                  clear lp hms eL eN HMS HCC HK
                  go_wp2_with fail
                  refine hnx6.mono ?_
                  rintro e w7 ⟨rfl, rfl⟩
                  go_wp2_with fail
                  refine hln6.mono ?_
                  rintro e w7 ⟨rfl, rfl⟩
                  go_wp2_with fail
                  refine hrm6.mono ?_
                  rintro e w7 ⟨rfl, m7, rfl⟩
                  have st7 := HST.out m7
                  clear hnx6 hln6 hrm6 HST hbx
                  generalize wr.drewN m7 = w7 at *
                  go_wp2
                  go_roundw
                  case rel => first | exact ⟨i + 1, nx + K, ms, by omega, by omega, by omega, HN6.out, by go_num, st7⟩ | ((repeat apply Exists.intro); exact ⟨⟨i + 1, nx + K, ms, by omega, by omega, by omega, HN6.out, by go_num, st7⟩, rfl⟩)
                  case measure => simp [intOf]; omega
      · have hb := st.turned.below (Nat.le_refl _) (fun _ hf => hf.elim)
        have hlt3 : ((i : Int) < len → ¬ (i : Int) < 100) := by omega
        clear st
        by_cases hl1 : (i : Int) < len
        · have hl2 := hlt3 hl1
          go_wp2
          go_ret
          exact ⟨rfl, hb⟩
        · go_wp2
          go_ret
          exact ⟨rfl, hb⟩

set_option maxRecDepth 100000 in
theorem lifted (os : Os) (started : os.Started) (H : Type) (enc : TypeId × Value → H) :
    ReturnsInHanded {} Try.checked os 8 .any (Rows.recvPlaysSpec.pre6 enc Try.prog Try.f8 Rows.recvPlaysRow.domain false) (Rows.recvPlaysSpec.post enc Try.prog Try.f8 false true false false) := by
  refine returnsInHanded_of_change (C := Try.checked) own started (by kernel_rfl) Try.func8
    (ChangeSpec.witness6 (enc := enc) (C := Try.checked) false ⟨#[], #[.int .i64 0, .slice none 0 0], []⟩ 8 (by kernel_rfl) (by kernel_rfl) (by kernel_rfl) (by kernel_rfl)) ?_
  intro W base args ds gs before hval0 hW hcnd _
  have hval : ∀ (j : Nat) t v, Try.f8.params[j]? = some t → args[j]? = some v → Value.okWide Try.prog W .any base t v := hval0
  have hW' := hW
  obtain ⟨p, q, hA0, hV, rfl, hfz, hnd⟩ := hW
  have hA : DataW.TrodAll enc Try.prog W 0 (fun _ => true) true Try.f8.params.toList args.toList ds p := hA0
  rw [Try.params8] at hA hval
  obtain ⟨v0, vs0, d0, ds0, p0, q0, hargs0, rfl, rfl, h0, r0⟩ := trodAll_cons hA
  obtain ⟨v1, vs1, d1, ds1, p1, q1, hargs1, rfl, rfl, h1, r1⟩ := trodAll_cons r0
  obtain ⟨rfl, rfl, rfl⟩ := trodAll_nil r1
  obtain rfl : args = #[v0, v1] := by cases args; simp_all
  obtain ⟨rfl, rfl⟩ := trodVars_none hV
  obtain ⟨a0, rfl, rfl, rfl, w0⟩ := open_int Try.underlying3 (hval 0 3 v0 rfl rfl) h0
  obtain ⟨a1, len1, cap1, rfl⟩ := okWide_slice Try.underlying49 (hval 1 49 v1 rfl rfl)
  have k1 := h1
  have lt1 : ∀ x ∈ p1, x.block < W.heap.size := by obtain ⟨m, hm⟩ := k1; exact DataW.trod_lt m _ _ _ hm
  obtain ⟨xs1, hx1⟩ := open_rcs h1
  clear hA0 hval0
  refine (walk W a0 (in_of_wf w0) a1 len1 cap1 xs1 hx1).mono fun e W' ⟨he, bel⟩ => ?_
  subst he
  exact ⟨_, rfl, _, _, _, [], _, [], hW', trodAll_mk1 (shut_bool Try.underlying4 _), (trodAll_cons_mk (shut_int Try.underlying3 w0) (trodAll_cons_mk (Below.trod laidOut (by kernel_rfl) (of_decide_eq_true (by kernel_rfl)) k1 bel lt1) trodAll_mk0)), rfl, bel.frame _, fun h => by cases h⟩

theorem over : Rows.recvPlaysRow.holds Try.pinned (OpenSpec.ofChange Rows.recvPlaysSpec) :=
  OpenClaim.holds_of_wide 8 Try.f8 rfl rfl rfl rfl rfl rfl rfl ⟨rfl, rfl, rfl, rfl, rfl⟩ rfl rfl rfl rfl rfl (by kernel_rfl) Try.func8 (by kernel_rfl)
    (of_decide_eq_true (by kernel_rfl)) (by unfold Func.isWrapper; first | (rw [if_pos (by decide +kernel)]; kernel_rfl) | (rw [if_neg (by decide +kernel)]; exact ⟨rfl, rfl⟩))
    (fun os started H enc _ => lifted os started H enc)

end Go.Proofs.Ytlifoojojclllaa.recvPlays
namespace Go.Proofs.Ytlifoojojclllaa
theorem recvPlays_holds : Rows.RecvPlaysSaid := recvPlays.over
#print axioms recvPlays_holds
end Go.Proofs.Ytlifoojojclllaa
