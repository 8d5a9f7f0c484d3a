/-
  Proved: for all numbers nodes, every, miss, who and every script, BeatPlays(nodes, every, miss, who, script) returns true: any beats that come, and ticks: when the own beat is due, and of whom was heard of late; the document's example holds. No condition.
-/
import Derived.Test.YtofhkfbibdkjgaaRows
import Derived.Test.YtofhkfbibdkjgaaBPlay
import Derived.Deep.CutRange
import Derived.Deep.CutBlock
import Derived.ProofKit
import Derived.OpenShut
import Derived.ShutString
import Derived.ChangeOld
import Derived.Below
namespace Go.Proofs.Ytofhkfbibdkjgaa.beatPlays
open Go.ChangeShapes Go.WideShapes Go.ChangeAt Go.RowKit
open Go.ChangeMaps (open_string shut_string)
set_option linter.unusedVariables false

theorem right_plays (n v m : Nat) : Right ((1 + n % 16 : Nat) : Int) ((1 + v % 6 : Nat) : Int) ((2 + v % 6 + m % 12 : Nat) : Int) 1 1 1 := by unfold Right; omega
def zs16 : Array Value := madeCells #[.int .i64 0] 16
theorem zeros16 : ∀ j, j < 16 → zs16[j]? = some (.int .i64 0) := by
  intro j hj
  unfold zs16 madeCells
  rw [Array.getElem?_map, Array.getElem?_range, if_pos hj]
  simp [Nat.mod_one]
theorem make16 (w : World) : (Instr.makeSlice 36 (.int .i64 16) (.int .i64 16)).run Try.prog w = .ok (.slice (some ⟨w.heap.size, 0, none⟩) 16 16) (w.alloc (.cells zs16 3)) := by
  obtain ⟨i, hi, hz, hs, hb⟩ := info_parts info3
  have hr := run_make (P := Try.prog) w 36 3 i (.int .i64 0) und39 hi hz .i64 .i64 16 16 (by omega) (by omega) (by rw [hb]; omega) (by omega)
  rw [hs] at hr
  exact hr

set_option maxRecDepth 20000 in
set_option maxHeartbeats 2000000 in
theorem walk (w : World) (n : Nat) (hn : n < 256) (v : Nat) (hv : v < 256) (m : Nat) (hm : m < 256) (u : Nat) (hu : u < 256) (a : Option Addr) (len cap : Nat) (xs : List Nat) (hx : Nums w .u8 a len 256 xs) :
    Calls Try.prog 4 #[.int .u8 (n : Nat), .int .u8 (v : Nat), .int .u8 (m : Nat), .int .u8 (u : Nat), .slice a len cap] w fun e w' => e = .returned (.bool true) ∧ Below w.heap.size w w' := by
  have hR := right_plays n v m
  have hc := fun w => config_any w n v m hn hv hm
  obtain ⟨N, hN⟩ : ∃ N, 1 + n % 16 = N := ⟨_, rfl⟩
  obtain ⟨B, hB⟩ : ∃ B, 1 + v % 6 = B := ⟨_, rfl⟩
  obtain ⟨M, hM⟩ : ∃ M, 2 + v % 6 + m % 12 = M := ⟨_, rfl⟩
  have hB1 : 1 ≤ B := by omega
  have hB6 : B ≤ 6 := by omega
  have hN1 : 1 ≤ N := by omega
  have hN16 : N ≤ 16 := by omega
  have hM18 : M ≤ 18 := by omega
  rw [hN, hB, hM] at hR
  simp only [hN, hB, hM] at hc
  clear hN hB hM
  obtain ⟨s, hs⟩ : ∃ s : Nat, (u : Int) % (N : Int) = s := ⟨u % N, by simp⟩
  have hsN : s < N := by
    have := Int.emod_lt_of_pos (u : Int) (show (0 : Int) < (N : Int) by omega)
    omega
  have hnew := fun w => bnew_any w N B M 1 1 1 hR s hsN
  have HX : Hid (Nums w .u8 a len 256 xs) := hx
  have hlen := hx.max
  clear hx hR
  go_enter Try.func4, Try.ntmps4
  go_wp2_with fail
  refine (awake_any _).mono ?_
  rintro e w1 ⟨rfl, t1⟩
  go_wp2_with fail
  refine (hc _).mono ?_
  rintro e w2 ⟨rfl, t2⟩
  unfold cfg at hnew ⊢
  have t12 : Hid (Turned (fun _ => False) w w2) := t1.trans t2 (fun _ f => f.elim)
  clear t1 t2 hc
  go_wp2_with fail
  have t3 : Hid (Turned (fun _ => False) w (w2.alloc (Obj.cells #[.int .i64 (N : Nat), .int .i64 (B : Nat), .int .i64 (M : Nat), .int .i64 1, .int .i64 1, .int .i64 1] 23))) := t12.out.alloc _
  have hg : (w2.alloc (Obj.cells #[.int .i64 (N : Nat), .int .i64 (B : Nat), .int .i64 (M : Nat), .int .i64 1, .int .i64 1, .int .i64 1] 23)).heap[w2.heap.size]? = some (.cells #[.int .i64 (N : Nat), .int .i64 (B : Nat), .int .i64 (M : Nat), .int .i64 1, .int .i64 1, .int .i64 1] 23 (0, 0)) := heap_alloc_new _ _
  have hgl : w2.heap.size < (w2.alloc (Obj.cells #[.int .i64 (N : Nat), .int .i64 (B : Nat), .int .i64 (M : Nat), .int .i64 1, .int .i64 1, .int .i64 1] 23)).heap.size := by simp
  generalize w2.alloc (Obj.cells #[.int .i64 (N : Nat), .int .i64 (B : Nat), .int .i64 (M : Nat), .int .i64 1, .int .i64 1, .int .i64 1] 23) = w3 at *
  generalize w2.heap.size = g at *
  clear t12
  refine (hnew w3).mono ?_
  rintro e w4 ⟨q, F4, rfl, b4, o4⟩
  have HG : Hid (∀ wr, Turned (fun _ => False) w3 wr → wr.cell? ⟨g, 0, none⟩ = some (.int .i64 (N : Nat)) ∧ wr.cell? ⟨g, 1, none⟩ = some (.int .i64 (B : Nat)) ∧ wr.cell? ⟨g, 2, none⟩ = some (.int .i64 (M : Nat))) := fun wr t => by
    have hh := (t.block g hgl (fun f => f)).trans hg
    exact cfg_load hh
  have HS0 : Hid (Sp w3 (w4.alloc (.cells zs16 3)) q w4.heap.size s N B M 0 0) := sp_new b4 o4 _ zeros16
  have hmk := make16 w4
  clear hg hgl hnew b4 o4
  generalize zs16 = Z at *
  go_wp2_with fail
  generalize w4.alloc (.cells Z 3) = w5 at *
  generalize w4.heap.size = L at *
  clear hs hmk
  go_loopw [16, 17] (fun tv iv wr => ∃ k t : Nat, k ≤ len ∧ k ≤ 200 ∧ t ≤ k ∧ tv = .int .i64 t ∧ iv = .int .i64 k ∧ Sp w3 wr q L s N B M k t) (fun _ iv _ => 200 - (intOf iv).toNat)
  case atStart => exact ⟨0, 0, by omega, by omega, by omega, rfl, rfl, HS0.out⟩
  case round =>
    clear HS0
    obtain ⟨k, t, hk, hk2, ht, rfl, rfl, F, left, hp, hbig, hle⟩ := hrel
    by_cases hlt : k < len ∧ k < 200
    · obtain ⟨h1, h2⟩ := hlt
      have h1I : (k : Int) < len := by omega
      have h2I : (k : Int) < 200 := by omega
      obtain ⟨ad, rfl, _, hc⟩ := (HX.out.turned (t3.out.trans hp.turned (fun _ f => .inl f))).cell (by omega)
      have dk := hc k h1
      have hxk := HX.out.lt k
      generalize xs.getD k 0 = x at *
      clear hc
      have HP : Hid (Pw w3 wr F q L s N B M (1 + k) (rOf B t) left left ∧ (∀ j, N ≤ j → left j = 0) ∧ ∀ j, left j ≤ M) := ⟨hp, hbig, hle⟩
      clear hp hbig hle
      go_upto_if 61 with fail
      go_cut [16, 19, 20, 21, 22] from 55 to 115 (fun tv _ _ _ _ wx => ∃ t' : Nat, t' ≤ k + 1 ∧ tv = .int .i64 t' ∧ Sp w3 wx q L s N B M (k + 1) t')
      case rest =>
        clear HP dk
        obtain ⟨t9, ht9, rfl, F9, left9, hp9, hbig9, hle9⟩ := hcut
        have HP9 : Hid (Pw w3 wc F9 q L s N B M (1 + (k + 1)) (rOf B t9) left9 left9 ∧ (∀ j, N ≤ j → left9 j = 0) ∧ ∀ j, left9 j ≤ M) := ⟨hp9, hbig9, hle9⟩
        clear hp9 hbig9 hle9
        as_aux_lemma =>
        go_wp2_with fail
        refine (refWith_any wc 0 (by omega) (s : Int)).mono ?_
        rintro e w6 ⟨rfl, rfl⟩
        go_wp2_with fail
        go_loopw [23, 24] (fun sv iv wr => ∃ j : Nat, j ≤ 16 ∧ iv = .int .i64 j ∧ sv = .int .u16 (lawN s left9 j : Nat) ∧ wr = wc) (fun _ iv _ => 16 - (intOf iv).toNat)
        case atStart => exact ⟨0, by omega, rfl, rfl, rfl⟩
        case round =>
          obtain ⟨j, hj, rfl, rfl, rfl⟩ := hrel
          by_cases hj16 : j = 16
          · subst hj16
            have he := est_any HP9.out.1.bt
            rw [est_law hsN hN16 HP9.out.2.1] at he
            generalize lawN s left9 16 = z at *
            go_wp2_with fail
            refine he.mono ?_
            rintro e w7 ⟨rfl, t7⟩
            have HS7 : Hid (Sp w3 w7 q L s N B M (k + 1) t9) := ⟨F9, left9, HP9.out.1.still t7, HP9.out.2.1, HP9.out.2.2⟩
            clear he t7
            go_wp2_with fail
            go_roundw
            case rel => first | exact ⟨k + 1, t9, by omega, by omega, by omega, rfl, by go_num, HS7.out⟩ | ((repeat apply Exists.intro); exact ⟨⟨k + 1, t9, by omega, by omega, by omega, rfl, by go_num, HS7.out⟩, rfl⟩)
            case measure => simp [intOf]; omega
          · have hjI : (j : Int) < 16 := by omega
            have dj := HP9.out.1.cell j (by omega)
            have hll := lawN_lt s left9 j
            by_cases h0 : left9 j = 0
            · have HS : Hid (lawN s left9 (j + 1) = lawN s left9 j) := by unfold Hid; rw [lawN, if_neg (by omega)]
              rw [h0] at dj
              generalize lawN s left9 j = z at *
              clear h0
              go_wp2_with fail
              go_roundw
              case rel => exact ⟨j + 1, by omega, by go_num, by rw [HS.out], trivial⟩
              case measure => simp [intOf]; omega
            · have hpos : (0 : Int) < (left9 j : Nat) := by omega
              have HS : Hid (lawN s left9 (j + 1) = withN (lawN s left9 j) (j : Int)) := by unfold Hid; rw [lawN, if_pos (by omega)]
              have hw := fun w => refWith_any w (lawN s left9 j) hll (j : Int)
              generalize lawN s left9 j = z at *
              clear h0
              go_wp2_with fail
              refine (hw _).mono ?_
              rintro e w7 ⟨rfl, rfl⟩
              go_wp2_with fail
              go_roundw
              case rel => exact ⟨j + 1, by omega, by go_num, by rw [HS.out], trivial⟩
              case measure => simp [intOf]; omega
      by_cases hx128 : 128 ≤ x
      · have hxI : (128 : Int) ≤ x := by omega
        by_cases hd : t % B = 0
        · as_aux_lemma =>
          have hmod : (t : Int) % (B : Int) = 0 := by exact_mod_cast hd
          obtain ⟨hr, hr2⟩ := rOf_due hB1 hd
          have hb := HP.out.1.bt
          have htk : Calls Try.prog 14 #[.pointer (some ⟨q, 0, none⟩)] wr fun e w' => e = .returned (.bool true) ∧ ∃ F', Bt w' F' q s N B M (1 + k + 1) (rOf B (t + 1)) (fun j => left j - 1) ∧ Go2 F wr F' w' := by
            rw [hr2]
            rw [hr] at hb
            exact tick0_due hb (by omega)
          clear hr hr2 hb hd
          go_wp2_with fail
          refine htk.mono ?_
          rintro e w5 ⟨rfl, F5, b5, g5⟩
          have hp5 := HP.out.1.go g5 b5
          obtain ⟨g0, g1, g2⟩ := HG.out w5 hp5.turned
          have HP5 : Hid (Pw w3 w5 F5 q L s N B M (1 + k + 1) (rOf B (t + 1)) (fun j => left j - 1) (dn left 0)) := by rw [dn_zero]; exact hp5
          clear hp5 b5 g5 htk dk
          go_wp2_with fail
          clear g0 g1 g2 hmod
          go_loopw [20] (fun iv wr => ∃ j : Nat, j ≤ 16 ∧ iv = .int .i64 j ∧ Pw w3 wr F5 q L s N B M (1 + k + 1) (rOf B (t + 1)) (fun j => left j - 1) (dn left j)) (fun iv _ => 16 - (intOf iv).toNat)
          case atStart => exact ⟨0, by omega, rfl, HP5.out⟩
          case round =>
            obtain ⟨j, hj, rfl, hp⟩ := hrel
            by_cases hj16 : j = 16
            · subst hj16
              have HS6 : Hid (Sp w3 wr q L s N B M (k + 1) (t + 1)) := by
                refine ⟨F5, fun j => left j - 1, hp.same (fun j hj => by simp [dn, hj]), fun j hj => ?_, fun j => ?_⟩
                · show left j - 1 = 0
                  rw [HP.out.2.1 j hj]
                · have := HP.out.2.2 j
                  show left j - 1 ≤ M
                  omega
              clear hp
              go_wp2_with fail
              go_meet
              exact ⟨t + 1, by omega, by go_num, HS6.out⟩
            · have hjI : (j : Int) < 16 := by omega
              have dj := hp.cell j (by omega)
              rw [dn_at] at dj
              have fj := hp.fr j
              by_cases h0 : left j = 0
              · rw [h0] at dj
                have HQ : Hid (Pw w3 wr F5 q L s N B M (1 + k + 1) (rOf B (t + 1)) (fun j => left j - 1) (dn left (j + 1))) := by rw [← dn_skip left j h0]; exact hp
                clear hp h0
                go_wp2_with fail
                go_roundw
                case rel => exact ⟨j + 1, by omega, by go_num, HQ.out⟩
                case measure => simp [intOf]; omega
              · have hpos : (0 : Int) < (left j : Nat) := by omega
                have hlm := HP.out.2.2 j
                have hset := hp.set (j := j) (by omega) (left j - 1)
                rw [dn_set, show ((left j - 1 : Nat) : Int) = (left j : Int) - 1 by omega] at hset
                have HQ : Hid (Pw w3 (wr.setCell ⟨L, j, none⟩ (.int .i64 ((left j : Int) - 1))) F5 q L s N B M (1 + k + 1) (rOf B (t + 1)) (fun j => left j - 1) (dn left (j + 1))) := hset
                clear hp h0 hset
                go_wp2_with fail
                go_roundw
                case rel => exact ⟨j + 1, by omega, by go_num, HQ.out⟩
                case measure => simp [intOf]; omega
        · as_aux_lemma =>
          have hmod : ¬ ((t : Int) % (B : Int) = 0) := fun h => hd (by exact_mod_cast h)
          obtain ⟨hr, hr2⟩ := rOf_on hB1 hd
          have hb := HP.out.1.bt
          have htk : Calls Try.prog 14 #[.pointer (some ⟨q, 0, none⟩)] wr fun e w' => e = .returned (.bool false) ∧ ∃ F', Bt w' F' q s N B M (1 + k + 1) (rOf B (t + 1)) (fun j => left j - 1) ∧ Go2 F wr F' w' := by
            rw [hr2]
            exact tick0_not hb hr (by omega)
          clear hr hr2 hb hd
          go_wp2_with fail
          refine htk.mono ?_
          rintro e w5 ⟨rfl, F5, b5, g5⟩
          have hp5 := HP.out.1.go g5 b5
          obtain ⟨g0, g1, g2⟩ := HG.out w5 hp5.turned
          have HP5 : Hid (Pw w3 w5 F5 q L s N B M (1 + k + 1) (rOf B (t + 1)) (fun j => left j - 1) (dn left 0)) := by rw [dn_zero]; exact hp5
          clear hp5 b5 g5 htk dk
          go_wp2_with fail
          clear g0 g1 g2 hmod
          go_loopw [20] (fun iv wr => ∃ j : Nat, j ≤ 16 ∧ iv = .int .i64 j ∧ Pw w3 wr F5 q L s N B M (1 + k + 1) (rOf B (t + 1)) (fun j => left j - 1) (dn left j)) (fun iv _ => 16 - (intOf iv).toNat)
          case atStart => exact ⟨0, by omega, rfl, HP5.out⟩
          case round =>
            obtain ⟨j, hj, rfl, hp⟩ := hrel
            by_cases hj16 : j = 16
            · subst hj16
              have HS6 : Hid (Sp w3 wr q L s N B M (k + 1) (t + 1)) := by
                refine ⟨F5, fun j => left j - 1, hp.same (fun j hj => by simp [dn, hj]), fun j hj => ?_, fun j => ?_⟩
                · show left j - 1 = 0
                  rw [HP.out.2.1 j hj]
                · have := HP.out.2.2 j
                  show left j - 1 ≤ M
                  omega
              clear hp
              go_wp2_with fail
              go_meet
              exact ⟨t + 1, by omega, by go_num, HS6.out⟩
            · have hjI : (j : Int) < 16 := by omega
              have dj := hp.cell j (by omega)
              rw [dn_at] at dj
              have fj := hp.fr j
              by_cases h0 : left j = 0
              · rw [h0] at dj
                have HQ : Hid (Pw w3 wr F5 q L s N B M (1 + k + 1) (rOf B (t + 1)) (fun j => left j - 1) (dn left (j + 1))) := by rw [← dn_skip left j h0]; exact hp
                clear hp h0
                go_wp2_with fail
                go_roundw
                case rel => exact ⟨j + 1, by omega, by go_num, HQ.out⟩
                case measure => simp [intOf]; omega
              · have hpos : (0 : Int) < (left j : Nat) := by omega
                have hlm := HP.out.2.2 j
                have hset := hp.set (j := j) (by omega) (left j - 1)
                rw [dn_set, show ((left j - 1 : Nat) : Int) = (left j : Int) - 1 by omega] at hset
                have HQ : Hid (Pw w3 (wr.setCell ⟨L, j, none⟩ (.int .i64 ((left j : Int) - 1))) F5 q L s N B M (1 + k + 1) (rOf B (t + 1)) (fun j => left j - 1) (dn left (j + 1))) := hset
                clear hp h0 hset
                go_wp2_with fail
                go_roundw
                case rel => exact ⟨j + 1, by omega, by go_num, HQ.out⟩
                case measure => simp [intOf]; omega
      · have hxI : ¬ (128 : Int) ≤ x := by omega
        obtain ⟨y, hy⟩ : ∃ y : Int, (x : Int) % 20 - 2 = y := ⟨_, rfl⟩
        have hy1 : -2 ≤ y := by omega
        have hy2 : y ≤ 17 := by omega
        obtain ⟨g0, g1, g2⟩ := HG.out wr HP.out.1.turned
        by_cases y0 : y < 0
        · as_aux_lemma =>
          have hh := heard_err HP.out.1.bt y (.inl y0)
          have HS5 : Hid (Sp w3 wr q L s N B M (k + 1) t) := ⟨F, left, HP.out.1.more (by omega), HP.out.2.1, HP.out.2.2⟩
          clear HP
          go_wp2_with fail
          refine hh.mono ?_
          rintro e w5 ⟨rfl, rfl⟩
          go_wp2_with fail
          go_meet
          exact ⟨t, by omega, rfl, HS5.out⟩
        · by_cases y1 : (N : Int) ≤ y
          · as_aux_lemma =>
            have hh := heard_err HP.out.1.bt y (.inr (.inl y1))
            have HS5 : Hid (Sp w3 wr q L s N B M (k + 1) t) := ⟨F, left, HP.out.1.more (by omega), HP.out.2.1, HP.out.2.2⟩
            clear HP
            go_wp2_with fail
            refine hh.mono ?_
            rintro e w5 ⟨rfl, rfl⟩
            go_wp2_with fail
            go_meet
            exact ⟨t, by omega, rfl, HS5.out⟩
          · by_cases y2 : y = (s : Int)
            · as_aux_lemma =>
              have hh := heard_err HP.out.1.bt y (.inr (.inr y2))
              subst y2
              have HS5 : Hid (Sp w3 wr q L s N B M (k + 1) t) := ⟨F, left, HP.out.1.more (by omega), HP.out.2.1, HP.out.2.2⟩
              clear HP
              go_wp2_with fail
              refine hh.mono ?_
              rintro e w5 ⟨rfl, rfl⟩
              go_wp2_with fail
              go_meet
              exact ⟨t, by omega, rfl, HS5.out⟩
            · as_aux_lemma =>
              obtain ⟨i, rfl⟩ : ∃ i : Nat, y = i := ⟨y.toNat, by omega⟩
              have hh := heard_any HP.out.1.bt (by omega) i (by omega) (by omega)
              clear g0 g1 g2
              go_wp2_with fail
              refine hh.mono ?_
              rintro e w5 ⟨rfl, F5, b5, g5⟩
              have hp5 := HP.out.1.go g5 b5
              obtain ⟨g0, g1, g2⟩ := HG.out w5 hp5.turned
              have fi := hp5.fr i
              have ci := hp5.cell i (by omega)
              have HS5 : Hid (Sp w3 (w5.setCell ⟨L, i, none⟩ (.int .i64 (M : Nat))) q L s N B M (k + 1) t) := by
                refine ⟨F5, put left i M, hp5.set (by omega) M, fun j hj => ?_, fun j => ?_⟩
                · rw [put_other _ _ (by omega)]; exact HP.out.2.1 j hj
                · by_cases e : j = i
                  · subst e; rw [put_same]; exact Nat.le_refl _
                  · rw [put_other _ _ e]; exact HP.out.2.2 j
              clear hp5 b5 g5 hh HP
              go_wp2_with fail
              · rename_i hbad
                exfalso
                rcases hbad with hbad | hbad
                · omega
                · exact y2 (by simpa using hbad)
              go_meet
              exact ⟨t, by omega, rfl, HS5.out⟩
    · have HB : Hid (Below w.heap.size w wr) := (t3.out.trans hp.turned (fun _ f => .inl f)).below (Nat.le_refl _) (fun _ f => f.elim)
      clear hp hbig hle
      by_cases h1 : k < len
      · have h1I : (k : Int) < len := by omega
        have h2I : ¬ (k : Int) < 200 := by omega
        go_wp2_with fail
        go_ret
        exact ⟨rfl, HB.out⟩
      · have h1I : ¬ (k : Int) < len := by omega
        go_wp2_with fail
        go_ret
        exact ⟨rfl, HB.out⟩

set_option maxRecDepth 100000 in
theorem lifted (os : Os) (started : os.Started) (H : Type) (enc : TypeId × Value → H) :
    ReturnsInHanded {} Try.checked os 4 .any (Rows.beatPlaysSpec.pre6 enc Try.prog Try.f4 Rows.beatPlaysRow.domain false) (Rows.beatPlaysSpec.post enc Try.prog Try.f4 false true false false) := by
  refine returnsInHanded_of_change (C := Try.checked) own started (by kernel_rfl) Try.func4
    (ChangeSpec.witness6 (enc := enc) (C := Try.checked) false ⟨#[], #[.int .u8 0, .int .u8 0, .int .u8 0, .int .u8 0, .slice none 0 0], []⟩ 4 (by kernel_rfl) (by kernel_rfl) (by kernel_rfl) (by kernel_rfl)) ?_
  intro W base args ds gs before hval0 hW hcnd _
  have hval : ∀ (j : Nat) t v, Try.f4.params[j]? = some t → args[j]? = some v → Value.okWide Try.prog W .any base t v := hval0
  have hW' := hW
  obtain ⟨p, q, hA0, hV, rfl, hfz, hnd⟩ := hW
  have hA : DataW.TrodAll enc Try.prog W 0 (fun _ => true) true Try.f4.params.toList args.toList ds p := hA0
  rw [Try.params4] at hA hval
  obtain ⟨v0, vs0, d0, ds0, p0, q0, hargs0, rfl, rfl, h0, r0⟩ := trodAll_cons hA
  obtain ⟨v1, vs1, d1, ds1, p1, q1, hargs1, rfl, rfl, h1, r1⟩ := trodAll_cons r0
  obtain ⟨v2, vs2, d2, ds2, p2, q2, hargs2, rfl, rfl, h2, r2⟩ := trodAll_cons r1
  obtain ⟨v3, vs3, d3, ds3, p3, q3, hargs3, rfl, rfl, h3, r3⟩ := trodAll_cons r2
  obtain ⟨v4, vs4, d4, ds4, p4, q4, hargs4, rfl, rfl, h4, r4⟩ := trodAll_cons r3
  obtain ⟨rfl, rfl, rfl⟩ := trodAll_nil r4
  obtain rfl : args = #[v0, v1, v2, v3, v4] := by cases args; simp_all
  obtain ⟨rfl, rfl⟩ := trodVars_none hV
  obtain ⟨a0, rfl, rfl, rfl, w0⟩ := open_int Try.underlying5 (hval 0 5 v0 rfl rfl) h0
  obtain ⟨a1, rfl, rfl, rfl, w1⟩ := open_int Try.underlying5 (hval 1 5 v1 rfl rfl) h1
  obtain ⟨a2, rfl, rfl, rfl, w2⟩ := open_int Try.underlying5 (hval 2 5 v2 rfl rfl) h2
  obtain ⟨a3, rfl, rfl, rfl, w3⟩ := open_int Try.underlying5 (hval 3 5 v3 rfl rfl) h3
  obtain ⟨a4, len4, cap4, rfl⟩ := okWide_slice Try.underlying34 (hval 4 34 v4 rfl rfl)
  have k4 := h4
  have lt4 : ∀ x ∈ p4, x.block < W.heap.size := by obtain ⟨m, hm⟩ := k4; exact DataW.trod_lt m _ _ _ hm
  obtain ⟨xs4, hx4⟩ := open_nums Try.underlying34 Try.underlying5 cells5 (fun _ h => u8_of_wf h) (by omega) h4
  clear hA0 hval0
  obtain ⟨n0, rfl, hn0⟩ := u8_of_wf w0
  obtain ⟨n1, rfl, hn1⟩ := u8_of_wf w1
  obtain ⟨n2, rfl, hn2⟩ := u8_of_wf w2
  obtain ⟨n3, rfl, hn3⟩ := u8_of_wf w3
  refine (walk W n0 hn0 n1 hn1 n2 hn2 n3 hn3 a4 len4 cap4 xs4 hx4).mono fun e W' ⟨he, bel⟩ => ?_
  subst he
  exact ⟨_, rfl, _, _, _, [], _, [], hW', trodAll_mk1 (shut_bool Try.underlying4 _), (trodAll_cons_mk (shut_int Try.underlying5 w0) (trodAll_cons_mk (shut_int Try.underlying5 w1) (trodAll_cons_mk (shut_int Try.underlying5 w2) (trodAll_cons_mk (shut_int Try.underlying5 w3) (trodAll_cons_mk (Below.trod laidOut (by kernel_rfl) (of_decide_eq_true (by kernel_rfl)) k4 bel lt4) trodAll_mk0))))), rfl, bel.frame _, fun h => by cases h⟩

theorem over : Rows.beatPlaysRow.holds Try.pinned (OpenSpec.ofChange Rows.beatPlaysSpec) :=
  OpenClaim.holds_of_wide 4 Try.f4 rfl rfl rfl rfl rfl rfl rfl ⟨rfl, rfl, rfl, rfl, rfl⟩ rfl rfl rfl rfl rfl (by kernel_rfl) Try.func4 (by kernel_rfl)
    (of_decide_eq_true (by kernel_rfl)) (by unfold Func.isWrapper; first | (rw [if_pos (by decide +kernel)]; kernel_rfl) | (rw [if_neg (by decide +kernel)]; exact ⟨rfl, rfl⟩))
    (fun os started H enc _ => lifted os started H enc)

end Go.Proofs.Ytofhkfbibdkjgaa.beatPlays
namespace Go.Proofs.Ytofhkfbibdkjgaa
theorem beatPlays_holds : Rows.BeatPlaysSaid := beatPlays.over
#print axioms beatPlays_holds
end Go.Proofs.Ytofhkfbibdkjgaa
