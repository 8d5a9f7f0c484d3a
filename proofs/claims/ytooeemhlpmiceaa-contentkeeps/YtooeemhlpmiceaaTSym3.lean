/-
  slices' symMerge of states: two sorted stretches become one.
-/
import Derived.Test.YtooeemhlpmiceaaTSym2
import Derived.Deep.Cut
import Derived.Deep.CutRange
namespace Go.Proofs.Ytooeemhlpmiceaa.T
open Go.RowKit Go.Sort
set_option linter.unusedVariables false
set_option linter.unusedSimpArgs false

def SmSaid (g cap n N : Nat) : Prop := ∀ (w : World) (A L R Z : List Tg) (ia im ib : Int), L.length + R.length ≤ N → 0 < L.length → 0 < R.length → BlkT w g cap (A ++ L ++ R ++ Z) → (A ++ L ++ R ++ Z).length = n → Asc L → Asc R → (∀ x ∈ L, ∀ y ∈ R, x.2 < y.2) → OkT L → OkT R →
    ia = (A.length : Nat) → im = ((A.length + L.length : Nat) : Nat) → ib = ((A.length + L.length + R.length : Nat) : Nat) →
    Calls Try.prog 71 #[.slice (some ⟨g, 0, none⟩) n cap, .int .i64 ia, .int .i64 im, .int .i64 ib, .func (.func 44) #[] #[]] w fun e w' => e = .returned (.tuple #[]) ∧ ∃ M, M.Perm (L ++ R) ∧ Asc M ∧ BlkT w' g cap (A ++ M ++ Z) ∧ w.grownBy w' (some g)

/-- What the search has found. -/
def Found (L R : List Tg) (a m q st : Nat) : Prop :=
  (st = a ∨ a ≤ st ∧ q - st - m = R.length ∨ a < st ∧ ∃ x y, L[st - 1 - a]? = some x ∧ R[q - st - m]? = some y ∧ ltT x y) ∧
  (st - a = L.length ∨ q - st - m = 0 ∨ ∃ x y, L[st - a]? = some x ∧ R[q - 1 - st - m]? = some y ∧ ltT y x)

set_option maxRecDepth 10000 in
set_option maxHeartbeats 4000000 in
theorem sm_step (w : World) (g cap n N : Nat) (ih : SmSaid g cap n N) (A L R Z : List Tg) (ia im ib : Int) (hN : L.length + R.length ≤ N + 1) (hL2 : 2 ≤ L.length) (hR2 : 2 ≤ R.length) (hb : BlkT w g cap (A ++ L ++ R ++ Z)) (hn : (A ++ L ++ R ++ Z).length = n) (hmax : n ≤ 1000000)
    (hL : Asc L) (hR : Asc R) (htag : ∀ x ∈ L, ∀ y ∈ R, x.2 < y.2) (hokL : OkT L) (hokR : OkT R)
    (h1 : ia = (A.length : Nat)) (h2 : im = ((A.length + L.length : Nat) : Nat)) (h3 : ib = ((A.length + L.length + R.length : Nat) : Nat)) :
    Calls Try.prog 71 #[.slice (some ⟨g, 0, none⟩) n cap, .int .i64 ia, .int .i64 im, .int .i64 ib, .func (.func 44) #[] #[]] w fun e w' => e = .returned (.tuple #[]) ∧ ∃ M, M.Perm (L ++ R) ∧ Asc M ∧ BlkT w' g cap (A ++ M ++ Z) ∧ w.grownBy w' (some g) := by
  obtain ⟨a, HA⟩ : ∃ a : Nat, Hid (A.length = a) := ⟨_, rfl⟩
  obtain ⟨m, HM⟩ : ∃ m : Nat, Hid (A.length + L.length = m) := ⟨_, rfl⟩
  obtain ⟨b, HB⟩ : ∃ b : Nat, Hid (A.length + L.length + R.length = b) := ⟨_, rfl⟩
  rw [HA.out] at h1
  rw [HM.out] at h2
  rw [HB.out] at h3
  subst h1 h2 h3
  have hbn : b ≤ n := by have := HB.out; rw [← hn]; simp; omega
  have hbm : m + 2 ≤ b := by have := HM.out; have := HB.out; omega
  have hab : a + 2 ≤ m := by have := HA.out; have := HM.out; omega
  have hNb : b ≤ a + N + 1 := by have := HA.out; have := HM.out; have := HB.out; omega
  have hsub0 : ((m : Int) - (a : Int) == 1) = false := by simp; omega
  have hsub1 : ((b : Int) - (m : Int) == 1) = false := by simp; omega
  obtain ⟨mid, hmid⟩ : ∃ mid : Nat, (a + b) / 2 = mid := ⟨_, rfl⟩
  have hmidI : ((a : Int) + (b : Int)) / 2 = (mid : Int) := by omega
  have hmid1 : a + b ≤ mid + mid + 1 := by omega
  have hmid2 : mid + mid ≤ a + b := by omega
  clear hmid
  obtain ⟨q, hq⟩ : ∃ q : Nat, mid + m = q := ⟨_, rfl⟩
  have hqI : (mid : Int) + (m : Int) = (q : Int) := by omega
  have hq1 : mid + m ≤ q := by omega
  have hq2 : q ≤ mid + m := by omega
  clear hq
  obtain ⟨p, hp⟩ : ∃ p : Nat, p + 1 = q := ⟨q - 1, by omega⟩
  have hpI : (q : Int) - 1 = (p : Int) := by omega
  have hp1 : p + 1 ≤ q := by omega
  have hp2 : q ≤ p + 1 := by omega
  clear hp
  have HR : Hid (Asc L ∧ Asc R ∧ (∀ x ∈ L, ∀ y ∈ R, x.2 < y.2) ∧ OkT L ∧ OkT R) := ⟨hL, hR, htag, hokL, hokR⟩
  have HN : Hid ((A ++ L ++ R ++ Z).length = n) := hn
  have HIH : Hid (SmSaid g cap n N) := ih
  have hDl : ∀ j, a ≤ j → j < m → ∃ x, L[j - a]? = some x ∧ x ∈ L ∧ (A ++ L ++ R ++ Z)[j]? = some x := fun j h1 h2 => by
    have e1 := HM.out
    have e2 := HA.out
    have hl : j - a < L.length := by omega
    refine ⟨L[j - a], List.getElem?_eq_getElem hl, List.getElem_mem hl, ?_⟩
    rw [List.append_assoc, List.append_assoc, List.getElem?_append_right (by omega), List.getElem?_append_left (by omega)]
    rw [show j - A.length = j - a by omega]
    exact List.getElem?_eq_getElem hl
  have hDr : ∀ j, m ≤ j → j < b → ∃ y, R[j - m]? = some y ∧ y ∈ R ∧ (A ++ L ++ R ++ Z)[j]? = some y := fun j h1 h2 => by
    have e1 := HM.out
    have e2 := HB.out
    have hl : j - m < R.length := by omega
    refine ⟨R[j - m], List.getElem?_eq_getElem hl, List.getElem_mem hl, ?_⟩
    rw [List.append_assoc, List.getElem?_append_right (by simp; omega), List.getElem?_append_left (by simp; omega)]
    rw [show j - (A ++ L).length = j - m by simp; omega]
    exact List.getElem?_eq_getElem hl
  obtain ⟨D, HDD⟩ : ∃ D, Hid (A ++ L ++ R ++ Z = D) := ⟨_, rfl⟩
  rw [HDD.out] at hb hDl hDr
  have HDl : Hid (∀ j, a ≤ j → j < m → ∃ x, L[j - a]? = some x ∧ x ∈ L ∧ D[j]? = some x) := hDl
  have HDr : Hid (∀ j, m ≤ j → j < b → ∃ y, R[j - m]? = some y ∧ y ∈ R ∧ D[j]? = some y) := hDr
  have HB0 : Hid (BlkT w g cap D) := hb
  clear hb hn hL hR htag hokL hokR hDl hDr ih hL2 hR2 hN
  go_enter Try.func71, Try.ntmps71
  go_upto_if 140 with fail
  go_cut [20, 21] from 138 to 146 (fun sv rv wx => ∃ (lo hi : Nat), sv = .int .i64 (lo : Nat) ∧ rv = .int .i64 (hi : Nat) ∧ a ≤ lo ∧ hi ≤ m ∧ hi ≤ mid ∧ q ≤ lo + b ∧ lo ≤ hi ∧ (lo = a ∨ lo + b = q) ∧ (hi = m ∨ hi = mid) ∧ wx = w)
  case first =>
    by_cases hgt : mid < m
    · have hgtI : (mid : Int) < (m : Int) := by omega
      have hqb : (q : Int) - (b : Int) = ((q - b : Nat) : Int) := by omega
      go_wp2
      go_meet
      case rel => exact ⟨q - b, mid, by first | rfl | rw [hqb], rfl, by omega, by omega, by omega, by omega, by omega, .inr (by omega), .inr rfl, rfl⟩
    · have hgtI : ¬ ((mid : Int) < (m : Int)) := by omega
      go_wp2
      go_meet
      case rel => exact ⟨a, m, rfl, rfl, by omega, by omega, by omega, by omega, by omega, .inl rfl, .inl rfl, rfl⟩
  case rest =>
    obtain ⟨lo, hi, rfl, rfl, hla, hhm, hhmid, hqb, hlh, hlo0, hhi0, hwc⟩ := hcut
    obtain rfl : w = wc := hwc.symm
    have HC : Hid ((lo = a ∨ lo + b = q) ∧ (hi = m ∨ hi = mid)) := ⟨hlo0, hhi0⟩
    clear hlo0 hhi0
    go_wp2_with fail
    go_loopw [20, 21, 23] (fun iv jv _ wr => ∃ (i j : Nat), iv = .int .i64 (i : Nat) ∧ jv = .int .i64 (j : Nat) ∧ lo ≤ i ∧ i ≤ j ∧ j ≤ hi ∧ (i = lo ∨ lo < i ∧ ∃ x y, L[i - 1 - a]? = some x ∧ R[p + 1 - i - m]? = some y ∧ ltT x y) ∧ (j = hi ∨ j < hi ∧ ∃ x y, L[j - a]? = some x ∧ R[p - j - m]? = some y ∧ ltT y x) ∧ BlkT wr g cap D ∧ w.grownBy wr (some g)) (fun iv jv _ _ => (intOf jv).toNat - (intOf iv).toNat)
    case atStart => exact ⟨lo, hi, rfl, rfl, by omega, by omega, by omega, .inl rfl, .inl rfl, HB0.out, gr_refl _ _⟩
    case round =>
      clear HB0
      obtain ⟨i, j, rfl, rfl, hi', hij, hj, hlo, hhi, hblk, hgr⟩ := hrel
      by_cases hlt : i < j
      · have hltI : (i : Int) < (j : Int) := by omega
        obtain ⟨c, hc0⟩ : ∃ c : Nat, (i + j) / 2 = c := ⟨_, rfl⟩
        have hcI : ((i : Int) + (j : Int)) / 2 = (c : Int) := by omega
        have hic : i ≤ c := by omega
        have hcj : c < j := by omega
        clear hc0
        obtain ⟨e, he⟩ : ∃ e : Nat, p - c = e := ⟨_, rfl⟩
        have heI : (p : Int) - (c : Int) = (e : Int) := by omega
        have he1 : p ≤ e + c := by omega
        have he2 : e + c ≤ p := by omega
        clear he
        obtain ⟨x, hxL, hxm, hxD⟩ := HDl.out c (by omega) (by omega)
        obtain ⟨y, hyR, hym, hyD⟩ := HDr.out e (by omega) (by omega)
        have two : Two g e c y x wr := hblk.two hyD hxD
        have hc := fun W => cmpS_any W y.1 x.1 (HR.out.2.2.2.2 y hym) (HR.out.2.2.2.1 x hxm)
        have htg := HR.out.2.2.1 x hxm y hym
        have hltT := ltT_of htg
        have htri : ¬ ltT y x → ltT x y := ltT_tri (by omega)
        generalize cmpS y.1 x.1 = d at hc hltT
        have hen : (e : Int) < (n : Int) := by omega
        have hwe : IntKind.i64.wrap (e : Int) = (e : Int) := by rw [IntWalk.i64_left, IntWalk.wrap64_in _ (by omega)]
        have hcn : (c : Int) < (n : Int) := by omega
        have HBK1 : Hid (BlkT wr g cap D ∧ w.grownBy wr (some g)) := ⟨hblk, hgr⟩
        have HLO : Hid ((i = lo ∨ lo < i ∧ ∃ x y, L[i - 1 - a]? = some x ∧ R[p + 1 - i - m]? = some y ∧ ltT x y) ∧ (j = hi ∨ j < hi ∧ ∃ x y, L[j - a]? = some x ∧ R[p - j - m]? = some y ∧ ltT y x) ∧ L[c - a]? = some x ∧ R[e - m]? = some y) := ⟨hlo, hhi, hxL, hyR⟩
        unfold sta at hc
        clear hblk hgr hlo hhi hxL hxD hxm hyR hyD hym htg
        go_wp2_with fail
        refine wp_region_noPanic ?_
        refine wp_region_held_drew (S := fun wx => Two g e c y x wx) (by kernel_rfl) two (fun hHeld => ?_)
        refine tq 0 ?_
        refine tq 1 ?_
        refine tq 2 ?_
        refine tq 3 ?_
        refine tq 4 ?_
        refine tq 5 ?_
        refine tq 6 ?_
        refine tq 7 ?_
        refine tq 8 ?_
        refine tq 9 ?_
        refine tq 10 ?_
        refine comes_up 11 rfl (by kernel_rfl) (fun K hK => ?_)
        go_simp
        refine (hc _).mono ?_
        rintro e' w1 ⟨rfl, hup⟩
        have two1 := Two.up hHeld hup
        have HB1 : Hid (BlkT w1 g cap D ∧ w.grownBy w1 (some g)) := ⟨HBK1.out.1.drew.up hup, gr_trans (gr_drew HBK1.out.2) (gr_below hup.bl _)⟩
        clear two hHeld hup HBK1
        go_wp2_with fail
        refine hK.out _ _ two1 (fun hHeld => ?_)
        clear hK K
        (try simp only [Act.put, List.setIfInBounds_toArray, List.set_cons_zero, List.set_cons_succ])
        by_cases hd : d < 0
        · skip
          have hdd : decide (d < 0) = true := by simpa using hd
          have hnd : (!decide (d < 0)) = false := by simp [hd]
          refine tq 12 ?_
          refine tq 13 ?_
          refine wpAnyH_done (by kernel_rfl) ?_ _
          refine NoPanic.normal ?_
          have hyx := hltT.1 hd
          clear hltT htri hHeld two1
          go_wp2
          go_roundw
          case rel =>
            have key : ∃ (i' j' : Nat), (Value.int .i64 (i : Int)) = .int .i64 (i' : Nat) ∧ (Value.int .i64 (c : Int)) = .int .i64 (j' : Nat) ∧ lo ≤ i' ∧ i' ≤ j' ∧ j' ≤ hi ∧ (i' = lo ∨ lo < i' ∧ ∃ x y, L[i' - 1 - a]? = some x ∧ R[p + 1 - i' - m]? = some y ∧ ltT x y) ∧ (j' = hi ∨ j' < hi ∧ ∃ x y, L[j' - a]? = some x ∧ R[p - j' - m]? = some y ∧ ltT y x) ∧ BlkT w1 g cap D ∧ w.grownBy w1 (some g) :=
              ⟨i, c, rfl, rfl, by omega, by omega, by omega, HLO.out.1, .inr ⟨by omega, x, y, HLO.out.2.2.1, by rw [show p - c = e by omega]; exact HLO.out.2.2.2, hyx⟩, HB1.out.1, HB1.out.2⟩
            first | exact key | ((repeat apply Exists.intro); exact ⟨key, rfl⟩)
          case measure => simp [intOf]; omega
        · skip
          have hdd : decide (d < 0) = false := by simpa using hd
          have hnd : (!decide (d < 0)) = true := by simp [hd]
          refine tq 12 ?_
          refine tq 13 ?_
          refine wpAnyH_done (by kernel_rfl) ?_ _
          refine NoPanic.normal ?_
          have hxy := htri (fun h => hd (hltT.2 h))
          clear hltT htri hHeld two1
          go_wp2
          go_roundw
          case rel =>
            have key : ∃ (i' j' : Nat), (Value.int .i64 ((c : Int) + 1)) = .int .i64 (i' : Nat) ∧ (Value.int .i64 (j : Int)) = .int .i64 (j' : Nat) ∧ lo ≤ i' ∧ i' ≤ j' ∧ j' ≤ hi ∧ (i' = lo ∨ lo < i' ∧ ∃ x y, L[i' - 1 - a]? = some x ∧ R[p + 1 - i' - m]? = some y ∧ ltT x y) ∧ (j' = hi ∨ j' < hi ∧ ∃ x y, L[j' - a]? = some x ∧ R[p - j' - m]? = some y ∧ ltT y x) ∧ BlkT w1 g cap D ∧ w.grownBy w1 (some g) :=
              ⟨c + 1, j, by push_cast; rfl, rfl, by omega, by omega, hj, .inr ⟨by omega, x, y, HLO.out.2.2.1, by rw [show p + 1 - (c + 1) = e by omega]; exact HLO.out.2.2.2, hxy⟩, HLO.out.2.1, HB1.out.1, HB1.out.2⟩
            first | exact key | ((repeat apply Exists.intro); exact ⟨key, rfl⟩)
          case measure => simp [intOf]; omega
      · have hltI : ¬ ((i : Int) < (j : Int)) := by omega
        have hijE : i = j := by omega
        subst hijE
        have hlR : m + R.length = b := by have := HM.out; have := HB.out; omega
        have hlL : a + L.length = m := by have := HM.out; have := HA.out; omega
        obtain ⟨en, hen0⟩ : ∃ en : Nat, q - i = en := ⟨_, rfl⟩
        have henI : (q : Int) - (i : Int) = (en : Int) := by omega
        have hen1 : q ≤ en + i := by omega
        have hen2 : en + i ≤ q := by omega
        clear hen0
        have hspl : ∀ x ∈ L.take (i - a) ++ R.take (en - m), ∀ y ∈ L.drop (i - a) ++ R.drop (en - m), ltT x y := by
          refine sm_split HR.out.1 HR.out.2.1 (i - a) (en - m) ?_ ?_
          · rcases hlo with h | ⟨h0, x, y, e1, e2, e3⟩
            · rcases HC.out.1 with h' | h'
              · exact .inl (by omega)
              · exact .inr (.inl (by omega))
            · exact .inr (.inr ⟨x, y, by rw [show i - a - 1 = i - 1 - a by omega]; exact e1, by rw [show en - m = p + 1 - i - m by omega]; exact e2, e3⟩)
          · rcases hhi with h | ⟨h0, x, y, e1, e2, e3⟩
            · rcases HC.out.2 with h' | h'
              · exact .inl (by omega)
              · exact .inr (.inl (by omega))
            · exact .inr (.inr ⟨x, y, e1, by rw [show en - m - 1 = p - i - m by omega]; exact e2, e3⟩)
        obtain ⟨L1, L2, R1, R2, HT⟩ : ∃ L1 L2 R1 R2, Hid ((L1 ++ L2 = L ∧ R1 ++ R2 = R) ∧ (L1.length = i - a ∧ L2.length = m - i ∧ R1.length = en - m ∧ R2.length = b - en) ∧ (Asc L1 ∧ Asc L2 ∧ Asc R1 ∧ Asc R2) ∧ (∀ x ∈ L1 ++ R1, ∀ y ∈ L2 ++ R2, ltT x y)) :=
          ⟨L.take (i - a), L.drop (i - a), R.take (en - m), R.drop (en - m), ⟨List.take_append_drop _ _, List.take_append_drop _ _⟩, ⟨by rw [List.length_take]; omega, by rw [List.length_drop]; omega, by rw [List.length_take]; omega, by rw [List.length_drop]; omega⟩, ⟨asc_take HR.out.1 _, asc_drop HR.out.1 _, asc_take HR.out.2.1 _, asc_drop HR.out.2.1 _⟩, hspl⟩
        have HTG : Hid ((∀ x ∈ L1, ∀ y ∈ R1, x.2 < y.2) ∧ (∀ x ∈ L2, ∀ y ∈ R2, x.2 < y.2) ∧ OkT L1 ∧ OkT L2 ∧ OkT R1 ∧ OkT R2) := by
          obtain ⟨_, _, t, o1, o2⟩ := HR.out
          rw [← HT.out.1.1] at t o1
          rw [← HT.out.1.2] at t o2
          exact ⟨fun x hx y hy => t x (by simp [hx]) y (by simp [hy]), fun x hx y hy => t x (by simp [hx]) y (by simp [hy]), fun x hx => o1 x (by simp [hx]), fun x hx => o1 x (by simp [hx]), fun x hx => o2 x (by simp [hx]), fun x hx => o2 x (by simp [hx])⟩
        have HBK : Hid (BlkT wr g cap ((A ++ L1) ++ L2 ++ R1 ++ (R2 ++ Z)) ∧ w.grownBy wr (some g)) := by
          refine ⟨?_, hgr⟩
          have e : (A ++ L1) ++ L2 ++ R1 ++ (R2 ++ Z) = D := by rw [← HDD.out, ← HT.out.1.1, ← HT.out.1.2]; simp
          rw [e]; exact hblk
        have HNN : Hid ((A ++ L1).length = i ∧ ((A ++ L1) ++ L2 ++ R1 ++ (R2 ++ Z)).length = n ∧ (A ++ L1 ++ R1).length = mid) := by
          have e1 := HA.out
          have e2 := HN.out
          rw [← HT.out.1.1, ← HT.out.1.2] at e2
          obtain ⟨f1, f2, f3, f4⟩ := HT.out.2.1
          refine ⟨by rw [List.length_append]; omega, by rw [← e2]; simp, by rw [List.length_append, List.length_append]; omega⟩
        have him : i ≤ m := by omega
        have himid : i ≤ mid := by omega
        have hia : a ≤ i := by omega
        have hmen : m ≤ en := by omega
        have henb : en ≤ b := by omega
        have hmidb : mid < b := by omega
        have hamid : a < mid := by omega
        clear hspl hblk hgr hlo hhi HDl HDr HR HC HDD hlR hlL
        go_upto_region 39 with fail
        go_cut [185] from 178 to 185 (fun cv wx => cv = .bool (decide (i < m ∧ m < en)) ∧ wx = wr)
        case first =>
          by_cases c1 : i < m
          · have c1I : (i : Int) < (m : Int) := by omega
            by_cases c2 : m < en
            · have c2I : (m : Int) < (en : Int) := by omega
              go_wp2
              go_meet
              case rel => exact ⟨by simp [c1, c2], rfl⟩
            · have c2I : ¬ ((m : Int) < (en : Int)) := by omega
              go_wp2
              go_meet
              case rel => exact ⟨by simp [c1, c2], rfl⟩
          · have c1I : ¬ ((i : Int) < (m : Int)) := by omega
            go_wp2
            go_meet
            case rel => exact ⟨by simp [c1], rfl⟩
        case rest =>
        obtain ⟨rfl, hwc⟩ := hcut
        obtain rfl : wr = wc := hwc.symm
        go_upto_if 185 with fail
        go_cut [] from 185 to 191 (fun wx => BlkT wx g cap ((A ++ L1) ++ R1 ++ L2 ++ (R2 ++ Z)) ∧ w.grownBy wx (some g))
        case first =>
          by_cases hrot : i < m ∧ m < en
          · have hrb : decide (i < m ∧ m < en) = true := by simpa using hrot
            obtain ⟨f1, f2, f3, f4⟩ := HT.out.2.1
            have hro := rotate_any wr g cap n (.func (.func 44) #[] #[]) (A ++ L1) L2 R1 (R2 ++ Z) (i : Int) (m : Int) (en : Int) HBK.out.1 (by omega) (by omega) HNN.out.2.1 hmax (by rw [HNN.out.1]) (by rw [HNN.out.1]; omega) (by rw [HNN.out.1]; omega)
            clear f1 f2 f3 f4
            simp only [hrb]
            go_wp2_with fail
            refine hro.mono ?_
            rintro e' w1 ⟨rfl, hb1, hg1⟩
            have HB1 : Hid (BlkT w1 g cap ((A ++ L1) ++ R1 ++ L2 ++ (R2 ++ Z)) ∧ w.grownBy w1 (some g)) := ⟨hb1, gr_trans HBK.out.2 hg1⟩
            clear hro hb1 hg1
            go_wp2
            go_meet
            case rel => first | exact HB1.out | exact ⟨by have := HB1.out.1; simpa using this, HB1.out.2⟩
          · have hrb : decide (i < m ∧ m < en) = false := by simpa using hrot
            have HB1 : Hid (BlkT wr g cap ((A ++ L1) ++ R1 ++ L2 ++ (R2 ++ Z)) ∧ w.grownBy wr (some g)) := by
              refine ⟨?_, HBK.out.2⟩
              obtain ⟨f1, f2, f3, f4⟩ := HT.out.2.1
              have h0 := HBK.out.1
              by_cases c1 : i < m
              · have : R1 = [] := List.length_eq_zero_iff.1 (by omega)
                subst this; simpa using h0
              · have : L2 = [] := List.length_eq_zero_iff.1 (by omega)
                subst this; simpa using h0
            simp only [hrb]
            go_wp2
            go_meet
            case rel => first | exact HB1.out | exact ⟨by have := HB1.out.1; simpa using this, HB1.out.2⟩
        case rest =>
        rename World => w2
        clear HBK
        have HB1 : Hid (BlkT w2 g cap ((A ++ L1) ++ R1 ++ L2 ++ (R2 ++ Z)) ∧ w.grownBy w2 (some g)) := hcut
        clear hcut
        go_upto_region 41 with fail
        go_cut [199] from 192 to 199 (fun cv wx => cv = .bool (decide (a < i ∧ i < mid)) ∧ wx = w2)
        case first =>
          by_cases c1 : a < i
          · have c1I : (a : Int) < (i : Int) := by omega
            by_cases c2 : i < mid
            · have c2I : (i : Int) < (mid : Int) := by omega
              go_wp2
              go_meet
              case rel => exact ⟨by simp [c1, c2], rfl⟩
            · have c2I : ¬ ((i : Int) < (mid : Int)) := by omega
              go_wp2
              go_meet
              case rel => exact ⟨by simp [c1, c2], rfl⟩
          · have c1I : ¬ ((a : Int) < (i : Int)) := by omega
            go_wp2
            go_meet
            case rel => exact ⟨by simp [c1], rfl⟩
        case rest =>
        obtain ⟨rfl, hwc⟩ := hcut
        obtain rfl : w2 = wc := hwc.symm
        go_upto_if 199 with fail
        go_cut [] from 199 to 205 (fun wx => ∃ M1, M1.Perm (L1 ++ R1) ∧ Asc M1 ∧ BlkT wx g cap (A ++ M1 ++ L2 ++ R2 ++ Z) ∧ w.grownBy wx (some g))
        case first =>
          by_cases hfi : a < i ∧ i < mid
          · have hrb : decide (a < i ∧ i < mid) = true := by simpa using hfi
            obtain ⟨f1, f2, f3, f4⟩ := HT.out.2.1
            obtain ⟨s1, s2, s3, s4⟩ := HT.out.2.2.1
            have hal := HA.out
            have hro := HIH.out w2 A L1 R1 (L2 ++ (R2 ++ Z)) (a : Int) (i : Int) (mid : Int) (by omega) (by omega) (by omega) (by have := HB1.out.1; simpa using this) (by have := HNN.out.2.1; simp at this ⊢; omega) s1 s3 HTG.out.1 HTG.out.2.2.1 HTG.out.2.2.2.2.1 (by omega) (by omega) (by omega)
            clear f1 f2 f3 f4 s1 s2 s3 s4
            simp only [hrb]
            go_wp2_with fail
            refine hro.mono ?_
            rintro e' w3 ⟨rfl, M1, hp1, ha1, hb1, hg1⟩
            have HB3 : Hid (M1.Perm (L1 ++ R1) ∧ Asc M1 ∧ BlkT w3 g cap (A ++ M1 ++ L2 ++ R2 ++ Z) ∧ w.grownBy w3 (some g)) := ⟨hp1, ha1, by simpa using hb1, gr_trans HB1.out.2 hg1⟩
            clear hro hb1 hg1 hp1 ha1
            go_wp2
            go_meet
            case rel => exact ⟨M1, HB3.out.1, HB3.out.2.1, (by first | exact HB3.out.2.2.1 | (have := HB3.out.2.2.1; simpa using this)), HB3.out.2.2.2⟩
          · have hrb : decide (a < i ∧ i < mid) = false := by simpa using hfi
            have HB3 : Hid ((L1 ++ R1).Perm (L1 ++ R1) ∧ Asc (L1 ++ R1) ∧ BlkT w2 g cap (A ++ (L1 ++ R1) ++ L2 ++ R2 ++ Z) ∧ w.grownBy w2 (some g)) := by
              refine ⟨List.Perm.refl _, ?_, by have := HB1.out.1; simpa using this, HB1.out.2⟩
              obtain ⟨f1, f2, f3, f4⟩ := HT.out.2.1
              obtain ⟨s1, s2, s3, s4⟩ := HT.out.2.2.1
              by_cases c1 : a < i
              · have : R1 = [] := List.length_eq_zero_iff.1 (by omega)
                subst this; simpa using s1
              · have : L1 = [] := List.length_eq_zero_iff.1 (by omega)
                subst this; simpa using s3
            simp only [hrb]
            go_wp2
            go_meet
            case rel => exact ⟨L1 ++ R1, HB3.out.1, HB3.out.2.1, (by first | exact HB3.out.2.2.1 | (have := HB3.out.2.2.1; simpa using this)), HB3.out.2.2.2⟩
        case rest =>
        rename World => w3
        clear HB1
        obtain ⟨M1, hp1, ha1, hb1, hg1⟩ := hcut
        have hM1 : (A ++ M1).length = mid := by have := HNN.out.2.2; rw [← this, List.length_append, hp1.length_eq]; simp [Nat.add_assoc]
        have HB3 : Hid (M1.Perm (L1 ++ R1) ∧ Asc M1 ∧ BlkT w3 g cap ((A ++ M1) ++ L2 ++ R2 ++ Z) ∧ w.grownBy w3 (some g) ∧ (A ++ M1).length = mid ∧ ((A ++ M1) ++ L2 ++ R2 ++ Z).length = n) := ⟨hp1, ha1, hb1, hg1, hM1, by have := HNN.out.2.1; have e := hp1.length_eq; simp at this e ⊢; omega⟩
        have HFIN : Hid (∀ M2 : List Tg, M2.Perm (L2 ++ R2) → Asc M2 → (M1 ++ M2).Perm (L ++ R) ∧ Asc (M1 ++ M2)) := fun M2 hp2 ha2 => by
          refine ⟨?_, asc_app ha1 ha2 (fun x hx y hy => HT.out.2.2.2 x (hp1.mem_iff.1 hx) y (hp2.mem_iff.1 hy))⟩
          rw [← HT.out.1.1, ← HT.out.1.2]
          refine (hp1.append hp2).trans ?_
          rw [List.append_assoc, List.append_assoc]
          refine List.Perm.append_left _ ?_
          rw [← List.append_assoc, ← List.append_assoc]
          exact List.Perm.append_right _ List.perm_append_comm
        clear hp1 ha1 hb1 hg1 hM1
        go_upto_region 43 with fail
        go_cut [213] from 206 to 213 (fun cv wx => cv = .bool (decide (mid < en ∧ en < b)) ∧ wx = w3)
        case first =>
          by_cases c1 : mid < en
          · have c1I : (mid : Int) < (en : Int) := by omega
            by_cases c2 : en < b
            · have c2I : (en : Int) < (b : Int) := by omega
              go_wp2
              go_meet
              case rel => exact ⟨by simp [c1, c2], rfl⟩
            · have c2I : ¬ ((en : Int) < (b : Int)) := by omega
              go_wp2
              go_meet
              case rel => exact ⟨by simp [c1, c2], rfl⟩
          · have c1I : ¬ ((mid : Int) < (en : Int)) := by omega
            go_wp2
            go_meet
            case rel => exact ⟨by simp [c1], rfl⟩
        case rest =>
        obtain ⟨rfl, hwc⟩ := hcut
        obtain rfl : w3 = wc := hwc.symm
        go_upto_if 213 with fail
        by_cases hse : mid < en ∧ en < b
        · have hrb : decide (mid < en ∧ en < b) = true := by simpa using hse
          obtain ⟨f1, f2, f3, f4⟩ := HT.out.2.1
          obtain ⟨s1, s2, s3, s4⟩ := HT.out.2.2.1
          have hal := HB3.out.2.2.2.2.1
          have hro := HIH.out w3 (A ++ M1) L2 R2 Z (mid : Int) (en : Int) (b : Int) (by omega) (by omega) (by omega) HB3.out.2.2.1 HB3.out.2.2.2.2.2 s2 s4 HTG.out.2.1 HTG.out.2.2.2.1 HTG.out.2.2.2.2.2 (by omega) (by omega) (by omega)
          clear f1 f2 f3 f4 s1 s2 s3 s4 hal
          simp only [hrb]
          go_wp2_with fail
          refine hro.mono ?_
          rintro e' w4 ⟨rfl, M2, hp2, ha2, hb2, hg2⟩
          have HB4 : Hid ((M1 ++ M2).Perm (L ++ R) ∧ Asc (M1 ++ M2) ∧ BlkT w4 g cap (A ++ (M1 ++ M2) ++ Z) ∧ w.grownBy w4 (some g)) := ⟨(HFIN.out M2 hp2 ha2).1, (HFIN.out M2 hp2 ha2).2, by simpa using hb2, gr_trans HB3.out.2.2.2.1 hg2⟩
          clear hro hb2 hg2 hp2 ha2
          go_wp2
          go_end0
          exact ⟨rfl, M1 ++ M2, HB4.out.1, HB4.out.2.1, (by first | exact HB4.out.2.2.1 | (have := HB4.out.2.2.1; simpa using this)), HB4.out.2.2.2⟩
        · have hrb : decide (mid < en ∧ en < b) = false := by simpa using hse
          have hasc : Asc (L2 ++ R2) := by
            obtain ⟨f1, f2, f3, f4⟩ := HT.out.2.1
            obtain ⟨s1, s2, s3, s4⟩ := HT.out.2.2.1
            by_cases c1 : mid < en
            · have : R2 = [] := List.length_eq_zero_iff.1 (by omega)
              subst this; simpa using s2
            · have : L2 = [] := List.length_eq_zero_iff.1 (by omega)
              subst this; simpa using s4
          have HB4 : Hid ((M1 ++ (L2 ++ R2)).Perm (L ++ R) ∧ Asc (M1 ++ (L2 ++ R2)) ∧ BlkT w3 g cap (A ++ (M1 ++ (L2 ++ R2)) ++ Z) ∧ w.grownBy w3 (some g)) := ⟨(HFIN.out _ (List.Perm.refl _) hasc).1, (HFIN.out _ (List.Perm.refl _) hasc).2, by have := HB3.out.2.2.1; simpa using this, HB3.out.2.2.2.1⟩
          clear hasc
          simp only [hrb]
          go_wp2
          go_end0
          exact ⟨rfl, M1 ++ (L2 ++ R2), HB4.out.1, HB4.out.2.1, (by first | exact HB4.out.2.2.1 | (have := HB4.out.2.2.1; simpa using this)), HB4.out.2.2.2⟩

theorem sm_any (g cap n : Nat) (hmax : n ≤ 1000000) : ∀ N, SmSaid g cap n N
  | 0 => fun w A L R Z ia im ib h hl hr => by omega
  | N + 1 => fun w A L R Z ia im ib h hl hr hb hn hL hR htag hokL hokR h1 h2 h3 => by
    by_cases c1 : L.length = 1
    · obtain ⟨x, rfl⟩ := List.length_eq_one_iff.1 c1
      exact sm_left w g cap n A R Z x ia im ib hb hn hmax hR (fun y hy => htag x (by simp) y hy) (hokL x (by simp)) hokR h1 (by simpa using h2) (by simpa using h3)
    · by_cases c2 : R.length = 1
      · obtain ⟨y, rfl⟩ := List.length_eq_one_iff.1 c2
        exact sm_right w g cap n A L Z y ia im ib hb hn hmax hL (by omega) (fun x hx => htag x hx y (by simp)) (hokR y (by simp)) hokL h1 h2 (by simpa using h3)
      · exact sm_step w g cap n N (sm_any g cap n hmax N) A L R Z ia im ib h (by omega) (by omega) hb hn hmax hL hR htag hokL hokR h1 h2 h3
end Go.Proofs.Ytooeemhlpmiceaa.T
