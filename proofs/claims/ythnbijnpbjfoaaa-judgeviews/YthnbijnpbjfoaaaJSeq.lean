/-
  judge's sequence and Total.
-/
import Derived.Test.YthnbijnpbjfoaaaJTold
namespace Go.Proofs.Ythnbijnpbjfoaaa
open Go.RowKit Go.Sort
set_option linter.unusedVariables false

/-- The one sequence, or none. -/
def SeqPost (w : World) (acc : List (List By)) (del : List (List Di)) (e : Ending) (w' : World) : Prop :=
  ((∃ (r : Sr) (S : List Di), e = .returned (.tuple #[.slice r.1 r.2.1 r.2.2, .bool true]) ∧ Cp r ∧ Its (fun _ => True) w' r.1 r.2.1 S ∧ SeqOk acc del S) ∨
    (e = .returned (.tuple #[.slice none 0 0, .bool false]) ∧ ¬ ∃ S, SeqOk acc del S)) ∧ Up w w'
theorem pref_all {del : List (List Di)} {S : List Di} {n : Nat} (hn : del.length ≤ n) (h : ∀ j l, j < n → del[j]? = some l → l = S.take l.length) : ∀ l ∈ del, l <+: S := fun l hl => by
  obtain ⟨j, hj, hm⟩ := List.mem_iff_getElem.1 hl
  rw [h j l (by omega) (by rw [List.getElem?_eq_getElem hj, hm])]
  exact List.take_prefix _ _
set_option maxRecDepth 10000 in
set_option maxHeartbeats 2000000 in
theorem seq_any (w : World) (ao : Option Addr) (m c1 : Nat) (acc : List (List By)) (h : Bss w ao m acc) (hm : m ≤ 10000) (bo : Option Addr) (n c2 : Nat) (del : List (List Di)) (g : Iss w bo n del) :
    Calls Try.prog 19 #[.slice ao m c1, .slice bo n c2] w fun e w' => SeqPost w acc del e w' := by
  have hl := g.len
  have hn := g.le
  have HI : Hid (Bss w ao m acc ∧ Iss w bo n del) := ⟨h, g⟩
  have hlo := longest_any w bo n c2 del g
  clear h g
  go_enter Try.func19, Try.ntmps19
  go_wp2_with fail
  refine hlo.mono ?_
  rintro e w1 ⟨⟨r, S, rfl, hcp, hits, hlng⟩, u1⟩
  have HS : Hid (Its (fun _ => True) w1 r.1 r.2.1 S ∧ Lng del n S ∧ S.length = r.2.1) := ⟨hits, hlng, hits.len⟩
  obtain ⟨ra, rn, rc⟩ := r
  obtain ⟨hcp1, hcp2, hcp3⟩ := hcp
  simp only at HS hcp1 hcp2 hcp3
  clear hlo hits hlng
  have HU1 : Hid (Up w w1) := u1
  have HC : Hid (rn ≤ rc ∧ rc ≤ 9223372036854775807 ∧ (ra = none → rc = 0)) := ⟨hcp1, hcp2, hcp3⟩
  have hrn : rn ≤ 4398046511104 := HS.out.1.le
  clear u1
  go_wp2_with fail
  go_loopw [8, 13] (fun _ iv wr => ∃ k : Nat, k ≤ n ∧ iv = .int .i64 (k : Nat) ∧ (∀ j l, j < k → del[j]? = some l → l = S.take l.length) ∧ Up w1 wr) (fun _ iv _ => n - (intOf iv).toNat)
  case atStart => exact ⟨0, by omega, rfl, fun j l hj => by omega, Up.refl _⟩
  case round =>
    obtain ⟨k, hk, rfl, hno, hu⟩ := hrel
    have HT : Hid (∀ j l, j < k → del[j]? = some l → l = S.take l.length) := hno
    clear hno
    by_cases hlt : k < n
    · have hltI : (k : Int) < (n : Int) := by omega
      have hk0 : ¬ ((k : Int) < 0) := by omega
      obtain ⟨l, hl⟩ : ∃ l, del[k]? = some l := ⟨del[k]'(by omega), List.getElem?_eq_getElem (by omega)⟩
      obtain ⟨b, off, r2, rfl, q0, hq, hi⟩ := (Iss.up HI.out.2 (HU1.out.trans hu).bl).at hl
      have hll := hi.len
      have hle : l.length ≤ S.length := HS.out.2.1.2 k l hlt hl
      have hsl := HS.out.2.2
      have HL : Hid (del[k]? = some l ∧ l.length = r2.2.1) := ⟨hl, hll⟩
      have hle2 : r2.2.1 ≤ rn := by omega
      have hit := (HS.out.1.up hu.bl).take hle2
      obtain ⟨sa, sn, sc⟩ := r2
      simp only at HL q0 hit hi hle2
      have hs0 : ¬ ((sn : Int) < 0) := by omega
      have hs1 : ¬ ((rc : Int) < (sn : Int)) := by omega
      have heq := fun c => eqf_any wr sa ra sn sc c l (S.take sn) hi hit
      obtain ⟨db, HDB⟩ : ∃ db, Hid (decide (l = S.take sn) = db) := ⟨_, rfl⟩
      rw [HDB.out] at heq
      clear hl hq hi hll hle hsl hit
      cases ra with
      | none =>
        obtain rfl : rc = 0 := hcp3 rfl
        obtain rfl : rn = 0 := by omega
        obtain rfl : sn = 0 := by omega
        cases db with
        | false =>
          go_wp2_with fail
          refine (heq _).mono ?_
          rintro _ w3 ⟨rfl, u3⟩
          have hu3 := HU1.out.trans (hu.trans u3)
          clear heq u3 q0
          go_wp2
          go_ret2
          refine ⟨.inr ⟨rfl, ?_⟩, hu3⟩
          refine no_prefix (S := S) (by rw [‹del.length = n›]; exact HS.out.2.1) (List.mem_of_getElem? HL.out.1) ?_
          rw [HL.out.2]
          exact of_decide_eq_false HDB.out
        | true =>
          go_wp2_with fail
          refine (heq _).mono ?_
          rintro _ w3 ⟨rfl, u3⟩
          have hu3 := hu.trans u3
          clear heq u3 q0
          have HN : Hid (∀ j l, j < k + 1 → del[j]? = some l → l = S.take l.length) := fun j l' hj hm => by
            by_cases e : j = k
            · subst e; rw [HL.out.1] at hm; cases hm; rw [HL.out.2]; exact of_decide_eq_true HDB.out
            · exact HT.out j l' (by omega) hm
          go_wp2
          go_roundw
          case rel => first | exact ⟨k + 1, by omega, by go_num, HN.out, hu3⟩ | ((repeat apply Exists.intro); exact ⟨⟨k + 1, by omega, by go_num, HN.out, hu3⟩, rfl⟩)
          case measure => simp [intOf]; omega
      | some aw =>
        cases db with
        | false =>
          go_wp2_with fail
          refine (heq _).mono ?_
          rintro _ w3 ⟨rfl, u3⟩
          have hu3 := HU1.out.trans (hu.trans u3)
          clear heq u3 q0
          go_wp2
          go_ret2
          refine ⟨.inr ⟨rfl, ?_⟩, hu3⟩
          refine no_prefix (S := S) (by rw [‹del.length = n›]; exact HS.out.2.1) (List.mem_of_getElem? HL.out.1) ?_
          rw [HL.out.2]
          exact of_decide_eq_false HDB.out
        | true =>
          go_wp2_with fail
          refine (heq _).mono ?_
          rintro _ w3 ⟨rfl, u3⟩
          have hu3 := hu.trans u3
          clear heq u3 q0
          have HN : Hid (∀ j l, j < k + 1 → del[j]? = some l → l = S.take l.length) := fun j l' hj hm => by
            by_cases e : j = k
            · subst e; rw [HL.out.1] at hm; cases hm; rw [HL.out.2]; exact of_decide_eq_true HDB.out
            · exact HT.out j l' (by omega) hm
          go_wp2
          go_roundw
          case rel => first | exact ⟨k + 1, by omega, by go_num, HN.out, hu3⟩ | ((repeat apply Exists.intro); exact ⟨⟨k + 1, by omega, by go_num, HN.out, hu3⟩, rfl⟩)
          case measure => simp [intOf]; omega
    · obtain rfl : k = n := by omega
      have hto := told_any wr ra rn rc S (HS.out.1.up hu.bl) ao m c1 acc (Bss.up HI.out.1 (HU1.out.trans hu).bl) hm
      go_wp2_with fail
      refine hto.mono ?_
      rintro _ w3 ⟨⟨b, rfl, hb⟩, u3⟩
      have hu3 := HU1.out.trans (hu.trans u3)
      have hsl := hu.trans u3
      have HB : Hid (b = true ↔ Told S acc) := hb
      clear hto u3 hb
      cases b with
      | false =>
        go_wp2
        go_ret2
        refine ⟨.inr ⟨rfl, ?_⟩, hu3⟩
        refine no_told (S := S) (by rw [‹del.length = k›]; exact HS.out.2.1) (fun ht => ?_)
        have := HB.out.2 ht
        cases this
      | true =>
        go_wp2
        go_ret2
        refine ⟨.inl ⟨(ra, rn, rc), S, rfl, HC.out, HS.out.1.up hsl.bl, pref_all (n := k) (by omega) HT.out, HS.out.2.1.1, HB.out.1 (by trivial)⟩, hu3⟩

/-- .. in memory of its own. -/
def TotPost (w : World) (acc : List (List By)) (del : List (List Di)) (e : Ending) (w' : World) : Prop :=
  ((∃ (r : Sr) (S : List Di), e = .returned (.tuple #[.slice r.1 r.2.1 r.2.2, .bool true]) ∧ Its (fun _ => True) w' r.1 r.2.1 S ∧ SeqOk acc del S) ∨
    (∃ r : Sr, e = .returned (.tuple #[.slice r.1 r.2.1 r.2.2, .bool false]) ∧ Its (fun _ => True) w' r.1 r.2.1 [] ∧ ¬ ∃ S, SeqOk acc del S)) ∧ Below w.heap.size w w'
set_option maxRecDepth 10000 in
set_option maxHeartbeats 1000000 in
theorem total_any (w : World) (ao : Option Addr) (m c1 : Nat) (acc : List (List By)) (h : Bss w ao m acc) (hm : m ≤ 10000) (bo : Option Addr) (n c2 : Nat) (del : List (List Di)) (g : Iss w bo n del) :
    Calls Try.prog 11 #[.slice ao m c1, .slice bo n c2] w fun e w' => TotPost w acc del e w' := by
  have hs := seq_any w ao m c1 acc h hm bo n c2 del g
  clear h g
  go_enter Try.func11, Try.ntmps11
  go_wp2_with fail
  refine hs.mono ?_
  rintro _ w1 ⟨hp, u1⟩
  clear hs
  rcases hp with ⟨r, S, rfl, hcp, hits, hok⟩ | ⟨rfl, hno⟩
  · obtain ⟨ra, rn, rc⟩ := r
    simp only at hits
    have hc := copied_any (fun _ => True) w1 ra rn rc S hits
    have HO : Hid (SeqOk acc del S) := hok
    clear hits hok hcp
    go_wp2_with fail
    refine hc.mono ?_
    rintro _ w2 ⟨ao', cap', rfl, hi2, b2⟩
    have HE : Hid (Its (fun _ => True) w2 ao' rn S ∧ Below w.heap.size w w2) := ⟨hi2.imp (fun _ _ _ => trivial), bl_step u1.bl b2⟩
    clear hc hi2 b2 u1
    go_wp2
    go_ret2
    exact ⟨.inl ⟨(ao', rn, cap'), S, rfl, HE.out.1, HO.out⟩, HE.out.2⟩
  · have hc := copied_any (fun _ => True) w1 none 0 0 [] (Its.nil0 _ _)
    have HO : Hid (¬ ∃ S, SeqOk acc del S) := hno
    clear hno
    go_wp2_with fail
    refine hc.mono ?_
    rintro _ w2 ⟨ao', cap', rfl, hi2, b2⟩
    have HE : Hid (Its (fun _ => True) w2 ao' 0 [] ∧ Below w.heap.size w w2) := ⟨hi2.imp (fun _ _ _ => trivial), bl_step u1.bl b2⟩
    clear hc hi2 b2 u1
    go_wp2
    go_ret2
    exact ⟨.inr ⟨(ao', 0, cap'), rfl, HE.out.1, HO.out⟩, HE.out.2⟩
end Go.Proofs.Ythnbijnpbjfoaaa
