/-
  The statements' safeless: events without those that are known to be safe.
-/
import Derived.Test.YthnbijnpbjfoaaaJTr2
namespace Go.Proofs.Ythnbijnpbjfoaaa
open Go.RowKit Go.Sort
set_option linter.unusedVariables false
set_option linter.unusedSimpArgs false

def noSafe (es : List Ev) : List Ev := es.filter (fun e => decide (e.k ≠ 4))
theorem noSafe_snoc (es : List Ev) (e : Ev) : noSafe (es ++ [e]) = noSafe es ++ (if e.k = 4 then [] else [e]) := by
  unfold noSafe
  rw [List.filter_append]
  by_cases h : e.k = 4
  · rw [if_pos h, List.filter_cons_of_neg (by simpa using h)]; rfl
  · rw [if_neg h, List.filter_cons_of_pos (by simpa using h)]; rfl
def SlPost (B : Nat) (w : World) (es : List Ev) (e : Ending) (w' : World) : Prop := ∃ r' : Sr, e = .returned (.slice r'.1 r'.2.1 r'.2.2) ∧ EvO B w' r' (noSafe es) ∧ (∀ k, (slv r').ownBlock = some k → w.heap.size ≤ k) ∧ RowKit.Below w.heap.size w w'
/-- What has been copied. -/
structure Sl (B : Nat) (w wr : World) (es : List Ev) (k : Nat) (r' : Sr) : Prop where
  o : EvO B wr r' (noSafe (es.take k))
  f : ∀ k, (slv r').ownBlock = some k → w.heap.size ≤ k
  bl : RowKit.Below w.heap.size w wr
set_option maxRecDepth 10000 in
set_option maxHeartbeats 4000000 in
theorem safeless_any (w : World) (B : Nat) (ra : Option Addr) (rn rc : Nat) (es : List Ev) (h : EvO B w (ra, rn, rc) es) (hB : B ≤ w.heap.size) (h9 : es.length ≤ 9000) : Calls Try.prog 18 #[.slice ra rn rc] w fun e w' => SlPost B w es e w' := by
  have hl : rn = es.length := h.1
  have HI : Hid (EvO B w (ra, rn, rc) es ∧ B ≤ w.heap.size ∧ rn = es.length) := ⟨h, hB, hl⟩
  have hrn9 : rn ≤ 9000 := by omega
  clear h hB hl h9
  go_enter Try.func18, Try.ntmps18
  go_wp2_with fail
  go_loopw [3, 4] (fun mv iv wr => ∃ (k : Nat) (r' : Sr), k ≤ rn ∧ iv = .int .i64 (k : Nat) ∧ mv = .slice r'.1 r'.2.1 r'.2.2 ∧ Sl B w wr es k r') (fun _ iv _ => rn - (intOf iv).toNat)
  case atStart => exact ⟨0, (none, 0, 0), by omega, rfl, rfl, EvO.nil _ _, fun k hk => by simp [slv, Value.ownBlock] at hk, Below.refl _ _⟩
  case round =>
    obtain ⟨k, r', hk, rfl, rfl, hsl⟩ := hrel
    have HS : Hid (Sl B w wr es k r') := hsl
    clear hsl
    by_cases hlt : k < rn
    · have hltI : (k : Int) < (rn : Int) := by omega
      have hk0 : ¬ ((k : Int) < 0) := by omega
      obtain ⟨e, he⟩ : ∃ e, es[k]? = some e := ⟨es[k]'(by have := HI.out.2.2; omega), List.getElem?_eq_getElem _⟩
      obtain ⟨b, cap, ⟨ta, tn, tc⟩, hre, h6, hxok⟩ := (HI.out.1.up HI.out.2.1 HS.out.bl).at he
      simp only [Prod.mk.injEq] at hre
      obtain ⟨rfl, -, -⟩ := hre
      have h0 := h6.1
      have HE : Hid (es.take (k + 1) = es.take k ++ [e] ∧ ExOk B wr (e, (ta, tn, tc))) := ⟨take_snoc he, hxok⟩
      clear he hxok
      by_cases hk4 : e.k = 4
      · have hkb : ((e.k : Int) != 4) = false := by simp; omega
        have HN : Hid (Sl B w wr es (k + 1) r') := ⟨by rw [HE.out.1, noSafe_snoc, if_pos hk4, List.append_nil]; exact HS.out.o, HS.out.f, HS.out.bl⟩
        clear hk4
        go_wp2
        go_roundw
        case rel => exact ⟨k + 1, r', by omega, by go_num, rfl, HN.out⟩
        case measure => simp [intOf]; omega
      · have hkb : ((e.k : Int) != 4) = true := by simp; omega
        obtain ⟨A, hA⟩ : ∃ A, wr.alloc (.cells #[.int .u8 (e.k : Nat), .int .u64 (e.n : Nat), .int .i64 e.p, .int .u16 (e.s : Nat), .int .i64 e.f, .slice ta tn tc] 49) = A := ⟨_, rfl⟩
        obtain ⟨q, hq⟩ : ∃ q, wr.heap.size = q := ⟨_, rfl⟩
        have uA : RowKit.Below wr.heap.size wr A := by rw [← hA]; exact bl1 _ _
        have hsw : w.heap.size ≤ wr.heap.size := HS.out.bl.size
        have hac := cell_one wr (e, ((ta, tn, tc) : Sr))
        simp only at hac
        rw [hA, hq] at hac
        have hlen : (noSafe (es.take k)).length ≤ 9000 := by
          have h1 := List.length_filter_le (fun e : Ev => decide (e.k ≠ 4)) (es.take k)
          rw [List.length_take] at h1
          unfold noSafe
          omega
        obtain ⟨r5, w5, hrun, ho5, hb5, hg5, hat5⟩ := (HS.out.o.up (Nat.le_trans HI.out.2.1 hsw) uA).run [(e, ((ta, tn, tc) : Sr))] (fun z hz => by rw [List.mem_singleton] at hz; subst hz; exact ⟨HE.out.2.1, HE.out.2.2.keep (Kp.up uA)⟩) (by simp only [List.length_singleton]; omega) (Nat.le_trans HI.out.2.1 (Nat.le_trans hsw uA.size)) 1 hac
        have HN : Hid (Sl B w w5 es (k + 1) r5) := by
          refine ⟨by rw [HE.out.1, noSafe_snoc, if_neg hk4]; exact ho5, fun kk hkk => ?_, bl_grown (bl_step HS.out.bl uA) (Nat.le_trans hsw uA.size) hg5 HS.out.f⟩
          rcases hat5 with h' | ⟨q', h', h''⟩
          · exact HS.out.f kk (h' ▸ hkk)
          · rw [h'] at hkk
            have := uA.size
            simp at hkk; omega
        have HRUN : Hid ((Builtin.append_ #[41, 41] 41 #[.slice r'.1 r'.2.1 r'.2.2, .slice (some ⟨q, 0, none⟩) 1 1]).run Try.prog A = .ok (.slice r5.1 r5.2.1 r5.2.2) w5) := hrun
        clear hk4 hac hlen hrun ho5 hb5 hg5 hat5 uA hsw
        go_wp2_with (first | refine wpList_load_Ev rfl (.tmp 20) rfl b (k * 6) rfl e (ta, tn, tc) h6 ?_ | (at_builtin; (try simp only [hA, hq]); refine wpList_append_runE rfl (.tmp 17) (.tmp 22) 41 rfl (.slice r'.1 r'.2.1 r'.2.2) (.slice (some ⟨q, 0, none⟩) 1 1) (.slice r5.1 r5.2.1 r5.2.2) w5 rfl rfl HRUN.out ?_))
        go_roundw
        case rel => exact ⟨k + 1, r5, by omega, by go_num, rfl, HN.out⟩
        case measure => simp [intOf]; omega
    · obtain rfl : k = rn := by omega
      have HN : Hid (SlPost B w es (.returned (.slice r'.1 r'.2.1 r'.2.2)) wr) := by
        have h1 := HS.out.o
        rw [List.take_of_length_le (by have := HI.out.2.2; omega)] at h1
        exact ⟨r', rfl, h1, HS.out.f, HS.out.bl⟩
      go_wp2
      go_ret
      exact HN.out
/-- A row of the block is replaced by a new one. -/
theorem TL.replace {B : Nat} {w : World} {g n m i : Nat} {R : Nat → Sr} {X : Nat → List Ev} (h : TL B w g n m R X) (hi : i < n) {r' : Sr} {es : List Ev} (ho : EvO B w r' es) (hf : ∀ j, j < m → ∀ b, (slv (R j)).ownBlock = some b → (slv r').ownBlock ≠ some b) : TL B (w.setCell ⟨g, i, none⟩ (slv r')) g n m (upd R i r') (upd X i es) := by
  have hng : (slv r').ownBlock ≠ some g := fun e => by
    obtain ⟨c, hc⟩ := h.blk
    obtain ⟨_, _, d, hd⟩ := ho.blk e
    rw [hc] at hd
    simp at hd
  have := h.nm
  refine ⟨by simpa [World.setCell] using h.sz, h.gB, blk_set h.blk, h.nm, fun j hj => ?_, fun j hj => ?_, fun j k hj hk hjk b hb => ?_⟩
  · by_cases e : j = i
    · subst e; rw [upd_same]; exact World.cell?_setCell_same' _ _ _ (by rw [h.cell j hj]; rfl)
    · rw [upd_ne _ _ e]
      exact setCell_other' (by first | (simp; done) | (simp; omega)) (h.cell j hj)
  · by_cases e : j = i
    · subst e; rw [upd_same, upd_same]; exact ho.set hng h.gB
    · rw [upd_ne _ _ e, upd_ne _ _ e]; exact (h.row j hj).set (h.ng hj) h.gB
  · by_cases e : j = i
    · subst e
      rw [upd_same] at hb
      rw [upd_ne _ _ (Ne.symm hjk)]
      exact fun hk' => hf k hk b hk' hb
    · rw [upd_ne _ _ e] at hb
      by_cases e2 : k = i
      · subst e2; rw [upd_same]; exact hf j hj b hb
      · rw [upd_ne _ _ e2]; exact h.apart j k hj hk hjk b hb
end Go.Proofs.Ythnbijnpbjfoaaa
