/-
  Contracts of what opens sealed bytes: Open of package code, Open of the document's answer.
-/
import Derived.Test.YtfemjbaadnjanaaCdSeal2
import Derived.Laws.CopyOwn
import Derived.Laws.StructEq
import Derived.KernelRfl
namespace Go.Proofs.Ytfemjbaadnjanaa.Cd
open Go.RowKit
set_option linter.unusedVariables false
set_option linter.unusedSimpArgs false

/-- What opening comes to: the error's number, and the bytes. -/
def opened (xs : List UInt8) : Nat × List UInt8 :=
  if xs.length < 4 then (3, []) else if le4 (crcSum (xs.take (xs.length - 4))) = xs.drop (xs.length - 4) then (0, xs.take (xs.length - 4)) else (5, [])

theorem eq62 (a b c d a' b' c' d' : Int) (w : World) : (Op.equalIn 10000 92 (.agg #[.int .u8 a, .int .u8 b, .int .u8 c, .int .u8 d]) (.agg #[.int .u8 a', .int .u8 b', .int .u8 c', .int .u8 d'])).run Try.prog w = .ok (a == a' && b == b' && c == c' && d == d') w := by
  have u3 := Try.underlying5
  have a3 := Try.isAgg5
  have z3 := Try.sizeOf5
  rw [show (10000 : Nat) = 9999 + 1 from rfl, Op.equalIn]
  simp only [Sem.run_bind, run_underlying Try.underlying92, Result.andThen_ok]
  simp only [Std.Legacy.Range.forIn_eq_forIn_range', Std.Legacy.Range.size, Nat.sub_zero, Nat.add_sub_cancel, Nat.div_one, List.range'_succ, List.range'_zero, List.forIn_cons, List.forIn_nil]
  go_simp
  by_cases h1 : a = a' <;> by_cases h2 : b = b' <;> by_cases h3 : c = c' <;> by_cases h4 : d = d' <;> simp [h1, h2, h3, h4]
theorem eq62_bytes (t0 t1 t2 t3 s0 s1 s2 s3 : UInt8) (w : World) : (Op.equalIn 10000 92 (.agg #[.int .u8 (t0.toNat : Int), .int .u8 (t1.toNat : Int), .int .u8 (t2.toNat : Int), .int .u8 (t3.toNat : Int)]) (.agg #[by8 s0, by8 s1, by8 s2, by8 s3])).run Try.prog w = .ok (decide ([s0, s1, s2, s3] = [t0, t1, t2, t3])) w := by
  rw [show (Value.agg #[by8 s0, by8 s1, by8 s2, by8 s3]) = .agg #[.int .u8 (s0.toNat : Int), .int .u8 (s1.toNat : Int), .int .u8 (s2.toNat : Int), .int .u8 (s3.toNat : Int)] from rfl, eq62]
  congr 1
  rw [Bool.eq_iff_iff]
  simp only [Bool.and_eq_true, beq_iff_eq, decide_eq_true_eq, List.cons.injEq, and_true]
  constructor
  · rintro ⟨⟨⟨h0, h1⟩, h2⟩, h3⟩
    exact ⟨UInt8.toNat_inj.1 (by omega), UInt8.toNat_inj.1 (by omega), UInt8.toNat_inj.1 (by omega), UInt8.toNat_inj.1 (by omega)⟩
  · rintro ⟨rfl, rfl, rfl, rfl⟩
    exact ⟨⟨⟨rfl, rfl⟩, rfl⟩, rfl⟩

set_option maxRecDepth 10000 in
set_option maxHeartbeats 1000000 in
theorem open_short (w : World) (ao : Option Addr) (n cap : Nat) (h : n < 4) (hm : cap ≤ maxLen) :
    Calls Try.prog 25 #[.slice ao n cap] w fun e w' => e = .returned (.tuple #[.slice none 0 0, .int .i64 3]) ∧ w = w' := by
  unfold maxLen at hm
  go_enter Try.func25, Try.ntmps25
  go_wp2
  go_ret2
  exact ⟨rfl, rfl⟩

set_option maxRecDepth 10000 in
set_option maxHeartbeats 1000000 in
theorem open_long (w : World) (ao : Option Addr) (n cap : Nat) (xs : List UInt8) (h : Row w ao n cap xs) (h4 : 4 ≤ n) (hr : n ≤ 140737488355328) :
    Calls Try.prog 25 #[.slice ao n cap] w fun e w' => ∃ v, e = .returned (.tuple #[v, .int .i64 ((opened xs).1 : Nat)]) ∧ w'.ownsRow w.heap.size 5 1 v (opened xs).2.length ((opened xs).2.map by8) ∧ Below w.heap.size w w' := by
  obtain ⟨i0, hi, hz0, hz1, hz2⟩ := info_parts Try.info5
  have hlen := h.1
  have hle := h.2.1
  have hm := h.2.2.1
  obtain ⟨b, off, rfl, hcell⟩ := h.open (by omega)
  have HX : Hid (xs.length = n) := hlen
  have hin := h.take (n - 4) (by omega)
  have htl := h.drop_at (n - 4) (by omega)
  unfold maxLen at hm
  obtain ⟨m, hm4⟩ : ∃ m, n = m + 4 := ⟨n - 4, by omega⟩
  subst hm4
  have e1 : m + 4 - 4 = m := by omega
  have e2 : m + 4 - m = 4 := by omega
  rw [e1] at hin htl
  rw [e2] at htl
  obtain ⟨t0, t1, t2, t3, ht⟩ : ∃ t0 t1 t2 t3, xs.drop m = [t0, t1, t2, t3] := by
    have hl := htl.1
    match hd : xs.drop m, hl with
    | [t0, t1, t2, t3], _ => exact ⟨t0, t1, t2, t3, rfl⟩
    | [], hl => simp [hd] at hl
    | [_], hl => simp [hd] at hl
    | [_, _], hl => simp [hd] at hl
    | [_, _, _], hl => simp [hd] at hl
    | _ :: _ :: _ :: _ :: _ :: _, hl => simp [hd] at hl
  clear e1 e2 hlen
  have hcm : ¬ cap = m := by omega
  have hmm : (m : Int) ≤ (m : Int) + 4 := by omega
  go_enter Try.func25, Try.ntmps25
  go_wp2
  refine wp_region_noPanic ?_
  refine wp_region_held_drew (S := fun _ => True) (by kernel_rfl) trivial (fun hHeld => ?_)
  refine take_first 0 (v := ?_) rfl (by kernel_rfl) (by kernel_rfl) (by kernel_rfl) (fun _ _ _ h => h) (Or.inl ⟨by rfl, by intro wx hSw; (try dsimp only at hSw); go_simp; try with_reducible rfl⟩) (by assumption) ?_
  (try simp only [Act.put, List.setIfInBounds_toArray, List.set_cons_zero, List.set_cons_succ])
  refine take_first 1 (v := ?_) rfl (by kernel_rfl) (by kernel_rfl) (by kernel_rfl) (fun _ _ _ h => h) (Or.inl ⟨by rfl, by intro wx hSw; (try dsimp only at hSw); go_simp; try with_reducible rfl⟩) (by assumption) ?_
  (try simp only [Act.put, List.setIfInBounds_toArray, List.set_cons_zero, List.set_cons_succ])
  refine take_first 2 (v := ?_) rfl (by kernel_rfl) (by kernel_rfl) (by kernel_rfl) (fun _ _ _ h => h) (Or.inl ⟨by rfl, by intro wx hSw; (try dsimp only at hSw); go_simp; try with_reducible rfl⟩) (by assumption) ?_
  (try simp only [Act.put, List.setIfInBounds_toArray, List.set_cons_zero, List.set_cons_succ])
  refine take_first 3 (v := ?_) rfl (by kernel_rfl) (by kernel_rfl) (by kernel_rfl) (fun _ _ _ h => h) (Or.inl ⟨by rfl, by intro wx hSw; (try dsimp only at hSw); go_simp; try with_reducible rfl⟩) (by assumption) ?_
  (try simp only [Act.put, List.setIfInBounds_toArray, List.set_cons_zero, List.set_cons_succ])
  refine comes_up 4 rfl (by kernel_rfl) (fun K hK => ?_)
  refine step_copy_splice rfl _ _ 33 33 rfl 5 Try.underlying33 (by kernel_rfl) (some ⟨w.heap.size, 0, none⟩) (some ⟨b, off + m, none⟩) 4 4 4 (cap - m) (by rfl) (by rfl) w.heap.size 0 [.int .u8 0, .int .u8 0, .int .u8 0, .int .u8 0] 92 (heap_alloc_new _ _) [by8 t0, by8 t1, by8 t2, by8 t3] rfl ?c1 (by simp) ?c2 w.heap.size w ?c3 (Nat.le_refl _) ?_
  case c1 =>
    intro _
    refine ⟨rfl, _, rfl, ?_⟩
    have := (htl.below ((Below.refl _ _).alloc (Nat.le_refl _) (.cells #[.int .u8 0, .int .u8 0, .int .u8 0, .int .u8 0] 92)) (Nat.le_refl _)).olds _ rfl
    rw [ht] at this
    exact this
  case c2 => exact by8_one [t0, t1, t2, t3]
  case c3 => exact ((Below.refl _ _).alloc (Nat.le_refl _) _).drew
  intro w2 HG hb2
  refine hK.out _ _ trivial (fun hHeld => ?_)
  clear hK K
  (try simp only [Act.put, List.setIfInBounds_toArray, List.set_cons_zero, List.set_cons_succ])
  refine wpAnyH_done (by kernel_rfl) ?_ _
  refine NoPanic.normal ?_
  have hg2 : w2.heap[w.heap.size]? = some (.cells #[by8 t0, by8 t1, by8 t2, by8 t3] 92 (0, 0)) := HG.out
  have hs2 := hb2.size
  have hlt2 : w.heap.size < w2.heap.size := (Array.getElem?_eq_some_iff.1 hg2).1
  have cells : ∀ wx, Below w2.heap.size w2 wx → wx.cell? ⟨w.heap.size, 0, none⟩ = some (.int .u8 (t0.toNat : Int)) ∧ wx.cell? ⟨w.heap.size, 1, none⟩ = some (.int .u8 (t1.toNat : Int)) ∧ wx.cell? ⟨w.heap.size, 2, none⟩ = some (.int .u8 (t2.toNat : Int)) ∧ wx.cell? ⟨w.heap.size, 3, none⟩ = some (.int .u8 (t3.toNat : Int)) := by
    intro wx hb
    rw [hb.cell (p := ⟨w.heap.size, 0, none⟩) hlt2, hb.cell (p := ⟨w.heap.size, 1, none⟩) hlt2, hb.cell (p := ⟨w.heap.size, 2, none⟩) hlt2, hb.cell (p := ⟨w.heap.size, 3, none⟩) hlt2]
    exact ⟨by rw [cell_of_row _ _ _ _ _ _ hg2]; rfl, by rw [cell_of_row _ _ _ _ _ _ hg2]; rfl, by rw [cell_of_row _ _ _ _ _ _ hg2]; rfl, by rw [cell_of_row _ _ _ _ _ _ hg2]; rfl⟩
  have hin2 := (hin.below hb2 (Nat.le_refl _)).below (Below.refl _ _).drew (Nat.le_refl _)
  have hsum := sumArr_any _ _ _ _ _ hin2
  obtain ⟨s0, s1, s2, s3, hs4⟩ : ∃ s0 s1 s2 s3, le4 (crcSum (xs.take m)) = [s0, s1, s2, s3] := ⟨_, _, _, _, rfl⟩
  rw [hs4] at hsum
  clear HG
  have hxl := HX.out
  have hbz : Below w.heap.size w w2.drew := hb2.drew
  by_cases heq : [s0, s1, s2, s3] = [t0, t1, t2, t3]
  · have HO : Hid (opened xs = (0, xs.take m)) := by
      show opened xs = (0, xs.take m)
      unfold opened
      rw [if_neg (by omega), hxl, show m + 4 - 4 = m by omega, hs4, ht, if_pos heq]
    have hEq : ∀ wx, (Op.equalIn 10000 92 (.agg #[.int .u8 (t0.toNat : Int), .int .u8 (t1.toNat : Int), .int .u8 (t2.toNat : Int), .int .u8 (t3.toNat : Int)]) (.agg #[by8 s0, by8 s1, by8 s2, by8 s3])).run Try.prog wx = .ok true wx := fun wx => by
      rw [eq62_bytes, decide_eq_true heq]
    clear heq hxl ht hs4
    go_wp2
    refine wp_region_noPanic ?_
    refine wp_region_held_drew (S := fun wx => wx.cell? ⟨w.heap.size, 0, none⟩ = some (.int .u8 (t0.toNat : Int)) ∧ wx.cell? ⟨w.heap.size, 1, none⟩ = some (.int .u8 (t1.toNat : Int)) ∧ wx.cell? ⟨w.heap.size, 2, none⟩ = some (.int .u8 (t2.toNat : Int)) ∧ wx.cell? ⟨w.heap.size, 3, none⟩ = some (.int .u8 (t3.toNat : Int))) (by kernel_rfl) (cells _ (Below.refl _ _).drew) (fun hHeld => ?_)
    refine take_first 0 (v := ?_) rfl (by kernel_rfl) (by kernel_rfl) (by kernel_rfl) (fun _ _ _ h => h) (Or.inl ⟨by rfl, by intro wx hSw; (try dsimp only at hSw); go_simp; try with_reducible rfl⟩) (by assumption) ?_
    (try simp only [Act.put, List.setIfInBounds_toArray, List.set_cons_zero, List.set_cons_succ])
    refine take_first 1 (v := ?_) rfl (by kernel_rfl) (by kernel_rfl) (by kernel_rfl) (fun _ _ _ h => h) (Or.inl ⟨by rfl, by intro wx hSw; (try dsimp only at hSw); go_simp; try with_reducible rfl⟩) (by assumption) ?_
    (try simp only [Act.put, List.setIfInBounds_toArray, List.set_cons_zero, List.set_cons_succ])
    refine comes_up 2 rfl (by kernel_rfl) (fun K hK => ?_)
    go_simp
    refine hsum.mono ?_
    rintro e w5 ⟨rfl, hb5⟩
    go_wp2_with fail
    have hb5' : Below w2.heap.size w2 w5 := (Below.refl _ _).drew.trans hb5
    refine hK.out _ _ (cells _ hb5') (fun hHeld => ?_)
    clear hK K
    (try simp only [Act.put, List.setIfInBounds_toArray, List.set_cons_zero, List.set_cons_succ])
    refine take_first 3 (v := ?_) rfl (by kernel_rfl) (by kernel_rfl) (by kernel_rfl) (fun _ _ _ h => h) (Or.inl ⟨by rfl, by intro wx hSw; (try dsimp only at hSw); go_simp; try with_reducible rfl⟩) (by assumption) ?_
    (try simp only [Act.put, List.setIfInBounds_toArray, List.set_cons_zero, List.set_cons_succ])
    refine wpAnyH_done (by kernel_rfl) ?_ _
    refine NoPanic.normal ?_
    have hin5 := hin.below (hbz.trans (hb5.mono hs2)) (Nat.le_refl _)
    have hb50 : Below w.heap.size w w5 := hbz.trans (hb5.mono hs2)
    have hs5 := hb50.size
    go_wp2_with (first | (at_builtin; refine wpList_append_own _ rfl _ _ 33 rfl w.heap.size 5 i0 (.int .u8 0) 1 1 Try.underlying33 hi hz0 hz1 hz2 rfl (by decide) (.slice none 0 0) 0 [] rfl (World.ownsRow_nil _ _ _ _) ⟨b, off, none⟩ m m ((xs.take m).map by8) rfl ?f2 ?f3 ?f4 ?f6 ?f7 ?f8 ?_))
    case f2 => have := hin.1; simpa using this
    case f3 => exact hin5.olds _ rfl
    case f4 => exact by8_one _
    case f6 => unfold maxLen; omega
    case f7 => omega
    case f8 => omega
    intro v' w6 hown6 hgrow6 _
    have hb6 : Below w.heap.size w w6 := hb50.grown hgrow6 hs5 (fun k hk => by simp [Value.ownBlock] at hk)
    have hown : w6.ownsRow w.heap.size 5 1 v' m ((xs.take m).map by8) := by simpa using hown6
    clear hown6 hgrow6
    go_wp2
    go_ret2
    rw [HO.out]
    exact ⟨v', rfl, by rw [hin.1]; exact hown, hb6⟩
  · have HO : Hid (opened xs = (5, [])) := by
      show opened xs = (5, [])
      unfold opened
      rw [if_neg (by omega), hxl, show m + 4 - 4 = m by omega, hs4, ht, if_neg heq]
    have hEq : ∀ wx, (Op.equalIn 10000 92 (.agg #[.int .u8 (t0.toNat : Int), .int .u8 (t1.toNat : Int), .int .u8 (t2.toNat : Int), .int .u8 (t3.toNat : Int)]) (.agg #[by8 s0, by8 s1, by8 s2, by8 s3])).run Try.prog wx = .ok false wx := fun wx => by
      rw [eq62_bytes, decide_eq_false heq]
    clear heq hxl ht hs4
    go_wp2
    refine wp_region_noPanic ?_
    refine wp_region_held_drew (S := fun wx => wx.cell? ⟨w.heap.size, 0, none⟩ = some (.int .u8 (t0.toNat : Int)) ∧ wx.cell? ⟨w.heap.size, 1, none⟩ = some (.int .u8 (t1.toNat : Int)) ∧ wx.cell? ⟨w.heap.size, 2, none⟩ = some (.int .u8 (t2.toNat : Int)) ∧ wx.cell? ⟨w.heap.size, 3, none⟩ = some (.int .u8 (t3.toNat : Int))) (by kernel_rfl) (cells _ (Below.refl _ _).drew) (fun hHeld => ?_)
    refine take_first 0 (v := ?_) rfl (by kernel_rfl) (by kernel_rfl) (by kernel_rfl) (fun _ _ _ h => h) (Or.inl ⟨by rfl, by intro wx hSw; (try dsimp only at hSw); go_simp; try with_reducible rfl⟩) (by assumption) ?_
    (try simp only [Act.put, List.setIfInBounds_toArray, List.set_cons_zero, List.set_cons_succ])
    refine take_first 1 (v := ?_) rfl (by kernel_rfl) (by kernel_rfl) (by kernel_rfl) (fun _ _ _ h => h) (Or.inl ⟨by rfl, by intro wx hSw; (try dsimp only at hSw); go_simp; try with_reducible rfl⟩) (by assumption) ?_
    (try simp only [Act.put, List.setIfInBounds_toArray, List.set_cons_zero, List.set_cons_succ])
    refine comes_up 2 rfl (by kernel_rfl) (fun K hK => ?_)
    go_simp
    refine hsum.mono ?_
    rintro e w5 ⟨rfl, hb5⟩
    go_wp2_with fail
    have hb5' : Below w2.heap.size w2 w5 := (Below.refl _ _).drew.trans hb5
    refine hK.out _ _ (cells _ hb5') (fun hHeld => ?_)
    clear hK K
    (try simp only [Act.put, List.setIfInBounds_toArray, List.set_cons_zero, List.set_cons_succ])
    refine take_first 3 (v := ?_) rfl (by kernel_rfl) (by kernel_rfl) (by kernel_rfl) (fun _ _ _ h => h) (Or.inl ⟨by rfl, by intro wx hSw; (try dsimp only at hSw); go_simp; try with_reducible rfl⟩) (by assumption) ?_
    (try simp only [Act.put, List.setIfInBounds_toArray, List.set_cons_zero, List.set_cons_succ])
    refine wpAnyH_done (by kernel_rfl) ?_ _
    refine NoPanic.normal ?_
    have hb50 : Below w.heap.size w w5 := hbz.trans (hb5.mono hs2)
    go_wp2
    go_ret2
    rw [HO.out]
    exact ⟨_, rfl, World.ownsRow_nil _ _ _ _, hb50⟩

end Go.Proofs.Ytfemjbaadnjanaa.Cd
