/-
  judge's safeAtAll: has each node of the set received as many as any of them knew to be safe?
-/
import Derived.Test.YthnbijnpbjfoaaaJOrder
import Derived.Lib.MinMax
namespace Go.Proofs.Ythnbijnpbjfoaaa
open Go.RowKit Go.Sort
set_option linter.unusedVariables false

/-- How many the last of these of a node received. -/
def hadF : List Sy → Nat → Nat
  | [], _ => 0
  | y :: r, i => if r.any (fun z => decide (z.node = i)) then hadF r i else if y.node = i then y.got.length else 0
theorem hadF_snoc (l : List Sy) (y : Sy) (i : Nat) : hadF (l ++ [y]) i = if y.node = i then y.got.length else hadF l i := by
  induction l with
  | nil => simp [hadF]
  | cons a r ih =>
    simp only [List.cons_append, hadF, List.any_append, List.any_cons, List.any_nil, Bool.or_false, ih]
    by_cases h : y.node = i
    · simp [h]
    · simp [h]
def maxS (l : List Sy) : Nat := l.foldl (fun m y => max m y.safe) 0
theorem maxS_snoc (l : List Sy) (y : Sy) : maxS (l ++ [y]) = max (maxS l) y.safe := by simp [maxS, List.foldl_append]
theorem maxS_le {l : List Sy} {N : Nat} (h : ∀ y ∈ l, y.safe ≤ N) : maxS l ≤ N := by
  suffices ∀ (l : List Sy) (m : Nat), m ≤ N → (∀ y ∈ l, y.safe ≤ N) → l.foldl (fun m y => max m y.safe) m ≤ N from this l 0 (Nat.zero_le _) h
  intro l
  induction l with
  | nil => intro m hm _; exact hm
  | cons a r ih => intro m hm hl; exact ih _ (Nat.max_le.2 ⟨hm, hl a (by simp)⟩) (fun y hy => hl y (List.mem_cons_of_mem _ hy))
def SafeOk (ys : List Sy) : Prop := ∀ i, i < 16 → ((ys[0]?.map (fun y : Sy => y.s)).getD 0).testBit i = true → maxS ys ≤ hadF ys i
theorem cnt_new (w : World) : Cnt (w.alloc (.cells (Array.replicate 16 (.int .i64 0)) 107)) w.heap.size 16 (fun _ => 0) := fun i hi => by
  refine ⟨cell_box w _ 107 i _ ?_, frozen_new w _ 107 i⟩
  rw [Array.getElem?_replicate, if_pos hi]
  rfl
def S7a (q : Nat) (nd : Nat) (gr : Sr) (w : World) : Prop := w.cell? ⟨q, 0, none⟩ = some (.int .i64 (nd : Nat)) ∧ w.cell? ⟨q, 5, none⟩ = some (.slice gr.1 gr.2.1 gr.2.2)

set_option maxRecDepth 10000 in
set_option maxHeartbeats 4000000 in
theorem safe_any (w : World) (ao : Option Addr) (n cap : Nat) (ys : List Sy) (h : Gr w ao n ys) (hno : ∀ y ∈ ys, y.node < 16 ∧ y.s < 65536 ∧ y.safe ≤ 9000) (hn0 : 0 < n) :
    Calls Try.prog 45 #[.slice ao n cap] w fun e w' => BoolPostB w (SafeOk ys) e w' := by
  have hl := h.len
  have hn := h.le
  have HI : Hid (Gr w ao n ys ∧ ∀ y ∈ ys, y.node < 16 ∧ y.s < 65536 ∧ y.safe ≤ 9000) := ⟨h, hno⟩
  clear h hno
  obtain ⟨w1, hw1⟩ : ∃ w1, w.alloc (.cells #[.int .i64 0, .int .i64 0, .int .i64 0, .int .i64 0, .int .i64 0, .int .i64 0, .int .i64 0, .int .i64 0, .int .i64 0, .int .i64 0, .int .i64 0, .int .i64 0, .int .i64 0, .int .i64 0, .int .i64 0, .int .i64 0] 107) = w1 := ⟨_, rfl⟩
  have ha1 : Cnt w1 w.heap.size 16 (fun _ => 0) := by rw [← hw1]; exact cnt_new w
  have u1 : Up w w1 := by rw [← hw1]; exact (Up.refl _).alloc _
  have hz1 : w1.heap.size = w.heap.size + 1 := by rw [← hw1]; simp
  obtain ⟨A, hA⟩ : ∃ A, w.heap.size = A := ⟨_, rfl⟩
  have HA : Hid (w.heap.size = A) := hA
  rw [hA] at ha1 hz1
  have H1 : Hid (Cnt w1 A 16 (fun _ => 0) ∧ RowKit.Below w.heap.size w w1 ∧ w1.heap.size = A + 1) := ⟨ha1, u1.bl, hz1⟩
  clear ha1 u1 hz1
  go_enter Try.func45, Try.ntmps45
  go_wp2_with fail
  (try simp only [hw1, hA])
  clear hw1 hA
  go_loopw [3, 6, 11] (fun sv _ iv wr => ∃ k m : Nat, k ≤ n ∧ iv = .int .i64 (k : Nat) ∧ sv = .int .i64 (m : Nat) ∧ m = maxS (ys.take k) ∧ Cnt wr A 16 (hadF (ys.take k)) ∧ RowKit.Below w.heap.size w wr ∧ A + 1 ≤ wr.heap.size) (fun _ _ iv _ => n - (intOf iv).toNat)
  case atStart => exact ⟨0, 0, by omega, rfl, rfl, rfl, H1.out.1, H1.out.2.1, by have := H1.out.2.2; omega⟩
  case round =>
    clear H1
    obtain ⟨k, m, hk, rfl, rfl, hm, hct, hu, hsz⟩ := hrel
    have HR : Hid (m = maxS (ys.take k) ∧ Cnt wr A 16 (hadF (ys.take k)) ∧ RowKit.Below w.heap.size w wr ∧ A + 1 ≤ wr.heap.size) := ⟨hm, hct, hu, hsz⟩
    have hm9 : m ≤ 9000 := by rw [hm]; exact maxS_le (fun y hy => (HI.out.2 y (List.mem_of_mem_take hy)).2.2)
    clear hm hct hsz
    by_cases hlt : k < n
    · have hltI : (k : Int) < (n : Int) := by omega
      have hk0 : ¬ ((k : Int) < 0) := by omega
      obtain ⟨y, hy⟩ : ∃ y, ys[k]? = some y := ⟨ys[k]'(by omega), List.getElem?_eq_getElem (by omega)⟩
      obtain ⟨b, off, q, sr, gr, hao, c0, y9, _, hit, _, _⟩ := HI.out.1.at hy
      obtain ⟨h16, _, hs9⟩ := HI.out.2 y (List.mem_of_getElem? hy)
      have c0 := bl_cell hu c0
      have y9' := y9.up hu
      have q0 := y9'.1
      have q5 := y9'.2.2.2.2.2.1
      have q6 := y9'.2.2.2.2.2.2.1
      have HY : Hid (ys[k]? = some y ∧ y.got.length = gr.2.1) := ⟨hy, hit.len⟩
      obtain ⟨a0, f0⟩ := HR.out.2.1 y.node h16
      subst hao
      clear hy hit y9 y9' hu
      obtain ⟨nd, hnd⟩ : ∃ nd, y.node = nd := ⟨_, rfl⟩
      obtain ⟨sf, hsf⟩ : ∃ sf, y.safe = sf := ⟨_, rfl⟩
      have HND : Hid (y.node = nd ∧ y.safe = sf) := ⟨hnd, hsf⟩
      rw [hnd] at q0 a0 f0 h16
      rw [hsf] at q6 hs9
      clear hnd hsf
      have hi16 : (nd : Int) < 16 := by omega
      have hi0 : ¬ ((nd : Int) < 0) := by omega
      obtain ⟨ga, gn, gc⟩ := gr
      simp only at HY q5
      obtain ⟨w2, hw2⟩ : ∃ w2, (wr.setCell ⟨A, nd, none⟩ (.int .i64 (gn : Nat))).drew = w2 := ⟨_, rfl⟩
      have H2 : Hid (max m sf = maxS (ys.take (k + 1)) ∧ Cnt w2 A 16 (hadF (ys.take (k + 1))) ∧ RowKit.Below w.heap.size w w2 ∧ A + 1 ≤ w2.heap.size) := by
        refine ⟨by rw [take_snoc HY.out.1, maxS_snoc, ← HR.out.1, HND.out.2], ?_, ?_, ?_⟩
        · rw [← hw2]
          have h1 := (HR.out.2.1.set (v := gn) h16).up ((Up.refl (wr.setCell ⟨A, nd, none⟩ (.int .i64 (gn : Nat)))).drew).bl
          intro i hi
          obtain ⟨x1, x2⟩ := h1 i hi
          refine ⟨?_, x2⟩
          rw [x1]
          dsimp only
          rw [take_snoc HY.out.1, hadF_snoc, HND.out.1]
          by_cases e : i = nd
          · rw [if_pos e, if_pos e.symm, HY.out.2]
          · rw [if_neg e, if_neg (fun e' => e e'.symm)]
        · rw [← hw2]
          exact (HR.out.2.2.1.setCell (Nat.le_of_eq HA.out) _).drew
        · rw [← hw2]
          have := HR.out.2.2.2
          simp [World.setCell]
          exact this
      by_cases hms : m ≤ sf
      · have HM : Hid (max m sf = sf) := Nat.max_eq_right hms
        have hmx : max (m : Int) (sf : Int) = (sf : Int) := by omega
        go_wp2_with fail
        go_big_region
        (try simp only [hw2])
        clear hw2 a0 f0 q0 q5 q6
        go_wp2
        go_roundw
        case rel => exact ⟨k + 1, sf, by omega, by go_num, rfl, (by rw [← HM.out]; exact H2.out.1), H2.out.2⟩
        case measure => simp [intOf]; omega
      · have HM : Hid (max m sf = m) := Nat.max_eq_left (by omega)
        have hmx : max (m : Int) (sf : Int) = (m : Int) := by omega
        go_wp2_with fail
        go_big_region
        (try simp only [hw2])
        clear hw2 a0 f0 q0 q5 q6
        go_wp2
        go_roundw
        case rel => exact ⟨k + 1, m, by omega, by go_num, rfl, (by rw [← HM.out]; exact H2.out.1), H2.out.2⟩
        case measure => simp [intOf]; omega
    · obtain rfl : k = n := by omega
      obtain ⟨y0, hy0⟩ : ∃ y, ys[0]? = some y := ⟨ys[0]'(by omega), List.getElem?_eq_getElem (by omega)⟩
      obtain ⟨b, off, q, sr, gr, hao, c0, y9, _⟩ := HI.out.1.at hy0
      have c0 := bl_cell hu c0
      rw [Nat.add_zero] at c0
      have q3 := (y9.up hu).2.2.2.1
      have hs6 := (HI.out.2 y0 (List.mem_of_getElem? hy0)).2.1
      obtain ⟨s, hs⟩ : ∃ s, y0.s = s := ⟨_, rfl⟩
      rw [hs] at q3 hs6
      have hms : m = maxS ys := by have := HR.out.1; rwa [List.take_of_length_le (by omega)] at this
      have hct : Cnt wr A 16 (hadF ys) := by have := HR.out.2.1; rwa [List.take_of_length_le (by omega)] at this
      have HS : Hid ((ys[0]?.map (fun y : Sy => y.s)).getD 0 = s ∧ m = maxS ys ∧ Cnt wr A 16 (hadF ys)) := ⟨by rw [hy0]; exact hs, hms, hct⟩
      have hk0 : (0 : Int) < (k : Int) := by omega
      have HU : Hid (RowKit.Below w.heap.size w wr ∧ A + 1 ≤ wr.heap.size) := ⟨hu, HR.out.2.2.2⟩
      subst hao
      clear hy0 y9 hs hms hct hu hlt
      have hll := list_any wr s hs6
      have HN : Hid ((nodes s 16).length = cntF 16 s) := nodes_len 16 s
      have hcl := cntF_le 16 s
      generalize cntF 16 s = c at *
      go_wp2_with fail
      refine hll.mono ?_
      rintro e w2 ⟨v, rfl, hown, hb⟩
      obtain ⟨ao, cap, rfl, hcc, hcm⟩ : ∃ ao cap, v = .slice ao c cap ∧ c ≤ cap ∧ cap ≤ 9223372036854775807 := by
        rcases hown.2 with ⟨rfl, h0⟩ | ⟨g, cap, cur, rfl, _, _, h1, h2, _⟩
        · exact ⟨none, 0, by rw [h0], by omega, by omega⟩
        · exact ⟨_, cap, rfl, h1, by unfold maxLen at h2; omega⟩
      have HO : Hid (w2.ownsRow wr.heap.size 3 1 (.slice ao c cap) c (ints (nodes s 16)) ∧ RowKit.Below wr.heap.size wr w2) := ⟨hown, hb⟩
      clear hown hb hll c0 q3
      go_wp2_with fail
      go_loop [8, 41] (fun _ jv => ∃ j : Nat, j ≤ c ∧ jv = .int .i64 (j : Nat) ∧ ∀ a i, a < j → (nodes s 16)[a]? = some i → maxS ys ≤ hadF ys i) (fun _ jv => c - (intOf jv).toNat)
      case atStart => exact ⟨0, by omega, rfl, by omega⟩
      case round =>
        obtain ⟨j, hj, rfl, hal⟩ := hrel
        have HA : Hid (∀ a i, a < j → (nodes s 16)[a]? = some i → maxS ys ≤ hadF ys i) := hal
        clear hal
        by_cases hlt : j < c
        · have hltI : (j : Int) < c := by omega
          obtain ⟨i, hi⟩ : ∃ i, (nodes s 16)[j]? = some i := ⟨_, List.getElem?_eq_getElem (by rw [HN.out]; exact hlt)⟩
          obtain ⟨hi16, hbit⟩ : i < 16 ∧ s.testBit i = true := by
            have := List.mem_of_getElem? hi
            simp only [nodes, List.mem_filter, List.mem_range] at this
            exact this
          have hi16I : (i : Int) < 16 := by omega
          obtain ⟨g, rfl⟩ : ∃ g, ao = some ⟨g, 0, none⟩ := by
            rcases HO.out.1.2 with ⟨h0, _⟩ | ⟨g, cap', cur, h0, _⟩
            · simp only [Value.slice.injEq] at h0; omega
            · simp only [Value.slice.injEq] at h0; exact ⟨g, h0.1⟩
          have hc : w2.cell? ⟨g, j, none⟩ = some (.int .i64 (i : Nat)) := by
            rw [HO.out.1.cellAt j (by omega)]
            simp [ints, hi]
          have ha : w2.cell? ⟨A, i, none⟩ = some (.int .i64 (hadF ys i : Nat)) := bl_cell HO.out.2 (HS.out.2.2 i hi16).1
          obtain ⟨hd, hhd⟩ : ∃ hd, hadF ys i = hd := ⟨_, rfl⟩
          rw [hhd] at ha
          have HI2 : Hid ((nodes s 16)[j]? = some i ∧ hadF ys i = hd ∧ s.testBit i = true) := ⟨hi, hhd, hbit⟩
          clear hi hhd hbit
          by_cases he : hd < m
          · have heI : (hd : Int) < (m : Int) := by omega
            have HK : Hid (¬ SafeOk ys) := by
              intro h
              have := h i hi16 (by rw [HS.out.1]; exact HI2.out.2.2)
              have h1 := HI2.out.2.1
              have h2 := HS.out.2.1
              omega
            go_wp2
            go_ret
            exact ⟨⟨false, rfl, by simp; exact HK.out⟩, bl_step HU.out.1 HO.out.2⟩
          · have heI : ¬ (hd : Int) < (m : Int) := by omega
            have HX : Hid (∀ a i, a < j + 1 → (nodes s 16)[a]? = some i → maxS ys ≤ hadF ys i) := fun a z ha hz => by
              by_cases e : a = j
              · subst e
                rw [HI2.out.1] at hz
                cases hz
                have h1 := HI2.out.2.1
                have h2 := HS.out.2.1
                omega
              · exact HA.out a z (by omega) hz
            go_wp2
            go_round
            case rel => exact ⟨j + 1, by omega, by go_num, HX.out⟩
            case measure => simp [intOf]; omega
        · obtain rfl : j = c := by omega
          have HK : Hid (SafeOk ys) := by
            intro i hi hb
            rw [HS.out.1] at hb
            have hmem : i ∈ nodes s 16 := by simp only [nodes, List.mem_filter, List.mem_range]; exact ⟨hi, hb⟩
            obtain ⟨a, ha⟩ := List.getElem?_of_mem hmem
            have := (List.getElem?_eq_some_iff.1 ha).1
            rw [HN.out] at this
            exact HA.out a i this ha
          go_wp2
          go_ret
          exact ⟨⟨true, rfl, by simp; exact HK.out⟩, bl_step HU.out.1 HO.out.2⟩
end Go.Proofs.Ythnbijnpbjfoaaa
