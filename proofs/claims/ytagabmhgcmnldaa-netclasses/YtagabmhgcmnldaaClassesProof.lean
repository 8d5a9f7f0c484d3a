/-
  Proved: for every n and all bytes cuts, NetClasses(n, cuts) returns true: of two nodes that are in one class each hears the other, and they are in one class. No condition.
-/
import Derived.Test.YtagabmhgcmnldaaNArgs
namespace Go.Proofs.Ytagabmhgcmnldaa.netClasses
open Go.ChangeShapes Go.WideShapes Go.ChangeAt Go.RowKit
open Go.ChangeMaps (open_string shut_string)
set_option linter.unusedVariables false
set_option linter.unusedSimpArgs false

theorem cut_whatever {w : World} {F : Nat → Prop} {p N : Nat} {H : Nat → Nat} {lost : Nat} {A : List Pa} (h : Nt w F p N H lost A) (a b : Nat) (ha : a < N) (hb : b < N) :
    Calls Try.prog 20 #[.pointer (some ⟨p, 0, none⟩), .int .i64 (a : Nat), .int .i64 (b : Nat)] w fun e w' => ∃ r H', e = .returned (.int .i64 r) ∧ Nt w' F p N H' lost A ∧ Turned F w w' := by
  by_cases e : a = b
  · refine (cut_err h a b (by rintro ⟨_, _, h3⟩; exact h3 (by rw [e]))).mono ?_
    rintro e' w' ⟨he, rfl⟩
    exact ⟨_, H, he, h, Turned.refl _ _⟩
  · refine (cut_any h a b ha hb e).mono ?_
    rintro e' w' ⟨he, k1, k2⟩
    exact ⟨_, _, he, k1, k2⟩
theorem class_ne {N : Nat} {H : Nat → Nat} {i : Int} {c : Nat} (hc : classN N H i = c) (h0 : c ≠ 0) : isNode N i = true ∧ c = H i.toNat ∧ ∀ m ∈ nodes c 16, H m = c := by
  unfold classN at hc
  split at hc
  · rename_i h1
    unfold classS at hc
    split at hc
    · rename_i h2
      exact ⟨h1, hc.symm, by rw [← hc]; exact h2⟩
    · exact absurd hc.symm h0
  · exact absurd hc.symm h0
theorem class_lt {N : Nat} {H : Nat → Nat} (hs : ∀ k, H k < 65536) (i : Int) : classN N H i < 65536 := by
  unfold classN classS
  split
  · split
    · exact hs _
    · omega
  · omega
theorem Nt.hs {w : World} {F : Nat → Prop} {p N : Nat} {H : Nat → Nat} {lost : Nat} {A : List Pa} (h : Nt w F p N H lost A) : ∀ k, H k < 65536 := by
  obtain ⟨⟨sv, L, h1, _⟩, _⟩ := h
  exact h1.hs

set_option maxRecDepth 10000 in
set_option maxHeartbeats 2000000 in
theorem walk (w : World) (n : Nat) (hn : n < 256) (ao : Option Addr) (m cap : Nat) (xs : List UInt8) (h : Row w ao m cap xs) (hc : cap ≤ 140737488351232) :
    Calls Try.prog 4 #[.int .u8 (n : Nat), .slice ao m cap] w fun e w' => e = .returned (.bool true) ∧ Below w.heap.size w w' := by
  obtain ⟨k, hk⟩ : ∃ k, k = 1 + n % 16 := ⟨_, rfl⟩
  have hki : 1 + (n : Int) % 16 = (k : Int) := by omega
  have hk1 : 1 ≤ k := by omega
  have hk16 : k ≤ 16 := by omega
  have hmc := h.2.1
  have HR : Hid (Row w ao m cap xs) := h
  clear hk h
  go_enter Try.func4, Try.ntmps4
  go_wp2_with fail
  refine (awake_any _).mono ?_
  rintro e w1 ⟨rfl, b1⟩
  go_wp2_with fail
  (try rw [hki])
  refine (new_any _ k hk1 hk16).mono ?_
  rintro e w2 ⟨p, F, rfl, hN, b2, hF⟩
  have hb2 := bl_step b1 b2
  have hF' : ∀ b, F b → w.heap.size ≤ b := fun b hb => Nat.le_trans b1.size (hF b hb)
  clear b1 b2 hF hki
  go_wp2_with fail
  go_loopw [8] (fun iv wr => ∃ (i : Nat) (H : Nat → Nat), i ≤ m + 1 ∧ i ≤ 201 ∧ iv = .int .i64 (i : Nat) ∧ Nt wr F p k H 0 [] ∧ Below w.heap.size w wr) (fun iv _ => 300 - (intOf iv).toNat)
  case atStart => exact ⟨0, _, by omega, by omega, rfl, hN, hb2⟩
  case round =>
    clear hN hb2
    obtain ⟨i, H, him, hi201, rfl, hN, hb⟩ := hrel
    by_cases hlt : i + 1 < m ∧ i < 200
    · obtain ⟨hlt1, hlt2⟩ := hlt
      have hl1 : (i : Int) + 1 < m := by omega
      have hl2 : (i : Int) < m := by omega
      have hl3 : (0 : Int) ≤ (i : Int) + 1 := by omega
      have hrow := HR.out.below hb (Nat.le_refl _)
      obtain ⟨g, off, rfl, hcell⟩ := hrow.open (by omega)
      have c1 := hcell i (by omega)
      have c2 := hcell (i + 1) (by omega)
      obtain ⟨x, hx⟩ : ∃ x, (xs.getD i 0).toNat = x := ⟨_, rfl⟩
      obtain ⟨y, hy⟩ : ∃ y, (xs.getD (i + 1) 0).toNat = y := ⟨_, rfl⟩
      have hxu : x < 256 := by rw [← hx]; exact u8_lt _
      have hyu : y < 256 := by rw [← hy]; exact u8_lt _
      rw [hx] at c1
      rw [hy] at c2
      obtain ⟨qa, hqa⟩ : ∃ qa, qa = x % k := ⟨_, rfl⟩
      obtain ⟨qb, hqb⟩ : ∃ qb, qb = y % k := ⟨_, rfl⟩
      have hqa1 : qa < k := by rw [hqa]; exact Nat.mod_lt _ (by omega)
      have hqb1 : qb < k := by rw [hqb]; exact Nat.mod_lt _ (by omega)
      have hqai : (x : Int) % (k : Int) = (qa : Int) := by rw [hqa]; exact (Int.natCast_emod x k).symm
      have hqbi : (y : Int) % (k : Int) = (qb : Int) := by rw [hqb]; exact (Int.natCast_emod y k).symm
      have hcu := cut_whatever (hN.drew) qa qb hqa1 hqb1
      have hgl := World.block_lt_of_cell? wr _ c1
      have HG : Hid (∀ W, Turned F wr.drew W → Below w.heap.size w W ∧ W.cell? ⟨g, off + i, none⟩ = some (.int .u8 (x : Nat)) ∧ W.cell? ⟨g, off + (i + 1), none⟩ = some (.int .u8 (y : Nat))) := fun W t => by
        have hbW : Below w.heap.size w W := hb.drew.trans (t.below hb.size hF')
        obtain ⟨g', off', e, hc'⟩ := (HR.out.below hbW (Nat.le_refl _)).open (by omega)
        cases e
        have d1 := hc' i (by omega)
        have d2 := hc' (i + 1) (by omega)
        rw [hx] at d1
        rw [hy] at d2
        exact ⟨hbW, d1, d2⟩
      clear hx hy hqa hqb hcell hrow hN
      go_wp2_with fail
      refine wp_region_noPanic ?_
      refine wp_region_held_drew (S := fun wx => wx.cell? ⟨g, off + i, none⟩ = some (.int .u8 (x : Nat)) ∧ wx.cell? ⟨g, off + (i + 1), none⟩ = some (.int .u8 (y : Nat))) (by kernel_rfl) ⟨c1, c2⟩ (fun hHeld => ?_)
      refine take_first 0 (v := ?_) rfl (by kernel_rfl) (by kernel_rfl) (by kernel_rfl) (fun _ _ _ h => h) (Or.inl ⟨by rfl, by intro wx hSw; (try dsimp only at hSw); obtain ⟨hSw1, hSw2⟩ := hSw; go_simp; try with_reducible rfl⟩) (by assumption) ?_
      (try simp only [Act.put, List.setIfInBounds_toArray, List.set_cons_zero, List.set_cons_succ])
      refine take_first 1 (v := ?_) rfl (by kernel_rfl) (by kernel_rfl) (by kernel_rfl) (fun _ _ _ h => h) (Or.inl ⟨by rfl, by intro wx hSw; (try dsimp only at hSw); obtain ⟨hSw1, hSw2⟩ := hSw; go_simp; try with_reducible rfl⟩) (by assumption) ?_
      (try simp only [Act.put, List.setIfInBounds_toArray, List.set_cons_zero, List.set_cons_succ])
      refine take_first 2 (v := ?_) rfl (by kernel_rfl) (by kernel_rfl) (by kernel_rfl) (fun _ _ _ h => h) (Or.inl ⟨by rfl, by intro wx hSw; (try dsimp only at hSw); obtain ⟨hSw1, hSw2⟩ := hSw; go_simp; try with_reducible rfl⟩) (by assumption) ?_
      (try simp only [Act.put, List.setIfInBounds_toArray, List.set_cons_zero, List.set_cons_succ])
      refine take_first 3 (v := ?_) rfl (by kernel_rfl) (by kernel_rfl) (by kernel_rfl) (fun _ _ _ h => h) (Or.inl ⟨by rfl, by intro wx hSw; (try dsimp only at hSw); obtain ⟨hSw1, hSw2⟩ := hSw; go_simp; try with_reducible rfl⟩) (by assumption) ?_
      (try simp only [Act.put, List.setIfInBounds_toArray, List.set_cons_zero, List.set_cons_succ])
      refine take_first 4 (v := ?_) rfl (by kernel_rfl) (by kernel_rfl) (by kernel_rfl) (fun _ _ _ h => h) (Or.inl ⟨by rfl, by intro wx hSw; (try dsimp only at hSw); obtain ⟨hSw1, hSw2⟩ := hSw; go_simp; try with_reducible rfl⟩) (by assumption) ?_
      (try simp only [Act.put, List.setIfInBounds_toArray, List.set_cons_zero, List.set_cons_succ])
      refine take_first 5 (v := .int .i64 (x : Nat)) rfl (by kernel_rfl) (by kernel_rfl) (by kernel_rfl) (fun _ _ _ h => h) (Or.inl ⟨by rfl, by intro wx hSw; clear hSw; go_simp; exact IntWalk.i64_in _ (by omega)⟩) (by assumption) ?_
      (try simp only [Act.put, List.setIfInBounds_toArray, List.set_cons_zero, List.set_cons_succ])
      refine take_first 6 (v := ?_) rfl (by kernel_rfl) (by kernel_rfl) (by kernel_rfl) (fun _ _ _ h => h) (Or.inl ⟨by rfl, by intro wx hSw; (try dsimp only at hSw); obtain ⟨hSw1, hSw2⟩ := hSw; go_simp; try with_reducible rfl⟩) (by assumption) ?_
      (try simp only [Act.put, List.setIfInBounds_toArray, List.set_cons_zero, List.set_cons_succ])
      refine take_first 7 (v := .int .i64 (qa : Nat)) rfl (by kernel_rfl) (by kernel_rfl) (by kernel_rfl) (fun _ _ _ h => h) (Or.inl ⟨by rfl, by intro wx hSw; clear hSw; go_simp; rw [if_neg (by omega), Int.tmod_eq_emod_of_nonneg (by omega), hqai]⟩) (by assumption) ?_
      (try simp only [Act.put, List.setIfInBounds_toArray, List.set_cons_zero, List.set_cons_succ])
      refine take_first 8 (v := ?_) rfl (by kernel_rfl) (by kernel_rfl) (by kernel_rfl) (fun _ _ _ h => h) (Or.inl ⟨by rfl, by intro wx hSw; (try dsimp only at hSw); obtain ⟨hSw1, hSw2⟩ := hSw; go_simp; try with_reducible rfl⟩) (by assumption) ?_
      (try simp only [Act.put, List.setIfInBounds_toArray, List.set_cons_zero, List.set_cons_succ])
      refine take_first 9 (v := ?_) rfl (by kernel_rfl) (by kernel_rfl) (by kernel_rfl) (fun _ _ _ h => h) (Or.inl ⟨by rfl, by intro wx hSw; (try dsimp only at hSw); obtain ⟨hSw1, hSw2⟩ := hSw; go_simp; try with_reducible rfl⟩) (by assumption) ?_
      (try simp only [Act.put, List.setIfInBounds_toArray, List.set_cons_zero, List.set_cons_succ])
      refine take_first 10 (v := .int .i64 ((i : Int) + 1)) rfl (by kernel_rfl) (by kernel_rfl) (by kernel_rfl) (fun _ _ _ h => h) (Or.inl ⟨by rfl, by intro wx hSw; clear hSw; go_simp; exact IntWalk.i64_in _ (by omega)⟩) (by assumption) ?_
      (try simp only [Act.put, List.setIfInBounds_toArray, List.set_cons_zero, List.set_cons_succ])
      refine take_first 11 (v := ?_) rfl (by kernel_rfl) (by kernel_rfl) (by kernel_rfl) (fun _ _ _ h => h) (Or.inl ⟨by rfl, by intro wx hSw; (try dsimp only at hSw); obtain ⟨hSw1, hSw2⟩ := hSw; go_simp; try with_reducible rfl⟩) (by assumption) ?_
      (try simp only [Act.put, List.setIfInBounds_toArray, List.set_cons_zero, List.set_cons_succ])
      refine take_first 12 (v := ?_) rfl (by kernel_rfl) (by kernel_rfl) (by kernel_rfl) (fun _ _ _ h => h) (Or.inl ⟨by rfl, by intro wx hSw; (try dsimp only at hSw); obtain ⟨hSw1, hSw2⟩ := hSw; go_simp; try with_reducible rfl⟩) (by assumption) ?_
      (try simp only [Act.put, List.setIfInBounds_toArray, List.set_cons_zero, List.set_cons_succ])
      refine take_first 13 (v := .int .i64 (y : Nat)) rfl (by kernel_rfl) (by kernel_rfl) (by kernel_rfl) (fun _ _ _ h => h) (Or.inl ⟨by rfl, by intro wx hSw; clear hSw; go_simp; exact IntWalk.i64_in _ (by omega)⟩) (by assumption) ?_
      (try simp only [Act.put, List.setIfInBounds_toArray, List.set_cons_zero, List.set_cons_succ])
      refine take_first 14 (v := ?_) rfl (by kernel_rfl) (by kernel_rfl) (by kernel_rfl) (fun _ _ _ h => h) (Or.inl ⟨by rfl, by intro wx hSw; (try dsimp only at hSw); obtain ⟨hSw1, hSw2⟩ := hSw; go_simp; try with_reducible rfl⟩) (by assumption) ?_
      (try simp only [Act.put, List.setIfInBounds_toArray, List.set_cons_zero, List.set_cons_succ])
      refine take_first 15 (v := .int .i64 (qb : Nat)) rfl (by kernel_rfl) (by kernel_rfl) (by kernel_rfl) (fun _ _ _ h => h) (Or.inl ⟨by rfl, by intro wx hSw; clear hSw; go_simp; rw [if_neg (by omega), Int.tmod_eq_emod_of_nonneg (by omega), hqbi]⟩) (by assumption) ?_
      (try simp only [Act.put, List.setIfInBounds_toArray, List.set_cons_zero, List.set_cons_succ])
      refine comes_up 16 rfl (by kernel_rfl) (fun K hK => ?_)
      go_simp
      refine hcu.mono ?_
      rintro e w3 ⟨r, H', rfl, hN', t3⟩
      obtain ⟨k1, k2, k3⟩ := HG.out w3 t3
      go_wp2_with fail
      refine hK.out _ _ ⟨k2, k3⟩ (fun hHeld => ?_)
      clear hK K
      (try simp only [Act.put, List.setIfInBounds_toArray, List.set_cons_zero, List.set_cons_succ])
      refine wpAnyH_done (by kernel_rfl) ?_ _
      refine NoPanic.normal ?_
      clear hcu k2 k3 c1 c2
      go_wp2
      go_roundw
      case rel => exact ⟨i + 2, H', by omega, by omega, by go_num, hN', k1⟩
      case measure => simp [intOf]; omega
    · clear HR
      generalize hw8 : wr = w8 at *
      clear hw8
      have hs := Nt.hs hN
      have go : True := trivial
      have hcnd : ¬ ((i : Int) + 1 < m) ∨ ((i : Int) + 1 < m ∧ ¬ ((i : Int) < 200)) := by omega
      rcases hcnd with hn1 | ⟨hn1, hn2⟩
      all_goals
        go_wp2
        go_loopw [9, 10, 11] (fun iv _ _ wr => ∃ i : Nat, i ≤ k ∧ iv = .int .i64 (i : Nat) ∧ Nt wr F p k H 0 [] ∧ Below w.heap.size w wr) (fun iv _ _ _ => k - (intOf iv).toNat)
        case atStart => exact ⟨0, by omega, rfl, hN, hb⟩
        case round =>
          clear hN hb
          obtain ⟨i2, hi2, rfl, hN, hb⟩ := hrel
          by_cases hlt2 : i2 < k
          · have hlt2I : (i2 : Int) < k := by omega
            have hcl := class_any hN (i2 : Int)
            have hcu := class_lt hs (N := k) (i2 : Int)
            obtain ⟨c, HC⟩ : ∃ c, Hid (classN k H (i2 : Int) = c) := ⟨classN k H (i2 : Int), Eq.refl _⟩
            rw [HC.out] at hcl hcu
            generalize hw9 : wr = w9 at *
            clear hw9
            go_wp2_with fail
            refine hcl.mono ?_
            rintro e w10 ⟨rfl, b10⟩
            have hN10 := hN.up b10
            have hb10 := bl_step hb b10
            clear hN hb b10 hcl
            by_cases hc0 : c = 0
            · subst hc0
              go_wp2
              refine wp_loop_rounds 1 ?_
              rw [rounds_succ]
              go_wp2
              go_roundw
              case rel => exact ⟨i2 + 1, by omega, by go_num, hN10, hb10⟩
              case measure => simp [intOf]; omega
            · have hc0' : ((c : Int) == 0) = false := by
                have : ¬ ((c : Int) = 0) := by omega
                simpa using this
              obtain ⟨hnd, hcH, hall⟩ := class_ne HC.out hc0
              have HA : Hid (c = H i2 ∧ ∀ m ∈ nodes c 16, H m = c) := ⟨by simpa using hcH, hall⟩
              clear hnd hcH hall hc0
              go_wp2_with fail
              go_loopw [11] (fun jv wr => ∃ j : Nat, j ≤ k ∧ jv = .int .i64 (j : Nat) ∧ Nt wr F p k H 0 [] ∧ Below w.heap.size w wr) (fun jv _ => k - (intOf jv).toNat)
              case atStart => exact ⟨0, by omega, rfl, hN10, hb10⟩
              case round =>
                clear hN10 hb10
                obtain ⟨j, hj, rfl, hN, hb⟩ := hrel
                by_cases hlt3 : j < k
                · have hlt3I : (j : Int) < k := by omega
                  have hhe := hear_any hN (i2 : Int) (j : Int)
                  have hrh := fun W => refHas_any W c hcu (j : Int)
                  have e1 : hears k H (i2 : Int) (j : Int) = hasN c (j : Int) := by
                    unfold hears isNode
                    rw [HA.out.1]
                    simp; omega
                  rw [e1] at hhe
                  have hcl := class_any hN (j : Int)
                  cases hb1 : hasN c (j : Int) with
                  | false =>
                    rw [hb1] at hhe hrh
                    clear hb1 e1 hcl
                    go_wp2_with fail
                    refine hhe.mono ?_
                    rintro e w12 ⟨rfl, rfl⟩
                    go_wp2_with fail
                    refine (hrh _).mono ?_
                    rintro e w12 ⟨rfl, rfl⟩
                    go_wp2_with fail
                    refine hhe.mono ?_
                    rintro e w12 ⟨rfl, rfl⟩
                    go_wp2
                    go_roundw
                    case rel => first | exact ⟨j + 1, by omega, by go_num, hN, hb⟩ | ((repeat apply Exists.intro); exact ⟨⟨j + 1, by omega, by go_num, hN, hb⟩, rfl⟩)
                    case measure => simp [intOf]; omega
                  | true =>
                    have e2 : classN k H (j : Int) = c := by
                      have hm : j ∈ nodes c 16 := by
                        unfold hasN at hb1
                        unfold nodes
                        simp at hb1 ⊢
                        exact ⟨by omega, hb1.2⟩
                      unfold classN classS isNode
                      have : H (j : Int).toNat = c := by simpa using HA.out.2 j hm
                      rw [if_pos (by simp; omega), this, if_pos HA.out.2]
                    rw [e2] at hcl
                    rw [hb1] at hhe hrh
                    clear hb1 e1 e2
                    go_wp2_with fail
                    refine hhe.mono ?_
                    rintro e w12 ⟨rfl, rfl⟩
                    go_wp2_with fail
                    refine (hrh _).mono ?_
                    rintro e w12 ⟨rfl, rfl⟩
                    go_wp2_with fail
                    refine hhe.mono ?_
                    rintro e w12 ⟨rfl, rfl⟩
                    go_wp2_with fail
                    refine hcl.mono ?_
                    rintro e w12 ⟨rfl, b12⟩
                    have hN2 := hN.up b12
                    have hb2 := bl_step hb b12
                    clear hN hb b12 hcl hhe
                    go_wp2
                    go_roundw
                    case rel => exact ⟨j + 1, by omega, by go_num, hN2, hb2⟩
                    case measure => simp [intOf]; omega
                · obtain rfl : j = k := by omega
                  go_wp2
                  go_roundw
                  case rel => exact ⟨i2 + 1, by omega, by go_num, hN, hb⟩
                  case measure => simp [intOf]; omega
          · obtain rfl : i2 = k := by omega
            go_wp2
            go_ret
            exact ⟨rfl, hb⟩


set_option maxRecDepth 100000 in
theorem lifted (os : Os) (started : os.Started) (H : Type) (enc : TypeId × Value → H) :
    ReturnsInHanded {} Try.checked os 4 .any (Rows.netClassesSpec.pre6 enc Try.prog Try.f4 Rows.netClassesRow.domain false) (Rows.netClassesSpec.post enc Try.prog Try.f4 false true false false) := by
  refine returnsInHanded_of_change_sized (C := Try.checked) own started (by kernel_rfl) Try.func4
    (ChangeSpec.witness6 (enc := enc) (C := Try.checked) false ⟨#[], #[.int .u8 0, .slice none 0 0], []⟩ 4 (by kernel_rfl) (by kernel_rfl) (by kernel_rfl) (by kernel_rfl)) ?_
  intro W base args ds gs before hval0 hW hcnd hsz0 _
  have hsz : (DataW.weightsEach Try.prog (Try.f4.params.toList ++ Rows.netClassesSpec.plain.varTypes Try.prog) (ds ++ gs)).all (· ≤ reachBytes) = true := hsz0
  have hval : ∀ (j : Nat) t v, Try.f4.params[j]? = some t → args[j]? = some v → Value.okWide Try.prog W .any base t v := hval0
  have hW' := hW
  obtain ⟨p, q, hA0, hV, rfl, hfz, hnd⟩ := hW
  have hA : DataW.TrodAll enc Try.prog W 0 (fun _ => true) true Try.f4.params.toList args.toList ds p := hA0
  rw [Try.params4] at hA hval hsz
  obtain ⟨v0, vs0, d0, ds0, p0, q0, hargs0, rfl, rfl, h0, r0⟩ := trodAll_cons hA
  obtain ⟨v1, vs1, d1, ds1, p1, q1, hargs1, rfl, rfl, h1, r1⟩ := trodAll_cons r0
  obtain ⟨rfl, rfl, rfl⟩ := trodAll_nil r1
  obtain rfl : args = #[v0, v1] := by cases args; simp_all
  obtain ⟨rfl, rfl⟩ := trodVars_none hV
  obtain ⟨a0, rfl, rfl, rfl, w0⟩ := open_int Try.underlying5 (hval 0 5 v0 rfl rfl) h0
  obtain ⟨a1, len1, cap1, rfl⟩ := okWide_slice Try.underlying35 (hval 1 35 v1 rfl rfl)
  have k1 := h1
  have lt1 : ∀ x ∈ p1, x.block < W.heap.size := by obtain ⟨m, hm⟩ := k1; exact DataW.trod_lt m _ _ _ hm
  obtain ⟨xs1, hx1, hc1⟩ := open_bytes h1 hsz (j := 1) rfl rfl
  clear hA0 hval0 hsz hsz0
  obtain ⟨n0, rfl, hn0⟩ := u8_of_wf w0
  refine (walk W n0 hn0 a1 len1 cap1 xs1 hx1 hc1).mono fun e W' ⟨he, bel⟩ => ?_
  subst he
  exact ⟨_, rfl, _, _, _, [], _, [], hW', trodAll_mk1 (shut_bool Try.underlying4 _), (trodAll_cons_mk (shut_int Try.underlying5 w0) (trodAll_cons_mk (Below.trod laidOut (by kernel_rfl) (of_decide_eq_true (by kernel_rfl)) k1 bel lt1) trodAll_mk0)), rfl, bel.frame _, fun h => by cases h⟩

theorem over : Rows.netClassesRow.holds Try.pinned (OpenSpec.ofChange Rows.netClassesSpec) :=
  OpenClaim.holds_of_wide 4 Try.f4 rfl rfl rfl rfl rfl rfl rfl ⟨rfl, rfl, rfl, rfl, rfl⟩ rfl rfl rfl rfl rfl (by kernel_rfl) Try.func4 (by kernel_rfl)
    (of_decide_eq_true (by kernel_rfl)) (by unfold Func.isWrapper; first | (rw [if_pos (by decide +kernel)]; kernel_rfl) | (rw [if_neg (by decide +kernel)]; exact ⟨rfl, rfl⟩))
    (fun os started H enc _ => lifted os started H enc)

end Go.Proofs.Ytagabmhgcmnldaa.netClasses
namespace Go.Proofs.Ytagabmhgcmnldaa
theorem netClasses_holds : Rows.NetClassesSaid := netClasses.over
#print axioms netClasses_holds
end Go.Proofs.Ytagabmhgcmnldaa
