/-
  The calls of a node that only read: is a proposal agreed upon, has a node told a later view, is it up to this node to propose?
-/
import Derived.Test.YtlonbbepoamnmaaDoorMRead
namespace Go.Proofs.YtlonbbepoamnmaaDoor
open Go.RowKit
set_option linter.unusedVariables false

theorem bl_cell {w w' : World} (b : Below w.heap.size w w') {ad : Addr} {v : Value} (hc : w.cell? ad = some v) : w'.cell? ad = some v := Kp.up (p := fun _ => True) b ad v trivial hc
theorem mcell_told (M : Mm) (o : Option Nat) (i c : Nat) (hc : c < 4) : mcell M o (9 + i * 4 + c) = tcell (M.told i) c := by
  rw [show 9 + i * 4 + c = (i * 4 + c) + 9 by omega]
  show tcell (M.told ((i * 4 + c) / 4)) ((i * 4 + c) % 4) = _
  rw [show (i * 4 + c) / 4 = i by omega, show (i * 4 + c) % 4 = c by omega]
theorem ints_at {w : World} {B n : Nat} {v : Value} {l : List Nat} (h : w.ownsRow B 3 1 v n (ints l)) : n = l.length ∧ ∃ ao cap, v = .slice ao n cap ∧ (∀ k x, l[k]? = some x → ∃ g, ao = some ⟨g, 0, none⟩ ∧ B ≤ g ∧ g < w.heap.size ∧ w.cell? ⟨g, k, none⟩ = some (.int .i64 (x : Nat))) := by
  have hl : n = l.length := by have := h.1; rw [ints_len] at this; omega
  refine ⟨hl, ?_⟩
  rcases own_shape h with ⟨rfl, h0⟩ | ⟨g, cap, rfl, hg, hlt⟩
  · exact ⟨none, 0, by rw [h0], fun k x hk => by have := (List.getElem?_eq_some_iff.1 hk).1; omega⟩
  · refine ⟨_, _, rfl, fun k x hk => ⟨g, rfl, hg, hlt, own_cell h k _ ?_⟩⟩
    unfold ints
    rw [List.getElem?_map, hk]
    rfl
theorem nodes_lt {s x k : Nat} (h : (nodes s 16)[k]? = some x) : x < 16 := by
  have := List.mem_of_getElem? h
  simp [nodes] at this
  exact this.1

section
variable {w : World} {F Z : Nat → Prop} {q p : Nat} {M : Mm} {P : Pp} {o : Option Nat}

theorem agreed_any (h : Pb w F Z q p P) : Calls Tryd.prog 59 #[.pointer (some ⟨p, 0, none⟩)] w fun e w' => e = .returned (.bool P.agreed) ∧ Up w w' := by
  have hS : w.drew.cell? ⟨p, 2, none⟩ = some (.int .u16 (P.set : Nat)) ∧ w.drew.cell? ⟨p, 3, none⟩ = some (.int .u16 (P.acc : Nat)) := ⟨h.c2, h.c3⟩
  have HA : Hid (P.agreed = ((P.acc : Int) == (P.set : Int))) := by
    unfold Hid Pp.agreed
    apply Bool.eq_iff_iff.2
    simp
    omega
  rw [HA.out]
  clear h HA
  go_enter Tryd.func59, Tryd.ntmps59
  go_wp2_with fail
  refine wp_region_noPanic ?_
  refine wp_region_held_drew (S := fun wx => wx.cell? ⟨p, 2, none⟩ = some (.int .u16 (P.set : Nat)) ∧ wx.cell? ⟨p, 3, none⟩ = some (.int .u16 (P.acc : Nat))) (by kernel_rfl) hS (fun hHeld => ?_)
  refine take_first 0 (v := ?_) rfl (by kernel_rfl) (by kernel_rfl) (by kernel_rfl) (fun _ _ _ h => h) (Or.inl ⟨by rfl, by intro wx hSw; (try dsimp only at hSw); obtain ⟨k2, k3⟩ := hSw; go_simp; try with_reducible rfl⟩) (by assumption) ?_
  (try simp only [Act.put, List.setIfInBounds_toArray, List.set_cons_zero, List.set_cons_succ])
  refine take_first 1 (v := ?_) rfl (by kernel_rfl) (by kernel_rfl) (by kernel_rfl) (fun _ _ _ h => h) (Or.inl ⟨by rfl, by intro wx hSw; (try dsimp only at hSw); obtain ⟨k2, k3⟩ := hSw; go_simp; try with_reducible rfl⟩) (by assumption) ?_
  (try simp only [Act.put, List.setIfInBounds_toArray, List.set_cons_zero, List.set_cons_succ])
  refine take_first 2 (v := ?_) rfl (by kernel_rfl) (by kernel_rfl) (by kernel_rfl) (fun _ _ _ h => h) (Or.inl ⟨by rfl, by intro wx hSw; (try dsimp only at hSw); obtain ⟨k2, k3⟩ := hSw; go_simp; try with_reducible rfl⟩) (by assumption) ?_
  (try simp only [Act.put, List.setIfInBounds_toArray, List.set_cons_zero, List.set_cons_succ])
  refine take_first 3 (v := ?_) rfl (by kernel_rfl) (by kernel_rfl) (by kernel_rfl) (fun _ _ _ h => h) (Or.inl ⟨by rfl, by intro wx hSw; (try dsimp only at hSw); obtain ⟨k2, k3⟩ := hSw; go_simp; try with_reducible rfl⟩) (by assumption) ?_
  (try simp only [Act.put, List.setIfInBounds_toArray, List.set_cons_zero, List.set_cons_succ])
  refine take_first 4 (v := ?_) rfl (by kernel_rfl) (by kernel_rfl) (by kernel_rfl) (fun _ _ _ h => h) (Or.inl ⟨by rfl, by intro wx hSw; (try dsimp only at hSw); obtain ⟨k2, k3⟩ := hSw; go_simp; try with_reducible rfl⟩) (by assumption) ?_
  (try simp only [Act.put, List.setIfInBounds_toArray, List.set_cons_zero, List.set_cons_succ])
  refine take_first 5 (v := ?_) rfl (by kernel_rfl) (by kernel_rfl) (by kernel_rfl) (fun _ _ _ h => h) (Or.inl ⟨by rfl, by intro wx hSw; (try dsimp only at hSw); obtain ⟨k2, k3⟩ := hSw; go_simp; try with_reducible rfl⟩) (by assumption) ?_
  (try simp only [Act.put, List.setIfInBounds_toArray, List.set_cons_zero, List.set_cons_succ])
  refine take_first 6 (v := ?_) rfl (by kernel_rfl) (by kernel_rfl) (by kernel_rfl) (fun _ _ _ h => h) (Or.inl ⟨by rfl, by intro wx hSw; (try dsimp only at hSw); obtain ⟨k2, k3⟩ := hSw; go_simp; try with_reducible rfl⟩) (by assumption) ?_
  (try simp only [Act.put, List.setIfInBounds_toArray, List.set_cons_zero, List.set_cons_succ])
  refine take_first 7 (v := ?_) rfl (by kernel_rfl) (by kernel_rfl) (by kernel_rfl) (fun _ _ _ h => h) (Or.inl ⟨by rfl, by intro wx hSw; (try dsimp only at hSw); obtain ⟨k2, k3⟩ := hSw; go_simp; try with_reducible rfl⟩) (by assumption) ?_
  (try simp only [Act.put, List.setIfInBounds_toArray, List.set_cons_zero, List.set_cons_succ])
  refine take_first 8 (v := ?_) rfl (by kernel_rfl) (by kernel_rfl) (by kernel_rfl) (fun _ _ _ h => h) (Or.inl ⟨by rfl, by intro wx hSw; (try dsimp only at hSw); obtain ⟨k2, k3⟩ := hSw; go_simp; try with_reducible rfl⟩) (by assumption) ?_
  (try simp only [Act.put, List.setIfInBounds_toArray, List.set_cons_zero, List.set_cons_succ])
  refine take_first 9 (v := ?_) rfl (by kernel_rfl) (by kernel_rfl) (by kernel_rfl) (fun _ _ _ h => h) (Or.inl ⟨by rfl, by intro wx hSw; (try dsimp only at hSw); obtain ⟨k2, k3⟩ := hSw; go_simp; try with_reducible rfl⟩) (by assumption) ?_
  (try simp only [Act.put, List.setIfInBounds_toArray, List.set_cons_zero, List.set_cons_succ])
  refine take_first 10 (v := ?_) rfl (by kernel_rfl) (by kernel_rfl) (by kernel_rfl) (fun _ _ _ h => h) (Or.inl ⟨by rfl, by intro wx hSw; (try dsimp only at hSw); obtain ⟨k2, k3⟩ := hSw; go_simp; try with_reducible rfl⟩) (by assumption) ?_
  (try simp only [Act.put, List.setIfInBounds_toArray, List.set_cons_zero, List.set_cons_succ])
  refine wpAnyH_done (by kernel_rfl) ?_ _
  refine NoPanic.normal ?_
  go_wp2
  go_ret
  exact ⟨rfl, (Up.refl _).drew⟩
theorem awaits_any (h : Pb w F Z q p P) (i : Int) : Calls Tryd.prog 74 #[.pointer (some ⟨p, 0, none⟩), .int .i64 i] w fun e w' => e = .returned (.bool (hasN P.set i && !hasN P.acc i)) ∧ w = w' := by
  have c2 := h.c2
  have c3 := h.c3
  have h1 := fun W => has_any W P.set h.s16 i
  have h2 := fun W => has_any W P.acc h.a16 i
  clear h
  cases ha : hasN P.set i with
  | true =>
    rw [ha] at h1
    rw [Bool.true_and]
    clear ha
    go_enter Tryd.func74, Tryd.ntmps74
    go_wp2_with fail
    refine (h1 _).mono ?_
    rintro e w1 ⟨rfl, rfl⟩
    go_wp2_with fail
    refine (h2 _).mono ?_
    rintro e w2 ⟨rfl, rfl⟩
    go_wp2
    go_ret
    exact ⟨rfl, rfl⟩
  | false =>
    rw [ha] at h1
    rw [Bool.false_and]
    clear ha
    go_enter Tryd.func74, Tryd.ntmps74
    go_wp2_with fail
    refine (h1 _).mono ?_
    rintro e w1 ⟨rfl, rfl⟩
    go_wp2
    go_ret
    exact ⟨rfl, rfl⟩

/-- The closure of passed. -/
theorem passed1_any (h : Mb w F Z q M o) (B1 B2 : Nat) (v : Vid) (b1 : w.cell? ⟨B1, 0, none⟩ = some (.pointer (some ⟨q, 0, none⟩))) (b2 : w.cell? ⟨B2, 0, none⟩ = some (.int .u64 (v.1 : Nat))) (b3 : w.cell? ⟨B2, 1, none⟩ = some (.int .i64 v.2)) (i : Nat) (hi : i < 16) :
    Calls Tryd.prog 87 #[.int .i64 (i : Nat), .pointer (some ⟨B1, 0, none⟩), .pointer (some ⟨B2, 0, none⟩)] w fun e w' => e = .returned (.bool (decide (vlt v (M.told i).2))) ∧ Up w w' := by
  have t2 : w.cell? ⟨q, 9 + i * 4 + 2, none⟩ = some (.int .u64 ((M.told i).2.1 : Nat)) := by rw [h.cell _ (by omega), mcell_told _ _ _ _ (by omega)]; rfl
  have t3 : w.cell? ⟨q, 9 + i * 4 + 3, none⟩ = some (.int .i64 (M.told i).2.2) := by rw [h.cell _ (by omega), mcell_told _ _ _ _ (by omega)]; rfl
  have ha := fun W => above_any W (M.told i).2.1 (M.told i).2.2 v.1 v.2
  have he : (v.1, v.2) = v := rfl
  have he2 : ((M.told i).2.1, (M.told i).2.2) = (M.told i).2 := rfl
  simp only [he, he2] at ha
  clear he he2 h
  generalize decide (vlt v (M.told i).2) = r at *
  generalize (M.told i).2.1 = n2 at *
  generalize (M.told i).2.2 = p2 at *
  have hS : w.drew.cell? ⟨B1, 0, none⟩ = some (.pointer (some ⟨q, 0, none⟩)) ∧ w.drew.cell? ⟨B2, 0, none⟩ = some (.int .u64 (v.1 : Nat)) ∧ w.drew.cell? ⟨B2, 1, none⟩ = some (.int .i64 v.2) ∧ w.drew.cell? ⟨q, 9 + i * 4 + 2, none⟩ = some (.int .u64 (n2 : Nat)) ∧ w.drew.cell? ⟨q, 9 + i * 4 + 3, none⟩ = some (.int .i64 p2) := ⟨b1, b2, b3, t2, t3⟩
  have i0 : ¬ ((i : Int) < 0) := by omega
  have i1 : (i : Int) < 16 := by omega
  unfold vid at ha
  go_enter Tryd.func87, Tryd.ntmps87
  go_wp2_with fail
  refine wp_region_noPanic ?_
  refine wp_region_held_drew (S := fun wx => wx.cell? ⟨B1, 0, none⟩ = some (.pointer (some ⟨q, 0, none⟩)) ∧ wx.cell? ⟨B2, 0, none⟩ = some (.int .u64 (v.1 : Nat)) ∧ wx.cell? ⟨B2, 1, none⟩ = some (.int .i64 v.2) ∧ wx.cell? ⟨q, 9 + i * 4 + 2, none⟩ = some (.int .u64 (n2 : Nat)) ∧ wx.cell? ⟨q, 9 + i * 4 + 3, none⟩ = some (.int .i64 p2)) (by kernel_rfl) hS (fun hHeld => ?_)
  refine take_first 0 (v := ?_) rfl (by kernel_rfl) (by kernel_rfl) (by kernel_rfl) (fun _ _ _ h => h) (Or.inl ⟨by rfl, by intro wx hSw; (try dsimp only at hSw); obtain ⟨k1, k2, k3, k4, k5⟩ := hSw; go_simp; try with_reducible rfl⟩) (by assumption) ?_
  (try simp only [Act.put, List.setIfInBounds_toArray, List.set_cons_zero, List.set_cons_succ])
  refine take_first 1 (v := ?_) rfl (by kernel_rfl) (by kernel_rfl) (by kernel_rfl) (fun _ _ _ h => h) (Or.inl ⟨by rfl, by intro wx hSw; (try dsimp only at hSw); obtain ⟨k1, k2, k3, k4, k5⟩ := hSw; go_simp; try with_reducible rfl⟩) (by assumption) ?_
  (try simp only [Act.put, List.setIfInBounds_toArray, List.set_cons_zero, List.set_cons_succ])
  refine take_first 2 (v := ?_) rfl (by kernel_rfl) (by kernel_rfl) (by kernel_rfl) (fun _ _ _ h => h) (Or.inl ⟨by rfl, by intro wx hSw; (try dsimp only at hSw); obtain ⟨k1, k2, k3, k4, k5⟩ := hSw; go_simp; try with_reducible rfl⟩) (by assumption) ?_
  (try simp only [Act.put, List.setIfInBounds_toArray, List.set_cons_zero, List.set_cons_succ])
  refine take_first 3 (v := ?_) rfl (by kernel_rfl) (by kernel_rfl) (by kernel_rfl) (fun _ _ _ h => h) (Or.inl ⟨by rfl, by intro wx hSw; (try dsimp only at hSw); obtain ⟨k1, k2, k3, k4, k5⟩ := hSw; go_simp; try with_reducible rfl⟩) (by assumption) ?_
  (try simp only [Act.put, List.setIfInBounds_toArray, List.set_cons_zero, List.set_cons_succ])
  refine take_first 4 (v := ?_) rfl (by kernel_rfl) (by kernel_rfl) (by kernel_rfl) (fun _ _ _ h => h) (Or.inl ⟨by rfl, by intro wx hSw; (try dsimp only at hSw); obtain ⟨k1, k2, k3, k4, k5⟩ := hSw; go_simp; try with_reducible rfl⟩) (by assumption) ?_
  (try simp only [Act.put, List.setIfInBounds_toArray, List.set_cons_zero, List.set_cons_succ])
  refine take_first 5 (v := ?_) rfl (by kernel_rfl) (by kernel_rfl) (by kernel_rfl) (fun _ _ _ h => h) (Or.inl ⟨by rfl, by intro wx hSw; (try dsimp only at hSw); obtain ⟨k1, k2, k3, k4, k5⟩ := hSw; go_simp; try with_reducible rfl⟩) (by assumption) ?_
  (try simp only [Act.put, List.setIfInBounds_toArray, List.set_cons_zero, List.set_cons_succ])
  refine take_first 6 (v := ?_) rfl (by kernel_rfl) (by kernel_rfl) (by kernel_rfl) (fun _ _ _ h => h) (Or.inl ⟨by rfl, by intro wx hSw; (try dsimp only at hSw); obtain ⟨k1, k2, k3, k4, k5⟩ := hSw; go_simp; try with_reducible rfl⟩) (by assumption) ?_
  (try simp only [Act.put, List.setIfInBounds_toArray, List.set_cons_zero, List.set_cons_succ])
  refine take_first 7 (v := ?_) rfl (by kernel_rfl) (by kernel_rfl) (by kernel_rfl) (fun _ _ _ h => h) (Or.inl ⟨by rfl, by intro wx hSw; (try dsimp only at hSw); obtain ⟨k1, k2, k3, k4, k5⟩ := hSw; go_simp; try with_reducible rfl⟩) (by assumption) ?_
  (try simp only [Act.put, List.setIfInBounds_toArray, List.set_cons_zero, List.set_cons_succ])
  refine comes_up 8 rfl (by kernel_rfl) (fun K hK => ?_)
  go_simp
  refine (ha _).mono ?_
  rintro e w1 ⟨rfl, u1⟩
  have hS1 : w1.cell? ⟨B1, 0, none⟩ = some (.pointer (some ⟨q, 0, none⟩)) ∧ w1.cell? ⟨B2, 0, none⟩ = some (.int .u64 (v.1 : Nat)) ∧ w1.cell? ⟨B2, 1, none⟩ = some (.int .i64 v.2) ∧ w1.cell? ⟨q, 9 + i * 4 + 2, none⟩ = some (.int .u64 (n2 : Nat)) ∧ w1.cell? ⟨q, 9 + i * 4 + 3, none⟩ = some (.int .i64 p2) := ⟨u1.cell b1, u1.cell b2, u1.cell b3, u1.cell t2, u1.cell t3⟩
  have u2 := ((Up.refl w).drew).trans u1
  clear u1 ha
  go_wp2_with fail
  refine hK.out _ _ hS1 (fun hHeld => ?_)
  clear hK K
  (try simp only [Act.put, List.setIfInBounds_toArray, List.set_cons_zero, List.set_cons_succ])
  refine take_first 9 (v := ?_) rfl (by kernel_rfl) (by kernel_rfl) (by kernel_rfl) (fun _ _ _ h => h) (Or.inl ⟨by rfl, by intro wx hSw; (try dsimp only at hSw); obtain ⟨k1, k2, k3, k4, k5⟩ := hSw; go_simp; try with_reducible rfl⟩) (by assumption) ?_
  (try simp only [Act.put, List.setIfInBounds_toArray, List.set_cons_zero, List.set_cons_succ])
  refine wpAnyH_done (by kernel_rfl) ?_ _
  refine NoPanic.normal ?_
  go_wp2
  go_ret
  exact ⟨rfl, u2⟩

set_option maxRecDepth 10000 in
set_option maxHeartbeats 1000000 in
theorem index_passed (h : Mb w F Z q M o) (B1 B2 : Nat) (v : Vid) (b1 : w.cell? ⟨B1, 0, none⟩ = some (.pointer (some ⟨q, 0, none⟩))) (b2 : w.cell? ⟨B2, 0, none⟩ = some (.int .u64 (v.1 : Nat))) (b3 : w.cell? ⟨B2, 1, none⟩ = some (.int .i64 v.2)) (s : Nat) (ao : Option Addr) (cap : Nat)
    (hl : ∀ k x, (nodes s 16)[k]? = some x → ∃ g, ao = some ⟨g, 0, none⟩ ∧ w.cell? ⟨g, k, none⟩ = some (.int .i64 (x : Nat))) :
    Calls Tryd.prog 101 #[.slice ao (nodes s 16).length cap, .func (.func 87) #[] #[.pointer (some ⟨B1, 0, none⟩), .pointer (some ⟨B2, 0, none⟩)]] w fun e w' => (∃ r : Int, e = .returned (.int .i64 r) ∧ decide (0 ≤ r) = M.passed s v) ∧ Up w w' := by
  have hnl : (nodes s 16).length ≤ 16 := by rw [nodes_len]; exact cntF_le 16 s
  have HL : Hid (∀ k x, (nodes s 16)[k]? = some x → ∃ g, ao = some ⟨g, 0, none⟩ ∧ w.cell? ⟨g, k, none⟩ = some (.int .i64 (x : Nat))) := hl
  have HP : Hid (M.passed s v = (nodes s 16).any (fun i => decide (vlt v (M.told i).2))) := rfl
  have HB : Hid (Mb w F Z q M o ∧ w.cell? ⟨B1, 0, none⟩ = some (.pointer (some ⟨q, 0, none⟩)) ∧ w.cell? ⟨B2, 0, none⟩ = some (.int .u64 (v.1 : Nat)) ∧ w.cell? ⟨B2, 1, none⟩ = some (.int .i64 v.2)) := ⟨h, b1, b2, b3⟩
  have HX : Hid (∀ k x, (nodes s 16)[k]? = some x → x < 16) := fun k x => nodes_lt
  obtain ⟨L, hL⟩ : ∃ L, nodes s 16 = L := ⟨_, rfl⟩
  rw [hL] at hnl HL HP HX ⊢
  clear hl h b1 b2 b3 hL
  obtain ⟨n, hn⟩ : ∃ n, L.length = n := ⟨_, rfl⟩
  rw [hn] at hnl ⊢
  have HN : Hid (L.length = n) := hn
  clear hn
  go_enter Tryd.func101, Tryd.ntmps101
  go_wp2_with fail
  go_loopw [5, 8] (fun _ iv wr => ∃ k : Nat, k ≤ n ∧ iv = .int .i64 k ∧ (∀ x ∈ L.take k, decide (vlt v (M.told x).2) = false) ∧ Up w wr) (fun _ iv _ => n - (intOf iv).toNat)
  case atStart => exact ⟨0, by omega, rfl, by simp, Up.refl _⟩
  case round =>
    obtain ⟨k, hk, rfl, hno, hu⟩ := hrel
    have HO : Hid (∀ x ∈ L.take k, decide (vlt v (M.told x).2) = false) := hno
    clear hno
    by_cases hlt : k < n
    · have hltI : (k : Int) < (n : Int) := by omega
      have hkL : k < L.length := by rw [HN.out]; exact hlt
      obtain ⟨y, hy⟩ : ∃ y, L[k]? = some y := ⟨L[k]'hkL, List.getElem?_eq_getElem hkL⟩
      obtain ⟨g, rfl, hc⟩ := HL.out k y hy
      have hy16 := HX.out k y hy
      have hc' := hu.cell hc
      have HY : Hid (L[k]? = some y) := hy
      have hcl := passed1_any (HB.out.1.still hu.bl) B1 B2 v (hu.cell HB.out.2.1) (hu.cell HB.out.2.2.1) (hu.cell HB.out.2.2.2) y hy16
      clear hc hy hkL
      have hk0 : ¬ ((k : Int) < 0) := by omega
      cases hd : decide (vlt v (M.told y).2) with
      | true =>
        rw [hd] at hcl
        have HT : Hid ((true : Bool) = M.passed s v) := by
          rw [HP.out]
          unfold Hid
          symm
          rw [List.any_eq_true]
          exact ⟨y, List.mem_of_getElem? HY.out, hd⟩
        clear hd
        go_wp2_with fail
        refine hcl.mono ?_
        rintro e w1 ⟨rfl, hb1⟩
        have hu1 := hu.trans hb1
        clear hcl hb1 hc'
        go_wp2
        go_ret
        exact ⟨⟨(k : Nat), rfl, by rw [← HT.out]; simp⟩, hu1⟩
      | false =>
        rw [hd] at hcl
        have HN' : Hid (∀ x ∈ L.take (k + 1), decide (vlt v (M.told x).2) = false) := by
          intro x hx
          rw [List.take_add_one, HY.out] at hx
          simp only [Option.toList_some, List.mem_append, List.mem_singleton] at hx
          rcases hx with hx | rfl
          · exact HO.out x hx
          · exact hd
        clear hd
        go_wp2_with fail
        refine hcl.mono ?_
        rintro e w1 ⟨rfl, hb1⟩
        have hu1 := hu.trans hb1
        clear hcl hb1 hc'
        go_wp2
        go_roundw
        case rel => first | exact ⟨k + 1, by omega, by go_num, HN'.out, hu1⟩ | ((repeat apply Exists.intro); exact ⟨⟨k + 1, by omega, by go_num, HN'.out, hu1⟩, rfl⟩)
        case measure => simp [intOf]; omega
    · obtain rfl : k = n := by omega
      have HT : Hid ((false : Bool) = M.passed s v) := by
        rw [HP.out]
        unfold Hid
        symm
        rw [List.any_eq_false]
        intro x hx
        have := HO.out
        rw [List.take_of_length_le (by rw [HN.out]; exact Nat.le_refl _)] at this
        rw [this x hx]; simp
      go_wp2
      go_ret
      exact ⟨⟨-1, rfl, by rw [← HT.out]; rfl⟩, hu⟩

theorem contains_passed (h : Mb w F Z q M o) (B1 B2 : Nat) (v : Vid) (b1 : w.cell? ⟨B1, 0, none⟩ = some (.pointer (some ⟨q, 0, none⟩))) (b2 : w.cell? ⟨B2, 0, none⟩ = some (.int .u64 (v.1 : Nat))) (b3 : w.cell? ⟨B2, 1, none⟩ = some (.int .i64 v.2)) (s : Nat) (ao : Option Addr) (cap : Nat)
    (hl : ∀ k x, (nodes s 16)[k]? = some x → ∃ g, ao = some ⟨g, 0, none⟩ ∧ w.cell? ⟨g, k, none⟩ = some (.int .i64 (x : Nat))) :
    Calls Tryd.prog 86 #[.slice ao (nodes s 16).length cap, .func (.func 87) #[] #[.pointer (some ⟨B1, 0, none⟩), .pointer (some ⟨B2, 0, none⟩)]] w fun e w' => e = .returned (.bool (M.passed s v)) ∧ Up w w' := by
  have hi := index_passed h B1 B2 v b1 b2 b3 s ao cap hl
  clear h b1 b2 b3 hl
  generalize (nodes s 16).length = n at *
  go_enter Tryd.func86, Tryd.ntmps86
  go_wp2_with fail
  refine hi.mono ?_
  rintro e w1 ⟨⟨r, rfl, hr⟩, hu⟩
  clear hi
  have HR : Hid (decide (0 ≤ r) = M.passed s v) := hr
  clear hr
  go_wp2
  go_ret
  exact ⟨ret_bool (by rw [← HR.out]), hu⟩

theorem cell_box2 (w : World) (c c' : Array Value) (t t' : TypeId) (j : Nat) (v : Value) (hj : c'[j]? = some v) : ((w.alloc (.cells c t)).alloc (.cells c' t')).cell? ⟨w.heap.size + 1, j, none⟩ = some v := by
  have e : (w.alloc (.cells c t)).heap.size = w.heap.size + 1 := by simp
  rw [← e]
  exact cell_box (w.alloc (.cells c t)) c' t' j v hj
theorem passed_any (h : Mb w F Z q M o) (s : Nat) (hs : s < 65536) (v : Vid) : Calls Tryd.prog 78 #[.pointer (some ⟨q, 0, none⟩), .int .u16 (s : Nat), vid v.1 v.2] w fun e w' => e = .returned (.bool (M.passed s v)) ∧ Below w.heap.size w w' := by
  obtain ⟨w2, hw2⟩ : ∃ w2, (w.alloc (.cells #[.pointer (some ⟨q, 0, none⟩)] 24)).alloc (.cells #[.int .u64 (v.1 : Nat), .int .i64 v.2] 31) = w2 := ⟨_, rfl⟩
  have u2 : Up w w2 := by rw [← hw2]; exact ((Up.refl w).alloc _).alloc _
  have hl2 := list_any w2 s hs
  have b1 : w2.cell? ⟨w.heap.size, 0, none⟩ = some (.pointer (some ⟨q, 0, none⟩)) := by rw [← hw2]; exact ((Up.refl _).alloc _).cell (cell_box w _ 24 0 _ rfl)
  have b2 : w2.cell? ⟨w.heap.size + 1, 0, none⟩ = some (.int .u64 (v.1 : Nat)) := by rw [← hw2]; exact cell_box2 w _ _ 24 31 0 _ rfl
  have b3 : w2.cell? ⟨w.heap.size + 1, 1, none⟩ = some (.int .i64 v.2) := by rw [← hw2]; exact cell_box2 w _ _ 24 31 1 _ rfl
  have HB : Hid (Mb w2 F Z q M o ∧ w2.cell? ⟨w.heap.size, 0, none⟩ = some (.pointer (some ⟨q, 0, none⟩)) ∧ w2.cell? ⟨w.heap.size + 1, 0, none⟩ = some (.int .u64 (v.1 : Nat)) ∧ w2.cell? ⟨w.heap.size + 1, 1, none⟩ = some (.int .i64 v.2)) := ⟨h.still u2.bl, b1, b2, b3⟩
  have HU : Hid (Up w w2) := u2
  clear h b1 b2 b3 u2
  unfold vid
  go_enter Tryd.func78, Tryd.ntmps78
  go_wp2_with fail
  (try simp only [hw2])
  refine hl2.mono ?_
  rintro e w3 ⟨v3, rfl, hown, hb3⟩
  obtain ⟨hn, ao, cap, rfl, hat⟩ := ints_at hown
  have hk := contains_passed (HB.out.1.still hb3) _ _ v (bl_cell hb3 HB.out.2.1) (bl_cell hb3 HB.out.2.2.1) (bl_cell hb3 HB.out.2.2.2) s ao cap (fun k x hk => by
      obtain ⟨g, e1, _, _, e2⟩ := hat k x hk
      exact ⟨g, e1, e2⟩)
  have HW : Hid (Below w.heap.size w w3) := bl_step HU.out.bl hb3
  rw [← hn] at hk
  generalize cntF 16 s = n at *
  clear hl2 hown hb3 hat HB HU hn hw2
  go_wp2_with fail
  refine hk.mono ?_
  rintro e w4 ⟨rfl, u4⟩
  have HW4 : Hid (Below w.heap.size w w4) := bl_step HW.out u4.bl
  go_wp2
  go_ret
  exact ⟨rfl, HW4.out⟩
end
end Go.Proofs.YtlonbbepoamnmaaDoor
