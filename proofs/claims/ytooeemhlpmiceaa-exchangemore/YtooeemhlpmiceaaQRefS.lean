/-
  The document's Sort of labels.
-/
import Derived.Test.YtooeemhlpmiceaaQIns
namespace Go.Proofs.Ytooeemhlpmiceaa.Q
open Go.RowKit Go.Sort
set_option linter.unusedVariables false

/-- Two labels' cells. -/
def Two (a1 a2 : Addr) (x y : Lb) (wx : World) : Prop :=
  (wx.cell? a1 = some (.int .u64 (x.1 : Nat)) ∧ wx.cell? ⟨a1.block, a1.off + 1, none⟩ = some (.int .i64 x.2.1) ∧ wx.cell? ⟨a1.block, a1.off + 2, none⟩ = some (.int .u64 (x.2.2.1 : Nat)) ∧ wx.cell? ⟨a1.block, a1.off + 3, none⟩ = some (.int .i64 x.2.2.2)) ∧
  (wx.cell? a2 = some (.int .u64 (y.1 : Nat)) ∧ wx.cell? ⟨a2.block, a2.off + 1, none⟩ = some (.int .i64 y.2.1) ∧ wx.cell? ⟨a2.block, a2.off + 2, none⟩ = some (.int .u64 (y.2.2.1 : Nat)) ∧ wx.cell? ⟨a2.block, a2.off + 3, none⟩ = some (.int .i64 y.2.2.2))
theorem Two.up {a1 a2 : Addr} {x y : Lb} {w w' : World} (h : Two a1 a2 x y w) (u : Up w w') : Two a1 a2 x y w' := by
  obtain ⟨⟨h1, h2, h3, h4⟩, h5, h6, h7, h8⟩ := h
  exact ⟨⟨u.cell h1, u.cell h2, u.cell h3, u.cell h4⟩, u.cell h5, u.cell h6, u.cell h7, u.cell h8⟩

theorem own_mono {w : World} {B B' n : Nat} {v : Value} {xs : List Value} (h : w.ownsRow B 34 4 v n xs) (hB : B' ≤ B) : w.ownsRow B' 34 4 v n xs := by
  refine ⟨h.1, ?_⟩
  rcases h.2 with h0 | ⟨g, cap', cur, h0, h1, h2⟩
  · exact Or.inl h0
  · exact Or.inr ⟨g, cap', cur, h0, Nat.le_trans hB h1, h2⟩
theorem own_below {w w' : World} {B n : Nat} {v : Value} {xs : List Value} (h : w.ownsRow B 34 4 v n xs) (u : Below w.heap.size w w') : w'.ownsRow B 34 4 v n xs := by
  refine h.kept (gr_below u none) ?_
  cases v.ownBlock with
  | none => exact Or.inl rfl
  | some g => exact Or.inr (by simp)

set_option maxRecDepth 10000 in
set_option maxHeartbeats 2000000 in
theorem refSort_any (w : World) (ao : Option Addr) (n cap : Nat) (ls : List Lb) (h : LR w ao n ls) (hn : n ≤ 1000) :
    Calls Try.prog 66 #[.slice ao n cap] w fun e w' => ∃ v rs, e = .returned v ∧ rs.Pairwise ltL ∧ (∀ x, x ∈ rs ↔ x ∈ ls) ∧ w'.ownsRow w.heap.size 34 4 v rs.length (flat rs) ∧ Below w.heap.size w w' := by
  have hl := h.1
  have HL : Hid (LR w ao n ls) := h
  clear h
  go_enter Try.func66, Try.ntmps66
  go_wp2_with fail
  go_loopw [3, 4, 5, 6, 7] (fun ov iv _ _ _ wr => ∃ (i : Nat) (rs : List Lb), iv = .int .i64 i ∧ i ≤ n ∧ rs.Pairwise ltL ∧ (∀ x, x ∈ rs ↔ x ∈ ls.take i) ∧ wr.ownsRow w.heap.size 34 4 ov rs.length (flat rs) ∧ Below w.heap.size w wr) (fun _ iv _ _ _ _ => n - (intOf iv).toNat)
  case atStart => exact ⟨0, [], rfl, by omega, by simp, by simp, World.ownsRow_nil _ _ _ _, Below.refl _ _⟩
  case round =>
    obtain ⟨i, rs, rfl, hi, hasc, hmem, hown, hb⟩ := hrel
    have HR : Hid (rs.Pairwise ltL ∧ ∀ x, x ∈ rs ↔ x ∈ ls.take i) := ⟨hasc, hmem⟩
    have hrl : rs.length ≤ i := by
      have := nodup_len (asc_nodup hasc) (fun x hx => (hmem x).1 hx)
      rw [List.length_take] at this
      omega
    clear hasc hmem
    by_cases hlt : i < n
    · have hltI : (i : Int) < (n : Int) := by omega
      obtain ⟨x, hx⟩ : ∃ y, ls[i]? = some y := ⟨ls[i]'(by omega), List.getElem?_eq_getElem (by omega)⟩
      have HT : Hid (∀ z, z ∈ ls.take (i + 1) ↔ z ∈ ls.take i ∨ z = x) := by intro z; rw [List.take_add_one, hx]; simp
      obtain ⟨b, off, hao, hc⟩ := (HL.out.up hb).2.2 (by omega)
      have hcx := hc i x hx
      obtain ⟨ro, rcap, hv, hLR⟩ := LR.own hown
      subst hv
      subst hao
      have hin := in_any wr ro rs.length rcap rs hLR x
      unfold lab at hin
      have hi0 : ¬ ((i : Int) < 0) := by omega
      have HOWN : Hid (wr.ownsRow w.heap.size 34 4 (.slice ro rs.length rcap) rs.length (flat rs)) := hown
      have HLR : Hid (LR wr ro rs.length rs) := hLR
      have HCX := hcx
      obtain ⟨c0, c1, c2, c3⟩ := hcx
      clear hc hown hLR hx
      cases hd : decide (x ∈ rs) with
      | true =>
        rw [hd] at hin
        have hxr : x ∈ rs := by simpa using hd
        have HR' : Hid (rs.Pairwise ltL ∧ ∀ z, z ∈ rs ↔ z ∈ ls.take (i + 1)) := by
          refine ⟨HR.out.1, fun z => ?_⟩
          rw [HT.out z, HR.out.2 z]
          exact ⟨Or.inl, fun h => h.elim id (fun e => by subst e; exact (HR.out.2 z).1 hxr)⟩
        clear hd hxr HR HT
        go_wp2_with fail
        refine hin.mono ?_
        rintro e w1 ⟨rfl, hu1⟩
        have HO1 : Hid (w1.ownsRow w.heap.size 34 4 (.slice ro rs.length rcap) rs.length (flat rs) ∧ Below w.heap.size w w1) := by
          refine ⟨HOWN.out.kept (gr_below hu1.bl none) ?_, bl_step hb hu1.bl⟩
          cases ro with
          | none => exact Or.inl rfl
          | some a => exact Or.inr (by simp [Value.ownBlock])
        clear hin hu1 c0 c1 c2 c3 hb HOWN HLR HCX
        go_wp2
        go_roundw
        case rel => first | exact ⟨i + 1, rs, by go_num, by omega, HR'.out.1, HR'.out.2, HO1.out.1, HO1.out.2⟩ | ((repeat apply Exists.intro); exact ⟨⟨i + 1, rs, by go_num, by omega, HR'.out.1, HR'.out.2, HO1.out.1, HO1.out.2⟩, rfl⟩)
        case measure => simp [intOf]; omega
      | false =>
        rw [hd] at hin
        have hxr : x ∉ rs := by simpa using hd
        have HR' : Hid ((ins x rs).Pairwise ltL ∧ ∀ z, z ∈ ins x rs ↔ z ∈ ls.take (i + 1)) := by
          obtain ⟨a1, a2⟩ := ins_asc HR.out.1 hxr
          refine ⟨a1, fun z => ?_⟩
          rw [HT.out z, a2 z, HR.out.2 z]
        clear hd hxr HR HT
        go_wp2_with fail
        refine hin.mono ?_
        rintro e w1 ⟨rfl, hu1⟩
        have hb1 := bl_step hb hu1.bl
        have HLR1 : Hid (LR w1 ro rs.length rs) := HLR.out.up hu1.bl
        have hcx1 := fun W (u : Below w1.heap.size w1 W) => (⟨(u.cell (World.block_lt_of_cell? w1 _ (hu1.cell HCX.1))).trans (hu1.cell HCX.1), (u.cell (World.block_lt_of_cell? w1 _ (hu1.cell HCX.2.1))).trans (hu1.cell HCX.2.1), (u.cell (World.block_lt_of_cell? w1 _ (hu1.cell HCX.2.2.1))).trans (hu1.cell HCX.2.2.1), (u.cell (World.block_lt_of_cell? w1 _ (hu1.cell HCX.2.2.2))).trans (hu1.cell HCX.2.2.2)⟩ : W.cell? ⟨b, off + i * 4, none⟩ = some (.int .u64 (x.1 : Nat)) ∧ W.cell? ⟨b, off + i * 4 + 1, none⟩ = some (.int .i64 x.2.1) ∧ W.cell? ⟨b, off + i * 4 + 2, none⟩ = some (.int .u64 (x.2.2.1 : Nat)) ∧ W.cell? ⟨b, off + i * 4 + 3, none⟩ = some (.int .i64 x.2.2.2))
        have HCX1 : Hid _ := hcx1
        clear hin hu1 c0 c1 c2 c3 hb HOWN HLR HCX hcx1
        go_wp2_with fail
        go_loopw [5, 6, 7] (fun mv dv kv wr => ∃ k : Nat, kv = .int .i64 k ∧ k ≤ rs.length ∧ dv = .bool (insK x rs k).2 ∧ wr.ownsRow w1.heap.size 34 4 mv (insK x rs k).1.length (flat (insK x rs k).1) ∧ Below w1.heap.size w1 wr) (fun _ _ kv _ => rs.length - (intOf kv).toNat)
        case atStart => exact ⟨0, rfl, by omega, rfl, World.ownsRow_nil _ _ _ _, Below.refl _ _⟩
        case round =>
          obtain ⟨k, rfl, hk, rfl, hownm, hbk⟩ := hrel
          have hil := (insK_len x rs k hk).1
          obtain ⟨mo, mcap, hvm, _⟩ := LR.own hownm
          subst hvm
          obtain ⟨x0, x1, x2, x3⟩ := HCX1.out _ hbk
          have HOM : Hid (wr.ownsRow w1.heap.size 34 4 (.slice mo (insK x rs k).1.length mcap) (insK x rs k).1.length (flat (insK x rs k).1)) := hownm
          clear hownm
          by_cases hlt2 : k < rs.length
          · have hlt2I : (k : Int) < (rs.length : Int) := by omega
            have hk0 : ¬ ((k : Int) < 0) := by omega
            obtain ⟨y, hy⟩ : ∃ y, rs[k]? = some y := ⟨rs[k]'(by omega), List.getElem?_eq_getElem (by omega)⟩
            have HY : Hid (rs[k]? = some y) := hy
            obtain ⟨br, offr, hro, hcr⟩ := (HLR1.out.up hbk).2.2 (by omega)
            obtain ⟨y0, y1, y2, y3⟩ := hcr k y hy
            subst hro
            clear hcr hy
            have hLRy := fun W => LR.one W y
            have hLRx := fun W => LR.one W x
            -- what an append of one makes of the row
            have hap : ∀ (W : World) (v : Value) (zs : List Lb) (z : Lb), W.ownsRow w1.heap.size 34 4 v zs.length (flat zs) → Below w1.heap.size w1 W →
                (∀ o, (W.alloc o).ownsRow w1.heap.size 34 4 v zs.length (flat zs)) ∧ ∀ o v' W', W'.ownsRow w1.heap.size 34 4 v' (zs.length + 1) (flat (zs ++ [z])) → (W.alloc o).grownBy W' v.ownBlock → W'.ownsRow w1.heap.size 34 4 v' (zs ++ [z]).length (flat (zs ++ [z])) ∧ Below w1.heap.size w1 W' := by
              intro W v zs z ho hbw
              refine ⟨fun o => ho.alloc o, fun o v' W' ho' hg => ⟨by simpa using ho', ?_⟩⟩
              exact bl_grown (hbw.alloc hbw.size o) (by have := hbw.size; simp; omega) hg (fun g hg => (ho.lt g hg).1)
            have HAP : Hid _ := hap
            clear hap
            cases hd : (insK x rs k).2 with
            | true =>
              have HST : Hid (insK x rs (k + 1) = ((insK x rs k).1 ++ [y], true)) := insK_done HY.out hd
              generalize (insK x rs k).1 = zs at *
              generalize (insK x rs k).2 = dd at *
              subst hd
              have t0 : Two ⟨b, off + i * 4, none⟩ ⟨br, offr + k * 4, none⟩ x y wr := ⟨⟨x0, x1, x2, x3⟩, y0, y1, y2, y3⟩
              obtain ⟨ho1, ho2⟩ := HAP.out wr.drew _ zs y HOM.out hbk.drew
              go_wp2_with fail
              refine wp_region_noPanic ?_
              refine wp_region_held_drew (S := fun wx => Two ⟨b, off + i * 4, none⟩ ⟨br, offr + k * 4, none⟩ x y wx) (by kernel_rfl) t0 (fun hHeld => ?_)
              refine take_first 0 (v := ?_) rfl (by kernel_rfl) (by kernel_rfl) (by kernel_rfl) (fun _ _ _ h => h) (Or.inl ⟨by rfl, by intro wx hSw; obtain ⟨hSw⟩ := hSw; go_simp; try with_reducible rfl⟩) (by assumption) ?_
              (try simp only [Act.put, List.setIfInBounds_toArray, List.set_cons_zero, List.set_cons_succ])
              refine take_first 1 (v := ?_) rfl (by kernel_rfl) (by kernel_rfl) (by kernel_rfl) (fun _ _ _ h => h) (Or.inl ⟨by rfl, by intro wx hSw; obtain ⟨hSw⟩ := hSw; go_simp; try with_reducible rfl⟩) (by assumption) ?_
              (try simp only [Act.put, List.setIfInBounds_toArray, List.set_cons_zero, List.set_cons_succ])
              refine take_first 2 (v := ?_) rfl (by kernel_rfl) (by kernel_rfl) (by kernel_rfl) (fun _ _ _ h => h) (Or.inl ⟨by rfl, by intro wx hSw; obtain ⟨hSw⟩ := hSw; go_simp; try with_reducible rfl⟩) (by assumption) ?_
              (try simp only [Act.put, List.setIfInBounds_toArray, List.set_cons_zero, List.set_cons_succ])
              refine take_first 3 (v := undef) rfl (by kernel_rfl) (by kernel_rfl) (by kernel_rfl) (fun _ _ _ h => h) (Or.inr ⟨by rfl, rfl⟩) (by assumption) ?_
              (try simp only [Act.put, List.setIfInBounds_toArray, List.set_cons_zero, List.set_cons_succ])
              refine take_first 4 (v := undef) rfl (by kernel_rfl) (by kernel_rfl) (by kernel_rfl) (fun _ _ _ h => h) (Or.inr ⟨by rfl, rfl⟩) (by assumption) ?_
              (try simp only [Act.put, List.setIfInBounds_toArray, List.set_cons_zero, List.set_cons_succ])
              refine take_first 5 (v := undef) rfl (by kernel_rfl) (by kernel_rfl) (by kernel_rfl) (fun _ _ _ h => h) (Or.inr ⟨by rfl, rfl⟩) (by assumption) ?_
              (try simp only [Act.put, List.setIfInBounds_toArray, List.set_cons_zero, List.set_cons_succ])
              refine take_first 6 (v := undef) rfl (by kernel_rfl) (by kernel_rfl) (by kernel_rfl) (fun _ _ _ h => h) (Or.inr ⟨by rfl, rfl⟩) (by assumption) ?_
              (try simp only [Act.put, List.setIfInBounds_toArray, List.set_cons_zero, List.set_cons_succ])
              refine take_first 7 (v := undef) rfl (by kernel_rfl) (by kernel_rfl) (by kernel_rfl) (fun _ _ _ h => h) (Or.inr ⟨by rfl, rfl⟩) (by assumption) ?_
              (try simp only [Act.put, List.setIfInBounds_toArray, List.set_cons_zero, List.set_cons_succ])
              refine take_first 8 (v := undef) rfl (by kernel_rfl) (by kernel_rfl) (by kernel_rfl) (fun _ _ _ h => h) (Or.inr ⟨by rfl, rfl⟩) (by assumption) ?_
              (try simp only [Act.put, List.setIfInBounds_toArray, List.set_cons_zero, List.set_cons_succ])
              refine take_first 9 (v := undef) rfl (by kernel_rfl) (by kernel_rfl) (by kernel_rfl) (fun _ _ _ h => h) (Or.inr ⟨by rfl, rfl⟩) (by assumption) ?_
              (try simp only [Act.put, List.setIfInBounds_toArray, List.set_cons_zero, List.set_cons_succ])
              refine take_first 10 (v := undef) rfl (by kernel_rfl) (by kernel_rfl) (by kernel_rfl) (fun _ _ _ h => h) (Or.inr ⟨by rfl, rfl⟩) (by assumption) ?_
              (try simp only [Act.put, List.setIfInBounds_toArray, List.set_cons_zero, List.set_cons_succ])
              refine take_first 11 (v := undef) rfl (by kernel_rfl) (by kernel_rfl) (by kernel_rfl) (fun _ _ _ h => h) (Or.inr ⟨by rfl, rfl⟩) (by assumption) ?_
              (try simp only [Act.put, List.setIfInBounds_toArray, List.set_cons_zero, List.set_cons_succ])
              refine take_first 12 (v := ?_) rfl (by kernel_rfl) (by kernel_rfl) (by kernel_rfl) (fun _ _ _ h => h) (Or.inl ⟨by rfl, by intro wx hSw; obtain ⟨hSw⟩ := hSw; go_simp; try with_reducible rfl⟩) (by assumption) ?_
              (try simp only [Act.put, List.setIfInBounds_toArray, List.set_cons_zero, List.set_cons_succ])
              refine wpAnyH_done (by kernel_rfl) ?_ _
              refine NoPanic.normal ?_
              clear t0 hHeld
              go_wp2_with (at_builtin; refine wpList_append_LR rfl _ _ rfl w1.heap.size _ zs.length zs rfl ?d1 (some ⟨wr.heap.size, 0, none⟩) 1 1 [y] rfl ?d2 ?d5 ?d3 ?d4 ?_)
              case d1 => exact ho1 _
              case d2 => exact hLRy _
              case d5 => exact fun e => by cases e
              case d3 => omega
              case d4 => have := hbk.size; simp; omega
              intro v' w2 hown2 hg2
              obtain ⟨hown3, hb3⟩ := ho2 _ v' w2 hown2 hg2
              have HE : Hid (w2.ownsRow w1.heap.size 34 4 v' (insK x rs (k + 1)).1.length (flat (insK x rs (k + 1)).1)) := by rw [HST.out]; exact hown3
              have HF : Hid (true = (insK x rs (k + 1)).2) := by rw [HST.out]; rfl
              clear hown2 hown3 hg2 ho1 ho2 hLRx hLRy x0 x1 x2 x3 y0 y1 y2 y3
              go_wp2
              go_roundw
              case rel => first | exact ⟨k + 1, by go_num, by omega, congrArg Value.bool HF.out, HE.out, hb3⟩ | ((repeat apply Exists.intro); exact ⟨⟨k + 1, by go_num, by omega, congrArg Value.bool HF.out, HE.out, hb3⟩, rfl⟩)
              case measure => simp [intOf]; omega
            | false =>
              have hls := fun W => less_any W x y
              unfold lab at hls
              have t0 : Two ⟨b, off + i * 4, none⟩ ⟨br, offr + k * 4, none⟩ x y wr := ⟨⟨x0, x1, x2, x3⟩, y0, y1, y2, y3⟩
              cases hlx : decide (cmpL x y < 0) with
              | false =>
                have HST : Hid (insK x rs (k + 1) = ((insK x rs k).1 ++ [y], false)) := insK_not HY.out hd hlx
                rw [hlx] at hls
                clear hlx
                generalize (insK x rs k).1 = zs at *
                generalize (insK x rs k).2 = dd at *
                subst hd
                go_wp2_with fail
                refine wp_region_noPanic ?_
                refine wp_region_held_drew (S := fun wx => Two ⟨b, off + i * 4, none⟩ ⟨br, offr + k * 4, none⟩ x y wx) (by kernel_rfl) t0 (fun hHeld => ?_)
                refine take_first 0 (v := ?_) rfl (by kernel_rfl) (by kernel_rfl) (by kernel_rfl) (fun _ _ _ h => h) (Or.inl ⟨by rfl, by intro wx hSw; obtain ⟨⟨a0, a1, a2, a3⟩, b0, b1, b2, b3⟩ := hSw; go_simp; try with_reducible rfl⟩) (by assumption) ?_
                (try simp only [Act.put, List.setIfInBounds_toArray, List.set_cons_zero, List.set_cons_succ])
                refine take_first 1 (v := ?_) rfl (by kernel_rfl) (by kernel_rfl) (by kernel_rfl) (fun _ _ _ h => h) (Or.inl ⟨by rfl, by intro wx hSw; obtain ⟨⟨a0, a1, a2, a3⟩, b0, b1, b2, b3⟩ := hSw; go_simp; try with_reducible rfl⟩) (by assumption) ?_
                (try simp only [Act.put, List.setIfInBounds_toArray, List.set_cons_zero, List.set_cons_succ])
                refine take_first 2 (v := ?_) rfl (by kernel_rfl) (by kernel_rfl) (by kernel_rfl) (fun _ _ _ h => h) (Or.inl ⟨by rfl, by intro wx hSw; obtain ⟨⟨a0, a1, a2, a3⟩, b0, b1, b2, b3⟩ := hSw; go_simp; try with_reducible rfl⟩) (by assumption) ?_
                (try simp only [Act.put, List.setIfInBounds_toArray, List.set_cons_zero, List.set_cons_succ])
                refine take_first 3 (v := ?_) rfl (by kernel_rfl) (by kernel_rfl) (by kernel_rfl) (fun _ _ _ h => h) (Or.inl ⟨by rfl, by intro wx hSw; obtain ⟨⟨a0, a1, a2, a3⟩, b0, b1, b2, b3⟩ := hSw; go_simp; try with_reducible rfl⟩) (by assumption) ?_
                (try simp only [Act.put, List.setIfInBounds_toArray, List.set_cons_zero, List.set_cons_succ])
                refine take_first 4 (v := ?_) rfl (by kernel_rfl) (by kernel_rfl) (by kernel_rfl) (fun _ _ _ h => h) (Or.inl ⟨by rfl, by intro wx hSw; obtain ⟨⟨a0, a1, a2, a3⟩, b0, b1, b2, b3⟩ := hSw; go_simp; try with_reducible rfl⟩) (by assumption) ?_
                (try simp only [Act.put, List.setIfInBounds_toArray, List.set_cons_zero, List.set_cons_succ])
                refine take_first 5 (v := ?_) rfl (by kernel_rfl) (by kernel_rfl) (by kernel_rfl) (fun _ _ _ h => h) (Or.inl ⟨by rfl, by intro wx hSw; obtain ⟨⟨a0, a1, a2, a3⟩, b0, b1, b2, b3⟩ := hSw; go_simp; try with_reducible rfl⟩) (by assumption) ?_
                (try simp only [Act.put, List.setIfInBounds_toArray, List.set_cons_zero, List.set_cons_succ])
                refine take_first 6 (v := ?_) rfl (by kernel_rfl) (by kernel_rfl) (by kernel_rfl) (fun _ _ _ h => h) (Or.inl ⟨by rfl, by intro wx hSw; obtain ⟨⟨a0, a1, a2, a3⟩, b0, b1, b2, b3⟩ := hSw; go_simp; try with_reducible rfl⟩) (by assumption) ?_
                (try simp only [Act.put, List.setIfInBounds_toArray, List.set_cons_zero, List.set_cons_succ])
                refine take_first 7 (v := ?_) rfl (by kernel_rfl) (by kernel_rfl) (by kernel_rfl) (fun _ _ _ h => h) (Or.inl ⟨by rfl, by intro wx hSw; obtain ⟨⟨a0, a1, a2, a3⟩, b0, b1, b2, b3⟩ := hSw; go_simp; try with_reducible rfl⟩) (by assumption) ?_
                (try simp only [Act.put, List.setIfInBounds_toArray, List.set_cons_zero, List.set_cons_succ])
                refine take_first 8 (v := ?_) rfl (by kernel_rfl) (by kernel_rfl) (by kernel_rfl) (fun _ _ _ h => h) (Or.inl ⟨by rfl, by intro wx hSw; obtain ⟨⟨a0, a1, a2, a3⟩, b0, b1, b2, b3⟩ := hSw; go_simp; try with_reducible rfl⟩) (by assumption) ?_
                (try simp only [Act.put, List.setIfInBounds_toArray, List.set_cons_zero, List.set_cons_succ])
                refine take_first 9 (v := ?_) rfl (by kernel_rfl) (by kernel_rfl) (by kernel_rfl) (fun _ _ _ h => h) (Or.inl ⟨by rfl, by intro wx hSw; obtain ⟨⟨a0, a1, a2, a3⟩, b0, b1, b2, b3⟩ := hSw; go_simp; try with_reducible rfl⟩) (by assumption) ?_
                (try simp only [Act.put, List.setIfInBounds_toArray, List.set_cons_zero, List.set_cons_succ])
                refine take_first 10 (v := ?_) rfl (by kernel_rfl) (by kernel_rfl) (by kernel_rfl) (fun _ _ _ h => h) (Or.inl ⟨by rfl, by intro wx hSw; obtain ⟨⟨a0, a1, a2, a3⟩, b0, b1, b2, b3⟩ := hSw; go_simp; try with_reducible rfl⟩) (by assumption) ?_
                (try simp only [Act.put, List.setIfInBounds_toArray, List.set_cons_zero, List.set_cons_succ])
                refine comes_up 11 rfl (by kernel_rfl) (fun K hK => ?_)
                go_simp
                refine (hls _).mono ?_
                rintro e w2 ⟨rfl, hu2⟩
                have t2 := Two.up (show Two ⟨b, off + i * 4, none⟩ ⟨br, offr + k * 4, none⟩ x y wr.drew from t0) hu2
                have hb2 : Below w1.heap.size w1 w2 := hbk.drew.trans (hu2.bl.mono hbk.size)
                have hom2 := own_below (show wr.drew.ownsRow w1.heap.size 34 4 (.slice mo zs.length mcap) zs.length (flat zs) from HOM.out) hu2.bl
                obtain ⟨ho1, ho2⟩ := HAP.out w2 _ zs y hom2 hb2
                clear hls hHeld t0 hom2 hu2 HOM x0 x1 x2 x3 y0 y1 y2 y3
                go_wp2_with fail
                refine hK.out _ _ t2 (fun hHeld => ?_)
                clear hK K
                (try simp only [Act.put, List.setIfInBounds_toArray, List.set_cons_zero, List.set_cons_succ])
                refine take_first 12 (v := ?_) rfl (by kernel_rfl) (by kernel_rfl) (by kernel_rfl) (fun _ _ _ h => h) (Or.inl ⟨by rfl, by intro wx hSw; obtain ⟨⟨a0, a1, a2, a3⟩, b0, b1, b2, b3⟩ := hSw; go_simp; try with_reducible rfl⟩) (by assumption) ?_
                (try simp only [Act.put, List.setIfInBounds_toArray, List.set_cons_zero, List.set_cons_succ])
                refine wpAnyH_done (by kernel_rfl) ?_ _
                refine NoPanic.normal ?_
                obtain ⟨⟨x0, x1, x2, x3⟩, y0, y1, y2, y3⟩ := t2
                simp only at x0 x1 x2 x3 y0 y1 y2 y3
                clear hHeld
                go_wp2_with (at_builtin; refine wpList_append_LR rfl _ _ rfl w1.heap.size _ zs.length zs rfl ?d1 (some ⟨w2.heap.size, 0, none⟩) 1 1 [y] rfl ?d2 ?d5 ?d3 ?d4 ?_)
                case d1 => exact ho1 _
                case d2 => exact hLRy _
                case d5 => exact fun e => by cases e
                case d3 => omega
                case d4 => have := hb2.size; simp; omega
                intro v' w3 hown2 hg2
                obtain ⟨hown3, hb3⟩ := ho2 _ v' w3 hown2 hg2
                have HE : Hid (w3.ownsRow w1.heap.size 34 4 v' (insK x rs (k + 1)).1.length (flat (insK x rs (k + 1)).1)) := by rw [HST.out]; exact hown3
                have HF : Hid (false = (insK x rs (k + 1)).2) := by rw [HST.out]; rfl
                clear hown2 hown3 hg2 ho1 ho2 hLRx hLRy x0 x1 x2 x3 y0 y1 y2 y3 hb2
                go_wp2
                go_roundw
                case rel => first | exact ⟨k + 1, by go_num, by omega, congrArg Value.bool HF.out, HE.out, hb3⟩ | ((repeat apply Exists.intro); exact ⟨⟨k + 1, by go_num, by omega, congrArg Value.bool HF.out, HE.out, hb3⟩, rfl⟩)
                case measure => simp [intOf]; omega
              | true =>
                have HST : Hid (insK x rs (k + 1) = ((insK x rs k).1 ++ [x] ++ [y], true)) := insK_now HY.out hd hlx
                rw [hlx] at hls
                clear hlx
                generalize (insK x rs k).1 = zs at *
                generalize (insK x rs k).2 = dd at *
                subst hd
                go_wp2_with fail
                refine wp_region_noPanic ?_
                refine wp_region_held_drew (S := fun wx => Two ⟨b, off + i * 4, none⟩ ⟨br, offr + k * 4, none⟩ x y wx) (by kernel_rfl) t0 (fun hHeld => ?_)
                refine take_first 0 (v := ?_) rfl (by kernel_rfl) (by kernel_rfl) (by kernel_rfl) (fun _ _ _ h => h) (Or.inl ⟨by rfl, by intro wx hSw; obtain ⟨⟨a0, a1, a2, a3⟩, b0, b1, b2, b3⟩ := hSw; go_simp; try with_reducible rfl⟩) (by assumption) ?_
                (try simp only [Act.put, List.setIfInBounds_toArray, List.set_cons_zero, List.set_cons_succ])
                refine take_first 1 (v := ?_) rfl (by kernel_rfl) (by kernel_rfl) (by kernel_rfl) (fun _ _ _ h => h) (Or.inl ⟨by rfl, by intro wx hSw; obtain ⟨⟨a0, a1, a2, a3⟩, b0, b1, b2, b3⟩ := hSw; go_simp; try with_reducible rfl⟩) (by assumption) ?_
                (try simp only [Act.put, List.setIfInBounds_toArray, List.set_cons_zero, List.set_cons_succ])
                refine take_first 2 (v := ?_) rfl (by kernel_rfl) (by kernel_rfl) (by kernel_rfl) (fun _ _ _ h => h) (Or.inl ⟨by rfl, by intro wx hSw; obtain ⟨⟨a0, a1, a2, a3⟩, b0, b1, b2, b3⟩ := hSw; go_simp; try with_reducible rfl⟩) (by assumption) ?_
                (try simp only [Act.put, List.setIfInBounds_toArray, List.set_cons_zero, List.set_cons_succ])
                refine take_first 3 (v := ?_) rfl (by kernel_rfl) (by kernel_rfl) (by kernel_rfl) (fun _ _ _ h => h) (Or.inl ⟨by rfl, by intro wx hSw; obtain ⟨⟨a0, a1, a2, a3⟩, b0, b1, b2, b3⟩ := hSw; go_simp; try with_reducible rfl⟩) (by assumption) ?_
                (try simp only [Act.put, List.setIfInBounds_toArray, List.set_cons_zero, List.set_cons_succ])
                refine take_first 4 (v := ?_) rfl (by kernel_rfl) (by kernel_rfl) (by kernel_rfl) (fun _ _ _ h => h) (Or.inl ⟨by rfl, by intro wx hSw; obtain ⟨⟨a0, a1, a2, a3⟩, b0, b1, b2, b3⟩ := hSw; go_simp; try with_reducible rfl⟩) (by assumption) ?_
                (try simp only [Act.put, List.setIfInBounds_toArray, List.set_cons_zero, List.set_cons_succ])
                refine take_first 5 (v := ?_) rfl (by kernel_rfl) (by kernel_rfl) (by kernel_rfl) (fun _ _ _ h => h) (Or.inl ⟨by rfl, by intro wx hSw; obtain ⟨⟨a0, a1, a2, a3⟩, b0, b1, b2, b3⟩ := hSw; go_simp; try with_reducible rfl⟩) (by assumption) ?_
                (try simp only [Act.put, List.setIfInBounds_toArray, List.set_cons_zero, List.set_cons_succ])
                refine take_first 6 (v := ?_) rfl (by kernel_rfl) (by kernel_rfl) (by kernel_rfl) (fun _ _ _ h => h) (Or.inl ⟨by rfl, by intro wx hSw; obtain ⟨⟨a0, a1, a2, a3⟩, b0, b1, b2, b3⟩ := hSw; go_simp; try with_reducible rfl⟩) (by assumption) ?_
                (try simp only [Act.put, List.setIfInBounds_toArray, List.set_cons_zero, List.set_cons_succ])
                refine take_first 7 (v := ?_) rfl (by kernel_rfl) (by kernel_rfl) (by kernel_rfl) (fun _ _ _ h => h) (Or.inl ⟨by rfl, by intro wx hSw; obtain ⟨⟨a0, a1, a2, a3⟩, b0, b1, b2, b3⟩ := hSw; go_simp; try with_reducible rfl⟩) (by assumption) ?_
                (try simp only [Act.put, List.setIfInBounds_toArray, List.set_cons_zero, List.set_cons_succ])
                refine take_first 8 (v := ?_) rfl (by kernel_rfl) (by kernel_rfl) (by kernel_rfl) (fun _ _ _ h => h) (Or.inl ⟨by rfl, by intro wx hSw; obtain ⟨⟨a0, a1, a2, a3⟩, b0, b1, b2, b3⟩ := hSw; go_simp; try with_reducible rfl⟩) (by assumption) ?_
                (try simp only [Act.put, List.setIfInBounds_toArray, List.set_cons_zero, List.set_cons_succ])
                refine take_first 9 (v := ?_) rfl (by kernel_rfl) (by kernel_rfl) (by kernel_rfl) (fun _ _ _ h => h) (Or.inl ⟨by rfl, by intro wx hSw; obtain ⟨⟨a0, a1, a2, a3⟩, b0, b1, b2, b3⟩ := hSw; go_simp; try with_reducible rfl⟩) (by assumption) ?_
                (try simp only [Act.put, List.setIfInBounds_toArray, List.set_cons_zero, List.set_cons_succ])
                refine take_first 10 (v := ?_) rfl (by kernel_rfl) (by kernel_rfl) (by kernel_rfl) (fun _ _ _ h => h) (Or.inl ⟨by rfl, by intro wx hSw; obtain ⟨⟨a0, a1, a2, a3⟩, b0, b1, b2, b3⟩ := hSw; go_simp; try with_reducible rfl⟩) (by assumption) ?_
                (try simp only [Act.put, List.setIfInBounds_toArray, List.set_cons_zero, List.set_cons_succ])
                refine comes_up 11 rfl (by kernel_rfl) (fun K hK => ?_)
                go_simp
                refine (hls _).mono ?_
                rintro e w2 ⟨rfl, hu2⟩
                have t2 := Two.up (show Two ⟨b, off + i * 4, none⟩ ⟨br, offr + k * 4, none⟩ x y wr.drew from t0) hu2
                have hb2 : Below w1.heap.size w1 w2 := hbk.drew.trans (hu2.bl.mono hbk.size)
                have hom2 := own_below (show wr.drew.ownsRow w1.heap.size 34 4 (.slice mo zs.length mcap) zs.length (flat zs) from HOM.out) hu2.bl
                have hap2 := fun W => HAP.out W
                have HAP2 : Hid _ := hap2
                obtain ⟨ho1, ho2⟩ := HAP.out w2 _ zs x hom2 hb2
                have HLR2 : Hid _ := fun W (u : Below w1.heap.size w1 W) => ((HLR1.out.up u).2.2 (by omega))
                clear hls hHeld t0 hom2 hu2 HOM x0 x1 x2 x3 y0 y1 y2 y3 hap2
                go_wp2_with fail
                refine hK.out _ _ t2 (fun hHeld => ?_)
                clear hK K
                (try simp only [Act.put, List.setIfInBounds_toArray, List.set_cons_zero, List.set_cons_succ])
                refine take_first 12 (v := ?_) rfl (by kernel_rfl) (by kernel_rfl) (by kernel_rfl) (fun _ _ _ h => h) (Or.inl ⟨by rfl, by intro wx hSw; obtain ⟨⟨a0, a1, a2, a3⟩, b0, b1, b2, b3⟩ := hSw; go_simp; try with_reducible rfl⟩) (by assumption) ?_
                (try simp only [Act.put, List.setIfInBounds_toArray, List.set_cons_zero, List.set_cons_succ])
                refine wpAnyH_done (by kernel_rfl) ?_ _
                refine NoPanic.normal ?_
                obtain ⟨⟨x0, x1, x2, x3⟩, y0, y1, y2, y3⟩ := t2
                simp only at x0 x1 x2 x3 y0 y1 y2 y3
                clear hHeld
                go_wp2_with (at_builtin; refine wpList_append_LR rfl (.tmp 39) (.tmp 44) rfl w1.heap.size _ zs.length zs rfl ?d1 (some ⟨w2.heap.size, 0, none⟩) 1 1 [x] rfl ?d2 ?d5 ?d3 ?d4 ?_)
                case d1 => exact ho1 _
                case d2 => exact hLRx _
                case d5 => exact fun e => by cases e
                case d3 => omega
                case d4 => have := hb2.size; simp; omega
                intro v' w3 hown2 hg2
                obtain ⟨hown3, hb3⟩ := ho2 _ v' w3 hown2 hg2
                obtain ⟨br', offr', hro', hcr'⟩ := HLR2.out w3 hb3
                simp only [Option.some.injEq, Addr.mk.injEq] at hro'
                obtain ⟨rfl, rfl, _⟩ := hro'
                obtain ⟨z0, z1, z2, z3⟩ := hcr' k y HY.out
                obtain ⟨ho3, ho4⟩ := HAP.out w3 v' (zs ++ [x]) y hown3 hb3
                obtain ⟨mo3, mc3, hv3, _⟩ := LR.own hown3
                subst hv3
                clear hown2 hown3 hg2 ho1 ho2 hLRx x0 x1 x2 x3 y0 y1 y2 y3 hb2 hcr' HLR2 HAP2 HAP
                have hzl : (zs ++ [x]).length = zs.length + 1 := by simp
                have hzb : (zs ++ [x]).length ≤ 5000 := by omega
                clear hzl
                generalize zs ++ [x] = zx at *
                go_wp2_with (at_builtin; refine wpList_append_LR rfl (.tmp 46) (.tmp 51) rfl w1.heap.size _ zx.length zx rfl ?d1 (some ⟨w3.heap.size, 0, none⟩) 1 1 [y] rfl ?d2 ?d5 ?d3 ?d4 ?_)
                case d1 => exact ho3 _
                case d2 => exact hLRy _
                case d5 => exact fun e => by cases e
                case d3 => omega
                case d4 => have := hb3.size; simp; omega
                intro v4 w4 hown4 hg4
                obtain ⟨hown5, hb5⟩ := ho4 _ v4 w4 hown4 hg4
                have HE : Hid (w4.ownsRow w1.heap.size 34 4 v4 (insK x rs (k + 1)).1.length (flat (insK x rs (k + 1)).1)) := by rw [HST.out]; exact hown5
                have HF : Hid (true = (insK x rs (k + 1)).2) := by rw [HST.out]; rfl
                clear hown4 hown5 hg4 ho3 ho4 hLRy z0 z1 z2 z3 hb3
                go_wp2
                go_roundw
                case rel => first | exact ⟨k + 1, by go_num, by omega, congrArg Value.bool HF.out, HE.out, hb5⟩ | ((repeat apply Exists.intro); exact ⟨⟨k + 1, by go_num, by omega, congrArg Value.bool HF.out, HE.out, hb5⟩, rfl⟩)
                case measure => simp [intOf]; omega
          · obtain rfl : k = rs.length := by omega
            have hkk : ¬ ((rs.length : Int) < (rs.length : Int)) := by omega
            have hs1 := hb1.size
            cases hd : (insK x rs rs.length).2 with
            | true =>
              have HST : Hid (ins x rs = (insK x rs rs.length).1) := by show _ = _; unfold ins; rw [hd]; rfl
              generalize (insK x rs rs.length).1 = zs at *
              generalize (insK x rs rs.length).2 = dd at *
              subst hd
              have HE : Hid (wr.ownsRow w.heap.size 34 4 (.slice mo zs.length mcap) (ins x rs).length (flat (ins x rs)) ∧ Below w.heap.size w wr) := by
                rw [HST.out]; exact ⟨own_mono HOM.out hs1, bl_step hb1 hbk⟩
              clear HOM hbk x0 x1 x2 x3
              go_wp2
              go_roundw
              case rel => first | exact ⟨i + 1, ins x rs, by go_num, by omega, HR'.out.1, HR'.out.2, HE.out.1, HE.out.2⟩ | ((repeat apply Exists.intro); exact ⟨⟨i + 1, ins x rs, by go_num, by omega, HR'.out.1, HR'.out.2, HE.out.1, HE.out.2⟩, rfl⟩)
              case measure => simp [intOf]; omega
            | false =>
              have HST : Hid (ins x rs = (insK x rs rs.length).1 ++ [x]) := by show _ = _; unfold ins; rw [hd]; rfl
              generalize (insK x rs rs.length).1 = zs at *
              generalize (insK x rs rs.length).2 = dd at *
              subst hd
              have ho1 := fun o => HOM.out.alloc o
              have hLRx := fun W => LR.one W x
              have hlt1 : ∀ g, (Value.slice mo zs.length mcap).ownBlock = some g → w1.heap.size ≤ g := fun g hg => (HOM.out.lt g hg).1
              clear HOM
              go_wp2_with (at_builtin; refine wpList_append_LR rfl _ _ rfl w1.heap.size _ zs.length zs rfl ?d1 (some ⟨wr.heap.size, 0, none⟩) 1 1 [x] rfl ?d2 ?d5 ?d3 ?d4 ?_)
              case d3 => omega
              case d4 => have := hbk.size; simp; omega
              intro v' w3 hown2 hg2
              have hb3 : Below w1.heap.size w1 w3 := bl_grown (hbk.alloc hbk.size _) (by have := hbk.size; simp; omega) hg2 hlt1
              have HE : Hid (w3.ownsRow w.heap.size 34 4 v' (ins x rs).length (flat (ins x rs)) ∧ Below w.heap.size w w3) := by
                rw [HST.out]
                exact ⟨own_mono (by simpa using hown2) hs1, bl_step hb1 hb3⟩
              clear hown2 hg2 ho1 hLRx hbk x0 x1 x2 x3 hlt1 hb3
              go_wp2
              go_roundw
              case rel => first | exact ⟨i + 1, ins x rs, by go_num, by omega, HR'.out.1, HR'.out.2, HE.out.1, HE.out.2⟩ | ((repeat apply Exists.intro); exact ⟨⟨i + 1, ins x rs, by go_num, by omega, HR'.out.1, HR'.out.2, HE.out.1, HE.out.2⟩, rfl⟩)
              case measure => simp [intOf]; omega
    · obtain rfl : i = n := by omega
      have HE : Hid (rs.Pairwise ltL ∧ ∀ x, x ∈ rs ↔ x ∈ ls) := by
        refine ⟨HR.out.1, fun x => ?_⟩
        rw [HR.out.2 x, List.take_of_length_le (by omega)]
      clear HR hrl
      go_wp2
      go_ret
      exact ⟨_, rs, rfl, HE.out.1, HE.out.2, hown, hb⟩
end Go.Proofs.Ytooeemhlpmiceaa.Q
