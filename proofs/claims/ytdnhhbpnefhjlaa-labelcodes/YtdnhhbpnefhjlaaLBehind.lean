/-
  Behind of package label.
-/
import Derived.Test.YtdnhhbpnefhjlaaLCat
namespace Go.Proofs.Ytdnhhbpnefhjlaa
open Go.RowKit Go.Sort
set_option linter.unusedVariables false

theorem out_congr {S T : List Lb} (h : ∀ x, x ∈ S ↔ x ∈ T) (ls : List Lb) : out S ls = out T ls := by
  unfold out
  apply List.filter_congr
  intro x _
  simp [h x]

set_option maxRecDepth 10000 in
theorem deleteFunc_none (w : World) (B m k0 : Nat) (S : List Lb) (hB : w.cell? ⟨B, 0, none⟩ = some (.map (some m))) (hS : SetIs w m k0 S) :
    Calls Try.prog 40 #[.slice none 0 0, .func (.func 59) #[] #[.pointer (some ⟨B, 0, none⟩)]] w fun e w' => e = .returned (.slice none 0 0) ∧ Below w.heap.size w w' := by
  have hix := indexFunc_any w none 0 0 [] ⟨rfl, by omega, fun h => by omega⟩ (by simp) B m k0 S hB hS
  go_enter Try.func40, Try.ntmps40
  go_wp2_with fail
  refine hix.mono ?_
  rintro e w1 ⟨⟨rfl, hno⟩ | ⟨i0, y0, hi0, _⟩, hu1⟩
  · clear hix hno hS hB
    go_wp2
    go_ret
    exact ⟨rfl, hu1.bl⟩
  · omega

theorem deleteFunc_any (w : World) (v : Value) (n base : Nat) (ls : List Lb) (hown : w.ownsRow base 26 4 v n (flat ls)) (hok : ∀ x ∈ ls, OkL x) (B m k0 : Nat) (S : List Lb) (hB : w.cell? ⟨B, 0, none⟩ = some (.map (some m))) (hS : SetIs w m k0 S) (hne : ∀ g, v.ownBlock = some g → g ≠ B ∧ g ≠ m) :
    Calls Try.prog 40 #[v, .func (.func 59) #[] #[.pointer (some ⟨B, 0, none⟩)]] w fun e w' => ∃ v', e = .returned v' ∧ w'.ownsRow base 26 4 v' (out S ls).length (flat (out S ls)) ∧ w.grownBy w' v.ownBlock := by
  rcases hown.2 with ⟨rfl, rfl⟩ | ⟨g, cap, cur, rfl, _⟩
  · have hl := hown.1
    rw [flat_len] at hl
    obtain rfl : ls = [] := List.length_eq_zero_iff.1 (by omega)
    refine (deleteFunc_none w B m k0 S hB hS).mono ?_
    rintro e w' ⟨rfl, hb⟩
    exact ⟨_, rfl, World.ownsRow_nil _ _ _ _, gr_below hb _⟩
  · obtain ⟨h1, h2⟩ := hne g rfl
    exact deleteFunc_some w g n cap base ls hown hok B m k0 S hB hS h1 h2

set_option maxRecDepth 10000 in
set_option maxHeartbeats 1000000 in
theorem behind_any (w : World) (ao : Option Addr) (n cap : Nat) (ls : List Lb) (hA : LR w ao n ls) (hz : ao = none → n = 0 ∧ cap = 0) (hokA : ∀ x ∈ ls, OkL x) (bo : Option Addr) (m cbp : Nat) (ms : List Lb) (hM : LR w bo m ms) (hzm : bo = none → m = 0 ∧ cbp = 0) (hokM : ∀ x ∈ ms, OkL x) (hn : n ≤ 1000) (hm : m ≤ 1000) :
    Calls Try.prog 19 #[.slice ao n cap, .slice bo m cbp] w fun e w' => ∃ v rs, e = .returned v ∧ rs.Pairwise ltL ∧ (∀ x, x ∈ rs ↔ x ∈ ms) ∧ w'.ownsRow w.heap.size 26 4 v (n + (out ls rs).length) (flat (ls ++ out ls rs)) ∧ Below w.heap.size w w' := by
  have hso := sort_any w bo m cbp ms hM hm (fun e => (hzm e).1)
  have HA : Hid (LR w ao n ls) := hA
  have hln := hA.1
  have hlm := hM.1
  clear hA hM
  go_enter Try.func19, Try.ntmps19
  go_wp2_with fail
  refine hso.mono ?_
  rintro e w1 ⟨v1, rs, rfl, hasc, hmem, hown1, hb1⟩
  have hA1 := HA.out.up hb1
  have ham := among_any w1 ao n cap ls hA1 hokA (by omega)
  have hrl : rs.length ≤ m := by
    have := nodup_len (asc_nodup hasc) (fun x hx => (hmem x).1 hx)
    omega
  have HR : Hid (rs.Pairwise ltL ∧ ∀ x, x ∈ rs ↔ x ∈ ms) := ⟨hasc, hmem⟩
  have hokR : ∀ x ∈ rs, OkL x := fun x hx => hokM x ((hmem x).1 hx)
  clear hso hA1 hasc hmem
  go_wp2_with fail
  refine ham.mono ?_
  rintro e w2 ⟨B, mb, k0, S, rfl, hB1, hm1, hB, hS, hSl, hb2⟩
  have hb12 := bl_step hb1 hb2
  have hlt1 : ∀ g, v1.ownBlock = some g → g < w1.heap.size := fun g hg => (hown1.lt g hg).2
  have hown2 : w2.ownsRow w.heap.size 26 4 v1 rs.length (flat rs) := by
    refine hown1.kept (gr_below hb2 none) ?_
    cases v1.ownBlock with
    | none => exact Or.inl rfl
    | some g => exact Or.inr (by simp)
  have hdl := deleteFunc_any w2 v1 rs.length w.heap.size rs hown2 hokR B mb k0 S hB hS (fun g hg => ⟨by have := hlt1 g hg; omega, by have := hlt1 g hg; omega⟩)
  have hlt2 : ∀ g, v1.ownBlock = some g → w.heap.size ≤ g := fun g hg => (hown1.lt g hg).1
  rw [out_congr hSl] at hdl
  clear ham hown1 hown2 hB hS hSl hb1 hb2 hlt1 hB1 hm1
  go_wp2_with fail
  refine hdl.mono ?_
  rintro e w3 ⟨v3, rfl, hown3, hg3⟩
  have hb3 : Below w.heap.size w w3 := bl_grown hb12 hb12.size hg3 hlt2
  obtain ⟨ao3, cp3, rfl, hLR3⟩ := LR.own hown3
  have hz3 : ao3 = none → (out ls rs).length = 0 ∧ cp3 = 0 := by
    rintro rfl
    rcases hown3.2 with ⟨h0, h1⟩ | ⟨g, cap', cur, h0, _⟩
    · simp only [Value.slice.injEq] at h0; exact ⟨h1, h0.2.2⟩
    · simp at h0
  have hol := out_le ls rs
  have hA3 := HA.out.up hb3
  have ub : Below w3.heap.size w3 (w3.alloc (.cells #[.slice ao n cap, .slice ao3 (out ls rs).length cp3] 32)) := bl1 _ _
  have hct := concat_any (w3.alloc (.cells #[.slice ao n cap, .slice ao3 (out ls rs).length cp3] 32)) w3.heap.size ao n cap ls (hA3.up ub) hz ao3 (out ls rs).length cp3 (out ls rs) (hLR3.up ub) hz3 (by omega) (cell_box w3 _ 32 0 _ rfl) (cell_box w3 _ 32 1 _ rfl)
  have hb4 := bl_step hb3 ub
  clear hdl hown3 hg3 hLR3 hA3 ub hb12 hlt2
  go_wp2_with fail
  refine hct.mono ?_
  rintro e w5 ⟨v5, rfl, hown5, hb5⟩
  have HE : Hid (w5.ownsRow w.heap.size 26 4 v5 (n + (out ls rs).length) (flat (ls ++ out ls rs)) ∧ Below w.heap.size w w5) := by
    refine ⟨⟨hown5.1, ?_⟩, bl_step hb4 hb5⟩
    rcases hown5.2 with h0 | ⟨g, cap', cur, h0, h1, h2⟩
    · exact Or.inl h0
    · exact Or.inr ⟨g, cap', cur, h0, Nat.le_trans hb4.size h1, h2⟩
  clear hct hown5 hb5 hb4 hb3
  go_wp2
  go_ret
  exact ⟨v5, rs, rfl, HR.out.1, HR.out.2, HE.out⟩
end Go.Proofs.Ytdnhhbpnefhjlaa
