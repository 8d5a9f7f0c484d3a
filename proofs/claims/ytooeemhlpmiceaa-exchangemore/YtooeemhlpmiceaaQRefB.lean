/-
  The document's Behind of labels.
-/
import Derived.Test.YtooeemhlpmiceaaQRefS
namespace Go.Proofs.Ytooeemhlpmiceaa.Q
open Go.RowKit Go.Sort
set_option linter.unusedVariables false

/-- Any labels behind a row of one's own, and where it lies then. -/
theorem wpList_append_LRat {w : World} {ops : Array Oper} {rest : List Oper} {o : Oper} {a : Act} {Q : Exit → Act → World → Prop} (hgd : o.guard = none) (s x : Operand)
    (ho : o.op = .call { callee := .builtin .append, args := #[s, x], argTypes := #[28, 28] }) (base : Nat)
    (v : Value) (n : Nat) (xs : List Lb) (hs : a.eval s = v) (hown : w.ownsRow base 34 4 v n (flat xs))
    (ad : Addr) (m c : Nat) (ms : List Lb) (hx : a.eval x = .slice (some ad) m c) (hu : LR w (some ad) m ms)
    (hnm : n + m ≤ 1000000) (hbase : base ≤ w.heap.size)
    (h : ∀ v' w', w'.ownsRow base 34 4 v' (n + m) (flat (xs ++ ms)) → w.grownBy w' v.ownBlock → (v'.ownBlock = v.ownBlock ∨ v'.ownBlock = some w.heap.size) → wpList Try.prog ops Q rest (a.put o.dst v') w') :
    wpList Try.prog ops Q (o :: rest) a w := by
  obtain ⟨i0, hi0, hz0, hz1, hz2⟩ := info_parts infoL
  refine wpList_append_own_at _ hgd s x 28 ho base 34 i0 (.agg #[.int .u64 0, .int .i64 0, .int .u64 0, .int .i64 0]) 4 32 und32 hi0 hz0 hz1 hz2 rfl (by decide) v n (flat xs) hs hown ad m c (flat ms) hx (by rw [flat_len, hu.1]) hu.cells (fun u hu' => flat_one hu') (by unfold maxLen; omega) (by omega) hbase (fun v' w' a b _ d => h v' w' (by rw [flat_app]; exact a) b d)

set_option maxRecDepth 10000 in
set_option maxHeartbeats 2000000 in
theorem refBehind_any (w : World) (ao : Option Addr) (n cap : Nat) (ls : List Lb) (hA : LR w ao n ls) (hz : ao = none → n = 0 ∧ cap = 0) (bo : Option Addr) (m cbp : Nat) (ms : List Lb) (hM : LR w bo m ms) (hn : n ≤ 1000) (hm : m ≤ 1000) :
    Calls Try.prog 54 #[.slice ao n cap, .slice bo m cbp] w fun e w' => ∃ v rs, e = .returned v ∧ rs.Pairwise ltL ∧ (∀ x, x ∈ rs ↔ x ∈ ms) ∧ w'.ownsRow w.heap.size 34 4 v (n + (out ls rs).length) (flat (ls ++ out ls rs)) ∧ Below w.heap.size w w' := by
  have hln := hA.1
  have hlm := hM.1
  have HA : Hid (LR w ao n ls) := hA
  have HM : Hid (LR w bo m ms) := hM
  clear hM
  go_enter Try.func54, Try.ntmps54
  go_wp2_with (at_builtin; refine wpList_append_LR rfl _ _ rfl w.heap.size _ 0 [] rfl ?d1 ao n cap ls rfl ?d2 hz ?d3 ?d4 ?_)
  case d1 => exact World.ownsRow_nil _ _ _ _
  case d2 => exact hA
  case d3 => omega
  case d4 => exact Nat.le_refl _
  intro v1 w1 hown1 hg1
  have hb1 : Below w.heap.size w w1 := bl_grown (Below.refl _ _) (Nat.le_refl _) hg1 (fun k hk => by simp [Value.ownBlock] at hk)
  have hso := refSort_any w1 bo m cbp ms (HM.out.up hb1) hm
  have hown1' : w1.ownsRow w.heap.size 34 4 v1 n (flat ls) := by simpa using hown1
  clear hown1 hg1 hA HM
  go_wp2_with fail
  refine hso.mono ?_
  rintro e w2 ⟨vl, rs, rfl, hasc, hmem, hown2, hb2⟩
  have hrl : rs.length ≤ m := by
    have := nodup_len (asc_nodup hasc) (fun x hx => (hmem x).1 hx)
    omega
  have HR : Hid (rs.Pairwise ltL ∧ ∀ x, x ∈ rs ↔ x ∈ ms) := ⟨hasc, hmem⟩
  obtain ⟨lo, lcap, rfl, hLR2⟩ := LR.own hown2
  have hb12 := bl_step hb1 hb2
  have hown12 := own_below hown1' hb2
  have hsep : ∀ g, v1.ownBlock = some g → g < w1.heap.size := fun g hg => (hown1'.lt g hg).2
  have hsep2 : ∀ g, lo.map (·.block) = some g → w1.heap.size ≤ g := fun g hg => by
    refine (hown2.lt g ?_).1
    cases lo with
    | none => cases hg
    | some a => simpa [Value.ownBlock] using hg
  have HSEP : Hid ((∀ g, v1.ownBlock = some g → g < w1.heap.size) ∧ ∀ g, lo.map (·.block) = some g → w1.heap.size ≤ g) := ⟨hsep, hsep2⟩
  have HL2 : Hid (LR w2 lo rs.length rs) := hLR2
  have hs2 := hb2.size
  clear hso hasc hmem hown2 hLR2 hown1' hsep hsep2
  have out0 : Hid (w2.ownsRow w.heap.size 34 4 v1 (n + (out ls (rs.take 0)).length) (flat (ls ++ out ls (rs.take 0)))) := by
    show w2.ownsRow w.heap.size 34 4 v1 (n + (out ls (rs.take 0)).length) (flat (ls ++ out ls (rs.take 0)))
    simpa [out] using hown12
  clear hown12
  go_wp2_with fail
  go_loopw [5, 7] (fun ov iv wr => ∃ k : Nat, iv = .int .i64 k ∧ k ≤ rs.length ∧ wr.ownsRow w.heap.size 34 4 ov (n + (out ls (rs.take k)).length) (flat (ls ++ out ls (rs.take k))) ∧ Below w.heap.size w wr ∧ LR wr lo rs.length rs ∧ w2.heap.size ≤ wr.heap.size ∧ (∀ g, ov.ownBlock = some g → some g ≠ lo.map (·.block))) (fun _ iv _ => rs.length - (intOf iv).toNat)
  case atStart =>
    refine ⟨0, rfl, by omega, out0.out, hb12, HL2.out, Nat.le_refl _, fun g hg e => ?_⟩
    have h1 := HSEP.out.1 g hg
    have h2 := HSEP.out.2 g e.symm
    omega
  case round =>
    obtain ⟨k, rfl, hk, hown, hb, hLR, hs, hne⟩ := hrel
    by_cases hlt : k < rs.length
    · have hltI : (k : Int) < (rs.length : Int) := by omega
      have hk0 : ¬ ((k : Int) < 0) := by omega
      obtain ⟨x, hx⟩ : ∃ y, rs[k]? = some y := ⟨rs[k]'(by omega), List.getElem?_eq_getElem (by omega)⟩
      obtain ⟨b, off, hlo, hc⟩ := hLR.2.2 (by omega)
      obtain ⟨c0, c1, c2, c3⟩ := hc k x hx
      have hin := in_any wr ao n cap ls (HA.out.up hb) x
      unfold lab at hin
      have HST : Hid (out ls (rs.take (k + 1)) = out ls (rs.take k) ++ (if decide (x ∈ ls) then [] else [x])) := out_step hx
      have HX : Hid (rs[k]? = some x) := hx
      have HLR : Hid (LR wr lo rs.length rs) := hLR
      have hol := out_le ls (rs.take k)
      rw [List.length_take] at hol
      have hoL : (out ls (rs.take k)).length ≤ rs.length := by omega
      subst hlo
      clear hc hx hLR hol
      generalize out ls (rs.take k) = zs at *
      have HOWN : Hid _ := hown
      obtain ⟨oo, ocap, hv, _⟩ := LR.own hown
      subst hv
      clear hown
      cases hd : decide (x ∈ ls) with
      | true =>
        rw [hd] at hin HST
        clear hd
        go_wp2_with fail
        refine hin.mono ?_
        rintro e w3 ⟨rfl, hu3⟩
        have HE : Hid (w3.ownsRow w.heap.size 34 4 (.slice oo (n + zs.length) ocap) (n + (out ls (rs.take (k + 1))).length) (flat (ls ++ out ls (rs.take (k + 1)))) ∧ Below w.heap.size w w3 ∧ LR w3 (some ⟨b, off, none⟩) rs.length rs ∧ w2.heap.size ≤ w3.heap.size) := by
          have e : out ls (rs.take (k + 1)) = zs := by rw [HST.out]; simp
          rw [e]
          exact ⟨own_below HOWN.out hu3.bl, bl_step hb hu3.bl, HLR.out.up hu3.bl, Nat.le_trans hs hu3.bl.size⟩
        have HNE : Hid _ := hne
        clear hin hu3 c0 c1 c2 c3 HOWN HST hne hb HLR hs
        go_wp2
        go_roundw
        case rel => first | exact ⟨k + 1, by go_num, by omega, HE.out.1, HE.out.2.1, HE.out.2.2.1, HE.out.2.2.2, HNE.out⟩ | ((repeat apply Exists.intro); exact ⟨⟨k + 1, by go_num, by omega, HE.out.1, HE.out.2.1, HE.out.2.2.1, HE.out.2.2.2, HNE.out⟩, rfl⟩)
        case measure => simp [intOf]; omega
      | false =>
        rw [hd] at hin HST
        clear hd
        go_wp2_with fail
        refine hin.mono ?_
        rintro e w3 ⟨rfl, hu3⟩
        have hown3 := own_below HOWN.out hu3.bl
        have hb3 := bl_step hb hu3.bl
        have hLR3 := HLR.out.up hu3.bl
        have hs3 := Nat.le_trans hs hu3.bl.size
        obtain ⟨c0, c1, c2, c3⟩ := (⟨hu3.cell c0, hu3.cell c1, hu3.cell c2, hu3.cell c3⟩ : _ ∧ _ ∧ _ ∧ _)
        have hLRx := LR.one w3 x
        have ho3 := fun o => hown3.alloc o
        have HNE : Hid _ := hne
        have HLR3 : Hid (LR w3 (some ⟨b, off, none⟩) rs.length rs) := hLR3
        have hblk := (hLR3.2.2 (by omega))
        have hbl : b < w3.heap.size := World.block_lt_of_cell? w3 _ c0
        have hlt3 : ∀ g, (Value.slice oo (n + zs.length) ocap).ownBlock = some g → w.heap.size ≤ g := fun g hg => (hown3.lt g hg).1
        clear hin hu3 HOWN hne hb HLR hs hLR3 hblk hown3
        go_wp2_with (at_builtin; refine wpList_append_LRat rfl _ _ rfl w.heap.size _ (n + zs.length) (ls ++ zs) rfl ?d1 ⟨w3.heap.size, 0, none⟩ 1 1 [x] rfl ?d2 ?d3 ?d4 ?_)
        case d1 => exact ho3 _
        case d2 => exact hLRx
        case d3 => omega
        case d4 => have := hb3.size; simp; omega
        intro v4 w4 hown4 hg4 hat
        have hb4 : Below w.heap.size w w4 := bl_grown (hb3.alloc hb3.size _) (by have := hb3.size; simp; omega) hg4 hlt3
        have HE : Hid (w4.ownsRow w.heap.size 34 4 v4 (n + (out ls (rs.take (k + 1))).length) (flat (ls ++ out ls (rs.take (k + 1)))) ∧ Below w.heap.size w w4 ∧ LR w4 (some ⟨b, off, none⟩) rs.length rs ∧ w2.heap.size ≤ w4.heap.size) := by
          have e : out ls (rs.take (k + 1)) = zs ++ [x] := by rw [HST.out]; simp
          rw [e]
          refine ⟨?_, hb4, ?_, ?_⟩
          · simpa [Nat.add_assoc] using hown4
          · refine (HLR3.out.up (bl1 w3 _)).of_cells (fun ad v hm hc => hg4.cell hc ?_)
            intro e2
            have := HNE.out ad.block e2.symm
            exact this hm.symm
          · have := hg4.size
            simp at this
            omega
        have HN4 : Hid (∀ g, v4.ownBlock = some g → some g ≠ (some (⟨b, off, none⟩ : Addr)).map (·.block)) := by
          intro g hg e2
          rcases hat with e | e
          · exact HNE.out g (e ▸ hg) e2
          · rw [hg] at e
            simp at e e2
            omega
        clear hat hown4 hg4 hb4 ho3 hLRx c0 c1 c2 c3 HST hb3 HLR3 hs3 HNE hlt3
        go_wp2
        go_roundw
        case rel => first | exact ⟨k + 1, by go_num, by omega, HE.out.1, HE.out.2.1, HE.out.2.2.1, HE.out.2.2.2, HN4.out⟩ | ((repeat apply Exists.intro); exact ⟨⟨k + 1, by go_num, by omega, HE.out.1, HE.out.2.1, HE.out.2.2.1, HE.out.2.2.2, HN4.out⟩, rfl⟩)
        case measure => simp [intOf]; omega
    · obtain rfl : k = rs.length := by omega
      rw [List.take_of_length_le (Nat.le_refl _)] at hown
      have HE : Hid _ := hown
      obtain ⟨oo, ocap, hv, _⟩ := LR.own hown
      subst hv
      clear hown hne hLR
      go_wp2
      go_ret
      exact ⟨_, rs, rfl, HR.out.1, HR.out.2, HE.out, hb⟩
end Go.Proofs.Ytooeemhlpmiceaa.Q
