/-
  Proved: for every packet of texts, every list of numbers and whether the epoch is the ends' own, LinkIns(p, puts, same) returns true: each answer of In to any packet of any epoch, with any numbers; the document's example holds. No condition.
-/
import Derived.Test.YthobbnmdpkginaaRows
import Derived.Test.YthobbnmdpkginaaLIns
namespace Go.Proofs.Ythobbnmdpkginaa.linkIns
open Go.ChangeShapes Go.WideShapes Go.ChangeAt Go.RowKit Go.Joins
open Go.ChangeMaps (open_string shut_string)
set_option linter.unusedVariables false
set_option linter.unusedSimpArgs false

def Pb (xs : List Value) : Pl := { Pl.zero with xB := xs }
theorem begin_ins (w : World) : Calls Try.prog 11 #[.int .u8 11, .int .u8 3] w fun e w' => ∃ q ka kb, e = .returned (.pointer (some ⟨q, 0, none⟩)) ∧ Ws w w' (fun _ => False) q ka kb 12 4 (Pb []) := ws_begin w 11 3 (by omega) (by omega) 12 4 rfl rfl

set_option maxRecDepth 20000 in
set_option maxHeartbeats 1500000 in
theorem walk (w : World) (vn : Nat) (vp : Int) (bs : Nat) (hb : bs < 18446744073709551616) (ao : Option Addr) (pn pc : Nat) (zs : List Value) (tx : Tx w 9 (.slice ao pn pc) zs) (ak : Nat) (hak : ak < 18446744073709551616) (a1 : Option Addr) (len cap : Nat) (xs : List Value) (hx : Tx w 3 (.slice a1 len cap) xs) (b2 : Bool) :
    Calls Try.prog 6 #[.agg #[.int .u64 (vn : Nat), .int .i64 vp, .int .u64 (bs : Nat), .slice ao pn pc, .int .u64 (ak : Nat)], .slice a1 len cap, .bool b2] w fun e w' => e = .returned (.bool true) ∧ Below w.heap.size w w' := by
  obtain ⟨hpn, hpc, hpc2⟩ := tx.len
  obtain ⟨hlen, hcap, hcap2⟩ := hx.len
  obtain ⟨o, ho⟩ : ∃ o : Obj, o = .cells #[.int .u64 (vn : Nat), .int .i64 vp, .int .u64 (bs : Nat), .slice ao pn pc, .int .u64 (ak : Nat)] 45 := ⟨_, rfl⟩
  have t0 : Turned (fun _ => False) w (w.alloc o) := (Turned.refl _ w).alloc o
  have hb0 : (w.alloc o).heap[w.heap.size]? = some o := Deep.blk_alloc_new _ _
  have hs0 : w.heap.size < (w.alloc o).heap.size := by simp
  have HTX : Hid (Tx w 9 (.slice ao pn pc) zs) := tx
  have HX : Hid (Tx w 3 (.slice a1 len cap) xs) := hx
  have HP : Hid (pn = zs.length) := hpn
  have HLN : Hid (len = xs.length) := hlen
  clear tx hx hpn hlen hpc hpc2
  by_cases h300 : 300 < pn
  · have h300I : (300 : Int) < pn := by omega
    have b3 : ∀ w1, Turned (fun _ => False) (w.alloc o) w1 → w1.cell? ⟨w.heap.size, 3, none⟩ = some (.slice ao pn pc) := fun w1 t => by
      have e := (t.block w.heap.size hs0 (fun f => f)).trans hb0
      unfold World.cell?; rw [e, ho]; rfl
    have B3 : Hid (∀ w1, Turned (fun _ => False) (w.alloc o) w1 → w1.cell? ⟨w.heap.size, 3, none⟩ = some (.slice ao pn pc)) := b3
    clear b3 hb0 hs0
    subst ho
    go_enter Try.func6, Try.ntmps6
    go_wp2_with fail
    refine (awake_any _).mono ?_
    rintro e w1 ⟨rfl, t1⟩
    have c3 := B3.out w1 t1
    have t01 := t0.trans t1 (fun _ f => f.elim)
    clear t0 t1 B3
    go_wp2_with fail
    refine (awake_any _).mono ?_
    rintro e w2 ⟨rfl, t2⟩
    have t02 := t01.trans t2 (fun _ f => f.elim)
    clear t01 t2 c3
    go_wp2
    go_ret
    exact ⟨rfl, t02.below (Nat.le_refl _) (fun _ f => f.elim)⟩
  · have h300I : ¬ (300 : Int) < pn := by omega
    have B3 : Hid (∀ w1, Turned (fun _ => False) (w.alloc o) w1 → w1.cell? ⟨w.heap.size, 3, none⟩ = some (.slice ao pn pc)) := fun w1 t => by
      have e := (t.block w.heap.size hs0 (fun f => f)).trans hb0
      unfold World.cell?; rw [e, ho]; rfl
    have HB : Hid ((w.alloc o).heap[w.heap.size]? = some (.cells #[.int .u64 (vn : Nat), .int .i64 vp, .int .u64 (bs : Nat), .slice ao pn pc, .int .u64 (ak : Nat)] 45 (0, 0))) := by unfold Hid; rw [hb0, ho]
    have HS : Hid (w.heap.size < (w.alloc o).heap.size) := hs0
    clear hb0 hs0
    subst ho
    go_enter Try.func6, Try.ntmps6
    go_wp2_with fail
    refine (awake_any _).mono ?_
    rintro e w1 ⟨rfl, t1⟩
    have c3 := B3.out w1 t1
    have t01 := t0.trans t1 (fun _ f => f.elim)
    have HB1 : Hid (w1.heap[w.heap.size]? = some (.cells #[.int .u64 (vn : Nat), .int .i64 vp, .int .u64 (bs : Nat), .slice ao pn pc, .int .u64 (ak : Nat)] 45 (0, 0))) := (t1.block _ HS.out (fun f => f)).trans HB.out
    have HS1 : Hid (w.heap.size < w1.heap.size) := Nat.lt_of_lt_of_le HS.out t1.size
    clear t0 t1 B3 HB HS
    go_wp2_with fail
    refine (begin_ins _).mono ?_
    rintro e w2 ⟨q, ka, kb, rfl, h2⟩
    have h3 := h2.olds
    have HB2 : Hid (w2.heap[w.heap.size]? = some (.cells #[.int .u64 (vn : Nat), .int .i64 vp, .int .u64 (bs : Nat), .slice ao pn pc, .int .u64 (ak : Nat)] 45 (0, 0))) := (h2.turned.block _ HS1.out (fun f => f)).trans HB1.out
    clear h2 c3 HB1
    have T01 : Hid (Turned (fun _ => False) w w1) := t01
    clear t01
    go_wp2
    go_loopw [8] (fun iv wr => ∃ i : Nat, i ≤ len ∧ i ≤ 12 ∧ iv = .int .i64 i ∧ Ws w1 wr (fun b => b < w1.heap.size) q ka kb 12 4 (Pb (xs.take i)) ∧ wr.heap[w.heap.size]? = some (.cells #[.int .u64 (vn : Nat), .int .i64 vp, .int .u64 (bs : Nat), .slice ao pn pc, .int .u64 (ak : Nat)] 45 (0, 0))) (fun iv _ => 12 - (intOf iv).toNat)
    case atStart => exact ⟨0, by omega, by omega, rfl, by simpa using h3, HB2.out⟩
    case round =>
      clear h3 HB2
      obtain ⟨i, hi, hi2, rfl, h3, hbx⟩ := hrel
      by_cases hlt : i < len ∧ i < 12
      · obtain ⟨hlt1, hlt2⟩ := hlt
        have hltI : (i : Int) < len := by omega
        have hltI2 : (i : Int) < 12 := by omega
        have tx3 := (HX.out.turned T01.out).turned h3.turned
        obtain ⟨b, off, x, rfl, hxi, hkd, hc⟩ := tx3.at hlt1
        obtain ⟨z, rfl⟩ := kd_i hkd
        have e1 := h3.c1
        have hput := ws_putB (h3.still ((Turned.refl _ wr).drew)) (by show (xs.take i).length < 12; rw [List.length_take]; omega) (.int .i64 z) (one_int _ _)
        have HXI : Hid (xs[i]? = some (.int .i64 z)) := hxi
        have HBX : Hid (wr.heap[w.heap.size]? = some (.cells #[.int .u64 (vn : Nat), .int .i64 vp, .int .u64 (bs : Nat), .slice ao pn pc, .int .u64 (ak : Nat)] 45 (0, 0))) := hbx
        have hcb : wr.heap[b]? = wr.heap[b]? := rfl
        have HBL : Hid (b < w1.heap.size) := by
          have := HX.out.turned T01.out
          exact this.olds (by omega) b rfl
        clear h3 hxi hbx tx3 hkd hcb
        go_wp2_with fail
        refine wp_region_noPanic ?_
        refine wp_region_held_drew (S := fun wx => wx.cell? ⟨q, 1, none⟩ = some (.pointer (some ⟨kb, 0, none⟩)) ∧ wx.cell? ⟨b, off + i, none⟩ = some (.int .i64 z)) (by kernel_rfl) (show _ ∧ _ from ⟨e1, hc⟩) (fun hHeld => ?_)
        refine take_first 0 (v := ?_) rfl (by kernel_rfl) (by kernel_rfl) (by kernel_rfl) (fun _ _ _ h => h) (Or.inl ⟨by rfl, by intro wx hSw; (try dsimp only at hSw); obtain ⟨hSw1, hSw2⟩ := hSw; go_simp; try with_reducible rfl⟩) (by assumption) ?_
        (try simp only [Act.put, List.setIfInBounds_toArray, List.set_cons_zero, List.set_cons_succ])
        refine take_first 1 (v := ?_) rfl (by kernel_rfl) (by kernel_rfl) (by kernel_rfl) (fun _ _ _ h => h) (Or.inl ⟨by rfl, by intro wx hSw; (try dsimp only at hSw); obtain ⟨hSw1, hSw2⟩ := hSw; go_simp; try with_reducible rfl⟩) (by assumption) ?_
        (try simp only [Act.put, List.setIfInBounds_toArray, List.set_cons_zero, List.set_cons_succ])
        refine take_first 2 (v := ?_) rfl (by kernel_rfl) (by kernel_rfl) (by kernel_rfl) (fun _ _ _ h => h) (Or.inl ⟨by rfl, by intro wx hSw; (try dsimp only at hSw); obtain ⟨hSw1, hSw2⟩ := hSw; go_simp; try with_reducible rfl⟩) (by assumption) ?_
        (try simp only [Act.put, List.setIfInBounds_toArray, List.set_cons_zero, List.set_cons_succ])
        refine take_first 3 (v := ?_) rfl (by kernel_rfl) (by kernel_rfl) (by kernel_rfl) (fun _ _ _ h => h) (Or.inl ⟨by rfl, by intro wx hSw; (try dsimp only at hSw); obtain ⟨hSw1, hSw2⟩ := hSw; go_simp; try with_reducible rfl⟩) (by assumption) ?_
        (try simp only [Act.put, List.setIfInBounds_toArray, List.set_cons_zero, List.set_cons_succ])
        refine take_first 4 (v := ?_) rfl (by kernel_rfl) (by kernel_rfl) (by kernel_rfl) (fun _ _ _ h => h) (Or.inl ⟨by rfl, by intro wx hSw; (try dsimp only at hSw); obtain ⟨hSw1, hSw2⟩ := hSw; go_simp; try with_reducible rfl⟩) (by assumption) ?_
        (try simp only [Act.put, List.setIfInBounds_toArray, List.set_cons_zero, List.set_cons_succ])
        refine take_first 5 (v := ?_) rfl (by kernel_rfl) (by kernel_rfl) (by kernel_rfl) (fun _ _ _ h => h) (Or.inl ⟨by rfl, by intro wx hSw; (try dsimp only at hSw); obtain ⟨hSw1, hSw2⟩ := hSw; go_simp; try with_reducible rfl⟩) (by assumption) ?_
        (try simp only [Act.put, List.setIfInBounds_toArray, List.set_cons_zero, List.set_cons_succ])
        refine take_first 6 (v := ?_) rfl (by kernel_rfl) (by kernel_rfl) (by kernel_rfl) (fun _ _ _ h => h) (Or.inl ⟨by rfl, by intro wx hSw; (try dsimp only at hSw); obtain ⟨hSw1, hSw2⟩ := hSw; go_simp; try with_reducible rfl⟩) (by assumption) ?_
        (try simp only [Act.put, List.setIfInBounds_toArray, List.set_cons_zero, List.set_cons_succ])
        refine take_first 7 (v := ?_) rfl (by kernel_rfl) (by kernel_rfl) (by kernel_rfl) (fun _ _ _ h => h) (Or.inl ⟨by rfl, by intro wx hSw; (try dsimp only at hSw); obtain ⟨hSw1, hSw2⟩ := hSw; go_simp; try with_reducible rfl⟩) (by assumption) ?_
        (try simp only [Act.put, List.setIfInBounds_toArray, List.set_cons_zero, List.set_cons_succ])
        refine comes_up 8 rfl (by kernel_rfl) (fun K hK => ?_)
        go_simp
        refine hput.mono ?_
        rintro e w5 ⟨rfl, HH⟩
        have d1 := HH.out.1.c1
        have d2 : w5.cell? ⟨b, off + i, none⟩ = some (.int .i64 z) := (cell_block (HH.out.2.2 b HBL.out)).trans hc
        have hbx5 : w5.heap[w.heap.size]? = some (.cells #[.int .u64 (vn : Nat), .int .i64 vp, .int .u64 (bs : Nat), .slice ao pn pc, .int .u64 (ak : Nat)] 45 (0, 0)) := (HH.out.2.2 _ HS1.out).trans HBX.out
        have h5 : Ws w1 w5 (fun b => b < w1.heap.size) q ka kb 12 4 (Pb (xs.take (i + 1))) := by
          rw [take_snoc HXI.out]
          exact HH.out.1
        have H5 : Hid (Ws w1 w5 (fun b => b < w1.heap.size) q ka kb 12 4 (Pb (xs.take (i + 1))) ∧ w5.heap[w.heap.size]? = some (.cells #[.int .u64 (vn : Nat), .int .i64 vp, .int .u64 (bs : Nat), .slice ao pn pc, .int .u64 (ak : Nat)] 45 (0, 0))) := ⟨h5, hbx5⟩
        clear HH h5 hbx5 hput HBX HXI hc e1
        go_wp2_with fail
        refine hK.out _ _ ⟨d1, d2⟩ (fun hHeld => ?_)
        clear hK K
        (try simp only [Act.put, List.setIfInBounds_toArray, List.set_cons_zero, List.set_cons_succ])
        refine comes_up 9 rfl (by kernel_rfl) (fun K hK => ?_)
        go_simp
        refine hK.out _ _ ⟨d1, d2⟩ (fun hHeld => ?_)
        clear hK K
        (try simp only [Act.put, List.setIfInBounds_toArray, List.set_cons_zero, List.set_cons_succ])
        refine wpAnyH_done (by kernel_rfl) ?_ _
        refine NoPanic.normal ?_
        go_wp2
        go_roundw
        case rel => first | exact ⟨i + 1, by omega, by omega, by go_num, H5.out.1, H5.out.2⟩ | ((repeat apply Exists.intro); exact ⟨⟨i + 1, by omega, by omega, by go_num, H5.out.1, H5.out.2⟩, rfl⟩)
        case measure => simp [intOf]; omega
      · obtain ⟨S, HS4⟩ : ∃ S, Hid (S = min len 4) := ⟨_, rfl⟩
        have H4 : Hid (Ws w wr (fun b => b < w1.heap.size) q ka kb 12 4 (Pb (xs.take i))) := h3.behind T01.out
        have HBX : Hid (wr.heap[w.heap.size]? = some (.cells #[.int .u64 (vn : Nat), .int .i64 vp, .int .u64 (bs : Nat), .slice ao pn pc, .int .u64 (ak : Nat)] 45 (0, 0))) := hbx
        have HXN : Hid (min 4 (xs.take i).length = S) := by
          have := HS4.out
          have := HLN.out
          unfold Hid
          rw [List.length_take]
          omega
        clear h3 hbx
        have hE : ((i : Int) < len ∧ ¬ (i : Int) < 12) ∨ ¬ (i : Int) < len := by omega
        rcases hE with ⟨hE1, hE2⟩ | hE1
        all_goals
          go_upto_if 48 with fail
          go_cut [9] from 47 to 48 (fun sv wx => sv = .int .i64 (S : Nat) ∧ wx = wr)
          case rest =>
            obtain ⟨rfl, rfl⟩ := hcut
            go_upto_if 49 with fail
            go_cut [9] from 50 to 51 (fun sv wx => sv = .int .i64 (S : Nat) ∧ ∃ (un : Nat) (up : Int), wx.heap[w.heap.size]? = some (.cells #[.int .u64 (un : Nat), .int .i64 up, .int .u64 (bs : Nat), .slice ao pn pc, .int .u64 (ak : Nat)] 45 (0, 0)) ∧ Ws w wx (fun b => b < w1.heap.size) q ka kb 12 4 (Pb (xs.take i)))
            case rest =>
              obtain ⟨rfl, un, up, hbx, h5⟩ := hcut
              obtain ⟨b0, b1, b2', b3, b4, bf⟩ := row_cells hbx
              have e1 := h5.c1
              have h6 := h5.still ((Turned.refl _ wc).drew)
              have hwS : IntKind.u64.wrap (S : Int) = (S : Int) := by rw [IntKind.wrap_u64]; have := HS4.out; omega
              have tx5 := (HTX.out.turned h5.turned).turned ((Turned.refl _ wc).drew)
              have hold := HTX.out.olds
              have hsw := T01.out.size
              have hS4 : S ≤ 4 := by have := HS4.out; omega
              clear hbx bf HBX H4 h5
              by_cases hep : un = 4 ∧ up = 2
              · obtain ⟨rfl, rfl⟩ := hep
                by_cases hk : S < ak
                · have hkd : decide (S < ak) = true := by simpa using hk
                  as_aux_lemma =>
                  have hcall := ws_argB h6 bs ao pn pc ak (by show 0 + min 4 (xs.take i).length < ak; rw [HXN.out]; omega) hak
                  clear HXN
                  clear h6 tx5
                  go_wp2_with fail
                  refine wp_region_noPanic ?_
                  refine wp_region_held_drew (S := fun wx => wx.cell? ⟨q, 1, none⟩ = some (.pointer (some ⟨kb, 0, none⟩)) ∧ wx.cell? ⟨w.heap.size, 0, none⟩ = some (.int .u64 ((4 : Nat) : Int)) ∧ wx.cell? ⟨w.heap.size, 1, none⟩ = some (.int .i64 2) ∧ wx.cell? ⟨w.heap.size, 2, none⟩ = some (.int .u64 (bs : Nat)) ∧ wx.cell? ⟨w.heap.size, 3, none⟩ = some (.slice ao pn pc) ∧ wx.cell? ⟨w.heap.size, 4, none⟩ = some (.int .u64 (ak : Nat))) (by kernel_rfl) (show _ ∧ _ ∧ _ ∧ _ ∧ _ ∧ _ from ⟨e1, b0, b1, b2', b3, b4⟩) (fun hHeld => ?_)
                  refine take_first 0 (v := ?_) rfl (by kernel_rfl) (by kernel_rfl) (by kernel_rfl) (fun _ _ _ h => h) (Or.inl ⟨by rfl, by intro wx hSw; (try dsimp only at hSw); obtain ⟨hSw1, hSw2, hSw3, hSw4, hSw5, hSw6⟩ := hSw; go_simp; try with_reducible rfl⟩) (by assumption) ?_
                  (try simp only [Act.put, List.setIfInBounds_toArray, List.set_cons_zero, List.set_cons_succ])
                  refine take_first 1 (v := ?_) rfl (by kernel_rfl) (by kernel_rfl) (by kernel_rfl) (fun _ _ _ h => h) (Or.inl ⟨by rfl, by intro wx hSw; (try dsimp only at hSw); obtain ⟨hSw1, hSw2, hSw3, hSw4, hSw5, hSw6⟩ := hSw; go_simp; try with_reducible rfl⟩) (by assumption) ?_
                  (try simp only [Act.put, List.setIfInBounds_toArray, List.set_cons_zero, List.set_cons_succ])
                  refine take_first 2 (v := ?_) rfl (by kernel_rfl) (by kernel_rfl) (by kernel_rfl) (fun _ _ _ h => h) (Or.inl ⟨by rfl, by intro wx hSw; (try dsimp only at hSw); obtain ⟨hSw1, hSw2, hSw3, hSw4, hSw5, hSw6⟩ := hSw; go_simp; try with_reducible rfl⟩) (by assumption) ?_
                  (try simp only [Act.put, List.setIfInBounds_toArray, List.set_cons_zero, List.set_cons_succ])
                  refine take_first 3 (v := ?_) rfl (by kernel_rfl) (by kernel_rfl) (by kernel_rfl) (fun _ _ _ h => h) (Or.inl ⟨by rfl, by intro wx hSw; (try dsimp only at hSw); obtain ⟨hSw1, hSw2, hSw3, hSw4, hSw5, hSw6⟩ := hSw; go_simp; try with_reducible rfl⟩) (by assumption) ?_
                  (try simp only [Act.put, List.setIfInBounds_toArray, List.set_cons_zero, List.set_cons_succ])
                  refine take_first 4 (v := ?_) rfl (by kernel_rfl) (by kernel_rfl) (by kernel_rfl) (fun _ _ _ h => h) (Or.inl ⟨by rfl, by intro wx hSw; (try dsimp only at hSw); obtain ⟨hSw1, hSw2, hSw3, hSw4, hSw5, hSw6⟩ := hSw; go_simp; try with_reducible rfl⟩) (by assumption) ?_
                  (try simp only [Act.put, List.setIfInBounds_toArray, List.set_cons_zero, List.set_cons_succ])
                  refine comes_up 5 rfl (by kernel_rfl) (fun K hK => ?_)
                  go_simp
                  refine hcall.mono ?_
                  rintro e w6 ⟨rfl, HH⟩
                  have hB : w6.heap[w.heap.size]? = wc.heap[w.heap.size]? := HH.out.2.block _ (World.block_lt_of_cell? wc _ b0) (fun f => f)
                  have d0 := (cell_block hB).trans b0
                  have d1 := (cell_block hB).trans b1
                  have d2 := (cell_block hB).trans b2'
                  have d3 := (cell_block hB).trans b3
                  have d4 := (cell_block hB).trans b4
                  have f1 := HH.out.1.c1
                  have hbel := HH.out.1.below
                  have hgot : Calls Try.prog 22 #[.pointer (some ⟨kb, 0, none⟩)] w6 fun e w' => e = .returned (.int .u64 0) ∧ w6 = w' := ws_gotB HH.out.1
                  have hackd : Calls Try.prog 24 #[.pointer (some ⟨kb, 0, none⟩)] w6 fun e w' => e = .returned (.int .u64 0) ∧ w6 = w' := ws_ackedB HH.out.1
                  clear HH hB b0 b1 b2' b3 b4 e1 hcall
                  go_wp2_with fail
                  refine hK.out _ _ ⟨f1, d0, d1, d2, d3, d4⟩ (fun hHeld => ?_)
                  clear hK K
                  (try simp only [Act.put, List.setIfInBounds_toArray, List.set_cons_zero, List.set_cons_succ])
                  refine take_first 6 (v := ?_) rfl (by kernel_rfl) (by kernel_rfl) (by kernel_rfl) (fun _ _ _ h => h) (Or.inl ⟨by rfl, by intro wx hSw; (try dsimp only at hSw); obtain ⟨hSw1, hSw2, hSw3, hSw4, hSw5, hSw6⟩ := hSw; go_simp; try with_reducible rfl⟩) (by assumption) ?_
                  (try simp only [Act.put, List.setIfInBounds_toArray, List.set_cons_zero, List.set_cons_succ])
                  refine take_first 7 (v := ?_) rfl (by kernel_rfl) (by kernel_rfl) (by kernel_rfl) (fun _ _ _ h => h) (Or.inl ⟨by rfl, by intro wx hSw; (try dsimp only at hSw); obtain ⟨hSw1, hSw2, hSw3, hSw4, hSw5, hSw6⟩ := hSw; go_simp; try with_reducible rfl⟩) (by assumption) ?_
                  (try simp only [Act.put, List.setIfInBounds_toArray, List.set_cons_zero, List.set_cons_succ])
                  refine take_first 8 (v := ?_) rfl (by kernel_rfl) (by kernel_rfl) (by kernel_rfl) (fun _ _ _ h => h) (Or.inl ⟨by rfl, by intro wx hSw; (try dsimp only at hSw); obtain ⟨hSw1, hSw2, hSw3, hSw4, hSw5, hSw6⟩ := hSw; go_simp; try with_reducible rfl⟩) (by assumption) ?_
                  (try simp only [Act.put, List.setIfInBounds_toArray, List.set_cons_zero, List.set_cons_succ])
                  refine take_first 9 (v := ?_) rfl (by kernel_rfl) (by kernel_rfl) (by kernel_rfl) (fun _ _ _ h => h) (Or.inl ⟨by rfl, by intro wx hSw; (try dsimp only at hSw); obtain ⟨hSw1, hSw2, hSw3, hSw4, hSw5, hSw6⟩ := hSw; go_simp; try with_reducible rfl⟩) (by assumption) ?_
                  (try simp only [Act.put, List.setIfInBounds_toArray, List.set_cons_zero, List.set_cons_succ])
                  refine take_first 10 (v := ?_) rfl (by kernel_rfl) (by kernel_rfl) (by kernel_rfl) (fun _ _ _ h => h) (Or.inl ⟨by rfl, by intro wx hSw; (try dsimp only at hSw); obtain ⟨hSw1, hSw2, hSw3, hSw4, hSw5, hSw6⟩ := hSw; go_simp; try with_reducible rfl⟩) (by assumption) ?_
                  (try simp only [Act.put, List.setIfInBounds_toArray, List.set_cons_zero, List.set_cons_succ])
                  refine wpAnyH_done (by kernel_rfl) ?_ _
                  refine NoPanic.normal ?_
                  go_wp2_with fail
                  refine hgot.mono ?_
                  rintro e w7 ⟨rfl, rfl⟩
                  go_wp2_with fail
                  refine hackd.mono ?_
                  rintro e w7 ⟨rfl, rfl⟩
                  go_wp2
                  go_ret
                  exact ⟨rfl, hbel⟩
                · have hkd : decide (S < ak) = false := by simp; omega
                  by_cases hbs : 0 < bs
                  · have hbd : decide (0 < bs) = true := by simpa using hbs
                    as_aux_lemma =>
                    have hcall := ws_baseB h6 bs hbs ao pn pc ak (by show ak ≤ 0 + min 4 (xs.take i).length; rw [HXN.out]; omega) hak
                    clear HXN
                    clear h6 tx5
                    go_wp2_with fail
                    refine wp_region_noPanic ?_
                    refine wp_region_held_drew (S := fun wx => wx.cell? ⟨q, 1, none⟩ = some (.pointer (some ⟨kb, 0, none⟩)) ∧ wx.cell? ⟨w.heap.size, 0, none⟩ = some (.int .u64 ((4 : Nat) : Int)) ∧ wx.cell? ⟨w.heap.size, 1, none⟩ = some (.int .i64 2) ∧ wx.cell? ⟨w.heap.size, 2, none⟩ = some (.int .u64 (bs : Nat)) ∧ wx.cell? ⟨w.heap.size, 3, none⟩ = some (.slice ao pn pc) ∧ wx.cell? ⟨w.heap.size, 4, none⟩ = some (.int .u64 (ak : Nat))) (by kernel_rfl) (show _ ∧ _ ∧ _ ∧ _ ∧ _ ∧ _ from ⟨e1, b0, b1, b2', b3, b4⟩) (fun hHeld => ?_)
                    refine take_first 0 (v := ?_) rfl (by kernel_rfl) (by kernel_rfl) (by kernel_rfl) (fun _ _ _ h => h) (Or.inl ⟨by rfl, by intro wx hSw; (try dsimp only at hSw); obtain ⟨hSw1, hSw2, hSw3, hSw4, hSw5, hSw6⟩ := hSw; go_simp; try with_reducible rfl⟩) (by assumption) ?_
                    (try simp only [Act.put, List.setIfInBounds_toArray, List.set_cons_zero, List.set_cons_succ])
                    refine take_first 1 (v := ?_) rfl (by kernel_rfl) (by kernel_rfl) (by kernel_rfl) (fun _ _ _ h => h) (Or.inl ⟨by rfl, by intro wx hSw; (try dsimp only at hSw); obtain ⟨hSw1, hSw2, hSw3, hSw4, hSw5, hSw6⟩ := hSw; go_simp; try with_reducible rfl⟩) (by assumption) ?_
                    (try simp only [Act.put, List.setIfInBounds_toArray, List.set_cons_zero, List.set_cons_succ])
                    refine take_first 2 (v := ?_) rfl (by kernel_rfl) (by kernel_rfl) (by kernel_rfl) (fun _ _ _ h => h) (Or.inl ⟨by rfl, by intro wx hSw; (try dsimp only at hSw); obtain ⟨hSw1, hSw2, hSw3, hSw4, hSw5, hSw6⟩ := hSw; go_simp; try with_reducible rfl⟩) (by assumption) ?_
                    (try simp only [Act.put, List.setIfInBounds_toArray, List.set_cons_zero, List.set_cons_succ])
                    refine take_first 3 (v := ?_) rfl (by kernel_rfl) (by kernel_rfl) (by kernel_rfl) (fun _ _ _ h => h) (Or.inl ⟨by rfl, by intro wx hSw; (try dsimp only at hSw); obtain ⟨hSw1, hSw2, hSw3, hSw4, hSw5, hSw6⟩ := hSw; go_simp; try with_reducible rfl⟩) (by assumption) ?_
                    (try simp only [Act.put, List.setIfInBounds_toArray, List.set_cons_zero, List.set_cons_succ])
                    refine take_first 4 (v := ?_) rfl (by kernel_rfl) (by kernel_rfl) (by kernel_rfl) (fun _ _ _ h => h) (Or.inl ⟨by rfl, by intro wx hSw; (try dsimp only at hSw); obtain ⟨hSw1, hSw2, hSw3, hSw4, hSw5, hSw6⟩ := hSw; go_simp; try with_reducible rfl⟩) (by assumption) ?_
                    (try simp only [Act.put, List.setIfInBounds_toArray, List.set_cons_zero, List.set_cons_succ])
                    refine comes_up 5 rfl (by kernel_rfl) (fun K hK => ?_)
                    go_simp
                    refine hcall.mono ?_
                    rintro e w6 ⟨rfl, HH⟩
                    have hB : w6.heap[w.heap.size]? = wc.heap[w.heap.size]? := HH.out.2.2 _ HS1.out
                    have d0 := (cell_block hB).trans b0
                    have d1 := (cell_block hB).trans b1
                    have d2 := (cell_block hB).trans b2'
                    have d3 := (cell_block hB).trans b3
                    have d4 := (cell_block hB).trans b4
                    have f1 := HH.out.1.c1
                    have hbel := HH.out.1.below
                    have hackd : ∀ k, Calls Try.prog 24 #[.pointer (some ⟨kb, 0, none⟩)] (w6.drewN k) fun e w' => e = .returned (.int .u64 (ak : Nat)) ∧ w' = w6.drewN k := fun k => by
                      have := ws_ackedB (HH.out.1.still ((Turned.refl _ w6).drewN k))
                      rw [show max (Pb (xs.take i)).aB ak = ak from Nat.zero_max ak] at this
                      exact calls_same this
                    have HBL : Hid (∀ k, Below w.heap.size w (w6.drewN k)) := fun k => (HH.out.1.still ((Turned.refl _ w6).drewN k)).below
                    clear HH hB b0 b1 b2' b3 b4 e1 hcall
                    go_wp2_with fail
                    refine hK.out _ _ ⟨f1, d0, d1, d2, d3, d4⟩ (fun hHeld => ?_)
                    clear hK K
                    (try simp only [Act.put, List.setIfInBounds_toArray, List.set_cons_zero, List.set_cons_succ])
                    refine take_first 6 (v := ?_) rfl (by kernel_rfl) (by kernel_rfl) (by kernel_rfl) (fun _ _ _ h => h) (Or.inl ⟨by rfl, by intro wx hSw; (try dsimp only at hSw); obtain ⟨hSw1, hSw2, hSw3, hSw4, hSw5, hSw6⟩ := hSw; go_simp; try with_reducible rfl⟩) (by assumption) ?_
                    (try simp only [Act.put, List.setIfInBounds_toArray, List.set_cons_zero, List.set_cons_succ])
                    refine take_first 7 (v := ?_) rfl (by kernel_rfl) (by kernel_rfl) (by kernel_rfl) (fun _ _ _ h => h) (Or.inl ⟨by rfl, by intro wx hSw; (try dsimp only at hSw); obtain ⟨hSw1, hSw2, hSw3, hSw4, hSw5, hSw6⟩ := hSw; go_simp; try with_reducible rfl⟩) (by assumption) ?_
                    (try simp only [Act.put, List.setIfInBounds_toArray, List.set_cons_zero, List.set_cons_succ])
                    refine take_first 8 (v := ?_) rfl (by kernel_rfl) (by kernel_rfl) (by kernel_rfl) (fun _ _ _ h => h) (Or.inl ⟨by rfl, by intro wx hSw; (try dsimp only at hSw); obtain ⟨hSw1, hSw2, hSw3, hSw4, hSw5, hSw6⟩ := hSw; go_simp; try with_reducible rfl⟩) (by assumption) ?_
                    (try simp only [Act.put, List.setIfInBounds_toArray, List.set_cons_zero, List.set_cons_succ])
                    refine take_first 9 (v := ?_) rfl (by kernel_rfl) (by kernel_rfl) (by kernel_rfl) (fun _ _ _ h => h) (Or.inl ⟨by rfl, by intro wx hSw; (try dsimp only at hSw); obtain ⟨hSw1, hSw2, hSw3, hSw4, hSw5, hSw6⟩ := hSw; go_simp; try with_reducible rfl⟩) (by assumption) ?_
                    (try simp only [Act.put, List.setIfInBounds_toArray, List.set_cons_zero, List.set_cons_succ])
                    refine take_first 10 (v := ?_) rfl (by kernel_rfl) (by kernel_rfl) (by kernel_rfl) (fun _ _ _ h => h) (Or.inl ⟨by rfl, by intro wx hSw; (try dsimp only at hSw); obtain ⟨hSw1, hSw2, hSw3, hSw4, hSw5, hSw6⟩ := hSw; go_simp; try with_reducible rfl⟩) (by assumption) ?_
                    (try simp only [Act.put, List.setIfInBounds_toArray, List.set_cons_zero, List.set_cons_succ])
                    refine wpAnyH_done (by kernel_rfl) ?_ _
                    refine NoPanic.normal ?_
                    clear hbel
                    go_wp2_with fail
                    go_quiet (first | (go_at_call 24; refine Calls.quiet_of_same (hackd _)))
                    go_wp2
                    go_ret
                    exact ⟨rfl, HBL.out _⟩
                  · obtain rfl : bs = 0 := by omega
                    by_cases h12 : 12 < pn
                    · have h12I : (12 : Int) < pn := by omega
                      as_aux_lemma =>
                      have hcall := ws_insB h6 0 (Nat.zero_le _) (by show (0 : Nat) ≤ 1000; omega) ao pn pc zs tx5 (fun h0 b hb' => by have := hold h0 b hb'; show b < w1.heap.size; omega) ak (by show ak ≤ 0 + min 4 (xs.take i).length; rw [HXN.out]; omega) (by omega) 12 (by show 12 = min (pn - (0 - 0)) (12 - 0); omega)
                      clear HXN
                      clear h6 tx5 hold
                      go_wp2_with fail
                      refine wp_region_noPanic ?_
                      refine wp_region_held_drew (S := fun wx => wx.cell? ⟨q, 1, none⟩ = some (.pointer (some ⟨kb, 0, none⟩)) ∧ wx.cell? ⟨w.heap.size, 0, none⟩ = some (.int .u64 ((4 : Nat) : Int)) ∧ wx.cell? ⟨w.heap.size, 1, none⟩ = some (.int .i64 2) ∧ wx.cell? ⟨w.heap.size, 2, none⟩ = some (.int .u64 ((0 : Nat) : Int)) ∧ wx.cell? ⟨w.heap.size, 3, none⟩ = some (.slice ao pn pc) ∧ wx.cell? ⟨w.heap.size, 4, none⟩ = some (.int .u64 (ak : Nat))) (by kernel_rfl) (show _ ∧ _ ∧ _ ∧ _ ∧ _ ∧ _ from ⟨e1, b0, b1, b2', b3, b4⟩) (fun hHeld => ?_)
                      refine take_first 0 (v := ?_) rfl (by kernel_rfl) (by kernel_rfl) (by kernel_rfl) (fun _ _ _ h => h) (Or.inl ⟨by rfl, by intro wx hSw; (try dsimp only at hSw); obtain ⟨hSw1, hSw2, hSw3, hSw4, hSw5, hSw6⟩ := hSw; go_simp; try with_reducible rfl⟩) (by assumption) ?_
                      (try simp only [Act.put, List.setIfInBounds_toArray, List.set_cons_zero, List.set_cons_succ])
                      refine take_first 1 (v := ?_) rfl (by kernel_rfl) (by kernel_rfl) (by kernel_rfl) (fun _ _ _ h => h) (Or.inl ⟨by rfl, by intro wx hSw; (try dsimp only at hSw); obtain ⟨hSw1, hSw2, hSw3, hSw4, hSw5, hSw6⟩ := hSw; go_simp; try with_reducible rfl⟩) (by assumption) ?_
                      (try simp only [Act.put, List.setIfInBounds_toArray, List.set_cons_zero, List.set_cons_succ])
                      refine take_first 2 (v := ?_) rfl (by kernel_rfl) (by kernel_rfl) (by kernel_rfl) (fun _ _ _ h => h) (Or.inl ⟨by rfl, by intro wx hSw; (try dsimp only at hSw); obtain ⟨hSw1, hSw2, hSw3, hSw4, hSw5, hSw6⟩ := hSw; go_simp; try with_reducible rfl⟩) (by assumption) ?_
                      (try simp only [Act.put, List.setIfInBounds_toArray, List.set_cons_zero, List.set_cons_succ])
                      refine take_first 3 (v := ?_) rfl (by kernel_rfl) (by kernel_rfl) (by kernel_rfl) (fun _ _ _ h => h) (Or.inl ⟨by rfl, by intro wx hSw; (try dsimp only at hSw); obtain ⟨hSw1, hSw2, hSw3, hSw4, hSw5, hSw6⟩ := hSw; go_simp; try with_reducible rfl⟩) (by assumption) ?_
                      (try simp only [Act.put, List.setIfInBounds_toArray, List.set_cons_zero, List.set_cons_succ])
                      refine take_first 4 (v := ?_) rfl (by kernel_rfl) (by kernel_rfl) (by kernel_rfl) (fun _ _ _ h => h) (Or.inl ⟨by rfl, by intro wx hSw; (try dsimp only at hSw); obtain ⟨hSw1, hSw2, hSw3, hSw4, hSw5, hSw6⟩ := hSw; go_simp; try with_reducible rfl⟩) (by assumption) ?_
                      (try simp only [Act.put, List.setIfInBounds_toArray, List.set_cons_zero, List.set_cons_succ])
                      refine comes_up 5 rfl (by kernel_rfl) (fun K hK => ?_)
                      go_simp
                      refine hcall.mono ?_
                      rintro e w6 ⟨rfl, HH⟩
                      have hB : w6.heap[w.heap.size]? = wc.heap[w.heap.size]? := HH.out.2.2 _ HS1.out
                      have d0 := (cell_block hB).trans b0
                      have d1 := (cell_block hB).trans b1
                      have d2 := (cell_block hB).trans b2'
                      have d3 := (cell_block hB).trans b3
                      have d4 := (cell_block hB).trans b4
                      have f1 := HH.out.1.c1
                      have hbel := HH.out.1.below
                      have hackd : ∀ k, Calls Try.prog 24 #[.pointer (some ⟨kb, 0, none⟩)] (w6.drewN k) fun e w' => e = .returned (.int .u64 (ak : Nat)) ∧ w' = w6.drewN k := fun k => by
                        have := ws_ackedB (HH.out.1.still ((Turned.refl _ w6).drewN k))
                        rw [show max (Pb (xs.take i)).aB ak = ak from Nat.zero_max ak] at this
                        exact calls_same this
                      have hgot : ∀ k, Calls Try.prog 22 #[.pointer (some ⟨kb, 0, none⟩)] (w6.drewN k) fun e w' => e = .returned (.int .u64 (12 : Nat)) ∧ w' = w6.drewN k := fun k => by
                        have := ws_gotB (HH.out.1.still ((Turned.refl _ w6).drewN k))
                        rw [show (Pb (xs.take i)).nB + 12 = 12 from Nat.zero_add 12] at this
                        exact calls_same this
                      have HBL : Hid (∀ k, Below w.heap.size w (w6.drewN k)) := fun k => (HH.out.1.still ((Turned.refl _ w6).drewN k)).below
                      clear HH hB b0 b1 b2' b3 b4 e1 hcall
                      go_wp2_with fail
                      refine hK.out _ _ ⟨f1, d0, d1, d2, d3, d4⟩ (fun hHeld => ?_)
                      clear hK K
                      (try simp only [Act.put, List.setIfInBounds_toArray, List.set_cons_zero, List.set_cons_succ])
                      refine take_first 6 (v := ?_) rfl (by kernel_rfl) (by kernel_rfl) (by kernel_rfl) (fun _ _ _ h => h) (Or.inl ⟨by rfl, by intro wx hSw; (try dsimp only at hSw); obtain ⟨hSw1, hSw2, hSw3, hSw4, hSw5, hSw6⟩ := hSw; go_simp; try with_reducible rfl⟩) (by assumption) ?_
                      (try simp only [Act.put, List.setIfInBounds_toArray, List.set_cons_zero, List.set_cons_succ])
                      refine take_first 7 (v := ?_) rfl (by kernel_rfl) (by kernel_rfl) (by kernel_rfl) (fun _ _ _ h => h) (Or.inl ⟨by rfl, by intro wx hSw; (try dsimp only at hSw); obtain ⟨hSw1, hSw2, hSw3, hSw4, hSw5, hSw6⟩ := hSw; go_simp; try with_reducible rfl⟩) (by assumption) ?_
                      (try simp only [Act.put, List.setIfInBounds_toArray, List.set_cons_zero, List.set_cons_succ])
                      refine take_first 8 (v := ?_) rfl (by kernel_rfl) (by kernel_rfl) (by kernel_rfl) (fun _ _ _ h => h) (Or.inl ⟨by rfl, by intro wx hSw; (try dsimp only at hSw); obtain ⟨hSw1, hSw2, hSw3, hSw4, hSw5, hSw6⟩ := hSw; go_simp; try with_reducible rfl⟩) (by assumption) ?_
                      (try simp only [Act.put, List.setIfInBounds_toArray, List.set_cons_zero, List.set_cons_succ])
                      refine take_first 9 (v := ?_) rfl (by kernel_rfl) (by kernel_rfl) (by kernel_rfl) (fun _ _ _ h => h) (Or.inl ⟨by rfl, by intro wx hSw; (try dsimp only at hSw); obtain ⟨hSw1, hSw2, hSw3, hSw4, hSw5, hSw6⟩ := hSw; go_simp; try with_reducible rfl⟩) (by assumption) ?_
                      (try simp only [Act.put, List.setIfInBounds_toArray, List.set_cons_zero, List.set_cons_succ])
                      refine take_first 10 (v := ?_) rfl (by kernel_rfl) (by kernel_rfl) (by kernel_rfl) (fun _ _ _ h => h) (Or.inl ⟨by rfl, by intro wx hSw; (try dsimp only at hSw); obtain ⟨hSw1, hSw2, hSw3, hSw4, hSw5, hSw6⟩ := hSw; go_simp; try with_reducible rfl⟩) (by assumption) ?_
                      (try simp only [Act.put, List.setIfInBounds_toArray, List.set_cons_zero, List.set_cons_succ])
                      refine wpAnyH_done (by kernel_rfl) ?_ _
                      refine NoPanic.normal ?_
                      clear hbel
                      go_wp2_with fail
                      go_quiet (first | (go_at_call 24; refine Calls.quiet_of_same (hackd _)) | (go_at_call 22; refine Calls.quiet_of_same (hgot _)))
                      go_wp2
                      go_ret
                      exact ⟨rfl, HBL.out _⟩
                    · have h12I : ¬ (12 : Int) < pn := by omega
                      have hwp : IntKind.u64.wrap (pn : Int) = (pn : Int) := by rw [IntKind.wrap_u64]; omega
                      as_aux_lemma =>
                      have hcall := ws_insB h6 0 (Nat.zero_le _) (by show (0 : Nat) ≤ 1000; omega) ao pn pc zs tx5 (fun h0 b hb' => by have := hold h0 b hb'; show b < w1.heap.size; omega) ak (by show ak ≤ 0 + min 4 (xs.take i).length; rw [HXN.out]; omega) (by omega) pn (by show pn = min (pn - (0 - 0)) (12 - 0); omega)
                      clear HXN
                      clear h6 tx5 hold
                      go_wp2_with fail
                      refine wp_region_noPanic ?_
                      refine wp_region_held_drew (S := fun wx => wx.cell? ⟨q, 1, none⟩ = some (.pointer (some ⟨kb, 0, none⟩)) ∧ wx.cell? ⟨w.heap.size, 0, none⟩ = some (.int .u64 ((4 : Nat) : Int)) ∧ wx.cell? ⟨w.heap.size, 1, none⟩ = some (.int .i64 2) ∧ wx.cell? ⟨w.heap.size, 2, none⟩ = some (.int .u64 ((0 : Nat) : Int)) ∧ wx.cell? ⟨w.heap.size, 3, none⟩ = some (.slice ao pn pc) ∧ wx.cell? ⟨w.heap.size, 4, none⟩ = some (.int .u64 (ak : Nat))) (by kernel_rfl) (show _ ∧ _ ∧ _ ∧ _ ∧ _ ∧ _ from ⟨e1, b0, b1, b2', b3, b4⟩) (fun hHeld => ?_)
                      refine take_first 0 (v := ?_) rfl (by kernel_rfl) (by kernel_rfl) (by kernel_rfl) (fun _ _ _ h => h) (Or.inl ⟨by rfl, by intro wx hSw; (try dsimp only at hSw); obtain ⟨hSw1, hSw2, hSw3, hSw4, hSw5, hSw6⟩ := hSw; go_simp; try with_reducible rfl⟩) (by assumption) ?_
                      (try simp only [Act.put, List.setIfInBounds_toArray, List.set_cons_zero, List.set_cons_succ])
                      refine take_first 1 (v := ?_) rfl (by kernel_rfl) (by kernel_rfl) (by kernel_rfl) (fun _ _ _ h => h) (Or.inl ⟨by rfl, by intro wx hSw; (try dsimp only at hSw); obtain ⟨hSw1, hSw2, hSw3, hSw4, hSw5, hSw6⟩ := hSw; go_simp; try with_reducible rfl⟩) (by assumption) ?_
                      (try simp only [Act.put, List.setIfInBounds_toArray, List.set_cons_zero, List.set_cons_succ])
                      refine take_first 2 (v := ?_) rfl (by kernel_rfl) (by kernel_rfl) (by kernel_rfl) (fun _ _ _ h => h) (Or.inl ⟨by rfl, by intro wx hSw; (try dsimp only at hSw); obtain ⟨hSw1, hSw2, hSw3, hSw4, hSw5, hSw6⟩ := hSw; go_simp; try with_reducible rfl⟩) (by assumption) ?_
                      (try simp only [Act.put, List.setIfInBounds_toArray, List.set_cons_zero, List.set_cons_succ])
                      refine take_first 3 (v := ?_) rfl (by kernel_rfl) (by kernel_rfl) (by kernel_rfl) (fun _ _ _ h => h) (Or.inl ⟨by rfl, by intro wx hSw; (try dsimp only at hSw); obtain ⟨hSw1, hSw2, hSw3, hSw4, hSw5, hSw6⟩ := hSw; go_simp; try with_reducible rfl⟩) (by assumption) ?_
                      (try simp only [Act.put, List.setIfInBounds_toArray, List.set_cons_zero, List.set_cons_succ])
                      refine take_first 4 (v := ?_) rfl (by kernel_rfl) (by kernel_rfl) (by kernel_rfl) (fun _ _ _ h => h) (Or.inl ⟨by rfl, by intro wx hSw; (try dsimp only at hSw); obtain ⟨hSw1, hSw2, hSw3, hSw4, hSw5, hSw6⟩ := hSw; go_simp; try with_reducible rfl⟩) (by assumption) ?_
                      (try simp only [Act.put, List.setIfInBounds_toArray, List.set_cons_zero, List.set_cons_succ])
                      refine comes_up 5 rfl (by kernel_rfl) (fun K hK => ?_)
                      go_simp
                      refine hcall.mono ?_
                      rintro e w6 ⟨rfl, HH⟩
                      have hB : w6.heap[w.heap.size]? = wc.heap[w.heap.size]? := HH.out.2.2 _ HS1.out
                      have d0 := (cell_block hB).trans b0
                      have d1 := (cell_block hB).trans b1
                      have d2 := (cell_block hB).trans b2'
                      have d3 := (cell_block hB).trans b3
                      have d4 := (cell_block hB).trans b4
                      have f1 := HH.out.1.c1
                      have hbel := HH.out.1.below
                      have hackd : ∀ k, Calls Try.prog 24 #[.pointer (some ⟨kb, 0, none⟩)] (w6.drewN k) fun e w' => e = .returned (.int .u64 (ak : Nat)) ∧ w' = w6.drewN k := fun k => by
                        have := ws_ackedB (HH.out.1.still ((Turned.refl _ w6).drewN k))
                        rw [show max (Pb (xs.take i)).aB ak = ak from Nat.zero_max ak] at this
                        exact calls_same this
                      have hgot : ∀ k, Calls Try.prog 22 #[.pointer (some ⟨kb, 0, none⟩)] (w6.drewN k) fun e w' => e = .returned (.int .u64 (pn : Nat)) ∧ w' = w6.drewN k := fun k => by
                        have := ws_gotB (HH.out.1.still ((Turned.refl _ w6).drewN k))
                        rw [show (Pb (xs.take i)).nB + pn = pn from Nat.zero_add pn] at this
                        exact calls_same this
                      have HBL : Hid (∀ k, Below w.heap.size w (w6.drewN k)) := fun k => (HH.out.1.still ((Turned.refl _ w6).drewN k)).below
                      clear HH hB b0 b1 b2' b3 b4 e1 hcall
                      go_wp2_with fail
                      refine hK.out _ _ ⟨f1, d0, d1, d2, d3, d4⟩ (fun hHeld => ?_)
                      clear hK K
                      (try simp only [Act.put, List.setIfInBounds_toArray, List.set_cons_zero, List.set_cons_succ])
                      refine take_first 6 (v := ?_) rfl (by kernel_rfl) (by kernel_rfl) (by kernel_rfl) (fun _ _ _ h => h) (Or.inl ⟨by rfl, by intro wx hSw; (try dsimp only at hSw); obtain ⟨hSw1, hSw2, hSw3, hSw4, hSw5, hSw6⟩ := hSw; go_simp; try with_reducible rfl⟩) (by assumption) ?_
                      (try simp only [Act.put, List.setIfInBounds_toArray, List.set_cons_zero, List.set_cons_succ])
                      refine take_first 7 (v := ?_) rfl (by kernel_rfl) (by kernel_rfl) (by kernel_rfl) (fun _ _ _ h => h) (Or.inl ⟨by rfl, by intro wx hSw; (try dsimp only at hSw); obtain ⟨hSw1, hSw2, hSw3, hSw4, hSw5, hSw6⟩ := hSw; go_simp; try with_reducible rfl⟩) (by assumption) ?_
                      (try simp only [Act.put, List.setIfInBounds_toArray, List.set_cons_zero, List.set_cons_succ])
                      refine take_first 8 (v := ?_) rfl (by kernel_rfl) (by kernel_rfl) (by kernel_rfl) (fun _ _ _ h => h) (Or.inl ⟨by rfl, by intro wx hSw; (try dsimp only at hSw); obtain ⟨hSw1, hSw2, hSw3, hSw4, hSw5, hSw6⟩ := hSw; go_simp; try with_reducible rfl⟩) (by assumption) ?_
                      (try simp only [Act.put, List.setIfInBounds_toArray, List.set_cons_zero, List.set_cons_succ])
                      refine take_first 9 (v := ?_) rfl (by kernel_rfl) (by kernel_rfl) (by kernel_rfl) (fun _ _ _ h => h) (Or.inl ⟨by rfl, by intro wx hSw; (try dsimp only at hSw); obtain ⟨hSw1, hSw2, hSw3, hSw4, hSw5, hSw6⟩ := hSw; go_simp; try with_reducible rfl⟩) (by assumption) ?_
                      (try simp only [Act.put, List.setIfInBounds_toArray, List.set_cons_zero, List.set_cons_succ])
                      refine take_first 10 (v := ?_) rfl (by kernel_rfl) (by kernel_rfl) (by kernel_rfl) (fun _ _ _ h => h) (Or.inl ⟨by rfl, by intro wx hSw; (try dsimp only at hSw); obtain ⟨hSw1, hSw2, hSw3, hSw4, hSw5, hSw6⟩ := hSw; go_simp; try with_reducible rfl⟩) (by assumption) ?_
                      (try simp only [Act.put, List.setIfInBounds_toArray, List.set_cons_zero, List.set_cons_succ])
                      refine wpAnyH_done (by kernel_rfl) ?_ _
                      refine NoPanic.normal ?_
                      clear hbel
                      go_wp2_with fail
                      go_quiet (first | (go_at_call 24; refine Calls.quiet_of_same (hackd _)) | (go_at_call 22; refine Calls.quiet_of_same (hgot _)))
                      go_wp2
                      go_ret
                      exact ⟨rfl, HBL.out _⟩
              · have hepc : (((un : Int) == 4) = false) ∨ (un = 4 ∧ (up == 2) = false) := by
                  by_cases h4 : un = 4
                  · exact .inr ⟨h4, by simpa [h4] using hep⟩
                  · exact .inl (by simp; omega)
                rcases hepc with hun | ⟨rfl, hup⟩
                · as_aux_lemma =>
                  have hcall := ws_staleB h6 un up hep bs ao pn pc ak
                  clear HXN
                  clear h6 tx5 hep
                  go_wp2_with fail
                  refine wp_region_noPanic ?_
                  refine wp_region_held_drew (S := fun wx => wx.cell? ⟨q, 1, none⟩ = some (.pointer (some ⟨kb, 0, none⟩)) ∧ wx.cell? ⟨w.heap.size, 0, none⟩ = some (.int .u64 (un : Nat)) ∧ wx.cell? ⟨w.heap.size, 1, none⟩ = some (.int .i64 up) ∧ wx.cell? ⟨w.heap.size, 2, none⟩ = some (.int .u64 (bs : Nat)) ∧ wx.cell? ⟨w.heap.size, 3, none⟩ = some (.slice ao pn pc) ∧ wx.cell? ⟨w.heap.size, 4, none⟩ = some (.int .u64 (ak : Nat))) (by kernel_rfl) (show _ ∧ _ ∧ _ ∧ _ ∧ _ ∧ _ from ⟨e1, b0, b1, b2', b3, b4⟩) (fun hHeld => ?_)
                  refine take_first 0 (v := ?_) rfl (by kernel_rfl) (by kernel_rfl) (by kernel_rfl) (fun _ _ _ h => h) (Or.inl ⟨by rfl, by intro wx hSw; (try dsimp only at hSw); obtain ⟨hSw1, hSw2, hSw3, hSw4, hSw5, hSw6⟩ := hSw; go_simp; try with_reducible rfl⟩) (by assumption) ?_
                  (try simp only [Act.put, List.setIfInBounds_toArray, List.set_cons_zero, List.set_cons_succ])
                  refine take_first 1 (v := ?_) rfl (by kernel_rfl) (by kernel_rfl) (by kernel_rfl) (fun _ _ _ h => h) (Or.inl ⟨by rfl, by intro wx hSw; (try dsimp only at hSw); obtain ⟨hSw1, hSw2, hSw3, hSw4, hSw5, hSw6⟩ := hSw; go_simp; try with_reducible rfl⟩) (by assumption) ?_
                  (try simp only [Act.put, List.setIfInBounds_toArray, List.set_cons_zero, List.set_cons_succ])
                  refine take_first 2 (v := ?_) rfl (by kernel_rfl) (by kernel_rfl) (by kernel_rfl) (fun _ _ _ h => h) (Or.inl ⟨by rfl, by intro wx hSw; (try dsimp only at hSw); obtain ⟨hSw1, hSw2, hSw3, hSw4, hSw5, hSw6⟩ := hSw; go_simp; try with_reducible rfl⟩) (by assumption) ?_
                  (try simp only [Act.put, List.setIfInBounds_toArray, List.set_cons_zero, List.set_cons_succ])
                  refine take_first 3 (v := ?_) rfl (by kernel_rfl) (by kernel_rfl) (by kernel_rfl) (fun _ _ _ h => h) (Or.inl ⟨by rfl, by intro wx hSw; (try dsimp only at hSw); obtain ⟨hSw1, hSw2, hSw3, hSw4, hSw5, hSw6⟩ := hSw; go_simp; try with_reducible rfl⟩) (by assumption) ?_
                  (try simp only [Act.put, List.setIfInBounds_toArray, List.set_cons_zero, List.set_cons_succ])
                  refine take_first 4 (v := ?_) rfl (by kernel_rfl) (by kernel_rfl) (by kernel_rfl) (fun _ _ _ h => h) (Or.inl ⟨by rfl, by intro wx hSw; (try dsimp only at hSw); obtain ⟨hSw1, hSw2, hSw3, hSw4, hSw5, hSw6⟩ := hSw; go_simp; try with_reducible rfl⟩) (by assumption) ?_
                  (try simp only [Act.put, List.setIfInBounds_toArray, List.set_cons_zero, List.set_cons_succ])
                  refine comes_up 5 rfl (by kernel_rfl) (fun K hK => ?_)
                  go_simp
                  refine hcall.mono ?_
                  rintro e w6 ⟨rfl, HH⟩
                  have hB : w6.heap[w.heap.size]? = wc.heap[w.heap.size]? := HH.out.2.block _ (World.block_lt_of_cell? wc _ b0) (fun f => f)
                  have d0 := (cell_block hB).trans b0
                  have d1 := (cell_block hB).trans b1
                  have d2 := (cell_block hB).trans b2'
                  have d3 := (cell_block hB).trans b3
                  have d4 := (cell_block hB).trans b4
                  have f1 := HH.out.1.c1
                  have hbel := HH.out.1.below
                  have hgot : Calls Try.prog 22 #[.pointer (some ⟨kb, 0, none⟩)] w6 fun e w' => e = .returned (.int .u64 0) ∧ w6 = w' := ws_gotB HH.out.1
                  have hackd : Calls Try.prog 24 #[.pointer (some ⟨kb, 0, none⟩)] w6 fun e w' => e = .returned (.int .u64 0) ∧ w6 = w' := ws_ackedB HH.out.1
                  clear HH hB b0 b1 b2' b3 b4 e1 hcall
                  go_wp2_with fail
                  refine hK.out _ _ ⟨f1, d0, d1, d2, d3, d4⟩ (fun hHeld => ?_)
                  clear hK K
                  (try simp only [Act.put, List.setIfInBounds_toArray, List.set_cons_zero, List.set_cons_succ])
                  refine take_first 6 (v := ?_) rfl (by kernel_rfl) (by kernel_rfl) (by kernel_rfl) (fun _ _ _ h => h) (Or.inl ⟨by rfl, by intro wx hSw; (try dsimp only at hSw); obtain ⟨hSw1, hSw2, hSw3, hSw4, hSw5, hSw6⟩ := hSw; go_simp; try with_reducible rfl⟩) (by assumption) ?_
                  (try simp only [Act.put, List.setIfInBounds_toArray, List.set_cons_zero, List.set_cons_succ])
                  refine take_first 7 (v := ?_) rfl (by kernel_rfl) (by kernel_rfl) (by kernel_rfl) (fun _ _ _ h => h) (Or.inl ⟨by rfl, by intro wx hSw; (try dsimp only at hSw); obtain ⟨hSw1, hSw2, hSw3, hSw4, hSw5, hSw6⟩ := hSw; go_simp; try with_reducible rfl⟩) (by assumption) ?_
                  (try simp only [Act.put, List.setIfInBounds_toArray, List.set_cons_zero, List.set_cons_succ])
                  refine take_first 8 (v := ?_) rfl (by kernel_rfl) (by kernel_rfl) (by kernel_rfl) (fun _ _ _ h => h) (Or.inl ⟨by rfl, by intro wx hSw; (try dsimp only at hSw); obtain ⟨hSw1, hSw2, hSw3, hSw4, hSw5, hSw6⟩ := hSw; go_simp; try with_reducible rfl⟩) (by assumption) ?_
                  (try simp only [Act.put, List.setIfInBounds_toArray, List.set_cons_zero, List.set_cons_succ])
                  refine take_first 9 (v := ?_) rfl (by kernel_rfl) (by kernel_rfl) (by kernel_rfl) (fun _ _ _ h => h) (Or.inl ⟨by rfl, by intro wx hSw; (try dsimp only at hSw); obtain ⟨hSw1, hSw2, hSw3, hSw4, hSw5, hSw6⟩ := hSw; go_simp; try with_reducible rfl⟩) (by assumption) ?_
                  (try simp only [Act.put, List.setIfInBounds_toArray, List.set_cons_zero, List.set_cons_succ])
                  refine take_first 10 (v := ?_) rfl (by kernel_rfl) (by kernel_rfl) (by kernel_rfl) (fun _ _ _ h => h) (Or.inl ⟨by rfl, by intro wx hSw; (try dsimp only at hSw); obtain ⟨hSw1, hSw2, hSw3, hSw4, hSw5, hSw6⟩ := hSw; go_simp; try with_reducible rfl⟩) (by assumption) ?_
                  (try simp only [Act.put, List.setIfInBounds_toArray, List.set_cons_zero, List.set_cons_succ])
                  refine wpAnyH_done (by kernel_rfl) ?_ _
                  refine NoPanic.normal ?_
                  go_wp2_with fail
                  refine hgot.mono ?_
                  rintro e w7 ⟨rfl, rfl⟩
                  go_wp2_with fail
                  refine hackd.mono ?_
                  rintro e w7 ⟨rfl, rfl⟩
                  go_wp2
                  go_ret
                  exact ⟨rfl, hbel⟩
                · as_aux_lemma =>
                  have hcall := ws_staleB h6 4 up hep bs ao pn pc ak
                  clear HXN
                  clear h6 tx5 hep
                  go_wp2_with fail
                  refine wp_region_noPanic ?_
                  refine wp_region_held_drew (S := fun wx => wx.cell? ⟨q, 1, none⟩ = some (.pointer (some ⟨kb, 0, none⟩)) ∧ wx.cell? ⟨w.heap.size, 0, none⟩ = some (.int .u64 ((4 : Nat) : Int)) ∧ wx.cell? ⟨w.heap.size, 1, none⟩ = some (.int .i64 up) ∧ wx.cell? ⟨w.heap.size, 2, none⟩ = some (.int .u64 (bs : Nat)) ∧ wx.cell? ⟨w.heap.size, 3, none⟩ = some (.slice ao pn pc) ∧ wx.cell? ⟨w.heap.size, 4, none⟩ = some (.int .u64 (ak : Nat))) (by kernel_rfl) (show _ ∧ _ ∧ _ ∧ _ ∧ _ ∧ _ from ⟨e1, b0, b1, b2', b3, b4⟩) (fun hHeld => ?_)
                  refine take_first 0 (v := ?_) rfl (by kernel_rfl) (by kernel_rfl) (by kernel_rfl) (fun _ _ _ h => h) (Or.inl ⟨by rfl, by intro wx hSw; (try dsimp only at hSw); obtain ⟨hSw1, hSw2, hSw3, hSw4, hSw5, hSw6⟩ := hSw; go_simp; try with_reducible rfl⟩) (by assumption) ?_
                  (try simp only [Act.put, List.setIfInBounds_toArray, List.set_cons_zero, List.set_cons_succ])
                  refine take_first 1 (v := ?_) rfl (by kernel_rfl) (by kernel_rfl) (by kernel_rfl) (fun _ _ _ h => h) (Or.inl ⟨by rfl, by intro wx hSw; (try dsimp only at hSw); obtain ⟨hSw1, hSw2, hSw3, hSw4, hSw5, hSw6⟩ := hSw; go_simp; try with_reducible rfl⟩) (by assumption) ?_
                  (try simp only [Act.put, List.setIfInBounds_toArray, List.set_cons_zero, List.set_cons_succ])
                  refine take_first 2 (v := ?_) rfl (by kernel_rfl) (by kernel_rfl) (by kernel_rfl) (fun _ _ _ h => h) (Or.inl ⟨by rfl, by intro wx hSw; (try dsimp only at hSw); obtain ⟨hSw1, hSw2, hSw3, hSw4, hSw5, hSw6⟩ := hSw; go_simp; try with_reducible rfl⟩) (by assumption) ?_
                  (try simp only [Act.put, List.setIfInBounds_toArray, List.set_cons_zero, List.set_cons_succ])
                  refine take_first 3 (v := ?_) rfl (by kernel_rfl) (by kernel_rfl) (by kernel_rfl) (fun _ _ _ h => h) (Or.inl ⟨by rfl, by intro wx hSw; (try dsimp only at hSw); obtain ⟨hSw1, hSw2, hSw3, hSw4, hSw5, hSw6⟩ := hSw; go_simp; try with_reducible rfl⟩) (by assumption) ?_
                  (try simp only [Act.put, List.setIfInBounds_toArray, List.set_cons_zero, List.set_cons_succ])
                  refine take_first 4 (v := ?_) rfl (by kernel_rfl) (by kernel_rfl) (by kernel_rfl) (fun _ _ _ h => h) (Or.inl ⟨by rfl, by intro wx hSw; (try dsimp only at hSw); obtain ⟨hSw1, hSw2, hSw3, hSw4, hSw5, hSw6⟩ := hSw; go_simp; try with_reducible rfl⟩) (by assumption) ?_
                  (try simp only [Act.put, List.setIfInBounds_toArray, List.set_cons_zero, List.set_cons_succ])
                  refine comes_up 5 rfl (by kernel_rfl) (fun K hK => ?_)
                  go_simp
                  refine hcall.mono ?_
                  rintro e w6 ⟨rfl, HH⟩
                  have hB : w6.heap[w.heap.size]? = wc.heap[w.heap.size]? := HH.out.2.block _ (World.block_lt_of_cell? wc _ b0) (fun f => f)
                  have d0 := (cell_block hB).trans b0
                  have d1 := (cell_block hB).trans b1
                  have d2 := (cell_block hB).trans b2'
                  have d3 := (cell_block hB).trans b3
                  have d4 := (cell_block hB).trans b4
                  have f1 := HH.out.1.c1
                  have hbel := HH.out.1.below
                  have hgot : Calls Try.prog 22 #[.pointer (some ⟨kb, 0, none⟩)] w6 fun e w' => e = .returned (.int .u64 0) ∧ w6 = w' := ws_gotB HH.out.1
                  have hackd : Calls Try.prog 24 #[.pointer (some ⟨kb, 0, none⟩)] w6 fun e w' => e = .returned (.int .u64 0) ∧ w6 = w' := ws_ackedB HH.out.1
                  clear HH hB b0 b1 b2' b3 b4 e1 hcall
                  go_wp2_with fail
                  refine hK.out _ _ ⟨f1, d0, d1, d2, d3, d4⟩ (fun hHeld => ?_)
                  clear hK K
                  (try simp only [Act.put, List.setIfInBounds_toArray, List.set_cons_zero, List.set_cons_succ])
                  refine take_first 6 (v := ?_) rfl (by kernel_rfl) (by kernel_rfl) (by kernel_rfl) (fun _ _ _ h => h) (Or.inl ⟨by rfl, by intro wx hSw; (try dsimp only at hSw); obtain ⟨hSw1, hSw2, hSw3, hSw4, hSw5, hSw6⟩ := hSw; go_simp; try with_reducible rfl⟩) (by assumption) ?_
                  (try simp only [Act.put, List.setIfInBounds_toArray, List.set_cons_zero, List.set_cons_succ])
                  refine take_first 7 (v := ?_) rfl (by kernel_rfl) (by kernel_rfl) (by kernel_rfl) (fun _ _ _ h => h) (Or.inl ⟨by rfl, by intro wx hSw; (try dsimp only at hSw); obtain ⟨hSw1, hSw2, hSw3, hSw4, hSw5, hSw6⟩ := hSw; go_simp; try with_reducible rfl⟩) (by assumption) ?_
                  (try simp only [Act.put, List.setIfInBounds_toArray, List.set_cons_zero, List.set_cons_succ])
                  refine take_first 8 (v := ?_) rfl (by kernel_rfl) (by kernel_rfl) (by kernel_rfl) (fun _ _ _ h => h) (Or.inl ⟨by rfl, by intro wx hSw; (try dsimp only at hSw); obtain ⟨hSw1, hSw2, hSw3, hSw4, hSw5, hSw6⟩ := hSw; go_simp; try with_reducible rfl⟩) (by assumption) ?_
                  (try simp only [Act.put, List.setIfInBounds_toArray, List.set_cons_zero, List.set_cons_succ])
                  refine take_first 9 (v := ?_) rfl (by kernel_rfl) (by kernel_rfl) (by kernel_rfl) (fun _ _ _ h => h) (Or.inl ⟨by rfl, by intro wx hSw; (try dsimp only at hSw); obtain ⟨hSw1, hSw2, hSw3, hSw4, hSw5, hSw6⟩ := hSw; go_simp; try with_reducible rfl⟩) (by assumption) ?_
                  (try simp only [Act.put, List.setIfInBounds_toArray, List.set_cons_zero, List.set_cons_succ])
                  refine take_first 10 (v := ?_) rfl (by kernel_rfl) (by kernel_rfl) (by kernel_rfl) (fun _ _ _ h => h) (Or.inl ⟨by rfl, by intro wx hSw; (try dsimp only at hSw); obtain ⟨hSw1, hSw2, hSw3, hSw4, hSw5, hSw6⟩ := hSw; go_simp; try with_reducible rfl⟩) (by assumption) ?_
                  (try simp only [Act.put, List.setIfInBounds_toArray, List.set_cons_zero, List.set_cons_succ])
                  refine wpAnyH_done (by kernel_rfl) ?_ _
                  refine NoPanic.normal ?_
                  go_wp2_with fail
                  refine hgot.mono ?_
                  rintro e w7 ⟨rfl, rfl⟩
                  go_wp2_with fail
                  refine hackd.mono ?_
                  rintro e w7 ⟨rfl, rfl⟩
                  go_wp2
                  go_ret
                  exact ⟨rfl, hbel⟩
            cases b2
            · have hh := H4.out
              go_wp2_with fail
              go_meet
              exact ⟨rfl, vn, vp, HBX.out, hh⟩
            · obtain ⟨k0, k1, k2, k3, k4, kf⟩ := row_cells HBX.out
              have kf0 := kf 0
              have kf1 := kf 1
              have hh := (H4.out.alien rfl rfl w.heap.size 0 (.int .u64 4) HS1.out (Nat.le_refl _)).alien rfl rfl w.heap.size 1 (.int .i64 2) HS1.out (Nat.le_refl _)
              have hrow : ((wc.setCell ⟨w.heap.size, 0, none⟩ (.int .u64 4)).setCell ⟨w.heap.size, 1, none⟩ (.int .i64 2)).heap[w.heap.size]? = some (.cells #[.int .u64 4, .int .i64 2, .int .u64 (bs : Nat), .slice ao pn pc, .int .u64 (ak : Nat)] 45 (0, 0)) := set2_row HBX.out
              have HHH : Hid _ := hh
              have HRW : Hid _ := hrow
              clear hh hrow kf HBX H4
              go_wp2_with fail
              go_meet
              exact ⟨rfl, 4, 2, HRW.out, HHH.out⟩
          by_cases h4 : 4 < len
          · have h4I : (4 : Int) < len := by omega
            have hS : S = 4 := by have := HS4.out; omega
            go_wp2_with fail
            go_meet
            exact ⟨by rw [hS]; rfl, rfl⟩
          · have h4I : ¬ (4 : Int) < len := by omega
            have hS : S = len := by have := HS4.out; omega
            first
              | exact absurd h4I (by omega)
              | (go_wp2_with fail
                 go_meet
                 exact ⟨by rw [hS], rfl⟩)

set_option maxRecDepth 100000 in
theorem lifted (os : Os) (started : os.Started) (H : Type) (enc : TypeId × Value → H) :
    ReturnsInHanded {} Try.checked os 6 .any (Rows.linkInsSpec.pre6 enc Try.prog Try.f6 Rows.linkInsRow.domain false) (Rows.linkInsSpec.post enc Try.prog Try.f6 false true false false) := by
  refine returnsInHanded_of_change (C := Try.checked) own started (by kernel_rfl) Try.func6
    (ChangeSpec.witness6 (enc := enc) (C := Try.checked) false ⟨#[], #[.agg #[.int .u64 0, .int .i64 0, .int .u64 0, .slice none 0 0, .int .u64 0], .slice none 0 0, .bool false], []⟩ 6 (by kernel_rfl) (by kernel_rfl) (by kernel_rfl) (by kernel_rfl)) ?_
  intro W base args ds gs before hval0 hW hcnd _
  have hval : ∀ (j : Nat) t v, Try.f6.params[j]? = some t → args[j]? = some v → Value.okWide Try.prog W .any base t v := hval0
  have hW' := hW
  obtain ⟨p, q, hA0, hV, rfl, hfz, hnd⟩ := hW
  have hA : DataW.TrodAll enc Try.prog W 0 (fun _ => true) true Try.f6.params.toList args.toList ds p := hA0
  rw [Try.params6] at hA hval
  obtain ⟨v0, vs0, d0, ds0, p0, q0, hargs0, rfl, rfl, h0, r0⟩ := trodAll_cons hA
  obtain ⟨v1, vs1, d1, ds1, p1, q1, hargs1, rfl, rfl, h1, r1⟩ := trodAll_cons r0
  obtain ⟨v2, vs2, d2, ds2, p2, q2, hargs2, rfl, rfl, h2, r2⟩ := trodAll_cons r1
  obtain ⟨rfl, rfl, rfl⟩ := trodAll_nil r2
  obtain rfl : args = #[v0, v1, v2] := by cases args; simp_all
  obtain ⟨rfl, rfl⟩ := trodVars_none hV
  have k0 := h0
  have lt0 : ∀ x ∈ p0, x.block < W.heap.size := by obtain ⟨m, hm⟩ := k0; exact DataW.trod_lt m _ _ _ hm
  obtain ⟨vn0, vp0, bs0, ao0, pn0, pc0, ak0, zs0, rfl, tx0, hb0, ha0⟩ := open_pkt (hval 0 45 v0 rfl rfl) h0
  obtain ⟨a1, len1, cap1, rfl⟩ := okWide_slice Try.underlying33 (hval 1 33 v1 rfl rfl)
  have k1 := h1
  have lt1 : ∀ x ∈ p1, x.block < W.heap.size := by obtain ⟨m, hm⟩ := k1; exact DataW.trod_lt m _ _ _ hm
  obtain ⟨xs1, hx1⟩ := open_numsI h1
  obtain ⟨b2, rfl, rfl, rfl⟩ := open_bool Try.underlying4 (hval 2 4 v2 rfl rfl) h2
  clear hA0 hval0
  refine (walk W vn0 vp0 bs0 hb0 ao0 pn0 pc0 zs0 tx0 ak0 ha0 a1 len1 cap1 xs1 hx1 b2).mono fun e W' ⟨he, bel⟩ => ?_
  subst he
  exact ⟨_, rfl, _, _, _, [], _, [], hW', trodAll_mk1 (shut_bool Try.underlying4 _), (trodAll_cons_mk (Below.trod laidOut (by kernel_rfl) (of_decide_eq_true (by kernel_rfl)) k0 bel lt0) (trodAll_cons_mk (Below.trod laidOut (by kernel_rfl) (of_decide_eq_true (by kernel_rfl)) k1 bel lt1) (trodAll_cons_mk (shut_bool Try.underlying4 _) trodAll_mk0))), rfl, bel.frame _, fun h => by cases h⟩

theorem over : Rows.linkInsRow.holds Try.pinned (OpenSpec.ofChange Rows.linkInsSpec) :=
  OpenClaim.holds_of_wide 6 Try.f6 rfl rfl rfl rfl rfl rfl rfl ⟨rfl, rfl, rfl, rfl, rfl⟩ rfl rfl rfl rfl rfl (by kernel_rfl) Try.func6 (by kernel_rfl)
    (of_decide_eq_true (by kernel_rfl)) (by unfold Func.isWrapper; first | (rw [if_pos (by decide +kernel)]; kernel_rfl) | (rw [if_neg (by decide +kernel)]; exact ⟨rfl, rfl⟩))
    (fun os started H enc _ => lifted os started H enc)

end Go.Proofs.Ythobbnmdpkginaa.linkIns
namespace Go.Proofs.Ythobbnmdpkginaa
theorem linkIns_holds : Rows.LinkInsSaid := linkIns.over
#print axioms linkIns_holds
end Go.Proofs.Ythobbnmdpkginaa
