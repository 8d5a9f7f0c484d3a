/-
  Proved: for all lists l of bytes and all numbers picks, NetOrder(l, picks) returns true: packets that are taken from the first place on come in the order in which they were sent; from any places, each once. No condition.
-/
import Derived.Test.YtagabmhgcmnldaaNOrd
namespace Go.Proofs.Ytagabmhgcmnldaa.netOrder
open Go.ChangeShapes Go.WideShapes Go.ChangeAt Go.RowKit
open Go.ChangeMaps (open_string shut_string)
set_option linter.unusedVariables false
set_option linter.unusedSimpArgs false

theorem und57 : Try.prog.underlying 57 = some (.slice 4) := by kernel_rfl
theorem info4 : (Try.prog.info? 4).map (fun i => (i.zero, i.size, i.bytes)) = some (some (.bool false), 1, 1) := by kernel_rfl
theorem Msgs.below {W W' : World} {a : Option Addr} {len : Nat} {hd : Nat → Option Addr × Nat × Nat} {ms : Nat → List UInt8} (h : Msgs W a len hd ms) (b : Below W.heap.size W W') : Msgs W' a len hd ms :=
  ⟨h.max, fun h0 => by
    obtain ⟨g, off, e, hc⟩ := h.cell h0
    exact ⟨g, off, e, fun j hj => (b.cell (World.block_lt_of_cell? W _ (hc j hj))).trans (hc j hj)⟩, fun j hj => ⟨(h.row j hj).1.below b (Nat.le_refl _), (h.row j hj).2⟩⟩

theorem Two.frame {w wr w' : World} {pa pb : Nat} {Fa Fb : Nat → Prop} {A B : List Pa} (h : Two w wr pa pb Fa Fb A B) (hs : wr.heap.size ≤ w'.heap.size) (hb : ∀ b, Fa b ∨ Fb b → w'.heap[b]? = wr.heap[b]?) (bl : Below w.heap.size w w') : Two w w' pa pb Fa Fb A B :=
  { h with na := h.na.frame hs (fun b hx => hb b (.inl hx)), nb := h.nb.frame hs (fun b hx => hb b (.inr hx)), bl := bl }
theorem slice_tail (ln ba : Nat) (off : Nat) (ho : off = if ln = 0 then 0 else 1) : (if ln = 0 then some (⟨ba, 0, none⟩ : Addr) else some ⟨ba, 1, none⟩) = some ⟨ba, off, none⟩ := by
  by_cases h : ln = 0
  · rw [if_pos h] at ho ⊢; rw [ho]
  · rw [if_neg h] at ho ⊢; rw [ho]

set_option maxRecDepth 10000 in
set_option maxHeartbeats 4000000 in
theorem walk (w : World) (ao : Option Addr) (m cap : Nat) (q : (Nat → Option Addr × Nat × Nat) × (Nat → List UInt8)) (hq : Msgs w ao m q.1 q.2) (bo : Option Addr) (n bc : Nat) (ys : List UInt8) (hy : Row w bo n bc ys) (hbc : bc ≤ 140737488351232) :
    Calls Try.prog 8 #[.slice ao m cap, .slice bo n bc] w fun e w' => e = .returned (.bool true) ∧ Below w.heap.size w w' := by
  obtain ⟨hd, ms⟩ := q
  by_cases hm : 60 < m
  · exact walk_long w ao m cap bo n bc hm hq.max
  have HQ : Hid (Msgs w ao m hd ms) := hq
  have HY : Hid (Row w bo n bc ys) := hy
  have hnbc := hy.2.1
  clear hq hy
  go_enter Try.func8, Try.ntmps8
  go_wp2_with fail
  refine (awake_any _).mono ?_
  rintro e w1 ⟨rfl, b1⟩
  go_wp2_with fail
  refine (new2 _).mono ?_
  rintro e w2 ⟨pa, Fa, rfl, hNa, b2, hFa⟩
  go_wp2_with fail
  refine (new2 _).mono ?_
  rintro e w3 ⟨pb, Fb, rfl, hNb, b3, hFb⟩
  have H0 : Hid (Two w w3 pa pb Fa Fb [] []) :=
    { na := hNa.up b3, nb := hNb, dj := fun b ha hb => by have := hNa.2 b ha; have := hFb b hb; omega
      a0 := fun b hb => Nat.le_trans b1.size (hFa b hb), b0 := fun b hb => Nat.le_trans (bl_step b1 b2).size (hFb b hb), bl := bl_step (bl_step b1 b2) b3 }
  clear b1 b2 b3 hNa hNb hFa hFb
  go_wp2_with fail
  go_loopw [9, 10] (fun iv _ wr => ∃ (i : Nat) (Fa Fb : Nat → Prop), i ≤ m ∧ iv = .int .i64 (i : Nat) ∧ Two w wr pa pb Fa Fb ((List.range i).map (pk ms)) ((List.range i).map (pk ms)) ∧ ∀ j, j < i → (hd j).2.1 ≤ 1000) (fun iv _ _ => m - (intOf iv).toNat)
  case atStart => exact ⟨0, Fa, Fb, by omega, rfl, H0.out, by omega⟩
  case round =>
    clear H0 Fa Fb
    obtain ⟨i, Fa, Fb, hi, rfl, hT, hsm⟩ := hrel
    have HT : Hid (Two w wr pa pb Fa Fb ((List.range i).map (pk ms)) ((List.range i).map (pk ms))) := hT
    have HSM : Hid (∀ j, j < i → (hd j).2.1 ≤ 1000) := hsm
    clear hsm hT
    by_cases hlt : i < m
    · have hltI : (i : Int) < m := by omega
      obtain ⟨gl, off, hao, hcell⟩ := HQ.out.cell (by omega)
      subst hao
      have hci := hcell i hlt
      have hgl : gl < w.heap.size := World.block_lt_of_cell? w _ hci
      obtain ⟨hrow, hcp⟩ := HQ.out.row i hlt
      obtain ⟨ro, hro⟩ : ∃ ro, (hd i).1 = ro := ⟨_, rfl⟩
      obtain ⟨rn, hrn⟩ : ∃ rn, (hd i).2.1 = rn := ⟨_, rfl⟩
      obtain ⟨rc, hrc⟩ : ∃ rc, (hd i).2.2 = rc := ⟨_, rfl⟩
      rw [hro, hrn, hrc] at hci hrow
      rw [hrc] at hcp
      have hrnc := hrow.2.1
      have hbl := HT.out.bl
      have hwr := hbl.size
      obtain ⟨oB, hoB⟩ : ∃ o, o = Obj.cells #[.int .u8 (i : Nat)] 5 := ⟨_, rfl⟩
      have hbB : Below w.heap.size w (wr.alloc oB) := hbl.alloc hwr oB
      have hBk : (wr.alloc oB).heap[wr.heap.size]? = some (.cells #[by8 (UInt8.ofNat i)] 5 (0, 0)) := by
        rw [heap_alloc_new, hoB]
        unfold by8
        rw [byte_small (by omega)]
      obtain ⟨g, c, w5, hrun, hown, hgr⟩ := append_one (x := UInt8.ofNat i) hBk (hrow.below hbB (Nat.le_refl _)) (by omega) wr.heap.size (Nat.le_refl _) (by simp) 35
      have hg0 := (hown.lt g rfl).1
      have hg1 := (hown.lt g rfl).2
      obtain ⟨hrg, hcm⟩ := own_row hown
      have hcg := hrg.2.1
      unfold maxLen at hcm
      have hsB : (wr.alloc oB).heap.size = wr.heap.size + 1 := by simp
      have hb5 : Below wr.heap.size wr w5 := ⟨hgr.os, hgr.tape, hgr.output, by have := hgr.size; omega, fun k hk => (hgr.block k (by omega) (by simp; omega)).trans (Below.heap_alloc wr oB k hk)⟩
      have hs5 := hb5.size
      obtain ⟨oP, hoP⟩ : ∃ o, o = Obj.cells #[.int .i64 0, .int .i64 1, .slice (some ⟨g, 0, none⟩) (rn + 1) c] 49 := ⟨_, rfl⟩
      have hb6 : Below wr.heap.size wr (w5.alloc oP) := hb5.alloc hs5 oP
      have hT6 := HT.out.up hb6
      have hci0 : (wr.alloc oB).cell? ⟨gl, off + i, none⟩ = some (.slice ro rn rc) := (hbB.cell hgl).trans hci
      have hci6 : (w5.alloc oP).cell? ⟨gl, off + i, none⟩ = some (.slice ro rn rc) := (hT6.bl.cell hgl).trans hci
      have p0 : (w5.alloc oP).cell? ⟨w5.heap.size, 0, none⟩ = some (.int .i64 0) := by rw [hoP]; exact cell_box _ _ _ _ _ rfl
      have p1 : (w5.alloc oP).cell? ⟨w5.heap.size, 1, none⟩ = some (.int .i64 1) := by rw [hoP]; exact cell_box _ _ _ _ _ rfl
      have p2 : (w5.alloc oP).cell? ⟨w5.heap.size, 2, none⟩ = some (.slice (some ⟨g, 0, none⟩) (rn + 1) c) := by rw [hoP]; exact cell_box _ _ _ _ _ rfl
      have HRUN : Hid ((Builtin.append_ #[35, 35] 35 #[.slice (some ⟨wr.heap.size, 0, none⟩) 1 1, .slice ro rn rc]).run Try.prog (wr.alloc oB) = .ok (.slice (some ⟨g, 0, none⟩) (rn + 1) c) w5) := hrun
      have hi256 : (i : Int) < 256 := by omega
      by_cases hbig : 1000 < rn
      · have hbigI : (1000 : Int) < rn := by omega
        have HB : Hid (Below w.heap.size w (w5.alloc oP)) := hT6.bl
        rw [hoB] at hci0 HRUN
        rw [hoP] at hci6 HB
        clear hrun hown hgr hrg hb5 hb6 hT6 hcell hrow hBk hbB hbl hci hoB hoP p0 p1 p2 hro hrn hrc
        go_wp2_with (first | (at_builtin; refine wpList_append_run rfl _ _ 35 35 rfl _ _ rfl rfl HRUN.out ?_) | fail)
        go_ret
        exact ⟨rfl, HB.out⟩
      · have hbigI : ¬ ((1000 : Int) < rn) := by omega
        have hrg6 : Row (w5.alloc oP) (some ⟨g, 0, none⟩) (rn + 1) c (UInt8.ofNat i :: ms i) := (own_row (hown.alloc oP)).1
        have hpa := put_any hT6.na 0 1 (by omega) (by omega) _ (rn + 1) c _ hrg6 (by omega) (by simp; omega)
        unfold pkt at hpa
        have hpa' : Calls Try.prog 22 #[.pointer (some ⟨pa, 0, none⟩), .agg #[.int .i64 0, .int .i64 1, .slice (some ⟨g, 0, none⟩) (rn + 1) c]] (w5.alloc oP) _ := hpa
        have hFa : ∀ b, Fa b → b < wr.heap.size := HT.out.na.2
        have hFb : ∀ b, Fb b → b < wr.heap.size := HT.out.nb.2
        have HOWN : Hid ((w5.alloc oP).ownsRow wr.heap.size 5 1 (.slice (some ⟨g, 0, none⟩) (rn + 1) c) (rn + 1) ((UInt8.ofNat i :: ms i).map by8)) := hown.alloc oP
        have HT6 : Hid (Two w (w5.alloc oP) pa pb Fa Fb ((List.range i).map (pk ms)) ((List.range i).map (pk ms))) := hT6
        have hs6 : (w5.alloc oP).heap.size = w5.heap.size + 1 := by simp
        rw [hoB] at hci0 HRUN
        have hoP' := hoP
        rw [hoP] at hci6 p0 p1 p2 hpa'
        clear hrun hown hgr hrg hb5 hb6 hT6 hcell hrow hBk hbB hbl hoB hro hrc hoP hrg6 hpa
        go_wp2_with (first | (at_builtin; refine wpList_append_run rfl _ _ 35 35 rfl _ _ rfl rfl HRUN.out ?_) | fail)
        refine hpa'.mono ?_
        rw [← hoP']
        rintro e w7 ⟨rfl, Fa', hNa', ga⟩
        have hT7 := HT6.out.goA hNa' ga
        have hs7 := ga.turned.size
        have hk7 : ∀ b, wr.heap.size ≤ b → b < w5.heap.size + 1 → w7.heap[b]? = (w5.alloc oP).heap[b]? := fun b h1 h2 => ga.turned.block b (by omega) (fun hx => by have := hFa b hx; omega)
        have hbx7 := hk7 w5.heap.size (by omega) (by omega)
        have q0 := (cell_block (o := 0) hbx7).trans (by rw [hoP']; exact cell_box _ _ _ _ _ rfl : (w5.alloc oP).cell? ⟨w5.heap.size, 0, none⟩ = some (.int .i64 0))
        have q1 := (cell_block (o := 1) hbx7).trans (by rw [hoP']; exact cell_box _ _ _ _ _ rfl : (w5.alloc oP).cell? ⟨w5.heap.size, 1, none⟩ = some (.int .i64 1))
        have q2 := (cell_block (o := 2) hbx7).trans (by rw [hoP']; exact cell_box _ _ _ _ _ rfl : (w5.alloc oP).cell? ⟨w5.heap.size, 2, none⟩ = some (.slice (some ⟨g, 0, none⟩) (rn + 1) c))
        have hrg7 : Row w7 (some ⟨g, 0, none⟩) (rn + 1) c (UInt8.ofNat i :: ms i) := (own_row (row_block HOWN.out (fun b hb => hk7 b (by simp [Value.ownBlock] at hb; omega) (by simp [Value.ownBlock] at hb; omega)))).1
        have hpb := put_any hT7.nb 0 1 (by omega) (by omega) _ (rn + 1) c _ hrg7 (by omega) (by simp; omega)
        unfold pkt at hpb
        have hpb' : Calls Try.prog 22 #[.pointer (some ⟨pb, 0, none⟩), .agg #[.int .i64 0, .int .i64 1, .slice (some ⟨g, 0, none⟩) (rn + 1) c]] w7 _ := hpb
        clear hpa' hNa' ga hk7 hbx7 hrg7 hpb p0 p1 p2 hci6 hci0
        go_wp2_with fail
        refine hpb'.mono ?_
        rintro e w8 ⟨rfl, Fb', hNb', gb⟩
        have hT8 := hT7.goB hNb' gb
        have HE : Hid (Two w w8 pa pb Fa' Fb' ((List.range (i + 1)).map (pk ms)) ((List.range (i + 1)).map (pk ms)) ∧ ∀ j, j < i + 1 → (hd j).2.1 ≤ 1000) := by
          rw [map_range_succ]
          refine ⟨hT8, fun j hj => ?_⟩
          by_cases e : j = i
          · rw [e, hrn]; omega
          · exact HSM.out j (by omega)
        clear hpb' hNb' gb hT7 hT8 q0 q1 q2 hrn
        go_wp2
        go_roundw
        case rel => exact ⟨i + 1, Fa', Fb', by omega, by go_num, HE.out⟩
        case measure => simp [intOf]; omega
    · obtain rfl : i = m := by omega
      have hmk := run_make_row' (P := Try.prog) 57 4 (.bool false) 1 und57 info4 rfl .i64 .i64 i (by omega) (by omega)
      generalize hw8 : wr = w8 at *
      clear hw8
      have hmax := HQ.out.max
      have H2 : Hid (∃ (S : Nat → Bool), Two w (w8.alloc (.cells (madeCells #[.bool false] i) 4)) pa pb Fa Fb (((List.range i).drop 0).map (pk ms)) ((List.range i).map (pk ms)) ∧ Left ms i 0 (List.range i) S ∧ (w8.alloc (.cells (madeCells #[.bool false] i) 4)).rowIs w8.heap.size 4 i (fun k => .bool (S k)) ∧ (∀ b, Fa b ∨ Fb b → b ≠ w8.heap.size)) :=
        ⟨fun _ => false, by simpa using HT.out.up (bl1 _ _), ⟨by simp, List.nodup_range, fun k hk => by simpa using hk, fun _ _ => rfl⟩, World.rowIs_made _ _ _ _, fun b hb => by
          rcases hb with hb | hb
          · have := HT.out.na.2 b hb; omega
          · have := HT.out.nb.2 b hb; omega⟩
      have hgs0 : w.heap.size ≤ w8.heap.size := HT.out.bl.size
      clear HT
      go_wp2_with fail
      obtain ⟨gs, HGS⟩ : ∃ gs, Hid (w8.heap.size = gs) := ⟨_, Eq.refl _⟩
      rw [HGS.out] at H2 hgs0 ⊢
      generalize w8.alloc (.cells (madeCells #[.bool false] i) 4) = w9 at *
      clear HGS hmk
      go_loopw [12, 13, 14, 15, 16, 17] (fun iv _ _ _ _ _ wr => ∃ (j : Nat) (Fa Fb : Nat → Prop) (B : List Nat) (S : Nat → Bool), j ≤ i ∧ iv = .int .i64 (j : Nat) ∧ Two w wr pa pb Fa Fb (((List.range i).drop j).map (pk ms)) (B.map (pk ms)) ∧ Left ms i j B S ∧ wr.rowIs gs 4 i (fun k => .bool (S k)) ∧ (∀ b, Fa b ∨ Fb b → b ≠ gs)) (fun iv _ _ _ _ _ _ => i - (intOf iv).toNat)
      case atStart =>
        obtain ⟨S, h1, h2, h3, h4⟩ := H2.out
        exact ⟨0, Fa, Fb, List.range i, S, by omega, rfl, h1, h2, h3, h4⟩
      case round =>
        clear H2 Fa Fb
        obtain ⟨j, Fa, Fb, B, S, hj, rfl, hT, hL, hS, hne⟩ := hrel
        by_cases hlt2 : j < i
        · have hlt2I : (j : Int) < i := by omega
          have hh01 : hears 2 (allN 2) 0 1 = true := by decide
          have HL : Hid (Left ms i j B S) := hL
          have hBl := hL.len
          obtain ⟨gl, off, hao, hcell⟩ := HQ.out.cell (by omega)
          subst hao
          have hcj := hcell j hlt2
          have hgl : gl < w.heap.size := World.block_lt_of_cell? w _ hcj
          obtain ⟨hrow, hcp⟩ := HQ.out.row j hlt2
          have hsm := HSM.out j hlt2
          obtain ⟨ro, hro⟩ : ∃ ro, (hd j).1 = ro := ⟨_, rfl⟩
          obtain ⟨rn, hrn⟩ : ∃ rn, (hd j).2.1 = rn := ⟨_, rfl⟩
          obtain ⟨rc, hrc⟩ : ∃ rc, (hd j).2.2 = rc := ⟨_, rfl⟩
          rw [hro, hrn, hrc] at hcj hrow
          rw [hrn] at hsm
          have HROW : Hid (Row w ro rn rc (ms j)) := hrow
          have hml : (ms j).length = rn := hrow.1
          clear hcell hcp hro hrn hrc hrow
          have hta := take_any hT.na 0 (pk ms j) (drop_get _ i j hlt2) hh01
          unfold pkt at hta
          rw [drop_erase] at hta
          have htA : (pk ms j).told = UInt8.ofNat j :: ms j := rfl
          have hxA : (pk ms j).xs.length = rn + 1 := by show (ms j).length + 1 = _; rw [hml]
          rw [htA, hxA, show (pk ms j).f = 0 from rfl, show (pk ms j).t = 1 from rfl] at hta
          have hta' : Calls Try.prog 24 #[.pointer (some ⟨pa, 0, none⟩), .int .i64 0] wr _ := hta
          have hFb0 : ∀ b, Fb b → b < wr.heap.size := hT.nb.2
          have hFa0 : ∀ b, Fa b → b < wr.heap.size := hT.na.2
          have hgsl : gs < wr.heap.size := hS.lt
          have HTT : Hid (Two w wr pa pb Fa Fb (((List.range i).drop j).map (pk ms)) (B.map (pk ms))) := hT
          have HSS : Hid (wr.rowIs gs 4 i (fun k => .bool (S k))) := hS
          have HNE : Hid (∀ b, Fa b ∨ Fb b → b ≠ gs) := hne
          clear hta hT hL hS hne
          generalize hw10 : wr = w10 at *
          clear hw10
          by_cases hpk : j < n
          · have hpkI : (j : Int) < n := by omega
            obtain ⟨gp, po, hbo, hpc⟩ := HY.out.open (by omega)
            subst hbo
            obtain ⟨x, hx⟩ : ∃ x, (ys.getD j 0).toNat = x := ⟨_, rfl⟩
            have hxu : x < 256 := by rw [← hx]; exact u8_lt _
            have cx := hpc j hpk
            rw [hx] at cx
            have hgp : gp < w.heap.size := World.block_lt_of_cell? w _ cx
            clear hx hpc
            go_wp2_with fail
            refine hta'.mono ?_
            rintro e w11 ⟨ba, rfl, hba, hbyA, hNa, tA⟩
            have hT11 := HTT.out.goA hNa (goes_same tA)
            have hs11 := tA.size
            obtain ⟨oA, hoA⟩ : ∃ o, o = Obj.cells #[.int .i64 0, .int .i64 1, .slice (some ⟨ba, 0, none⟩) (rn + 1) (rn + 1)] 49 := ⟨_, rfl⟩
            have hbal := hbyA.lt
            have hT12 := hT11.up (bl1 w11 oA)
            have hs12 : (w11.alloc oA).heap.size = w11.heap.size + 1 := by simp
            have HBA : Hid (By (w11.alloc oA) ba (UInt8.ofNat j :: ms j)) := hbyA.of (Below.heap_alloc _ _ _ hbal)
            have HS12 : Hid ((w11.alloc oA).rowIs gs 4 i (fun k => .bool (S k))) := (HSS.out.of_block (tA.block gs hgsl (fun hx => HNE.out gs (.inl hx) rfl))).alloc oA
            have HT12 : Hid (Two w (w11.alloc oA) pa pb Fa Fb (((List.range i).drop (j + 1)).map (pk ms)) (B.map (pk ms))) := hT12
            have HCA : Hid ((w11.alloc oA).cell? ⟨w11.heap.size, 2, none⟩ = some (.slice (some ⟨ba, 0, none⟩) (rn + 1) (rn + 1))) := by
              show _ = _
              rw [hoA]; exact cell_box _ _ _ _ _ rfl
            clear hta' hNa tA hT11 hbyA HTT HSS
            obtain ⟨kk, hkk⟩ : ∃ kk, kk = x % B.length := ⟨_, rfl⟩
            have hkl : kk < B.length := by rw [hkk]; exact Nat.mod_lt _ (by omega)
            have hki : (x : Int) % (B.length : Int) = (kk : Int) := by rw [hkk]; exact (Int.natCast_emod x B.length).symm
            have hlen : Calls Try.prog 14 #[.pointer (some ⟨pb, 0, none⟩)] (w11.alloc oA).drew fun e w' => e = .returned (.int .i64 (B.length : Nat)) ∧ (w11.alloc oA).drew = w' := by
              have := len_any HT12.out.nb.drew
              rw [List.length_map] at this
              exact this
            have cx12 : (w11.alloc oA).cell? ⟨gp, po + j, none⟩ = some (.int .u8 (x : Nat)) := (HT12.out.bl.cell hgp).trans cx
            obtain ⟨Bl, HBL⟩ : ∃ Bl, Hid (B.length = Bl) := ⟨_, Eq.refl _⟩
            have hblp : 0 < Bl := by rw [← HBL.out]; omega
            have hbl60 : Bl ≤ 60 := by rw [← HBL.out]; omega
            rw [HBL.out] at hlen hki
            clear hkk
            rw [hoA] at hlen cx12
            go_wp2_with fail
            refine wp_region_noPanic ?_
            refine wp_region_held_drew (S := fun wx => wx.cell? ⟨gp, po + j, none⟩ = some (.int .u8 (x : Nat))) (by kernel_rfl) cx12 (fun hHeld => ?_)
            refine take_first 0 (v := ?_) rfl (by kernel_rfl) (by kernel_rfl) (by kernel_rfl) (fun _ _ _ h => h) (Or.inl ⟨by rfl, by intro wx hSw; (try dsimp only at hSw); go_simp; try with_reducible rfl⟩) (by assumption) ?_
            (try simp only [Act.put, List.setIfInBounds_toArray, List.set_cons_zero, List.set_cons_succ])
            refine take_first 1 (v := ?_) rfl (by kernel_rfl) (by kernel_rfl) (by kernel_rfl) (fun _ _ _ h => h) (Or.inl ⟨by rfl, by intro wx hSw; (try dsimp only at hSw); go_simp; try with_reducible rfl⟩) (by assumption) ?_
            (try simp only [Act.put, List.setIfInBounds_toArray, List.set_cons_zero, List.set_cons_succ])
            refine take_first 2 (v := ?_) rfl (by kernel_rfl) (by kernel_rfl) (by kernel_rfl) (fun _ _ _ h => h) (Or.inl ⟨by rfl, by intro wx hSw; (try dsimp only at hSw); go_simp; try with_reducible rfl⟩) (by assumption) ?_
            (try simp only [Act.put, List.setIfInBounds_toArray, List.set_cons_zero, List.set_cons_succ])
            refine take_first 3 (v := ?_) rfl (by kernel_rfl) (by kernel_rfl) (by kernel_rfl) (fun _ _ _ h => h) (Or.inl ⟨by rfl, by intro wx hSw; (try dsimp only at hSw); go_simp; try with_reducible rfl⟩) (by assumption) ?_
            (try simp only [Act.put, List.setIfInBounds_toArray, List.set_cons_zero, List.set_cons_succ])
            refine take_first 4 (v := .int .i64 (x : Nat)) rfl (by kernel_rfl) (by kernel_rfl) (by kernel_rfl) (fun _ _ _ h => h) (Or.inl ⟨by rfl, by intro wx hSw; clear hSw; go_simp; exact IntWalk.i64_in _ (by omega)⟩) (by assumption) ?_
            (try simp only [Act.put, List.setIfInBounds_toArray, List.set_cons_zero, List.set_cons_succ])
            refine take_first 5 (v := ?_) rfl (by kernel_rfl) (by kernel_rfl) (by kernel_rfl) (fun _ _ _ h => h) (Or.inl ⟨by rfl, by intro wx hSw; (try dsimp only at hSw); go_simp; try with_reducible rfl⟩) (by assumption) ?_
            (try simp only [Act.put, List.setIfInBounds_toArray, List.set_cons_zero, List.set_cons_succ])
            refine comes_up 6 rfl (by kernel_rfl) (fun K hK => ?_)
            go_simp
            refine hlen.mono ?_
            rintro e w12 ⟨rfl, rfl⟩
            go_wp2_with fail
            refine hK.out _ _ cx12 (fun hHeld => ?_)
            clear hK K
            (try simp only [Act.put, List.setIfInBounds_toArray, List.set_cons_zero, List.set_cons_succ])
            refine take_first 7 (v := .int .i64 (kk : Nat)) rfl (by kernel_rfl) (by kernel_rfl) (by kernel_rfl) (fun _ _ _ h => h) (Or.inl ⟨by rfl, by intro wx hSw; clear hSw; go_simp; rw [if_neg (by omega), Int.tmod_eq_emod_of_nonneg (by omega), hki]⟩) (by assumption) ?_
            (try simp only [Act.put, List.setIfInBounds_toArray, List.set_cons_zero, List.set_cons_succ])
            refine take_first 8 (v := ?_) rfl (by kernel_rfl) (by kernel_rfl) (by kernel_rfl) (fun _ _ _ h => h) (Or.inl ⟨by rfl, by intro wx hSw; (try dsimp only at hSw); go_simp; try with_reducible rfl⟩) (by assumption) ?_
            (try simp only [Act.put, List.setIfInBounds_toArray, List.set_cons_zero, List.set_cons_succ])
            refine wpAnyH_done (by kernel_rfl) ?_ _
            refine NoPanic.normal ?_
            have HT12' : Hid (Two w (w11.alloc oA).drew pa pb Fa Fb (((List.range i).drop (j + 1)).map (pk ms)) (B.map (pk ms))) := HT12.out.up (Below.refl _ _).drew
            have hs12' : (w11.alloc oA).drew.heap.size = w11.heap.size + 1 := by simp
            clear hlen cx12 hHeld
            obtain ⟨idx, hidx⟩ : ∃ idx, B[kk]? = some idx := ⟨_, List.getElem?_eq_getElem (by omega)⟩
            have hidl : idx < i := HL.out.lt idx (List.mem_of_getElem? hidx)
            have hidlI : (idx : Int) < i := by omega
            have hSi : S idx = false := HL.out.new idx (List.mem_of_getElem? hidx)
            have htb := take_any HT12'.out.nb kk (pk ms idx) (by rw [List.getElem?_map, hidx]; rfl) hh01
            unfold pkt at htb
            rw [map_erase] at htb
            have htB : (pk ms idx).told = UInt8.ofNat idx :: ms idx := rfl
            obtain ⟨rq, HRQ⟩ : ∃ rq, Hid ((ms idx).length = rq) := ⟨_, Eq.refl _⟩
            have hxB : (pk ms idx).xs.length = rq + 1 := by show (ms idx).length + 1 = _; rw [HRQ.out]
            rw [htB, hxB, show (pk ms idx).f = 0 from rfl, show (pk ms idx).t = 1 from rfl] at htb
            have htb' : Calls Try.prog 24 #[.pointer (some ⟨pb, 0, none⟩), .int .i64 (kk : Nat)] (w11.alloc oA).drew _ := htb
            have HLT : Hid (Left ms i (j + 1) (B.eraseIdx kk) (fun x => if x = idx then true else S x)) := HL.out.take hidx
            have hrq : rq ≤ 1000 := by
              have h1 := (HQ.out.row idx hidl).1.1
              have h2 := HSM.out idx hidl
              have := HRQ.out
              omega
            rw [hoA] at htb'
            clear htb hidx
            go_wp2_with fail
            refine htb'.mono ?_
            rw [← hoA]
            rintro e w13 ⟨bb, rfl, hbb, hbyB, hNb, tB⟩
            have hT13 := HT12'.out.goB hNb (goes_same tB)
            have hs13 := tB.size
            obtain ⟨oQ, hoQ⟩ : ∃ o, o = Obj.cells #[.int .i64 0, .int .i64 1, .slice (some ⟨bb, 0, none⟩) (rq + 1) (rq + 1)] 49 := ⟨_, rfl⟩
            have hbbl := hbyB.lt
            have hT14 := hT13.up (bl1 w13 oQ)
            have hkp : ∀ b, b < (w11.alloc oA).drew.heap.size → ¬ Fb b → (w13.alloc oQ).heap[b]? = (w11.alloc oA).drew.heap[b]? := fun b h1 h2 => (Below.heap_alloc _ _ _ (by omega)).trans (tB.block b h1 h2)
            have hcA : (w13.alloc oQ).cell? ⟨w11.heap.size, 2, none⟩ = some (.slice (some ⟨ba, 0, none⟩) (rn + 1) (rn + 1)) := (cell_block (hkp w11.heap.size (by omega) (fun hx => by have := hFb0 _ hx; omega))).trans HCA.out
            have hbyA : By (w13.alloc oQ) ba (UInt8.ofNat j :: ms j) := HBA.out.of (hkp ba (by omega) (fun hx => by have := hFb0 _ hx; omega))
            have hcQ : (w13.alloc oQ).cell? ⟨w13.heap.size, 2, none⟩ = some (.slice (some ⟨bb, 0, none⟩) (rq + 1) (rq + 1)) := by rw [hoQ]; exact cell_box _ _ _ _ _ rfl
            have hbyQ : By (w13.alloc oQ) bb (UInt8.ofNat idx :: ms idx) := hbyB.of (Below.heap_alloc _ _ _ hbbl)
            have hS14 : (w13.alloc oQ).rowIs gs 4 i (fun k => .bool (S k)) := HS12.out.of_block (hkp gs (by omega) (fun hx => HNE.out gs (.inr hx) rfl))
            have hcS : (w13.alloc oQ).cell? ⟨gs, idx, none⟩ = some (.bool false) := by rw [hS14.cell hidl, hSi]
            have hfS := hS14.frozen idx
            have hc0 : (w13.alloc oQ).cell? ⟨ba, 0, none⟩ = some (.int .u8 (j : Nat)) := by
              rw [hbyA.cell (by simp)]
              show some (Value.int .u8 ((UInt8.ofNat j).toNat : Int)) = _
              rw [byte_small (by omega)]
            have hc1 : (w13.alloc oQ).cell? ⟨bb, 0, none⟩ = some (.int .u8 (idx : Nat)) := by
              rw [hbyQ.cell (by simp)]
              show some (Value.int .u8 ((UInt8.ofNat idx).toNat : Int)) = _
              rw [byte_small (by omega)]
            have hcl : (w13.alloc oQ).cell? ⟨gl, off + j, none⟩ = some (.slice ro rn rc) := (hT14.bl.cell hgl).trans hcj
            have hcv1 := conv_row (HROW.out.below hT14.bl (Nat.le_refl _))
            obtain ⟨o1, ho1⟩ : ∃ o1, o1 = if rn = 0 then 0 else 1 := ⟨_, rfl⟩
            have hst := slice_tail rn ba o1 ho1
            have hcv2 := conv_row (row_tail hbyA (by omega) o1 (by by_cases h : rn = 0 <;> simp [h] at ho1 <;> omega))
            rw [hml] at hcv2
            have hbe : ((str (ms j)).toList == (str (ms j)).toList) = true := by simp
            have HE : Hid (Two w ((w13.alloc oQ).setCell ⟨gs, idx, none⟩ (.bool true)).drew pa pb Fa Fb (((List.range i).drop (j + 1)).map (pk ms)) ((B.eraseIdx kk).map (pk ms)) ∧ ((w13.alloc oQ).setCell ⟨gs, idx, none⟩ (.bool true)).drew.rowIs gs 4 i (fun k => .bool (if k = idx then true else S k))) := by
              refine ⟨hT14.frame (w' := ((w13.alloc oQ).setCell ⟨gs, idx, none⟩ (.bool true)).drew) (by simp [World.setCell]) (fun b hb => set_block_other (HNE.out b hb)) (hT14.bl.setCell hgs0 _).drew, ?_⟩
              refine (hS14.set idx (.bool true)).congr (fun k hk => ?_)
              by_cases e : k = idx
              · rw [if_pos e, if_pos e]
              · rw [if_neg e, if_neg e]
            have hnej : ((j : Int) == (j : Int)) = true := by simp
            obtain ⟨wd, hwd⟩ : ∃ wd, wd = (w13.alloc oQ).drew := ⟨_, rfl⟩
            have k1 : wd.cell? ⟨w11.heap.size, 2, none⟩ = some (.slice (some ⟨ba, 0, none⟩) (rn + 1) (rn + 1)) := by rw [hwd]; exact hcA
            have k2 : wd.cell? ⟨w13.heap.size, 2, none⟩ = some (.slice (some ⟨bb, 0, none⟩) (rq + 1) (rq + 1)) := by rw [hwd]; exact hcQ
            have k3 : wd.cell? ⟨gs, idx, none⟩ = some (.bool false) := by rw [hwd]; exact hcS
            have k4 : wd.cell? ⟨ba, 0, none⟩ = some (.int .u8 (j : Nat)) := by rw [hwd]; exact hc0
            have k5 : wd.cell? ⟨bb, 0, none⟩ = some (.int .u8 (idx : Nat)) := by rw [hwd]; exact hc1
            have k6 : wd.cell? ⟨gl, off + j, none⟩ = some (.slice ro rn rc) := by rw [hwd]; exact hcl
            have k7 : (convert 35 9 (.slice ro rn rc)).run Try.prog wd = .ok (.string (str (ms j))) wd := by rw [hwd]; exact conv_row (HROW.out.below hT14.bl.drew (Nat.le_refl _))
            have k8 : (convert 35 9 (.slice (some ⟨ba, o1, none⟩) rn rn)).run Try.prog wd = .ok (.string (str (ms j))) wd := by
              rw [hwd]
              have := conv_row (row_tail (show By (w13.alloc oQ).drew ba (UInt8.ofNat j :: ms j) from hbyA) (by omega) o1 (by by_cases h : rn = 0 <;> simp [h] at ho1 <;> omega))
              rw [hml] at this
              exact this
            have k9 : wd.frozen? ⟨gs, idx, none⟩ = false := by rw [hwd]; exact hfS
            have HWD : Hid (wd = (w13.alloc oQ).drew) := hwd
            have h01 : (0 : Int) < (rn : Int) + 1 := by omega
            have h02 : (0 : Int) < (rq : Int) + 1 := by omega
            have h03 : (1 : Int) ≤ (rn : Int) + 1 := by omega
            rw [hoQ] at hwd
            clear htb' hNb tB hT13 hT14 hkp hbyA hbyB hbyQ hS14 HBA HS12 HT12 HT12' HCA cx hcA hcQ hcS hc0 hc1 hcl hcv1 hcv2 hfS ho1 hcj
            go_wp2_with fail
            refine wp_region_noPanic ?_
            refine wp_region_held_drew (S := fun wx => wx = wd) (by kernel_rfl) hwd.symm (fun hHeld => ?_)
            rw [← hwd]
            clear hHeld hwd
            have hHeld : wd = wd := rfl
            refine take_first 0 (v := ?_) rfl (by kernel_rfl) (by kernel_rfl) (by kernel_rfl) (fun _ _ _ h => h) (Or.inl ⟨by rfl, by intro wx hSw; (try dsimp only at hSw); obtain ⟨rfl⟩ := hSw; go_simp; try with_reducible rfl⟩) (by assumption) ?_
            (try simp only [Act.put, List.setIfInBounds_toArray, List.set_cons_zero, List.set_cons_succ])
            refine take_first 1 (v := ?_) rfl (by kernel_rfl) (by kernel_rfl) (by kernel_rfl) (fun _ _ _ h => h) (Or.inl ⟨by rfl, by intro wx hSw; (try dsimp only at hSw); obtain ⟨rfl⟩ := hSw; go_simp; try with_reducible rfl⟩) (by assumption) ?_
            (try simp only [Act.put, List.setIfInBounds_toArray, List.set_cons_zero, List.set_cons_succ])
            refine take_first 2 (v := ?_) rfl (by kernel_rfl) (by kernel_rfl) (by kernel_rfl) (fun _ _ _ h => h) (Or.inl ⟨by rfl, by intro wx hSw; (try dsimp only at hSw); obtain ⟨rfl⟩ := hSw; go_simp; try with_reducible rfl⟩) (by assumption) ?_
            (try simp only [Act.put, List.setIfInBounds_toArray, List.set_cons_zero, List.set_cons_succ])
            refine take_first 3 (v := ?_) rfl (by kernel_rfl) (by kernel_rfl) (by kernel_rfl) (fun _ _ _ h => h) (Or.inl ⟨by rfl, by intro wx hSw; (try dsimp only at hSw); obtain ⟨rfl⟩ := hSw; go_simp; try with_reducible rfl⟩) (by assumption) ?_
            (try simp only [Act.put, List.setIfInBounds_toArray, List.set_cons_zero, List.set_cons_succ])
            refine take_first 4 (v := ?_) rfl (by kernel_rfl) (by kernel_rfl) (by kernel_rfl) (fun _ _ _ h => h) (Or.inl ⟨by rfl, by intro wx hSw; (try dsimp only at hSw); obtain ⟨rfl⟩ := hSw; go_simp; try with_reducible rfl⟩) (by assumption) ?_
            (try simp only [Act.put, List.setIfInBounds_toArray, List.set_cons_zero, List.set_cons_succ])
            refine take_first 5 (v := ?_) rfl (by kernel_rfl) (by kernel_rfl) (by kernel_rfl) (fun _ _ _ h => h) (Or.inl ⟨by rfl, by intro wx hSw; (try dsimp only at hSw); obtain ⟨rfl⟩ := hSw; go_simp; try with_reducible rfl⟩) (by assumption) ?_
            (try simp only [Act.put, List.setIfInBounds_toArray, List.set_cons_zero, List.set_cons_succ])
            refine take_first 6 (v := ?_) rfl (by kernel_rfl) (by kernel_rfl) (by kernel_rfl) (fun _ _ _ h => h) (Or.inl ⟨by rfl, by intro wx hSw; (try dsimp only at hSw); obtain ⟨rfl⟩ := hSw; go_simp; try with_reducible rfl⟩) (by assumption) ?_
            (try simp only [Act.put, List.setIfInBounds_toArray, List.set_cons_zero, List.set_cons_succ])
            refine take_first 7 (v := ?_) rfl (by kernel_rfl) (by kernel_rfl) (by kernel_rfl) (fun _ _ _ h => h) (Or.inl ⟨by rfl, by intro wx hSw; (try dsimp only at hSw); obtain ⟨rfl⟩ := hSw; go_simp; try with_reducible rfl⟩) (by assumption) ?_
            (try simp only [Act.put, List.setIfInBounds_toArray, List.set_cons_zero, List.set_cons_succ])
            refine take_first 8 (v := ?_) rfl (by kernel_rfl) (by kernel_rfl) (by kernel_rfl) (fun _ _ _ h => h) (Or.inl ⟨by rfl, by intro wx hSw; (try dsimp only at hSw); obtain ⟨rfl⟩ := hSw; go_simp; try with_reducible rfl⟩) (by assumption) ?_
            (try simp only [Act.put, List.setIfInBounds_toArray, List.set_cons_zero, List.set_cons_succ])
            refine take_first 9 (v := ?_) rfl (by kernel_rfl) (by kernel_rfl) (by kernel_rfl) (fun _ _ _ h => h) (Or.inl ⟨by rfl, by intro wx hSw; (try dsimp only at hSw); obtain ⟨rfl⟩ := hSw; go_simp; try with_reducible rfl⟩) (by assumption) ?_
            (try simp only [Act.put, List.setIfInBounds_toArray, List.set_cons_zero, List.set_cons_succ])
            refine take_first 10 (v := ?_) rfl (by kernel_rfl) (by kernel_rfl) (by kernel_rfl) (fun _ _ _ h => h) (Or.inl ⟨by rfl, by intro wx hSw; (try dsimp only at hSw); obtain ⟨rfl⟩ := hSw; go_simp; try with_reducible rfl⟩) (by assumption) ?_
            (try simp only [Act.put, List.setIfInBounds_toArray, List.set_cons_zero, List.set_cons_succ])
            refine take_first 11 (v := .int .i64 (j : Nat)) rfl (by kernel_rfl) (by kernel_rfl) (by kernel_rfl) (fun _ _ _ h => h) (Or.inl ⟨by rfl, by intro wx hSw; obtain rfl := hSw; go_simp; try exact IntWalk.i64_in _ (by omega)⟩) (by assumption) ?_
            (try simp only [Act.put, List.setIfInBounds_toArray, List.set_cons_zero, List.set_cons_succ])
            refine take_first 12 (v := ?_) rfl (by kernel_rfl) (by kernel_rfl) (by kernel_rfl) (fun _ _ _ h => h) (Or.inl ⟨by rfl, by intro wx hSw; (try dsimp only at hSw); obtain ⟨rfl⟩ := hSw; go_simp; try with_reducible rfl⟩) (by assumption) ?_
            (try simp only [Act.put, List.setIfInBounds_toArray, List.set_cons_zero, List.set_cons_succ])
            refine take_first 13 (v := .bool false) rfl (by kernel_rfl) (by kernel_rfl) (by kernel_rfl) (fun _ _ _ h => h) (Or.inl ⟨by rfl, by intro wx hSw; obtain rfl := hSw; go_simp⟩) (by assumption) ?_
            (try simp only [Act.put, List.setIfInBounds_toArray, List.set_cons_zero, List.set_cons_succ])
            refine take_first 14 (v := ?_) rfl (by kernel_rfl) (by kernel_rfl) (by kernel_rfl) (fun _ _ _ h => h) (Or.inl ⟨by rfl, by intro wx hSw; (try dsimp only at hSw); obtain ⟨rfl⟩ := hSw; go_simp; try with_reducible rfl⟩) (by assumption) ?_
            (try simp only [Act.put, List.setIfInBounds_toArray, List.set_cons_zero, List.set_cons_succ])
            refine take_first 15 (v := ?_) rfl (by kernel_rfl) (by kernel_rfl) (by kernel_rfl) (fun _ _ _ h => h) (Or.inl ⟨by rfl, by intro wx hSw; (try dsimp only at hSw); obtain ⟨rfl⟩ := hSw; go_simp; try with_reducible rfl⟩) (by assumption) ?_
            (try simp only [Act.put, List.setIfInBounds_toArray, List.set_cons_zero, List.set_cons_succ])
            refine take_first 16 (v := ?_) rfl (by kernel_rfl) (by kernel_rfl) (by kernel_rfl) (fun _ _ _ h => h) (Or.inl ⟨by rfl, by intro wx hSw; (try dsimp only at hSw); obtain ⟨rfl⟩ := hSw; go_simp; try with_reducible rfl⟩) (by assumption) ?_
            (try simp only [Act.put, List.setIfInBounds_toArray, List.set_cons_zero, List.set_cons_succ])
            refine take_first 17 (v := ?_) rfl (by kernel_rfl) (by kernel_rfl) (by kernel_rfl) (fun _ _ _ h => h) (Or.inl ⟨by rfl, by intro wx hSw; (try dsimp only at hSw); obtain ⟨rfl⟩ := hSw; go_simp; try with_reducible rfl⟩) (by assumption) ?_
            (try simp only [Act.put, List.setIfInBounds_toArray, List.set_cons_zero, List.set_cons_succ])
            refine take_first 18 (v := .slice (some ⟨ba, o1, none⟩) rn rn) rfl (by kernel_rfl) (by kernel_rfl) (by kernel_rfl) (fun _ _ _ h => h) (Or.inl ⟨by rfl, by intro wx hSw; obtain rfl := hSw; go_simp; try (rw [← hst]; try (by_cases h : rn = 0 <;> simp [h]))⟩) (by assumption) ?_
            (try simp only [Act.put, List.setIfInBounds_toArray, List.set_cons_zero, List.set_cons_succ])
            refine take_first 19 (v := ?_) rfl (by kernel_rfl) (by kernel_rfl) (by kernel_rfl) (fun _ _ _ h => h) (Or.inl ⟨by rfl, by intro wx hSw; (try dsimp only at hSw); obtain ⟨rfl⟩ := hSw; go_simp; try with_reducible rfl⟩) (by assumption) ?_
            (try simp only [Act.put, List.setIfInBounds_toArray, List.set_cons_zero, List.set_cons_succ])
            refine take_first 20 (v := ?_) rfl (by kernel_rfl) (by kernel_rfl) (by kernel_rfl) (fun _ _ _ h => h) (Or.inl ⟨by rfl, by intro wx hSw; (try dsimp only at hSw); obtain ⟨rfl⟩ := hSw; go_simp; try with_reducible rfl⟩) (by assumption) ?_
            (try simp only [Act.put, List.setIfInBounds_toArray, List.set_cons_zero, List.set_cons_succ])
            refine take_first 21 (v := ?_) rfl (by kernel_rfl) (by kernel_rfl) (by kernel_rfl) (fun _ _ _ h => h) (Or.inl ⟨by rfl, by intro wx hSw; (try dsimp only at hSw); obtain ⟨rfl⟩ := hSw; go_simp; try with_reducible rfl⟩) (by assumption) ?_
            (try simp only [Act.put, List.setIfInBounds_toArray, List.set_cons_zero, List.set_cons_succ])
            refine take_first 22 (v := ?_) rfl (by kernel_rfl) (by kernel_rfl) (by kernel_rfl) (fun _ _ _ h => h) (Or.inl ⟨by rfl, by intro wx hSw; (try dsimp only at hSw); obtain ⟨rfl⟩ := hSw; go_simp; try with_reducible rfl⟩) (by assumption) ?_
            (try simp only [Act.put, List.setIfInBounds_toArray, List.set_cons_zero, List.set_cons_succ])
            refine take_first 23 (v := ?_) rfl (by kernel_rfl) (by kernel_rfl) (by kernel_rfl) (fun _ _ _ h => h) (Or.inl ⟨by rfl, by intro wx hSw; (try dsimp only at hSw); obtain ⟨rfl⟩ := hSw; go_simp; try with_reducible rfl⟩) (by assumption) ?_
            (try simp only [Act.put, List.setIfInBounds_toArray, List.set_cons_zero, List.set_cons_succ])
            refine take_first 24 (v := ?_) rfl (by kernel_rfl) (by kernel_rfl) (by kernel_rfl) (fun _ _ _ h => h) (Or.inl ⟨by rfl, by intro wx hSw; (try dsimp only at hSw); obtain ⟨rfl⟩ := hSw; go_simp; try with_reducible rfl⟩) (by assumption) ?_
            (try simp only [Act.put, List.setIfInBounds_toArray, List.set_cons_zero, List.set_cons_succ])
            refine take_first 25 (v := ?_) rfl (by kernel_rfl) (by kernel_rfl) (by kernel_rfl) (fun _ _ _ h => h) (Or.inl ⟨by rfl, by intro wx hSw; (try dsimp only at hSw); obtain ⟨rfl⟩ := hSw; go_simp; try with_reducible rfl⟩) (by assumption) ?_
            (try simp only [Act.put, List.setIfInBounds_toArray, List.set_cons_zero, List.set_cons_succ])
            refine take_first 26 (v := ?_) rfl (by kernel_rfl) (by kernel_rfl) (by kernel_rfl) (fun _ _ _ h => h) (Or.inl ⟨by rfl, by intro wx hSw; (try dsimp only at hSw); obtain ⟨rfl⟩ := hSw; go_simp; try with_reducible rfl⟩) (by assumption) ?_
            (try simp only [Act.put, List.setIfInBounds_toArray, List.set_cons_zero, List.set_cons_succ])
            refine take_first 27 (v := ?_) rfl (by kernel_rfl) (by kernel_rfl) (by kernel_rfl) (fun _ _ _ h => h) (Or.inl ⟨by rfl, by intro wx hSw; (try dsimp only at hSw); obtain ⟨rfl⟩ := hSw; go_simp; try with_reducible rfl⟩) (by assumption) ?_
            (try simp only [Act.put, List.setIfInBounds_toArray, List.set_cons_zero, List.set_cons_succ])
            refine take_first 28 (v := ?_) rfl (by kernel_rfl) (by kernel_rfl) (by kernel_rfl) (fun _ _ _ h => h) (Or.inl ⟨by rfl, by intro wx hSw; (try dsimp only at hSw); obtain ⟨rfl⟩ := hSw; go_simp; try with_reducible rfl⟩) (by assumption) ?_
            (try simp only [Act.put, List.setIfInBounds_toArray, List.set_cons_zero, List.set_cons_succ])
            refine take_first 29 (v := ?_) rfl (by kernel_rfl) (by kernel_rfl) (by kernel_rfl) (fun _ _ _ h => h) (Or.inl ⟨by rfl, by intro wx hSw; (try dsimp only at hSw); obtain ⟨rfl⟩ := hSw; go_simp; try with_reducible rfl⟩) (by assumption) ?_
            (try simp only [Act.put, List.setIfInBounds_toArray, List.set_cons_zero, List.set_cons_succ])
            refine take_first 30 (v := ?_) rfl (by kernel_rfl) (by kernel_rfl) (by kernel_rfl) (fun _ _ _ h => h) (Or.inl ⟨by rfl, by intro wx hSw; (try dsimp only at hSw); obtain ⟨rfl⟩ := hSw; go_simp; try with_reducible rfl⟩) (by assumption) ?_
            (try simp only [Act.put, List.setIfInBounds_toArray, List.set_cons_zero, List.set_cons_succ])
            refine take_first 31 (v := ?_) rfl (by kernel_rfl) (by kernel_rfl) (by kernel_rfl) (fun _ _ _ h => h) (Or.inl ⟨by rfl, by intro wx hSw; (try dsimp only at hSw); obtain ⟨rfl⟩ := hSw; go_simp; try with_reducible rfl⟩) (by assumption) ?_
            (try simp only [Act.put, List.setIfInBounds_toArray, List.set_cons_zero, List.set_cons_succ])
            refine take_first 32 (v := ?_) rfl (by kernel_rfl) (by kernel_rfl) (by kernel_rfl) (fun _ _ _ h => h) (Or.inl ⟨by rfl, by intro wx hSw; (try dsimp only at hSw); obtain ⟨rfl⟩ := hSw; go_simp; try with_reducible rfl⟩) (by assumption) ?_
            (try simp only [Act.put, List.setIfInBounds_toArray, List.set_cons_zero, List.set_cons_succ])
            refine take_first 33 (v := ?_) rfl (by kernel_rfl) (by kernel_rfl) (by kernel_rfl) (fun _ _ _ h => h) (Or.inl ⟨by rfl, by intro wx hSw; (try dsimp only at hSw); obtain ⟨rfl⟩ := hSw; go_simp; try with_reducible rfl⟩) (by assumption) ?_
            (try simp only [Act.put, List.setIfInBounds_toArray, List.set_cons_zero, List.set_cons_succ])
            refine take_first 34 (v := ?_) rfl (by kernel_rfl) (by kernel_rfl) (by kernel_rfl) (fun _ _ _ h => h) (Or.inl ⟨by rfl, by intro wx hSw; (try dsimp only at hSw); obtain ⟨rfl⟩ := hSw; go_simp; try with_reducible rfl⟩) (by assumption) ?_
            (try simp only [Act.put, List.setIfInBounds_toArray, List.set_cons_zero, List.set_cons_succ])
            refine take_first 35 (v := ?_) rfl (by kernel_rfl) (by kernel_rfl) (by kernel_rfl) (fun _ _ _ h => h) (Or.inl ⟨by rfl, by intro wx hSw; (try dsimp only at hSw); obtain ⟨rfl⟩ := hSw; go_simp; try with_reducible rfl⟩) (by assumption) ?_
            (try simp only [Act.put, List.setIfInBounds_toArray, List.set_cons_zero, List.set_cons_succ])
            refine wpAnyH_done (by kernel_rfl) ?_ _
            refine NoPanic.normal ?_
            clear k6 k7 k8 k1 k4
            go_wp2
            rw [HWD.out]
            go_roundw
            case rel =>
              exact ⟨j + 1, Fa, Fb, B.eraseIdx kk, _, by omega, by go_num, HE.out.1, HLT.out, HE.out.2, HNE.out⟩
            case measure => simp [intOf]; omega
          · have hpkI : ¬ ((j : Int) < n) := by omega
            go_wp2_with fail
            refine hta'.mono ?_
            rintro e w11 ⟨ba, rfl, hba, hbyA, hNa, tA⟩
            have hT11 := HTT.out.goA hNa (goes_same tA)
            have hs11 := tA.size
            obtain ⟨oA, hoA⟩ : ∃ o, o = Obj.cells #[.int .i64 0, .int .i64 1, .slice (some ⟨ba, 0, none⟩) (rn + 1) (rn + 1)] 49 := ⟨_, rfl⟩
            have hbal := hbyA.lt
            have hT12 := hT11.up (bl1 w11 oA)
            have hs12 : (w11.alloc oA).heap.size = w11.heap.size + 1 := by simp
            have HBA : Hid (By (w11.alloc oA) ba (UInt8.ofNat j :: ms j)) := hbyA.of (Below.heap_alloc _ _ _ hbal)
            have HS12 : Hid ((w11.alloc oA).rowIs gs 4 i (fun k => .bool (S k))) := (HSS.out.of_block (tA.block gs hgsl (fun hx => HNE.out gs (.inl hx) rfl))).alloc oA
            have HT12 : Hid (Two w (w11.alloc oA) pa pb Fa Fb (((List.range i).drop (j + 1)).map (pk ms)) (B.map (pk ms))) := hT12
            have HCA : Hid ((w11.alloc oA).cell? ⟨w11.heap.size, 2, none⟩ = some (.slice (some ⟨ba, 0, none⟩) (rn + 1) (rn + 1))) := by
              show _ = _
              rw [hoA]; exact cell_box _ _ _ _ _ rfl
            clear hta' hNa tA hT11 hbyA HTT HSS
            have hkl : 0 < B.length := by omega
            obtain ⟨idx, hidx⟩ : ∃ idx, B[0]? = some idx := ⟨_, List.getElem?_eq_getElem (by omega)⟩
            have hidl : idx < i := HL.out.lt idx (List.mem_of_getElem? hidx)
            have hidlI : (idx : Int) < i := by omega
            have hSi : S idx = false := HL.out.new idx (List.mem_of_getElem? hidx)
            have htb := take_any HT12.out.nb 0 (pk ms idx) (by rw [List.getElem?_map, hidx]; rfl) hh01
            unfold pkt at htb
            rw [map_erase] at htb
            have htB : (pk ms idx).told = UInt8.ofNat idx :: ms idx := rfl
            obtain ⟨rq, HRQ⟩ : ∃ rq, Hid ((ms idx).length = rq) := ⟨_, Eq.refl _⟩
            have hxB : (pk ms idx).xs.length = rq + 1 := by show (ms idx).length + 1 = _; rw [HRQ.out]
            rw [htB, hxB, show (pk ms idx).f = 0 from rfl, show (pk ms idx).t = 1 from rfl] at htb
            have htb' : Calls Try.prog 24 #[.pointer (some ⟨pb, 0, none⟩), .int .i64 0] (w11.alloc oA) _ := htb
            have HLT : Hid (Left ms i (j + 1) (B.eraseIdx 0) (fun x => if x = idx then true else S x)) := HL.out.take hidx
            have hrq : rq ≤ 1000 := by
              have h1 := (HQ.out.row idx hidl).1.1
              have h2 := HSM.out idx hidl
              have := HRQ.out
              omega
            rw [hoA] at htb'
            clear htb hidx
            go_wp2_with fail
            refine htb'.mono ?_
            rw [← hoA]
            rintro e w13 ⟨bb, rfl, hbb, hbyB, hNb, tB⟩
            have hT13 := HT12.out.goB hNb (goes_same tB)
            have hs13 := tB.size
            obtain ⟨oQ, hoQ⟩ : ∃ o, o = Obj.cells #[.int .i64 0, .int .i64 1, .slice (some ⟨bb, 0, none⟩) (rq + 1) (rq + 1)] 49 := ⟨_, rfl⟩
            have hbbl := hbyB.lt
            have hT14 := hT13.up (bl1 w13 oQ)
            have hkp : ∀ b, b < (w11.alloc oA).heap.size → ¬ Fb b → (w13.alloc oQ).heap[b]? = (w11.alloc oA).heap[b]? := fun b h1 h2 => (Below.heap_alloc _ _ _ (by omega)).trans (tB.block b h1 h2)
            have hcA : (w13.alloc oQ).cell? ⟨w11.heap.size, 2, none⟩ = some (.slice (some ⟨ba, 0, none⟩) (rn + 1) (rn + 1)) := (cell_block (hkp w11.heap.size (by omega) (fun hx => by have := hFb0 _ hx; omega))).trans HCA.out
            have hbyA : By (w13.alloc oQ) ba (UInt8.ofNat j :: ms j) := HBA.out.of (hkp ba (by omega) (fun hx => by have := hFb0 _ hx; omega))
            have hcQ : (w13.alloc oQ).cell? ⟨w13.heap.size, 2, none⟩ = some (.slice (some ⟨bb, 0, none⟩) (rq + 1) (rq + 1)) := by rw [hoQ]; exact cell_box _ _ _ _ _ rfl
            have hbyQ : By (w13.alloc oQ) bb (UInt8.ofNat idx :: ms idx) := hbyB.of (Below.heap_alloc _ _ _ hbbl)
            have hS14 : (w13.alloc oQ).rowIs gs 4 i (fun k => .bool (S k)) := HS12.out.of_block (hkp gs (by omega) (fun hx => HNE.out gs (.inr hx) rfl))
            have hcS : (w13.alloc oQ).cell? ⟨gs, idx, none⟩ = some (.bool false) := by rw [hS14.cell hidl, hSi]
            have hfS := hS14.frozen idx
            have hc0 : (w13.alloc oQ).cell? ⟨ba, 0, none⟩ = some (.int .u8 (j : Nat)) := by
              rw [hbyA.cell (by simp)]
              show some (Value.int .u8 ((UInt8.ofNat j).toNat : Int)) = _
              rw [byte_small (by omega)]
            have hc1 : (w13.alloc oQ).cell? ⟨bb, 0, none⟩ = some (.int .u8 (idx : Nat)) := by
              rw [hbyQ.cell (by simp)]
              show some (Value.int .u8 ((UInt8.ofNat idx).toNat : Int)) = _
              rw [byte_small (by omega)]
            have hcl : (w13.alloc oQ).cell? ⟨gl, off + j, none⟩ = some (.slice ro rn rc) := (hT14.bl.cell hgl).trans hcj
            have hcv1 := conv_row (HROW.out.below hT14.bl (Nat.le_refl _))
            obtain ⟨o1, ho1⟩ : ∃ o1, o1 = if rn = 0 then 0 else 1 := ⟨_, rfl⟩
            have hst := slice_tail rn ba o1 ho1
            have hcv2 := conv_row (row_tail hbyA (by omega) o1 (by by_cases h : rn = 0 <;> simp [h] at ho1 <;> omega))
            rw [hml] at hcv2
            have hbe : ((str (ms j)).toList == (str (ms j)).toList) = true := by simp
            have HE : Hid (Two w ((w13.alloc oQ).setCell ⟨gs, idx, none⟩ (.bool true)).drew pa pb Fa Fb (((List.range i).drop (j + 1)).map (pk ms)) ((B.eraseIdx 0).map (pk ms)) ∧ ((w13.alloc oQ).setCell ⟨gs, idx, none⟩ (.bool true)).drew.rowIs gs 4 i (fun k => .bool (if k = idx then true else S k))) := by
              refine ⟨hT14.frame (w' := ((w13.alloc oQ).setCell ⟨gs, idx, none⟩ (.bool true)).drew) (by simp [World.setCell]) (fun b hb => set_block_other (HNE.out b hb)) (hT14.bl.setCell hgs0 _).drew, ?_⟩
              refine (hS14.set idx (.bool true)).congr (fun k hk => ?_)
              by_cases e : k = idx
              · rw [if_pos e, if_pos e]
              · rw [if_neg e, if_neg e]
            have hnej : ((j : Int) == (j : Int)) = true := by simp
            obtain ⟨wd, hwd⟩ : ∃ wd, wd = (w13.alloc oQ).drew := ⟨_, rfl⟩
            have k1 : wd.cell? ⟨w11.heap.size, 2, none⟩ = some (.slice (some ⟨ba, 0, none⟩) (rn + 1) (rn + 1)) := by rw [hwd]; exact hcA
            have k2 : wd.cell? ⟨w13.heap.size, 2, none⟩ = some (.slice (some ⟨bb, 0, none⟩) (rq + 1) (rq + 1)) := by rw [hwd]; exact hcQ
            have k3 : wd.cell? ⟨gs, idx, none⟩ = some (.bool false) := by rw [hwd]; exact hcS
            have k4 : wd.cell? ⟨ba, 0, none⟩ = some (.int .u8 (j : Nat)) := by rw [hwd]; exact hc0
            have k5 : wd.cell? ⟨bb, 0, none⟩ = some (.int .u8 (idx : Nat)) := by rw [hwd]; exact hc1
            have k6 : wd.cell? ⟨gl, off + j, none⟩ = some (.slice ro rn rc) := by rw [hwd]; exact hcl
            have k7 : (convert 35 9 (.slice ro rn rc)).run Try.prog wd = .ok (.string (str (ms j))) wd := by rw [hwd]; exact conv_row (HROW.out.below hT14.bl.drew (Nat.le_refl _))
            have k8 : (convert 35 9 (.slice (some ⟨ba, o1, none⟩) rn rn)).run Try.prog wd = .ok (.string (str (ms j))) wd := by
              rw [hwd]
              have := conv_row (row_tail (show By (w13.alloc oQ).drew ba (UInt8.ofNat j :: ms j) from hbyA) (by omega) o1 (by by_cases h : rn = 0 <;> simp [h] at ho1 <;> omega))
              rw [hml] at this
              exact this
            have k9 : wd.frozen? ⟨gs, idx, none⟩ = false := by rw [hwd]; exact hfS
            have HWD : Hid (wd = (w13.alloc oQ).drew) := hwd
            have h01 : (0 : Int) < (rn : Int) + 1 := by omega
            have h02 : (0 : Int) < (rq : Int) + 1 := by omega
            have h03 : (1 : Int) ≤ (rn : Int) + 1 := by omega
            rw [hoQ] at hwd
            clear htb' hNb tB hT13 hT14 hkp hbyA hbyB hbyQ hS14 HBA HS12 HT12 HCA hcA hcQ hcS hc0 hc1 hcl hcv1 hcv2 hfS ho1 hcj
            go_wp2_with fail
            refine wp_region_noPanic ?_
            refine wp_region_held_drew (S := fun wx => wx = wd) (by kernel_rfl) hwd.symm (fun hHeld => ?_)
            rw [← hwd]
            clear hHeld hwd
            have hHeld : wd = wd := rfl
            refine take_first 0 (v := ?_) rfl (by kernel_rfl) (by kernel_rfl) (by kernel_rfl) (fun _ _ _ h => h) (Or.inl ⟨by rfl, by intro wx hSw; (try dsimp only at hSw); obtain ⟨rfl⟩ := hSw; go_simp; try with_reducible rfl⟩) (by assumption) ?_
            (try simp only [Act.put, List.setIfInBounds_toArray, List.set_cons_zero, List.set_cons_succ])
            refine take_first 1 (v := ?_) rfl (by kernel_rfl) (by kernel_rfl) (by kernel_rfl) (fun _ _ _ h => h) (Or.inl ⟨by rfl, by intro wx hSw; (try dsimp only at hSw); obtain ⟨rfl⟩ := hSw; go_simp; try with_reducible rfl⟩) (by assumption) ?_
            (try simp only [Act.put, List.setIfInBounds_toArray, List.set_cons_zero, List.set_cons_succ])
            refine take_first 2 (v := ?_) rfl (by kernel_rfl) (by kernel_rfl) (by kernel_rfl) (fun _ _ _ h => h) (Or.inl ⟨by rfl, by intro wx hSw; (try dsimp only at hSw); obtain ⟨rfl⟩ := hSw; go_simp; try with_reducible rfl⟩) (by assumption) ?_
            (try simp only [Act.put, List.setIfInBounds_toArray, List.set_cons_zero, List.set_cons_succ])
            refine take_first 3 (v := ?_) rfl (by kernel_rfl) (by kernel_rfl) (by kernel_rfl) (fun _ _ _ h => h) (Or.inl ⟨by rfl, by intro wx hSw; (try dsimp only at hSw); obtain ⟨rfl⟩ := hSw; go_simp; try with_reducible rfl⟩) (by assumption) ?_
            (try simp only [Act.put, List.setIfInBounds_toArray, List.set_cons_zero, List.set_cons_succ])
            refine take_first 4 (v := ?_) rfl (by kernel_rfl) (by kernel_rfl) (by kernel_rfl) (fun _ _ _ h => h) (Or.inl ⟨by rfl, by intro wx hSw; (try dsimp only at hSw); obtain ⟨rfl⟩ := hSw; go_simp; try with_reducible rfl⟩) (by assumption) ?_
            (try simp only [Act.put, List.setIfInBounds_toArray, List.set_cons_zero, List.set_cons_succ])
            refine take_first 5 (v := ?_) rfl (by kernel_rfl) (by kernel_rfl) (by kernel_rfl) (fun _ _ _ h => h) (Or.inl ⟨by rfl, by intro wx hSw; (try dsimp only at hSw); obtain ⟨rfl⟩ := hSw; go_simp; try with_reducible rfl⟩) (by assumption) ?_
            (try simp only [Act.put, List.setIfInBounds_toArray, List.set_cons_zero, List.set_cons_succ])
            refine take_first 6 (v := ?_) rfl (by kernel_rfl) (by kernel_rfl) (by kernel_rfl) (fun _ _ _ h => h) (Or.inl ⟨by rfl, by intro wx hSw; (try dsimp only at hSw); obtain ⟨rfl⟩ := hSw; go_simp; try with_reducible rfl⟩) (by assumption) ?_
            (try simp only [Act.put, List.setIfInBounds_toArray, List.set_cons_zero, List.set_cons_succ])
            refine take_first 7 (v := ?_) rfl (by kernel_rfl) (by kernel_rfl) (by kernel_rfl) (fun _ _ _ h => h) (Or.inl ⟨by rfl, by intro wx hSw; (try dsimp only at hSw); obtain ⟨rfl⟩ := hSw; go_simp; try with_reducible rfl⟩) (by assumption) ?_
            (try simp only [Act.put, List.setIfInBounds_toArray, List.set_cons_zero, List.set_cons_succ])
            refine take_first 8 (v := ?_) rfl (by kernel_rfl) (by kernel_rfl) (by kernel_rfl) (fun _ _ _ h => h) (Or.inl ⟨by rfl, by intro wx hSw; (try dsimp only at hSw); obtain ⟨rfl⟩ := hSw; go_simp; try with_reducible rfl⟩) (by assumption) ?_
            (try simp only [Act.put, List.setIfInBounds_toArray, List.set_cons_zero, List.set_cons_succ])
            refine take_first 9 (v := ?_) rfl (by kernel_rfl) (by kernel_rfl) (by kernel_rfl) (fun _ _ _ h => h) (Or.inl ⟨by rfl, by intro wx hSw; (try dsimp only at hSw); obtain ⟨rfl⟩ := hSw; go_simp; try with_reducible rfl⟩) (by assumption) ?_
            (try simp only [Act.put, List.setIfInBounds_toArray, List.set_cons_zero, List.set_cons_succ])
            refine take_first 10 (v := ?_) rfl (by kernel_rfl) (by kernel_rfl) (by kernel_rfl) (fun _ _ _ h => h) (Or.inl ⟨by rfl, by intro wx hSw; (try dsimp only at hSw); obtain ⟨rfl⟩ := hSw; go_simp; try with_reducible rfl⟩) (by assumption) ?_
            (try simp only [Act.put, List.setIfInBounds_toArray, List.set_cons_zero, List.set_cons_succ])
            refine take_first 11 (v := .int .i64 (j : Nat)) rfl (by kernel_rfl) (by kernel_rfl) (by kernel_rfl) (fun _ _ _ h => h) (Or.inl ⟨by rfl, by intro wx hSw; obtain rfl := hSw; go_simp; try exact IntWalk.i64_in _ (by omega)⟩) (by assumption) ?_
            (try simp only [Act.put, List.setIfInBounds_toArray, List.set_cons_zero, List.set_cons_succ])
            refine take_first 12 (v := ?_) rfl (by kernel_rfl) (by kernel_rfl) (by kernel_rfl) (fun _ _ _ h => h) (Or.inl ⟨by rfl, by intro wx hSw; (try dsimp only at hSw); obtain ⟨rfl⟩ := hSw; go_simp; try with_reducible rfl⟩) (by assumption) ?_
            (try simp only [Act.put, List.setIfInBounds_toArray, List.set_cons_zero, List.set_cons_succ])
            refine take_first 13 (v := .bool false) rfl (by kernel_rfl) (by kernel_rfl) (by kernel_rfl) (fun _ _ _ h => h) (Or.inl ⟨by rfl, by intro wx hSw; obtain rfl := hSw; go_simp⟩) (by assumption) ?_
            (try simp only [Act.put, List.setIfInBounds_toArray, List.set_cons_zero, List.set_cons_succ])
            refine take_first 14 (v := ?_) rfl (by kernel_rfl) (by kernel_rfl) (by kernel_rfl) (fun _ _ _ h => h) (Or.inl ⟨by rfl, by intro wx hSw; (try dsimp only at hSw); obtain ⟨rfl⟩ := hSw; go_simp; try with_reducible rfl⟩) (by assumption) ?_
            (try simp only [Act.put, List.setIfInBounds_toArray, List.set_cons_zero, List.set_cons_succ])
            refine take_first 15 (v := ?_) rfl (by kernel_rfl) (by kernel_rfl) (by kernel_rfl) (fun _ _ _ h => h) (Or.inl ⟨by rfl, by intro wx hSw; (try dsimp only at hSw); obtain ⟨rfl⟩ := hSw; go_simp; try with_reducible rfl⟩) (by assumption) ?_
            (try simp only [Act.put, List.setIfInBounds_toArray, List.set_cons_zero, List.set_cons_succ])
            refine take_first 16 (v := ?_) rfl (by kernel_rfl) (by kernel_rfl) (by kernel_rfl) (fun _ _ _ h => h) (Or.inl ⟨by rfl, by intro wx hSw; (try dsimp only at hSw); obtain ⟨rfl⟩ := hSw; go_simp; try with_reducible rfl⟩) (by assumption) ?_
            (try simp only [Act.put, List.setIfInBounds_toArray, List.set_cons_zero, List.set_cons_succ])
            refine take_first 17 (v := ?_) rfl (by kernel_rfl) (by kernel_rfl) (by kernel_rfl) (fun _ _ _ h => h) (Or.inl ⟨by rfl, by intro wx hSw; (try dsimp only at hSw); obtain ⟨rfl⟩ := hSw; go_simp; try with_reducible rfl⟩) (by assumption) ?_
            (try simp only [Act.put, List.setIfInBounds_toArray, List.set_cons_zero, List.set_cons_succ])
            refine take_first 18 (v := .slice (some ⟨ba, o1, none⟩) rn rn) rfl (by kernel_rfl) (by kernel_rfl) (by kernel_rfl) (fun _ _ _ h => h) (Or.inl ⟨by rfl, by intro wx hSw; obtain rfl := hSw; go_simp; try (rw [← hst]; try (by_cases h : rn = 0 <;> simp [h]))⟩) (by assumption) ?_
            (try simp only [Act.put, List.setIfInBounds_toArray, List.set_cons_zero, List.set_cons_succ])
            refine take_first 19 (v := ?_) rfl (by kernel_rfl) (by kernel_rfl) (by kernel_rfl) (fun _ _ _ h => h) (Or.inl ⟨by rfl, by intro wx hSw; (try dsimp only at hSw); obtain ⟨rfl⟩ := hSw; go_simp; try with_reducible rfl⟩) (by assumption) ?_
            (try simp only [Act.put, List.setIfInBounds_toArray, List.set_cons_zero, List.set_cons_succ])
            refine take_first 20 (v := ?_) rfl (by kernel_rfl) (by kernel_rfl) (by kernel_rfl) (fun _ _ _ h => h) (Or.inl ⟨by rfl, by intro wx hSw; (try dsimp only at hSw); obtain ⟨rfl⟩ := hSw; go_simp; try with_reducible rfl⟩) (by assumption) ?_
            (try simp only [Act.put, List.setIfInBounds_toArray, List.set_cons_zero, List.set_cons_succ])
            refine take_first 21 (v := ?_) rfl (by kernel_rfl) (by kernel_rfl) (by kernel_rfl) (fun _ _ _ h => h) (Or.inl ⟨by rfl, by intro wx hSw; (try dsimp only at hSw); obtain ⟨rfl⟩ := hSw; go_simp; try with_reducible rfl⟩) (by assumption) ?_
            (try simp only [Act.put, List.setIfInBounds_toArray, List.set_cons_zero, List.set_cons_succ])
            refine take_first 22 (v := ?_) rfl (by kernel_rfl) (by kernel_rfl) (by kernel_rfl) (fun _ _ _ h => h) (Or.inl ⟨by rfl, by intro wx hSw; (try dsimp only at hSw); obtain ⟨rfl⟩ := hSw; go_simp; try with_reducible rfl⟩) (by assumption) ?_
            (try simp only [Act.put, List.setIfInBounds_toArray, List.set_cons_zero, List.set_cons_succ])
            refine take_first 23 (v := ?_) rfl (by kernel_rfl) (by kernel_rfl) (by kernel_rfl) (fun _ _ _ h => h) (Or.inl ⟨by rfl, by intro wx hSw; (try dsimp only at hSw); obtain ⟨rfl⟩ := hSw; go_simp; try with_reducible rfl⟩) (by assumption) ?_
            (try simp only [Act.put, List.setIfInBounds_toArray, List.set_cons_zero, List.set_cons_succ])
            refine take_first 24 (v := ?_) rfl (by kernel_rfl) (by kernel_rfl) (by kernel_rfl) (fun _ _ _ h => h) (Or.inl ⟨by rfl, by intro wx hSw; (try dsimp only at hSw); obtain ⟨rfl⟩ := hSw; go_simp; try with_reducible rfl⟩) (by assumption) ?_
            (try simp only [Act.put, List.setIfInBounds_toArray, List.set_cons_zero, List.set_cons_succ])
            refine take_first 25 (v := ?_) rfl (by kernel_rfl) (by kernel_rfl) (by kernel_rfl) (fun _ _ _ h => h) (Or.inl ⟨by rfl, by intro wx hSw; (try dsimp only at hSw); obtain ⟨rfl⟩ := hSw; go_simp; try with_reducible rfl⟩) (by assumption) ?_
            (try simp only [Act.put, List.setIfInBounds_toArray, List.set_cons_zero, List.set_cons_succ])
            refine take_first 26 (v := ?_) rfl (by kernel_rfl) (by kernel_rfl) (by kernel_rfl) (fun _ _ _ h => h) (Or.inl ⟨by rfl, by intro wx hSw; (try dsimp only at hSw); obtain ⟨rfl⟩ := hSw; go_simp; try with_reducible rfl⟩) (by assumption) ?_
            (try simp only [Act.put, List.setIfInBounds_toArray, List.set_cons_zero, List.set_cons_succ])
            refine take_first 27 (v := ?_) rfl (by kernel_rfl) (by kernel_rfl) (by kernel_rfl) (fun _ _ _ h => h) (Or.inl ⟨by rfl, by intro wx hSw; (try dsimp only at hSw); obtain ⟨rfl⟩ := hSw; go_simp; try with_reducible rfl⟩) (by assumption) ?_
            (try simp only [Act.put, List.setIfInBounds_toArray, List.set_cons_zero, List.set_cons_succ])
            refine take_first 28 (v := ?_) rfl (by kernel_rfl) (by kernel_rfl) (by kernel_rfl) (fun _ _ _ h => h) (Or.inl ⟨by rfl, by intro wx hSw; (try dsimp only at hSw); obtain ⟨rfl⟩ := hSw; go_simp; try with_reducible rfl⟩) (by assumption) ?_
            (try simp only [Act.put, List.setIfInBounds_toArray, List.set_cons_zero, List.set_cons_succ])
            refine take_first 29 (v := ?_) rfl (by kernel_rfl) (by kernel_rfl) (by kernel_rfl) (fun _ _ _ h => h) (Or.inl ⟨by rfl, by intro wx hSw; (try dsimp only at hSw); obtain ⟨rfl⟩ := hSw; go_simp; try with_reducible rfl⟩) (by assumption) ?_
            (try simp only [Act.put, List.setIfInBounds_toArray, List.set_cons_zero, List.set_cons_succ])
            refine take_first 30 (v := ?_) rfl (by kernel_rfl) (by kernel_rfl) (by kernel_rfl) (fun _ _ _ h => h) (Or.inl ⟨by rfl, by intro wx hSw; (try dsimp only at hSw); obtain ⟨rfl⟩ := hSw; go_simp; try with_reducible rfl⟩) (by assumption) ?_
            (try simp only [Act.put, List.setIfInBounds_toArray, List.set_cons_zero, List.set_cons_succ])
            refine take_first 31 (v := ?_) rfl (by kernel_rfl) (by kernel_rfl) (by kernel_rfl) (fun _ _ _ h => h) (Or.inl ⟨by rfl, by intro wx hSw; (try dsimp only at hSw); obtain ⟨rfl⟩ := hSw; go_simp; try with_reducible rfl⟩) (by assumption) ?_
            (try simp only [Act.put, List.setIfInBounds_toArray, List.set_cons_zero, List.set_cons_succ])
            refine take_first 32 (v := ?_) rfl (by kernel_rfl) (by kernel_rfl) (by kernel_rfl) (fun _ _ _ h => h) (Or.inl ⟨by rfl, by intro wx hSw; (try dsimp only at hSw); obtain ⟨rfl⟩ := hSw; go_simp; try with_reducible rfl⟩) (by assumption) ?_
            (try simp only [Act.put, List.setIfInBounds_toArray, List.set_cons_zero, List.set_cons_succ])
            refine take_first 33 (v := ?_) rfl (by kernel_rfl) (by kernel_rfl) (by kernel_rfl) (fun _ _ _ h => h) (Or.inl ⟨by rfl, by intro wx hSw; (try dsimp only at hSw); obtain ⟨rfl⟩ := hSw; go_simp; try with_reducible rfl⟩) (by assumption) ?_
            (try simp only [Act.put, List.setIfInBounds_toArray, List.set_cons_zero, List.set_cons_succ])
            refine take_first 34 (v := ?_) rfl (by kernel_rfl) (by kernel_rfl) (by kernel_rfl) (fun _ _ _ h => h) (Or.inl ⟨by rfl, by intro wx hSw; (try dsimp only at hSw); obtain ⟨rfl⟩ := hSw; go_simp; try with_reducible rfl⟩) (by assumption) ?_
            (try simp only [Act.put, List.setIfInBounds_toArray, List.set_cons_zero, List.set_cons_succ])
            refine take_first 35 (v := ?_) rfl (by kernel_rfl) (by kernel_rfl) (by kernel_rfl) (fun _ _ _ h => h) (Or.inl ⟨by rfl, by intro wx hSw; (try dsimp only at hSw); obtain ⟨rfl⟩ := hSw; go_simp; try with_reducible rfl⟩) (by assumption) ?_
            (try simp only [Act.put, List.setIfInBounds_toArray, List.set_cons_zero, List.set_cons_succ])
            refine wpAnyH_done (by kernel_rfl) ?_ _
            refine NoPanic.normal ?_
            clear k6 k7 k8 k1 k4
            go_wp2
            rw [HWD.out]
            go_roundw
            case rel =>
              exact ⟨j + 1, Fa, Fb, B.eraseIdx 0, _, by omega, by go_num, HE.out.1, HLT.out, HE.out.2, HNE.out⟩
            case measure => simp [intOf]; omega
        · obtain rfl : j = i := by omega
          have hB0 : B = [] := List.length_eq_zero_iff.1 (by rw [hL.len]; omega)
          have hla : Calls Try.prog 14 #[.pointer (some ⟨pa, 0, none⟩)] wr fun e w' => e = .returned (.int .i64 0) ∧ wr = w' := by
            have := len_any hT.na
            rw [List.length_map, List.length_drop, List.length_range, Nat.sub_self] at this
            exact this
          have hlb : Calls Try.prog 14 #[.pointer (some ⟨pb, 0, none⟩)] wr fun e w' => e = .returned (.int .i64 0) ∧ wr = w' := by
            have := len_any hT.nb
            rw [hB0] at this
            exact this
          have hlo : Calls Try.prog 15 #[.pointer (some ⟨pa, 0, none⟩)] wr fun e w' => e = .returned (.int .i64 0) ∧ wr = w' := lost_any hT.na
          have HB : Hid (Below w.heap.size w wr) := hT.bl
          clear hT hL hS hne hB0
          go_wp2_with fail
          refine hla.mono ?_
          rintro e w11 ⟨rfl, rfl⟩
          go_wp2_with fail
          refine hlb.mono ?_
          rintro e w11 ⟨rfl, rfl⟩
          go_wp2_with fail
          refine hlo.mono ?_
          rintro e w11 ⟨rfl, rfl⟩
          go_wp2_with fail
          go_ret
          exact ⟨rfl, HB.out⟩


set_option maxRecDepth 100000 in
theorem lifted (os : Os) (started : os.Started) (H : Type) (enc : TypeId × Value → H) :
    ReturnsInHanded {} Try.checked os 8 .any (Rows.netOrderSpec.pre6 enc Try.prog Try.f8 Rows.netOrderRow.domain false) (Rows.netOrderSpec.post enc Try.prog Try.f8 false true false false) := by
  refine returnsInHanded_of_change_sized (C := Try.checked) own started (by kernel_rfl) Try.func8
    (ChangeSpec.witness6 (enc := enc) (C := Try.checked) false ⟨#[], #[.slice none 0 0, .slice none 0 0], []⟩ 8 (by kernel_rfl) (by kernel_rfl) (by kernel_rfl) (by kernel_rfl)) ?_
  intro W base args ds gs before hval0 hW hcnd hsz0 _
  have hsz : (DataW.weightsEach Try.prog (Try.f8.params.toList ++ Rows.netOrderSpec.plain.varTypes Try.prog) (ds ++ gs)).all (· ≤ reachBytes) = true := hsz0
  have hval : ∀ (j : Nat) t v, Try.f8.params[j]? = some t → args[j]? = some v → Value.okWide Try.prog W .any base t v := hval0
  have hW' := hW
  obtain ⟨p, q, hA0, hV, rfl, hfz, hnd⟩ := hW
  have hA : DataW.TrodAll enc Try.prog W 0 (fun _ => true) true Try.f8.params.toList args.toList ds p := hA0
  rw [Try.params8] at hA hval hsz
  obtain ⟨v0, vs0, d0, ds0, p0, q0, hargs0, rfl, rfl, h0, r0⟩ := trodAll_cons hA
  obtain ⟨v1, vs1, d1, ds1, p1, q1, hargs1, rfl, rfl, h1, r1⟩ := trodAll_cons r0
  obtain ⟨rfl, rfl, rfl⟩ := trodAll_nil r1
  obtain rfl : args = #[v0, v1] := by cases args; simp_all
  obtain ⟨rfl, rfl⟩ := trodVars_none hV
  obtain ⟨a0, len0, cap0, rfl⟩ := okWide_slice Try.underlying56 (hval 0 56 v0 rfl rfl)
  have k0 := h0
  have lt0 : ∀ x ∈ p0, x.block < W.heap.size := by obtain ⟨m, hm⟩ := k0; exact DataW.trod_lt m _ _ _ hm
  obtain ⟨xs0, hx0⟩ := open_msgs h0 hsz (j := 0) rfl rfl
  obtain ⟨a1, len1, cap1, rfl⟩ := okWide_slice Try.underlying35 (hval 1 35 v1 rfl rfl)
  have k1 := h1
  have lt1 : ∀ x ∈ p1, x.block < W.heap.size := by obtain ⟨m, hm⟩ := k1; exact DataW.trod_lt m _ _ _ hm
  obtain ⟨xs1, hx1, hc1⟩ := open_bytes h1 hsz (j := 1) rfl rfl
  clear hA0 hval0 hsz hsz0
  refine (walk W a0 len0 cap0 xs0 hx0 a1 len1 cap1 xs1 hx1 hc1).mono fun e W' ⟨he, bel⟩ => ?_
  subst he
  exact ⟨_, rfl, _, _, _, [], _, [], hW', trodAll_mk1 (shut_bool Try.underlying4 _), (trodAll_cons_mk (Below.trod laidOut (by kernel_rfl) (of_decide_eq_true (by kernel_rfl)) k0 bel lt0) (trodAll_cons_mk (Below.trod laidOut (by kernel_rfl) (of_decide_eq_true (by kernel_rfl)) k1 bel lt1) trodAll_mk0)), rfl, bel.frame _, fun h => by cases h⟩

theorem over : Rows.netOrderRow.holds Try.pinned (OpenSpec.ofChange Rows.netOrderSpec) :=
  OpenClaim.holds_of_wide 8 Try.f8 rfl rfl rfl rfl rfl rfl rfl ⟨rfl, rfl, rfl, rfl, rfl⟩ rfl rfl rfl rfl rfl (by kernel_rfl) Try.func8 (by kernel_rfl)
    (of_decide_eq_true (by kernel_rfl)) (by unfold Func.isWrapper; first | (rw [if_pos (by decide +kernel)]; kernel_rfl) | (rw [if_neg (by decide +kernel)]; exact ⟨rfl, rfl⟩))
    (fun os started H enc _ => lifted os started H enc)

end Go.Proofs.Ytagabmhgcmnldaa.netOrder
namespace Go.Proofs.Ytagabmhgcmnldaa
theorem netOrder_holds : Rows.NetOrderSaid := netOrder.over
#print axioms netOrder_holds
end Go.Proofs.Ytagabmhgcmnldaa
