/-
  Proved: for all bytes p and all numbers bits, NetTurns(p, bits) returns true: of one packet, and of its doubles, two bits are turned at most; a bit that is turned twice is as it was. No condition.
-/
import Derived.Test.YtagabmhgcmnldaaNArgs2
namespace Go.Proofs.Ytagabmhgcmnldaa.netTurns
open Go.ChangeShapes Go.WideShapes Go.ChangeAt Go.RowKit
open Go.ChangeMaps (open_string shut_string)
set_option linter.unusedVariables false
set_option linter.unusedSimpArgs false

theorem walk_none (w : World) (ao : Option Addr) (n cap : Nat) (bo : Option Addr) (m bc : Nat) (hn : n = 0 ∨ 1000 < n) (hnc : n ≤ cap) (hc : cap ≤ 140737488351232) :
    Calls Try.prog 10 #[.slice ao n cap, .slice bo m bc] w fun e w' => e = .returned (.bool true) ∧ Below w.heap.size w w' := by
  rcases hn with rfl | hn
  · go_enter Try.func10, Try.ntmps10
    go_wp2_with fail
    refine (awake_any _).mono ?_
    rintro e w1 ⟨rfl, b1⟩
    go_wp2_with fail
    refine (awake_any _).mono ?_
    rintro e w2 ⟨rfl, b2⟩
    go_wp2
    go_ret
    exact ⟨rfl, bl_step b1 b2⟩
  · have h0 : ((n : Int) == 0) = false := by
      have : ¬ ((n : Int) = 0) := by omega
      simpa using this
    go_enter Try.func10, Try.ntmps10
    go_wp2_with fail
    refine (awake_any _).mono ?_
    rintro e w1 ⟨rfl, b1⟩
    go_wp2_with fail
    refine (awake_any _).mono ?_
    rintro e w2 ⟨rfl, b2⟩
    go_wp2
    go_ret
    exact ⟨rfl, bl_step b1 b2⟩
/-- What holds ahead of each round. -/
structure Inv (w wr : World) (p g n c : Nat) (xs zs : List UInt8) (G : Nat → Prop) (A : List Pa) (a : Pa) (nn : Nat) : Prop where
  nt : Nt wr G p 2 (allN 2) 0 (A ++ [a])
  ax : a.xs = xs
  an : a.ts.length = nn
  told : a.told = zs
  f : a.f = 0
  t : a.t = 1
  own : wr.ownsRow w.heap.size 5 1 (.slice (some ⟨g, 0, none⟩) n c) n (zs.map by8)
  gG : ∀ b, G b → b ≠ g
  G0 : ∀ b, G b → w.heap.size ≤ b
  bl : Below w.heap.size w wr
theorem set_last (A : List Pa) (a b : Pa) : (A ++ [a]).set A.length b = A ++ [b] := by simp
theorem get_last (A : List Pa) (a : Pa) : (A ++ [a])[A.length]? = some a := by simp
theorem told_turn (a : Pa) (k : Nat) : (a.turn k).told = flip a.told k := by
  unfold Pa.turn Pa.told
  simp
theorem Inv.drewN {w wr : World} {p g n c : Nat} {xs zs : List UInt8} {G : Nat → Prop} {A : List Pa} {a : Pa} {nn : Nat} (h : Inv w wr p g n c xs zs G A a nn) (q : Nat) : Inv w (wr.drewN q) p g n c xs zs G A a nn :=
  { h with nt := h.nt.drewN q, own := h.own, bl := bl_drewN h.bl q }
/-- Doubled. -/
theorem Inv.double {w wr w' : World} {p g n c : Nat} {xs zs : List UInt8} {G G' : Nat → Prop} {A : List Pa} {a : Pa} {nn : Nat} (h : Inv w wr p g n c xs zs G A a nn) (hN : Nt w' G' p 2 (allN 2) 0 (A ++ [a] ++ [a])) (hg : Goes G wr G' w') (hgl : g < wr.heap.size) : Inv w w' p g n c xs zs G' (A ++ [a]) a nn :=
  { nt := hN, ax := h.ax, an := h.an, told := h.told, f := h.f, t := h.t
    own := row_block h.own (fun b hb => hg.turned.block b (by simp [Value.ownBlock] at hb; omega) (fun hx => h.gG b hx (by simpa [Value.ownBlock] using hb.symm)))
    gG := fun b hb => (hg.foot b hb).elim (h.gG b) (fun hle => by omega)
    G0 := fun b hb => (hg.foot b hb).elim (h.G0 b) (fun hle => Nat.le_trans h.bl.size hle)
    bl := h.bl.trans (hg.turned.below h.bl.size h.G0) }
/-- Turned, and written down beside it. -/
theorem Inv.turn {w wr w' : World} {p g n c : Nat} {xs zs : List UInt8} {G : Nat → Prop} {A : List Pa} {a : Pa} {nn : Nat} (h : Inv w wr p g n c xs zs G A a nn) (k : Nat) (hN : Nt w' G p 2 (allN 2) 0 (A ++ [a.turn k])) (ht : Turned G wr w') (hgl : g < wr.heap.size) (q : Nat) (z1 : UInt8) (hf : flip zs k = zs.set q z1) (hgw : w.heap.size ≤ g) :
    Inv w (w'.setCell ⟨g, q, none⟩ (.int .u8 (z1.toNat : Int))) p g n c xs (flip zs k) G A (a.turn k) (nn + 1) := by
  have hown := row_block h.own (fun b hb => ht.block b (by simp [Value.ownBlock] at hb; omega) (fun hx => h.gG b hx (by simpa [Value.ownBlock] using hb.symm)))
  exact {
    nt := hN.frame (by simp [World.setCell]) (fun b hb => set_block_other (h.gG b hb))
    ax := h.ax
    an := by show (a.ts ++ [k]).length = nn + 1; rw [List.length_append, h.an]; rfl
    told := by rw [told_turn, h.told]
    f := h.f
    t := h.t
    own := by
      have := (hown.stored q (by8 z1)).1
      rw [hf, List.map_set]
      exact this
    gG := h.gG
    G0 := h.G0
    bl := (h.bl.trans (ht.below h.bl.size h.G0)).setCell hgw _ }
theorem turnE_len (a : Pa) (k n : Nat) (hx : a.xs.length = n) (hk : k / 8 < n) : turnE a (k : Int) = if a.ts.length = 2 then 8 else 0 := by
  unfold turnE
  rw [if_neg (by omega)]

set_option maxRecDepth 10000 in
set_option maxHeartbeats 4000000 in
theorem walk (w : World) (ao : Option Addr) (n cap : Nat) (xs : List UInt8) (h : Row w ao n cap xs) (hc : cap ≤ 140737488351232) (bo : Option Addr) (m bc : Nat) (ys : List Nat) (hy : Nums w .u16 bo m 65536 ys) :
    Calls Try.prog 10 #[.slice ao n cap, .slice bo m bc] w fun e w' => e = .returned (.bool true) ∧ Below w.heap.size w w' := by
  have hnc := h.2.1
  by_cases hn : n = 0 ∨ 1000 < n
  · exact walk_none w ao n cap bo m bc hn hnc hc
  have hn0 : 0 < n := by omega
  have hn1 : n ≤ 1000 := by omega
  have h0 : ((n : Int) == 0) = false := by
    have : ¬ ((n : Int) = 0) := by omega
    simpa using this
  clear hn
  have HR : Hid (Row w ao n cap xs) := h
  have HX : Hid (xs.length = n) := h.1
  have HY : Hid (Nums w .u16 bo m 65536 ys) := hy
  have hmmax := hy.max
  clear h hy
  go_enter Try.func10, Try.ntmps10
  go_wp2_with fail
  refine (awake_any _).mono ?_
  rintro e w1 ⟨rfl, b1⟩
  go_wp2_with fail
  refine (new2 _).mono ?_
  rintro e w2 ⟨p, F, rfl, hN, b2, hF⟩
  have hb2 := bl_step b1 b2
  have hF' : ∀ b, F b → w.heap.size ≤ b := fun b hb => Nat.le_trans b1.size (hF b hb)
  clear b1 b2 hF
  have hpu : Calls Try.prog 22 #[.pointer (some ⟨p, 0, none⟩), .agg #[.int .i64 0, .int .i64 1, .slice ao n cap]] w2 _ := put_any hN 0 1 (by omega) (by omega) ao n cap xs (HR.out.below hb2 (Nat.le_refl _)) (by omega) (by simp)
  go_wp2_with fail
  refine hpu.mono ?_
  rintro e w4 ⟨rfl, F4, hN4, g4⟩
  have hb4 := hb2.trans (g4.turned.below hb2.size hF')
  have hF4 : ∀ b, F4 b → w.heap.size ≤ b := fun b hb => (g4.foot b hb).elim (hF' b) (fun hle => Nat.le_trans hb2.size hle)
  clear hpu hN hb2 g4 hF' F
  obtain ⟨g, c, w3, hrun, hg, hown, b3⟩ := append_row (HR.out.below hb4 (Nat.le_refl _)) hn0 (by omega) 35
  obtain ⟨hrg, hcm⟩ := own_row hown
  unfold maxLen at hcm
  have hncc := hrg.2.1
  have hgw : w.heap.size ≤ g := Nat.le_trans hb4.size hg
  have H0 : Hid (Inv w w3 p g n c xs xs F4 [] ⟨0, 1, xs, []⟩ 0) := {
    nt := hN4.up b3
    ax := rfl
    an := rfl
    told := rfl
    f := rfl
    t := rfl
    own := owns_mono hown hb4.size
    gG := fun b hb => by have := hN4.2 b hb; omega
    G0 := hF4
    bl := bl_step hb4 b3 }
  clear hN4 b3 hb4 hown hrg hF4
  go_wp2_with (first | (at_builtin; refine wpList_append_run rfl _ _ 35 35 rfl _ _ rfl rfl hrun ?_) | fail)
  go_loopw [8, 9, 10, 11, 12] (fun nv iv _ _ _ wr => ∃ (i nn : Nat) (zs : List UInt8) (A : List Pa) (a : Pa) (G : Nat → Prop), i ≤ m ∧ i ≤ 12 ∧ nn ≤ 2 ∧ nv = .int .i64 (nn : Nat) ∧ iv = .int .i64 (i : Nat) ∧ A.length ≤ i ∧ Inv w wr p g n c xs zs G A a nn) (fun _ iv _ _ _ _ => 12 - (intOf iv).toNat)
  case atStart => exact ⟨0, 0, xs, [], _, F4, by omega, by omega, by omega, rfl, rfl, by simp, H0.out⟩
  case round =>
    clear H0 hrun
    obtain ⟨i, nn, zs, A, a, G, him, hi12, hnn, rfl, rfl, hA, hI⟩ := hrel
    have HI : Hid (Inv w wr p g n c xs zs G A a nn) := hI
    have hgl : g < wr.heap.size := (hI.own.lt g rfl).2
    have hlen : Calls Try.prog 14 #[.pointer (some ⟨p, 0, none⟩)] wr fun e w' => e = .returned (.int .i64 ((A.length : Int) + 1)) ∧ wr = w' := by
      have := len_any hI.nt
      rw [List.length_append, List.length_singleton] at this
      exact this
    obtain ⟨La, HLA⟩ : ∃ La, Hid (A.length = La) := ⟨_, Eq.refl _⟩
    rw [HLA.out] at hlen hA
    clear hI
    by_cases hlt : i < m ∧ i < 12
    · obtain ⟨hlt1, hlt2⟩ := hlt
      have hl1 : (i : Int) < m := by omega
      obtain ⟨gb, off, rfl, hgb, hcell⟩ := HY.out.open (by omega)
      have cx := (HI.out.bl.cell (show gb < w.heap.size from hgb)).trans (hcell i hlt1)
      obtain ⟨x, hx⟩ : ∃ x, ys.getD i 0 = x := ⟨_, rfl⟩
      have hxu : x < 65536 := by rw [← hx]; exact HY.out.lt i
      rw [hx] at cx
      obtain ⟨k, hk⟩ : ∃ k, k = x % (8 * n) := ⟨_, rfl⟩
      have hkl : k < 8 * n := by rw [hk]; exact Nat.mod_lt _ (by omega)
      have hki : (x : Int) % (8 * (n : Int)) = (k : Int) := by
        rw [hk, show (8 * (n : Int)) = ((8 * n : Nat) : Int) by simp]
        exact (Int.natCast_emod x (8 * n)).symm
      have hE := turnE_len a k n (by rw [HI.out.ax, HX.out]) (by omega)
      rw [HI.out.an] at hE
      have hgtl : (A ++ [a])[La]? = some a := by rw [← HLA.out]; exact get_last A a
      clear hx hk hcell
      by_cases hnn2 : nn = 2
      · -- two were turned
        subst hnn2
        rw [if_pos rfl] at hE
        have htu : Calls Try.prog 26 #[.pointer (some ⟨p, 0, none⟩), .int .i64 (La : Nat), .int .i64 (k : Nat)] wr fun e w' => e = .returned (.int .i64 8) ∧ wr = w' := by
          have := turn_errs HI.out.nt La a hgtl (k : Int) (by omega) (by rw [hE]; omega)
          rw [hE] at this
          exact this
        by_cases hbig : 32768 ≤ x
        · have hbigI : (32768 : Int) ≤ (x : Int) := by omega
          have hdo := double_any HI.out.nt La a hgtl (by rw [List.length_append, HLA.out, List.length_singleton]; omega)
          clear hE hgtl
          go_wp2_with fail
          refine hlen.mono ?_
          rintro e w5 ⟨rfl, rfl⟩
          go_wp2_with fail
          refine htu.mono ?_
          rintro e w5 ⟨rfl, rfl⟩
          go_wp2_with fail
          refine hdo.mono ?_
          rintro e w5 ⟨rfl, G', hN', hg'⟩
          have HE := HI.out.double hN' hg' hgl
          clear htu hdo hlen hN' hg' cx
          go_wp2
          go_roundw
          case rel => exact ⟨i + 1, 2, zs, A ++ [a], a, G', by omega, by omega, by omega, rfl, by go_num, by rw [List.length_append, HLA.out, List.length_singleton]; omega, HE⟩
          case measure => simp [intOf]; omega
        · have hbigI : decide ((32768 : Int) ≤ (x : Int)) = false := by
            rw [decide_eq_false_iff_not]; omega
          clear hbig
          clear hE hgtl
          go_wp2_with fail
          refine hlen.mono ?_
          rintro e w5 ⟨rfl, rfl⟩
          go_wp2_with fail
          refine htu.mono ?_
          rintro e w5 ⟨rfl, rfl⟩
          clear htu hlen
          go_wp2
          go_roundw
          case rel => first | exact ⟨i + 1, 2, zs, A, a, G, by omega, by omega, by omega, rfl, by go_num, by rw [HLA.out]; omega, HI.out⟩ | ((repeat apply Exists.intro); exact ⟨⟨i + 1, 2, zs, A, a, G, by omega, by omega, by omega, rfl, by go_num, by rw [HLA.out]; omega, HI.out⟩, rfl⟩)
          case measure => simp [intOf]; omega
      · rw [if_neg hnn2] at hE
        have hnnI : (nn : Int) < 2 := by omega
        have htu := turn_any HI.out.nt La a hgtl k hE
        rw [show (A ++ [a]).set La (a.turn k) = A ++ [a.turn k] by rw [← HLA.out]; exact set_last _ _ _] at htu
        have hgtl2 : (A ++ [a.turn k])[La]? = some (a.turn k) := by rw [← HLA.out]; exact get_last A _
        obtain ⟨q, hq⟩ : ∃ q, q = k / 8 := ⟨_, rfl⟩
        obtain ⟨r, hr⟩ : ∃ r, r = k % 8 := ⟨_, rfl⟩
        have hqn : q < n := by omega
        have hqnI : (q : Int) < n := by omega
        have hr8 : r < 8 := by omega
        have hqi : (k : Int) / 8 = (q : Int) := by omega
        have hri : (k : Int) % 8 = (r : Int) := by omega
        have hzl : zs.length = n := by rw [← HI.out.told, Pa.told_len, HI.out.ax, HX.out]
        have hfl : flip zs k = zs.set q (zs.getD q 0 ^^^ UInt8.ofNat (2 ^ r)) := by unfold flip; rw [← hq, ← hr]
        have HV : Hid (bits .xor .u8 ((zs.getD q 0).toNat : Int) (2 ^ r % 256) = ((zs.getD q 0 ^^^ UInt8.ofNat (2 ^ r)).toNat : Int)) := flip_num _ r hr8
        have hcell0 : wr.cell? ⟨g, q, none⟩ = some (.int .u8 ((zs.getD q 0).toNat : Int)) := by
          rw [HI.out.own.cellAt q (by omega)]
          simp [by8, List.getElem?_eq_getElem (show q < zs.length by omega)]
        have hfr0 := HI.out.own.frozenAt q
        generalize zs.getD q 0 = z0 at *
        generalize z0 ^^^ UInt8.ofNat (2 ^ r) = z1 at *
        have hzu := u8_lt z0
        have hgG := HI.out.gG
        have HTU : Hid (∀ w5, Nt w5 G p 2 (allN 2) 0 (A ++ [a.turn k]) → Turned G wr w5 → w5.cell? ⟨g, q, none⟩ = some (.int .u8 (z0.toNat : Int)) ∧ w5.frozen? ⟨g, q, none⟩ = false ∧ w5.cell? ⟨gb, off + i, none⟩ = some (.int .u16 (x : Nat)) ∧ Inv w (w5.setCell ⟨g, q, none⟩ (.int .u8 (z1.toNat : Int))).drew p g n c xs (flip zs k) G A (a.turn k) (nn + 1) ∧ g < w5.heap.size ∧ (w5.setCell ⟨g, q, none⟩ (.int .u8 (z1.toNat : Int))).drew.cell? ⟨gb, off + i, none⟩ = some (.int .u16 (x : Nat))) := fun w5 hN5 t5 => by
          have e := t5.block g hgl (fun hx => hgG g hx rfl)
          have e2 : w5.heap[gb]? = wr.heap[gb]? := t5.block gb (World.block_lt_of_cell? wr _ cx) (fun hx => by have := HI.out.G0 gb hx; omega)
          have hne : gb ≠ g := by omega
          exact ⟨(cell_block e).trans hcell0, (frozen_block e).trans hfr0, (cell_block e2).trans cx, (HI.out.turn k hN5 t5 hgl q z1 hfl hgw).drewN 1, by have := t5.size; omega, (set_cell_other (by omega)).trans ((cell_block e2).trans cx)⟩
        clear hq hr hfl hE hgtl hcell0 hfr0 hgG hzl
        by_cases hbig : 32768 ≤ x
        · have hbigI : (32768 : Int) ≤ (x : Int) := by omega
          go_wp2_with fail
          refine hlen.mono ?_
          rintro e w5 ⟨rfl, rfl⟩
          go_wp2_with fail
          refine htu.mono ?_
          rintro e w5 ⟨rfl, hN5, t5⟩
          obtain ⟨d1, d2, d3, d4, d5, d6⟩ := HTU.out w5 hN5 t5
          have HD : Hid (Inv w (w5.setCell ⟨g, q, none⟩ (.int .u8 (z1.toNat : Int))).drew p g n c xs (flip zs k) G A (a.turn k) (nn + 1)) := d4
          have hdo := double_any d4.nt La (a.turn k) hgtl2 (by rw [List.length_append, HLA.out, List.length_singleton]; omega)
          have hd6 := d6
          clear htu hlen cx HTU hN5 t5 d4 hgtl2 d6
          go_wp2_with fail
          go_region
          rw [HV.out]
          generalize hw6 : (w5.setCell ⟨g, q, none⟩ (.int .u8 (z1.toNat : Int))).drew = w6 at *
          go_wp2_with fail
          refine hdo.mono ?_
          rintro e w7 ⟨rfl, G', hN', hg'⟩
          have hgl6 : g < w6.heap.size := (HD.out.own.lt g rfl).2
          have HE := HD.out.double hN' hg' hgl6
          clear hdo hN' hg' hd6 d1 d2 d3 hw6
          go_wp2
          go_roundw
          case rel => exact ⟨i + 1, nn + 1, flip zs k, A ++ [a.turn k], a.turn k, G', by omega, by omega, by omega, by go_num, by go_num, by rw [List.length_append, HLA.out, List.length_singleton]; omega, HE⟩
          case measure => simp [intOf]; omega
        · have hbigI : decide ((32768 : Int) ≤ (x : Int)) = false := by
            rw [decide_eq_false_iff_not]; omega
          clear hbig
          go_wp2_with fail
          refine hlen.mono ?_
          rintro e w5 ⟨rfl, rfl⟩
          go_wp2_with fail
          refine htu.mono ?_
          rintro e w5 ⟨rfl, hN5, t5⟩
          obtain ⟨d1, d2, d3, d4, d5, d6⟩ := HTU.out w5 hN5 t5
          have HD : Hid (Inv w (w5.setCell ⟨g, q, none⟩ (.int .u8 (z1.toNat : Int))).drew p g n c xs (flip zs k) G A (a.turn k) (nn + 1)) := d4
          have hd6 := d6
          clear htu hlen cx HTU hN5 t5 d4 hgtl2 d6
          go_wp2_with fail
          go_region
          rw [HV.out]
          generalize hw6 : (w5.setCell ⟨g, q, none⟩ (.int .u8 (z1.toNat : Int))).drew = w6 at *
          go_wp2_with fail
          go_roundw
          case rel => exact ⟨i + 1, nn + 1, flip zs k, A, a.turn k, G, by omega, by omega, by omega, by go_num, by go_num, by rw [HLA.out]; omega, HD.out⟩
          case measure => simp [intOf]; omega
    · have hpe := peek_any HI.out.nt La a (by rw [← HLA.out]; exact get_last A a)
      unfold pkt at hpe
      rw [HI.out.told, HI.out.ax, HX.out, HI.out.f, HI.out.t] at hpe
      have hcnd : ¬ ((i : Int) < m) ∨ ((i : Int) < m ∧ ¬ ((i : Int) < 12)) := by omega
      generalize hw8 : wr = w8 at *
      clear hw8
      rcases hcnd with hn1 | ⟨hn1, hn2⟩
      all_goals
        go_wp2_with fail
        refine hlen.mono ?_
        rintro e w5 ⟨rfl, rfl⟩
        go_wp2_with fail
        refine hpe.mono ?_
        rintro e w6 ⟨b, rfl, hb, hby, b6⟩
        obtain ⟨oB, hoB⟩ : ∃ o, o = Obj.cells #[.int .i64 0, .int .i64 1, .slice (some ⟨b, 0, none⟩) n n] 49 := ⟨_, rfl⟩
        have hb7 : Below w.heap.size w (w6.alloc oB) := (bl_step HI.out.bl b6).alloc (bl_step HI.out.bl b6).size oB
        have cB : (w6.alloc oB).cell? ⟨w6.heap.size, 2, none⟩ = some (.slice (some ⟨b, 0, none⟩) n n) := by rw [hoB]; exact cell_box _ _ _ _ _ rfl
        have hzl : zs.length = n := by rw [← HI.out.told, Pa.told_len, HI.out.ax, HX.out]
        have hrb := (hby.of (Below.heap_alloc w6 oB _ hby.lt)).row (by unfold maxLen; rw [hzl]; omega)
        rw [hzl] at hrb
        have hrz : (w6.alloc oB).ownsRow w.heap.size 5 1 (.slice (some ⟨g, 0, none⟩) n c) n (zs.map by8) := row_block HI.out.own (fun y hy => by
          have : y = g := by simpa [Value.ownBlock] using hy.symm
          subst this
          exact (Below.heap_alloc w6 oB _ (by have := b6.size; omega)).trans (b6.block _ hgl))
        have cvb := conv_row hrb
        have cvz := conv_row (own_row hrz).1
        have hbe : ((str zs).toList == (str zs).toList) = true := by simp
        have HT : Hid (Below w.heap.size w (w6.alloc oB)) := hb7
        rw [hoB] at cB cvb cvz HT
        clear hb7 hby hrb hrz b6 hpe hlen hoB HR hzl
        go_wp2_with fail
        go_ret
        exact ⟨rfl, HT.out⟩


set_option maxRecDepth 100000 in
theorem lifted (os : Os) (started : os.Started) (H : Type) (enc : TypeId × Value → H) :
    ReturnsInHanded {} Try.checked os 10 .any (Rows.netTurnsSpec.pre6 enc Try.prog Try.f10 Rows.netTurnsRow.domain false) (Rows.netTurnsSpec.post enc Try.prog Try.f10 false true false false) := by
  refine returnsInHanded_of_change_sized (C := Try.checked) own started (by kernel_rfl) Try.func10
    (ChangeSpec.witness6 (enc := enc) (C := Try.checked) false ⟨#[], #[.slice none 0 0, .slice none 0 0], []⟩ 10 (by kernel_rfl) (by kernel_rfl) (by kernel_rfl) (by kernel_rfl)) ?_
  intro W base args ds gs before hval0 hW hcnd hsz0 _
  have hsz : (DataW.weightsEach Try.prog (Try.f10.params.toList ++ Rows.netTurnsSpec.plain.varTypes Try.prog) (ds ++ gs)).all (· ≤ reachBytes) = true := hsz0
  have hval : ∀ (j : Nat) t v, Try.f10.params[j]? = some t → args[j]? = some v → Value.okWide Try.prog W .any base t v := hval0
  have hW' := hW
  obtain ⟨p, q, hA0, hV, rfl, hfz, hnd⟩ := hW
  have hA : DataW.TrodAll enc Try.prog W 0 (fun _ => true) true Try.f10.params.toList args.toList ds p := hA0
  rw [Try.params10] at hA hval hsz
  obtain ⟨v0, vs0, d0, ds0, p0, q0, hargs0, rfl, rfl, h0, r0⟩ := trodAll_cons hA
  obtain ⟨v1, vs1, d1, ds1, p1, q1, hargs1, rfl, rfl, h1, r1⟩ := trodAll_cons r0
  obtain ⟨rfl, rfl, rfl⟩ := trodAll_nil r1
  obtain rfl : args = #[v0, v1] := by cases args; simp_all
  obtain ⟨rfl, rfl⟩ := trodVars_none hV
  obtain ⟨a0, len0, cap0, rfl⟩ := okWide_slice Try.underlying35 (hval 0 35 v0 rfl rfl)
  have k0 := h0
  have lt0 : ∀ x ∈ p0, x.block < W.heap.size := by obtain ⟨m, hm⟩ := k0; exact DataW.trod_lt m _ _ _ hm
  obtain ⟨xs0, hx0, hc0⟩ := open_bytes h0 hsz (j := 0) rfl rfl
  obtain ⟨a1, len1, cap1, rfl⟩ := okWide_slice Try.underlying60 (hval 1 60 v1 rfl rfl)
  have k1 := h1
  have lt1 : ∀ x ∈ p1, x.block < W.heap.size := by obtain ⟨m, hm⟩ := k1; exact DataW.trod_lt m _ _ _ hm
  obtain ⟨xs1, hx1⟩ := open_nums Try.underlying60 Try.underlying41 cells41 (fun _ h => u16_of_wf h) (by omega) h1
  clear hA0 hval0 hsz hsz0
  refine (walk W a0 len0 cap0 xs0 hx0 hc0 a1 len1 cap1 xs1 hx1).mono fun e W' ⟨he, bel⟩ => ?_
  subst he
  exact ⟨_, rfl, _, _, _, [], _, [], hW', trodAll_mk1 (shut_bool Try.underlying4 _), (trodAll_cons_mk (Below.trod laidOut (by kernel_rfl) (of_decide_eq_true (by kernel_rfl)) k0 bel lt0) (trodAll_cons_mk (Below.trod laidOut (by kernel_rfl) (of_decide_eq_true (by kernel_rfl)) k1 bel lt1) trodAll_mk0)), rfl, bel.frame _, fun h => by cases h⟩

theorem over : Rows.netTurnsRow.holds Try.pinned (OpenSpec.ofChange Rows.netTurnsSpec) :=
  OpenClaim.holds_of_wide 10 Try.f10 rfl rfl rfl rfl rfl rfl rfl ⟨rfl, rfl, rfl, rfl, rfl⟩ rfl rfl rfl rfl rfl (by kernel_rfl) Try.func10 (by kernel_rfl)
    (of_decide_eq_true (by kernel_rfl)) (by unfold Func.isWrapper; first | (rw [if_pos (by decide +kernel)]; kernel_rfl) | (rw [if_neg (by decide +kernel)]; exact ⟨rfl, rfl⟩))
    (fun os started H enc _ => lifted os started H enc)

end Go.Proofs.Ytagabmhgcmnldaa.netTurns
namespace Go.Proofs.Ytagabmhgcmnldaa
theorem netTurns_holds : Rows.NetTurnsSaid := netTurns.over
#print axioms netTurns_holds
end Go.Proofs.Ytagabmhgcmnldaa
