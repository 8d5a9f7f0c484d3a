/-
  Proved: for all bytes p and every bit, NetKeeps(p, bit) returns true: what is handed in may be written over behind the call, and so may what is told; a doubled packet is another one. No condition.
-/
import Derived.Test.YtagabmhgcmnldaaNArgs
namespace Go.Proofs.Ytagabmhgcmnldaa.netKeeps
open Go.ChangeShapes Go.WideShapes Go.ChangeAt Go.RowKit
open Go.ChangeMaps (open_string shut_string)
set_option linter.unusedVariables false
set_option linter.unusedSimpArgs false

theorem walk_none (w : World) (ao : Option Addr) (n cap : Nat) (bit : Nat) (hn : n = 0 ∨ 1000 < n) (hnc : n ≤ cap) (hc : cap ≤ 140737488351232) :
    Calls Try.prog 6 #[.slice ao n cap, .int .u8 (bit : Nat)] w fun e w' => e = .returned (.bool true) ∧ Below w.heap.size w w' := by
  rcases hn with rfl | hn
  · go_enter Try.func6, Try.ntmps6
    go_wp2_with fail
    refine (awake_any _).mono ?_
    rintro e w1 ⟨rfl, b1⟩
    go_wp2_with fail
    refine (awake_any _).mono ?_
    rintro e w2 ⟨rfl, b2⟩
    go_wp2
    go_ret
    exact ⟨rfl, bl_step b1 b2⟩
  · have h0 : ((n : Int) == 0) = false := by
      have : ¬ ((n : Int) = 0) := by omega
      simpa using this
    go_enter Try.func6, Try.ntmps6
    go_wp2_with fail
    refine (awake_any _).mono ?_
    rintro e w1 ⟨rfl, b1⟩
    go_wp2_with fail
    refine (awake_any _).mono ?_
    rintro e w2 ⟨rfl, b2⟩
    go_wp2
    go_ret
    exact ⟨rfl, bl_step b1 b2⟩
theorem new2 (w : World) : Calls Try.prog 12 #[.int .i64 2] w fun e w' => ∃ p F, e = .returned (.tuple #[.pointer (some ⟨p, 0, none⟩), .int .i64 0]) ∧ Nt w' F p 2 (allN 2) 0 [] ∧ Below w.heap.size w w' ∧ ∀ b, F b → w.heap.size ≤ b := new_any w 2 (by omega) (by omega)
theorem bl_al {w a : World} (h : Below w.heap.size w a) (o : Obj) : Below w.heap.size w (a.alloc o) := h.alloc h.size o
theorem xor_ne (z : UInt8) (r : Nat) (hr : r < 8) : z ^^^ UInt8.ofNat (2 ^ r) ≠ z := by
  intro h
  have h1 := congrArg UInt8.toNat h
  have hp : 2 ^ r ≤ 2 ^ 7 := Nat.pow_le_pow_right (by omega) (by omega)
  have hp0 := Nat.two_pow_pos r
  rw [UInt8.toNat_xor, ofNat_toNat _ (by omega)] at h1
  have h2 := congrArg (z.toNat ^^^ ·) h1
  simp only [← Nat.xor_assoc, Nat.xor_self, Nat.zero_xor] at h2
  omega
theorem flip_ne {xs : List UInt8} {k : Nat} (hk : k / 8 < xs.length) : flip xs k ≠ xs := by
  intro h
  have h1 := congrArg (fun l => l[k / 8]?) h
  unfold flip at h1
  simp only [List.getElem?_set_self hk, List.getElem?_eq_getElem hk] at h1
  have h2 := Option.some.inj h1
  have h3 : xs.getD (k / 8) 0 = xs[k / 8] := by simp [List.getD, List.getElem?_eq_getElem hk]
  rw [h3] at h2
  exact xor_ne _ _ (by omega) h2
theorem append_row {w : World} {ao : Option Addr} {n cap : Nat} {xs : List UInt8} (h : Row w ao n cap xs) (h0 : 0 < n) (hn : n ≤ 140737488355328) (ty : TypeId) : ∃ g c w', (Builtin.append_ #[35, 35] ty #[.slice none 0 0, .slice ao n cap]).run Try.prog w = .ok (.slice (some ⟨g, 0, none⟩) n c) w' ∧ w.heap.size ≤ g ∧ w'.ownsRow w.heap.size 5 1 (.slice (some ⟨g, 0, none⟩) n c) n (xs.map by8) ∧ Below w.heap.size w w' := by
  obtain ⟨i0, hi0, hz0, hz1, hz2⟩ := info_parts Try.info5
  have hl := h.1
  cases ao with
  | none => have := (h.2.2.2.1 rfl).1; omega
  | some a =>
    obtain ⟨v', w', h1, h2, h3, h4, h5⟩ := run_append_own_at (P := Try.prog) w w.heap.size 35 ty 5 i0 _ 1 1 Try.underlying35 hi0 hz0 hz1 hz2 rfl (by omega) (.slice none 0 0) 0 [] (World.ownsRow_nil _ _ _ _) a n cap (xs.map by8) (by simp [hl]) (fun j u hj => h.olds a rfl j u hj) (by8_one xs) (by unfold maxLen; omega) (by omega) (Nat.le_refl _)
    rw [Nat.zero_add, List.nil_append] at h2
    rcases h2.2 with ⟨_, h0'⟩ | ⟨g, c, cur, rfl, hg, _⟩
    · omega
    · exact ⟨g, c, w', h1, hg, h2, ⟨h3.os, h3.tape, h3.output, h3.size, fun k hk => h3.block k hk (by simp [Value.ownBlock])⟩⟩
theorem own_row {w : World} {B g n c : Nat} {xs : List UInt8} (h : w.ownsRow B 5 1 (.slice (some ⟨g, 0, none⟩) n c) n (xs.map by8)) : Row w (some ⟨g, 0, none⟩) n c xs ∧ c ≤ maxLen := by
  have hl : xs.length = n := by simpa using h.1
  rcases h.2 with ⟨h0, _⟩ | ⟨g', c', cur, h0, _, _, h1, h2, _⟩
  · cases h0
  · simp only [Value.slice.injEq] at h0
    obtain ⟨_, _, rfl⟩ := h0
    refine ⟨⟨hl, h1, h2, fun e => (by cases e), fun a ha i hi => ?_⟩, h2⟩
    cases ha
    rw [Addr.add_lit, Nat.zero_add, h.cellAt i (by omega)]
    simp [by8, List.getElem?_eq_getElem (show i < xs.length by omega)]
theorem wpList_append_run {P : Program} {w : World} {ops : Array Oper} {rest : List Oper} {o : Oper} {a : Act} {Q : Exit → Act → World → Prop} (hgd : o.guard = none) (d s : Operand) (t t' : TypeId)
    (ho : o.op = .call { callee := .builtin .append, args := #[d, s], argTypes := #[t, t'] }) (v u : Value) (hd : a.eval d = v) (hs : a.eval s = u) {v' : Value} {w' : World}
    (hr : (Builtin.append_ #[t, t'] o.type #[v, u]).run P w = .ok v' w') (h : wpList P ops Q rest (a.put o.dst v') w') : wpList P ops Q (o :: rest) a w := by
  refine wpList_plain hgd fun K hK => ?_
  unfold Oper.wp execOp
  simp only [ho, resolve, invoke, builtin, Sem.run_bind, Sem.run_pure, Result.andThen_ok, List.map_toArray, List.map_cons, List.map_nil, hd, hs, hr]
  exact hK _ _ h

set_option maxRecDepth 10000 in
set_option maxHeartbeats 2000000 in
theorem walk (w : World) (ao : Option Addr) (n cap : Nat) (xs : List UInt8) (h : Row w ao n cap xs) (hc : cap ≤ 140737488351232) (bit : Nat) (hbit : bit < 256) :
    Calls Try.prog 6 #[.slice ao n cap, .int .u8 (bit : Nat)] w fun e w' => e = .returned (.bool true) ∧ Below w.heap.size w w' := by
  have hnc := h.2.1
  by_cases hn : n = 0 ∨ 1000 < n
  · exact walk_none w ao n cap bit hn hnc hc
  have hn0 : 0 < n := by omega
  have hn1 : n ≤ 1000 := by omega
  have h0 : ((n : Int) == 0) = false := by
    have : ¬ ((n : Int) = 0) := by omega
    simpa using this
  clear hn
  have HR : Hid (Row w ao n cap xs) := h
  have HX : Hid (xs.length = n) := h.1
  clear h
  obtain ⟨k, hk⟩ : ∃ k, k = bit % (8 * n) := ⟨_, rfl⟩
  have hkl : k < 8 * n := by rw [hk]; exact Nat.mod_lt _ (by omega)
  have hki : (bit : Int) % (8 * (n : Int)) = (k : Int) := by
    rw [hk, show (8 * (n : Int)) = ((8 * n : Nat) : Int) by simp]
    exact (Int.natCast_emod bit (8 * n)).symm
  clear hk
  go_enter Try.func6, Try.ntmps6
  go_wp2_with fail
  refine (awake_any _).mono ?_
  rintro e w1 ⟨rfl, b1⟩
  go_wp2_with fail
  refine (new2 _).mono ?_
  rintro e w2 ⟨p, F, rfl, hN, b2, hF⟩
  have hb2 := bl_step b1 b2
  have hF' : ∀ b, F b → w.heap.size ≤ b := fun b hb => Nat.le_trans b1.size (hF b hb)
  clear b1 b2 hF
  obtain ⟨g, c, w3, hrun, hg, hown, b3⟩ := append_row (HR.out.below hb2 (Nat.le_refl _)) hn0 (by omega) 35
  have hN3 := hN.up b3
  have hb3 := bl_step hb2 b3
  have hgF : ∀ b, F b → b ≠ g := fun b hb => by have := hN.2 b hb; omega
  obtain ⟨hrg, hcm⟩ := own_row hown
  have hgw : w.heap.size ≤ g := Nat.le_trans hb2.size hg
  unfold maxLen at hcm
  clear hN b3 hb2
  have hpu : Calls Try.prog 22 #[.pointer (some ⟨p, 0, none⟩), .agg #[.int .i64 0, .int .i64 1, .slice (some ⟨g, 0, none⟩) n c]] w3 _ := put_any hN3 0 1 (by omega) (by omega) _ n c xs hrg (by omega) (by simp)
  go_wp2_with (first | (at_builtin; refine wpList_append_run rfl _ _ 35 35 rfl _ _ rfl rfl hrun ?_) | fail)
  refine hpu.mono ?_
  rintro e w4 ⟨rfl, F4, hN4, g4⟩
  have hb4 := hb3.trans (g4.turned.below hb3.size hF')
  have hF4 : ∀ b, F4 b → w.heap.size ≤ b := fun b hb => (g4.foot b hb).elim (hF' b) (fun hle => Nat.le_trans hb3.size hle)
  have hgl := World.block_lt_of_cell? w3 _ (hrg.2.2.2.2 _ rfl 0 hn0)
  have hgl' : g < w3.heap.size := by
    have e : ((⟨g, 0, none⟩ : Addr).add 0).block = g := by rw [Addr.add_lit]
    rw [e] at hgl; exact hgl
  have hgF4 : ∀ b, F4 b → b ≠ g := fun b hb => (g4.foot b hb).elim (hgF b) (fun hle => by omega)
  have hown4 : w4.ownsRow w2.heap.size 5 1 (.slice (some ⟨g, 0, none⟩) n c) n (xs.map by8) := row_block hown (fun b hb => g4.turned.block b (by simp [Value.ownBlock] at hb; omega) (fun hx => hgF b hx (by simpa [Value.ownBlock] using hb.symm)))
  have hdo : Calls Try.prog 23 #[.pointer (some ⟨p, 0, none⟩), .int .i64 0] w4 _ := double_any hN4 0 _ rfl (by simp)
  have hg4 := g4.turned.size
  clear hpu hN3 hb3 hrun hrg hown g4 hgF hF'
  go_wp2_with fail
  refine hdo.mono ?_
  rintro e w5 ⟨rfl, F5, hN5, g5⟩
  have hb5 := hb4.trans (g5.turned.below hb4.size hF4)
  have hF5 : ∀ b, F5 b → w.heap.size ≤ b := fun b hb => (g5.foot b hb).elim (hF4 b) (fun hle => Nat.le_trans hb4.size hle)
  have hgF5 : ∀ b, F5 b → b ≠ g := fun b hb => (g5.foot b hb).elim (hgF4 b) (fun hle => by omega)
  have hown5 : w5.ownsRow w2.heap.size 5 1 (.slice (some ⟨g, 0, none⟩) n c) n (xs.map by8) := row_block hown4 (fun b hb => g5.turned.block b (by simp [Value.ownBlock] at hb; omega) (fun hx => hgF4 b hx (by simpa [Value.ownBlock] using hb.symm)))
  have hq0 : w5.cell? ⟨g, 0, none⟩ = some (.int .u8 ((xs.getD 0 0).toNat : Int)) := by
    have hl := HX.out
    rw [hown5.cellAt 0 (by omega)]
    simp [by8, List.getElem?_eq_getElem (show 0 < xs.length by omega)]
  have hqf := hown5.frozenAt 0
  obtain ⟨z0, HZ0⟩ : ∃ z0, Hid (xs.getD 0 0 = z0) := ⟨_, Eq.refl _⟩
  rw [HZ0.out] at hq0
  have hg5 := g5.turned.size
  have HV : Hid (∀ v : Value, Nt (w5.setCell ⟨g, 0, none⟩ v) F5 p 2 (allN 2) 0 ([⟨0, 1, xs, []⟩, ⟨0, 1, xs, []⟩]) ∧ Below w.heap.size w (w5.setCell ⟨g, 0, none⟩ v)) := fun v =>
    ⟨hN5.frame (by simp [World.setCell]) (fun b hb => set_block_other (hgF5 b hb)), hb5.setCell hgw v⟩
  have hnI : (0 : Int) < n := by omega
  clear hdo hN4 hb4 hown4 g5 hgF4 hF4 hown5 hN5 hb5
  go_wp2_with fail
  generalize bits .xor .u8 (z0.toNat : Int) 1 = zz
  obtain ⟨hN6, hb6⟩ := HV.out (.int .u8 zz)
  clear HV hq0 hqf HZ0
  generalize w5.setCell ⟨g, 0, none⟩ (.int .u8 zz) = w6 at *
  have hpe : Calls Try.prog 25 #[.pointer (some ⟨p, 0, none⟩), .int .i64 0] w6 _ := peek_any hN6 0 ⟨0, 1, xs, []⟩ rfl
  unfold pkt at hpe
  have htd : Pa.told (⟨0, 1, xs, []⟩ : Pa) = xs := rfl
  rw [htd] at hpe
  simp only [HX.out] at hpe
  refine hpe.mono ?_
  rintro e w7 ⟨b1, rfl, hb1, hby1, b7⟩
  obtain ⟨o7, ho7⟩ : ∃ o, o = Obj.cells #[.int .i64 0, .int .i64 1, .slice (some ⟨b1, 0, none⟩) n n] 49 := ⟨_, rfl⟩
  have hN7 := (hN6.up b7).alloc o7
  have hb7 := bl_al (bl_step hb6 b7) o7
  have hb1l := hby1.lt
  have hby7 : By (w7.alloc o7) b1 xs := hby1.of (Below.heap_alloc _ _ _ hb1l)
  have hb1F : ∀ b, F5 b → b ≠ b1 := fun b hb => by have := hN6.2 b hb; omega
  have hlx := HX.out
  have c2 : (w7.alloc o7).cell? ⟨w7.heap.size, 2, none⟩ = some (.slice (some ⟨b1, 0, none⟩) n n) := by rw [ho7]; exact cell_box _ _ _ _ _ rfl
  have cb := hby7.cell (j := 0) (by omega)
  have cf := hby7.free 0
  obtain ⟨z1, HZ1⟩ : ∃ z1, Hid (xs.getD 0 0 = z1) := ⟨_, Eq.refl _⟩
  rw [HZ1.out] at cb
  have hb1w : w.heap.size ≤ b1 := by have := hb6.size; omega
  have HV7 : Hid (∀ v : Value, Nt ((w7.setCell ⟨b1, 0, none⟩ v).alloc o7).drew F5 p 2 (allN 2) 0 ([⟨0, 1, xs, []⟩, ⟨0, 1, xs, []⟩]) ∧ Below w.heap.size w ((w7.setCell ⟨b1, 0, none⟩ v).alloc o7).drew) := fun v =>
    ⟨((((hN6.up b7).frame (w' := w7.setCell ⟨b1, 0, none⟩ v) (by simp [World.setCell]) (fun b hb => set_block_other (hb1F b hb))).alloc o7).drew), (bl_al ((bl_step hb6 b7).setCell hb1w v) o7).drew⟩
  have hb1n : b1 ≠ w7.heap.size := by omega
  clear hpe hN6 hb6 b7 hN7 hb7 hby1 hby7 hlx
  rw [ho7] at c2 cb cf HV7
  clear ho7
  go_wp2_with fail
  go_region
  generalize bits .xor .u8 (z1.toNat : Int) 2 = zz2
  obtain ⟨hN8, hb8⟩ := HV7.out (.int .u8 zz2)
  clear HV7 cb cf c2 HZ1
  go_wp2_with fail
  generalize ((w7.setCell ⟨b1, 0, none⟩ (.int .u8 zz2)).alloc (.cells #[.int .i64 0, .int .i64 1, .slice (some ⟨b1, 0, none⟩) n n] 49)).drew = w8 at *
  have hte : turnE (⟨0, 1, xs, []⟩ : Pa) (k : Int) = 0 := by
    unfold turnE
    have := HX.out
    rw [if_neg (by show ¬ ((k : Int) < 0 ∨ (xs.length : Int) ≤ (k : Int) / 8); omega), if_neg (by simp)]
  have htu : Calls Try.prog 26 #[.pointer (some ⟨p, 0, none⟩), .int .i64 1, .int .i64 (k : Nat)] w8 _ := turn_any hN8 1 ⟨0, 1, xs, []⟩ rfl k hte
  refine htu.mono ?_
  rintro e w9 ⟨rfl, hN9, t9⟩
  have hb9 := hb8.trans (t9.below hb8.size hF5)
  have hh01 : hears 2 (allN 2) 0 1 = true := by decide
  have hta : Calls Try.prog 24 #[.pointer (some ⟨p, 0, none⟩), .int .i64 0] w9 _ := take_any hN9 0 ⟨0, 1, xs, []⟩ rfl hh01
  unfold pkt at hta
  rw [htd] at hta
  simp only [HX.out] at hta
  clear htu hN8 hb8 t9 hte
  go_wp2_with fail
  refine hta.mono ?_
  rintro e w10 ⟨b2, rfl, hb2, hby2, hN10, t10⟩
  have hb10 := hb9.trans (t10.below hb9.size hF5)
  obtain ⟨oA, hoA⟩ : ∃ o, o = Obj.cells #[.int .i64 0, .int .i64 1, .slice (some ⟨b2, 0, none⟩) n n] 49 := ⟨_, rfl⟩
  have hN11 := hN10.alloc oA
  have hb11 := bl_al hb10 oA
  have hta2 : Calls Try.prog 24 #[.pointer (some ⟨p, 0, none⟩), .int .i64 0] (w10.alloc oA) _ := take_any hN11 0 (Pa.turn ⟨0, 1, xs, []⟩ k) rfl hh01
  unfold pkt at hta2
  have htd2 : Pa.told (Pa.turn (⟨0, 1, xs, []⟩ : Pa) k) = flip xs k := rfl
  rw [htd2] at hta2
  have hxl2 : (Pa.turn (⟨0, 1, xs, []⟩ : Pa) k).xs.length = n := HX.out
  rw [hxl2, show (Pa.turn (⟨0, 1, xs, []⟩ : Pa) k).f = 0 from rfl, show (Pa.turn (⟨0, 1, xs, []⟩ : Pa) k).t = 1 from rfl] at hta2
  have hb2l := hby2.lt
  have hb2F : ∀ b, F5 b → b ≠ b2 := fun b hb => by have := hN9.2 b hb; omega
  have hF10 : ∀ b, F5 b → b < w10.heap.size := hN10.2
  rw [hoA] at hta2
  clear hta hN9 hb9 hN10 hb10 t10
  go_wp2_with fail
  refine hta2.mono ?_
  rintro e w12 ⟨b3, rfl, hb3', hby3, hN12, t12⟩
  rw [← hoA] at t12 hb3'
  obtain ⟨oB, hoB⟩ : ∃ o, o = Obj.cells #[.int .i64 0, .int .i64 1, .slice (some ⟨b3, 0, none⟩) n n] 49 := ⟨_, rfl⟩
  have hb12 := bl_al (hb11.trans (t12.below hb11.size hF5)) oB
  have hsz12 := t12.size
  have hsA : (w10.alloc oA).heap.size = w10.heap.size + 1 := by simp
  have hA12 : w12.heap[w10.heap.size]? = (w10.alloc oA).heap[w10.heap.size]? := t12.block _ (by omega) (fun hx => by have := hF10 _ hx; omega)
  have c10 : (w12.alloc oB).cell? ⟨w10.heap.size, 2, none⟩ = some (.slice (some ⟨b2, 0, none⟩) n n) := by
    rw [(bl1 w12 oB).cell (show w10.heap.size < w12.heap.size by omega), cell_block hA12, hoA]
    exact cell_box _ _ _ _ _ rfl
  have c12 : (w12.alloc oB).cell? ⟨w12.heap.size, 2, none⟩ = some (.slice (some ⟨b3, 0, none⟩) n n) := by rw [hoB]; exact cell_box _ _ _ _ _ rfl
  have hby2' : By (w12.alloc oB) b2 xs := hby2.of ((Below.heap_alloc _ _ _ (by omega)).trans ((t12.block b2 (by omega) (fun hx => hb2F _ hx rfl)).trans (Below.heap_alloc _ _ _ hb2l)))
  have hby3' : By (w12.alloc oB) b3 (flip xs k) := hby3.of (Below.heap_alloc _ _ _ hby3.lt)
  have hrb := hby2'.row (by unfold maxLen; rw [HX.out]; omega)
  rw [HX.out] at hrb
  have hrc := hby3'.row (by unfold maxLen; rw [flip_len, HX.out]; omega)
  rw [flip_len, HX.out] at hrc
  have cvb := conv_row hrb
  have cvc := conv_row hrc
  have cvp := conv_row (HR.out.below hb12 (Nat.le_refl _))
  have hbe : ((str xs).toList == (str xs).toList) = true := by simp
  have hbn : ((str (flip xs k)).toList == (str xs).toList) = false := by
    rw [str_beq]
    have hl := HX.out
    simpa using flip_ne (xs := xs) (k := k) (by omega)
  have HT : Hid (Below w.heap.size w (w12.alloc oB)) := hb12
  rw [hoB] at c10 c12 cvb cvc cvp HT
  clear hN12 hN11 hb11 hb12 hby2 hby3 hby2' hby3' hrb hrc t12 hA12 hta2 hoA hoB hF5 hgF5 hF10 hb2F hb1F HR
  go_wp2_with fail
  go_ret
  exact ⟨rfl, HT.out⟩


set_option maxRecDepth 100000 in
theorem lifted (os : Os) (started : os.Started) (H : Type) (enc : TypeId × Value → H) :
    ReturnsInHanded {} Try.checked os 6 .any (Rows.netKeepsSpec.pre6 enc Try.prog Try.f6 Rows.netKeepsRow.domain false) (Rows.netKeepsSpec.post enc Try.prog Try.f6 false true false false) := by
  refine returnsInHanded_of_change_sized (C := Try.checked) own started (by kernel_rfl) Try.func6
    (ChangeSpec.witness6 (enc := enc) (C := Try.checked) false ⟨#[], #[.slice none 0 0, .int .u8 0], []⟩ 6 (by kernel_rfl) (by kernel_rfl) (by kernel_rfl) (by kernel_rfl)) ?_
  intro W base args ds gs before hval0 hW hcnd hsz0 _
  have hsz : (DataW.weightsEach Try.prog (Try.f6.params.toList ++ Rows.netKeepsSpec.plain.varTypes Try.prog) (ds ++ gs)).all (· ≤ reachBytes) = true := hsz0
  have hval : ∀ (j : Nat) t v, Try.f6.params[j]? = some t → args[j]? = some v → Value.okWide Try.prog W .any base t v := hval0
  have hW' := hW
  obtain ⟨p, q, hA0, hV, rfl, hfz, hnd⟩ := hW
  have hA : DataW.TrodAll enc Try.prog W 0 (fun _ => true) true Try.f6.params.toList args.toList ds p := hA0
  rw [Try.params6] at hA hval hsz
  obtain ⟨v0, vs0, d0, ds0, p0, q0, hargs0, rfl, rfl, h0, r0⟩ := trodAll_cons hA
  obtain ⟨v1, vs1, d1, ds1, p1, q1, hargs1, rfl, rfl, h1, r1⟩ := trodAll_cons r0
  obtain ⟨rfl, rfl, rfl⟩ := trodAll_nil r1
  obtain rfl : args = #[v0, v1] := by cases args; simp_all
  obtain ⟨rfl, rfl⟩ := trodVars_none hV
  obtain ⟨a0, len0, cap0, rfl⟩ := okWide_slice Try.underlying35 (hval 0 35 v0 rfl rfl)
  have k0 := h0
  have lt0 : ∀ x ∈ p0, x.block < W.heap.size := by obtain ⟨m, hm⟩ := k0; exact DataW.trod_lt m _ _ _ hm
  obtain ⟨xs0, hx0, hc0⟩ := open_bytes h0 hsz (j := 0) rfl rfl
  obtain ⟨a1, rfl, rfl, rfl, w1⟩ := open_int Try.underlying5 (hval 1 5 v1 rfl rfl) h1
  clear hA0 hval0 hsz hsz0
  obtain ⟨n1, rfl, hn1⟩ := u8_of_wf w1
  refine (walk W a0 len0 cap0 xs0 hx0 hc0 n1 hn1).mono fun e W' ⟨he, bel⟩ => ?_
  subst he
  exact ⟨_, rfl, _, _, _, [], _, [], hW', trodAll_mk1 (shut_bool Try.underlying4 _), (trodAll_cons_mk (Below.trod laidOut (by kernel_rfl) (of_decide_eq_true (by kernel_rfl)) k0 bel lt0) (trodAll_cons_mk (shut_int Try.underlying5 w1) trodAll_mk0)), rfl, bel.frame _, fun h => by cases h⟩

theorem over : Rows.netKeepsRow.holds Try.pinned (OpenSpec.ofChange Rows.netKeepsSpec) :=
  OpenClaim.holds_of_wide 6 Try.f6 rfl rfl rfl rfl rfl rfl rfl ⟨rfl, rfl, rfl, rfl, rfl⟩ rfl rfl rfl rfl rfl (by kernel_rfl) Try.func6 (by kernel_rfl)
    (of_decide_eq_true (by kernel_rfl)) (by unfold Func.isWrapper; first | (rw [if_pos (by decide +kernel)]; kernel_rfl) | (rw [if_neg (by decide +kernel)]; exact ⟨rfl, rfl⟩))
    (fun os started H enc _ => lifted os started H enc)

end Go.Proofs.Ytagabmhgcmnldaa.netKeeps
namespace Go.Proofs.Ytagabmhgcmnldaa
theorem netKeeps_holds : Rows.NetKeepsSaid := netKeeps.over
#print axioms netKeeps_holds
end Go.Proofs.Ytagabmhgcmnldaa
