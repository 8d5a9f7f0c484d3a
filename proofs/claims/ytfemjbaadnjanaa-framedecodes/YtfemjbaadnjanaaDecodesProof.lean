/-
  Proved: for all bytes p and every sealed, FrameDecodes(p, sealed) returns true: any bytes, sealed or not, are read as the document reads them: the same frame, the same error's number; the document's example holds. No condition.
-/
import Derived.Test.YtfemjbaadnjanaaRows
import Derived.Test.YtfemjbaadnjanaaFDocT
import Derived.Test.YtfemjbaadnjanaaFAwake
import Derived.Test.YtfemjbaadnjanaaFArgs0
import Derived.Test.YtfemjbaadnjanaaFSameF
namespace Go.Proofs.Ytfemjbaadnjanaa.frameDecodes
open Go.ChangeShapes Go.WideShapes Go.ChangeAt Go.RowKit
set_option linter.unusedVariables false
set_option linter.unusedSimpArgs false

theorem bytes5 : Try.prog.bytesOf 5 = 1 := by kernel_rfl
theorem cells5 : Try.prog.cellsOf 5 = 1 := by kernel_rfl
theorem open_bytes {H : Type} {enc : TypeId × Value → H} {W : World} {a : Option Addr} {len cap : Nat} {d : DataW H} {p : List MemPlace} {ts : List TypeId} {ds : List (DataW H)} {j : Nat}
    (h : DataW.Trod enc Try.prog W 0 (fun _ => true) true 33 (.slice a len cap) d p) (hsz : (DataW.weightsEach Try.prog ts ds).all (· ≤ reachBytes) = true) (ht : ts[j]? = some 33) (hd : ds[j]? = some d) :
    ∃ xs, Cd.Row W a len cap xs ∧ cap ≤ 140737488351232 := by
  obtain ⟨fuel, hf⟩ := h
  rcases open_ints Try.underlying33 Try.underlying5 cells5 hf with ⟨hcs, _⟩ | ⟨x, l, c, zs, hcs, _, hl, hm, hz, hx, hcell, hwz⟩
  · simp [Value.cells] at hcs
    obtain ⟨rfl, rfl, rfl⟩ := hcs
    exact ⟨[], ⟨rfl, Nat.le_refl _, by unfold maxLen; omega, fun _ => ⟨rfl, rfl⟩, fun a ha => (by cases ha)⟩, by omega⟩
  · simp [Value.cells] at hcs
    obtain ⟨rfl, rfl, rfl⟩ := hcs
    simp only [Prod.mk.injEq] at hx
    obtain ⟨rfl, rfl⟩ := hx
    simp only [if_true] at hz
    refine ⟨(zs.take len).map fun z => UInt8.ofNat z.toNat, ⟨by simp; omega, hl, hm, fun e => (by cases e), fun b hb i hi => ?_⟩, ?_⟩
    · cases hb
      rw [hcell i (by omega)]
      have hi2 : i < zs.length := by omega
      have hw := bounds_u8 (hwz (zs.getD i 0) (by simp [List.getD, List.getElem?_eq_getElem hi2]))
      have e : (((zs.take len).map fun z => UInt8.ofNat z.toNat).getD i 0) = UInt8.ofNat (zs.getD i 0).toNat := by
        simp [List.getD, hi, List.getElem?_eq_getElem hi2]
      rw [e, Cd.ofNat_toNat _ (by omega)]
      congr 2
      omega
    · have := sized_slice hsz ht hd Try.underlying33
      rw [bytes5] at this
      simp only [lits, List.length_map, List.length_take, List.length_drop, reachBytes] at this
      omega
set_option maxRecDepth 20000 in
set_option maxHeartbeats 4000000 in
theorem walk (w : World) (ao : Option Addr) (n cap : Nat) (xs : List UInt8) (h : Cd.Row w ao n cap xs) (hc : cap ≤ 140737488351232) (sl : Bool) :
    Calls Try.prog 4 #[.slice ao n cap, .bool sl] w fun e w' => e = .returned (.bool true) ∧ Below w.heap.size w w' := by
  have hnc := h.2.1
  have HR : Hid (Cd.Row w ao n cap xs) := h
  have HX : Hid (xs.length = n) := h.1
  by_cases hlong : 30000 < n
  · have hnI : (30000 : Int) < (n : Int) := by omega
    clear h
    go_enter Try.func4, Try.ntmps4
    go_wp2_with fail
    refine (awake_any _).mono ?_
    rintro e w1 ⟨rfl, hb1⟩
    go_wp2_with fail
    refine (awake_any _).mono ?_
    rintro e w2 ⟨rfl, hb2⟩
    go_wp2
    go_ret
    exact ⟨rfl, bl_step hb1 hb2⟩
  · have hnI : ¬ (30000 : Int) < (n : Int) := by omega
    cases ao with
    | none =>
      obtain ⟨hn0, hc0⟩ := h.2.2.2.1 rfl
      subst hn0 hc0
      clear h hnc hc hnI hlong
      cases sl with
      | true =>
        as_aux_lemma =>
        go_enter Try.func4, Try.ntmps4
        go_wp2_with fail
        refine (awake_any _).mono ?_
        rintro e w1 ⟨rfl, hb1⟩
        obtain ⟨i0, hi0, hz0, hz1, hz2⟩ := info_parts info5
        have hse := Cd.refSeal_any w1 none 0 0 xs (HR.out.below hb1 (Nat.le_refl _)) (by omega)
        go_wp2_with (first | (at_builtin; refine wpList_append_own_none rfl _ _ 33 rfl w1.heap.size 5 i0 1 und34 hi0 (.slice none 0 0) 0 [] rfl (World.ownsRow_nil _ _ _ _) rfl ?_) | fail)
        refine hse.mono ?_
        rintro e w6 ⟨v6, rfl, hown6, hb6⟩
        obtain ⟨qo, qc, rfl, hrow, _⟩ := Cd.owns_row hown6
        have hb06 := bl_step hb1 hb6
        obtain ⟨qn, hqn⟩ : ∃ qn, 0 + 4 = qn := ⟨_, rfl⟩
        rw [hqn] at hrow
        have hqn2 : qn ≤ 30004 := by omega
        (try simp only [hqn])
        obtain ⟨qs, hqs⟩ : ∃ qs, xs ++ Cd.le4 (Cd.crcSum xs) = qs := ⟨_, rfl⟩
        rw [hqs] at hrow
        clear hse hown6 hb6 hqs hqn
        have hdec := decodeF_any w6 qo qn qc qs hrow (by omega)
        have HRQ : Hid (∀ V, Below w6.heap.size w6 V → Cd.Row V qo qn qc qs) := fun V u => hrow.below u (Nat.le_refl _)
        have HB : Hid (Below w.heap.size w w6) := hb06
        clear hrow
        go_wp2_with fail
        refine hdec.mono ?_
        rintro e w7 ⟨hda, hb7⟩
        unfold DecAns at hda
        rw [decF_any 9223372036854775807 1073741824 qs (by omega) (by omega) (by omega) (by omega)] at hda
        have href := fun V (u : Below w6.heap.size w6 V) => refDecF_any V qo qn qc qs (HRQ.out V u) (by omega)
        unfold RefAns at href
        generalize decF 1073741824 qs = CF at *
        obtain ⟨C, F⟩ := CF
        simp only at hda href
        obtain ⟨a, rfl, hin7⟩ := hda
        unfold fval fcells
        obtain ⟨w8, hw8⟩ : ∃ w8, w7.alloc (.cells #[.int .u8 (F.kind : Nat), .int .i64 F.frm, .int .u64 (F.idN : Nat), .int .i64 F.idP, .int .u16 (F.set : Nat), .int .u64 (F.curN : Nat), .int .i64 F.curP, .int .u64 (F.promN : Nat), .int .i64 F.promP, .slice a.so F.st.length a.sc, .int .u64 (F.base : Nat), .slice a.mo F.ms.length a.mc, .slice a.io F.it.length a.ic, .int .u64 (F.ack : Nat), .int .u64 (F.safe : Nat)] 30) = w8 := ⟨_, rfl⟩
        have hb78 : Below w7.heap.size w7 w8 := by rw [← hw8]; exact bl1 _ _
        have hbf : Bf w7.heap.size F a w8 := by rw [← hw8]; exact bf_new w7 F a 30
        have hin8 := hin7.up hb78
        have HW8 : Hid (w7.alloc (.cells #[.int .u8 (F.kind : Nat), .int .i64 F.frm, .int .u64 (F.idN : Nat), .int .i64 F.idP, .int .u16 (F.set : Nat), .int .u64 (F.curN : Nat), .int .i64 F.curP, .int .u64 (F.promN : Nat), .int .i64 F.promP, .slice a.so F.st.length a.sc, .int .u64 (F.base : Nat), .slice a.mo F.ms.length a.mc, .slice a.io F.it.length a.ic, .int .u64 (F.ack : Nat), .int .u64 (F.safe : Nat)] 30) = w8) := hw8
        have hb8 : Below w6.heap.size w6 w8 := bl_step hb7 hb78
        have href8 := href w8 hb8
        clear hdec href hin7 hw8 hb7 hb78 HRQ
        go_wp2_with fail
        rw [HW8.out]
        refine href8.mono ?_
        rintro e w9 ⟨⟨b, rfl, hin9⟩, hb9⟩
        unfold fval fcells
        obtain ⟨w10, hw10⟩ : ∃ w10, w9.alloc (.cells #[.int .u8 (F.kind : Nat), .int .i64 F.frm, .int .u64 (F.idN : Nat), .int .i64 F.idP, .int .u16 (F.set : Nat), .int .u64 (F.curN : Nat), .int .i64 F.curP, .int .u64 (F.promN : Nat), .int .i64 F.promP, .slice b.so F.st.length b.sc, .int .u64 (F.base : Nat), .slice b.mo F.ms.length b.mc, .slice b.io F.it.length b.ic, .int .u64 (F.ack : Nat), .int .u64 (F.safe : Nat)] 30) = w10 := ⟨_, rfl⟩
        have hb910 : Below w9.heap.size w9 w10 := by rw [← hw10]; exact bl1 _ _
        have hbg : Bf w9.heap.size F b w10 := by rw [← hw10]; exact bf_new w9 F b 30
        have hin10 := hin9.up hb910
        have hb810 : Below w8.heap.size w8 w10 := bl_step hb9 hb910
        have hbf10 := hbf.up hb810
        have hin8' := hin8.up hb810
        have HW10 : Hid (w9.alloc (.cells #[.int .u8 (F.kind : Nat), .int .i64 F.frm, .int .u64 (F.idN : Nat), .int .i64 F.idP, .int .u16 (F.set : Nat), .int .u64 (F.curN : Nat), .int .i64 F.curP, .int .u64 (F.promN : Nat), .int .i64 F.promP, .slice b.so F.st.length b.sc, .int .u64 (F.base : Nat), .slice b.mo F.ms.length b.mc, .slice b.io F.it.length b.ic, .int .u64 (F.ack : Nat), .int .u64 (F.safe : Nat)] 30) = w10) := hw10
        have hsame := sameF_true _ _ w10 F a b hin8' hin10
        unfold fval fcells at hsame
        have HE : Hid (Below w.heap.size w w10) := bl_step HB.out (bl_step hb8 hb810)
        obtain ⟨x0, x1, x2, x3, x4, x5, x6, x7, x8, x9, x10, x11, x12, x13, x14⟩ := hbf10
        obtain ⟨y0, y1, y2, y3, y4, y5, y6, y7, y8, y9, y10, y11, y12, y13, y14⟩ := hbg
        clear href8 hin9 hin10 hin8 hin8' hbf hb9 hb810 hb8 HW8 hb910
        go_wp2_with fail
        (try simp only [hw10])
        refine hsame.mono ?_
        rintro e w11 ⟨rfl, hu11⟩
        have hb11 := bl_step HE.out hu11.bl
        clear hw10 hsame hu11 x0 x1 x2 x3 x4 x5 x6 x7 x8 x9 x10 x11 x12 x13 x14 y0 y1 y2 y3 y4 y5 y6 y7 y8 y9 y10 y11 y12 y13 y14
        go_wp2
        go_ret
        exact ⟨rfl, hb11⟩
      | false =>
        as_aux_lemma =>
        go_enter Try.func4, Try.ntmps4
        go_wp2_with fail
        refine (awake_any _).mono ?_
        rintro e w1 ⟨rfl, hb1⟩
        obtain ⟨i0, hi0, hz0, hz1, hz2⟩ := info_parts info5
        obtain ⟨qo, qn, qc, qs, rfl, rfl, rfl, hqn2, hrow⟩ : ∃ qo qn qc qs, (none : Option Addr) = qo ∧ 0 = qn ∧ 0 = qc ∧ qn ≤ 30004 ∧ Cd.Row w1 qo qn qc qs := ⟨none, 0, 0, [], rfl, rfl, rfl, by omega, (Rx.nil (p := fun _ => True)).row⟩
        have hdec := decodeF_any w1 none 0 0 qs hrow (by omega)
        have HRQ : Hid (∀ V, Below w1.heap.size w1 V → Cd.Row V none 0 0 qs) := fun V u => hrow.below u (Nat.le_refl _)
        have HB : Hid (Below w.heap.size w w1) := hb1
        clear hrow
        go_wp2_with (first | (at_builtin; refine wpList_append_own_none rfl _ _ 33 rfl w1.heap.size 5 i0 1 und34 hi0 (.slice none 0 0) 0 [] rfl (World.ownsRow_nil _ _ _ _) rfl ?_) | fail)
        refine hdec.mono ?_
        rintro e w7 ⟨hda, hb7⟩
        unfold DecAns at hda
        rw [decF_any 9223372036854775807 1073741824 qs (by omega) (by omega) (by omega) (by omega)] at hda
        have href := fun V (u : Below w1.heap.size w1 V) => refDecF_any V none 0 0 qs (HRQ.out V u) (by omega)
        unfold RefAns at href
        generalize decF 1073741824 qs = CF at *
        obtain ⟨C, F⟩ := CF
        simp only at hda href
        obtain ⟨a, rfl, hin7⟩ := hda
        unfold fval fcells
        obtain ⟨w8, hw8⟩ : ∃ w8, w7.alloc (.cells #[.int .u8 (F.kind : Nat), .int .i64 F.frm, .int .u64 (F.idN : Nat), .int .i64 F.idP, .int .u16 (F.set : Nat), .int .u64 (F.curN : Nat), .int .i64 F.curP, .int .u64 (F.promN : Nat), .int .i64 F.promP, .slice a.so F.st.length a.sc, .int .u64 (F.base : Nat), .slice a.mo F.ms.length a.mc, .slice a.io F.it.length a.ic, .int .u64 (F.ack : Nat), .int .u64 (F.safe : Nat)] 30) = w8 := ⟨_, rfl⟩
        have hb78 : Below w7.heap.size w7 w8 := by rw [← hw8]; exact bl1 _ _
        have hbf : Bf w7.heap.size F a w8 := by rw [← hw8]; exact bf_new w7 F a 30
        have hin8 := hin7.up hb78
        have HW8 : Hid (w7.alloc (.cells #[.int .u8 (F.kind : Nat), .int .i64 F.frm, .int .u64 (F.idN : Nat), .int .i64 F.idP, .int .u16 (F.set : Nat), .int .u64 (F.curN : Nat), .int .i64 F.curP, .int .u64 (F.promN : Nat), .int .i64 F.promP, .slice a.so F.st.length a.sc, .int .u64 (F.base : Nat), .slice a.mo F.ms.length a.mc, .slice a.io F.it.length a.ic, .int .u64 (F.ack : Nat), .int .u64 (F.safe : Nat)] 30) = w8) := hw8
        have hb8 : Below w1.heap.size w1 w8 := bl_step hb7 hb78
        have href8 := href w8 hb8
        clear hdec href hin7 hw8 hb7 hb78 HRQ
        go_wp2_with fail
        rw [HW8.out]
        refine href8.mono ?_
        rintro e w9 ⟨⟨b, rfl, hin9⟩, hb9⟩
        unfold fval fcells
        obtain ⟨w10, hw10⟩ : ∃ w10, w9.alloc (.cells #[.int .u8 (F.kind : Nat), .int .i64 F.frm, .int .u64 (F.idN : Nat), .int .i64 F.idP, .int .u16 (F.set : Nat), .int .u64 (F.curN : Nat), .int .i64 F.curP, .int .u64 (F.promN : Nat), .int .i64 F.promP, .slice b.so F.st.length b.sc, .int .u64 (F.base : Nat), .slice b.mo F.ms.length b.mc, .slice b.io F.it.length b.ic, .int .u64 (F.ack : Nat), .int .u64 (F.safe : Nat)] 30) = w10 := ⟨_, rfl⟩
        have hb910 : Below w9.heap.size w9 w10 := by rw [← hw10]; exact bl1 _ _
        have hbg : Bf w9.heap.size F b w10 := by rw [← hw10]; exact bf_new w9 F b 30
        have hin10 := hin9.up hb910
        have hb810 : Below w8.heap.size w8 w10 := bl_step hb9 hb910
        have hbf10 := hbf.up hb810
        have hin8' := hin8.up hb810
        have HW10 : Hid (w9.alloc (.cells #[.int .u8 (F.kind : Nat), .int .i64 F.frm, .int .u64 (F.idN : Nat), .int .i64 F.idP, .int .u16 (F.set : Nat), .int .u64 (F.curN : Nat), .int .i64 F.curP, .int .u64 (F.promN : Nat), .int .i64 F.promP, .slice b.so F.st.length b.sc, .int .u64 (F.base : Nat), .slice b.mo F.ms.length b.mc, .slice b.io F.it.length b.ic, .int .u64 (F.ack : Nat), .int .u64 (F.safe : Nat)] 30) = w10) := hw10
        have hsame := sameF_true _ _ w10 F a b hin8' hin10
        unfold fval fcells at hsame
        have HE : Hid (Below w.heap.size w w10) := bl_step HB.out (bl_step hb8 hb810)
        obtain ⟨x0, x1, x2, x3, x4, x5, x6, x7, x8, x9, x10, x11, x12, x13, x14⟩ := hbf10
        obtain ⟨y0, y1, y2, y3, y4, y5, y6, y7, y8, y9, y10, y11, y12, y13, y14⟩ := hbg
        clear href8 hin9 hin10 hin8 hin8' hbf hb9 hb810 hb8 HW8 hb910
        go_wp2_with fail
        (try simp only [hw10])
        refine hsame.mono ?_
        rintro e w11 ⟨rfl, hu11⟩
        have hb11 := bl_step HE.out hu11.bl
        clear hw10 hsame hu11 x0 x1 x2 x3 x4 x5 x6 x7 x8 x9 x10 x11 x12 x13 x14 y0 y1 y2 y3 y4 y5 y6 y7 y8 y9 y10 y11 y12 y13 y14
        go_wp2
        go_ret
        exact ⟨rfl, hb11⟩
    | some ad =>
      clear h
      cases sl with
      | true =>
        as_aux_lemma =>
        go_enter Try.func4, Try.ntmps4
        go_wp2_with fail
        refine (awake_any _).mono ?_
        rintro e w1 ⟨rfl, hb1⟩
        have hR1 := HR.out.below hb1 (Nat.le_refl _)
        have hcells : ∀ (j : Nat) (u : Value), (xs.map Cd.by8)[j]? = some u → w1.cell? (ad.add j) = some u := fun j u hj => by
          rw [List.getElem?_map] at hj
          obtain ⟨x, hx, rfl⟩ := Option.map_eq_some_iff.1 hj
          have hjl := (List.getElem?_eq_some_iff.1 hx).1
          rw [hR1.2.2.2.2 ad rfl j (by have := HX.out; omega)]
          simp [Cd.by8, List.getD, hx]
        go_wp2_with (first | (at_builtin; refine wpList_append_ow rfl _ _ rfl w1.heap.size w1 w1 (.slice none 0 0) [] rfl ?q1 ad n cap xs rfl ?q2 ?q3 ?q4 ?_) | fail)
        case q1 => exact ⟨World.ownsRow_nil _ _ _ _, Below.refl _ _, Nat.le_refl _⟩
        case q2 => exact HX.out
        case q3 => exact hcells
        case q4 => have := HX.out; simp; omega
        intro v5 w5 how0
        have how : Ow w1.heap.size w1 w5 v5 xs := how0
        obtain ⟨vo, vc, rfl, hrow5, _⟩ := Cd.owns_row how.1
        have hb5 : Below w.heap.size w w5 := bl_step hb1 how.2.1
        have hx5 := HX.out
        rw [hx5] at hrow5
        (try simp only [hx5])
        clear how how0 hcells hR1 hb1 hx5
        have hse := Cd.refSeal_any w5 (some ad) n cap xs (HR.out.below hb5 (Nat.le_refl _)) (by omega)
        go_wp2_with fail
        refine hse.mono ?_
        rintro e w6 ⟨v6, rfl, hown6, hb6⟩
        obtain ⟨qo, qc, rfl, hrow, _⟩ := Cd.owns_row hown6
        have hb06 := bl_step hb5 hb6
        obtain ⟨qn, hqn⟩ : ∃ qn, n + 4 = qn := ⟨_, rfl⟩
        rw [hqn] at hrow
        have hqn2 : qn ≤ 30004 := by omega
        (try simp only [hqn])
        obtain ⟨qs, hqs⟩ : ∃ qs, xs ++ Cd.le4 (Cd.crcSum xs) = qs := ⟨_, rfl⟩
        rw [hqs] at hrow
        clear hse hown6 hb6 hqs hqn
        have hdec := decodeF_any w6 qo qn qc qs hrow (by omega)
        have HRQ : Hid (∀ V, Below w6.heap.size w6 V → Cd.Row V qo qn qc qs) := fun V u => hrow.below u (Nat.le_refl _)
        have HB : Hid (Below w.heap.size w w6) := hb06
        clear hrow
        go_wp2_with fail
        refine hdec.mono ?_
        rintro e w7 ⟨hda, hb7⟩
        unfold DecAns at hda
        rw [decF_any 9223372036854775807 1073741824 qs (by omega) (by omega) (by omega) (by omega)] at hda
        have href := fun V (u : Below w6.heap.size w6 V) => refDecF_any V qo qn qc qs (HRQ.out V u) (by omega)
        unfold RefAns at href
        generalize decF 1073741824 qs = CF at *
        obtain ⟨C, F⟩ := CF
        simp only at hda href
        obtain ⟨a, rfl, hin7⟩ := hda
        unfold fval fcells
        obtain ⟨w8, hw8⟩ : ∃ w8, w7.alloc (.cells #[.int .u8 (F.kind : Nat), .int .i64 F.frm, .int .u64 (F.idN : Nat), .int .i64 F.idP, .int .u16 (F.set : Nat), .int .u64 (F.curN : Nat), .int .i64 F.curP, .int .u64 (F.promN : Nat), .int .i64 F.promP, .slice a.so F.st.length a.sc, .int .u64 (F.base : Nat), .slice a.mo F.ms.length a.mc, .slice a.io F.it.length a.ic, .int .u64 (F.ack : Nat), .int .u64 (F.safe : Nat)] 30) = w8 := ⟨_, rfl⟩
        have hb78 : Below w7.heap.size w7 w8 := by rw [← hw8]; exact bl1 _ _
        have hbf : Bf w7.heap.size F a w8 := by rw [← hw8]; exact bf_new w7 F a 30
        have hin8 := hin7.up hb78
        have HW8 : Hid (w7.alloc (.cells #[.int .u8 (F.kind : Nat), .int .i64 F.frm, .int .u64 (F.idN : Nat), .int .i64 F.idP, .int .u16 (F.set : Nat), .int .u64 (F.curN : Nat), .int .i64 F.curP, .int .u64 (F.promN : Nat), .int .i64 F.promP, .slice a.so F.st.length a.sc, .int .u64 (F.base : Nat), .slice a.mo F.ms.length a.mc, .slice a.io F.it.length a.ic, .int .u64 (F.ack : Nat), .int .u64 (F.safe : Nat)] 30) = w8) := hw8
        have hb8 : Below w6.heap.size w6 w8 := bl_step hb7 hb78
        have href8 := href w8 hb8
        clear hdec href hin7 hw8 hb7 hb78 HRQ
        go_wp2_with fail
        rw [HW8.out]
        refine href8.mono ?_
        rintro e w9 ⟨⟨b, rfl, hin9⟩, hb9⟩
        unfold fval fcells
        obtain ⟨w10, hw10⟩ : ∃ w10, w9.alloc (.cells #[.int .u8 (F.kind : Nat), .int .i64 F.frm, .int .u64 (F.idN : Nat), .int .i64 F.idP, .int .u16 (F.set : Nat), .int .u64 (F.curN : Nat), .int .i64 F.curP, .int .u64 (F.promN : Nat), .int .i64 F.promP, .slice b.so F.st.length b.sc, .int .u64 (F.base : Nat), .slice b.mo F.ms.length b.mc, .slice b.io F.it.length b.ic, .int .u64 (F.ack : Nat), .int .u64 (F.safe : Nat)] 30) = w10 := ⟨_, rfl⟩
        have hb910 : Below w9.heap.size w9 w10 := by rw [← hw10]; exact bl1 _ _
        have hbg : Bf w9.heap.size F b w10 := by rw [← hw10]; exact bf_new w9 F b 30
        have hin10 := hin9.up hb910
        have hb810 : Below w8.heap.size w8 w10 := bl_step hb9 hb910
        have hbf10 := hbf.up hb810
        have hin8' := hin8.up hb810
        have HW10 : Hid (w9.alloc (.cells #[.int .u8 (F.kind : Nat), .int .i64 F.frm, .int .u64 (F.idN : Nat), .int .i64 F.idP, .int .u16 (F.set : Nat), .int .u64 (F.curN : Nat), .int .i64 F.curP, .int .u64 (F.promN : Nat), .int .i64 F.promP, .slice b.so F.st.length b.sc, .int .u64 (F.base : Nat), .slice b.mo F.ms.length b.mc, .slice b.io F.it.length b.ic, .int .u64 (F.ack : Nat), .int .u64 (F.safe : Nat)] 30) = w10) := hw10
        have hsame := sameF_true _ _ w10 F a b hin8' hin10
        unfold fval fcells at hsame
        have HE : Hid (Below w.heap.size w w10) := bl_step HB.out (bl_step hb8 hb810)
        obtain ⟨x0, x1, x2, x3, x4, x5, x6, x7, x8, x9, x10, x11, x12, x13, x14⟩ := hbf10
        obtain ⟨y0, y1, y2, y3, y4, y5, y6, y7, y8, y9, y10, y11, y12, y13, y14⟩ := hbg
        clear href8 hin9 hin10 hin8 hin8' hbf hb9 hb810 hb8 HW8 hb910
        go_wp2_with fail
        (try simp only [hw10])
        refine hsame.mono ?_
        rintro e w11 ⟨rfl, hu11⟩
        have hb11 := bl_step HE.out hu11.bl
        clear hw10 hsame hu11 x0 x1 x2 x3 x4 x5 x6 x7 x8 x9 x10 x11 x12 x13 x14 y0 y1 y2 y3 y4 y5 y6 y7 y8 y9 y10 y11 y12 y13 y14
        go_wp2
        go_ret
        exact ⟨rfl, hb11⟩
      | false =>
        as_aux_lemma =>
        go_enter Try.func4, Try.ntmps4
        go_wp2_with fail
        refine (awake_any _).mono ?_
        rintro e w1 ⟨rfl, hb1⟩
        have hR1 := HR.out.below hb1 (Nat.le_refl _)
        have hcells : ∀ (j : Nat) (u : Value), (xs.map Cd.by8)[j]? = some u → w1.cell? (ad.add j) = some u := fun j u hj => by
          rw [List.getElem?_map] at hj
          obtain ⟨x, hx, rfl⟩ := Option.map_eq_some_iff.1 hj
          have hjl := (List.getElem?_eq_some_iff.1 hx).1
          rw [hR1.2.2.2.2 ad rfl j (by have := HX.out; omega)]
          simp [Cd.by8, List.getD, hx]
        go_wp2_with (first | (at_builtin; refine wpList_append_ow rfl _ _ rfl w1.heap.size w1 w1 (.slice none 0 0) [] rfl ?q1 ad n cap xs rfl ?q2 ?q3 ?q4 ?_) | fail)
        case q1 => exact ⟨World.ownsRow_nil _ _ _ _, Below.refl _ _, Nat.le_refl _⟩
        case q2 => exact HX.out
        case q3 => exact hcells
        case q4 => have := HX.out; simp; omega
        intro v5 w5 how0
        have how : Ow w1.heap.size w1 w5 v5 xs := how0
        obtain ⟨vo, vc, rfl, hrow5, _⟩ := Cd.owns_row how.1
        have hb5 : Below w.heap.size w w5 := bl_step hb1 how.2.1
        have hx5 := HX.out
        rw [hx5] at hrow5
        (try simp only [hx5])
        clear how how0 hcells hR1 hb1 hx5
        obtain ⟨qs, hqs⟩ : ∃ qs, xs = qs := ⟨_, rfl⟩
        have hrow := hrow5
        rw [hqs] at hrow
        have hqn2 : n ≤ 30004 := by omega
        clear hqs hrow5
        have hdec := decodeF_any w5 vo n vc qs hrow (by omega)
        have HRQ : Hid (∀ V, Below w5.heap.size w5 V → Cd.Row V vo n vc qs) := fun V u => hrow.below u (Nat.le_refl _)
        have HB : Hid (Below w.heap.size w w5) := hb5
        clear hrow
        go_wp2_with fail
        refine hdec.mono ?_
        rintro e w7 ⟨hda, hb7⟩
        unfold DecAns at hda
        rw [decF_any 9223372036854775807 1073741824 qs (by omega) (by omega) (by omega) (by omega)] at hda
        have href := fun V (u : Below w5.heap.size w5 V) => refDecF_any V vo n vc qs (HRQ.out V u) (by omega)
        unfold RefAns at href
        generalize decF 1073741824 qs = CF at *
        obtain ⟨C, F⟩ := CF
        simp only at hda href
        obtain ⟨a, rfl, hin7⟩ := hda
        unfold fval fcells
        obtain ⟨w8, hw8⟩ : ∃ w8, w7.alloc (.cells #[.int .u8 (F.kind : Nat), .int .i64 F.frm, .int .u64 (F.idN : Nat), .int .i64 F.idP, .int .u16 (F.set : Nat), .int .u64 (F.curN : Nat), .int .i64 F.curP, .int .u64 (F.promN : Nat), .int .i64 F.promP, .slice a.so F.st.length a.sc, .int .u64 (F.base : Nat), .slice a.mo F.ms.length a.mc, .slice a.io F.it.length a.ic, .int .u64 (F.ack : Nat), .int .u64 (F.safe : Nat)] 30) = w8 := ⟨_, rfl⟩
        have hb78 : Below w7.heap.size w7 w8 := by rw [← hw8]; exact bl1 _ _
        have hbf : Bf w7.heap.size F a w8 := by rw [← hw8]; exact bf_new w7 F a 30
        have hin8 := hin7.up hb78
        have HW8 : Hid (w7.alloc (.cells #[.int .u8 (F.kind : Nat), .int .i64 F.frm, .int .u64 (F.idN : Nat), .int .i64 F.idP, .int .u16 (F.set : Nat), .int .u64 (F.curN : Nat), .int .i64 F.curP, .int .u64 (F.promN : Nat), .int .i64 F.promP, .slice a.so F.st.length a.sc, .int .u64 (F.base : Nat), .slice a.mo F.ms.length a.mc, .slice a.io F.it.length a.ic, .int .u64 (F.ack : Nat), .int .u64 (F.safe : Nat)] 30) = w8) := hw8
        have hb8 : Below w5.heap.size w5 w8 := bl_step hb7 hb78
        have href8 := href w8 hb8
        clear hdec href hin7 hw8 hb7 hb78 HRQ
        go_wp2_with fail
        rw [HW8.out]
        refine href8.mono ?_
        rintro e w9 ⟨⟨b, rfl, hin9⟩, hb9⟩
        unfold fval fcells
        obtain ⟨w10, hw10⟩ : ∃ w10, w9.alloc (.cells #[.int .u8 (F.kind : Nat), .int .i64 F.frm, .int .u64 (F.idN : Nat), .int .i64 F.idP, .int .u16 (F.set : Nat), .int .u64 (F.curN : Nat), .int .i64 F.curP, .int .u64 (F.promN : Nat), .int .i64 F.promP, .slice b.so F.st.length b.sc, .int .u64 (F.base : Nat), .slice b.mo F.ms.length b.mc, .slice b.io F.it.length b.ic, .int .u64 (F.ack : Nat), .int .u64 (F.safe : Nat)] 30) = w10 := ⟨_, rfl⟩
        have hb910 : Below w9.heap.size w9 w10 := by rw [← hw10]; exact bl1 _ _
        have hbg : Bf w9.heap.size F b w10 := by rw [← hw10]; exact bf_new w9 F b 30
        have hin10 := hin9.up hb910
        have hb810 : Below w8.heap.size w8 w10 := bl_step hb9 hb910
        have hbf10 := hbf.up hb810
        have hin8' := hin8.up hb810
        have HW10 : Hid (w9.alloc (.cells #[.int .u8 (F.kind : Nat), .int .i64 F.frm, .int .u64 (F.idN : Nat), .int .i64 F.idP, .int .u16 (F.set : Nat), .int .u64 (F.curN : Nat), .int .i64 F.curP, .int .u64 (F.promN : Nat), .int .i64 F.promP, .slice b.so F.st.length b.sc, .int .u64 (F.base : Nat), .slice b.mo F.ms.length b.mc, .slice b.io F.it.length b.ic, .int .u64 (F.ack : Nat), .int .u64 (F.safe : Nat)] 30) = w10) := hw10
        have hsame := sameF_true _ _ w10 F a b hin8' hin10
        unfold fval fcells at hsame
        have HE : Hid (Below w.heap.size w w10) := bl_step HB.out (bl_step hb8 hb810)
        obtain ⟨x0, x1, x2, x3, x4, x5, x6, x7, x8, x9, x10, x11, x12, x13, x14⟩ := hbf10
        obtain ⟨y0, y1, y2, y3, y4, y5, y6, y7, y8, y9, y10, y11, y12, y13, y14⟩ := hbg
        clear href8 hin9 hin10 hin8 hin8' hbf hb9 hb810 hb8 HW8 hb910
        go_wp2_with fail
        (try simp only [hw10])
        refine hsame.mono ?_
        rintro e w11 ⟨rfl, hu11⟩
        have hb11 := bl_step HE.out hu11.bl
        clear hw10 hsame hu11 x0 x1 x2 x3 x4 x5 x6 x7 x8 x9 x10 x11 x12 x13 x14 y0 y1 y2 y3 y4 y5 y6 y7 y8 y9 y10 y11 y12 y13 y14
        go_wp2
        go_ret
        exact ⟨rfl, hb11⟩

set_option maxRecDepth 100000 in
theorem lifted (os : Os) (started : os.Started) (H : Type) (enc : TypeId × Value → H) :
    ReturnsInHanded {} Try.checked os 4 .any (Rows.frameDecodesSpec.pre6 enc Try.prog Try.f4 Rows.frameDecodesRow.domain false) (Rows.frameDecodesSpec.post enc Try.prog Try.f4 false true false false) := by
  refine returnsInHanded_of_change_sized (C := Try.checked) own started (by kernel_rfl) Try.func4
    (ChangeSpec.witness6 (enc := enc) (C := Try.checked) false ⟨#[], #[.slice none 0 0, .bool false], []⟩ 4 (by kernel_rfl) (by kernel_rfl) (by kernel_rfl) (by kernel_rfl)) ?_
  intro W base args ds gs before hval0 hW hcnd hsz0 _
  have hsz : (DataW.weightsEach Try.prog (Try.f4.params.toList ++ Rows.frameDecodesSpec.plain.varTypes Try.prog) (ds ++ gs)).all (· ≤ reachBytes) = true := hsz0
  have hval : ∀ (j : Nat) t v, Try.f4.params[j]? = some t → args[j]? = some v → Value.okWide Try.prog W .any base t v := hval0
  have hW' := hW
  obtain ⟨p, q, hA0, hV, rfl, hfz, hnd⟩ := hW
  have hA : DataW.TrodAll enc Try.prog W 0 (fun _ => true) true Try.f4.params.toList args.toList ds p := hA0
  rw [Try.params4] at hA hval hsz
  obtain ⟨v0, vs0, d0, ds0, p0, q0, hargs0, rfl, rfl, h0, r0⟩ := trodAll_cons hA
  obtain ⟨v1, vs1, d1, ds1, p1, q1, hargs1, rfl, rfl, h1, r1⟩ := trodAll_cons r0
  obtain ⟨rfl, rfl, rfl⟩ := trodAll_nil r1
  obtain rfl : args = #[v0, v1] := by cases args; simp_all
  obtain ⟨rfl, rfl⟩ := trodVars_none hV
  obtain ⟨a0, len0, cap0, rfl⟩ := okWide_slice Try.underlying33 (hval 0 33 v0 rfl rfl)
  have k0 := h0
  have lt0 : ∀ x ∈ p0, x.block < W.heap.size := by obtain ⟨m, hm⟩ := k0; exact DataW.trod_lt m _ _ _ hm
  obtain ⟨xs0, hx0, hc0⟩ := open_bytes h0 hsz (j := 0) rfl rfl
  obtain ⟨b1, rfl, rfl, rfl⟩ := open_bool Try.underlying4 (hval 1 4 v1 rfl rfl) h1
  clear hA0 hval0 hsz hsz0
  refine (walk W a0 len0 cap0 xs0 hx0 hc0 b1).mono fun e W' ⟨he, bel⟩ => ?_
  subst he
  exact ⟨_, rfl, _, _, _, [], _, [], hW', trodAll_mk1 (shut_bool Try.underlying4 _), (trodAll_cons_mk (Below.trod laidOut (by kernel_rfl) (of_decide_eq_true (by kernel_rfl)) k0 bel lt0) (trodAll_cons_mk (shut_bool Try.underlying4 _) trodAll_mk0)), rfl, bel.frame _, fun h => by cases h⟩

theorem over : Rows.frameDecodesRow.holds Try.pinned (OpenSpec.ofChange Rows.frameDecodesSpec) :=
  OpenClaim.holds_of_wide 4 Try.f4 rfl rfl rfl rfl rfl rfl rfl ⟨rfl, rfl, rfl, rfl, rfl⟩ rfl rfl rfl rfl rfl (by kernel_rfl) Try.func4 (by kernel_rfl)
    (of_decide_eq_true (by kernel_rfl)) (by unfold Func.isWrapper; first | (rw [if_pos (by decide +kernel)]; kernel_rfl) | (rw [if_neg (by decide +kernel)]; exact ⟨rfl, rfl⟩))
    (fun os started H enc _ => lifted os started H enc)

end Go.Proofs.Ytfemjbaadnjanaa.frameDecodes
namespace Go.Proofs.Ytfemjbaadnjanaa
theorem frameDecodes_holds : Rows.FrameDecodesSaid := frameDecodes.over
#print axioms frameDecodes_holds
end Go.Proofs.Ytfemjbaadnjanaa
