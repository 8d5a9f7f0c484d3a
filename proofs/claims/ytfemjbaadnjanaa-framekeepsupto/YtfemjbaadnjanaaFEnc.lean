/-
  frame.Encode: a right frame's bytes, sealed; else an error.
-/
import Derived.Test.YtfemjbaadnjanaaFWrite4A
import Derived.Test.YtfemjbaadnjanaaFWrite4B
import Derived.Test.YtfemjbaadnjanaaFRight4
namespace Go.Proofs.Ytfemjbaadnjanaa
open Go.RowKit
set_option linter.unusedVariables false
set_option linter.unusedSimpArgs false

theorem right_parts {F : PF} (h : rightF F = true) : (0 ≤ F.frm ∧ F.frm ≤ 15) ∧ formV F.idN F.idP = true ∧ formV F.curN F.curP = true ∧ formV F.promN F.promP = true ∧ (∀ d ∈ F.st, stOk d = true) ∧ F.st.length ≤ 4096 ∧ (∀ d ∈ F.it, okF d.1 = true) ∧ knownB F = true := by
  unfold rightF numsB listsB itsB okF at h
  simp only [Bool.and_eq_true, decide_eq_true_eq, List.all_eq_true] at h
  obtain ⟨⟨⟨h1, _, ⟨h2, h3⟩, h4⟩, ⟨_, ⟨h5, _⟩, _, h6⟩, h7⟩, h8, _⟩ := h
  exact ⟨h1, h2, h3, h4, h7, h5, fun d hd => by have := h6 d hd; unfold okF; simpa using this, h8⟩

theorem frameW_any (B : Nat) (w : World) (g : Nat) (st : St) (h : Wr B w g st) (F : PF) (a : Fa) (hin : FIn (fun b => b < B) w F a) (hr : rightF F = true) (ho : POk F) :
    Calls Try.prog 20 #[.pointer (some ⟨g, 0, none⟩), fval F a] w fun e w' => e = .returned (.tuple #[]) ∧ Wr B w' g (layS st (wire F)) ∧ Below B w w' := by
  obtain ⟨⟨h0, h15⟩, fi, fc, fp, hs, hsl, hi, hk⟩ := right_parts hr
  have hk' := known_cases hk
  unfold fval fcells
  rcases hk' with k | k | k | k | k | k | k
  · have := frameW_1 B w g st h F a hin k h0 h15 ho fi fc fp hs hsl hi; rw [k]; exact this
  · have := frameW_2 B w g st h F a hin k h0 h15 ho fi fc fp hs hsl hi; rw [k]; exact this
  · have := frameW_3 B w g st h F a hin k h0 h15 ho fi fc fp hs hsl hi; rw [k]; exact this
  · have := frameW_4 B w g st h F a hin k h0 h15 ho fi fc fp hs hsl hi; rw [k]; exact this
  · have := frameW_5 B w g st h F a hin k h0 h15 ho fi fc fp hs hsl hi; rw [k]; exact this
  · have := frameW_6 B w g st h F a hin k h0 h15 ho fi fc fp hs hsl hi; rw [k]; exact this
  · have := frameW_7 B w g st h F a hin k h0 h15 ho fi fc fp hs hsl hi; rw [k]; exact this

/-- What Encode answers. -/
def EncAns (w w' : World) (F : PF) (e : Ending) : Prop :=
  if rightF F = false then e = .returned (.tuple #[.slice none 0 0, .int .i64 3])
  else if 1048576 < (wire F).length + 4 then e = .returned (.tuple #[.slice none 0 0, .int .i64 2])
  else ∃ v, e = .returned (.tuple #[v, .int .i64 0]) ∧ w'.ownsRow w.heap.size 5 1 v ((wire F).length + 4) ((sealB (wire F)).map Cd.by8)

set_option maxRecDepth 20000 in
set_option maxHeartbeats 2000000 in
theorem encodeF_any (p : Nat → Prop) (w : World) (F : PF) (a : Fa) (hin : FIn p w F a) (ho : POk F) :
    Calls Try.prog 12 #[fval F a] w fun e w' => EncAns w w' F e ∧ Below w.heap.size w w' := by
  obtain ⟨w0, hw0, hu0, hb0⟩ := boxed w F a
  have HB : Hid (Bf w.heap.size F a w0) := hb0
  have HIN : Hid (FIn p w0 F a) := hin.up hu0.bl
  have hri := right_any p w0 F a HIN.out ho.frm
  have HO : Hid (POk F) := ho
  obtain ⟨d0, d1, d2, d3, d4, d5, d6, d7, d8, d9, d10, d11, d12, d13, d14⟩ := hb0
  clear hin ho
  cases hr : rightF F with
  | false =>
    rw [hr] at hri
    have HR : Hid (rightF F = false) := hr
    clear hr HIN HO HB
    unfold fval fcells at *
    go_enter Try.func12, Try.ntmps12
    go_wp2_with fail
    (try simp only [hw0])
    refine hri.mono ?_
    rintro e w1 ⟨rfl, hu1⟩
    have hu01 := hu0.trans hu1
    clear hri d0 d1 d2 d3 d4 d5 d6 d7 d8 d9 d10 d11 d12 d13 d14 hw0 hu0 hu1
    go_wp2
    go_ret2
    refine ⟨?_, hu01.bl⟩
    unfold EncAns
    rw [HR.out, if_pos rfl]
    rfl
  | true =>
    rw [hr] at hri
    have HR : Hid (rightF F = true) := hr
    clear hr
    unfold fval fcells at *
    go_enter Try.func12, Try.ntmps12
    go_wp2_with fail
    (try simp only [hw0])
    refine hri.mono ?_
    rintro e w1 ⟨rfl, hu1⟩
    have hu01 := hu0.trans hu1
    have hs01 := hu01.bl.size
    have hb1 := HB.out.up hu1.bl
    obtain ⟨w2, hw2⟩ : ∃ w2, w1.alloc (.cells #[.slice none 0 0, .bool false] 54) = w2 := ⟨_, rfl⟩
    have hb12 : Below w1.heap.size w1 w2 := by rw [← hw2]; exact bl1 _ _
    have hb2 := hb1.up hb12
    have hwr : Wr w1.heap.size w2 w1.heap.size (some []) := by
      refine ⟨Nat.le_refl _, none, 0, by simp, ?_, World.ownsRow_nil _ _ _ _⟩
      rw [← hw2]
      exact heap_alloc_new _ _
    have hin2 : FIn (fun b => b < w1.heap.size) w2 F a := ((HIN.out.up hu1.bl).imp (fun b hb _ => hb)).up hb12
    have hfw := frameW_any w1.heap.size w2 w1.heap.size (some []) hwr F a hin2 HR.out HO.out
    unfold fval fcells at hfw
    have HW2 : Hid (w1.alloc (.cells #[.slice none 0 0, .bool false] 54) = w2) := hw2
    have hlt : w.heap.size < w1.heap.size := World.block_lt_of_cell? w1 _ hb1.c0
    obtain ⟨d0, d1, d2, d3, d4, d5, d6, d7, d8, d9, d10, d11, d12, d13, d14⟩ := hb1
    have hb02 : Below w.heap.size w w2 := bl_step hu01.bl hb12
    clear hri hw0 hu0 hu1 hw2 hwr hin2 hb2 hb12 HB HIN
    go_wp2_with fail
    rw [HW2.out]
    refine hfw.mono ?_
    rintro e w3 ⟨rfl, hw3, hb3⟩
    have hb03 : Below w.heap.size w w3 := hb02.trans (hb3.mono hs01)
    have HW3 : Hid _ := hw3
    obtain ⟨ao, n, cap, hn, c0, c1, _, _, hx⟩ := hw3.cells
    clear hfw d0 d1 d2 d3 d4 d5 d6 d7 d8 d9 d10 d11 d12 d13 d14 HW2 hb3 hb02 hw3
    by_cases hlong : (wire F).length ≤ 1048576
    · have HS : Hid (layS (some []) (wire F) = some (wire F)) := by show _ = _; simp [layS, hlong]
      rw [HS.out] at HW3 c1 hx
      obtain ⟨_, ao', cap', _, hg3, ho3⟩ := HW3.out
      have hc9 : w3.cell? ⟨w1.heap.size, 0, none⟩ = some (.slice ao' (wire F).length cap') := by rw [cell_of_row w3 _ 0 _ 54 (0, 0) hg3]; rfl
      rw [hc9] at c0
      simp only [Option.some.injEq, Value.slice.injEq] at c0
      obtain ⟨rfl, rfl, rfl⟩ := c0
      obtain ⟨ao2, cap2, hv2, hrow3⟩ := own_rx ho3 (by omega)
      simp only [Value.slice.injEq, true_and] at hv2
      obtain ⟨rfl, rfl⟩ := hv2
      have hse := Cd.seal_any w3 ao' _ cap' (wire F) hrow3.row (by omega)
      simp only [Option.isNone_some] at c1
      obtain ⟨nn, hnn⟩ : ∃ nn, (wire F).length = nn := ⟨_, rfl⟩
      have HNN : Hid ((wire F).length = nn) := hnn
      rw [hnn] at hse hc9 hlong
      clear hrow3 hg3 ho3 HW3 hx HS hnn
      go_wp2_with fail
      refine hse.mono ?_
      rintro e w4 ⟨v, rfl, hown4, hb4⟩
      have hb04 := bl_step hb03 hb4
      have hs3 := hb03.size
      have HOW : Hid (w4.ownsRow w.heap.size 5 1 v (nn + 4) ((sealB (wire F)).map Cd.by8)) := Cd.owns_mono hown4 hs3
      obtain ⟨ao5, cap5, rfl, _⟩ := Cd.owns_row hown4
      clear hse hown4 hc9 c1 hb4 hb03
      by_cases h4 : 1048576 < nn + 4
      · have h4I : (1048576 : Int) < (nn : Int) + 4 := by omega
        go_wp2
        go_ret2
        refine ⟨?_, hb04⟩
        unfold EncAns
        rw [HR.out, HNN.out, if_neg (by simp), if_pos h4]
        rfl
      · have H4 : Hid (¬ 1048576 < nn + 4) := h4
        obtain ⟨m4, hm4⟩ : ∃ m4, nn + 4 = m4 := ⟨_, rfl⟩
        have H5 : Hid (nn + 4 = m4) := hm4
        rw [hm4] at h4 ⊢
        have h4I : ¬ (1048576 : Int) < (m4 : Int) := by omega
        clear h4 hlong hn hm4 hs3 hs01
        go_wp2
        go_ret2
        refine ⟨?_, hb04⟩
        unfold EncAns
        rw [HR.out, HNN.out, if_neg (by simp), if_neg H4.out]
        refine ⟨.slice ao5 m4 cap5, rfl, ?_⟩
        rw [← H5.out]
        exact HOW.out
    · have HS : Hid (layS (some []) (wire F) = none) := by show _ = _; simp [layS, hlong]
      rw [HS.out] at HW3 c1 hx
      simp only [Option.isNone_none] at c1
      have HLG : Hid (1048576 < (wire F).length + 4) := by show _ < _; omega
      clear HW3 hx HS
      go_wp2
      go_ret2
      refine ⟨?_, hb03⟩
      unfold EncAns
      rw [HR.out, if_neg (by simp), if_pos HLG.out]
      rfl
end Go.Proofs.Ytfemjbaadnjanaa
