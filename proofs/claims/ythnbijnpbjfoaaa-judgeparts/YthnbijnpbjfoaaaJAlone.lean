/-
  The document's alone: is a node's trace right by itself?
-/
import Derived.Test.YthnbijnpbjfoaaaJNext
import Derived.Test.YthnbijnpbjfoaaaJCmp
import Derived.Test.YthnbijnpbjfoaaaJSet
import Derived.Test.YthnbijnpbjfoaaaJGreat
namespace Go.Proofs.Ythnbijnpbjfoaaa
open Go.RowKit Go.Sort
set_option linter.unusedVariables false
set_option linter.unusedSimpArgs false

/-- A box of a view. -/
def VBx (w : World) (Y : Nat) (v : Vw) : Prop := w.heap[Y]? = some (.cells #[.int .u64 (v.1 : Nat), .int .i64 v.2.1, .int .u16 (v.2.2 : Nat)] 47 (0, 0))
theorem VBx.up {w w' : World} {Y : Nat} {v : Vw} (h : VBx w Y v) (u : RowKit.Below w.heap.size w w') : VBx w' Y v := (u.block Y (Array.getElem?_eq_some_iff.1 h).1).trans h
theorem VBx.lt {w : World} {Y : Nat} {v : Vw} (h : VBx w Y v) : Y < w.heap.size := (Array.getElem?_eq_some_iff.1 h).1
theorem VBx.at {w : World} {Y : Nat} {v : Vw} (h : VBx w Y v) : w.cell? ⟨Y, 0, none⟩ = some (.int .u64 (v.1 : Nat)) ∧ w.cell? ⟨Y, 1, none⟩ = some (.int .i64 v.2.1) ∧ w.cell? ⟨Y, 2, none⟩ = some (.int .u16 (v.2.2 : Nat)) := by
  unfold VBx at h
  unfold World.cell?
  simp [h]
theorem VBx.set {w : World} {Y : Nat} {v : Vw} (h : VBx w Y v) (u : Vw) : VBx (w.setRow Y #[.int .u64 (u.1 : Nat), .int .i64 u.2.1, .int .u16 (u.2.2 : Nat)]) Y u := setRow_heap _ _ _ _ _ _ h
/-- What holds between two events. -/
structure AI (w wr : World) (Y node : Nat) (es : List Ev) (k : Nat) (a : As) : Prop where
  run : runA node (es.take k) zeroA = some a
  box : VBx wr Y (a.n, a.p, a.s)
  bl : RowKit.Below w.heap.size w wr
  rk : a.recv ≤ k ∧ a.safe ≤ k
theorem stepA_234 {node : Nat} {a : As} {e : Ev} (h : e.k = 2 ∨ e.k = 3 ∨ e.k = 4) : stepA node a e = if a.on = false ∨ ¬ (e.n = a.n ∧ e.p = a.p ∧ e.s = a.s) ∨ a.recv + (if e.k = 3 then 1 else 0) < a.safe + (if e.k = 4 then 1 else 0) then none
     else some { a with recv := a.recv + (if e.k = 3 then 1 else 0), safe := a.safe + (if e.k = 4 then 1 else 0) } := by
  unfold stepA
  rw [if_neg (by omega), if_pos h]
theorem AI.up {w wr w' : World} {Y node k : Nat} {es : List Ev} {a : As} (h : AI w wr Y node es k a) (u : RowKit.Below wr.heap.size wr w') : AI w w' Y node es k a := ⟨h.run, h.box.up u, bl_step h.bl u, h.rk⟩
theorem AI.step {w wr w' : World} {Y node k : Nat} {es : List Ev} {e : Ev} {a a' : As} (h : AI w wr Y node es k a) (he : es[k]? = some e) (hs : stepA node a e = some a') (hb : VBx w' Y (a'.n, a'.p, a'.s)) (hl : RowKit.Below w.heap.size w w') : AI w w' Y node es (k + 1) a' := by
  refine ⟨?_, hb, hl, ?_⟩
  · rw [take_snoc he, runA_snoc, h.run]; exact hs
  · have := h.rk
    by_cases h1 : e.k = 1
    · unfold stepA at hs
      rw [if_pos h1] at hs
      split at hs
      · cases hs
      · cases hs; exact ⟨Nat.zero_le _, Nat.zero_le _⟩
    · by_cases h2 : e.k = 2 ∨ e.k = 3 ∨ e.k = 4
      · rw [stepA_234 h2] at hs
        by_cases hc : a.on = false ∨ ¬ (e.n = a.n ∧ e.p = a.p ∧ e.s = a.s) ∨ a.recv + (if e.k = 3 then 1 else 0) < a.safe + (if e.k = 4 then 1 else 0)
        · rw [if_pos hc] at hs; cases hs
        · rw [if_neg hc] at hs
          simp only [Option.some.injEq] at hs
          subst hs
          dsimp only
          constructor
          · split <;> omega
          · split <;> omega
      · unfold stepA at hs
        rw [if_neg h1, if_neg h2] at hs; cases hs
theorem AI.none {w wr : World} {Y node k : Nat} {es : List Ev} {e : Ev} {a : As} (h : AI w wr Y node es k a) (he : es[k]? = some e) (hs : stepA node a e = none) : ¬ AloneOk node es := by
  rintro ⟨⟨b, hb⟩, _⟩
  have h1 : runA node (es.take (k + 1)) zeroA = Option.none := by
    rw [take_snoc he, runA_snoc, h.run]; exact hs
  have := runA_none node (es.take (k + 1)) (es.drop (k + 1)) zeroA h1
  rw [List.take_append_drop, hb] at this
  cases this
theorem cmp_le {n1 : Nat} {p1 : Int} {n2 : Nat} {p2 : Int} {c : Int} (h : cmpV n1 p1 n2 p2 = c) : ¬ 0 < cmpV n1 p1 n2 p2 ↔ c ≤ 0 := by rw [h]; omega
theorem OwR.cp {B : Nat} {w : World} {r : Sr} {S : List Di} (h : OwR B w r S) : r.2.1 ≤ r.2.2 ∧ ∀ a, r.1 = some a → a.spot = none := by
  obtain ⟨h0, xs, h1, _⟩ := h
  rcases own_shape h1 with ⟨e, h2⟩ | ⟨g, cap, e, _⟩
  · simp only [Value.slice.injEq] at e
    obtain ⟨a, b, c⟩ := e
    exact ⟨by omega, fun x hx => by rw [a] at hx; cases hx⟩
  · have h3 := h1
    simp only [Value.slice.injEq] at e
    obtain ⟨a, b, c⟩ := e
    rw [a] at h3
    have := own_cap h3
    exact ⟨by omega, fun x hx => by rw [a] at hx; cases hx; rfl⟩
def Bg3 (g k n : Nat) (p : Int) (w : World) : Prop := w.cell? ⟨g, k * 3, none⟩ = some (.int .u64 (n : Nat)) ∧ w.cell? ⟨g, k * 3 + 1, none⟩ = some (.int .i64 p)
set_option maxRecDepth 10000 in
set_option maxHeartbeats 8000000 in
theorem alone_any (w : World) (p : Nat → Prop) (ao : Option Addr) (n cap : Nat) (es : List Ev) (h : EvR p w ao n es) (hok : ∀ e ∈ es, EvOk e) (hn9 : n ≤ 9000) (node : Nat) :
    Calls Try.prog 47 #[.int .i64 (node : Nat), .slice ao n cap] w fun e w' => BoolPostB w (AloneOk node es) e w' := by
  have hl := h.1
  obtain ⟨Y, hY⟩ : ∃ Y, w.heap.size = Y := ⟨_, rfl⟩
  obtain ⟨w1, hw1⟩ : ∃ w1, w.alloc (.cells #[.int .u64 0, .int .i64 0, .int .u16 0] 47) = w1 := ⟨_, rfl⟩
  have u1 : Up w w1 := by rw [← hw1]; exact (Up.refl _).alloc _
  have hb1 : VBx w1 Y (0, 0, 0) := by rw [← hw1, ← hY]; exact heap_alloc_new w _
  have HI : Hid (EvR p w ao n es ∧ ∀ e ∈ es, EvOk e) := ⟨h, hok⟩
  have HS : Hid (AI w w1 Y node es 0 zeroA) := ⟨rfl, hb1, u1.bl, Nat.le_refl _, Nat.le_refl _⟩
  have HY : Hid (w.heap.size = Y) := hY
  have HW1 : Hid (w.alloc (.cells #[.int .u64 0, .int .i64 0, .int .u16 0] 47) = w1) := hw1
  clear h hok u1 hb1 hY hw1
  go_enter Try.func47, Try.ntmps47
  go_wp2_with fail
  (try simp only [HY.out, HW1.out])
  clear HW1
  go_loopw [5, 7, 8, 9, 10] (fun ov rv sv iv _ wr => ∃ (k : Nat) (a : As), k ≤ n ∧ iv = .int .i64 (k : Nat) ∧ ov = .bool a.on ∧ rv = .int .i64 (a.recv : Nat) ∧ sv = .int .i64 (a.safe : Nat) ∧ AI w wr Y node es k a) (fun _ _ _ iv _ _ => n - (intOf iv).toNat)
  case atStart => exact ⟨0, zeroA, by omega, rfl, rfl, rfl, rfl, HS.out⟩
  case round =>
    clear HS
    obtain ⟨k, a, hk, rfl, rfl, rfl, rfl, hai⟩ := hrel
    have HA : Hid (AI w wr Y node es k a) := hai
    clear hai
    by_cases hlt : k < n
    · have hltI : (k : Int) < (n : Int) := by omega
      have hk0 : ¬ ((k : Int) < 0) := by omega
      obtain ⟨e, he⟩ : ∃ e, es[k]? = some e := ⟨es[k]'(by omega), List.getElem?_eq_getElem (by omega)⟩
      have heok := HI.out.2 e (List.mem_of_getElem? he)
      obtain ⟨b, off, t, hao, h6, _, _⟩ := EvR.at HI.out.1 he
      subst hao
      obtain ⟨w2, hw2⟩ : ∃ w2, wr.alloc (.cells #[.int .u64 (e.n : Nat), .int .i64 e.p, .int .u16 (e.s : Nat)] 47) = w2 := ⟨_, rfl⟩
      have u2 : Up wr w2 := by rw [← hw2]; exact (Up.refl _).alloc _
      obtain ⟨X, hX⟩ : ∃ X, wr.heap.size = X := ⟨_, rfl⟩
      have hbx : VBx w2 X (e.n, e.p, e.s) := by rw [← hw2, ← hX]; exact heap_alloc_new wr _
      obtain ⟨x0, x1, x2⟩ := hbx.at
      simp only at x0 x1 x2
      obtain ⟨e0, e1, e2, e3, _, _⟩ := h6
      have hlo := HA.out.bl
      have e0 := bl_cell hlo e0
      have h3 : ∀ (j : Nat) u, (cellsV (e.n, e.p, e.s))[j]? = some u → wr.cell? ⟨b, off + k * 6 + 1 + j, none⟩ = some u := fun j u hj => by
        match j, hj with
        | 0, hj => simp [cellsV] at hj; subst hj; exact bl_cell hlo e1
        | 1, hj => simp [cellsV] at hj; subst hj; exact bl_cell hlo e2
        | 2, hj => simp [cellsV] at hj; subst hj; exact bl_cell hlo e3
        | j + 3, hj => simp [cellsV] at hj
      have e0' := bl_cell u2.bl e0
      have HE : Hid (es[k]? = some e ∧ AI w w2 Y node es k a ∧ VBx w2 X (e.n, e.p, e.s)) := ⟨he, HA.out.up u2.bl, hbx⟩
      have HNO : Hid (stepA node a e = none → ∀ w3, Up w2 w3 → BoolPostB w (AloneOk node es) (.returned (.bool false)) w3) := fun hs w3 u3 => ⟨⟨false, rfl, by simp [HE.out.2.1.none HE.out.1 hs]⟩, bl_step HE.out.2.1.bl u3.bl⟩
      have hrk := HA.out.rk
      have hes9 : e.s < 65536 := heok.2.2.2.2.1
      clear he heok e1 e2 e3 hlo hbx u2
      by_cases k1 : e.k = 1
      · have kb1 : ((e.k : Int) == 1) = true := by simp; omega
        have HK : Hid (e.k = 1) := k1
        clear k1
        have hstep : stepA node a e = if e.n = 0 ∨ hasN e.s node = false ∨ (a.on = true ∧ ¬ 0 < cmpV e.n e.p a.n a.p) then none else some ⟨true, e.n, e.p, e.s, 0, 0⟩ := by
          unfold stepA
          rw [if_pos HK.out]
        have HSTEP : Hid _ := hstep
        have hYx := HE.out.2.1.box
        obtain ⟨y0, y1, y2⟩ := hYx.at
        simp only at y0 y1 y2
        have hhas := fun W => refHas_any W e.s hes9 (node : Int)
        obtain ⟨hb, hhb⟩ : ∃ hb, hasN e.s (node : Int) = hb := ⟨_, rfl⟩
        simp only [hhb] at hhas
        have HHB : Hid (hasN e.s (node : Int) = hb) := hhb
        have hcmp := fun W => refCmp_any W e.n e.p a.n a.p
        obtain ⟨c, hc⟩ : ∃ c, cmpV e.n e.p a.n a.p = c := ⟨_, rfl⟩
        simp only [hc] at hcmp
        have HCM : Hid (cmpV e.n e.p a.n a.p = c) := hc
        unfold vid at hcmp
        clear hstep hhb hc hes9
        -- what a new view makes of it
        have HOK : Hid (e.n ≠ 0 → hb = true → (a.on = true → ¬ c ≤ 0) → ∀ w3, RowKit.Below w2.heap.size w2 w3 → AI w (w3.setRow Y #[.int .u64 (e.n : Nat), .int .i64 e.p, .int .u16 (e.s : Nat)]) Y node es (k + 1) ⟨true, e.n, e.p, e.s, 0, 0⟩) := fun c1 c2 c3 w3 u3 => by
          refine HE.out.2.1.step HE.out.1 ?_ ((hYx.up u3).set (e.n, e.p, e.s)) (bl_row (bl_step HE.out.2.1.bl u3) (by rw [← HY.out]; exact Nat.le_refl _) _)
          rw [HSTEP.out, if_neg]
          rintro (d | d | ⟨d1, d2⟩)
          · exact c1 d
          · rw [HHB.out, c2] at d; cases d
          · rw [cmp_le HCM.out] at d2; exact c3 d1 d2
        by_cases hn0 : e.n = 0
        · have hn0b : ((e.n : Int) == 0) = true := by simp; omega
          have HF := HNO.out (by rw [HSTEP.out, if_pos (.inl hn0)])
          have HFH : Hid _ := HF
          clear hn0 HF hYx
          go_wp2_with (refine wpList_load_Vw rfl (.tmp 23) rfl b (off + k * 6 + 1) rfl (e.n, e.p, e.s) h3 ?_)
          (try simp only [hX, hw2])
          go_wp2
          go_ret
          exact HFH.out _ (by first | exact Up.refl _ | exact (Up.refl _).drew)
        have hn0b : ((e.n : Int) == 0) = false := by simp; omega
        cases hb with
        | false =>
          have HF := HNO.out (by rw [HSTEP.out, if_pos (.inr (.inl HHB.out))])
          have HFH : Hid _ := HF
          clear hn0 HF hYx
          go_wp2_with (refine wpList_load_Vw rfl (.tmp 23) rfl b (off + k * 6 + 1) rfl (e.n, e.p, e.s) h3 ?_)
          (try simp only [hX, hw2])
          go_wp2_with (first | (go_at_call 67; refine (hhas _).mono ?_; rintro e w' ⟨rfl, rfl⟩))
          go_ret
          exact HFH.out _ (by first | exact Up.refl _ | exact (Up.refl _).drew)
        | true =>
          cases hon : a.on with
          | false =>
            have HN : Hid (AI w (w2.setRow Y #[.int .u64 (e.n : Nat), .int .i64 e.p, .int .u16 (e.s : Nat)]) Y node es (k + 1) ⟨true, e.n, e.p, e.s, 0, 0⟩) := HOK.out hn0 rfl (fun c => by rw [hon] at c; cases c) w2 (Below.refl _ _)
            have h3x : ∀ (j : Nat) u, (cellsV (e.n, e.p, e.s))[j]? = some u → w2.cell? ⟨X, 0 + j, none⟩ = some u := fun j u hj => by
              match j, hj with
              | 0, hj => simp [cellsV] at hj; subst hj; exact x0
              | 1, hj => simp [cellsV] at hj; subst hj; exact x1
              | 2, hj => simp [cellsV] at hj; subst hj; exact x2
              | j + 3, hj => simp [cellsV] at hj
            have hYb : w2.heap[Y]? = some (.cells #[.int .u64 (a.n : Nat), .int .i64 a.p, .int .u16 (a.s : Nat)] 47 (0, 0)) := hYx
            have honb : a.on = false := hon
            clear hn0 hYx hon
            go_wp2_with (refine wpList_load_Vw rfl (.tmp 23) rfl b (off + k * 6 + 1) rfl (e.n, e.p, e.s) h3 ?_)
            (try simp only [hX, hw2])
            go_wp2_with fail
            refine (hhas _).mono ?_
            rintro e' w' ⟨rfl, rfl⟩
            clear hhas hcmp h3
            go_upto_if 53 with fail
            go_wp2_with (first | refine wpList_load_Vw rfl (.tmp 10) rfl X 0 rfl (e.n, e.p, e.s) h3x ?_ | refine wpList_store_row rfl 47 (.tmp 6) (.tmp 54) rfl Y #[.int .u64 (e.n : Nat), .int .i64 e.p, .int .u16 (e.s : Nat)] rfl rfl 47 _ hYb info47s rfl (by simp [Value.oneCell']) ?_)
            go_roundw
            case rel => first | exact ⟨k + 1, ⟨true, e.n, e.p, e.s, 0, 0⟩, by omega, by go_num, rfl, rfl, rfl, HN.out⟩ | ((repeat apply Exists.intro); exact ⟨⟨k + 1, ⟨true, e.n, e.p, e.s, 0, 0⟩, by omega, by go_num, rfl, rfl, rfl, HN.out⟩, rfl⟩)
            case measure => simp [intOf]; omega
          | true =>
            have honb : a.on = true := hon
            have HON : Hid (a.on = true) := hon
            clear hon
            by_cases hc0 : c ≤ 0
            · have HF := HNO.out (by rw [HSTEP.out, if_pos (.inr (.inr ⟨HON.out, (cmp_le HCM.out).2 hc0⟩))])
              have HFH : Hid _ := HF
              clear hn0 HF hYx
              go_wp2_with (refine wpList_load_Vw rfl (.tmp 23) rfl b (off + k * 6 + 1) rfl (e.n, e.p, e.s) h3 ?_)
              (try simp only [hX, hw2])
              go_wp2_with fail
              refine (hhas _).mono ?_
              rintro e' w' ⟨rfl, rfl⟩
              clear hhas h3
              go_wp2_with fail
              refine (hcmp _).mono ?_
              rintro e' w3 ⟨rfl, u3⟩
              go_wp2
              go_ret
              exact HFH.out _ u3
            · have hHN := fun w3 (u3 : RowKit.Below w2.heap.size w2 w3) => HOK.out hn0 rfl (fun _ => hc0) w3 u3
              have HHN : Hid _ := hHN
              have HX3 : Hid (VBx w2 X (e.n, e.p, e.s) ∧ VBx w2 Y (a.n, a.p, a.s)) := ⟨HE.out.2.2, hYx⟩
              clear hn0 hYx hHN
              go_wp2_with (refine wpList_load_Vw rfl (.tmp 23) rfl b (off + k * 6 + 1) rfl (e.n, e.p, e.s) h3 ?_)
              (try simp only [hX, hw2])
              go_wp2_with fail
              refine (hhas _).mono ?_
              rintro e' w' ⟨rfl, rfl⟩
              clear hhas h3
              go_wp2_with fail
              refine (hcmp _).mono ?_
              rintro e' w3 ⟨rfl, u3⟩
              have HN : Hid (AI w (w3.setRow Y #[.int .u64 (e.n : Nat), .int .i64 e.p, .int .u16 (e.s : Nat)]) Y node es (k + 1) ⟨true, e.n, e.p, e.s, 0, 0⟩) := HHN.out w3 u3.bl
              have hx3 := HX3.out.1.up u3.bl
              obtain ⟨z0, z1, z2⟩ := hx3.at
              have h3x : ∀ (j : Nat) u, (cellsV (e.n, e.p, e.s))[j]? = some u → w3.cell? ⟨X, 0 + j, none⟩ = some u := fun j u hj => by
                match j, hj with
                | 0, hj => simp [cellsV] at hj; subst hj; exact z0
                | 1, hj => simp [cellsV] at hj; subst hj; exact z1
                | 2, hj => simp [cellsV] at hj; subst hj; exact z2
                | j + 3, hj => simp [cellsV] at hj
              have hYb : w3.heap[Y]? = some (.cells #[.int .u64 (a.n : Nat), .int .i64 a.p, .int .u16 (a.s : Nat)] 47 (0, 0)) := HX3.out.2.up u3.bl
              clear hcmp u3 hx3 z0 z1 z2 x0 x1 x2 y0 y1 y2
              go_upto_if 53 with fail
              go_wp2_with (first | refine wpList_load_Vw rfl (.tmp 10) rfl X 0 rfl (e.n, e.p, e.s) h3x ?_ | refine wpList_store_row rfl 47 (.tmp 6) (.tmp 54) rfl Y #[.int .u64 (e.n : Nat), .int .i64 e.p, .int .u16 (e.s : Nat)] rfl rfl 47 _ hYb info47s rfl (by simp [Value.oneCell']) ?_)
              go_roundw
              case rel => first | exact ⟨k + 1, ⟨true, e.n, e.p, e.s, 0, 0⟩, by omega, by go_num, rfl, rfl, rfl, HN.out⟩ | ((repeat apply Exists.intro); exact ⟨⟨k + 1, ⟨true, e.n, e.p, e.s, 0, 0⟩, by omega, by go_num, rfl, rfl, rfl, HN.out⟩, rfl⟩)
              case measure => simp [intOf]; omega
      · have kb1 : ((e.k : Int) == 1) = false := by simp; omega
        have K1 : Hid (e.k ≠ 1) := k1
        have hYx := HE.out.2.1.box
        obtain ⟨y0, y1, y2⟩ := hYx.at
        simp only at y0 y1 y2
        have hve := fun W => view_equal e.n e.p e.s a.n a.p a.s W
        obtain ⟨vb, hvb⟩ : ∃ vb, decide (e.n = a.n ∧ e.p = a.p ∧ e.s = a.s) = vb := ⟨_, rfl⟩
        rw [hvb] at hve
        have HVB : Hid (decide (e.n = a.n ∧ e.p = a.p ∧ e.s = a.s) = vb) := hvb
        clear k1 hvb hes9
        by_cases hk3 : e.k = 3
        · have KK : Hid (e.k = 3) := hk3
          have hkk : ((e.k : Int)) = 3 := by omega
          have hstep := stepA_234 (node := node) (a := a) (e := e) (by have := KK.out; omega)
          rw [KK.out] at hstep
          simp only [if_true, if_false, Nat.reduceEqDiff] at hstep
          have HSTEP : Hid _ := hstep
          have HOK : Hid (a.on = true → vb = true → ¬ a.recv + 1 < a.safe + 0 → AI w w2 Y node es (k + 1) { a with recv := a.recv + 1, safe := a.safe + 0 }) := fun c1 c2 c3 => by
            refine HE.out.2.1.step HE.out.1 ?_ hYx HE.out.2.1.bl
            rw [HSTEP.out, if_neg]
            rintro (d | d | d)
            · rw [c1] at d; cases d
            · rw [c2] at HVB; exact d (of_decide_eq_true HVB.out)
            · exact c3 d
          have e0' : w2.cell? ⟨b, off + k * 6, none⟩ = some (.int .u8 3) := by rw [← hkk]; exact e0'
          clear hk3 hstep hYx kb1 e0
          cases hon : a.on with
          | false =>
            have honb : a.on = false := hon
            have HF := HNO.out (by rw [HSTEP.out, if_pos (.inl hon)])
            have HFH : Hid _ := HF
            clear hon HF
            go_wp2_with (refine wpList_load_Vw rfl (.tmp 23) rfl b (off + k * 6 + 1) rfl (e.n, e.p, e.s) h3 ?_)
            (try simp only [hX, hw2])
            go_wp2
            go_ret
            exact HFH.out _ (by first | exact Up.refl _ | exact (Up.refl _).drew)
          | true =>
            have honb : a.on = true := hon
            have HON : Hid (a.on = true) := hon
            clear hon
            cases vb with
            | false =>
              have HF := HNO.out (by rw [HSTEP.out, if_pos (.inr (.inl (of_decide_eq_false HVB.out)))])
              have HFH : Hid _ := HF
              clear HF
              go_wp2_with (refine wpList_load_Vw rfl (.tmp 23) rfl b (off + k * 6 + 1) rfl (e.n, e.p, e.s) h3 ?_)
              (try simp only [hX, hw2])
              go_wp2
              go_ret
              exact HFH.out _ (by first | exact Up.refl _ | exact (Up.refl _).drew)
            | true =>
              by_cases hgt : a.recv + 1 < a.safe + 0
              · have hgtI : (a.safe : Int) + 0 > (a.recv : Int) + 1 := by omega
                have HF := HNO.out (by rw [HSTEP.out, if_pos (.inr (.inr hgt))])
                have HFH : Hid _ := HF
                simp only [Int.add_zero] at hgtI
                clear HF hgt
                go_wp2_with (refine wpList_load_Vw rfl (.tmp 23) rfl b (off + k * 6 + 1) rfl (e.n, e.p, e.s) h3 ?_)
                (try simp only [hX, hw2])
                go_wp2
                go_ret
                exact HFH.out _ (by first | exact Up.refl _ | exact (Up.refl _).drew)
              · have hgtI : ¬ ((a.safe : Int) + 0 > (a.recv : Int) + 1) := by omega
                have HN : Hid (AI w w2 Y node es (k + 1) { a with recv := a.recv + 1, safe := a.safe + 0 }) := HOK.out HON.out rfl hgt
                simp only [Int.add_zero] at hgtI
                clear hgt
                go_wp2_with (refine wpList_load_Vw rfl (.tmp 23) rfl b (off + k * 6 + 1) rfl (e.n, e.p, e.s) h3 ?_)
                (try simp only [hX, hw2])
                go_wp2
                go_roundw
                case rel => first | exact ⟨k + 1, { a with recv := a.recv + 1, safe := a.safe + 0 }, by omega, by go_num, by first | rfl | (simp only [honb]), by first | rfl | go_num, by first | rfl | go_num, HN.out⟩ | ((repeat apply Exists.intro); exact ⟨⟨k + 1, { a with recv := a.recv + 1, safe := a.safe + 0 }, by omega, by go_num, by first | rfl | (simp only [honb]), by first | rfl | go_num, by first | rfl | go_num, HN.out⟩, rfl⟩)
                case measure => simp [intOf]; omega
        have kb3 : ((e.k : Int) == 3) = false := by simp; omega
        by_cases hk4 : e.k = 4
        · have KK : Hid (e.k = 4) := hk4
          have hkk : ((e.k : Int)) = 4 := by omega
          have hstep := stepA_234 (node := node) (a := a) (e := e) (by have := KK.out; omega)
          rw [KK.out] at hstep
          simp only [if_true, if_false, Nat.reduceEqDiff] at hstep
          have HSTEP : Hid _ := hstep
          have HOK : Hid (a.on = true → vb = true → ¬ a.recv + 0 < a.safe + 1 → AI w w2 Y node es (k + 1) { a with recv := a.recv + 0, safe := a.safe + 1 }) := fun c1 c2 c3 => by
            refine HE.out.2.1.step HE.out.1 ?_ hYx HE.out.2.1.bl
            rw [HSTEP.out, if_neg]
            rintro (d | d | d)
            · rw [c1] at d; cases d
            · rw [c2] at HVB; exact d (of_decide_eq_true HVB.out)
            · exact c3 d
          have e0' : w2.cell? ⟨b, off + k * 6, none⟩ = some (.int .u8 4) := by rw [← hkk]; exact e0'
          clear hk4 hstep hYx kb1 e0
          cases hon : a.on with
          | false =>
            have honb : a.on = false := hon
            have HF := HNO.out (by rw [HSTEP.out, if_pos (.inl hon)])
            have HFH : Hid _ := HF
            clear hon HF
            go_wp2_with (refine wpList_load_Vw rfl (.tmp 23) rfl b (off + k * 6 + 1) rfl (e.n, e.p, e.s) h3 ?_)
            (try simp only [hX, hw2])
            go_wp2
            go_ret
            exact HFH.out _ (by first | exact Up.refl _ | exact (Up.refl _).drew)
          | true =>
            have honb : a.on = true := hon
            have HON : Hid (a.on = true) := hon
            clear hon
            cases vb with
            | false =>
              have HF := HNO.out (by rw [HSTEP.out, if_pos (.inr (.inl (of_decide_eq_false HVB.out)))])
              have HFH : Hid _ := HF
              clear HF
              go_wp2_with (refine wpList_load_Vw rfl (.tmp 23) rfl b (off + k * 6 + 1) rfl (e.n, e.p, e.s) h3 ?_)
              (try simp only [hX, hw2])
              go_wp2
              go_ret
              exact HFH.out _ (by first | exact Up.refl _ | exact (Up.refl _).drew)
            | true =>
              by_cases hgt : a.recv + 0 < a.safe + 1
              · have hgtI : (a.safe : Int) + 1 > (a.recv : Int) + 0 := by omega
                have HF := HNO.out (by rw [HSTEP.out, if_pos (.inr (.inr hgt))])
                have HFH : Hid _ := HF
                simp only [Int.add_zero] at hgtI
                clear HF hgt
                go_wp2_with (refine wpList_load_Vw rfl (.tmp 23) rfl b (off + k * 6 + 1) rfl (e.n, e.p, e.s) h3 ?_)
                (try simp only [hX, hw2])
                go_wp2
                go_ret
                exact HFH.out _ (by first | exact Up.refl _ | exact (Up.refl _).drew)
              · have hgtI : ¬ ((a.safe : Int) + 1 > (a.recv : Int) + 0) := by omega
                have HN : Hid (AI w w2 Y node es (k + 1) { a with recv := a.recv + 0, safe := a.safe + 1 }) := HOK.out HON.out rfl hgt
                simp only [Int.add_zero] at hgtI
                clear hgt
                go_wp2_with (refine wpList_load_Vw rfl (.tmp 23) rfl b (off + k * 6 + 1) rfl (e.n, e.p, e.s) h3 ?_)
                (try simp only [hX, hw2])
                go_wp2
                go_roundw
                case rel => first | exact ⟨k + 1, { a with recv := a.recv + 0, safe := a.safe + 1 }, by omega, by go_num, by first | rfl | (simp only [honb]), by first | rfl | go_num, by first | rfl | go_num, HN.out⟩ | ((repeat apply Exists.intro); exact ⟨⟨k + 1, { a with recv := a.recv + 0, safe := a.safe + 1 }, by omega, by go_num, by first | rfl | (simp only [honb]), by first | rfl | go_num, by first | rfl | go_num, HN.out⟩, rfl⟩)
                case measure => simp [intOf]; omega
        have kb4 : ((e.k : Int) == 4) = false := by simp; omega
        by_cases hk2 : e.k = 2
        · have KK : Hid (e.k = 2) := hk2
          have hkk : ((e.k : Int)) = 2 := by omega
          have hstep := stepA_234 (node := node) (a := a) (e := e) (by have := KK.out; omega)
          rw [KK.out] at hstep
          simp only [if_true, if_false, Nat.reduceEqDiff] at hstep
          have HSTEP : Hid _ := hstep
          have HOK : Hid (a.on = true → vb = true → ¬ a.recv + 0 < a.safe + 0 → AI w w2 Y node es (k + 1) { a with recv := a.recv + 0, safe := a.safe + 0 }) := fun c1 c2 c3 => by
            refine HE.out.2.1.step HE.out.1 ?_ hYx HE.out.2.1.bl
            rw [HSTEP.out, if_neg]
            rintro (d | d | d)
            · rw [c1] at d; cases d
            · rw [c2] at HVB; exact d (of_decide_eq_true HVB.out)
            · exact c3 d
          have e0' : w2.cell? ⟨b, off + k * 6, none⟩ = some (.int .u8 2) := by rw [← hkk]; exact e0'
          clear hk2 hstep hYx kb1 e0
          cases hon : a.on with
          | false =>
            have honb : a.on = false := hon
            have HF := HNO.out (by rw [HSTEP.out, if_pos (.inl hon)])
            have HFH : Hid _ := HF
            clear hon HF
            go_wp2_with (refine wpList_load_Vw rfl (.tmp 23) rfl b (off + k * 6 + 1) rfl (e.n, e.p, e.s) h3 ?_)
            (try simp only [hX, hw2])
            go_wp2
            go_ret
            exact HFH.out _ (by first | exact Up.refl _ | exact (Up.refl _).drew)
          | true =>
            have honb : a.on = true := hon
            have HON : Hid (a.on = true) := hon
            clear hon
            cases vb with
            | false =>
              have HF := HNO.out (by rw [HSTEP.out, if_pos (.inr (.inl (of_decide_eq_false HVB.out)))])
              have HFH : Hid _ := HF
              clear HF
              go_wp2_with (refine wpList_load_Vw rfl (.tmp 23) rfl b (off + k * 6 + 1) rfl (e.n, e.p, e.s) h3 ?_)
              (try simp only [hX, hw2])
              go_wp2
              go_ret
              exact HFH.out _ (by first | exact Up.refl _ | exact (Up.refl _).drew)
            | true =>
              by_cases hgt : a.recv + 0 < a.safe + 0
              · have hgtI : (a.safe : Int) + 0 > (a.recv : Int) + 0 := by omega
                have HF := HNO.out (by rw [HSTEP.out, if_pos (.inr (.inr hgt))])
                have HFH : Hid _ := HF
                simp only [Int.add_zero] at hgtI
                clear HF hgt
                go_wp2_with (refine wpList_load_Vw rfl (.tmp 23) rfl b (off + k * 6 + 1) rfl (e.n, e.p, e.s) h3 ?_)
                (try simp only [hX, hw2])
                go_wp2
                go_ret
                exact HFH.out _ (by first | exact Up.refl _ | exact (Up.refl _).drew)
              · have hgtI : ¬ ((a.safe : Int) + 0 > (a.recv : Int) + 0) := by omega
                have HN : Hid (AI w w2 Y node es (k + 1) { a with recv := a.recv + 0, safe := a.safe + 0 }) := HOK.out HON.out rfl hgt
                simp only [Int.add_zero] at hgtI
                clear hgt
                go_wp2_with (refine wpList_load_Vw rfl (.tmp 23) rfl b (off + k * 6 + 1) rfl (e.n, e.p, e.s) h3 ?_)
                (try simp only [hX, hw2])
                go_wp2
                go_roundw
                case rel => first | exact ⟨k + 1, { a with recv := a.recv + 0, safe := a.safe + 0 }, by omega, by go_num, by first | rfl | (simp only [honb]), by first | rfl | go_num, by first | rfl | go_num, HN.out⟩ | ((repeat apply Exists.intro); exact ⟨⟨k + 1, { a with recv := a.recv + 0, safe := a.safe + 0 }, by omega, by go_num, by first | rfl | (simp only [honb]), by first | rfl | go_num, by first | rfl | go_num, HN.out⟩, rfl⟩)
                case measure => simp [intOf]; omega
        have kb2 : ((e.k : Int) == 2) = false := by simp; omega
        have HF := HNO.out (by unfold stepA; rw [if_neg K1.out, if_neg (by omega)])
        have HFH : Hid _ := HF
        clear hk3 hk4 hk2 HF hYx hve
        go_wp2_with (refine wpList_load_Vw rfl (.tmp 23) rfl b (off + k * 6 + 1) rfl (e.n, e.p, e.s) h3 ?_)
        (try simp only [hX, hw2])
        go_wp2
        go_ret
        exact HFH.out _ (by first | exact Up.refl _ | exact (Up.refl _).drew)
    · obtain rfl : k = n := by omega
      have HR : Hid (runA node es zeroA = some a) := by
        have := HA.out.run
        rw [List.take_of_length_le (by omega)] at this
        exact this
      have HEV : Hid (EvR p wr ao k es ∧ RowKit.Below w.heap.size w wr) := ⟨HI.out.1.keep (Kp.up HA.out.bl), HA.out.bl⟩
      have hvs := refViews_any wr p ao k cap es HEV.out.1 hn9
      have hvl := viewsE_len es
      have HVL : Hid ((viewsE es).length ≤ 9000) := Nat.le_trans hvl (by omega)
      clear hvl
      go_wp2_with fail
      refine hvs.mono ?_
      rintro e w3 ⟨⟨v, rfl, hown⟩, hb3⟩
      obtain ⟨⟨ra, rn, rc⟩, rfl, hrn, hcl⟩ := VwR.shape hown
      simp only at hrn hcl
      have HC : Hid ((∀ (k : Nat) x, (viewsE es)[k]? = some x → ∃ g, ra = some ⟨g, 0, none⟩ ∧ ∀ (j : Nat) u, (cellsV x)[j]? = some u → w3.cell? ⟨g, k * 3 + j, none⟩ = some u) ∧ rn = (viewsE es).length ∧ RowKit.Below w.heap.size w w3) := ⟨hcl, hrn, bl_step HEV.out.2 hb3⟩
      have HEV3 : Hid (EvR p w3 ao k es) := HEV.out.1.keep (Kp.up hb3)
      have hrn9 : rn ≤ 9000 := by have := HVL.out; omega
      clear hvs hown hb3 hcl hrn
      go_wp2_with fail
      go_loopw [12] (fun iv wr => ∃ i : Nat, i ≤ rn ∧ iv = .int .i64 (i : Nat) ∧ (∀ (j : Nat) y, j < i → (viewsE es)[j]? = some y → itemsE node 4 y.1 y.2.1 es <+: itemsE node 3 y.1 y.2.1 es) ∧ RowKit.Below w3.heap.size w3 wr) (fun iv _ => rn - (intOf iv).toNat)
      case atStart => exact ⟨0, by omega, rfl, fun j y hj => by omega, Below.refl _ _⟩
      case round =>
        obtain ⟨i, hi, rfl, hno, hbl⟩ := hrel
        have HN0 : Hid (∀ (j : Nat) y, j < i → (viewsE es)[j]? = some y → itemsE node 4 y.1 y.2.1 es <+: itemsE node 3 y.1 y.2.1 es) := hno
        clear hno
        by_cases hlt : i < rn
        · have hltI : (i : Int) < (rn : Int) := by omega
          have hi0 : ¬ ((i : Int) < 0) := by omega
          obtain ⟨x, hx⟩ : ∃ x, (viewsE es)[i]? = some x := ⟨(viewsE es)[i]'(by have := HC.out.2.1; omega), List.getElem?_eq_getElem _⟩
          obtain ⟨g, hra, hc⟩ := HC.out.1 i x hx
          have hud := hbl.drew
          have hs3 : Bg3 g i x.1 x.2.1 wr.drew := ⟨bl_cell hud (hc 0 _ rfl), bl_cell hud (hc 1 _ rfl)⟩
          have HX : Hid ((viewsE es)[i]? = some x ∧ RowKit.Below w3.heap.size w3 wr.drew) := ⟨hx, hud⟩
          obtain ⟨xn, xp, xs⟩ := x
          simp only at hs3
          have hev : EvR p wr.drew ao k es := HEV3.out.keep (Kp.up hud)
          have hit4 : ∀ W, RowKit.Below wr.drew.heap.size wr.drew W → Calls Try.prog 70 #[.slice ao k cap, .int .i64 (node : Nat), .int .u8 4, .agg #[.int .u64 (xn : Nat), .int .i64 xp]] W fun e w' => OwPost W (itemsE node 4 xn xp es) e w' := fun W u => itemsE_any W p ao k cap es (hev.keep (Kp.up u)) hn9 node 4 xn xp
          have hit3 : ∀ W, RowKit.Below wr.drew.heap.size wr.drew W → Calls Try.prog 70 #[.slice ao k cap, .int .i64 (node : Nat), .int .u8 3, .agg #[.int .u64 (xn : Nat), .int .i64 xp]] W fun e w' => OwPost W (itemsE node 3 xn xp es) e w' := fun W u => itemsE_any W p ao k cap es (hev.keep (Kp.up u)) hn9 node 3 xn xp
          have HLN : Hid ((itemsE node 4 xn xp es).length ≤ 9000 ∧ (itemsE node 3 xn xp es).length ≤ 9000) := ⟨Nat.le_trans (itemsE_len _ _ _ _ _) (by omega), Nat.le_trans (itemsE_len _ _ _ _ _) (by omega)⟩
          subst hra
          clear hx hc hud hbl hev
          go_wp2_with fail
          refine wp_region_noPanic ?_
          refine wp_region_held_drew (S := Bg3 g i xn xp) (by kernel_rfl) (hs3) (fun hHeld => ?_)
          unfold Bg3 at hHeld
          refine tq 0 ?_
          refine tq 1 ?_
          refine tq 2 ?_
          refine tq 3 ?_
          refine tq 4 ?_
          refine tq 5 ?_
          refine tq 6 ?_
          refine tq 8 ?_
          refine tq 9 ?_
          refine tq 10 ?_
          refine tq 11 ?_
          refine tq 12 ?_
          refine tq 13 ?_
          refine tq 14 ?_
          refine comes_up 7 rfl (by kernel_rfl) (fun K hK => ?_)
          go_simp
          refine (hit4 _ (Below.refl _ _)).mono ?_
          rintro _ w4 ⟨⟨⟨r1, n1, c1⟩, rfl, ho4⟩, hb4⟩
          have hb4' : RowKit.Below wr.drew.heap.size wr.drew w4 := hb4
          refine hK.out _ _ (⟨bl_cell hb4' hs3.1, bl_cell hb4' hs3.2⟩) (fun hHeld => ?_)
          clear hK K
          (try simp only [Act.put, List.setIfInBounds_toArray, List.set_cons_zero, List.set_cons_succ])
          refine comes_up 15 rfl (by kernel_rfl) (fun K hK => ?_)
          go_simp
          refine (hit3 _ hb4').mono ?_
          rintro _ w5 ⟨⟨⟨r2, n2, c2⟩, rfl, ho5⟩, hb5⟩
          have hb5' : RowKit.Below wr.drew.heap.size wr.drew w5 := bl_step hb4' hb5
          have hits4 := (ho4.its (by have := HLN.out; omega)).up hb5
          have hits5 := ho5.its (by have := HLN.out; omega)
          have hcp := ho5.cp
          have hbg := begins_any (fun _ => True) (fun _ => True) w5 r1 r2 n1 n2 c1 c2 _ _ hits4 hits5 hcp.1 hcp.2
          refine hK.out _ _ (⟨bl_cell hb5' hs3.1, bl_cell hb5' hs3.2⟩) (fun hHeld => ?_)
          clear hK K
          (try simp only [Act.put, List.setIfInBounds_toArray, List.set_cons_zero, List.set_cons_succ])
          refine comes_up 16 rfl (by kernel_rfl) (fun K hK => ?_)
          go_simp
          refine hbg.mono ?_
          rintro _ w6 ⟨rfl, u6⟩
          have hb6' : RowKit.Below wr.drew.heap.size wr.drew w6 := bl_step hb5' u6.bl
          obtain ⟨pb, hpb⟩ : ∃ pb, decide (itemsE node 4 xn xp es <+: itemsE node 3 xn xp es) = pb := ⟨_, rfl⟩
          have HPB : Hid (decide (itemsE node 4 xn xp es <+: itemsE node 3 xn xp es) = pb) := hpb
          rw [hpb]
          have HB6 : Hid (RowKit.Below w3.heap.size w3 w6) := bl_step HX.out.2 hb6'
          have hs6 : Bg3 g i xn xp w6 := ⟨bl_cell hb6' hs3.1, bl_cell hb6' hs3.2⟩
          clear hits4 hits5 hcp hbg ho4 ho5 hb4 hb5 hb4' hb5' hb6' u6 hpb hit4 hit3
          refine hK.out _ _ (hs6) (fun hHeld => ?_)
          clear hK K
          (try simp only [Act.put, List.setIfInBounds_toArray, List.set_cons_zero, List.set_cons_succ])
          refine tq 17 ?_
          refine wpAnyH_done (by kernel_rfl) ?_ _
          refine NoPanic.normal ?_
          cases pb with
          | true =>
            have HN : Hid (∀ (j : Nat) y, j < i + 1 → (viewsE es)[j]? = some y → itemsE node 4 y.1 y.2.1 es <+: itemsE node 3 y.1 y.2.1 es) := fun j y hj hy => by
              by_cases e : j = i
              · subst e
                rw [HX.out.1] at hy; cases hy
                exact of_decide_eq_true HPB.out
              · exact HN0.out j y (by omega) hy
            go_wp2
            go_roundw
            case rel => exact ⟨i + 1, by omega, by go_num, HN.out, HB6.out⟩
            case measure => simp [intOf]; omega
          | false =>
            have HF : Hid (¬ AloneOk node es) := fun hh => of_decide_eq_false HPB.out (hh.2 _ (List.mem_of_getElem? HX.out.1))
            go_wp2
            go_ret
            exact ⟨⟨false, rfl, by simp [HF.out]⟩, HC.out.2.2.trans (HB6.out.mono HC.out.2.2.size)⟩
        · obtain rfl : i = rn := by omega
          have HT : Hid (AloneOk node es) := ⟨⟨a, HR.out⟩, fun v hv => by
            obtain ⟨j, hj⟩ := List.getElem?_of_mem hv
            exact HN0.out j v (by have := (List.getElem?_eq_some_iff.1 hj).1; have := HC.out.2.1; omega) hj⟩
          go_wp2
          go_ret
          exact ⟨⟨true, rfl, by simp [HT.out]⟩, HC.out.2.2.trans (hbl.mono HC.out.2.2.size)⟩
end Go.Proofs.Ythnbijnpbjfoaaa
