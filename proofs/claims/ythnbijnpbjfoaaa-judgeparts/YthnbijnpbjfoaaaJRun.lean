/-
  Times of a group as they are handed in: who sends what, how much of it each receives and is told to be safe.
-/
import Derived.Test.YthnbijnpbjfoaaaJArgs2
namespace Go.Proofs.Ythnbijnpbjfoaaa
open Go.ChangeShapes Go.WideShapes Go.ChangeAt Go.RowKit Go.Deep
set_option linter.unusedVariables false

structure Snd where
  i : Nat
  m : By
structure Rn where
  set : Nat
  sends : List Snd
  had : By
  safe : By
/-- Who sends what, in memory. -/
def SendsR (w : World) (ao : Option Addr) (n : Nat) (xs : List Snd) : Prop :=
  xs.length = n ∧ n ≤ 4398046511104 ∧ (ao = none → n = 0) ∧ (0 < n → ∃ b off, ao = some ⟨b, off, none⟩ ∧ ∀ j x, xs[j]? = some x → ∃ r : Sr, w.cell? ⟨b, off + j * 2, none⟩ = some (.int .u8 (x.i : Nat)) ∧ w.cell? ⟨b, off + j * 2 + 1, none⟩ = some (.slice r.1 r.2.1 r.2.2) ∧ Cp r ∧ Rw (fun _ => True) w r.1 r.2.1 x.m ∧ x.i < 256)
def R4 (w : World) (b o : Nat) (x : Rn) (s h f : Sr) : Prop :=
  w.cell? ⟨b, o, none⟩ = some (.int .u16 (x.set : Nat)) ∧ w.cell? ⟨b, o + 1, none⟩ = some (.slice s.1 s.2.1 s.2.2) ∧ w.cell? ⟨b, o + 2, none⟩ = some (.slice h.1 h.2.1 h.2.2) ∧ w.cell? ⟨b, o + 3, none⟩ = some (.slice f.1 f.2.1 f.2.2)
/-- Times of a group, in memory. -/
def RunsR (w : World) (ao : Option Addr) (n : Nat) (xs : List Rn) : Prop :=
  xs.length = n ∧ n ≤ 4398046511104 ∧ (ao = none → n = 0) ∧ (0 < n → ∃ b off, ao = some ⟨b, off, none⟩ ∧ ∀ j x, xs[j]? = some x → ∃ s h f : Sr, R4 w b (off + j * 4) x s h f ∧ Cp s ∧ Cp h ∧ Cp f ∧ SendsR w s.1 s.2.1 x.sends ∧ Rw (fun _ => True) w h.1 h.2.1 x.had ∧ Rw (fun _ => True) w f.1 f.2.1 x.safe ∧ x.set < 65536)
theorem SendsR.keep {w w' : World} {ao : Option Addr} {n : Nat} {xs : List Snd} (h : SendsR w ao n xs) (u : Below w.heap.size w w') : SendsR w' ao n xs := by
  obtain ⟨h1, h2, h3, h4⟩ := h
  refine ⟨h1, h2, h3, fun h0 => ?_⟩
  obtain ⟨b, off, e, hc⟩ := h4 h0
  exact ⟨b, off, e, fun j x hj => by
    obtain ⟨r, a, b, c, d, f⟩ := hc j x hj
    exact ⟨r, bl_cell u a, bl_cell u b, c, d.keep (Kp.up u), f⟩⟩
theorem RunsR.keep {w w' : World} {ao : Option Addr} {n : Nat} {xs : List Rn} (h : RunsR w ao n xs) (u : Below w.heap.size w w') : RunsR w' ao n xs := by
  obtain ⟨h1, h2, h3, h4⟩ := h
  refine ⟨h1, h2, h3, fun h0 => ?_⟩
  obtain ⟨b, off, e, hc⟩ := h4 h0
  exact ⟨b, off, e, fun j x hj => by
    obtain ⟨s, h, f, ⟨a0, a1, a2, a3⟩, c1, c2, c3, d1, d2, d3, d4⟩ := hc j x hj
    exact ⟨s, h, f, ⟨bl_cell u a0, bl_cell u a1, bl_cell u a2, bl_cell u a3⟩, c1, c2, c3, d1.keep u, d2.keep (Kp.up u), d3.keep (Kp.up u), d4⟩⟩
theorem SendsR.at {w : World} {ao : Option Addr} {n : Nat} {xs : List Snd} (h : SendsR w ao n xs) {k : Nat} {x : Snd} (hk : xs[k]? = some x) :
    ∃ b off, ∃ r : Sr, ao = some ⟨b, off, none⟩ ∧ w.cell? ⟨b, off + k * 2, none⟩ = some (.int .u8 (x.i : Nat)) ∧ w.cell? ⟨b, off + k * 2 + 1, none⟩ = some (.slice r.1 r.2.1 r.2.2) ∧ Cp r ∧ Rw (fun _ => True) w r.1 r.2.1 x.m ∧ x.i < 256 := by
  obtain ⟨h1, h2, h3, h4⟩ := h
  have := (List.getElem?_eq_some_iff.1 hk).1
  obtain ⟨b, off, e, hc⟩ := h4 (by omega)
  obtain ⟨r, y⟩ := hc k x hk
  exact ⟨b, off, r, e, y⟩
theorem RunsR.at {w : World} {ao : Option Addr} {n : Nat} {xs : List Rn} (h : RunsR w ao n xs) {k : Nat} {x : Rn} (hk : xs[k]? = some x) :
    ∃ b off, ∃ s h f : Sr, ao = some ⟨b, off, none⟩ ∧ R4 w b (off + k * 4) x s h f ∧ Cp s ∧ Cp h ∧ Cp f ∧ SendsR w s.1 s.2.1 x.sends ∧ Rw (fun _ => True) w h.1 h.2.1 x.had ∧ Rw (fun _ => True) w f.1 f.2.1 x.safe ∧ x.set < 65536 := by
  obtain ⟨h1, h2, h3, h4⟩ := h
  have := (List.getElem?_eq_some_iff.1 hk).1
  obtain ⟨b, off, e, hc⟩ := h4 (by omega)
  obtain ⟨s, h, f, y⟩ := hc k x hk
  exact ⟨b, off, s, h, f, e, y⟩
theorem cells66 : Try.prog.cellsOf 66 = 1 := by kernel_rfl
theorem cells68 : Try.prog.cellsOf 68 = 4 := by kernel_rfl
theorem cells70 : Try.prog.cellsOf 70 = 2 := by kernel_rfl
theorem bytes68 : Try.prog.bytesOf 68 = 80 := by kernel_rfl
theorem bytes70 : Try.prog.bytesOf 70 = 32 := by kernel_rfl
set_option maxRecDepth 10000 in
theorem send70 : ∃ f0 f1 : Field, Try.prog.underlying 70 = some (.struct #[f0, f1]) ∧ f0.offset = 0 ∧ f1.offset = 1 ∧ f0.type = 5 ∧ f1.type = 30 := ⟨_, _, Try.underlying70, rfl, rfl, rfl, rfl⟩
set_option maxRecDepth 10000 in
theorem run68 : ∃ f0 f1 f2 f3 : Field, Try.prog.underlying 68 = some (.struct #[f0, f1, f2, f3]) ∧ (f0.offset = 0 ∧ f1.offset = 1 ∧ f2.offset = 2 ∧ f3.offset = 3) ∧ f0.type = 45 ∧ f1.type = 66 ∧ f2.type = 30 ∧ f3.type = 30 := ⟨_, _, _, _, Try.underlying68, ⟨rfl, rfl, rfl, rfl⟩, rfl, rfl, rfl, rfl⟩
set_option maxRecDepth 10000 in
theorem trod_send {H : Type} {enc : TypeId × Value → H} {W : World} {held : Bool} {fuel : Nat} {cs : List Value} {y : DataW H × List MemPlace} (h : DataW.trod enc Try.prog W 0 (fun _ => true) held fuel 70 cs = some y) (hf : Fits 70 y.1) :
    ∃ (x : Snd) (r : Sr), cs = [.int .u8 (x.i : Nat), .slice r.1 r.2.1 r.2.2] ∧ x.i < 256 ∧ Cp r ∧ Rw (fun _ => True) W r.1 r.2.1 x.m := by
  obtain ⟨f0, f1, he, p0, p1, t0, t1⟩ := send70
  obtain ⟨xs, k, hk, hxy, hcl, hxl, hg⟩ := DataW.trod_struct he h
  rw [cells70] at hcl
  subst hxy
  match xs, hxl, cs, hcl with
  | [y0, y1], _, [v0, v1], _ =>
    have a0 := hg 0 f0 rfl
    have a1 := hg 1 f1 rfl
    have b1 := hf.part he (i := 1) (f := f1) (x := y1) rfl rfl
    rw [t1] at b1
    clear hg
    simp [p0, t0, cells5] at a0
    simp [p1, t1, cells30] at a1
    obtain ⟨k0, c0, _, w0⟩ := DataW.trod_int Try.underlying5 a0
    obtain ⟨r, x, hcs, hcp, hrw⟩ := trod_by a1 b1
    simp at c0 hcs
    subst c0 hcs
    obtain ⟨kd, rfl, hkd⟩ := u8_of_wf w0
    exact ⟨⟨kd, x⟩, r, rfl, hkd, hcp, hrw⟩
theorem trod_sends {H : Type} {enc : TypeId × Value → H} {W : World} {held : Bool} {fuel : Nat} {cs : List Value} {y : DataW H × List MemPlace} (h : DataW.trod enc Try.prog W 0 (fun _ => true) held fuel 66 cs = some y) (hf : Fits 66 y.1) :
    ∃ (r : Sr) (es : List Snd), cs = [.slice r.1 r.2.1 r.2.2] ∧ Cp r ∧ SendsR W r.1 r.2.1 es := by
  rcases open_slice Try.underlying66 h with ⟨hcs, _⟩ | ⟨x, l, c, mm, n, D, Pl, hcs, hb, hl, hm, hmm, hy, hx⟩
  · exact ⟨(none, 0, 0), [], hcs, Cp.nil, rfl, Nat.zero_le _, fun _ => rfl, fun h => absurd h (Nat.lt_irrefl 0)⟩
  · subst hy
    simp only [if_true] at hmm
    have hcap := hf.cap Try.underlying66
    rw [bytes70] at hcap
    have each : ∀ i, i < l → ∃ q : Snd × Sr, q.1.i < 256 ∧ Cp q.2 ∧ Rw (fun _ => True) W q.2.1 q.2.2.1 q.1.m ∧ ∀ (j : Nat) v, [Value.int .u8 (q.1.i : Nat), .slice q.2.1 q.2.2.1 q.2.2.2][j]? = some v → W.cell? (x.add (i * 2 + j)) = some v := by
      intro i hi
      obtain ⟨cs', h1, h2⟩ := hx i (by omega)
      rw [cells70] at h1
      obtain ⟨_, hlen, hcell⟩ := World.cells?_some h1
      obtain ⟨e, r, rfl, hok, hcp, hrw⟩ := trod_send h2 (hf.elem Try.underlying66 hi)
      refine ⟨(e, r), hok, hcp, hrw, fun j v hj => ?_⟩
      have hjl := (List.getElem?_eq_some_iff.1 hj).1
      have e0 := hcell j (by simpa using hjl)
      rw [add_add] at e0
      rw [e0]
      exact hj
    haveI : Inhabited Snd := ⟨⟨0, []⟩⟩
    obtain ⟨q, hq⟩ := choose_lt each
    have hget : ∀ {α : Type} (f : Nat → α) j y, ((List.range l).map f)[j]? = some y → j < l ∧ y = f j := fun f j y hj => by
      obtain ⟨h1, h2⟩ := List.getElem?_eq_some_iff.1 hj
      simp at h1 h2
      exact ⟨h1, h2.symm⟩
    refine ⟨(some x, l, c), (List.range l).map fun i => (q i).1, hcs, ⟨hl, by unfold maxLen at hm; simp only; omega, fun e => (by cases e)⟩, by simp, by show l ≤ 4398046511104; omega, fun e => (by cases e), fun h0 => ?_⟩
    obtain ⟨b, off, spot⟩ := x
    have hs : spot = none := by
      have := (hq 0 h0).2.2.2 0 _ rfl
      simpa [Addr.add] using World.cell?_spot this
    subst hs
    refine ⟨b, off, rfl, fun j e hj => ?_⟩
    obtain ⟨hjl, rfl⟩ := hget _ j e hj
    obtain ⟨h1, h2, h3, h4⟩ := hq j hjl
    have h5 : ∀ (i : Nat) v, [Value.int .u8 ((q j).1.i : Nat), .slice (q j).2.1 (q j).2.2.1 (q j).2.2.2][i]? = some v → W.cell? ⟨b, off + j * 2 + i, none⟩ = some v := fun i v hi => by
      have := h4 i v hi
      rwa [Addr.add_lit, ← Nat.add_assoc] at this
    exact ⟨(q j).2, h5 0 _ rfl, h5 1 _ rfl, h2, h3, h1⟩
set_option maxRecDepth 10000 in
theorem trod_run {H : Type} {enc : TypeId × Value → H} {W : World} {held : Bool} {fuel : Nat} {cs : List Value} {y : DataW H × List MemPlace} (h : DataW.trod enc Try.prog W 0 (fun _ => true) held fuel 68 cs = some y) (hf : Fits 68 y.1) :
    ∃ (x : Rn) (s g f : Sr), cs = [.int .u16 (x.set : Nat), .slice s.1 s.2.1 s.2.2, .slice g.1 g.2.1 g.2.2, .slice f.1 f.2.1 f.2.2] ∧ (Cp s ∧ Cp g ∧ Cp f) ∧ SendsR W s.1 s.2.1 x.sends ∧ Rw (fun _ => True) W g.1 g.2.1 x.had ∧ Rw (fun _ => True) W f.1 f.2.1 x.safe ∧ x.set < 65536 := by
  obtain ⟨f0, f1, f2, f3, he, ⟨p0, p1, p2, p3⟩, t0, t1, t2, t3⟩ := run68
  obtain ⟨xs, k, hk, hxy, hcl, hxl, hg⟩ := DataW.trod_struct he h
  rw [cells68] at hcl
  subst hxy
  match xs, hxl, cs, hcl with
  | [y0, y1, y2, y3], _, [v0, v1, v2, v3], _ =>
    have a0 := hg 0 f0 rfl
    have a1 := hg 1 f1 rfl
    have a2 := hg 2 f2 rfl
    have a3 := hg 3 f3 rfl
    have b1 := hf.part he (i := 1) (f := f1) (x := y1) rfl rfl
    have b2 := hf.part he (i := 2) (f := f2) (x := y2) rfl rfl
    have b3 := hf.part he (i := 3) (f := f3) (x := y3) rfl rfl
    rw [t1] at b1
    rw [t2] at b2
    rw [t3] at b3
    clear hg
    simp [p0, t0, cells45] at a0
    simp [p1, t1, cells66] at a1
    simp [p2, t2, cells30] at a2
    simp [p3, t3, cells30] at a3
    obtain ⟨k0, c0, _, w0⟩ := DataW.trod_int Try.underlying45 a0
    obtain ⟨r1, x1, e1, g1, q1⟩ := trod_sends a1 b1
    obtain ⟨r2, x2, e2, g2, q2⟩ := trod_by a2 b2
    obtain ⟨r3, x3, e3, g3, q3⟩ := trod_by a3 b3
    simp at c0 e1 e2 e3
    subst c0 e1 e2 e3
    obtain ⟨kd, rfl, hkd⟩ := u16_of_wf w0
    exact ⟨⟨kd, x1, x2, x3⟩, r1, r2, r3, rfl, ⟨g1, g2, g3⟩, q1, q2, q3, hkd⟩
theorem trod_runs {H : Type} {enc : TypeId × Value → H} {W : World} {held : Bool} {fuel : Nat} {cs : List Value} {y : DataW H × List MemPlace} (h : DataW.trod enc Try.prog W 0 (fun _ => true) held fuel 38 cs = some y) (hf : Fits 38 y.1) :
    ∃ (r : Sr) (es : List Rn), cs = [.slice r.1 r.2.1 r.2.2] ∧ Cp r ∧ RunsR W r.1 r.2.1 es := by
  rcases open_slice Try.underlying38 h with ⟨hcs, _⟩ | ⟨x, len, c, mm, n, D, Pl, hcs, hb, hl, hm, hmm, hy, hx⟩
  · exact ⟨(none, 0, 0), [], hcs, Cp.nil, rfl, Nat.zero_le _, fun _ => rfl, fun h => absurd h (Nat.lt_irrefl 0)⟩
  · subst hy
    simp only [if_true] at hmm
    have hcap := hf.cap Try.underlying38
    rw [bytes68] at hcap
    have each : ∀ i, i < len → ∃ q : Rn × Sr × Sr × Sr, (Cp q.2.1 ∧ Cp q.2.2.1 ∧ Cp q.2.2.2) ∧ SendsR W q.2.1.1 q.2.1.2.1 q.1.sends ∧ Rw (fun _ => True) W q.2.2.1.1 q.2.2.1.2.1 q.1.had ∧ Rw (fun _ => True) W q.2.2.2.1 q.2.2.2.2.1 q.1.safe ∧ q.1.set < 65536 ∧ ∀ (j : Nat) v, [Value.int .u16 (q.1.set : Nat), .slice q.2.1.1 q.2.1.2.1 q.2.1.2.2, .slice q.2.2.1.1 q.2.2.1.2.1 q.2.2.1.2.2, .slice q.2.2.2.1 q.2.2.2.2.1 q.2.2.2.2.2][j]? = some v → W.cell? (x.add (i * 4 + j)) = some v := by
      intro i hi
      obtain ⟨cs', h1, h2⟩ := hx i (by omega)
      rw [cells68] at h1
      obtain ⟨_, hlen, hcell⟩ := World.cells?_some h1
      obtain ⟨e, s, g, f, rfl, hcp, q1, q2, q3, q4⟩ := trod_run h2 (hf.elem Try.underlying38 hi)
      refine ⟨(e, s, g, f), hcp, q1, q2, q3, q4, fun j v hj => ?_⟩
      have hjl := (List.getElem?_eq_some_iff.1 hj).1
      have e0 := hcell j (by simpa using hjl)
      rw [add_add] at e0
      rw [e0]
      exact hj
    haveI : Inhabited Rn := ⟨⟨0, [], [], []⟩⟩
    obtain ⟨q, hq⟩ := choose_lt each
    have hget : ∀ {α : Type} (f : Nat → α) j y, ((List.range len).map f)[j]? = some y → j < len ∧ y = f j := fun f j y hj => by
      obtain ⟨h1, h2⟩ := List.getElem?_eq_some_iff.1 hj
      simp at h1 h2
      exact ⟨h1, h2.symm⟩
    refine ⟨(some x, len, c), (List.range len).map fun i => (q i).1, hcs, ⟨hl, by unfold maxLen at hm; simp only; omega, fun e => (by cases e)⟩, by simp, by show len ≤ 4398046511104; omega, fun e => (by cases e), fun h0 => ?_⟩
    obtain ⟨b, off, spot⟩ := x
    have hs : spot = none := by
      have := (hq 0 h0).2.2.2.2.2 0 _ rfl
      simpa [Addr.add] using World.cell?_spot this
    subst hs
    refine ⟨b, off, rfl, fun j e hj => ?_⟩
    obtain ⟨hjl, rfl⟩ := hget _ j e hj
    obtain ⟨h1, h2, h3, h4, h5, h6⟩ := hq j hjl
    have h7 : ∀ (i : Nat) v, [Value.int .u16 ((q j).1.set : Nat), .slice (q j).2.1.1 (q j).2.1.2.1 (q j).2.1.2.2, .slice (q j).2.2.1.1 (q j).2.2.1.2.1 (q j).2.2.1.2.2, .slice (q j).2.2.2.1 (q j).2.2.2.2.1 (q j).2.2.2.2.2][i]? = some v → W.cell? ⟨b, off + j * 4 + i, none⟩ = some v := fun i v hi => by
      have := h6 i v hi
      rwa [Addr.add_lit, ← Nat.add_assoc] at this
    exact ⟨(q j).2.1, (q j).2.2.1, (q j).2.2.2, ⟨h7 0 _ rfl, h7 1 _ rfl, h7 2 _ rfl, h7 3 _ rfl⟩, h1.1, h1.2.1, h1.2.2, h2, h3, h4, h5⟩
theorem open_runs {H : Type} {enc : TypeId × Value → H} {W : World} {a : Option Addr} {len cap : Nat} {d : DataW H} {p : List MemPlace} (h : DataW.Trod enc Try.prog W 0 (fun _ => true) true 38 (.slice a len cap) d p) (hf : Fits 38 d) : ∃ xs, RunsR W a len xs ∧ Cp (a, len, cap) := by
  obtain ⟨fuel, h⟩ := h
  obtain ⟨r, xs, h1, h2, h3⟩ := trod_runs (y := (d, p)) h hf
  obtain rfl := sl_eq (.inr h1)
  exact ⟨xs, h3, h2⟩
end Go.Proofs.Ythnbijnpbjfoaaa
