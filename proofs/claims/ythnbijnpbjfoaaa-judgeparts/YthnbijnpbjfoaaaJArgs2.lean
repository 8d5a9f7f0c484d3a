/-
  Traces as they are handed in.
-/
import Derived.Test.YthnbijnpbjfoaaaJArgs
import Derived.Test.YthnbijnpbjfoaaaJStay
namespace Go.Proofs.Ythnbijnpbjfoaaa
open Go.ChangeShapes Go.WideShapes Go.ChangeAt Go.RowKit Go.Deep
set_option linter.unusedVariables false

theorem u16_of_wf {a : Int} (h : (Lit.int .u16 a).wf = true) : ∃ n : Nat, a = n ∧ n < 65536 := by
  simp [Lit.wf, IntKind.min, IntKind.max, IntKind.bits, IntKind.signed] at h
  exact ⟨a.toNat, by omega, by omega⟩
theorem cells42 : Try.prog.cellsOf 42 = 1 := by kernel_rfl
theorem cells44 : Try.prog.cellsOf 44 = 2 := by kernel_rfl
theorem cells45 : Try.prog.cellsOf 45 = 1 := by kernel_rfl
theorem cells47 : Try.prog.cellsOf 47 = 3 := by kernel_rfl
theorem cells49 : Try.prog.cellsOf 49 = 6 := by kernel_rfl
theorem cells41 : Try.prog.cellsOf 41 = 1 := by kernel_rfl
theorem bytes49 : Try.prog.bytesOf 49 = 64 := by kernel_rfl
theorem bytes41 : Try.prog.bytesOf 41 = 24 := by kernel_rfl
set_option maxRecDepth 10000 in
theorem vid44 : ∃ f0 f1 : Field, Try.prog.underlying 44 = some (.struct #[f0, f1]) ∧ f0.offset = 0 ∧ f1.offset = 1 ∧ f0.type = 42 ∧ f1.type = 3 := ⟨_, _, Try.underlying44, rfl, rfl, rfl, rfl⟩
set_option maxRecDepth 10000 in
theorem view47 : ∃ f0 f1 : Field, Try.prog.underlying 47 = some (.struct #[f0, f1]) ∧ f0.offset = 0 ∧ f1.offset = 2 ∧ f0.type = 44 ∧ f1.type = 45 := ⟨_, _, Try.underlying47, rfl, rfl, rfl, rfl⟩
set_option maxRecDepth 10000 in
theorem event49 : ∃ f0 f1 f2 f3 : Field, Try.prog.underlying 49 = some (.struct #[f0, f1, f2, f3]) ∧ (f0.offset = 0 ∧ f1.offset = 1 ∧ f2.offset = 4 ∧ f3.offset = 5) ∧ f0.type = 5 ∧ f1.type = 47 ∧ f2.type = 3 ∧ f3.type = 30 := ⟨_, _, _, _, Try.underlying49, ⟨rfl, rfl, rfl, rfl⟩, rfl, rfl, rfl, rfl⟩
set_option maxRecDepth 10000 in
theorem trod_vid {H : Type} {enc : TypeId × Value → H} {W : World} {held : Bool} {fuel : Nat} {v0 v1 : Value} {y : DataW H × List MemPlace} (h : DataW.trod enc Try.prog W 0 (fun _ => true) held fuel 44 [v0, v1] = some y) : ∃ (n : Nat) (p : Int), v0 = .int .u64 (n : Nat) ∧ v1 = .int .i64 p ∧ n < 18446744073709551616 ∧ In p := by
  obtain ⟨g0, g1, he', q0, q1, u0, u1⟩ := vid44
  obtain ⟨ys, k', hk', hyy, _, hyl, hg'⟩ := DataW.trod_struct he' h
  match ys, hyl with
  | [z0, z1], _ =>
    have c0 := hg' 0 g0 rfl
    have c1 := hg' 1 g1 rfl
    simp [q0, q1, u0, u1, cells42, cells3] at c0 c1
    obtain ⟨n0, e0, _, w0⟩ := DataW.trod_int Try.underlying42 c0
    obtain ⟨n1, e1, _, w1⟩ := DataW.trod_int Try.underlying3 c1
    simp at e0 e1
    subst e0 e1
    obtain ⟨m0, rfl, hm0⟩ := u64_of_wf w0
    exact ⟨m0, n1, rfl, rfl, hm0, in_of_wf w1⟩
set_option maxRecDepth 10000 in
theorem trod_view {H : Type} {enc : TypeId × Value → H} {W : World} {held : Bool} {fuel : Nat} {v0 v1 v2 : Value} {y : DataW H × List MemPlace} (h : DataW.trod enc Try.prog W 0 (fun _ => true) held fuel 47 [v0, v1, v2] = some y) : ∃ (n : Nat) (p : Int) (s : Nat), v0 = .int .u64 (n : Nat) ∧ v1 = .int .i64 p ∧ v2 = .int .u16 (s : Nat) ∧ n < 18446744073709551616 ∧ In p ∧ s < 65536 := by
  obtain ⟨g0, g1, he', q0, q1, u0, u1⟩ := view47
  obtain ⟨ys, k', hk', hyy, _, hyl, hg'⟩ := DataW.trod_struct he' h
  match ys, hyl with
  | [z0, z1], _ =>
    have c0 := hg' 0 g0 rfl
    have c1 := hg' 1 g1 rfl
    simp [q0, q1, u0, u1, cells44, cells45] at c0 c1
    obtain ⟨n, p, rfl, rfl, hn, hp⟩ := trod_vid c0
    obtain ⟨n1, e1, _, w1⟩ := DataW.trod_int Try.underlying45 c1
    simp at e1
    subst e1
    obtain ⟨m0, rfl, hm0⟩ := u16_of_wf w1
    exact ⟨n, p, m0, rfl, rfl, rfl, hn, hp, hm0⟩
set_option maxRecDepth 10000 in
/-- An event that was handed in. -/
theorem trod_event {H : Type} {enc : TypeId × Value → H} {W : World} {held : Bool} {fuel : Nat} {cs : List Value} {y : DataW H × List MemPlace} (h : DataW.trod enc Try.prog W 0 (fun _ => true) held fuel 49 cs = some y) (hf : Fits 49 y.1) :
    ∃ (e : Ev) (r : Sr), cs = [.int .u8 (e.k : Nat), .int .u64 (e.n : Nat), .int .i64 e.p, .int .u16 (e.s : Nat), .int .i64 e.f, .slice r.1 r.2.1 r.2.2] ∧ EvOk e ∧ Cp r ∧ Rw (fun _ => True) W r.1 r.2.1 e.m := by
  obtain ⟨f0, f1, f2, f3, he, ⟨p0, p1, p2, p3⟩, t0, t1, t2, t3⟩ := event49
  obtain ⟨xs, k, hk, hxy, hcl, hxl, hg⟩ := DataW.trod_struct he h
  rw [cells49] at hcl
  subst hxy
  match xs, hxl, cs, hcl with
  | [y0, y1, y2, y3], _, [v0, v1, v2, v3, v4, v5], _ =>
    have a0 := hg 0 f0 rfl
    have a1 := hg 1 f1 rfl
    have a2 := hg 2 f2 rfl
    have a3 := hg 3 f3 rfl
    have b3 := hf.part he (i := 3) (f := f3) (x := y3) rfl rfl
    rw [t3] at b3
    clear hg
    simp [p0, t0, cells5] at a0
    simp [p1, t1, cells47] at a1
    simp [p2, t2, cells3] at a2
    simp [p3, t3, cells30] at a3
    obtain ⟨k0, c0, _, w0⟩ := DataW.trod_int Try.underlying5 a0
    obtain ⟨n, p, s, rfl, rfl, rfl, hn, hp, hs⟩ := trod_view a1
    obtain ⟨f, c2, _, w2⟩ := DataW.trod_int Try.underlying3 a2
    obtain ⟨r, x, hcs, hcp, hrw⟩ := trod_by a3 b3
    simp at c0 c2 hcs
    subst c0 c2 hcs
    obtain ⟨kd, rfl, hkd⟩ := u8_of_wf w0
    exact ⟨⟨kd, n, p, s, f, x⟩, r, rfl, ⟨hkd, hn, hp.1, hp.2, hs, (in_of_wf w2).1, (in_of_wf w2).2⟩, hcp, hrw⟩
/-- Events that were handed in. -/
theorem trod_events {H : Type} {enc : TypeId × Value → H} {W : World} {held : Bool} {fuel : Nat} {cs : List Value} {y : DataW H × List MemPlace} (h : DataW.trod enc Try.prog W 0 (fun _ => true) held fuel 41 cs = some y) (hf : Fits 41 y.1) :
    ∃ (r : Sr) (es : List Ev), cs = [.slice r.1 r.2.1 r.2.2] ∧ Cp r ∧ EvR (fun _ => True) W r.1 r.2.1 es ∧ ∀ e ∈ es, EvOk e := by
  rcases open_slice Try.underlying41 h with ⟨hcs, _⟩ | ⟨x, l, c, mm, n, D, Pl, hcs, hb, hl, hm, hmm, hy, hx⟩
  · exact ⟨(none, 0, 0), [], hcs, Cp.nil, ⟨rfl, Nat.zero_le _, fun _ => rfl, fun h => absurd h (Nat.lt_irrefl 0)⟩, by simp⟩
  · subst hy
    simp only [if_true] at hmm
    have hcap := hf.cap Try.underlying41
    rw [bytes49] at hcap
    have each : ∀ i, i < l → ∃ q : Ev × Sr, EvOk q.1 ∧ Cp q.2 ∧ Rw (fun _ => True) W q.2.1 q.2.2.1 q.1.m ∧ ∀ (j : Nat) v, [Value.int .u8 (q.1.k : Nat), .int .u64 (q.1.n : Nat), .int .i64 q.1.p, .int .u16 (q.1.s : Nat), .int .i64 q.1.f, .slice q.2.1 q.2.2.1 q.2.2.2][j]? = some v → W.cell? (x.add (i * 6 + j)) = some v := by
      intro i hi
      obtain ⟨cs', h1, h2⟩ := hx i (by omega)
      rw [cells49] at h1
      obtain ⟨_, hlen, hcell⟩ := World.cells?_some h1
      obtain ⟨e, r, rfl, hok, hcp, hrw⟩ := trod_event h2 (hf.elem Try.underlying41 hi)
      refine ⟨(e, r), hok, hcp, hrw, fun j v hj => ?_⟩
      have hjl := (List.getElem?_eq_some_iff.1 hj).1
      have e0 := hcell j (by simpa using hjl)
      rw [add_add] at e0
      rw [e0]
      exact hj
    haveI : Inhabited Ev := ⟨⟨0, 0, 0, 0, 0, []⟩⟩
    obtain ⟨q, hq⟩ := choose_lt each
    have hget : ∀ {α : Type} (f : Nat → α) j y, ((List.range l).map f)[j]? = some y → j < l ∧ y = f j := fun f j y hj => by
      obtain ⟨h1, h2⟩ := List.getElem?_eq_some_iff.1 hj
      simp at h1 h2
      exact ⟨h1, h2.symm⟩
    refine ⟨(some x, l, c), (List.range l).map fun i => (q i).1, hcs, ⟨hl, by unfold maxLen at hm; simp only; omega, fun e => (by cases e)⟩, ⟨by simp, by show l ≤ 2199023255552; omega, fun e => (by cases e), fun h0 => ?_⟩, fun e he => ?_⟩
    · obtain ⟨b, off, spot⟩ := x
      have hs : spot = none := by
        have := (hq 0 h0).2.2.2 0 _ rfl
        simpa [Addr.add] using World.cell?_spot this
      subst hs
      refine ⟨b, off, rfl, trivial, fun j e hj => ?_⟩
      obtain ⟨hjl, rfl⟩ := hget _ j e hj
      obtain ⟨h1, h2, h3, h4⟩ := hq j hjl
      have h5 : ∀ (i : Nat) v, [Value.int .u8 ((q j).1.k : Nat), .int .u64 ((q j).1.n : Nat), .int .i64 (q j).1.p, .int .u16 ((q j).1.s : Nat), .int .i64 (q j).1.f, .slice (q j).2.1 (q j).2.2.1 (q j).2.2.2][i]? = some v → W.cell? ⟨b, off + j * 6 + i, none⟩ = some v := fun i v hi => by
        have := h4 i v hi
        rwa [Addr.add_lit, ← Nat.add_assoc] at this
      exact ⟨(q j).2, ⟨h5 0 _ rfl, h5 1 _ rfl, h5 2 _ rfl, h5 3 _ rfl, h5 4 _ rfl, h5 5 _ rfl⟩, h2, h3⟩
    · obtain ⟨i, hi, rfl⟩ := List.mem_map.1 he
      exact (hq i (by simpa using hi)).1
theorem open_evss {H : Type} {enc : TypeId × Value → H} {W : World} {a : Option Addr} {len cap : Nat} {d : DataW H} {p : List MemPlace} (h : DataW.Trod enc Try.prog W 0 (fun _ => true) true 36 (.slice a len cap) d p) (hf : Fits 36 d) : ∃ xs, (Lr (fun w r es => EvR (fun _ => True) w r.1 r.2.1 es ∧ ∀ e ∈ es, EvOk e) W a len xs) ∧ Cp (a, len, cap) := by
  obtain ⟨fuel, h⟩ := h
  obtain ⟨r, xs, h1, h2, h3⟩ := trod_lr (y := (d, p)) (fun w r es => EvR (fun _ => True) w r.1 r.2.1 es ∧ ∀ e ∈ es, EvOk e) Try.underlying36 cells41 bytes41 (fun h hf => trod_events h hf) h hf
  obtain rfl := sl_eq (.inr h1)
  exact ⟨xs, h3, h2⟩
end Go.Proofs.Ythnbijnpbjfoaaa
