/-
  The document's begins: is a list a beginning of another one?
-/
import Derived.Test.YthnbijnpbjfoaaaJItems
import Derived.Test.YthnbijnpbjfoaaaJOne
namespace Go.Proofs.Ythnbijnpbjfoaaa
open Go.RowKit Go.Sort
set_option linter.unusedVariables false

theorem und25e : Try.prog.underlying 25 = some (.slice (Try.prog.elem 25)) := by kernel_rfl
set_option maxRecDepth 100000 in
theorem size25 (w : World) : (sizeOf (Try.prog.elem 25)).run Try.prog w = .ok 2 w := by rfl
theorem slice_to25 (w : World) (ao : Option Addr) (L cap n : Nat) (hn : n ≤ cap) (hao : ∀ a, ao = some a → a.spot = none) : (Instr.slice 25 (.slice ao L cap) none (some (.int .i64 (n : Nat))) none).run Try.prog w = .ok (.slice ao n cap) w := by
  rw [run_slice_h w 25 ao L cap und25e .i64 (n : Nat) (by omega) (by omega), size25]
  simp only [Result.andThen_ok, sliced, Int.toNat_natCast, Nat.sub_zero, Nat.zero_mul]
  congr 2
  split
  · rfl
  · cases ao with
    | none => rfl
    | some a => simp [Addr.add]
theorem Its.flat {p : Nat → Prop} {w : World} {ao : Option Addr} {n : Nat} {ds : List Di} (h : Its p w ao n ds) (hn : 0 < n) : ∀ a, ao = some a → a.spot = none := by
  obtain ⟨xs, ⟨_, _, _, h4⟩, _⟩ := h
  obtain ⟨b, off, rfl, _⟩ := h4 hn
  intro a e
  cases e
  rfl
/-- 'begins': beginnings, in the document's words. -/
theorem begins_any (p q : Nat → Prop) (w : World) (ao bo : Option Addr) (n m c1 c2 : Nat) (ds es : List Di) (h : Its p w ao n ds) (g : Its q w bo m es) (hc : m ≤ c2) (hb : ∀ a, bo = some a → a.spot = none) :
    Calls Try.prog 69 #[.slice ao n c1, .slice bo m c2] w fun e w' => e = .returned (.bool (decide (ds <+: es))) ∧ Up w w' := by
  have hl := h.len
  have hl2 := g.len
  have hm := h.le
  have hm2 := g.le
  by_cases hle : n ≤ m
  · have hleI : (n : Int) ≤ (m : Int) := by omega
    have hit := fun W (u : Below w.heap.size w W) => items_any p q W ao bo n n c1 c2 ds (es.take n) (h.up u) ((g.up u).take hle)
    have hsl := fun W => slice_to25 W bo m c2 n (by omega) hb
    have HD : Hid (decide (ds = es.take n) = decide (ds <+: es)) := by
      show _ = _
      congr 1
      rw [List.prefix_iff_eq_take, hl]
    clear h g
    go_enter Try.func69, Try.ntmps69
    go_wp2_with fail
    refine (hit _ ?_).mono ?_
    · first | exact Below.refl _ _ | exact ((Up.refl w).drew).bl
    rintro e w1 ⟨rfl, u1⟩
    go_wp2
    go_ret
    exact ⟨ret_bool (by rw [HD.out]), u1⟩
  · have hleI : ¬ (n : Int) ≤ (m : Int) := by omega
    have HD : Hid (false = decide (ds <+: es)) := by
      show _ = _
      symm
      rw [decide_eq_false_iff_not]
      intro h
      have := h.length_le
      omega
    clear h g
    go_enter Try.func69, Try.ntmps69
    go_wp2
    go_ret
    exact ⟨ret_bool HD.out, Up.refl _⟩
end Go.Proofs.Ythnbijnpbjfoaaa
