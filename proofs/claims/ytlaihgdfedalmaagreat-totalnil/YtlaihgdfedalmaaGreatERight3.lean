/-
  Right: is it a summary?
-/
import Derived.Test.YtlaihgdfedalmaaGreatERight2
namespace Go.Proofs.YtlaihgdfedalmaaGreat
open Go.RowKit
set_option linter.unusedVariables false
set_option linter.unusedSimpArgs false

def den : Lb × List UInt8 := ((0, 0, 0, 0), [])
/-- Is the k-th entry right, and above the one ahead of it? -/
def gooE (es : List (Lb × List UInt8)) (k : Nat) : Bool := (decide (k = 0) || decide (0 < cmpL (es.getD k den).1 (es.getD (k - 1) den).1)) && formE (es.getD k den).1 (es.getD k den).2.length
def ascE (es : List (Lb × List UInt8)) : Bool := (List.range es.length).all (gooE es)
/-- Is a summary right? -/
def rightS (es : List (Lb × List UInt8)) (ls : List Lb) (nx : Int) (hn : Nat) (hp : Int) : Bool := ascE es && (ls.all formL && decide ls.Nodup) && decide (1 ≤ nx) && decide (nx ≤ (ls.length : Int) + 1) && formV hn hp
theorem good_asc {es : List (Lb × List UInt8)} {xs : List (Lb × Sl)} (hl : xs.length = es.length) (h : ∀ (j : Nat) (e : Lb × List UInt8) (x : Lb × Sl), es[j]? = some e → xs[j]? = some x → x.1 = e.1 ∧ e.2.length = x.2.2.1) : goodAll xs = ascE es := by
  unfold goodAll ascE
  rw [hl, Bool.eq_iff_iff, List.all_eq_true, List.all_eq_true]
  have key : ∀ k, k < es.length → (xs.getD k dsl).1 = (es.getD k den).1 ∧ (xs.getD k dsl).2.2.1 = (es.getD k den).2.length := fun k hk => by
    have h1 : es[k]? = some (es[k]'hk) := List.getElem?_eq_getElem hk
    have h2 : xs[k]? = some (xs[k]'(by omega)) := List.getElem?_eq_getElem (by omega)
    have := h k _ _ h1 h2
    simp only [List.getD, h1, h2, Option.getD_some]
    exact ⟨this.1, this.2.symm⟩
  have each : ∀ k, k ∈ List.range es.length → goodE xs k = gooE es k := fun k hk => by
    have hk' : k < es.length := by simpa using hk
    unfold goodE gooE abv
    rw [(key k hk').1, (key k hk').2, (key (k - 1) (by omega)).1]
  exact ⟨fun hh k hk => by rw [← each k hk]; exact hh k hk, fun hh k hk => by rw [each k hk]; exact hh k hk⟩
theorem rightEs_any (p : Nat → Prop) (w : World) (ao : Option Addr) (n cap : Nat) (es : List (Lb × List UInt8)) (h : ER p w ao n es) (hmax : n ≤ 140737488355328) :
    Calls Tryz.prog 116 #[.slice ao n cap] w fun e w' => e = .returned (.bool (ascE es)) ∧ Below w.heap.size w w' := by
  obtain ⟨xs, hl, hx, b, off, hao, hc⟩ := h.split
  rw [← good_asc (xs := xs) (by rw [hl, h.1]) (fun j e x he hj => ⟨(hx j e x he hj).1, (hx j e x he hj).2.1.1⟩)]
  subst hl
  exact rightEntries_any w ao cap b off xs hmax (fun h => (hao h).1) hc
set_option maxRecDepth 10000 in
set_option maxHeartbeats 2000000 in
theorem right_any (p : Nat → Prop) (w : World) (ao : Option Addr) (n ac : Nat) (es : List (Lb × List UInt8)) (h : ER p w ao n es) (hmax : n ≤ 140737488355328) (bo : Option Addr) (m bc : Nat) (ls : List Lb) (g : LR w bo m ls) (hm : m ≤ 5000) (hz : bo = none → m = 0) (nx : Int) (hn : Nat) (hp : Int) :
    Calls Tryz.prog 92 #[sumv (.slice ao n ac) (.slice bo m bc) nx hn hp] w fun e w' => e = .returned (.bool (rightS es ls nx hn hp)) ∧ Below w.heap.size w w' := by
  unfold sumv
  have b0 : Below w.heap.size w (w.alloc (.cells #[.slice ao n ac, .slice bo m bc, .int .i64 nx, .int .u64 (hn : Nat), .int .i64 hp] 45)) := bl1 _ _
  have c1 := sb_new w (.slice ao n ac) (.slice bo m bc) nx hn hp 45
  have h1 := rightEs_any p _ ao n ac es (h.bl b0) hmax
  have h2 := fun W (u : Below w.heap.size w W) => rightOrder_any W bo m bc ls (g.up u) hm hz
  have h3 := fun W => form_any W hn hp
  have hml := g.1
  have hwm : wrap64 ((m : Int) + 1) = (m : Int) + 1 := IntWalk.wrap64_in _ (by omega)
  unfold rightS
  rw [hml]
  generalize ascE es = f1 at *
  generalize (ls.all formL && decide ls.Nodup) = f2 at *
  generalize formV hn hp = f3 at *
  clear h g hml hm hz hmax
  unfold vid at h3
  have C1 := c1
  obtain ⟨x0, x1, x2, x3, x4⟩ := c1
  cases f1 with
  | false =>
    simp only [Bool.false_and]
    go_enter Tryz.func92, Tryz.ntmps92
    go_wp2_with fail
    refine h1.mono ?_
    rintro e w1 ⟨rfl, hb⟩
    have hbb := bl_step b0 hb
    clear h1 h2 h3 C1 x0 x1 x2 x3 x4 b0 hb hwm
    go_wp2
    go_ret
    exact ⟨rfl, hbb⟩
  | true =>
    simp only [Bool.true_and]
    cases f2 with
    | false =>
      simp only [Bool.false_and]
      go_enter Tryz.func92, Tryz.ntmps92
      go_wp2_with fail
      refine h1.mono ?_
      rintro e w1 ⟨rfl, hb⟩
      have hbb := bl_step b0 hb
      have D1 := C1.bl hb
      have k2 := h2 w1 hbb
      clear h1 h2 h3 C1 x0 x1 x2 x3 x4 b0 hb hwm
      obtain ⟨x0, x1, x2, x3, x4⟩ := D1
      go_wp2_with fail
      refine k2.mono ?_
      rintro e w2 ⟨rfl, hb2⟩
      have hbb2 := bl_step hbb hb2
      clear k2 x0 x1 x2 x3 x4 hbb hb2
      go_wp2
      go_ret
      exact ⟨rfl, hbb2⟩
    | true =>
      simp only [Bool.true_and]
      go_enter Tryz.func92, Tryz.ntmps92
      go_wp2_with fail
      refine h1.mono ?_
      rintro e w1 ⟨rfl, hb⟩
      have hbb := bl_step b0 hb
      have D1 := C1.bl hb
      have k2 := h2 w1 hbb
      clear h1 h2 C1 x0 x1 x2 x3 x4 b0 hb
      obtain ⟨x0, x1, x2, x3, x4⟩ := id D1
      go_wp2_with fail
      refine k2.mono ?_
      rintro e w2 ⟨rfl, hb2⟩
      have hbb2 := bl_step hbb hb2
      have E1 := D1.bl hb2
      clear k2 x0 x1 x2 x3 x4 hbb hb2 D1
      obtain ⟨x0, x1, x2, x3, x4⟩ := E1
      by_cases q1 : 1 ≤ nx
      · by_cases q2 : nx ≤ (m : Int) + 1
        · go_wp2_with fail
          refine (h3 _).mono ?_
          rintro e w3 ⟨rfl, hu3⟩
          have hbb3 := bl_step hbb2 hu3.bl
          clear h3 x0 x1 x2 x3 x4 hbb2 hu3
          go_wp2
          go_ret
          exact ⟨ret_bool (by simp [q1, q2]), hbb3⟩
        · clear h3
          go_wp2
          go_ret
          exact ⟨ret_bool (by simp <;> intros <;> omega), hbb2⟩
      · clear h3
        go_wp2
        go_ret
        exact ⟨ret_bool (by simp <;> intros <;> omega), hbb2⟩
end Go.Proofs.YtlaihgdfedalmaaGreat
