/-
  The document's Items and Same, of lists that say the same.
-/
import Derived.Test.YtlonbbepoamnmaaDoorSRow
import Derived.Lib.SlBytesConst
import Derived.Laws.BytesArg
namespace Go.Proofs.YtlonbbepoamnmaaDoor
open Go.RowKit Go.Sort
set_option linter.unusedVariables false

def str (xs : List UInt8) : ByteArray := ⟨xs.toArray⟩
theorem str_of (xs : List UInt8) : (xs.map fun x => (x.toNat : Int)).foldl (fun r n => r.push (UInt8.ofNat n.toNat)) ByteArray.empty = str xs := by
  rw [foldl_push_bytes]
  simp [str, ByteArray.empty, ByteArray.emptyWithCapacity, Function.comp_def]
  try rfl
theorem conv_rw {p : Nat → Prop} {w : World} {ao : Option Addr} {n cap : Nat} {xs : List UInt8} (h : Rw p w ao n xs) : (convert 96 9 (.slice ao n cap)).run Tryd.prog w = .ok (.string (str xs)) w := by
  cases ao with
  | none =>
    have hx : xs = [] := List.eq_nil_of_length_eq_zero (by have := h.1; have := h.2.2.1 rfl; omega)
    subst hx
    exact run_convert_bytes_nil w 96 5 Tryd.underlying96 Tryd.underlying5 _ _ 9 Tryd.underlying9
  | some a =>
    have hl : (loadCells a n).run Tryd.prog w = .ok (((xs.map fun x => (x.toNat : Int))).map (Value.int .u8)).toArray w := by
      have := run_loadCells_list (P := Tryd.prog) w a ((xs.map fun x => (x.toNat : Int)).map (Value.int .u8)) (fun j v hj => h.cells j v (by unfold cellB; simpa [Function.comp_def] using hj))
      simpa [h.1] using this
    rw [run_convert_bytes_string w 96 9 5 _ n cap Tryd.underlying96 Tryd.underlying5 Tryd.underlying9, run_bytesToString w a n cap _ hl, str_of]

/-- Two items that say the same. -/
def TwoI (b1 o1 b2 o2 : Nat) (x y : Ix) (s : ByteArray) (wx : World) : Prop :=
  (wx.cell? ⟨b1, o1, none⟩ = some (.int .i64 x.1) ∧ wx.cell? ⟨b1, o1 + 1, none⟩ = some (.slice x.2.1 x.2.2.1 x.2.2.2) ∧ (convert 96 9 (.slice x.2.1 x.2.2.1 x.2.2.2)).run Tryd.prog wx = .ok (.string s) wx) ∧
  (wx.cell? ⟨b2, o2, none⟩ = some (.int .i64 x.1) ∧ wx.cell? ⟨b2, o2 + 1, none⟩ = some (.slice y.2.1 y.2.2.1 y.2.2.2) ∧ (convert 96 9 (.slice y.2.1 y.2.2.1 y.2.2.2)).run Tryd.prog wx = .ok (.string s) wx)

set_option maxRecDepth 10000 in
set_option maxHeartbeats 2000000 in
theorem items_true (p q : Nat → Prop) (w : World) (ao bo : Option Addr) (n c1 c2 : Nat) (ds : List Di) (h : Its p w ao n ds) (h' : Its q w bo n ds) :
    Calls Tryd.prog 68 #[.slice ao n c1, .slice bo n c2] w fun e w' => e = .returned (.bool true) ∧ Up w w' := by
  obtain ⟨xs, hI, hd, hit⟩ := h
  obtain ⟨ys, hJ, _, hjt⟩ := h'
  have hxl := hI.1
  have hyl := hJ.1
  have hm := hI.2.1
  have HX : Hid (IR p w ao n xs ∧ (∀ (j : Nat) (x : Ix) (d : Di), xs[j]? = some x → ds[j]? = some d → It p w x d)) := ⟨hI, hit⟩
  have HY : Hid (IR q w bo n ys ∧ (∀ (j : Nat) (x : Ix) (d : Di), ys[j]? = some x → ds[j]? = some d → It q w x d)) := ⟨hJ, hjt⟩
  clear hI hit hJ hjt
  go_enter Tryd.func68, Tryd.ntmps68
  go_wp2_with fail
  go_loopw [5] (fun iv wr => ∃ k : Nat, k ≤ n ∧ iv = .int .i64 k ∧ Up w wr) (fun iv _ => n - (intOf iv).toNat)
  case atStart => exact ⟨0, by omega, rfl, Up.refl _⟩
  case round =>
    obtain ⟨k, hk, rfl, hu⟩ := hrel
    by_cases hlt : k < n
    · have hltI : (k : Int) < (n : Int) := by omega
      obtain ⟨x, hx⟩ : ∃ x, xs[k]? = some x := ⟨xs[k]'(by omega), List.getElem?_eq_getElem (by omega)⟩
      obtain ⟨y, hy⟩ : ∃ y, ys[k]? = some y := ⟨ys[k]'(by omega), List.getElem?_eq_getElem (by omega)⟩
      obtain ⟨d, hdk⟩ : ∃ d, ds[k]? = some d := ⟨ds[k]'(by omega), List.getElem?_eq_getElem (by omega)⟩
      have hud : Below w.heap.size w wr.drew := hu.drew.bl
      obtain ⟨b1, o1, e1, _, hc1⟩ := (HX.out.1.keep (Kp.up hud)).2.2.2 (by omega)
      obtain ⟨b2, o2, e2, _, hc2⟩ := (HY.out.1.keep (Kp.up hud)).2.2.2 (by omega)
      have i1 := (HX.out.2 k x d hx hdk).keep (Kp.up hud)
      have i2 := (HY.out.2 k y d hy hdk).keep (Kp.up hud)
      have hxy : y.1 = x.1 := by rw [i1.1, i2.1]
      have two : TwoI b1 (o1 + k * 2) b2 (o2 + k * 2) x y (str d.2) wr.drew := ⟨⟨(hc1 k x hx).1, (hc1 k x hx).2, conv_rw i1.2⟩, by rw [← hxy]; exact (hc2 k y hy).1, (hc2 k y hy).2, conv_rw i2.2⟩
      generalize str d.2 = s at two
      subst e1 e2
      clear hx hy hdk hc1 hc2 i1 i2 hxy HX HY hud
      have hk0 : ¬ ((k : Int) < 0) := by omega
      go_wp2_with fail
      refine wp_region_noPanic ?_
      refine wp_region_held_drew (S := fun wx => TwoI b1 (o1 + k * 2) b2 (o2 + k * 2) x y s wx) (by kernel_rfl) two (fun hHeld => ?_)
      refine take_first 0 (v := ?_) rfl (by kernel_rfl) (by kernel_rfl) (by kernel_rfl) (fun _ _ _ h => h) (Or.inl ⟨by rfl, by intro wx hSw; obtain ⟨⟨hSw1, hSw2, hSw3⟩, hSw4, hSw5, hSw6⟩ := hSw; go_simp; try with_reducible rfl⟩) (by assumption) ?_
      (try simp only [Act.put, List.setIfInBounds_toArray, List.set_cons_zero, List.set_cons_succ])
      refine take_first 1 (v := ?_) rfl (by kernel_rfl) (by kernel_rfl) (by kernel_rfl) (fun _ _ _ h => h) (Or.inl ⟨by rfl, by intro wx hSw; obtain ⟨⟨hSw1, hSw2, hSw3⟩, hSw4, hSw5, hSw6⟩ := hSw; go_simp; try with_reducible rfl⟩) (by assumption) ?_
      (try simp only [Act.put, List.setIfInBounds_toArray, List.set_cons_zero, List.set_cons_succ])
      refine take_first 2 (v := ?_) rfl (by kernel_rfl) (by kernel_rfl) (by kernel_rfl) (fun _ _ _ h => h) (Or.inl ⟨by rfl, by intro wx hSw; obtain ⟨⟨hSw1, hSw2, hSw3⟩, hSw4, hSw5, hSw6⟩ := hSw; go_simp; try with_reducible rfl⟩) (by assumption) ?_
      (try simp only [Act.put, List.setIfInBounds_toArray, List.set_cons_zero, List.set_cons_succ])
      refine take_first 3 (v := ?_) rfl (by kernel_rfl) (by kernel_rfl) (by kernel_rfl) (fun _ _ _ h => h) (Or.inl ⟨by rfl, by intro wx hSw; obtain ⟨⟨hSw1, hSw2, hSw3⟩, hSw4, hSw5, hSw6⟩ := hSw; go_simp; try with_reducible rfl⟩) (by assumption) ?_
      (try simp only [Act.put, List.setIfInBounds_toArray, List.set_cons_zero, List.set_cons_succ])
      refine take_first 4 (v := ?_) rfl (by kernel_rfl) (by kernel_rfl) (by kernel_rfl) (fun _ _ _ h => h) (Or.inl ⟨by rfl, by intro wx hSw; obtain ⟨⟨hSw1, hSw2, hSw3⟩, hSw4, hSw5, hSw6⟩ := hSw; go_simp; try with_reducible rfl⟩) (by assumption) ?_
      (try simp only [Act.put, List.setIfInBounds_toArray, List.set_cons_zero, List.set_cons_succ])
      refine take_first 5 (v := ?_) rfl (by kernel_rfl) (by kernel_rfl) (by kernel_rfl) (fun _ _ _ h => h) (Or.inl ⟨by rfl, by intro wx hSw; obtain ⟨⟨hSw1, hSw2, hSw3⟩, hSw4, hSw5, hSw6⟩ := hSw; go_simp; try with_reducible rfl⟩) (by assumption) ?_
      (try simp only [Act.put, List.setIfInBounds_toArray, List.set_cons_zero, List.set_cons_succ])
      refine take_first 6 (v := ?_) rfl (by kernel_rfl) (by kernel_rfl) (by kernel_rfl) (fun _ _ _ h => h) (Or.inl ⟨by rfl, by intro wx hSw; obtain ⟨⟨hSw1, hSw2, hSw3⟩, hSw4, hSw5, hSw6⟩ := hSw; go_simp; try with_reducible rfl⟩) (by assumption) ?_
      (try simp only [Act.put, List.setIfInBounds_toArray, List.set_cons_zero, List.set_cons_succ])
      refine take_first 7 (v := ?_) rfl (by kernel_rfl) (by kernel_rfl) (by kernel_rfl) (fun _ _ _ h => h) (Or.inl ⟨by rfl, by intro wx hSw; obtain ⟨⟨hSw1, hSw2, hSw3⟩, hSw4, hSw5, hSw6⟩ := hSw; go_simp; try with_reducible rfl⟩) (by assumption) ?_
      (try simp only [Act.put, List.setIfInBounds_toArray, List.set_cons_zero, List.set_cons_succ])
      refine take_first 8 (v := ?_) rfl (by kernel_rfl) (by kernel_rfl) (by kernel_rfl) (fun _ _ _ h => h) (Or.inl ⟨by rfl, by intro wx hSw; obtain ⟨⟨hSw1, hSw2, hSw3⟩, hSw4, hSw5, hSw6⟩ := hSw; go_simp; try with_reducible rfl⟩) (by assumption) ?_
      (try simp only [Act.put, List.setIfInBounds_toArray, List.set_cons_zero, List.set_cons_succ])
      refine take_first 9 (v := ?_) rfl (by kernel_rfl) (by kernel_rfl) (by kernel_rfl) (fun _ _ _ h => h) (Or.inl ⟨by rfl, by intro wx hSw; obtain ⟨⟨hSw1, hSw2, hSw3⟩, hSw4, hSw5, hSw6⟩ := hSw; go_simp; try with_reducible rfl⟩) (by assumption) ?_
      (try simp only [Act.put, List.setIfInBounds_toArray, List.set_cons_zero, List.set_cons_succ])
      refine take_first 10 (v := ?_) rfl (by kernel_rfl) (by kernel_rfl) (by kernel_rfl) (fun _ _ _ h => h) (Or.inl ⟨by rfl, by intro wx hSw; obtain ⟨⟨hSw1, hSw2, hSw3⟩, hSw4, hSw5, hSw6⟩ := hSw; go_simp; try with_reducible rfl⟩) (by assumption) ?_
      (try simp only [Act.put, List.setIfInBounds_toArray, List.set_cons_zero, List.set_cons_succ])
      refine take_first 11 (v := ?_) rfl (by kernel_rfl) (by kernel_rfl) (by kernel_rfl) (fun _ _ _ h => h) (Or.inl ⟨by rfl, by intro wx hSw; obtain ⟨⟨hSw1, hSw2, hSw3⟩, hSw4, hSw5, hSw6⟩ := hSw; go_simp; try with_reducible rfl⟩) (by assumption) ?_
      (try simp only [Act.put, List.setIfInBounds_toArray, List.set_cons_zero, List.set_cons_succ])
      refine take_first 12 (v := ?_) rfl (by kernel_rfl) (by kernel_rfl) (by kernel_rfl) (fun _ _ _ h => h) (Or.inl ⟨by rfl, by intro wx hSw; obtain ⟨⟨hSw1, hSw2, hSw3⟩, hSw4, hSw5, hSw6⟩ := hSw; go_simp; try with_reducible rfl⟩) (by assumption) ?_
      (try simp only [Act.put, List.setIfInBounds_toArray, List.set_cons_zero, List.set_cons_succ])
      refine take_first 13 (v := ?_) rfl (by kernel_rfl) (by kernel_rfl) (by kernel_rfl) (fun _ _ _ h => h) (Or.inl ⟨by rfl, by intro wx hSw; obtain ⟨⟨hSw1, hSw2, hSw3⟩, hSw4, hSw5, hSw6⟩ := hSw; go_simp; try with_reducible rfl⟩) (by assumption) ?_
      (try simp only [Act.put, List.setIfInBounds_toArray, List.set_cons_zero, List.set_cons_succ])
      refine take_first 14 (v := ?_) rfl (by kernel_rfl) (by kernel_rfl) (by kernel_rfl) (fun _ _ _ h => h) (Or.inl ⟨by rfl, by intro wx hSw; obtain ⟨⟨hSw1, hSw2, hSw3⟩, hSw4, hSw5, hSw6⟩ := hSw; go_simp; try with_reducible rfl⟩) (by assumption) ?_
      (try simp only [Act.put, List.setIfInBounds_toArray, List.set_cons_zero, List.set_cons_succ])
      refine take_first 15 (v := ?_) rfl (by kernel_rfl) (by kernel_rfl) (by kernel_rfl) (fun _ _ _ h => h) (Or.inl ⟨by rfl, by intro wx hSw; obtain ⟨⟨hSw1, hSw2, hSw3⟩, hSw4, hSw5, hSw6⟩ := hSw; go_simp; try with_reducible rfl⟩) (by assumption) ?_
      (try simp only [Act.put, List.setIfInBounds_toArray, List.set_cons_zero, List.set_cons_succ])
      refine take_first 16 (v := ?_) rfl (by kernel_rfl) (by kernel_rfl) (by kernel_rfl) (fun _ _ _ h => h) (Or.inl ⟨by rfl, by intro wx hSw; obtain ⟨⟨hSw1, hSw2, hSw3⟩, hSw4, hSw5, hSw6⟩ := hSw; go_simp; try with_reducible rfl⟩) (by assumption) ?_
      (try simp only [Act.put, List.setIfInBounds_toArray, List.set_cons_zero, List.set_cons_succ])
      refine take_first 17 (v := ?_) rfl (by kernel_rfl) (by kernel_rfl) (by kernel_rfl) (fun _ _ _ h => h) (Or.inl ⟨by rfl, by intro wx hSw; obtain ⟨⟨hSw1, hSw2, hSw3⟩, hSw4, hSw5, hSw6⟩ := hSw; go_simp; try with_reducible rfl⟩) (by assumption) ?_
      (try simp only [Act.put, List.setIfInBounds_toArray, List.set_cons_zero, List.set_cons_succ])
      refine take_first 18 (v := ?_) rfl (by kernel_rfl) (by kernel_rfl) (by kernel_rfl) (fun _ _ _ h => h) (Or.inl ⟨by rfl, by intro wx hSw; obtain ⟨⟨hSw1, hSw2, hSw3⟩, hSw4, hSw5, hSw6⟩ := hSw; go_simp; try with_reducible rfl⟩) (by assumption) ?_
      (try simp only [Act.put, List.setIfInBounds_toArray, List.set_cons_zero, List.set_cons_succ])
      refine take_first 19 (v := ?_) rfl (by kernel_rfl) (by kernel_rfl) (by kernel_rfl) (fun _ _ _ h => h) (Or.inl ⟨by rfl, by intro wx hSw; obtain ⟨⟨hSw1, hSw2, hSw3⟩, hSw4, hSw5, hSw6⟩ := hSw; go_simp; try with_reducible rfl⟩) (by assumption) ?_
      (try simp only [Act.put, List.setIfInBounds_toArray, List.set_cons_zero, List.set_cons_succ])
      refine take_first 20 (v := ?_) rfl (by kernel_rfl) (by kernel_rfl) (by kernel_rfl) (fun _ _ _ h => h) (Or.inl ⟨by rfl, by intro wx hSw; obtain ⟨⟨hSw1, hSw2, hSw3⟩, hSw4, hSw5, hSw6⟩ := hSw; go_simp; try with_reducible rfl⟩) (by assumption) ?_
      (try simp only [Act.put, List.setIfInBounds_toArray, List.set_cons_zero, List.set_cons_succ])
      refine take_first 21 (v := ?_) rfl (by kernel_rfl) (by kernel_rfl) (by kernel_rfl) (fun _ _ _ h => h) (Or.inl ⟨by rfl, by intro wx hSw; obtain ⟨⟨hSw1, hSw2, hSw3⟩, hSw4, hSw5, hSw6⟩ := hSw; go_simp; try with_reducible rfl⟩) (by assumption) ?_
      (try simp only [Act.put, List.setIfInBounds_toArray, List.set_cons_zero, List.set_cons_succ])
      refine take_first 22 (v := ?_) rfl (by kernel_rfl) (by kernel_rfl) (by kernel_rfl) (fun _ _ _ h => h) (Or.inl ⟨by rfl, by intro wx hSw; obtain ⟨⟨hSw1, hSw2, hSw3⟩, hSw4, hSw5, hSw6⟩ := hSw; go_simp; try with_reducible rfl⟩) (by assumption) ?_
      (try simp only [Act.put, List.setIfInBounds_toArray, List.set_cons_zero, List.set_cons_succ])
      refine take_first 23 (v := ?_) rfl (by kernel_rfl) (by kernel_rfl) (by kernel_rfl) (fun _ _ _ h => h) (Or.inl ⟨by rfl, by intro wx hSw; obtain ⟨⟨hSw1, hSw2, hSw3⟩, hSw4, hSw5, hSw6⟩ := hSw; go_simp; try with_reducible rfl⟩) (by assumption) ?_
      (try simp only [Act.put, List.setIfInBounds_toArray, List.set_cons_zero, List.set_cons_succ])
      refine take_first 24 (v := ?_) rfl (by kernel_rfl) (by kernel_rfl) (by kernel_rfl) (fun _ _ _ h => h) (Or.inl ⟨by rfl, by intro wx hSw; obtain ⟨⟨hSw1, hSw2, hSw3⟩, hSw4, hSw5, hSw6⟩ := hSw; go_simp; try with_reducible rfl⟩) (by assumption) ?_
      (try simp only [Act.put, List.setIfInBounds_toArray, List.set_cons_zero, List.set_cons_succ])
      refine take_first 25 (v := ?_) rfl (by kernel_rfl) (by kernel_rfl) (by kernel_rfl) (fun _ _ _ h => h) (Or.inl ⟨by rfl, by intro wx hSw; obtain ⟨⟨hSw1, hSw2, hSw3⟩, hSw4, hSw5, hSw6⟩ := hSw; go_simp; try with_reducible rfl⟩) (by assumption) ?_
      (try simp only [Act.put, List.setIfInBounds_toArray, List.set_cons_zero, List.set_cons_succ])
      refine wpAnyH_done (by kernel_rfl) ?_ _
      refine NoPanic.normal ?_
      clear two hHeld
      go_wp2
      go_roundw
      case rel => first | exact ⟨k + 1, by omega, by go_num, hu.drew⟩ | ((repeat apply Exists.intro); exact ⟨⟨k + 1, by omega, by go_num, hu.drew⟩, rfl⟩)
      case measure => simp [intOf]; omega
    · obtain rfl : k = n := by omega
      clear HX HY
      go_wp2
      go_ret
      exact ⟨rfl, hu⟩

/-- Two states whose numbers are the same. -/
def TwoS (b1 o1 b2 o2 : Nat) (x y : Sx) (wx : World) : Prop :=
  (wx.cell? ⟨b1, o1, none⟩ = some (.int .u64 (x.1 : Nat)) ∧ wx.cell? ⟨b1, o1 + 1, none⟩ = some (.int .i64 x.2.1) ∧ wx.cell? ⟨b1, o1 + 2, none⟩ = some (.int .i64 x.2.2.1) ∧ wx.cell? ⟨b1, o1 + 3, none⟩ = some (.slice x.2.2.2.1 x.2.2.2.2.1 x.2.2.2.2.2)) ∧
  (wx.cell? ⟨b2, o2, none⟩ = some (.int .u64 (x.1 : Nat)) ∧ wx.cell? ⟨b2, o2 + 1, none⟩ = some (.int .i64 x.2.1) ∧ wx.cell? ⟨b2, o2 + 2, none⟩ = some (.int .i64 x.2.2.1) ∧ wx.cell? ⟨b2, o2 + 3, none⟩ = some (.slice y.2.2.2.1 x.2.2.2.2.1 y.2.2.2.2.2))
theorem TwoS.up {b1 o1 b2 o2 : Nat} {x y : Sx} {w w' : World} (h : TwoS b1 o1 b2 o2 x y w) (u : Up w w') : TwoS b1 o1 b2 o2 x y w' := by
  obtain ⟨⟨h1, h2, h3, h4⟩, h5, h6, h7, h8⟩ := h
  exact ⟨⟨u.cell h1, u.cell h2, u.cell h3, u.cell h4⟩, u.cell h5, u.cell h6, u.cell h7, u.cell h8⟩
/-- Two lists of states of which each has its like's numbers. -/
def Alike (ss ts : List Sx) : Prop := ss.length = ts.length ∧ ∀ (j : Nat) (x y : Sx), ss[j]? = some x → ts[j]? = some y → y.1 = x.1 ∧ y.2.1 = x.2.1 ∧ y.2.2.1 = x.2.2.1
theorem Alike.refl (ss : List Sx) : Alike ss ss := ⟨rfl, fun j x y hx hy => by rw [hx] at hy; cases hy; exact ⟨rfl, rfl, rfl⟩⟩

set_option maxRecDepth 10000 in
set_option maxHeartbeats 4000000 in
theorem same_true (p q : Nat → Prop) (w : World) (ao bo : Option Addr) (n c1 c2 : Nat) (ss ts : List Sx) (es : List (List Di)) (h : Sts p w ao n ss es) (h' : Sts q w bo n ts es) (hal : Alike ss ts) :
    Calls Tryd.prog 37 #[.slice ao n c1, .slice bo n c2] w fun e w' => e = .returned (.bool true) ∧ Up w w' := by
  have hxl := h.1.1
  have hyl := h'.1.1
  have hel := h.2.1
  have hm := h.1.2.1
  have HX : Hid (Sts p w ao n ss es) := h
  have HY : Hid (Sts q w bo n ts es) := h'
  have HA : Hid (Alike ss ts) := hal
  clear h h' hal
  go_enter Tryd.func37, Tryd.ntmps37
  go_wp2_with fail
  go_loopw [5] (fun iv wr => ∃ k : Nat, k ≤ n ∧ iv = .int .i64 k ∧ Up w wr) (fun iv _ => n - (intOf iv).toNat)
  case atStart => exact ⟨0, by omega, rfl, Up.refl _⟩
  case round =>
    obtain ⟨k, hk, rfl, hu⟩ := hrel
    by_cases hlt : k < n
    · have hltI : (k : Int) < (n : Int) := by omega
      obtain ⟨x, hx⟩ : ∃ x, ss[k]? = some x := ⟨ss[k]'(by omega), List.getElem?_eq_getElem (by omega)⟩
      obtain ⟨y, hy⟩ : ∃ y, ts[k]? = some y := ⟨ts[k]'(by omega), List.getElem?_eq_getElem (by omega)⟩
      obtain ⟨e, hek⟩ : ∃ e, es[k]? = some e := ⟨es[k]'(by omega), List.getElem?_eq_getElem (by omega)⟩
      have hud : Below w.heap.size w wr.drew := hu.drew.bl
      obtain ⟨b1, o1, e1, _, hc1⟩ := (HX.out.1.up hud).2.2.2 (by omega)
      obtain ⟨b2, o2, e2, _, hc2⟩ := (HY.out.1.up hud).2.2.2 (by omega)
      have i1 := (HX.out.2.2 k x e hx hek).keep (Kp.up hud)
      have i2 := (HY.out.2.2 k y e hy hek).keep (Kp.up hud)
      obtain ⟨a1, a2, a3⟩ := HA.out.2 k x y hx hy
      have a4 : y.2.2.2.2.1 = x.2.2.2.2.1 := by rw [← i1.len, ← i2.len]
      have two : TwoS b1 (o1 + k * 4) b2 (o2 + k * 4) x y wr.drew ∧ Its p wr.drew x.2.2.2.1 x.2.2.2.2.1 e ∧ Its q wr.drew y.2.2.2.1 x.2.2.2.2.1 e := by
        refine ⟨⟨hc1 k x hx, ?_⟩, i1, by rw [← a4]; exact i2⟩
        have := hc2 k y hy
        rw [a1, a2, a3, a4] at this
        exact this
      have heq := fun W => vid_equal x.1 x.2.1 x.1 x.2.1 W
      rw [show decide (x.1 = x.1 ∧ x.2.1 = x.2.1) = true by simp] at heq
      subst e1 e2
      clear hx hy hek hc1 hc2 i1 i2 a1 a2 a3 a4 HX HY HA hud
      have hk0 : ¬ ((k : Int) < 0) := by omega
      have hud := hu.drew
      go_wp2_with fail
      refine wp_region_noPanic ?_
      refine wp_region_held_drew (S := fun wx => TwoS b1 (o1 + k * 4) b2 (o2 + k * 4) x y wx ∧ Its p wx x.2.2.2.1 x.2.2.2.2.1 e ∧ Its q wx y.2.2.2.1 x.2.2.2.2.1 e) (by kernel_rfl) two (fun hHeld => ?_)
      refine take_first 0 (v := ?_) rfl (by kernel_rfl) (by kernel_rfl) (by kernel_rfl) (fun _ _ _ h => h) (Or.inl ⟨by rfl, by intro wx hSw; obtain ⟨⟨⟨hSw1, hSw2, hSw3, hSw4⟩, hSw5, hSw6, hSw7, hSw8⟩, hSw9⟩ := hSw; go_simp; try with_reducible rfl⟩) (by assumption) ?_
      (try simp only [Act.put, List.setIfInBounds_toArray, List.set_cons_zero, List.set_cons_succ])
      refine take_first 1 (v := ?_) rfl (by kernel_rfl) (by kernel_rfl) (by kernel_rfl) (fun _ _ _ h => h) (Or.inl ⟨by rfl, by intro wx hSw; obtain ⟨⟨⟨hSw1, hSw2, hSw3, hSw4⟩, hSw5, hSw6, hSw7, hSw8⟩, hSw9⟩ := hSw; go_simp; try with_reducible rfl⟩) (by assumption) ?_
      (try simp only [Act.put, List.setIfInBounds_toArray, List.set_cons_zero, List.set_cons_succ])
      refine take_first 2 (v := ?_) rfl (by kernel_rfl) (by kernel_rfl) (by kernel_rfl) (fun _ _ _ h => h) (Or.inl ⟨by rfl, by intro wx hSw; obtain ⟨⟨⟨hSw1, hSw2, hSw3, hSw4⟩, hSw5, hSw6, hSw7, hSw8⟩, hSw9⟩ := hSw; go_simp; try with_reducible rfl⟩) (by assumption) ?_
      (try simp only [Act.put, List.setIfInBounds_toArray, List.set_cons_zero, List.set_cons_succ])
      refine take_first 3 (v := ?_) rfl (by kernel_rfl) (by kernel_rfl) (by kernel_rfl) (fun _ _ _ h => h) (Or.inl ⟨by rfl, by intro wx hSw; obtain ⟨⟨⟨hSw1, hSw2, hSw3, hSw4⟩, hSw5, hSw6, hSw7, hSw8⟩, hSw9⟩ := hSw; go_simp; try with_reducible rfl⟩) (by assumption) ?_
      (try simp only [Act.put, List.setIfInBounds_toArray, List.set_cons_zero, List.set_cons_succ])
      refine take_first 4 (v := ?_) rfl (by kernel_rfl) (by kernel_rfl) (by kernel_rfl) (fun _ _ _ h => h) (Or.inl ⟨by rfl, by intro wx hSw; obtain ⟨⟨⟨hSw1, hSw2, hSw3, hSw4⟩, hSw5, hSw6, hSw7, hSw8⟩, hSw9⟩ := hSw; go_simp; try with_reducible rfl⟩) (by assumption) ?_
      (try simp only [Act.put, List.setIfInBounds_toArray, List.set_cons_zero, List.set_cons_succ])
      refine take_first 5 (v := ?_) rfl (by kernel_rfl) (by kernel_rfl) (by kernel_rfl) (fun _ _ _ h => h) (Or.inl ⟨by rfl, by intro wx hSw; obtain ⟨⟨⟨hSw1, hSw2, hSw3, hSw4⟩, hSw5, hSw6, hSw7, hSw8⟩, hSw9⟩ := hSw; go_simp; try with_reducible rfl⟩) (by assumption) ?_
      (try simp only [Act.put, List.setIfInBounds_toArray, List.set_cons_zero, List.set_cons_succ])
      refine take_first 6 (v := ?_) rfl (by kernel_rfl) (by kernel_rfl) (by kernel_rfl) (fun _ _ _ h => h) (Or.inl ⟨by rfl, by intro wx hSw; obtain ⟨⟨⟨hSw1, hSw2, hSw3, hSw4⟩, hSw5, hSw6, hSw7, hSw8⟩, hSw9⟩ := hSw; go_simp; try with_reducible rfl⟩) (by assumption) ?_
      (try simp only [Act.put, List.setIfInBounds_toArray, List.set_cons_zero, List.set_cons_succ])
      refine take_first 7 (v := ?_) rfl (by kernel_rfl) (by kernel_rfl) (by kernel_rfl) (fun _ _ _ h => h) (Or.inl ⟨by rfl, by intro wx hSw; obtain ⟨⟨⟨hSw1, hSw2, hSw3, hSw4⟩, hSw5, hSw6, hSw7, hSw8⟩, hSw9⟩ := hSw; go_simp; try with_reducible rfl⟩) (by assumption) ?_
      (try simp only [Act.put, List.setIfInBounds_toArray, List.set_cons_zero, List.set_cons_succ])
      refine take_first 8 (v := ?_) rfl (by kernel_rfl) (by kernel_rfl) (by kernel_rfl) (fun _ _ _ h => h) (Or.inl ⟨by rfl, by intro wx hSw; obtain ⟨⟨⟨hSw1, hSw2, hSw3, hSw4⟩, hSw5, hSw6, hSw7, hSw8⟩, hSw9⟩ := hSw; go_simp; try with_reducible rfl⟩) (by assumption) ?_
      (try simp only [Act.put, List.setIfInBounds_toArray, List.set_cons_zero, List.set_cons_succ])
      refine take_first 9 (v := ?_) rfl (by kernel_rfl) (by kernel_rfl) (by kernel_rfl) (fun _ _ _ h => h) (Or.inl ⟨by rfl, by intro wx hSw; obtain ⟨⟨⟨hSw1, hSw2, hSw3, hSw4⟩, hSw5, hSw6, hSw7, hSw8⟩, hSw9⟩ := hSw; go_simp; try with_reducible rfl⟩) (by assumption) ?_
      (try simp only [Act.put, List.setIfInBounds_toArray, List.set_cons_zero, List.set_cons_succ])
      refine take_first 10 (v := ?_) rfl (by kernel_rfl) (by kernel_rfl) (by kernel_rfl) (fun _ _ _ h => h) (Or.inl ⟨by rfl, by intro wx hSw; obtain ⟨⟨⟨hSw1, hSw2, hSw3, hSw4⟩, hSw5, hSw6, hSw7, hSw8⟩, hSw9⟩ := hSw; go_simp; try with_reducible rfl⟩) (by assumption) ?_
      (try simp only [Act.put, List.setIfInBounds_toArray, List.set_cons_zero, List.set_cons_succ])
      refine take_first 11 (v := ?_) rfl (by kernel_rfl) (by kernel_rfl) (by kernel_rfl) (fun _ _ _ h => h) (Or.inl ⟨by rfl, by intro wx hSw; obtain ⟨⟨⟨hSw1, hSw2, hSw3, hSw4⟩, hSw5, hSw6, hSw7, hSw8⟩, hSw9⟩ := hSw; go_simp; try with_reducible rfl⟩) (by assumption) ?_
      (try simp only [Act.put, List.setIfInBounds_toArray, List.set_cons_zero, List.set_cons_succ])
      refine take_first 12 (v := ?_) rfl (by kernel_rfl) (by kernel_rfl) (by kernel_rfl) (fun _ _ _ h => h) (Or.inl ⟨by rfl, by intro wx hSw; obtain ⟨⟨⟨hSw1, hSw2, hSw3, hSw4⟩, hSw5, hSw6, hSw7, hSw8⟩, hSw9⟩ := hSw; go_simp; try with_reducible rfl⟩) (by assumption) ?_
      (try simp only [Act.put, List.setIfInBounds_toArray, List.set_cons_zero, List.set_cons_succ])
      refine take_first 13 (v := ?_) rfl (by kernel_rfl) (by kernel_rfl) (by kernel_rfl) (fun _ _ _ h => h) (Or.inl ⟨by rfl, by intro wx hSw; obtain ⟨⟨⟨hSw1, hSw2, hSw3, hSw4⟩, hSw5, hSw6, hSw7, hSw8⟩, hSw9⟩ := hSw; go_simp; try with_reducible rfl⟩) (by assumption) ?_
      (try simp only [Act.put, List.setIfInBounds_toArray, List.set_cons_zero, List.set_cons_succ])
      refine take_first 14 (v := ?_) rfl (by kernel_rfl) (by kernel_rfl) (by kernel_rfl) (fun _ _ _ h => h) (Or.inl ⟨by rfl, by intro wx hSw; obtain ⟨⟨⟨hSw1, hSw2, hSw3, hSw4⟩, hSw5, hSw6, hSw7, hSw8⟩, hSw9⟩ := hSw; go_simp; try with_reducible rfl⟩) (by assumption) ?_
      (try simp only [Act.put, List.setIfInBounds_toArray, List.set_cons_zero, List.set_cons_succ])
      refine take_first 15 (v := ?_) rfl (by kernel_rfl) (by kernel_rfl) (by kernel_rfl) (fun _ _ _ h => h) (Or.inl ⟨by rfl, by intro wx hSw; obtain ⟨⟨⟨hSw1, hSw2, hSw3, hSw4⟩, hSw5, hSw6, hSw7, hSw8⟩, hSw9⟩ := hSw; go_simp; try with_reducible rfl⟩) (by assumption) ?_
      (try simp only [Act.put, List.setIfInBounds_toArray, List.set_cons_zero, List.set_cons_succ])
      refine take_first 16 (v := ?_) rfl (by kernel_rfl) (by kernel_rfl) (by kernel_rfl) (fun _ _ _ h => h) (Or.inl ⟨by rfl, by intro wx hSw; obtain ⟨⟨⟨hSw1, hSw2, hSw3, hSw4⟩, hSw5, hSw6, hSw7, hSw8⟩, hSw9⟩ := hSw; go_simp; try with_reducible rfl⟩) (by assumption) ?_
      (try simp only [Act.put, List.setIfInBounds_toArray, List.set_cons_zero, List.set_cons_succ])
      refine take_first 17 (v := ?_) rfl (by kernel_rfl) (by kernel_rfl) (by kernel_rfl) (fun _ _ _ h => h) (Or.inl ⟨by rfl, by intro wx hSw; obtain ⟨⟨⟨hSw1, hSw2, hSw3, hSw4⟩, hSw5, hSw6, hSw7, hSw8⟩, hSw9⟩ := hSw; go_simp; try with_reducible rfl⟩) (by assumption) ?_
      (try simp only [Act.put, List.setIfInBounds_toArray, List.set_cons_zero, List.set_cons_succ])
      refine take_first 18 (v := ?_) rfl (by kernel_rfl) (by kernel_rfl) (by kernel_rfl) (fun _ _ _ h => h) (Or.inl ⟨by rfl, by intro wx hSw; obtain ⟨⟨⟨hSw1, hSw2, hSw3, hSw4⟩, hSw5, hSw6, hSw7, hSw8⟩, hSw9⟩ := hSw; go_simp; try with_reducible rfl⟩) (by assumption) ?_
      (try simp only [Act.put, List.setIfInBounds_toArray, List.set_cons_zero, List.set_cons_succ])
      refine take_first 19 (v := ?_) rfl (by kernel_rfl) (by kernel_rfl) (by kernel_rfl) (fun _ _ _ h => h) (Or.inl ⟨by rfl, by intro wx hSw; obtain ⟨⟨⟨hSw1, hSw2, hSw3, hSw4⟩, hSw5, hSw6, hSw7, hSw8⟩, hSw9⟩ := hSw; go_simp; try with_reducible rfl⟩) (by assumption) ?_
      (try simp only [Act.put, List.setIfInBounds_toArray, List.set_cons_zero, List.set_cons_succ])
      refine take_first 20 (v := ?_) rfl (by kernel_rfl) (by kernel_rfl) (by kernel_rfl) (fun _ _ _ h => h) (Or.inl ⟨by rfl, by intro wx hSw; obtain ⟨⟨⟨hSw1, hSw2, hSw3, hSw4⟩, hSw5, hSw6, hSw7, hSw8⟩, hSw9⟩ := hSw; go_simp; try with_reducible rfl⟩) (by assumption) ?_
      (try simp only [Act.put, List.setIfInBounds_toArray, List.set_cons_zero, List.set_cons_succ])
      refine take_first 21 (v := ?_) rfl (by kernel_rfl) (by kernel_rfl) (by kernel_rfl) (fun _ _ _ h => h) (Or.inl ⟨by rfl, by intro wx hSw; obtain ⟨⟨⟨hSw1, hSw2, hSw3, hSw4⟩, hSw5, hSw6, hSw7, hSw8⟩, hSw9⟩ := hSw; go_simp; try with_reducible rfl⟩) (by assumption) ?_
      (try simp only [Act.put, List.setIfInBounds_toArray, List.set_cons_zero, List.set_cons_succ])
      refine take_first 22 (v := ?_) rfl (by kernel_rfl) (by kernel_rfl) (by kernel_rfl) (fun _ _ _ h => h) (Or.inl ⟨by rfl, by intro wx hSw; obtain ⟨⟨⟨hSw1, hSw2, hSw3, hSw4⟩, hSw5, hSw6, hSw7, hSw8⟩, hSw9⟩ := hSw; go_simp; try with_reducible rfl⟩) (by assumption) ?_
      (try simp only [Act.put, List.setIfInBounds_toArray, List.set_cons_zero, List.set_cons_succ])
      refine take_first 23 (v := ?_) rfl (by kernel_rfl) (by kernel_rfl) (by kernel_rfl) (fun _ _ _ h => h) (Or.inl ⟨by rfl, by intro wx hSw; obtain ⟨⟨⟨hSw1, hSw2, hSw3, hSw4⟩, hSw5, hSw6, hSw7, hSw8⟩, hSw9⟩ := hSw; go_simp; try with_reducible rfl⟩) (by assumption) ?_
      (try simp only [Act.put, List.setIfInBounds_toArray, List.set_cons_zero, List.set_cons_succ])
      refine take_first 24 (v := ?_) rfl (by kernel_rfl) (by kernel_rfl) (by kernel_rfl) (fun _ _ _ h => h) (Or.inl ⟨by rfl, by intro wx hSw; obtain ⟨⟨⟨hSw1, hSw2, hSw3, hSw4⟩, hSw5, hSw6, hSw7, hSw8⟩, hSw9⟩ := hSw; go_simp; try with_reducible rfl⟩) (by assumption) ?_
      (try simp only [Act.put, List.setIfInBounds_toArray, List.set_cons_zero, List.set_cons_succ])
      refine take_first 25 (v := ?_) rfl (by kernel_rfl) (by kernel_rfl) (by kernel_rfl) (fun _ _ _ h => h) (Or.inl ⟨by rfl, by intro wx hSw; obtain ⟨⟨⟨hSw1, hSw2, hSw3, hSw4⟩, hSw5, hSw6, hSw7, hSw8⟩, hSw9⟩ := hSw; go_simp; try with_reducible rfl⟩) (by assumption) ?_
      (try simp only [Act.put, List.setIfInBounds_toArray, List.set_cons_zero, List.set_cons_succ])
      refine take_first 26 (v := ?_) rfl (by kernel_rfl) (by kernel_rfl) (by kernel_rfl) (fun _ _ _ h => h) (Or.inl ⟨by rfl, by intro wx hSw; obtain ⟨⟨⟨hSw1, hSw2, hSw3, hSw4⟩, hSw5, hSw6, hSw7, hSw8⟩, hSw9⟩ := hSw; go_simp; try with_reducible rfl⟩) (by assumption) ?_
      (try simp only [Act.put, List.setIfInBounds_toArray, List.set_cons_zero, List.set_cons_succ])
      refine take_first 27 (v := ?_) rfl (by kernel_rfl) (by kernel_rfl) (by kernel_rfl) (fun _ _ _ h => h) (Or.inl ⟨by rfl, by intro wx hSw; obtain ⟨⟨⟨hSw1, hSw2, hSw3, hSw4⟩, hSw5, hSw6, hSw7, hSw8⟩, hSw9⟩ := hSw; go_simp; try with_reducible rfl⟩) (by assumption) ?_
      (try simp only [Act.put, List.setIfInBounds_toArray, List.set_cons_zero, List.set_cons_succ])
      refine take_first 28 (v := ?_) rfl (by kernel_rfl) (by kernel_rfl) (by kernel_rfl) (fun _ _ _ h => h) (Or.inl ⟨by rfl, by intro wx hSw; obtain ⟨⟨⟨hSw1, hSw2, hSw3, hSw4⟩, hSw5, hSw6, hSw7, hSw8⟩, hSw9⟩ := hSw; go_simp; try with_reducible rfl⟩) (by assumption) ?_
      (try simp only [Act.put, List.setIfInBounds_toArray, List.set_cons_zero, List.set_cons_succ])
      refine take_first 29 (v := ?_) rfl (by kernel_rfl) (by kernel_rfl) (by kernel_rfl) (fun _ _ _ h => h) (Or.inl ⟨by rfl, by intro wx hSw; obtain ⟨⟨⟨hSw1, hSw2, hSw3, hSw4⟩, hSw5, hSw6, hSw7, hSw8⟩, hSw9⟩ := hSw; go_simp; try with_reducible rfl⟩) (by assumption) ?_
      (try simp only [Act.put, List.setIfInBounds_toArray, List.set_cons_zero, List.set_cons_succ])
      refine take_first 30 (v := ?_) rfl (by kernel_rfl) (by kernel_rfl) (by kernel_rfl) (fun _ _ _ h => h) (Or.inl ⟨by rfl, by intro wx hSw; obtain ⟨⟨⟨hSw1, hSw2, hSw3, hSw4⟩, hSw5, hSw6, hSw7, hSw8⟩, hSw9⟩ := hSw; go_simp; try with_reducible rfl⟩) (by assumption) ?_
      (try simp only [Act.put, List.setIfInBounds_toArray, List.set_cons_zero, List.set_cons_succ])
      refine take_first 31 (v := ?_) rfl (by kernel_rfl) (by kernel_rfl) (by kernel_rfl) (fun _ _ _ h => h) (Or.inl ⟨by rfl, by intro wx hSw; obtain ⟨⟨⟨hSw1, hSw2, hSw3, hSw4⟩, hSw5, hSw6, hSw7, hSw8⟩, hSw9⟩ := hSw; go_simp; try with_reducible rfl⟩) (by assumption) ?_
      (try simp only [Act.put, List.setIfInBounds_toArray, List.set_cons_zero, List.set_cons_succ])
      refine take_first 32 (v := ?_) rfl (by kernel_rfl) (by kernel_rfl) (by kernel_rfl) (fun _ _ _ h => h) (Or.inl ⟨by rfl, by intro wx hSw; obtain ⟨⟨⟨hSw1, hSw2, hSw3, hSw4⟩, hSw5, hSw6, hSw7, hSw8⟩, hSw9⟩ := hSw; go_simp; try with_reducible rfl⟩) (by assumption) ?_
      (try simp only [Act.put, List.setIfInBounds_toArray, List.set_cons_zero, List.set_cons_succ])
      refine take_first 33 (v := ?_) rfl (by kernel_rfl) (by kernel_rfl) (by kernel_rfl) (fun _ _ _ h => h) (Or.inl ⟨by rfl, by intro wx hSw; obtain ⟨⟨⟨hSw1, hSw2, hSw3, hSw4⟩, hSw5, hSw6, hSw7, hSw8⟩, hSw9⟩ := hSw; go_simp; try with_reducible rfl⟩) (by assumption) ?_
      (try simp only [Act.put, List.setIfInBounds_toArray, List.set_cons_zero, List.set_cons_succ])
      refine take_first 34 (v := ?_) rfl (by kernel_rfl) (by kernel_rfl) (by kernel_rfl) (fun _ _ _ h => h) (Or.inl ⟨by rfl, by intro wx hSw; obtain ⟨⟨⟨hSw1, hSw2, hSw3, hSw4⟩, hSw5, hSw6, hSw7, hSw8⟩, hSw9⟩ := hSw; go_simp; try with_reducible rfl⟩) (by assumption) ?_
      (try simp only [Act.put, List.setIfInBounds_toArray, List.set_cons_zero, List.set_cons_succ])
      refine comes_up 35 rfl (by kernel_rfl) (fun K hK => ?_)
      go_simp
      refine (items_true p q _ _ _ _ _ _ e hHeld.2.1 hHeld.2.2).mono ?_
      rintro e' w1 ⟨rfl, hup⟩
      have two1 : TwoS b1 (o1 + k * 4) b2 (o2 + k * 4) x y w1 ∧ Its p w1 x.2.2.2.1 x.2.2.2.2.1 e ∧ Its q w1 y.2.2.2.1 x.2.2.2.2.1 e := ⟨hHeld.1.up hup, hHeld.2.1.keep (Kp.up hup.bl), hHeld.2.2.keep (Kp.up hup.bl)⟩
      have hu1 := hud.trans hup
      clear two hHeld hup hud
      go_wp2_with fail
      refine hK.out _ _ two1 (fun hHeld => ?_)
      clear hK K
      (try simp only [Act.put, List.setIfInBounds_toArray, List.set_cons_zero, List.set_cons_succ])
      refine take_first 36 (v := ?_) rfl (by kernel_rfl) (by kernel_rfl) (by kernel_rfl) (fun _ _ _ h => h) (Or.inl ⟨by rfl, by intro wx hSw; obtain ⟨⟨⟨hSw1, hSw2, hSw3, hSw4⟩, hSw5, hSw6, hSw7, hSw8⟩, hSw9⟩ := hSw; go_simp; try with_reducible rfl⟩) (by assumption) ?_
      (try simp only [Act.put, List.setIfInBounds_toArray, List.set_cons_zero, List.set_cons_succ])
      refine take_first 37 (v := ?_) rfl (by kernel_rfl) (by kernel_rfl) (by kernel_rfl) (fun _ _ _ h => h) (Or.inl ⟨by rfl, by intro wx hSw; obtain ⟨⟨⟨hSw1, hSw2, hSw3, hSw4⟩, hSw5, hSw6, hSw7, hSw8⟩, hSw9⟩ := hSw; go_simp; try with_reducible rfl⟩) (by assumption) ?_
      (try simp only [Act.put, List.setIfInBounds_toArray, List.set_cons_zero, List.set_cons_succ])
      refine wpAnyH_done (by kernel_rfl) ?_ _
      refine NoPanic.normal ?_
      clear two1 hHeld heq
      go_wp2
      go_roundw
      case rel => first | exact ⟨k + 1, by omega, by go_num, hu1⟩ | ((repeat apply Exists.intro); exact ⟨⟨k + 1, by omega, by go_num, hu1⟩, rfl⟩)
      case measure => simp [intOf]; omega
    · obtain rfl : k = n := by omega
      clear HX HY HA
      go_wp2
      go_ret
      exact ⟨rfl, hu⟩
end Go.Proofs.YtlonbbepoamnmaaDoor
