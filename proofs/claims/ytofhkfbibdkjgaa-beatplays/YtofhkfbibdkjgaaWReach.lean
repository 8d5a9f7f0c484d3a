/-
  The wheel's call reached: the timers of the slots that the tick has come to, and these slots empty.
-/
import Derived.Test.YtofhkfbibdkjgaaWRemove
import Derived.Laws.AppendOwnNone
namespace Go.Proofs.Ytofhkfbibdkjgaa
open Go.RowKit
set_option linter.unusedVariables false

/-- Any row behind a row of one's own. -/
theorem wpList_append_rows {P : Program} {w : World} {ops : Array Oper} {rest : List Oper} {o : Oper} {a : Act} {Q : Exit → Act → World → Prop} (hgd : o.guard = none) (s x : Operand) (t : TypeId)
    (ho : o.op = .call { callee := .builtin .append, args := #[s, x], argTypes := #[t, t] })
    (base : Nat) (e : TypeId) (i : TypeInfo) (z : Value) (size bytes : Nat) (ht : P.underlying t = some (.slice e)) (hi : P.info? e = some i) (hz : i.zero = some z)
    (hsize : i.size = size) (hby : i.bytes = bytes) (hzs : z.cells.size = size) (hsz : 0 < size)
    (v : Value) (n : Nat) (xs : List Value) (hs : a.eval s = v) (hown : w.ownsRow base e size v n xs)
    (u : Value) (m : Nat) (news : List Value) (hx : a.eval x = u) (hu : w.ownsRow 0 e size u m news) (h1 : ∀ u ∈ news, u.oneCell' = true)
    (h63 : n + m ≤ maxLen) (hbytes : (n + m) * bytes ≤ 140737488355328) (hbase : base ≤ w.heap.size)
    (h : ∀ v' w', w'.ownsRow base e size v' (n + m) (xs ++ news) → w.grownBy w' v.ownBlock → wpList P ops Q rest (a.put o.dst v') w') :
    wpList P ops Q (o :: rest) a w := by
  rcases hu.2 with ⟨rfl, rfl⟩ | ⟨g, cap, cur, rfl, hg⟩
  · have h0 : news = [] := by have := hu.1; simpa using this
    subst h0
    refine wpList_append_own_none hgd s x t ho base e i size ht hi v n xs hs hown hx ?_
    refine h v w (by simpa using hown) ⟨rfl, rfl, rfl, Nat.le_refl _, fun _ _ _ => rfl⟩
  · refine wpList_append_own_at _ hgd s x t ho base e i z size bytes ht hi hz hsize hby hzs hsz v n xs hs hown ⟨g, 0, none⟩ m cap news hx hu.1 ?_ h1 h63 hbytes hbase (fun v' w' a b _ _ => h v' w' a b)
    intro j y hj
    exact hu.cells (g := g) rfl j y hj

def flat (now : Nat) (S : Nat → List Int) : Nat → List Int
  | 0 => []
  | c + 1 => flat now S c ++ S (16 * c + dig now c)
def cleared (now : Nat) (S : Nat → List Int) : Nat → Nat → List Int
  | 0 => S
  | c + 1 => put (cleared now S c) (16 * c + dig now c) []
theorem cleared_above (now : Nat) (S : Nat → List Int) : ∀ c k, 16 * c ≤ k → cleared now S c k = S k
  | 0, _, _ => rfl
  | c + 1, k, h => by
    have := dig_lt now c
    rw [cleared, put_other _ _ (by omega), cleared_above now S c k (by omega)]
theorem flat_length (now : Nat) (S : Nat → List Int) (B : Nat) (h : ∀ k, k < 256 → (S k).length < B) : ∀ c, c ≤ 16 → (flat now S c).length ≤ c * B
  | 0, _ => by simp [flat]
  | c + 1, hc => by
    have hd := dig_lt now c
    have h1 : (flat now S (c + 1)).length = (flat now S c).length + (S (16 * c + dig now c)).length := by simp [flat]
    rw [h1, Nat.add_mul, Nat.one_mul]
    exact Nat.add_le_add (flat_length now S B h c (by omega)) (Nat.le_of_lt (h _ (by omega)))

theorem dig_lt_idx {c d : Nat} (hc : c < 16) (hd : d < 16) : 16 * c + d < 256 := by omega

set_option maxRecDepth 20000 in
set_option maxHeartbeats 1000000 in
theorem reached_any (w : World) (p m : Nat) (V : Nat → Value) (now arms n : Nat) (T : Int → Option Tm) (S : Nat → List Int) (h : Rep w p m V now arms n T S) (hnow : now < 18446744073709551616)
    (hl : ∀ k, k < 256 → (S k).length < 1099511627776) :
    Calls Try.prog 27 #[.pointer (some ⟨p, 0, none⟩)] w fun e w' => ∃ z v V', e = .returned v ∧ z ≤ 16 ∧ (∀ l, l + 1 < z → dig now l = 0) ∧ (z = 16 ∨ 0 < z ∧ dig now (z - 1) ≠ 0) ∧
      w'.ownsRow w.heap.size 3 1 v (flat now S z).length ((flat now S z).map (Value.int .i64)) ∧ Rep w' p m V' now arms n T (cleared now S z) ∧ Goes p m V w V' w' ∧ (∀ b, Foot p m V' b → b < w.heap.size) := by
  obtain ⟨i0, hi0, hz0, hz1, hz2⟩ := info_parts info3
  have hflat := flat_length now S _ hl
  have hB := h.foot_lt
  have HB : Hid (∀ b, Foot p m V b → b < w.heap.size) := hB
  have HF : Hid (∀ c, c ≤ 16 → (flat now S c).length ≤ c * 1099511627776) := hflat
  have HL : Hid (∀ k, k < 256 → (S k).length < 1099511627776) := hl
  have H : Hid (Rep w p m V now arms n T S) := h
  clear hB hflat hl h
  go_enter Try.func27, Try.ntmps27
  go_wp2
  go_loopw [3, 6] (fun v i wr => ∃ c V', c ≤ 16 ∧ i = .int .i64 (c : Nat) ∧ (∀ l, l < c → dig now l = 0) ∧ wr.ownsRow w.heap.size 3 1 v (flat now S c).length ((flat now S c).map (Value.int .i64)) ∧
    Rep wr p m V' now arms n T (cleared now S c) ∧ Goes p m V w V' wr ∧ (∀ b, Foot p m V' b → b < w.heap.size)) (fun _ i _ => 16 - (intOf i).toNat)
  case atStart => exact ⟨0, V, by omega, rfl, by omega, ⟨rfl, .inl ⟨rfl, rfl⟩⟩, H.out, Goes.refl _ _ _ _, HB.out⟩
  case round =>
    obtain ⟨c, V', hc, rfl, hz, hown, hrep, hgo, hft⟩ := hrel
    by_cases hc16 : c = 16
    · subst hc16
      have HE : Hid ((∀ l, l < 16 → dig now l = 0) ∧ wr.ownsRow w.heap.size 3 1 u3 (flat now S 16).length ((flat now S 16).map (Value.int .i64)) ∧ Rep wr p m V' now arms n T (cleared now S 16) ∧ Goes p m V w V' wr ∧ (∀ b, Foot p m V' b → b < w.heap.size)) := ⟨hz, hown, hrep, hgo, hft⟩
      clear hz hown hrep hgo hft
      go_wp2
      go_ret
      exact ⟨16, _, V', rfl, by omega, fun l hl => HE.out.1 l (by omega), .inl rfl, HE.out.2.1, HE.out.2.2.1, HE.out.2.2.2.1, HE.out.2.2.2.2⟩
    · have hdl := dig_lt now c
      have HD := digit_any wr now c hnow (by omega)
      have hk := dig_lt_idx (show c < 16 by omega) hdl
      have hab := cleared_above now S c (16 * c + dig now c) (by omega)
      have hrow := hrep.rows _ hk
      have hck := hrep.cs _ hk
      have hlen := HF.out (c + 1) (by omega)
      have hlk := HL.out (16 * c + dig now c) hk
      rw [hab] at hrow
      rw [flat, List.length_append] at hlen
      have HFL : Hid (flat now S (c + 1) = flat now S c ++ S (16 * c + dig now c)) := rfl
      have HCL : Hid (cleared now S (c + 1) = put (cleared now S c) (16 * c + dig now c) []) := rfl
      have HZ : Hid (∀ l, l < c → dig now l = 0) := hz
      have HDG : Hid (dig now c = dig now c) := rfl
      obtain ⟨d, hd⟩ : ∃ d, dig now c = d := ⟨_, rfl⟩
      have HDD : Hid (dig now c = d) := hd
      rw [hd] at HD hdl hk hab hrow hck hlen hlk HFL HCL
      obtain ⟨k, hkd⟩ : ∃ k, 16 * c + d = k := ⟨_, rfl⟩
      rw [hkd] at hk hab hrow hck hlen hlk HFL HCL
      have hc0 := hrep.c0
      have hck' : wr.cell? ⟨p, 3 + c * 16 + d, none⟩ = some (V' k) := by rw [show 3 + c * 16 + d = 3 + k by omega]; exact hck
      have hsz : w.heap.size ≤ wr.heap.size := hgo.turned.size
      have HR : Hid (Rep wr p m V' now arms n T (cleared now S c)) := hrep
      have HG : Hid (Goes p m V w V' wr) := hgo
      have HFT : Hid (∀ b, Foot p m V' b → b < w.heap.size) := hft
      clear hz hrep hgo hft hck hd hab HDG
      generalize hxs : flat now S c = xs at *
      generalize hys : S k = ys at *
      obtain ⟨X, HX⟩ : ∃ X, Hid (xs.length = X) := ⟨_, rfl⟩
      obtain ⟨Y, HY⟩ : ∃ Y, Hid (ys.length = Y) := ⟨_, rfl⟩
      have hx' := HX.out
      have hy' := HY.out
      rw [hx'] at hown hlen
      rw [hy'] at hrow hlk hlen
      clear hx' hy'
      obtain ⟨ao, cap, hv, _, _⟩ := row_shape hrow
      have HV : Hid (V' k = .slice ao Y cap) := hv
      rw [hv] at hrow hck'
      clear hv
      obtain ⟨ao3, cap3, rfl, _, _⟩ := row_shape hown
      go_wp2_with (first | (go_at_call 32; refine HD.mono ?_; rintro e w' ⟨rfl, rfl⟩) | (at_builtin; refine wpList_append_rows rfl _ _ 36 rfl w.heap.size 3 i0 (.int .i64 0) 1 8 und39 hi0 hz0 hz1 hz2 rfl (by decide) (.slice ao3 X cap3) X (xs.map (Value.int .i64)) rfl hown (.slice ao Y cap) Y (ys.map (Value.int .i64)) rfl hrow (ints_one ys) ?d6 ?d7 hsz ?_))
      case d6 => unfold maxLen; omega
      case d7 => omega
      intro v' w1 hown1 hgrow
      obtain ⟨ao', cap', rfl, _, _⟩ := row_shape hown1
      have hpw : p < w.heap.size := HB.out p (.inl rfl)
      have hnew : ∀ b, (Value.slice ao3 X cap3).ownBlock = some b → w.heap.size ≤ b := fun b hb => (hown.lt b hb).1
      have hrep1 : Rep w1 p m V' now arms n T (cleared now S c) := HR.out.frame (fun b hb => hgrow.block b (HR.out.foot_lt b hb) (fun e => by have := hnew b e.symm; have := HFT.out b hb; omega))
      obtain ⟨hrep2, hgo2⟩ := hrep1.setSlot hk (w1 := w1) (v := .slice none 0 0) (xs := []) ⟨rfl, rfl, rfl, Nat.le_refl _, fun _ _ _ => rfl⟩ ⟨rfl, .inl ⟨rfl, rfl⟩⟩ (by intro b hb; cases hb)
      have hgo1 : Goes p m V w V' w1 := ⟨HG.out.turned.trans (F' := fun i => w.heap.size ≤ i) (Turned.of_grown hgrow (fun b hb => hnew b hb)) (fun i hi => .inr hi), HG.out.foot⟩
      have hft2 : ∀ b, Foot p m (put V' k (.slice none 0 0)) b → b < w.heap.size := by
        rintro b (rfl | rfl | ⟨j, hj, hb⟩)
        · exact HFT.out _ (.inl rfl)
        · exact HFT.out _ (.inr (.inl rfl))
        · by_cases e : j = k
          · subst e; rw [put_same] at hb; cases hb
          · rw [put_other _ _ e] at hb; exact HFT.out _ (.inr (.inr ⟨j, hj, hb⟩))
      have hown2 : (w1.setCell ⟨p, 3 + k, none⟩ (.slice none 0 0)).ownsRow w.heap.size 3 1 (.slice ao' (X + Y) cap') (flat now S (c + 1)).length ((flat now S (c + 1)).map (Value.int .i64)) := by
        rw [HFL.out, List.map_append, List.length_append, HX.out, HY.out]
        exact row_block hown1 (fun b hb => set_block_other (by have := (hown1.lt b hb).1; omega))
      have h1c : w1.cell? ⟨p, 3 + c * 16 + d, none⟩ = some (.slice ao Y cap) := by rw [show 3 + c * 16 + d = 3 + k by omega, hrep1.cs k hk, HV.out]
      have h1f : w1.frozen? ⟨p, 3 + c * 16 + d, none⟩ = false := hrep1.fr _
      have HE : Hid ((w1.setCell ⟨p, 3 + c * 16 + d, none⟩ (.slice none 0 0)).ownsRow w.heap.size 3 1 (.slice ao' (X + Y) cap') (flat now S (c + 1)).length ((flat now S (c + 1)).map (Value.int .i64)) ∧
          Rep (w1.setCell ⟨p, 3 + c * 16 + d, none⟩ (.slice none 0 0)) p m (put V' k (.slice none 0 0)) now arms n T (cleared now S (c + 1)) ∧
          Goes p m V w (put V' k (.slice none 0 0)) (w1.setCell ⟨p, 3 + c * 16 + d, none⟩ (.slice none 0 0)) ∧ (∀ b, Foot p m (put V' k (.slice none 0 0)) b → b < w.heap.size)) := by
        rw [show 3 + c * 16 + d = 3 + k by omega]
        exact ⟨hown2, by rw [HCL.out]; exact hrep2, hgo1.trans hgo2, hft2⟩
      clear hown2 hft2 hgo1 hgo2 hrep2 hrep1 hnew hgrow hown1 hrow hown hck'
      go_wp2
      · have hd0 : ((d : Int) != 0) = true := by assumption
        go_ret
        refine ⟨c + 1, _, _, rfl, by omega, fun l hl => HZ.out l (by omega), .inr ⟨by omega, ?_⟩, HE.out⟩
        rw [show c + 1 - 1 = c by omega, HDD.out]
        simp at hd0
        exact hd0
      · have hd0 : ((d : Int) != 0) = false := by assumption
        have hz' : ∀ l, l < c + 1 → dig now l = 0 := by
          intro l hl
          by_cases e : l = c
          · subst e; rw [HDD.out]; simpa using hd0
          · exact HZ.out l (by omega)
        go_roundw
        case rel => exact ⟨c + 1, _, by omega, by go_num, hz', HE.out⟩
        case measure => simp [intOf]; omega

end Go.Proofs.Ytofhkfbibdkjgaa
