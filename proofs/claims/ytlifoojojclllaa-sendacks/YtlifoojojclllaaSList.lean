/-
  Lists of texts in memory: read alone, and of one's own; whether two are one; append.
-/
import Derived.Test.YtlifoojojclllaaRFirstS
import Derived.Test.YtlifoojojclllaaSAckS
import Derived.ArgAppend
namespace Go.Proofs.Ytlifoojojclllaa
open Go.RowKit
set_option linter.unusedVariables false

theorem one_string (s : ByteArray) : One (.string s) := ⟨rfl, rfl⟩
theorem one_int (k : IntKind) (n : Int) : One (.int k n) := ⟨rfl, rfl⟩

/-- A list of texts in memory. -/
def Strs (w : World) (v : Value) (xs : List Value) : Prop :=
  ∃ a c, v = .slice a xs.length c ∧ ∀ j x, xs[j]? = some x → ∃ s ad, x = .string s ∧ a = some ad ∧ w.cell? (ad.add j) = some x

set_option maxRecDepth 10000 in
set_option maxHeartbeats 1000000 in
theorem same_any {w : World} {v1 v2 : Value} {xs : List Value} (h1 : Strs w v1 xs) (h2 : Strs w v2 xs) (hl : xs.length ≤ 1099511627776) :
    Calls Try.prog 18 #[v1, v2] w fun e w' => e = .returned (.bool true) ∧ ∃ q, w' = w.drewN q := by
  obtain ⟨a1, c1, rfl, H1⟩ := h1
  obtain ⟨a2, c2, rfl, H2⟩ := h2
  have X1 : Hid (∀ j x, xs[j]? = some x → ∃ s ad, x = .string s ∧ a1 = some ad ∧ w.cell? (ad.add j) = some x) := H1
  have X2 : Hid (∀ j x, xs[j]? = some x → ∃ s ad, x = .string s ∧ a2 = some ad ∧ w.cell? (ad.add j) = some x) := H2
  obtain ⟨L, HL⟩ : ∃ L, Hid (L = xs.length) := ⟨_, rfl⟩
  rw [← HL.out] at hl ⊢
  clear H1 H2
  go_enter Try.func18, Try.ntmps18
  go_wp2
  go_loopw [5] (fun i wr => ∃ k q : Nat, k ≤ L ∧ i = .int .i64 k ∧ wr = w.drewN q) (fun i _ => L - (intOf i).toNat)
  case atStart => exact ⟨0, 0, by omega, rfl, rfl⟩
  case round =>
    obtain ⟨k, q, hk, rfl, rfl⟩ := hrel
    by_cases hlt : k < L
    · obtain ⟨x, hx⟩ : ∃ x, xs[k]? = some x := ⟨_, List.getElem?_eq_getElem (by rw [← HL.out]; exact hlt)⟩
      obtain ⟨s, ad1, rfl, rfl, d1⟩ := X1.out k x hx
      obtain ⟨s', ad2, _, rfl, d2⟩ := X2.out k _ hx
      clear hx
      have hltI : (k : Int) < L := by omega
      go_wp2_with fail
      go_quiet (fail)
      go_wp2
      go_roundw
      case rel => exact ⟨k + 1, _, by omega, by go_num, rfl⟩
      case measure => simp [intOf]; omega
    · go_wp2
      go_ret
      exact ⟨rfl, q, rfl⟩

/-- A list of texts in memory of one's own, from any place on. -/
def Lst (w : World) (v : Value) (xs : List Value) : Prop :=
  (∀ x ∈ xs, ∃ s, x = .string s) ∧ ∃ ao cap, v = .slice ao xs.length cap ∧ ((ao = none ∧ xs = [] ∧ cap = 0) ∨ ∃ b off N f, ao = some ⟨b, off, none⟩ ∧ w.rowIs b 9 N f ∧ off + cap ≤ N ∧ xs.length ≤ cap ∧ ∀ j x, xs[j]? = some x → f (off + j) = x)

section
variable {w w' : World} {v : Value} {xs : List Value}
theorem Lst.lt (h : Lst w v xs) : ∀ b, v.ownBlock = some b → b < w.heap.size := by
  intro b hb
  obtain ⟨_, ao, cap, rfl, ⟨rfl, _⟩ | ⟨b', off, N, f, rfl, hr, _⟩⟩ := h
  · cases hb
  · obtain rfl : b' = b := by simpa [Value.ownBlock] using hb
    exact hr.lt
theorem Lst.frame (h : Lst w v xs) (hb : ∀ b, v.ownBlock = some b → w'.heap[b]? = w.heap[b]?) : Lst w' v xs := by
  obtain ⟨h0, ao, cap, rfl, h1 | ⟨b', off, N, f, rfl, hr, h2⟩⟩ := h
  · exact ⟨h0, ao, cap, rfl, .inl h1⟩
  · exact ⟨h0, _, cap, rfl, .inr ⟨b', off, N, f, rfl, hr.of_block (hb b' rfl), h2⟩⟩
theorem Lst.turned {F : Nat → Prop} (h : Lst w v xs) (t : Turned F w w') (hF : ∀ b, v.ownBlock = some b → ¬ F b) : Lst w' v xs := h.frame (fun b hb => t.block b (h.lt b hb) (hF b hb))
theorem lst_nil (w : World) : Lst w (.slice none 0 0) [] := ⟨by simp, none, 0, rfl, .inl ⟨rfl, rfl, rfl⟩⟩
theorem add_flat (b off j : Nat) : (⟨b, off, none⟩ : Addr).add j = ⟨b, off + j, none⟩ := by unfold Addr.add; split <;> simp_all

theorem Lst.strs (h : Lst w v xs) : Strs w v xs := by
  obtain ⟨h0, ao, cap, rfl, ⟨rfl, rfl, rfl⟩ | ⟨b', off, N, f, rfl, hr, h1, h2, h3⟩⟩ := h
  · exact ⟨none, 0, rfl, fun j x hj => by simp at hj⟩
  · refine ⟨_, cap, rfl, fun j x hj => ?_⟩
    obtain ⟨s, rfl⟩ := h0 x (List.mem_of_getElem? hj)
    have hjl := (List.getElem?_eq_some_iff.1 hj).1
    exact ⟨s, _, rfl, rfl, by rw [add_flat, hr.cell (by omega), h3 j _ hj]⟩
/-- The first of them. -/
theorem Lst.take (h : Lst w v xs) (n : Nat) (hn : n ≤ xs.length) : ∃ ao cap, v = .slice ao xs.length cap ∧ xs.length ≤ cap ∧ Lst w (.slice ao n cap) (xs.take n) := by
  obtain ⟨h0, ao, cap, rfl, ⟨rfl, rfl, rfl⟩ | ⟨b', off, N, f, rfl, hr, h1, h2, h3⟩⟩ := h
  · simp only [List.length_nil, Nat.le_zero_eq] at hn
    subst hn
    exact ⟨none, 0, rfl, by simp, by simp, none, 0, rfl, .inl ⟨rfl, rfl, rfl⟩⟩
  · refine ⟨_, cap, rfl, h2, fun x hx => h0 x (List.mem_of_mem_take hx), _, cap, by rw [List.length_take, Nat.min_eq_left hn], .inr ⟨b', off, N, f, rfl, hr, h1, by rw [List.length_take]; omega, fun j x hj => h3 j x ?_⟩⟩
    rw [List.getElem?_take] at hj
    split at hj
    · exact hj
    · cases hj
/-- One less at the front. -/
theorem Lst.tail {x : Value} (h : Lst w v (x :: xs)) : ∃ b off cap s, v = .slice (some ⟨b, off, none⟩) (xs.length + 1) cap ∧ xs.length + 1 ≤ cap ∧ x = .string s ∧ w.cell? ⟨b, off, none⟩ = some (.string s) ∧
    Lst w (.slice (some (if cap = 1 then ⟨b, off, none⟩ else ⟨b, off + 1, none⟩)) xs.length (cap - 1)) xs := by
  obtain ⟨h0, ao, cap, rfl, ⟨_, h1, _⟩ | ⟨b, off, N, f, rfl, hr, h1, h2, h3⟩⟩ := h
  · cases h1
  · simp only [List.length_cons] at h2
    obtain ⟨s, rfl⟩ := h0 x (by simp)
    refine ⟨b, off, cap, s, rfl, h2, rfl, ?_, fun y hy => h0 y (by simp [hy]), _, _, rfl, ?_⟩
    · rw [hr.cell (by omega), ← h3 0 _ rfl]; rfl
    · by_cases hc : cap = 1
      · subst hc
        obtain rfl : xs = [] := List.length_eq_zero_iff.1 (by omega)
        exact .inr ⟨b, off, N, f, by simp, hr, by omega, by simp, by simp⟩
      · refine .inr ⟨b, off + 1, N, f, by rw [if_neg hc], hr, by omega, by omega, fun j y hj => ?_⟩
        rw [← h3 (j + 1) y (by simpa using hj)]
        congr 1
        omega
theorem Lst.at (h : Lst w v xs) {j : Nat} {x : Value} (hj : xs[j]? = some x) : ∃ b off cap s, v = .slice (some ⟨b, off, none⟩) xs.length cap ∧ x = .string s ∧ w.cell? ⟨b, off + j, none⟩ = some (.string s) := by
  obtain ⟨h0, ao, cap, rfl, ⟨_, rfl, _⟩ | ⟨b, off, N, f, rfl, hr, h1, h2, h3⟩⟩ := h
  · simp at hj
  · obtain ⟨s, rfl⟩ := h0 x (List.mem_of_getElem? hj)
    have hjl := (List.getElem?_eq_some_iff.1 hj).1
    exact ⟨b, off, cap, s, rfl, rfl, by rw [hr.cell (by omega), h3 j _ hj]⟩
end

theorem und28 : Try.prog.underlying 28 = some (.slice 9) := by kernel_rfl
theorem info9 : (Try.prog.info? 9).map (fun i => (i.zero, i.size, i.bytes)) = some (some (.string ⟨#[]⟩), 1, 16) := by kernel_rfl
theorem info_parts {e : TypeId} {z : Value} {s b : Nat} (h : (Try.prog.info? e).map (fun i => (i.zero, i.size, i.bytes)) = some (some z, s, b)) : ∃ i, Try.prog.info? e = some i ∧ i.zero = some z ∧ i.size = s ∧ i.bytes = b := by
  obtain ⟨i, hi, hz⟩ := Option.map_eq_some_iff.1 h
  simp only [Prod.mk.injEq] at hz
  exact ⟨i, hi, hz.1, hz.2.1, hz.2.2⟩

/-- A row of one's own is such a list. -/
theorem lst_of_row {w : World} {B : Nat} {v : Value} {xs : List Value} (hs : ∀ x ∈ xs, ∃ s, x = .string s) (h : w.ownsRow B 9 1 v xs.length xs) : Lst w v xs := by
  refine ⟨hs, ?_⟩
  rcases h.2 with ⟨rfl, h0⟩ | ⟨g, cap, cur, rfl, hb, hg, h1, h2, h3, h4⟩
  · obtain rfl : xs = [] := List.length_eq_zero_iff.1 h0
    exact ⟨none, 0, rfl, .inl ⟨rfl, rfl, rfl⟩⟩
  · refine ⟨_, cap, rfl, .inr ⟨g, 0, cur.size, fun j => (cur[j]?).getD (.string ⟨#[]⟩), rfl, ⟨cur, hg, rfl, fun i hi => by simp [Array.getElem?_eq_getElem hi]⟩, by omega, h1, fun j x hj => ?_⟩⟩
    have hjl := (List.getElem?_eq_some_iff.1 hj).1
    rw [← h4, List.getElem?_take, if_pos (by omega)] at hj
    rw [Nat.zero_add]
    show (cur[j]?).getD (.string ⟨#[]⟩) = x
    rw [← Array.getElem?_toList, hj]
    rfl

theorem row_setCells {b : Nat} {t : TypeId} {n : Nat} : ∀ (vs : List Value) (o : Nat) (w : World) (f : Nat → Value), w.rowIs b t n f → ∃ g, (w.setCells b o vs).rowIs b t n g ∧ (∀ j, j < o → g j = f j) ∧ ∀ j x, vs[j]? = some x → g (o + j) = x
  | [], o, w, f, h => ⟨f, h, fun _ _ => rfl, fun j x hj => by simp at hj⟩
  | v :: r, o, w, f, h => by
    obtain ⟨g, h1, h2, h3⟩ := row_setCells r (o + 1) _ _ (h.set o v)
    refine ⟨g, h1, fun j hj => by rw [h2 j (by omega), if_neg (by omega)], fun j x hj => ?_⟩
    cases j with
    | zero => rw [Nat.add_zero, h2 o (by omega), if_pos rfl]; simpa using hj
    | succ j => rw [show o + (j + 1) = o + 1 + j by omega]; exact h3 j x (by simpa using hj)
theorem size_setCells (b : Nat) : ∀ (vs : List Value) (o : Nat) (w : World), (w.setCells b o vs).heap.size = w.heap.size ∧ (w.setCells b o vs).os = w.os ∧ (w.setCells b o vs).tape = w.tape ∧ (w.setCells b o vs).output = w.output ∧ ∀ k, k ≠ b → (w.setCells b o vs).heap[k]? = w.heap[k]?
  | [], o, w => ⟨rfl, rfl, rfl, rfl, fun _ _ => rfl⟩
  | v :: r, o, w => by
    obtain ⟨h1, h2, h3, h4, h5⟩ := size_setCells b r (o + 1) (w.setCell ⟨b, o, none⟩ v)
    exact ⟨h1.trans (by simp [World.setCell]), h2, h3, h4, fun k hk => (h5 k hk).trans (Below.heap_setCell _ _ _ _ hk)⟩

/-- append of texts. -/
theorem wpList_append_lst {w : World} {ops : Array Oper} {rest : List Oper} {o : Oper} {a : Act} {Q : Exit → Act → World → Prop} (hgd : o.guard = none) (so xo : Operand)
    (ho : o.op = .call { callee := .builtin .append, args := #[so, xo], argTypes := #[28, 28] }) (v : Value) (xs : List Value) (hs : a.eval so = v) (hl : Lst w v xs)
    (ns : List Value) (hns : ∀ x ∈ ns, ∃ s, x = .string s) (hn0 : 0 < ns.length) (hlen : xs.length + ns.length ≤ 1000)
    (ad : Addr) (c : Nat) (hx : a.eval xo = .slice (some ad) ns.length c) (hnew : ∀ j u, ns[j]? = some u → w.cell? (ad.add j) = some u)
    (h : ∀ v' w', Lst w' v' (xs ++ ns) → w.grownBy w' v.ownBlock → (∀ b, v'.ownBlock = some b → v.ownBlock = some b ∨ w.heap.size ≤ b) → wpList Try.prog ops Q rest (a.put o.dst v') w') :
    wpList Try.prog ops Q (o :: rest) a w := by
  obtain ⟨i0, hi0, hz0, hz1, hz2⟩ := info_parts info9
  have hone : ∀ u ∈ ns, u.oneCell' = true := fun u hu => by obtain ⟨s, rfl⟩ := hns u hu; rfl
  obtain ⟨h0, ao, cap, rfl, hcase⟩ := hl
  have hstr : ∀ x ∈ xs ++ ns, ∃ t, x = .string t := fun x hx => (List.mem_append.1 hx).elim (h0 x) (hns x)
  have hgr : ∀ v' w', w'.ownsRow w.heap.size 9 1 v' (xs.length + ns.length) (xs ++ ns) → w.grownBy w' none → wpList Try.prog ops Q rest (a.put o.dst v') w' := fun v' w' hr hg =>
    h v' w' (lst_of_row hstr (by simpa using hr)) ⟨hg.os, hg.tape, hg.output, hg.size, fun k hk _ => hg.block k hk (by simp)⟩ (fun b hb => .inr (hr.lt b hb).1)
  rcases hcase with ⟨rfl, rfl, rfl⟩ | ⟨b, off, N, f, rfl, hr, h1, h2, h3⟩
  · exact wpList_append_grows w hgd so xo 28 ho 9 i0 (.string ⟨#[]⟩) 1 16 und28 hi0 hz0 hz1 hz2 rfl (by decide) none 0 0 [] hs (fun _ => ⟨rfl, rfl⟩) rfl (by simp) ad ns.length c ns hx (by omega) hnew hone (by omega) (by unfold maxLen; simp at hlen; omega) (by simp at hlen; omega) (by simpa using hgr)
  · refine wpList_append_arg w hgd so xo 28 ho 9 i0 (.string ⟨#[]⟩) 1 16 und28 hi0 hz0 hz1 hz2 rfl (by decide) b off xs.length cap xs hs (by simp) (fun j u hj => by rw [hr.cell (by have := (List.getElem?_eq_some_iff.1 hj).1; omega), h3 j u hj]) ad ns.length c ns hx (by omega) hnew hone ?_ (by unfold maxLen; omega) (by omega) ?_ (fun _ => hgr)
    · intro hroom j hj
      rw [hr.cell (by omega)]
      exact ⟨rfl, hr.frozen _⟩
    · intro hroom
      obtain ⟨g, g1, g2, g3⟩ := row_setCells ns (off + xs.length * 1) w f hr
      obtain ⟨s1, s2, s3, s4, s5⟩ := size_setCells b ns (off + xs.length * 1) w
      refine h _ _ ⟨hstr, _, cap, by simp, .inr ⟨b, off, N, g, rfl, g1, h1, by simpa using hroom, ?_⟩⟩ ⟨s2, s3, s4, by omega, fun k hk hne => s5 k (fun e => hne (by rw [e]; rfl))⟩ (fun b' hb' => .inl hb')
      intro j x hj
      by_cases hjl : j < xs.length
      · rw [List.getElem?_append_left hjl] at hj
        rw [g2 _ (by omega)]
        exact h3 j x hj
      · rw [List.getElem?_append_right (by omega)] at hj
        have := g3 _ x hj
        rwa [show off + xs.length * 1 + (j - xs.length) = off + j by omega] at this

theorem und28e : Try.prog.underlying 28 = some (.slice (Try.prog.elem 28)) := by kernel_rfl
theorem size28 (w : World) : (sizeOf (Try.prog.elem 28)).run Try.prog w = .ok 1 w := by rfl
theorem slice_to (w : World) (ao : Option Addr) (L cap n : Nat) (hn : n ≤ cap) (hao : ∀ a, ao = some a → a.spot = none) : (Instr.slice 28 (.slice ao L cap) none (some (.int .i64 (n : Nat))) none).run Try.prog w = .ok (.slice ao n cap) w := by
  rw [run_slice_h w 28 ao L cap und28e .i64 (n : Nat) (by omega) (by omega), size28]
  simp only [Result.andThen_ok, sliced, Int.toNat_natCast, Nat.sub_zero, Nat.zero_mul]
  congr 2
  split
  · rfl
  · cases ao with
    | none => rfl
    | some a => simp [Addr.add]
theorem slice_from (w : World) (b off L cap : Nat) (hL : 1 ≤ L) (hc : L ≤ cap) : (Instr.slice 28 (.slice (some ⟨b, off, none⟩) L cap) (some (.int .i64 1)) none none).run Try.prog w = .ok (.slice (some (if cap = 1 then ⟨b, off, none⟩ else ⟨b, off + 1, none⟩)) (L - 1) (cap - 1)) w := by
  rw [run_slice_l w 28 (some ⟨b, off, none⟩) L cap und28e .i64 1 (by omega) (by omega), size28]
  simp only [Result.andThen_ok, sliced]
  congr 2
  split
  · next h => rw [if_pos (by simpa using h)]
  · next h => rw [if_neg (by simpa using h)]; simp [add_flat]

theorem Lst.shape {w : World} {lv : Value} {ls : List Value} (h : Lst w lv ls) : ∃ ao cap, lv = .slice ao ls.length cap := by
  obtain ⟨_, ao, cap, rfl, _⟩ := h
  exact ⟨ao, cap, rfl⟩
theorem Lst.cells {w : World} {ao : Option Addr} {n cap : Nat} {ls : List Value} (h : Lst w (.slice ao n cap) ls) (h0 : 0 < ls.length) : ∃ b off, ao = some ⟨b, off, none⟩ ∧ ∀ j x, ls[j]? = some x → w.cell? ((⟨b, off, none⟩ : Addr).add j) = some x := by
  obtain ⟨hs, ao', cap', hv, ⟨rfl, rfl, rfl⟩ | ⟨b, off, N, f, rfl, hr, h1, h2, h3⟩⟩ := h
  · simp at h0
  · obtain ⟨rfl, _, rfl⟩ : ao = some ⟨b, off, none⟩ ∧ n = ls.length ∧ cap = cap' := by simpa using hv
    refine ⟨b, off, rfl, fun j x hj => ?_⟩
    have hjl := (List.getElem?_eq_some_iff.1 hj).1
    rw [add_flat, hr.cell (by omega), h3 j x hj]

/-- What is to be sent now. -/
theorem swin_any {w : World} {F : Nat → Prop} {q most win ack : Nat} {xs : List Value} (h : Snd w 9 F q most win ack xs) (hs : ∀ x ∈ xs, ∃ s, x = .string s) :
    Calls Try.prog 17 #[.pointer (some ⟨q, 0, none⟩)] w fun e w' => ∃ v', e = .returned (.tuple #[.int .u64 (ack : Nat), v']) ∧ Lst w' v' (xs.take win) ∧ Turned (fun _ => False) w w' ∧ ∀ b, v'.ownBlock = some b → w.heap.size ≤ b := by
  obtain ⟨p, sv, first, h, hF⟩ := h
  have hc0 := h.c0
  have hc1 := h.c1
  have hc2 := h.c2
  have h1 := h.win1
  have hp : ∀ wx, wx = w.drew → Calls Try.prog 38 #[.pointer (some ⟨p, 0, none⟩), .int .i64 (win : Nat)] wx fun e w' => ∃ v', e = .returned v' ∧ w'.cell? ⟨q, 2, none⟩ = some (.int .u64 (ack : Nat)) ∧ w'.cell? ⟨q, 0, none⟩ = some (.pointer (some ⟨p, 0, none⟩)) ∧ w'.cell? ⟨q, 1, none⟩ = some (.int .i64 (win : Nat)) ∧ Hid (Lst w' v' (xs.take win) ∧ Turned (fun _ => False) w w' ∧ ∀ b, v'.ownBlock = some b → w.heap.size ≤ b) := by
    rintro wx rfl
    refine (firstS_any h.ring.drew win (by omega)).mono ?_
    rintro e w' ⟨m, g, hm, rfl, hr, hg, ht⟩
    have hb : w'.heap[q]? = w.heap[q]? := ht.block q h.qlt (fun hf => hf)
    refine ⟨_, rfl, by rw [cell_block hb]; exact hc2, by rw [cell_block hb]; exact hc0, by rw [cell_block hb]; exact hc1, ⟨fun x hx => hs x (List.mem_of_mem_take hx), some ⟨w.heap.size, 0, none⟩, m, ?_, .inr ⟨w.heap.size, 0, m, g, rfl, hr, by omega, ?_, ?_⟩⟩, ((Turned.refl _ w).drew).trans ht (fun _ hf => hf.elim), fun b hb => ?_⟩
    · rw [List.length_take, ← hm]; rfl
    · rw [List.length_take]; omega
    · intro j x hj
      rw [List.getElem?_take] at hj
      split at hj
      · have hjl := (List.getElem?_eq_some_iff.1 hj).1
        rw [Nat.zero_add]; exact hg j x (by omega) hj
      · cases hj
    · have : w.heap.size = b := by simpa [Value.ownBlock] using hb
      omega
  clear h hF hs
  go_enter Try.func17, Try.ntmps17
  go_wp2_with fail
  refine wp_region_noPanic ?_
  refine wp_region_held_drew (S := fun wx => wx.cell? ⟨q, 2, none⟩ = some (.int .u64 (ack : Nat)) ∧ wx.cell? ⟨q, 0, none⟩ = some (.pointer (some ⟨p, 0, none⟩)) ∧ wx.cell? ⟨q, 1, none⟩ = some (.int .i64 (win : Nat))) (by kernel_rfl) (show _ ∧ _ ∧ _ from ⟨hc2, hc0, hc1⟩) (fun hHeld => ?_)
  refine take_first 0 (v := ?_) rfl (by kernel_rfl) (by kernel_rfl) (by kernel_rfl) (fun _ _ _ h => h) (Or.inl ⟨by rfl, by intro wx hSw; obtain ⟨hSw1, hSw2, hSw3⟩ := hSw; go_simp; try with_reducible rfl⟩) (by assumption) ?_
  (try simp only [Act.put, List.setIfInBounds_toArray, List.set_cons_zero, List.set_cons_succ])
  refine take_first 1 (v := ?_) rfl (by kernel_rfl) (by kernel_rfl) (by kernel_rfl) (fun _ _ _ h => h) (Or.inl ⟨by rfl, by intro wx hSw; obtain ⟨hSw1, hSw2, hSw3⟩ := hSw; go_simp; try with_reducible rfl⟩) (by assumption) ?_
  (try simp only [Act.put, List.setIfInBounds_toArray, List.set_cons_zero, List.set_cons_succ])
  refine take_first 2 (v := ?_) rfl (by kernel_rfl) (by kernel_rfl) (by kernel_rfl) (fun _ _ _ h => h) (Or.inl ⟨by rfl, by intro wx hSw; obtain ⟨hSw1, hSw2, hSw3⟩ := hSw; go_simp; try with_reducible rfl⟩) (by assumption) ?_
  (try simp only [Act.put, List.setIfInBounds_toArray, List.set_cons_zero, List.set_cons_succ])
  refine take_first 3 (v := ?_) rfl (by kernel_rfl) (by kernel_rfl) (by kernel_rfl) (fun _ _ _ h => h) (Or.inl ⟨by rfl, by intro wx hSw; obtain ⟨hSw1, hSw2, hSw3⟩ := hSw; go_simp; try with_reducible rfl⟩) (by assumption) ?_
  (try simp only [Act.put, List.setIfInBounds_toArray, List.set_cons_zero, List.set_cons_succ])
  refine take_first 4 (v := ?_) rfl (by kernel_rfl) (by kernel_rfl) (by kernel_rfl) (fun _ _ _ h => h) (Or.inl ⟨by rfl, by intro wx hSw; obtain ⟨hSw1, hSw2, hSw3⟩ := hSw; go_simp; try with_reducible rfl⟩) (by assumption) ?_
  (try simp only [Act.put, List.setIfInBounds_toArray, List.set_cons_zero, List.set_cons_succ])
  refine take_first 5 (v := ?_) rfl (by kernel_rfl) (by kernel_rfl) (by kernel_rfl) (fun _ _ _ h => h) (Or.inl ⟨by rfl, by intro wx hSw; obtain ⟨hSw1, hSw2, hSw3⟩ := hSw; go_simp; try with_reducible rfl⟩) (by assumption) ?_
  (try simp only [Act.put, List.setIfInBounds_toArray, List.set_cons_zero, List.set_cons_succ])
  refine take_first 6 (v := ?_) rfl (by kernel_rfl) (by kernel_rfl) (by kernel_rfl) (fun _ _ _ h => h) (Or.inl ⟨by rfl, by intro wx hSw; obtain ⟨hSw1, hSw2, hSw3⟩ := hSw; go_simp; try with_reducible rfl⟩) (by assumption) ?_
  (try simp only [Act.put, List.setIfInBounds_toArray, List.set_cons_zero, List.set_cons_succ])
  refine take_first 7 (v := ?_) rfl (by kernel_rfl) (by kernel_rfl) (by kernel_rfl) (fun _ _ _ h => h) (Or.inl ⟨by rfl, by intro wx hSw; obtain ⟨hSw1, hSw2, hSw3⟩ := hSw; go_simp; try with_reducible rfl⟩) (by assumption) ?_
  (try simp only [Act.put, List.setIfInBounds_toArray, List.set_cons_zero, List.set_cons_succ])
  refine take_first 8 (v := ?_) rfl (by kernel_rfl) (by kernel_rfl) (by kernel_rfl) (fun _ _ _ h => h) (Or.inl ⟨by rfl, by intro wx hSw; obtain ⟨hSw1, hSw2, hSw3⟩ := hSw; go_simp; try with_reducible rfl⟩) (by assumption) ?_
  (try simp only [Act.put, List.setIfInBounds_toArray, List.set_cons_zero, List.set_cons_succ])
  refine take_first 9 (v := ?_) rfl (by kernel_rfl) (by kernel_rfl) (by kernel_rfl) (fun _ _ _ h => h) (Or.inl ⟨by rfl, by intro wx hSw; obtain ⟨hSw1, hSw2, hSw3⟩ := hSw; go_simp; try with_reducible rfl⟩) (by assumption) ?_
  (try simp only [Act.put, List.setIfInBounds_toArray, List.set_cons_zero, List.set_cons_succ])
  refine take_first 10 (v := ?_) rfl (by kernel_rfl) (by kernel_rfl) (by kernel_rfl) (fun _ _ _ h => h) (Or.inl ⟨by rfl, by intro wx hSw; obtain ⟨hSw1, hSw2, hSw3⟩ := hSw; go_simp; try with_reducible rfl⟩) (by assumption) ?_
  (try simp only [Act.put, List.setIfInBounds_toArray, List.set_cons_zero, List.set_cons_succ])
  refine take_first 11 (v := ?_) rfl (by kernel_rfl) (by kernel_rfl) (by kernel_rfl) (fun _ _ _ h => h) (Or.inl ⟨by rfl, by intro wx hSw; obtain ⟨hSw1, hSw2, hSw3⟩ := hSw; go_simp; try with_reducible rfl⟩) (by assumption) ?_
  (try simp only [Act.put, List.setIfInBounds_toArray, List.set_cons_zero, List.set_cons_succ])
  refine comes_up 12 rfl (by kernel_rfl) (fun K hK => ?_)
  go_simp
  refine (hp _ rfl).mono ?_
  rintro e w2 ⟨v', rfl, k1, k2, k3, HH⟩
  go_wp2_with fail
  refine hK.out _ _ ⟨k1, k2, k3⟩ (fun hHeld => ?_)
  clear hK K
  (try simp only [Act.put, List.setIfInBounds_toArray, List.set_cons_zero, List.set_cons_succ])
  refine take_first 13 (v := ?_) rfl (by kernel_rfl) (by kernel_rfl) (by kernel_rfl) (fun _ _ _ h => h) (Or.inl ⟨by rfl, by intro wx hSw; obtain ⟨hSw1, hSw2, hSw3⟩ := hSw; go_simp; try with_reducible rfl⟩) (by assumption) ?_
  (try simp only [Act.put, List.setIfInBounds_toArray, List.set_cons_zero, List.set_cons_succ])
  refine comes_up 14 rfl (by kernel_rfl) (fun K hK => ?_)
  go_simp
  refine hK.out _ _ ⟨k1, k2, k3⟩ (fun hHeld => ?_)
  clear hK K
  (try simp only [Act.put, List.setIfInBounds_toArray, List.set_cons_zero, List.set_cons_succ])
  refine wpAnyH_done (by kernel_rfl) ?_ _
  refine NoPanic.normal ?_
  go_wp2
  go_ret2
  exact ⟨v', rfl, HH.out⟩
theorem swin_nil (w : World) : Calls Try.prog 17 #[.pointer none] w fun e w' => e = .returned (.tuple #[.int .u64 0, .slice none 0 0]) ∧ w = w' := by
  go_enter Try.func17, Try.ntmps17
  go_wp2
  go_ret2
  exact ⟨rfl, rfl⟩
theorem slenS_nil (w : World) : Calls Try.prog 19 #[.pointer none] w fun e w' => e = .returned (.int .i64 0) ∧ w = w' := by
  go_enter Try.func19, Try.ntmps19
  go_wp2
  go_ret
  exact ⟨rfl, rfl⟩
theorem sroomS_nil (w : World) : Calls Try.prog 20 #[.pointer none] w fun e w' => e = .returned (.int .i64 0) ∧ w = w' := by
  go_enter Try.func20, Try.ntmps20
  go_wp2
  go_ret
  exact ⟨rfl, rfl⟩
theorem sackedS_nil (w : World) : Calls Try.prog 21 #[.pointer none] w fun e w' => e = .returned (.int .u64 0) ∧ w = w' := by
  go_enter Try.func21, Try.ntmps21
  go_wp2
  go_ret
  exact ⟨rfl, rfl⟩
theorem sroomS_any {w : World} {F : Nat → Prop} {q most win ack : Nat} {xs : List Value} (h : Snd w 9 F q most win ack xs) : Calls Try.prog 20 #[.pointer (some ⟨q, 0, none⟩)] w fun e w' => e = .returned (.int .i64 ((most : Int) - xs.length)) ∧ ∃ k, w' = w.drewN k := by
  obtain ⟨p, sv, first, h, hF⟩ := h
  have hc0 := h.c0
  have hp := roomS_any h.ring
  clear h hF
  go_enter Try.func20, Try.ntmps20
  go_wp2_with fail
  refine hp.mono ?_
  rintro e w1 ⟨rfl, k, rfl⟩
  go_wp2
  go_ret
  exact ⟨rfl, k, rfl⟩
end Go.Proofs.Ytlifoojojclllaa
