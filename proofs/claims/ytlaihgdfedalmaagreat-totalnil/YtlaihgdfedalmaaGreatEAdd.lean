/-
  Entries as bytes: what is laid behind bytes of one's own.
-/
import Derived.Test.YtlaihgdfedalmaaGreatEBase
import Derived.Test.YtlaihgdfedalmaaGreatJAll
import Derived.Maps.AppendAt
namespace Go.Proofs.YtlaihgdfedalmaaGreat
open Go.RowKit
set_option linter.unusedVariables false

/-- Bytes of one's own that were laid on: what lay there besides is as it was. -/
structure Adds (B : Nat) (w w' : World) (v v' : Value) (xs : List UInt8) : Prop where
  own : w'.ownsRow B 5 1 v' xs.length (xs.map Cd.by8)
  gr : w.grownBy w' v.ownBlock
  at_ : ∀ k, v'.ownBlock = some k → v.ownBlock = some k ∨ w.heap.size ≤ k
theorem Adds.trans {B : Nat} {w w1 w2 : World} {v v1 v2 : Value} {xs ys : List UInt8} (h : Adds B w w1 v v1 xs) (k : Adds B w1 w2 v1 v2 ys) : Adds B w w2 v v2 ys where
  own := k.own
  gr := ⟨k.gr.os.trans h.gr.os, k.gr.tape.trans h.gr.tape, k.gr.output.trans h.gr.output, Nat.le_trans h.gr.size k.gr.size, fun i hi hne => (k.gr.block i (Nat.lt_of_lt_of_le hi h.gr.size) (fun e => by
    rcases h.at_ i e.symm with h1 | h1
    · exact hne h1.symm
    · omega)).trans (h.gr.block i hi hne)⟩
  at_ := fun i hi => by
    rcases k.at_ i hi with h1 | h1
    · exact h.at_ i h1
    · exact .inr (Nat.le_trans h.gr.size h1)
theorem Adds.after {B : Nat} {w w1 w2 : World} {v v2 : Value} {ys : List UInt8} (h : Below w.heap.size w w1) (k : Adds B w1 w2 v v2 ys) : Adds B w w2 v v2 ys where
  own := k.own
  gr := ⟨k.gr.os.trans h.os, k.gr.tape.trans h.tape, k.gr.output.trans h.output, Nat.le_trans h.size k.gr.size, fun i hi hne => (k.gr.block i (Nat.lt_of_lt_of_le hi h.size) hne).trans (h.block i hi)⟩
  at_ := fun i hi => by
    rcases k.at_ i hi with h1 | h1
    · exact .inl h1
    · exact .inr (Nat.le_trans h.size h1)
theorem Adds.below {B : Nat} {w w' : World} {v v' : Value} {xs : List UInt8} (h : Adds B w w' v v' xs) (hB : B ≤ w.heap.size) (hv : ∀ k, v.ownBlock = some k → B ≤ k) : Below B w w' :=
  bl_grown (Below.refl _ _) hB h.gr hv
theorem own_lt {w : World} {B n : Nat} {v : Value} {xs : List Value} (h : w.ownsRow B 5 1 v n xs) : ∀ k, v.ownBlock = some k → B ≤ k ∧ k < w.heap.size := fun k hk => ⟨(h.lt k hk).1, (h.lt k hk).2⟩
theorem ex_gr {B b : Nat} {x : Lb} {s : Value} {w w' : World} {r : Option Nat} (h : Ex b x s w) (g : w.grownBy w' r) (hr : r ≠ some b) : Ex b x s w' :=
  have hlt := h.lt
  have key : ∀ j v, w.cell? ⟨b, j, none⟩ = some v → w'.cell? ⟨b, j, none⟩ = some v := fun j v hc => (World.cell?_of_block (a := ⟨b, j, none⟩) (g.block b hlt (fun e => hr e.symm))).trans hc
  ⟨key _ _ h.1, key _ _ h.2.1, key _ _ h.2.2.1, key _ _ h.2.2.2.1, key _ _ h.2.2.2.2⟩
/-- Any bytes behind a row of bytes of one's own, and where they lie then. -/
theorem wpList_append_adds {w : World} {ops : Array Oper} {rest : List Oper} {o : Oper} {a : Act} {Q : Exit → Act → World → Prop} (hgd : o.guard = none) (s x : Operand)
    (ho : o.op = .call { callee := .builtin .append, args := #[s, x], argTypes := #[37, 37] }) (base : Nat)
    (v : Value) (xs : List UInt8) (hs : a.eval s = v) (hown : w.ownsRow base 5 1 v xs.length (xs.map Cd.by8))
    (ad : Addr) (m c : Nat) (ys : List UInt8) (hx : a.eval x = .slice (some ad) m c) (hl : ys.length = m) (hc : ∀ j u, (ys.map Cd.by8)[j]? = some u → w.cell? (ad.add j) = some u)
    (hnm : xs.length + m ≤ 140737488355328) (hbase : base ≤ w.heap.size)
    (h : ∀ v' w', Adds base w w' v v' (xs ++ ys) → wpList Tryz.prog ops Q rest (a.put o.dst v') w') :
    wpList Tryz.prog ops Q (o :: rest) a w := by
  obtain ⟨i0, hi0, hz0, hz1, hz2⟩ := info_parts info5
  refine wpList_append_own_at _ hgd s x 37 ho base 5 i0 (.int .u8 0) 1 1 und34 hi0 hz0 hz1 hz2 rfl (by decide) v xs.length (xs.map Cd.by8) hs hown ad m c (ys.map Cd.by8) hx (by simpa using hl) hc (fun u hu => ?_) (by unfold maxLen; omega) (by omega) hbase (fun v' w' a b _ d => h v' w' ⟨by simpa [hl] using a, b, fun k hk => ?_⟩)
  · obtain ⟨b, _, rfl⟩ := List.mem_map.1 hu
    rfl
  · rcases d with d | d
    · exact .inl (by rw [← d]; exact hk)
    · rw [d] at hk
      cases hk
      exact .inr (Nat.le_refl _)

set_option maxRecDepth 10000 in
set_option maxHeartbeats 1000000 in
theorem addLabel_any (w : World) (B : Nat) (hB : B ≤ w.heap.size) (v : Value) (xs : List UInt8) (hv : w.ownsRow B 5 1 v xs.length (xs.map Cd.by8)) (x : Lb) (hx : x.1 < 18446744073709551616) (hx2 : x.2.2.1 < 18446744073709551616) (hf : formL x = true) (hr : xs.length + 100 ≤ 140737488355328) :
    Calls Tryz.prog 95 #[v, lab x] w fun e w' => ∃ v', e = .returned v' ∧ Adds B w w' v v' (xs ++ encL x) := by
  obtain ⟨ao, cap, rfl⟩ := row_shape hv
  have hb0 : Below w.heap.size w (w.alloc (.cells #[.int .u64 (x.1 : Nat), .int .i64 x.2.1, .int .u64 (x.2.2.1 : Nat), .int .i64 x.2.2.2] 39)) := bl1 _ _
  have bx := bx_new w x.1 x.2.1 x.2.2.1 x.2.2.2 39
  have hv0 := own_bytes_below hv hb0
  have he := encodeL_any (w.alloc (.cells #[.int .u64 (x.1 : Nat), .int .i64 x.2.1, .int .u64 (x.2.2.1 : Nat), .int .i64 x.2.2.2] 39)) none 0 0 [] ⟨rfl, Nat.le_refl _, by unfold maxLen; omega, fun _ => ⟨rfl, rfl⟩, fun a ha => (by cases ha)⟩ x hx hx2 hf (by omega)
  have hlen : (encL x).length ≤ 22 ∧ 0 < (encL x).length := by
    have h1 := Cd.enc_length x.1
    have h2 := Cd.enc_length x.2.2.1
    unfold encL
    simp
    omega
  simp only [Nat.zero_add, List.nil_append] at he
  obtain ⟨E, HE⟩ : ∃ E, Hid (encL x = E) := ⟨_, rfl⟩
  rw [HE.out] at he hlen ⊢
  obtain ⟨d0, d1, d2, d3⟩ := bx
  obtain ⟨HB0, HV0⟩ : Hid (Below w.heap.size w (w.alloc (.cells #[.int .u64 (x.1 : Nat), .int .i64 x.2.1, .int .u64 (x.2.2.1 : Nat), .int .i64 x.2.2.2] 39))) ∧ Hid True := ⟨hb0, trivial⟩
  unfold lab at *
  clear hf hx hx2
  go_enter Tryz.func95, Tryz.ntmps95
  go_wp2_with fail
  refine he.mono ?_
  rintro e w1 ⟨v1, rfl, ho1, hb1⟩
  have hbb := bl_step HB0.out hb1
  have hv1 := own_bytes_below hv0 hb1
  obtain ⟨g, cg, hg1, _⟩ := row_some ho1 hlen.2
  subst hg1
  have hcs := ho1.cells (g := g) rfl
  have hs1 : B ≤ w1.heap.size := Nat.le_trans hB hbb.size
  clear he hb1 hb0 hv0 d0 d1 d2 d3 ho1 HB0 HV0 hv
  go_wp2_with (at_builtin; refine wpList_append_adds rfl (.tmp 12) (.tmp 13) rfl B _ xs rfl ?d1 ⟨g, 0, none⟩ E.length cg E rfl rfl ?d2 ?d3 ?d4 ?_)
  case d1 => exact hv1
  case d2 => exact hcs
  case d3 => omega
  case d4 => exact hs1
  intro v2 w2 ha
  have hab := Adds.after hbb ha
  clear ha hcs hv1 hbb hs1
  go_wp2
  go_ret
  exact ⟨v2, rfl, hab⟩

/-- An entry's bytes. -/
def encE (x : Lb) (m : List UInt8) : List UInt8 := encL x ++ (Cd.enc m.length ++ m)
theorem run_append_adds {w : World} {B : Nat} {v : Value} {xs ys : List UInt8} {ad : Addr} {m c : Nat} {ty : TypeId} (h : w.ownsRow B 5 1 v xs.length (xs.map Cd.by8)) (hB : B ≤ w.heap.size) (hl : ys.length = m) (hn : xs.length + m ≤ 140737488355328) (hc : ∀ j u, (ys.map Cd.by8)[j]? = some u → w.cell? (ad.add j) = some u) :
    ∃ v' w', (Builtin.append_ #[37, 37] ty #[v, .slice (some ad) m c]).run Tryz.prog w = .ok v' w' ∧ Adds B w w' v v' (xs ++ ys) := by
  obtain ⟨i0, hi0, hz0, hz1, hz2⟩ := info_parts info5
  obtain ⟨v', w', hr, h1, h2, _, d⟩ := run_append_own_at (P := Tryz.prog) w B 37 ty 5 i0 (.int .u8 0) 1 1 und34 hi0 hz0 hz1 hz2 rfl (by decide) v xs.length (xs.map Cd.by8) h ad m c (ys.map Cd.by8) (by simpa using hl) hc (fun u hu => by obtain ⟨b, _, rfl⟩ := List.mem_map.1 hu; rfl) (by unfold maxLen; omega) (by omega) hB
  refine ⟨v', w', hr, by simpa [hl] using h1, h2, fun k hk => ?_⟩
  rcases d with d | d
  · exact .inl (by rw [← d]; exact hk)
  · rw [d] at hk
    cases hk
    exact .inr (Nat.le_refl _)
theorem row_bl {B : Nat} {w w' : World} {ao : Option Addr} {n cap : Nat} {xs : List UInt8} (h : Cd.Row w ao n cap xs) (u : Below B w w') (hB : ∀ a, ao = some a → 0 < n → a.block < B) : Cd.Row w' ao n cap xs :=
  ⟨h.1, h.2.1, h.2.2.1, h.2.2.2.1, fun a ha i hi => (u.cell (p := a.add i) (by have := hB a ha (by omega); unfold Addr.add; split <;> exact this)).trans (h.2.2.2.2 a ha i hi)⟩
theorem row_lt {w : World} {ao : Option Addr} {n cap : Nat} {xs : List UInt8} (h : Cd.Row w ao n cap xs) : ∀ a, ao = some a → 0 < n → a.block < w.heap.size := fun a ha hn => by
  have := World.block_lt_of_cell? w _ (h.2.2.2.2 a ha 0 hn)
  simpa [Addr.add] using this
theorem nil_row (w : World) : Cd.Row w none 0 0 [] := ⟨rfl, Nat.le_refl _, by unfold maxLen; omega, fun _ => ⟨rfl, rfl⟩, fun a ha => (by cases ha)⟩
theorem encL_len (x : Lb) : (encL x).length ≤ 22 ∧ 0 < (encL x).length := by
  have h1 := Cd.enc_length x.1
  have h2 := Cd.enc_length x.2.2.1
  unfold encL
  simp
  omega

set_option maxRecDepth 10000 in
set_option maxHeartbeats 1000000 in
theorem addEntry_any (w : World) (B : Nat) (hB : B ≤ w.heap.size) (v : Value) (xs : List UInt8) (hv : w.ownsRow B 5 1 v xs.length (xs.map Cd.by8)) (x : Lb) (hx : x.1 < 18446744073709551616) (hx2 : x.2.2.1 < 18446744073709551616) (hf : formL x = true)
    (bo : Option Addr) (m bcap : Nat) (ys : List UInt8) (hy : Cd.Row w bo m bcap ys) (hyB : ∀ a, bo = some a → 0 < m → a.block < B) (hm : m ≤ 64) (hr : xs.length + 1000 ≤ 140737488355328) :
    Calls Tryz.prog 94 #[v, ent x (.slice bo m bcap)] w fun e w' => ∃ v', e = .returned v' ∧ Adds B w w' v v' (xs ++ encE x ys) := by
  obtain ⟨ao, cap, rfl⟩ := row_shape hv
  have hb0 : Below w.heap.size w (w.alloc (.cells #[.int .u64 (x.1 : Nat), .int .i64 x.2.1, .int .u64 (x.2.2.1 : Nat), .int .i64 x.2.2.2, .slice bo m bcap] 41)) := bl1 _ _
  have ex0 := ex_new w x (.slice bo m bcap) 41
  have hlen := encL_len x
  have hel := Cd.enc_length m
  have hep := Cd.enc_pos m
  have hyl := hy.1
  have key : ∀ W, Below w.heap.size w W → Ex w.heap.size x (.slice bo m bcap) W → Calls Tryz.prog 95 #[.slice ao xs.length cap, lab x] W (fun e w' => ∃ v' ao' cap', e = .returned (.slice ao' (xs ++ encL x).length cap') ∧ v' = Value.slice ao' (xs ++ encL x).length cap' ∧ Adds B w w' (.slice ao xs.length cap) v' (xs ++ encL x) ∧ Ex w.heap.size x (.slice bo m bcap) w' ∧ Cd.Row w' bo m bcap ys ∧ B ≤ w'.heap.size ∧ (∀ k, v'.ownBlock = some k → k ≠ w.heap.size)) := by
    intro W hW hE
    refine (addLabel_any W B (Nat.le_trans hB hW.size) _ xs (own_bytes_below hv hW) x hx hx2 hf (by omega)).mono ?_
    rintro e w1 ⟨v1, rfl, ha⟩
    obtain ⟨ao', cap', rfl⟩ := row_shape ha.own
    have hab := Adds.after hW ha
    have hbl := hab.below hB (fun k hk => (own_lt hv k hk).1)
    exact ⟨_, _, _, rfl, rfl, hab, ex_gr (B := B) hE ha.gr (fun e => by have := (own_lt hv _ e).2; omega), row_bl hy hbl hyB, Nat.le_trans hB hbl.size, fun k hk => by
      have hlt := hE.lt
      rcases ha.at_ k hk with h | h
      · have := (own_lt hv _ h).2; omega
      · omega⟩
  have key2 : ∀ W, Cd.Row W bo m bcap ys → Calls Tryz.prog 120 #[.slice none 0 0, .slice bo m bcap] W (fun e w' => ∃ g cg, e = .returned (.slice (some ⟨g, 0, none⟩) (Cd.enc ys.length ++ ys).length cg) ∧ (∀ j u, ((Cd.enc ys.length ++ ys).map Cd.by8)[j]? = some u → w'.cell? ((⟨g, 0, none⟩ : Addr).add j) = some u) ∧ Below W.heap.size W w') := by
    intro W hW
    refine (Cd.bytes_any W none 0 0 [] (nil_row W) bo m bcap ys hW (by omega) (by omega)).mono ?_
    rintro e w1 ⟨v1, rfl, ho, hb⟩
    obtain ⟨g, cg, rfl, _⟩ := row_some ho (by omega)
    have hcs := ho.cells (g := g) rfl
    refine ⟨g, cg, by simp [hyl], ?_, hb⟩
    simpa [hyl] using hcs
  have HX : Hid (xs ++ encE x ys = xs ++ encL x ++ (Cd.enc ys.length ++ ys) ∧ (xs ++ encL x).length + (Cd.enc ys.length ++ ys).length ≤ 140737488355328) := by
    refine ⟨by simp [encE], ?_⟩
    simp
    rw [hyl]
    omega
  generalize xs ++ encL x = zs at *
  generalize Cd.enc ys.length ++ ys = us at *
  have HY : Hid (B ≤ w.heap.size) := hB
  have k0 := key _ (show Below w.heap.size w (w.alloc (.cells #[.int .u64 (x.1 : Nat), .int .i64 x.2.1, .int .u64 (x.2.2.1 : Nat), .int .i64 x.2.2.2, .slice bo m bcap] 41)).drew from hb0.drew) (show Ex w.heap.size x (.slice bo m bcap) (w.alloc (.cells #[.int .u64 (x.1 : Nat), .int .i64 x.2.1, .int .u64 (x.2.2.1 : Nat), .int .i64 x.2.2.2, .slice bo m bcap] 41)).drew from ex0)
  clear key hx hx2 hf hr hm hyB hy hlen hel hep hyl hv hB hb0
  unfold ent
  unfold lab at k0
  go_enter Tryz.func94, Tryz.ntmps94
  go_wp2_with fail
  refine wp_region_noPanic ?_
  refine wp_region_held_drew (S := Ex w.heap.size x (.slice bo m bcap)) (by kernel_rfl) ex0 (fun hHeld => ?_)
  unfold Ex at hHeld
  refine tq 0 ?_
  refine tq 1 ?_
  refine tq 2 ?_
  refine tq 4 ?_
  refine tq 5 ?_
  refine comes_up 3 rfl (by kernel_rfl) (fun K hK => ?_)
  go_simp
  refine k0.mono ?_
  rintro e w1 ⟨v1, ao1, cap1, rfl, rfl, ha1, ex1, hy1, hB1, hne1⟩
  clear k0 ex0
  go_wp2_with fail
  refine hK.out _ _ ex1 (fun hHeld => ?_)
  clear hK K
  (try simp only [Act.put, List.setIfInBounds_toArray, List.set_cons_zero, List.set_cons_succ])
  refine comes_up 6 rfl (by kernel_rfl) (fun K hK => ?_)
  go_simp
  refine (key2 _ hy1).mono ?_
  rintro e w2 ⟨g, cg, rfl, hcs, hb2⟩
  obtain ⟨v3, w3, hrun, ha3⟩ := run_append_adds (ty := 37) (c := cg) (m := us.length) (own_bytes_below ha1.own hb2) (Nat.le_trans hB1 hb2.size) rfl HX.out.2 hcs
  have ex2 := ex1.bl hb2
  have ex3 : Ex w.heap.size x (.slice bo m bcap) w3 := ex_gr (B := B) ex2 ha3.gr (fun e => hne1 _ e rfl)
  have HF : Hid (Adds B w w3 (.slice ao xs.length cap) v3 (xs ++ encE x ys)) := by
    rw [HX.out.1]
    exact ha1.trans (Adds.after hb2 ha3)
  clear key2 hcs hb2 ha1 ha3 hne1 hy1 hB1 HX ex1
  go_wp2_with fail
  refine hK.out _ _ ex2 (fun hHeld => ?_)
  clear hK K
  (try simp only [Act.put, List.setIfInBounds_toArray, List.set_cons_zero, List.set_cons_succ])
  refine comes_up 7 rfl (by kernel_rfl) (fun K hK => ?_)
  refine step_append_run rfl (.tmp 8) (.tmp 11) 37 rfl (.slice ao1 zs.length cap1) (.slice (some ⟨g, 0, none⟩) us.length cg) v3 w3 (by simp [Act.eval]) (by simp [Act.eval]) hrun ?_
  refine hK.out _ _ ex3 (fun hHeld => ?_)
  clear hK K
  (try simp only [Act.put, List.setIfInBounds_toArray, List.set_cons_zero, List.set_cons_succ])
  refine tq 8 ?_
  refine wpAnyH_done (by kernel_rfl) ?_ _
  refine NoPanic.normal ?_
  go_wp2
  go_ret
  exact ⟨v3, rfl, HF.out⟩
end Go.Proofs.YtlaihgdfedalmaaGreat
