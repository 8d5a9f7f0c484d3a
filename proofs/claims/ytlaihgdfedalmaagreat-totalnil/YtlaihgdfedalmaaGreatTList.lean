/-
  Package total's store: the list of all that it holds, by their labels.
-/
import Derived.Test.YtlaihgdfedalmaaGreatTMap
import Derived.Test.YtlaihgdfedalmaaGreatTMerge
import Derived.Test.YtlaihgdfedalmaaGreatFMergeA
import Derived.OwnWalk
namespace Go.Proofs.YtlaihgdfedalmaaGreat
open Go.RowKit Go.Sort
open Go.Maps (Keyed has size Tidy IsMap)
set_option linter.unusedVariables false

/-- What a range over the store has met so far. -/
structure Met (w : World) (b r n : Nat) (m : Lb → Option Sv) (D : DataW Value) (v : Value) (out : List (Lb × Sv)) (left : Lit → Bool) (cnt : Nat) (wr : World) : Prop where
  rg : wr.ranges Tryz.prog 39 vE b r n D left cnt
  row : wr.ownsRow w.heap.size 41 5 v out.length (flatE out)
  bl : Below w.heap.size w wr
  ne : v.ownBlock ≠ some r
  rb : w.heap.size ≤ r
  ins : ∀ y ∈ out, OkL y.1 ∧ m y.1 = some y.2 ∧ ∀ k, keyOf Tryz.prog 39 (lab y.1) = some k → left k = false
  all : ∀ x k, OkL x → keyOf Tryz.prog 39 (lab x) = some k → left k = false → ∀ s, m x = some s → (x, s) ∈ out
  nd : (out.map (·.1)).Nodup
  bound : out.length + cnt ≤ n
theorem Met.start {w w1 w2 : World} {b n : Nat} {m : Lb → Option Sv} {D : DataW Value} {v : Value}
    (hD : ∀ x k, OkL x → keyOf Tryz.prog 39 (lab x) = some k → has D k = (m x).isSome ∧ D.atKey k (.held (sv (none, 0, 0))) = .held (sv ((m x).getD (none, 0, 0))))
    (hrow : w1.ownsRow w.heap.size 41 5 v 0 []) (hg1 : w.grownBy w1 none) (hrg : w2.ranges Tryz.prog 39 vE b w1.heap.size n D (has D) (size D)) (hg2 : w1.grownBy w2 none) (hs : size D ≤ n) (hv : ∀ k, v.ownBlock = some k → k < w1.heap.size) :
    Met w b w1.heap.size n m D v [] (has D) (size D) w2 where
  rg := hrg
  row := hrow.kept hg2 (by cases hq : v.ownBlock with
    | none => exact Or.inl rfl
    | some k => exact Or.inr (by simp))
  bl := ⟨(hg1.trans hg2).os, (hg1.trans hg2).tape, (hg1.trans hg2).output, (hg1.trans hg2).size, fun k hk => (hg1.trans hg2).block k hk (by simp)⟩
  ne := fun e => by have := hv _ e; omega
  rb := hg1.size
  ins := fun y hy => by simp at hy
  all := fun x k hx hk hl s hs => by
    have := (hD x k hx hk).1
    rw [hl, hs] at this
    simp at this
  nd := by simp
  bound := by simpa using hs
/-- One more has come. -/
theorem Met.came {w wr w1 w2 : World} {b r n : Nat} {m : Lb → Option Sv} {D : DataW Value} {v v' : Value} {out : List (Lb × Sv)} {left : Lit → Bool} {cnt cnt' : Nat} {x : Lb} {s : Sv} {kl : Lit} {A B : Obj} (h : Met w b r n m D v out left cnt wr)
    (hx : OkL x) (hm : m x = some s) (hk : keyOf Tryz.prog 39 (lab x) = some kl) (hl : left kl = true) (hb : b < w.heap.size)
    (hrg : w1.ranges Tryz.prog 39 vE b r n D (fun z => left z && !z.sameKey kl) cnt') (hlt : cnt' < cnt) (hg : wr.grownBy w1 (some r)) (hs : w1.heap.size = wr.heap.size)
    (ho : w2.ownsRow w.heap.size 41 5 v' (out.length + 1) (flatE out ++ cells5 (x, s))) (hg2 : ((w1.alloc A).alloc B).grownBy w2 v.ownBlock) (hat : v'.ownBlock = v.ownBlock ∨ v'.ownBlock = some ((w1.alloc A).alloc B).heap.size) :
    Met w b r n m D v' (out ++ [(x, s)]) (fun z => left z && !z.sameKey kl) cnt' w2 where
  rg := ((hrg.alloc A).alloc B).kept hg2 (fun e => by have := (h.row.lt _ e.symm).1; omega) (fun e => h.ne e.symm)
  row := by rw [flatE_snoc, List.length_append]; exact ho
  bl := by
    have b1 : Below w.heap.size w w1 := bl_grown h.bl h.bl.size hg (fun k e => by cases e; exact h.rb)
    have b2 : Below w.heap.size w ((w1.alloc A).alloc B) := (b1.alloc b1.size A).alloc (by have := b1.size; simp; omega) B
    exact bl_grown b2 b2.size hg2 (fun k e => (h.row.lt k e).1)
  ne := by
    rcases hat with e | e
    · rw [e]; exact h.ne
    · rw [e]
      intro e
      have := hrg.lt
      simp at e
      omega
  rb := h.rb
  ins := fun y hy => by
    rcases List.mem_append.1 hy with hy | hy
    · obtain ⟨h1, h2, h3⟩ := h.ins y hy
      exact ⟨h1, h2, fun k hk => by simp [h3 k hk]⟩
    · simp at hy
      subst hy
      refine ⟨hx, hm, fun k hk' => ?_⟩
      obtain rfl : kl = k := by rw [hk] at hk'; exact Option.some.inj hk'
      have hss : kl.sameKey kl = true := by
        by_cases e : kl.sameKey kl = true
        · exact e
        · exfalso
          have := Q.keyed26.key hk
          cases kl <;> simp [Lit.sameKey] at e
          all_goals simp [WideAt.IsKeyLit] at this
      simp [hss]
  all := fun y k hy hk' hlf s' hs' => by
    by_cases e : y = x
    · subst e
      rw [hm] at hs'
      cases hs'
      simp
    · have hne : k ≠ kl := fun he => e (Q.lab_inj (Q.keyed26.inj hk' (he ▸ hk)))
      rw [Maps.sameKey_ne hne] at hlf
      simp at hlf
      exact List.mem_append_left _ (h.all y k hy hk' hlf s' hs')
  nd := by
    rw [List.map_append, List.nodup_append]
    refine ⟨h.nd, by simp, fun a ha c hc => ?_⟩
    simp at hc
    subst hc
    obtain ⟨y, hy, rfl⟩ := List.mem_map.1 ha
    intro e
    have := (h.ins y hy).2.2 kl (by rw [e]; exact hk)
    rw [this] at hl
    cases hl
  bound := by have := h.bound; simp; omega

/-- What the store holds: by their labels. -/
def Con (w : World) (m : Lb → Option Sv) (es : List En) : Prop :=
  Asc es ∧ (∀ e ∈ es, OkL e.1) ∧ (∀ x, OkL x → m x = none → findE es x = none) ∧ ∀ x s, OkL x → m x = some s → ∃ bs, findE es x = some bs ∧ Cd.Row w s.1 s.2.1 s.2.2 bs
/-- The entries of what a range has met. -/
def entsOf (es : List En) (out : List (Lb × Sv)) : List En := out.map (fun y => (y.1, (findE es y.1).getD []))
theorem find_mem {es : List En} {x : Lb} {bs : List UInt8} (h : findE es x = some bs) : (x, bs) ∈ es := by
  unfold findE at h
  cases hf : es.find? (fun e => decide (e.1 = x)) with
  | none => rw [hf] at h; simp at h
  | some e =>
    rw [hf] at h
    simp at h
    have h1 := List.mem_of_find?_eq_some hf
    have h2 := List.find?_some hf
    simp at h2
    rw [← h2, ← h]
    exact h1
theorem asc_uniq : ∀ {es : List En}, Asc es → ∀ {a b : En}, a ∈ es → b ∈ es → a.1 = b.1 → a = b
  | [], _, a, b, ha, _, _ => by simp at ha
  | x :: r, h, a, b, ha, hb, e => by
    have h' := List.pairwise_cons.1 h
    rw [List.mem_cons] at ha hb
    rcases ha with rfl | ha
    · rcases hb with rfl | hb
      · rfl
      · exact absurd (h'.1 b hb) (by rw [e]; exact ltL_irr _)
    · rcases hb with rfl | hb
      · exact absurd (h'.1 a ha) (by rw [e]; exact ltL_irr _)
      · exact asc_uniq h'.2 ha hb e
theorem mem_find {es : List En} (ha : Asc es) {e : En} (h : e ∈ es) : findE es e.1 = some e.2 := by
  unfold findE
  cases hf : es.find? (fun y => decide (y.1 = e.1)) with
  | none =>
    rw [List.find?_eq_none] at hf
    have := hf e h
    simp at this
  | some y =>
    have h1 := List.mem_of_find?_eq_some hf
    have h2 := List.find?_some hf
    simp at h2
    simp
    by_cases hy : y = e
    · rw [hy]
    · exact absurd (asc_uniq ha h1 h h2) hy
theorem ents_all {w : World} {b r n : Nat} {m : Lb → Option Sv} {D : DataW Value} {v : Value} {out : List (Lb × Sv)} {left : Lit → Bool} {cnt : Nat} {wr : World} (h : Met w b r n m D v out left cnt wr) (hl : ∀ k, left k = false) {es : List En} (hc : Con w m es) :
    mergeE [] (entsOf es out) = es := by
  refine asc_ext (mergeE_asc _ _ (by simp [Asc])) hc.1 (fun z => ?_)
  rw [mergeE_fst _ _ rfl]
  constructor
  · rintro ⟨i, hi, _⟩
    have hz := List.mem_of_getElem? hi
    unfold entsOf at hz
    obtain ⟨y, hy, rfl⟩ := List.mem_map.1 hz
    obtain ⟨h1, h2, _⟩ := h.ins y hy
    obtain ⟨bs, h3, _⟩ := hc.2.2.2 _ _ h1 h2
    rw [h3]
    exact find_mem h3
  · intro hz
    have hok := hc.2.1 z hz
    have hf := mem_find hc.1 hz
    have hm : ∃ s, m z.1 = some s := by
      cases hm : m z.1 with
      | none => have := hc.2.2.1 _ hok hm; rw [hf] at this; cases this
      | some s => exact ⟨s, rfl⟩
    obtain ⟨s, hm⟩ := hm
    obtain ⟨k, hk⟩ := Q.key26 hok
    have hin := h.all z.1 k hok hk (hl k) s hm
    obtain ⟨i, hi⟩ := List.getElem?_of_mem hin
    refine ⟨i, ?_, fun j y hj hy => ?_⟩
    · unfold entsOf
      rw [List.getElem?_map, hi]
      simp [hf]
    · unfold entsOf at hy
      rw [List.getElem?_map] at hy
      cases hj' : out[j]? with
      | none => rw [hj'] at hy; cases hy
      | some u =>
        rw [hj'] at hy
        simp at hy
        subst hy
        simp
        intro e
        have hnd := h.nd
        have hj2 := (List.getElem?_eq_some_iff.1 hj')
        have hi2 := (List.getElem?_eq_some_iff.1 hi)
        have := List.pairwise_iff_getElem.1 hnd j i (by rw [List.length_map]; exact hj2.1) (by rw [List.length_map]; exact hi2.1) hj
        rw [List.getElem_map, List.getElem_map, hj2.2, hi2.2] at this
        exact this e
theorem ents_er {w : World} {b r n : Nat} {m : Lb → Option Sv} {D : DataW Value} {v : Value} {out : List (Lb × Sv)} {left : Lit → Bool} {cnt : Nat} {wr : World} (h : Met w b r n m D v out left cnt wr) {es : List En} (hc : Con w m es) :
    ∃ ao cap, v = .slice ao out.length cap ∧ ER (fun _ => True) wr ao out.length (entsOf es out) ∧ (ao = none → out.length = 0 ∧ cap = 0) := by
  have hOB : OB (fun _ => True) w wr v (entsOf es out) := by
    refine ⟨out, by simp [entsOf], by rw [show (entsOf es out).length = out.length by simp [entsOf]]; exact h.row, fun j e x he hx => ?_, h.bl⟩
    unfold entsOf at he
    rw [List.getElem?_map, hx] at he
    simp at he
    subst he
    obtain ⟨h1, h2, _⟩ := h.ins x (List.mem_of_getElem? hx)
    obtain ⟨bs, h3, h4⟩ := hc.2.2.2 _ _ h1 h2
    rw [h3]
    exact ⟨rfl, h4, fun _ _ _ => trivial⟩
  obtain ⟨ao, cap, h1, h2, h3⟩ := hOB.er (fun _ _ => trivial)
  rw [show (entsOf es out).length = out.length by simp [entsOf]] at h1 h2
  refine ⟨ao, cap, h1, h2, fun e => ⟨?_, h3 e⟩⟩
  by_cases h0 : out.length = 0
  · exact h0
  · obtain ⟨b, off, e', _⟩ := h2.2.2 (by omega)
    rw [e] at e'
    cases e'
set_option maxRecDepth 10000 in
set_option maxHeartbeats 1000000 in
/-- All that the store holds, by their labels, in new memory. -/
theorem list_any (w : World) (b n : Nat) (m : Lb → Option Sv) (es : List En) (h : StoIs w b n m) (hn : n ≤ 100000) (hc : Con w m es) (hml : ∀ e ∈ es, e.2.length ≤ 140737488355328) :
    Calls Tryz.prog 77 #[.map (some b)] w fun e w' => ∃ v B, e = .returned v ∧ w.heap.size ≤ B ∧ EO B w' v es ∧ Below w.heap.size w w' := by
  have hb := h.lt
  obtain ⟨D, ho, hD⟩ := h
  have hlen := fun ty => ho.len und95 ty
  have hsz : size D ≤ n := by
    obtain ⟨es, clock, hb, F, hle, rfl⟩ := ho
    simpa [Maps.size, DataW.length_sorted] using hle
  obtain ⟨i0, hi0, hz0, hz1, hz2⟩ := info_parts infoE29
  go_enter Tryz.func77, Tryz.ntmps77
  go_wp2_with (first | (at_make; refine wpList_make_own _ rfl _ _ 42 rfl w.heap.size 41 i0 (.agg #[.int .u64 0, .int .i64 0, .int .u64 0, .int .i64 0, .slice none 0 0]) 5 und35 hi0 hz0 hz1 _ _ _ (size D) rfl rfl rfl (by rw [hz2]; omega) (by unfold maxLen; omega) (Nat.le_refl _) ?_; intro w1 hrow hg1) | (at_range; refine wpList_range_own _ rfl _ 95 rfl 39 37 Q.keyed26 und95 vE b n D rfl (ho.kept hg1 (by simp)) ?_; intro w2 hrg hg2 hs2))
  go_frame
  have hM0 : Met w b w1.heap.size n m D (.slice (some ⟨w.heap.size, 0, none⟩) 0 (size D)) [] (has D) (size D) w2 := Met.start hD hrow hg1 hrg hg2 hsz (fun k hk => (hrow.lt k hk).2)
  generalize hr : w1.heap.size = r at *
  clear hrow hg1 hrg hg2 hs2 hlen
  go_loopw [3] (fun v wr => ∃ out left cnt, Met w b r n m D v out left cnt wr) (fun _ wr => wr.rangeLeft b r)
  case atStart => exact ⟨_, _, _, hM0⟩
  case round =>
    obtain ⟨out, left, cnt, hM⟩ := hrel
    clear hM0
    go_wp2_with (at_next; refine wpList_next_ranges _ rfl _ rfl 39 Q.keyed26 vE (fun x : { x : Lb // OkL x } => lab x.1) (fun s : Sv => sv s) (fun key kl hk => key_inv hk) (fun v y hv => ?iv) b r n _ _ _ rfl hM.rg ?_ ?_)
    case iv =>
      cases v <;> simp [vE] at hv
      exact ⟨(_, _, _), rfl⟩
    case refine_1 =>
      intro h0 hl
      have he := ents_all hM hl hc
      obtain ⟨ao, cap, rfl, hER, hz⟩ := ents_er hM hc
      have hbnd := hM.bound
      have HB : Hid (Below w.heap.size w wr) := hM.bl
      have hel : (entsOf es out).length = out.length := by simp [entsOf]
      have hmg := merge_any wr none 0 0 [] (ER.nil _ _ _) (fun _ => ⟨rfl, rfl⟩) ao out.length cap (entsOf es out) hER hz (by omega) (fun e he' => by
        rw [List.nil_append] at he'
        unfold entsOf at he'
        obtain ⟨y, hy, rfl⟩ := List.mem_map.1 he'
        obtain ⟨q1, q2, _⟩ := hM.ins y hy
        obtain ⟨bs, q3, _⟩ := hc.2.2.2 _ _ q1 q2
        simp only [q3, Option.getD_some]
        exact hml _ (find_mem q3))
      rw [List.nil_append, he] at hmg
      clear hM he hER hz hD ho hc hml
      go_wp2_with fail
      refine hmg.mono ?_
      rintro e w4 ⟨v, rfl, hE, hb4⟩
      clear hmg
      go_wp2
      go_ret
      exact ⟨_, _, rfl, HB.out.size, hE, HB.out.trans (hb4.mono HB.out.size)⟩
    case refine_2 =>
      intro a0 a1 a2 a3 hx s0 s1 s2 kl yd yp w3 cnt' hk hlk hv hat hrg' hlt hg3 hs3 hen
      have hm : m (a0, a1, a2, a3) = some (s0, s1, s2) := by
        obtain ⟨q1, q2⟩ := hD _ kl hx hk
        rw [Maps.has_true_of_atKey hat] at q1
        rw [hat] at q2
        simp [vE, sv] at hv
        obtain ⟨rfl, _⟩ := hv
        cases hq : m (a0, a1, a2, a3) with
        | none => rw [hq] at q1; cases q1
        | some s =>
          rw [hq] at q2
          simp [sv] at q2
          obtain ⟨t0, t1, t2⟩ := s
          simp at q2
          obtain ⟨rfl, rfl, rfl⟩ := q2
          rfl
      have hbnd := hM.bound
      have hne : ∀ k, u3.ownBlock = some k → k ≠ r := fun k hq e => hM.ne (by rw [hq, e])
      have hrow3 : w3.ownsRow w.heap.size 41 5 u3 out.length (flatE out) := hM.row.kept hg3 (by
        cases hq : u3.ownBlock with
        | none => exact Or.inl rfl
        | some k => exact Or.inr (by simp; exact hne k hq))
      have hrowA : ((w3.alloc (.cells #[.int .u64 (a0 : Nat), .int .i64 a1, .int .u64 (a2 : Nat), .int .i64 a3] 39)).alloc (.cells #[.int .u64 (a0 : Nat), .int .i64 a1, .int .u64 (a2 : Nat), .int .i64 a3, .slice s0 s1 s2] 41)).ownsRow w.heap.size 41 5 u3 out.length (flatE out) := (hrow3.alloc _).alloc _
      have hcA : ∀ j u, (cells5 ((a0, a1, a2, a3), (s0, s1, s2)))[j]? = some u → ((w3.alloc (.cells #[.int .u64 (a0 : Nat), .int .i64 a1, .int .u64 (a2 : Nat), .int .i64 a3] 39)).alloc (.cells #[.int .u64 (a0 : Nat), .int .i64 a1, .int .u64 (a2 : Nat), .int .i64 a3, .slice s0 s1 s2] 41)).cell? ((⟨w3.heap.size + 1, 0, none⟩ : Addr).add j) = some u := fun j u hj => by
        rw [Addr.add_lit, Nat.zero_add]
        have := cell_box (w3.alloc (.cells #[.int .u64 (a0 : Nat), .int .i64 a1, .int .u64 (a2 : Nat), .int .i64 a3] 39)) #[.int .u64 (a0 : Nat), .int .i64 a1, .int .u64 (a2 : Nat), .int .i64 a3, .slice s0 s1 s2] 41 j u (by simpa [cells5] using hj)
        simpa using this
      have hsB : w.heap.size ≤ ((w3.alloc (.cells #[.int .u64 (a0 : Nat), .int .i64 a1, .int .u64 (a2 : Nat), .int .i64 a3] 39)).alloc (.cells #[.int .u64 (a0 : Nat), .int .i64 a1, .int .u64 (a2 : Nat), .int .i64 a3, .slice s0 s1 s2] 41)).heap.size := by have := hM.bl.size; simp; omega
      have hfin : ∀ v' w4, w4.ownsRow w.heap.size 41 5 v' (out.length + 1) (flatE out ++ cells5 ((a0, a1, a2, a3), (s0, s1, s2))) → ((w3.alloc (.cells #[.int .u64 (a0 : Nat), .int .i64 a1, .int .u64 (a2 : Nat), .int .i64 a3] 39)).alloc (.cells #[.int .u64 (a0 : Nat), .int .i64 a1, .int .u64 (a2 : Nat), .int .i64 a3, .slice s0 s1 s2] 41)).grownBy w4 u3.ownBlock → (v'.ownBlock = u3.ownBlock ∨ v'.ownBlock = some ((w3.alloc (.cells #[.int .u64 (a0 : Nat), .int .i64 a1, .int .u64 (a2 : Nat), .int .i64 a3] 39)).alloc (.cells #[.int .u64 (a0 : Nat), .int .i64 a1, .int .u64 (a2 : Nat), .int .i64 a3, .slice s0 s1 s2] 41)).heap.size) → Hid (Met w b r n m D v' (out ++ [((a0, a1, a2, a3), (s0, s1, s2))]) (fun z => left z && !z.sameKey kl) cnt' w4 ∧ w4.rangeLeft b r < wr.rangeLeft b r) := fun v' w4 q1 q2 q3 => by
        have M' := hM.came hx hm hk hlk hb hrg' hlt hg3 hs3 q1 q2 q3
        refine ⟨M', ?_⟩
        rw [M'.rg.left_eq, hM.rg.left_eq]
        exact hlt
      unfold lab at hen
      unfold sv at hen
      simp only at hen
      have HOUT : Hid (out.length ≤ 100000) := by unfold Hid; omega
      clear hM hrow3 hm hD hc hml ho hx hk hlk hv hat hrg' hlt hg3 hs3 hne hbnd hb hsz
      unfold lab sv
      simp only
      go_wp2_with (at_builtin; refine wpList_append_own_at _ rfl (.tmp 16) (.tmp 20) 42 rfl w.heap.size 41 i0 (.agg #[.int .u64 0, .int .i64 0, .int .u64 0, .int .i64 0, .slice none 0 0]) 5 56 und35 hi0 hz0 hz1 hz2 rfl (by decide) _ out.length (flatE out) rfl hrowA ⟨w3.heap.size + 1, 0, none⟩ 1 1 (cells5 ((a0, a1, a2, a3), (s0, s1, s2))) ?d7 ?d0 hcA ?d3 ?d4 ?d5 hsB ?_)
      case d7 => rfl
      case d0 => simp [cells5]
      case d3 => intro u hu; simp [cells5] at hu; rcases hu with rfl | rfl | rfl | rfl | rfl <;> rfl
      case d4 => have := HOUT.out; unfold maxLen; omega
      case d5 => have := HOUT.out; omega
      intro v' w4 q1 q2 _ q3
      have HF := hfin v' w4 q1 q2 (by simpa using q3)
      clear hfin q1 q2 q3 hrowA hcA hsB hen
      go_wp2
      go_roundw
      case rel => first | exact ⟨_, _, _, HF.out.1⟩ | ((repeat apply Exists.intro); exact ⟨⟨_, _, _, HF.out.1⟩, rfl⟩)
      case measure => exact HF.out.2
end Go.Proofs.YtlaihgdfedalmaaGreat
