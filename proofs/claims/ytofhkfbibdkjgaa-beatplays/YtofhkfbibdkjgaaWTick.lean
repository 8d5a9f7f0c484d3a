/-
  The wheel's call Tick: the tick goes on by one; the timers that are due come by how they were armed, and are armed no more.
-/
import Derived.Test.YtofhkfbibdkjgaaWMid
namespace Go.Proofs.Ytofhkfbibdkjgaa
open Go.RowKit
set_option linter.unusedVariables false

theorem sort_row (w : World) (p m B n base : Nat) (T : Int → Option Tm) (hB : w.cell? ⟨B, 0, none⟩ = some (.pointer (some ⟨p, 0, none⟩))) (h2 : w.cell? ⟨p, 2, none⟩ = some (.map (some m))) (hm : MapIs w m n T)
    (ds : List Int) (hds : ∀ i ∈ ds, In i) (v : Value) (hown : w.ownsRow base 3 1 v ds.length (ds.map (Value.int .i64))) (hv : ∀ g, v.ownBlock = some g → g ≠ B ∧ g ≠ p ∧ g ≠ m) (hlen : ds.length < 4611686018427387904) :
    Calls Try.prog 28 #[v, .func (.func 29) #[] #[.pointer (some ⟨B, 0, none⟩)]] w fun e w' => e = .returned (.tuple #[]) ∧ ∃ ds' : List Int, ds'.Perm ds ∧ ds'.Pairwise (fun i j => ¬ armedOf T j < armedOf T i) ∧
      w'.ownsRow base 3 1 v ds.length (ds'.map (Value.int .i64)) ∧ Turned (fun b => v.ownBlock = some b) w w' := by
  rcases hown.2 with ⟨rfl, h0⟩ | ⟨g, cap, cur, rfl, _⟩
  · have hn : ds = [] := by simpa using h0
    subst hn
    exact (sort_none w none 0 _).mono fun e w' ⟨he, hw⟩ => ⟨he, [], List.Perm.refl _, List.Pairwise.nil, hw ▸ hown, hw ▸ Turned.refl _ _⟩
  · obtain ⟨a1, a2, a3⟩ := hv g rfl
    exact (sort_any w p m B n base g cap T hB h2 hm ds hds hown a1 a2 a3 hlen).mono fun e w' ⟨he, ds', x1, x2, x3, x4⟩ => ⟨he, ds', x1, x2, x3, x4.mono (fun i hi => by rw [hi]; rfl)⟩

set_option maxRecDepth 10000 in
theorem tick_nil (w : World) : Calls Try.prog 23 #[.pointer none] w fun e w' => e = .returned (.tuple #[.slice none 0 0, .int .i64 6]) ∧ ∃ o, w' = w.alloc o := by
  go_enter Try.func23, Try.ntmps23
  go_wp2
  go_ret2
  exact ⟨rfl, _, rfl⟩

set_option maxRecDepth 10000 in
theorem tick_last (w : World) (p : Nat) (hc : w.cell? ⟨p, 0, none⟩ = some (.int .u64 1152921504606846976)) : Calls Try.prog 23 #[.pointer (some ⟨p, 0, none⟩)] w fun e w' => e = .returned (.tuple #[.slice none 0 0, .int .i64 1]) ∧ ∃ o, w' = w.alloc o := by
  have hp := World.block_lt_of_cell? w _ hc
  have hc' : ∀ o : Obj, (w.alloc o).cell? ⟨p, 0, none⟩ = some (.int .u64 1152921504606846976) := fun o => by rw [cell_block (Below.heap_alloc w o p hp)]; exact hc
  go_enter Try.func23, Try.ntmps23
  go_wp2
  go_ret2
  exact ⟨rfl, _, rfl⟩

/-- A block that is neither the wheel's nor older than a call. -/
structure Apart (B : Nat) (p m : Nat) (V : Nat → Value) (w : World) (b : Nat) : Prop where
  new : B ≤ b
  lt : b < w.heap.size
  no : ¬ Foot p m V b
theorem Apart.goes {B p m : Nat} {V V' : Nat → Value} {w w' : World} {b : Nat} (h : Apart B p m V w b) (g : Goes p m V w V' w') : Apart B p m V' w' b ∧ w'.heap[b]? = w.heap[b]? :=
  ⟨⟨h.new, Nat.lt_of_lt_of_le h.lt g.turned.size, fun hf => (g.foot b hf).elim h.no (fun hle => by have := h.lt; omega)⟩, g.turned.block b h.lt h.no⟩

theorem row_base {w : World} {base base' e size n : Nat} {v : Value} {xs : List Value} (h : w.ownsRow base e size v n xs) (hb : base' ≤ base) : w.ownsRow base' e size v n xs := by
  refine ⟨h.1, ?_⟩
  rcases h.2 with h2 | ⟨g, cap, cur, h2, h3, h4⟩
  · exact .inl h2
  · exact .inr ⟨g, cap, cur, h2, by omega, h4⟩

/-- Tick's first loop, at the timer with the number r of those that were reached. -/
structure Lp (w : World) (p m : Nat) (V : Nat → Value) (now arms n : Nat) (T : Int → Option Tm) (ids : List Int) (vi : Value) (r : Nat) (vd : Value) (wr : World) (V' : Nat → Value) (T' : Int → Option Tm) (S' : Nat → List Int) : Prop where
  rep : Rep wr p m V' now arms n T' S'
  mid : Mid now T ids r T' S'
  goes : Goes p m V w V' wr
  box : wr.cell? ⟨w.heap.size, 0, none⟩ = some (.pointer (some ⟨p, 0, none⟩))
  abox : Apart w.heap.size p m V' wr w.heap.size
  rowi : wr.ownsRow w.heap.size 3 1 vi ids.length (ids.map (Value.int .i64))
  ai : ∀ b, vi.ownBlock = some b → Apart w.heap.size p m V' wr b ∧ b ≠ w.heap.size
  rowd : wr.ownsRow w.heap.size 3 1 vd (dues T now (ids.take r)).length ((dues T now (ids.take r)).map (Value.int .i64))
  ad : ∀ b, vd.ownBlock = some b → Apart w.heap.size p m V' wr b ∧ b ≠ w.heap.size ∧ vi.ownBlock ≠ some b

theorem Lp.step {w wr w2 : World} {p m now arms n r : Nat} {V V' V2 : Nat → Value} {T T' T2 : Int → Option Tm} {S' S2 : Nat → List Int} {ids : List Int} {vi vd : Value} (h : Lp w p m V now arms n T ids vi r vd wr V' T' S')
    (hg : Goes p m V' wr V2 w2) (hrep : Rep w2 p m V2 now arms n T2 S2) (hmid : Mid now T ids (r + 1) T2 S2) (hd : dues T now (ids.take (r + 1)) = dues T now (ids.take r)) : Lp w p m V now arms n T ids vi (r + 1) vd w2 V2 T2 S2 where
  rep := hrep
  mid := hmid
  goes := h.goes.trans hg
  box := by rw [cell_block (h.abox.goes hg).2]; exact h.box
  abox := (h.abox.goes hg).1
  rowi := row_block h.rowi (fun b hb => ((h.ai b hb).1.goes hg).2)
  ai := fun b hb => ⟨((h.ai b hb).1.goes hg).1, (h.ai b hb).2⟩
  rowd := by rw [hd]; exact row_block h.rowd (fun b hb => ((h.ad b hb).1.goes hg).2)
  ad := fun b hb => ⟨((h.ad b hb).1.goes hg).1, (h.ad b hb).2⟩

theorem Lp.app {w wr wb w2 : World} {p m now arms n r : Nat} {V V' : Nat → Value} {T T' : Int → Option Tm} {S' : Nat → List Int} {ids : List Int} {vi vd vd' : Value} {id : Int} (h : Lp w p m V now arms n T ids vi r vd wr V' T' S')
    (hg0 : Turned (fun _ => False) wr wb) (hgrow : wb.grownBy w2 vd.ownBlock) (hrow : w2.ownsRow w.heap.size 3 1 vd' ((dues T now (ids.take r)).length + 1) ((dues T now (ids.take r)).map (Value.int .i64) ++ [.int .i64 id])) (hat : vd'.ownBlock = vd.ownBlock ∨ vd'.ownBlock = some wb.heap.size)
    (hmid : Mid now T ids (r + 1) T' S') (hd : dues T now (ids.take (r + 1)) = dues T now (ids.take r) ++ [id]) : Lp w p m V now arms n T ids vi (r + 1) vd' w2 V' T' S' := by
  have hwb : wr.heap.size ≤ wb.heap.size := hg0.size
  have hw2 := hgrow.size
  have hrf := h.rep.foot_lt
  have hws := h.goes.turned.size
  have hal := h.abox.lt
  have hkeep : ∀ b, b < wr.heap.size → vd.ownBlock ≠ some b → w2.heap[b]? = wr.heap[b]? := fun b hb hn => (hgrow.block b (by omega) (fun e => hn e.symm)).trans (hg0.block b hb (fun f => f))
  have hbox := hkeep w.heap.size hal (fun e => (h.ad _ e).2.1 rfl)
  have hvi : ∀ b, vi.ownBlock = some b → w2.heap[b]? = wr.heap[b]? := fun b hb => hkeep b (h.ai b hb).1.lt (fun e => (h.ad b e).2.2 hb)
  have hT : Turned (fun b => w.heap.size ≤ b) wr w2 := (hg0.mono (fun _ f => f.elim)).trans (Turned.of_grown (F := fun b => w.heap.size ≤ b) hgrow (fun b hb => (h.ad b hb).1.new)) (fun i hi => .inl hi)
  exact {
    rep := h.rep.frame (fun b hb => hkeep b (hrf b hb) (fun e => (h.ad b e).1.no hb))
    mid := hmid
    goes := ⟨h.goes.turned.trans hT (fun i hi => .inr hi), h.goes.foot⟩
    box := by rw [cell_block hbox]; exact h.box
    abox := ⟨h.abox.new, by omega, h.abox.no⟩
    rowi := row_block h.rowi hvi
    ai := fun b hb => ⟨⟨(h.ai b hb).1.new, by have := (h.ai b hb).1.lt; omega, (h.ai b hb).1.no⟩, (h.ai b hb).2⟩
    rowd := by rw [hd, List.map_append, List.length_append]; exact hrow
    ad := fun b hb => by
      rcases hat with e | e
      · rw [e] at hb
        have := h.ad b hb
        exact ⟨⟨this.1.new, by have := this.1.lt; omega, this.1.no⟩, this.2⟩
      · have hlt := (hrow.lt b hb).2
        rw [e] at hb
        cases hb
        exact ⟨⟨by omega, hlt, fun hf => by have := hrf _ hf; omega⟩, by omega, fun e2 => by have := (h.ai _ e2).1.lt; omega⟩ }

/-- Tick's second loop, behind c of the timers that are due. -/
structure Dl (w : World) (p m : Nat) (V : Nat → Value) (now arms n : Nat) (V' : Nat → Value) (T' : Int → Option Tm) (S' : Nat → List Int) (E : List Int) (vd : Value) (c : Nat) (wr : World) (Tc : Int → Option Tm) (nc : Nat) : Prop where
  rep : Rep wr p m V' now arms nc Tc S'
  tc : ∀ i, Tc i = if i ∈ E.take c then none else T' i
  nc : nc + c = n
  goes : Goes p m V w V' wr
  box : wr.cell? ⟨w.heap.size, 0, none⟩ = some (.pointer (some ⟨p, 0, none⟩))
  row : wr.ownsRow w.heap.size 3 1 vd E.length (E.map (Value.int .i64))

theorem Dl.step {w wr w2 : World} {p m now arms n c nc : Nat} {V V' : Nat → Value} {T' Tc : Int → Option Tm} {S' : Nat → List Int} {E : List Int} {vd : Value} (h : Dl w p m V now arms n V' T' S' E vd c wr Tc nc)
    (hno : ∀ b, vd.ownBlock = some b → ¬ Foot p m V' b) (hnb : ¬ Foot p m V' w.heap.size) {id : Int} (hid : E[c]? = some id) (hsome : (Tc id).isSome = true) (hm : MapIs w2 m (cntDown Tc id nc) (upd Tc id none)) (ht : wr.mapTurned w2 m) (hpos : 0 < nc) :
    Dl w p m V now arms n V' T' S' E vd (c + 1) w2 (upd Tc id none) (nc - 1) := by
  have hk : ∀ b, b < wr.heap.size → ¬ Foot p m V' b → w2.heap[b]? = wr.heap[b]? := fun b hb hf => ht.grown.block b hb (by intro e; exact hf (.inr (.inl (by simpa using e))))
  have hb := World.block_lt_of_cell? wr _ h.box
  exact {
    rep := by
      have := h.rep.setMap ht hm
      rwa [show cntDown Tc id nc = nc - 1 by unfold cntDown; rw [if_pos hsome]] at this
    tc := by
      intro i
      by_cases e : i = id
      · subst e
        rw [upd_same, if_pos]
        rw [List.take_add_one, hid]
        simp
      · rw [upd_other _ _ _ _ e, h.tc]
        have : i ∈ E.take (c + 1) ↔ i ∈ E.take c := by rw [List.take_add_one, hid]; simp [e]
        by_cases c : i ∈ E.take c
        · rw [if_pos c, if_pos (this.2 c)]
        · rw [if_neg c, if_neg (fun x => c (this.1 x))]
    nc := by have := h.nc; omega
    goes := h.goes.trans (Goes.setMap h.rep ht)
    box := by rw [cell_block (hk _ hb hnb)]; exact h.box
    row := row_block h.row (fun b hb => hk b (h.row.lt b hb).2 (hno b hb)) }

set_option maxRecDepth 20000 in
set_option maxHeartbeats 2000000 in
theorem tick_any (w : World) (p m : Nat) (V : Nat → Value) (now arms n : Nat) (T : Int → Option Tm) (S : Nat → List Int) (L : List Int) (h : Rep w p m V now arms n T S) (hok : Ok now arms n T S L) (hnow : now < 1152921504606846976) (harms : arms < 4294967296) :
    Calls Try.prog 23 #[.pointer (some ⟨p, 0, none⟩)] w fun e w' => ∃ v V' n' T' S', e = .returned (.tuple #[v, .int .i64 0]) ∧
      w'.ownsRow w.heap.size 3 1 v (L.filter (fun i => decide (dueOf T i = now + 1))).length ((L.filter (fun i => decide (dueOf T i = now + 1))).map (Value.int .i64)) ∧ Rep w' p m V' (now + 1) arms n' T' S' ∧
      Ok (now + 1) arms n' T' S' (L.filter (fun i => decide (dueOf T i ≠ now + 1))) ∧ (∀ i, dueOf T i ≠ now + 1 → dueOf T' i = dueOf T i) ∧ Goes p m V w V' w' ∧ (∀ b, v.ownBlock = some b → ¬ Foot p m V' b) := by
  have hnle := hok.le
  have hsl : ∀ k, k < 256 → (S k).length ≤ n := fun k hk => hok.slen hk
  have hc0 := h.c0
  have hplt := h.plt
  have hfr := h.fr 0
  have hA : ∀ o : Obj, Rep ((w.alloc o).setCell ⟨p, 0, none⟩ (.int .u64 ((now + 1 : Nat) : Int))) p m V (now + 1) arms n T S := fun o => (h.alloc o).setNow (now + 1)
  have hc0' : ∀ o : Obj, (w.alloc o).cell? ⟨p, 0, none⟩ = some (.int .u64 (now : Nat)) := fun o => (h.alloc o).c0
  have hfr' : ∀ o : Obj, (w.alloc o).frozen? ⟨p, 0, none⟩ = false := fun o => (h.alloc o).fr 0
  have HR : Hid (∀ o : Obj, Rep ((w.alloc o).setCell ⟨p, 0, none⟩ (.int .u64 ((now + 1 : Nat) : Int))) p m V (now + 1) arms n T S) := hA
  clear hA
  have hsz0 : ∀ (o : Obj) (x : Value), ((w.setCell ⟨p, 0, none⟩ x).alloc o).heap.size = w.heap.size + 1 := fun o x => by rw [World.size_alloc]; simp [World.setCell]
  have hrep0 : ∀ o : Obj, Rep ((w.setCell ⟨p, 0, none⟩ (.int .u64 ((now : Int) + 1))).alloc o) p m V (now + 1) arms n T S := fun o => by
    have := (h.setNow (now + 1)).alloc o
    simpa using this
  have hgo0 : ∀ (o : Obj) (x : Value), Goes p m V w V ((w.setCell ⟨p, 0, none⟩ x).alloc o) := fun o x => ⟨((Turned.refl _ w).setCell (.inl (.inl rfl)) x).alloc o, fun _ hb => .inl hb⟩
  have hbx0 : ∀ (x u : Value), ((w.setCell ⟨p, 0, none⟩ x).alloc (.cells #[u] 42)).cell? ⟨w.heap.size, 0, none⟩ = some u := fun x u => by
    have e : (w.setCell ⟨p, 0, none⟩ x).heap.size = w.heap.size := by simp [World.setCell]
    rw [← e]
    exact cell_of_row _ _ _ _ 42 (0, 0) (heap_alloc_new _ _)
  have HR0 : Hid (∀ o : Obj, Rep ((w.setCell ⟨p, 0, none⟩ (.int .u64 ((now : Int) + 1))).alloc o) p m V (now + 1) arms n T S) := hrep0
  have HG0 : Hid (∀ (o : Obj) (x : Value), Goes p m V w V ((w.setCell ⟨p, 0, none⟩ x).alloc o)) := hgo0
  have HB0 : Hid (∀ (x u : Value), ((w.setCell ⟨p, 0, none⟩ x).alloc (.cells #[u] 42)).cell? ⟨w.heap.size, 0, none⟩ = some u) := hbx0
  have HZ0 : Hid (∀ (o : Obj) (x : Value), ((w.setCell ⟨p, 0, none⟩ x).alloc o).heap.size = w.heap.size + 1) := hsz0
  have HOK : Hid (Ok now arms n T S L) := hok
  have HSL : Hid (∀ k, k < 256 → (S k).length ≤ n) := hsl
  have H0 : Hid (Rep w p m V now arms n T S) := h
  clear hrep0 hgo0 hbx0 hsz0 hok hsl h HR
  go_enter Try.func23, Try.ntmps23
  go_wp2_with (first | (go_at_call 27; refine (reached_any _ p m V (now + 1) arms n T S ?c1 ?c2 ?c3).mono ?_; rotate_left 3; rintro e w1 ⟨z, v1, V1, rfl, hz, hz1, hz2, hown1, hrep1, hgo1, hft1⟩; obtain ⟨ao, cap, rfl, hcap, hmax⟩ := row_shape hown1))
  case c1 => exact HR0.out _
  case c2 => omega
  case c3 => intro k hk; have := HSL.out k hk; omega
  have hReach : Reach (now + 1) z := ⟨hz, hz1, hz2⟩
  rw [HZ0.out] at hown1 hft1
  have hgo : Goes p m V w V1 w1 := (HG0.out _ _).trans hgo1
  have hab : Apart w.heap.size p m V ((w.setCell ⟨p, 0, none⟩ (.int .u64 ((now : Int) + 1))).alloc (.cells #[.pointer (some ⟨p, 0, none⟩)] 42)) w.heap.size := ⟨Nat.le_refl _, by rw [HZ0.out]; omega, fun hf => by have := H0.out.foot_lt _ hf; omega⟩
  obtain ⟨hab1, hbk⟩ := hab.goes hgo1
  have hbox1 : w1.cell? ⟨w.heap.size, 0, none⟩ = some (.pointer (some ⟨p, 0, none⟩)) := by rw [cell_block hbk]; exact HB0.out _ _
  have hLp : Lp w p m V (now + 1) arms n T (flat (now + 1) S z) (.slice ao (flat (now + 1) S z).length cap) 0 (.slice none 0 0) w1 V1 T (cleared (now + 1) S z) := {
    rep := hrep1
    mid := Mid.start HOK.out hReach
    goes := hgo
    box := hbox1
    abox := hab1
    rowi := row_base hown1 (by omega)
    ai := fun b hb => ⟨⟨by have := (hown1.lt b hb).1; omega, (hown1.lt b hb).2, fun hf => by have := hft1 b hf; have := (hown1.lt b hb).1; omega⟩, by have := (hown1.lt b hb).1; omega⟩
    rowd := ⟨rfl, .inl ⟨rfl, rfl⟩⟩
    ad := fun b hb => nomatch hb }
  have hids : (flat (now + 1) S z).Nodup := flat_nodup HOK.out.slots z hz
  have hsome : ∀ i, i ∈ flat (now + 1) S z → ∃ tm, T i = some tm := fun i hi => flat_some HOK.out hReach hi
  have hlen : (flat (now + 1) S z).length ≤ n := by
    rw [← HOK.out.len]
    exact hids.length_le_of_subset (fun i hi => (HOK.out.mem i).2 (by obtain ⟨tm, e⟩ := hsome i hi; rw [e]; rfl))
  have HRC : Hid (Reach (now + 1) z) := hReach
  obtain ⟨ids, hidse⟩ : ∃ ids, flat (now + 1) S z = ids := ⟨_, rfl⟩
  have HIE : Hid (flat (now + 1) S z = ids) := hidse
  have HLP : Hid (Lp w p m V (now + 1) arms n T (flat (now + 1) S z) (.slice ao (flat (now + 1) S z).length cap) 0 (.slice none 0 0) w1 V1 T (cleared (now + 1) S z)) := hLp
  rw [hidse] at hids hsome hlen HLP hcap
  obtain ⟨X, hX⟩ : ∃ X, ids.length = X := ⟨_, rfl⟩
  have HX : Hid (ids.length = X) := hX
  rw [hidse, hX]
  rw [hX] at hlen HLP hcap
  have HN : Hid ids.Nodup := hids
  have HS : Hid (∀ i, i ∈ ids → ∃ tm, T i = some tm) := hsome
  clear hids hsome hLp hReach hown1 hrep1 hgo1 hft1 hgo hab hab1 hbk hbox1 hz hz1 hz2 hX hidse
  unfold maxLen at hmax
  go_loopw [4, 27] (fun v i wr => ∃ r V' T' S', r ≤ X ∧ i = .int .i64 (r : Nat) ∧ Lp w p m V (now + 1) arms n T ids (.slice ao X cap) r v wr V' T' S') (fun _ i _ => X - (intOf i).toNat)
  case atStart => exact ⟨0, _, _, _, by omega, rfl, HLP.out⟩
  case round =>
    obtain ⟨r, V', T', S', hr, rfl, hlp⟩ := hrel
    by_cases hrX : r = X
    · subst hrX
      have htk : ids.take r = ids := by rw [List.take_of_length_le (by rw [HX.out]; omega)]
      have hrowd := hlp.rowd
      rw [htk] at hrowd
      have hEin : ∀ i, i ∈ dues T (now + 1) ids → In i := by
        intro i hi
        unfold dues at hi
        obtain ⟨tm, e⟩ := HS.out i (List.mem_filter.1 hi).1
        exact (HOK.out.bound i tm e).1
      have hDl : (dues T (now + 1) ids).length ≤ n := by
        refine Nat.le_trans (List.length_filter_le _ _) ?_
        rw [HX.out]; exact hlen
      have hsort := sort_row wr p m w.heap.size n w.heap.size T' hlp.box hlp.rep.c2 hlp.rep.map (dues T (now + 1) ids) hEin u4 hrowd (fun g hg => by
        obtain ⟨a1, a2, a3⟩ := hlp.ad g hg
        exact ⟨a2, fun e => a1.no (.inl e), fun e => a1.no (.inr (.inl e))⟩) (by omega)
      have hbox := hlp.box
      have hbl := hlp.abox.lt
      obtain ⟨aod, capd, rfl, hcapd, hmaxd⟩ := row_shape hrowd
      have HLP' : Hid (Lp w p m V (now + 1) arms n T ids (.slice ao r cap) r (.slice aod (dues T (now + 1) ids).length capd) wr V' T' S') := hlp
      clear hlp hrowd hEin htk
      go_wp2_with (first | (go_at_call 28; refine hsort.mono ?_; rintro e w4 ⟨rfl, ds, hperm, hpw, hrow4, hturn4⟩))
      have hlp := HLP'.out
      have hE := dues_are HOK.out HRC.out hlp.mid.key (by rw [HIE.out]; exact hperm) hpw
      have hDE : (L.filter (fun i => decide (dueOf T i = now + 1))).length = (dues T (now + 1) ids).length := by rw [← hE]; exact hperm.length_eq
      rw [hE] at hrow4
      have hk4 : ∀ b, Foot p m V' b → w4.heap[b]? = wr.heap[b]? := fun b hb => hturn4.block b (hlp.rep.foot_lt b hb) (fun e => (hlp.ad b e).1.no hb)
      have hbk4 := hturn4.block w.heap.size hbl (fun e => (hlp.ad _ e).2.1 rfl)
      have hnb := hlp.abox.no
      have hno : ∀ b, (Value.slice aod (dues T (now + 1) ids).length capd).ownBlock = some b → ¬ Foot p m V' b := fun b hb => (hlp.ad b hb).1.no
      have hmid := hlp.mid
      have hgo4 : Goes p m V w V' w4 := ⟨hlp.goes.turned.trans hturn4 (fun i hi => .inr (hlp.ad i hi).1.new), hlp.goes.foot⟩
      have hrep4 : Rep w4 p m V' (now + 1) arms n T' S' := hlp.rep.frame hk4
      have hbox4 : w4.cell? ⟨w.heap.size, 0, none⟩ = some (.pointer (some ⟨p, 0, none⟩)) := by rw [cell_block hbk4]; exact hbox
      generalize (dues T (now + 1) ids).length = D at *
      generalize hEE : L.filter (fun i => decide (dueOf T i = now + 1)) = E at *
      have HDE : Hid (E.length = D) := hDE
      have hdl : Dl w p m V (now + 1) arms n V' T' S' E (.slice aod D capd) 0 w4 T' n := {
        rep := hrep4
        tc := fun i => by simp
        nc := rfl
        goes := hgo4
        box := hbox4
        row := by rw [HDE.out]; exact hrow4 }
      have HDL : Hid (Dl w p m V (now + 1) arms n V' T' S' E (.slice aod D capd) 0 w4 T' n) := hdl
      have HEE : Hid (L.filter (fun i => decide (dueOf T i = now + 1)) = E) := hEE
      have HNO : Hid (∀ b, (Value.slice aod D capd).ownBlock = some b → ¬ Foot p m V' b) := hno
      have HNB : Hid (¬ Foot p m V' w.heap.size) := hnb
      have HMID : Hid (Mid (now + 1) T ids r T' S') := hmid
      clear hdl hEE hno hnb hmid hgo4 hrep4 hbox4 hbk4 hk4 hrow4 hE hDE hperm hpw hturn4 hsort hlp hbox hbl HLP HLP'
      obtain ⟨wo, hwo⟩ : ∃ wo : World, wo = wr := ⟨_, rfl⟩
      go_loopw [58] (fun i wd => ∃ c Tc nc, c ≤ D ∧ i = .int .i64 (c : Nat) ∧ Dl w p m V (now + 1) arms n V' T' S' E (.slice aod D capd) c wd Tc nc) (fun i _ => D - (intOf i).toNat)
      case atStart => exact ⟨0, _, _, by omega, rfl, HDL.out⟩
      case round =>
        obtain ⟨c, Tc, nc, hc, rfl, hdl⟩ := hrel
        by_cases hcD : c = D
        · subst hcD
          have htk : E.take c = E := by rw [List.take_of_length_le (by rw [HDE.out]; omega)]
          have htc := hdl.tc
          rw [htk] at htc
          have hm : Mid (now + 1) T (flat (now + 1) S z) (flat (now + 1) S z).length T' S' := by rw [HIE.out, HX.out]; exact HMID.out
          have hfin := HOK.out.tick HRC.out hm (T'' := Tc) (by rw [HEE.out]; exact htc) (n' := nc) (by rw [HEE.out, HDE.out]; exact hdl.nc) (by omega)
          have hrow := hdl.row
          rw [HDE.out] at hrow
          have HF : Hid (Ok (now + 1) arms nc Tc S' (L.filter (fun i => decide (dueOf T i ≠ now + 1))) ∧ ∀ i, dueOf T i ≠ now + 1 → dueOf Tc i = dueOf T i) := hfin
          have HW : Hid (wr.ownsRow w.heap.size 3 1 (.slice aod c capd) E.length (E.map (Value.int .i64))) := by rw [HDE.out]; exact hrow
          have HDL' : Hid (Dl w p m V (now + 1) arms n V' T' S' E (.slice aod c capd) c wr Tc nc) := hdl
          clear htc hm hfin hrow hdl htk
          go_wp2
          go_ret2
          refine ⟨_, V', nc, Tc, S', rfl, ?_, HDL'.out.rep, HF.out.1, HF.out.2, HDL'.out.goes, HNO.out⟩
          rw [HEE.out]
          exact HW.out
        · have hcl : c < E.length := by rw [HDE.out]; omega
          obtain ⟨id, hid⟩ : ∃ id, E[c]? = some id := ⟨_, List.getElem?_eq_getElem hcl⟩
          have hmemE : id ∈ L.filter (fun i => decide (dueOf T i = now + 1)) := by rw [HEE.out]; exact List.mem_of_getElem? hid
          have hmemL := (List.mem_filter.1 hmemE).1
          obtain ⟨t0, ht0⟩ := Option.isSome_iff_exists.1 ((HOK.out.mem id).1 hmemL)
          have hin := (HOK.out.bound id t0 ht0).1
          have hEn : E.Nodup := by rw [← HEE.out]; exact HOK.out.nodup.filter _
          have hnot : id ∉ E.take c := by
            intro hm
            have h1 : (E.take c ++ E.drop c).Nodup := by rw [List.take_append_drop]; exact hEn
            rw [drop_at hid] at h1
            exact (List.nodup_append.1 h1).2.2 id hm id (by simp) rfl
          have hsome : (Tc id).isSome = true := by
            rw [hdl.tc, if_neg hnot, (kk_of (HMID.out.key id)).2.2, ht0]; rfl
          have hnE : E.length ≤ n := by rw [← HEE.out, ← HOK.out.len]; exact List.length_filter_le _ _
          have hpos : 0 < nc := by have := hdl.nc; omega
          obtain ⟨w9, hdel, hm9, ht9⟩ := hdl.rep.map.drop hin 0
          have hdl2 := hdl.step HNO.out HNB.out hid hsome hm9 ht9 hpos
          obtain ⟨g, rfl⟩ : ∃ g, aod = some ⟨g, 0, none⟩ := by
            rcases hdl.row.2 with ⟨h0, h1⟩ | ⟨g, cap', cur, h0, _⟩
            · omega
            · simp only [Value.slice.injEq] at h0
              exact ⟨g, h0.1⟩
          have hci : wr.cell? ⟨g, c, none⟩ = some (.int .i64 id) := by
            have := hdl.row.cells (g := g) rfl c (.int .i64 id) (by rw [List.getElem?_map, hid]; rfl)
            rwa [Addr.add_lit, Nat.zero_add] at this
          have hbox := hdl.box
          have hc2 := hdl.rep.c2
          have HDL2 : Hid (Dl w p m V (now + 1) arms n V' T' S' E (.slice (some ⟨g, 0, none⟩) D capd) (c + 1) w9 (upd Tc id none) (nc - 1)) := hdl2
          clear hdl2 hdl hm9 ht9 hsome hnot hEn hmemE hmemL ht0 hid hnE hcl
          go_wp2
          go_roundw
          case rel => exact ⟨c + 1, _, _, by omega, by go_num, HDL2.out⟩
          case measure => simp [intOf]; omega
    · have hrl : r < ids.length := by rw [HX.out]; omega
      obtain ⟨id, hid⟩ : ∃ id, ids[r]? = some id := ⟨_, List.getElem?_eq_getElem hrl⟩
      obtain ⟨t0, ht0⟩ := HS.out id (List.mem_of_getElem? hid)
      have hb := HOK.out.bound id t0 ht0
      have hkey := hlp.mid.key id
      rw [ht0] at hkey
      obtain ⟨⟨d, a, pl⟩, htm⟩ : ∃ tm, T' id = some tm := by
        cases e : T' id with
        | none => rw [e] at hkey; cases hkey
        | some tm => exact ⟨tm, rfl⟩
      rw [htm] at hkey
      simp [kk] at hkey
      have hin := hb.1
      have hd1 : now < d := by rw [hkey.1]; exact hb.2.1
      have hd2 : d ≤ 1152921504606846976 := by rw [hkey.1]; exact hb.2.2.1
      have hdue : dueOf T id = d := by rw [dueOf_some ht0, hkey.1]
      have hlook : (Instr.lookup 56 (.map (some m)) (.int .i64 id) false).run Try.prog wr = .ok (.agg #[.int .u64 (d : Nat), .int .u64 (a : Nat), .int .i64 (pl : Nat)]) wr := by
        have := hlp.rep.map.look hin
        rw [htm] at this
        exact this
      obtain ⟨g, rfl⟩ : ∃ g, ao = some ⟨g, 0, none⟩ := by
        rcases hlp.rowi.2 with ⟨h0, h1⟩ | ⟨g, cap', cur, h0, _⟩
        · omega
        · simp only [Value.slice.injEq] at h0
          exact ⟨g, h0.1⟩
      have hci : wr.cell? ⟨g, r, none⟩ = some (.int .i64 id) := by
        have := hlp.rowi.cells (g := g) rfl r (.int .i64 id) (by rw [List.getElem?_map, hid]; rfl)
        rwa [Addr.add_lit, Nat.zero_add] at this
      have hgl := (hlp.ai g rfl).1.lt
      have hc0 := hlp.rep.c0
      have hc2 := hlp.rep.c2
      have hbox := hlp.box
      have hpl := hlp.rep.plt
      have hbl := hlp.abox.lt
      have hslen : ∀ k, k < 256 → (S' k).length ≤ n := fun k hk => by
        rw [← HOK.out.len]
        exact hlp.mid.slots.len (fun i hi => (HOK.out.mem i).2 (by rw [← (kk_of (hlp.mid.key i)).2.2]; exact hi)) hk
      have HSL' : Hid (∀ k, k < 256 → (S' k).length ≤ n) := hslen
      have HLP' : Hid (Lp w p m V (now + 1) arms n T ids (.slice (some ⟨g, 0, none⟩) X cap) r u4 wr V' T' S') := hlp
      have HTM : Hid (T' id = some ⟨d, a, pl⟩) := htm
      have HID : Hid (ids[r]? = some id) := hid
      have HDUE : Hid (dueOf T id = d) := hdue
      have hcu : cntUp T' id n = n := by unfold cntUp; rw [htm]; rfl
      have HCU : Hid (cntUp T' id n = n) := hcu
      have hdt := dues_take (T := T) (now := now + 1) hid
      have HDT : Hid (dues T (now + 1) (ids.take (r + 1)) = dues T (now + 1) (ids.take r) ++ (if dueOf T id = now + 1 then [id] else [])) := hdt
      clear hslen hlp htm hid hdue hcu hdt hkey hb ht0
      by_cases hdn : d = now + 1
      · have hngt : ¬ now + 1 < d := by omega
        obtain ⟨i0, hi0, hz0, hz1, hz2⟩ := info_parts info3
        have hlp := HLP'.out
        have hrowd := hlp.rowd
        obtain ⟨D, hD⟩ : ∃ D, (dues T (now + 1) (ids.take r)).length = D := ⟨_, rfl⟩
        have hDl : D ≤ n := by
          rw [← hD]
          refine Nat.le_trans (List.length_filter_le _ _) (Nat.le_trans ?_ hlen)
          rw [List.length_take, HX.out]; omega
        have HD : Hid ((dues T (now + 1) (ids.take r)).length = D) := hD
        rw [hD] at hrowd
        obtain ⟨aod, capd, rfl, hcapd, hmaxd⟩ := row_shape hrowd
        have hwsz : w.heap.size ≤ wr.heap.size := by omega
        clear hlp hD
        have HRD : Hid (wr.ownsRow w.heap.size 3 1 (.slice aod D capd) D ((dues T (now + 1) (ids.take r)).map (Value.int .i64))) := hrowd
        clear hrowd
        go_wp2
        go_region
        go_wp2_with (first | (at_builtin; refine wpList_append_own_at _ rfl _ _ 36 rfl w.heap.size 3 i0 (.int .i64 0) 1 8 und39 hi0 hz0 hz1 hz2 rfl (by decide) (.slice aod D capd) D ((dues T (now + 1) (ids.take r)).map (Value.int .i64)) rfl ?d1 ⟨wr.heap.size + 1, 0, none⟩ 1 1 [.int .i64 id] rfl rfl ?d3 (ints_one [id]) ?d6 ?d7 ?d8 ?_))
        case d1 => exact row_block HRD.out (fun b hb => (Below.heap_alloc _ _ b (by rw [World.size_alloc]; have := ((HLP'.out.ad b hb).1.lt); omega)).trans (Below.heap_alloc wr _ b ((HLP'.out.ad b hb).1.lt)))
        case d3 =>
          intro j u hj
          have := cell_one_new (wr.alloc (Obj.cells #[Value.int IntKind.u64 (↑now + 1), Value.int IntKind.u64 ↑a, Value.int IntKind.i64 ↑pl] 62)) (.int .i64 id) 3 j u hj
          rw [World.size_alloc] at this
          exact this
        case d6 => unfold maxLen; omega
        case d7 => omega
        case d8 =>
          show _ ≤ (World.alloc _ _).heap.size
          rw [World.size_alloc, World.size_alloc]
          omega
        intro v' w2 hrow2 hgrow2 hnil hat
        have hT2 : Turned (fun _ => False) wr ((wr.alloc (Obj.cells #[Value.int IntKind.u64 (↑now + 1), Value.int IntKind.u64 ↑a, Value.int IntKind.i64 ↑pl] 62)).alloc (Obj.cells #[Value.int IntKind.i64 id] 3)).drew := (((Turned.refl _ wr).alloc _).alloc _).drewN 1
        have hlp2 := HLP'.out.app (id := id) hT2 hgrow2 (by rw [HD.out]; exact hrow2) (by
          rcases hat with e | e
          · exact .inl e
          · refine .inr (e.trans ?_)
            show _ = some (World.alloc _ _).heap.size
            rw [World.size_alloc, World.size_alloc]) (HLP'.out.mid.due HID.out HTM.out hdn) (by rw [HDT.out, if_pos (HDUE.out.trans hdn)])
        have HL2 : Hid (Lp w p m V (now + 1) arms n T ids (.slice (some ⟨g, 0, none⟩) X cap) (r + 1) v' w2 V' T' S') := hlp2
        clear hlp2 hrow2 hgrow2 hnil hat hT2
        go_wp2
        go_roundw
        case rel => exact ⟨r + 1, _, _, _, by omega, by go_num, HL2.out⟩
        case measure => simp [intOf]; omega
      · have hgt : now + 1 < d := by omega
        go_wp2
        go_region
        go_wp2_with (first | (go_at_call 25; refine (put_any _ p m V' (now + 1) arms n T' S' ?c1 (by omega) id hin ⟨d, a, pl⟩ ?c2 (by omega) ?c3).mono ?_; rotate_left 3; rintro e w2 ⟨rfl, V2, hrep2, hgo2⟩))
        case c1 => exact (HLP'.out.rep.alloc _).drewN 1
        case c2 => show d < _; omega
        case c3 => intro k hk; have := HSL'.out k hk; omega
        rw [HCU.out] at hrep2
        have hg : Goes p m V' wr V2 w2 := Goes.trans (w' := (wr.alloc (Obj.cells #[Value.int IntKind.u64 ↑d, Value.int IntKind.u64 ↑a, Value.int IntKind.i64 ↑pl] 62)).drew) ⟨((Turned.refl _ wr).alloc _).drewN 1, fun _ hb => .inl hb⟩ hgo2
        have hlp2 := HLP'.out.step hg hrep2 (HLP'.out.mid.put HN.out HID.out HTM.out hdn) (by rw [HDT.out, if_neg (by rw [HDUE.out]; exact hdn), List.append_nil])
        go_roundw
        case rel => exact ⟨r + 1, _, _, _, by omega, by go_num, hlp2⟩
        case measure => simp [intOf]; omega

end Go.Proofs.Ytofhkfbibdkjgaa
