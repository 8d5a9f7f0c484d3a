/-
  The document's answer: Tick.
-/
import Derived.Test.YtplcmaiphbjfcaaWRef2
namespace Go.Proofs.Ytplcmaiphbjfcaa
open Go.RowKit
set_option linter.unusedVariables false

structure Tk (w : World) (r : Nat) (v : Value) (t : Nat) (R : List (Int × Nat)) (k : Nat) (l o : Value) (wr : World) : Prop where
  rf : Rf wr r v t R
  tu : Turned (fun b => b = r) w wr
  lr : wr.ownsRow w.heap.size 72 2 l (leftAt (R.take k) t).length (tc (leftAt (R.take k) t))
  or : wr.ownsRow w.heap.size 3 1 o (dueAt (R.take k) t).length ((dueAt (R.take k) t).map (Value.int .i64))
  sep : ∀ b, l.ownBlock = some b → o.ownBlock ≠ some b
  old : ∀ b, FootR r v b → b < w.heap.size

theorem Tk.out {w wr wb w1 : World} {r : Nat} {v : Value} {t : Nat} {R : List (Int × Nat)} {k : Nat} {l o o' : Value} {id : Int} (h : Tk w r v t R k l o wr) (hwb : Turned (fun _ => False) wr wb) (hg : wb.grownBy w1 o.ownBlock)
    (hrow : w1.ownsRow w.heap.size 3 1 o' ((dueAt (R.take k) t).length + 1) ((dueAt (R.take k) t).map (Value.int .i64) ++ [.int .i64 id])) (hat : o'.ownBlock = o.ownBlock ∨ o'.ownBlock = some wb.heap.size)
    (hd : dueAt (R.take (k + 1)) t = dueAt (R.take k) t ++ [id]) (hlf : leftAt (R.take (k + 1)) t = leftAt (R.take k) t) : Tk w r v t R (k + 1) l o' w1 := by
  have hs := hwb.size
  have hkeep : ∀ b, b < wr.heap.size → o.ownBlock ≠ some b → w1.heap[b]? = wr.heap[b]? := fun b hb hn => (hg.block b (by omega) (fun e => hn e.symm)).trans (hwb.block b hb (fun f => f))
  exact {
    rf := h.rf.frame (fun b hb => hkeep b (h.rf.lt b hb) (fun e => by have := (h.or.lt b e).1; have := h.old b hb; omega))
    tu := (h.tu.trans (F' := fun _ => False) hwb (fun _ f => f.elim)).trans (Turned.of_grown (F := fun b => w.heap.size ≤ b) hg (fun b hb => (h.or.lt b hb).1)) (fun i hi => .inr hi)
    lr := by rw [hlf]; exact row_block h.lr (fun b hb => hkeep b (h.lr.lt b hb).2 (h.sep b hb))
    or := by rw [hd, List.map_append, List.length_append]; exact hrow
    sep := fun b hb e => by
      rcases hat with h1 | h1
      · exact h.sep b hb (h1 ▸ e)
      · rw [h1] at e; cases e; have := (h.lr.lt _ hb).2; omega
    old := h.old }
theorem Tk.left {w wr wb w1 : World} {r : Nat} {v : Value} {t : Nat} {R : List (Int × Nat)} {k : Nat} {l l' o : Value} {x : Int × Nat} (h : Tk w r v t R k l o wr) (hwb : Turned (fun _ => False) wr wb) (hg : wb.grownBy w1 l.ownBlock)
    (hrow : w1.ownsRow w.heap.size 72 2 l' ((leftAt (R.take k) t).length + 1) (tc (leftAt (R.take k) t) ++ [.int .i64 x.1, .int .u64 (x.2 : Nat)])) (hat : l'.ownBlock = l.ownBlock ∨ l'.ownBlock = some wb.heap.size)
    (hd : dueAt (R.take (k + 1)) t = dueAt (R.take k) t) (hlf : leftAt (R.take (k + 1)) t = leftAt (R.take k) t ++ [x]) : Tk w r v t R (k + 1) l' o w1 := by
  have hs := hwb.size
  have hkeep : ∀ b, b < wr.heap.size → l.ownBlock ≠ some b → w1.heap[b]? = wr.heap[b]? := fun b hb hn => (hg.block b (by omega) (fun e => hn e.symm)).trans (hwb.block b hb (fun f => f))
  exact {
    rf := h.rf.frame (fun b hb => hkeep b (h.rf.lt b hb) (fun e => by have := (h.lr.lt b e).1; have := h.old b hb; omega))
    tu := (h.tu.trans (F' := fun _ => False) hwb (fun _ f => f.elim)).trans (Turned.of_grown (F := fun b => w.heap.size ≤ b) hg (fun b hb => (h.lr.lt b hb).1)) (fun i hi => .inr hi)
    lr := by rw [hlf, tc_append, List.length_append]; exact hrow
    or := by rw [hd]; exact row_block h.or (fun b hb => hkeep b (h.or.lt b hb).2 (fun e => h.sep b e hb))
    sep := fun b hb e => by
      rcases hat with h1 | h1
      · exact h.sep b (h1 ▸ hb) e
      · rw [h1] at hb; cases hb; have := (h.or.lt _ e).2; omega
    old := h.old }
theorem due_take {R : List (Int × Nat)} {t k : Nat} {x : Int × Nat} (h : R[k]? = some x) : dueAt (R.take (k + 1)) t = dueAt (R.take k) t ++ (if x.2 = t then [x.1] else []) ∧ leftAt (R.take (k + 1)) t = leftAt (R.take k) t ++ (if x.2 = t then [] else [x]) := by
  unfold dueAt leftAt
  rw [List.take_add_one, h, List.filter_append, List.filter_append, List.map_append]
  by_cases e : x.2 = t <;> simp [e]
theorem due_len (R : List (Int × Nat)) (t : Nat) : (dueAt R t).length ≤ R.length := by unfold dueAt; rw [List.length_map]; exact List.length_filter_le _ _
theorem left_len (R : List (Int × Nat)) (t : Nat) : (leftAt R t).length ≤ R.length := List.length_filter_le _ _

theorem rtick_last (w : World) (r : Nat) (v : Value) (R : List (Int × Nat)) (h : Rf w r v 1152921504606846976 R) :
    Calls Try.prog 17 #[.pointer (some ⟨r, 0, none⟩)] w fun e w' => e = .returned (.tuple #[.slice none 0 0, .int .i64 1]) ∧ w = w' := by
  have hc0 : w.cell? ⟨r, 0, none⟩ = some (.int .u64 1152921504606846976) := h.c0
  clear h
  go_enter Try.func17, Try.ntmps17
  go_wp2_with fail
  go_ret2
  exact ⟨rfl, rfl⟩

set_option maxRecDepth 100000 in
set_option maxHeartbeats 2000000 in
theorem rtick_any (w : World) (r : Nat) (v : Value) (now : Nat) (R : List (Int × Nat)) (h : Rf w r v now R) (hnow : now < 1152921504606846976) (hl : R.length < 1099511627776) :
    Calls Try.prog 17 #[.pointer (some ⟨r, 0, none⟩)] w fun e w' => ∃ o v', e = .returned (.tuple #[o, .int .i64 0]) ∧ w'.ownsRow w.heap.size 3 1 o (dueAt R (now + 1)).length ((dueAt R (now + 1)).map (Value.int .i64)) ∧ Rf w' r v' (now + 1) (leftAt R (now + 1)) ∧
      Turned (fun b => b = r) w w' ∧ (∀ b, v'.ownBlock = some b → w.heap.size ≤ b) ∧ (∀ b, o.ownBlock = some b → ¬ FootR r v' b) := by
  obtain ⟨ao, cap, rfl, hcap, hmax⟩ := row_shape h.row
  obtain ⟨n, HN⟩ : ∃ n, Hid (R.length = n) := ⟨_, rfl⟩
  have hrlt := h.lt r (.inl rfl)
  have hc0 := h.c0
  have hfr := h.fr 0
  have en := HN.out
  have hold := h.lt
  have hT : Tk w r (.slice ao R.length cap) (now + 1) R 0 (.slice none 0 0) (.slice none 0 0) (w.setCell ⟨r, 0, none⟩ (.int .u64 ((now : Int) + 1))) := {
    rf := {
      c0 := by have := set_cell (u := .int .u64 ((now + 1 : Nat) : Int)) h.c0; simpa using this
      c1 := by rw [set_cell_other (by omega)]; exact h.c1
      fr := fun o => by rw [World.frozen?_setCell]; exact h.fr o
      row := row_block h.row (fun b hb => set_block_other (fun e => h.no (e ▸ hb)))
      no := h.no }
    tu := Turned.setCell (F := fun b => b = r) (Turned.refl _ w) (p := ⟨r, 0, none⟩) (.inl rfl) _
    lr := ⟨rfl, .inl ⟨rfl, rfl⟩⟩
    or := ⟨rfl, .inl ⟨rfl, rfl⟩⟩
    sep := fun b hb => nomatch hb
    old := hold }
  rw [en] at hcap hl hT
  have HT0 : Hid (Tk w r (.slice ao n cap) (now + 1) R 0 (.slice none 0 0) (.slice none 0 0) (w.setCell ⟨r, 0, none⟩ (.int .u64 ((now : Int) + 1)))) := hT
  obtain ⟨i0, hi0, hz0, hz1, hz2⟩ := info_parts info72
  obtain ⟨j0, hj0, hy0, hy1, hy2⟩ := info_parts info3
  have hng : ¬ ((1152921504606846976 : Int) ≤ now) := by omega
  have HNOW : Hid (now < 1152921504606846976) := hnow
  clear h en hT hold hnow hmax
  go_enter Try.func17, Try.ntmps17
  go_wp2_with fail
  go_loopw [4, 5, 6] (fun l o i wr => ∃ k : Nat, k ≤ n ∧ i = .int .i64 k ∧ Tk w r (.slice ao n cap) (now + 1) R k l o wr) (fun _ _ i _ => n - (intOf i).toNat)
  case atStart => exact ⟨0, by omega, rfl, HT0.out⟩
  case round =>
    obtain ⟨k, hk, rfl, tk⟩ := hrel
    clear HT0
    have hc0 := tk.rf.c0
    have hc1 := tk.rf.c1
    have hfr := tk.rf.fr 1
    have hws : w.heap.size ≤ wr.heap.size := tk.tu.size
    have hlr := tk.lr
    have hor := tk.or
    have hl1 := Nat.le_trans (left_len (R.take k) (now + 1)) (show _ ≤ k by rw [List.length_take]; omega)
    have hl2 := Nat.le_trans (due_len (R.take k) (now + 1)) (show _ ≤ k by rw [List.length_take]; omega)
    obtain ⟨A, HA⟩ : ∃ A, Hid ((leftAt (R.take k) (now + 1)).length = A) := ⟨_, rfl⟩
    obtain ⟨B, HB⟩ : ∃ B, Hid ((dueAt (R.take k) (now + 1)).length = B) := ⟨_, rfl⟩
    rw [HA.out] at hlr hl1
    rw [HB.out] at hor hl2
    obtain ⟨a1, c1, rfl, hcc1, hm1⟩ := row_shape hlr
    obtain ⟨a2, c2, rfl, hcc2, hm2⟩ := row_shape hor
    have HL : Hid (wr.ownsRow w.heap.size 72 2 (.slice a1 A c1) A (tc (leftAt (R.take k) (now + 1)))) := hlr
    have HO : Hid (wr.ownsRow w.heap.size 3 1 (.slice a2 B c2) B ((dueAt (R.take k) (now + 1)).map (Value.int .i64))) := hor
    have TK : Hid (Tk w r (.slice ao n cap) (now + 1) R k (.slice a1 A c1) (.slice a2 B c2) wr) := tk
    clear tk hlr hor
    by_cases hend : k = n
    · subst hend
      have htk : R.take k = R := List.take_of_length_le (by rw [HN.out]; omega)
      have hne : ∀ b, (Value.slice a1 A c1).ownBlock = some b → b ≠ r := fun b hb => by have := (HL.out.lt b hb).1; omega
      have hno : ∀ b, (Value.slice a2 B c2).ownBlock = some b → b ≠ r := fun b hb => by have := (HO.out.lt b hb).1; omega
      have HE : Hid ((wr.setCell ⟨r, 1, none⟩ (.slice a1 A c1)).ownsRow w.heap.size 3 1 (.slice a2 B c2) (dueAt R (now + 1)).length ((dueAt R (now + 1)).map (Value.int .i64)) ∧ Rf (wr.setCell ⟨r, 1, none⟩ (.slice a1 A c1)) r (.slice a1 A c1) (now + 1) (leftAt R (now + 1)) ∧
          Turned (fun b => b = r) w (wr.setCell ⟨r, 1, none⟩ (.slice a1 A c1)) ∧ (∀ b, (Value.slice a1 A c1).ownBlock = some b → w.heap.size ≤ b) ∧ (∀ b, (Value.slice a2 B c2).ownBlock = some b → ¬ FootR r (.slice a1 A c1) b)) := by
        have e1 := HA.out
        have e2 := HB.out
        have hl' := HL.out
        have ho' := HO.out
        rw [htk] at e1 e2 hl' ho'
        refine ⟨?_, ⟨?_, ?_, ?_, ?_, ?_⟩, ?_, ?_, ?_⟩
        · rw [e2]; exact row_block ho' (fun b hb => set_block_other (hno b hb))
        · rw [set_cell_other (by omega)]; exact TK.out.rf.c0
        · exact set_cell TK.out.rf.c1
        · intro o; rw [World.frozen?_setCell]; exact TK.out.rf.fr o
        · rw [e1]; exact row_block (row_base hl' (Nat.zero_le _)) (fun b hb => set_block_other (hne b hb))
        · exact fun e => hne r e rfl
        · exact Turned.setCell (F := fun b => b = r) TK.out.tu (p := ⟨r, 1, none⟩) (.inl rfl) _
        · exact fun b hb => (HL.out.lt b hb).1
        · rintro b hb (hf | hf)
          · exact hno b hb hf
          · exact TK.out.sep b hf hb
      clear hne hno
      go_wp2_with fail
      go_ret2
      exact ⟨_, _, rfl, HE.out⟩
    · have hkl : k < R.length := by rw [HN.out]; omega
      obtain ⟨g, rfl, hgl, hcell⟩ := TK.out.rf.cell hkl
      obtain ⟨x, hx⟩ : ∃ x, R[k]? = some x := ⟨_, List.getElem?_eq_getElem hkl⟩
      obtain ⟨d1, d2⟩ := hcell k x hx
      have hdt := due_take (t := now + 1) hx
      obtain ⟨xi, xd⟩ := x
      simp only at d1 d2 hdt
      have HDT : Hid (dueAt (R.take (k + 1)) (now + 1) = dueAt (R.take k) (now + 1) ++ (if xd = now + 1 then [xi] else []) ∧ leftAt (R.take (k + 1)) (now + 1) = leftAt (R.take k) (now + 1) ++ (if xd = now + 1 then [] else [(xi, xd)])) := hdt
      clear hcell hx hdt
      by_cases he : xd = now + 1
      · subst he
        obtain ⟨t, ht⟩ : ∃ t, now + 1 = t := ⟨_, rfl⟩
        rw [ht] at hc0 d2
        clear hm1 hm2 hcc1 hcc2 hng ht hkl
        go_wp2_with fail
        go_region
        go_wp2_with (first | (at_builtin; refine wpList_append_own_at _ rfl _ _ 39 rfl w.heap.size 3 j0 (.int .i64 0) 1 8 und39 hj0 hy0 hy1 hy2 rfl (by decide) (.slice a2 B c2) B ((dueAt (R.take k) (now + 1)).map (Value.int .i64)) rfl ?d1 ⟨wr.heap.size, 0, none⟩ 1 1 [.int .i64 xi] rfl rfl ?d3 ?d5 ?d6 ?d7 ?d8 ?_))
        case d1 => exact row_block HO.out (fun b hb => Below.heap_alloc _ _ b (HO.out.lt b hb).2)
        case d3 => intro j u hj; exact cell_one_new wr (.int .i64 xi) 3 j u hj
        case d5 => exact ints_one [xi]
        case d6 => unfold maxLen; omega
        case d7 => omega
        case d8 => show _ ≤ (World.alloc _ _).heap.size; rw [World.size_alloc]; omega
        intro v' w2 hown1 hgrow hnil hat
        have hE := TK.out.out (id := xi) (((Turned.refl _ wr).alloc _).drewN 1) hgrow (by rw [HB.out]; exact hown1) (by
          rcases hat with e | e
          · exact .inl e
          · refine .inr (e.trans ?_)
            show _ = some (World.alloc _ _).heap.size
            rw [World.size_alloc]) (by rw [HDT.out.1]; simp) (by rw [HDT.out.2]; simp)
        have HE : Hid (Tk w r (.slice (some ⟨g, 0, none⟩) n cap) (now + 1) R (k + 1) (.slice a1 A c1) v' w2) := hE
        obtain ⟨a3, c3, rfl, _, _⟩ := row_shape hown1
        clear hown1 hgrow hnil hat hE
        go_wp2_with fail
        go_roundw
        case rel => exact ⟨k + 1, by omega, by go_num, HE.out⟩
        case measure => simp [intOf]; omega
      · obtain ⟨t, ht⟩ : ∃ t, now + 1 = t := ⟨_, rfl⟩
        have he' : ((xd : Int) == (t : Int)) = false := by simp; omega
        rw [ht] at hc0
        have HX : Hid (¬ xd = now + 1) := he
        clear hm1 hm2 hcc1 hcc2 hng ht hkl he
        go_wp2_with fail
        go_region
        go_wp2_with (first | (at_builtin; refine wpList_append_own_at _ rfl _ _ 30 rfl w.heap.size 72 i0 (.agg #[.int .i64 0, .int .u64 0]) 2 16 und30 hi0 hz0 hz1 hz2 rfl (by decide) (.slice a1 A c1) A (tc (leftAt (R.take k) (now + 1))) rfl ?d1 ⟨wr.heap.size, 0, none⟩ 1 1 [.int .i64 xi, .int .u64 (xd : Nat)] rfl rfl ?d3 ?d5 ?d6 ?d7 ?d8 ?_))
        case d1 => exact row_block HL.out (fun b hb => Below.heap_alloc _ _ b (HL.out.lt b hb).2)
        case d3 => exact two_new wr _ _ 72
        case d5 => exact tc_one [(xi, xd)]
        case d6 => unfold maxLen; omega
        case d7 => omega
        case d8 => show _ ≤ (World.alloc _ _).heap.size; rw [World.size_alloc]; omega
        intro v' w2 hown1 hgrow hnil hat
        have hE := TK.out.left (x := (xi, xd)) (((Turned.refl _ wr).alloc _).drewN 1) hgrow (by rw [HA.out]; exact hown1) (by
          rcases hat with e | e
          · exact .inl e
          · refine .inr (e.trans ?_)
            show _ = some (World.alloc _ _).heap.size
            rw [World.size_alloc]) (by rw [HDT.out.1, if_neg HX.out, List.append_nil]) (by rw [HDT.out.2, if_neg HX.out])
        have HE : Hid (Tk w r (.slice (some ⟨g, 0, none⟩) n cap) (now + 1) R (k + 1) v' (.slice a2 B c2) w2) := hE
        obtain ⟨a3, c3, rfl, _, _⟩ := row_shape hown1
        clear hown1 hgrow hnil hat hE
        go_wp2_with fail
        go_roundw
        case rel => exact ⟨k + 1, by omega, by go_num, HE.out⟩
        case measure => simp [intOf]; omega

end Go.Proofs.Ytplcmaiphbjfcaa
