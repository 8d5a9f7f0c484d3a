/-
  Proved: for every list of items and all lists of bytes had and safe, CutMeets(all, had, safe) returns true: nodes of one view, each of which has a beginning of one sequence, have all the same behind what they lack; the document's example holds. No condition.
-/
import Derived.Test.YtbdbdpgnilhcpaaRows
import Derived.Test.YtbdbdpgnilhcpaaSMeet
namespace Go.Proofs.Ytbdbdpgnilhcpaa.cutMeets
open Go.ChangeShapes Go.WideShapes Go.ChangeAt Go.RowKit Go.Joins
set_option linter.unusedVariables false
set_option linter.unusedSimpArgs false

set_option maxRecDepth 10000 in
set_option maxHeartbeats 4000000 in
theorem walk (w : World) (ao : Option Addr) (n cap : Nat) (ds : List Di) (h : Its (fun _ => True) w ao n ds) (hz : ao = none → n = 0 ∧ cap = 0) (hc : n ≤ cap) (hd : cap ≤ 9223372036854775807)
    (ho : Option Addr) (m hcap : Nat) (hs : List UInt8) (hH : Rw (fun _ => True) w ho m hs) (hzh : ho = none → m = 0 ∧ hcap = 0) (hch : m ≤ hcap) (hdh : hcap ≤ 9223372036854775807)
    (fo : Option Addr) (ms fcap : Nat) (fs : List UInt8) (hF : Rw (fun _ => True) w fo ms fs) (hzf : fo = none → ms = 0 ∧ fcap = 0) (hcf : ms ≤ fcap) (hdf : fcap ≤ 9223372036854775807) :
    Calls Try.prog 5 #[.slice ao n cap, .slice ho m hcap, .slice fo ms fcap] w fun e w' => e = .returned (.bool true) ∧ Below w.heap.size w w' := by
  have HS : Hid (Its (fun _ => True) w ao n ds ∧ Rw (fun _ => True) w ho m hs ∧ Rw (fun _ => True) w fo ms fs) := ⟨h, hH, hF⟩
  have cl : ∀ {a b : World} {ad : Addr} {v : Value}, Below a.heap.size a b → a.cell? ad = some v → b.cell? ad = some v := fun {a b ad v} u hc => Kp.up (p := fun _ => True) u _ _ trivial hc
  have CL : Hid _ := @cl
  have HZ : Hid ((ao = none → n = 0 ∧ cap = 0) ∧ n ≤ cap ∧ cap ≤ 9223372036854775807) := ⟨hz, hc, hd⟩
  have hml := hH.1
  have hsl := hF.1
  have hdl := h.len
  have hmx := hF.2.1
  clear h hH hF cl hz hzh hzf hch hdh hcf hdf
  go_enter Try.func5, Try.ntmps5
  go_wp2_with fail
  refine (awake_any _).mono ?_
  rintro e w1 ⟨rfl, hb1⟩
  by_cases h60 : 60 < n
  · have h60I : (60 : Int) < (n : Int) := by omega
    clear HS HZ hml hsl hdl
    go_wp2_with fail
    refine (awake_any _).mono ?_
    rintro e w2 ⟨rfl, hb2⟩
    have hb02 := bl_step hb1 hb2
    clear hb1 hb2
    go_wp2
    go_ret
    exact ⟨rfl, hb02⟩
  by_cases hm0 : m = 0
  · have h60I : ¬ ((60 : Int) < (n : Int)) := by omega
    have hm0I : ((m : Int) == 0) = true := by simp; omega
    clear HS HZ hml hsl hdl
    go_wp2_with fail
    refine (awake_any _).mono ?_
    rintro e w2 ⟨rfl, hb2⟩
    have hb02 := bl_step hb1 hb2
    clear hb1 hb2
    go_wp2
    go_ret
    exact ⟨rfl, hb02⟩
  by_cases h16 : 16 < m
  · have h60I : ¬ ((60 : Int) < (n : Int)) := by omega
    have hm0I : ((m : Int) == 0) = false := by simp; omega
    have h16I : (16 : Int) < (m : Int) := by omega
    clear HS HZ hml hsl hdl
    go_wp2_with fail
    refine (awake_any _).mono ?_
    rintro e w2 ⟨rfl, hb2⟩
    have hb02 := bl_step hb1 hb2
    clear hb1 hb2
    go_wp2
    go_ret
    exact ⟨rfl, hb02⟩
  have h60I : ¬ ((60 : Int) < (n : Int)) := by omega
  have hm0I : ((m : Int) == 0) = false := by simp; omega
  have h16I : ¬ ((16 : Int) < (m : Int)) := by omega
  go_wp2_with fail
  obtain ⟨w2, hw2⟩ : ∃ w2, w1.alloc (.cells #[.int .u64 3, .int .i64 1] 28) = w2 := ⟨_, rfl⟩
  have k0 : w2.cell? ⟨w1.heap.size, 0, none⟩ = some (.int .u64 3) := by rw [← hw2]; exact cell_box w1 _ 28 0 _ rfl
  have k1 : w2.cell? ⟨w1.heap.size, 1, none⟩ = some (.int .i64 1) := by rw [← hw2]; exact cell_box w1 _ 28 1 _ rfl
  have hb2 : Below w.heap.size w w2 := by rw [← hw2]; exact bl_step hb1 (bl1 _ _)
  rw [hw2]
  have HA2 : Hid (Its (fun _ => True) w2 ao n ds ∧ Rw (fun _ => True) w2 ho m hs ∧ Rw (fun _ => True) w2 fo ms fs) := ⟨HS.out.1.keep (Kp.up hb2), HS.out.2.1.keep (Kp.up hb2), HS.out.2.2.keep (Kp.up hb2)⟩
  obtain ⟨vb, hvb⟩ : ∃ vb, w1.heap.size = vb := ⟨_, rfl⟩
  rw [hvb] at k0 k1 ⊢
  clear hw2 hvb hb1 HS
  go_loopw [8, 9, 10, 11] (fun lv mv iv _ wr => ∃ i least most : Nat, i ≤ m ∧ iv = .int .i64 (i : Nat) ∧ lv = .int .i64 (least : Nat) ∧ mv = .int .i64 (most : Nat) ∧ Ends hs n i least most ∧ Up w2 wr) (fun _ _ iv _ _ => m - (intOf iv).toNat)
  case atStart => exact ⟨0, n, 0, by omega, rfl, rfl, rfl, Ends.nil _ _, Up.refl _⟩
  case round =>
    obtain ⟨i, least, most, hi, rfl, rfl, rfl, hE, hu⟩ := hrel
    have HE : Hid (Ends hs n i least most) := hE
    clear hE
    by_cases hlt : i < m
    · have hltI : (i : Int) < (m : Int) := by omega
      have hi0 : ¬ ((i : Int) < 0) := by omega
      obtain ⟨x, hx⟩ : ∃ x, hs[i]? = some x := ⟨hs[i]'(by omega), List.getElem?_eq_getElem (by omega)⟩
      obtain ⟨b, off, hho, _, hc⟩ := (HA2.out.2.1.keep (Kp.up hu.bl)).2.2.2 (by omega)
      subst hho
      have c0 := hc i x hx
      have hx256 : x.toNat < 256 := x.toNat_lt
      have hka := kOf_at (n := n) hx
      obtain ⟨xn, hxn⟩ : ∃ xn, x.toNat = xn := ⟨_, rfl⟩
      obtain ⟨k, hk⟩ : ∃ k, kOf hs n i = k := ⟨_, rfl⟩
      have hkn := kOf_le hs n i
      rw [hxn] at c0 hx256 hka
      have hrem : ((xn : Int)).tmod ((n : Int) + 1) = (k : Int) := by rw [Int.tmod_eq_emod_of_nonneg (by omega), ← hk, ← hka]; rfl
      have hst := HE.out.step
      rw [hk] at hst hkn
      have HST : Hid _ := hst
      clear hc hx hxn hka hk hst HE
      by_cases l1 : k < least
      · have l1I : (k : Int) < (least : Int) := by omega
        by_cases l2 : most < k
        · have l2I : (most : Int) < (k : Int) := by omega
          have HSD := HST.out
          rw [if_pos l1, if_pos l2] at HSD
          have HSD : Hid _ := HSD
          clear HST
          have HU : Hid (Up w2 wr) := hu
          go_wp2
          go_roundw
          case rel => first | exact ⟨i + 1, k, k, by omega, by go_num, rfl, rfl, HSD.out, HU.out⟩ | ((repeat apply Exists.intro); exact ⟨⟨i + 1, k, k, by omega, by go_num, rfl, rfl, HSD.out, HU.out⟩, rfl⟩)
          case measure => simp [intOf]; omega
        · have l2I : ¬ ((most : Int) < (k : Int)) := by omega
          have HSD := HST.out
          rw [if_pos l1, if_neg l2] at HSD
          have HSD : Hid _ := HSD
          clear HST
          have HU : Hid (Up w2 wr) := hu
          go_wp2
          go_roundw
          case rel => first | exact ⟨i + 1, k, most, by omega, by go_num, rfl, rfl, HSD.out, HU.out⟩ | ((repeat apply Exists.intro); exact ⟨⟨i + 1, k, most, by omega, by go_num, rfl, rfl, HSD.out, HU.out⟩, rfl⟩)
          case measure => simp [intOf]; omega
      · have l1I : ¬ ((k : Int) < (least : Int)) := by omega
        by_cases l2 : most < k
        · have l2I : (most : Int) < (k : Int) := by omega
          have HSD := HST.out
          rw [if_neg l1, if_pos l2] at HSD
          have HSD : Hid _ := HSD
          clear HST
          have HU : Hid (Up w2 wr) := hu
          go_wp2
          go_roundw
          case rel => first | exact ⟨i + 1, least, k, by omega, by go_num, rfl, rfl, HSD.out, HU.out⟩ | ((repeat apply Exists.intro); exact ⟨⟨i + 1, least, k, by omega, by go_num, rfl, rfl, HSD.out, HU.out⟩, rfl⟩)
          case measure => simp [intOf]; omega
        · have l2I : ¬ ((most : Int) < (k : Int)) := by omega
          have HSD := HST.out
          rw [if_neg l1, if_neg l2] at HSD
          have HSD : Hid _ := HSD
          clear HST
          have HU : Hid (Up w2 wr) := hu
          go_wp2
          go_roundw
          case rel => first | exact ⟨i + 1, least, most, by omega, by go_num, rfl, rfl, HSD.out, HU.out⟩ | ((repeat apply Exists.intro); exact ⟨⟨i + 1, least, most, by omega, by go_num, rfl, rfl, HSD.out, HU.out⟩, rfl⟩)
          case measure => simp [intOf]; omega
    · have him : m = i := by omega
      have hltI : ¬ ((i : Int) < (m : Int)) := by omega
      subst him
      obtain ⟨e1, e2, e3, _, _⟩ := HE.out
      have HE3 : Hid (Ends hs n m least most) := HE.out
      have hb3 := bl_step hb2 hu.bl
      have HA3 : Hid (Its (fun _ => True) wr ao n ds ∧ Rw (fun _ => True) wr ho m hs ∧ Rw (fun _ => True) wr fo ms fs) := ⟨HA2.out.1.keep (Kp.up hu.bl), HA2.out.2.1.keep (Kp.up hu.bl), HA2.out.2.2.keep (Kp.up hu.bl)⟩
      have k0 := CL.out hu.bl k0
      have k1 := CL.out hu.bl k1
      have E3 : Hid (∀ j, j < m → least ≤ kOf hs n j ∧ kOf hs n j ≤ most) := e3
      obtain ⟨w3, hw3⟩ : ∃ w3, w3 = wr := ⟨_, rfl⟩
      subst hw3
      clear HA2 hu HE hb2 hi e3
      go_wp2_with fail
      go_loopw [12, 13, 14, 15] (fun lv iv _ _ wq => ∃ (i : Nat) (Q : List Pr), i ≤ m ∧ iv = .int .i64 (i : Nat) ∧ Q.length = i ∧ (∀ j q, Q[j]? = some q → Strip hs n least ds j q) ∧ (∀ q ∈ Q, Vm w3 q) ∧ wq.ownsRow w3.heap.size 31 4 lv i (flat (Q.map (·.1))) ∧ Below w3.heap.size w3 wq) (fun _ iv _ _ _ => m - (intOf iv).toNat)
      case atStart => exact ⟨0, [], by omega, rfl, rfl, by simp, by simp, World.ownsRow_nil _ _ _ _, Below.refl _ _⟩
      case round =>
        obtain ⟨i, Q, hi, rfl, hQl, hQs, hQv, hown, hb⟩ := hrel
        obtain ⟨lo, lcap, rfl, hsrl, _⟩ := SR.own hown
        have HQ : Hid (Q.length = i ∧ (∀ j q, Q[j]? = some q → Strip hs n least ds j q) ∧ ∀ q ∈ Q, Vm w3 q) := ⟨hQl, hQs, hQv⟩
        have k0r := CL.out hb k0
        have k1r := CL.out hb k1
        clear hQs hQv hQl
        by_cases hlt : i < m
        · have hltI : (i : Int) < (m : Int) := by omega
          have hi0 : ¬ ((i : Int) < 0) := by omega
          obtain ⟨x, hx⟩ : ∃ x, hs[i]? = some x := ⟨hs[i]'(by omega), List.getElem?_eq_getElem (by omega)⟩
          obtain ⟨b, off, hho, _, hc⟩ := (HA3.out.2.1.keep (Kp.up hb)).2.2.2 (by omega)
          subst hho
          have c0 := hc i x hx
          have hx256 : x.toNat < 256 := x.toNat_lt
          have hka := kOf_at (n := n) hx
          obtain ⟨xn, hxn⟩ : ∃ xn, x.toNat = xn := ⟨_, rfl⟩
          obtain ⟨k, hk⟩ : ∃ k, kOf hs n i = k := ⟨_, rfl⟩
          have hkn := kOf_le hs n i
          have hlk := E3.out i hlt
          rw [hxn] at c0 hx256 hka
          rw [hk] at hkn hlk
          have hrem : ((xn : Int)).tmod ((n : Int) + 1) = (k : Int) := by rw [Int.tmod_eq_emod_of_nonneg (by omega), ← hk, ← hka]; rfl
          have HK : Hid (kOf hs n i = k) := hk
          clear hc hx hxn hka hk
          by_cases hfs : i < ms
          · have hfsI : (i : Int) < (ms : Int) := by omega
            obtain ⟨y, hy⟩ : ∃ y, fs[i]? = some y := ⟨fs[i]'(by omega), List.getElem?_eq_getElem (by omega)⟩
            obtain ⟨b2, off2, hfo, _, hc2⟩ := (HA3.out.2.2.keep (Kp.up hb)).2.2.2 (by omega)
            subst hfo
            have c2 := hc2 i y hy
            have hy256 : y.toNat < 256 := y.toNat_lt
            obtain ⟨yn, hyn⟩ : ∃ yn, y.toNat = yn := ⟨_, rfl⟩
            rw [hyn] at c2 hy256
            obtain ⟨f, hf⟩ : ∃ f, yn % (least + 1) = f := ⟨_, rfl⟩
            have hfl : f < least + 1 := by rw [← hf]; exact Nat.mod_lt _ (by omega)
            have hfrem : ((yn : Int)).tmod ((least : Int) + 1) = (f : Int) := by rw [Int.tmod_eq_emod_of_nonneg (by omega), ← hf]; rfl
            clear hc2 hy hyn hf
            have hkc : k ≤ cap := by omega
            have hfk : f ≤ k := by omega
            cases ao with
            | none =>
              have hso : so none cap f = none := rfl
              have hit := its_part (f := f) (k := k) HA3.out.1 (by omega) (by omega) hc
              (try simp only [Nat.sub_self, Nat.sub_zero] at hit)
              rw [hso] at hit
              have HIT : Hid (Its (fun _ => True) w3 none (k - f) ((ds.drop f).take (k - f))) := by simpa [Hid] using hit
              have HX : Hid (Strip hs n least ds i (((3, 1, ((f : Nat) : Int), none, (k - f), (cap - f)) : Sx), (ds.drop f).take (k - f)) ∧ Vm w3 (((3, 1, ((f : Nat) : Int), none, (k - f), (cap - f)) : Sx), (ds.drop f).take (k - f))) := ⟨⟨f, by omega, rfl, rfl, rfl, by rw [HK.out]; (try simp), by rw [HK.out]⟩, HIT.out, by unfold OkS; simp only; omega⟩
              have QS : Hid ((∀ j q, (Q ++ [(((3, 1, ((f : Nat) : Int), none, (k - f), (cap - f)) : Sx), (ds.drop f).take (k - f))])[j]? = some q → Strip hs n least ds j q) ∧ ∀ q ∈ Q ++ [(((3, 1, ((f : Nat) : Int), none, (k - f), (cap - f)) : Sx), (ds.drop f).take (k - f))], Vm w3 q) := by
                refine ⟨fun j q hq => ?_, fun q hq => ?_⟩
                · rcases Nat.lt_or_ge j Q.length with hj | hj
                  · rw [List.getElem?_append_left hj] at hq; exact HQ.out.2.1 j q hq
                  · rw [List.getElem?_append_right hj] at hq
                    have hj0 : j - Q.length = 0 := by
                      have := (List.getElem?_eq_some_iff.1 hq).1
                      simp at this; omega
                    rw [hj0] at hq
                    simp at hq
                    have hji : j = i := by have := HQ.out.1; omega
                    rw [hji, ← hq]
                    first | exact HX.out.1 | simpa using HX.out.1
                · rw [List.mem_append] at hq
                  rcases hq with hq | hq
                  · exact HQ.out.2.2 q hq
                  · simp at hq; rw [hq]; first | exact HX.out.2 | simpa using HX.out.2
              have hone : SR (fun _ => True) (wr.alloc (.cells #[.int .u64 3, .int .i64 1, .int .i64 ((f : Nat) : Int), .slice none (k - f) (cap - f)] 31)).drew (some ⟨wr.heap.size, 0, none⟩) 1 [((3, 1, ((f : Nat) : Int), none, (k - f), (cap - f)) : Sx)] := SR.one wr.drew ((3, 1, ((f : Nat) : Int), none, (k - f), (cap - f)) : Sx)
              have hs3 := hb.size
              obtain ⟨v5, w5, hrun, hown5, hg5⟩ := run_append_S (own_below hown (bl1 wr (.cells #[.int .u64 3, .int .i64 1, .int .i64 ((f : Nat) : Int), .slice none (k - f) (cap - f)] 31)).drew) hone (by omega) (by show _ ≤ (wr.alloc _).heap.size; simp; omega)
              have hb5 : Below w3.heap.size w3 w5 := bl_grown (hb.alloc hs3 _).drew (by show _ ≤ (wr.alloc _).heap.size; simp; omega) hg5 (fun g hg => (hown.lt g hg).1)
              have HE5 : Hid (w5.ownsRow w3.heap.size 31 4 v5 (i + 1) (flat ((Q ++ [(((3, 1, ((f : Nat) : Int), none, (k - f), (cap - f)) : Sx), (ds.drop f).take (k - f))]).map (·.1)))) := by show World.ownsRow _ _ _ _ _ _ _; rw [List.map_append]; exact hown5
              have two : wr.drew.cell? ⟨vb, 0, none⟩ = some (.int .u64 3) ∧ wr.drew.cell? ⟨vb, 1, none⟩ = some (.int .i64 1) := ⟨k0r, k1r⟩
              have at1 : (wr.alloc (.cells #[.int .u64 3, .int .i64 1, .int .i64 ((f : Nat) : Int), .slice none (k - f) (cap - f)] 31)).drew.cell? ⟨vb, 0, none⟩ = some (.int .u64 3) ∧ (wr.alloc (.cells #[.int .u64 3, .int .i64 1, .int .i64 ((f : Nat) : Int), .slice none (k - f) (cap - f)] 31)).drew.cell? ⟨vb, 1, none⟩ = some (.int .i64 1) := ⟨CL.out (bl1 wr (.cells #[.int .u64 3, .int .i64 1, .int .i64 ((f : Nat) : Int), .slice none (k - f) (cap - f)] 31)).drew k0r, CL.out (bl1 wr (.cells #[.int .u64 3, .int .i64 1, .int .i64 ((f : Nat) : Int), .slice none (k - f) (cap - f)] 31)).drew k1r⟩
              have at2 : w5.cell? ⟨vb, 0, none⟩ = some (.int .u64 3) ∧ w5.cell? ⟨vb, 1, none⟩ = some (.int .i64 1) := ⟨CL.out hb5 k0, CL.out hb5 k1⟩
              have HRUN : Hid ((Builtin.append_ #[22, 22] 22 #[.slice lo i lcap, .slice (some ⟨wr.heap.size, 0, none⟩) 1 1]).run Try.prog (wr.alloc (.cells #[.int .u64 3, .int .i64 1, .int .i64 ((f : Nat) : Int), .slice none (k - f) (cap - f)] 31)).drew = .ok v5 w5) := hrun
              clear hit hone hown5 hg5 hown hrun HIT HX hsrl
              go_upto_region 22 with fail
              refine wp_region_noPanic ?_
              refine wp_region_held_drew (S := fun wx => wx.cell? ⟨vb, 0, none⟩ = some (.int .u64 3) ∧ wx.cell? ⟨vb, 1, none⟩ = some (.int .i64 1)) (by kernel_rfl) two (fun hHeld => ?_)
              refine take_first 0 (v := ?_) rfl (by kernel_rfl) (by kernel_rfl) (by kernel_rfl) (fun _ _ _ h => h) (Or.inl ⟨by rfl, by intro wx hSw; obtain ⟨hSw1, hSw2⟩ := hSw; go_simp; try with_reducible rfl⟩) (by assumption) ?_
              (try simp only [Act.put, List.setIfInBounds_toArray, List.set_cons_zero, List.set_cons_succ])
              refine take_first 1 (v := ?_) rfl (by kernel_rfl) (by kernel_rfl) (by kernel_rfl) (fun _ _ _ h => h) (Or.inl ⟨by rfl, by intro wx hSw; obtain ⟨hSw1, hSw2⟩ := hSw; go_simp; try with_reducible rfl⟩) (by assumption) ?_
              (try simp only [Act.put, List.setIfInBounds_toArray, List.set_cons_zero, List.set_cons_succ])
              refine take_first 2 (v := ?_) rfl (by kernel_rfl) (by kernel_rfl) (by kernel_rfl) (fun _ _ _ h => h) (Or.inl ⟨by rfl, by intro wx hSw; obtain ⟨hSw1, hSw2⟩ := hSw; go_simp; try with_reducible rfl⟩) (by assumption) ?_
              (try simp only [Act.put, List.setIfInBounds_toArray, List.set_cons_zero, List.set_cons_succ])
              refine take_first 3 (v := ?_) rfl (by kernel_rfl) (by kernel_rfl) (by kernel_rfl) (fun _ _ _ h => h) (Or.inl ⟨by rfl, by intro wx hSw; obtain ⟨hSw1, hSw2⟩ := hSw; go_simp; try with_reducible rfl⟩) (by assumption) ?_
              (try simp only [Act.put, List.setIfInBounds_toArray, List.set_cons_zero, List.set_cons_succ])
              refine take_first 4 (v := ?_) rfl (by kernel_rfl) (by kernel_rfl) (by kernel_rfl) (fun _ _ _ h => h) (Or.inl ⟨by rfl, by intro wx hSw; obtain ⟨hSw1, hSw2⟩ := hSw; go_simp; try with_reducible rfl⟩) (by assumption) ?_
              (try simp only [Act.put, List.setIfInBounds_toArray, List.set_cons_zero, List.set_cons_succ])
              refine take_first 5 (v := ?_) rfl (by kernel_rfl) (by kernel_rfl) (by kernel_rfl) (fun _ _ _ h => h) (Or.inl ⟨by rfl, by intro wx hSw; obtain ⟨hSw1, hSw2⟩ := hSw; go_simp; try with_reducible rfl⟩) (by assumption) ?_
              (try simp only [Act.put, List.setIfInBounds_toArray, List.set_cons_zero, List.set_cons_succ])
              refine take_first 6 (v := ?_) rfl (by kernel_rfl) (by kernel_rfl) (by kernel_rfl) (fun _ _ _ h => h) (Or.inl ⟨by rfl, by intro wx hSw; obtain ⟨hSw1, hSw2⟩ := hSw; go_simp; try with_reducible rfl⟩) (by assumption) ?_
              (try simp only [Act.put, List.setIfInBounds_toArray, List.set_cons_zero, List.set_cons_succ])
              refine take_first 7 (v := ?_) rfl (by kernel_rfl) (by kernel_rfl) (by kernel_rfl) (fun _ _ _ h => h) (Or.inl ⟨by rfl, by intro wx hSw; obtain ⟨hSw1, hSw2⟩ := hSw; go_simp; try with_reducible rfl⟩) (by assumption) ?_
              (try simp only [Act.put, List.setIfInBounds_toArray, List.set_cons_zero, List.set_cons_succ])
              refine comes_up 8 rfl (by kernel_rfl) (fun K hK => ?_)
              go_simp
              refine hK.out _ _ at1 (fun hHeld => ?_)
              clear hK K
              (try simp only [Act.put, List.setIfInBounds_toArray, List.set_cons_zero, List.set_cons_succ])
              refine comes_up 9 rfl (by kernel_rfl) (fun K hK => ?_)
              refine step_append_run rfl (.tmp 92) (.tmp 100) 22 rfl (.slice lo i lcap) (.slice (some ⟨wr.heap.size, 0, none⟩) 1 1) v5 w5 (by simp [Act.eval]) (by simp [Act.eval]) HRUN.out ?_
              refine hK.out _ _ at2 (fun hHeld => ?_)
              clear hK K
              (try simp only [Act.put, List.setIfInBounds_toArray, List.set_cons_zero, List.set_cons_succ])
              refine take_first 10 (v := ?_) rfl (by kernel_rfl) (by kernel_rfl) (by kernel_rfl) (fun _ _ _ h => h) (Or.inl ⟨by rfl, by intro wx hSw; obtain ⟨hSw1, hSw2⟩ := hSw; go_simp; try with_reducible rfl⟩) (by assumption) ?_
              (try simp only [Act.put, List.setIfInBounds_toArray, List.set_cons_zero, List.set_cons_succ])
              refine wpAnyH_done (by kernel_rfl) ?_ _
              refine NoPanic.normal ?_
              clear two at1 at2 hHeld HRUN c0 hrem k0r k1r hb c2 hfrem
              go_wp2
              go_roundw
              case rel => first | exact ⟨i + 1, Q ++ [(((3, 1, ((f : Nat) : Int), none, (k - f), (cap - f)) : Sx), (ds.drop f).take (k - f))], by omega, by go_num, by rw [List.length_append, HQ.out.1]; rfl, QS.out.1, QS.out.2, HE5.out, hb5⟩ | ((repeat apply Exists.intro); exact ⟨⟨i + 1, Q ++ [(((3, 1, ((f : Nat) : Int), none, (k - f), (cap - f)) : Sx), (ds.drop f).take (k - f))], by omega, by go_num, by rw [List.length_append, HQ.out.1]; rfl, QS.out.1, QS.out.2, HE5.out, hb5⟩, rfl⟩)
              case measure => simp [intOf]; omega
            | some al =>
              by_cases hcf : cap = f
              · subst hcf
                obtain rfl : cap = k := by omega
                have hso : so (some al) cap cap = some al := by simp [so]
                have hit := its_part (f := cap) (k := cap) HA3.out.1 (by omega) (by omega) hc
                (try simp only [Nat.sub_self, Nat.sub_zero] at hit)
                rw [hso] at hit
                have HIT : Hid (Its (fun _ => True) w3 (some al) 0 ((ds.drop cap).take (cap - cap))) := by simpa [Hid] using hit
                have HX : Hid (Strip hs n least ds i (((3, 1, ((cap : Nat) : Int), (some al), 0, 0) : Sx), (ds.drop cap).take (cap - cap)) ∧ Vm w3 (((3, 1, ((cap : Nat) : Int), (some al), 0, 0) : Sx), (ds.drop cap).take (cap - cap))) := ⟨⟨cap, by omega, rfl, rfl, rfl, by rw [HK.out]; (try simp), by rw [HK.out]⟩, HIT.out, by unfold OkS; simp only; omega⟩
                have QS : Hid ((∀ j q, (Q ++ [(((3, 1, ((cap : Nat) : Int), (some al), 0, 0) : Sx), (ds.drop cap).take (cap - cap))])[j]? = some q → Strip hs n least ds j q) ∧ ∀ q ∈ Q ++ [(((3, 1, ((cap : Nat) : Int), (some al), 0, 0) : Sx), (ds.drop cap).take (cap - cap))], Vm w3 q) := by
                  refine ⟨fun j q hq => ?_, fun q hq => ?_⟩
                  · rcases Nat.lt_or_ge j Q.length with hj | hj
                    · rw [List.getElem?_append_left hj] at hq; exact HQ.out.2.1 j q hq
                    · rw [List.getElem?_append_right hj] at hq
                      have hj0 : j - Q.length = 0 := by
                        have := (List.getElem?_eq_some_iff.1 hq).1
                        simp at this; omega
                      rw [hj0] at hq
                      simp at hq
                      have hji : j = i := by have := HQ.out.1; omega
                      rw [hji, ← hq]
                      first | exact HX.out.1 | simpa using HX.out.1
                  · rw [List.mem_append] at hq
                    rcases hq with hq | hq
                    · exact HQ.out.2.2 q hq
                    · simp at hq; rw [hq]; first | exact HX.out.2 | simpa using HX.out.2
                have hone : SR (fun _ => True) (wr.alloc (.cells #[.int .u64 3, .int .i64 1, .int .i64 ((cap : Nat) : Int), .slice (some al) 0 0] 31)).drew (some ⟨wr.heap.size, 0, none⟩) 1 [((3, 1, ((cap : Nat) : Int), (some al), 0, 0) : Sx)] := SR.one wr.drew ((3, 1, ((cap : Nat) : Int), (some al), 0, 0) : Sx)
                have hs3 := hb.size
                obtain ⟨v5, w5, hrun, hown5, hg5⟩ := run_append_S (own_below hown (bl1 wr (.cells #[.int .u64 3, .int .i64 1, .int .i64 ((cap : Nat) : Int), .slice (some al) 0 0] 31)).drew) hone (by omega) (by show _ ≤ (wr.alloc _).heap.size; simp; omega)
                have hb5 : Below w3.heap.size w3 w5 := bl_grown (hb.alloc hs3 _).drew (by show _ ≤ (wr.alloc _).heap.size; simp; omega) hg5 (fun g hg => (hown.lt g hg).1)
                have HE5 : Hid (w5.ownsRow w3.heap.size 31 4 v5 (i + 1) (flat ((Q ++ [(((3, 1, ((cap : Nat) : Int), (some al), 0, 0) : Sx), (ds.drop cap).take (cap - cap))]).map (·.1)))) := by show World.ownsRow _ _ _ _ _ _ _; rw [List.map_append]; exact hown5
                have two : wr.drew.cell? ⟨vb, 0, none⟩ = some (.int .u64 3) ∧ wr.drew.cell? ⟨vb, 1, none⟩ = some (.int .i64 1) := ⟨k0r, k1r⟩
                have at1 : (wr.alloc (.cells #[.int .u64 3, .int .i64 1, .int .i64 ((cap : Nat) : Int), .slice (some al) 0 0] 31)).drew.cell? ⟨vb, 0, none⟩ = some (.int .u64 3) ∧ (wr.alloc (.cells #[.int .u64 3, .int .i64 1, .int .i64 ((cap : Nat) : Int), .slice (some al) 0 0] 31)).drew.cell? ⟨vb, 1, none⟩ = some (.int .i64 1) := ⟨CL.out (bl1 wr (.cells #[.int .u64 3, .int .i64 1, .int .i64 ((cap : Nat) : Int), .slice (some al) 0 0] 31)).drew k0r, CL.out (bl1 wr (.cells #[.int .u64 3, .int .i64 1, .int .i64 ((cap : Nat) : Int), .slice (some al) 0 0] 31)).drew k1r⟩
                have at2 : w5.cell? ⟨vb, 0, none⟩ = some (.int .u64 3) ∧ w5.cell? ⟨vb, 1, none⟩ = some (.int .i64 1) := ⟨CL.out hb5 k0, CL.out hb5 k1⟩
                have HRUN : Hid ((Builtin.append_ #[22, 22] 22 #[.slice lo i lcap, .slice (some ⟨wr.heap.size, 0, none⟩) 1 1]).run Try.prog (wr.alloc (.cells #[.int .u64 3, .int .i64 1, .int .i64 ((cap : Nat) : Int), .slice (some al) 0 0] 31)).drew = .ok v5 w5) := hrun
                clear hit hone hown5 hg5 hown hrun HIT HX hsrl
                go_upto_region 22 with fail
                refine wp_region_noPanic ?_
                refine wp_region_held_drew (S := fun wx => wx.cell? ⟨vb, 0, none⟩ = some (.int .u64 3) ∧ wx.cell? ⟨vb, 1, none⟩ = some (.int .i64 1)) (by kernel_rfl) two (fun hHeld => ?_)
                refine take_first 0 (v := ?_) rfl (by kernel_rfl) (by kernel_rfl) (by kernel_rfl) (fun _ _ _ h => h) (Or.inl ⟨by rfl, by intro wx hSw; obtain ⟨hSw1, hSw2⟩ := hSw; go_simp; try with_reducible rfl⟩) (by assumption) ?_
                (try simp only [Act.put, List.setIfInBounds_toArray, List.set_cons_zero, List.set_cons_succ])
                refine take_first 1 (v := ?_) rfl (by kernel_rfl) (by kernel_rfl) (by kernel_rfl) (fun _ _ _ h => h) (Or.inl ⟨by rfl, by intro wx hSw; obtain ⟨hSw1, hSw2⟩ := hSw; go_simp; try with_reducible rfl⟩) (by assumption) ?_
                (try simp only [Act.put, List.setIfInBounds_toArray, List.set_cons_zero, List.set_cons_succ])
                refine take_first 2 (v := ?_) rfl (by kernel_rfl) (by kernel_rfl) (by kernel_rfl) (fun _ _ _ h => h) (Or.inl ⟨by rfl, by intro wx hSw; obtain ⟨hSw1, hSw2⟩ := hSw; go_simp; try with_reducible rfl⟩) (by assumption) ?_
                (try simp only [Act.put, List.setIfInBounds_toArray, List.set_cons_zero, List.set_cons_succ])
                refine take_first 3 (v := ?_) rfl (by kernel_rfl) (by kernel_rfl) (by kernel_rfl) (fun _ _ _ h => h) (Or.inl ⟨by rfl, by intro wx hSw; obtain ⟨hSw1, hSw2⟩ := hSw; go_simp; try with_reducible rfl⟩) (by assumption) ?_
                (try simp only [Act.put, List.setIfInBounds_toArray, List.set_cons_zero, List.set_cons_succ])
                refine take_first 4 (v := ?_) rfl (by kernel_rfl) (by kernel_rfl) (by kernel_rfl) (fun _ _ _ h => h) (Or.inl ⟨by rfl, by intro wx hSw; obtain ⟨hSw1, hSw2⟩ := hSw; go_simp; try with_reducible rfl⟩) (by assumption) ?_
                (try simp only [Act.put, List.setIfInBounds_toArray, List.set_cons_zero, List.set_cons_succ])
                refine take_first 5 (v := ?_) rfl (by kernel_rfl) (by kernel_rfl) (by kernel_rfl) (fun _ _ _ h => h) (Or.inl ⟨by rfl, by intro wx hSw; obtain ⟨hSw1, hSw2⟩ := hSw; go_simp; try with_reducible rfl⟩) (by assumption) ?_
                (try simp only [Act.put, List.setIfInBounds_toArray, List.set_cons_zero, List.set_cons_succ])
                refine take_first 6 (v := ?_) rfl (by kernel_rfl) (by kernel_rfl) (by kernel_rfl) (fun _ _ _ h => h) (Or.inl ⟨by rfl, by intro wx hSw; obtain ⟨hSw1, hSw2⟩ := hSw; go_simp; try with_reducible rfl⟩) (by assumption) ?_
                (try simp only [Act.put, List.setIfInBounds_toArray, List.set_cons_zero, List.set_cons_succ])
                refine take_first 7 (v := ?_) rfl (by kernel_rfl) (by kernel_rfl) (by kernel_rfl) (fun _ _ _ h => h) (Or.inl ⟨by rfl, by intro wx hSw; obtain ⟨hSw1, hSw2⟩ := hSw; go_simp; try with_reducible rfl⟩) (by assumption) ?_
                (try simp only [Act.put, List.setIfInBounds_toArray, List.set_cons_zero, List.set_cons_succ])
                refine comes_up 8 rfl (by kernel_rfl) (fun K hK => ?_)
                go_simp
                refine hK.out _ _ at1 (fun hHeld => ?_)
                clear hK K
                (try simp only [Act.put, List.setIfInBounds_toArray, List.set_cons_zero, List.set_cons_succ])
                refine comes_up 9 rfl (by kernel_rfl) (fun K hK => ?_)
                refine step_append_run rfl (.tmp 92) (.tmp 100) 22 rfl (.slice lo i lcap) (.slice (some ⟨wr.heap.size, 0, none⟩) 1 1) v5 w5 (by simp [Act.eval]) (by simp [Act.eval]) HRUN.out ?_
                refine hK.out _ _ at2 (fun hHeld => ?_)
                clear hK K
                (try simp only [Act.put, List.setIfInBounds_toArray, List.set_cons_zero, List.set_cons_succ])
                refine take_first 10 (v := ?_) rfl (by kernel_rfl) (by kernel_rfl) (by kernel_rfl) (fun _ _ _ h => h) (Or.inl ⟨by rfl, by intro wx hSw; obtain ⟨hSw1, hSw2⟩ := hSw; go_simp; try with_reducible rfl⟩) (by assumption) ?_
                (try simp only [Act.put, List.setIfInBounds_toArray, List.set_cons_zero, List.set_cons_succ])
                refine wpAnyH_done (by kernel_rfl) ?_ _
                refine NoPanic.normal ?_
                clear two at1 at2 hHeld HRUN c0 hrem k0r k1r hb c2 hfrem
                go_wp2
                go_roundw
                case rel => first | exact ⟨i + 1, Q ++ [(((3, 1, ((cap : Nat) : Int), (some al), 0, 0) : Sx), (ds.drop cap).take (cap - cap))], by omega, by go_num, by rw [List.length_append, HQ.out.1]; rfl, QS.out.1, QS.out.2, HE5.out, hb5⟩ | ((repeat apply Exists.intro); exact ⟨⟨i + 1, Q ++ [(((3, 1, ((cap : Nat) : Int), (some al), 0, 0) : Sx), (ds.drop cap).take (cap - cap))], by omega, by go_num, by rw [List.length_append, HQ.out.1]; rfl, QS.out.1, QS.out.2, HE5.out, hb5⟩, rfl⟩)
                case measure => simp [intOf]; omega
              · have hso : so (some al) cap f = some (al.add (f * 2)) := by simp [so, hcf]
                have hit := its_part (f := f) (k := k) HA3.out.1 (by omega) (by omega) hc
                (try simp only [Nat.sub_self, Nat.sub_zero] at hit)
                rw [hso] at hit
                have HIT : Hid (Its (fun _ => True) w3 (some (al.add (f * 2))) (k - f) ((ds.drop f).take (k - f))) := by simpa [Hid] using hit
                have HX : Hid (Strip hs n least ds i (((3, 1, ((f : Nat) : Int), (some (al.add (f * 2))), (k - f), (cap - f)) : Sx), (ds.drop f).take (k - f)) ∧ Vm w3 (((3, 1, ((f : Nat) : Int), (some (al.add (f * 2))), (k - f), (cap - f)) : Sx), (ds.drop f).take (k - f))) := ⟨⟨f, by omega, rfl, rfl, rfl, by rw [HK.out]; (try simp), by rw [HK.out]⟩, HIT.out, by unfold OkS; simp only; omega⟩
                have QS : Hid ((∀ j q, (Q ++ [(((3, 1, ((f : Nat) : Int), (some (al.add (f * 2))), (k - f), (cap - f)) : Sx), (ds.drop f).take (k - f))])[j]? = some q → Strip hs n least ds j q) ∧ ∀ q ∈ Q ++ [(((3, 1, ((f : Nat) : Int), (some (al.add (f * 2))), (k - f), (cap - f)) : Sx), (ds.drop f).take (k - f))], Vm w3 q) := by
                  refine ⟨fun j q hq => ?_, fun q hq => ?_⟩
                  · rcases Nat.lt_or_ge j Q.length with hj | hj
                    · rw [List.getElem?_append_left hj] at hq; exact HQ.out.2.1 j q hq
                    · rw [List.getElem?_append_right hj] at hq
                      have hj0 : j - Q.length = 0 := by
                        have := (List.getElem?_eq_some_iff.1 hq).1
                        simp at this; omega
                      rw [hj0] at hq
                      simp at hq
                      have hji : j = i := by have := HQ.out.1; omega
                      rw [hji, ← hq]
                      first | exact HX.out.1 | simpa using HX.out.1
                  · rw [List.mem_append] at hq
                    rcases hq with hq | hq
                    · exact HQ.out.2.2 q hq
                    · simp at hq; rw [hq]; first | exact HX.out.2 | simpa using HX.out.2
                have hone : SR (fun _ => True) (wr.alloc (.cells #[.int .u64 3, .int .i64 1, .int .i64 ((f : Nat) : Int), .slice (some (al.add (f * 2))) (k - f) (cap - f)] 31)).drew (some ⟨wr.heap.size, 0, none⟩) 1 [((3, 1, ((f : Nat) : Int), (some (al.add (f * 2))), (k - f), (cap - f)) : Sx)] := SR.one wr.drew ((3, 1, ((f : Nat) : Int), (some (al.add (f * 2))), (k - f), (cap - f)) : Sx)
                have hs3 := hb.size
                obtain ⟨v5, w5, hrun, hown5, hg5⟩ := run_append_S (own_below hown (bl1 wr (.cells #[.int .u64 3, .int .i64 1, .int .i64 ((f : Nat) : Int), .slice (some (al.add (f * 2))) (k - f) (cap - f)] 31)).drew) hone (by omega) (by show _ ≤ (wr.alloc _).heap.size; simp; omega)
                have hb5 : Below w3.heap.size w3 w5 := bl_grown (hb.alloc hs3 _).drew (by show _ ≤ (wr.alloc _).heap.size; simp; omega) hg5 (fun g hg => (hown.lt g hg).1)
                have HE5 : Hid (w5.ownsRow w3.heap.size 31 4 v5 (i + 1) (flat ((Q ++ [(((3, 1, ((f : Nat) : Int), (some (al.add (f * 2))), (k - f), (cap - f)) : Sx), (ds.drop f).take (k - f))]).map (·.1)))) := by show World.ownsRow _ _ _ _ _ _ _; rw [List.map_append]; exact hown5
                have two : wr.drew.cell? ⟨vb, 0, none⟩ = some (.int .u64 3) ∧ wr.drew.cell? ⟨vb, 1, none⟩ = some (.int .i64 1) := ⟨k0r, k1r⟩
                have at1 : (wr.alloc (.cells #[.int .u64 3, .int .i64 1, .int .i64 ((f : Nat) : Int), .slice (some (al.add (f * 2))) (k - f) (cap - f)] 31)).drew.cell? ⟨vb, 0, none⟩ = some (.int .u64 3) ∧ (wr.alloc (.cells #[.int .u64 3, .int .i64 1, .int .i64 ((f : Nat) : Int), .slice (some (al.add (f * 2))) (k - f) (cap - f)] 31)).drew.cell? ⟨vb, 1, none⟩ = some (.int .i64 1) := ⟨CL.out (bl1 wr (.cells #[.int .u64 3, .int .i64 1, .int .i64 ((f : Nat) : Int), .slice (some (al.add (f * 2))) (k - f) (cap - f)] 31)).drew k0r, CL.out (bl1 wr (.cells #[.int .u64 3, .int .i64 1, .int .i64 ((f : Nat) : Int), .slice (some (al.add (f * 2))) (k - f) (cap - f)] 31)).drew k1r⟩
                have at2 : w5.cell? ⟨vb, 0, none⟩ = some (.int .u64 3) ∧ w5.cell? ⟨vb, 1, none⟩ = some (.int .i64 1) := ⟨CL.out hb5 k0, CL.out hb5 k1⟩
                have HRUN : Hid ((Builtin.append_ #[22, 22] 22 #[.slice lo i lcap, .slice (some ⟨wr.heap.size, 0, none⟩) 1 1]).run Try.prog (wr.alloc (.cells #[.int .u64 3, .int .i64 1, .int .i64 ((f : Nat) : Int), .slice (some (al.add (f * 2))) (k - f) (cap - f)] 31)).drew = .ok v5 w5) := hrun
                clear hit hone hown5 hg5 hown hrun HIT HX hsrl
                go_upto_region 22 with fail
                refine wp_region_noPanic ?_
                refine wp_region_held_drew (S := fun wx => wx.cell? ⟨vb, 0, none⟩ = some (.int .u64 3) ∧ wx.cell? ⟨vb, 1, none⟩ = some (.int .i64 1)) (by kernel_rfl) two (fun hHeld => ?_)
                refine take_first 0 (v := ?_) rfl (by kernel_rfl) (by kernel_rfl) (by kernel_rfl) (fun _ _ _ h => h) (Or.inl ⟨by rfl, by intro wx hSw; obtain ⟨hSw1, hSw2⟩ := hSw; go_simp; try with_reducible rfl⟩) (by assumption) ?_
                (try simp only [Act.put, List.setIfInBounds_toArray, List.set_cons_zero, List.set_cons_succ])
                refine take_first 1 (v := ?_) rfl (by kernel_rfl) (by kernel_rfl) (by kernel_rfl) (fun _ _ _ h => h) (Or.inl ⟨by rfl, by intro wx hSw; obtain ⟨hSw1, hSw2⟩ := hSw; go_simp; try with_reducible rfl⟩) (by assumption) ?_
                (try simp only [Act.put, List.setIfInBounds_toArray, List.set_cons_zero, List.set_cons_succ])
                refine take_first 2 (v := ?_) rfl (by kernel_rfl) (by kernel_rfl) (by kernel_rfl) (fun _ _ _ h => h) (Or.inl ⟨by rfl, by intro wx hSw; obtain ⟨hSw1, hSw2⟩ := hSw; go_simp; try with_reducible rfl⟩) (by assumption) ?_
                (try simp only [Act.put, List.setIfInBounds_toArray, List.set_cons_zero, List.set_cons_succ])
                refine take_first 3 (v := ?_) rfl (by kernel_rfl) (by kernel_rfl) (by kernel_rfl) (fun _ _ _ h => h) (Or.inl ⟨by rfl, by intro wx hSw; obtain ⟨hSw1, hSw2⟩ := hSw; go_simp; try with_reducible rfl⟩) (by assumption) ?_
                (try simp only [Act.put, List.setIfInBounds_toArray, List.set_cons_zero, List.set_cons_succ])
                refine take_first 4 (v := ?_) rfl (by kernel_rfl) (by kernel_rfl) (by kernel_rfl) (fun _ _ _ h => h) (Or.inl ⟨by rfl, by intro wx hSw; obtain ⟨hSw1, hSw2⟩ := hSw; go_simp; try with_reducible rfl⟩) (by assumption) ?_
                (try simp only [Act.put, List.setIfInBounds_toArray, List.set_cons_zero, List.set_cons_succ])
                refine take_first 5 (v := ?_) rfl (by kernel_rfl) (by kernel_rfl) (by kernel_rfl) (fun _ _ _ h => h) (Or.inl ⟨by rfl, by intro wx hSw; obtain ⟨hSw1, hSw2⟩ := hSw; go_simp; try with_reducible rfl⟩) (by assumption) ?_
                (try simp only [Act.put, List.setIfInBounds_toArray, List.set_cons_zero, List.set_cons_succ])
                refine take_first 6 (v := ?_) rfl (by kernel_rfl) (by kernel_rfl) (by kernel_rfl) (fun _ _ _ h => h) (Or.inl ⟨by rfl, by intro wx hSw; obtain ⟨hSw1, hSw2⟩ := hSw; go_simp; try with_reducible rfl⟩) (by assumption) ?_
                (try simp only [Act.put, List.setIfInBounds_toArray, List.set_cons_zero, List.set_cons_succ])
                refine take_first 7 (v := ?_) rfl (by kernel_rfl) (by kernel_rfl) (by kernel_rfl) (fun _ _ _ h => h) (Or.inl ⟨by rfl, by intro wx hSw; obtain ⟨hSw1, hSw2⟩ := hSw; go_simp; try with_reducible rfl⟩) (by assumption) ?_
                (try simp only [Act.put, List.setIfInBounds_toArray, List.set_cons_zero, List.set_cons_succ])
                refine comes_up 8 rfl (by kernel_rfl) (fun K hK => ?_)
                go_simp
                refine hK.out _ _ at1 (fun hHeld => ?_)
                clear hK K
                (try simp only [Act.put, List.setIfInBounds_toArray, List.set_cons_zero, List.set_cons_succ])
                refine comes_up 9 rfl (by kernel_rfl) (fun K hK => ?_)
                refine step_append_run rfl (.tmp 92) (.tmp 100) 22 rfl (.slice lo i lcap) (.slice (some ⟨wr.heap.size, 0, none⟩) 1 1) v5 w5 (by simp [Act.eval]) (by simp [Act.eval]) HRUN.out ?_
                refine hK.out _ _ at2 (fun hHeld => ?_)
                clear hK K
                (try simp only [Act.put, List.setIfInBounds_toArray, List.set_cons_zero, List.set_cons_succ])
                refine take_first 10 (v := ?_) rfl (by kernel_rfl) (by kernel_rfl) (by kernel_rfl) (fun _ _ _ h => h) (Or.inl ⟨by rfl, by intro wx hSw; obtain ⟨hSw1, hSw2⟩ := hSw; go_simp; try with_reducible rfl⟩) (by assumption) ?_
                (try simp only [Act.put, List.setIfInBounds_toArray, List.set_cons_zero, List.set_cons_succ])
                refine wpAnyH_done (by kernel_rfl) ?_ _
                refine NoPanic.normal ?_
                clear two at1 at2 hHeld HRUN c0 hrem k0r k1r hb c2 hfrem
                go_wp2
                go_roundw
                case rel => first | exact ⟨i + 1, Q ++ [(((3, 1, ((f : Nat) : Int), (some (al.add (f * 2))), (k - f), (cap - f)) : Sx), (ds.drop f).take (k - f))], by omega, by go_num, by rw [List.length_append, HQ.out.1]; rfl, QS.out.1, QS.out.2, HE5.out, hb5⟩ | ((repeat apply Exists.intro); exact ⟨⟨i + 1, Q ++ [(((3, 1, ((f : Nat) : Int), (some (al.add (f * 2))), (k - f), (cap - f)) : Sx), (ds.drop f).take (k - f))], by omega, by go_num, by rw [List.length_append, HQ.out.1]; rfl, QS.out.1, QS.out.2, HE5.out, hb5⟩, rfl⟩)
                case measure => simp [intOf]; omega
          · have hfsI : ¬ ((i : Int) < (ms : Int)) := by omega
            have hkc : k ≤ cap := by omega
            cases ao with
            | none =>
              have hso : so none cap 0 = none := rfl
              have hit := its_part (f := 0) (k := k) HA3.out.1 (by omega) (by omega) hc
              (try simp only [Nat.sub_self, Nat.sub_zero] at hit)
              rw [hso] at hit
              have HIT : Hid (Its (fun _ => True) w3 none k ((ds.drop 0).take (k - 0))) := by simpa [Hid] using hit
              have HX : Hid (Strip hs n least ds i (((3, 1, ((0 : Nat) : Int), none, k, cap) : Sx), (ds.drop 0).take (k - 0)) ∧ Vm w3 (((3, 1, ((0 : Nat) : Int), none, k, cap) : Sx), (ds.drop 0).take (k - 0))) := ⟨⟨0, by omega, rfl, rfl, rfl, by rw [HK.out]; (try simp), by rw [HK.out]⟩, HIT.out, by unfold OkS; simp only; omega⟩
              have QS : Hid ((∀ j q, (Q ++ [(((3, 1, ((0 : Nat) : Int), none, k, cap) : Sx), (ds.drop 0).take (k - 0))])[j]? = some q → Strip hs n least ds j q) ∧ ∀ q ∈ Q ++ [(((3, 1, ((0 : Nat) : Int), none, k, cap) : Sx), (ds.drop 0).take (k - 0))], Vm w3 q) := by
                refine ⟨fun j q hq => ?_, fun q hq => ?_⟩
                · rcases Nat.lt_or_ge j Q.length with hj | hj
                  · rw [List.getElem?_append_left hj] at hq; exact HQ.out.2.1 j q hq
                  · rw [List.getElem?_append_right hj] at hq
                    have hj0 : j - Q.length = 0 := by
                      have := (List.getElem?_eq_some_iff.1 hq).1
                      simp at this; omega
                    rw [hj0] at hq
                    simp at hq
                    have hji : j = i := by have := HQ.out.1; omega
                    rw [hji, ← hq]
                    first | exact HX.out.1 | simpa using HX.out.1
                · rw [List.mem_append] at hq
                  rcases hq with hq | hq
                  · exact HQ.out.2.2 q hq
                  · simp at hq; rw [hq]; first | exact HX.out.2 | simpa using HX.out.2
              have hone : SR (fun _ => True) (wr.alloc (.cells #[.int .u64 3, .int .i64 1, .int .i64 0, .slice none k cap] 31)).drew (some ⟨wr.heap.size, 0, none⟩) 1 [((3, 1, ((0 : Nat) : Int), none, k, cap) : Sx)] := SR.one wr.drew ((3, 1, ((0 : Nat) : Int), none, k, cap) : Sx)
              have hs3 := hb.size
              obtain ⟨v5, w5, hrun, hown5, hg5⟩ := run_append_S (own_below hown (bl1 wr (.cells #[.int .u64 3, .int .i64 1, .int .i64 0, .slice none k cap] 31)).drew) hone (by omega) (by show _ ≤ (wr.alloc _).heap.size; simp; omega)
              have hb5 : Below w3.heap.size w3 w5 := bl_grown (hb.alloc hs3 _).drew (by show _ ≤ (wr.alloc _).heap.size; simp; omega) hg5 (fun g hg => (hown.lt g hg).1)
              have HE5 : Hid (w5.ownsRow w3.heap.size 31 4 v5 (i + 1) (flat ((Q ++ [(((3, 1, ((0 : Nat) : Int), none, k, cap) : Sx), (ds.drop 0).take (k - 0))]).map (·.1)))) := by show World.ownsRow _ _ _ _ _ _ _; rw [List.map_append]; exact hown5
              have two : wr.drew.cell? ⟨vb, 0, none⟩ = some (.int .u64 3) ∧ wr.drew.cell? ⟨vb, 1, none⟩ = some (.int .i64 1) := ⟨k0r, k1r⟩
              have at1 : (wr.alloc (.cells #[.int .u64 3, .int .i64 1, .int .i64 0, .slice none k cap] 31)).drew.cell? ⟨vb, 0, none⟩ = some (.int .u64 3) ∧ (wr.alloc (.cells #[.int .u64 3, .int .i64 1, .int .i64 0, .slice none k cap] 31)).drew.cell? ⟨vb, 1, none⟩ = some (.int .i64 1) := ⟨CL.out (bl1 wr (.cells #[.int .u64 3, .int .i64 1, .int .i64 0, .slice none k cap] 31)).drew k0r, CL.out (bl1 wr (.cells #[.int .u64 3, .int .i64 1, .int .i64 0, .slice none k cap] 31)).drew k1r⟩
              have at2 : w5.cell? ⟨vb, 0, none⟩ = some (.int .u64 3) ∧ w5.cell? ⟨vb, 1, none⟩ = some (.int .i64 1) := ⟨CL.out hb5 k0, CL.out hb5 k1⟩
              have HRUN : Hid ((Builtin.append_ #[22, 22] 22 #[.slice lo i lcap, .slice (some ⟨wr.heap.size, 0, none⟩) 1 1]).run Try.prog (wr.alloc (.cells #[.int .u64 3, .int .i64 1, .int .i64 0, .slice none k cap] 31)).drew = .ok v5 w5) := hrun
              clear hit hone hown5 hg5 hown hrun HIT HX hsrl
              go_upto_region 22 with fail
              refine wp_region_noPanic ?_
              refine wp_region_held_drew (S := fun wx => wx.cell? ⟨vb, 0, none⟩ = some (.int .u64 3) ∧ wx.cell? ⟨vb, 1, none⟩ = some (.int .i64 1)) (by kernel_rfl) two (fun hHeld => ?_)
              refine take_first 0 (v := ?_) rfl (by kernel_rfl) (by kernel_rfl) (by kernel_rfl) (fun _ _ _ h => h) (Or.inl ⟨by rfl, by intro wx hSw; obtain ⟨hSw1, hSw2⟩ := hSw; go_simp; try with_reducible rfl⟩) (by assumption) ?_
              (try simp only [Act.put, List.setIfInBounds_toArray, List.set_cons_zero, List.set_cons_succ])
              refine take_first 1 (v := ?_) rfl (by kernel_rfl) (by kernel_rfl) (by kernel_rfl) (fun _ _ _ h => h) (Or.inl ⟨by rfl, by intro wx hSw; obtain ⟨hSw1, hSw2⟩ := hSw; go_simp; try with_reducible rfl⟩) (by assumption) ?_
              (try simp only [Act.put, List.setIfInBounds_toArray, List.set_cons_zero, List.set_cons_succ])
              refine take_first 2 (v := ?_) rfl (by kernel_rfl) (by kernel_rfl) (by kernel_rfl) (fun _ _ _ h => h) (Or.inl ⟨by rfl, by intro wx hSw; obtain ⟨hSw1, hSw2⟩ := hSw; go_simp; try with_reducible rfl⟩) (by assumption) ?_
              (try simp only [Act.put, List.setIfInBounds_toArray, List.set_cons_zero, List.set_cons_succ])
              refine take_first 3 (v := ?_) rfl (by kernel_rfl) (by kernel_rfl) (by kernel_rfl) (fun _ _ _ h => h) (Or.inl ⟨by rfl, by intro wx hSw; obtain ⟨hSw1, hSw2⟩ := hSw; go_simp; try with_reducible rfl⟩) (by assumption) ?_
              (try simp only [Act.put, List.setIfInBounds_toArray, List.set_cons_zero, List.set_cons_succ])
              refine take_first 4 (v := ?_) rfl (by kernel_rfl) (by kernel_rfl) (by kernel_rfl) (fun _ _ _ h => h) (Or.inl ⟨by rfl, by intro wx hSw; obtain ⟨hSw1, hSw2⟩ := hSw; go_simp; try with_reducible rfl⟩) (by assumption) ?_
              (try simp only [Act.put, List.setIfInBounds_toArray, List.set_cons_zero, List.set_cons_succ])
              refine take_first 5 (v := ?_) rfl (by kernel_rfl) (by kernel_rfl) (by kernel_rfl) (fun _ _ _ h => h) (Or.inl ⟨by rfl, by intro wx hSw; obtain ⟨hSw1, hSw2⟩ := hSw; go_simp; try with_reducible rfl⟩) (by assumption) ?_
              (try simp only [Act.put, List.setIfInBounds_toArray, List.set_cons_zero, List.set_cons_succ])
              refine take_first 6 (v := ?_) rfl (by kernel_rfl) (by kernel_rfl) (by kernel_rfl) (fun _ _ _ h => h) (Or.inl ⟨by rfl, by intro wx hSw; obtain ⟨hSw1, hSw2⟩ := hSw; go_simp; try with_reducible rfl⟩) (by assumption) ?_
              (try simp only [Act.put, List.setIfInBounds_toArray, List.set_cons_zero, List.set_cons_succ])
              refine take_first 7 (v := ?_) rfl (by kernel_rfl) (by kernel_rfl) (by kernel_rfl) (fun _ _ _ h => h) (Or.inl ⟨by rfl, by intro wx hSw; obtain ⟨hSw1, hSw2⟩ := hSw; go_simp; try with_reducible rfl⟩) (by assumption) ?_
              (try simp only [Act.put, List.setIfInBounds_toArray, List.set_cons_zero, List.set_cons_succ])
              refine comes_up 8 rfl (by kernel_rfl) (fun K hK => ?_)
              go_simp
              refine hK.out _ _ at1 (fun hHeld => ?_)
              clear hK K
              (try simp only [Act.put, List.setIfInBounds_toArray, List.set_cons_zero, List.set_cons_succ])
              refine comes_up 9 rfl (by kernel_rfl) (fun K hK => ?_)
              refine step_append_run rfl (.tmp 92) (.tmp 100) 22 rfl (.slice lo i lcap) (.slice (some ⟨wr.heap.size, 0, none⟩) 1 1) v5 w5 (by simp [Act.eval]) (by simp [Act.eval]) HRUN.out ?_
              refine hK.out _ _ at2 (fun hHeld => ?_)
              clear hK K
              (try simp only [Act.put, List.setIfInBounds_toArray, List.set_cons_zero, List.set_cons_succ])
              refine take_first 10 (v := ?_) rfl (by kernel_rfl) (by kernel_rfl) (by kernel_rfl) (fun _ _ _ h => h) (Or.inl ⟨by rfl, by intro wx hSw; obtain ⟨hSw1, hSw2⟩ := hSw; go_simp; try with_reducible rfl⟩) (by assumption) ?_
              (try simp only [Act.put, List.setIfInBounds_toArray, List.set_cons_zero, List.set_cons_succ])
              refine wpAnyH_done (by kernel_rfl) ?_ _
              refine NoPanic.normal ?_
              clear two at1 at2 hHeld HRUN c0 hrem k0r k1r hb
              go_wp2
              go_roundw
              case rel => first | exact ⟨i + 1, Q ++ [(((3, 1, ((0 : Nat) : Int), none, k, cap) : Sx), (ds.drop 0).take (k - 0))], by omega, by go_num, by rw [List.length_append, HQ.out.1]; rfl, QS.out.1, QS.out.2, HE5.out, hb5⟩ | ((repeat apply Exists.intro); exact ⟨⟨i + 1, Q ++ [(((3, 1, ((0 : Nat) : Int), none, k, cap) : Sx), (ds.drop 0).take (k - 0))], by omega, by go_num, by rw [List.length_append, HQ.out.1]; rfl, QS.out.1, QS.out.2, HE5.out, hb5⟩, rfl⟩)
              case measure => simp [intOf]; omega
            | some al =>
              have hso : so (some al) cap 0 = some al := by have := add0 al; simp [so, this]
              have hit := its_part (f := 0) (k := k) HA3.out.1 (by omega) (by omega) hc
              (try simp only [Nat.sub_self, Nat.sub_zero] at hit)
              rw [hso] at hit
              have HIT : Hid (Its (fun _ => True) w3 (some al) k ((ds.drop 0).take (k - 0))) := by simpa [Hid] using hit
              have HX : Hid (Strip hs n least ds i (((3, 1, ((0 : Nat) : Int), (some al), k, cap) : Sx), (ds.drop 0).take (k - 0)) ∧ Vm w3 (((3, 1, ((0 : Nat) : Int), (some al), k, cap) : Sx), (ds.drop 0).take (k - 0))) := ⟨⟨0, by omega, rfl, rfl, rfl, by rw [HK.out]; (try simp), by rw [HK.out]⟩, HIT.out, by unfold OkS; simp only; omega⟩
              have QS : Hid ((∀ j q, (Q ++ [(((3, 1, ((0 : Nat) : Int), (some al), k, cap) : Sx), (ds.drop 0).take (k - 0))])[j]? = some q → Strip hs n least ds j q) ∧ ∀ q ∈ Q ++ [(((3, 1, ((0 : Nat) : Int), (some al), k, cap) : Sx), (ds.drop 0).take (k - 0))], Vm w3 q) := by
                refine ⟨fun j q hq => ?_, fun q hq => ?_⟩
                · rcases Nat.lt_or_ge j Q.length with hj | hj
                  · rw [List.getElem?_append_left hj] at hq; exact HQ.out.2.1 j q hq
                  · rw [List.getElem?_append_right hj] at hq
                    have hj0 : j - Q.length = 0 := by
                      have := (List.getElem?_eq_some_iff.1 hq).1
                      simp at this; omega
                    rw [hj0] at hq
                    simp at hq
                    have hji : j = i := by have := HQ.out.1; omega
                    rw [hji, ← hq]
                    first | exact HX.out.1 | simpa using HX.out.1
                · rw [List.mem_append] at hq
                  rcases hq with hq | hq
                  · exact HQ.out.2.2 q hq
                  · simp at hq; rw [hq]; first | exact HX.out.2 | simpa using HX.out.2
              have hone : SR (fun _ => True) (wr.alloc (.cells #[.int .u64 3, .int .i64 1, .int .i64 0, .slice (some al) k cap] 31)).drew (some ⟨wr.heap.size, 0, none⟩) 1 [((3, 1, ((0 : Nat) : Int), (some al), k, cap) : Sx)] := SR.one wr.drew ((3, 1, ((0 : Nat) : Int), (some al), k, cap) : Sx)
              have hs3 := hb.size
              obtain ⟨v5, w5, hrun, hown5, hg5⟩ := run_append_S (own_below hown (bl1 wr (.cells #[.int .u64 3, .int .i64 1, .int .i64 0, .slice (some al) k cap] 31)).drew) hone (by omega) (by show _ ≤ (wr.alloc _).heap.size; simp; omega)
              have hb5 : Below w3.heap.size w3 w5 := bl_grown (hb.alloc hs3 _).drew (by show _ ≤ (wr.alloc _).heap.size; simp; omega) hg5 (fun g hg => (hown.lt g hg).1)
              have HE5 : Hid (w5.ownsRow w3.heap.size 31 4 v5 (i + 1) (flat ((Q ++ [(((3, 1, ((0 : Nat) : Int), (some al), k, cap) : Sx), (ds.drop 0).take (k - 0))]).map (·.1)))) := by show World.ownsRow _ _ _ _ _ _ _; rw [List.map_append]; exact hown5
              have two : wr.drew.cell? ⟨vb, 0, none⟩ = some (.int .u64 3) ∧ wr.drew.cell? ⟨vb, 1, none⟩ = some (.int .i64 1) := ⟨k0r, k1r⟩
              have at1 : (wr.alloc (.cells #[.int .u64 3, .int .i64 1, .int .i64 0, .slice (some al) k cap] 31)).drew.cell? ⟨vb, 0, none⟩ = some (.int .u64 3) ∧ (wr.alloc (.cells #[.int .u64 3, .int .i64 1, .int .i64 0, .slice (some al) k cap] 31)).drew.cell? ⟨vb, 1, none⟩ = some (.int .i64 1) := ⟨CL.out (bl1 wr (.cells #[.int .u64 3, .int .i64 1, .int .i64 0, .slice (some al) k cap] 31)).drew k0r, CL.out (bl1 wr (.cells #[.int .u64 3, .int .i64 1, .int .i64 0, .slice (some al) k cap] 31)).drew k1r⟩
              have at2 : w5.cell? ⟨vb, 0, none⟩ = some (.int .u64 3) ∧ w5.cell? ⟨vb, 1, none⟩ = some (.int .i64 1) := ⟨CL.out hb5 k0, CL.out hb5 k1⟩
              have HRUN : Hid ((Builtin.append_ #[22, 22] 22 #[.slice lo i lcap, .slice (some ⟨wr.heap.size, 0, none⟩) 1 1]).run Try.prog (wr.alloc (.cells #[.int .u64 3, .int .i64 1, .int .i64 0, .slice (some al) k cap] 31)).drew = .ok v5 w5) := hrun
              clear hit hone hown5 hg5 hown hrun HIT HX hsrl
              go_upto_region 22 with fail
              refine wp_region_noPanic ?_
              refine wp_region_held_drew (S := fun wx => wx.cell? ⟨vb, 0, none⟩ = some (.int .u64 3) ∧ wx.cell? ⟨vb, 1, none⟩ = some (.int .i64 1)) (by kernel_rfl) two (fun hHeld => ?_)
              refine take_first 0 (v := ?_) rfl (by kernel_rfl) (by kernel_rfl) (by kernel_rfl) (fun _ _ _ h => h) (Or.inl ⟨by rfl, by intro wx hSw; obtain ⟨hSw1, hSw2⟩ := hSw; go_simp; try with_reducible rfl⟩) (by assumption) ?_
              (try simp only [Act.put, List.setIfInBounds_toArray, List.set_cons_zero, List.set_cons_succ])
              refine take_first 1 (v := ?_) rfl (by kernel_rfl) (by kernel_rfl) (by kernel_rfl) (fun _ _ _ h => h) (Or.inl ⟨by rfl, by intro wx hSw; obtain ⟨hSw1, hSw2⟩ := hSw; go_simp; try with_reducible rfl⟩) (by assumption) ?_
              (try simp only [Act.put, List.setIfInBounds_toArray, List.set_cons_zero, List.set_cons_succ])
              refine take_first 2 (v := ?_) rfl (by kernel_rfl) (by kernel_rfl) (by kernel_rfl) (fun _ _ _ h => h) (Or.inl ⟨by rfl, by intro wx hSw; obtain ⟨hSw1, hSw2⟩ := hSw; go_simp; try with_reducible rfl⟩) (by assumption) ?_
              (try simp only [Act.put, List.setIfInBounds_toArray, List.set_cons_zero, List.set_cons_succ])
              refine take_first 3 (v := ?_) rfl (by kernel_rfl) (by kernel_rfl) (by kernel_rfl) (fun _ _ _ h => h) (Or.inl ⟨by rfl, by intro wx hSw; obtain ⟨hSw1, hSw2⟩ := hSw; go_simp; try with_reducible rfl⟩) (by assumption) ?_
              (try simp only [Act.put, List.setIfInBounds_toArray, List.set_cons_zero, List.set_cons_succ])
              refine take_first 4 (v := ?_) rfl (by kernel_rfl) (by kernel_rfl) (by kernel_rfl) (fun _ _ _ h => h) (Or.inl ⟨by rfl, by intro wx hSw; obtain ⟨hSw1, hSw2⟩ := hSw; go_simp; try with_reducible rfl⟩) (by assumption) ?_
              (try simp only [Act.put, List.setIfInBounds_toArray, List.set_cons_zero, List.set_cons_succ])
              refine take_first 5 (v := ?_) rfl (by kernel_rfl) (by kernel_rfl) (by kernel_rfl) (fun _ _ _ h => h) (Or.inl ⟨by rfl, by intro wx hSw; obtain ⟨hSw1, hSw2⟩ := hSw; go_simp; try with_reducible rfl⟩) (by assumption) ?_
              (try simp only [Act.put, List.setIfInBounds_toArray, List.set_cons_zero, List.set_cons_succ])
              refine take_first 6 (v := ?_) rfl (by kernel_rfl) (by kernel_rfl) (by kernel_rfl) (fun _ _ _ h => h) (Or.inl ⟨by rfl, by intro wx hSw; obtain ⟨hSw1, hSw2⟩ := hSw; go_simp; try with_reducible rfl⟩) (by assumption) ?_
              (try simp only [Act.put, List.setIfInBounds_toArray, List.set_cons_zero, List.set_cons_succ])
              refine take_first 7 (v := ?_) rfl (by kernel_rfl) (by kernel_rfl) (by kernel_rfl) (fun _ _ _ h => h) (Or.inl ⟨by rfl, by intro wx hSw; obtain ⟨hSw1, hSw2⟩ := hSw; go_simp; try with_reducible rfl⟩) (by assumption) ?_
              (try simp only [Act.put, List.setIfInBounds_toArray, List.set_cons_zero, List.set_cons_succ])
              refine comes_up 8 rfl (by kernel_rfl) (fun K hK => ?_)
              go_simp
              refine hK.out _ _ at1 (fun hHeld => ?_)
              clear hK K
              (try simp only [Act.put, List.setIfInBounds_toArray, List.set_cons_zero, List.set_cons_succ])
              refine comes_up 9 rfl (by kernel_rfl) (fun K hK => ?_)
              refine step_append_run rfl (.tmp 92) (.tmp 100) 22 rfl (.slice lo i lcap) (.slice (some ⟨wr.heap.size, 0, none⟩) 1 1) v5 w5 (by simp [Act.eval]) (by simp [Act.eval]) HRUN.out ?_
              refine hK.out _ _ at2 (fun hHeld => ?_)
              clear hK K
              (try simp only [Act.put, List.setIfInBounds_toArray, List.set_cons_zero, List.set_cons_succ])
              refine take_first 10 (v := ?_) rfl (by kernel_rfl) (by kernel_rfl) (by kernel_rfl) (fun _ _ _ h => h) (Or.inl ⟨by rfl, by intro wx hSw; obtain ⟨hSw1, hSw2⟩ := hSw; go_simp; try with_reducible rfl⟩) (by assumption) ?_
              (try simp only [Act.put, List.setIfInBounds_toArray, List.set_cons_zero, List.set_cons_succ])
              refine wpAnyH_done (by kernel_rfl) ?_ _
              refine NoPanic.normal ?_
              clear two at1 at2 hHeld HRUN c0 hrem k0r k1r hb
              go_wp2
              go_roundw
              case rel => first | exact ⟨i + 1, Q ++ [(((3, 1, ((0 : Nat) : Int), (some al), k, cap) : Sx), (ds.drop 0).take (k - 0))], by omega, by go_num, by rw [List.length_append, HQ.out.1]; rfl, QS.out.1, QS.out.2, HE5.out, hb5⟩ | ((repeat apply Exists.intro); exact ⟨⟨i + 1, Q ++ [(((3, 1, ((0 : Nat) : Int), (some al), k, cap) : Sx), (ds.drop 0).take (k - 0))], by omega, by go_num, by rw [List.length_append, HQ.out.1]; rfl, QS.out.1, QS.out.2, HE5.out, hb5⟩, rfl⟩)
              case measure => simp [intOf]; omega
        · have him : m = i := by omega
          have hltI : ¬ ((i : Int) < (m : Int)) := by omega
          subst him
          have hsts := meet_sts HQ.out.2.2 hb hsrl
          have hjo := join_any _ wr lo m lcap _ _ hsts (fun x hx => by obtain ⟨q, hq, rfl⟩ := List.mem_map.1 hx; exact (HQ.out.2.2 q hq).2) (by omega)
          have hl0 := E3.out 0 (by omega)
          clear hown hsrl hsts k0r k1r hi
          go_wp2_with fail
          refine hjo.mono ?_
          rintro e w4 ⟨jo, jcap, J, rs, rfl, hJ, _, hal, hstj, hcp, hb4⟩
          obtain ⟨t, f, hJt, hfl, t1, t2, t3, t4⟩ := meet_join HQ.out.1 HQ.out.2.1 (by omega) HE3.out hJ
          subst hJt
          have hst4 : Sts (fun _ => True) w4 jo 1 rs (esAt (Q.map (·.2)) [t]) := hstj.imp (fun _ _ _ => trivial)
          have HR : Hid (∀ k : Nat, f ≤ k → k ≤ most → restD rs (esAt (Q.map (·.2)) [t]) 3 1 (k : Int) = (0, (ds.drop k).take (most - k))) := fun k h1 h2 => (meet_rest hal hst4 t1 t2 t3 t4 (by omega) h1 h2).1
          have hokr : ∀ y ∈ rs, OkS y := fun y hy => by
            rcases (meet_rest (k := most) hal hst4 t1 t2 t3 t4 (by omega) (by omega) (by omega)).2 y hy with h | h | h
            · exact h
            · omega
            · omega
          have HS4 : Hid (Sts (fun _ => True) w4 jo 1 rs (esAt (Q.map (·.2)) [t]) ∧ (∀ y ∈ rs, OkS y) ∧ ∀ x ∈ rs, x.2.2.2.2.1 ≤ x.2.2.2.2.2 ∧ x.2.2.2.2.2 ≤ 9223372036854775807) := ⟨hst4, hokr, hcp⟩
          have hb34 := bl_step hb hb4
          have hb04 := bl_step hb3 hb34
          have HA4 : Hid (Its (fun _ => True) w4 ao n ds ∧ Rw (fun _ => True) w4 ho m hs) := ⟨HA3.out.1.keep (Kp.up hb34), HA3.out.2.1.keep (Kp.up hb34)⟩
          have k0 := CL.out hb34 k0
          have k1 := CL.out hb34 k1
          have hJ1 : ([t] : List Tg).length = 1 := rfl
          rw [hJ1]
          clear hjo hJ hal hstj hcp hst4 hokr hb hb4 hb34 HA3 HE3 HQ t1 t2 t3 t4 hJ1 hb3
          go_wp2_with fail
          go_loopw [17, 18, 19, 20] (fun iv _ _ _ wq => ∃ i : Nat, i ≤ m ∧ iv = .int .i64 (i : Nat) ∧ Below w4.heap.size w4 wq) (fun iv _ _ _ _ => m - (intOf iv).toNat)
          case atStart => exact ⟨0, by omega, rfl, Below.refl _ _⟩
          case round =>
            obtain ⟨i, hi, rfl, hb⟩ := hrel
            have k0r := CL.out hb k0
            have k1r := CL.out hb k1
            by_cases hlt : i < m
            · have hltI : (i : Int) < (m : Int) := by omega
              have hi0 : ¬ ((i : Int) < 0) := by omega
              obtain ⟨x, hx⟩ : ∃ x, hs[i]? = some x := ⟨hs[i]'(by omega), List.getElem?_eq_getElem (by omega)⟩
              obtain ⟨b, off, hho, _, hc⟩ := (HA4.out.2.keep (Kp.up hb)).2.2.2 (by omega)
              subst hho
              have c0 := hc i x hx
              have hx256 : x.toNat < 256 := x.toNat_lt
              have hka := kOf_at (n := n) hx
              obtain ⟨xn, hxn⟩ : ∃ xn, x.toNat = xn := ⟨_, rfl⟩
              obtain ⟨k, hk⟩ : ∃ k, kOf hs n i = k := ⟨_, rfl⟩
              have hkn := kOf_le hs n i
              have hlk := E3.out i hlt
              rw [hxn] at c0 hx256 hka
              rw [hk] at hkn hlk
              have hrem : ((xn : Int)).tmod ((n : Int) + 1) = (k : Int) := by rw [Int.tmod_eq_emod_of_nonneg (by omega), ← hk, ← hka]; rfl
              have HK : Hid (kOf hs n i = k) := hk
              clear hc hx hxn hka hk
              have hkc : k ≤ cap := by omega
              have hkm : k ≤ most := by omega
              have hmc : most ≤ cap := by omega
              have hra : Calls Try.prog 19 #[.slice jo 1 jcap, .agg #[.int .u64 3, .int .i64 1], .int .i64 (k : Int)] wr (fun e w' => RestPost (0, (ds.drop k).take (most - k)) wr e w') := by
                have hh := rest_any (fun _ => True) wr jo 1 jcap rs _ (HS4.out.1.up hb) HS4.out.2.1 HS4.out.2.2 3 1 (k : Int) ⟨by omega, by omega⟩
                rw [HR.out k (by omega) hkm] at hh
                exact hh
              have hdl2 : ((ds.drop k).take (most - k)).length = most - k := by rw [List.length_take, List.length_drop]; omega
              clear HK
              cases ao with
              | none =>
                have hso : so none cap k = none := rfl
                have hit := its_part (f := k) (k := most) HA4.out.1 (by omega) (by omega) hc
                rw [hso] at hit
                have HIT : Hid (Its (fun _ => True) w4 none (most - k) ((ds.drop k).take (most - k))) := hit
                clear hit
                go_wp2_with fail
                refine hra.mono ?_
                rintro e w5 ⟨xo, xl, xcap, rfl, hits, hb5⟩
                have hxl : xl = (most - k) := by rw [← hits.len]; exact hdl2
                subst hxl
                have hb45 := bl_step hb hb5
                have hcmp := items_true (fun _ => True) (fun _ => True) w5 xo none (most - k) xcap (cap - k) _ hits (HIT.out.keep (Kp.up hb45))
                clear hra hits hb5 hb k0r k1r c0 hrem HIT hdl2
                go_wp2_with fail
                refine hcmp.mono ?_
                rintro e w6 ⟨rfl, hu6⟩
                have hb6 := bl_step hb45 hu6.bl
                clear hcmp hu6 hb45
                go_wp2
                go_roundw
                case rel => first | exact ⟨i + 1, by omega, by go_num, hb6⟩ | ((repeat apply Exists.intro); exact ⟨⟨i + 1, by omega, by go_num, hb6⟩, rfl⟩)
                case measure => simp [intOf]; omega
              | some al =>
                by_cases hcf : cap = k
                · subst hcf
                  obtain rfl : cap = most := by omega
                  have hso : so (some al) cap cap = some al := by simp [so]
                  have hit := its_part (f := cap) (k := cap) HA4.out.1 (by omega) (by omega) hc
                  rw [hso] at hit
                  simp only [Nat.sub_self] at hit hra hdl2
                  have HIT : Hid (Its (fun _ => True) w4 (some al) 0 ((ds.drop cap).take 0)) := hit
                  clear hit
                  go_wp2_with fail
                  refine hra.mono ?_
                  rintro e w5 ⟨xo, xl, xcap, rfl, hits, hb5⟩
                  have hxl : xl = 0 := by rw [← hits.len]; exact hdl2
                  subst hxl
                  have hb45 := bl_step hb hb5
                  have hcmp := items_true (fun _ => True) (fun _ => True) w5 xo (some al) 0 xcap 0 _ hits (HIT.out.keep (Kp.up hb45))
                  clear hra hits hb5 hb k0r k1r c0 hrem HIT hdl2
                  go_wp2_with fail
                  refine hcmp.mono ?_
                  rintro e w6 ⟨rfl, hu6⟩
                  have hb6 := bl_step hb45 hu6.bl
                  clear hcmp hu6 hb45
                  go_wp2
                  go_roundw
                  case rel => first | exact ⟨i + 1, by omega, by go_num, hb6⟩ | ((repeat apply Exists.intro); exact ⟨⟨i + 1, by omega, by go_num, hb6⟩, rfl⟩)
                  case measure => simp [intOf]; omega
                · have hso : so (some al) cap k = some (al.add (k * 2)) := by simp [so, hcf]
                  have hit := its_part (f := k) (k := most) HA4.out.1 (by omega) (by omega) hc
                  rw [hso] at hit
                  have HIT : Hid (Its (fun _ => True) w4 (some (al.add (k * 2))) (most - k) ((ds.drop k).take (most - k))) := hit
                  clear hit
                  go_wp2_with fail
                  refine hra.mono ?_
                  rintro e w5 ⟨xo, xl, xcap, rfl, hits, hb5⟩
                  have hxl : xl = (most - k) := by rw [← hits.len]; exact hdl2
                  subst hxl
                  have hb45 := bl_step hb hb5
                  have hcmp := items_true (fun _ => True) (fun _ => True) w5 xo (some (al.add (k * 2))) (most - k) xcap (cap - k) _ hits (HIT.out.keep (Kp.up hb45))
                  clear hra hits hb5 hb k0r k1r c0 hrem HIT hdl2
                  go_wp2_with fail
                  refine hcmp.mono ?_
                  rintro e w6 ⟨rfl, hu6⟩
                  have hb6 := bl_step hb45 hu6.bl
                  clear hcmp hu6 hb45
                  go_wp2
                  go_roundw
                  case rel => first | exact ⟨i + 1, by omega, by go_num, hb6⟩ | ((repeat apply Exists.intro); exact ⟨⟨i + 1, by omega, by go_num, hb6⟩, rfl⟩)
                  case measure => simp [intOf]; omega
            · have hltI : ¬ ((i : Int) < (m : Int)) := by omega
              have hb05 := bl_step hb04 hb
              clear hb k0r k1r
              go_wp2
              go_ret
              exact ⟨rfl, hb05⟩

set_option maxRecDepth 100000 in
theorem lifted (os : Os) (started : os.Started) (H : Type) (enc : TypeId × Value → H) :
    ReturnsInHanded {} Try.checked os 5 .any (Rows.cutMeetsSpec.pre6 enc Try.prog Try.f5 Rows.cutMeetsRow.domain false) (Rows.cutMeetsSpec.post enc Try.prog Try.f5 false true false false) := by
  refine returnsInHanded_of_change_sized (C := Try.checked) own started (by kernel_rfl) Try.func5
    (ChangeSpec.witness6 (enc := enc) (C := Try.checked) false ⟨#[], #[.slice none 0 0, .slice none 0 0, .slice none 0 0], []⟩ 5 (by kernel_rfl) (by kernel_rfl) (by kernel_rfl) (by kernel_rfl)) ?_
  intro W base args ds gs before hval0 hW hcnd hsz0 _
  have hsz : (DataW.weightsEach Try.prog (Try.f5.params.toList ++ Rows.cutMeetsSpec.plain.varTypes Try.prog) (ds ++ gs)).all (· ≤ reachBytes) = true := hsz0
  have hval : ∀ (j : Nat) t v, Try.f5.params[j]? = some t → args[j]? = some v → Value.okWide Try.prog W .any base t v := hval0
  have hW' := hW
  obtain ⟨p, q, hA0, hV, rfl, hfz, hnd⟩ := hW
  have hA : DataW.TrodAll enc Try.prog W 0 (fun _ => true) true Try.f5.params.toList args.toList ds p := hA0
  rw [Try.params5] at hA hval hsz
  obtain ⟨v0, vs0, d0, ds0, p0, q0, hargs0, rfl, rfl, h0, r0⟩ := trodAll_cons hA
  obtain ⟨v1, vs1, d1, ds1, p1, q1, hargs1, rfl, rfl, h1, r1⟩ := trodAll_cons r0
  obtain ⟨v2, vs2, d2, ds2, p2, q2, hargs2, rfl, rfl, h2, r2⟩ := trodAll_cons r1
  obtain ⟨rfl, rfl, rfl⟩ := trodAll_nil r2
  obtain rfl : args = #[v0, v1, v2] := by cases args; simp_all
  obtain ⟨rfl, rfl⟩ := trodVars_none hV
  obtain ⟨a0, len0, cap0, rfl⟩ := okWide_slice Try.underlying29 (hval 0 29 v0 rfl rfl)
  have k0 := h0
  have lt0 : ∀ x ∈ p0, x.block < W.heap.size := by obtain ⟨m, hm⟩ := k0; exact DataW.trod_lt m _ _ _ hm
  obtain ⟨xs0, hx0, hz0, hc0, hd0⟩ := open_items h0 hsz (j := 0) rfl rfl
  obtain ⟨a1, len1, cap1, rfl⟩ := okWide_slice Try.underlying42 (hval 1 42 v1 rfl rfl)
  have k1 := h1
  have lt1 : ∀ x ∈ p1, x.block < W.heap.size := by obtain ⟨m, hm⟩ := k1; exact DataW.trod_lt m _ _ _ hm
  obtain ⟨xs1, hx1, hz1, hc1, hd1⟩ := open_bytes h1 hsz (j := 1) rfl rfl
  obtain ⟨a2, len2, cap2, rfl⟩ := okWide_slice Try.underlying42 (hval 2 42 v2 rfl rfl)
  have k2 := h2
  have lt2 : ∀ x ∈ p2, x.block < W.heap.size := by obtain ⟨m, hm⟩ := k2; exact DataW.trod_lt m _ _ _ hm
  obtain ⟨xs2, hx2, hz2, hc2, hd2⟩ := open_bytes h2 hsz (j := 2) rfl rfl
  clear hA0 hval0 hsz hsz0
  refine (walk W a0 len0 cap0 xs0 hx0 hz0 hc0 hd0 a1 len1 cap1 xs1 hx1 hz1 hc1 hd1 a2 len2 cap2 xs2 hx2 hz2 hc2 hd2).mono fun e W' ⟨he, bel⟩ => ?_
  subst he
  exact ⟨_, rfl, _, _, _, [], _, [], hW', trodAll_mk1 (shut_bool Try.underlying4 _), (trodAll_cons_mk (Below.trod laidOut (by kernel_rfl) (of_decide_eq_true (by kernel_rfl)) k0 bel lt0) (trodAll_cons_mk (Below.trod laidOut (by kernel_rfl) (of_decide_eq_true (by kernel_rfl)) k1 bel lt1) (trodAll_cons_mk (Below.trod laidOut (by kernel_rfl) (of_decide_eq_true (by kernel_rfl)) k2 bel lt2) trodAll_mk0))), rfl, bel.frame _, fun h => by cases h⟩

theorem over : Rows.cutMeetsRow.holds Try.pinned (OpenSpec.ofChange Rows.cutMeetsSpec) :=
  OpenClaim.holds_of_wide 5 Try.f5 rfl rfl rfl rfl rfl rfl rfl ⟨rfl, rfl, rfl, rfl, rfl⟩ rfl rfl rfl rfl rfl (by kernel_rfl) Try.func5 (by kernel_rfl)
    (of_decide_eq_true (by kernel_rfl)) (by unfold Func.isWrapper; first | (rw [if_pos (by decide +kernel)]; kernel_rfl) | (rw [if_neg (by decide +kernel)]; exact ⟨rfl, rfl⟩))
    (fun os started H enc _ => lifted os started H enc)

end Go.Proofs.Ytbdbdpgnilhcpaa.cutMeets
namespace Go.Proofs.Ytbdbdpgnilhcpaa
theorem cutMeets_holds : Rows.CutMeetsSaid := cutMeets.over
#print axioms cutMeets_holds
end Go.Proofs.Ytbdbdpgnilhcpaa
