/-
  The document's bytes of a summary.
-/
import Derived.Test.YtpdgoalbknopiaaEAll
namespace Go.Proofs.Ytpdgoalbknopiaa
open Go.RowKit
set_option linter.unusedVariables false
set_option linter.unusedSimpArgs false

/-- Bytes of one's own with more behind them. -/
theorem app_own {w w' : World} {W0 : World} {v v' : Value} {xs ys : List UInt8} (hb : Below W0.heap.size W0 w) (ho : w.ownsRow W0.heap.size 5 1 v xs.length (xs.map Cd.by8)) (ha : Adds W0.heap.size w w' v v' ys) : w'.ownsRow W0.heap.size 5 1 v' ys.length (ys.map Cd.by8) ∧ Below W0.heap.size W0 w' :=
  ⟨ha.own, hb.trans (ha.below hb.size (fun k hk => (own_lt ho k hk).1))⟩

set_option maxRecDepth 20000 in
set_option maxHeartbeats 2000000 in
theorem refAll_any (p : Nat → Prop) (w : World) (ao : Option Addr) (n ac : Nat) (es : List (Lb × List UInt8)) (h : ER p w ao n es) (hn1 : n ≤ 1000) (bo : Option Addr) (m bc : Nat) (ls : List Lb) (g : LR w bo m ls) (hm : m ≤ 1000) (nx : Nat) (hn : Nat) (hp : Int)
    (hok : ∀ e ∈ es, e.1.1 < 18446744073709551616 ∧ e.1.2.2.1 < 18446744073709551616 ∧ formL e.1 = true ∧ e.2.length ≤ 64) (hol : ∀ x ∈ ls, x.1 < 18446744073709551616 ∧ x.2.2.1 < 18446744073709551616 ∧ formL x = true) (hnx : nx ≤ 10000) (hhn : hn < 18446744073709551616) (hfv : formV hn hp = true) :
    Calls Try.prog 17 #[sumv (.slice ao n ac) (.slice bo m bc) nx hn hp] w fun e w' => ∃ v, e = .returned v ∧ w'.ownsRow w.heap.size 5 1 v (allB es ls nx hn hp).length ((allB es ls nx hn hp).map Cd.by8) ∧ Below w.heap.size w w' := by
  have b0 : Below w.heap.size w (w.alloc (.cells #[.slice ao n ac, .slice bo m bc, .int .i64 nx, .int .u64 (hn : Nat), .int .i64 hp] 38)) := bl1 _ _
  have c1 := sb_new w (.slice ao n ac) (.slice bo m bc) nx hn hp 38
  have H := ((h.bl b0).here).mono (fun k hk => hk.2)
  have G := g.up b0
  have hel := h.1
  have hll := g.1
  obtain ⟨hp0, hp15⟩ := formV_p hfv
  obtain ⟨W0, hW0⟩ : ∃ W, Hid (w.alloc (.cells #[.slice ao n ac, .slice bo m bc, .int .i64 nx, .int .u64 (hn : Nat), .int .i64 hp] 38) = W) := ⟨_, rfl⟩
  rw [hW0.out] at b0 c1 H G
  obtain ⟨g0, hg0⟩ : ∃ g, Hid (w.heap.size = g) := ⟨_, rfl⟩
  rw [hg0.out] at c1
  have C0 : Sb g0 (.slice ao n ac) (.slice bo m bc) nx hn hp W0 := c1
  obtain ⟨A, HA⟩ : ∃ A : Nat → List UInt8, Hid (∀ k, A k = [2] ++ Cd.enc n ++ encEs (es.take k)) := ⟨fun k => [2] ++ Cd.enc n ++ encEs (es.take k), fun _ => rfl⟩
  obtain ⟨D, HD⟩ : ∃ D : Nat → List UInt8, Hid (∀ k, D k = A n ++ Cd.enc m ++ encLs (ls.take k)) := ⟨fun k => A n ++ Cd.enc m ++ encLs (ls.take k), fun _ => rfl⟩
  have hAl : ∀ k, (A k).length ≤ 100000 := fun k => by
    rw [HA.out]
    have h1 := encEs_len (es.take k) (fun e he => (hok e (List.mem_of_mem_take he)).2.2.2)
    have h2 := Cd.enc_length n
    have h3 : (es.take k).length ≤ 1000 := by simp; omega
    simp only [List.length_append, List.length_cons, List.length_nil]
    omega
  have hDl : ∀ k, (D k).length ≤ 200000 := fun k => by
    rw [HD.out]
    have h1 := encLs_len (ls.take k)
    have h2 := Cd.enc_length m
    have h3 : (ls.take k).length ≤ 1000 := by simp; omega
    have h4 := hAl n
    simp only [List.length_append]
    omega
  have HA0 : Hid (2 :: Cd.enc n = A 0) := by show _ = _; rw [HA.out]; simp [encEs]
  have HAs : Hid (∀ k e, es[k]? = some e → A k ++ encE e.1 e.2 = A (k + 1)) := fun k e he => by rw [HA.out, HA.out, encEs_take he]; simp
  have HD0 : Hid (A n ++ Cd.enc m = D 0) := by show _ = _; rw [HD.out]; simp [encLs]
  have HDs : Hid (∀ k x, ls[k]? = some x → D k ++ encL x = D (k + 1)) := fun k x hx => by rw [HD.out, HD.out, encLs_take hx]; simp
  have HF : Hid (allB es ls nx hn hp = D m ++ Cd.enc nx ++ (Cd.enc hn ++ [pb hp])) := by
    show _ = _
    unfold allB
    rw [HD.out, HA.out, List.take_of_length_le (by omega), List.take_of_length_le (by omega), hel, hll]
    simp
  have kU : ∀ (W : World) (q : Nat), q < 18446744073709551616 → Calls Try.prog 40 #[.int .u64 (q : Nat)] W (fun e w' => ∃ gg cg, e = .returned (.slice (some ⟨gg, 0, none⟩) (Cd.enc q).length cg) ∧ (∀ j u, ((Cd.enc q).map Cd.by8)[j]? = some u → w'.cell? ((⟨gg, 0, none⟩ : Addr).add j) = some u) ∧ Below W.heap.size W w') := fun W q hq => by
    refine (Cd.refUint_any W q hq).mono ?_
    rintro e w' ⟨v, rfl, ho, hb⟩
    obtain ⟨gg, cg, rfl, _⟩ := row_some ho (Cd.enc_pos q)
    exact ⟨gg, cg, rfl, ho.cells (g := gg) rfl, hb⟩
  have kE : ∀ (W : World) (k : Nat) (e : Lb × List UInt8) (so : Option Addr) (sn sc : Nat), es[k]? = some e → Cd.Row W so sn sc e.2 → Calls Try.prog 28 #[ent e.1 (.slice so sn sc)] W (fun r w' => ∃ gg cg, r = .returned (.slice (some ⟨gg, 0, none⟩) (encE e.1 e.2).length cg) ∧ (∀ j u, ((encE e.1 e.2).map Cd.by8)[j]? = some u → w'.cell? ((⟨gg, 0, none⟩ : Addr).add j) = some u) ∧ Below W.heap.size W w') := fun W k e so sn sc he hrw => by
    obtain ⟨q1, q2, q3, q4⟩ := hok e (List.mem_of_getElem? he)
    refine (refone_any W e.1 q1 q2 so sn sc e.2 hrw q3 (by rw [← hrw.1]; exact q4)).mono ?_
    rintro r w' ⟨v, rfl, ho, hb⟩
    obtain ⟨gg, cg, rfl, _⟩ := row_some ho (by have := (encL_len e.1).2; unfold encE; simp; omega)
    exact ⟨gg, cg, rfl, ho.cells (g := gg) rfl, hb⟩
  have kL : ∀ (W : World) (k : Nat) (x : Lb), ls[k]? = some x → Calls Try.prog 41 #[lab x] W (fun r w' => ∃ gg cg, r = .returned (.slice (some ⟨gg, 0, none⟩) (encL x).length cg) ∧ (∀ j u, ((encL x).map Cd.by8)[j]? = some u → w'.cell? ((⟨gg, 0, none⟩ : Addr).add j) = some u) ∧ Below W.heap.size W w') := fun W k x hx => by
    obtain ⟨q1, q2, q3⟩ := hol x (List.mem_of_getElem? hx)
    refine (refEncodeL_any W x q1 q2 q3).mono ?_
    rintro r w' ⟨v, rfl, ho, hb⟩
    obtain ⟨gg, cg, rfl, _⟩ := row_some ho (encL_len x).2
    exact ⟨gg, cg, rfl, ho.cells (g := gg) rfl, hb⟩
  have kV : ∀ (W : World), Calls Try.prog 42 #[vid hn hp] W (fun r w' => ∃ gg cg, r = .returned (.slice (some ⟨gg, 0, none⟩) (Cd.enc hn ++ [pb hp]).length cg) ∧ (∀ j u, ((Cd.enc hn ++ [pb hp]).map Cd.by8)[j]? = some u → w'.cell? ((⟨gg, 0, none⟩ : Addr).add j) = some u) ∧ Below W.heap.size W w') := fun W => by
    refine (refEncode_any W hn hhn hp hp0 hp15).mono ?_
    rintro r w' ⟨v, rfl, ho, hb⟩
    obtain ⟨gg, cg, rfl, _⟩ := row_some ho (by omega)
    exact ⟨gg, cg, by simp, ho.cells (g := gg) rfl, hb⟩
  have hlE : ∀ (k : Nat) (e : Lb × List UInt8), es[k]? = some e → (encE e.1 e.2).length ≤ 96 := fun k e he => encE_len e.1 e.2 (hok e (List.mem_of_getElem? he)).2.2.2
  have hwn : IntKind.u64.wrap (n : Int) = (n : Int) := IntWalk.u64_in _ (by omega)
  have hwm : IntKind.u64.wrap (m : Int) = (m : Int) := IntWalk.u64_in _ (by omega)
  have hwx : IntKind.u64.wrap (nx : Int) = (nx : Int) := IntWalk.u64_in _ (by omega)
  have hsW : W0.heap.size = g0 + 1 := by rw [← hW0.out, ← hg0.out]; simp
  have hp2 : (W0.alloc (.cells #[.int .u8 2] 5)).ownsRow W0.heap.size 5 1 (.slice (some ⟨g0 + 1, 0, none⟩) 1 1) [(2 : UInt8)].length ([(2 : UInt8)].map Cd.by8) := by
    have := World.ownsRow_lit (base := W0.heap.size) (e := 5) (size := 1) W0 #[.int .u8 2] 1 (Nat.le_refl _) (by unfold maxLen; omega) rfl
    rw [hsW] at this ⊢
    simpa [Cd.by8] using this
  have hbA : Below W0.heap.size W0 (W0.alloc (.cells #[.int .u8 2] 5)) := bl1 _ _
  have kn := kU (W0.alloc (.cells #[.int .u8 2] 5)) n (by omega)
  obtain ⟨x0, x1, x2, x3, x4⟩ := C0.bl hbA
  have hln := Cd.enc_length n
  unfold sumv at *
  clear h g c1 HA HD hok hol hfv hsW
  go_enter Try.func17, Try.ntmps17
  go_wp2_with fail
  rw [hW0.out, hg0.out]
  go_wp2_with fail
  refine kn.mono ?_
  rintro e w1 ⟨gg, cg, rfl, hcs, hb1⟩
  have ho1 := own_bytes_below hp2 hb1
  have hbb1 := hbA.trans (hb1.mono hbA.size)
  have hsz1 := hbb1.size
  clear kn x0 x1 x2 x3 x4 hp2 hbA hb1
  go_wp2_with (at_builtin; refine wpList_append_adds rfl (.tmp 7) (.tmp 12) rfl W0.heap.size _ [2] rfl ?d1 ⟨gg, 0, none⟩ (Cd.enc n).length cg (Cd.enc n) rfl rfl ?d2 ?d3 ?d4 ?_)
  case d1 => exact ho1
  case d2 => exact hcs
  case d3 => simp; omega
  case d4 => exact hsz1
  intro v2 w2 ha2
  obtain ⟨ho2, hb2⟩ := app_own (xs := [2]) hbb1 ho1 ha2
  rw [HA0.out] at ho2
  obtain ⟨po2, pc2, rfl⟩ := row_shape ho2
  clear ha2 ho1 hcs hbb1 hsz1 HA0
  go_wp2_with fail
  go_loopw [3, 4] (fun pv iv wr => ∃ k : Nat, k ≤ n ∧ iv = .int .i64 k ∧ (∃ po pc, pv = .slice po (A k).length pc) ∧ wr.ownsRow W0.heap.size 5 1 pv (A k).length ((A k).map Cd.by8) ∧ Below W0.heap.size W0 wr) (fun _ iv _ => n - (intOf iv).toNat)
  case atStart => exact ⟨0, by omega, rfl, ⟨_, _, rfl⟩, ho2, hb2⟩
  case round =>
    clear ho2 hb2
    obtain ⟨k, hk, rfl, ⟨po, pc, rfl⟩, ho, hb⟩ := hrel
    obtain ⟨s0, s1, s2, s3, s4⟩ := C0.bl hb
    by_cases hlt : k < n
    · have hltI : (k : Int) < (n : Int) := by omega
      have hk0 : ¬ ((k : Int) < 0) := by omega
      obtain ⟨x, hx⟩ : ∃ y, es[k]? = some y := ⟨es[k]'(by omega), List.getElem?_eq_getElem (by omega)⟩
      obtain ⟨b, off, hao, hpb, hc⟩ := (H.bl hb).2.2 (by omega)
      obtain ⟨so, sn, sc, c0, c1, c2, c3, c4, hrow, hblk⟩ := hc k x hx
      have kk := kE wr k x so sn sc hx hrow
      have HAk := HAs.out k x hx
      have hle := hlE k x hx
      have hla := hAl k
      unfold ent at kk
      subst hao
      generalize encE x.1 x.2 = E at *
      clear hc hrow hblk kE kL kV kU hx hpb HAs
      go_wp2_with fail
      refine kk.mono ?_
      rintro e w3 ⟨g3, c3', rfl, hcs, hb3⟩
      have ho3 := own_bytes_below ho hb3
      have hbb3 := hb.trans (hb3.mono hb.size)
      have hsz3 := hbb3.size
      clear kk ho hb3 s0 s1 s2 s3 s4 c0 c1 c2 c3 c4
      go_wp2_with (at_builtin; refine wpList_append_adds rfl (.tmp 21) (.tmp 27) rfl W0.heap.size _ (A k) rfl ?d1 ⟨g3, 0, none⟩ E.length c3' E rfl rfl ?d2 ?d3 ?d4 ?_)
      case d1 => exact ho3
      case d2 => exact hcs
      case d3 => omega
      case d4 => exact hsz3
      intro v4 w4 ha4
      obtain ⟨ho4, hb4⟩ := app_own hbb3 ho3 ha4
      try rw [HAk] at ho4
      obtain ⟨po4, pc4, rfl⟩ := row_shape ho4
      clear ha4 ho3 hcs hbb3 hsz3 HAk
      go_wp2
      go_roundw
      case rel => first | exact ⟨k + 1, by omega, by go_num, ⟨_, _, rfl⟩, ho4, hb4⟩ | ((repeat apply Exists.intro); exact ⟨⟨k + 1, by omega, by go_num, ⟨_, _, rfl⟩, ho4, hb4⟩, rfl⟩)
      case measure => simp [intOf]; omega
    · obtain rfl : n = k := by omega
      have hltI : ¬ ((n : Int) < (n : Int)) := by omega
      have kk := kU wr m (by omega)
      have hla := hAl n
      have hlm := Cd.enc_length m
      clear kE HAs
      go_wp2_with fail
      refine kk.mono ?_
      rintro e w3 ⟨g3, c3', rfl, hcs, hb3⟩
      have ho3 := own_bytes_below ho hb3
      have hbb3 := hb.trans (hb3.mono hb.size)
      have hsz3 := hbb3.size
      clear kk ho hb3 s0 s1 s2 s3 s4
      go_wp2_with (at_builtin; refine wpList_append_adds rfl (.tmp 29) (.tmp 34) rfl W0.heap.size _ (A n) rfl ?d1 ⟨g3, 0, none⟩ (Cd.enc m).length c3' (Cd.enc m) rfl rfl ?d2 ?d3 ?d4 ?_)
      case d1 => exact ho3
      case d2 => exact hcs
      case d3 => omega
      case d4 => exact hsz3
      intro v4 w4 ha4
      obtain ⟨ho4, hb4⟩ := app_own hbb3 ho3 ha4
      rw [HD0.out] at ho4
      obtain ⟨po4, pc4, rfl⟩ := row_shape ho4
      clear ha4 ho3 hcs hbb3 hsz3 HD0 hb
      go_wp2_with fail
      go_loopw [3, 5] (fun pv iv wr => ∃ k : Nat, k ≤ m ∧ iv = .int .i64 k ∧ (∃ po pc, pv = .slice po (D k).length pc) ∧ wr.ownsRow W0.heap.size 5 1 pv (D k).length ((D k).map Cd.by8) ∧ Below W0.heap.size W0 wr) (fun _ iv _ => m - (intOf iv).toNat)
      case atStart => exact ⟨0, by omega, rfl, ⟨_, _, rfl⟩, ho4, hb4⟩
      case round =>
        clear ho4 hb4
        obtain ⟨k, hk, rfl, ⟨po, pc, rfl⟩, ho, hb⟩ := hrel
        obtain ⟨s0, s1, s2, s3, s4⟩ := C0.bl hb
        by_cases hlt : k < m
        · have hltJ : (k : Int) < (m : Int) := by omega
          have hk0 : ¬ ((k : Int) < 0) := by omega
          obtain ⟨x, hx⟩ : ∃ y, ls[k]? = some y := ⟨ls[k]'(by omega), List.getElem?_eq_getElem (by omega)⟩
          obtain ⟨b, off, hao, hc⟩ := (G.up hb).2.2 (by omega)
          obtain ⟨c0, c1, c2, c3⟩ := hc k x hx
          have kk := kL wr k x hx
          have HDk := HDs.out k x hx
          have hle := (encL_len x).1
          have hld := hDl k
          unfold lab at kk
          subst hao
          generalize encL x = E at *
          clear hc kL kV kU hx HDs
          go_wp2_with fail
          refine kk.mono ?_
          rintro e w3 ⟨g3, c3', rfl, hcs, hb3⟩
          have ho3 := own_bytes_below ho hb3
          have hbb3 := hb.trans (hb3.mono hb.size)
          have hsz3 := hbb3.size
          clear kk ho hb3 s0 s1 s2 s3 s4 c0 c1 c2 c3
          go_wp2_with (at_builtin; refine wpList_append_adds rfl (.tmp 43) (.tmp 49) rfl W0.heap.size _ (D k) rfl ?d1 ⟨g3, 0, none⟩ E.length c3' E rfl rfl ?d2 ?d3 ?d4 ?_)
          case d1 => exact ho3
          case d2 => exact hcs
          case d3 => omega
          case d4 => exact hsz3
          intro v4 w4 ha4
          obtain ⟨ho4, hb4⟩ := app_own hbb3 ho3 ha4
          try rw [HDk] at ho4
          obtain ⟨po4, pc4, rfl⟩ := row_shape ho4
          clear ha4 ho3 hcs hbb3 hsz3 HDk
          go_wp2
          go_roundw
          case rel => first | exact ⟨k + 1, by omega, by go_num, ⟨_, _, rfl⟩, ho4, hb4⟩ | ((repeat apply Exists.intro); exact ⟨⟨k + 1, by omega, by go_num, ⟨_, _, rfl⟩, ho4, hb4⟩, rfl⟩)
          case measure => simp [intOf]; omega
        · obtain rfl : m = k := by omega
          have hltJ : ¬ ((m : Int) < (m : Int)) := by omega
          have kk := kU wr nx (by omega)
          have hld := hDl m
          have hlx := Cd.enc_length nx
          have hlh := Cd.enc_length hn
          clear kL HDs kU
          go_wp2_with fail
          refine kk.mono ?_
          rintro e w3 ⟨g3, c3', rfl, hcs, hb3⟩
          have ho3 := own_bytes_below ho hb3
          have hbb3 := hb.trans (hb3.mono hb.size)
          have hsz3 := hbb3.size
          clear kk ho hb3 s0 s1 s2 s3 s4
          go_wp2_with (at_builtin; refine wpList_append_adds rfl (.tmp 51) (.tmp 55) rfl W0.heap.size _ (D m) rfl ?d1 ⟨g3, 0, none⟩ (Cd.enc nx).length c3' (Cd.enc nx) rfl rfl ?d2 ?d3 ?d4 ?_)
          case d1 => exact ho3
          case d2 => exact hcs
          case d3 => omega
          case d4 => exact hsz3
          intro v4 w4 ha4
          obtain ⟨ho4, hb4⟩ := app_own hbb3 ho3 ha4
          obtain ⟨po4, pc4, rfl⟩ := row_shape ho4
          obtain ⟨s0, s1, s2, s3, s4⟩ := C0.bl hb4
          have kk := kV w4
          unfold vid at kk
          have hlF : (D m ++ Cd.enc nx).length + (Cd.enc hn ++ [pb hp]).length ≤ 140737488355328 := by simp; omega
          generalize D m ++ Cd.enc nx = P1 at *
          generalize Cd.enc hn ++ [pb hp] = P2 at *
          clear ha4 ho3 hcs hbb3 hsz3 kV
          go_wp2_with fail
          refine kk.mono ?_
          rintro e w5 ⟨g5, c5, rfl, hcs, hb5⟩
          have ho5 := own_bytes_below ho4 hb5
          have hbb5 := hb4.trans (hb5.mono hb4.size)
          have hsz5 := hbb5.size
          clear kk ho4 hb5 s0 s1 s2 s3 s4
          go_wp2_with (at_builtin; refine wpList_append_adds rfl (.tmp 57) (.tmp 60) rfl W0.heap.size _ P1 rfl ?d1 ⟨g5, 0, none⟩ P2.length c5 P2 rfl rfl ?d2 ?d3 ?d4 ?_)
          case d1 => exact ho5
          case d2 => exact hcs
          case d3 => exact hlF
          case d4 => exact hsz5
          intro v6 w6 ha6
          obtain ⟨ho6, hb6⟩ := app_own hbb5 ho5 ha6
          have hfin := b0.trans (hb6.mono b0.size)
          have HR : Hid (w6.ownsRow w.heap.size 5 1 v6 (allB es ls nx hn hp).length ((allB es ls nx hn hp).map Cd.by8)) := by
            rw [HF.out]
            exact Cd.owns_mono ho6 b0.size
          clear ha6 ho5 hcs hbb5 hsz5 ho6 hb6 C0 H G HF
          go_wp2
          go_ret
          exact ⟨v6, rfl, HR.out, hfin⟩
end Go.Proofs.Ytpdgoalbknopiaa
