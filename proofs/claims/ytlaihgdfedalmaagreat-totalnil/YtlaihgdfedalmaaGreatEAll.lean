/-
  A summary as a view's message: EncodeAll.
-/
import Derived.Test.YtlaihgdfedalmaaGreatERight3
import Derived.Test.YtlaihgdfedalmaaGreatEOne
namespace Go.Proofs.YtlaihgdfedalmaaGreat
open Go.RowKit
set_option linter.unusedVariables false
set_option linter.unusedSimpArgs false

set_option maxRecDepth 10000 in
set_option maxHeartbeats 1000000 in
theorem addNumber_any (w : World) (B : Nat) (hB : B ≤ w.heap.size) (v : Value) (xs : List UInt8) (hv : w.ownsRow B 5 1 v xs.length (xs.map Cd.by8)) (k : Nat) (hk : k < 9223372036854775808) (hr : xs.length + 100 ≤ 140737488355328) :
    Calls Tryz.prog 93 #[v, .int .i64 (k : Nat)] w fun e w' => ∃ v', e = .returned v' ∧ Adds B w w' v v' (xs ++ Cd.enc k) := by
  obtain ⟨ao, cap, rfl⟩ := row_shape hv
  have he := Cd.uint_any w none 0 0 [] (nil_row w) k (by omega) (by omega)
  have hlen := Cd.enc_length k
  have hpos := Cd.enc_pos k
  simp only [Nat.zero_add, List.nil_append] at he
  generalize Cd.enc k = E at *
  have hwr : IntKind.u64.wrap (k : Int) = (k : Int) := IntWalk.u64_in _ (by omega)
  go_enter Tryz.func93, Tryz.ntmps93
  go_wp2_with fail
  refine he.mono ?_
  rintro e w1 ⟨v1, rfl, ho1, hb1⟩
  have hv1 := own_bytes_below hv hb1
  obtain ⟨g, cg, rfl, _⟩ := row_some ho1 hpos
  have hcs := ho1.cells (g := g) rfl
  have hs1 : B ≤ w1.heap.size := Nat.le_trans hB hb1.size
  clear he ho1 hv
  go_wp2_with (at_builtin; refine wpList_append_adds rfl (.tmp 5) (.tmp 8) rfl B _ xs rfl ?d1 ⟨g, 0, none⟩ E.length cg E rfl rfl ?d2 ?d3 ?d4 ?_)
  case d1 => exact hv1
  case d2 => exact hcs
  case d3 => omega
  case d4 => exact hs1
  intro v2 w2 ha
  have hab := Adds.after hb1 ha
  clear ha hcs hv1 hb1 hs1
  go_wp2
  go_ret
  exact ⟨v2, rfl, hab⟩

/-- Entries' bytes. -/
def encEs (es : List (Lb × List UInt8)) : List UInt8 := es.flatMap fun e => encE e.1 e.2
def encLs (ls : List Lb) : List UInt8 := ls.flatMap encL
/-- A summary's bytes. -/
def allB (es : List (Lb × List UInt8)) (ls : List Lb) (nx : Nat) (hn : Nat) (hp : Int) : List UInt8 :=
  ([2] ++ Cd.enc es.length ++ encEs es ++ Cd.enc ls.length ++ encLs ls ++ Cd.enc nx) ++ Cd.enc hn ++ [pb hp]
theorem encEs_take {es : List (Lb × List UInt8)} {k : Nat} {e : Lb × List UInt8} (h : es[k]? = some e) : encEs (es.take (k + 1)) = encEs (es.take k) ++ encE e.1 e.2 := by
  unfold encEs
  rw [List.take_add_one, h]
  simp
theorem encLs_take {ls : List Lb} {k : Nat} {x : Lb} (h : ls[k]? = some x) : encLs (ls.take (k + 1)) = encLs (ls.take k) ++ encL x := by
  unfold encLs
  rw [List.take_add_one, h]
  simp
theorem encE_len (x : Lb) (m : List UInt8) (hm : m.length ≤ 64) : (encE x m).length ≤ 96 := by
  have h1 := encL_len x
  have h2 := Cd.enc_length m.length
  unfold encE
  simp
  omega
theorem encEs_len : ∀ (es : List (Lb × List UInt8)), (∀ e ∈ es, e.2.length ≤ 64) → (encEs es).length ≤ 96 * es.length
  | [], _ => by simp [encEs]
  | e :: es, h => by
    have h1 := encE_len e.1 e.2 (h e (by simp))
    have h2 := encEs_len es (fun x hx => h x (by simp [hx]))
    simp only [encEs, List.flatMap_cons, List.length_append, List.length_cons] at *
    omega
theorem encLs_len : ∀ (ls : List Lb), (encLs ls).length ≤ 22 * ls.length
  | [] => by simp [encLs]
  | x :: ls => by
    have h1 := encL_len x
    have h2 := encLs_len ls
    simp only [encLs, List.flatMap_cons, List.length_append, List.length_cons] at *
    omega

set_option maxRecDepth 10000 in
set_option maxHeartbeats 1000000 in
theorem encodeAll_bad (p : Nat → Prop) (w : World) (ao : Option Addr) (n ac : Nat) (es : List (Lb × List UInt8)) (h : ER p w ao n es) (hmax : n ≤ 140737488355328) (bo : Option Addr) (m bc : Nat) (ls : List Lb) (g : LR w bo m ls) (hm : m ≤ 5000) (hz : bo = none → m = 0) (nx : Int) (hn : Nat) (hp : Int) (hR : rightS es ls nx hn hp = false) :
    Calls Tryz.prog 54 #[sumv (.slice ao n ac) (.slice bo m bc) nx hn hp] w fun e w' => e = .returned (.tuple #[.slice none 0 0, .int .i64 3]) ∧ Below w.heap.size w w' := by
  have b0 : Below w.heap.size w (w.alloc (.cells #[.slice ao n ac, .slice bo m bc, .int .i64 nx, .int .u64 (hn : Nat), .int .i64 hp] 45)) := bl1 _ _
  have hr := right_any p _ ao n ac es (h.bl b0) hmax bo m bc ls (g.up b0) hm hz nx hn hp
  rw [hR] at hr
  obtain ⟨x0, x1, x2, x3, x4⟩ := sb_new w (.slice ao n ac) (.slice bo m bc) nx hn hp 45
  unfold sumv at *
  clear h g
  go_enter Tryz.func54, Tryz.ntmps54
  go_wp2_with fail
  refine hr.mono ?_
  rintro e w1 ⟨rfl, hb1⟩
  have hbb := bl_step b0 hb1
  clear hr b0 hb1 x0 x1 x2 x3 x4
  go_wp2
  go_ret2
  exact ⟨rfl, hbb⟩

set_option maxRecDepth 20000 in
set_option maxHeartbeats 2000000 in
theorem encodeAll_any (p : Nat → Prop) (w : World) (ao : Option Addr) (n ac : Nat) (es : List (Lb × List UInt8)) (h : ER p w ao n es) (hn1 : n ≤ 5000) (bo : Option Addr) (m bc : Nat) (ls : List Lb) (g : LR w bo m ls) (hm : m ≤ 5000) (hz : bo = none → m = 0) (nx : Nat) (hn : Nat) (hp : Int) (hR : rightS es ls nx hn hp = true)
    (hok : ∀ e ∈ es, e.1.1 < 18446744073709551616 ∧ e.1.2.2.1 < 18446744073709551616 ∧ formL e.1 = true ∧ e.2.length ≤ 64) (hol : ∀ x ∈ ls, x.1 < 18446744073709551616 ∧ x.2.2.1 < 18446744073709551616 ∧ formL x = true) (hnx : nx ≤ 10000) (hhn : hn < 18446744073709551616) (hfv : formV hn hp = true) :
    Calls Tryz.prog 54 #[sumv (.slice ao n ac) (.slice bo m bc) nx hn hp] w fun e w' => ∃ v, e = .returned (.tuple #[v, .int .i64 0]) ∧ w'.ownsRow w.heap.size 5 1 v (allB es ls nx hn hp).length ((allB es ls nx hn hp).map Cd.by8) ∧ Below w.heap.size w w' := by
  have b0 : Below w.heap.size w (w.alloc (.cells #[.slice ao n ac, .slice bo m bc, .int .i64 nx, .int .u64 (hn : Nat), .int .i64 hp] 45)) := bl1 _ _
  have hr := right_any p _ ao n ac es (h.bl b0) (by omega) bo m bc ls (g.up b0) hm hz nx hn hp
  rw [hR] at hr
  have c1 := sb_new w (.slice ao n ac) (.slice bo m bc) nx hn hp 45
  have H := ((h.bl b0).here).mono (fun k hk => hk.2)
  have G := g.up b0
  have hel := h.1
  have hll := g.1
  obtain ⟨W0, hW0⟩ : ∃ W, Hid (w.alloc (.cells #[.slice ao n ac, .slice bo m bc, .int .i64 nx, .int .u64 (hn : Nat), .int .i64 hp] 45) = W) := ⟨_, rfl⟩
  rw [hW0.out] at b0 c1 H G hr
  obtain ⟨g0, hg0⟩ : ∃ g, Hid (w.heap.size = g) := ⟨_, rfl⟩
  rw [hg0.out] at c1
  have C0 : Sb g0 (.slice ao n ac) (.slice bo m bc) nx hn hp W0 := c1
  have hadd0 : ∀ W, Below W0.heap.size W0 W → Calls Tryz.prog 93 #[.slice (some ⟨W.heap.size, 0, none⟩) 1 1, .int .i64 (n : Nat)] (W.alloc (.cells #[.int .u8 2] 5)) (fun e w' => ∃ v', e = .returned v' ∧ w'.ownsRow W0.heap.size 5 1 v' ([2] ++ Cd.enc n).length (([2] ++ Cd.enc n).map Cd.by8) ∧ Below W0.heap.size W0 w') := by
    intro W hW
    have h1 : (W.alloc (.cells #[.int .u8 2] 5)).ownsRow W0.heap.size 5 1 (.slice (some ⟨W.heap.size, 0, none⟩) 1 1) [(2 : UInt8)].length ([(2 : UInt8)].map Cd.by8) := by
      have := World.ownsRow_lit (base := W0.heap.size) (e := 5) (size := 1) W #[.int .u8 2] 1 hW.size (by unfold maxLen; omega) rfl
      simpa [Cd.by8] using this
    have hb := hW.alloc hW.size (.cells #[.int .u8 2] 5)
    refine (addNumber_any _ W0.heap.size hb.size _ [2] h1 n (by omega) (by simp)).mono ?_
    rintro e w1 ⟨v1, rfl, ha⟩
    exact ⟨v1, rfl, ha.own, hb.trans (ha.below hb.size (fun k hk => (own_lt h1 k hk).1))⟩
  obtain ⟨x0, x1, x2, x3, x4⟩ := id c1
  unfold sumv at *
  clear h g hR
  go_enter Tryz.func54, Tryz.ntmps54
  go_wp2_with fail
  rw [hW0.out, hg0.out]
  refine hr.mono ?_
  rintro e w1 ⟨rfl, hb1⟩
  have ha0 := hadd0 w1 hb1
  have c2 := (C0.bl hb1)
  have c3 := c2.bl (bl1 w1 (.cells #[.int .u8 2] 5))
  obtain ⟨y0, y1, y2, y3, y4⟩ := c2
  obtain ⟨z0, z1, z2, z3, z4⟩ := c3
  clear hr hadd0 x0 x1 x2 x3 x4 hb1
  go_wp2_with fail
  refine ha0.mono ?_
  rintro e w2 ⟨v2, rfl, ho2, hb2⟩
  obtain ⟨po2, pc2, rfl⟩ := row_shape ho2
  have c4 := C0.bl hb2
  clear ha0 y0 y1 y2 y3 y4 z0 z1 z2 z3 z4
  obtain ⟨y0, y1, y2, y3, y4⟩ := c4
  obtain ⟨A, HA⟩ : ∃ A : Nat → List UInt8, Hid (∀ k, A k = [2] ++ Cd.enc n ++ encEs (es.take k)) := ⟨fun k => [2] ++ Cd.enc n ++ encEs (es.take k), fun _ => rfl⟩
  obtain ⟨D, HD⟩ : ∃ D : Nat → List UInt8, Hid (∀ k, D k = A n ++ Cd.enc m ++ encLs (ls.take k)) := ⟨fun k => A n ++ Cd.enc m ++ encLs (ls.take k), fun _ => rfl⟩
  have hAl : ∀ k, (A k).length ≤ 600000 := fun k => by
    rw [HA.out]
    have h1 := encEs_len (es.take k) (fun e he => (hok e (List.mem_of_mem_take he)).2.2.2)
    have h2 := Cd.enc_length n
    have h3 : (es.take k).length ≤ 5000 := by simp; omega
    simp only [List.length_append, List.length_cons, List.length_nil]
    omega
  have hDl : ∀ k, (D k).length ≤ 1000000 := fun k => by
    rw [HD.out]
    have h1 := encLs_len (ls.take k)
    have h2 := Cd.enc_length m
    have h3 : (ls.take k).length ≤ 5000 := by simp; omega
    have h4 := hAl n
    simp only [List.length_append]
    omega
  have ho2' : w2.ownsRow W0.heap.size 5 1 (.slice po2 ([2] ++ Cd.enc n).length pc2) (A 0).length ((A 0).map Cd.by8) := by
    rw [HA.out]
    simpa [encEs] using ho2
  have hstep : ∀ (k : Nat) (e : Lb × List UInt8) (W : World) (pv : Value) (so : Option Addr) (sn sc : Nat), es[k]? = some e → W.ownsRow W0.heap.size 5 1 pv (A k).length ((A k).map Cd.by8) → Below W0.heap.size W0 W → Cd.Row W so sn sc e.2 → (∀ a, so = some a → 0 < sn → a.block < W0.heap.size) →
      Calls Tryz.prog 94 #[pv, ent e.1 (.slice so sn sc)] W (fun r w' => ∃ v', r = .returned v' ∧ w'.ownsRow W0.heap.size 5 1 v' (A (k + 1)).length ((A (k + 1)).map Cd.by8) ∧ Below W0.heap.size W0 w') := by
    intro k e W pv so sn sc he ho hb hrw hblk
    obtain ⟨q1, q2, q3, q4⟩ := hok e (List.mem_of_getElem? he)
    refine (addEntry_any W W0.heap.size hb.size pv (A k) ho e.1 q1 q2 q3 so sn sc e.2 hrw hblk (by rw [← hrw.1]; exact q4) (by have := hAl k; omega)).mono ?_
    rintro r w' ⟨v', rfl, ha⟩
    refine ⟨v', rfl, ?_, hb.trans (ha.below hb.size (fun k hk => (own_lt ho k hk).1))⟩
    have e1 : A (k + 1) = A k ++ encE e.1 e.2 := by rw [HA.out, HA.out, encEs_take he]; simp
    rw [e1]
    exact ha.own
  have hstep2 : ∀ (k : Nat) (x : Lb) (W : World) (pv : Value), ls[k]? = some x → W.ownsRow W0.heap.size 5 1 pv (D k).length ((D k).map Cd.by8) → Below W0.heap.size W0 W →
      Calls Tryz.prog 95 #[pv, lab x] W (fun r w' => ∃ v', r = .returned v' ∧ w'.ownsRow W0.heap.size 5 1 v' (D (k + 1)).length ((D (k + 1)).map Cd.by8) ∧ Below W0.heap.size W0 w') := by
    intro k x W pv hx ho hb
    obtain ⟨q1, q2, q3⟩ := hol x (List.mem_of_getElem? hx)
    refine (addLabel_any W W0.heap.size hb.size pv (D k) ho x q1 q2 q3 (by have := hDl k; omega)).mono ?_
    rintro r w' ⟨v', rfl, ha⟩
    refine ⟨v', rfl, ?_, hb.trans (ha.below hb.size (fun k hk => (own_lt ho k hk).1))⟩
    have e1 : D (k + 1) = D k ++ encL x := by rw [HD.out, HD.out, encLs_take hx]; simp
    rw [e1]
    exact ha.own
  have hmid : ∀ (W : World) (pv : Value), W.ownsRow W0.heap.size 5 1 pv (A n).length ((A n).map Cd.by8) → Below W0.heap.size W0 W → Calls Tryz.prog 93 #[pv, .int .i64 (m : Nat)] W (fun r w' => ∃ v', r = .returned v' ∧ w'.ownsRow W0.heap.size 5 1 v' (D 0).length ((D 0).map Cd.by8) ∧ Below W0.heap.size W0 w') := by
    intro W pv ho hb
    refine (addNumber_any W W0.heap.size hb.size pv (A n) ho m (by omega) (by have := hAl n; omega)).mono ?_
    rintro r w' ⟨v', rfl, ha⟩
    refine ⟨v', rfl, ?_, hb.trans (ha.below hb.size (fun k hk => (own_lt ho k hk).1))⟩
    have e1 : D 0 = A n ++ Cd.enc m := by rw [HD.out]; simp [encLs]
    rw [e1]
    exact ha.own
  have hend : ∀ (W : World) (pv : Value), W.ownsRow W0.heap.size 5 1 pv (D m).length ((D m).map Cd.by8) → Below W0.heap.size W0 W → Calls Tryz.prog 93 #[pv, .int .i64 (nx : Nat)] W (fun r w' => ∃ qo qc, r = .returned (.slice qo (D m ++ Cd.enc nx).length qc) ∧ Cd.Row w' qo (D m ++ Cd.enc nx).length qc (D m ++ Cd.enc nx) ∧ Below W0.heap.size W0 w') := by
    intro W pv ho hb
    refine (addNumber_any W W0.heap.size hb.size pv (D m) ho nx (by omega) (by have := hDl m; omega)).mono ?_
    rintro r w' ⟨v', rfl, ha⟩
    obtain ⟨qo, qc, rfl, hrw, _⟩ := Cd.owns_row ha.own
    exact ⟨qo, qc, rfl, hrw, hb.trans (ha.below hb.size (fun k hk => (own_lt ho k hk).1))⟩
  have hlast : ∀ (W : World) (qo : Option Addr) (qc : Nat), Cd.Row W qo (D m ++ Cd.enc nx).length qc (D m ++ Cd.enc nx) → Below W0.heap.size W0 W → Calls Tryz.prog 96 #[.slice qo (D m ++ Cd.enc nx).length qc, vid hn hp] W (fun r w' => ∃ v, r = .returned (.tuple #[v, .int .i64 0]) ∧ w'.ownsRow w.heap.size 5 1 v (allB es ls nx hn hp).length ((allB es ls nx hn hp).map Cd.by8) ∧ Below W0.heap.size W0 w') := by
    intro W qo qc hrw hb
    refine (encode_any W qo _ qc _ hrw hn hhn hp hfv (by have := hDl m; have := Cd.enc_length nx; simp only [List.length_append]; omega)).mono ?_
    rintro r w' ⟨v', rfl, ho, hb'⟩
    refine ⟨v', rfl, ?_, hb.trans (hb'.mono hb.size)⟩
    have e1 : allB es ls nx hn hp = D m ++ Cd.enc nx ++ Cd.enc hn ++ [pb hp] := by
      unfold allB
      rw [HD.out, HA.out, List.take_of_length_le (by omega), List.take_of_length_le (by omega), hel, hll]
    have hsz : w.heap.size ≤ W.heap.size := Nat.le_trans b0.size hb.size
    rw [e1]
    refine Cd.owns_mono ?_ hsz
    simpa [Nat.add_assoc] using ho
  generalize ([2] ++ Cd.enc n).length = q0 at *
  clear ho2 HA HD hok hol hAl hDl hfv
  go_wp2_with fail
  go_loopw [4, 20] (fun pv iv wr => ∃ k : Nat, k ≤ n ∧ iv = .int .i64 k ∧ (∃ po pc, pv = .slice po (A k).length pc) ∧ wr.ownsRow W0.heap.size 5 1 pv (A k).length ((A k).map Cd.by8) ∧ Below W0.heap.size W0 wr) (fun _ iv _ => n - (intOf iv).toNat)
  case atStart =>
    obtain ⟨po, pc, e⟩ := row_shape ho2'
    exact ⟨0, by omega, rfl, ⟨po, pc, e⟩, ho2', hb2⟩
  case round =>
    obtain ⟨k, hk, rfl, ⟨po, pc, rfl⟩, ho, hb⟩ := hrel
    by_cases hlt : k < n
    · have hltI : (k : Int) < (n : Int) := by omega
      have hk0 : ¬ ((k : Int) < 0) := by omega
      obtain ⟨x, hx⟩ : ∃ y, es[k]? = some y := ⟨es[k]'(by omega), List.getElem?_eq_getElem (by omega)⟩
      obtain ⟨b, off, hao, hpb, hc⟩ := (H.bl hb).2.2 (by omega)
      obtain ⟨so, sn, sc, c0, c1, c2, c3, c4, hrow, hblk⟩ := hc k x hx
      have ex0 := ex_new wr x.1 (.slice so sn sc) 41
      have hu := bl1 wr (.cells #[.int .u64 (x.1.1 : Nat), .int .i64 x.1.2.1, .int .u64 (x.1.2.2.1 : Nat), .int .i64 x.1.2.2.2, .slice so sn sc] 41)
      have hst := hstep k x _ _ so sn sc hx (own_bytes_below ho hu) (hb.trans (hu.mono hb.size)) (hrow.below hu (Nat.le_refl _)) hblk
      obtain ⟨e0, e1, e2, e3, e4⟩ := ex0
      unfold ent at hst
      have HAO := hao
      subst hao
      clear hc hrow hblk hstep hstep2 hmid hend hlast ho hx hpb
      go_wp2_with fail
      refine hst.mono ?_
      rintro e w3 ⟨v3, rfl, ho3, hb3⟩
      obtain ⟨po3, pc3, rfl⟩ := row_shape ho3
      clear hst e0 e1 e2 e3 e4 c0 c1 c2 c3 c4 hu
      go_wp2
      go_roundw
      case rel => first | exact ⟨k + 1, by omega, by go_num, ⟨_, _, rfl⟩, ho3, hb3⟩ | ((repeat apply Exists.intro); exact ⟨⟨k + 1, by omega, by go_num, ⟨_, _, rfl⟩, ho3, hb3⟩, rfl⟩)
      case measure => simp [intOf]; omega
    · obtain rfl : n = k := by omega
      have hltI : ¬ ((n : Int) < (n : Int)) := by omega
      obtain ⟨s0, s1, s2, s3, s4⟩ := C0.bl hb
      have hmd := hmid wr _ ho hb
      clear hstep hmid ho y0 y1 y2 y3 y4 ho2' hb2
      go_wp2_with fail
      refine hmd.mono ?_
      rintro e w3 ⟨v3, rfl, ho3, hb3⟩
      obtain ⟨po3, pc3, rfl⟩ := row_shape ho3
      clear hmd s0 s1 s2 s3 s4
      obtain ⟨s0, s1, s2, s3, s4⟩ := C0.bl hb3
      go_wp2_with fail
      go_loopw [4, 36] (fun pv iv wr => ∃ k : Nat, k ≤ m ∧ iv = .int .i64 k ∧ (∃ po pc, pv = .slice po (D k).length pc) ∧ wr.ownsRow W0.heap.size 5 1 pv (D k).length ((D k).map Cd.by8) ∧ Below W0.heap.size W0 wr) (fun _ iv _ => m - (intOf iv).toNat)
      case atStart => exact ⟨0, by omega, rfl, ⟨_, _, rfl⟩, ho3, hb3⟩
      case round =>
        clear s0 s1 s2 s3 s4 ho3 hb3 hb
        obtain ⟨k, hk, rfl, ⟨po, pc, rfl⟩, ho, hb⟩ := hrel
        by_cases hlt : k < m
        · have hltJ : (k : Int) < (m : Int) := by omega
          have hk0 : ¬ ((k : Int) < 0) := by omega
          obtain ⟨x, hx⟩ : ∃ y, ls[k]? = some y := ⟨ls[k]'(by omega), List.getElem?_eq_getElem (by omega)⟩
          obtain ⟨b, off, hao, hc⟩ := (G.up hb).2.2 (by omega)
          obtain ⟨c0, c1, c2, c3⟩ := hc k x hx
          have bx0 := bx_new wr x.1 x.2.1 x.2.2.1 x.2.2.2 39
          have hu := bl1 wr (.cells #[.int .u64 (x.1 : Nat), .int .i64 x.2.1, .int .u64 (x.2.2.1 : Nat), .int .i64 x.2.2.2] 39)
          have hst := hstep2 k x _ _ hx (own_bytes_below ho hu) (hb.trans (hu.mono hb.size))
          obtain ⟨e0, e1, e2, e3⟩ := bx0
          unfold lab at hst
          subst hao
          clear hc hstep2 hend hlast ho hx
          go_wp2_with fail
          refine hst.mono ?_
          rintro e w4 ⟨v4, rfl, ho4, hb4⟩
          obtain ⟨po4, pc4, rfl⟩ := row_shape ho4
          clear hst e0 e1 e2 e3 c0 c1 c2 c3 hu
          go_wp2
          go_roundw
          case rel => first | exact ⟨k + 1, by omega, by go_num, ⟨_, _, rfl⟩, ho4, hb4⟩ | ((repeat apply Exists.intro); exact ⟨⟨k + 1, by omega, by go_num, ⟨_, _, rfl⟩, ho4, hb4⟩, rfl⟩)
          case measure => simp [intOf]; omega
        · obtain rfl : m = k := by omega
          have hltJ : ¬ ((m : Int) < (m : Int)) := by omega
          have hnx2 : ((nx : Nat) : Int) = (nx : Int) := rfl
          have u0 : Below wr.heap.size wr wr.drew := (Below.refl _ _).drew
          have hbd : Below W0.heap.size W0 wr.drew := hb.trans (u0.mono hb.size)
          have hen := hend wr.drew _ (own_bytes_below ho u0) hbd
          have s0 := C0.bl hbd
          have SB : Hid (∀ W, Below W0.heap.size W0 W → Sb g0 (.slice ao n ac) (.slice bo m bc) nx hn hp W) := fun W u => C0.bl u
          clear hstep2 hend ho
          unfold vid at hlast
          unfold Sb at s0
          go_wp2_with fail
          refine wp_region_noPanic ?_
          refine wp_region_held_drew (S := Sb g0 (.slice ao n ac) (.slice bo m bc) nx hn hp) (by kernel_rfl) s0 (fun hHeld => ?_)
          unfold Sb at hHeld
          refine tq 0 ?_
          refine tq 1 ?_
          refine tq 2 ?_
          refine tq 4 ?_
          refine tq 5 ?_
          refine comes_up 3 rfl (by kernel_rfl) (fun K hK => ?_)
          go_simp
          refine hen.mono ?_
          rintro e w5 ⟨qo, qc, rfl, hq5, hb5⟩
          have hla := hlast w5 qo qc hq5 hb5
          clear hen hlast s0 hq5
          generalize (D m ++ Cd.enc nx).length = ql at *
          go_wp2_with fail
          refine hK.out _ _ (SB.out _ hb5) (fun hHeld => ?_)
          clear hK K
          (try simp only [Act.put, List.setIfInBounds_toArray, List.set_cons_zero, List.set_cons_succ])
          refine comes_up 6 rfl (by kernel_rfl) (fun K hK => ?_)
          go_simp
          refine hla.mono ?_
          rintro e w6 ⟨v6, rfl, ho6, hb6⟩
          clear hla
          go_wp2_with fail
          refine hK.out _ _ (SB.out _ hb6) (fun hHeld => ?_)
          clear hK K
          (try simp only [Act.put, List.setIfInBounds_toArray, List.set_cons_zero, List.set_cons_succ])
          refine tq 7 ?_
          refine tq 8 ?_
          refine tq 9 ?_
          refine tq 10 ?_
          refine wpAnyH_done (by kernel_rfl) ?_ _
          refine NoPanic.normal ?_
          clear hHeld
          have hfin := b0.trans (hb6.mono b0.size)
          clear SB C0 H G
          go_wp2
          go_ret2
          exact ⟨v6, rfl, ho6, hfin⟩
end Go.Proofs.YtlaihgdfedalmaaGreat
