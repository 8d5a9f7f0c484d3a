/-
  Proved: for every list of texts l and every list of numbers cuts, RecvTwice(l, cuts) returns true: things that come twice, in any pieces, come in once; the document's example holds. No condition.
-/
import Derived.Test.YtlifoojojclllaaRows
import Derived.Test.YtlifoojojclllaaVPart
namespace Go.Proofs.Ytlifoojojclllaa.recvTwice
open Go.ChangeShapes Go.WideShapes Go.ChangeAt Go.RowKit
open Go.ChangeMaps (open_string shut_string)
set_option linter.unusedVariables false

theorem seg_cons {xs : List Value} {g G : Nat} {x : Value} (hg : g < G) (hx : xs[g]? = some x) : seg xs g G = x :: seg xs (g + 1) G := by
  obtain ⟨hl, he⟩ := List.getElem?_eq_some_iff.1 hx
  unfold seg
  rw [List.drop_eq_getElem_cons hl, he, show G - g = (G - (g + 1)) + 1 by omega]
  rfl
theorem twice {w0 w : World} {F : Nat → Prop} {q n f k len cap N C : Nat} {a0 ao : Option Addr} {xs : List Value} (h : Rcv w 9 F q 256 n (seg xs 0 n)) (o : Own w0 w F) (hx : Tx w0 (.slice a0 len cap) xs) (hlen : len ≤ 200) (hfk : f ≤ k) (hk : k ≤ len) (hn : n ≤ len) (hfn : f ≤ n) (hy : Tx w0 (.slice ao N C) ((xs.drop f).take (k - f))) :
    ∃ n' cnt : Nat, (n < k → n' = k) ∧ (¬ n < k → n' = n) ∧ n' = n + cnt ∧ Calls Try.prog 30 #[.pointer (some ⟨q, 0, none⟩), .int .u64 (f : Nat), .slice ao N C] w fun e w' => e = .returned (.tuple #[.int .i64 (cnt : Nat), .int .i64 0]) ∧ ∃ F', Rcv w' 9 F' q 256 n' (seg xs 0 n') ∧ Own w0 w' F' := by
  have hl := hx.len.1
  have hN := hy.len.1
  rw [List.length_take, List.length_drop] at hN
  refine ⟨n + (k - n), k - n, by omega, by omega, rfl, ?_⟩
  refine (offer_arg h o f hfn (by omega) ao N C _ hy (k - n) (by rw [seg_len (by omega)]; omega)).mono ?_
  rintro e w' ⟨he, F', h1, h2, _⟩
  refine ⟨he, F', ?_, h2⟩
  have e1 : seg xs 0 n ++ (((xs.drop f).take (k - f)).drop (n - f)).take (k - n) = seg xs 0 (n + (k - n)) := by
    unfold seg
    simp only [List.drop_zero, Nat.sub_zero]
    rw [List.drop_take, List.drop_drop, show f + (n - f) = n by omega, List.take_take, show min (k - n) (k - f - (n - f)) = k - n by omega, ← List.take_add]
  rwa [e1] at h1

set_option maxRecDepth 10000 in
set_option maxHeartbeats 2000000 in
theorem walk (w : World) (a0 : Option Addr) (len cap : Nat) (xs : List Value) (hx : Tx w (.slice a0 len cap) xs) (a1 : Option Addr) (len1 cap1 : Nat) (cs : List Nat) (hc : Nums w .u8 a1 len1 256 cs) :
    Calls Try.prog 9 #[.slice a0 len cap, .slice a1 len1 cap1] w fun e w' => e = .returned (.bool true) ∧ Below w.heap.size w w' := by
  have HX : Hid (Tx w (.slice a0 len cap) xs) := hx
  have HL : Hid (len = xs.length ∧ len ≤ 9223372036854775807) := by have := hx.len; exact ⟨this.1, by omega⟩
  have HC : Hid (Nums w .u8 a1 len1 256 cs) := hc
  clear hx
  by_cases hlen : 200 < len
  · have hmx := HL.out.2
    clear hc
    go_enter Try.func9, Try.ntmps9
    go_wp2_with fail
    refine (awake10_any _).mono ?_
    rintro e w1 ⟨rfl, t1⟩
    go_wp2_with fail
    refine (awake10_any _).mono ?_
    rintro e w2 ⟨rfl, t2⟩
    go_wp2
    go_ret
    exact ⟨rfl, (t1.trans t2 (fun _ hf => hf.elim)).below (Nat.le_refl _) (fun _ hf => hf.elim)⟩
  · have hmax1 := hc.max
    clear hc
    have hd2 : decide ((200 : Int) < (len : Int)) = false := by simp; omega
    have hg2 : ¬ (200 : Int) < (len : Int) := by omega
    go_enter Try.func9, Try.ntmps9
    go_wp2_with fail
    refine (awake10_any _).mono ?_
    rintro e w1 ⟨rfl, t1⟩
    go_wp2_with fail
    refine (vnew256 _).mono ?_
    rintro e w2 ⟨q, F2, rfl, s2, t2, b2⟩
    have o2 : Own w w2 F2 := Own.behind t1 ⟨t2, b2⟩
    clear t1 t2 b2
    go_wp2_with fail
    try simp only [hd2]
    clear hd2 hg2
    go_loopw [7] (fun iv wr => ∃ (i n : Nat) (F : Nat → Prop), i ≤ 101 ∧ n ≤ len ∧ iv = .int .i64 i ∧ Rcv wr 9 F q 256 n (seg xs 0 n) ∧ Own w wr F) (fun iv _ => 102 - (intOf iv).toNat)
    case atStart => exact ⟨0, 0, F2, by omega, by omega, rfl, by simpa [seg] using s2, o2⟩
    case round =>
      clear s2 o2
      obtain ⟨i, n, F, hi, hn, rfl, hr, ho⟩ := hrel
      by_cases hlt : i + 1 < len1 ∧ i < 100
      · obtain ⟨hlt1, hlt2⟩ := hlt
        have hltI : (i : Int) + 1 < len1 := by omega
        have hltI2 : (i : Int) < 100 := by omega
        have hltI3 : (i : Int) < len1 := by omega
        obtain ⟨ad, rfl, _, hcell⟩ := (HC.out.turned ho.turned).cell (by omega)
        have hc0 := hcell i (by omega)
        have hc1 := hcell (i + 1) (by omega)
        obtain ⟨A0, HA0⟩ : ∃ A, Hid (cs.getD i 0 = A) := ⟨_, rfl⟩
        obtain ⟨B0, HB0⟩ : ∃ B, Hid (cs.getD (i + 1) 0 = B) := ⟨_, rfl⟩
        have hA0 := HC.out.lt i
        have hB0 := HC.out.lt (i + 1)
        rw [HA0.out] at hc0 hA0
        rw [HB0.out] at hc1 hB0
        obtain ⟨A, HA⟩ : ∃ A : Nat, Hid (A = A0 % (len + 1)) := ⟨_, rfl⟩
        obtain ⟨B, HB⟩ : ∃ B : Nat, Hid (B = B0 % (len + 1)) := ⟨_, rfl⟩
        have eA : (A0 : Int) % ((len : Int) + 1) = (A : Int) := by have := HA.out; rw [this]; push_cast; rfl
        have eB : (B0 : Int) % ((len : Int) + 1) = (B : Int) := by have := HB.out; rw [this]; push_cast; rfl
        have hAl : A ≤ len := by have := HA.out; have := Nat.mod_lt A0 (show 0 < len + 1 by omega); omega
        have hBl : B ≤ len := by have := HB.out; have := Nat.mod_lt B0 (show 0 < len + 1 by omega); omega
        have hne : ((len : Int) + 1 == 0) = false := by simp; omega
        rw [show ad.add (i + 1) = ⟨ad.block, ad.off + (i + 1), none⟩ by unfold Addr.add; simp] at hc1
        clear hcell
        by_cases hAB : B < A
        · have hABI : (B : Int) < A := by omega
          have hfk : B ≤ A := by omega
          obtain ⟨ao', N', C', HN', hsl, txp, hob⟩ := tx_part HX.out B A hfk (by omega)
          clear HN' hob
          have hnx := vnext_any hr
          by_cases hfn : n < B
          · as_aux_lemma =>
            have hfnI : (n : Int) < B := by omega
            have hof := voffer_err hr B hfn (.slice ao' N' C')
            go_wp2_with fail
            refine hnx.mono ?_
            rintro e w3 ⟨rfl, rfl⟩
            go_wp2_with fail
            refine hof.mono ?_
            rintro e w4 ⟨rfl, rfl⟩
            clear hnx hof hsl txp eA eB
            go_wp2
            go_roundw
            case rel => first | exact ⟨i + 2, n, F, by omega, by omega, by go_num, hr, ho⟩ | ((repeat apply Exists.intro); exact ⟨⟨i + 2, n, F, by omega, by omega, by go_num, hr, ho⟩, rfl⟩)
            case measure => simp [intOf]; omega
          · have hfnI : ¬ (n : Int) < B := by omega
            obtain ⟨n', cnt, hn1, hn2, hcn, hof⟩ := twice hr ho HX.out (by omega) hfk (by omega) (by omega) (by omega) txp
            clear hr ho txp
            by_cases hkn : n < A
            · as_aux_lemma =>
              have hknI : (n : Int) < A := by omega
              obtain rfl : n' = A := hn1 hkn
              have hcI : (cnt : Int) = (n' : Int) - n := by omega
              have hwr : IntKind.u64.wrap ((n' : Int) - n) = (n' : Int) - n := by rw [IntKind.wrap_u64]; omega
              rw [hcI] at hof
              clear hcI hcn hn1 hn2
              go_wp2_with fail
              refine hnx.mono ?_
              rintro e w3 ⟨rfl, rfl⟩
              go_wp2_with fail
              refine hof.mono ?_
              rintro e w4 ⟨rfl, F4, s4, o4⟩
              have hnx4 := vnext_any s4
              clear hnx hof hsl
              go_wp2_with fail
              refine hnx4.mono ?_
              rintro e w5 ⟨rfl, rfl⟩
              clear hnx4
              go_wp2
              go_roundw
              case rel => first | exact ⟨i + 2, n', F4, by omega, by omega, by go_num, s4, o4⟩ | ((repeat apply Exists.intro); exact ⟨⟨i + 2, n', F4, by omega, by omega, by go_num, s4, o4⟩, rfl⟩)
              case measure => simp [intOf]; omega
            · as_aux_lemma =>
              have hknI : ¬ (n : Int) < A := by omega
              obtain rfl : n' = n := hn2 hkn
              obtain rfl : cnt = 0 := by omega
              clear hcn hn1 hn2
              go_wp2_with fail
              refine hnx.mono ?_
              rintro e w3 ⟨rfl, rfl⟩
              go_wp2_with fail
              refine hof.mono ?_
              rintro e w4 ⟨rfl, F4, s4, o4⟩
              have hnx4 := vnext_any s4
              clear hnx hof hsl
              go_wp2_with fail
              refine hnx4.mono ?_
              rintro e w5 ⟨rfl, rfl⟩
              clear hnx4
              go_wp2
              go_roundw
              case rel => first | exact ⟨i + 2, n', F4, by omega, by omega, by go_num, s4, o4⟩ | ((repeat apply Exists.intro); exact ⟨⟨i + 2, n', F4, by omega, by omega, by go_num, s4, o4⟩, rfl⟩)
              case measure => simp [intOf]; omega
        · have hABI : ¬ (B : Int) < A := by omega
          have hfk : A ≤ B := by omega
          obtain ⟨ao', N', C', HN', hsl, txp, hob⟩ := tx_part HX.out A B hfk (by omega)
          clear HN' hob
          have hnx := vnext_any hr
          by_cases hfn : n < A
          · as_aux_lemma =>
            have hfnI : (n : Int) < A := by omega
            have hof := voffer_err hr A hfn (.slice ao' N' C')
            go_wp2_with fail
            refine hnx.mono ?_
            rintro e w3 ⟨rfl, rfl⟩
            go_wp2_with fail
            refine hof.mono ?_
            rintro e w4 ⟨rfl, rfl⟩
            clear hnx hof hsl txp eA eB
            go_wp2
            go_roundw
            case rel => first | exact ⟨i + 2, n, F, by omega, by omega, by go_num, hr, ho⟩ | ((repeat apply Exists.intro); exact ⟨⟨i + 2, n, F, by omega, by omega, by go_num, hr, ho⟩, rfl⟩)
            case measure => simp [intOf]; omega
          · have hfnI : ¬ (n : Int) < A := by omega
            obtain ⟨n', cnt, hn1, hn2, hcn, hof⟩ := twice hr ho HX.out (by omega) hfk (by omega) (by omega) (by omega) txp
            clear hr ho txp
            by_cases hkn : n < B
            · as_aux_lemma =>
              have hknI : (n : Int) < B := by omega
              obtain rfl : n' = B := hn1 hkn
              have hcI : (cnt : Int) = (n' : Int) - n := by omega
              have hwr : IntKind.u64.wrap ((n' : Int) - n) = (n' : Int) - n := by rw [IntKind.wrap_u64]; omega
              rw [hcI] at hof
              clear hcI hcn hn1 hn2
              go_wp2_with fail
              refine hnx.mono ?_
              rintro e w3 ⟨rfl, rfl⟩
              go_wp2_with fail
              refine hof.mono ?_
              rintro e w4 ⟨rfl, F4, s4, o4⟩
              have hnx4 := vnext_any s4
              clear hnx hof hsl
              go_wp2_with fail
              refine hnx4.mono ?_
              rintro e w5 ⟨rfl, rfl⟩
              clear hnx4
              go_wp2
              go_roundw
              case rel => first | exact ⟨i + 2, n', F4, by omega, by omega, by go_num, s4, o4⟩ | ((repeat apply Exists.intro); exact ⟨⟨i + 2, n', F4, by omega, by omega, by go_num, s4, o4⟩, rfl⟩)
              case measure => simp [intOf]; omega
            · as_aux_lemma =>
              have hknI : ¬ (n : Int) < B := by omega
              obtain rfl : n' = n := hn2 hkn
              obtain rfl : cnt = 0 := by omega
              clear hcn hn1 hn2
              go_wp2_with fail
              refine hnx.mono ?_
              rintro e w3 ⟨rfl, rfl⟩
              go_wp2_with fail
              refine hof.mono ?_
              rintro e w4 ⟨rfl, F4, s4, o4⟩
              have hnx4 := vnext_any s4
              clear hnx hof hsl
              go_wp2_with fail
              refine hnx4.mono ?_
              rintro e w5 ⟨rfl, rfl⟩
              clear hnx4
              go_wp2
              go_roundw
              case rel => first | exact ⟨i + 2, n', F4, by omega, by omega, by go_num, s4, o4⟩ | ((repeat apply Exists.intro); exact ⟨⟨i + 2, n', F4, by omega, by omega, by go_num, s4, o4⟩, rfl⟩)
              case measure => simp [intOf]; omega
      · have hor : (¬ (i : Int) + 1 < len1) ∨ ((i : Int) + 1 < len1 ∧ ¬ (i : Int) < 100) := by omega
        have hcut : ∀ wx, Hid (wx = wr) → Rcv wx 9 F q 256 n (seg xs 0 n) ∧ Own w wx F := fun wx e => by rw [e.out]; exact ⟨hr, ho⟩
        rcases hor with hg1 | ⟨hg1, hg2⟩
        all_goals
          clear hcut
          as_aux_lemma =>
          go_wp2_with fail
          clear hlt
          generalize wr = wo at *
          go_loopw [14] (fun jv wx => ∃ j : Nat, j ≤ n ∧ jv = .int .i64 j ∧ Rcv wx 9 F q 256 n (seg xs 0 n) ∧ Own w wx F) (fun jv _ => n - (intOf jv).toNat)
          case atStart => exact ⟨0, by omega, rfl, hr, ho⟩
          case round =>
            clear hr ho
            obtain ⟨j, hj, rfl, hr, ho⟩ := hrel
            have hln := vlen_any hr
            rw [seg_len (by have := HL.out; omega), Nat.sub_zero] at hln
            by_cases hjn : j < n
            · have hjnI : (j : Int) < n := by omega
              have hjl : ¬ (len : Int) ≤ j := by omega
              go_wp2_with fail
              refine hln.mono ?_
              rintro e w5 ⟨rfl, rfl⟩
              go_wp2
              go_roundw
              case rel => first | exact ⟨j + 1, by omega, by go_num, hr, ho⟩ | ((repeat apply Exists.intro); exact ⟨⟨j + 1, by omega, by go_num, hr, ho⟩, rfl⟩)
              case measure => simp [intOf]; omega
            · have hjnI : ¬ (j : Int) < n := by omega
              have hnx := vnext_any hr
              go_wp2_with fail
              refine hln.mono ?_
              rintro e w5 ⟨rfl, rfl⟩
              go_wp2_with fail
              refine hnx.mono ?_
              rintro e w5 ⟨rfl, rfl⟩
              clear hnx hln
              go_wp2_with fail
              go_loopw [16] (fun jv wx => ∃ (j : Nat) (F : Nat → Prop), j ≤ n ∧ jv = .int .i64 j ∧ Rcv wx 9 F q 256 n (seg xs j n) ∧ Own w wx F) (fun jv _ => n - (intOf jv).toNat)
              case atStart => exact ⟨0, F, by omega, rfl, hr, ho⟩
              case round =>
                clear hr ho
                obtain ⟨g, F, hg, rfl, hr, ho⟩ := hrel
                by_cases hlg : g < n
                · have hlgI : (g : Int) < n := by omega
                  have hgl : g < len := by omega
                  have hglI : (g : Int) < len := by omega
                  obtain ⟨-, -, b, off, s, rfl, hxi, hc⟩ := (HX.out.turned ho.turned).at hgl
                  have HCC : Hid (∀ w', Turned F wr w' → w'.cell? ⟨b, off + g, none⟩ = some (.string s)) := fun w' t => by
                    have hb := HX.out.apart_own ho (by omega) b rfl
                    rw [cell_block (t.block b (World.block_lt_of_cell? _ _ hc) hb)]
                    exact hc
                  rw [seg_cons hlg hxi] at hr
                  clear hxi
                  go_wp2_with fail
                  refine (vtake_any hr).mono ?_
                  rintro e w6 ⟨rfl, F6, r6, g6⟩
                  have o6 := ho.goes g6
                  have hc6 := HCC.out w6 g6.turned
                  clear hr ho g6 HCC hc
                  go_wp2
                  go_roundw
                  case rel => first | exact ⟨g + 1, F6, by omega, by go_num, r6, o6⟩ | ((repeat apply Exists.intro); exact ⟨⟨g + 1, F6, by omega, by go_num, r6, o6⟩, rfl⟩)
                  case measure => simp [intOf]; omega
                · obtain rfl : g = n := by omega
                  have hln := vlen_any hr
                  rw [seg_len (by have := HL.out; omega), Nat.sub_self] at hln
                  have hb := ho.below
                  clear hr ho
                  go_wp2_with fail
                  refine hln.mono ?_
                  rintro e w7 ⟨rfl, rfl⟩
                  clear hln
                  go_wp2
                  go_ret
                  exact ⟨rfl, hb⟩

set_option maxRecDepth 100000 in
theorem lifted (os : Os) (started : os.Started) (H : Type) (enc : TypeId × Value → H) :
    ReturnsInHanded {} Try.checked os 9 .any (Rows.recvTwiceSpec.pre6 enc Try.prog Try.f9 Rows.recvTwiceRow.domain false) (Rows.recvTwiceSpec.post enc Try.prog Try.f9 false true false false) := by
  refine returnsInHanded_of_change (C := Try.checked) own started (by kernel_rfl) Try.func9
    (ChangeSpec.witness6 (enc := enc) (C := Try.checked) false ⟨#[], #[.slice none 0 0, .slice none 0 0], []⟩ 9 (by kernel_rfl) (by kernel_rfl) (by kernel_rfl) (by kernel_rfl)) ?_
  intro W base args ds gs before hval0 hW hcnd _
  have hval : ∀ (j : Nat) t v, Try.f9.params[j]? = some t → args[j]? = some v → Value.okWide Try.prog W .any base t v := hval0
  have hW' := hW
  obtain ⟨p, q, hA0, hV, rfl, hfz, hnd⟩ := hW
  have hA : DataW.TrodAll enc Try.prog W 0 (fun _ => true) true Try.f9.params.toList args.toList ds p := hA0
  rw [Try.params9] at hA hval
  obtain ⟨v0, vs0, d0, ds0, p0, q0, hargs0, rfl, rfl, h0, r0⟩ := trodAll_cons hA
  obtain ⟨v1, vs1, d1, ds1, p1, q1, hargs1, rfl, rfl, h1, r1⟩ := trodAll_cons r0
  obtain ⟨rfl, rfl, rfl⟩ := trodAll_nil r1
  obtain rfl : args = #[v0, v1] := by cases args; simp_all
  obtain ⟨rfl, rfl⟩ := trodVars_none hV
  obtain ⟨a0, len0, cap0, rfl⟩ := okWide_slice Try.underlying28 (hval 0 28 v0 rfl rfl)
  have k0 := h0
  have lt0 : ∀ x ∈ p0, x.block < W.heap.size := by obtain ⟨m, hm⟩ := k0; exact DataW.trod_lt m _ _ _ hm
  obtain ⟨xs0, hx0⟩ := open_texts h0
  obtain ⟨a1, len1, cap1, rfl⟩ := okWide_slice Try.underlying43 (hval 1 43 v1 rfl rfl)
  have k1 := h1
  have lt1 : ∀ x ∈ p1, x.block < W.heap.size := by obtain ⟨m, hm⟩ := k1; exact DataW.trod_lt m _ _ _ hm
  obtain ⟨xs1, hx1⟩ := open_nums Try.underlying43 Try.underlying5 cells5 (fun _ h => u8_of_wf h) (by omega) h1
  clear hA0 hval0
  refine (walk W a0 len0 cap0 xs0 hx0 a1 len1 cap1 xs1 hx1).mono fun e W' ⟨he, bel⟩ => ?_
  subst he
  exact ⟨_, rfl, _, _, _, [], _, [], hW', trodAll_mk1 (shut_bool Try.underlying4 _), (trodAll_cons_mk (Below.trod laidOut (by kernel_rfl) (of_decide_eq_true (by kernel_rfl)) k0 bel lt0) (trodAll_cons_mk (Below.trod laidOut (by kernel_rfl) (of_decide_eq_true (by kernel_rfl)) k1 bel lt1) trodAll_mk0)), rfl, bel.frame _, fun h => by cases h⟩

theorem over : Rows.recvTwiceRow.holds Try.pinned (OpenSpec.ofChange Rows.recvTwiceSpec) :=
  OpenClaim.holds_of_wide 9 Try.f9 rfl rfl rfl rfl rfl rfl rfl ⟨rfl, rfl, rfl, rfl, rfl⟩ rfl rfl rfl rfl rfl (by kernel_rfl) Try.func9 (by kernel_rfl)
    (of_decide_eq_true (by kernel_rfl)) (by unfold Func.isWrapper; first | (rw [if_pos (by decide +kernel)]; kernel_rfl) | (rw [if_neg (by decide +kernel)]; exact ⟨rfl, rfl⟩))
    (fun os started H enc _ => lifted os started H enc)

end Go.Proofs.Ytlifoojojclllaa.recvTwice
namespace Go.Proofs.Ytlifoojojclllaa
theorem recvTwice_holds : Rows.RecvTwiceSaid := recvTwice.over
#print axioms recvTwice_holds
end Go.Proofs.Ytlifoojojclllaa
