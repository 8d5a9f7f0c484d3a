/-
  Proved: for every list of texts l and every number most, RecvRoom(l, most) returns true: as many come in as there is room for; the others when there is room again; the document's example holds. No condition.
-/
import Derived.Test.YtlifoojojclllaaRows
import Derived.Test.YtlifoojojclllaaVPart
namespace Go.Proofs.Ytlifoojojclllaa.recvRoom
open Go.ChangeShapes Go.WideShapes Go.ChangeAt Go.RowKit
open Go.ChangeMaps (open_string shut_string)
set_option linter.unusedVariables false

theorem offer0 {w0 w : World} {F : Nat → Prop} {q M G : Nat} (h : Rcv w 9 F q M G []) (o : Own w0 w F) (hG : G ≤ 100) (ao : Option Addr) (n cap : Nat) (ys : List Value) (hy : Tx w0 (.slice ao n cap) ys) (k : Nat) (hk : k = min (n - G) M) :
    Calls Try.prog 30 #[.pointer (some ⟨q, 0, none⟩), .int .u64 0, .slice ao n cap] w fun e w' => e = .returned (.tuple #[.int .i64 (k : Nat), .int .i64 0]) ∧ ∃ F', Rcv w' 9 F' q M (G + k) (seg ys G (G + k)) ∧ Own w0 w' F' := by
  refine (offer_arg h o 0 (by omega) (by omega) ao n cap ys hy k (by simpa using hk)).mono ?_
  rintro e w' ⟨he, F', h1, h2, _⟩
  refine ⟨he, F', ?_, h2⟩
  simp only [Nat.sub_zero, List.nil_append] at h1
  unfold seg
  rwa [show G + k - G = k by omega]
theorem seg_cons {xs : List Value} {g G : Nat} {x : Value} (hg : g < G) (hx : xs[g]? = some x) : seg xs g G = x :: seg xs (g + 1) G := by
  obtain ⟨hl, he⟩ := List.getElem?_eq_some_iff.1 hx
  unfold seg
  rw [List.drop_eq_getElem_cons hl, he, show G - g = (G - (g + 1)) + 1 by omega]
  rfl

set_option maxRecDepth 10000 in
set_option maxHeartbeats 2000000 in
theorem walk (w : World) (a0 : Option Addr) (len cap : Nat) (xs : List Value) (hx : Tx w (.slice a0 len cap) xs) (a1 : Nat) (h1 : a1 < 256) :
    Calls Try.prog 12 #[.slice a0 len cap, .int .u8 (a1 : Nat)] w fun e w' => e = .returned (.bool true) ∧ Below w.heap.size w w' := by
  have HX : Hid (Tx w (.slice a0 len cap) xs) := hx
  have HL : Hid (len = xs.length ∧ len ≤ 9223372036854775807) := by have := hx.len; exact ⟨this.1, by omega⟩
  clear hx
  by_cases hlen : 100 < len
  · have hmx := HL.out.2
    go_enter Try.func12, Try.ntmps12
    go_wp2_with fail
    refine (awake10_any _).mono ?_
    rintro e w1 ⟨rfl, t1⟩
    go_wp2_with fail
    refine (awake10_any _).mono ?_
    rintro e w2 ⟨rfl, t2⟩
    go_wp2
    go_ret
    exact ⟨rfl, (t1.trans t2 (fun _ hf => hf.elim)).below (Nat.le_refl _) (fun _ hf => hf.elim)⟩
  · obtain ⟨M, HM⟩ : ∃ M : Nat, Hid (M = 1 + a1 % 20) := ⟨_, rfl⟩
    have hM1 : 1 ≤ M := by have := HM.out; omega
    have hM2 : M ≤ 20 := by have := HM.out; omega
    have eM : (1 : Int) + (a1 : Int) % 20 = (M : Int) := by have := HM.out; omega
    have hd2 : decide ((100 : Int) < (len : Int)) = false := by simp; omega
    have hg2 : ¬ (100 : Int) < (len : Int) := by omega
    go_enter Try.func12, Try.ntmps12
    go_wp2_with fail
    refine (awake10_any _).mono ?_
    rintro e w1 ⟨rfl, t1⟩
    go_wp2_with fail
    refine (vnew_any _ M hM1 (by omega)).mono ?_
    rintro e w2 ⟨q, F2, rfl, s2, t2, b2⟩
    have o2 : Own w w2 F2 := Own.behind t1 ⟨t2, b2⟩
    clear t1 t2 b2
    go_wp2_with fail
    try simp only [eM, hd2]
    clear eM hd2 hg2
    go_loopw [8, 9] (fun gv kv wr => ∃ (G k : Nat) (F : Nat → Prop), G ≤ len ∧ k ≤ G ∧ gv = .int .i64 G ∧ kv = .int .i64 k ∧ Rcv wr 9 F q M G [] ∧ Own w wr F) (fun gv _ _ => len - (intOf gv).toNat)
    case atStart => exact ⟨0, 0, F2, by omega, by omega, rfl, rfl, s2, o2⟩
    case round =>
      clear s2 o2
      obtain ⟨G, k, F, hG, hkG, rfl, rfl, hr, ho⟩ := hrel
      by_cases hlt : G < len
      · have hltI : (G : Int) < len := by omega
        have hk200 : (k : Int) < 200 := by omega
        obtain ⟨n, HN⟩ : ∃ n : Nat, Hid (n = min (len - G) M) := ⟨_, rfl⟩
        have hn0 : 0 < n := by have := HN.out; omega
        have hnM : n ≤ M := by have := HN.out; omega
        have hGn : G + n ≤ len := by have := HN.out; omega
        have hnMI : ¬ (M : Int) < n := by omega
        have hof := offer0 hr ho (by omega) a0 len cap xs HX.out n HN.out
        clear hr ho
        go_wp2_with fail
        refine hof.mono ?_
        rintro e w3 ⟨rfl, F3, s3, o3⟩
        have hln := vlen_any s3
        rw [seg_len (by have := HL.out; omega), show G + n - G = n by omega] at hln
        clear hof
        by_cases hw : M < len - G
        · as_aux_lemma =>
          have hwI : (M : Int) < (len : Int) - G := by omega
          obtain rfl : n = M := by have := HN.out; omega
          go_wp2_with fail
          refine hln.mono ?_
          rintro e w4 ⟨rfl, rfl⟩
          clear hln
          go_wp2_with fail
          go_loopw [8] (fun gv wr => ∃ (g : Nat) (F : Nat → Prop), G ≤ g ∧ g ≤ G + n ∧ gv = .int .i64 g ∧ Rcv wr 9 F q n (G + n) (seg xs g (G + n)) ∧ Own w wr F) (fun gv _ => len - (intOf gv).toNat)
          case atStart => exact ⟨G, F3, by omega, by omega, rfl, s3, o3⟩
          case round =>
            clear s3 o3
            obtain ⟨g, F, hg1, hg2, rfl, hr, ho⟩ := hrel
            have hln := vlen_any hr
            rw [seg_len (by have := HL.out; omega)] at hln
            by_cases hlg : g < G + n
            · have hgl : g < len := by omega
              have hglI : (g : Int) < len := by omega
              obtain ⟨-, -, b, off, s, rfl, hxi, hc⟩ := (HX.out.turned ho.turned).at hgl
              have HC : Hid (∀ w', Turned F wr w' → w'.cell? ⟨b, off + g, none⟩ = some (.string s)) := fun w' t => by
                have hb := HX.out.apart_own ho (by omega) b rfl
                rw [cell_block (t.block b (World.block_lt_of_cell? _ _ hc) hb)]
                exact hc
              rw [seg_cons hlg hxi] at hr
              have hpos : (0 : Int) < ((G + n - g : Nat) : Int) := by omega
              clear hxi hc
              go_wp2_with fail
              refine hln.mono ?_
              rintro e w5 ⟨rfl, rfl⟩
              clear hln
              go_wp2_with fail
              refine (vtake_any hr).mono ?_
              rintro e w6 ⟨rfl, F6, r6, g6⟩
              have o6 := ho.goes g6
              have hc6 := HC.out w6 g6.turned
              clear hr ho g6 HC hpos
              go_wp2
              go_roundw
              case rel => first | exact ⟨g + 1, F6, by omega, by omega, by go_num, r6, o6⟩ | ((repeat apply Exists.intro); exact ⟨⟨g + 1, F6, by omega, by omega, by go_num, r6, o6⟩, rfl⟩)
              case measure => simp [intOf]; omega
            · obtain rfl : g = G + n := by omega
              rw [Nat.sub_self] at hln
              have hr0 : Rcv wr 9 F q n (G + n) [] := by
                have e0 : seg xs (G + n) (G + n) = [] := by unfold seg; rw [Nat.sub_self]; rfl
                rw [e0] at hr; exact hr
              clear hr
              go_wp2_with fail
              refine hln.mono ?_
              rintro e w5 ⟨rfl, rfl⟩
              clear hln
              go_wp2
              go_roundw
              case rel => first | exact ⟨G + n, k + 1, F, by omega, by omega, by go_num, by go_num, hr0, ho⟩ | ((repeat apply Exists.intro); exact ⟨⟨G + n, k + 1, F, by omega, by omega, by go_num, by go_num, hr0, ho⟩, rfl⟩)
              case measure => simp [intOf]; omega
        · as_aux_lemma =>
          have hwI : ¬ (M : Int) < (len : Int) - G := by omega
          have hnE : (n : Int) = (len : Int) - G := by have := HN.out; omega
          rw [hnE] at hln
          go_wp2_with fail
          refine hln.mono ?_
          rintro e w4 ⟨rfl, rfl⟩
          clear hln hnE
          go_wp2_with fail
          go_loopw [8] (fun gv wr => ∃ (g : Nat) (F : Nat → Prop), G ≤ g ∧ g ≤ G + n ∧ gv = .int .i64 g ∧ Rcv wr 9 F q M (G + n) (seg xs g (G + n)) ∧ Own w wr F) (fun gv _ => len - (intOf gv).toNat)
          case atStart => exact ⟨G, F3, by omega, by omega, rfl, s3, o3⟩
          case round =>
            clear s3 o3
            obtain ⟨g, F, hg1, hg2, rfl, hr, ho⟩ := hrel
            have hln := vlen_any hr
            rw [seg_len (by have := HL.out; omega)] at hln
            by_cases hlg : g < G + n
            · have hgl : g < len := by omega
              have hglI : (g : Int) < len := by omega
              obtain ⟨-, -, b, off, s, rfl, hxi, hc⟩ := (HX.out.turned ho.turned).at hgl
              have HC : Hid (∀ w', Turned F wr w' → w'.cell? ⟨b, off + g, none⟩ = some (.string s)) := fun w' t => by
                have hb := HX.out.apart_own ho (by omega) b rfl
                rw [cell_block (t.block b (World.block_lt_of_cell? _ _ hc) hb)]
                exact hc
              rw [seg_cons hlg hxi] at hr
              have hpos : (0 : Int) < ((G + n - g : Nat) : Int) := by omega
              clear hxi hc
              go_wp2_with fail
              refine hln.mono ?_
              rintro e w5 ⟨rfl, rfl⟩
              clear hln
              go_wp2_with fail
              refine (vtake_any hr).mono ?_
              rintro e w6 ⟨rfl, F6, r6, g6⟩
              have o6 := ho.goes g6
              have hc6 := HC.out w6 g6.turned
              clear hr ho g6 HC hpos
              go_wp2
              go_roundw
              case rel => first | exact ⟨g + 1, F6, by omega, by omega, by go_num, r6, o6⟩ | ((repeat apply Exists.intro); exact ⟨⟨g + 1, F6, by omega, by omega, by go_num, r6, o6⟩, rfl⟩)
              case measure => simp [intOf]; omega
            · obtain rfl : g = G + n := by omega
              rw [Nat.sub_self] at hln
              have hr0 : Rcv wr 9 F q M (G + n) [] := by
                have e0 : seg xs (G + n) (G + n) = [] := by unfold seg; rw [Nat.sub_self]; rfl
                rw [e0] at hr; exact hr
              clear hr
              go_wp2_with fail
              refine hln.mono ?_
              rintro e w5 ⟨rfl, rfl⟩
              clear hln
              go_wp2
              go_roundw
              case rel => first | exact ⟨G + n, k + 1, F, by omega, by omega, by go_num, by go_num, hr0, ho⟩ | ((repeat apply Exists.intro); exact ⟨⟨G + n, k + 1, F, by omega, by omega, by go_num, by go_num, hr0, ho⟩, rfl⟩)
              case measure => simp [intOf]; omega
      · obtain rfl : G = len := by omega
        have hb := ho.below
        clear hr ho
        go_wp2
        go_ret
        exact ⟨rfl, hb⟩

set_option maxRecDepth 100000 in
theorem lifted (os : Os) (started : os.Started) (H : Type) (enc : TypeId × Value → H) :
    ReturnsInHanded {} Try.checked os 12 .any (Rows.recvRoomSpec.pre6 enc Try.prog Try.f12 Rows.recvRoomRow.domain false) (Rows.recvRoomSpec.post enc Try.prog Try.f12 false true false false) := by
  refine returnsInHanded_of_change (C := Try.checked) own started (by kernel_rfl) Try.func12
    (ChangeSpec.witness6 (enc := enc) (C := Try.checked) false ⟨#[], #[.slice none 0 0, .int .u8 0], []⟩ 12 (by kernel_rfl) (by kernel_rfl) (by kernel_rfl) (by kernel_rfl)) ?_
  intro W base args ds gs before hval0 hW hcnd _
  have hval : ∀ (j : Nat) t v, Try.f12.params[j]? = some t → args[j]? = some v → Value.okWide Try.prog W .any base t v := hval0
  have hW' := hW
  obtain ⟨p, q, hA0, hV, rfl, hfz, hnd⟩ := hW
  have hA : DataW.TrodAll enc Try.prog W 0 (fun _ => true) true Try.f12.params.toList args.toList ds p := hA0
  rw [Try.params12] at hA hval
  obtain ⟨v0, vs0, d0, ds0, p0, q0, hargs0, rfl, rfl, h0, r0⟩ := trodAll_cons hA
  obtain ⟨v1, vs1, d1, ds1, p1, q1, hargs1, rfl, rfl, h1, r1⟩ := trodAll_cons r0
  obtain ⟨rfl, rfl, rfl⟩ := trodAll_nil r1
  obtain rfl : args = #[v0, v1] := by cases args; simp_all
  obtain ⟨rfl, rfl⟩ := trodVars_none hV
  obtain ⟨a0, len0, cap0, rfl⟩ := okWide_slice Try.underlying28 (hval 0 28 v0 rfl rfl)
  have k0 := h0
  have lt0 : ∀ x ∈ p0, x.block < W.heap.size := by obtain ⟨m, hm⟩ := k0; exact DataW.trod_lt m _ _ _ hm
  obtain ⟨xs0, hx0⟩ := open_texts h0
  obtain ⟨a1, rfl, rfl, rfl, w1⟩ := open_int Try.underlying5 (hval 1 5 v1 rfl rfl) h1
  clear hA0 hval0
  obtain ⟨n1, rfl, hn1⟩ := u8_of_wf w1
  refine (walk W a0 len0 cap0 xs0 hx0 n1 hn1).mono fun e W' ⟨he, bel⟩ => ?_
  subst he
  exact ⟨_, rfl, _, _, _, [], _, [], hW', trodAll_mk1 (shut_bool Try.underlying4 _), (trodAll_cons_mk (Below.trod laidOut (by kernel_rfl) (of_decide_eq_true (by kernel_rfl)) k0 bel lt0) (trodAll_cons_mk (shut_int Try.underlying5 w1) trodAll_mk0)), rfl, bel.frame _, fun h => by cases h⟩

theorem over : Rows.recvRoomRow.holds Try.pinned (OpenSpec.ofChange Rows.recvRoomSpec) :=
  OpenClaim.holds_of_wide 12 Try.f12 rfl rfl rfl rfl rfl rfl rfl ⟨rfl, rfl, rfl, rfl, rfl⟩ rfl rfl rfl rfl rfl (by kernel_rfl) Try.func12 (by kernel_rfl)
    (of_decide_eq_true (by kernel_rfl)) (by unfold Func.isWrapper; first | (rw [if_pos (by decide +kernel)]; kernel_rfl) | (rw [if_neg (by decide +kernel)]; exact ⟨rfl, rfl⟩))
    (fun os started H enc _ => lifted os started H enc)

end Go.Proofs.Ytlifoojojclllaa.recvRoom
namespace Go.Proofs.Ytlifoojojclllaa
theorem recvRoom_holds : Rows.RecvRoomSaid := recvRoom.over
#print axioms recvRoom_holds
end Go.Proofs.Ytlifoojojclllaa
