/-
  Proved: for every list of texts l and all numbers drop and n, RingFirsts(l, drop, n) returns true: the first things are those that are taken next, and telling them takes none; the document's example holds. No condition.
-/
import Derived.Test.YtipgmdeehmjokaaRows
import Derived.Test.YtipgmdeehmjokaaRArgs
namespace Go.Proofs.Ytipgmdeehmjokaa.ringFirsts
open Go.ChangeShapes Go.WideShapes Go.ChangeAt Go.RowKit
open Go.ChangeMaps (open_string shut_string)
set_option linter.unusedVariables false

/-- So many texts from one on. -/
def txt (xs : Nat → ByteArray) (k n : Nat) : List Value := (List.range n).map (fun i => Value.string (xs (k + i)))
theorem txt_len (xs : Nat → ByteArray) (k n : Nat) : (txt xs k n).length = n := by simp [txt]
theorem txt_snoc (xs : Nat → ByteArray) (k n : Nat) : txt xs k (n + 1) = txt xs k n ++ [.string (xs (k + n))] := by simp [txt, List.range_succ]
theorem txt_cons (xs : Nat → ByteArray) (k n : Nat) : txt xs k (n + 1) = .string (xs k) :: txt xs (k + 1) n := by
  simp only [txt, List.range_succ_eq_map, List.map_cons, List.map_map, Nat.add_zero]
  congr 1
  apply List.map_congr_left
  intro i _
  show Value.string (xs (k + (i + 1))) = Value.string (xs (k + 1 + i))
  rw [show k + (i + 1) = k + 1 + i by omega]
theorem txt_at (xs : Nat → ByteArray) (k n i : Nat) (h : i < n) : (txt xs k n)[i]? = some (.string (xs (k + i))) := by simp [txt, h]

theorem own_in {w0 w1 w2 : World} {p : Nat} {sv : Value} (t : Turned (fun _ => False) w0 w1) (h : Own w1 w2 p sv) : Own w0 w2 p sv :=
  ⟨t.trans h.turned (fun _ hf => hf.elim), fun b hb => Nat.le_trans t.size (h.foot b hb)⟩

theorem new256 (w : World) : Calls Try.prog 9 #[.int .i64 256] w fun e w' => e = .returned (.tuple #[.pointer (some ⟨w.heap.size, 0, none⟩), .int .i64 0]) ∧ Ring w' 9 w.heap.size (.slice none 0 0) 256 0 [] ∧ Turned (fun _ => False) w w' := newS_any w 256 (by omega) (by omega)
theorem len0 {w : World} {p : Nat} {sv : Value} {most first : Nat} (h : Ring w 9 p sv most first []) : Calls Try.prog 15 #[.pointer (some ⟨p, 0, none⟩)] w fun e w' => e = .returned (.int .i64 0) ∧ w = w' := lenS_any h
theorem room256 {w : World} {p : Nat} {sv : Value} {first : Nat} (h : Ring w 9 p sv 256 first []) : Calls Try.prog 16 #[.pointer (some ⟨p, 0, none⟩)] w fun e w' => e = .returned (.int .i64 256) ∧ ∃ q, w' = w.drewN q := roomS_any h

/-- First, however many are asked for. -/
theorem firsts {w : World} {p : Nat} {sv : Value} {most first : Nat} {xs : List Value} (h : Ring w 9 p sv most first xs) (i : Nat) :
    Calls Try.prog 14 #[.pointer (some ⟨p, 0, none⟩), .int .i64 (i : Nat)] w fun e w' => ∃ fa m, m = min i xs.length ∧ e = .returned (.slice fa m m) ∧ Turned (fun _ => False) w w' ∧ (0 < m → ∃ b g, fa = some ⟨b, 0, none⟩ ∧ w.heap.size ≤ b ∧ w'.rowIs b 9 m g ∧ ∀ j x, j < m → xs[j]? = some x → g j = x) := by
  by_cases h0 : i = 0
  · subst h0
    refine (firstS_zero (w := w) (p := p) ((0 : Nat) : Int) (by omega)).mono ?_
    rintro e w' ⟨rfl, rfl⟩
    exact ⟨none, 0, by omega, rfl, Turned.refl _ _, by omega⟩
  · refine (firstS_any h i (by omega)).mono ?_
    rintro e w' ⟨m, g, hm, rfl, hr, hg, ht⟩
    exact ⟨_, m, hm, rfl, ht, fun _ => ⟨_, g, rfl, Nat.le_refl _, hr, hg⟩⟩

set_option maxRecDepth 10000 in
set_option maxHeartbeats 4000000 in
theorem walk (w : World) (a0 : Option Addr) (len cap : Nat) (xs : Nat → ByteArray) (hx : Texts w a0 len xs) (a1 : Nat) (h1 : a1 < 256) (a2 : Nat) (h2 : a2 < 256) :
    Calls Try.prog 6 #[.slice a0 len cap, .int .u8 (a1 : Nat), .int .u8 (a2 : Nat)] w fun e w' => e = .returned (.bool true) ∧ Below w.heap.size w w' := by
  have hmax := hx.max
  have HX : Hid (Texts w a0 len xs) := hx
  clear hx
  by_cases hlen : 200 < len
  · go_enter Try.func6, Try.ntmps6
    go_wp2_with fail
    refine (awake_any _).mono ?_
    rintro e w1 ⟨rfl, t1⟩
    go_wp2_with fail
    refine (awake_any _).mono ?_
    rintro e w2 ⟨rfl, t2⟩
    go_wp2
    go_ret
    exact ⟨rfl, (t1.trans t2 (fun _ hf => hf.elim)).below (Nat.le_refl _) (fun _ hf => hf.elim)⟩
  · obtain ⟨k, HK⟩ : ∃ k : Nat, Hid (k = a1 % (len + 1)) := ⟨_, rfl⟩
    have hk : k ≤ len := by have := HK.out; have := Nat.mod_lt a1 (show 0 < len + 1 by omega); omega
    have ek : (a1 : Int) % ((len : Int) + 1) = (k : Int) := by have := HK.out; rw [this]; push_cast; rfl
    have hd : decide (200 < (len : Int)) = false := by simp; omega
    go_enter Try.func6, Try.ntmps6
    go_wp2_with fail
    refine (awake_any _).mono ?_
    rintro e w1 ⟨rfl, t1⟩
    go_wp2_with fail
    refine (new256 _).mono ?_
    rintro e w2 ⟨rfl, r2, t2⟩
    have o2 := own_in t1 (Own.of_new t2)
    go_wp2_with fail
    obtain ⟨p, hp⟩ : ∃ p, w1.heap.size = p := ⟨_, rfl⟩
    rw [hp] at r2 o2
    simp only [hp]
    clear t1 t2 hp
    go_loopw [9] (fun iv wr => ∃ (i first : Nat) (sv : Value), i ≤ len ∧ iv = .int .i64 i ∧ Ring wr 9 p sv 256 first (txt xs 0 i) ∧ Own w wr p sv) (fun iv _ => len - (intOf iv).toNat)
    case atStart => exact ⟨0, 0, _, by omega, rfl, r2, o2⟩
    case round =>
      clear r2 o2
      obtain ⟨i, first, sv, hi, rfl, hr, ho⟩ := hrel
      by_cases hlt : i < len
      · have hltI : (i : Int) < len := by omega
        obtain ⟨ad, rfl, _, hc⟩ := (HX.out.turned ho.turned).cell (by omega)
        have hci := hc i hlt
        clear hc
        go_wp2_with fail
        refine (putS_any hr (by rw [txt_len]; omega) _ (one_string _)).mono ?_
        rintro e w3 ⟨rfl, sv3, f3, r3, g3⟩
        have o3 := ho.goes g3
        have r3' : Ring w3 9 p sv3 256 f3 (txt xs 0 (i + 1)) := by rw [txt_snoc, Nat.zero_add]; exact r3
        clear hr ho g3 r3 hci
        go_wp2
        go_roundw
        case rel => first | exact ⟨i + 1, f3, sv3, by omega, by go_num, r3', o3⟩ | ((repeat apply Exists.intro); exact ⟨⟨i + 1, f3, sv3, by omega, by go_num, r3', o3⟩, rfl⟩)
        case measure => simp [intOf]; omega
      · obtain rfl : len = i := by omega
        go_wp2_with fail
        simp only [ek]
        clear ek hd
        go_loopw [11] (fun iv wr => ∃ (i first : Nat) (sv : Value), i ≤ k ∧ iv = .int .i64 i ∧ Ring wr 9 p sv 256 first (txt xs i (len - i)) ∧ Own w wr p sv) (fun iv _ => k - (intOf iv).toNat)
        case atStart => exact ⟨0, first, sv, by omega, rfl, hr, ho⟩
        case round =>
          clear hr ho
          obtain ⟨i, first, sv, hi, rfl, hr, ho⟩ := hrel
          by_cases hlt : i < k
          · have hltI : (i : Int) < k := by omega
            rw [show len - i = (len - (i + 1)) + 1 by omega, txt_cons] at hr
            go_wp2_with fail
            refine (takeS_any hr).mono ?_
            rintro e w3 ⟨rfl, sv3, f3, r3, g3⟩
            have o3 := ho.goes g3
            clear hr ho g3
            go_wp2
            go_roundw
            case rel => first | exact ⟨i + 1, f3, sv3, by omega, by go_num, r3, o3⟩ | ((repeat apply Exists.intro); exact ⟨⟨i + 1, f3, sv3, by omega, by go_num, r3, o3⟩, rfl⟩)
            case measure => simp [intOf]; omega
          · obtain rfl : k = i := by omega
            go_wp2_with fail
            refine (firsts hr a2).mono ?_
            rintro e w4 ⟨fa, m, hm, rfl, t4, hf⟩
            rw [txt_len] at hm
            have hlt4 : ∀ b, Foot p sv b → b < wr.heap.size := hr.foot_lt
            have r4 := hr.turned t4 (fun _ _ hf => hf)
            have o4 := ho.on t4 (fun _ hf => hf.elim)
            have HF : Hid (0 < m → ∃ b g, fa = some ⟨b, 0, none⟩ ∧ wr.heap.size ≤ b ∧ w4.rowIs b 9 m g ∧ ∀ j x, j < m → (txt xs k (len - k))[j]? = some x → g j = x) := hf
            have HL : Hid (∀ b, Foot p sv b → b < wr.heap.size) := hlt4
            have hm2 : m ≤ len - k := by omega
            have hwr := ho.turned.size
            clear hr ho t4 hf hlt4 hm
            generalize wr.heap.size = B at *
            go_wp2_with fail
            go_loopw [13] (fun iv wx => ∃ i q : Nat, i ≤ m ∧ iv = .int .i64 i ∧ wx = w4.drewN q) (fun iv _ => m - (intOf iv).toNat)
            case atStart => exact ⟨0, 0, by omega, rfl, rfl⟩
            case round =>
              obtain ⟨i, q, hi, rfl, rfl⟩ := hrel
              by_cases hlt : i < m
              · have hltI : (i : Int) < m := by omega
                obtain ⟨ad, rfl, _, hc⟩ := (HX.out.turned o4.turned).cell (by omega)
                have hci := hc (k + i) (by omega)
                obtain ⟨b, g, rfl, _, hrow, hg⟩ := HF.out (by omega)
                have hbi := hrow.cell hlt
                rw [hg i _ hlt (txt_at xs k (len - k) i (by omega))] at hbi
                have hat := atS_any (r4.drewN q) i _ (txt_at xs k (len - k) i (by omega))
                have hkiI : (k : Int) + i < len := by omega
                clear hc hrow hg
                go_wp2_with fail
                refine hat.mono ?_
                rintro e w5 ⟨rfl, q5, rfl⟩
                go_wp2_with fail
                go_quiet (fail)
                go_wp2
                go_roundw
                case rel => first | exact ⟨i + 1, _, by omega, by go_num, rfl⟩ | ((repeat apply Exists.intro); exact ⟨⟨i + 1, _, by omega, by go_num, rfl⟩, rfl⟩)
                case measure => simp [intOf]; omega
              · have r6 := r4.drewN q
                have o6 := o4.drewN q
                have HF6 : Hid (0 < m → ∃ b g, fa = some ⟨b, 0, none⟩ ∧ B ≤ b ∧ (w4.drewN q).rowIs b 9 m g) := fun h0 => by
                  obtain ⟨b, g, e1, e2, e3, _⟩ := HF.out h0
                  exact ⟨b, g, e1, e2, e3⟩
                clear r4 o4 HF
                generalize w4.drewN q = w6 at *
                go_wp2_with fail
                go_loopw [16] (fun iv wx => ∃ i : Nat, i ≤ m ∧ iv = .int .i64 i ∧ Turned (fun j => 0 < m ∧ fa = some ⟨j, 0, none⟩) w6 wx ∧ (0 < m → ∃ b g, fa = some ⟨b, 0, none⟩ ∧ B ≤ b ∧ wx.rowIs b 9 m g)) (fun iv _ => m - (intOf iv).toNat)
                case atStart => exact ⟨0, by omega, rfl, Turned.refl _ _, HF6.out⟩
                case round =>
                  obtain ⟨i4, hi4, rfl, ht4, hf4⟩ := hrel
                  have HT4 : Hid (Turned (fun j => 0 < m ∧ fa = some ⟨j, 0, none⟩) w6 wr) := ht4
                  have HF4 : Hid (0 < m → ∃ b g, fa = some ⟨b, 0, none⟩ ∧ B ≤ b ∧ wr.rowIs b 9 m g) := hf4
                  clear ht4 hf4
                  by_cases hlt4 : i4 < m
                  · have hltI : (i4 : Int) < m := by omega
                    obtain ⟨b, g, rfl, hbB, hrow⟩ := HF4.out (by omega)
                    have hbi := hrow.cell hlt4
                    have hbf := hrow.frozen i4
                    have HE : Hid (∀ v, Turned (fun j => 0 < m ∧ some (⟨b, 0, none⟩ : Addr) = some ⟨j, 0, none⟩) w6 (wr.setCell ⟨b, i4, none⟩ v) ∧ (0 < m → ∃ b' g', some (⟨b, 0, none⟩ : Addr) = some ⟨b', 0, none⟩ ∧ B ≤ b' ∧ (wr.setCell ⟨b, i4, none⟩ v).rowIs b' 9 m g')) := fun v =>
                      ⟨HT4.out.setCell (.inl ⟨by omega, rfl⟩) v, fun _ => ⟨b, _, rfl, hbB, hrow.set i4 v⟩⟩
                    clear hrow HT4 HF4 r6 o6 HF6
                    go_wp2
                    go_roundw
                    case rel => first | exact ⟨i4 + 1, by omega, by go_num, (HE.out _).1, (HE.out _).2⟩ | ((repeat apply Exists.intro); exact ⟨⟨i4 + 1, by omega, by go_num, (HE.out _).1, (HE.out _).2⟩, rfl⟩)
                    case measure => simp [intOf]; omega
                  · have hsep : ∀ b, Foot p sv b → ¬ (0 < m ∧ fa = some ⟨b, 0, none⟩) := by
                      rintro b hb ⟨h0, hfa⟩
                      obtain ⟨b', g, e1, e2, _⟩ := HF6.out h0
                      rw [hfa] at e1
                      simp only [Option.some.injEq, Addr.mk.injEq, and_true] at e1
                      have := HL.out b hb
                      omega
                    have hnew : ∀ b, (0 < m ∧ fa = some ⟨b, 0, none⟩) → w.heap.size ≤ b := by
                      rintro b ⟨h0, hfa⟩
                      obtain ⟨b', g, e1, e2, _⟩ := HF6.out h0
                      rw [hfa] at e1
                      simp only [Option.some.injEq, Addr.mk.injEq, and_true] at e1
                      omega
                    have r7 := r6.turned HT4.out hsep
                    have o7 := o6.on HT4.out hnew
                    clear HT4 HF4 r6 o6 HF6 HL hsep hnew
                    go_wp2_with fail
                    go_loopw [17] (fun iv wx => ∃ (i first : Nat) (sv : Value), k ≤ i ∧ i ≤ len ∧ iv = .int .i64 i ∧ Ring wx 9 p sv 256 first (txt xs i (len - i)) ∧ Own w wx p sv) (fun iv _ => len - (intOf iv).toNat)
                    case atStart => exact ⟨k, first, sv, by omega, by omega, rfl, r7, o7⟩
                    case round =>
                      clear r7 o7
                      obtain ⟨i5, first, sv, hi5, hi6, rfl, hr, ho⟩ := hrel
                      by_cases hlt5 : i5 < len
                      · have hltI : (i5 : Int) < len := by omega
                        rw [show len - i5 = (len - (i5 + 1)) + 1 by omega, txt_cons] at hr
                        go_wp2_with fail
                        refine (takeS_any hr).mono ?_
                        rintro e w8 ⟨rfl, sv3, f3, r3, g3⟩
                        have o3 := ho.goes g3
                        obtain ⟨ad, rfl, _, hc⟩ := (HX.out.turned o3.turned).cell (by omega)
                        have hci := hc i5 hlt5
                        clear hr ho g3 hc
                        go_wp2
                        go_roundw
                        case rel => first | exact ⟨i5 + 1, f3, sv3, by omega, by omega, by go_num, r3, o3⟩ | ((repeat apply Exists.intro); exact ⟨⟨i5 + 1, f3, sv3, by omega, by omega, by go_num, r3, o3⟩, rfl⟩)
                        case measure => simp [intOf]; omega
                      · obtain rfl : len = i5 := by omega
                        rw [Nat.sub_self] at hr
                        have hr0 : Ring wr 9 p sv 256 first [] := hr
                        clear hr
                        go_wp2_with fail
                        refine (len0 hr0).mono ?_
                        rintro e w9 ⟨rfl, rfl⟩
                        go_wp2_with fail
                        refine (room256 hr0).mono ?_
                        rintro e w9 ⟨rfl, q9, rfl⟩
                        have hb := (ho.drewN q9).below
                        clear hr0 ho
                        go_wp2
                        go_ret
                        exact ⟨rfl, hb⟩

set_option maxRecDepth 100000 in
theorem lifted (os : Os) (started : os.Started) (H : Type) (enc : TypeId × Value → H) :
    ReturnsInHanded {} Try.checked os 6 .any (Rows.ringFirstsSpec.pre6 enc Try.prog Try.f6 Rows.ringFirstsRow.domain false) (Rows.ringFirstsSpec.post enc Try.prog Try.f6 false true false false) := by
  refine returnsInHanded_of_change (C := Try.checked) own started (by kernel_rfl) Try.func6
    (ChangeSpec.witness6 (enc := enc) (C := Try.checked) false ⟨#[], #[.slice none 0 0, .int .u8 0, .int .u8 0], []⟩ 6 (by kernel_rfl) (by kernel_rfl) (by kernel_rfl) (by kernel_rfl)) ?_
  intro W base args ds gs before hval0 hW hcnd _
  have hval : ∀ (j : Nat) t v, Try.f6.params[j]? = some t → args[j]? = some v → Value.okWide Try.prog W .any base t v := hval0
  have hW' := hW
  obtain ⟨p, q, hA0, hV, rfl, hfz, hnd⟩ := hW
  have hA : DataW.TrodAll enc Try.prog W 0 (fun _ => true) true Try.f6.params.toList args.toList ds p := hA0
  rw [Try.params6] at hA hval
  obtain ⟨v0, vs0, d0, ds0, p0, q0, hargs0, rfl, rfl, h0, r0⟩ := trodAll_cons hA
  obtain ⟨v1, vs1, d1, ds1, p1, q1, hargs1, rfl, rfl, h1, r1⟩ := trodAll_cons r0
  obtain ⟨v2, vs2, d2, ds2, p2, q2, hargs2, rfl, rfl, h2, r2⟩ := trodAll_cons r1
  obtain ⟨rfl, rfl, rfl⟩ := trodAll_nil r2
  obtain rfl : args = #[v0, v1, v2] := by cases args; simp_all
  obtain ⟨rfl, rfl⟩ := trodVars_none hV
  obtain ⟨a0, len0, cap0, rfl⟩ := okWide_slice Try.underlying28 (hval 0 28 v0 rfl rfl)
  have k0 := h0
  have lt0 : ∀ x ∈ p0, x.block < W.heap.size := by obtain ⟨m, hm⟩ := k0; exact DataW.trod_lt m _ _ _ hm
  obtain ⟨xs0, hx0⟩ := open_texts h0
  obtain ⟨a1, rfl, rfl, rfl, w1⟩ := open_int Try.underlying5 (hval 1 5 v1 rfl rfl) h1
  obtain ⟨a2, rfl, rfl, rfl, w2⟩ := open_int Try.underlying5 (hval 2 5 v2 rfl rfl) h2
  clear hA0 hval0
  obtain ⟨n1, rfl, hn1⟩ := u8_of_wf w1
  obtain ⟨n2, rfl, hn2⟩ := u8_of_wf w2
  refine (walk W a0 len0 cap0 xs0 hx0 n1 hn1 n2 hn2).mono fun e W' ⟨he, bel⟩ => ?_
  subst he
  exact ⟨_, rfl, _, _, _, [], _, [], hW', trodAll_mk1 (shut_bool Try.underlying4 _), (trodAll_cons_mk (Below.trod laidOut (by kernel_rfl) (of_decide_eq_true (by kernel_rfl)) k0 bel lt0) (trodAll_cons_mk (shut_int Try.underlying5 w1) (trodAll_cons_mk (shut_int Try.underlying5 w2) trodAll_mk0))), rfl, bel.frame _, fun h => by cases h⟩

theorem over : Rows.ringFirstsRow.holds Try.pinned (OpenSpec.ofChange Rows.ringFirstsSpec) :=
  OpenClaim.holds_of_wide 6 Try.f6 rfl rfl rfl rfl rfl rfl rfl ⟨rfl, rfl, rfl, rfl, rfl⟩ rfl rfl rfl rfl rfl (by kernel_rfl) Try.func6 (by kernel_rfl)
    (of_decide_eq_true (by kernel_rfl)) (by unfold Func.isWrapper; first | (rw [if_pos (by decide +kernel)]; kernel_rfl) | (rw [if_neg (by decide +kernel)]; exact ⟨rfl, rfl⟩))
    (fun os started H enc _ => lifted os started H enc)

end Go.Proofs.Ytipgmdeehmjokaa.ringFirsts
namespace Go.Proofs.Ytipgmdeehmjokaa
theorem ringFirsts_holds : Rows.RingFirstsSaid := ringFirsts.over
#print axioms ringFirsts_holds
end Go.Proofs.Ytipgmdeehmjokaa
