/-
  slices.SortStableFunc of states.
-/
import Derived.Test.YtooeemhlpmiceaaTSym3
namespace Go.Proofs.Ytooeemhlpmiceaa.T
open Go.RowKit Go.Sort
set_option linter.unusedVariables false
set_option linter.unusedSimpArgs false

theorem tags_app {A B : List Tg} (h : Tags (A ++ B)) : Tags A ∧ Tags B ∧ ∀ x ∈ A, ∀ y ∈ B, x.2 < y.2 := List.pairwise_append.1 h
theorem perm_lt {F F0 T : List Tg} (hp : F.Perm F0) (h : ∀ x ∈ F0, ∀ y ∈ T, x.2 < y.2) : ∀ x ∈ F, ∀ y ∈ T, x.2 < y.2 := fun x hx y hy => h x (hp.mem_iff.1 hx) y hy

set_option maxRecDepth 10000 in
set_option maxHeartbeats 2000000 in
theorem stable_any (w : World) (g cap n : Nat) (D : List Tg) (hb : BlkT w g cap D) (hn : D.length = n) (hmax : n ≤ 1000000) (htag : Tags D) (hok : OkT D) :
    Calls Try.prog 58 #[.slice (some ⟨g, 0, none⟩) n cap, .int .i64 (n : Nat), .func (.func 44) #[] #[]] w fun e w' => e = .returned (.tuple #[]) ∧ ∃ M, M.Perm D ∧ Asc M ∧ BlkT w' g cap M ∧ w.grownBy w' (some g) := by
  have HN : Hid (D.length = n) := hn
  have HD : Hid (Tags D ∧ OkT D) := ⟨htag, hok⟩
  have HB0 : Hid (BlkT w g cap ([] ++ D)) := hb
  clear hb hn htag hok
  go_enter Try.func58, Try.ntmps58
  go_wp2_with fail
  go_loopw [7, 8] (fun av bv wr => ∃ (f : Nat) (F F0 T : List Tg), av = .int .i64 (f : Nat) ∧ bv = .int .i64 ((f : Int) + 20) ∧ F.length = f ∧ D = F0 ++ T ∧ F.Perm F0 ∧ App 20 F ∧ BlkT wr g cap (F ++ T) ∧ w.grownBy wr (some g)) (fun av _ _ => n - (intOf av).toNat)
  case atStart => exact ⟨0, [], [], D, rfl, rfl, rfl, rfl, List.Perm.refl _, App.nil _, HB0.out, gr_refl _ _⟩
  case round =>
    clear HB0
    obtain ⟨f, F, F0, T, rfl, rfl, hf, hD, hp, happ, hblk, hgr⟩ := hrel
    have hlen : f + T.length = n := by have := HN.out; rw [hD, List.length_append, ← hp.length_eq] at this; omega
    by_cases hle : f + 20 ≤ n
    · have hleI : (f : Int) + 20 ≤ (n : Int) := by omega
      obtain ⟨C, T', rfl, hC⟩ : ∃ C T', T = C ++ T' ∧ C.length = 20 := ⟨T.take 20, T.drop 20, by simp, by rw [List.length_take]; omega⟩
      have ht := HD.out.1
      rw [hD] at ht
      obtain ⟨_, ht2, ht3⟩ := tags_app ht
      obtain ⟨ht4, _, ht5⟩ := tags_app ht2
      have hins := insertion_any wr g cap n F C T' (f : Int) ((f : Int) + 20) (by simpa using hblk) (by simp at hlen ⊢; omega) hmax ht4 (fun x hx => HD.out.2 x (by rw [hD]; simp [hx])) (by rw [hf]) (by rw [hf, hC]; push_cast; rfl)
      have HF : Hid (F.length = f ∧ D = F0 ++ (C ++ T') ∧ F.Perm F0 ∧ App 20 F ∧ w.grownBy wr (some g) ∧ C.length = 20 ∧ (∀ x ∈ F, ∀ y ∈ C, x.2 < y.2)) := ⟨hf, hD, hp, happ, hgr, hC, perm_lt hp (fun x hx y hy => ht3 x hx y (by simp [hy]))⟩
      clear ht ht2 ht3 ht4 ht5 hblk hf hD hp happ hgr hlen hC
      go_wp2_with fail
      refine hins.mono ?_
      rintro e w1 ⟨rfl, C', hpc, hac, hb1, hg1⟩
      have HK : Hid ((F ++ C').length = f + 20 ∧ D = (F0 ++ C) ++ T' ∧ (F ++ C').Perm (F0 ++ C) ∧ App 20 (F ++ C') ∧ BlkT w1 g cap ((F ++ C') ++ T') ∧ w.grownBy w1 (some g)) := by
        obtain ⟨a1, a2, a3, a4, a5, a6, a7⟩ := HF.out
        refine ⟨by rw [List.length_append, hpc.length_eq]; omega, by rw [a2]; simp, a3.append hpc, a4.snoc (fun x hx y hy => a7 x hx y (hpc.mem_iff.1 hy)) hac (by rw [hpc.length_eq]; exact a6), hb1, gr_trans a5 hg1⟩
      clear hins hpc hac hb1 hg1 HF
      go_wp2
      go_roundw
      case rel =>
        have key : ∃ (f' : Nat) (F F0 T : List Tg), (Value.int .i64 ((f : Int) + 20)) = .int .i64 (f' : Nat) ∧ (Value.int .i64 ((f : Int) + 20 + 20)) = .int .i64 ((f' : Int) + 20) ∧ F.length = f' ∧ D = F0 ++ T ∧ F.Perm F0 ∧ App 20 F ∧ BlkT w1 g cap (F ++ T) ∧ w.grownBy w1 (some g) :=
          ⟨f + 20, F ++ C', F0 ++ C, T', by push_cast; rfl, by push_cast; rfl, HK.out.1, HK.out.2.1, HK.out.2.2.1, HK.out.2.2.2.1, HK.out.2.2.2.2.1, HK.out.2.2.2.2.2⟩
        first | exact key | ((repeat apply Exists.intro); exact ⟨key, rfl⟩)
      case measure => simp [intOf]; omega
    · have hleI : ¬ ((f : Int) + 20 ≤ (n : Int)) := by omega
      have ht := HD.out.1
      rw [hD] at ht
      obtain ⟨_, ht2, ht3⟩ := tags_app ht
      have hins := insertion_any wr g cap n F T [] (f : Int) (n : Int) (by simpa using hblk) (by simp; omega) hmax ht2 (fun x hx => HD.out.2 x (by rw [hD]; simp [hx])) (by rw [hf]) (by rw [hf]; omega)
      have HF : Hid (D = F0 ++ T ∧ F.Perm F0 ∧ App 20 F ∧ w.grownBy wr (some g) ∧ T.length ≤ 20 ∧ (∀ x ∈ F, ∀ y ∈ T, x.2 < y.2)) := ⟨hD, hp, happ, hgr, by omega, perm_lt hp ht3⟩
      clear ht ht2 ht3 hblk hf hD hp happ hgr hlen
      go_wp2_with fail
      refine hins.mono ?_
      rintro e w1 ⟨rfl, T', hpc, hac, hb1, hg1⟩
      have HK : Hid ((F ++ T').Perm D ∧ Ch 20 (F ++ T') ∧ BlkT w1 g cap (F ++ T') ∧ w.grownBy w1 (some g)) := by
        obtain ⟨a2, a3, a4, a5, a6, a7⟩ := HF.out
        refine ⟨by rw [a2]; exact a3.append hpc, a4 _ (fun x hx y hy => a7 x hx y (hpc.mem_iff.1 hy)) (Ch.last _ hac (by rw [hpc.length_eq]; exact a6)), by simpa using hb1, gr_trans a5 hg1⟩
      clear hins hpc hac hb1 hg1 HF hle hleI
      obtain ⟨M0, hM0⟩ : ∃ M0, F ++ T' = M0 := ⟨_, rfl⟩
      rw [hM0] at HK
      clear hM0
      go_wp2_with fail
      go_loopw [6, 7, 8, 9] (fun kv _ _ _ wr => ∃ (k : Nat) (M : List Tg), kv = .int .i64 (k : Nat) ∧ 20 ≤ k ∧ M.Perm D ∧ Ch k M ∧ BlkT wr g cap M ∧ w.grownBy wr (some g)) (fun kv _ _ _ _ => n - (intOf kv).toNat)
      case atStart => exact ⟨20, M0, rfl, by omega, HK.out.1, HK.out.2.1, HK.out.2.2.1, HK.out.2.2.2⟩
      case round =>
        clear HK
        obtain ⟨k, M, rfl, hk20, hpM, hch, hblk, hgr⟩ := hrel
        by_cases hkn : k < n
        · have hknI : (k : Int) < (n : Int) := by omega
          obtain ⟨k2, hk2⟩ : ∃ k2 : Nat, 2 * k = k2 := ⟨_, rfl⟩
          have hk2I : (2 : Int) * (k : Int) = (k2 : Int) := by omega
          have hk2J : (k : Int) * 2 = (k2 : Int) := by omega
          have hk2a : 2 * k ≤ k2 := by omega
          have hk2b : k2 ≤ 2 * k := by omega
          clear hk2
          have HK2 : Hid (M.Perm D ∧ Ch k M ∧ BlkT wr g cap ([] ++ M) ∧ w.grownBy wr (some g)) := ⟨hpM, hch, hblk, hgr⟩
          clear hpM hch hblk hgr
          go_wp2_with fail
          go_loopw [7, 8] (fun av bv wr => ∃ (f : Nat) (F T : List Tg), av = .int .i64 (f : Nat) ∧ bv = .int .i64 ((f : Int) + (k2 : Int)) ∧ F.length = f ∧ (F ++ T).Perm D ∧ App k2 F ∧ Ch k T ∧ (∀ x ∈ F, ∀ y ∈ T, x.2 < y.2) ∧ BlkT wr g cap (F ++ T) ∧ w.grownBy wr (some g)) (fun av _ _ => n - (intOf av).toNat)
          case atStart => exact ⟨0, [], M, rfl, by simp, rfl, HK2.out.1, App.nil _, HK2.out.2.1, by simp, HK2.out.2.2.1, HK2.out.2.2.2⟩
          case round =>
            clear HK2
            obtain ⟨f, F, T, rfl, rfl, hf, hp, happ, hch, hFT, hblk, hgr⟩ := hrel
            have hlen : f + T.length = n := by have := HN.out; rw [← hp.length_eq, List.length_append] at this; omega
            by_cases hle : f + k2 ≤ n
            · have hleI : (f : Int) + (k2 : Int) ≤ (n : Int) := by omega
              obtain ⟨c, r, rfl, hac, hlc, hcr, hchr⟩ := hch.first (by omega)
              obtain ⟨d, r', rfl, had, hld, hdr, hchr'⟩ := hchr.first (by rw [List.length_append] at hlen; omega)
              have hsm := sm_any g cap n hmax (c.length + d.length) wr F c d r' (f : Int) ((f : Int) + (k : Int)) ((f : Int) + (k2 : Int)) (by omega) (by omega) (by omega) (by simpa using hblk) (by simp at hlen ⊢; omega) hac had (fun x hx y hy => hcr x hx y (by simp [hy])) (fun x hx => HD.out.2 x (hp.mem_iff.1 (by simp [hx]))) (fun x hx => HD.out.2 x (hp.mem_iff.1 (by simp [hx]))) (by rw [hf]) (by rw [hf, hlc]; push_cast; rfl) (by rw [hf, hlc, hld]; push_cast; omega)
              have HF : Hid (F.length = f ∧ (F ++ (c ++ (d ++ r'))).Perm D ∧ App k2 F ∧ Ch k r' ∧ (∀ x ∈ F, ∀ y ∈ c ++ (d ++ r'), x.2 < y.2) ∧ (∀ x ∈ c, ∀ y ∈ d ++ r', x.2 < y.2) ∧ (∀ x ∈ d, ∀ y ∈ r', x.2 < y.2) ∧ w.grownBy wr (some g) ∧ c.length = k ∧ d.length = k) := ⟨hf, hp, happ, hchr', hFT, hcr, hdr, hgr, hlc, hld⟩
              clear hf hp happ hch hFT hblk hgr hlen hac hlc hcr hchr had hld hdr hchr'
              go_wp2_with fail
              refine hsm.mono ?_
              rintro e w1 ⟨rfl, C', hpc, hac, hb1, hg1⟩
              have HK : Hid ((F ++ C').length = f + k2 ∧ ((F ++ C') ++ r').Perm D ∧ App k2 (F ++ C') ∧ Ch k r' ∧ (∀ x ∈ F ++ C', ∀ y ∈ r', x.2 < y.2) ∧ BlkT w1 g cap ((F ++ C') ++ r') ∧ w.grownBy w1 (some g)) := by
                obtain ⟨a1, a2, a3, a4, a5, a6, a7, a8, a9, a10⟩ := HF.out
                have hCl : C'.length = k2 := by rw [hpc.length_eq, List.length_append]; omega
                refine ⟨by rw [List.length_append]; omega, ?_, a3.snoc (fun x hx y hy => a5 x hx y ?_) hac hCl, a4, fun x hx y hy => ?_, hb1, gr_trans a8 hg1⟩
                · refine List.Perm.trans ?_ a2
                  rw [List.append_assoc]
                  refine List.Perm.append_left _ ?_
                  rw [← List.append_assoc c]
                  exact List.Perm.append_right _ hpc
                · have := hpc.mem_iff.1 hy
                  simp at this ⊢
                  rcases this with h | h
                  · exact .inl h
                  · exact .inr (.inl h)
                · rw [List.mem_append] at hx
                  rcases hx with hx | hx
                  · exact a5 x hx y (by simp [hy])
                  · have := hpc.mem_iff.1 hx
                    rw [List.mem_append] at this
                    rcases this with h | h
                    · exact a6 x h y (by simp [hy])
                    · exact a7 x h y hy
              clear hsm hpc hac hb1 hg1 HF
              go_wp2
              go_roundw
              case rel =>
                have key : ∃ (f' : Nat) (F T : List Tg), (Value.int .i64 ((f : Int) + (k2 : Int))) = .int .i64 (f' : Nat) ∧ (Value.int .i64 ((f : Int) + (k2 : Int) + (k2 : Int))) = .int .i64 ((f' : Int) + (k2 : Int)) ∧ F.length = f' ∧ (F ++ T).Perm D ∧ App k2 F ∧ Ch k T ∧ (∀ x ∈ F, ∀ y ∈ T, x.2 < y.2) ∧ BlkT w1 g cap (F ++ T) ∧ w.grownBy w1 (some g) :=
                  ⟨f + k2, F ++ C', r', by push_cast; rfl, by push_cast; rfl, HK.out⟩
                first | exact key | ((repeat apply Exists.intro); exact ⟨key, rfl⟩)
              case measure => simp [intOf]; omega
            · have hleI : ¬ ((f : Int) + (k2 : Int) ≤ (n : Int)) := by omega
              by_cases hm : f + k < n
              · have hmI : (f : Int) + (k : Int) < (n : Int) := by omega
                obtain ⟨c, r, rfl, hac, hlc, hcr, hchr⟩ := hch.two (by omega)
                have hrl : r.length ≤ k := by rw [List.length_append] at hlen; omega
                have hsm := sm_any g cap n hmax (c.length + r.length) wr F c r [] (f : Int) ((f : Int) + (k : Int)) (n : Int) (by omega) (by omega) (by rw [List.length_append] at hlen; omega) (by simpa using hblk) (by simp at hlen ⊢; omega) hac (hchr.one hrl) hcr (fun x hx => HD.out.2 x (hp.mem_iff.1 (by simp [hx]))) (fun x hx => HD.out.2 x (hp.mem_iff.1 (by simp [hx]))) (by rw [hf]) (by rw [hf, hlc]; push_cast; rfl) (by rw [hf, hlc]; rw [List.length_append] at hlen; omega)
                have HF : Hid ((F ++ (c ++ r)).Perm D ∧ App k2 F ∧ (∀ x ∈ F, ∀ y ∈ c ++ r, x.2 < y.2) ∧ w.grownBy wr (some g) ∧ (c ++ r).length ≤ k2) := ⟨hp, happ, hFT, hgr, by rw [List.length_append]; omega⟩
                clear hf hp happ hch hFT hblk hgr hlen hac hlc hcr hchr hrl
                go_wp2_with fail
                refine hsm.mono ?_
                rintro e w1 ⟨rfl, C', hpc, hac, hb1, hg1⟩
                have HK : Hid ((F ++ C').Perm D ∧ Ch k2 (F ++ C') ∧ BlkT w1 g cap (F ++ C') ∧ w.grownBy w1 (some g)) := by
                  obtain ⟨a2, a3, a5, a8, a9⟩ := HF.out
                  exact ⟨(List.Perm.append_left _ hpc).trans a2, a3 _ (fun x hx y hy => a5 x hx y (hpc.mem_iff.1 hy)) (Ch.last _ hac (by rw [hpc.length_eq]; exact a9)), by simpa using hb1, gr_trans a8 hg1⟩
                clear hsm hpc hac hb1 hg1 HF
                go_wp2
                go_roundw
                case rel =>
                  have key : ∃ (k' : Nat) (M : List Tg), (Value.int .i64 (k2 : Int)) = .int .i64 (k' : Nat) ∧ 20 ≤ k' ∧ M.Perm D ∧ Ch k' M ∧ BlkT w1 g cap M ∧ w.grownBy w1 (some g) := ⟨k2, F ++ C', rfl, by omega, HK.out⟩
                  first | exact key | ((repeat apply Exists.intro); exact ⟨key, rfl⟩)
                case measure => simp [intOf]; omega
              · have hmI : ¬ ((f : Int) + (k : Int) < (n : Int)) := by omega
                have HK : Hid ((F ++ T).Perm D ∧ Ch k2 (F ++ T) ∧ BlkT wr g cap (F ++ T) ∧ w.grownBy wr (some g)) := ⟨hp, happ _ hFT (Ch.last _ (hch.one (by omega)) (by omega)), hblk, hgr⟩
                clear hf hp happ hch hFT hblk hgr
                go_wp2
                go_roundw
                case rel =>
                  have key : ∃ (k' : Nat) (M : List Tg), (Value.int .i64 (k2 : Int)) = .int .i64 (k' : Nat) ∧ 20 ≤ k' ∧ M.Perm D ∧ Ch k' M ∧ BlkT wr g cap M ∧ w.grownBy wr (some g) := ⟨k2, F ++ T, rfl, by omega, HK.out⟩
                  first | exact key | ((repeat apply Exists.intro); exact ⟨key, rfl⟩)
                case measure => simp [intOf]; omega
        · have hknI : ¬ ((k : Int) < (n : Int)) := by omega
          have HE : Hid (M.Perm D ∧ Asc M ∧ BlkT wr g cap M ∧ w.grownBy wr (some g)) := ⟨hpM, hch.one (by rw [hpM.length_eq, HN.out]; omega), hblk, hgr⟩
          clear hpM hch hblk hgr
          go_wp2
          go_end0
          exact ⟨rfl, M, HE.out⟩

set_option maxRecDepth 10000 in
/-- What Join sorts: the first stay ahead of their like. -/
theorem sort_any (w : World) (g cap n : Nat) (D : List Tg) (hb : BlkT w g cap D) (hn : D.length = n) (hmax : n ≤ 1000000) (htag : Tags D) (hok : OkT D) :
    Calls Try.prog 43 #[.slice (some ⟨g, 0, none⟩) n cap, .func (.func 44) #[] #[]] w fun e w' => e = .returned (.tuple #[]) ∧ ∃ M, M.Perm D ∧ Asc M ∧ BlkT w' g cap M ∧ w.grownBy w' (some g) := by
  have hst := stable_any w g cap n D hb hn hmax htag hok
  clear hb hn htag hok
  go_enter Try.func43, Try.ntmps43
  go_wp2_with fail
  refine hst.mono ?_
  rintro e w1 ⟨rfl, M, h1, h2, h3, h4⟩
  clear hst
  go_wp2
  go_end0
  exact ⟨rfl, M, h1, h2, h3, h4⟩
end Go.Proofs.Ytooeemhlpmiceaa.T
