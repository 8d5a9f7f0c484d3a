/-
  Any move of nodes (group.move).
-/
import Derived.Test.YtlonbbepoamnmaaDoorMGrp8
import Derived.Test.YtlonbbepoamnmaaDoorMGrp9
namespace Go.Proofs.YtlonbbepoamnmaaDoor
open Go.RowKit
set_option linter.unusedVariables false

theorem move_any {W0 w : World} {B : Nat → Prop} {n gq : Nat} {g : Gp} {H : List (Vid × Nat)} (h : GrpOk W0 B n gq g w) (hinv : GInv n g H) (a : Mv) (ha : a.kind < 256 ∧ a.i < 256 ∧ a.est < 65536) (hb : g.bag.length ≤ 9000000) (hv : ∀ i, (g.views i).length ≤ 9000000) :
    Calls Tryd.prog 25 #[.pointer (some ⟨gq, 0, none⟩), mval a] w fun e w' => MovPost W0 B n gq (g.move n a) e w' := by
  obtain ⟨hsz, col, A, hG⟩ := h
  have h1 := hinv.n1
  by_cases hk : a.kind % 9 < 3
  · exact move_tick hG hsz h1 a ha hk hb hv
  · by_cases hk8 : a.kind % 9 < 8
    · cases hat : g.bag[a.est % g.bag.length]? with
      | none =>
        have he : g.bag = [] := by
          cases hbag : g.bag with
          | nil => rfl
          | cons x l =>
            have hlt : a.est % g.bag.length < g.bag.length := Nat.mod_lt _ (by rw [hbag]; simp)
            rw [List.getElem?_eq_getElem hlt] at hat
            cases hat
        exact move_none hG hsz h1 a ha (by omega) hk8 he
      | some o =>
        obtain ⟨t, F⟩ := o
        have htn : t < n := (hinv.bag _ (List.mem_of_getElem? hat)).1
        cases hkp : a.keep with
        | true =>
          by_cases hk7 : a.kind % 9 < 7
          · exact move_keep_in hG hsz h1 a ha (by omega) hk7 hkp t F hat htn hb hv
          · exact move_keep_lost hG hsz h1 a ha (by omega) (by omega) hkp t F hat htn hb hv
        | false =>
          by_cases hk7 : a.kind % 9 < 7
          · exact move_in hG hsz h1 a ha (by omega) hk7 hkp t F hat htn hb hv
          · exact move_lost hG hsz h1 a ha (by omega) (by omega) hkp t F hat htn hb hv
    · exact move_beat hG hsz h1 a ha hk8 hb
end Go.Proofs.YtlonbbepoamnmaaDoor
