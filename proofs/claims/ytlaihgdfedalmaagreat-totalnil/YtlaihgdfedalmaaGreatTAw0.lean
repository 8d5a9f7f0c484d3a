/-
  Package total: the statements' example.
-/
import Derived.Test.YtlaihgdfedalmaaGreatTStp
import Derived.Test.YtlaihgdfedalmaaGreatTTake
namespace Go.Proofs.YtlaihgdfedalmaaGreat
open Go.RowKit Go.Sort Go.Conc
set_option linter.unusedVariables false
set_option linter.unusedSimpArgs false

def aX : Lb := (1, 0, 1, 0)
def aT1 : Tot := { n := 1, self := 0, qc := 4, acc := 1, vn := 0, vp := 0, vs := 0, st := 0, seq := 0, dl := [[97]], buf := [], con := [], ord := [], nx := 1, rep := 1, hn := 0, hp := 0, told := [], sf := 0, safe := [], K := 0 }
def aT2 : Tot := { n := 1, self := 0, qc := 4, acc := 1, vn := 1, vp := 0, vs := 1, st := 0, seq := 1, dl := [], buf := [(aX, [97])], con := [(aX, [97])], ord := [], nx := 1, rep := 1, hn := 0, hp := 0, told := [], sf := 0, safe := [], K := 1 }
def aP : Pt := { node := 0, es := [(aX, [97])], ls := [], nx := 1, hn := 0, hp := 0 }
def aT3 : Tot := { aT2 with st := 2, ord := [aX], hn := 1, hp := 0, told := [aP], K := 3 }
def aT4 : Tot := { aT3 with nx := 2, sf := 1, safe := [aX], K := 4 }
def aT5 : Tot := { aT4 with buf := [], K := 6 }
def aT6 : Tot := { aT5 with safe := [aX, aX], K := 7 }
def aT0 : Tot := { n := 1, self := 0, qc := 4, acc := 0, vn := 0, vp := 0, vs := 0, st := 0, seq := 0, dl := [], buf := [], con := [], ord := [], nx := 1, rep := 1, hn := 0, hp := 0, told := [], sf := 0, safe := [], K := 0 }
theorem a1 : aT0.bcast [97] = (aT1, 0) := by kernel_rfl
theorem a2 : aT1.view 1 0 1 = (aT2, 0) := by kernel_rfl
theorem a3n : aT2.next = some (allB aP.es aP.ls aP.nx.toNat aP.hn aP.hp) := by kernel_rfl
theorem a3s : aT2.sent = ({ aT2 with st := 1 }, 0) := by kernel_rfl
theorem a3 : ({ aT2 with st := 1 } : Tot).gotAll aP = (aT3, 0) := by kernel_rfl
theorem a4 : aT3.sureAll 0 = aT4 := by kernel_rfl
theorem a5n : aT4.next = some (1 :: encE aX [97]) := by kernel_rfl
theorem a5s : aT4.sent = ({ aT4 with buf := [] }, 0) := by kernel_rfl
theorem a5 : ({ aT4 with buf := [] } : Tot).gotOne aX [97] = aT5 := by kernel_rfl
theorem a6 : aT5.sureOne aX = aT6 := by kernel_rfl
theorem a7 : aT6.take = ({ aT6 with rep := 2 }, some (0, [97])) := by kernel_rfl
theorem okl_aX : OkL aX := by unfold OkL In aX; simp
theorem re_aX : RE (aX, [97]) := ⟨by show (1 : Nat) < _; omega, by show (1 : Nat) < _; omega, by kernel_rfl, by show (1 : Nat) ≤ _; omega⟩
section
variable {w : World} {col : Nat → Nat} {Z : Nat → Prop} {q : Nat} {a : Ta}
theorem tb_aP : Tb [aP] := by
  have e : allT [aP] = [(aX, [97])] := rfl
  refine ⟨by rw [e]; show 1 ≤ 5000; omega, fun x hx => ?_, fun x hx => ?_, fun t ht => ?_, fun t ht x hx => ?_⟩
  · rw [e, List.mem_singleton] at hx; subst hx; show 1 ≤ _; omega
  · rw [e, List.mem_singleton] at hx; subst hx; exact okl_aX
  · rw [List.mem_singleton] at ht; subst ht; show 0 ≤ _; omega
  · rw [List.mem_singleton] at ht; subst ht; cases hx
theorem awake_step1 (h : Tt w col Z q aT2 a) : Calls Tryz.prog 40 #[.pointer (some ⟨q, 0, none⟩)] w fun e w' => e = .returned (.bool true) ∧ Stp w col Z q aT4 w' := by
  have hcon : ∀ e ∈ aT2.con, OkL e.1 ∧ e.2.length ≤ 64 := fun e he => by
    have : e = (aX, [97]) := by simpa [aT2] using he
    subst this
    exact ⟨okl_aX, by show 1 ≤ 64; omega⟩
  have hbuf : ∀ e ∈ aT2.buf, OkL e.1 := fun e he => by
    have : e = (aX, [97]) := by simpa [aT2] using he
    subst this
    exact okl_aX
  have hes : ∀ e ∈ aP.es, e.1.1 < 18446744073709551616 ∧ e.1.2.2.1 < 18446744073709551616 := fun e he => by
    have : e = (aX, [97]) := by simpa [aP] using he
    subst this
    exact ⟨by show (1 : Nat) < _; omega, by show (1 : Nat) < _; omega⟩
  have hls : ∀ x ∈ aP.ls, x.1 < 18446744073709551616 ∧ x.2.2.1 < 18446744073709551616 := fun x hx => by cases hx
  have hok : ∀ e ∈ aP.es, OkL e.1 := fun e he => by
    have : e = (aX, [97]) := by simpa [aP] using he
    subst this
    exact okl_aX
  have hord3 : ∀ x ∈ aT3.ord, OkL x := fun x hx => by
    have : x = aX := by simpa [aT3, aT2] using hx
    subst this
    exact okl_aX
  refine step_gen (T1 := { aT2 with st := 1 }) (T2 := aT3) h (allB aP.es aP.ls aP.nx.toNat aP.hn aP.hp) ?_ (fun W A hA => ?_) (fun W c Z' A ao n cap hA hr => ?_) (fun W c Z' A ao n cap hA hr => ?_)
  · have := nextT_any h (by show 1 ≤ 100000; omega) (by show 1 ≤ 5000; omega) hcon (by show 0 ≤ 5000; omega) (fun x hx => by cases hx) (by show 0 < 18446744073709551616; omega) hbuf
    rwa [a3n] at this
  · have := sent_any hA ⟨by show 1 ≤ 100000; omega, by show 1 ≤ 5000; omega, hcon, by show 0 ≤ 5000; omega, (fun x hx => by cases hx), by show 0 < 18446744073709551616; omega, hbuf⟩
    rw [a3s] at this
    exact this
  · have := recv_all hA aP hok ⟨⟨by show (1 : Int) ≤ 1; omega, by show (1 : Int) ≤ 16; omega⟩, ⟨by show (0 : Int) ≤ 0; omega, by show (0 : Int) < 1; omega⟩, by show 1 < 18446744073709551616; omega, by unfold In; show _ ≤ (0 : Int) ∧ (0 : Int) ≤ _; omega, by show 1 < 65536; omega, by show 1 < 256; omega, by show 2 ≤ 1000000; omega⟩ tb_aP (by show 0 ≤ 4999; omega) ao n cap (rd_all hA (by show (1 : Nat) ≠ 0; omega) (by show 1 < 65536; omega) aP (by kernel_rfl) ao n cap (by kernel_rfl) hes hls (by show 1 ≤ 5000; omega) (by show 0 ≤ 5000; omega) (by show 0 < 18446744073709551616; omega) hr)
    rw [a3] at this
    exact this
  · have := safe_all hA ⟨⟨by show (1 : Int) ≤ 1; omega, by show (1 : Int) ≤ 16; omega⟩, ⟨by show (0 : Int) ≤ 0; omega, by show (0 : Int) < 1; omega⟩, by show 1 < 18446744073709551616; omega, by unfold In; show _ ≤ (0 : Int) ∧ (0 : Int) ≤ _; omega, by show 1 < 65536; omega, by show 2 < 256; omega, by show 3 ≤ 1000000; omega⟩ (by show 3 + 10000 < 1000000; omega) (by show 1 ≤ 5000; omega) hord3 (by unfold In; show _ ≤ (1 : Int) ∧ (1 : Int) ≤ _; omega) (by show 0 < 65536; omega) tb_aP aP ao n cap (rd_all hA (by show (1 : Nat) ≠ 0; omega) (by show 1 < 65536; omega) aP (by kernel_rfl) ao n cap (by kernel_rfl) hes hls (by show 1 ≤ 5000; omega) (by show 0 ≤ 5000; omega) (by show 0 < 18446744073709551616; omega) hr)
    rw [show aP.node = 0 from rfl, a4] at this
    exact this
theorem awake_step2 (h : Tt w col Z q aT4 a) : Calls Tryz.prog 40 #[.pointer (some ⟨q, 0, none⟩)] w fun e w' => e = .returned (.bool true) ∧ Stp w col Z q aT6 w' := by
  have hcon : ∀ e ∈ aT4.con, OkL e.1 ∧ e.2.length ≤ 64 := fun e he => by
    have : e = (aX, [97]) := by simpa [aT4, aT3, aT2] using he
    subst this
    exact ⟨okl_aX, by show 1 ≤ 64; omega⟩
  have hbuf : ∀ e ∈ aT4.buf, OkL e.1 := fun e he => by
    have : e = (aX, [97]) := by simpa [aT4, aT3, aT2] using he
    subst this
    exact okl_aX
  have hord : ∀ x ∈ aT4.ord, OkL x := fun x hx => by
    have : x = aX := by simpa [aT4, aT3, aT2] using hx
    subst this
    exact okl_aX
  have tn : ∀ K : Nat, K ≤ 1000000 → ∀ b : List En, Tn { aT4 with buf := b, K := K } := fun K hK b => ⟨⟨by show (1 : Int) ≤ 1; omega, by show (1 : Int) ≤ 16; omega⟩, ⟨by show (0 : Int) ≤ 0; omega, by show (0 : Int) < 1; omega⟩, by show 1 < 18446744073709551616; omega, by unfold In; show _ ≤ (0 : Int) ∧ (0 : Int) ≤ _; omega, by show 1 < 65536; omega, by show 2 < 256; omega, hK⟩
  refine step_gen (T1 := { aT4 with buf := [] }) (T2 := aT5) h (1 :: encE aX [97]) ?_ (fun W A hA => ?_) (fun W c Z' A ao n cap hA hr => ?_) (fun W c Z' A ao n cap hA hr => ?_)
  · have := nextT_any h (by show 4 ≤ 100000; omega) (by show 1 ≤ 5000; omega) hcon (by show 1 ≤ 5000; omega) hord (by show 1 < 18446744073709551616; omega) hbuf
    rwa [a5n] at this
  · have := sent_any hA ⟨by show 4 ≤ 100000; omega, by show 1 ≤ 5000; omega, hcon, by show 1 ≤ 5000; omega, hord, by show 1 < 18446744073709551616; omega, hbuf⟩
    rw [a5s] at this
    exact this
  · have := recv_one hA (tn 4 (by omega) []) (by show 4 + 2 < 1000000; omega) (by show 1 ≤ 4999; omega) 0 ao n cap aX okl_aX [97] (rd_one hA (by show (1 : Nat) ≠ 0; omega) (by show 1 < 65536; omega) 0 (by kernel_rfl) ao n cap aX [97] re_aX hr)
    rw [a5] at this
    exact this
  · have := safe_one hA (tn 6 (by omega) []) (by show 6 < 1000000; omega) (by show 1 ≤ 5000; omega) hord (by unfold In; show _ ≤ (2 : Int) ∧ (2 : Int) ≤ _; omega) 0 ao n cap aX okl_aX [97] (rd_one hA (by show (1 : Nat) ≠ 0; omega) (by show 1 < 65536; omega) 0 (by kernel_rfl) ao n cap aX [97] re_aX hr)
    rw [a6] at this
    exact this
end
end Go.Proofs.YtlaihgdfedalmaaGreat
