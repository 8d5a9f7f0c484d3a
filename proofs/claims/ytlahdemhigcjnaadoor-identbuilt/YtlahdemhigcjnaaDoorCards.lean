/-
  DERIVED. GIVEN WITH THE SEED: THE CARDS: each row of YtlahdemhigcjnaaDoorRows.lean that lists a variable, with what it lists TIED to the program's text (the seventh form; the later family's looks); each row that meets fmt, with fmt's text TOLD by the authors' own Lean function (tested against real Go, not proved from fmt's source: count such statements apart). THE CARD IS WHAT COUNTS. Prove the row's statement (the work); the ties are given (YtlahdemhigcjnaaDoorTie.lean); close each card by the builder's one call (the guide's Derived/Test/ToyasCard.lean, 'card_holds'). Laid BY PROGRAM, IN A SANDBOX (cutbox-door.mjs). By AI agents, Wed Nov 11 2026. No macro, syntax, notation, axiom, sorry.
-/
import Derived.Test.YtlahdemhigcjnaaDoorRows
import GoSem.ClaimSeven
namespace Go.Proofs.YtlahdemhigcjnaaDoor
namespace Rows

/-- THE TIED CARD OF 'folkmootlaw04.IdentSets'. -/
def identSetsCard : Claim7 := { stood := { row := identSetsRow, standIns := [], harness := (true, "6b28c192a62c00a3bbc31074083769f06420cc8ec18a760779df593e8a42cbba"), looks := false }, kinds := [], alts := [], laidByText := true, laidKinds := [.data], laidTests := true, laidLooks := .later }
def IdentSetsCardSaid : Prop := Claim7.holds Tryd.pinned (.plain (OpenSpec.ofChange identSetsSpec)) identSetsCard

/-- THE TIED CARD OF 'folkmootlaw04.IdentBuilt'. -/
def identBuiltCard : Claim7 := { stood := { row := identBuiltRow, standIns := [], harness := (true, "6b28c192a62c00a3bbc31074083769f06420cc8ec18a760779df593e8a42cbba"), looks := false }, kinds := [], alts := [], laidByText := true, laidKinds := [.data], laidTests := true, laidLooks := .later }
def IdentBuiltCardSaid : Prop := Claim7.holds Tryd.pinned (.plain (OpenSpec.ofChange identBuiltSpec)) identBuiltCard

/-- THE SECOND FORM's CARD OF 'folkmootlaw04.IdentSets'. -/
def identSetsUptoCard : Claim7 := { stood := { row := identSetsUptoRow, standIns := [], harness := (true, "6b28c192a62c00a3bbc31074083769f06420cc8ec18a760779df593e8a42cbba"), looks := false }, kinds := [], alts := [], laidByText := true, laidKinds := [.data], laidTests := true, laidLooks := .later }
def IdentSetsUptoCardSaid : Prop := Claim7.holds Tryd.pinned (.plain (OpenSpec.upto identSetsSpec)) identSetsUptoCard

/-- THE SECOND FORM's CARD OF 'folkmootlaw04.IdentBuilt'. -/
def identBuiltUptoCard : Claim7 := { stood := { row := identBuiltUptoRow, standIns := [], harness := (true, "6b28c192a62c00a3bbc31074083769f06420cc8ec18a760779df593e8a42cbba"), looks := false }, kinds := [], alts := [], laidByText := true, laidKinds := [.data], laidTests := true, laidLooks := .later }
def IdentBuiltUptoCardSaid : Prop := Claim7.holds Tryd.pinned (.plain (OpenSpec.upto identBuiltSpec)) identBuiltUptoCard
end Rows
end Go.Proofs.YtlahdemhigcjnaaDoor
