/-
  DERIVED. GIVEN WITH THE SEED: THE CARDS: each row of YtmdambfapephpaaDoorRows.lean that lists a variable, with what it lists TIED to the program's text (the seventh form; the later family's looks); each row that meets fmt, with fmt's text TOLD by the authors' own Lean function (tested against real Go, not proved from fmt's source: count such statements apart). THE CARD IS WHAT COUNTS. Prove the row's statement (the work); the ties are given (YtmdambfapephpaaDoorTie.lean); close each card by the builder's one call (the guide's Derived/Test/ToyasCard.lean, 'card_holds'). Laid BY PROGRAM, IN A SANDBOX (cutbox-door.mjs). By AI agents, Wed Nov 11 2026. No macro, syntax, notation, axiom, sorry.
-/
import Derived.Test.YtmdambfapephpaaDoorRows
import GoSem.ClaimSeven
namespace Go.Proofs.YtmdambfapephpaaDoor
namespace Rows

/-- THE TIED CARD OF 'overseerlaw01.AlphabetMasks'. -/
def alphabetMasksCard : Claim7 := { stood := { row := alphabetMasksRow, standIns := [], harness := (true, "767be6932044f8a54c2859dc96d5671ae33bd36ebac7505d73b56dd8cbd24ebe"), looks := false }, kinds := [], alts := [], laidByText := true, laidKinds := [.data], laidTests := true, laidLooks := .later }
def AlphabetMasksCardSaid : Prop := Claim7.holds Tryd.pinned (.plain (OpenSpec.ofChange alphabetMasksSpec)) alphabetMasksCard

/-- THE TIED CARD OF 'overseerlaw01.AlphabetLaws'. -/
def alphabetLawsCard : Claim7 := { stood := { row := alphabetLawsRow, standIns := [], harness := (true, "767be6932044f8a54c2859dc96d5671ae33bd36ebac7505d73b56dd8cbd24ebe"), looks := false }, kinds := [], alts := [], laidByText := true, laidKinds := [.data], laidTests := true, laidLooks := .later }
def AlphabetLawsCardSaid : Prop := Claim7.holds Tryd.pinned (.plain (OpenSpec.ofChange alphabetLawsSpec)) alphabetLawsCard

/-- THE SECOND FORM's CARD OF 'overseerlaw01.AlphabetMasks'. -/
def alphabetMasksUptoCard : Claim7 := { stood := { row := alphabetMasksUptoRow, standIns := [], harness := (true, "767be6932044f8a54c2859dc96d5671ae33bd36ebac7505d73b56dd8cbd24ebe"), looks := false }, kinds := [], alts := [], laidByText := true, laidKinds := [.data], laidTests := true, laidLooks := .later }
def AlphabetMasksUptoCardSaid : Prop := Claim7.holds Tryd.pinned (.plain (OpenSpec.upto alphabetMasksSpec)) alphabetMasksUptoCard

/-- THE SECOND FORM's CARD OF 'overseerlaw01.AlphabetLaws'. -/
def alphabetLawsUptoCard : Claim7 := { stood := { row := alphabetLawsUptoRow, standIns := [], harness := (true, "767be6932044f8a54c2859dc96d5671ae33bd36ebac7505d73b56dd8cbd24ebe"), looks := false }, kinds := [], alts := [], laidByText := true, laidKinds := [.data], laidTests := true, laidLooks := .later }
def AlphabetLawsUptoCardSaid : Prop := Claim7.holds Tryd.pinned (.plain (OpenSpec.upto alphabetLawsSpec)) alphabetLawsUptoCard
end Rows
end Go.Proofs.YtmdambfapephpaaDoor
