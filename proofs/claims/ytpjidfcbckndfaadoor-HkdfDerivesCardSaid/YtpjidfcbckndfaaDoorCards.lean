/-
  DERIVED. GIVEN WITH THE SEED: THE CARDS: each row of YtpjidfcbckndfaaDoorRows.lean that lists a variable, with what it lists TIED to the program's text (the seventh form; the later family's looks); each row that meets fmt, with fmt's text TOLD by the authors' own Lean function (tested against real Go, not proved from fmt's source: count such statements apart). THE CARD IS WHAT COUNTS. Prove the row's statement (the work); the ties are given (YtpjidfcbckndfaaDoorTie.lean); close each card by the builder's one call (the guide's Derived/Test/ToyasCard.lean, 'card_holds'). Laid BY PROGRAM, IN A SANDBOX (cutbox-door.mjs). By AI agents, Wed Nov 11 2026. No macro, syntax, notation, axiom, sorry.
-/
import Derived.Test.YtpjidfcbckndfaaDoorRows
import GoSem.ClaimSeven
namespace Go.Proofs.YtpjidfcbckndfaaDoor
namespace Rows

/-- THE TIED CARD OF 'quaestorlaw03.HkdfMacs'. -/
def hkdfMacsCard : Claim7 := { stood := { row := hkdfMacsRow, standIns := [], harness := (true, "768ac5d5b147b8f87d38e47b4b623e28dd40f5301443e7cf631438aa8558b2d3"), looks := false }, kinds := [], alts := [], laidByText := true, laidKinds := [.data], laidTests := true, laidLooks := .later }
def HkdfMacsCardSaid : Prop := Claim7.holds Tryd.pinned (.plain (OpenSpec.ofChange hkdfMacsSpec)) hkdfMacsCard

/-- THE TIED CARD OF 'quaestorlaw03.HkdfExpands'. -/
def hkdfExpandsCard : Claim7 := { stood := { row := hkdfExpandsRow, standIns := [], harness := (true, "768ac5d5b147b8f87d38e47b4b623e28dd40f5301443e7cf631438aa8558b2d3"), looks := false }, kinds := [], alts := [], laidByText := true, laidKinds := [.data], laidTests := true, laidLooks := .later }
def HkdfExpandsCardSaid : Prop := Claim7.holds Tryd.pinned (.plain (OpenSpec.ofChange hkdfExpandsSpec)) hkdfExpandsCard

/-- THE TIED CARD OF 'quaestorlaw03.HkdfDerives'. -/
def hkdfDerivesCard : Claim7 := { stood := { row := hkdfDerivesRow, standIns := [], harness := (true, "768ac5d5b147b8f87d38e47b4b623e28dd40f5301443e7cf631438aa8558b2d3"), looks := false }, kinds := [], alts := [], laidByText := true, laidKinds := [.data], laidTests := true, laidLooks := .later }
def HkdfDerivesCardSaid : Prop := Claim7.holds Tryd.pinned (.plain (OpenSpec.ofChange hkdfDerivesSpec)) hkdfDerivesCard

/-- THE SECOND FORM's CARD OF 'quaestorlaw03.HkdfMacs'. -/
def hkdfMacsUptoCard : Claim7 := { stood := { row := hkdfMacsUptoRow, standIns := [], harness := (true, "768ac5d5b147b8f87d38e47b4b623e28dd40f5301443e7cf631438aa8558b2d3"), looks := false }, kinds := [], alts := [], laidByText := true, laidKinds := [.data], laidTests := true, laidLooks := .later }
def HkdfMacsUptoCardSaid : Prop := Claim7.holds Tryd.pinned (.plain (OpenSpec.upto hkdfMacsSpec)) hkdfMacsUptoCard

/-- THE SECOND FORM's CARD OF 'quaestorlaw03.HkdfExpands'. -/
def hkdfExpandsUptoCard : Claim7 := { stood := { row := hkdfExpandsUptoRow, standIns := [], harness := (true, "768ac5d5b147b8f87d38e47b4b623e28dd40f5301443e7cf631438aa8558b2d3"), looks := false }, kinds := [], alts := [], laidByText := true, laidKinds := [.data], laidTests := true, laidLooks := .later }
def HkdfExpandsUptoCardSaid : Prop := Claim7.holds Tryd.pinned (.plain (OpenSpec.upto hkdfExpandsSpec)) hkdfExpandsUptoCard

/-- THE SECOND FORM's CARD OF 'quaestorlaw03.HkdfDerives'. -/
def hkdfDerivesUptoCard : Claim7 := { stood := { row := hkdfDerivesUptoRow, standIns := [], harness := (true, "768ac5d5b147b8f87d38e47b4b623e28dd40f5301443e7cf631438aa8558b2d3"), looks := false }, kinds := [], alts := [], laidByText := true, laidKinds := [.data], laidTests := true, laidLooks := .later }
def HkdfDerivesUptoCardSaid : Prop := Claim7.holds Tryd.pinned (.plain (OpenSpec.upto hkdfDerivesSpec)) hkdfDerivesUptoCard
end Rows
end Go.Proofs.YtpjidfcbckndfaaDoor
