/-
  DERIVED. GIVEN WITH THE SEED: THE CARDS: each row of YtcaeaejbccgpoaaDoorRows.lean that lists a variable, with what it lists TIED to the program's text (the seventh form; the later family's looks); each row that meets fmt, with fmt's text TOLD by the authors' own Lean function (tested against real Go, not proved from fmt's source: count such statements apart). THE CARD IS WHAT COUNTS. Prove the row's statement (the work); the ties are given (YtcaeaejbccgpoaaDoorTie.lean); close each card by the builder's one call (the guide's Derived/Test/ToyasCard.lean, 'card_holds'). Laid BY PROGRAM, IN A SANDBOX (cutbox-door.mjs). By AI agents, Wed Nov 11 2026. No macro, syntax, notation, axiom, sorry.
-/
import Derived.Test.YtcaeaejbccgpoaaDoorRows
import GoSem.ClaimSeven
namespace Go.Proofs.YtcaeaejbccgpoaaDoor
namespace Rows

/-- THE TIED CARD OF 'sidesticklaw05.MacAll'. -/
def macAllCard : Claim7 := { stood := { row := macAllRow, standIns := [], harness := (true, "dcfd708fde5333ca6c3cdc0ed68136035d8faff84d1c2d6d8e4087e3d24f6f3d"), looks := false }, kinds := [], alts := [], laidByText := true, laidKinds := [.data], laidTests := true, laidLooks := .later }
def MacAllCardSaid : Prop := Claim7.holds Tryd.pinned (.plain (OpenSpec.ofChange macAllSpec)) macAllCard

/-- THE TIED CARD OF 'sidesticklaw05.MacKeys'. -/
def macKeysCard : Claim7 := { stood := { row := macKeysRow, standIns := [], harness := (true, "dcfd708fde5333ca6c3cdc0ed68136035d8faff84d1c2d6d8e4087e3d24f6f3d"), looks := false }, kinds := [], alts := [], laidByText := true, laidKinds := [.data], laidTests := true, laidLooks := .later }
def MacKeysCardSaid : Prop := Claim7.holds Tryd.pinned (.plain (OpenSpec.ofChange macKeysSpec)) macKeysCard

/-- THE TIED CARD OF 'sidesticklaw05.MacTags'. -/
def macTagsCard : Claim7 := { stood := { row := macTagsRow, standIns := [], harness := (true, "dcfd708fde5333ca6c3cdc0ed68136035d8faff84d1c2d6d8e4087e3d24f6f3d"), looks := false }, kinds := [], alts := [], laidByText := true, laidKinds := [.data], laidTests := true, laidLooks := .later }
def MacTagsCardSaid : Prop := Claim7.holds Tryd.pinned (.plain (OpenSpec.ofChange macTagsSpec)) macTagsCard

/-- THE TIED CARD OF 'sidesticklaw05.MacMade'. -/
def macMadeCard : Claim7 := { stood := { row := macMadeRow, standIns := [], harness := (true, "dcfd708fde5333ca6c3cdc0ed68136035d8faff84d1c2d6d8e4087e3d24f6f3d"), looks := false }, kinds := [], alts := [], laidByText := true, laidKinds := [.data], laidTests := true, laidLooks := .later }
def MacMadeCardSaid : Prop := Claim7.holds Tryd.pinned (.plain (OpenSpec.ofChange macMadeSpec)) macMadeCard

/-- THE SECOND FORM's CARD OF 'sidesticklaw05.MacAll'. -/
def macAllUptoCard : Claim7 := { stood := { row := macAllUptoRow, standIns := [], harness := (true, "dcfd708fde5333ca6c3cdc0ed68136035d8faff84d1c2d6d8e4087e3d24f6f3d"), looks := false }, kinds := [], alts := [], laidByText := true, laidKinds := [.data], laidTests := true, laidLooks := .later }
def MacAllUptoCardSaid : Prop := Claim7.holds Tryd.pinned (.plain (OpenSpec.upto macAllSpec)) macAllUptoCard

/-- THE SECOND FORM's CARD OF 'sidesticklaw05.MacKeys'. -/
def macKeysUptoCard : Claim7 := { stood := { row := macKeysUptoRow, standIns := [], harness := (true, "dcfd708fde5333ca6c3cdc0ed68136035d8faff84d1c2d6d8e4087e3d24f6f3d"), looks := false }, kinds := [], alts := [], laidByText := true, laidKinds := [.data], laidTests := true, laidLooks := .later }
def MacKeysUptoCardSaid : Prop := Claim7.holds Tryd.pinned (.plain (OpenSpec.upto macKeysSpec)) macKeysUptoCard

/-- THE SECOND FORM's CARD OF 'sidesticklaw05.MacTags'. -/
def macTagsUptoCard : Claim7 := { stood := { row := macTagsUptoRow, standIns := [], harness := (true, "dcfd708fde5333ca6c3cdc0ed68136035d8faff84d1c2d6d8e4087e3d24f6f3d"), looks := false }, kinds := [], alts := [], laidByText := true, laidKinds := [.data], laidTests := true, laidLooks := .later }
def MacTagsUptoCardSaid : Prop := Claim7.holds Tryd.pinned (.plain (OpenSpec.upto macTagsSpec)) macTagsUptoCard

/-- THE SECOND FORM's CARD OF 'sidesticklaw05.MacMade'. -/
def macMadeUptoCard : Claim7 := { stood := { row := macMadeUptoRow, standIns := [], harness := (true, "dcfd708fde5333ca6c3cdc0ed68136035d8faff84d1c2d6d8e4087e3d24f6f3d"), looks := false }, kinds := [], alts := [], laidByText := true, laidKinds := [.data], laidTests := true, laidLooks := .later }
def MacMadeUptoCardSaid : Prop := Claim7.holds Tryd.pinned (.plain (OpenSpec.upto macMadeSpec)) macMadeUptoCard
end Rows
end Go.Proofs.YtcaeaejbccgpoaaDoor
