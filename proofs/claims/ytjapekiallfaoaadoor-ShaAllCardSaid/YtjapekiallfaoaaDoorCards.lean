/-
  DERIVED. GIVEN WITH THE SEED: THE CARDS: each row of YtjapekiallfaoaaDoorRows.lean that lists a variable, with what it lists TIED to the program's text (the seventh form; the later family's looks); each row that meets fmt, with fmt's text TOLD by the authors' own Lean function (tested against real Go, not proved from fmt's source: count such statements apart). THE CARD IS WHAT COUNTS. Prove the row's statement (the work); the ties are given (YtjapekiallfaoaaDoorTie.lean); close each card by the builder's one call (the guide's Derived/Test/ToyasCard.lean, 'card_holds'). Laid BY PROGRAM, IN A SANDBOX (cutbox-door.mjs). By AI agents, Wed Nov 11 2026. No macro, syntax, notation, axiom, sorry.
-/
import Derived.Test.YtjapekiallfaoaaDoorRows
import GoSem.ClaimSeven
namespace Go.Proofs.YtjapekiallfaoaaDoor
namespace Rows

/-- THE TIED CARD OF 'sidesticklaw04.ShaAll'. -/
def shaAllCard : Claim7 := { stood := { row := shaAllRow, standIns := [], harness := (true, "af0f9cafbc7819b9e6e14aa6f56aa4d57219b3b289d7c5b81fdc647f9a4385b3"), looks := false }, kinds := [], alts := [], laidByText := true, laidKinds := [.data], laidTests := true, laidLooks := .later }
def ShaAllCardSaid : Prop := Claim7.holds Tryd.pinned (.plain (OpenSpec.ofChange shaAllSpec)) shaAllCard

/-- THE TIED CARD OF 'sidesticklaw04.ShaPads'. -/
def shaPadsCard : Claim7 := { stood := { row := shaPadsRow, standIns := [], harness := (true, "af0f9cafbc7819b9e6e14aa6f56aa4d57219b3b289d7c5b81fdc647f9a4385b3"), looks := false }, kinds := [], alts := [], laidByText := true, laidKinds := [.data], laidTests := true, laidLooks := .later }
def ShaPadsCardSaid : Prop := Claim7.holds Tryd.pinned (.plain (OpenSpec.ofChange shaPadsSpec)) shaPadsCard

/-- THE TIED CARD OF 'sidesticklaw04.ShaBlocks'. -/
def shaBlocksCard : Claim7 := { stood := { row := shaBlocksRow, standIns := [], harness := (true, "af0f9cafbc7819b9e6e14aa6f56aa4d57219b3b289d7c5b81fdc647f9a4385b3"), looks := false }, kinds := [], alts := [], laidByText := true, laidKinds := [.data], laidTests := true, laidLooks := .later }
def ShaBlocksCardSaid : Prop := Claim7.holds Tryd.pinned (.plain (OpenSpec.ofChange shaBlocksSpec)) shaBlocksCard

/-- THE SECOND FORM's CARD OF 'sidesticklaw04.ShaAll'. -/
def shaAllUptoCard : Claim7 := { stood := { row := shaAllUptoRow, standIns := [], harness := (true, "af0f9cafbc7819b9e6e14aa6f56aa4d57219b3b289d7c5b81fdc647f9a4385b3"), looks := false }, kinds := [], alts := [], laidByText := true, laidKinds := [.data], laidTests := true, laidLooks := .later }
def ShaAllUptoCardSaid : Prop := Claim7.holds Tryd.pinned (.plain (OpenSpec.upto shaAllSpec)) shaAllUptoCard

/-- THE SECOND FORM's CARD OF 'sidesticklaw04.ShaPads'. -/
def shaPadsUptoCard : Claim7 := { stood := { row := shaPadsUptoRow, standIns := [], harness := (true, "af0f9cafbc7819b9e6e14aa6f56aa4d57219b3b289d7c5b81fdc647f9a4385b3"), looks := false }, kinds := [], alts := [], laidByText := true, laidKinds := [.data], laidTests := true, laidLooks := .later }
def ShaPadsUptoCardSaid : Prop := Claim7.holds Tryd.pinned (.plain (OpenSpec.upto shaPadsSpec)) shaPadsUptoCard

/-- THE SECOND FORM's CARD OF 'sidesticklaw04.ShaBlocks'. -/
def shaBlocksUptoCard : Claim7 := { stood := { row := shaBlocksUptoRow, standIns := [], harness := (true, "af0f9cafbc7819b9e6e14aa6f56aa4d57219b3b289d7c5b81fdc647f9a4385b3"), looks := false }, kinds := [], alts := [], laidByText := true, laidKinds := [.data], laidTests := true, laidLooks := .later }
def ShaBlocksUptoCardSaid : Prop := Claim7.holds Tryd.pinned (.plain (OpenSpec.upto shaBlocksSpec)) shaBlocksUptoCard
end Rows
end Go.Proofs.YtjapekiallfaoaaDoor
