/-
  THE WALK OF TickEnds, at the code.
-/
import Derived.Test.YtjpfdpjkffkleaaTickEndsWalk
import Derived.Test.YtjpfdpjkffkleaaTickProof
namespace Go.Proofs.Ytjpfdpjkffkleaa
open Go.RowKit Go.Proofs.Ytjpfdpjkffkleaa.octets Go.Proofs.Ytjpfdpjkffkleaa.given Go.Proofs.Ytjpfdpjkffkleaa.tick
theorem walks.tickEnds (n : Int) (w : World) (w0 : (Lit.int .u16 n).wf = true) :
    Calls Try.prog 3 #[.int .u16 n] w fun e w' => e = .returned (.bool true) ∧ Below w.heap.size w w' :=
  walks.ends_given codeOk n w w0
end Go.Proofs.Ytjpfdpjkffkleaa
