/-
  THE WALK OF TickKeeps, at the code.
-/
import Derived.Test.YtjpfdpjkffkleaaTickKeepsWalk
import Derived.Test.YtjpfdpjkffkleaaTickProof
namespace Go.Proofs.Ytjpfdpjkffkleaa
open Go.RowKit Go.Proofs.Ytjpfdpjkffkleaa.octets Go.Proofs.Ytjpfdpjkffkleaa.given Go.Proofs.Ytjpfdpjkffkleaa.tick
theorem walks.tickKeeps (v : Value) (w : World) {base : Nat} (h0 : Value.okWide Try.prog w .any base 25 v) :
    Calls Try.prog 4 #[v] w fun e w' => e = .returned (.bool true) ∧ Below w.heap.size w w' :=
  walks.keeps_given codeOk v w h0
end Go.Proofs.Ytjpfdpjkffkleaa
