/-
  THE WALK OF MsgSizes, at the code.
-/
import Derived.Test.YtmibgmcgicphoaaMsgSizesWalk
import Derived.Test.YtmibgmcgicphoaaMsgProof
namespace Go.Proofs.Ytmibgmcgicphoaa
open Go.RowKit Go.Proofs.Ytmibgmcgicphoaa.octets Go.Proofs.Ytmibgmcgicphoaa.given Go.Proofs.Ytmibgmcgicphoaa.msg
theorem walks.msgSizes (v v1 : Value) (w : World) {base : Nat} (h0 : Value.okWide Try.prog w .any base 24 v) (h1 : Value.okWide Try.prog w .any base 24 v1) :
    Calls Try.prog 7 #[v, v1] w fun e w' => e = .returned (.bool true) ∧ Below w.heap.size w w' :=
  msgSizes_of codeOk v v1 w h0 h1
end Go.Proofs.Ytmibgmcgicphoaa
