/-
  THE WALK OF MsgCuts, at the code.
-/
import Derived.Test.YtmibgmcgicphoaaMsgCutsWalk
import Derived.Test.YtmibgmcgicphoaaMsgProof
namespace Go.Proofs.Ytmibgmcgicphoaa
open Go.RowKit Go.Proofs.Ytmibgmcgicphoaa.octets Go.Proofs.Ytmibgmcgicphoaa.given Go.Proofs.Ytmibgmcgicphoaa.msg
theorem walks.msgCuts (v v1 : Value) (a2 : Int) (w : World) {base : Nat} (h0 : Value.okWide Try.prog w .any base 24 v) (h1 : Value.okWide Try.prog w .any base 28 v1) (w2 : (Lit.int .u8 a2).wf = true) :
    Calls Try.prog 8 #[v, v1, .int .u8 a2] w fun e w' => e = .returned (.bool true) ∧ Below w.heap.size w w' :=
  msgCuts_of codeOk v v1 a2 w h0 h1 w2
end Go.Proofs.Ytmibgmcgicphoaa
