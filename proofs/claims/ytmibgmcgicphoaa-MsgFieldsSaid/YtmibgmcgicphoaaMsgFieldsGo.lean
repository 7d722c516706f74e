/-
  THE WALK OF MsgFields, at the code.
-/
import Derived.Test.YtmibgmcgicphoaaMsgFieldsWalk
import Derived.Test.YtmibgmcgicphoaaMsgProof
namespace Go.Proofs.Ytmibgmcgicphoaa
open Go.RowKit Go.Proofs.Ytmibgmcgicphoaa.octets Go.Proofs.Ytmibgmcgicphoaa.given Go.Proofs.Ytmibgmcgicphoaa.msg
theorem walks.msgFields (v : Value) (a1 : Int) (w : World) {base : Nat} (h0 : Value.okWide Try.prog w .any base 24 v) (w1 : (Lit.int .u8 a1).wf = true) :
    Calls Try.prog 6 #[v, .int .u8 a1] w fun e w' => e = .returned (.bool true) ∧ Below w.heap.size w w' :=
  msgFields_of codeOk v a1 w h0 w1
end Go.Proofs.Ytmibgmcgicphoaa
