/-
  THE WALK OF MsgReplies, at the code.
-/
import Derived.Test.YtmibgmcgicphoaaMsgRepliesWalk
import Derived.Test.YtmibgmcgicphoaaMsgProof
namespace Go.Proofs.Ytmibgmcgicphoaa
open Go.RowKit Go.Proofs.Ytmibgmcgicphoaa.octets Go.Proofs.Ytmibgmcgicphoaa.given Go.Proofs.Ytmibgmcgicphoaa.msg
theorem walks.msgReplies (v v1 v2 : Value) (w : World) {base : Nat} (h0 : Value.okWide Try.prog w .any base 28 v) (h1 : Value.okWide Try.prog w .any base 28 v1) (h2 : Value.okWide Try.prog w .any base 24 v2) :
    Calls Try.prog 5 #[v, v1, v2] w fun e w' => e = .returned (.bool true) ∧ Below w.heap.size w w' :=
  msgReplies_of codeOk v v1 v2 w h0 h1 h2
end Go.Proofs.Ytmibgmcgicphoaa
