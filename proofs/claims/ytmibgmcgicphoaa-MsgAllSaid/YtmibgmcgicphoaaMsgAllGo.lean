/-
  THE WALK OF MsgAll, at the code.
-/
import Derived.Test.YtmibgmcgicphoaaMsgAllWalk
import Derived.Test.YtmibgmcgicphoaaMsgProof
namespace Go.Proofs.Ytmibgmcgicphoaa
open Go.RowKit Go.Proofs.Ytmibgmcgicphoaa.octets Go.Proofs.Ytmibgmcgicphoaa.given Go.Proofs.Ytmibgmcgicphoaa.msg
theorem walks.msgAll (v v1 : Value) (a : Option Addr) (len cap : Nat) (z : List Int) (w : World) {base : Nat} (h0 : Value.okWide Try.prog w .any base 24 v) (h1 : Value.okWide Try.prog w .any base 28 v1) (h2 : Nums .u8 w a len cap z) :
    Calls Try.prog 3 #[v, v1, .slice a len cap] w fun e w' => e = .returned (.bool true) ∧ Below w.heap.size w w' :=
  msgAll_of codeOk v v1 a len cap z w h0 h1 h2
end Go.Proofs.Ytmibgmcgicphoaa
