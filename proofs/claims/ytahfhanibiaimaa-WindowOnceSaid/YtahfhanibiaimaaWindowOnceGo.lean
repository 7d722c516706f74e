/-
  THE WALK OF WindowOnce, at the code.
-/
import Derived.Test.YtahfhanibiaimaaWindowOnceWalk
import Derived.Test.YtahfhanibiaimaaWinProof
namespace Go.Proofs.Ytahfhanibiaimaa
open Go.RowKit Go.Proofs.Ytahfhanibiaimaa.octets Go.Proofs.Ytahfhanibiaimaa.given Go.Proofs.Ytahfhanibiaimaa.window
theorem walks.windowOnce (a : Option Addr) (len cap : Nat) (z : List Int) (f : Int) (w : World) (w0 : Nums .u16 w a len cap z) (w1 : (Lit.int .u32 f).wf = true) :
    Calls Try.prog 3 #[.slice a len cap, .int .u32 f] w fun e w' => e = .returned (.bool true) ∧ Below w.heap.size w w' :=
  walks.once_given codeOk a len cap z f w w0 w1
end Go.Proofs.Ytahfhanibiaimaa
