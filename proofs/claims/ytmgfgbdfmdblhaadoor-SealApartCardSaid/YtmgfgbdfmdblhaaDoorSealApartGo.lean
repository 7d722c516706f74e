/-
  THE WALK OF SealApart, at the code.
-/
import Derived.Test.YtmgfgbdfmdblhaaDoorSealApartWalk
import Derived.Test.YtmgfgbdfmdblhaaDoorSealClose
import Derived.Test.YtmgfgbdfmdblhaaDoorRows
import Derived.LaidMore
namespace Go.Proofs.YtmgfgbdfmdblhaaDoor
open Go.RowKit Go.Proofs.YtmgfgbdfmdblhaaDoor.octets Go.Proofs.YtmgfgbdfmdblhaaDoor.given Go.Proofs.YtmgfgbdfmdblhaaDoor.sha
theorem walks.sealApart (a : Option Addr) (len cap : Nat) (z : List Int) (v1 v2 : Value) (w : World) {base base' : Nat} (w0 : Nums .u8 w a len cap z) (h1 : Value.okWide Tryd.prog w .any base 36 v1) (h2 : Value.okWide Tryd.prog w .any base' 29 v2) (hL : laidMet Tryd.prog [("sidestick/sha.roots", Rows.laid_sidestick_sha_roots)] w) :
    Calls Tryd.prog 4 #[.slice a len cap, v1, v2] w fun e w' => e = .returned (.bool true) ∧ Below w.heap.size w w' :=
  walks.apart_given sealed.codeOk a len cap z v1 v2 w w0 h1 h2 (table_of hL)
end Go.Proofs.YtmgfgbdfmdblhaaDoor
