/-
  THE WALK OF SealTags, at the code.
-/
import Derived.Test.YtmgfgbdfmdblhaaDoorSealTagsWalk
import Derived.Test.YtmgfgbdfmdblhaaDoorSealClose
import Derived.Test.YtmgfgbdfmdblhaaDoorRows
import Derived.LaidMore
namespace Go.Proofs.YtmgfgbdfmdblhaaDoor
open Go.RowKit Go.Proofs.YtmgfgbdfmdblhaaDoor.octets Go.Proofs.YtmgfgbdfmdblhaaDoor.given Go.Proofs.YtmgfgbdfmdblhaaDoor.sha
theorem walks.sealTags (v : Value) (s : Int) (v2 : Value) (w : World) {base base' : Nat} (h0 : Value.okWide Tryd.prog w .any base 22 v) (_h1 : (Lit.int .i64 s).wf = true) (h2 : Value.okWide Tryd.prog w .any base' 25 v2) (c2 : CameIn Tryd.prog w 25 v2) (hL : laidMet Tryd.prog [("sidestick/sha.roots", Rows.laid_sidestick_sha_roots)] w) :
    Calls Tryd.prog 3 #[v, .int .i64 s, v2] w fun e w' => e = .returned (.bool true) ∧ Below w.heap.size w w' :=
  sealTags.tags_given sealed.codeOk v s v2 w h0 h2 c2 (table_of hL)
end Go.Proofs.YtmgfgbdfmdblhaaDoor
