/-
  ARRAYS OF BYTES HELD AGAINST THEMSELVES; what the statements of mac share.
-/
import Derived.Test.YtmgfgbdfmdblhaaDoorMacShown
import Derived.Test.YtmgfgbdfmdblhaaDoorSeen
namespace Go.Proofs.YtmgfgbdfmdblhaaDoor.mac
open Go.RowKit Go.Proofs.YtmgfgbdfmdblhaaDoor.octets Go.Proofs.YtmgfgbdfmdblhaaDoor.sha Go.Proofs.YtmgfgbdfmdblhaaDoor.given
set_option linter.unusedVariables false
theorem same32 (l : List UInt8) (hl : l.length = 32) (W : World) : (binOp .eql 22 (.agg (vals l).toArray) (.agg (vals l).toArray)).run Tryd.prog W = .ok (.bool true) W := by
  have e : vals l = (l.map fun c => (c.toNat : Int)).map (Value.int .u8) := by simp [vals]
  rw [e]
  exact run_eql_self W _ _ 32 .u8 Tryd.underlying22 Tryd.underlying5 size_u8 _ (by simp [hl])
theorem same8 (l : List UInt8) (hl : l.length = 8) (W : World) : (binOp .eql 29 (.agg (vals l).toArray) (.agg (vals l).toArray)).run Tryd.prog W = .ok (.bool true) W := by
  have e : vals l = (l.map fun c => (c.toNat : Int)).map (Value.int .u8) := by simp [vals]
  rw [e]
  exact run_eql_self W _ _ 8 .u8 Tryd.underlying29 Tryd.underlying5 size_u8 _ (by simp [hl])
/-- the same, with each side's answer told -/
theorem of_at (A B : Option Addr) (n c m d : Nat) (k l M : List UInt8) (w : World) (hk : k.length = n) (hl : l.length = m) (hn : n ≤ 150) (hm : m ≤ 150) (sk : Seen w A k) (sl : Seen w B l) (hM : macB k l = M) (hK : Table w) :
    Calls Tryd.prog 12 #[.slice A n c, .slice B m d] w fun e w' => e = .returned (.agg (vals M).toArray) ∧ Below w.heap.size w w' := by
  subst hM; exact of_ok A B n c m d k l w hk hl (by omega) (by omega) sk sl hK
theorem tag_at (A B : Option Addr) (n c m d : Nat) (k l T : List UInt8) (w : World) (hk : k.length = n) (hl : l.length = m) (hn : n ≤ 150) (hm : m ≤ 150) (sk : Seen w A k) (sl : Seen w B l) (hT : tagB k l = T) (hK : Table w) :
    Calls Tryd.prog 8 #[.slice A n c, .slice B m d] w fun e w' => e = .returned (.agg (vals T).toArray) ∧ Below w.heap.size w w' := by
  subst hT; exact tag_ok A B n c m d k l w hk hl (by omega) (by omega) sk sl hK
end Go.Proofs.YtmgfgbdfmdblhaaDoor.mac
