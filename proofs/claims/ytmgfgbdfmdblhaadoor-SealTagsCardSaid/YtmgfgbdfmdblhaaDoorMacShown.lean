/-
  THE HEAD OF THE STATEMENTS OF mac.
-/
import Derived.Test.YtmgfgbdfmdblhaaDoorMacRTag
import Derived.BigQuiet
import Derived.Deep.QuietTactic
namespace Go.Proofs.YtmgfgbdfmdblhaaDoor.mac
open Go.RowKit Go.Proofs.YtmgfgbdfmdblhaaDoor.octets Go.Proofs.YtmgfgbdfmdblhaaDoor.sha Go.Proofs.YtmgfgbdfmdblhaaDoor.given
set_option linter.unusedVariables false
set_option linter.unusedSimpArgs false

def jefe : List UInt8 := [74, 101, 102, 101]
def want : List UInt8 := [119, 104, 97, 116, 32, 100, 111, 32, 121, 97, 32, 119, 97, 110, 116, 32, 102, 111, 114, 32, 110, 111, 116, 104, 105, 110, 103, 63]
set_option maxRecDepth 100000 in
theorem mac_jefe : (macB jefe want).take 4 = [91, 220, 193, 70] := by decide +kernel
def jefeC : Array Value := #[.int .u8 74, .int .u8 101, .int .u8 102, .int .u8 101]
def wantC : Array Value := #[.int .u8 119, .int .u8 104, .int .u8 97, .int .u8 116, .int .u8 32, .int .u8 100, .int .u8 111, .int .u8 32, .int .u8 121, .int .u8 97, .int .u8 32, .int .u8 119, .int .u8 97, .int .u8 110, .int .u8 116, .int .u8 32, .int .u8 102, .int .u8 111, .int .u8 114, .int .u8 32, .int .u8 110, .int .u8 111, .int .u8 116, .int .u8 104, .int .u8 105, .int .u8 110, .int .u8 103, .int .u8 63]
end Go.Proofs.YtmgfgbdfmdblhaaDoor.mac
