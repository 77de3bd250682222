/- What is proved here: the program's own functions keep what the walks take of them. Conditions: none. -/
import Derived.Test.YtiibbeigkopkeaaCf
import Derived.Test.YtiibbeigkopkeaaCs
namespace Go.Proofs.Ytiibbeigkopkeaa
theorem rtaC : RtaC := ⟨rowsP_any, nextP_any, respP_any, accP_any⟩
end Go.Proofs.Ytiibbeigkopkeaa
