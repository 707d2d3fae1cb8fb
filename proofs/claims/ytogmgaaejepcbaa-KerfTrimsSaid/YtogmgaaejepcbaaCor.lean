/- A number stands for the value that it is. No condition. -/
import Derived.Test.YtogmgaaejepcbaaKit
namespace Go.Proofs.Ytogmgaaejepcbaa
instance intVal : Coe Int Value := ⟨fun x => .int .i64 x⟩
end Go.Proofs.Ytogmgaaejepcbaa
