/- The walk of kerf's count of slices. -/
import Derived.Test.YtogmgaaejepcbaaCk
import Derived.Test.YtogmgaaejepcbaaVol
import Derived.Test.YtogmgaaejepcbaaReg
import Derived.Test.YtogmgaaejepcbaaSm2
namespace Go.Proofs.Ytogmgaaejepcbaa
open Go.RowKit

def csN (n : Int) : Int := if n = 0 then 0 else if 1000 < n then 0 else n
def csE (n : Int) : Int := if n = 0 then 9 else if 1000 < n then 7 else 0
theorem most_bd {l t k : Int} (hl : 1 ≤ l) (hl2 : l ≤ 2000000) (ht : 1 ≤ t) (hk : 0 ≤ k) (hk2 : k ≤ 1000) : 0 ≤ (l + k) / (t + k) ∧ (l + k) / (t + k) ≤ 2001000 :=
  ⟨Int.ediv_nonneg (by omega) (by omega), Int.le_trans (Int.ediv_le_self _ (by omega)) (by omega)⟩
end Go.Proofs.Ytogmgaaejepcbaa
