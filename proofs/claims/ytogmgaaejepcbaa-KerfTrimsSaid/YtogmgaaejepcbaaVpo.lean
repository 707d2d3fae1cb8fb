/- Volumes of boxes. -/
import Derived.Test.YtogmgaaejepcbaaVol
namespace Go.Proofs.Ytogmgaaejepcbaa
open Go.RowKit

theorem vol_nn (x y z p q r : Int) (h1 : x ≤ p) (h2 : y ≤ q) (h3 : z ≤ r) : 0 ≤ volI x y z p q r := by unfold volI; exact Int.mul_nonneg (Int.mul_nonneg (by omega) (by omega)) (by omega)
theorem vol_pos (x y z p q r : Int) (h1 : x < p) (h2 : y < q) (h3 : z < r) : 0 < volI x y z p q r := by unfold volI; exact Int.mul_pos (Int.mul_pos (by omega) (by omega)) (by omega)
theorem vol_bd (x y z p q r : Int) (h1 : 0 ≤ p - x) (h2 : p - x ≤ 2000000) (h3 : 0 ≤ q - y) (h4 : q - y ≤ 2000000) (h5 : 0 ≤ r - z) (h6 : r - z ≤ 2000000) : volI x y z p q r ≤ 8000000000000000000 := by
  obtain ⟨m1, m2⟩ := mul_bd h1 h2 h3 h4
  obtain ⟨m3, m4⟩ := mul_bd m1 m2 h5 h6
  unfold volI
  omega
end Go.Proofs.Ytogmgaaejepcbaa
