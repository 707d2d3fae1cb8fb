/- What Trim takes away,reckoned. -/
import Derived.Test.YtogmgaaejepcbaaCor
import Derived.Test.YtogmgaaejepcbaaTrn
import Derived.Test.YtogmgaaejepcbaaLos
namespace Go.Proofs.Ytogmgaaejepcbaa
open Go.RowKit

theorem kvI_ex (x y z p q r : Int) (hx1 : -1000000 ≤ x) (hy1 : -1000000 ≤ y) (hz1 : -1000000 ≤ z) (hp2 : p ≤ 1000000) (hq2 : q ≤ 1000000) (hr2 : r ≤ 1000000) (hx : x ≤ p) (hy : y ≤ q) (hz : z ≤ r) : kvI x y z p q r = volI x y z p q r := by
 unfold kvI
 by_cases h : x < p ∧ y < q ∧ z < r
 ·obtain ⟨h1,h2,h3⟩ := h
  rw [if_pos (eB_mk (by omega) (by omega) (by omega) (by omega) (by omega) (by omega) (by omega) (by omega) (by omega))]
 ·have h0 : volI x y z p q r = 0 := by
   unfold volI
   have : p - x = 0 ∨ q - y = 0 ∨ r - z = 0 := by omega
   rcases this with e | e | e <;> simp [e]
  rw [h0]; split <;> rfl
theorem trN3_le (x y z p q r a b c d s u k : Int) : trN3 x y z p q r a b c d s u k ≤ 6 := by
 simp only [trN3,trN2,trN1,trN0]
 have := trN_le (a - x) k
 have := trN_le (p - d) k
 have := trN_le (b - y) k
 have := trN_le (q - s) k
 have := trN_le (c - z) k
 have := trN_le (r - u) k
 omega
theorem trL3_le (x y z p q r a b c d s u k : Int) (hx : x ≤ a ∧ a < d ∧ d ≤ p) (hy : y ≤ b ∧ b < s ∧ s ≤ q) (hz : z ≤ c ∧ c < u ∧ u ≤ r) (hk : 0 ≤ k) : trL3 x y z p q r a b c d s u k + volI a b c d s u ≤ volI x y z p q r := by
 have h1 := trL1_bd x y z p q r a d k (by omega) (by omega) (by omega) (by omega) hk
 have h2 := trL2_bd y z q r a b d s k (by omega) (by omega) (by omega) (by omega) hk
 have h3 := trL3_bd z r a b c d s u k (by omega) (by omega) (by omega) (by omega) hk
 simp only [trL3,trL2,trL1,trL0]
 omega
theorem trN_z {d k : Int} (h : trN d k = 0) : ¬ k < d := by unfold trN at h; split at h <;> simp_all
theorem trF_n {lo plo k : Int} (h : ¬ k < plo - lo) : trF lo plo k = lo := by unfold trF; rw [if_neg h]
theorem trT_n {hi phi k : Int} (h : ¬ k < hi - phi) : trT hi phi k = hi := by unfold trT; rw [if_neg h]
theorem trL3_ex (x y z p q r a b c d s u k : Int) (hx1 : -1000000 ≤ x) (hx2 : x ≤ 1000000) (hy1 : -1000000 ≤ y) (hy2 : y ≤ 1000000) (hz1 : -1000000 ≤ z) (hz2 : z ≤ 1000000) (hp1 : -1000000 ≤ p) (hp2 : p ≤ 1000000) (hq1 : -1000000 ≤ q) (hq2 : q ≤ 1000000) (hr1 : -1000000 ≤ r) (hr2 : r ≤ 1000000) (hx : x ≤ a ∧ a < d ∧ d ≤ p) (hy : y ≤ b ∧ b < s ∧ s ≤ q) (hz : z ≤ c ∧ c < u ∧ u ≤ r) (h0 : trN3 x y z p q r a b c d s u k = 0) : volI a b c d s u + trL3 x y z p q r a b c d s u k = volI x y z p q r := by
 simp only [trN3,trN2,trN1,trN0] at h0
 have n1 := trN_z (d := a - x) (k := k) (by omega)
 have n2 := trN_z (d := p - d) (k := k) (by omega)
 have n3 := trN_z (d := b - y) (k := k) (by omega)
 have n4 := trN_z (d := q - s) (k := k) (by omega)
 have n5 := trN_z (d := c - z) (k := k) (by omega)
 have n6 := trN_z (d := r - u) (k := k) (by omega)
 simp only [trL3,trL2,trL1,trL0,trF_n n1,trT_n n2,trF_n n3,trT_n n4,trF_n n5,trT_n n6]
 rw [kvI_ex x y z a q r,kvI_ex d y z p q r,kvI_ex a y z d b r,kvI_ex a s z d q r,kvI_ex a b z d s c,kvI_ex a b u d s r] <;> try omega
 unfold volI
 grind
theorem trN3_self (x y z p q r k : Int) (hk : 0 ≤ k) : trN3 x y z p q r x y z p q r k = 0 := by
 simp only [trN3,trN2,trN1,trN0]
 rw [trN_n (by omega),trN_n (by omega),trN_n (by omega),trN_n (by omega),trN_n (by omega),trN_n (by omega)]
theorem trL3_self (x y z p q r k : Int) (hx1 : -1000000 ≤ x) (hx2 : x ≤ 1000000) (hy1 : -1000000 ≤ y) (hy2 : y ≤ 1000000) (hz1 : -1000000 ≤ z) (hz2 : z ≤ 1000000) (hp1 : -1000000 ≤ p) (hp2 : p ≤ 1000000) (hq1 : -1000000 ≤ q) (hq2 : q ≤ 1000000) (hr1 : -1000000 ≤ r) (hr2 : r ≤ 1000000) (hx : x < p) (hy : y < q) (hz : z < r) (hk : 0 ≤ k) : trL3 x y z p q r x y z p q r k = 0 := by
 have := trL3_ex x y z p q r x y z p q r k hx1 hx2 hy1 hy2 hz1 hz2 hp1 hp2 hq1 hq2 hr1 hr2 (by omega) (by omega) (by omega) (trN3_self x y z p q r k hk)
 omega
theorem ins_self (x y z p q r : Int) : insB x y z p q r x y z p q r = true := insB_iff.2 (by omega)
end Go.Proofs.Ytogmgaaejepcbaa
