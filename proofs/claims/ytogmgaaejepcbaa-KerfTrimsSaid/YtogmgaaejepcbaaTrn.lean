/- Numbers of Trim: cuts and what is lost. -/
import Derived.Test.YtogmgaaejepcbaaLos2
import Derived.Test.YtogmgaaejepcbaaApn
namespace Go.Proofs.Ytogmgaaejepcbaa
open Go.RowKit

def trF (lo plo k : Int) : Int := if k < plo - lo then plo - k else lo
def trT (hi phi k : Int) : Int := if k < hi - phi then phi + k else hi
def trC1 (ax lo plo k : Int) : List Value := if k < plo - lo then [.int .i64 ax, .int .i64 (plo - k), .int .i64 k] else []
def trC2 (ax hi phi k : Int) : List Value := if k < hi - phi then [.int .i64 ax, .int .i64 phi, .int .i64 k] else []
def trN (d k : Int) : Nat := if k < d then 1 else 0
def trL0 (_x _y _z _p _q _r _a _b _c _d _s _u _k : Int) : Int := 0
def trN0 (_x _y _z _p _q _r _a _b _c _d _s _u _k : Int) : Nat := 0
def trR0 (_x _y _z _p _q _r _a _b _c _d _s _u _k : Int) : List Value := []
def trL1 (x y z p q r a b c d s u k : Int) : Int := trL0 x y z p q r a b c d s u k + kvI (trF x a k) y z a q r + kvI d y z (trT p d k) q r
def trN1 (x y z p q r a b c d s u k : Int) : Nat := trN0 x y z p q r a b c d s u k + trN (a - x) k + trN (p - d) k
def trR1 (x y z p q r a b c d s u k : Int) : List Value := trR0 x y z p q r a b c d s u k ++ trC1 0 x a k ++ trC2 0 p d k
def trL2 (x y z p q r a b c d s u k : Int) : Int := trL1 x y z p q r a b c d s u k + kvI a (trF y b k) z d b r + kvI a s z d (trT q s k) r
def trN2 (x y z p q r a b c d s u k : Int) : Nat := trN1 x y z p q r a b c d s u k + trN (b - y) k + trN (q - s) k
def trR2 (x y z p q r a b c d s u k : Int) : List Value := trR1 x y z p q r a b c d s u k ++ trC1 1 y b k ++ trC2 1 q s k
def trL3 (x y z p q r a b c d s u k : Int) : Int := trL2 x y z p q r a b c d s u k + kvI a b (trF z c k) d s c + kvI a b u d s (trT r u k)
def trN3 (x y z p q r a b c d s u k : Int) : Nat := trN2 x y z p q r a b c d s u k + trN (c - z) k + trN (r - u) k
def trR3 (x y z p q r a b c d s u k : Int) : List Value := trR2 x y z p q r a b c d s u k ++ trC1 2 z c k ++ trC2 2 r u k
theorem kvI_le0 {x y z p q r : Int} (hy : 0 ≤ q - y) (hz : 0 ≤ r - z) (hx : 0 ≤ p - x) : kvI x y z p q r ≤ (p - x) * ((q - y) * (r - z)) := by
  unfold kvI
  by_cases h : eB x y z p q r = 0
  · rw [if_pos h]; unfold volI; rw [Int.mul_assoc]; exact Int.le_refl _
  · rw [if_neg h]; exact Int.mul_nonneg hx (Int.mul_nonneg hy hz)
theorem trF_bd {lo plo k : Int} (h : lo ≤ plo) (hk : 0 ≤ k) : lo ≤ trF lo plo k ∧ trF lo plo k ≤ plo := by unfold trF; split <;> omega
theorem trT_bd {hi phi k : Int} (h : phi ≤ hi) (hk : 0 ≤ k) : phi ≤ trT hi phi k ∧ trT hi phi k ≤ hi := by unfold trT; split <;> omega
theorem mul3_le {m n k A : Int} (hA : 0 ≤ A) (h : m + n ≤ k) : m * A + n * A ≤ k * A := by rw [← Int.add_mul]; exact Int.mul_le_mul_of_nonneg_right h hA
theorem trL1_bd (x y z p q r a d k : Int) (h1 : x ≤ a) (h3 : d ≤ p) (h4 : 0 ≤ (q - y)) (h5 : 0 ≤ (r - z)) (hk : 0 ≤ k) :
    kvI (trF x a k) y z a q r + kvI d y z (trT p d k) q r + volI a y z d q r ≤ volI x y z p q r := by
  have f1 := trF_bd (k := k) h1 hk
  have f2 := trT_bd (k := k) h3 hk
  have hA : 0 ≤ ((q - y) * (r - z)) := Int.mul_nonneg h4 h5
  have e1 : kvI (trF x a k) y z a q r ≤ (a - trF x a k) * ((q - y) * (r - z)) := by
    unfold kvI
    split
    · unfold volI; exact Int.le_of_eq (by grind)
    · exact Int.mul_nonneg (by omega) hA
  have e2 : kvI d y z (trT p d k) q r ≤ (trT p d k - d) * ((q - y) * (r - z)) := by
    unfold kvI
    split
    · unfold volI; exact Int.le_of_eq (by grind)
    · exact Int.mul_nonneg (by omega) hA
  have e3 : volI a y z d q r = (d - a) * ((q - y) * (r - z)) := by unfold volI; grind
  have e4 : volI x y z p q r = (p - x) * ((q - y) * (r - z)) := by unfold volI; grind
  rw [e3, e4]
  have e5 := Int.mul_le_mul_of_nonneg_right (a := (a - trF x a k) + (trT p d k - d) + (d - a)) (b := p - x) (by omega) hA
  rw [Int.add_mul, Int.add_mul] at e5
  omega
theorem trL2_bd (y z q r a b d s k : Int) (h1 : y ≤ b) (h3 : s ≤ q) (h4 : 0 ≤ (d - a)) (h5 : 0 ≤ (r - z)) (hk : 0 ≤ k) :
    kvI a (trF y b k) z d b r + kvI a s z d (trT q s k) r + volI a b z d s r ≤ volI a y z d q r := by
  have f1 := trF_bd (k := k) h1 hk
  have f2 := trT_bd (k := k) h3 hk
  have hA : 0 ≤ ((d - a) * (r - z)) := Int.mul_nonneg h4 h5
  have e1 : kvI a (trF y b k) z d b r ≤ (b - trF y b k) * ((d - a) * (r - z)) := by
    unfold kvI
    split
    · unfold volI; exact Int.le_of_eq (by grind)
    · exact Int.mul_nonneg (by omega) hA
  have e2 : kvI a s z d (trT q s k) r ≤ (trT q s k - s) * ((d - a) * (r - z)) := by
    unfold kvI
    split
    · unfold volI; exact Int.le_of_eq (by grind)
    · exact Int.mul_nonneg (by omega) hA
  have e3 : volI a b z d s r = (s - b) * ((d - a) * (r - z)) := by unfold volI; grind
  have e4 : volI a y z d q r = (q - y) * ((d - a) * (r - z)) := by unfold volI; grind
  rw [e3, e4]
  have e5 := Int.mul_le_mul_of_nonneg_right (a := (b - trF y b k) + (trT q s k - s) + (s - b)) (b := q - y) (by omega) hA
  rw [Int.add_mul, Int.add_mul] at e5
  omega
theorem trL3_bd (z r a b c d s u k : Int) (h1 : z ≤ c) (h3 : u ≤ r) (h4 : 0 ≤ (d - a)) (h5 : 0 ≤ (s - b)) (hk : 0 ≤ k) :
    kvI a b (trF z c k) d s c + kvI a b u d s (trT r u k) + volI a b c d s u ≤ volI a b z d s r := by
  have f1 := trF_bd (k := k) h1 hk
  have f2 := trT_bd (k := k) h3 hk
  have hA : 0 ≤ ((d - a) * (s - b)) := Int.mul_nonneg h4 h5
  have e1 : kvI a b (trF z c k) d s c ≤ (c - trF z c k) * ((d - a) * (s - b)) := by
    unfold kvI
    split
    · unfold volI; exact Int.le_of_eq (by grind)
    · exact Int.mul_nonneg (by omega) hA
  have e2 : kvI a b u d s (trT r u k) ≤ (trT r u k - u) * ((d - a) * (s - b)) := by
    unfold kvI
    split
    · unfold volI; exact Int.le_of_eq (by grind)
    · exact Int.mul_nonneg (by omega) hA
  have e3 : volI a b c d s u = (u - c) * ((d - a) * (s - b)) := by unfold volI; grind
  have e4 : volI a b z d s r = (r - z) * ((d - a) * (s - b)) := by unfold volI; grind
  rw [e3, e4]
  have e5 := Int.mul_le_mul_of_nonneg_right (a := (c - trF z c k) + (trT r u k - u) + (u - c)) (b := r - z) (by omega) hA
  rw [Int.add_mul, Int.add_mul] at e5
  omega
theorem trN_le (d k : Int) : trN d k ≤ 1 := by unfold trN; split <;> omega
theorem dec_t {a b : Int} (h : a < b) : decide (a < b) = true := by simpa using h
theorem dec_f {a b : Int} (h : ¬ a < b) : decide (a < b) = false := by simpa using h
theorem trN_y {d k : Int} (h : k < d) : trN d k = 1 := by simp [trN, h]
theorem trN_n {d k : Int} (h : ¬ k < d) : trN d k = 0 := by simp [trN, h]
theorem cut_one {ax at_ k : Int} : ∀ u ∈ [Value.int .i64 ax, .int .i64 at_, .int .i64 k], u.oneCell' = true := by
  intro u hu; simp only [List.mem_cons, List.not_mem_nil, or_false] at hu; rcases hu with rfl | rfl | rfl <;> rfl
theorem own_far {w : World} {base n size : Nat} {e : TypeId} {v : Value} {xs : List Value} (h : w.ownsRow base e size v n xs) {p : Addr} (u : Value) (hp : p.block < base) : (w.setCell p u).ownsRow base e size v n xs := by
  refine ⟨h.1, h.2.imp id ?_⟩
  rintro ⟨g, cap, cur, rfl, h1, hh, r⟩
  exact ⟨g, cap, cur, rfl, h1, (Below.heap_setCell w p u g (by omega)).trans hh, r⟩
theorem trLb0 (x y z p q r a b c d s u k : Int) (hx : x ≤ a ∧ a < d ∧ d ≤ p) (hy : y ≤ b ∧ b < s ∧ s ≤ q) (hz : z ≤ c ∧ c < u ∧ u ≤ r) (bx : p - x ≤ 2000000) (by_ : q - y ≤ 2000000) (bz : r - z ≤ 2000000) (_hk : 0 ≤ k) : 0 ≤ trL0 x y z p q r a b c d s u k ∧ trL0 x y z p q r a b c d s u k + volI x y z p q r ≤ 8000000000000000000 := by
  obtain ⟨m1, m2⟩ := mul_bd (a := p - x) (b := q - y) (by omega) bx (by omega) by_
  obtain ⟨m3, m4⟩ := mul_bd (b := r - z) m1 m2 (by omega) bz
  unfold trL0 volI
  omega
theorem trLb1 (x y z p q r a b c d s u k : Int) (hx : x ≤ a ∧ a < d ∧ d ≤ p) (hy : y ≤ b ∧ b < s ∧ s ≤ q) (hz : z ≤ c ∧ c < u ∧ u ≤ r) (bx : p - x ≤ 2000000) (by_ : q - y ≤ 2000000) (bz : r - z ≤ 2000000) (hk : 0 ≤ k) : 0 ≤ trL1 x y z p q r a b c d s u k ∧ trL1 x y z p q r a b c d s u k + volI a y z d q r ≤ 8000000000000000000 := by
  have h := trLb0 x y z p q r a b c d s u k hx hy hz bx by_ bz hk
  have h2 := trL1_bd x y z p q r a d k (by omega) (by omega) (by omega) (by omega) hk
  have h3 := kvI_bd (trF x a k) y z a q r
  have h4 := kvI_bd d y z (trT p d k) q r
  unfold trL1
  omega
theorem trLb2 (x y z p q r a b c d s u k : Int) (hx : x ≤ a ∧ a < d ∧ d ≤ p) (hy : y ≤ b ∧ b < s ∧ s ≤ q) (hz : z ≤ c ∧ c < u ∧ u ≤ r) (bx : p - x ≤ 2000000) (by_ : q - y ≤ 2000000) (bz : r - z ≤ 2000000) (hk : 0 ≤ k) : 0 ≤ trL2 x y z p q r a b c d s u k ∧ trL2 x y z p q r a b c d s u k + volI a b z d s r ≤ 8000000000000000000 := by
  have h := trLb1 x y z p q r a b c d s u k hx hy hz bx by_ bz hk
  have h2 := trL2_bd y z q r a b d s k (by omega) (by omega) (by omega) (by omega) hk
  have h3 := kvI_bd a (trF y b k) z d b r
  have h4 := kvI_bd a s z d (trT q s k) r
  unfold trL2
  omega
theorem trLb3 (x y z p q r a b c d s u k : Int) (hx : x ≤ a ∧ a < d ∧ d ≤ p) (hy : y ≤ b ∧ b < s ∧ s ≤ q) (hz : z ≤ c ∧ c < u ∧ u ≤ r) (bx : p - x ≤ 2000000) (by_ : q - y ≤ 2000000) (bz : r - z ≤ 2000000) (hk : 0 ≤ k) : 0 ≤ trL3 x y z p q r a b c d s u k ∧ trL3 x y z p q r a b c d s u k + volI a b c d s u ≤ 8000000000000000000 := by
  have h := trLb2 x y z p q r a b c d s u k hx hy hz bx by_ bz hk
  have h2 := trL3_bd z r a b c d s u k (by omega) (by omega) (by omega) (by omega) hk
  have h3 := kvI_bd a b (trF z c k) d s c
  have h4 := kvI_bd a b u d s (trT r u k)
  unfold trL3
  omega
end Go.Proofs.Ytogmgaaejepcbaa
