/- Plain facts on hulls and cells of a box. No condition. -/
import Derived.Test.YtoeniaafcnnnoaaAwp
import Derived.Test.YtoeniaafcnnnoaaLif
namespace Go.Proofs.Ytoeniaafcnnnoaa
open Go.ChangeShapes Go.WideShapes Go.ChangeAt Go.RowKit

theorem sp_in {f lo hi sl : Int} (hs : 0 ≤ sl) : lo ≤ spLo f lo hi sl ∧ spHi f lo hi sl ≤ hi := by
  have h1 : f < 0 → 0 ≤ sl / (-f) := fun h => Int.ediv_nonneg hs (by omega)
  unfold spLo spHi
  (repeat' split) <;> omega
theorem sp_cell {f lo hi sl u : Int} (h0 : lo ≤ u) (h1 : u < hi) (hb : hiI (f * u) (f * (u + 1)) - lsI f lo hi ≤ sl) : spLo f lo hi sl ≤ u ∧ u < spHi f lo hi sl := by
  rcases Int.lt_trichotomy f 0 with hf | hf | hf
  · have e : spHi f lo hi sl = hi := by unfold spHi; rw [if_neg (by omega)]
    have hq : hi - 1 - u ≤ sl / (-f) := by
      rw [Int.le_ediv_iff_mul_le (by omega)]
      have h2 : lsI f lo hi = f * (hi - 1) := by unfold lsI; rw [if_neg (by omega)]
      have h3 : f * u ≤ hiI (f * u) (f * (u + 1)) := by unfold hiI; split <;> omega
      have h4 : (hi - 1 - u) * (-f) = f * u - f * (hi - 1) := by rw [Int.mul_neg, Int.sub_mul, Int.mul_comm f u, Int.mul_comm f (hi - 1)]; omega
      omega
    refine ⟨?_, by omega⟩
    unfold spLo
    rw [if_pos hf]
    split <;> omega
  · subst hf
    simp [spLo, spHi]; omega
  · have e : spLo f lo hi sl = lo := by unfold spLo; rw [if_neg (by omega)]
    have hq : u - lo ≤ sl / f := by
      rw [Int.le_ediv_iff_mul_le hf]
      have h2 : lsI f lo hi = f * (lo + 1) := by unfold lsI; rw [if_pos hf]
      have h3 : f * (u + 1) ≤ hiI (f * u) (f * (u + 1)) := by unfold hiI; split <;> omega
      have h4 : (u - lo) * f = f * (u + 1) - f * (lo + 1) := by rw [Int.mul_add, Int.mul_add, Int.sub_mul, Int.mul_comm f u, Int.mul_comm f lo]; omega
      omega
    refine ⟨by omega, ?_⟩
    unfold spHi
    rw [if_pos hf]
    split <;> omega
/-- the cell that lies deepest takes at most what any cell takes -/
theorem ls_cell {f lo hi u : Int} (h0 : lo ≤ u) (h1 : u < hi) : lsI f lo hi ≤ hiI (f * u) (f * (u + 1)) := by
  unfold lsI
  split
  · rename_i hf
    have h2 : f * (lo + 1) ≤ f * (u + 1) := Int.mul_le_mul_of_nonneg_left (by omega) (by omega)
    have h3 : f * (u + 1) ≤ hiI (f * u) (f * (u + 1)) := by unfold hiI; split <;> omega
    omega
  · rename_i hf
    have h2 : f * (hi - 1) ≤ f * u := Int.mul_le_mul_of_nonpos_left (by omega) (by omega)
    have h3 : f * u ≤ hiI (f * u) (f * (u + 1)) := by unfold hiI; split <;> omega
    omega
theorem hi_cell {f lo hi u : Int} (h0 : lo ≤ u) (h1 : u < hi) : hiI (f * u) (f * (u + 1)) ≤ hiI (f * lo) (f * hi) := by
  rcases Int.lt_or_le 0 f with hf | hf
  · have h2 : f * (u + 1) ≤ f * hi := Int.mul_le_mul_of_nonneg_left (by omega) (by omega)
    have h3 : f * u ≤ f * hi := Int.mul_le_mul_of_nonneg_left (by omega) (by omega)
    unfold hiI; (repeat' split) <;> omega
  · have h2 : f * u ≤ f * lo := Int.mul_le_mul_of_nonpos_left hf (by omega)
    have h3 : f * (u + 1) ≤ f * lo := Int.mul_le_mul_of_nonpos_left hf (by omega)
    unfold hiI; (repeat' split) <;> omega
/-- a cell in a half-space: something is left, and the hull holds the cell -/
theorem cell_in {a b c d x y z p q r i j k : Int} (i0 : x ≤ i) (i1 : i < p) (j0 : y ≤ j) (j1 : j < q) (k0 : z ≤ k) (k1 : k < r) (h : hiS a b c d i j k (i + 1) (j + 1) (k + 1) ≤ 0) :
    0 ≤ slk a b c d x y z p q r ∧ (spLo a x p (slk a b c d x y z p q r) ≤ i ∧ i < spHi a x p (slk a b c d x y z p q r)) ∧ (spLo b y q (slk a b c d x y z p q r) ≤ j ∧ j < spHi b y q (slk a b c d x y z p q r)) ∧
      (spLo c z r (slk a b c d x y z p q r) ≤ k ∧ k < spHi c z r (slk a b c d x y z p q r)) := by
  have a1 := ls_cell (f := a) i0 i1
  have a2 := ls_cell (f := b) j0 j1
  have a3 := ls_cell (f := c) k0 k1
  unfold hiS at h
  have hs : slk a b c d x y z p q r = d - lsI a x p - lsI b y q - lsI c z r := rfl
  have h0 : 0 ≤ slk a b c d x y z p q r := by omega
  exact ⟨h0, sp_cell i0 i1 (by omega), sp_cell j0 j1 (by omega), sp_cell k0 k1 (by omega)⟩
/-- a box in a half-space is its own hull -/
theorem box_hull {a b c d x y z p q r : Int} (lx : x < p) (ly : y < q) (lz : z < r) (h : hiS a b c d x y z p q r ≤ 0) :
    0 ≤ slk a b c d x y z p q r ∧ (spLo a x p (slk a b c d x y z p q r) = x ∧ spLo b y q (slk a b c d x y z p q r) = y ∧ spLo c z r (slk a b c d x y z p q r) = z) ∧
      (spHi a x p (slk a b c d x y z p q r) = p ∧ spHi b y q (slk a b c d x y z p q r) = q ∧ spHi c z r (slk a b c d x y z p q r) = r) := by
  have top : ∀ i j k, x ≤ i → i < p → y ≤ j → j < q → z ≤ k → k < r → hiS a b c d i j k (i + 1) (j + 1) (k + 1) ≤ 0 := by
    intro i j k i0 i1 j0 j1 k0 k1
    have b1 := hi_cell (f := a) i0 i1
    have b2 := hi_cell (f := b) j0 j1
    have b3 := hi_cell (f := c) k0 k1
    unfold hiS at h ⊢
    omega
  obtain ⟨h0, ⟨u1, _⟩, ⟨u2, _⟩, ⟨u3, _⟩⟩ := cell_in (Int.le_refl x) lx (Int.le_refl y) ly (Int.le_refl z) lz (top x y z (Int.le_refl _) lx (Int.le_refl _) ly (Int.le_refl _) lz)
  obtain ⟨_, ⟨_, v1⟩, ⟨_, v2⟩, ⟨_, v3⟩⟩ := cell_in (x := x) (y := y) (z := z) (p := p) (q := q) (r := r) (i := p - 1) (j := q - 1) (k := r - 1) (by omega) (by omega) (by omega) (by omega) (by omega) (by omega) (top (p - 1) (q - 1) (r - 1) (by omega) (by omega) (by omega) (by omega) (by omega) (by omega))
  have w1 := sp_in (f := a) (lo := x) (hi := p) h0
  have w2 := sp_in (f := b) (lo := y) (hi := q) h0
  have w3 := sp_in (f := c) (lo := z) (hi := r) h0
  refine ⟨h0, ⟨by omega, by omega, by omega⟩, by omega, by omega, by omega⟩
end Go.Proofs.Ytoeniaafcnnnoaa
