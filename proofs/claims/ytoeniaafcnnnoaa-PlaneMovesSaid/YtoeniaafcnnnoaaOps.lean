/- The walks of vector's Add, Sub, Dot, Distance and of the reference's. No condition. -/
import Derived.Test.YtoeniaafcnnnoaaVec
import Derived.Test.YtoeniaafcnnnoaaDot
import Derived.Test.YtoeniaafcnnnoaaEach
namespace Go.Proofs.Ytoeniaafcnnnoaa
open Go.RowKit

theorem mul_bd {x a : Int} {B : Nat} (h : x.natAbs ≤ B) (k : a.natAbs ≤ B) : (x * a).natAbs ≤ B * B := by
  rw [Int.natAbs_mul]; exact Nat.mul_le_mul h k
theorem inC_abs {n : Int} (h : inC n = true) : n.natAbs ≤ 1000000 := by have := inC_iff.1 h; omega
theorem w64 {n : Int} (h : n.natAbs ≤ 1000000000000000) : wrap64 n = n := IntWalk.wrap64_in n (by omega)

def bndV (x y z : Int) : (Int × Int × Int) × Int := if inV x y z then ((x, y, z), 0) else ((0, 0, 0), 6)
theorem errT_two {x y z a b c : Int} : errT [(x, y, z), (a, b, c)] = if inV x y z && inV a b c then 0 else 6 := by
  simp [errT, inT]
def sumV (s : Int) (x y z a b c : Int) : (Int × Int × Int) × Int := if inV x y z && inV a b c then bndV (x + s * a) (y + s * b) (z + s * c) else ((0, 0, 0), 6)

theorem cmb {x a s : Int} (hx : inC x = true) (ha : inC a = true) (hs : s = 1 ∨ s = -1) : wrap64 (x + wrap64 (s * a)) = x + s * a := by
  have := inC_abs hx
  have := inC_abs ha
  rcases hs with rfl | rfl
  · rw [Int.one_mul, w64 (n := a) (by omega), w64 (by omega)]
  · rw [w64 (n := -1 * a) (by omega), w64 (by omega)]
theorem dot_in (x y z a b c : Int) (B : Nat) (hB : B ≤ 2000000) (hx : x.natAbs ≤ B) (hy : y.natAbs ≤ B) (hz : z.natAbs ≤ B) (ha : a.natAbs ≤ B) (hb : b.natAbs ≤ B) (hc : c.natAbs ≤ B) (w : World) :
    Calls Try.prog 69 #[.agg #[.int .i64 x, .int .i64 y, .int .i64 z], .agg #[.int .i64 a, .int .i64 b, .int .i64 c]] w fun e w' => e = .returned (.int .i64 (x * a + y * b + z * c)) ∧ Below w.heap.size w w' := by
  have h := dot_any x y z a b c w
  have p1 := mul_bd (B := 2000000) (Nat.le_trans hx hB) (Nat.le_trans ha hB)
  have p2 := mul_bd (B := 2000000) (Nat.le_trans hy hB) (Nat.le_trans hb hB)
  have p3 := mul_bd (B := 2000000) (Nat.le_trans hz hB) (Nat.le_trans hc hB)
  rw [w64 (n := x * a) (by omega), w64 (n := x * a) (by omega), w64 (n := y * b) (by omega), w64 (n := z * c) (by omega), w64 (n := x * a + y * b) (by omega), w64 (by omega)] at h
  exact h

def dotV (x y z a b c : Int) : Int × Int := if inV x y z && inV a b c then (x * a + y * b + z * c, 0) else (0, 6)
theorem inV_abs {x y z : Int} (h : inV x y z = true) : x.natAbs ≤ 1000000 ∧ y.natAbs ≤ 1000000 ∧ z.natAbs ≤ 1000000 := by
  obtain ⟨h1, h2, h3⟩ := inV_iff.1 h
  exact ⟨inC_abs h1, inC_abs h2, inC_abs h3⟩
set_option maxHeartbeats 2000000 in
theorem Dot_any (x y z a b c : Int) (w : World) :
    Calls Try.prog 38 #[.agg #[.int .i64 x, .int .i64 y, .int .i64 z], .agg #[.int .i64 a, .int .i64 b, .int .i64 c]] w fun e w' => e = .returned (.tuple #[.int .i64 (dotV x y z a b c).1, .int .i64 (dotV x y z a b c).2]) ∧ Below w.heap.size w w' := by
  have hck := fun A cap W (h : Reads W W.heap.size 3 A [(x, y, z), (a, b, c)].length (encTs [(x, y, z), (a, b, c)])) => checkEach_any A cap [(x, y, z), (a, b, c)] W (by simp) h
  rw [errT_two] at hck
  cases h : inV x y z && inV a b c
  · rw [h] at hck
    rw [show dotV x y z a b c = (0, 6) by simp only [dotV, h, Bool.false_eq_true, if_false]]
    simp only [Bool.false_eq_true, if_false] at hck
    clear h
    go_enter Try.func38, Try.ntmps38
    go_wp2_with (go_at_call 68; refine (hck _ _ _ (readsT_new (by simp) rfl)).mono ?_; rintro e w1 ⟨rfl, hb1⟩; obtain ⟨hc1, hf1⟩ := bcell hb1; have hz1 := hb1.size; (try simp at hz1); (try have y10 : w.heap.size < w1.heap.size := (by omega)); (try have y11 : w.heap.size + 1 < w1.heap.size := (by omega)); (try have y12 : w.heap.size + 1 + 1 < w1.heap.size := (by omega)); (try have y13 : w.heap.size + 1 + 1 + 1 < w1.heap.size := (by omega)); (try have y14 : w.heap.size + 1 + 1 + 1 + 1 < w1.heap.size := (by omega)))
    go_ret2
    refine ⟨rfl, ?_⟩
    repeat (first | exact Below.refl _ _ | refine Below.drew ?_ | refine below_drewN ?_ _ | refine Below.setCell ?_ ?_ _ | refine Below.alloc ?_ ?_ _ | (refine Below.trans ?_ (bmono (by assumption) ?_)))
    all_goals (first | omega | (simp <;> omega))
  · rw [h] at hck
    rw [show dotV x y z a b c = (x * a + y * b + z * c, 0) by simp only [dotV, h, if_true]]
    simp only [if_true] at hck
    rw [Bool.and_eq_true] at h
    obtain ⟨b1, b2, b3⟩ := inV_abs h.1
    obtain ⟨b4, b5, b6⟩ := inV_abs h.2
    have hd := dot_in x y z a b c 1000000 (by omega) b1 b2 b3 b4 b5 b6
    clear h b1 b2 b3 b4 b5 b6
    generalize x * a + y * b + z * c = R at hd ⊢
    go_enter Try.func38, Try.ntmps38
    go_wp2_with (first
      | (go_at_call 68; refine (hck _ _ _ (readsT_new (by simp) rfl)).mono ?_; rintro e w1 ⟨rfl, hb1⟩; obtain ⟨hc1, hf1⟩ := bcell hb1; have hz1 := hb1.size; (try simp at hz1); (try have y10 : w.heap.size < w1.heap.size := (by omega)); (try have y11 : w.heap.size + 1 < w1.heap.size := (by omega)); (try have y12 : w.heap.size + 1 + 1 < w1.heap.size := (by omega)); (try have y13 : w.heap.size + 1 + 1 + 1 < w1.heap.size := (by omega)); (try have y14 : w.heap.size + 1 + 1 + 1 + 1 < w1.heap.size := (by omega)))
      | (go_at_call 69; refine (hd _).mono ?_; rintro e w2 ⟨rfl, hb2⟩; obtain ⟨hc2, hf2⟩ := bcell hb2; have hz2 := hb2.size; (try simp at hz2); (try have y20 : w.heap.size < w2.heap.size := (by omega)); (try have y21 : w.heap.size + 1 < w2.heap.size := (by omega)); (try have y22 : w.heap.size + 1 + 1 < w2.heap.size := (by omega)); (try have y23 : w.heap.size + 1 + 1 + 1 < w2.heap.size := (by omega)); (try have y24 : w.heap.size + 1 + 1 + 1 + 1 < w2.heap.size := (by omega))))
    go_ret2
    refine ⟨rfl, ?_⟩
    repeat (first | exact Below.refl _ _ | refine Below.drew ?_ | refine below_drewN ?_ _ | refine Below.setCell ?_ ?_ _ | refine Below.alloc ?_ ?_ _ | (refine Below.trans ?_ (bmono (by assumption) ?_)))
    all_goals (first | omega | (simp <;> omega))

def distV (x y z a b c : Int) : Int × Int := if inV x y z && inV a b c then ((x + -1 * a) * (x + -1 * a) + (y + -1 * b) * (y + -1 * b) + (z + -1 * c) * (z + -1 * c), 0) else (0, 6)
end Go.Proofs.Ytoeniaafcnnnoaa
