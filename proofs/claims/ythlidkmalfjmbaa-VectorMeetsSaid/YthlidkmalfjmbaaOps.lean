/- The walks of vector's Add, Sub, Dot, Distance and of the reference's. No condition. -/
import Derived.Test.YthlidkmalfjmbaaComb
import Derived.Test.YthlidkmalfjmbaaDot
import Derived.Test.YthlidkmalfjmbaaEach
namespace Go.Proofs.Ythlidkmalfjmbaa
open Go.RowKit

theorem mul_bd {x a : Int} {B : Nat} (h : x.natAbs ≤ B) (k : a.natAbs ≤ B) : (x * a).natAbs ≤ B * B := by
  rw [Int.natAbs_mul]; exact Nat.mul_le_mul h k
theorem inC_abs {n : Int} (h : inC n = true) : n.natAbs ≤ 1000000 := by have := inC_iff.1 h; omega
theorem w64 {n : Int} (h : n.natAbs ≤ 1000000000000000) : wrap64 n = n := IntWalk.wrap64_in n (by omega)

def bndV (x y z : Int) : (Int × Int × Int) × Int := if inV x y z then ((x, y, z), 0) else ((0, 0, 0), 6)
set_option maxHeartbeats 1000000 in
theorem bounded_any (x y z : Int) (w : World) :
    Calls Try.prog 37 #[.agg #[.int .i64 x, .int .i64 y, .int .i64 z]] w fun e w' => e = .returned (.tuple #[.agg #[.int .i64 (bndV x y z).1.1, .int .i64 (bndV x y z).1.2.1, .int .i64 (bndV x y z).1.2.2], .int .i64 (bndV x y z).2]) ∧ Below w.heap.size w w' := by
  have hck := check_any x y z
  cases h : inV x y z
  · rw [eV_out h] at hck
    rw [show bndV x y z = ((0, 0, 0), 6) by simp [bndV, h]]
    clear h
    go_enter Try.func37, Try.ntmps37
    go_wp2_with (go_at_call 15; refine (hck _).mono ?_; rintro e w1 ⟨rfl, hb1⟩; obtain ⟨hc1, hf1⟩ := bcell hb1; have hz1 := hb1.size; (try simp at hz1); (try have y10 : w.heap.size < w1.heap.size := (by omega)); (try have y11 : w.heap.size + 1 < w1.heap.size := (by omega)); (try have y12 : w.heap.size + 1 + 1 < w1.heap.size := (by omega)); (try have y13 : w.heap.size + 1 + 1 + 1 < w1.heap.size := (by omega)); (try have y14 : w.heap.size + 1 + 1 + 1 + 1 < w1.heap.size := (by omega)))
    exact bodyPost_ret (v := .tuple #[.agg #[.int .i64 0, .int .i64 0, .int .i64 0], .int .i64 6]) (by simp [results, Try.results37, go_sem, hc1]) rfl ⟨rfl, by
      repeat (first | exact Below.refl _ _ | refine Below.drew ?_ | refine below_drewN ?_ _ | refine Below.setCell ?_ ?_ _ | refine Below.alloc ?_ ?_ _ | (refine Below.trans ?_ (bmono (by assumption) ?_)))
      all_goals (first | omega | (simp <;> omega))⟩
  · rw [eV_in h] at hck
    rw [show bndV x y z = ((x, y, z), 0) by simp [bndV, h]]
    clear h
    go_enter Try.func37, Try.ntmps37
    go_wp2_with (go_at_call 15; refine (hck _).mono ?_; rintro e w1 ⟨rfl, hb1⟩; obtain ⟨hc1, hf1⟩ := bcell hb1; have hz1 := hb1.size; (try simp at hz1); (try have y10 : w.heap.size < w1.heap.size := (by omega)); (try have y11 : w.heap.size + 1 < w1.heap.size := (by omega)); (try have y12 : w.heap.size + 1 + 1 < w1.heap.size := (by omega)); (try have y13 : w.heap.size + 1 + 1 + 1 < w1.heap.size := (by omega)); (try have y14 : w.heap.size + 1 + 1 + 1 + 1 < w1.heap.size := (by omega)))
    exact bodyPost_ret (v := .tuple #[.agg #[.int .i64 x, .int .i64 y, .int .i64 z], .int .i64 0]) (by simp [results, Try.results37, go_sem, hc1]) rfl ⟨rfl, by
      repeat (first | exact Below.refl _ _ | refine Below.drew ?_ | refine below_drewN ?_ _ | refine Below.setCell ?_ ?_ _ | refine Below.alloc ?_ ?_ _ | (refine Below.trans ?_ (bmono (by assumption) ?_)))
      all_goals (first | omega | (simp <;> omega))⟩

theorem errT_two {x y z a b c : Int} : errT [(x, y, z), (a, b, c)] = if inV x y z && inV a b c then 0 else 6 := by
  simp [errT, inT]
def sumV (s : Int) (x y z a b c : Int) : (Int × Int × Int) × Int := if inV x y z && inV a b c then bndV (x + s * a) (y + s * b) (z + s * c) else ((0, 0, 0), 6)

theorem cmb {x a s : Int} (hx : inC x = true) (ha : inC a = true) (hs : s = 1 ∨ s = -1) : wrap64 (x + wrap64 (s * a)) = x + s * a := by
  have := inC_abs hx
  have := inC_abs ha
  rcases hs with rfl | rfl
  · rw [Int.one_mul, w64 (n := a) (by omega), w64 (by omega)]
  · rw [w64 (n := -1 * a) (by omega), w64 (by omega)]
theorem combined_in (x y z a b c s : Int) (h1 : inV x y z = true) (h2 : inV a b c = true) (hs : s = 1 ∨ s = -1) (w : World) :
    Calls Try.prog 38 #[.agg #[.int .i64 x, .int .i64 y, .int .i64 z], .agg #[.int .i64 a, .int .i64 b, .int .i64 c], .int .i64 s] w fun e w' => e = .returned (.agg #[.int .i64 (x+s*a), .int .i64 (y+s*b), .int .i64 (z+s*c)]) ∧ Below w.heap.size w w' := by
  obtain ⟨hx, hy, hz⟩ := inV_iff.1 h1
  obtain ⟨ha, hb, hc⟩ := inV_iff.1 h2
  have h := combined_any x y z a b c s w
  rw [cmb hx ha hs, cmb hy hb hs, cmb hz hc hs] at h
  exact h
theorem dot_in (x y z a b c : Int) (B : Nat) (hB : B ≤ 2000000) (hx : x.natAbs ≤ B) (hy : y.natAbs ≤ B) (hz : z.natAbs ≤ B) (ha : a.natAbs ≤ B) (hb : b.natAbs ≤ B) (hc : c.natAbs ≤ B) (w : World) :
    Calls Try.prog 43 #[.agg #[.int .i64 x, .int .i64 y, .int .i64 z], .agg #[.int .i64 a, .int .i64 b, .int .i64 c]] w fun e w' => e = .returned (.int .i64 (x * a + y * b + z * c)) ∧ Below w.heap.size w w' := by
  have h := dot_any x y z a b c w
  have p1 := mul_bd (B := 2000000) (Nat.le_trans hx hB) (Nat.le_trans ha hB)
  have p2 := mul_bd (B := 2000000) (Nat.le_trans hy hB) (Nat.le_trans hb hB)
  have p3 := mul_bd (B := 2000000) (Nat.le_trans hz hB) (Nat.le_trans hc hB)
  rw [w64 (n := x * a) (by omega), w64 (n := x * a) (by omega), w64 (n := y * b) (by omega), w64 (n := z * c) (by omega), w64 (n := x * a + y * b) (by omega), w64 (by omega)] at h
  exact h

set_option maxHeartbeats 2000000 in
theorem add_any (x y z a b c : Int) (w : World) :
    Calls Try.prog 13 #[.agg #[.int .i64 x, .int .i64 y, .int .i64 z], .agg #[.int .i64 a, .int .i64 b, .int .i64 c]] w fun e w' => e = .returned (.tuple #[.agg #[.int .i64 (sumV 1 x y z a b c).1.1, .int .i64 (sumV 1 x y z a b c).1.2.1, .int .i64 (sumV 1 x y z a b c).1.2.2], .int .i64 (sumV 1 x y z a b c).2]) ∧ Below w.heap.size w w' := by
  have hck := fun A cap W (h : Reads W W.heap.size 3 A [(x, y, z), (a, b, c)].length (encTs [(x, y, z), (a, b, c)])) => checkEach_any A cap [(x, y, z), (a, b, c)] W (by simp) h
  rw [errT_two] at hck
  cases h : inV x y z && inV a b c
  · rw [h] at hck
    rw [show sumV 1 x y z a b c = ((0, 0, 0), 6) by simp only [sumV, h, Bool.false_eq_true, if_false]]
    simp only [Bool.false_eq_true, if_false] at hck
    clear h
    go_enter Try.func13, Try.ntmps13
    go_wp2_with (go_at_call 36; refine (hck _ _ _ (readsT_new (by simp) rfl)).mono ?_; rintro e w1 ⟨rfl, hb1⟩; obtain ⟨hc1, hf1⟩ := bcell hb1; have hz1 := hb1.size; (try simp at hz1); (try have y10 : w.heap.size < w1.heap.size := (by omega)); (try have y11 : w.heap.size + 1 < w1.heap.size := (by omega)); (try have y12 : w.heap.size + 1 + 1 < w1.heap.size := (by omega)); (try have y13 : w.heap.size + 1 + 1 + 1 < w1.heap.size := (by omega)); (try have y14 : w.heap.size + 1 + 1 + 1 + 1 < w1.heap.size := (by omega)))
    exact bodyPost_ret (v := .tuple #[.agg #[.int .i64 0, .int .i64 0, .int .i64 0], .int .i64 6]) (by simp [results, Try.results13, go_sem, hc1]) rfl ⟨rfl, by
      repeat (first | exact Below.refl _ _ | refine Below.drew ?_ | refine below_drewN ?_ _ | refine Below.setCell ?_ ?_ _ | refine Below.alloc ?_ ?_ _ | (refine Below.trans ?_ (bmono (by assumption) ?_)))
      all_goals (first | omega | (simp <;> omega))⟩
  · rw [h] at hck
    rw [show sumV 1 x y z a b c = bndV (x + 1 * a) (y + 1 * b) (z + 1 * c) by simp only [sumV, h, if_true]]
    simp only [if_true] at hck
    rw [Bool.and_eq_true] at h
    have hcm := combined_in x y z a b c 1 h.1 h.2 (.inl rfl)
    have hbd := bounded_any (x + 1 * a) (y + 1 * b) (z + 1 * c)
    clear h
    generalize (x + 1 * a) = p at hcm hbd ⊢
    generalize (y + 1 * b) = q at hcm hbd ⊢
    generalize (z + 1 * c) = r at hcm hbd ⊢
    generalize bndV p q r = R at hbd ⊢
    go_enter Try.func13, Try.ntmps13
    go_wp2_with (first
      | (go_at_call 36; refine (hck _ _ _ (readsT_new (by simp) rfl)).mono ?_; rintro e w1 ⟨rfl, hb1⟩; obtain ⟨hc1, hf1⟩ := bcell hb1; have hz1 := hb1.size; (try simp at hz1); (try have y10 : w.heap.size < w1.heap.size := (by omega)); (try have y11 : w.heap.size + 1 < w1.heap.size := (by omega)); (try have y12 : w.heap.size + 1 + 1 < w1.heap.size := (by omega)); (try have y13 : w.heap.size + 1 + 1 + 1 < w1.heap.size := (by omega)); (try have y14 : w.heap.size + 1 + 1 + 1 + 1 < w1.heap.size := (by omega)))
      | (go_at_call 38; refine (hcm _).mono ?_; rintro e w2 ⟨rfl, hb2⟩; obtain ⟨hc2, hf2⟩ := bcell hb2; have hz2 := hb2.size; (try simp at hz2); (try have y20 : w.heap.size < w2.heap.size := (by omega)); (try have y21 : w.heap.size + 1 < w2.heap.size := (by omega)); (try have y22 : w.heap.size + 1 + 1 < w2.heap.size := (by omega)); (try have y23 : w.heap.size + 1 + 1 + 1 < w2.heap.size := (by omega)); (try have y24 : w.heap.size + 1 + 1 + 1 + 1 < w2.heap.size := (by omega)))
      | (go_at_call 37; refine (hbd _).mono ?_; rintro e w3 ⟨rfl, hb3⟩; obtain ⟨hc3, hf3⟩ := bcell hb3; have hz3 := hb3.size; (try simp at hz3); (try have y30 : w.heap.size < w3.heap.size := (by omega)); (try have y31 : w.heap.size + 1 < w3.heap.size := (by omega)); (try have y32 : w.heap.size + 1 + 1 < w3.heap.size := (by omega)); (try have y33 : w.heap.size + 1 + 1 + 1 < w3.heap.size := (by omega)); (try have y34 : w.heap.size + 1 + 1 + 1 + 1 < w3.heap.size := (by omega))))
    exact bodyPost_ret (v := .tuple #[.agg #[.int .i64 R.1.1, .int .i64 R.1.2.1, .int .i64 R.1.2.2], .int .i64 R.2]) (by simp [results, Try.results13, go_sem, hc1, hc2, hc3, y12, y22]) rfl ⟨rfl, by
      repeat (first | exact Below.refl _ _ | refine Below.drew ?_ | refine below_drewN ?_ _ | refine Below.setCell ?_ ?_ _ | refine Below.alloc ?_ ?_ _ | (refine Below.trans ?_ (bmono (by assumption) ?_)))
      all_goals (first | omega | (simp <;> omega))⟩

set_option maxHeartbeats 2000000 in
theorem sub_any (x y z a b c : Int) (w : World) :
    Calls Try.prog 14 #[.agg #[.int .i64 x, .int .i64 y, .int .i64 z], .agg #[.int .i64 a, .int .i64 b, .int .i64 c]] w fun e w' => e = .returned (.tuple #[.agg #[.int .i64 (sumV (-1) x y z a b c).1.1, .int .i64 (sumV (-1) x y z a b c).1.2.1, .int .i64 (sumV (-1) x y z a b c).1.2.2], .int .i64 (sumV (-1) x y z a b c).2]) ∧ Below w.heap.size w w' := by
  have hck := fun A cap W (h : Reads W W.heap.size 3 A [(x, y, z), (a, b, c)].length (encTs [(x, y, z), (a, b, c)])) => checkEach_any A cap [(x, y, z), (a, b, c)] W (by simp) h
  rw [errT_two] at hck
  cases h : inV x y z && inV a b c
  · rw [h] at hck
    rw [show sumV (-1) x y z a b c = ((0, 0, 0), 6) by simp only [sumV, h, Bool.false_eq_true, if_false]]
    simp only [Bool.false_eq_true, if_false] at hck
    clear h
    go_enter Try.func14, Try.ntmps14
    go_wp2_with (go_at_call 36; refine (hck _ _ _ (readsT_new (by simp) rfl)).mono ?_; rintro e w1 ⟨rfl, hb1⟩; obtain ⟨hc1, hf1⟩ := bcell hb1; have hz1 := hb1.size; (try simp at hz1); (try have y10 : w.heap.size < w1.heap.size := (by omega)); (try have y11 : w.heap.size + 1 < w1.heap.size := (by omega)); (try have y12 : w.heap.size + 1 + 1 < w1.heap.size := (by omega)); (try have y13 : w.heap.size + 1 + 1 + 1 < w1.heap.size := (by omega)); (try have y14 : w.heap.size + 1 + 1 + 1 + 1 < w1.heap.size := (by omega)))
    exact bodyPost_ret (v := .tuple #[.agg #[.int .i64 0, .int .i64 0, .int .i64 0], .int .i64 6]) (by simp [results, Try.results14, go_sem, hc1]) rfl ⟨rfl, by
      repeat (first | exact Below.refl _ _ | refine Below.drew ?_ | refine below_drewN ?_ _ | refine Below.setCell ?_ ?_ _ | refine Below.alloc ?_ ?_ _ | (refine Below.trans ?_ (bmono (by assumption) ?_)))
      all_goals (first | omega | (simp <;> omega))⟩
  · rw [h] at hck
    rw [show sumV (-1) x y z a b c = bndV (x + -1 * a) (y + -1 * b) (z + -1 * c) by simp only [sumV, h, if_true]]
    simp only [if_true] at hck
    rw [Bool.and_eq_true] at h
    have hcm := combined_in x y z a b c (-1) h.1 h.2 (.inr rfl)
    have hbd := bounded_any (x + -1 * a) (y + -1 * b) (z + -1 * c)
    clear h
    generalize (x + -1 * a) = p at hcm hbd ⊢
    generalize (y + -1 * b) = q at hcm hbd ⊢
    generalize (z + -1 * c) = r at hcm hbd ⊢
    generalize bndV p q r = R at hbd ⊢
    go_enter Try.func14, Try.ntmps14
    go_wp2_with (first
      | (go_at_call 36; refine (hck _ _ _ (readsT_new (by simp) rfl)).mono ?_; rintro e w1 ⟨rfl, hb1⟩; obtain ⟨hc1, hf1⟩ := bcell hb1; have hz1 := hb1.size; (try simp at hz1); (try have y10 : w.heap.size < w1.heap.size := (by omega)); (try have y11 : w.heap.size + 1 < w1.heap.size := (by omega)); (try have y12 : w.heap.size + 1 + 1 < w1.heap.size := (by omega)); (try have y13 : w.heap.size + 1 + 1 + 1 < w1.heap.size := (by omega)); (try have y14 : w.heap.size + 1 + 1 + 1 + 1 < w1.heap.size := (by omega)))
      | (go_at_call 38; refine (hcm _).mono ?_; rintro e w2 ⟨rfl, hb2⟩; obtain ⟨hc2, hf2⟩ := bcell hb2; have hz2 := hb2.size; (try simp at hz2); (try have y20 : w.heap.size < w2.heap.size := (by omega)); (try have y21 : w.heap.size + 1 < w2.heap.size := (by omega)); (try have y22 : w.heap.size + 1 + 1 < w2.heap.size := (by omega)); (try have y23 : w.heap.size + 1 + 1 + 1 < w2.heap.size := (by omega)); (try have y24 : w.heap.size + 1 + 1 + 1 + 1 < w2.heap.size := (by omega)))
      | (go_at_call 37; refine (hbd _).mono ?_; rintro e w3 ⟨rfl, hb3⟩; obtain ⟨hc3, hf3⟩ := bcell hb3; have hz3 := hb3.size; (try simp at hz3); (try have y30 : w.heap.size < w3.heap.size := (by omega)); (try have y31 : w.heap.size + 1 < w3.heap.size := (by omega)); (try have y32 : w.heap.size + 1 + 1 < w3.heap.size := (by omega)); (try have y33 : w.heap.size + 1 + 1 + 1 < w3.heap.size := (by omega)); (try have y34 : w.heap.size + 1 + 1 + 1 + 1 < w3.heap.size := (by omega))))
    exact bodyPost_ret (v := .tuple #[.agg #[.int .i64 R.1.1, .int .i64 R.1.2.1, .int .i64 R.1.2.2], .int .i64 R.2]) (by simp [results, Try.results14, go_sem, hc1, hc2, hc3, y12, y22]) rfl ⟨rfl, by
      repeat (first | exact Below.refl _ _ | refine Below.drew ?_ | refine below_drewN ?_ _ | refine Below.setCell ?_ ?_ _ | refine Below.alloc ?_ ?_ _ | (refine Below.trans ?_ (bmono (by assumption) ?_)))
      all_goals (first | omega | (simp <;> omega))⟩

def dotV (x y z a b c : Int) : Int × Int := if inV x y z && inV a b c then (x * a + y * b + z * c, 0) else (0, 6)
theorem inV_abs {x y z : Int} (h : inV x y z = true) : x.natAbs ≤ 1000000 ∧ y.natAbs ≤ 1000000 ∧ z.natAbs ≤ 1000000 := by
  obtain ⟨h1, h2, h3⟩ := inV_iff.1 h
  exact ⟨inC_abs h1, inC_abs h2, inC_abs h3⟩
set_option maxHeartbeats 2000000 in
theorem Dot_any (x y z a b c : Int) (w : World) :
    Calls Try.prog 22 #[.agg #[.int .i64 x, .int .i64 y, .int .i64 z], .agg #[.int .i64 a, .int .i64 b, .int .i64 c]] w fun e w' => e = .returned (.tuple #[.int .i64 (dotV x y z a b c).1, .int .i64 (dotV x y z a b c).2]) ∧ Below w.heap.size w w' := by
  have hck := fun A cap W (h : Reads W W.heap.size 3 A [(x, y, z), (a, b, c)].length (encTs [(x, y, z), (a, b, c)])) => checkEach_any A cap [(x, y, z), (a, b, c)] W (by simp) h
  rw [errT_two] at hck
  cases h : inV x y z && inV a b c
  · rw [h] at hck
    rw [show dotV x y z a b c = (0, 6) by simp only [dotV, h, Bool.false_eq_true, if_false]]
    simp only [Bool.false_eq_true, if_false] at hck
    clear h
    go_enter Try.func22, Try.ntmps22
    go_wp2_with (go_at_call 36; refine (hck _ _ _ (readsT_new (by simp) rfl)).mono ?_; rintro e w1 ⟨rfl, hb1⟩; obtain ⟨hc1, hf1⟩ := bcell hb1; have hz1 := hb1.size; (try simp at hz1); (try have y10 : w.heap.size < w1.heap.size := (by omega)); (try have y11 : w.heap.size + 1 < w1.heap.size := (by omega)); (try have y12 : w.heap.size + 1 + 1 < w1.heap.size := (by omega)); (try have y13 : w.heap.size + 1 + 1 + 1 < w1.heap.size := (by omega)); (try have y14 : w.heap.size + 1 + 1 + 1 + 1 < w1.heap.size := (by omega)))
    go_ret2
    refine ⟨rfl, ?_⟩
    repeat (first | exact Below.refl _ _ | refine Below.drew ?_ | refine below_drewN ?_ _ | refine Below.setCell ?_ ?_ _ | refine Below.alloc ?_ ?_ _ | (refine Below.trans ?_ (bmono (by assumption) ?_)))
    all_goals (first | omega | (simp <;> omega))
  · rw [h] at hck
    rw [show dotV x y z a b c = (x * a + y * b + z * c, 0) by simp only [dotV, h, if_true]]
    simp only [if_true] at hck
    rw [Bool.and_eq_true] at h
    obtain ⟨b1, b2, b3⟩ := inV_abs h.1
    obtain ⟨b4, b5, b6⟩ := inV_abs h.2
    have hd := dot_in x y z a b c 1000000 (by omega) b1 b2 b3 b4 b5 b6
    clear h b1 b2 b3 b4 b5 b6
    generalize x * a + y * b + z * c = R at hd ⊢
    go_enter Try.func22, Try.ntmps22
    go_wp2_with (first
      | (go_at_call 36; refine (hck _ _ _ (readsT_new (by simp) rfl)).mono ?_; rintro e w1 ⟨rfl, hb1⟩; obtain ⟨hc1, hf1⟩ := bcell hb1; have hz1 := hb1.size; (try simp at hz1); (try have y10 : w.heap.size < w1.heap.size := (by omega)); (try have y11 : w.heap.size + 1 < w1.heap.size := (by omega)); (try have y12 : w.heap.size + 1 + 1 < w1.heap.size := (by omega)); (try have y13 : w.heap.size + 1 + 1 + 1 < w1.heap.size := (by omega)); (try have y14 : w.heap.size + 1 + 1 + 1 + 1 < w1.heap.size := (by omega)))
      | (go_at_call 43; refine (hd _).mono ?_; rintro e w2 ⟨rfl, hb2⟩; obtain ⟨hc2, hf2⟩ := bcell hb2; have hz2 := hb2.size; (try simp at hz2); (try have y20 : w.heap.size < w2.heap.size := (by omega)); (try have y21 : w.heap.size + 1 < w2.heap.size := (by omega)); (try have y22 : w.heap.size + 1 + 1 < w2.heap.size := (by omega)); (try have y23 : w.heap.size + 1 + 1 + 1 < w2.heap.size := (by omega)); (try have y24 : w.heap.size + 1 + 1 + 1 + 1 < w2.heap.size := (by omega))))
    go_ret2
    refine ⟨rfl, ?_⟩
    repeat (first | exact Below.refl _ _ | refine Below.drew ?_ | refine below_drewN ?_ _ | refine Below.setCell ?_ ?_ _ | refine Below.alloc ?_ ?_ _ | (refine Below.trans ?_ (bmono (by assumption) ?_)))
    all_goals (first | omega | (simp <;> omega))

def distV (x y z a b c : Int) : Int × Int := if inV x y z && inV a b c then ((x + -1 * a) * (x + -1 * a) + (y + -1 * b) * (y + -1 * b) + (z + -1 * c) * (z + -1 * c), 0) else (0, 6)
set_option maxHeartbeats 2000000 in
theorem dist_any (x y z a b c : Int) (w : World) :
    Calls Try.prog 24 #[.agg #[.int .i64 x, .int .i64 y, .int .i64 z], .agg #[.int .i64 a, .int .i64 b, .int .i64 c]] w fun e w' => e = .returned (.tuple #[.int .i64 (distV x y z a b c).1, .int .i64 (distV x y z a b c).2]) ∧ Below w.heap.size w w' := by
  have hck := fun A cap W (h : Reads W W.heap.size 3 A [(x, y, z), (a, b, c)].length (encTs [(x, y, z), (a, b, c)])) => checkEach_any A cap [(x, y, z), (a, b, c)] W (by simp) h
  rw [errT_two] at hck
  cases h : inV x y z && inV a b c
  · rw [h] at hck
    rw [show distV x y z a b c = (0, 6) by simp only [distV, h, Bool.false_eq_true, if_false]]
    simp only [Bool.false_eq_true, if_false] at hck
    clear h
    go_enter Try.func24, Try.ntmps24
    go_wp2_with (go_at_call 36; refine (hck _ _ _ (readsT_new (by simp) rfl)).mono ?_; rintro e w1 ⟨rfl, hb1⟩; obtain ⟨hc1, hf1⟩ := bcell hb1; have hz1 := hb1.size; (try simp at hz1); (try have y10 : w.heap.size < w1.heap.size := (by omega)); (try have y11 : w.heap.size + 1 < w1.heap.size := (by omega)); (try have y12 : w.heap.size + 1 + 1 < w1.heap.size := (by omega)); (try have y13 : w.heap.size + 1 + 1 + 1 < w1.heap.size := (by omega)); (try have y14 : w.heap.size + 1 + 1 + 1 + 1 < w1.heap.size := (by omega)))
    go_ret2
    refine ⟨rfl, ?_⟩
    repeat (first | exact Below.refl _ _ | refine Below.drew ?_ | refine below_drewN ?_ _ | refine Below.setCell ?_ ?_ _ | refine Below.alloc ?_ ?_ _ | (refine Below.trans ?_ (bmono (by assumption) ?_)))
    all_goals (first | omega | (simp <;> omega))
  · rw [h] at hck
    rw [show distV x y z a b c = ((x + -1 * a) * (x + -1 * a) + (y + -1 * b) * (y + -1 * b) + (z + -1 * c) * (z + -1 * c), 0) by simp only [distV, h, if_true]]
    simp only [if_true] at hck
    rw [Bool.and_eq_true] at h
    have hcm := combined_in x y z a b c (-1) h.1 h.2 (.inr rfl)
    obtain ⟨b1, b2, b3⟩ := inV_abs h.1
    obtain ⟨b4, b5, b6⟩ := inV_abs h.2
    have hp : (x + -1 * a).natAbs ≤ 2000000 := by omega
    have hq : (y + -1 * b).natAbs ≤ 2000000 := by omega
    have hr : (z + -1 * c).natAbs ≤ 2000000 := by omega
    clear h b1 b2 b3 b4 b5 b6
    generalize (x + -1 * a) = p at hcm hp ⊢
    generalize (y + -1 * b) = q at hcm hq ⊢
    generalize (z + -1 * c) = r at hcm hr ⊢
    have hd := dot_in p q r p q r 2000000 (by omega) hp hq hr hp hq hr
    clear hp hq hr
    generalize p * p + q * q + r * r = R at hd ⊢
    go_enter Try.func24, Try.ntmps24
    go_wp2_with (first
      | (go_at_call 36; refine (hck _ _ _ (readsT_new (by simp) rfl)).mono ?_; rintro e w1 ⟨rfl, hb1⟩; obtain ⟨hc1, hf1⟩ := bcell hb1; have hz1 := hb1.size; (try simp at hz1); (try have y10 : w.heap.size < w1.heap.size := (by omega)); (try have y11 : w.heap.size + 1 < w1.heap.size := (by omega)); (try have y12 : w.heap.size + 1 + 1 < w1.heap.size := (by omega)); (try have y13 : w.heap.size + 1 + 1 + 1 < w1.heap.size := (by omega)); (try have y14 : w.heap.size + 1 + 1 + 1 + 1 < w1.heap.size := (by omega)))
      | (go_at_call 38; refine (hcm _).mono ?_; rintro e w2 ⟨rfl, hb2⟩; obtain ⟨hc2, hf2⟩ := bcell hb2; have hz2 := hb2.size; (try simp at hz2); (try have y20 : w.heap.size < w2.heap.size := (by omega)); (try have y21 : w.heap.size + 1 < w2.heap.size := (by omega)); (try have y22 : w.heap.size + 1 + 1 < w2.heap.size := (by omega)); (try have y23 : w.heap.size + 1 + 1 + 1 < w2.heap.size := (by omega)); (try have y24 : w.heap.size + 1 + 1 + 1 + 1 < w2.heap.size := (by omega)))
      | (go_at_call 43; refine (hd _).mono ?_; rintro e w3 ⟨rfl, hb3⟩; obtain ⟨hc3, hf3⟩ := bcell hb3; have hz3 := hb3.size; (try simp at hz3); (try have y30 : w.heap.size < w3.heap.size := (by omega)); (try have y31 : w.heap.size + 1 < w3.heap.size := (by omega)); (try have y32 : w.heap.size + 1 + 1 < w3.heap.size := (by omega)); (try have y33 : w.heap.size + 1 + 1 + 1 < w3.heap.size := (by omega)); (try have y34 : w.heap.size + 1 + 1 + 1 + 1 < w3.heap.size := (by omega))))
    go_ret2
    refine ⟨rfl, ?_⟩
    repeat (first | exact Below.refl _ _ | refine Below.drew ?_ | refine below_drewN ?_ _ | refine Below.setCell ?_ ?_ _ | refine Below.alloc ?_ ?_ _ | (refine Below.trans ?_ (bmono (by assumption) ?_)))
    all_goals (first | omega | (simp <;> omega))

set_option maxHeartbeats 1000000 in
theorem refAdd_any (x y z a b c : Int) (w : World) :
    Calls Try.prog 20 #[.agg #[.int .i64 x, .int .i64 y, .int .i64 z], .agg #[.int .i64 a, .int .i64 b, .int .i64 c]] w fun e w' => e = .returned (.agg #[.int .i64 (wrap64 (x + a)), .int .i64 (wrap64 (y + b)), .int .i64 (wrap64 (z + c))]) ∧ Below w.heap.size w w' := by
  go_enter Try.func20, Try.ntmps20
  go_wp2
  exact bodyPost_ret (v := .agg #[.int .i64 (wrap64 (x + a)), .int .i64 (wrap64 (y + b)), .int .i64 (wrap64 (z + c))]) (by simp [results, Try.results20, go_sem]) rfl ⟨rfl, by
    repeat (first | exact Below.refl _ _ | refine Below.drew ?_ | refine below_drewN ?_ _ | refine Below.setCell ?_ ?_ _ | refine Below.alloc ?_ ?_ _ | (refine Below.trans ?_ (bmono (by assumption) ?_)))
    all_goals (first | omega | (simp <;> omega))⟩
set_option maxHeartbeats 1000000 in
theorem refSub_any (x y z a b c : Int) (w : World) :
    Calls Try.prog 21 #[.agg #[.int .i64 x, .int .i64 y, .int .i64 z], .agg #[.int .i64 a, .int .i64 b, .int .i64 c]] w fun e w' => e = .returned (.agg #[.int .i64 (wrap64 (x - a)), .int .i64 (wrap64 (y - b)), .int .i64 (wrap64 (z - c))]) ∧ Below w.heap.size w w' := by
  go_enter Try.func21, Try.ntmps21
  go_wp2
  exact bodyPost_ret (v := .agg #[.int .i64 (wrap64 (x - a)), .int .i64 (wrap64 (y - b)), .int .i64 (wrap64 (z - c))]) (by simp [results, Try.results21, go_sem]) rfl ⟨rfl, by
    repeat (first | exact Below.refl _ _ | refine Below.drew ?_ | refine below_drewN ?_ _ | refine Below.setCell ?_ ?_ _ | refine Below.alloc ?_ ?_ _ | (refine Below.trans ?_ (bmono (by assumption) ?_)))
    all_goals (first | omega | (simp <;> omega))⟩
set_option maxHeartbeats 1000000 in
theorem refDot_any (x y z a b c : Int) (w : World) :
    Calls Try.prog 25 #[.agg #[.int .i64 x, .int .i64 y, .int .i64 z], .agg #[.int .i64 a, .int .i64 b, .int .i64 c]] w fun e w' => e = .returned (.int .i64 (wrap64 (wrap64 (wrap64 (x * a) + wrap64 (y * b)) + wrap64 (z * c)))) ∧ Below w.heap.size w w' := by
  go_enter Try.func25, Try.ntmps25
  go_wp2
  go_ret
  refine ⟨rfl, ?_⟩
  repeat (first | exact Below.refl _ _ | refine Below.drew ?_ | refine below_drewN ?_ _ | refine Below.setCell ?_ ?_ _ | refine Below.alloc ?_ ?_ _ | (refine Below.trans ?_ (bmono (by assumption) ?_)))
  all_goals (first | omega | (simp <;> omega))
set_option maxHeartbeats 1000000 in
theorem refCross_any (x y z a b c : Int) (w : World) :
    Calls Try.prog 26 #[.agg #[.int .i64 x, .int .i64 y, .int .i64 z], .agg #[.int .i64 a, .int .i64 b, .int .i64 c]] w fun e w' => e = .returned (.agg #[.int .i64 (wrap64 (wrap64 (y * c) - wrap64 (z * b))), .int .i64 (wrap64 (wrap64 (z * a) - wrap64 (x * c))), .int .i64 (wrap64 (wrap64 (x * b) - wrap64 (y * a)))]) ∧ Below w.heap.size w w' := by
  go_enter Try.func26, Try.ntmps26
  go_wp2
  exact bodyPost_ret (v := .agg #[.int .i64 (wrap64 (wrap64 (y * c) - wrap64 (z * b))), .int .i64 (wrap64 (wrap64 (z * a) - wrap64 (x * c))), .int .i64 (wrap64 (wrap64 (x * b) - wrap64 (y * a)))]) (by simp [results, Try.results26, go_sem]) rfl ⟨rfl, by
    repeat (first | exact Below.refl _ _ | refine Below.drew ?_ | refine below_drewN ?_ _ | refine Below.setCell ?_ ?_ _ | refine Below.alloc ?_ ?_ _ | (refine Below.trans ?_ (bmono (by assumption) ?_)))
    all_goals (first | omega | (simp <;> omega))⟩
end Go.Proofs.Ythlidkmalfjmbaa
