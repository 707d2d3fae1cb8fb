/- KerfFits: as many slices fit as Most returns, and no more; the greatest thickness; greater kerfs and thicknesses. No condition. -/
import Derived.Test.YtogmgaaejepcbaaAwk
import Derived.Test.YtogmgaaejepcbaaLfk
import Derived.Test.YtogmgaaejepcbaaCs
namespace Go.Proofs.Ytogmgaaejepcbaa
open Go.ChangeShapes Go.WideShapes Go.ChangeAt Go.RowKit Go.Deep

theorem ediv_two {a b q : Int} (hb : 0 < b) (h : a / b = q) : q * b ≤ a ∧ a < q * b + b := by
  have h1 := Int.mul_ediv_add_emod a b
  have h2 := Int.emod_nonneg a (b := b) (by omega)
  have h3 := Int.emod_lt_of_pos a hb
  rw [h, Int.mul_comm] at h1
  omega
theorem le_of_mul {q n b : Int} (hb : 0 < b) (h : q * b < n * b + b) : q ≤ n := by
  apply Classical.byContradiction
  intro hn
  have h1 : n + 1 ≤ q := by omega
  have h2 := Int.mul_le_mul_of_nonneg_right h1 (Int.le_of_lt hb)
  rw [Int.add_mul] at h2
  omega
/-- a greater thickness gives no more slices -/
theorem most_thick {l t k m : Int} (hl : 1 ≤ l) (ht : 1 ≤ t) (hk : 0 ≤ k) (hm : 0 ≤ m) : (l + k) / (t + m + k) ≤ (l + k) / (t + k) := by
  obtain ⟨q, hq⟩ : ∃ q, (l + k) / (t + k) = q := ⟨_, rfl⟩
  obtain ⟨o, ho⟩ : ∃ o, (l + k) / (t + m + k) = o := ⟨_, rfl⟩
  rw [hq, ho]
  have h1 := ediv_two (by omega) hq
  have h2 := ediv_two (by omega) ho
  have h0 : 0 ≤ o := by rw [← ho]; exact Int.ediv_nonneg (by omega) (by omega)
  have h3 : 0 ≤ o * m := Int.mul_nonneg h0 hm
  refine le_of_mul (b := t + k) (by omega) ?_
  have e : o * (t + m + k) = o * (t + k) + o * m := by grind
  omega
/-- a greater kerf gives no more slices -/
theorem most_kerf {l t k m : Int} (hl : 1 ≤ l) (ht : 1 ≤ t) (hk : 0 ≤ k) (hm : 0 ≤ m) : (l + (k + m)) / (t + (k + m)) ≤ (l + k) / (t + k) := by
  obtain ⟨q, hq⟩ : ∃ q, (l + k) / (t + k) = q := ⟨_, rfl⟩
  obtain ⟨o, ho⟩ : ∃ o, (l + (k + m)) / (t + (k + m)) = o := ⟨_, rfl⟩
  rw [hq, ho]
  have h1 := ediv_two (by omega) hq
  have h2 := ediv_two (by omega) ho
  have q0 : 0 ≤ q := by rw [← hq]; exact Int.ediv_nonneg (by omega) (by omega)
  have h0 : 0 ≤ o := by rw [← ho]; exact Int.ediv_nonneg (by omega) (by omega)
  by_cases hz : o ≤ 0
  · omega
  · have h3 : 0 ≤ (o - 1) * m := Int.mul_nonneg (by omega) hm
    refine le_of_mul (b := t + k) (by omega) ?_
    have e : o * (t + (k + m)) = o * (t + k) + (o - 1) * m + m := by grind
    omega
theorem pick_le {c : Bool} {a b n : Int} (h : c = true → a ≤ n) (h0 : 0 ≤ n) (hb : b = 0) : (if c then a else b) ≤ n := by
  cases c
  · simpa [hb] using h0
  · simpa using h rfl
theorem err_two (c : Bool) : ((if c then 0 else 6 : Int) = 0) ∨ ((if c then 0 else 6 : Int) = 6) := by cases c <;> simp
set_option maxHeartbeats 16000000 in
set_option maxRecDepth 100000 in
theorem fits_0bad (l t s k m : Int) (hm0 : 0 ≤ m) (hm1 : m ≤ 1000) (em : mostOk l t k = false) (et : thOk l s k = false) (w : World) : Calls Try.prog 9 #[.int .i64 l, .int .i64 t, .int .i64 s, .int .i64 k, .int .i64 m] w fun e w' => e = .returned (.bool true) ∧ Below w.heap.size w w' := by
  have hA := awake_any
  have hM := Most_any l t k
  rw [em] at hM
  simp only [Bool.false_eq_true, if_false] at hM
  clear em
  have hT := Thick_bad l s k et
  clear et
  go_enter Try.func9, Try.ntmps9
  go_wp2_with (first
    | (go_at_call 22; refine (hM _).mono ?_; rintro e w' ⟨rfl, rfl⟩; have tk1 := trivial)
    | (go_at_call 12; refine (hA _).mono ?_; rintro e w1 ⟨rfl, hb1⟩)
    | (go_at_call 23; refine (hT _).mono ?_; rintro e w' ⟨rfl, rfl⟩))
  all_goals (go_ret; first | exact ⟨rfl, hb1⟩ | exact ⟨ret_bool (by simp <;> omega), hb1⟩ | (exfalso; omega))
set_option maxHeartbeats 16000000 in
set_option maxRecDepth 100000 in
theorem fits_0none (l t s k m : Int) (hm0 : 0 ≤ m) (hm1 : m ≤ 1000) (em : mostOk l t k = false) (et : thOk l s k = true) (hd1 : thD l s k < 1) (w : World) : Calls Try.prog 9 #[.int .i64 l, .int .i64 t, .int .i64 s, .int .i64 k, .int .i64 m] w fun e w' => e = .returned (.bool true) ∧ Below w.heap.size w w' := by
  have hA := awake_any
  have hM := Most_any l t k
  rw [em] at hM
  simp only [Bool.false_eq_true, if_false] at hM
  clear em
  have hT := Thick_ok l s k et
  rw [if_pos hd1, if_pos hd1] at hT
  clear et hd1
  go_enter Try.func9, Try.ntmps9
  go_wp2_with (first
    | (go_at_call 22; refine (hM _).mono ?_; rintro e w' ⟨rfl, rfl⟩; have tk1 := trivial)
    | (go_at_call 12; refine (hA _).mono ?_; rintro e w1 ⟨rfl, hb1⟩)
    | (go_at_call 23; refine (hT _).mono ?_; rintro e w' ⟨rfl, rfl⟩))
  all_goals (go_ret; first | exact ⟨rfl, hb1⟩ | exact ⟨ret_bool (by simp <;> omega), hb1⟩ | (exfalso; omega))
set_option maxHeartbeats 16000000 in
set_option maxRecDepth 100000 in
theorem fits_0ok (l t s k m : Int) (hm0 : 0 ≤ m) (hm1 : m ≤ 1000) (em : mostOk l t k = false) (et : thOk l s k = true) (hd1 : ¬ thD l s k < 1) (w : World) : Calls Try.prog 9 #[.int .i64 l, .int .i64 t, .int .i64 s, .int .i64 k, .int .i64 m] w fun e w' => e = .returned (.bool true) ∧ Below w.heap.size w w' := by
  have hA := awake_any
  have hM := Most_any l t k
  rw [em] at hM
  simp only [Bool.false_eq_true, if_false] at hM
  clear em
  have hT := Thick_ok l s k et
  rw [if_neg hd1, if_neg hd1] at hT
  unfold thOk at et
  simp only [Bool.and_eq_true] at et
  have j1 := rgB_iff.1 et.1
  have j2 := rgB_iff.1 et.2.1
  have j3 := rgB_iff.1 et.2.2
  clear et
  have hpb := mul_bd (a := s - 1) (b := k) (A := 999) (B := 1000) (by omega) (by omega) j3.1 j3.2
  have hD0 : thD l s k = (l - (s - 1) * k) / s := by
    unfold thD at hd1 ⊢
    split
    · rename_i hh; rw [if_pos hh] at hd1; omega
    · rfl
  rw [hD0] at hT hd1
  obtain ⟨D, hDe⟩ : ∃ D, (l - (s - 1) * k) / s = D := ⟨_, rfl⟩
  have hdd := ediv_two (by omega) hDe
  rw [hDe] at hT hd1
  clear hD0 hDe
  obtain ⟨P, hPe⟩ : ∃ P, (s - 1) * k = P := ⟨_, rfl⟩
  rw [hPe] at hpb hdd
  have y1 : s * (D + 1) = s * D + s := by rw [Int.mul_add]; omega
  rw [Int.mul_comm D s] at hdd
  have hsd : 0 ≤ s * D := Int.mul_nonneg (by omega) (by omega)
  have hDb : 1 * D ≤ s * D := Int.mul_le_mul_of_nonneg_right j2.1 (by omega)
  have hDc : D ≤ 2000000 := by omega
  clear hDb
  obtain ⟨G, hGe⟩ : ∃ G, s * D = G := ⟨_, rfl⟩
  rw [hGe] at y1 hdd hsd
  go_enter Try.func9, Try.ntmps9
  go_wp2_with (first
    | (go_at_call 22; refine (hM _).mono ?_; rintro e w' ⟨rfl, rfl⟩; have tk1 := trivial)
    | (go_at_call 12; refine (hA _).mono ?_; rintro e w1 ⟨rfl, hb1⟩)
    | (go_at_call 23; refine (hT _).mono ?_; rintro e w' ⟨rfl, rfl⟩))
  all_goals (go_ret; first | exact ⟨rfl, hb1⟩ | exact ⟨ret_bool (by simp <;> omega), hb1⟩ | (exfalso; omega))
set_option maxHeartbeats 16000000 in
set_option maxRecDepth 100000 in
theorem fits_1bad (l t s k m : Int) (hm0 : 0 ≤ m) (hm1 : m ≤ 1000) (em : mostOk l t k = true) (et : thOk l s k = false) (w : World) : Calls Try.prog 9 #[.int .i64 l, .int .i64 t, .int .i64 s, .int .i64 k, .int .i64 m] w fun e w' => e = .returned (.bool true) ∧ Below w.heap.size w w' := by
  have hA := awake_any
  have hM := Most_any l t k
  have hM2 := Most_any l (t + m) k
  have hM3 := Most_any l t (k + m)
  unfold mostOk at em
  simp only [Bool.and_eq_true] at em
  obtain ⟨e1, e2, e4⟩ := em
  have i1 := rgB_iff.1 e1
  have i2 := rgB_iff.1 e2
  have i4 := rgB_iff.1 e4
  rw [show mostOk l t k = true by simp [mostOk, e1, e2, e4], if_pos rfl, if_pos rfl] at hM
  have b0 := most_bd (l := l) (t := t) (k := k) i1.1 i1.2 i2.1 i4.1 i4.2
  have f2 : (if mostOk l (t + m) k then (l + k) / (t + m + k) else 0) ≤ (l + k) / (t + k) := pick_le (fun _ => most_thick i1.1 i2.1 i4.1 hm0) b0.1 rfl
  have f3 : (if mostOk l t (k + m) then (l + (k + m)) / (t + (k + m)) else 0) ≤ (l + k) / (t + k) := pick_le (fun _ => most_kerf i1.1 i2.1 i4.1 hm0) b0.1 rfl
  obtain ⟨n, hn⟩ : ∃ n, (l + k) / (t + k) = n := ⟨_, rfl⟩
  have hd := ediv_two (by omega) hn
  rw [hn] at hM b0 f2 f3
  have E2 := err_two (mostOk l (t + m) k)
  have E3 := err_two (mostOk l t (k + m))
  generalize (if mostOk l (t + m) k then (l + k) / (t + m + k) else 0) = M2 at hM2 f2
  generalize (if mostOk l t (k + m) then (l + (k + m)) / (t + (k + m)) else 0) = M3 at hM3 f3
  generalize (if mostOk l (t + m) k then 0 else 6 : Int) = R2 at hM2 E2
  generalize (if mostOk l t (k + m) then 0 else 6 : Int) = R3 at hM3 E3
  have p1 : 0 ≤ n * t := Int.mul_nonneg b0.1 (by omega)
  have p2 : 0 ≤ n * k := Int.mul_nonneg b0.1 i4.1
  rw [Int.mul_add] at hd
  have x1 : (n + 1) * t = n * t + t := by rw [Int.add_mul]; omega
  have x2 : (n - 1) * k = n * k - k := by rw [Int.sub_mul]; omega
  obtain ⟨A, hAe⟩ : ∃ A, n * t = A := ⟨_, rfl⟩
  obtain ⟨B, hBe⟩ : ∃ B, n * k = B := ⟨_, rfl⟩
  rw [hAe] at p1 x1 hd
  rw [hBe] at p2 x2 hd
  clear hn
  clear e1 e2 e4
  have hT := Thick_bad l s k et
  clear et
  rcases E2 with rfl | rfl <;> rcases E3 with rfl | rfl
  all_goals
    go_enter Try.func9, Try.ntmps9
    go_wp2_with (first
      | (revert tk2; intro tk2; go_at_call 22; refine (hM3 _).mono ?_; rintro e w' ⟨rfl, rfl⟩)
      | (revert tk1; intro tk1; go_at_call 22; refine (hM2 _).mono ?_; rintro e w' ⟨rfl, rfl⟩; have tk2 := trivial)
      | (go_at_call 22; refine (hM _).mono ?_; rintro e w' ⟨rfl, rfl⟩; have tk1 := trivial)
      | (go_at_call 12; refine (hA _).mono ?_; rintro e w1 ⟨rfl, hb1⟩)
      | (go_at_call 23; refine (hT _).mono ?_; rintro e w' ⟨rfl, rfl⟩))
    all_goals (go_ret; first | exact ⟨rfl, hb1⟩ | exact ⟨ret_bool (by simp <;> omega), hb1⟩ | (exfalso; omega))
set_option maxHeartbeats 16000000 in
set_option maxRecDepth 100000 in
theorem fits_1none (l t s k m : Int) (hm0 : 0 ≤ m) (hm1 : m ≤ 1000) (em : mostOk l t k = true) (et : thOk l s k = true) (hd1 : thD l s k < 1) (w : World) : Calls Try.prog 9 #[.int .i64 l, .int .i64 t, .int .i64 s, .int .i64 k, .int .i64 m] w fun e w' => e = .returned (.bool true) ∧ Below w.heap.size w w' := by
  have hA := awake_any
  have hM := Most_any l t k
  have hM2 := Most_any l (t + m) k
  have hM3 := Most_any l t (k + m)
  unfold mostOk at em
  simp only [Bool.and_eq_true] at em
  obtain ⟨e1, e2, e4⟩ := em
  have i1 := rgB_iff.1 e1
  have i2 := rgB_iff.1 e2
  have i4 := rgB_iff.1 e4
  rw [show mostOk l t k = true by simp [mostOk, e1, e2, e4], if_pos rfl, if_pos rfl] at hM
  have b0 := most_bd (l := l) (t := t) (k := k) i1.1 i1.2 i2.1 i4.1 i4.2
  have f2 : (if mostOk l (t + m) k then (l + k) / (t + m + k) else 0) ≤ (l + k) / (t + k) := pick_le (fun _ => most_thick i1.1 i2.1 i4.1 hm0) b0.1 rfl
  have f3 : (if mostOk l t (k + m) then (l + (k + m)) / (t + (k + m)) else 0) ≤ (l + k) / (t + k) := pick_le (fun _ => most_kerf i1.1 i2.1 i4.1 hm0) b0.1 rfl
  obtain ⟨n, hn⟩ : ∃ n, (l + k) / (t + k) = n := ⟨_, rfl⟩
  have hd := ediv_two (by omega) hn
  rw [hn] at hM b0 f2 f3
  have E2 := err_two (mostOk l (t + m) k)
  have E3 := err_two (mostOk l t (k + m))
  generalize (if mostOk l (t + m) k then (l + k) / (t + m + k) else 0) = M2 at hM2 f2
  generalize (if mostOk l t (k + m) then (l + (k + m)) / (t + (k + m)) else 0) = M3 at hM3 f3
  generalize (if mostOk l (t + m) k then 0 else 6 : Int) = R2 at hM2 E2
  generalize (if mostOk l t (k + m) then 0 else 6 : Int) = R3 at hM3 E3
  have p1 : 0 ≤ n * t := Int.mul_nonneg b0.1 (by omega)
  have p2 : 0 ≤ n * k := Int.mul_nonneg b0.1 i4.1
  rw [Int.mul_add] at hd
  have x1 : (n + 1) * t = n * t + t := by rw [Int.add_mul]; omega
  have x2 : (n - 1) * k = n * k - k := by rw [Int.sub_mul]; omega
  obtain ⟨A, hAe⟩ : ∃ A, n * t = A := ⟨_, rfl⟩
  obtain ⟨B, hBe⟩ : ∃ B, n * k = B := ⟨_, rfl⟩
  rw [hAe] at p1 x1 hd
  rw [hBe] at p2 x2 hd
  clear hn
  clear e1 e2 e4
  have hT := Thick_ok l s k et
  rw [if_pos hd1, if_pos hd1] at hT
  clear et hd1
  rcases E2 with rfl | rfl <;> rcases E3 with rfl | rfl
  all_goals
    go_enter Try.func9, Try.ntmps9
    go_wp2_with (first
      | (revert tk2; intro tk2; go_at_call 22; refine (hM3 _).mono ?_; rintro e w' ⟨rfl, rfl⟩)
      | (revert tk1; intro tk1; go_at_call 22; refine (hM2 _).mono ?_; rintro e w' ⟨rfl, rfl⟩; have tk2 := trivial)
      | (go_at_call 22; refine (hM _).mono ?_; rintro e w' ⟨rfl, rfl⟩; have tk1 := trivial)
      | (go_at_call 12; refine (hA _).mono ?_; rintro e w1 ⟨rfl, hb1⟩)
      | (go_at_call 23; refine (hT _).mono ?_; rintro e w' ⟨rfl, rfl⟩))
    all_goals (go_ret; first | exact ⟨rfl, hb1⟩ | exact ⟨ret_bool (by simp <;> omega), hb1⟩ | (exfalso; omega))
set_option maxHeartbeats 16000000 in
set_option maxRecDepth 100000 in
theorem fits_1ok (l t s k m : Int) (hm0 : 0 ≤ m) (hm1 : m ≤ 1000) (em : mostOk l t k = true) (et : thOk l s k = true) (hd1 : ¬ thD l s k < 1) (w : World) : Calls Try.prog 9 #[.int .i64 l, .int .i64 t, .int .i64 s, .int .i64 k, .int .i64 m] w fun e w' => e = .returned (.bool true) ∧ Below w.heap.size w w' := by
  have hA := awake_any
  have hM := Most_any l t k
  have hM2 := Most_any l (t + m) k
  have hM3 := Most_any l t (k + m)
  unfold mostOk at em
  simp only [Bool.and_eq_true] at em
  obtain ⟨e1, e2, e4⟩ := em
  have i1 := rgB_iff.1 e1
  have i2 := rgB_iff.1 e2
  have i4 := rgB_iff.1 e4
  rw [show mostOk l t k = true by simp [mostOk, e1, e2, e4], if_pos rfl, if_pos rfl] at hM
  have b0 := most_bd (l := l) (t := t) (k := k) i1.1 i1.2 i2.1 i4.1 i4.2
  have f2 : (if mostOk l (t + m) k then (l + k) / (t + m + k) else 0) ≤ (l + k) / (t + k) := pick_le (fun _ => most_thick i1.1 i2.1 i4.1 hm0) b0.1 rfl
  have f3 : (if mostOk l t (k + m) then (l + (k + m)) / (t + (k + m)) else 0) ≤ (l + k) / (t + k) := pick_le (fun _ => most_kerf i1.1 i2.1 i4.1 hm0) b0.1 rfl
  obtain ⟨n, hn⟩ : ∃ n, (l + k) / (t + k) = n := ⟨_, rfl⟩
  have hd := ediv_two (by omega) hn
  rw [hn] at hM b0 f2 f3
  have E2 := err_two (mostOk l (t + m) k)
  have E3 := err_two (mostOk l t (k + m))
  generalize (if mostOk l (t + m) k then (l + k) / (t + m + k) else 0) = M2 at hM2 f2
  generalize (if mostOk l t (k + m) then (l + (k + m)) / (t + (k + m)) else 0) = M3 at hM3 f3
  generalize (if mostOk l (t + m) k then 0 else 6 : Int) = R2 at hM2 E2
  generalize (if mostOk l t (k + m) then 0 else 6 : Int) = R3 at hM3 E3
  have p1 : 0 ≤ n * t := Int.mul_nonneg b0.1 (by omega)
  have p2 : 0 ≤ n * k := Int.mul_nonneg b0.1 i4.1
  rw [Int.mul_add] at hd
  have x1 : (n + 1) * t = n * t + t := by rw [Int.add_mul]; omega
  have x2 : (n - 1) * k = n * k - k := by rw [Int.sub_mul]; omega
  obtain ⟨A, hAe⟩ : ∃ A, n * t = A := ⟨_, rfl⟩
  obtain ⟨B, hBe⟩ : ∃ B, n * k = B := ⟨_, rfl⟩
  rw [hAe] at p1 x1 hd
  rw [hBe] at p2 x2 hd
  clear hn
  clear e1 e2 e4
  have hT := Thick_ok l s k et
  rw [if_neg hd1, if_neg hd1] at hT
  unfold thOk at et
  simp only [Bool.and_eq_true] at et
  have j1 := rgB_iff.1 et.1
  have j2 := rgB_iff.1 et.2.1
  have j3 := rgB_iff.1 et.2.2
  clear et
  have hpb := mul_bd (a := s - 1) (b := k) (A := 999) (B := 1000) (by omega) (by omega) j3.1 j3.2
  have hD0 : thD l s k = (l - (s - 1) * k) / s := by
    unfold thD at hd1 ⊢
    split
    · rename_i hh; rw [if_pos hh] at hd1; omega
    · rfl
  rw [hD0] at hT hd1
  obtain ⟨D, hDe⟩ : ∃ D, (l - (s - 1) * k) / s = D := ⟨_, rfl⟩
  have hdd := ediv_two (by omega) hDe
  rw [hDe] at hT hd1
  clear hD0 hDe
  obtain ⟨P, hPe⟩ : ∃ P, (s - 1) * k = P := ⟨_, rfl⟩
  rw [hPe] at hpb hdd
  have y1 : s * (D + 1) = s * D + s := by rw [Int.mul_add]; omega
  rw [Int.mul_comm D s] at hdd
  have hsd : 0 ≤ s * D := Int.mul_nonneg (by omega) (by omega)
  have hDb : 1 * D ≤ s * D := Int.mul_le_mul_of_nonneg_right j2.1 (by omega)
  have hDc : D ≤ 2000000 := by omega
  clear hDb
  obtain ⟨G, hGe⟩ : ∃ G, s * D = G := ⟨_, rfl⟩
  rw [hGe] at y1 hdd hsd
  rcases E2 with rfl | rfl <;> rcases E3 with rfl | rfl
  all_goals
    go_enter Try.func9, Try.ntmps9
    go_wp2_with (first
      | (revert tk2; intro tk2; go_at_call 22; refine (hM3 _).mono ?_; rintro e w' ⟨rfl, rfl⟩)
      | (revert tk1; intro tk1; go_at_call 22; refine (hM2 _).mono ?_; rintro e w' ⟨rfl, rfl⟩; have tk2 := trivial)
      | (go_at_call 22; refine (hM _).mono ?_; rintro e w' ⟨rfl, rfl⟩; have tk1 := trivial)
      | (go_at_call 12; refine (hA _).mono ?_; rintro e w1 ⟨rfl, hb1⟩)
      | (go_at_call 23; refine (hT _).mono ?_; rintro e w' ⟨rfl, rfl⟩))
    all_goals (go_ret; first | exact ⟨rfl, hb1⟩ | exact ⟨ret_bool (by simp <;> omega), hb1⟩ | (exfalso; omega))
set_option maxHeartbeats 2000000 in
set_option maxRecDepth 100000 in
theorem kerfFits_any (l t s k m : Int) (w : World) : Calls Try.prog 9 #[.int .i64 l, .int .i64 t, .int .i64 s, .int .i64 k, .int .i64 m] w fun e w' => e = .returned (.bool true) ∧ Below w.heap.size w w' := by
  have hA := awake_any
  by_cases h1 : m < 0
  · go_enter Try.func9, Try.ntmps9
    go_wp2_with (go_at_call 12; refine (hA _).mono ?_; rintro e w1 ⟨rfl, hb1⟩)
    go_ret
    exact ⟨rfl, hb1⟩
  · by_cases h2 : 1000 < m
    · go_enter Try.func9, Try.ntmps9
      go_wp2_with (go_at_call 12; refine (hA _).mono ?_; rintro e w1 ⟨rfl, hb1⟩)
      go_ret
      exact ⟨rfl, hb1⟩
    · cases em : mostOk l t k
      · cases et : thOk l s k
        · exact fits_0bad l t s k m (by omega) (by omega) em et w
        · by_cases hd1 : thD l s k < 1
          · exact fits_0none l t s k m (by omega) (by omega) em et hd1 w
          · exact fits_0ok l t s k m (by omega) (by omega) em et hd1 w
      · cases et : thOk l s k
        · exact fits_1bad l t s k m (by omega) (by omega) em et w
        · by_cases hd1 : thD l s k < 1
          · exact fits_1none l t s k m (by omega) (by omega) em et hd1 w
          · exact fits_1ok l t s k m (by omega) (by omega) em et hd1 w

set_option maxHeartbeats 800000 in
set_option maxRecDepth 100000 in
theorem kerfFits_lifted (os : Os) (started : os.Started) (H : Type) (enc : TypeId × Value → H) :
    ReturnsInHanded {} Try.checked os 9 .any (Rows.kerfFitsSpec.pre6 enc Try.prog Try.f9 Rows.kerfFitsRow.domain false) (Rows.kerfFitsSpec.post enc Try.prog Try.f9 false true false false) := by
  refine returnsInHanded_of_change (C := Try.checked) Try.own started (by kernel_rfl) Try.func9
    (ChangeSpec.witness6 (enc := enc) (C := Try.checked) false ⟨#[], #[.int .i64 0, .int .i64 0, .int .i64 0, .int .i64 0, .int .i64 0], []⟩ 8 (by kernel_rfl) (by kernel_rfl) (by kernel_rfl) (by kernel_rfl)) ?_
  intro W base args ds gs before hval0 hW _ _
  have hval : ∀ (j : Nat) t v, Try.f9.params[j]? = some t → args[j]? = some v → Value.okWide Try.prog W .any base t v := hval0
  have hW' := hW
  obtain ⟨p, q, hA0, hV, rfl, _, _⟩ := hW
  have hA : DataW.TrodAll enc Try.prog W 0 (fun _ => true) true Try.f9.params.toList args.toList ds p := hA0
  rw [Try.params9] at hA hval
  obtain ⟨v0, v1, v2, v3, v4, d0, d1, d2, d3, d4, p0, p1, p2, p3, p4, rfl, rfl, rfl, h0, h1, h2, h3, h4⟩ := trodAll_five hA
  obtain ⟨rfl, rfl⟩ := trodVars_none hV
  clear hA0 hval0
  simp only [List.append_nil] at hW'
  have harg0 : ∀ W' : World, Below W.heap.size W W' → DataW.Trod enc Try.prog W' 0 (fun b => decide (b < W.heap.size)) true 3 v0 d0 p0 :=
    fun W' hn => Below.trod Try.laidOut (by kernel_rfl) (of_decide_eq_true (by kernel_rfl)) h0 hn (fun y hy => by simpa using hW'.lt y (by simp [hy]))
  have harg1 : ∀ W' : World, Below W.heap.size W W' → DataW.Trod enc Try.prog W' 0 (fun b => decide (b < W.heap.size)) true 3 v1 d1 p1 :=
    fun W' hn => Below.trod Try.laidOut (by kernel_rfl) (of_decide_eq_true (by kernel_rfl)) h1 hn (fun y hy => by simpa using hW'.lt y (by simp [hy]))
  have harg2 : ∀ W' : World, Below W.heap.size W W' → DataW.Trod enc Try.prog W' 0 (fun b => decide (b < W.heap.size)) true 3 v2 d2 p2 :=
    fun W' hn => Below.trod Try.laidOut (by kernel_rfl) (of_decide_eq_true (by kernel_rfl)) h2 hn (fun y hy => by simpa using hW'.lt y (by simp [hy]))
  have harg3 : ∀ W' : World, Below W.heap.size W W' → DataW.Trod enc Try.prog W' 0 (fun b => decide (b < W.heap.size)) true 3 v3 d3 p3 :=
    fun W' hn => Below.trod Try.laidOut (by kernel_rfl) (of_decide_eq_true (by kernel_rfl)) h3 hn (fun y hy => by simpa using hW'.lt y (by simp [hy]))
  have harg4 : ∀ W' : World, Below W.heap.size W W' → DataW.Trod enc Try.prog W' 0 (fun b => decide (b < W.heap.size)) true 3 v4 d4 p4 :=
    fun W' hn => Below.trod Try.laidOut (by kernel_rfl) (of_decide_eq_true (by kernel_rfl)) h4 hn (fun y hy => by simpa using hW'.lt y (by simp [hy]))
  obtain ⟨l, rfl, _, _, _⟩ := open_int Try.underlying3 (hval 0 3 v0 rfl rfl) h0
  obtain ⟨t, rfl, _, _, _⟩ := open_int Try.underlying3 (hval 1 3 v1 rfl rfl) h1
  obtain ⟨s, rfl, _, _, _⟩ := open_int Try.underlying3 (hval 2 3 v2 rfl rfl) h2
  obtain ⟨k, rfl, _, _, _⟩ := open_int Try.underlying3 (hval 3 3 v3 rfl rfl) h3
  obtain ⟨m, rfl, _, _, _⟩ := open_int Try.underlying3 (hval 4 3 v4 rfl rfl) h4
  refine (kerfFits_any l t s k m W).mono fun e W' ⟨he, hn⟩ => ?_
  subst he
  exact ⟨_, rfl, _, _, _, [], _, [], hW', trodAll_mk1 (shut_bool Try.underlying4 _), trodAll_mk5 (harg0 _ hn) (harg1 _ hn) (harg2 _ hn) (harg3 _ hn) (harg4 _ hn), (List.append_nil _).symm, hn.frame _, fun h => by cases h⟩

theorem kerfFits_holds : Rows.KerfFitsSaid :=
  OpenClaim.holds_of_wide 9 Try.f9 rfl rfl rfl rfl rfl rfl rfl ⟨rfl, rfl, rfl, rfl, rfl⟩ rfl rfl rfl rfl rfl (by kernel_rfl) Try.func9 (by kernel_rfl)
    (of_decide_eq_true (by kernel_rfl)) (by unfold Func.isWrapper; first | (rw [if_pos (by decide +kernel)]; kernel_rfl) | (rw [if_neg (by decide +kernel)]; exact ⟨rfl, rfl⟩))
    (fun os started H enc _ => kerfFits_lifted os started H enc)
end Go.Proofs.Ytogmgaaejepcbaa
