/- The walks of the reference's least, span and Hull. The half-space and the box are valid. -/
import Derived.Test.YtoeniaafcnnnoaaHui
namespace Go.Proofs.Ytoeniaafcnnnoaa
open Go.RowKit

theorem ret_two {k l : IntKind} {a b a' b' : Int} (h1 : a = a') (h2 : b = b') : Ending.returned (.tuple #[.int k a, .int l b]) = .returned (.tuple #[.int k a', .int l b']) := by rw [h1, h2]
set_option maxHeartbeats 1000000 in
theorem least_gen (f lo hi A : Int) (e : lsI f lo hi = A) (hl : -1000000 ≤ lo ∧ lo ≤ 1000000) (hh : -1000000 ≤ hi ∧ hi ≤ 1000000) (hA : -2000000000 ≤ A ∧ A ≤ 2000000000) (w : World) :
    Calls Try.prog 65 #[.int .i64 f, .int .i64 lo, .int .i64 hi] w fun e w' => e = .returned (.int .i64 A) ∧ w = w' := by
  rcases Int.lt_or_le 0 f with hf | hf
  · have e1 : f * (lo + 1) = A := by rw [← e, lsI, if_pos hf]
    clear e
    go_enter Try.func65, Try.ntmps65
    go_wp2
    go_ret
    exact ⟨rfl, rfl⟩
  · have e1 : f * (hi - 1) = A := by rw [← e, lsI, if_neg (by omega)]
    clear e
    go_enter Try.func65, Try.ntmps65
    go_wp2
    go_ret
    exact ⟨rfl, rfl⟩
set_option maxHeartbeats 1000000 in
theorem span_gen (f lo hi rest sl l h : Int) (hr : rest = sl + lsI f lo hi) (hs : 0 ≤ sl) (hb : sl ≤ 20000000000) (el : spLo f lo hi sl = l) (eh : spHi f lo hi sl = h) (hlo : -1000000 ≤ lo ∧ lo < hi ∧ hi ≤ 1000000) (hA : -2000000000 ≤ lsI f lo hi ∧ lsI f lo hi ≤ 2000000000) (hf : -1000 ≤ f ∧ f ≤ 1000) (w : World) :
    Calls Try.prog 66 #[.int .i64 f, .int .i64 lo, .int .i64 hi, .int .i64 rest] w fun e w' => e = .returned (.tuple #[.int .i64 l, .int .i64 h]) ∧ w = w' := by
  rcases Int.lt_trichotomy f 0 with hf0 | hf0 | hf0
  · have hd := div_bd hs (f := -f) (by omega)
    have hq : rest / (-f) = sl / (-f) - (hi - 1) := by
      rw [hr, lsI, if_neg (by omega), show sl + f * (hi - 1) = sl + (-f) * (-(hi - 1)) by rw [Int.neg_mul_neg], Int.add_mul_ediv_left _ _ (by omega)]
      omega
    have hfl := floor_any rest (-f) (by omega) (by omega)
    rw [hq] at hfl
    have E1 : Hid (spLo f lo hi sl = l) := Lib.hid el
    have E2 := Lib.hid eh
    clear el eh hr hA hq
    obtain ⟨t, ht⟩ : ∃ t, t = sl / (-f) := ⟨_, rfl⟩
    rw [← ht] at hfl hd
    have HT := Lib.hid ht
    clear ht
    go_enter Try.func66, Try.ntmps66
    go_wp2_with (go_at_call 62; refine (hfl _).mono ?_; rintro e w' ⟨rfl, rfl⟩)
    all_goals go_ret2
    all_goals refine ⟨ret_two ?_ ?_, rfl⟩
    all_goals first
      | (rw [← E1.out, spLo, if_pos hf0, ← HT.out]; (repeat' split) <;> omega)
      | (rw [← E2.out, spHi, if_neg (by omega)])
  · subst hf0
    have E1 : hi = h := by rw [← eh]; simp [spHi]
    have E2 : lo = l := by rw [← el]; simp [spLo]
    clear el eh hr hA
    subst E1 E2
    go_enter Try.func66, Try.ntmps66
    go_wp2
    go_ret2
    exact ⟨rfl, rfl⟩
  · have hd := div_bd hs hf0
    have hq : rest / f = sl / f + (lo + 1) := by
      rw [hr, lsI, if_pos hf0, Int.add_mul_ediv_left _ _ (by omega)]
    have hfl := floor_any rest f (by omega) (by omega)
    rw [hq] at hfl
    have E1 : Hid (spLo f lo hi sl = l) := Lib.hid el
    have E2 := Lib.hid eh
    clear el eh hr hA hq
    obtain ⟨t, ht⟩ : ∃ t, t = sl / f := ⟨_, rfl⟩
    rw [← ht] at hfl hd
    have HT := Lib.hid ht
    clear ht
    go_enter Try.func66, Try.ntmps66
    go_wp2_with (go_at_call 62; refine (hfl _).mono ?_; rintro e w' ⟨rfl, rfl⟩)
    all_goals go_ret2
    all_goals refine ⟨ret_two ?_ ?_, rfl⟩
    all_goals first
      | (rw [← E1.out, spLo, if_neg (by omega)])
      | (rw [← E2.out, spHi, if_pos hf0, ← HT.out]; (repeat' split) <;> omega)
set_option maxHeartbeats 8000000 in
theorem rHull_gen (a b c d x y z p q r A B C R1 R2 R3 R4 R5 R6 : Int)
    (l1 : ∀ w, Calls Try.prog 65 #[.int .i64 a, .int .i64 x, .int .i64 p] w fun e w' => e = .returned (.int .i64 A) ∧ w = w')
    (l2 : ∀ w, Calls Try.prog 65 #[.int .i64 b, .int .i64 y, .int .i64 q] w fun e w' => e = .returned (.int .i64 B) ∧ w = w')
    (l3 : ∀ w, Calls Try.prog 65 #[.int .i64 c, .int .i64 z, .int .i64 r] w fun e w' => e = .returned (.int .i64 C) ∧ w = w')
    (s1 : A + B + C ≤ d → ∀ w, Calls Try.prog 66 #[.int .i64 a, .int .i64 x, .int .i64 p, .int .i64 (d - B - C)] w fun e w' => e = .returned (.tuple #[.int .i64 R1, .int .i64 R4]) ∧ w = w')
    (s2 : A + B + C ≤ d → ∀ w, Calls Try.prog 66 #[.int .i64 b, .int .i64 y, .int .i64 q, .int .i64 (d - A - C)] w fun e w' => e = .returned (.tuple #[.int .i64 R2, .int .i64 R5]) ∧ w = w')
    (s3 : A + B + C ≤ d → ∀ w, Calls Try.prog 66 #[.int .i64 c, .int .i64 z, .int .i64 r, .int .i64 (d - A - B)] w fun e w' => e = .returned (.tuple #[.int .i64 R3, .int .i64 R6]) ∧ w = w')
    (bd : -4000000000 ≤ d ∧ d ≤ 4000000000) (bA : -2000000000 ≤ A ∧ A ≤ 2000000000) (bB : -2000000000 ≤ B ∧ B ≤ 2000000000) (bC : -2000000000 ≤ C ∧ C ≤ 2000000000)
    (X1 X2 X3 X4 X5 X6 : Int) (ok : Bool) (hneg : d < A + B + C → (X1 = 0 ∧ X2 = 0 ∧ X3 = 0 ∧ X4 = 0 ∧ X5 = 0 ∧ X6 = 0) ∧ ok = false) (hpos : A + B + C ≤ d → (X1 = R1 ∧ X2 = R2 ∧ X3 = R3 ∧ X4 = R4 ∧ X5 = R5 ∧ X6 = R6) ∧ ok = true) (w : World) :
    Calls Try.prog 34 #[.agg #[.int .i64 a, .int .i64 b, .int .i64 c, .int .i64 d], .agg #[.int .i64 x, .int .i64 y, .int .i64 z, .int .i64 p, .int .i64 q, .int .i64 r]] w fun e w' => e = .returned (.tuple #[.agg #[.int .i64 X1, .int .i64 X2, .int .i64 X3, .int .i64 X4, .int .i64 X5, .int .i64 X6], .bool ok]) ∧ Below w.heap.size w w' := by
  rcases Int.lt_or_le d (A + B + C) with hs | hs
  · obtain ⟨⟨rfl, rfl, rfl, rfl, rfl, rfl⟩, rfl⟩ := hneg hs
    clear hneg hpos s1 s2 s3
    go_enter Try.func34, Try.ntmps34
    go_wp2
    go_quiet ((first
      | (go_at_call_of 65 x; exact (l1 _).mono fun _ _ h => ⟨h.1, _, h.2.symm⟩)
      | (go_at_call_of 65 y; exact (l2 _).mono fun _ _ h => ⟨h.1, _, h.2.symm⟩)
      | (go_at_call_of 65 z; exact (l3 _).mono fun _ _ h => ⟨h.1, _, h.2.symm⟩)))
    clear l1 l2 l3
    go_wp2
    exact bodyPost_ret (v := .tuple #[.agg #[.int .i64 0, .int .i64 0, .int .i64 0, .int .i64 0, .int .i64 0, .int .i64 0], .bool false]) (by simp [results, Try.results34, go_sem]) rfl ⟨rfl, by
      repeat (first | with_reducible exact Below.refl _ _ | with_reducible refine Below.setCell ?_ ?_ _ | with_reducible refine Below.alloc ?_ ?_ _ | with_reducible refine Below.drew ?_ | with_reducible refine below_drewN ?_ _ | (refine Below.trans ?_ (bmono (by assumption) ?_)))
      all_goals (first | omega | (simp <;> omega))⟩
  · obtain ⟨⟨rfl, rfl, rfl, rfl, rfl, rfl⟩, rfl⟩ := hpos hs
    have t1 := s1 hs
    have t2 := s2 hs
    have t3 := s3 hs
    clear hneg hpos s1 s2 s3
    go_enter Try.func34, Try.ntmps34
    go_wp2
    go_quiet ((first
      | (go_at_call_of 65 x; exact (l1 _).mono fun _ _ h => ⟨h.1, _, h.2.symm⟩)
      | (go_at_call_of 65 y; exact (l2 _).mono fun _ _ h => ⟨h.1, _, h.2.symm⟩)
      | (go_at_call_of 65 z; exact (l3 _).mono fun _ _ h => ⟨h.1, _, h.2.symm⟩)))
    clear l1 l2 l3
    go_wp2_with (first
      | (go_at_call_of 66 x; refine (t1 _).mono ?_; rintro e w' ⟨rfl, rfl⟩)
      | (go_at_call_of 66 y; refine (t2 _).mono ?_; rintro e w' ⟨rfl, rfl⟩)
      | (go_at_call_of 66 z; refine (t3 _).mono ?_; rintro e w' ⟨rfl, rfl⟩))
    exact bodyPost_ret (v := .tuple #[.agg #[.int .i64 X1, .int .i64 X2, .int .i64 X3, .int .i64 X4, .int .i64 X5, .int .i64 X6], .bool true]) (by simp [results, Try.results34, go_sem]) rfl ⟨rfl, by
      repeat (first | with_reducible exact Below.refl _ _ | with_reducible refine Below.setCell ?_ ?_ _ | with_reducible refine Below.alloc ?_ ?_ _ | with_reducible refine Below.drew ?_ | with_reducible refine below_drewN ?_ _ | (refine Below.trans ?_ (bmono (by assumption) ?_)))
      all_goals (first | omega | (simp <;> omega))⟩
theorem rHull_in (a b c d x y z p q r : Int) (h : eHB a b c d x y z p q r = 0) (X1 X2 X3 X4 X5 X6 : Int) (ok : Bool)
    (hneg : slk a b c d x y z p q r < 0 → (X1 = 0 ∧ X2 = 0 ∧ X3 = 0 ∧ X4 = 0 ∧ X5 = 0 ∧ X6 = 0) ∧ ok = false)
    (hpos : 0 ≤ slk a b c d x y z p q r → (X1 = spLo a x p (slk a b c d x y z p q r) ∧ X2 = spLo b y q (slk a b c d x y z p q r) ∧ X3 = spLo c z r (slk a b c d x y z p q r) ∧ X4 = spHi a x p (slk a b c d x y z p q r) ∧ X5 = spHi b y q (slk a b c d x y z p q r) ∧ X6 = spHi c z r (slk a b c d x y z p q r)) ∧ ok = true) (w : World) :
    Calls Try.prog 34 #[.agg #[.int .i64 a, .int .i64 b, .int .i64 c, .int .i64 d], .agg #[.int .i64 x, .int .i64 y, .int .i64 z, .int .i64 p, .int .i64 q, .int .i64 r]] w fun e w' => e = .returned (.tuple #[.agg #[.int .i64 X1, .int .i64 X2, .int .i64 X3, .int .i64 X4, .int .i64 X5, .int .i64 X6], .bool ok]) ∧ Below w.heap.size w w' := by
  have v := val_of h
  have i1 := inF_iff.1 v.fa; have i2 := inF_iff.1 v.fb; have i3 := inF_iff.1 v.fc; have i4 := inD_iff.1 v.fd
  have j1 := inC_iff.1 v.cx; have j2 := inC_iff.1 v.cy; have j3 := inC_iff.1 v.cz; have j4 := inC_iff.1 v.cp; have j5 := inC_iff.1 v.cq; have j6 := inC_iff.1 v.cr
  have k1 := v.lx; have k2 := v.ly; have k3 := v.lz
  have b1 := ls_bd v.fa v.cx v.cp
  have b2 := ls_bd v.fb v.cy v.cq
  have b3 := ls_bd v.fc v.cz v.cr
  have es : slk a b c d x y z p q r = d - lsI a x p - lsI b y q - lsI c z r := rfl
  exact rHull_gen a b c d x y z p q r _ _ _ _ _ _ _ _ _ (least_gen _ _ _ _ rfl j1 j4 b1) (least_gen _ _ _ _ rfl j2 j5 b2) (least_gen _ _ _ _ rfl j3 j6 b3)
    (fun hs => span_gen a x p _ (slk a b c d x y z p q r) _ _ (by omega) (by omega) (by omega) rfl rfl (by omega) b1 i1)
    (fun hs => span_gen b y q _ (slk a b c d x y z p q r) _ _ (by omega) (by omega) (by omega) rfl rfl (by omega) b2 i2)
    (fun hs => span_gen c z r _ (slk a b c d x y z p q r) _ _ (by omega) (by omega) (by omega) rfl rfl (by omega) b3 i3)
    i4 b1 b2 b3 X1 X2 X3 X4 X5 X6 ok (fun hs => hneg (by omega)) (fun hs => hpos (by omega)) w
end Go.Proofs.Ytoeniaafcnnnoaa
