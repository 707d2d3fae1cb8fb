/- The walks of span's and the reference's functions on one and two intervals. No condition but that Go's ints are ints. -/
import Derived.Test.YtnpdmohclajmjaaNum
namespace Go.Proofs.Ytnpdmohclajmjaa
open Go.RowKit

set_option maxHeartbeats 400000 in
theorem bounded_any (x : Int × Int) (w : World) :
    Calls Try.prog 42 #[.agg #[.int .i64 x.1, .int .i64 x.2]] w fun e w' => e = .returned (.tuple #[.agg #[.int .i64 (bndS x).1.1, .int .i64 (bndS x).1.2], .int .i64 (bndS x).2]) ∧ Below w.heap.size w w' := by
  by_cases hin : inR x = true
  · rw [show bndS x = (x, 0) by simp [bndS, hin]]
    go_enter Try.func42, Try.ntmps42
    go_wp2_with (go_at_call 50; refine (inRange_any _ _).mono ?_; rintro e w' ⟨rfl, hb2⟩; obtain ⟨hc, _⟩ := bcell hb2)
    have hB := (((Below.refl w.heap.size w).alloc (Nat.le_refl _) _).alloc (by simp) _).trans (bmono hb2 (by simp; omega))
    exact bodyPost_ret (v := .tuple #[.agg #[.int .i64 x.1, .int .i64 x.2], .int .i64 0]) (by simp [results, Try.results42, go_sem, hc]) rfl ⟨rfl, (hB.setCell (by simp) _).setCell (by simp) _⟩
  · have hin' : inR x = false := by simpa using hin
    rw [show bndS x = ((0, 0), 6) by simp [bndS, hin']]
    go_enter Try.func42, Try.ntmps42
    go_wp2_with (go_at_call 50; refine (inRange_any _ _).mono ?_; rintro e w' ⟨rfl, hb2⟩; obtain ⟨hc, _⟩ := bcell hb2)
    have hB := (((Below.refl w.heap.size w).alloc (Nat.le_refl _) _).alloc (by simp) _).trans (bmono hb2 (by simp; omega))
    exact bodyPost_ret (v := .tuple #[.agg #[.int .i64 0, .int .i64 0], .int .i64 6]) (by simp [results, Try.results42, go_sem, hc]) rfl ⟨rfl, (hB.setCell (by simp) _).setCell (by simp) _⟩

set_option maxHeartbeats 400000 in
theorem result_any (x : Int × Int) (w : World) :
    Calls Try.prog 44 #[.agg #[.int .i64 x.1, .int .i64 x.2]] w fun e w' => e = .returned (.tuple #[.agg #[.int .i64 (bndS x).1.1, .int .i64 (bndS x).1.2], .int .i64 (bndS x).2]) ∧ Below w.heap.size w w' := by
  by_cases hin : inR x = true
  · rw [show bndS x = (x, 0) by simp [bndS, hin]]
    go_enter Try.func44, Try.ntmps44
    go_wp2_with (go_at_call 51; refine (outside_any _ _).mono ?_; rintro e w' ⟨rfl, hb2⟩; obtain ⟨hc, _⟩ := bcell hb2)
    have hB := (((Below.refl w.heap.size w).alloc (Nat.le_refl _) _).alloc (by simp) _).trans (bmono hb2 (by simp; omega))
    exact bodyPost_ret (v := .tuple #[.agg #[.int .i64 x.1, .int .i64 x.2], .int .i64 0]) (by simp [results, Try.results44, go_sem, hc]) rfl ⟨rfl, (hB.setCell (by simp) _).setCell (by simp) _⟩
  · have hin' : inR x = false := by simpa using hin
    rw [show bndS x = ((0, 0), 6) by simp [bndS, hin']]
    go_enter Try.func44, Try.ntmps44
    go_wp2_with (go_at_call 51; refine (outside_any _ _).mono ?_; rintro e w' ⟨rfl, hb2⟩; obtain ⟨hc, _⟩ := bcell hb2)
    have hB := (((Below.refl w.heap.size w).alloc (Nat.le_refl _) _).alloc (by simp) _).trans (bmono hb2 (by simp; omega))
    exact bodyPost_ret (v := .tuple #[.agg #[.int .i64 0, .int .i64 0], .int .i64 6]) (by simp [results, Try.results44, go_sem, hc]) rfl ⟨rfl, (hB.setCell (by simp) _).setCell (by simp) _⟩

/-- a fresh block that holds intervals reads as the list of them -/
theorem reads_new {w : World} {l : List (Int × Int)} {cs : Array Value} {g : Nat} (hg : g = w.heap.size) (hcs : cs = (encL l).toArray) :
    Reads (w.alloc (.cells cs 23)) (w.alloc (.cells cs 23)).heap.size 2 (some ⟨g, 0, none⟩) l.length (encL l) := by
  subst hg hcs
  refine ⟨encL_len l, fun _ => ⟨_, rfl, by simp, fun j u hu => ?_⟩⟩
  rw [Addr.add_lit, Nat.zero_add]
  simpa [go_sem] using hu

set_option maxHeartbeats 400000 in
theorem check_any (x : Int × Int) (w : World) :
    Calls Try.prog 11 #[.agg #[.int .i64 x.1, .int .i64 x.2]] w fun e w' => e = .returned (.int .i64 (errOf [x])) ∧ Below w.heap.size w w' := by
  go_enter Try.func11, Try.ntmps11
  go_wp2_with (go_at_call 40; refine (checkEach_any _ _ [x] _ (by simp) (reads_new (by simp) rfl)).mono ?_; rintro e w' ⟨rfl, hb2⟩)
  have hB := (((Below.refl w.heap.size w).alloc (Nat.le_refl _) _).alloc (by simp) _).trans (bmono hb2 (by simp; omega))
  go_ret
  exact ⟨rfl, hB⟩

set_option maxHeartbeats 400000 in
theorem refCheck_any (x : Int × Int) (w : World) :
    Calls Try.prog 12 #[.agg #[.int .i64 x.1, .int .i64 x.2]] w fun e w' => e = .returned (.int .i64 (errOf [x])) ∧ Below w.heap.size w w' := by
  go_enter Try.func12, Try.ntmps12
  go_wp2_with (go_at_call 41; refine (all_any _ _ [x] _ (by simp) (reads_new (by simp) rfl)).mono ?_; rintro e w' ⟨rfl, hb2⟩)
  have hB := (((Below.refl w.heap.size w).alloc (Nat.le_refl _) _).alloc (by simp) _).trans (bmono hb2 (by simp; omega))
  go_ret
  exact ⟨rfl, hB⟩

theorem errOf_two {a b : Int × Int} (h : errOf [a, b] = 0) : -1000000000000 ≤ a.1 ∧ a.1 ≤ a.2 ∧ a.2 ≤ 1000000000000 ∧ -1000000000000 ≤ b.1 ∧ b.1 ≤ b.2 ∧ b.2 ≤ 1000000000000 := by
  unfold errOf at h
  split at h
  · split at h
    · rename_i h1 h2
      simp only [List.all_cons, List.all_nil, Bool.and_true, Bool.and_eq_true, decide_eq_true_eq, inR_iff] at h1 h2
      omega
    · cases h
  · cases h

def contS (a : Int × Int) (n : Int) : Bool := decide (a.1 ≤ n) && decide (n ≤ a.2)
def withS (a b : Int × Int) : Bool := decide (a.2 < a.1) || (decide (b.1 ≤ a.1) && decide (a.2 ≤ b.2))
def lenS (a : Int × Int) : Int := if errOf [a] = 0 then a.2 - a.1 + 1 else 0

set_option maxHeartbeats 400000 in
theorem contains_any (x : Int × Int) (n : Int) (w : World) :
    Calls Try.prog 13 #[.agg #[.int .i64 x.1, .int .i64 x.2], .int .i64 n] w fun e w' => e = .returned (.bool (contS x n)) ∧ Below w.heap.size w w' := by
  have key : ∀ c : Bool, (c = true ↔ contS x n = true) → contS x n = c := by
    intro c h; cases hx : contS x n <;> cases c <;> simp_all
  simp only [contS, Bool.and_eq_true, decide_eq_true_eq] at key
  rw [show (decide (x.1 ≤ n) && decide (n ≤ x.2)) = contS x n from rfl] at key
  generalize contS x n = r at key ⊢
  have K := Lib.hid key; clear key
  go_enter Try.func13, Try.ntmps13
  go_wp2
  all_goals (go_ret; refine ⟨ret_bool (K.out _ ?_).symm, (Below.refl _ _).alloc (Nat.le_refl _) _⟩; simp; omega)

set_option maxHeartbeats 400000 in
theorem refContains_any (x : Int × Int) (n : Int) (w : World) :
    Calls Try.prog 14 #[.agg #[.int .i64 x.1, .int .i64 x.2], .int .i64 n] w fun e w' => e = .returned (.bool (contS x n)) ∧ Below w.heap.size w w' := by
  have key : ∀ c : Bool, (c = true ↔ contS x n = true) → contS x n = c := by
    intro c h; cases hx : contS x n <;> cases c <;> simp_all
  simp only [contS, Bool.and_eq_true, decide_eq_true_eq] at key
  rw [show (decide (x.1 ≤ n) && decide (n ≤ x.2)) = contS x n from rfl] at key
  generalize contS x n = r at key ⊢
  have K := Lib.hid key; clear key
  go_enter Try.func14, Try.ntmps14
  go_wp2
  all_goals (go_ret; refine ⟨ret_bool (K.out _ ?_).symm, (Below.refl _ _).alloc (Nat.le_refl _) _⟩; simp; omega)

set_option maxHeartbeats 400000 in
theorem within_any (x y : Int × Int) (w : World) :
    Calls Try.prog 15 #[.agg #[.int .i64 x.1, .int .i64 x.2], .agg #[.int .i64 y.1, .int .i64 y.2]] w fun e w' => e = .returned (.bool (withS x y)) ∧ Below w.heap.size w w' := by
  have key : ∀ c : Bool, (c = true ↔ withS x y = true) → withS x y = c := by
    intro c h; cases hx : withS x y <;> cases c <;> simp_all
  simp only [withS, Bool.and_eq_true, Bool.or_eq_true, decide_eq_true_eq] at key
  rw [show (decide (x.2 < x.1) || (decide (y.1 ≤ x.1) && decide (x.2 ≤ y.2))) = withS x y from rfl] at key
  generalize withS x y = r at key ⊢
  have K := Lib.hid key; clear key
  go_enter Try.func15, Try.ntmps15
  go_wp2
  all_goals (go_ret; refine ⟨ret_bool (K.out _ ?_).symm, ((Below.refl _ _).alloc (Nat.le_refl _) _).alloc (by simp) _⟩; simp; omega)

set_option maxHeartbeats 400000 in
theorem refWithin_any (x y : Int × Int) (w : World) :
    Calls Try.prog 16 #[.agg #[.int .i64 x.1, .int .i64 x.2], .agg #[.int .i64 y.1, .int .i64 y.2]] w fun e w' => e = .returned (.bool (withS x y)) ∧ Below w.heap.size w w' := by
  have key : ∀ c : Bool, (c = true ↔ withS x y = true) → withS x y = c := by
    intro c h; cases hx : withS x y <;> cases c <;> simp_all
  simp only [withS, Bool.and_eq_true, Bool.or_eq_true, decide_eq_true_eq] at key
  rw [show (decide (x.2 < x.1) || (decide (y.1 ≤ x.1) && decide (x.2 ≤ y.2))) = withS x y from rfl] at key
  generalize withS x y = r at key ⊢
  have K := Lib.hid key; clear key
  go_enter Try.func16, Try.ntmps16
  go_wp2
  all_goals (go_ret; refine ⟨ret_bool (K.out _ ?_).symm, ((Below.refl _ _).alloc (Nat.le_refl _) _).alloc (by simp) _⟩; simp; omega)

theorem errOf_one {a : Int × Int} (h : errOf [a] = 0) : -1000000000000 ≤ a.1 ∧ a.1 ≤ a.2 ∧ a.2 ≤ 1000000000000 := by
  unfold errOf at h
  split at h
  · split at h
    · rename_i h1 h2
      simp only [List.all_cons, List.all_nil, Bool.and_true, decide_eq_true_eq, inR_iff] at h1 h2
      omega
    · cases h
  · cases h
theorem errOf_cases (l : List (Int × Int)) : errOf l = 0 ∨ errOf l = 1 ∨ errOf l = 6 := by
  unfold errOf; split
  · split <;> simp
  · simp

set_option maxHeartbeats 400000 in
theorem length_any (x : Int × Int) (w : World) :
    Calls Try.prog 17 #[.agg #[.int .i64 x.1, .int .i64 x.2]] w fun e w' => e = .returned (.int .i64 (lenS x)) ∧ Below w.heap.size w w' := by
  have hck := fun W => check_any x W
  by_cases h0 : errOf [x] = 0
  · have hb := errOf_one h0
    obtain ⟨hb1, hb2, hb3⟩ := hb
    rw [show lenS x = x.2 - x.1 + 1 by unfold lenS; rw [if_pos h0]]
    rw [h0] at hck
    clear h0
    go_enter Try.func17, Try.ntmps17
    go_wp2_with (go_at_call 11; refine (hck _).mono ?_; rintro e w' ⟨rfl, hb2⟩; obtain ⟨hc, _⟩ := bcell hb2)
    have hB := ((Below.refl w.heap.size w).alloc (Nat.le_refl _) _).trans (bmono hb2 (by simp))
    go_ret
    exact ⟨rfl, hB⟩
  · have hne : (errOf [x] == 0) = false := by simpa using h0
    have hne' : (errOf [x] != 0) = true := by simpa using h0
    rw [show lenS x = 0 by unfold lenS; rw [if_neg h0]]
    generalize errOf [x] = c at hck hne hne' h0
    go_enter Try.func17, Try.ntmps17
    go_wp2_with (go_at_call 11; refine (hck _).mono ?_; rintro e w' ⟨rfl, hb2⟩)
    have hB := ((Below.refl w.heap.size w).alloc (Nat.le_refl _) _).trans (bmono hb2 (by simp))
    go_ret
    exact ⟨rfl, hB⟩

set_option maxHeartbeats 400000 in
theorem refLength_any (x : Int × Int) (w : World) :
    Calls Try.prog 18 #[.agg #[.int .i64 x.1, .int .i64 x.2]] w fun e w' => e = .returned (.int .i64 (lenS x)) ∧ Below w.heap.size w w' := by
  have hck := fun W => refCheck_any x W
  by_cases h0 : errOf [x] = 0
  · have hb := errOf_one h0
    obtain ⟨hb1, hb2, hb3⟩ := hb
    rw [show lenS x = x.2 - x.1 + 1 by unfold lenS; rw [if_pos h0]]
    rw [h0] at hck
    clear h0
    go_enter Try.func18, Try.ntmps18
    go_wp2_with (go_at_call 12; refine (hck _).mono ?_; rintro e w' ⟨rfl, hb2⟩; obtain ⟨hc, _⟩ := bcell hb2)
    have hB := ((Below.refl w.heap.size w).alloc (Nat.le_refl _) _).trans (bmono hb2 (by simp))
    go_ret
    exact ⟨rfl, hB⟩
  · have hne : (errOf [x] == 0) = false := by simpa using h0
    have hne' : (errOf [x] != 0) = true := by simpa using h0
    rw [show lenS x = 0 by unfold lenS; rw [if_neg h0]]
    generalize errOf [x] = c at hck hne hne' h0
    go_enter Try.func18, Try.ntmps18
    go_wp2_with (go_at_call 12; refine (hck _).mono ?_; rintro e w' ⟨rfl, hb2⟩)
    have hB := ((Below.refl w.heap.size w).alloc (Nat.le_refl _) _).trans (bmono hb2 (by simp))
    go_ret
    exact ⟨rfl, hB⟩

end Go.Proofs.Ytnpdmohclajmjaa
