/- The walks of span's and the reference's Add, Sub, Intersect and Hull, but for the reference's Add. No condition but that Go's ints are ints. -/
import Derived.Test.YtnpdmohclajmjaaPair
namespace Go.Proofs.Ytnpdmohclajmjaa
open Go.RowKit

def addS (a b : Int × Int) : (Int × Int) × Int := if errOf [a, b] = 0 then bndS (a.1 + b.1, a.2 + b.2) else ((0, 0), errOf [a, b])
def subS (a b : Int × Int) : (Int × Int) × Int := if errOf [a, b] = 0 then bndS (a.1 - b.2, a.2 - b.1) else ((0, 0), errOf [a, b])
def intS (a b : Int × Int) : (Int × Int) × Int := if errOf [a, b] = 0 then (if max a.1 b.1 ≤ min a.2 b.2 then ((max a.1 b.1, min a.2 b.2), 0) else ((0, 0), 9)) else ((0, 0), errOf [a, b])
def hullS (a b : Int × Int) : (Int × Int) × Int := if errOf [a, b] = 0 then ((min a.1 b.1, max a.2 b.2), 0) else ((0, 0), errOf [a, b])

set_option maxHeartbeats 400000 in
theorem overlap_any (x y : Int × Int) (w : World) :
    Calls Try.prog 43 #[.agg #[.int .i64 x.1, .int .i64 x.2], .agg #[.int .i64 y.1, .int .i64 y.2]] w fun e w' =>
      e = .returned (.tuple #[.agg #[.int .i64 (max x.1 y.1), .int .i64 (min x.2 y.2)], .bool (decide (max x.1 y.1 ≤ min x.2 y.2))]) ∧ Below w.heap.size w w' := by
  by_cases h1 : x.1 < y.1
  · by_cases h2 : y.2 < x.2
    · rw [show max x.1 y.1 = y.1 by omega, show min x.2 y.2 = y.2 by omega]
      go_enter Try.func43, Try.ntmps43
      go_wp2
      go_region
      go_wp2
      exact bodyPost_ret (v := .tuple #[.agg #[.int .i64 y.1, .int .i64 y.2], .bool (decide (y.1 ≤ y.2))]) (by simp [results, Try.results43, go_sem]) rfl ⟨rfl, (((((Below.refl _ _).alloc (Nat.le_refl _) _).alloc (by simp <;> omega) _).alloc (by simp <;> omega) _).alloc (by simp <;> omega) _).drew⟩
    · rw [show max x.1 y.1 = y.1 by omega, show min x.2 y.2 = x.2 by omega]
      go_enter Try.func43, Try.ntmps43
      go_wp2
      go_region
      go_wp2
      exact bodyPost_ret (v := .tuple #[.agg #[.int .i64 y.1, .int .i64 x.2], .bool (decide (y.1 ≤ x.2))]) (by simp [results, Try.results43, go_sem]) rfl ⟨rfl, (((((Below.refl _ _).alloc (Nat.le_refl _) _).alloc (by simp <;> omega) _).alloc (by simp <;> omega) _).alloc (by simp <;> omega) _).drew⟩
  · by_cases h2 : y.2 < x.2
    · rw [show max x.1 y.1 = x.1 by omega, show min x.2 y.2 = y.2 by omega]
      go_enter Try.func43, Try.ntmps43
      go_wp2
      go_region
      go_wp2
      exact bodyPost_ret (v := .tuple #[.agg #[.int .i64 x.1, .int .i64 y.2], .bool (decide (x.1 ≤ y.2))]) (by simp [results, Try.results43, go_sem]) rfl ⟨rfl, (((((Below.refl _ _).alloc (Nat.le_refl _) _).alloc (by simp <;> omega) _).alloc (by simp <;> omega) _).alloc (by simp <;> omega) _).drew⟩
    · rw [show max x.1 y.1 = x.1 by omega, show min x.2 y.2 = x.2 by omega]
      go_enter Try.func43, Try.ntmps43
      go_wp2
      go_region
      go_wp2
      exact bodyPost_ret (v := .tuple #[.agg #[.int .i64 x.1, .int .i64 x.2], .bool (decide (x.1 ≤ x.2))]) (by simp [results, Try.results43, go_sem]) rfl ⟨rfl, (((((Below.refl _ _).alloc (Nat.le_refl _) _).alloc (by simp <;> omega) _).alloc (by simp <;> omega) _).alloc (by simp <;> omega) _).drew⟩

set_option maxHeartbeats 1000000 in
theorem add_any (x y : Int × Int) (w : World) :
    Calls Try.prog 19 #[.agg #[.int .i64 x.1, .int .i64 x.2], .agg #[.int .i64 y.1, .int .i64 y.2]] w fun e w' => e = .returned (.tuple #[.agg #[.int .i64 (addS x y).1.1, .int .i64 (addS x y).1.2], .int .i64 (addS x y).2]) ∧ Below w.heap.size w w' := by
  have hck := fun A cap W (h : Reads W W.heap.size 2 A [x, y].length (encL [x, y])) => checkEach_any A cap [x, y] W (by simp) h
  by_cases h0 : errOf [x, y] = 0
  · obtain ⟨b1, b2, b3, b4, b5, b6⟩ := errOf_two h0
    rw [show addS x y = bndS (x.1 + y.1, x.2 + y.2) by unfold addS; rw [if_pos h0]]
    rw [h0] at hck
    clear h0
    go_enter Try.func19, Try.ntmps19
    go_wp2_with (first | (go_at_call 40; refine (hck _ _ _ (reads_new (by simp) rfl)).mono ?_; rintro e w1 ⟨rfl, hb2⟩; obtain ⟨hc, hf⟩ := bcell hb2; have hz0 : w.heap.size < w1.heap.size := (by have := hb2.size; simp at this; omega); have hz1 : w.heap.size + 1 < w1.heap.size := (by have := hb2.size; simp at this; omega); have hz2 : w.heap.size + 1 + 1 < w1.heap.size := (by have := hb2.size; simp at this; omega)) | (go_at_call 42; refine (bounded_any (x.1 + y.1, x.2 + y.2) _).mono ?_; rintro e w2 ⟨rfl, hb3⟩; obtain ⟨hc3, hf3⟩ := bcell hb3; have hz3 := hb3.size))
    have hB := (((((Below.refl w.heap.size w).alloc (Nat.le_refl _) _).alloc (by simp <;> omega) _).alloc (by simp <;> omega) _).alloc (by simp <;> omega) _).trans (bmono hb2 (by simp <;> omega))
    have hB3 := hB.trans (bmono hb3 (by omega))
    exact bodyPost_ret (v := .tuple #[.agg #[.int .i64 (bndS (x.1 + y.1, x.2 + y.2)).1.1, .int .i64 (bndS (x.1 + y.1, x.2 + y.2)).1.2], .int .i64 (bndS (x.1 + y.1, x.2 + y.2)).2]) (by simp [results, Try.results19, go_sem, hc3, hc, hz2]) rfl ⟨rfl, (hB3.setCell (by simp <;> omega) _).setCell (by simp <;> omega) _⟩
  · have hne : (errOf [x, y] == 0) = false := by simpa using h0
    have hne' : (errOf [x, y] != 0) = true := by simpa using h0
    rw [show addS x y = ((0, 0), errOf [x, y]) by unfold addS; rw [if_neg h0]]
    generalize errOf [x, y] = c at hck hne hne' h0
    go_enter Try.func19, Try.ntmps19
    go_wp2_with (go_at_call 40; refine (hck _ _ _ (reads_new (by simp) rfl)).mono ?_; rintro e w1 ⟨rfl, hb2⟩; obtain ⟨hc, hf⟩ := bcell hb2; have hz0 : w.heap.size < w1.heap.size := (by have := hb2.size; simp at this; omega); have hz1 : w.heap.size + 1 < w1.heap.size := (by have := hb2.size; simp at this; omega); have hz2 : w.heap.size + 1 + 1 < w1.heap.size := (by have := hb2.size; simp at this; omega))
    have hB := (((((Below.refl w.heap.size w).alloc (Nat.le_refl _) _).alloc (by simp <;> omega) _).alloc (by simp <;> omega) _).alloc (by simp <;> omega) _).trans (bmono hb2 (by simp <;> omega))
    exact bodyPost_ret (v := .tuple #[.agg #[.int .i64 0, .int .i64 0], .int .i64 c]) (by simp [results, Try.results19, go_sem, hc]) rfl ⟨rfl, (hB.setCell (by simp <;> omega) _).setCell (by simp <;> omega) _⟩

set_option maxHeartbeats 1000000 in
theorem sub_any (x y : Int × Int) (w : World) :
    Calls Try.prog 20 #[.agg #[.int .i64 x.1, .int .i64 x.2], .agg #[.int .i64 y.1, .int .i64 y.2]] w fun e w' => e = .returned (.tuple #[.agg #[.int .i64 (subS x y).1.1, .int .i64 (subS x y).1.2], .int .i64 (subS x y).2]) ∧ Below w.heap.size w w' := by
  have hck := fun A cap W (h : Reads W W.heap.size 2 A [x, y].length (encL [x, y])) => checkEach_any A cap [x, y] W (by simp) h
  by_cases h0 : errOf [x, y] = 0
  · obtain ⟨b1, b2, b3, b4, b5, b6⟩ := errOf_two h0
    rw [show subS x y = bndS (x.1 - y.2, x.2 - y.1) by unfold subS; rw [if_pos h0]]
    rw [h0] at hck
    clear h0
    go_enter Try.func20, Try.ntmps20
    go_wp2_with (first | (go_at_call 40; refine (hck _ _ _ (reads_new (by simp) rfl)).mono ?_; rintro e w1 ⟨rfl, hb2⟩; obtain ⟨hc, hf⟩ := bcell hb2; have hz0 : w.heap.size < w1.heap.size := (by have := hb2.size; simp at this; omega); have hz1 : w.heap.size + 1 < w1.heap.size := (by have := hb2.size; simp at this; omega); have hz2 : w.heap.size + 1 + 1 < w1.heap.size := (by have := hb2.size; simp at this; omega)) | (go_at_call 42; refine (bounded_any (x.1 - y.2, x.2 - y.1) _).mono ?_; rintro e w2 ⟨rfl, hb3⟩; obtain ⟨hc3, hf3⟩ := bcell hb3; have hz3 := hb3.size))
    have hB := (((((Below.refl w.heap.size w).alloc (Nat.le_refl _) _).alloc (by simp <;> omega) _).alloc (by simp <;> omega) _).alloc (by simp <;> omega) _).trans (bmono hb2 (by simp <;> omega))
    have hB3 := hB.trans (bmono hb3 (by omega))
    exact bodyPost_ret (v := .tuple #[.agg #[.int .i64 (bndS (x.1 - y.2, x.2 - y.1)).1.1, .int .i64 (bndS (x.1 - y.2, x.2 - y.1)).1.2], .int .i64 (bndS (x.1 - y.2, x.2 - y.1)).2]) (by simp [results, Try.results20, go_sem, hc3, hc, hz2]) rfl ⟨rfl, (hB3.setCell (by simp <;> omega) _).setCell (by simp <;> omega) _⟩
  · have hne : (errOf [x, y] == 0) = false := by simpa using h0
    have hne' : (errOf [x, y] != 0) = true := by simpa using h0
    rw [show subS x y = ((0, 0), errOf [x, y]) by unfold subS; rw [if_neg h0]]
    generalize errOf [x, y] = c at hck hne hne' h0
    go_enter Try.func20, Try.ntmps20
    go_wp2_with (go_at_call 40; refine (hck _ _ _ (reads_new (by simp) rfl)).mono ?_; rintro e w1 ⟨rfl, hb2⟩; obtain ⟨hc, hf⟩ := bcell hb2; have hz0 : w.heap.size < w1.heap.size := (by have := hb2.size; simp at this; omega); have hz1 : w.heap.size + 1 < w1.heap.size := (by have := hb2.size; simp at this; omega); have hz2 : w.heap.size + 1 + 1 < w1.heap.size := (by have := hb2.size; simp at this; omega))
    have hB := (((((Below.refl w.heap.size w).alloc (Nat.le_refl _) _).alloc (by simp <;> omega) _).alloc (by simp <;> omega) _).alloc (by simp <;> omega) _).trans (bmono hb2 (by simp <;> omega))
    exact bodyPost_ret (v := .tuple #[.agg #[.int .i64 0, .int .i64 0], .int .i64 c]) (by simp [results, Try.results20, go_sem, hc]) rfl ⟨rfl, (hB.setCell (by simp <;> omega) _).setCell (by simp <;> omega) _⟩

set_option maxHeartbeats 1000000 in
theorem refSub_any (x y : Int × Int) (w : World) :
    Calls Try.prog 24 #[.agg #[.int .i64 x.1, .int .i64 x.2], .agg #[.int .i64 y.1, .int .i64 y.2]] w fun e w' => e = .returned (.tuple #[.agg #[.int .i64 (subS x y).1.1, .int .i64 (subS x y).1.2], .int .i64 (subS x y).2]) ∧ Below w.heap.size w w' := by
  have hck := fun A cap W (h : Reads W W.heap.size 2 A [x, y].length (encL [x, y])) => all_any A cap [x, y] W (by simp) h
  by_cases h0 : errOf [x, y] = 0
  · obtain ⟨b1, b2, b3, b4, b5, b6⟩ := errOf_two h0
    rw [show subS x y = bndS (x.1 - y.2, x.2 - y.1) by unfold subS; rw [if_pos h0]]
    rw [h0] at hck
    clear h0
    go_enter Try.func24, Try.ntmps24
    go_wp2_with (first | (go_at_call 41; refine (hck _ _ _ (reads_new (by simp) rfl)).mono ?_; rintro e w1 ⟨rfl, hb2⟩; obtain ⟨hc, hf⟩ := bcell hb2; have hz0 : w.heap.size < w1.heap.size := (by have := hb2.size; simp at this; omega); have hz1 : w.heap.size + 1 < w1.heap.size := (by have := hb2.size; simp at this; omega); have hz2 : w.heap.size + 1 + 1 < w1.heap.size := (by have := hb2.size; simp at this; omega)) | (go_at_call 44; refine (result_any (x.1 - y.2, x.2 - y.1) _).mono ?_; rintro e w2 ⟨rfl, hb3⟩; obtain ⟨hc3, hf3⟩ := bcell hb3; have hz3 := hb3.size))
    have hB := (((((Below.refl w.heap.size w).alloc (Nat.le_refl _) _).alloc (by simp <;> omega) _).alloc (by simp <;> omega) _).alloc (by simp <;> omega) _).trans (bmono hb2 (by simp <;> omega))
    have hB3 := hB.trans (bmono hb3 (by omega))
    exact bodyPost_ret (v := .tuple #[.agg #[.int .i64 (bndS (x.1 - y.2, x.2 - y.1)).1.1, .int .i64 (bndS (x.1 - y.2, x.2 - y.1)).1.2], .int .i64 (bndS (x.1 - y.2, x.2 - y.1)).2]) (by simp [results, Try.results24, go_sem, hc3, hc, hz2]) rfl ⟨rfl, (hB3.setCell (by simp <;> omega) _).setCell (by simp <;> omega) _⟩
  · have hne : (errOf [x, y] == 0) = false := by simpa using h0
    have hne' : (errOf [x, y] != 0) = true := by simpa using h0
    rw [show subS x y = ((0, 0), errOf [x, y]) by unfold subS; rw [if_neg h0]]
    generalize errOf [x, y] = c at hck hne hne' h0
    go_enter Try.func24, Try.ntmps24
    go_wp2_with (go_at_call 41; refine (hck _ _ _ (reads_new (by simp) rfl)).mono ?_; rintro e w1 ⟨rfl, hb2⟩; obtain ⟨hc, hf⟩ := bcell hb2; have hz0 : w.heap.size < w1.heap.size := (by have := hb2.size; simp at this; omega); have hz1 : w.heap.size + 1 < w1.heap.size := (by have := hb2.size; simp at this; omega); have hz2 : w.heap.size + 1 + 1 < w1.heap.size := (by have := hb2.size; simp at this; omega))
    have hB := (((((Below.refl w.heap.size w).alloc (Nat.le_refl _) _).alloc (by simp <;> omega) _).alloc (by simp <;> omega) _).alloc (by simp <;> omega) _).trans (bmono hb2 (by simp <;> omega))
    exact bodyPost_ret (v := .tuple #[.agg #[.int .i64 0, .int .i64 0], .int .i64 c]) (by simp [results, Try.results24, go_sem, hc]) rfl ⟨rfl, (hB.setCell (by simp <;> omega) _).setCell (by simp <;> omega) _⟩

set_option maxHeartbeats 1000000 in
theorem hull_any (x y : Int × Int) (w : World) :
    Calls Try.prog 22 #[.agg #[.int .i64 x.1, .int .i64 x.2], .agg #[.int .i64 y.1, .int .i64 y.2]] w fun e w' => e = .returned (.tuple #[.agg #[.int .i64 (hullS x y).1.1, .int .i64 (hullS x y).1.2], .int .i64 (hullS x y).2]) ∧ Below w.heap.size w w' := by
  have hck := fun A cap W (h : Reads W W.heap.size 2 A [x, y].length (encL [x, y])) => checkEach_any A cap [x, y] W (by simp) h
  by_cases h0 : errOf [x, y] = 0
  · rw [show hullS x y = ((min x.1 y.1, max x.2 y.2), 0) by unfold hullS; rw [if_pos h0]]
    rw [h0] at hck
    clear h0
    go_enter Try.func22, Try.ntmps22
    go_wp2_with (go_at_call 40; refine (hck _ _ _ (reads_new (by simp) rfl)).mono ?_; rintro e w1 ⟨rfl, hb2⟩; obtain ⟨hc, hf⟩ := bcell hb2; have hz0 : w.heap.size < w1.heap.size := (by have := hb2.size; simp at this; omega); have hz1 : w.heap.size + 1 < w1.heap.size := (by have := hb2.size; simp at this; omega); have hz2 : w.heap.size + 1 + 1 < w1.heap.size := (by have := hb2.size; simp at this; omega))
    all_goals
      have hB := (((((Below.refl w.heap.size w).alloc (Nat.le_refl _) _).alloc (by simp <;> omega) _).alloc (by simp <;> omega) _).alloc (by simp <;> omega) _).trans (bmono hb2 (by simp <;> omega))
      exact bodyPost_ret (v := .tuple #[.agg #[.int .i64 (min x.1 y.1), .int .i64 (max x.2 y.2)], .int .i64 0]) (by simp [results, Try.results22, go_sem, hc] <;> omega) rfl ⟨rfl, (hB.setCell (by simp <;> omega) _).setCell (by simp <;> omega) _⟩
  · have hne : (errOf [x, y] == 0) = false := by simpa using h0
    have hne' : (errOf [x, y] != 0) = true := by simpa using h0
    rw [show hullS x y = ((0, 0), errOf [x, y]) by unfold hullS; rw [if_neg h0]]
    generalize errOf [x, y] = c at hck hne hne' h0
    go_enter Try.func22, Try.ntmps22
    go_wp2_with (go_at_call 40; refine (hck _ _ _ (reads_new (by simp) rfl)).mono ?_; rintro e w1 ⟨rfl, hb2⟩; obtain ⟨hc, hf⟩ := bcell hb2; have hz0 : w.heap.size < w1.heap.size := (by have := hb2.size; simp at this; omega); have hz1 : w.heap.size + 1 < w1.heap.size := (by have := hb2.size; simp at this; omega); have hz2 : w.heap.size + 1 + 1 < w1.heap.size := (by have := hb2.size; simp at this; omega))
    have hB := (((((Below.refl w.heap.size w).alloc (Nat.le_refl _) _).alloc (by simp <;> omega) _).alloc (by simp <;> omega) _).alloc (by simp <;> omega) _).trans (bmono hb2 (by simp <;> omega))
    exact bodyPost_ret (v := .tuple #[.agg #[.int .i64 0, .int .i64 0], .int .i64 c]) (by simp [results, Try.results22, go_sem, hc]) rfl ⟨rfl, (hB.setCell (by simp <;> omega) _).setCell (by simp <;> omega) _⟩

set_option maxHeartbeats 1000000 in
theorem refHull_any (x y : Int × Int) (w : World) :
    Calls Try.prog 26 #[.agg #[.int .i64 x.1, .int .i64 x.2], .agg #[.int .i64 y.1, .int .i64 y.2]] w fun e w' => e = .returned (.tuple #[.agg #[.int .i64 (hullS x y).1.1, .int .i64 (hullS x y).1.2], .int .i64 (hullS x y).2]) ∧ Below w.heap.size w w' := by
  have hck := fun A cap W (h : Reads W W.heap.size 2 A [x, y].length (encL [x, y])) => all_any A cap [x, y] W (by simp) h
  by_cases h0 : errOf [x, y] = 0
  · rw [show hullS x y = ((min x.1 y.1, max x.2 y.2), 0) by unfold hullS; rw [if_pos h0]]
    rw [h0] at hck
    clear h0
    go_enter Try.func26, Try.ntmps26
    go_wp2_with (go_at_call 41; refine (hck _ _ _ (reads_new (by simp) rfl)).mono ?_; rintro e w1 ⟨rfl, hb2⟩; obtain ⟨hc, hf⟩ := bcell hb2; have hz0 : w.heap.size < w1.heap.size := (by have := hb2.size; simp at this; omega); have hz1 : w.heap.size + 1 < w1.heap.size := (by have := hb2.size; simp at this; omega); have hz2 : w.heap.size + 1 + 1 < w1.heap.size := (by have := hb2.size; simp at this; omega))
    all_goals
      have hB := (((((Below.refl w.heap.size w).alloc (Nat.le_refl _) _).alloc (by simp <;> omega) _).alloc (by simp <;> omega) _).alloc (by simp <;> omega) _).trans (bmono hb2 (by simp <;> omega))
      exact bodyPost_ret (v := .tuple #[.agg #[.int .i64 (min x.1 y.1), .int .i64 (max x.2 y.2)], .int .i64 0]) (by simp [results, Try.results26, go_sem, hc] <;> omega) rfl ⟨rfl, (hB.setCell (by simp <;> omega) _).setCell (by simp <;> omega) _⟩
  · have hne : (errOf [x, y] == 0) = false := by simpa using h0
    have hne' : (errOf [x, y] != 0) = true := by simpa using h0
    rw [show hullS x y = ((0, 0), errOf [x, y]) by unfold hullS; rw [if_neg h0]]
    generalize errOf [x, y] = c at hck hne hne' h0
    go_enter Try.func26, Try.ntmps26
    go_wp2_with (go_at_call 41; refine (hck _ _ _ (reads_new (by simp) rfl)).mono ?_; rintro e w1 ⟨rfl, hb2⟩; obtain ⟨hc, hf⟩ := bcell hb2; have hz0 : w.heap.size < w1.heap.size := (by have := hb2.size; simp at this; omega); have hz1 : w.heap.size + 1 < w1.heap.size := (by have := hb2.size; simp at this; omega); have hz2 : w.heap.size + 1 + 1 < w1.heap.size := (by have := hb2.size; simp at this; omega))
    have hB := (((((Below.refl w.heap.size w).alloc (Nat.le_refl _) _).alloc (by simp <;> omega) _).alloc (by simp <;> omega) _).alloc (by simp <;> omega) _).trans (bmono hb2 (by simp <;> omega))
    exact bodyPost_ret (v := .tuple #[.agg #[.int .i64 0, .int .i64 0], .int .i64 c]) (by simp [results, Try.results26, go_sem, hc]) rfl ⟨rfl, (hB.setCell (by simp <;> omega) _).setCell (by simp <;> omega) _⟩
end Go.Proofs.Ytnpdmohclajmjaa
