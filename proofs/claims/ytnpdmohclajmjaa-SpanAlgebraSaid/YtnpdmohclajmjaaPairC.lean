/- The walks of span's and the reference's Intersect. No condition but that Go's ints are ints. -/
import Derived.Test.YtnpdmohclajmjaaPairB
namespace Go.Proofs.Ytnpdmohclajmjaa
open Go.RowKit

set_option maxHeartbeats 1000000 in
theorem inter_any (x y : Int × Int) (w : World) :
    Calls Try.prog 21 #[.agg #[.int .i64 x.1, .int .i64 x.2], .agg #[.int .i64 y.1, .int .i64 y.2]] w fun e w' => e = .returned (.tuple #[.agg #[.int .i64 (intS x y).1.1, .int .i64 (intS x y).1.2], .int .i64 (intS x y).2]) ∧ Below w.heap.size w w' := by
  have hck := fun A cap W (h : Reads W W.heap.size 2 A [x, y].length (encL [x, y])) => checkEach_any A cap [x, y] W (by simp) h
  by_cases h0 : errOf [x, y] = 0
  · rw [h0] at hck
    by_cases hm : max x.1 y.1 ≤ min x.2 y.2
    · rw [show intS x y = ((max x.1 y.1, min x.2 y.2), 0) by unfold intS; rw [if_pos h0, if_pos hm]]
      clear h0
      have hov := fun W => overlap_any x y W
      rw [show decide (max x.1 y.1 ≤ min x.2 y.2) = true by simpa using hm] at hov
      go_enter Try.func21, Try.ntmps21
      go_wp2_with (first | (go_at_call 40; refine (hck _ _ _ (reads_new (by simp) rfl)).mono ?_; rintro e w1 ⟨rfl, hb2⟩; obtain ⟨hc, hf⟩ := bcell hb2; have hz0 : w.heap.size < w1.heap.size := (by have := hb2.size; simp at this; omega); have hz1 : w.heap.size + 1 < w1.heap.size := (by have := hb2.size; simp at this; omega); have hz2 : w.heap.size + 1 + 1 < w1.heap.size := (by have := hb2.size; simp at this; omega)) | (go_at_call 43; refine (hov _).mono ?_; rintro e w2 ⟨rfl, hb3⟩; obtain ⟨hc3, hf3⟩ := bcell hb3; have hz3 : w.heap.size + 1 + 1 < w2.heap.size := (by have := hb3.size; omega)))
      have hB := (((((Below.refl w.heap.size w).alloc (Nat.le_refl _) _).alloc (by simp <;> omega) _).alloc (by simp <;> omega) _).alloc (by simp <;> omega) _).trans (bmono hb2 (by simp <;> omega))
      have hB3 := hB.trans (bmono hb3 (by omega))
      exact bodyPost_ret (v := .tuple #[.agg #[.int .i64 (max x.1 y.1), .int .i64 (min x.2 y.2)], .int .i64 0]) (by simp [results, Try.results21, go_sem, hc3, hc, hz2, hz3]) rfl ⟨rfl, ((hB3.setCell (by simp <;> omega) _).setCell (by simp <;> omega) _).alloc (by simp <;> omega) _⟩
    · rw [show intS x y = ((0, 0), 9) by unfold intS; rw [if_pos h0, if_neg hm]]
      clear h0
      have hov := fun W => overlap_any x y W
      rw [show decide (max x.1 y.1 ≤ min x.2 y.2) = false by simpa using hm] at hov
      go_enter Try.func21, Try.ntmps21
      go_wp2_with (first | (go_at_call 40; refine (hck _ _ _ (reads_new (by simp) rfl)).mono ?_; rintro e w1 ⟨rfl, hb2⟩; obtain ⟨hc, hf⟩ := bcell hb2; have hz0 : w.heap.size < w1.heap.size := (by have := hb2.size; simp at this; omega); have hz1 : w.heap.size + 1 < w1.heap.size := (by have := hb2.size; simp at this; omega); have hz2 : w.heap.size + 1 + 1 < w1.heap.size := (by have := hb2.size; simp at this; omega)) | (go_at_call 43; refine (hov _).mono ?_; rintro e w2 ⟨rfl, hb3⟩; obtain ⟨hc3, hf3⟩ := bcell hb3; have hz3 : w.heap.size + 1 + 1 < w2.heap.size := (by have := hb3.size; omega)))
      have hB := (((((Below.refl w.heap.size w).alloc (Nat.le_refl _) _).alloc (by simp <;> omega) _).alloc (by simp <;> omega) _).alloc (by simp <;> omega) _).trans (bmono hb2 (by simp <;> omega))
      have hB3 := hB.trans (bmono hb3 (by omega))
      exact bodyPost_ret (v := .tuple #[.agg #[.int .i64 0, .int .i64 0], .int .i64 9]) (by simp [results, Try.results21, go_sem, hc3, hc, hz2, hz3]) rfl ⟨rfl, ((hB3.setCell (by simp <;> omega) _).setCell (by simp <;> omega) _).alloc (by simp <;> omega) _⟩
  · have hne : (errOf [x, y] == 0) = false := by simpa using h0
    have hne' : (errOf [x, y] != 0) = true := by simpa using h0
    rw [show intS x y = ((0, 0), errOf [x, y]) by unfold intS; rw [if_neg h0]]
    generalize errOf [x, y] = c at hck hne hne' h0
    go_enter Try.func21, Try.ntmps21
    go_wp2_with (go_at_call 40; refine (hck _ _ _ (reads_new (by simp) rfl)).mono ?_; rintro e w1 ⟨rfl, hb2⟩; obtain ⟨hc, hf⟩ := bcell hb2; have hz0 : w.heap.size < w1.heap.size := (by have := hb2.size; simp at this; omega); have hz1 : w.heap.size + 1 < w1.heap.size := (by have := hb2.size; simp at this; omega); have hz2 : w.heap.size + 1 + 1 < w1.heap.size := (by have := hb2.size; simp at this; omega))
    have hB := (((((Below.refl w.heap.size w).alloc (Nat.le_refl _) _).alloc (by simp <;> omega) _).alloc (by simp <;> omega) _).alloc (by simp <;> omega) _).trans (bmono hb2 (by simp <;> omega))
    exact bodyPost_ret (v := .tuple #[.agg #[.int .i64 0, .int .i64 0], .int .i64 c]) (by simp [results, Try.results21, go_sem, hc]) rfl ⟨rfl, (hB.setCell (by simp <;> omega) _).setCell (by simp <;> omega) _⟩

set_option maxHeartbeats 1000000 in
theorem refInter_any (x y : Int × Int) (w : World) :
    Calls Try.prog 25 #[.agg #[.int .i64 x.1, .int .i64 x.2], .agg #[.int .i64 y.1, .int .i64 y.2]] w fun e w' => e = .returned (.tuple #[.agg #[.int .i64 (intS x y).1.1, .int .i64 (intS x y).1.2], .int .i64 (intS x y).2]) ∧ Below w.heap.size w w' := by
  have hck := fun A cap W (h : Reads W W.heap.size 2 A [x, y].length (encL [x, y])) => all_any A cap [x, y] W (by simp) h
  by_cases h0 : errOf [x, y] = 0
  · rw [h0] at hck
    by_cases hm : max x.1 y.1 ≤ min x.2 y.2
    · rw [show intS x y = ((max x.1 y.1, min x.2 y.2), 0) by unfold intS; rw [if_pos h0, if_pos hm]]
      clear h0
      go_enter Try.func25, Try.ntmps25
      go_wp2_with (go_at_call 41; refine (hck _ _ _ (reads_new (by simp) rfl)).mono ?_; rintro e w1 ⟨rfl, hb2⟩; obtain ⟨hc, hf⟩ := bcell hb2; have hz0 : w.heap.size < w1.heap.size := (by have := hb2.size; simp at this; omega); have hz1 : w.heap.size + 1 < w1.heap.size := (by have := hb2.size; simp at this; omega); have hz2 : w.heap.size + 1 + 1 < w1.heap.size := (by have := hb2.size; simp at this; omega))
      all_goals
        have hB := (((((Below.refl w.heap.size w).alloc (Nat.le_refl _) _).alloc (by simp <;> omega) _).alloc (by simp <;> omega) _).alloc (by simp <;> omega) _).trans (bmono hb2 (by simp <;> omega))
        first
          | exact absurd ‹_› (by omega)
          | exact bodyPost_ret (v := .tuple #[.agg #[.int .i64 (max x.1 y.1), .int .i64 (min x.2 y.2)], .int .i64 0]) (by simp [results, Try.results25, go_sem, hc, hz2] <;> omega) rfl ⟨rfl, ((hB.setCell (by simp <;> omega) _).setCell (by simp <;> omega) _).alloc (by simp <;> omega) _⟩
    · rw [show intS x y = ((0, 0), 9) by unfold intS; rw [if_pos h0, if_neg hm]]
      clear h0
      go_enter Try.func25, Try.ntmps25
      go_wp2_with (go_at_call 41; refine (hck _ _ _ (reads_new (by simp) rfl)).mono ?_; rintro e w1 ⟨rfl, hb2⟩; obtain ⟨hc, hf⟩ := bcell hb2; have hz0 : w.heap.size < w1.heap.size := (by have := hb2.size; simp at this; omega); have hz1 : w.heap.size + 1 < w1.heap.size := (by have := hb2.size; simp at this; omega); have hz2 : w.heap.size + 1 + 1 < w1.heap.size := (by have := hb2.size; simp at this; omega))
      all_goals
        have hB := (((((Below.refl w.heap.size w).alloc (Nat.le_refl _) _).alloc (by simp <;> omega) _).alloc (by simp <;> omega) _).alloc (by simp <;> omega) _).trans (bmono hb2 (by simp <;> omega))
        first
          | exact absurd ‹_› (by omega)
          | exact bodyPost_ret (v := .tuple #[.agg #[.int .i64 0, .int .i64 0], .int .i64 9]) (by simp [results, Try.results25, go_sem, hc, hz2] <;> omega) rfl ⟨rfl, ((hB.setCell (by simp <;> omega) _).setCell (by simp <;> omega) _).alloc (by simp <;> omega) _⟩
  · have hne : (errOf [x, y] == 0) = false := by simpa using h0
    have hne' : (errOf [x, y] != 0) = true := by simpa using h0
    rw [show intS x y = ((0, 0), errOf [x, y]) by unfold intS; rw [if_neg h0]]
    generalize errOf [x, y] = c at hck hne hne' h0
    go_enter Try.func25, Try.ntmps25
    go_wp2_with (go_at_call 41; refine (hck _ _ _ (reads_new (by simp) rfl)).mono ?_; rintro e w1 ⟨rfl, hb2⟩; obtain ⟨hc, hf⟩ := bcell hb2; have hz0 : w.heap.size < w1.heap.size := (by have := hb2.size; simp at this; omega); have hz1 : w.heap.size + 1 < w1.heap.size := (by have := hb2.size; simp at this; omega); have hz2 : w.heap.size + 1 + 1 < w1.heap.size := (by have := hb2.size; simp at this; omega))
    have hB := (((((Below.refl w.heap.size w).alloc (Nat.le_refl _) _).alloc (by simp <;> omega) _).alloc (by simp <;> omega) _).alloc (by simp <;> omega) _).trans (bmono hb2 (by simp <;> omega))
    exact bodyPost_ret (v := .tuple #[.agg #[.int .i64 0, .int .i64 0], .int .i64 c]) (by simp [results, Try.results25, go_sem, hc]) rfl ⟨rfl, (hB.setCell (by simp <;> omega) _).setCell (by simp <;> omega) _⟩
end Go.Proofs.Ytnpdmohclajmjaa
