/- The walk of kerf's Split where it fails. -/
import Derived.Test.YtogmgaaejepcbaaSpl0
import Derived.Test.YtogmgaaejepcbaaSpl1
import Derived.Test.YtogmgaaejepcbaaSpl2
namespace Go.Proofs.Ytogmgaaejepcbaa
open Go.RowKit

theorem ckI_0 {x y z p q r a t k : Int} (h : ckI x y z p q r a t k = 0) : eB x y z p q r = 0 ∧ ((a = 0 ∧ okI x p t k = 0) ∨ (a = 1 ∧ okI y q t k = 0) ∨ (a = 2 ∧ okI z r t k = 0)) := by
  unfold ckI at h
  by_cases hc : caI (eB x y z p q r) a = 0
  · rw [if_pos hc] at h
    obtain ⟨hv, ha⟩ := caI_z hc
    refine ⟨hv, ?_⟩
    rcases ax3 ha with rfl | rfl | rfl
    · exact .inl ⟨rfl, by simpa using h⟩
    · exact .inr (.inl ⟨rfl, by simpa using h⟩)
    · exact .inr (.inr ⟨rfl, by simpa using h⟩)
  · rw [if_neg hc] at h; exact absurd h hc
set_option maxHeartbeats 4000000 in
set_option maxRecDepth 100000 in
theorem Split_bad (x y z p q r a t k f : Int) (hf : ckI x y z p q r a t k = f) (hn : f ≠ 0) (w : World) :
    Calls Try.prog 14 #[.agg #[.int .i64 x, .int .i64 y, .int .i64 z, .int .i64 p, .int .i64 q, .int .i64 r], .agg #[.int .i64 a, .int .i64 t, .int .i64 k]] w fun e w' => e = .returned (.tuple #[.agg #[.int .i64 0, .int .i64 0, .int .i64 0, .int .i64 0, .int .i64 0, .int .i64 0], .agg #[.int .i64 0, .int .i64 0, .int .i64 0, .int .i64 0, .int .i64 0, .int .i64 0], .agg #[.int .i64 0, .int .i64 0, .int .i64 0, .int .i64 0, .int .i64 0, .int .i64 0], .int .i64 f]) ∧ Below w.heap.size w w' := by
  have hc := Check_any x y z p q r a t k
  rw [hf] at hc
  obtain ⟨t1, t2⟩ := ne_tests hn
  clear hf hn
  go_enter Try.func14, Try.ntmps14
  go_wp2_with (go_at_call 17; refine (hc _).mono ?_; rintro e w1 ⟨rfl, hb1⟩; obtain ⟨hc1, hf1⟩ := bcell hb1; have hz1 := hb1.size; (try simp at hz1); (try have y10 : w.heap.size < w1.heap.size := (by omega)); (try have y10p : w.heap.size < w1.heap.size + 1 := (by omega)); (try have y11 : w.heap.size + 1 < w1.heap.size := (by omega)); (try have y11p : w.heap.size + 1 < w1.heap.size + 1 := (by omega)); (try have y12 : w.heap.size + 1 + 1 < w1.heap.size := (by omega)); (try have y12p : w.heap.size + 1 + 1 < w1.heap.size + 1 := (by omega)); (try have y13 : w.heap.size + 1 + 1 + 1 < w1.heap.size := (by omega)); (try have y13p : w.heap.size + 1 + 1 + 1 < w1.heap.size + 1 := (by omega)); (try have y14 : w.heap.size + 1 + 1 + 1 + 1 < w1.heap.size := (by omega)); (try have y14p : w.heap.size + 1 + 1 + 1 + 1 < w1.heap.size + 1 := (by omega)); (try have v0x1 : w0.heap.size < w1.heap.size := (by omega)); (try have v0x1p : w0.heap.size < w1.heap.size + 1 := (by omega)))
  have hj : KL [((w.heap.size + 1 + 1 + 1 + 1),25,#[.int .i64 0,.int .i64 0,.int .i64 0,.int .i64 0,.int .i64 0,.int .i64 0]),((w.heap.size + 1 + 1 + 1),25,#[.int .i64 0,.int .i64 0,.int .i64 0,.int .i64 0,.int .i64 0,.int .i64 0]),((w.heap.size + 1 + 1),25,#[.int .i64 0,.int .i64 0,.int .i64 0,.int .i64 0,.int .i64 0,.int .i64 0]),((w.heap.size + 1),33,#[.int .i64 a,.int .i64 t,.int .i64 k]),(w.heap.size,25,#[.int .i64 x,.int .i64 y,.int .i64 z,.int .i64 p,.int .i64 q,.int .i64 r])] w _ := (KL.up6 0 (KL.up6 1 (KL.up6 2 (KL.over (KL.new (g := (w.heap.size + 1 + 1 + 1 + 1)) (KL.new (g := (w.heap.size + 1 + 1 + 1)) (KL.new (g := (w.heap.size + 1 + 1)) (KL.new (g := (w.heap.size + 1)) (KL.new (g := w.heap.size) (KL.nil w) rfl _ _) (by simp) _ _) (by simp) _ _) (by simp) _ _) (by simp) _ _) hb1) rfl (by omega) (by simp <;> omega)) rfl (by omega) (by simp <;> omega)) rfl (by omega) (by simp <;> omega))
  have c0_0 := (KL.blk hj (.head _)).cell 0
  have c0_1 := (KL.blk hj (.head _)).cell 1
  have c0_2 := (KL.blk hj (.head _)).cell 2
  have c0_3 := (KL.blk hj (.head _)).cell 3
  have c0_4 := (KL.blk hj (.head _)).cell 4
  have c0_5 := (KL.blk hj (.head _)).cell 5
  have c1_0 := (KL.blk hj (.tail _ (.head _))).cell 0
  have c1_1 := (KL.blk hj (.tail _ (.head _))).cell 1
  have c1_2 := (KL.blk hj (.tail _ (.head _))).cell 2
  have c1_3 := (KL.blk hj (.tail _ (.head _))).cell 3
  have c1_4 := (KL.blk hj (.tail _ (.head _))).cell 4
  have c1_5 := (KL.blk hj (.tail _ (.head _))).cell 5
  have c2_0 := (KL.blk hj (.tail _ (.tail _ (.head _)))).cell 0
  have c2_1 := (KL.blk hj (.tail _ (.tail _ (.head _)))).cell 1
  have c2_2 := (KL.blk hj (.tail _ (.tail _ (.head _)))).cell 2
  have c2_3 := (KL.blk hj (.tail _ (.tail _ (.head _)))).cell 3
  have c2_4 := (KL.blk hj (.tail _ (.tail _ (.head _)))).cell 4
  have c2_5 := (KL.blk hj (.tail _ (.tail _ (.head _)))).cell 5
  exact bodyPost_ret (v := .tuple #[.agg #[.int .i64 0, .int .i64 0, .int .i64 0, .int .i64 0, .int .i64 0, .int .i64 0], .agg #[.int .i64 0, .int .i64 0, .int .i64 0, .int .i64 0, .int .i64 0, .int .i64 0], .agg #[.int .i64 0, .int .i64 0, .int .i64 0, .int .i64 0, .int .i64 0, .int .i64 0], .int .i64 f]) (by simp [results, Try.results14, go_sem, c0_0, c0_1, c0_2, c0_3, c0_4, c0_5, c1_0, c1_1, c1_2, c1_3, c1_4, c1_5, c2_0, c2_1, c2_2, c2_3, c2_4, c2_5]) rfl ⟨rfl, hj.1⟩
end Go.Proofs.Ytogmgaaejepcbaa
