/- The walks of plane's Value and of the reference's. No condition. -/
import Derived.Test.YtoeniaafcnnnoaaChb
namespace Go.Proofs.Ytoeniaafcnnnoaa
open Go.RowKit

/-- a boxed half-space and a boxed vector -/
def KHV (a b c d x y z : Int) (w W : World) : Prop := KL [(w.heap.size, 32, #[.int .i64 a, .int .i64 b, .int .i64 c, .int .i64 d]), (w.heap.size + 1, 34, #[.int .i64 x, .int .i64 y, .int .i64 z])] w W
theorem KHV.alls {a b c d x y z : Int} {w W : World} (h : KHV a b c d x y z w W) : KHV a b c d x y z w W ∧ w.heap.size + 1 < W.heap.size ∧
    W.cell? ⟨w.heap.size, 0, none⟩ = some (.int .i64 a) ∧ W.cell? ⟨w.heap.size, 1, none⟩ = some (.int .i64 b) ∧ W.cell? ⟨w.heap.size, 2, none⟩ = some (.int .i64 c) ∧ W.cell? ⟨w.heap.size, 3, none⟩ = some (.int .i64 d) ∧
    W.cell? ⟨w.heap.size + 1, 0, none⟩ = some (.int .i64 x) ∧ W.cell? ⟨w.heap.size + 1, 1, none⟩ = some (.int .i64 y) ∧ W.cell? ⟨w.heap.size + 1, 2, none⟩ = some (.int .i64 z) := by
  obtain ⟨h1, h2, h3, h4⟩ := blk4 (KL.blk h (.head _))
  exact ⟨h, KL.size h (.tail _ (.head _)), h1, h2, h3, h4, blk3 (KL.blk h (.tail _ (.head _)))⟩
theorem KHV.start {a b c d x y z : Int} {w : World} : KHV a b c d x y z w ((w.alloc (.cells #[.int .i64 a, .int .i64 b, .int .i64 c, .int .i64 d] 32)).alloc (.cells #[.int .i64 x, .int .i64 y, .int .i64 z] 34)) :=
  ⟨((Below.refl _ _).alloc (Nat.le_refl _) _).alloc (by simp) _, by
    intro q hq
    simp only [List.mem_cons, List.not_mem_nil, or_false] at hq
    rcases hq with rfl | rfl
    · exact (Blk.new2 rfl).alloc _
    · exact Blk.new2 (by simp)⟩
def valS (a b c d x y z : Int) : Int := a * x + b * y + c * z - d
theorem inD_abs {n : Int} (h : inD n = true) : n.natAbs ≤ 4000000000 := by have := inD_iff.1 h; omega
theorem inF_abs {n : Int} (h : inF n = true) : n.natAbs ≤ 1000 := by have := inF_iff.1 h; omega
theorem mul_bd3 {x a : Int} {B C : Nat} (h : x.natAbs ≤ B) (k : a.natAbs ≤ C) : (x * a).natAbs ≤ B * C := by
  rw [Int.natAbs_mul]; exact Nat.mul_le_mul h k
theorem val_bd {a b c x y z : Int} (ha : inF a = true) (hb : inF b = true) (hc : inF c = true) (hv : inV x y z = true) :
    (a * x).natAbs ≤ 1000000000 ∧ (b * y).natAbs ≤ 1000000000 ∧ (c * z).natAbs ≤ 1000000000 := by
  obtain ⟨h1, h2, h3⟩ := inV_abs hv
  exact ⟨mul_bd3 (inF_abs ha) h1, mul_bd3 (inF_abs hb) h2, mul_bd3 (inF_abs hc) h3⟩
theorem okF_V {a b c d : Int} (h : okF a b c d = true) : inV a b c = true := by
  obtain ⟨h1, h2, h3, _⟩ := okF_iff.1 h
  exact inV_iff.2 ⟨inF_C h1, inF_C h2, inF_C h3⟩
set_option maxHeartbeats 1000000 in
theorem rvalue_any (a b c d x y z : Int) (w : World) :
    Calls Try.prog 22 #[.agg #[.int .i64 a, .int .i64 b, .int .i64 c, .int .i64 d], .agg #[.int .i64 x, .int .i64 y, .int .i64 z]] w fun e w' => e = .returned (.int .i64 (wrap64 (wrap64 (wrap64 (wrap64 (a * x) + wrap64 (b * y)) + wrap64 (c * z)) - d))) ∧ Below w.heap.size w w' := by
  go_enter Try.func22, Try.ntmps22
  go_wp2
  go_ret
  exact ⟨rfl, ((Below.refl _ _).alloc (Nat.le_refl _) _).alloc (by simp) _⟩
theorem rvalue_in (a b c d x y z : Int) (h : okF a b c d = true) (hv : inV x y z = true) (w : World) :
    Calls Try.prog 22 #[.agg #[.int .i64 a, .int .i64 b, .int .i64 c, .int .i64 d], .agg #[.int .i64 x, .int .i64 y, .int .i64 z]] w fun e w' => e = .returned (.int .i64 (valS a b c d x y z)) ∧ Below w.heap.size w w' := by
  obtain ⟨h1, h2, h3, h4⟩ := okF_iff.1 h
  obtain ⟨b1, b2, b3⟩ := val_bd h1 h2 h3 hv
  have b4 := inD_abs h4
  have hh := rvalue_any a b c d x y z w
  rw [w64 (n := a * x) (by omega), w64 (n := b * y) (by omega), w64 (n := c * z) (by omega), w64 (n := a * x + b * y) (by omega), w64 (n := a * x + b * y + c * z) (by omega), w64 (by omega)] at hh
  exact hh

set_option maxHeartbeats 1000000 in
theorem value_bad (a b c d x y z : Int) (h : eH a b c d ≠ 0) (w : World) :
    Calls Try.prog 18 #[.agg #[.int .i64 a, .int .i64 b, .int .i64 c, .int .i64 d], .agg #[.int .i64 x, .int .i64 y, .int .i64 z]] w fun e w' => e = .returned (.tuple #[.int .i64 0, .int .i64 (eH a b c d)]) ∧ Below w.heap.size w w' := by
  have h1 := pcheck_any a b c d
  generalize eH a b c d = e1 at h1 h ⊢
  obtain ⟨t1, t2⟩ := ne_tests h
  clear h
  go_enter Try.func18, Try.ntmps18
  go_wp2_with (go_at_call 19; refine (h1 _).mono ?_; rintro e w1 ⟨rfl, hb1⟩; obtain ⟨hc1, hf1⟩ := bcell hb1; have hz1 := hb1.size; (try simp at hz1); (try have y10 : w.heap.size < w1.heap.size := (by omega)); (try have y10p : w.heap.size < w1.heap.size + 1 := (by omega)); (try have y11 : w.heap.size + 1 < w1.heap.size := (by omega)); (try have y11p : w.heap.size + 1 < w1.heap.size + 1 := (by omega)); (try have y12 : w.heap.size + 1 + 1 < w1.heap.size := (by omega)); (try have y12p : w.heap.size + 1 + 1 < w1.heap.size + 1 := (by omega)); (try have v0x1 : w0.heap.size < w1.heap.size := (by omega)); (try have v0x1p : w0.heap.size < w1.heap.size + 1 := (by omega)))
  go_ret2
  refine ⟨rfl, ?_⟩
  repeat (first | exact Below.refl _ _ | refine Below.drew ?_ | refine below_drewN ?_ _ | refine Below.setCell ?_ ?_ _ | refine Below.alloc ?_ ?_ _ | (refine Below.trans ?_ (bmono (by assumption) ?_)))
  all_goals (first | omega | (simp <;> omega))
set_option maxHeartbeats 4000000 in
theorem value_out (a b c d x y z : Int) (h : eH a b c d = 0) (hv : inV x y z = false) (w : World) :
    Calls Try.prog 18 #[.agg #[.int .i64 a, .int .i64 b, .int .i64 c, .int .i64 d], .agg #[.int .i64 x, .int .i64 y, .int .i64 z]] w fun e w' => e = .returned (.tuple #[.int .i64 0, .int .i64 6]) ∧ Below w.heap.size w w' := by
  have h1 := pcheck_any a b c d
  rw [h] at h1
  have q1 : ∀ W, KHV a b c d x y z w W → Calls Try.prog 51 #[.agg #[.int .i64 a, .int .i64 b, .int .i64 c, .int .i64 d]] W _ := keepsKL (outward_any a b c d)
  have hd := Dot_any a b c x y z
  rw [show dotV a b c x y z = (0, 6) by simp [dotV, hv]] at hd
  have q2 : ∀ W, KHV a b c d x y z w W → Calls Try.prog 38 #[.agg #[.int .i64 a, .int .i64 b, .int .i64 c], .agg #[.int .i64 x, .int .i64 y, .int .i64 z]] W _ := keepsKL hd
  clear h hv hd
  go_enter Try.func18, Try.ntmps18
  go_wp2_with (go_at_call 19; refine (h1 _).mono ?_; rintro e w1 ⟨rfl, hb1⟩; obtain ⟨hc1, hf1⟩ := bcell hb1; have hz1 := hb1.size; (try simp at hz1); (try have y10 : w.heap.size < w1.heap.size := (by omega)); (try have y10p : w.heap.size < w1.heap.size + 1 := (by omega)); (try have y11 : w.heap.size + 1 < w1.heap.size := (by omega)); (try have y11p : w.heap.size + 1 < w1.heap.size + 1 := (by omega)); (try have y12 : w.heap.size + 1 + 1 < w1.heap.size := (by omega)); (try have y12p : w.heap.size + 1 + 1 < w1.heap.size + 1 := (by omega)); (try have v0x1 : w0.heap.size < w1.heap.size := (by omega)); (try have v0x1p : w0.heap.size < w1.heap.size + 1 := (by omega)))
  have hk1 : KHV a b c d x y z w w1 := KL.over KHV.start hb1
  have hka := KHV.alls hk1
  clear hb1 hc1 hf1 h1
  go_region_held3 (fun W => KHV a b c d x y z w W ∧ w.heap.size + 1 < W.heap.size ∧
        W.cell? ⟨w.heap.size, 0, none⟩ = some (.int .i64 a) ∧ W.cell? ⟨w.heap.size, 1, none⟩ = some (.int .i64 b) ∧ W.cell? ⟨w.heap.size, 2, none⟩ = some (.int .i64 c) ∧ W.cell? ⟨w.heap.size, 3, none⟩ = some (.int .i64 d) ∧
        W.cell? ⟨w.heap.size + 1, 0, none⟩ = some (.int .i64 x) ∧ W.cell? ⟨w.heap.size + 1, 1, none⟩ = some (.int .i64 y) ∧ W.cell? ⟨w.heap.size + 1, 2, none⟩ = some (.int .i64 z))
      (first | exact hka | exact KHV.alls ‹_› | exact (KHV.alls (KL.drew ‹_›)))
      (first
        | (go_at_call 51; refine (q1 _ ?_).mono ?_; (first | assumption | exact And.left ‹_›); rintro e w2 ⟨rfl, hk2, hb2⟩)
        | (go_at_call 38; refine (q2 _ ?_).mono ?_; (first | assumption | exact And.left ‹_›); rintro e w3 ⟨rfl, hk3, hb3⟩))
  have hk4 := ‹KHV a b c d x y z w w3›
  go_wp2
  go_ret2
  exact ⟨rfl, hk4.1⟩
set_option maxHeartbeats 4000000 in
theorem value_ok (a b c d x y z : Int) (h : eH a b c d = 0) (hv : inV x y z = true) (w : World) :
    Calls Try.prog 18 #[.agg #[.int .i64 a, .int .i64 b, .int .i64 c, .int .i64 d], .agg #[.int .i64 x, .int .i64 y, .int .i64 z]] w fun e w' => e = .returned (.tuple #[.int .i64 (valS a b c d x y z), .int .i64 0]) ∧ Below w.heap.size w w' := by
  have h1 := pcheck_any a b c d
  rw [h] at h1
  have q1 : ∀ W, KHV a b c d x y z w W → Calls Try.prog 51 #[.agg #[.int .i64 a, .int .i64 b, .int .i64 c, .int .i64 d]] W _ := keepsKL (outward_any a b c d)
  obtain ⟨hok, _⟩ := eH_zero h
  obtain ⟨f1, f2, f3, f4⟩ := okF_iff.1 hok
  obtain ⟨b1, b2, b3⟩ := val_bd f1 f2 f3 hv
  have b4 := inD_iff.1 f4
  have hd := Dot_any a b c x y z
  rw [show dotV a b c x y z = (a * x + b * y + c * z, 0) by simp [dotV, hv, okF_V hok]] at hd
  have q2 : ∀ W, KHV a b c d x y z w W → Calls Try.prog 38 #[.agg #[.int .i64 a, .int .i64 b, .int .i64 c], .agg #[.int .i64 x, .int .i64 y, .int .i64 z]] W _ := keepsKL hd
  have b5 : -3000000000 ≤ a * x + b * y + c * z ∧ a * x + b * y + c * z ≤ 3000000000 := by omega
  unfold valS
  clear h hv hd hok f1 f2 f3 f4 b1 b2 b3
  dsimp only at q2
  generalize a * x + b * y + c * z = R at q2 b5 ⊢
  go_enter Try.func18, Try.ntmps18
  go_wp2_with (go_at_call 19; refine (h1 _).mono ?_; rintro e w1 ⟨rfl, hb1⟩; obtain ⟨hc1, hf1⟩ := bcell hb1; have hz1 := hb1.size; (try simp at hz1); (try have y10 : w.heap.size < w1.heap.size := (by omega)); (try have y10p : w.heap.size < w1.heap.size + 1 := (by omega)); (try have y11 : w.heap.size + 1 < w1.heap.size := (by omega)); (try have y11p : w.heap.size + 1 < w1.heap.size + 1 := (by omega)); (try have y12 : w.heap.size + 1 + 1 < w1.heap.size := (by omega)); (try have y12p : w.heap.size + 1 + 1 < w1.heap.size + 1 := (by omega)); (try have v0x1 : w0.heap.size < w1.heap.size := (by omega)); (try have v0x1p : w0.heap.size < w1.heap.size + 1 := (by omega)))
  have hk1 : KHV a b c d x y z w w1 := KL.over KHV.start hb1
  have hka := KHV.alls hk1
  clear hb1 hc1 hf1 h1
  go_region_held3 (fun W => KHV a b c d x y z w W ∧ w.heap.size + 1 < W.heap.size ∧
        W.cell? ⟨w.heap.size, 0, none⟩ = some (.int .i64 a) ∧ W.cell? ⟨w.heap.size, 1, none⟩ = some (.int .i64 b) ∧ W.cell? ⟨w.heap.size, 2, none⟩ = some (.int .i64 c) ∧ W.cell? ⟨w.heap.size, 3, none⟩ = some (.int .i64 d) ∧
        W.cell? ⟨w.heap.size + 1, 0, none⟩ = some (.int .i64 x) ∧ W.cell? ⟨w.heap.size + 1, 1, none⟩ = some (.int .i64 y) ∧ W.cell? ⟨w.heap.size + 1, 2, none⟩ = some (.int .i64 z))
      (first | exact hka | exact KHV.alls ‹_› | exact (KHV.alls (KL.drew ‹_›)))
      (first
        | (go_at_call 51; refine (q1 _ ?_).mono ?_; (first | assumption | exact And.left ‹_›); rintro e w2 ⟨rfl, hk2, hb2⟩)
        | (go_at_call 38; refine (q2 _ ?_).mono ?_; (first | assumption | exact And.left ‹_›); rintro e w3 ⟨rfl, hk3, hb3⟩))
  obtain ⟨hk4, _, g1, g2, g3, g4, g5⟩ := KHV.alls ‹KHV a b c d x y z w w3›
  go_wp2
  go_ret2
  exact ⟨rfl, hk4.1⟩
end Go.Proofs.Ytoeniaafcnnnoaa
