/- The walks of kerf's and box's volumes and of box's Inside. -/
import Derived.Test.YtogmgaaejepcbaaCk
import Derived.Test.YtogmgaaejepcbaaCom
namespace Go.Proofs.Ytogmgaaejepcbaa
open Go.RowKit

set_option maxHeartbeats 1000000 in
theorem bvol_any (x y z p q r : Int) (h1 : 0 ≤ p - x) (h2 : p - x ≤ 2000000) (h3 : 0 ≤ q - y) (h4 : q - y ≤ 2000000) (h5 : 0 ≤ r - z) (h6 : r - z ≤ 2000000) (w : World) :
    Calls Try.prog 58 #[.agg #[.int .i64 x, .int .i64 y, .int .i64 z, .int .i64 p, .int .i64 q, .int .i64 r]] w fun e w' => e = .returned (.int .i64 (volI x y z p q r)) ∧ Below w.heap.size w w' := by
  obtain ⟨m1, m2⟩ := mul_bd h1 h2 h3 h4
  obtain ⟨m3, m4⟩ := mul_bd m1 m2 h5 h6
  have e4 : wrap64 ((p - x) * (q - y)) = (p - x) * (q - y) := w64' (by omega) (by omega)
  have e5 : wrap64 ((p - x) * (q - y) * (r - z)) = (p - x) * (q - y) * (r - z) := w64' (by omega) (by omega)
  have E4 := Lib.hid e4
  have E5 := Lib.hid e5
  clear e4 e5 m1 m2 m3 m4
  have hs := fun w => size_any x y z p q r h1 h2 h3 h4 h5 h6 w
  go_enter Try.func58, Try.ntmps58
  go_wp2_with (go_at_call 64; refine (hs _).mono ?_; rintro e w1 ⟨rfl, hb1⟩; obtain ⟨hc1, hf1⟩ := bcell hb1; have hz1 := hb1.size; (try simp at hz1); (try have y10 : w.heap.size < w1.heap.size := (by omega)); (try have y10p : w.heap.size < w1.heap.size + 1 := (by omega)); (try have y11 : w.heap.size + 1 < w1.heap.size := (by omega)); (try have y11p : w.heap.size + 1 < w1.heap.size + 1 := (by omega)); (try have y12 : w.heap.size + 1 + 1 < w1.heap.size := (by omega)); (try have y12p : w.heap.size + 1 + 1 < w1.heap.size + 1 := (by omega)); (try have y13 : w.heap.size + 1 + 1 + 1 < w1.heap.size := (by omega)); (try have y13p : w.heap.size + 1 + 1 + 1 < w1.heap.size + 1 := (by omega)); (try have y14 : w.heap.size + 1 + 1 + 1 + 1 < w1.heap.size := (by omega)); (try have y14p : w.heap.size + 1 + 1 + 1 + 1 < w1.heap.size + 1 := (by omega)); (try have v0x1 : w0.heap.size < w1.heap.size := (by omega)); (try have v0x1p : w0.heap.size < w1.heap.size + 1 := (by omega)))
  go_ret
  refine ⟨ret_int ?_, ?_⟩
  · unfold volI
    simp [E4.out, E5.out]
  · repeat (first | with_reducible exact Below.refl _ _ | with_reducible refine Below.setCell ?_ ?_ _ | with_reducible refine Below.alloc ?_ ?_ _ | with_reducible refine Below.drew ?_ | with_reducible refine below_drewN ?_ _ | (refine Below.trans ?_ (bmono (by assumption) ?_)))
    all_goals (first | omega | (simp <;> omega))
theorem eB_hb {x y z p q r : Int} (h : eB x y z p q r = 0) : 0 ≤ p - x ∧ p - x ≤ 2000000 ∧ 0 ≤ q - y ∧ q - y ≤ 2000000 ∧ 0 ≤ r - z ∧ r - z ≤ 2000000 := by have := eB_bd h; omega
set_option maxHeartbeats 1000000 in
theorem bVol_ok (x y z p q r : Int) (hv : eB x y z p q r = 0) (w : World) :
    Calls Try.prog 55 #[.agg #[.int .i64 x, .int .i64 y, .int .i64 z, .int .i64 p, .int .i64 q, .int .i64 r]] w fun e w' => e = .returned (.tuple #[.int .i64 (volI x y z p q r), .int .i64 0]) ∧ Below w.heap.size w w' := by
  have hc := bcheck_any x y z p q r
  rw [hv] at hc
  obtain ⟨h1, h2, h3, h4, h5, h6⟩ := eB_hb hv
  have hs := fun w => bvol_any x y z p q r h1 h2 h3 h4 h5 h6 w
  clear hv
  generalize volI x y z p q r = v at hs ⊢
  go_enter Try.func55, Try.ntmps55
  go_wp2_with (first | (go_at_call 56; refine (hc _).mono ?_; rintro e w1 ⟨rfl, hb1⟩; obtain ⟨hc1, hf1⟩ := bcell hb1; have hz1 := hb1.size; (try simp at hz1); (try have y10 : w.heap.size < w1.heap.size := (by omega)); (try have y10p : w.heap.size < w1.heap.size + 1 := (by omega)); (try have y11 : w.heap.size + 1 < w1.heap.size := (by omega)); (try have y11p : w.heap.size + 1 < w1.heap.size + 1 := (by omega)); (try have y12 : w.heap.size + 1 + 1 < w1.heap.size := (by omega)); (try have y12p : w.heap.size + 1 + 1 < w1.heap.size + 1 := (by omega)); (try have y13 : w.heap.size + 1 + 1 + 1 < w1.heap.size := (by omega)); (try have y13p : w.heap.size + 1 + 1 + 1 < w1.heap.size + 1 := (by omega)); (try have y14 : w.heap.size + 1 + 1 + 1 + 1 < w1.heap.size := (by omega)); (try have y14p : w.heap.size + 1 + 1 + 1 + 1 < w1.heap.size + 1 := (by omega)); (try have v0x1 : w0.heap.size < w1.heap.size := (by omega)); (try have v0x1p : w0.heap.size < w1.heap.size + 1 := (by omega))) | (go_at_call 58; refine (hs _).mono ?_; rintro e w2 ⟨rfl, hb2⟩; obtain ⟨hc2, hf2⟩ := bcell hb2; have hz2 := hb2.size; (try simp at hz2); (try have y20 : w.heap.size < w2.heap.size := (by omega)); (try have y20p : w.heap.size < w2.heap.size + 1 := (by omega)); (try have y21 : w.heap.size + 1 < w2.heap.size := (by omega)); (try have y21p : w.heap.size + 1 < w2.heap.size + 1 := (by omega)); (try have y22 : w.heap.size + 1 + 1 < w2.heap.size := (by omega)); (try have y22p : w.heap.size + 1 + 1 < w2.heap.size + 1 := (by omega)); (try have y23 : w.heap.size + 1 + 1 + 1 < w2.heap.size := (by omega)); (try have y23p : w.heap.size + 1 + 1 + 1 < w2.heap.size + 1 := (by omega)); (try have y24 : w.heap.size + 1 + 1 + 1 + 1 < w2.heap.size := (by omega)); (try have y24p : w.heap.size + 1 + 1 + 1 + 1 < w2.heap.size + 1 := (by omega)); (try have v0x2 : w0.heap.size < w2.heap.size := (by omega)); (try have v0x2p : w0.heap.size < w2.heap.size + 1 := (by omega)); (try have v1x2 : w1.heap.size < w2.heap.size := (by omega)); (try have v1x2p : w1.heap.size < w2.heap.size + 1 := (by omega))))
  go_ret2
  refine ⟨rfl, ?_⟩
  repeat (first | with_reducible exact Below.refl _ _ | with_reducible refine Below.setCell ?_ ?_ _ | with_reducible refine Below.alloc ?_ ?_ _ | with_reducible refine Below.drew ?_ | with_reducible refine below_drewN ?_ _ | (refine Below.trans ?_ (bmono (by assumption) ?_)))
  all_goals (first | omega | (simp <;> omega))
set_option maxHeartbeats 1000000 in
theorem bVol_bad (x y z p q r : Int) (hv : eB x y z p q r ≠ 0) (w : World) :
    Calls Try.prog 55 #[.agg #[.int .i64 x, .int .i64 y, .int .i64 z, .int .i64 p, .int .i64 q, .int .i64 r]] w fun e w' => e = .returned (.tuple #[.int .i64 0, .int .i64 (eB x y z p q r)]) ∧ Below w.heap.size w w' := by
  have hc := bcheck_any x y z p q r
  generalize eB x y z p q r = f at hc hv ⊢
  obtain ⟨t1, t2⟩ := ne_tests hv
  clear hv
  go_enter Try.func55, Try.ntmps55
  go_wp2_with (go_at_call 56; refine (hc _).mono ?_; rintro e w1 ⟨rfl, hb1⟩; obtain ⟨hc1, hf1⟩ := bcell hb1; have hz1 := hb1.size; (try simp at hz1); (try have y10 : w.heap.size < w1.heap.size := (by omega)); (try have y10p : w.heap.size < w1.heap.size + 1 := (by omega)); (try have y11 : w.heap.size + 1 < w1.heap.size := (by omega)); (try have y11p : w.heap.size + 1 < w1.heap.size + 1 := (by omega)); (try have y12 : w.heap.size + 1 + 1 < w1.heap.size := (by omega)); (try have y12p : w.heap.size + 1 + 1 < w1.heap.size + 1 := (by omega)); (try have y13 : w.heap.size + 1 + 1 + 1 < w1.heap.size := (by omega)); (try have y13p : w.heap.size + 1 + 1 + 1 < w1.heap.size + 1 := (by omega)); (try have y14 : w.heap.size + 1 + 1 + 1 + 1 < w1.heap.size := (by omega)); (try have y14p : w.heap.size + 1 + 1 + 1 + 1 < w1.heap.size + 1 := (by omega)); (try have v0x1 : w0.heap.size < w1.heap.size := (by omega)); (try have v0x1p : w0.heap.size < w1.heap.size + 1 := (by omega)))
  go_ret2
  refine ⟨rfl, ?_⟩
  repeat (first | with_reducible exact Below.refl _ _ | with_reducible refine Below.setCell ?_ ?_ _ | with_reducible refine Below.alloc ?_ ?_ _ | with_reducible refine Below.drew ?_ | with_reducible refine below_drewN ?_ _ | (refine Below.trans ?_ (bmono (by assumption) ?_)))
  all_goals (first | omega | (simp <;> omega))
def kvI (x y z p q r : Int) : Int := if eB x y z p q r = 0 then volI x y z p q r else 0
set_option maxHeartbeats 1000000 in
theorem kvol_any (x y z p q r : Int) (w : World) :
    Calls Try.prog 44 #[.agg #[.int .i64 x, .int .i64 y, .int .i64 z, .int .i64 p, .int .i64 q, .int .i64 r]] w fun e w' => e = .returned (.int .i64 (kvI x y z p q r)) ∧ Below w.heap.size w w' := by
  by_cases hv : eB x y z p q r = 0
  · have hs := bVol_ok x y z p q r hv
    rw [show kvI x y z p q r = volI x y z p q r by simp [kvI, hv]]
    clear hv
    generalize volI x y z p q r = v at hs ⊢
    go_enter Try.func44, Try.ntmps44
    go_wp2_with (go_at_call 55; refine (hs _).mono ?_; rintro e w1 ⟨rfl, hb1⟩; obtain ⟨hc1, hf1⟩ := bcell hb1; have hz1 := hb1.size; (try simp at hz1); (try have y10 : w.heap.size < w1.heap.size := (by omega)); (try have y10p : w.heap.size < w1.heap.size + 1 := (by omega)); (try have y11 : w.heap.size + 1 < w1.heap.size := (by omega)); (try have y11p : w.heap.size + 1 < w1.heap.size + 1 := (by omega)); (try have y12 : w.heap.size + 1 + 1 < w1.heap.size := (by omega)); (try have y12p : w.heap.size + 1 + 1 < w1.heap.size + 1 := (by omega)); (try have y13 : w.heap.size + 1 + 1 + 1 < w1.heap.size := (by omega)); (try have y13p : w.heap.size + 1 + 1 + 1 < w1.heap.size + 1 := (by omega)); (try have y14 : w.heap.size + 1 + 1 + 1 + 1 < w1.heap.size := (by omega)); (try have y14p : w.heap.size + 1 + 1 + 1 + 1 < w1.heap.size + 1 := (by omega)); (try have v0x1 : w0.heap.size < w1.heap.size := (by omega)); (try have v0x1p : w0.heap.size < w1.heap.size + 1 := (by omega)))
    go_ret
    refine ⟨rfl, ?_⟩
    repeat (first | with_reducible exact Below.refl _ _ | with_reducible refine Below.setCell ?_ ?_ _ | with_reducible refine Below.alloc ?_ ?_ _ | with_reducible refine Below.drew ?_ | with_reducible refine below_drewN ?_ _ | (refine Below.trans ?_ (bmono (by assumption) ?_)))
    all_goals (first | omega | (simp <;> omega))
  · have hs := bVol_bad x y z p q r hv
    rw [show kvI x y z p q r = 0 by simp [kvI, hv]]
    clear hv
    generalize eB x y z p q r = v at hs
    go_enter Try.func44, Try.ntmps44
    go_wp2_with (go_at_call 55; refine (hs _).mono ?_; rintro e w1 ⟨rfl, hb1⟩; obtain ⟨hc1, hf1⟩ := bcell hb1; have hz1 := hb1.size; (try simp at hz1); (try have y10 : w.heap.size < w1.heap.size := (by omega)); (try have y10p : w.heap.size < w1.heap.size + 1 := (by omega)); (try have y11 : w.heap.size + 1 < w1.heap.size := (by omega)); (try have y11p : w.heap.size + 1 < w1.heap.size + 1 := (by omega)); (try have y12 : w.heap.size + 1 + 1 < w1.heap.size := (by omega)); (try have y12p : w.heap.size + 1 + 1 < w1.heap.size + 1 := (by omega)); (try have y13 : w.heap.size + 1 + 1 + 1 < w1.heap.size := (by omega)); (try have y13p : w.heap.size + 1 + 1 + 1 < w1.heap.size + 1 := (by omega)); (try have y14 : w.heap.size + 1 + 1 + 1 + 1 < w1.heap.size := (by omega)); (try have y14p : w.heap.size + 1 + 1 + 1 + 1 < w1.heap.size + 1 := (by omega)); (try have v0x1 : w0.heap.size < w1.heap.size := (by omega)); (try have v0x1p : w0.heap.size < w1.heap.size + 1 := (by omega)))
    go_ret
    refine ⟨rfl, ?_⟩
    repeat (first | with_reducible exact Below.refl _ _ | with_reducible refine Below.setCell ?_ ?_ _ | with_reducible refine Below.alloc ?_ ?_ _ | with_reducible refine Below.drew ?_ | with_reducible refine below_drewN ?_ _ | (refine Below.trans ?_ (bmono (by assumption) ?_)))
    all_goals (first | omega | (simp <;> omega))
def insB (x y z p q r a b c d s u : Int) : Bool := ((max x a) == x && ((max y b) == y && (max z c) == z)) && ((min p d) == p && ((min q s) == q && (min r u) == r))
theorem insB_iff {x y z p q r a b c d s u : Int} : insB x y z p q r a b c d s u = true ↔ (a ≤ x ∧ b ≤ y ∧ c ≤ z ∧ p ≤ d ∧ q ≤ s ∧ r ≤ u) := by
  unfold insB
  simp only [Bool.and_eq_true, beq_iff_eq]
  omega
set_option maxHeartbeats 4000000 in
theorem inside_any (x y z p q r a b c d s u : Int) (w : World) :
    Calls Try.prog 52 #[.agg #[.int .i64 x, .int .i64 y, .int .i64 z, .int .i64 p, .int .i64 q, .int .i64 r], .agg #[.int .i64 a, .int .i64 b, .int .i64 c, .int .i64 d, .int .i64 s, .int .i64 u]] w fun e w' => e = .returned (.bool (insB x y z p q r a b c d s u)) ∧ Below w.heap.size w w' := by
  have q1 : ∀ w, Sem.run Try.prog (binOp .eql 25 (.agg #[.int .i64 (max x a), .int .i64 (max y b), .int .i64 (max z c), .int .i64 (min p d), .int .i64 (min q s), .int .i64 (min r u)]) (.agg #[.int .i64 x, .int .i64 y, .int .i64 z, .int .i64 p, .int .i64 q, .int .i64 r])) w = .ok (.bool (insB x y z p q r a b c d s u)) w := fun w => eqB _ _ _ _ _ _ _ _ _ _ _ _ w
  go_enter Try.func52, Try.ntmps52
  go_wp2
  refine wp_region_any (by kernel_rfl) ?_
  try (change wpAny _ _ _ _ _ _ _ (World.drew _))
  refine wpAny_vals (fr := fun ff_ => #[.agg #[.int .i64 x, .int .i64 y, .int .i64 z, .int .i64 p, .int .i64 q, .int .i64 r], .agg #[.int .i64 a, .int .i64 b, .int .i64 c, .int .i64 d, .int .i64 s, .int .i64 u], .pointer (some ⟨w.heap.size, 0, none⟩), .pointer (some ⟨(w.heap.size + 1), 0, none⟩), ff_ 5, ff_ 0, ff_ 1, ff_ 2, ff_ 3, ff_ 4]) (vals := fun i_ => ([.agg #[.int .i64 x, .int .i64 y, .int .i64 z, .int .i64 p, .int .i64 q, .int .i64 r], .agg #[.int .i64 a, .int .i64 b, .int .i64 c, .int .i64 d, .int .i64 s, .int .i64 u], .agg #[.int .i64 (max x a), .int .i64 (max y b), .int .i64 (max z c), .int .i64 (min p d), .int .i64 (min q s), .int .i64 (min r u)], .agg #[.int .i64 x, .int .i64 y, .int .i64 z, .int .i64 p, .int .i64 q, .int .i64 r], .bool (insB x y z p q r a b c d s u), .bool (insB x y z p q r a b c d s u)] : List Value).getD i_ undef) (Kf := fun _ => True) (K := fun kk_ => ([(KL [((w.heap.size + 1), 25, #[.int .i64 a, .int .i64 b, .int .i64 c, .int .i64 d, .int .i64 s, .int .i64 u]), (w.heap.size, 25, #[.int .i64 x, .int .i64 y, .int .i64 z, .int .i64 p, .int .i64 q, .int .i64 r])] w)] : List (World → Prop)).getD kk_ (fun _ => True)) (dep := fun i_ => [[], [], [0, 1], [], [2, 3], [0, 1, 2, 3, 4]].getD i_ []) (dv := fun i_ => [[], [], [0, 1], [], [2, 3], [4]].getD i_ []) (kd := fun i_ => [1, 1, 1, 1, 0, 0].getD i_ 0) (ss := []) (l := [0, 1, 2, 3, 4, 5]) (f0 := fun i_ => ([undef, undef, undef, undef, undef, .bool false] : List Value).getD i_ undef) (A := ⟨#[.agg #[.int .i64 x, .int .i64 y, .int .i64 z, .int .i64 p, .int .i64 q, .int .i64 r], .agg #[.int .i64 a, .int .i64 b, .int .i64 c, .int .i64 d, .int .i64 s, .int .i64 u], .pointer (some ⟨w.heap.size, 0, none⟩), .pointer (some ⟨(w.heap.size + 1), 0, none⟩), .bool (insB x y z p q r a b c d s u), .agg #[.int .i64 x, .int .i64 y, .int .i64 z, .int .i64 p, .int .i64 q, .int .i64 r], .agg #[.int .i64 a, .int .i64 b, .int .i64 c, .int .i64 d, .int .i64 s, .int .i64 u], .agg #[.int .i64 (max x a), .int .i64 (max y b), .int .i64 (max z c), .int .i64 (min p d), .int .i64 (min q s), .int .i64 (min r u)], .agg #[.int .i64 x, .int .i64 y, .int .i64 z, .int .i64 p, .int .i64 q, .int .i64 r], .bool (insB x y z p q r a b c d s u)], []⟩) 6 rfl rfl (by decide +kernel) (by decide +kernel) ?_ ?_ ⟨?_, ?_, ?_, ?_, ?_, ?_, trivial⟩ ?_ ?_
  · exact KL.drew (KL.new (KL.new (KL.nil w) rfl _ _) (by simp) _ _)
  · exact fun _ _ _ _ => trivial
  · intro ff_ W hj
    have hj : KL _ _ W := hj
    obtain ⟨cL, c0, c1, c2, c3, c4, c5⟩ := bl6 (KL.blk hj (.tail _ (.head _)))
    show wpOp _ _ _ 0 _ ⟨#[_, _, _, _, ff_ 5, ff_ 0, ff_ 1, ff_ 2, ff_ 3, ff_ 4], []⟩ W
    refine wpOp_step rfl (fun K' hK => ?_)
    go_simp
    exact hK _ _ ⟨rfl, hj⟩
  · intro ff_ W hj
    have hj : KL _ _ W := hj
    obtain ⟨cL, c0, c1, c2, c3, c4, c5⟩ := bl6 (KL.blk hj (.head _))
    show wpOp _ _ _ 1 _ ⟨#[_, _, _, _, ff_ 5, ff_ 0, ff_ 1, ff_ 2, ff_ 3, ff_ 4], []⟩ W
    refine wpOp_step rfl (fun K' hK => ?_)
    go_simp
    exact hK _ _ ⟨rfl, hj⟩
  · intro ff_ W hj
    have hj : KL _ _ W := hj
    show wpOp _ _ _ 2 _ ⟨#[_, _, _, _, ff_ 5, .agg #[.int .i64 x, .int .i64 y, .int .i64 z, .int .i64 p, .int .i64 q, .int .i64 r], .agg #[.int .i64 a, .int .i64 b, .int .i64 c, .int .i64 d, .int .i64 s, .int .i64 u], ff_ 2, ff_ 3, ff_ 4], []⟩ W
    refine wpOp_step rfl (fun K' hK => ?_)
    go_simp
    refine (common_any _ _ _ _ _ _ _ _ _ _ _ _ _).mono ?_
    rintro e W1 ⟨rfl, hb1⟩
    exact hK _ _ ⟨rfl, hj.over hb1⟩
  · intro ff_ W hj
    have hj : KL _ _ W := hj
    obtain ⟨cL, c0, c1, c2, c3, c4, c5⟩ := bl6 (KL.blk hj (.tail _ (.head _)))
    show wpOp _ _ _ 3 _ ⟨#[_, _, _, _, ff_ 5, ff_ 0, ff_ 1, ff_ 2, ff_ 3, ff_ 4], []⟩ W
    refine wpOp_step rfl (fun K' hK => ?_)
    go_simp
    exact hK _ _ ⟨rfl, hj⟩
  · intro ff_ W _
    show wpOp _ _ _ 4 _ ⟨#[_, _, _, _, ff_ 5, ff_ 0, ff_ 1, .agg #[.int .i64 (max x a), .int .i64 (max y b), .int .i64 (max z c), .int .i64 (min p d), .int .i64 (min q s), .int .i64 (min r u)], .agg #[.int .i64 x, .int .i64 y, .int .i64 z, .int .i64 p, .int .i64 q, .int .i64 r], ff_ 4], []⟩ W
    refine wpOp_step rfl (fun K' hK => ?_)
    go_simp
    exact hK _ _ ⟨rfl, rfl⟩
  · intro ff_ W _
    show wpOp _ _ _ 5 _ ⟨#[_, _, _, _, ff_ 5, ff_ 0, ff_ 1, ff_ 2, ff_ 3, .bool (insB x y z p q r a b c d s u)], []⟩ W
    refine wpOp_step rfl (fun K' hK => ?_)
    go_simp
    exact hK _ _ ⟨rfl, rfl⟩
  · intro ff_ hh_
    have e0 : ff_ 0 = .agg #[.int .i64 x, .int .i64 y, .int .i64 z, .int .i64 p, .int .i64 q, .int .i64 r] := hh_ 0 (by decide)
    have e1 : ff_ 1 = .agg #[.int .i64 a, .int .i64 b, .int .i64 c, .int .i64 d, .int .i64 s, .int .i64 u] := hh_ 1 (by decide)
    have e2 : ff_ 2 = .agg #[.int .i64 (max x a), .int .i64 (max y b), .int .i64 (max z c), .int .i64 (min p d), .int .i64 (min q s), .int .i64 (min r u)] := hh_ 2 (by decide)
    have e3 : ff_ 3 = .agg #[.int .i64 x, .int .i64 y, .int .i64 z, .int .i64 p, .int .i64 q, .int .i64 r] := hh_ 3 (by decide)
    have e4 : ff_ 4 = .bool (insB x y z p q r a b c d s u) := hh_ 4 (by decide)
    have e5 : ff_ 5 = .bool (insB x y z p q r a b c d s u) := hh_ 5 (by decide)
    rw [e0, e1, e2, e3, e4, e5]
  · intro W hj
    have hj : KL _ _ W := hj
    obtain ⟨cL0, c0_0, c0_1, c0_2, c0_3, c0_4, c0_5⟩ := bl6 (KL.blk hj (.head _))
    obtain ⟨cL1, c1_0, c1_1, c1_2, c1_3, c1_4, c1_5⟩ := bl6 (KL.blk hj (.tail _ (.head _)))
    have hjb := hj.1
    have hjz := hjb.size
    go_wp2
    go_ret
    exact ⟨rfl, hjb⟩
end Go.Proofs.Ytogmgaaejepcbaa
