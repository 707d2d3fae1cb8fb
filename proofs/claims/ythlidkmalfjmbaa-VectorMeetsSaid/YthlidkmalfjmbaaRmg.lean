/- The walk of the reference's Meet where neither segment is a point. -/
import Derived.Test.YthlidkmalfjmbaaKls
import Derived.Test.YthlidkmalfjmbaaRdeg
namespace Go.Proofs.Ythlidkmalfjmbaa
open Go.RowKit

set_option maxHeartbeats 16000000 in
set_option maxRecDepth 100000 in
theorem refMeet_gnp (ax ay bx b_y cx cy dx dy s1 s2 P12 : Int) (hp : (ax == bx && ay == b_y) = false) (hq : (cx == dx && cy == dy) = false) (hT1 : ∀ w, Calls Try.prog 32 #[.agg #[.int .i64 ax, .int .i64 ay], .agg #[.int .i64 bx, .int .i64 b_y], .agg #[.int .i64 cx, .int .i64 cy]] w fun e w' => e = .returned (.int .i64 s1) ∧ Below w.heap.size w w') (hT2 : ∀ w, Calls Try.prog 32 #[.agg #[.int .i64 ax, .int .i64 ay], .agg #[.int .i64 bx, .int .i64 b_y], .agg #[.int .i64 dx, .int .i64 dy]] w fun e w' => e = .returned (.int .i64 s2) ∧ Below w.heap.size w w')  (d1 : (s1 == 0) = false) (x1 : IntKind.i64.wrap (s1 * s2) = P12) (d3 : decide (P12 ≤ 0) = false) (w : World) :
    Calls Try.prog 35 #[.agg #[.int .i64 ax, .int .i64 ay], .agg #[.int .i64 bx, .int .i64 b_y], .agg #[.int .i64 cx, .int .i64 cy], .agg #[.int .i64 dx, .int .i64 dy]] w fun e w' => e = .returned (.int .i64 0) ∧ Below w.heap.size w w' := by
  have e1 := eqP ax ay bx b_y
  have e2 := eqP cx cy dx dy
  rw [hp] at e1
  rw [hq] at e2
  clear hp hq
  go_enter Try.func35, Try.ntmps35
  go_wp2_with (go_at_call 32; (with_reducible refine (hT1 _).mono ?_); rintro e w1 ⟨rfl, hb1⟩; have hj1 : KL [((w.heap.size + 1 + 1 + 1),46,#[.int .i64 dx,.int .i64 dy]),((w.heap.size + 1 + 1),46,#[.int .i64 cx,.int .i64 cy]),((w.heap.size + 1),46,#[.int .i64 bx,.int .i64 b_y]),(w.heap.size,46,#[.int .i64 ax,.int .i64 ay])] w w1 := KL.over (KL.new (g := (w.heap.size + 1 + 1 + 1)) (KL.new (g := (w.heap.size + 1 + 1)) (KL.new (g := (w.heap.size + 1)) (KL.new (g := w.heap.size) (KL.nil w) rfl _ _) (by simp) _ _) (by simp) _ _) (by simp) _ _) hb1; obtain ⟨aL0, a0_0, a0_1⟩ := bl2 (KL.blk hj1 (.head _)); have aF0 := (KL.blk hj1 (.head _)).frozen; obtain ⟨aL1, a1_0, a1_1⟩ := bl2 (KL.blk hj1 (.tail _ (.head _))); have aF1 := (KL.blk hj1 (.tail _ (.head _))).frozen; obtain ⟨aL2, a2_0, a2_1⟩ := bl2 (KL.blk hj1 (.tail _ (.tail _ (.head _)))); have aF2 := (KL.blk hj1 (.tail _ (.tail _ (.head _)))).frozen; obtain ⟨aL3, a3_0, a3_1⟩ := bl2 (KL.blk hj1 (.tail _ (.tail _ (.tail _ (.head _))))); have aF3 := (KL.blk hj1 (.tail _ (.tail _ (.tail _ (.head _))))).frozen)
  refine wp_region_any (by kernel_rfl) ?_
  try (change wpAny _ _ _ _ _ _ _ (World.drew _))
  refine wpAny_vals (fr := fun o => #[.agg #[.int .i64 ax,.int .i64 ay],.agg #[.int .i64 bx,.int .i64 b_y],.agg #[.int .i64 cx,.int .i64 cy],.agg #[.int .i64 dx,.int .i64 dy],.pointer (some ⟨w.heap.size, 0, none⟩),.pointer (some ⟨(w.heap.size + 1), 0, none⟩),.pointer (some ⟨(w.heap.size + 1 + 1), 0, none⟩),.pointer (some ⟨(w.heap.size + 1 + 1 + 1), 0, none⟩),.int .i64 0,undef,undef,.agg #[.int .i64 ax,.int .i64 ay],.agg #[.int .i64 bx,.int .i64 b_y],.bool false,.bool false,.agg #[.int .i64 cx,.int .i64 cy],.agg #[.int .i64 dx,.int .i64 dy],.bool false,.bool false,undef,undef,undef,undef,undef,undef,undef,undef,undef,undef,undef,undef,undef,undef,undef,undef,undef,undef,undef,undef,.agg #[.int .i64 ax,.int .i64 ay],.agg #[.int .i64 bx,.int .i64 b_y],.agg #[.int .i64 cx,.int .i64 cy],.int .i64 s1,.bool false,.bool false,undef,undef,undef,undef,undef,.bool false,undef,undef,undef,undef,undef,undef,undef,undef,undef,undef,undef,undef,undef,undef,undef,undef,undef,undef,undef,undef,undef,undef,undef,undef,undef,undef,undef,undef,o 0,o 1,o 2,o 3,o 4,o 5,o 6,o 7,o 8,o 9,o 10,o 11,o 12,o 13,o 14,o 15,o 16,o 17,o 18,o 19,o 20,o 21]) (vals := fun i_ => ([.agg #[.int .i64 ax,.int .i64 ay],.agg #[.int .i64 bx,.int .i64 b_y],.agg #[.int .i64 cx,.int .i64 cy],.int .i64 s1,.agg #[.int .i64 ax,.int .i64 ay],.agg #[.int .i64 bx,.int .i64 b_y],.agg #[.int .i64 dx,.int .i64 dy],.int .i64 s2,.int .i64 P12,.bool false,.bool false,undef,undef,undef,undef,undef,undef,undef,undef,undef,undef,.bool false] : List Value).getD i_ undef) (Kf := fun _ => True) (K := fun kk_ => ([(KL [((w.heap.size + 1 + 1 + 1),46,#[.int .i64 dx,.int .i64 dy]),((w.heap.size + 1 + 1),46,#[.int .i64 cx,.int .i64 cy]),((w.heap.size + 1),46,#[.int .i64 bx,.int .i64 b_y]),(w.heap.size,46,#[.int .i64 ax,.int .i64 ay])] w)] : List (World → Prop)).getD kk_ (fun _ => True)) (dep := fun i_ => [[],[],[],[0,1,2],[],[],[],[4,5,6],[3,7],[8],[9],[10],[10],[10],[10,11,12,13],[10],[10],[10],[10,15,16,17],[10,14,18],[10,19],[10,20]].getD i_ []) (dv := fun i_ => [[],[],[],[0,1,2],[],[],[],[4,5,6],[3,7],[8],[9],[10],[10],[10],[10,11,12,13],[10],[10],[10],[10,15,16,17],[10,14,18],[10,19],[10,20]].getD i_ []) (kd := fun i_ => [1,1,1,1,1,1,1,1,0,0,0,0,0,0,0,0,0,0,0,0,0,0].getD i_ 0) (ss := []) (l := [0,1,2,3,4,5,6,7,8,9,10,11,12,13,14,15,16,17,18,19,20,21]) (f0 := fun _ => undef) (A := ?A1) 22 ?_ ?_ ?_ ?_ ?_ ?_ ⟨?_, ?_, ?_, ?_, ?_, ?_, ?_, ?_, ?_, ?_, ?_, ?_, ?_, ?_, ?_, ?_, ?_, ?_, ?_, ?_, ?_, ?_, trivial⟩ ?_ ?_
  rotate_left
  · rfl
  · rfl
  · decide +kernel
  · decide +kernel
  · exact KL.drew hj1
  · exact fun _ _ _ _ => trivial
  · intro o W hj
    have hj : KL _ _ W := hj
    obtain ⟨cL, c0, c1⟩ := bl2 (KL.blk hj (.tail _ (.tail _ (.tail _ (.head _)))))
    show wpOp _ _ _ 0 _ ⟨#[_,_,_,_,_,_,_,_,_,_,_,_,_,_,_,_,_,_,_,_,_,_,_,_,_,_,_,_,_,_,_,_,_,_,_,_,_,_,_,_,_,_,_,_,_,_,_,_,_,_,_,_,_,_,_,_,_,_,_,_,_,_,_,_,_,_,_,_,_,_,_,_,_,_,_,_,_,_,_,o 0,o 1,o 2,o 3,o 4,o 5,o 6,o 7,o 8,o 9,o 10,o 11,o 12,o 13,o 14,o 15,o 16,o 17,o 18,o 19,o 20,o 21], []⟩ W
    refine wpOp_step rfl (fun K' hK => ?_)
    go_simp
    exact hK _ _ ⟨rfl, hj⟩
  · intro o W hj
    have hj : KL _ _ W := hj
    obtain ⟨cL, c0, c1⟩ := bl2 (KL.blk hj (.tail _ (.tail _ (.head _))))
    show wpOp _ _ _ 1 _ ⟨#[_,_,_,_,_,_,_,_,_,_,_,_,_,_,_,_,_,_,_,_,_,_,_,_,_,_,_,_,_,_,_,_,_,_,_,_,_,_,_,_,_,_,_,_,_,_,_,_,_,_,_,_,_,_,_,_,_,_,_,_,_,_,_,_,_,_,_,_,_,_,_,_,_,_,_,_,_,_,_,o 0,o 1,o 2,o 3,o 4,o 5,o 6,o 7,o 8,o 9,o 10,o 11,o 12,o 13,o 14,o 15,o 16,o 17,o 18,o 19,o 20,o 21], []⟩ W
    refine wpOp_step rfl (fun K' hK => ?_)
    go_simp
    exact hK _ _ ⟨rfl, hj⟩
  · intro o W hj
    have hj : KL _ _ W := hj
    obtain ⟨cL, c0, c1⟩ := bl2 (KL.blk hj (.tail _ (.head _)))
    show wpOp _ _ _ 2 _ ⟨#[_,_,_,_,_,_,_,_,_,_,_,_,_,_,_,_,_,_,_,_,_,_,_,_,_,_,_,_,_,_,_,_,_,_,_,_,_,_,_,_,_,_,_,_,_,_,_,_,_,_,_,_,_,_,_,_,_,_,_,_,_,_,_,_,_,_,_,_,_,_,_,_,_,_,_,_,_,_,_,o 0,o 1,o 2,o 3,o 4,o 5,o 6,o 7,o 8,o 9,o 10,o 11,o 12,o 13,o 14,o 15,o 16,o 17,o 18,o 19,o 20,o 21], []⟩ W
    refine wpOp_step rfl (fun K' hK => ?_)
    go_simp
    exact hK _ _ ⟨rfl, hj⟩
  · intro o W hj
    have hj : KL _ _ W := hj
    show wpOp _ _ _ 3 _ ⟨#[_,_,_,_,_,_,_,_,_,_,_,_,_,_,_,_,_,_,_,_,_,_,_,_,_,_,_,_,_,_,_,_,_,_,_,_,_,_,_,_,_,_,_,_,_,_,_,_,_,_,_,_,_,_,_,_,_,_,_,_,_,_,_,_,_,_,_,_,_,_,_,_,_,_,_,_,_,_,_,.agg #[.int .i64 ax,.int .i64 ay],.agg #[.int .i64 bx,.int .i64 b_y],.agg #[.int .i64 cx,.int .i64 cy],o 3,o 4,o 5,o 6,o 7,o 8,o 9,o 10,o 11,o 12,o 13,o 14,o 15,o 16,o 17,o 18,o 19,o 20,o 21], []⟩ W
    refine wpOp_step rfl (fun K' hK => ?_)
    go_simp
    refine (hT1 _).mono ?_
    rintro e W1 ⟨rfl, hb1⟩
    exact hK _ _ ⟨rfl, hj.over hb1⟩
  · intro o W hj
    have hj : KL _ _ W := hj
    obtain ⟨cL, c0, c1⟩ := bl2 (KL.blk hj (.tail _ (.tail _ (.tail _ (.head _)))))
    show wpOp _ _ _ 4 _ ⟨#[_,_,_,_,_,_,_,_,_,_,_,_,_,_,_,_,_,_,_,_,_,_,_,_,_,_,_,_,_,_,_,_,_,_,_,_,_,_,_,_,_,_,_,_,_,_,_,_,_,_,_,_,_,_,_,_,_,_,_,_,_,_,_,_,_,_,_,_,_,_,_,_,_,_,_,_,_,_,_,o 0,o 1,o 2,o 3,o 4,o 5,o 6,o 7,o 8,o 9,o 10,o 11,o 12,o 13,o 14,o 15,o 16,o 17,o 18,o 19,o 20,o 21], []⟩ W
    refine wpOp_step rfl (fun K' hK => ?_)
    go_simp
    exact hK _ _ ⟨rfl, hj⟩
  · intro o W hj
    have hj : KL _ _ W := hj
    obtain ⟨cL, c0, c1⟩ := bl2 (KL.blk hj (.tail _ (.tail _ (.head _))))
    show wpOp _ _ _ 5 _ ⟨#[_,_,_,_,_,_,_,_,_,_,_,_,_,_,_,_,_,_,_,_,_,_,_,_,_,_,_,_,_,_,_,_,_,_,_,_,_,_,_,_,_,_,_,_,_,_,_,_,_,_,_,_,_,_,_,_,_,_,_,_,_,_,_,_,_,_,_,_,_,_,_,_,_,_,_,_,_,_,_,o 0,o 1,o 2,o 3,o 4,o 5,o 6,o 7,o 8,o 9,o 10,o 11,o 12,o 13,o 14,o 15,o 16,o 17,o 18,o 19,o 20,o 21], []⟩ W
    refine wpOp_step rfl (fun K' hK => ?_)
    go_simp
    exact hK _ _ ⟨rfl, hj⟩
  · intro o W hj
    have hj : KL _ _ W := hj
    obtain ⟨cL, c0, c1⟩ := bl2 (KL.blk hj (.head _))
    show wpOp _ _ _ 6 _ ⟨#[_,_,_,_,_,_,_,_,_,_,_,_,_,_,_,_,_,_,_,_,_,_,_,_,_,_,_,_,_,_,_,_,_,_,_,_,_,_,_,_,_,_,_,_,_,_,_,_,_,_,_,_,_,_,_,_,_,_,_,_,_,_,_,_,_,_,_,_,_,_,_,_,_,_,_,_,_,_,_,o 0,o 1,o 2,o 3,o 4,o 5,o 6,o 7,o 8,o 9,o 10,o 11,o 12,o 13,o 14,o 15,o 16,o 17,o 18,o 19,o 20,o 21], []⟩ W
    refine wpOp_step rfl (fun K' hK => ?_)
    go_simp
    exact hK _ _ ⟨rfl, hj⟩
  · intro o W hj
    have hj : KL _ _ W := hj
    show wpOp _ _ _ 7 _ ⟨#[_,_,_,_,_,_,_,_,_,_,_,_,_,_,_,_,_,_,_,_,_,_,_,_,_,_,_,_,_,_,_,_,_,_,_,_,_,_,_,_,_,_,_,_,_,_,_,_,_,_,_,_,_,_,_,_,_,_,_,_,_,_,_,_,_,_,_,_,_,_,_,_,_,_,_,_,_,_,_,o 0,o 1,o 2,o 3,.agg #[.int .i64 ax,.int .i64 ay],.agg #[.int .i64 bx,.int .i64 b_y],.agg #[.int .i64 dx,.int .i64 dy],o 7,o 8,o 9,o 10,o 11,o 12,o 13,o 14,o 15,o 16,o 17,o 18,o 19,o 20,o 21], []⟩ W
    refine wpOp_step rfl (fun K' hK => ?_)
    go_simp
    refine (hT2 _).mono ?_
    rintro e W1 ⟨rfl, hb1⟩
    exact hK _ _ ⟨rfl, hj.over hb1⟩
  · intro o W _
    show wpOp _ _ _ 8 _ ⟨#[_,_,_,_,_,_,_,_,_,_,_,_,_,_,_,_,_,_,_,_,_,_,_,_,_,_,_,_,_,_,_,_,_,_,_,_,_,_,_,_,_,_,_,_,_,_,_,_,_,_,_,_,_,_,_,_,_,_,_,_,_,_,_,_,_,_,_,_,_,_,_,_,_,_,_,_,_,_,_,o 0,o 1,o 2,.int .i64 s1,o 4,o 5,o 6,.int .i64 s2,o 8,o 9,o 10,o 11,o 12,o 13,o 14,o 15,o 16,o 17,o 18,o 19,o 20,o 21], []⟩ W
    refine wpOp_step rfl (fun K' hK => ?_)
    go_simp
    exact hK _ _ ⟨rfl, rfl⟩
  · intro o W _
    show wpOp _ _ _ 9 _ ⟨#[_,_,_,_,_,_,_,_,_,_,_,_,_,_,_,_,_,_,_,_,_,_,_,_,_,_,_,_,_,_,_,_,_,_,_,_,_,_,_,_,_,_,_,_,_,_,_,_,_,_,_,_,_,_,_,_,_,_,_,_,_,_,_,_,_,_,_,_,_,_,_,_,_,_,_,_,_,_,_,o 0,o 1,o 2,o 3,o 4,o 5,o 6,o 7,.int .i64 P12,o 9,o 10,o 11,o 12,o 13,o 14,o 15,o 16,o 17,o 18,o 19,o 20,o 21], []⟩ W
    refine wpOp_step rfl (fun K' hK => ?_)
    go_simp
    exact hK _ _ ⟨rfl, rfl⟩
  · intro o W _
    show wpOp _ _ _ 10 _ ⟨#[_,_,_,_,_,_,_,_,_,_,_,_,_,_,_,_,_,_,_,_,_,_,_,_,_,_,_,_,_,_,_,_,_,_,_,_,_,_,_,_,_,_,_,_,_,_,_,_,_,_,_,_,_,_,_,_,_,_,_,_,_,_,_,_,_,_,_,_,_,_,_,_,_,_,_,_,_,_,_,o 0,o 1,o 2,o 3,o 4,o 5,o 6,o 7,o 8,.bool false,o 10,o 11,o 12,o 13,o 14,o 15,o 16,o 17,o 18,o 19,o 20,o 21], []⟩ W
    refine wpOp_step rfl (fun K' hK => ?_)
    go_simp
    exact hK _ _ ⟨rfl, rfl⟩
  · intro o W _
    show wpOp _ _ _ 11 _ ⟨#[_,_,_,_,_,_,_,_,_,_,_,_,_,_,_,_,_,_,_,_,_,_,_,_,_,_,_,_,_,_,_,_,_,_,_,_,_,_,_,_,_,_,_,_,_,_,_,_,_,_,_,_,_,_,_,_,_,_,_,_,_,_,_,_,_,_,_,_,_,_,_,_,_,_,_,_,_,_,_,o 0,o 1,o 2,o 3,o 4,o 5,o 6,o 7,o 8,o 9,.bool false,o 11,o 12,o 13,o 14,o 15,o 16,o 17,o 18,o 19,o 20,o 21], []⟩ W
    refine wpOp_step rfl (fun K' hK => ?_)
    go_simp
    exact hK _ _ ⟨rfl, rfl⟩
  · intro o W _
    show wpOp _ _ _ 12 _ ⟨#[_,_,_,_,_,_,_,_,_,_,_,_,_,_,_,_,_,_,_,_,_,_,_,_,_,_,_,_,_,_,_,_,_,_,_,_,_,_,_,_,_,_,_,_,_,_,_,_,_,_,_,_,_,_,_,_,_,_,_,_,_,_,_,_,_,_,_,_,_,_,_,_,_,_,_,_,_,_,_,o 0,o 1,o 2,o 3,o 4,o 5,o 6,o 7,o 8,o 9,.bool false,o 11,o 12,o 13,o 14,o 15,o 16,o 17,o 18,o 19,o 20,o 21], []⟩ W
    refine wpOp_step rfl (fun K' hK => ?_)
    go_simp
    exact hK _ _ ⟨rfl, rfl⟩
  · intro o W _
    show wpOp _ _ _ 13 _ ⟨#[_,_,_,_,_,_,_,_,_,_,_,_,_,_,_,_,_,_,_,_,_,_,_,_,_,_,_,_,_,_,_,_,_,_,_,_,_,_,_,_,_,_,_,_,_,_,_,_,_,_,_,_,_,_,_,_,_,_,_,_,_,_,_,_,_,_,_,_,_,_,_,_,_,_,_,_,_,_,_,o 0,o 1,o 2,o 3,o 4,o 5,o 6,o 7,o 8,o 9,.bool false,o 11,o 12,o 13,o 14,o 15,o 16,o 17,o 18,o 19,o 20,o 21], []⟩ W
    refine wpOp_step rfl (fun K' hK => ?_)
    go_simp
    exact hK _ _ ⟨rfl, rfl⟩
  · intro o W _
    show wpOp _ _ _ 14 _ ⟨#[_,_,_,_,_,_,_,_,_,_,_,_,_,_,_,_,_,_,_,_,_,_,_,_,_,_,_,_,_,_,_,_,_,_,_,_,_,_,_,_,_,_,_,_,_,_,_,_,_,_,_,_,_,_,_,_,_,_,_,_,_,_,_,_,_,_,_,_,_,_,_,_,_,_,_,_,_,_,_,o 0,o 1,o 2,o 3,o 4,o 5,o 6,o 7,o 8,o 9,.bool false,undef,undef,undef,o 14,o 15,o 16,o 17,o 18,o 19,o 20,o 21], []⟩ W
    refine wpOp_step rfl (fun K' hK => ?_)
    go_simp
    exact hK _ _ ⟨rfl, rfl⟩
  · intro o W _
    show wpOp _ _ _ 15 _ ⟨#[_,_,_,_,_,_,_,_,_,_,_,_,_,_,_,_,_,_,_,_,_,_,_,_,_,_,_,_,_,_,_,_,_,_,_,_,_,_,_,_,_,_,_,_,_,_,_,_,_,_,_,_,_,_,_,_,_,_,_,_,_,_,_,_,_,_,_,_,_,_,_,_,_,_,_,_,_,_,_,o 0,o 1,o 2,o 3,o 4,o 5,o 6,o 7,o 8,o 9,.bool false,o 11,o 12,o 13,o 14,o 15,o 16,o 17,o 18,o 19,o 20,o 21], []⟩ W
    refine wpOp_step rfl (fun K' hK => ?_)
    go_simp
    exact hK _ _ ⟨rfl, rfl⟩
  · intro o W _
    show wpOp _ _ _ 16 _ ⟨#[_,_,_,_,_,_,_,_,_,_,_,_,_,_,_,_,_,_,_,_,_,_,_,_,_,_,_,_,_,_,_,_,_,_,_,_,_,_,_,_,_,_,_,_,_,_,_,_,_,_,_,_,_,_,_,_,_,_,_,_,_,_,_,_,_,_,_,_,_,_,_,_,_,_,_,_,_,_,_,o 0,o 1,o 2,o 3,o 4,o 5,o 6,o 7,o 8,o 9,.bool false,o 11,o 12,o 13,o 14,o 15,o 16,o 17,o 18,o 19,o 20,o 21], []⟩ W
    refine wpOp_step rfl (fun K' hK => ?_)
    go_simp
    exact hK _ _ ⟨rfl, rfl⟩
  · intro o W _
    show wpOp _ _ _ 17 _ ⟨#[_,_,_,_,_,_,_,_,_,_,_,_,_,_,_,_,_,_,_,_,_,_,_,_,_,_,_,_,_,_,_,_,_,_,_,_,_,_,_,_,_,_,_,_,_,_,_,_,_,_,_,_,_,_,_,_,_,_,_,_,_,_,_,_,_,_,_,_,_,_,_,_,_,_,_,_,_,_,_,o 0,o 1,o 2,o 3,o 4,o 5,o 6,o 7,o 8,o 9,.bool false,o 11,o 12,o 13,o 14,o 15,o 16,o 17,o 18,o 19,o 20,o 21], []⟩ W
    refine wpOp_step rfl (fun K' hK => ?_)
    go_simp
    exact hK _ _ ⟨rfl, rfl⟩
  · intro o W _
    show wpOp _ _ _ 18 _ ⟨#[_,_,_,_,_,_,_,_,_,_,_,_,_,_,_,_,_,_,_,_,_,_,_,_,_,_,_,_,_,_,_,_,_,_,_,_,_,_,_,_,_,_,_,_,_,_,_,_,_,_,_,_,_,_,_,_,_,_,_,_,_,_,_,_,_,_,_,_,_,_,_,_,_,_,_,_,_,_,_,o 0,o 1,o 2,o 3,o 4,o 5,o 6,o 7,o 8,o 9,.bool false,o 11,o 12,o 13,o 14,undef,undef,undef,o 18,o 19,o 20,o 21], []⟩ W
    refine wpOp_step rfl (fun K' hK => ?_)
    go_simp
    exact hK _ _ ⟨rfl, rfl⟩
  · intro o W _
    show wpOp _ _ _ 19 _ ⟨#[_,_,_,_,_,_,_,_,_,_,_,_,_,_,_,_,_,_,_,_,_,_,_,_,_,_,_,_,_,_,_,_,_,_,_,_,_,_,_,_,_,_,_,_,_,_,_,_,_,_,_,_,_,_,_,_,_,_,_,_,_,_,_,_,_,_,_,_,_,_,_,_,_,_,_,_,_,_,_,o 0,o 1,o 2,o 3,o 4,o 5,o 6,o 7,o 8,o 9,.bool false,o 11,o 12,o 13,undef,o 15,o 16,o 17,undef,o 19,o 20,o 21], []⟩ W
    refine wpOp_step rfl (fun K' hK => ?_)
    go_simp
    exact hK _ _ ⟨rfl, rfl⟩
  · intro o W _
    show wpOp _ _ _ 20 _ ⟨#[_,_,_,_,_,_,_,_,_,_,_,_,_,_,_,_,_,_,_,_,_,_,_,_,_,_,_,_,_,_,_,_,_,_,_,_,_,_,_,_,_,_,_,_,_,_,_,_,_,_,_,_,_,_,_,_,_,_,_,_,_,_,_,_,_,_,_,_,_,_,_,_,_,_,_,_,_,_,_,o 0,o 1,o 2,o 3,o 4,o 5,o 6,o 7,o 8,o 9,.bool false,o 11,o 12,o 13,o 14,o 15,o 16,o 17,o 18,undef,o 20,o 21], []⟩ W
    refine wpOp_step rfl (fun K' hK => ?_)
    go_simp
    exact hK _ _ ⟨rfl, rfl⟩
  · intro o W _
    show wpOp _ _ _ 21 _ ⟨#[_,_,_,_,_,_,_,_,_,_,_,_,_,_,_,_,_,_,_,_,_,_,_,_,_,_,_,_,_,_,_,_,_,_,_,_,_,_,_,_,_,_,_,_,_,_,_,_,_,_,_,_,_,_,_,_,_,_,_,_,_,_,_,_,_,_,_,_,_,_,_,_,_,_,_,_,_,_,_,o 0,o 1,o 2,o 3,o 4,o 5,o 6,o 7,o 8,o 9,.bool false,o 11,o 12,o 13,o 14,o 15,o 16,o 17,o 18,o 19,undef,o 21], []⟩ W
    refine wpOp_step rfl (fun K' hK => ?_)
    go_simp
    exact hK _ _ ⟨rfl, rfl⟩
  · intro o hh_
    have e0 : o 0 = .agg #[.int .i64 ax,.int .i64 ay] := hh_ 0 (by decide)
    have e1 : o 1 = .agg #[.int .i64 bx,.int .i64 b_y] := hh_ 1 (by decide)
    have e2 : o 2 = .agg #[.int .i64 cx,.int .i64 cy] := hh_ 2 (by decide)
    have e3 : o 3 = .int .i64 s1 := hh_ 3 (by decide)
    have e4 : o 4 = .agg #[.int .i64 ax,.int .i64 ay] := hh_ 4 (by decide)
    have e5 : o 5 = .agg #[.int .i64 bx,.int .i64 b_y] := hh_ 5 (by decide)
    have e6 : o 6 = .agg #[.int .i64 dx,.int .i64 dy] := hh_ 6 (by decide)
    have e7 : o 7 = .int .i64 s2 := hh_ 7 (by decide)
    have e8 : o 8 = .int .i64 P12 := hh_ 8 (by decide)
    have e9 : o 9 = .bool false := hh_ 9 (by decide)
    have e10 : o 10 = .bool false := hh_ 10 (by decide)
    have e11 : o 11 = undef := hh_ 11 (by decide)
    have e12 : o 12 = undef := hh_ 12 (by decide)
    have e13 : o 13 = undef := hh_ 13 (by decide)
    have e14 : o 14 = undef := hh_ 14 (by decide)
    have e15 : o 15 = undef := hh_ 15 (by decide)
    have e16 : o 16 = undef := hh_ 16 (by decide)
    have e17 : o 17 = undef := hh_ 17 (by decide)
    have e18 : o 18 = undef := hh_ 18 (by decide)
    have e19 : o 19 = undef := hh_ 19 (by decide)
    have e20 : o 20 = undef := hh_ 20 (by decide)
    have e21 : o 21 = .bool false := hh_ 21 (by decide)
    rw [e0, e1, e2, e3, e4, e5, e6, e7, e8, e9, e10, e11, e12, e13, e14, e15, e16, e17, e18, e19, e20, e21]
  · intro W9 h9
    have h9 : KL _ _ W9 := h9
    obtain ⟨eL0, e0_0, e0_1⟩ := bl2 (KL.blk h9 (.head _))
    have eF0 := (KL.blk h9 (.head _)).frozen
    obtain ⟨eL1, e1_0, e1_1⟩ := bl2 (KL.blk h9 (.tail _ (.head _)))
    have eF1 := (KL.blk h9 (.tail _ (.head _))).frozen
    obtain ⟨eL2, e2_0, e2_1⟩ := bl2 (KL.blk h9 (.tail _ (.tail _ (.head _))))
    have eF2 := (KL.blk h9 (.tail _ (.tail _ (.head _)))).frozen
    obtain ⟨eL3, e3_0, e3_1⟩ := bl2 (KL.blk h9 (.tail _ (.tail _ (.tail _ (.head _)))))
    have eF3 := (KL.blk h9 (.tail _ (.tail _ (.tail _ (.head _))))).frozen
    have hjb := h9.1
    have hjz := hjb.size
    go_wp2
    go_ret
    exact ⟨rfl, hjb⟩
set_option maxHeartbeats 16000000 in
set_option maxRecDepth 100000 in
theorem refMeet_gnm (ax ay bx b_y cx cy dx dy s1 s2 s3 s4 P12 P34 : Int) (hp : (ax == bx && ay == b_y) = false) (hq : (cx == dx && cy == dy) = false) (hT1 : ∀ w, Calls Try.prog 32 #[.agg #[.int .i64 ax, .int .i64 ay], .agg #[.int .i64 bx, .int .i64 b_y], .agg #[.int .i64 cx, .int .i64 cy]] w fun e w' => e = .returned (.int .i64 s1) ∧ Below w.heap.size w w') (hT2 : ∀ w, Calls Try.prog 32 #[.agg #[.int .i64 ax, .int .i64 ay], .agg #[.int .i64 bx, .int .i64 b_y], .agg #[.int .i64 dx, .int .i64 dy]] w fun e w' => e = .returned (.int .i64 s2) ∧ Below w.heap.size w w') (hT3 : ∀ w, Calls Try.prog 32 #[.agg #[.int .i64 cx, .int .i64 cy], .agg #[.int .i64 dx, .int .i64 dy], .agg #[.int .i64 ax, .int .i64 ay]] w fun e w' => e = .returned (.int .i64 s3) ∧ Below w.heap.size w w') (hT4 : ∀ w, Calls Try.prog 32 #[.agg #[.int .i64 cx, .int .i64 cy], .agg #[.int .i64 dx, .int .i64 dy], .agg #[.int .i64 bx, .int .i64 b_y]] w fun e w' => e = .returned (.int .i64 s4) ∧ Below w.heap.size w w') (d1 : (s1 == 0) = false) (x1 : IntKind.i64.wrap (s1 * s2) = P12) (x2 : IntKind.i64.wrap (s3 * s4) = P34) (d3 : decide (P12 ≤ 0) = true) (d4 : decide (P34 ≤ 0) = false) (w : World) :
    Calls Try.prog 35 #[.agg #[.int .i64 ax, .int .i64 ay], .agg #[.int .i64 bx, .int .i64 b_y], .agg #[.int .i64 cx, .int .i64 cy], .agg #[.int .i64 dx, .int .i64 dy]] w fun e w' => e = .returned (.int .i64 0) ∧ Below w.heap.size w w' := by
  have e1 := eqP ax ay bx b_y
  have e2 := eqP cx cy dx dy
  rw [hp] at e1
  rw [hq] at e2
  clear hp hq
  go_enter Try.func35, Try.ntmps35
  go_wp2_with (go_at_call 32; (with_reducible refine (hT1 _).mono ?_); rintro e w1 ⟨rfl, hb1⟩; have hj1 : KL [((w.heap.size + 1 + 1 + 1),46,#[.int .i64 dx,.int .i64 dy]),((w.heap.size + 1 + 1),46,#[.int .i64 cx,.int .i64 cy]),((w.heap.size + 1),46,#[.int .i64 bx,.int .i64 b_y]),(w.heap.size,46,#[.int .i64 ax,.int .i64 ay])] w w1 := KL.over (KL.new (g := (w.heap.size + 1 + 1 + 1)) (KL.new (g := (w.heap.size + 1 + 1)) (KL.new (g := (w.heap.size + 1)) (KL.new (g := w.heap.size) (KL.nil w) rfl _ _) (by simp) _ _) (by simp) _ _) (by simp) _ _) hb1; obtain ⟨aL0, a0_0, a0_1⟩ := bl2 (KL.blk hj1 (.head _)); have aF0 := (KL.blk hj1 (.head _)).frozen; obtain ⟨aL1, a1_0, a1_1⟩ := bl2 (KL.blk hj1 (.tail _ (.head _))); have aF1 := (KL.blk hj1 (.tail _ (.head _))).frozen; obtain ⟨aL2, a2_0, a2_1⟩ := bl2 (KL.blk hj1 (.tail _ (.tail _ (.head _)))); have aF2 := (KL.blk hj1 (.tail _ (.tail _ (.head _)))).frozen; obtain ⟨aL3, a3_0, a3_1⟩ := bl2 (KL.blk hj1 (.tail _ (.tail _ (.tail _ (.head _))))); have aF3 := (KL.blk hj1 (.tail _ (.tail _ (.tail _ (.head _))))).frozen)
  refine wp_region_any (by kernel_rfl) ?_
  try (change wpAny _ _ _ _ _ _ _ (World.drew _))
  refine wpAny_vals (fr := fun o => #[.agg #[.int .i64 ax,.int .i64 ay],.agg #[.int .i64 bx,.int .i64 b_y],.agg #[.int .i64 cx,.int .i64 cy],.agg #[.int .i64 dx,.int .i64 dy],.pointer (some ⟨w.heap.size, 0, none⟩),.pointer (some ⟨(w.heap.size + 1), 0, none⟩),.pointer (some ⟨(w.heap.size + 1 + 1), 0, none⟩),.pointer (some ⟨(w.heap.size + 1 + 1 + 1), 0, none⟩),.int .i64 0,undef,undef,.agg #[.int .i64 ax,.int .i64 ay],.agg #[.int .i64 bx,.int .i64 b_y],.bool false,.bool false,.agg #[.int .i64 cx,.int .i64 cy],.agg #[.int .i64 dx,.int .i64 dy],.bool false,.bool false,undef,undef,undef,undef,undef,undef,undef,undef,undef,undef,undef,undef,undef,undef,undef,undef,undef,undef,undef,undef,.agg #[.int .i64 ax,.int .i64 ay],.agg #[.int .i64 bx,.int .i64 b_y],.agg #[.int .i64 cx,.int .i64 cy],.int .i64 s1,.bool false,.bool false,undef,undef,undef,undef,undef,.bool false,undef,undef,undef,undef,undef,undef,undef,undef,undef,undef,undef,undef,undef,undef,undef,undef,undef,undef,undef,undef,undef,undef,undef,undef,undef,undef,undef,undef,o 0,o 1,o 2,o 3,o 4,o 5,o 6,o 7,o 8,o 9,o 10,o 11,o 12,o 13,o 14,o 15,o 16,o 17,o 18,o 19,o 20,o 21]) (vals := fun i_ => ([.agg #[.int .i64 ax,.int .i64 ay],.agg #[.int .i64 bx,.int .i64 b_y],.agg #[.int .i64 cx,.int .i64 cy],.int .i64 s1,.agg #[.int .i64 ax,.int .i64 ay],.agg #[.int .i64 bx,.int .i64 b_y],.agg #[.int .i64 dx,.int .i64 dy],.int .i64 s2,.int .i64 P12,.bool true,.bool true,.agg #[.int .i64 cx,.int .i64 cy],.agg #[.int .i64 dx,.int .i64 dy],.agg #[.int .i64 ax,.int .i64 ay],.int .i64 s3,.agg #[.int .i64 cx,.int .i64 cy],.agg #[.int .i64 dx,.int .i64 dy],.agg #[.int .i64 bx,.int .i64 b_y],.int .i64 s4,.int .i64 P34,.bool false,.bool false] : List Value).getD i_ undef) (Kf := fun _ => True) (K := fun kk_ => ([(KL [((w.heap.size + 1 + 1 + 1),46,#[.int .i64 dx,.int .i64 dy]),((w.heap.size + 1 + 1),46,#[.int .i64 cx,.int .i64 cy]),((w.heap.size + 1),46,#[.int .i64 bx,.int .i64 b_y]),(w.heap.size,46,#[.int .i64 ax,.int .i64 ay])] w)] : List (World → Prop)).getD kk_ (fun _ => True)) (dep := fun i_ => [[],[],[],[0,1,2],[],[],[],[4,5,6],[3,7],[8],[9],[10],[10],[10],[10,11,12,13],[10],[10],[10],[10,15,16,17],[10,14,18],[10,19],[10,20]].getD i_ []) (dv := fun i_ => [[],[],[],[0,1,2],[],[],[],[4,5,6],[3,7],[8],[9],[10],[10],[10],[10,11,12,13],[10],[10],[10],[10,15,16,17],[10,14,18],[10,19],[10,20]].getD i_ []) (kd := fun i_ => [1,1,1,1,1,1,1,1,0,0,0,1,1,1,1,1,1,1,1,0,0,0].getD i_ 0) (ss := []) (l := [0,1,2,3,4,5,6,7,8,9,10,11,12,13,14,15,16,17,18,19,20,21]) (f0 := fun _ => undef) (A := ?A2) 22 ?_ ?_ ?_ ?_ ?_ ?_ ⟨?_, ?_, ?_, ?_, ?_, ?_, ?_, ?_, ?_, ?_, ?_, ?_, ?_, ?_, ?_, ?_, ?_, ?_, ?_, ?_, ?_, ?_, trivial⟩ ?_ ?_
  rotate_left
  · rfl
  · rfl
  · decide +kernel
  · decide +kernel
  · exact KL.drew hj1
  · exact fun _ _ _ _ => trivial
  · intro o W hj
    have hj : KL _ _ W := hj
    obtain ⟨cL, c0, c1⟩ := bl2 (KL.blk hj (.tail _ (.tail _ (.tail _ (.head _)))))
    show wpOp _ _ _ 0 _ ⟨#[_,_,_,_,_,_,_,_,_,_,_,_,_,_,_,_,_,_,_,_,_,_,_,_,_,_,_,_,_,_,_,_,_,_,_,_,_,_,_,_,_,_,_,_,_,_,_,_,_,_,_,_,_,_,_,_,_,_,_,_,_,_,_,_,_,_,_,_,_,_,_,_,_,_,_,_,_,_,_,o 0,o 1,o 2,o 3,o 4,o 5,o 6,o 7,o 8,o 9,o 10,o 11,o 12,o 13,o 14,o 15,o 16,o 17,o 18,o 19,o 20,o 21], []⟩ W
    refine wpOp_step rfl (fun K' hK => ?_)
    go_simp
    exact hK _ _ ⟨rfl, hj⟩
  · intro o W hj
    have hj : KL _ _ W := hj
    obtain ⟨cL, c0, c1⟩ := bl2 (KL.blk hj (.tail _ (.tail _ (.head _))))
    show wpOp _ _ _ 1 _ ⟨#[_,_,_,_,_,_,_,_,_,_,_,_,_,_,_,_,_,_,_,_,_,_,_,_,_,_,_,_,_,_,_,_,_,_,_,_,_,_,_,_,_,_,_,_,_,_,_,_,_,_,_,_,_,_,_,_,_,_,_,_,_,_,_,_,_,_,_,_,_,_,_,_,_,_,_,_,_,_,_,o 0,o 1,o 2,o 3,o 4,o 5,o 6,o 7,o 8,o 9,o 10,o 11,o 12,o 13,o 14,o 15,o 16,o 17,o 18,o 19,o 20,o 21], []⟩ W
    refine wpOp_step rfl (fun K' hK => ?_)
    go_simp
    exact hK _ _ ⟨rfl, hj⟩
  · intro o W hj
    have hj : KL _ _ W := hj
    obtain ⟨cL, c0, c1⟩ := bl2 (KL.blk hj (.tail _ (.head _)))
    show wpOp _ _ _ 2 _ ⟨#[_,_,_,_,_,_,_,_,_,_,_,_,_,_,_,_,_,_,_,_,_,_,_,_,_,_,_,_,_,_,_,_,_,_,_,_,_,_,_,_,_,_,_,_,_,_,_,_,_,_,_,_,_,_,_,_,_,_,_,_,_,_,_,_,_,_,_,_,_,_,_,_,_,_,_,_,_,_,_,o 0,o 1,o 2,o 3,o 4,o 5,o 6,o 7,o 8,o 9,o 10,o 11,o 12,o 13,o 14,o 15,o 16,o 17,o 18,o 19,o 20,o 21], []⟩ W
    refine wpOp_step rfl (fun K' hK => ?_)
    go_simp
    exact hK _ _ ⟨rfl, hj⟩
  · intro o W hj
    have hj : KL _ _ W := hj
    show wpOp _ _ _ 3 _ ⟨#[_,_,_,_,_,_,_,_,_,_,_,_,_,_,_,_,_,_,_,_,_,_,_,_,_,_,_,_,_,_,_,_,_,_,_,_,_,_,_,_,_,_,_,_,_,_,_,_,_,_,_,_,_,_,_,_,_,_,_,_,_,_,_,_,_,_,_,_,_,_,_,_,_,_,_,_,_,_,_,.agg #[.int .i64 ax,.int .i64 ay],.agg #[.int .i64 bx,.int .i64 b_y],.agg #[.int .i64 cx,.int .i64 cy],o 3,o 4,o 5,o 6,o 7,o 8,o 9,o 10,o 11,o 12,o 13,o 14,o 15,o 16,o 17,o 18,o 19,o 20,o 21], []⟩ W
    refine wpOp_step rfl (fun K' hK => ?_)
    go_simp
    refine (hT1 _).mono ?_
    rintro e W1 ⟨rfl, hb1⟩
    exact hK _ _ ⟨rfl, hj.over hb1⟩
  · intro o W hj
    have hj : KL _ _ W := hj
    obtain ⟨cL, c0, c1⟩ := bl2 (KL.blk hj (.tail _ (.tail _ (.tail _ (.head _)))))
    show wpOp _ _ _ 4 _ ⟨#[_,_,_,_,_,_,_,_,_,_,_,_,_,_,_,_,_,_,_,_,_,_,_,_,_,_,_,_,_,_,_,_,_,_,_,_,_,_,_,_,_,_,_,_,_,_,_,_,_,_,_,_,_,_,_,_,_,_,_,_,_,_,_,_,_,_,_,_,_,_,_,_,_,_,_,_,_,_,_,o 0,o 1,o 2,o 3,o 4,o 5,o 6,o 7,o 8,o 9,o 10,o 11,o 12,o 13,o 14,o 15,o 16,o 17,o 18,o 19,o 20,o 21], []⟩ W
    refine wpOp_step rfl (fun K' hK => ?_)
    go_simp
    exact hK _ _ ⟨rfl, hj⟩
  · intro o W hj
    have hj : KL _ _ W := hj
    obtain ⟨cL, c0, c1⟩ := bl2 (KL.blk hj (.tail _ (.tail _ (.head _))))
    show wpOp _ _ _ 5 _ ⟨#[_,_,_,_,_,_,_,_,_,_,_,_,_,_,_,_,_,_,_,_,_,_,_,_,_,_,_,_,_,_,_,_,_,_,_,_,_,_,_,_,_,_,_,_,_,_,_,_,_,_,_,_,_,_,_,_,_,_,_,_,_,_,_,_,_,_,_,_,_,_,_,_,_,_,_,_,_,_,_,o 0,o 1,o 2,o 3,o 4,o 5,o 6,o 7,o 8,o 9,o 10,o 11,o 12,o 13,o 14,o 15,o 16,o 17,o 18,o 19,o 20,o 21], []⟩ W
    refine wpOp_step rfl (fun K' hK => ?_)
    go_simp
    exact hK _ _ ⟨rfl, hj⟩
  · intro o W hj
    have hj : KL _ _ W := hj
    obtain ⟨cL, c0, c1⟩ := bl2 (KL.blk hj (.head _))
    show wpOp _ _ _ 6 _ ⟨#[_,_,_,_,_,_,_,_,_,_,_,_,_,_,_,_,_,_,_,_,_,_,_,_,_,_,_,_,_,_,_,_,_,_,_,_,_,_,_,_,_,_,_,_,_,_,_,_,_,_,_,_,_,_,_,_,_,_,_,_,_,_,_,_,_,_,_,_,_,_,_,_,_,_,_,_,_,_,_,o 0,o 1,o 2,o 3,o 4,o 5,o 6,o 7,o 8,o 9,o 10,o 11,o 12,o 13,o 14,o 15,o 16,o 17,o 18,o 19,o 20,o 21], []⟩ W
    refine wpOp_step rfl (fun K' hK => ?_)
    go_simp
    exact hK _ _ ⟨rfl, hj⟩
  · intro o W hj
    have hj : KL _ _ W := hj
    show wpOp _ _ _ 7 _ ⟨#[_,_,_,_,_,_,_,_,_,_,_,_,_,_,_,_,_,_,_,_,_,_,_,_,_,_,_,_,_,_,_,_,_,_,_,_,_,_,_,_,_,_,_,_,_,_,_,_,_,_,_,_,_,_,_,_,_,_,_,_,_,_,_,_,_,_,_,_,_,_,_,_,_,_,_,_,_,_,_,o 0,o 1,o 2,o 3,.agg #[.int .i64 ax,.int .i64 ay],.agg #[.int .i64 bx,.int .i64 b_y],.agg #[.int .i64 dx,.int .i64 dy],o 7,o 8,o 9,o 10,o 11,o 12,o 13,o 14,o 15,o 16,o 17,o 18,o 19,o 20,o 21], []⟩ W
    refine wpOp_step rfl (fun K' hK => ?_)
    go_simp
    refine (hT2 _).mono ?_
    rintro e W1 ⟨rfl, hb1⟩
    exact hK _ _ ⟨rfl, hj.over hb1⟩
  · intro o W _
    show wpOp _ _ _ 8 _ ⟨#[_,_,_,_,_,_,_,_,_,_,_,_,_,_,_,_,_,_,_,_,_,_,_,_,_,_,_,_,_,_,_,_,_,_,_,_,_,_,_,_,_,_,_,_,_,_,_,_,_,_,_,_,_,_,_,_,_,_,_,_,_,_,_,_,_,_,_,_,_,_,_,_,_,_,_,_,_,_,_,o 0,o 1,o 2,.int .i64 s1,o 4,o 5,o 6,.int .i64 s2,o 8,o 9,o 10,o 11,o 12,o 13,o 14,o 15,o 16,o 17,o 18,o 19,o 20,o 21], []⟩ W
    refine wpOp_step rfl (fun K' hK => ?_)
    go_simp
    exact hK _ _ ⟨rfl, rfl⟩
  · intro o W _
    show wpOp _ _ _ 9 _ ⟨#[_,_,_,_,_,_,_,_,_,_,_,_,_,_,_,_,_,_,_,_,_,_,_,_,_,_,_,_,_,_,_,_,_,_,_,_,_,_,_,_,_,_,_,_,_,_,_,_,_,_,_,_,_,_,_,_,_,_,_,_,_,_,_,_,_,_,_,_,_,_,_,_,_,_,_,_,_,_,_,o 0,o 1,o 2,o 3,o 4,o 5,o 6,o 7,.int .i64 P12,o 9,o 10,o 11,o 12,o 13,o 14,o 15,o 16,o 17,o 18,o 19,o 20,o 21], []⟩ W
    refine wpOp_step rfl (fun K' hK => ?_)
    go_simp
    exact hK _ _ ⟨rfl, rfl⟩
  · intro o W _
    show wpOp _ _ _ 10 _ ⟨#[_,_,_,_,_,_,_,_,_,_,_,_,_,_,_,_,_,_,_,_,_,_,_,_,_,_,_,_,_,_,_,_,_,_,_,_,_,_,_,_,_,_,_,_,_,_,_,_,_,_,_,_,_,_,_,_,_,_,_,_,_,_,_,_,_,_,_,_,_,_,_,_,_,_,_,_,_,_,_,o 0,o 1,o 2,o 3,o 4,o 5,o 6,o 7,o 8,.bool true,o 10,o 11,o 12,o 13,o 14,o 15,o 16,o 17,o 18,o 19,o 20,o 21], []⟩ W
    refine wpOp_step rfl (fun K' hK => ?_)
    go_simp
    exact hK _ _ ⟨rfl, rfl⟩
  · intro o W hj
    have hj : KL _ _ W := hj
    obtain ⟨cL, c0, c1⟩ := bl2 (KL.blk hj (.tail _ (.head _)))
    show wpOp _ _ _ 11 _ ⟨#[_,_,_,_,_,_,_,_,_,_,_,_,_,_,_,_,_,_,_,_,_,_,_,_,_,_,_,_,_,_,_,_,_,_,_,_,_,_,_,_,_,_,_,_,_,_,_,_,_,_,_,_,_,_,_,_,_,_,_,_,_,_,_,_,_,_,_,_,_,_,_,_,_,_,_,_,_,_,_,o 0,o 1,o 2,o 3,o 4,o 5,o 6,o 7,o 8,o 9,.bool true,o 11,o 12,o 13,o 14,o 15,o 16,o 17,o 18,o 19,o 20,o 21], []⟩ W
    refine wpOp_step rfl (fun K' hK => ?_)
    go_simp
    exact hK _ _ ⟨rfl, hj⟩
  · intro o W hj
    have hj : KL _ _ W := hj
    obtain ⟨cL, c0, c1⟩ := bl2 (KL.blk hj (.head _))
    show wpOp _ _ _ 12 _ ⟨#[_,_,_,_,_,_,_,_,_,_,_,_,_,_,_,_,_,_,_,_,_,_,_,_,_,_,_,_,_,_,_,_,_,_,_,_,_,_,_,_,_,_,_,_,_,_,_,_,_,_,_,_,_,_,_,_,_,_,_,_,_,_,_,_,_,_,_,_,_,_,_,_,_,_,_,_,_,_,_,o 0,o 1,o 2,o 3,o 4,o 5,o 6,o 7,o 8,o 9,.bool true,o 11,o 12,o 13,o 14,o 15,o 16,o 17,o 18,o 19,o 20,o 21], []⟩ W
    refine wpOp_step rfl (fun K' hK => ?_)
    go_simp
    exact hK _ _ ⟨rfl, hj⟩
  · intro o W hj
    have hj : KL _ _ W := hj
    obtain ⟨cL, c0, c1⟩ := bl2 (KL.blk hj (.tail _ (.tail _ (.tail _ (.head _)))))
    show wpOp _ _ _ 13 _ ⟨#[_,_,_,_,_,_,_,_,_,_,_,_,_,_,_,_,_,_,_,_,_,_,_,_,_,_,_,_,_,_,_,_,_,_,_,_,_,_,_,_,_,_,_,_,_,_,_,_,_,_,_,_,_,_,_,_,_,_,_,_,_,_,_,_,_,_,_,_,_,_,_,_,_,_,_,_,_,_,_,o 0,o 1,o 2,o 3,o 4,o 5,o 6,o 7,o 8,o 9,.bool true,o 11,o 12,o 13,o 14,o 15,o 16,o 17,o 18,o 19,o 20,o 21], []⟩ W
    refine wpOp_step rfl (fun K' hK => ?_)
    go_simp
    exact hK _ _ ⟨rfl, hj⟩
  · intro o W hj
    have hj : KL _ _ W := hj
    show wpOp _ _ _ 14 _ ⟨#[_,_,_,_,_,_,_,_,_,_,_,_,_,_,_,_,_,_,_,_,_,_,_,_,_,_,_,_,_,_,_,_,_,_,_,_,_,_,_,_,_,_,_,_,_,_,_,_,_,_,_,_,_,_,_,_,_,_,_,_,_,_,_,_,_,_,_,_,_,_,_,_,_,_,_,_,_,_,_,o 0,o 1,o 2,o 3,o 4,o 5,o 6,o 7,o 8,o 9,.bool true,.agg #[.int .i64 cx,.int .i64 cy],.agg #[.int .i64 dx,.int .i64 dy],.agg #[.int .i64 ax,.int .i64 ay],o 14,o 15,o 16,o 17,o 18,o 19,o 20,o 21], []⟩ W
    refine wpOp_step rfl (fun K' hK => ?_)
    go_simp
    refine (hT3 _).mono ?_
    rintro e W1 ⟨rfl, hb1⟩
    exact hK _ _ ⟨rfl, hj.over hb1⟩
  · intro o W hj
    have hj : KL _ _ W := hj
    obtain ⟨cL, c0, c1⟩ := bl2 (KL.blk hj (.tail _ (.head _)))
    show wpOp _ _ _ 15 _ ⟨#[_,_,_,_,_,_,_,_,_,_,_,_,_,_,_,_,_,_,_,_,_,_,_,_,_,_,_,_,_,_,_,_,_,_,_,_,_,_,_,_,_,_,_,_,_,_,_,_,_,_,_,_,_,_,_,_,_,_,_,_,_,_,_,_,_,_,_,_,_,_,_,_,_,_,_,_,_,_,_,o 0,o 1,o 2,o 3,o 4,o 5,o 6,o 7,o 8,o 9,.bool true,o 11,o 12,o 13,o 14,o 15,o 16,o 17,o 18,o 19,o 20,o 21], []⟩ W
    refine wpOp_step rfl (fun K' hK => ?_)
    go_simp
    exact hK _ _ ⟨rfl, hj⟩
  · intro o W hj
    have hj : KL _ _ W := hj
    obtain ⟨cL, c0, c1⟩ := bl2 (KL.blk hj (.head _))
    show wpOp _ _ _ 16 _ ⟨#[_,_,_,_,_,_,_,_,_,_,_,_,_,_,_,_,_,_,_,_,_,_,_,_,_,_,_,_,_,_,_,_,_,_,_,_,_,_,_,_,_,_,_,_,_,_,_,_,_,_,_,_,_,_,_,_,_,_,_,_,_,_,_,_,_,_,_,_,_,_,_,_,_,_,_,_,_,_,_,o 0,o 1,o 2,o 3,o 4,o 5,o 6,o 7,o 8,o 9,.bool true,o 11,o 12,o 13,o 14,o 15,o 16,o 17,o 18,o 19,o 20,o 21], []⟩ W
    refine wpOp_step rfl (fun K' hK => ?_)
    go_simp
    exact hK _ _ ⟨rfl, hj⟩
  · intro o W hj
    have hj : KL _ _ W := hj
    obtain ⟨cL, c0, c1⟩ := bl2 (KL.blk hj (.tail _ (.tail _ (.head _))))
    show wpOp _ _ _ 17 _ ⟨#[_,_,_,_,_,_,_,_,_,_,_,_,_,_,_,_,_,_,_,_,_,_,_,_,_,_,_,_,_,_,_,_,_,_,_,_,_,_,_,_,_,_,_,_,_,_,_,_,_,_,_,_,_,_,_,_,_,_,_,_,_,_,_,_,_,_,_,_,_,_,_,_,_,_,_,_,_,_,_,o 0,o 1,o 2,o 3,o 4,o 5,o 6,o 7,o 8,o 9,.bool true,o 11,o 12,o 13,o 14,o 15,o 16,o 17,o 18,o 19,o 20,o 21], []⟩ W
    refine wpOp_step rfl (fun K' hK => ?_)
    go_simp
    exact hK _ _ ⟨rfl, hj⟩
  · intro o W hj
    have hj : KL _ _ W := hj
    show wpOp _ _ _ 18 _ ⟨#[_,_,_,_,_,_,_,_,_,_,_,_,_,_,_,_,_,_,_,_,_,_,_,_,_,_,_,_,_,_,_,_,_,_,_,_,_,_,_,_,_,_,_,_,_,_,_,_,_,_,_,_,_,_,_,_,_,_,_,_,_,_,_,_,_,_,_,_,_,_,_,_,_,_,_,_,_,_,_,o 0,o 1,o 2,o 3,o 4,o 5,o 6,o 7,o 8,o 9,.bool true,o 11,o 12,o 13,o 14,.agg #[.int .i64 cx,.int .i64 cy],.agg #[.int .i64 dx,.int .i64 dy],.agg #[.int .i64 bx,.int .i64 b_y],o 18,o 19,o 20,o 21], []⟩ W
    refine wpOp_step rfl (fun K' hK => ?_)
    go_simp
    refine (hT4 _).mono ?_
    rintro e W1 ⟨rfl, hb1⟩
    exact hK _ _ ⟨rfl, hj.over hb1⟩
  · intro o W _
    show wpOp _ _ _ 19 _ ⟨#[_,_,_,_,_,_,_,_,_,_,_,_,_,_,_,_,_,_,_,_,_,_,_,_,_,_,_,_,_,_,_,_,_,_,_,_,_,_,_,_,_,_,_,_,_,_,_,_,_,_,_,_,_,_,_,_,_,_,_,_,_,_,_,_,_,_,_,_,_,_,_,_,_,_,_,_,_,_,_,o 0,o 1,o 2,o 3,o 4,o 5,o 6,o 7,o 8,o 9,.bool true,o 11,o 12,o 13,.int .i64 s3,o 15,o 16,o 17,.int .i64 s4,o 19,o 20,o 21], []⟩ W
    refine wpOp_step rfl (fun K' hK => ?_)
    go_simp
    exact hK _ _ ⟨rfl, rfl⟩
  · intro o W _
    show wpOp _ _ _ 20 _ ⟨#[_,_,_,_,_,_,_,_,_,_,_,_,_,_,_,_,_,_,_,_,_,_,_,_,_,_,_,_,_,_,_,_,_,_,_,_,_,_,_,_,_,_,_,_,_,_,_,_,_,_,_,_,_,_,_,_,_,_,_,_,_,_,_,_,_,_,_,_,_,_,_,_,_,_,_,_,_,_,_,o 0,o 1,o 2,o 3,o 4,o 5,o 6,o 7,o 8,o 9,.bool true,o 11,o 12,o 13,o 14,o 15,o 16,o 17,o 18,.int .i64 P34,o 20,o 21], []⟩ W
    refine wpOp_step rfl (fun K' hK => ?_)
    go_simp
    exact hK _ _ ⟨rfl, rfl⟩
  · intro o W _
    show wpOp _ _ _ 21 _ ⟨#[_,_,_,_,_,_,_,_,_,_,_,_,_,_,_,_,_,_,_,_,_,_,_,_,_,_,_,_,_,_,_,_,_,_,_,_,_,_,_,_,_,_,_,_,_,_,_,_,_,_,_,_,_,_,_,_,_,_,_,_,_,_,_,_,_,_,_,_,_,_,_,_,_,_,_,_,_,_,_,o 0,o 1,o 2,o 3,o 4,o 5,o 6,o 7,o 8,o 9,.bool true,o 11,o 12,o 13,o 14,o 15,o 16,o 17,o 18,o 19,.bool false,o 21], []⟩ W
    refine wpOp_step rfl (fun K' hK => ?_)
    go_simp
    exact hK _ _ ⟨rfl, rfl⟩
  · intro o hh_
    have e0 : o 0 = .agg #[.int .i64 ax,.int .i64 ay] := hh_ 0 (by decide)
    have e1 : o 1 = .agg #[.int .i64 bx,.int .i64 b_y] := hh_ 1 (by decide)
    have e2 : o 2 = .agg #[.int .i64 cx,.int .i64 cy] := hh_ 2 (by decide)
    have e3 : o 3 = .int .i64 s1 := hh_ 3 (by decide)
    have e4 : o 4 = .agg #[.int .i64 ax,.int .i64 ay] := hh_ 4 (by decide)
    have e5 : o 5 = .agg #[.int .i64 bx,.int .i64 b_y] := hh_ 5 (by decide)
    have e6 : o 6 = .agg #[.int .i64 dx,.int .i64 dy] := hh_ 6 (by decide)
    have e7 : o 7 = .int .i64 s2 := hh_ 7 (by decide)
    have e8 : o 8 = .int .i64 P12 := hh_ 8 (by decide)
    have e9 : o 9 = .bool true := hh_ 9 (by decide)
    have e10 : o 10 = .bool true := hh_ 10 (by decide)
    have e11 : o 11 = .agg #[.int .i64 cx,.int .i64 cy] := hh_ 11 (by decide)
    have e12 : o 12 = .agg #[.int .i64 dx,.int .i64 dy] := hh_ 12 (by decide)
    have e13 : o 13 = .agg #[.int .i64 ax,.int .i64 ay] := hh_ 13 (by decide)
    have e14 : o 14 = .int .i64 s3 := hh_ 14 (by decide)
    have e15 : o 15 = .agg #[.int .i64 cx,.int .i64 cy] := hh_ 15 (by decide)
    have e16 : o 16 = .agg #[.int .i64 dx,.int .i64 dy] := hh_ 16 (by decide)
    have e17 : o 17 = .agg #[.int .i64 bx,.int .i64 b_y] := hh_ 17 (by decide)
    have e18 : o 18 = .int .i64 s4 := hh_ 18 (by decide)
    have e19 : o 19 = .int .i64 P34 := hh_ 19 (by decide)
    have e20 : o 20 = .bool false := hh_ 20 (by decide)
    have e21 : o 21 = .bool false := hh_ 21 (by decide)
    rw [e0, e1, e2, e3, e4, e5, e6, e7, e8, e9, e10, e11, e12, e13, e14, e15, e16, e17, e18, e19, e20, e21]
  · intro W9 h9
    have h9 : KL _ _ W9 := h9
    obtain ⟨eL0, e0_0, e0_1⟩ := bl2 (KL.blk h9 (.head _))
    have eF0 := (KL.blk h9 (.head _)).frozen
    obtain ⟨eL1, e1_0, e1_1⟩ := bl2 (KL.blk h9 (.tail _ (.head _)))
    have eF1 := (KL.blk h9 (.tail _ (.head _))).frozen
    obtain ⟨eL2, e2_0, e2_1⟩ := bl2 (KL.blk h9 (.tail _ (.tail _ (.head _))))
    have eF2 := (KL.blk h9 (.tail _ (.tail _ (.head _)))).frozen
    obtain ⟨eL3, e3_0, e3_1⟩ := bl2 (KL.blk h9 (.tail _ (.tail _ (.tail _ (.head _)))))
    have eF3 := (KL.blk h9 (.tail _ (.tail _ (.tail _ (.head _))))).frozen
    have hjb := h9.1
    have hjz := hjb.size
    go_wp2
    go_ret
    exact ⟨rfl, hjb⟩
set_option maxHeartbeats 16000000 in
set_option maxRecDepth 100000 in
theorem refMeet_gnn (ax ay bx b_y cx cy dx dy s1 s2 s3 s4 P12 P34 : Int) (hp : (ax == bx && ay == b_y) = false) (hq : (cx == dx && cy == dy) = false) (hT1 : ∀ w, Calls Try.prog 32 #[.agg #[.int .i64 ax, .int .i64 ay], .agg #[.int .i64 bx, .int .i64 b_y], .agg #[.int .i64 cx, .int .i64 cy]] w fun e w' => e = .returned (.int .i64 s1) ∧ Below w.heap.size w w') (hT2 : ∀ w, Calls Try.prog 32 #[.agg #[.int .i64 ax, .int .i64 ay], .agg #[.int .i64 bx, .int .i64 b_y], .agg #[.int .i64 dx, .int .i64 dy]] w fun e w' => e = .returned (.int .i64 s2) ∧ Below w.heap.size w w') (hT3 : ∀ w, Calls Try.prog 32 #[.agg #[.int .i64 cx, .int .i64 cy], .agg #[.int .i64 dx, .int .i64 dy], .agg #[.int .i64 ax, .int .i64 ay]] w fun e w' => e = .returned (.int .i64 s3) ∧ Below w.heap.size w w') (hT4 : ∀ w, Calls Try.prog 32 #[.agg #[.int .i64 cx, .int .i64 cy], .agg #[.int .i64 dx, .int .i64 dy], .agg #[.int .i64 bx, .int .i64 b_y]] w fun e w' => e = .returned (.int .i64 s4) ∧ Below w.heap.size w w') (d1 : (s1 == 0) = false) (x1 : IntKind.i64.wrap (s1 * s2) = P12) (x2 : IntKind.i64.wrap (s3 * s4) = P34) (d3 : decide (P12 ≤ 0) = true) (d4 : decide (P34 ≤ 0) = true) (w : World) :
    Calls Try.prog 35 #[.agg #[.int .i64 ax, .int .i64 ay], .agg #[.int .i64 bx, .int .i64 b_y], .agg #[.int .i64 cx, .int .i64 cy], .agg #[.int .i64 dx, .int .i64 dy]] w fun e w' => e = .returned (.int .i64 1) ∧ Below w.heap.size w w' := by
  have e1 := eqP ax ay bx b_y
  have e2 := eqP cx cy dx dy
  rw [hp] at e1
  rw [hq] at e2
  clear hp hq
  go_enter Try.func35, Try.ntmps35
  go_wp2_with (go_at_call 32; (with_reducible refine (hT1 _).mono ?_); rintro e w1 ⟨rfl, hb1⟩; have hj1 : KL [((w.heap.size + 1 + 1 + 1),46,#[.int .i64 dx,.int .i64 dy]),((w.heap.size + 1 + 1),46,#[.int .i64 cx,.int .i64 cy]),((w.heap.size + 1),46,#[.int .i64 bx,.int .i64 b_y]),(w.heap.size,46,#[.int .i64 ax,.int .i64 ay])] w w1 := KL.over (KL.new (g := (w.heap.size + 1 + 1 + 1)) (KL.new (g := (w.heap.size + 1 + 1)) (KL.new (g := (w.heap.size + 1)) (KL.new (g := w.heap.size) (KL.nil w) rfl _ _) (by simp) _ _) (by simp) _ _) (by simp) _ _) hb1; obtain ⟨aL0, a0_0, a0_1⟩ := bl2 (KL.blk hj1 (.head _)); have aF0 := (KL.blk hj1 (.head _)).frozen; obtain ⟨aL1, a1_0, a1_1⟩ := bl2 (KL.blk hj1 (.tail _ (.head _))); have aF1 := (KL.blk hj1 (.tail _ (.head _))).frozen; obtain ⟨aL2, a2_0, a2_1⟩ := bl2 (KL.blk hj1 (.tail _ (.tail _ (.head _)))); have aF2 := (KL.blk hj1 (.tail _ (.tail _ (.head _)))).frozen; obtain ⟨aL3, a3_0, a3_1⟩ := bl2 (KL.blk hj1 (.tail _ (.tail _ (.tail _ (.head _))))); have aF3 := (KL.blk hj1 (.tail _ (.tail _ (.tail _ (.head _))))).frozen)
  refine wp_region_any (by kernel_rfl) ?_
  try (change wpAny _ _ _ _ _ _ _ (World.drew _))
  refine wpAny_vals (fr := fun o => #[.agg #[.int .i64 ax,.int .i64 ay],.agg #[.int .i64 bx,.int .i64 b_y],.agg #[.int .i64 cx,.int .i64 cy],.agg #[.int .i64 dx,.int .i64 dy],.pointer (some ⟨w.heap.size, 0, none⟩),.pointer (some ⟨(w.heap.size + 1), 0, none⟩),.pointer (some ⟨(w.heap.size + 1 + 1), 0, none⟩),.pointer (some ⟨(w.heap.size + 1 + 1 + 1), 0, none⟩),.int .i64 0,undef,undef,.agg #[.int .i64 ax,.int .i64 ay],.agg #[.int .i64 bx,.int .i64 b_y],.bool false,.bool false,.agg #[.int .i64 cx,.int .i64 cy],.agg #[.int .i64 dx,.int .i64 dy],.bool false,.bool false,undef,undef,undef,undef,undef,undef,undef,undef,undef,undef,undef,undef,undef,undef,undef,undef,undef,undef,undef,undef,.agg #[.int .i64 ax,.int .i64 ay],.agg #[.int .i64 bx,.int .i64 b_y],.agg #[.int .i64 cx,.int .i64 cy],.int .i64 s1,.bool false,.bool false,undef,undef,undef,undef,undef,.bool false,undef,undef,undef,undef,undef,undef,undef,undef,undef,undef,undef,undef,undef,undef,undef,undef,undef,undef,undef,undef,undef,undef,undef,undef,undef,undef,undef,undef,o 0,o 1,o 2,o 3,o 4,o 5,o 6,o 7,o 8,o 9,o 10,o 11,o 12,o 13,o 14,o 15,o 16,o 17,o 18,o 19,o 20,o 21]) (vals := fun i_ => ([.agg #[.int .i64 ax,.int .i64 ay],.agg #[.int .i64 bx,.int .i64 b_y],.agg #[.int .i64 cx,.int .i64 cy],.int .i64 s1,.agg #[.int .i64 ax,.int .i64 ay],.agg #[.int .i64 bx,.int .i64 b_y],.agg #[.int .i64 dx,.int .i64 dy],.int .i64 s2,.int .i64 P12,.bool true,.bool true,.agg #[.int .i64 cx,.int .i64 cy],.agg #[.int .i64 dx,.int .i64 dy],.agg #[.int .i64 ax,.int .i64 ay],.int .i64 s3,.agg #[.int .i64 cx,.int .i64 cy],.agg #[.int .i64 dx,.int .i64 dy],.agg #[.int .i64 bx,.int .i64 b_y],.int .i64 s4,.int .i64 P34,.bool true,.bool true] : List Value).getD i_ undef) (Kf := fun _ => True) (K := fun kk_ => ([(KL [((w.heap.size + 1 + 1 + 1),46,#[.int .i64 dx,.int .i64 dy]),((w.heap.size + 1 + 1),46,#[.int .i64 cx,.int .i64 cy]),((w.heap.size + 1),46,#[.int .i64 bx,.int .i64 b_y]),(w.heap.size,46,#[.int .i64 ax,.int .i64 ay])] w)] : List (World → Prop)).getD kk_ (fun _ => True)) (dep := fun i_ => [[],[],[],[0,1,2],[],[],[],[4,5,6],[3,7],[8],[9],[10],[10],[10],[10,11,12,13],[10],[10],[10],[10,15,16,17],[10,14,18],[10,19],[10,20]].getD i_ []) (dv := fun i_ => [[],[],[],[0,1,2],[],[],[],[4,5,6],[3,7],[8],[9],[10],[10],[10],[10,11,12,13],[10],[10],[10],[10,15,16,17],[10,14,18],[10,19],[10,20]].getD i_ []) (kd := fun i_ => [1,1,1,1,1,1,1,1,0,0,0,1,1,1,1,1,1,1,1,0,0,0].getD i_ 0) (ss := []) (l := [0,1,2,3,4,5,6,7,8,9,10,11,12,13,14,15,16,17,18,19,20,21]) (f0 := fun _ => undef) (A := ?A3) 22 ?_ ?_ ?_ ?_ ?_ ?_ ⟨?_, ?_, ?_, ?_, ?_, ?_, ?_, ?_, ?_, ?_, ?_, ?_, ?_, ?_, ?_, ?_, ?_, ?_, ?_, ?_, ?_, ?_, trivial⟩ ?_ ?_
  rotate_left
  · rfl
  · rfl
  · decide +kernel
  · decide +kernel
  · exact KL.drew hj1
  · exact fun _ _ _ _ => trivial
  · intro o W hj
    have hj : KL _ _ W := hj
    obtain ⟨cL, c0, c1⟩ := bl2 (KL.blk hj (.tail _ (.tail _ (.tail _ (.head _)))))
    show wpOp _ _ _ 0 _ ⟨#[_,_,_,_,_,_,_,_,_,_,_,_,_,_,_,_,_,_,_,_,_,_,_,_,_,_,_,_,_,_,_,_,_,_,_,_,_,_,_,_,_,_,_,_,_,_,_,_,_,_,_,_,_,_,_,_,_,_,_,_,_,_,_,_,_,_,_,_,_,_,_,_,_,_,_,_,_,_,_,o 0,o 1,o 2,o 3,o 4,o 5,o 6,o 7,o 8,o 9,o 10,o 11,o 12,o 13,o 14,o 15,o 16,o 17,o 18,o 19,o 20,o 21], []⟩ W
    refine wpOp_step rfl (fun K' hK => ?_)
    go_simp
    exact hK _ _ ⟨rfl, hj⟩
  · intro o W hj
    have hj : KL _ _ W := hj
    obtain ⟨cL, c0, c1⟩ := bl2 (KL.blk hj (.tail _ (.tail _ (.head _))))
    show wpOp _ _ _ 1 _ ⟨#[_,_,_,_,_,_,_,_,_,_,_,_,_,_,_,_,_,_,_,_,_,_,_,_,_,_,_,_,_,_,_,_,_,_,_,_,_,_,_,_,_,_,_,_,_,_,_,_,_,_,_,_,_,_,_,_,_,_,_,_,_,_,_,_,_,_,_,_,_,_,_,_,_,_,_,_,_,_,_,o 0,o 1,o 2,o 3,o 4,o 5,o 6,o 7,o 8,o 9,o 10,o 11,o 12,o 13,o 14,o 15,o 16,o 17,o 18,o 19,o 20,o 21], []⟩ W
    refine wpOp_step rfl (fun K' hK => ?_)
    go_simp
    exact hK _ _ ⟨rfl, hj⟩
  · intro o W hj
    have hj : KL _ _ W := hj
    obtain ⟨cL, c0, c1⟩ := bl2 (KL.blk hj (.tail _ (.head _)))
    show wpOp _ _ _ 2 _ ⟨#[_,_,_,_,_,_,_,_,_,_,_,_,_,_,_,_,_,_,_,_,_,_,_,_,_,_,_,_,_,_,_,_,_,_,_,_,_,_,_,_,_,_,_,_,_,_,_,_,_,_,_,_,_,_,_,_,_,_,_,_,_,_,_,_,_,_,_,_,_,_,_,_,_,_,_,_,_,_,_,o 0,o 1,o 2,o 3,o 4,o 5,o 6,o 7,o 8,o 9,o 10,o 11,o 12,o 13,o 14,o 15,o 16,o 17,o 18,o 19,o 20,o 21], []⟩ W
    refine wpOp_step rfl (fun K' hK => ?_)
    go_simp
    exact hK _ _ ⟨rfl, hj⟩
  · intro o W hj
    have hj : KL _ _ W := hj
    show wpOp _ _ _ 3 _ ⟨#[_,_,_,_,_,_,_,_,_,_,_,_,_,_,_,_,_,_,_,_,_,_,_,_,_,_,_,_,_,_,_,_,_,_,_,_,_,_,_,_,_,_,_,_,_,_,_,_,_,_,_,_,_,_,_,_,_,_,_,_,_,_,_,_,_,_,_,_,_,_,_,_,_,_,_,_,_,_,_,.agg #[.int .i64 ax,.int .i64 ay],.agg #[.int .i64 bx,.int .i64 b_y],.agg #[.int .i64 cx,.int .i64 cy],o 3,o 4,o 5,o 6,o 7,o 8,o 9,o 10,o 11,o 12,o 13,o 14,o 15,o 16,o 17,o 18,o 19,o 20,o 21], []⟩ W
    refine wpOp_step rfl (fun K' hK => ?_)
    go_simp
    refine (hT1 _).mono ?_
    rintro e W1 ⟨rfl, hb1⟩
    exact hK _ _ ⟨rfl, hj.over hb1⟩
  · intro o W hj
    have hj : KL _ _ W := hj
    obtain ⟨cL, c0, c1⟩ := bl2 (KL.blk hj (.tail _ (.tail _ (.tail _ (.head _)))))
    show wpOp _ _ _ 4 _ ⟨#[_,_,_,_,_,_,_,_,_,_,_,_,_,_,_,_,_,_,_,_,_,_,_,_,_,_,_,_,_,_,_,_,_,_,_,_,_,_,_,_,_,_,_,_,_,_,_,_,_,_,_,_,_,_,_,_,_,_,_,_,_,_,_,_,_,_,_,_,_,_,_,_,_,_,_,_,_,_,_,o 0,o 1,o 2,o 3,o 4,o 5,o 6,o 7,o 8,o 9,o 10,o 11,o 12,o 13,o 14,o 15,o 16,o 17,o 18,o 19,o 20,o 21], []⟩ W
    refine wpOp_step rfl (fun K' hK => ?_)
    go_simp
    exact hK _ _ ⟨rfl, hj⟩
  · intro o W hj
    have hj : KL _ _ W := hj
    obtain ⟨cL, c0, c1⟩ := bl2 (KL.blk hj (.tail _ (.tail _ (.head _))))
    show wpOp _ _ _ 5 _ ⟨#[_,_,_,_,_,_,_,_,_,_,_,_,_,_,_,_,_,_,_,_,_,_,_,_,_,_,_,_,_,_,_,_,_,_,_,_,_,_,_,_,_,_,_,_,_,_,_,_,_,_,_,_,_,_,_,_,_,_,_,_,_,_,_,_,_,_,_,_,_,_,_,_,_,_,_,_,_,_,_,o 0,o 1,o 2,o 3,o 4,o 5,o 6,o 7,o 8,o 9,o 10,o 11,o 12,o 13,o 14,o 15,o 16,o 17,o 18,o 19,o 20,o 21], []⟩ W
    refine wpOp_step rfl (fun K' hK => ?_)
    go_simp
    exact hK _ _ ⟨rfl, hj⟩
  · intro o W hj
    have hj : KL _ _ W := hj
    obtain ⟨cL, c0, c1⟩ := bl2 (KL.blk hj (.head _))
    show wpOp _ _ _ 6 _ ⟨#[_,_,_,_,_,_,_,_,_,_,_,_,_,_,_,_,_,_,_,_,_,_,_,_,_,_,_,_,_,_,_,_,_,_,_,_,_,_,_,_,_,_,_,_,_,_,_,_,_,_,_,_,_,_,_,_,_,_,_,_,_,_,_,_,_,_,_,_,_,_,_,_,_,_,_,_,_,_,_,o 0,o 1,o 2,o 3,o 4,o 5,o 6,o 7,o 8,o 9,o 10,o 11,o 12,o 13,o 14,o 15,o 16,o 17,o 18,o 19,o 20,o 21], []⟩ W
    refine wpOp_step rfl (fun K' hK => ?_)
    go_simp
    exact hK _ _ ⟨rfl, hj⟩
  · intro o W hj
    have hj : KL _ _ W := hj
    show wpOp _ _ _ 7 _ ⟨#[_,_,_,_,_,_,_,_,_,_,_,_,_,_,_,_,_,_,_,_,_,_,_,_,_,_,_,_,_,_,_,_,_,_,_,_,_,_,_,_,_,_,_,_,_,_,_,_,_,_,_,_,_,_,_,_,_,_,_,_,_,_,_,_,_,_,_,_,_,_,_,_,_,_,_,_,_,_,_,o 0,o 1,o 2,o 3,.agg #[.int .i64 ax,.int .i64 ay],.agg #[.int .i64 bx,.int .i64 b_y],.agg #[.int .i64 dx,.int .i64 dy],o 7,o 8,o 9,o 10,o 11,o 12,o 13,o 14,o 15,o 16,o 17,o 18,o 19,o 20,o 21], []⟩ W
    refine wpOp_step rfl (fun K' hK => ?_)
    go_simp
    refine (hT2 _).mono ?_
    rintro e W1 ⟨rfl, hb1⟩
    exact hK _ _ ⟨rfl, hj.over hb1⟩
  · intro o W _
    show wpOp _ _ _ 8 _ ⟨#[_,_,_,_,_,_,_,_,_,_,_,_,_,_,_,_,_,_,_,_,_,_,_,_,_,_,_,_,_,_,_,_,_,_,_,_,_,_,_,_,_,_,_,_,_,_,_,_,_,_,_,_,_,_,_,_,_,_,_,_,_,_,_,_,_,_,_,_,_,_,_,_,_,_,_,_,_,_,_,o 0,o 1,o 2,.int .i64 s1,o 4,o 5,o 6,.int .i64 s2,o 8,o 9,o 10,o 11,o 12,o 13,o 14,o 15,o 16,o 17,o 18,o 19,o 20,o 21], []⟩ W
    refine wpOp_step rfl (fun K' hK => ?_)
    go_simp
    exact hK _ _ ⟨rfl, rfl⟩
  · intro o W _
    show wpOp _ _ _ 9 _ ⟨#[_,_,_,_,_,_,_,_,_,_,_,_,_,_,_,_,_,_,_,_,_,_,_,_,_,_,_,_,_,_,_,_,_,_,_,_,_,_,_,_,_,_,_,_,_,_,_,_,_,_,_,_,_,_,_,_,_,_,_,_,_,_,_,_,_,_,_,_,_,_,_,_,_,_,_,_,_,_,_,o 0,o 1,o 2,o 3,o 4,o 5,o 6,o 7,.int .i64 P12,o 9,o 10,o 11,o 12,o 13,o 14,o 15,o 16,o 17,o 18,o 19,o 20,o 21], []⟩ W
    refine wpOp_step rfl (fun K' hK => ?_)
    go_simp
    exact hK _ _ ⟨rfl, rfl⟩
  · intro o W _
    show wpOp _ _ _ 10 _ ⟨#[_,_,_,_,_,_,_,_,_,_,_,_,_,_,_,_,_,_,_,_,_,_,_,_,_,_,_,_,_,_,_,_,_,_,_,_,_,_,_,_,_,_,_,_,_,_,_,_,_,_,_,_,_,_,_,_,_,_,_,_,_,_,_,_,_,_,_,_,_,_,_,_,_,_,_,_,_,_,_,o 0,o 1,o 2,o 3,o 4,o 5,o 6,o 7,o 8,.bool true,o 10,o 11,o 12,o 13,o 14,o 15,o 16,o 17,o 18,o 19,o 20,o 21], []⟩ W
    refine wpOp_step rfl (fun K' hK => ?_)
    go_simp
    exact hK _ _ ⟨rfl, rfl⟩
  · intro o W hj
    have hj : KL _ _ W := hj
    obtain ⟨cL, c0, c1⟩ := bl2 (KL.blk hj (.tail _ (.head _)))
    show wpOp _ _ _ 11 _ ⟨#[_,_,_,_,_,_,_,_,_,_,_,_,_,_,_,_,_,_,_,_,_,_,_,_,_,_,_,_,_,_,_,_,_,_,_,_,_,_,_,_,_,_,_,_,_,_,_,_,_,_,_,_,_,_,_,_,_,_,_,_,_,_,_,_,_,_,_,_,_,_,_,_,_,_,_,_,_,_,_,o 0,o 1,o 2,o 3,o 4,o 5,o 6,o 7,o 8,o 9,.bool true,o 11,o 12,o 13,o 14,o 15,o 16,o 17,o 18,o 19,o 20,o 21], []⟩ W
    refine wpOp_step rfl (fun K' hK => ?_)
    go_simp
    exact hK _ _ ⟨rfl, hj⟩
  · intro o W hj
    have hj : KL _ _ W := hj
    obtain ⟨cL, c0, c1⟩ := bl2 (KL.blk hj (.head _))
    show wpOp _ _ _ 12 _ ⟨#[_,_,_,_,_,_,_,_,_,_,_,_,_,_,_,_,_,_,_,_,_,_,_,_,_,_,_,_,_,_,_,_,_,_,_,_,_,_,_,_,_,_,_,_,_,_,_,_,_,_,_,_,_,_,_,_,_,_,_,_,_,_,_,_,_,_,_,_,_,_,_,_,_,_,_,_,_,_,_,o 0,o 1,o 2,o 3,o 4,o 5,o 6,o 7,o 8,o 9,.bool true,o 11,o 12,o 13,o 14,o 15,o 16,o 17,o 18,o 19,o 20,o 21], []⟩ W
    refine wpOp_step rfl (fun K' hK => ?_)
    go_simp
    exact hK _ _ ⟨rfl, hj⟩
  · intro o W hj
    have hj : KL _ _ W := hj
    obtain ⟨cL, c0, c1⟩ := bl2 (KL.blk hj (.tail _ (.tail _ (.tail _ (.head _)))))
    show wpOp _ _ _ 13 _ ⟨#[_,_,_,_,_,_,_,_,_,_,_,_,_,_,_,_,_,_,_,_,_,_,_,_,_,_,_,_,_,_,_,_,_,_,_,_,_,_,_,_,_,_,_,_,_,_,_,_,_,_,_,_,_,_,_,_,_,_,_,_,_,_,_,_,_,_,_,_,_,_,_,_,_,_,_,_,_,_,_,o 0,o 1,o 2,o 3,o 4,o 5,o 6,o 7,o 8,o 9,.bool true,o 11,o 12,o 13,o 14,o 15,o 16,o 17,o 18,o 19,o 20,o 21], []⟩ W
    refine wpOp_step rfl (fun K' hK => ?_)
    go_simp
    exact hK _ _ ⟨rfl, hj⟩
  · intro o W hj
    have hj : KL _ _ W := hj
    show wpOp _ _ _ 14 _ ⟨#[_,_,_,_,_,_,_,_,_,_,_,_,_,_,_,_,_,_,_,_,_,_,_,_,_,_,_,_,_,_,_,_,_,_,_,_,_,_,_,_,_,_,_,_,_,_,_,_,_,_,_,_,_,_,_,_,_,_,_,_,_,_,_,_,_,_,_,_,_,_,_,_,_,_,_,_,_,_,_,o 0,o 1,o 2,o 3,o 4,o 5,o 6,o 7,o 8,o 9,.bool true,.agg #[.int .i64 cx,.int .i64 cy],.agg #[.int .i64 dx,.int .i64 dy],.agg #[.int .i64 ax,.int .i64 ay],o 14,o 15,o 16,o 17,o 18,o 19,o 20,o 21], []⟩ W
    refine wpOp_step rfl (fun K' hK => ?_)
    go_simp
    refine (hT3 _).mono ?_
    rintro e W1 ⟨rfl, hb1⟩
    exact hK _ _ ⟨rfl, hj.over hb1⟩
  · intro o W hj
    have hj : KL _ _ W := hj
    obtain ⟨cL, c0, c1⟩ := bl2 (KL.blk hj (.tail _ (.head _)))
    show wpOp _ _ _ 15 _ ⟨#[_,_,_,_,_,_,_,_,_,_,_,_,_,_,_,_,_,_,_,_,_,_,_,_,_,_,_,_,_,_,_,_,_,_,_,_,_,_,_,_,_,_,_,_,_,_,_,_,_,_,_,_,_,_,_,_,_,_,_,_,_,_,_,_,_,_,_,_,_,_,_,_,_,_,_,_,_,_,_,o 0,o 1,o 2,o 3,o 4,o 5,o 6,o 7,o 8,o 9,.bool true,o 11,o 12,o 13,o 14,o 15,o 16,o 17,o 18,o 19,o 20,o 21], []⟩ W
    refine wpOp_step rfl (fun K' hK => ?_)
    go_simp
    exact hK _ _ ⟨rfl, hj⟩
  · intro o W hj
    have hj : KL _ _ W := hj
    obtain ⟨cL, c0, c1⟩ := bl2 (KL.blk hj (.head _))
    show wpOp _ _ _ 16 _ ⟨#[_,_,_,_,_,_,_,_,_,_,_,_,_,_,_,_,_,_,_,_,_,_,_,_,_,_,_,_,_,_,_,_,_,_,_,_,_,_,_,_,_,_,_,_,_,_,_,_,_,_,_,_,_,_,_,_,_,_,_,_,_,_,_,_,_,_,_,_,_,_,_,_,_,_,_,_,_,_,_,o 0,o 1,o 2,o 3,o 4,o 5,o 6,o 7,o 8,o 9,.bool true,o 11,o 12,o 13,o 14,o 15,o 16,o 17,o 18,o 19,o 20,o 21], []⟩ W
    refine wpOp_step rfl (fun K' hK => ?_)
    go_simp
    exact hK _ _ ⟨rfl, hj⟩
  · intro o W hj
    have hj : KL _ _ W := hj
    obtain ⟨cL, c0, c1⟩ := bl2 (KL.blk hj (.tail _ (.tail _ (.head _))))
    show wpOp _ _ _ 17 _ ⟨#[_,_,_,_,_,_,_,_,_,_,_,_,_,_,_,_,_,_,_,_,_,_,_,_,_,_,_,_,_,_,_,_,_,_,_,_,_,_,_,_,_,_,_,_,_,_,_,_,_,_,_,_,_,_,_,_,_,_,_,_,_,_,_,_,_,_,_,_,_,_,_,_,_,_,_,_,_,_,_,o 0,o 1,o 2,o 3,o 4,o 5,o 6,o 7,o 8,o 9,.bool true,o 11,o 12,o 13,o 14,o 15,o 16,o 17,o 18,o 19,o 20,o 21], []⟩ W
    refine wpOp_step rfl (fun K' hK => ?_)
    go_simp
    exact hK _ _ ⟨rfl, hj⟩
  · intro o W hj
    have hj : KL _ _ W := hj
    show wpOp _ _ _ 18 _ ⟨#[_,_,_,_,_,_,_,_,_,_,_,_,_,_,_,_,_,_,_,_,_,_,_,_,_,_,_,_,_,_,_,_,_,_,_,_,_,_,_,_,_,_,_,_,_,_,_,_,_,_,_,_,_,_,_,_,_,_,_,_,_,_,_,_,_,_,_,_,_,_,_,_,_,_,_,_,_,_,_,o 0,o 1,o 2,o 3,o 4,o 5,o 6,o 7,o 8,o 9,.bool true,o 11,o 12,o 13,o 14,.agg #[.int .i64 cx,.int .i64 cy],.agg #[.int .i64 dx,.int .i64 dy],.agg #[.int .i64 bx,.int .i64 b_y],o 18,o 19,o 20,o 21], []⟩ W
    refine wpOp_step rfl (fun K' hK => ?_)
    go_simp
    refine (hT4 _).mono ?_
    rintro e W1 ⟨rfl, hb1⟩
    exact hK _ _ ⟨rfl, hj.over hb1⟩
  · intro o W _
    show wpOp _ _ _ 19 _ ⟨#[_,_,_,_,_,_,_,_,_,_,_,_,_,_,_,_,_,_,_,_,_,_,_,_,_,_,_,_,_,_,_,_,_,_,_,_,_,_,_,_,_,_,_,_,_,_,_,_,_,_,_,_,_,_,_,_,_,_,_,_,_,_,_,_,_,_,_,_,_,_,_,_,_,_,_,_,_,_,_,o 0,o 1,o 2,o 3,o 4,o 5,o 6,o 7,o 8,o 9,.bool true,o 11,o 12,o 13,.int .i64 s3,o 15,o 16,o 17,.int .i64 s4,o 19,o 20,o 21], []⟩ W
    refine wpOp_step rfl (fun K' hK => ?_)
    go_simp
    exact hK _ _ ⟨rfl, rfl⟩
  · intro o W _
    show wpOp _ _ _ 20 _ ⟨#[_,_,_,_,_,_,_,_,_,_,_,_,_,_,_,_,_,_,_,_,_,_,_,_,_,_,_,_,_,_,_,_,_,_,_,_,_,_,_,_,_,_,_,_,_,_,_,_,_,_,_,_,_,_,_,_,_,_,_,_,_,_,_,_,_,_,_,_,_,_,_,_,_,_,_,_,_,_,_,o 0,o 1,o 2,o 3,o 4,o 5,o 6,o 7,o 8,o 9,.bool true,o 11,o 12,o 13,o 14,o 15,o 16,o 17,o 18,.int .i64 P34,o 20,o 21], []⟩ W
    refine wpOp_step rfl (fun K' hK => ?_)
    go_simp
    exact hK _ _ ⟨rfl, rfl⟩
  · intro o W _
    show wpOp _ _ _ 21 _ ⟨#[_,_,_,_,_,_,_,_,_,_,_,_,_,_,_,_,_,_,_,_,_,_,_,_,_,_,_,_,_,_,_,_,_,_,_,_,_,_,_,_,_,_,_,_,_,_,_,_,_,_,_,_,_,_,_,_,_,_,_,_,_,_,_,_,_,_,_,_,_,_,_,_,_,_,_,_,_,_,_,o 0,o 1,o 2,o 3,o 4,o 5,o 6,o 7,o 8,o 9,.bool true,o 11,o 12,o 13,o 14,o 15,o 16,o 17,o 18,o 19,.bool true,o 21], []⟩ W
    refine wpOp_step rfl (fun K' hK => ?_)
    go_simp
    exact hK _ _ ⟨rfl, rfl⟩
  · intro o hh_
    have e0 : o 0 = .agg #[.int .i64 ax,.int .i64 ay] := hh_ 0 (by decide)
    have e1 : o 1 = .agg #[.int .i64 bx,.int .i64 b_y] := hh_ 1 (by decide)
    have e2 : o 2 = .agg #[.int .i64 cx,.int .i64 cy] := hh_ 2 (by decide)
    have e3 : o 3 = .int .i64 s1 := hh_ 3 (by decide)
    have e4 : o 4 = .agg #[.int .i64 ax,.int .i64 ay] := hh_ 4 (by decide)
    have e5 : o 5 = .agg #[.int .i64 bx,.int .i64 b_y] := hh_ 5 (by decide)
    have e6 : o 6 = .agg #[.int .i64 dx,.int .i64 dy] := hh_ 6 (by decide)
    have e7 : o 7 = .int .i64 s2 := hh_ 7 (by decide)
    have e8 : o 8 = .int .i64 P12 := hh_ 8 (by decide)
    have e9 : o 9 = .bool true := hh_ 9 (by decide)
    have e10 : o 10 = .bool true := hh_ 10 (by decide)
    have e11 : o 11 = .agg #[.int .i64 cx,.int .i64 cy] := hh_ 11 (by decide)
    have e12 : o 12 = .agg #[.int .i64 dx,.int .i64 dy] := hh_ 12 (by decide)
    have e13 : o 13 = .agg #[.int .i64 ax,.int .i64 ay] := hh_ 13 (by decide)
    have e14 : o 14 = .int .i64 s3 := hh_ 14 (by decide)
    have e15 : o 15 = .agg #[.int .i64 cx,.int .i64 cy] := hh_ 15 (by decide)
    have e16 : o 16 = .agg #[.int .i64 dx,.int .i64 dy] := hh_ 16 (by decide)
    have e17 : o 17 = .agg #[.int .i64 bx,.int .i64 b_y] := hh_ 17 (by decide)
    have e18 : o 18 = .int .i64 s4 := hh_ 18 (by decide)
    have e19 : o 19 = .int .i64 P34 := hh_ 19 (by decide)
    have e20 : o 20 = .bool true := hh_ 20 (by decide)
    have e21 : o 21 = .bool true := hh_ 21 (by decide)
    rw [e0, e1, e2, e3, e4, e5, e6, e7, e8, e9, e10, e11, e12, e13, e14, e15, e16, e17, e18, e19, e20, e21]
  · intro W9 h9
    have h9 : KL _ _ W9 := h9
    obtain ⟨eL0, e0_0, e0_1⟩ := bl2 (KL.blk h9 (.head _))
    have eF0 := (KL.blk h9 (.head _)).frozen
    obtain ⟨eL1, e1_0, e1_1⟩ := bl2 (KL.blk h9 (.tail _ (.head _)))
    have eF1 := (KL.blk h9 (.tail _ (.head _))).frozen
    obtain ⟨eL2, e2_0, e2_1⟩ := bl2 (KL.blk h9 (.tail _ (.tail _ (.head _))))
    have eF2 := (KL.blk h9 (.tail _ (.tail _ (.head _)))).frozen
    obtain ⟨eL3, e3_0, e3_1⟩ := bl2 (KL.blk h9 (.tail _ (.tail _ (.tail _ (.head _)))))
    have eF3 := (KL.blk h9 (.tail _ (.tail _ (.tail _ (.head _))))).frozen
    have hjb := h9.1
    have hjz := hjb.size
    go_wp2
    go_ret
    exact ⟨rfl, hjb⟩
set_option maxHeartbeats 16000000 in
set_option maxRecDepth 100000 in
theorem refMeet_gzm (ax ay bx b_y cx cy dx dy s1 s2 s3 s4 P12 P34 : Int) (hp : (ax == bx && ay == b_y) = false) (hq : (cx == dx && cy == dy) = false) (hT1 : ∀ w, Calls Try.prog 32 #[.agg #[.int .i64 ax, .int .i64 ay], .agg #[.int .i64 bx, .int .i64 b_y], .agg #[.int .i64 cx, .int .i64 cy]] w fun e w' => e = .returned (.int .i64 s1) ∧ Below w.heap.size w w') (hT2 : ∀ w, Calls Try.prog 32 #[.agg #[.int .i64 ax, .int .i64 ay], .agg #[.int .i64 bx, .int .i64 b_y], .agg #[.int .i64 dx, .int .i64 dy]] w fun e w' => e = .returned (.int .i64 s2) ∧ Below w.heap.size w w') (hT3 : ∀ w, Calls Try.prog 32 #[.agg #[.int .i64 cx, .int .i64 cy], .agg #[.int .i64 dx, .int .i64 dy], .agg #[.int .i64 ax, .int .i64 ay]] w fun e w' => e = .returned (.int .i64 s3) ∧ Below w.heap.size w w') (hT4 : ∀ w, Calls Try.prog 32 #[.agg #[.int .i64 cx, .int .i64 cy], .agg #[.int .i64 dx, .int .i64 dy], .agg #[.int .i64 bx, .int .i64 b_y]] w fun e w' => e = .returned (.int .i64 s4) ∧ Below w.heap.size w w') (d1 : (s1 == 0) = true) (d2 : (s2 == 0) = false) (x1 : IntKind.i64.wrap (s1 * s2) = P12) (x2 : IntKind.i64.wrap (s3 * s4) = P34) (d3 : decide (P12 ≤ 0) = true) (d4 : decide (P34 ≤ 0) = false) (w : World) :
    Calls Try.prog 35 #[.agg #[.int .i64 ax, .int .i64 ay], .agg #[.int .i64 bx, .int .i64 b_y], .agg #[.int .i64 cx, .int .i64 cy], .agg #[.int .i64 dx, .int .i64 dy]] w fun e w' => e = .returned (.int .i64 0) ∧ Below w.heap.size w w' := by
  have e1 := eqP ax ay bx b_y
  have e2 := eqP cx cy dx dy
  rw [hp] at e1
  rw [hq] at e2
  clear hp hq
  go_enter Try.func35, Try.ntmps35
  go_wp2_with (first | (go_at_call 32; (with_reducible refine (hT1 _).mono ?_); rintro e w1 ⟨rfl, hb1⟩; have hj1 : KL [((w.heap.size + 1 + 1 + 1),46,#[.int .i64 dx,.int .i64 dy]),((w.heap.size + 1 + 1),46,#[.int .i64 cx,.int .i64 cy]),((w.heap.size + 1),46,#[.int .i64 bx,.int .i64 b_y]),(w.heap.size,46,#[.int .i64 ax,.int .i64 ay])] w w1 := KL.over (KL.new (g := (w.heap.size + 1 + 1 + 1)) (KL.new (g := (w.heap.size + 1 + 1)) (KL.new (g := (w.heap.size + 1)) (KL.new (g := w.heap.size) (KL.nil w) rfl _ _) (by simp) _ _) (by simp) _ _) (by simp) _ _) hb1; obtain ⟨aL0, a0_0, a0_1⟩ := bl2 (KL.blk hj1 (.head _)); have aF0 := (KL.blk hj1 (.head _)).frozen; obtain ⟨aL1, a1_0, a1_1⟩ := bl2 (KL.blk hj1 (.tail _ (.head _))); have aF1 := (KL.blk hj1 (.tail _ (.head _))).frozen; obtain ⟨aL2, a2_0, a2_1⟩ := bl2 (KL.blk hj1 (.tail _ (.tail _ (.head _)))); have aF2 := (KL.blk hj1 (.tail _ (.tail _ (.head _)))).frozen; obtain ⟨aL3, a3_0, a3_1⟩ := bl2 (KL.blk hj1 (.tail _ (.tail _ (.tail _ (.head _))))); have aF3 := (KL.blk hj1 (.tail _ (.tail _ (.tail _ (.head _))))).frozen) | (go_at_call 32; (with_reducible refine (hT2 _).mono ?_); rintro e w2 ⟨rfl, hb2⟩; have hj2 : KL [((w.heap.size + 1 + 1 + 1),46,#[.int .i64 dx,.int .i64 dy]),((w.heap.size + 1 + 1),46,#[.int .i64 cx,.int .i64 cy]),((w.heap.size + 1),46,#[.int .i64 bx,.int .i64 b_y]),(w.heap.size,46,#[.int .i64 ax,.int .i64 ay])] w w2 := KL.over hj1 hb2; obtain ⟨bL0, b0_0, b0_1⟩ := bl2 (KL.blk hj2 (.head _)); have bF0 := (KL.blk hj2 (.head _)).frozen; obtain ⟨bL1, b1_0, b1_1⟩ := bl2 (KL.blk hj2 (.tail _ (.head _))); have bF1 := (KL.blk hj2 (.tail _ (.head _))).frozen; obtain ⟨bL2, b2_0, b2_1⟩ := bl2 (KL.blk hj2 (.tail _ (.tail _ (.head _)))); have bF2 := (KL.blk hj2 (.tail _ (.tail _ (.head _)))).frozen; obtain ⟨bL3, b3_0, b3_1⟩ := bl2 (KL.blk hj2 (.tail _ (.tail _ (.tail _ (.head _))))); have bF3 := (KL.blk hj2 (.tail _ (.tail _ (.tail _ (.head _))))).frozen))
  refine wp_region_any (by kernel_rfl) ?_
  try (change wpAny _ _ _ _ _ _ _ (World.drew _))
  refine wpAny_vals (fr := fun o => #[.agg #[.int .i64 ax,.int .i64 ay],.agg #[.int .i64 bx,.int .i64 b_y],.agg #[.int .i64 cx,.int .i64 cy],.agg #[.int .i64 dx,.int .i64 dy],.pointer (some ⟨w.heap.size, 0, none⟩),.pointer (some ⟨(w.heap.size + 1), 0, none⟩),.pointer (some ⟨(w.heap.size + 1 + 1), 0, none⟩),.pointer (some ⟨(w.heap.size + 1 + 1 + 1), 0, none⟩),.int .i64 0,undef,undef,.agg #[.int .i64 ax,.int .i64 ay],.agg #[.int .i64 bx,.int .i64 b_y],.bool false,.bool false,.agg #[.int .i64 cx,.int .i64 cy],.agg #[.int .i64 dx,.int .i64 dy],.bool false,.bool false,undef,undef,undef,undef,undef,undef,undef,undef,undef,undef,undef,undef,undef,undef,undef,undef,undef,undef,undef,undef,.agg #[.int .i64 ax,.int .i64 ay],.agg #[.int .i64 bx,.int .i64 b_y],.agg #[.int .i64 cx,.int .i64 cy],.int .i64 s1,.bool true,.bool true,.agg #[.int .i64 ax,.int .i64 ay],.agg #[.int .i64 bx,.int .i64 b_y],.agg #[.int .i64 dx,.int .i64 dy],.int .i64 s2,.bool false,.bool false,undef,undef,undef,undef,undef,undef,undef,undef,undef,undef,undef,undef,undef,undef,undef,undef,undef,undef,undef,undef,undef,undef,undef,undef,undef,undef,undef,undef,o 0,o 1,o 2,o 3,o 4,o 5,o 6,o 7,o 8,o 9,o 10,o 11,o 12,o 13,o 14,o 15,o 16,o 17,o 18,o 19,o 20,o 21]) (vals := fun i_ => ([.agg #[.int .i64 ax,.int .i64 ay],.agg #[.int .i64 bx,.int .i64 b_y],.agg #[.int .i64 cx,.int .i64 cy],.int .i64 s1,.agg #[.int .i64 ax,.int .i64 ay],.agg #[.int .i64 bx,.int .i64 b_y],.agg #[.int .i64 dx,.int .i64 dy],.int .i64 s2,.int .i64 P12,.bool true,.bool true,.agg #[.int .i64 cx,.int .i64 cy],.agg #[.int .i64 dx,.int .i64 dy],.agg #[.int .i64 ax,.int .i64 ay],.int .i64 s3,.agg #[.int .i64 cx,.int .i64 cy],.agg #[.int .i64 dx,.int .i64 dy],.agg #[.int .i64 bx,.int .i64 b_y],.int .i64 s4,.int .i64 P34,.bool false,.bool false] : List Value).getD i_ undef) (Kf := fun _ => True) (K := fun kk_ => ([(KL [((w.heap.size + 1 + 1 + 1),46,#[.int .i64 dx,.int .i64 dy]),((w.heap.size + 1 + 1),46,#[.int .i64 cx,.int .i64 cy]),((w.heap.size + 1),46,#[.int .i64 bx,.int .i64 b_y]),(w.heap.size,46,#[.int .i64 ax,.int .i64 ay])] w)] : List (World → Prop)).getD kk_ (fun _ => True)) (dep := fun i_ => [[],[],[],[0,1,2],[],[],[],[4,5,6],[3,7],[8],[9],[10],[10],[10],[10,11,12,13],[10],[10],[10],[10,15,16,17],[10,14,18],[10,19],[10,20]].getD i_ []) (dv := fun i_ => [[],[],[],[0,1,2],[],[],[],[4,5,6],[3,7],[8],[9],[10],[10],[10],[10,11,12,13],[10],[10],[10],[10,15,16,17],[10,14,18],[10,19],[10,20]].getD i_ []) (kd := fun i_ => [1,1,1,1,1,1,1,1,0,0,0,1,1,1,1,1,1,1,1,0,0,0].getD i_ 0) (ss := []) (l := [0,1,2,3,4,5,6,7,8,9,10,11,12,13,14,15,16,17,18,19,20,21]) (f0 := fun _ => undef) (A := ?A4) 22 ?_ ?_ ?_ ?_ ?_ ?_ ⟨?_, ?_, ?_, ?_, ?_, ?_, ?_, ?_, ?_, ?_, ?_, ?_, ?_, ?_, ?_, ?_, ?_, ?_, ?_, ?_, ?_, ?_, trivial⟩ ?_ ?_
  rotate_left
  · rfl
  · rfl
  · decide +kernel
  · decide +kernel
  · exact KL.drew hj2
  · exact fun _ _ _ _ => trivial
  · intro o W hj
    have hj : KL _ _ W := hj
    obtain ⟨cL, c0, c1⟩ := bl2 (KL.blk hj (.tail _ (.tail _ (.tail _ (.head _)))))
    show wpOp _ _ _ 0 _ ⟨#[_,_,_,_,_,_,_,_,_,_,_,_,_,_,_,_,_,_,_,_,_,_,_,_,_,_,_,_,_,_,_,_,_,_,_,_,_,_,_,_,_,_,_,_,_,_,_,_,_,_,_,_,_,_,_,_,_,_,_,_,_,_,_,_,_,_,_,_,_,_,_,_,_,_,_,_,_,_,_,o 0,o 1,o 2,o 3,o 4,o 5,o 6,o 7,o 8,o 9,o 10,o 11,o 12,o 13,o 14,o 15,o 16,o 17,o 18,o 19,o 20,o 21], []⟩ W
    refine wpOp_step rfl (fun K' hK => ?_)
    go_simp
    exact hK _ _ ⟨rfl, hj⟩
  · intro o W hj
    have hj : KL _ _ W := hj
    obtain ⟨cL, c0, c1⟩ := bl2 (KL.blk hj (.tail _ (.tail _ (.head _))))
    show wpOp _ _ _ 1 _ ⟨#[_,_,_,_,_,_,_,_,_,_,_,_,_,_,_,_,_,_,_,_,_,_,_,_,_,_,_,_,_,_,_,_,_,_,_,_,_,_,_,_,_,_,_,_,_,_,_,_,_,_,_,_,_,_,_,_,_,_,_,_,_,_,_,_,_,_,_,_,_,_,_,_,_,_,_,_,_,_,_,o 0,o 1,o 2,o 3,o 4,o 5,o 6,o 7,o 8,o 9,o 10,o 11,o 12,o 13,o 14,o 15,o 16,o 17,o 18,o 19,o 20,o 21], []⟩ W
    refine wpOp_step rfl (fun K' hK => ?_)
    go_simp
    exact hK _ _ ⟨rfl, hj⟩
  · intro o W hj
    have hj : KL _ _ W := hj
    obtain ⟨cL, c0, c1⟩ := bl2 (KL.blk hj (.tail _ (.head _)))
    show wpOp _ _ _ 2 _ ⟨#[_,_,_,_,_,_,_,_,_,_,_,_,_,_,_,_,_,_,_,_,_,_,_,_,_,_,_,_,_,_,_,_,_,_,_,_,_,_,_,_,_,_,_,_,_,_,_,_,_,_,_,_,_,_,_,_,_,_,_,_,_,_,_,_,_,_,_,_,_,_,_,_,_,_,_,_,_,_,_,o 0,o 1,o 2,o 3,o 4,o 5,o 6,o 7,o 8,o 9,o 10,o 11,o 12,o 13,o 14,o 15,o 16,o 17,o 18,o 19,o 20,o 21], []⟩ W
    refine wpOp_step rfl (fun K' hK => ?_)
    go_simp
    exact hK _ _ ⟨rfl, hj⟩
  · intro o W hj
    have hj : KL _ _ W := hj
    show wpOp _ _ _ 3 _ ⟨#[_,_,_,_,_,_,_,_,_,_,_,_,_,_,_,_,_,_,_,_,_,_,_,_,_,_,_,_,_,_,_,_,_,_,_,_,_,_,_,_,_,_,_,_,_,_,_,_,_,_,_,_,_,_,_,_,_,_,_,_,_,_,_,_,_,_,_,_,_,_,_,_,_,_,_,_,_,_,_,.agg #[.int .i64 ax,.int .i64 ay],.agg #[.int .i64 bx,.int .i64 b_y],.agg #[.int .i64 cx,.int .i64 cy],o 3,o 4,o 5,o 6,o 7,o 8,o 9,o 10,o 11,o 12,o 13,o 14,o 15,o 16,o 17,o 18,o 19,o 20,o 21], []⟩ W
    refine wpOp_step rfl (fun K' hK => ?_)
    go_simp
    refine (hT1 _).mono ?_
    rintro e W1 ⟨rfl, hb1⟩
    exact hK _ _ ⟨rfl, hj.over hb1⟩
  · intro o W hj
    have hj : KL _ _ W := hj
    obtain ⟨cL, c0, c1⟩ := bl2 (KL.blk hj (.tail _ (.tail _ (.tail _ (.head _)))))
    show wpOp _ _ _ 4 _ ⟨#[_,_,_,_,_,_,_,_,_,_,_,_,_,_,_,_,_,_,_,_,_,_,_,_,_,_,_,_,_,_,_,_,_,_,_,_,_,_,_,_,_,_,_,_,_,_,_,_,_,_,_,_,_,_,_,_,_,_,_,_,_,_,_,_,_,_,_,_,_,_,_,_,_,_,_,_,_,_,_,o 0,o 1,o 2,o 3,o 4,o 5,o 6,o 7,o 8,o 9,o 10,o 11,o 12,o 13,o 14,o 15,o 16,o 17,o 18,o 19,o 20,o 21], []⟩ W
    refine wpOp_step rfl (fun K' hK => ?_)
    go_simp
    exact hK _ _ ⟨rfl, hj⟩
  · intro o W hj
    have hj : KL _ _ W := hj
    obtain ⟨cL, c0, c1⟩ := bl2 (KL.blk hj (.tail _ (.tail _ (.head _))))
    show wpOp _ _ _ 5 _ ⟨#[_,_,_,_,_,_,_,_,_,_,_,_,_,_,_,_,_,_,_,_,_,_,_,_,_,_,_,_,_,_,_,_,_,_,_,_,_,_,_,_,_,_,_,_,_,_,_,_,_,_,_,_,_,_,_,_,_,_,_,_,_,_,_,_,_,_,_,_,_,_,_,_,_,_,_,_,_,_,_,o 0,o 1,o 2,o 3,o 4,o 5,o 6,o 7,o 8,o 9,o 10,o 11,o 12,o 13,o 14,o 15,o 16,o 17,o 18,o 19,o 20,o 21], []⟩ W
    refine wpOp_step rfl (fun K' hK => ?_)
    go_simp
    exact hK _ _ ⟨rfl, hj⟩
  · intro o W hj
    have hj : KL _ _ W := hj
    obtain ⟨cL, c0, c1⟩ := bl2 (KL.blk hj (.head _))
    show wpOp _ _ _ 6 _ ⟨#[_,_,_,_,_,_,_,_,_,_,_,_,_,_,_,_,_,_,_,_,_,_,_,_,_,_,_,_,_,_,_,_,_,_,_,_,_,_,_,_,_,_,_,_,_,_,_,_,_,_,_,_,_,_,_,_,_,_,_,_,_,_,_,_,_,_,_,_,_,_,_,_,_,_,_,_,_,_,_,o 0,o 1,o 2,o 3,o 4,o 5,o 6,o 7,o 8,o 9,o 10,o 11,o 12,o 13,o 14,o 15,o 16,o 17,o 18,o 19,o 20,o 21], []⟩ W
    refine wpOp_step rfl (fun K' hK => ?_)
    go_simp
    exact hK _ _ ⟨rfl, hj⟩
  · intro o W hj
    have hj : KL _ _ W := hj
    show wpOp _ _ _ 7 _ ⟨#[_,_,_,_,_,_,_,_,_,_,_,_,_,_,_,_,_,_,_,_,_,_,_,_,_,_,_,_,_,_,_,_,_,_,_,_,_,_,_,_,_,_,_,_,_,_,_,_,_,_,_,_,_,_,_,_,_,_,_,_,_,_,_,_,_,_,_,_,_,_,_,_,_,_,_,_,_,_,_,o 0,o 1,o 2,o 3,.agg #[.int .i64 ax,.int .i64 ay],.agg #[.int .i64 bx,.int .i64 b_y],.agg #[.int .i64 dx,.int .i64 dy],o 7,o 8,o 9,o 10,o 11,o 12,o 13,o 14,o 15,o 16,o 17,o 18,o 19,o 20,o 21], []⟩ W
    refine wpOp_step rfl (fun K' hK => ?_)
    go_simp
    refine (hT2 _).mono ?_
    rintro e W1 ⟨rfl, hb1⟩
    exact hK _ _ ⟨rfl, hj.over hb1⟩
  · intro o W _
    show wpOp _ _ _ 8 _ ⟨#[_,_,_,_,_,_,_,_,_,_,_,_,_,_,_,_,_,_,_,_,_,_,_,_,_,_,_,_,_,_,_,_,_,_,_,_,_,_,_,_,_,_,_,_,_,_,_,_,_,_,_,_,_,_,_,_,_,_,_,_,_,_,_,_,_,_,_,_,_,_,_,_,_,_,_,_,_,_,_,o 0,o 1,o 2,.int .i64 s1,o 4,o 5,o 6,.int .i64 s2,o 8,o 9,o 10,o 11,o 12,o 13,o 14,o 15,o 16,o 17,o 18,o 19,o 20,o 21], []⟩ W
    refine wpOp_step rfl (fun K' hK => ?_)
    go_simp
    exact hK _ _ ⟨rfl, rfl⟩
  · intro o W _
    show wpOp _ _ _ 9 _ ⟨#[_,_,_,_,_,_,_,_,_,_,_,_,_,_,_,_,_,_,_,_,_,_,_,_,_,_,_,_,_,_,_,_,_,_,_,_,_,_,_,_,_,_,_,_,_,_,_,_,_,_,_,_,_,_,_,_,_,_,_,_,_,_,_,_,_,_,_,_,_,_,_,_,_,_,_,_,_,_,_,o 0,o 1,o 2,o 3,o 4,o 5,o 6,o 7,.int .i64 P12,o 9,o 10,o 11,o 12,o 13,o 14,o 15,o 16,o 17,o 18,o 19,o 20,o 21], []⟩ W
    refine wpOp_step rfl (fun K' hK => ?_)
    go_simp
    exact hK _ _ ⟨rfl, rfl⟩
  · intro o W _
    show wpOp _ _ _ 10 _ ⟨#[_,_,_,_,_,_,_,_,_,_,_,_,_,_,_,_,_,_,_,_,_,_,_,_,_,_,_,_,_,_,_,_,_,_,_,_,_,_,_,_,_,_,_,_,_,_,_,_,_,_,_,_,_,_,_,_,_,_,_,_,_,_,_,_,_,_,_,_,_,_,_,_,_,_,_,_,_,_,_,o 0,o 1,o 2,o 3,o 4,o 5,o 6,o 7,o 8,.bool true,o 10,o 11,o 12,o 13,o 14,o 15,o 16,o 17,o 18,o 19,o 20,o 21], []⟩ W
    refine wpOp_step rfl (fun K' hK => ?_)
    go_simp
    exact hK _ _ ⟨rfl, rfl⟩
  · intro o W hj
    have hj : KL _ _ W := hj
    obtain ⟨cL, c0, c1⟩ := bl2 (KL.blk hj (.tail _ (.head _)))
    show wpOp _ _ _ 11 _ ⟨#[_,_,_,_,_,_,_,_,_,_,_,_,_,_,_,_,_,_,_,_,_,_,_,_,_,_,_,_,_,_,_,_,_,_,_,_,_,_,_,_,_,_,_,_,_,_,_,_,_,_,_,_,_,_,_,_,_,_,_,_,_,_,_,_,_,_,_,_,_,_,_,_,_,_,_,_,_,_,_,o 0,o 1,o 2,o 3,o 4,o 5,o 6,o 7,o 8,o 9,.bool true,o 11,o 12,o 13,o 14,o 15,o 16,o 17,o 18,o 19,o 20,o 21], []⟩ W
    refine wpOp_step rfl (fun K' hK => ?_)
    go_simp
    exact hK _ _ ⟨rfl, hj⟩
  · intro o W hj
    have hj : KL _ _ W := hj
    obtain ⟨cL, c0, c1⟩ := bl2 (KL.blk hj (.head _))
    show wpOp _ _ _ 12 _ ⟨#[_,_,_,_,_,_,_,_,_,_,_,_,_,_,_,_,_,_,_,_,_,_,_,_,_,_,_,_,_,_,_,_,_,_,_,_,_,_,_,_,_,_,_,_,_,_,_,_,_,_,_,_,_,_,_,_,_,_,_,_,_,_,_,_,_,_,_,_,_,_,_,_,_,_,_,_,_,_,_,o 0,o 1,o 2,o 3,o 4,o 5,o 6,o 7,o 8,o 9,.bool true,o 11,o 12,o 13,o 14,o 15,o 16,o 17,o 18,o 19,o 20,o 21], []⟩ W
    refine wpOp_step rfl (fun K' hK => ?_)
    go_simp
    exact hK _ _ ⟨rfl, hj⟩
  · intro o W hj
    have hj : KL _ _ W := hj
    obtain ⟨cL, c0, c1⟩ := bl2 (KL.blk hj (.tail _ (.tail _ (.tail _ (.head _)))))
    show wpOp _ _ _ 13 _ ⟨#[_,_,_,_,_,_,_,_,_,_,_,_,_,_,_,_,_,_,_,_,_,_,_,_,_,_,_,_,_,_,_,_,_,_,_,_,_,_,_,_,_,_,_,_,_,_,_,_,_,_,_,_,_,_,_,_,_,_,_,_,_,_,_,_,_,_,_,_,_,_,_,_,_,_,_,_,_,_,_,o 0,o 1,o 2,o 3,o 4,o 5,o 6,o 7,o 8,o 9,.bool true,o 11,o 12,o 13,o 14,o 15,o 16,o 17,o 18,o 19,o 20,o 21], []⟩ W
    refine wpOp_step rfl (fun K' hK => ?_)
    go_simp
    exact hK _ _ ⟨rfl, hj⟩
  · intro o W hj
    have hj : KL _ _ W := hj
    show wpOp _ _ _ 14 _ ⟨#[_,_,_,_,_,_,_,_,_,_,_,_,_,_,_,_,_,_,_,_,_,_,_,_,_,_,_,_,_,_,_,_,_,_,_,_,_,_,_,_,_,_,_,_,_,_,_,_,_,_,_,_,_,_,_,_,_,_,_,_,_,_,_,_,_,_,_,_,_,_,_,_,_,_,_,_,_,_,_,o 0,o 1,o 2,o 3,o 4,o 5,o 6,o 7,o 8,o 9,.bool true,.agg #[.int .i64 cx,.int .i64 cy],.agg #[.int .i64 dx,.int .i64 dy],.agg #[.int .i64 ax,.int .i64 ay],o 14,o 15,o 16,o 17,o 18,o 19,o 20,o 21], []⟩ W
    refine wpOp_step rfl (fun K' hK => ?_)
    go_simp
    refine (hT3 _).mono ?_
    rintro e W1 ⟨rfl, hb1⟩
    exact hK _ _ ⟨rfl, hj.over hb1⟩
  · intro o W hj
    have hj : KL _ _ W := hj
    obtain ⟨cL, c0, c1⟩ := bl2 (KL.blk hj (.tail _ (.head _)))
    show wpOp _ _ _ 15 _ ⟨#[_,_,_,_,_,_,_,_,_,_,_,_,_,_,_,_,_,_,_,_,_,_,_,_,_,_,_,_,_,_,_,_,_,_,_,_,_,_,_,_,_,_,_,_,_,_,_,_,_,_,_,_,_,_,_,_,_,_,_,_,_,_,_,_,_,_,_,_,_,_,_,_,_,_,_,_,_,_,_,o 0,o 1,o 2,o 3,o 4,o 5,o 6,o 7,o 8,o 9,.bool true,o 11,o 12,o 13,o 14,o 15,o 16,o 17,o 18,o 19,o 20,o 21], []⟩ W
    refine wpOp_step rfl (fun K' hK => ?_)
    go_simp
    exact hK _ _ ⟨rfl, hj⟩
  · intro o W hj
    have hj : KL _ _ W := hj
    obtain ⟨cL, c0, c1⟩ := bl2 (KL.blk hj (.head _))
    show wpOp _ _ _ 16 _ ⟨#[_,_,_,_,_,_,_,_,_,_,_,_,_,_,_,_,_,_,_,_,_,_,_,_,_,_,_,_,_,_,_,_,_,_,_,_,_,_,_,_,_,_,_,_,_,_,_,_,_,_,_,_,_,_,_,_,_,_,_,_,_,_,_,_,_,_,_,_,_,_,_,_,_,_,_,_,_,_,_,o 0,o 1,o 2,o 3,o 4,o 5,o 6,o 7,o 8,o 9,.bool true,o 11,o 12,o 13,o 14,o 15,o 16,o 17,o 18,o 19,o 20,o 21], []⟩ W
    refine wpOp_step rfl (fun K' hK => ?_)
    go_simp
    exact hK _ _ ⟨rfl, hj⟩
  · intro o W hj
    have hj : KL _ _ W := hj
    obtain ⟨cL, c0, c1⟩ := bl2 (KL.blk hj (.tail _ (.tail _ (.head _))))
    show wpOp _ _ _ 17 _ ⟨#[_,_,_,_,_,_,_,_,_,_,_,_,_,_,_,_,_,_,_,_,_,_,_,_,_,_,_,_,_,_,_,_,_,_,_,_,_,_,_,_,_,_,_,_,_,_,_,_,_,_,_,_,_,_,_,_,_,_,_,_,_,_,_,_,_,_,_,_,_,_,_,_,_,_,_,_,_,_,_,o 0,o 1,o 2,o 3,o 4,o 5,o 6,o 7,o 8,o 9,.bool true,o 11,o 12,o 13,o 14,o 15,o 16,o 17,o 18,o 19,o 20,o 21], []⟩ W
    refine wpOp_step rfl (fun K' hK => ?_)
    go_simp
    exact hK _ _ ⟨rfl, hj⟩
  · intro o W hj
    have hj : KL _ _ W := hj
    show wpOp _ _ _ 18 _ ⟨#[_,_,_,_,_,_,_,_,_,_,_,_,_,_,_,_,_,_,_,_,_,_,_,_,_,_,_,_,_,_,_,_,_,_,_,_,_,_,_,_,_,_,_,_,_,_,_,_,_,_,_,_,_,_,_,_,_,_,_,_,_,_,_,_,_,_,_,_,_,_,_,_,_,_,_,_,_,_,_,o 0,o 1,o 2,o 3,o 4,o 5,o 6,o 7,o 8,o 9,.bool true,o 11,o 12,o 13,o 14,.agg #[.int .i64 cx,.int .i64 cy],.agg #[.int .i64 dx,.int .i64 dy],.agg #[.int .i64 bx,.int .i64 b_y],o 18,o 19,o 20,o 21], []⟩ W
    refine wpOp_step rfl (fun K' hK => ?_)
    go_simp
    refine (hT4 _).mono ?_
    rintro e W1 ⟨rfl, hb1⟩
    exact hK _ _ ⟨rfl, hj.over hb1⟩
  · intro o W _
    show wpOp _ _ _ 19 _ ⟨#[_,_,_,_,_,_,_,_,_,_,_,_,_,_,_,_,_,_,_,_,_,_,_,_,_,_,_,_,_,_,_,_,_,_,_,_,_,_,_,_,_,_,_,_,_,_,_,_,_,_,_,_,_,_,_,_,_,_,_,_,_,_,_,_,_,_,_,_,_,_,_,_,_,_,_,_,_,_,_,o 0,o 1,o 2,o 3,o 4,o 5,o 6,o 7,o 8,o 9,.bool true,o 11,o 12,o 13,.int .i64 s3,o 15,o 16,o 17,.int .i64 s4,o 19,o 20,o 21], []⟩ W
    refine wpOp_step rfl (fun K' hK => ?_)
    go_simp
    exact hK _ _ ⟨rfl, rfl⟩
  · intro o W _
    show wpOp _ _ _ 20 _ ⟨#[_,_,_,_,_,_,_,_,_,_,_,_,_,_,_,_,_,_,_,_,_,_,_,_,_,_,_,_,_,_,_,_,_,_,_,_,_,_,_,_,_,_,_,_,_,_,_,_,_,_,_,_,_,_,_,_,_,_,_,_,_,_,_,_,_,_,_,_,_,_,_,_,_,_,_,_,_,_,_,o 0,o 1,o 2,o 3,o 4,o 5,o 6,o 7,o 8,o 9,.bool true,o 11,o 12,o 13,o 14,o 15,o 16,o 17,o 18,.int .i64 P34,o 20,o 21], []⟩ W
    refine wpOp_step rfl (fun K' hK => ?_)
    go_simp
    exact hK _ _ ⟨rfl, rfl⟩
  · intro o W _
    show wpOp _ _ _ 21 _ ⟨#[_,_,_,_,_,_,_,_,_,_,_,_,_,_,_,_,_,_,_,_,_,_,_,_,_,_,_,_,_,_,_,_,_,_,_,_,_,_,_,_,_,_,_,_,_,_,_,_,_,_,_,_,_,_,_,_,_,_,_,_,_,_,_,_,_,_,_,_,_,_,_,_,_,_,_,_,_,_,_,o 0,o 1,o 2,o 3,o 4,o 5,o 6,o 7,o 8,o 9,.bool true,o 11,o 12,o 13,o 14,o 15,o 16,o 17,o 18,o 19,.bool false,o 21], []⟩ W
    refine wpOp_step rfl (fun K' hK => ?_)
    go_simp
    exact hK _ _ ⟨rfl, rfl⟩
  · intro o hh_
    have e0 : o 0 = .agg #[.int .i64 ax,.int .i64 ay] := hh_ 0 (by decide)
    have e1 : o 1 = .agg #[.int .i64 bx,.int .i64 b_y] := hh_ 1 (by decide)
    have e2 : o 2 = .agg #[.int .i64 cx,.int .i64 cy] := hh_ 2 (by decide)
    have e3 : o 3 = .int .i64 s1 := hh_ 3 (by decide)
    have e4 : o 4 = .agg #[.int .i64 ax,.int .i64 ay] := hh_ 4 (by decide)
    have e5 : o 5 = .agg #[.int .i64 bx,.int .i64 b_y] := hh_ 5 (by decide)
    have e6 : o 6 = .agg #[.int .i64 dx,.int .i64 dy] := hh_ 6 (by decide)
    have e7 : o 7 = .int .i64 s2 := hh_ 7 (by decide)
    have e8 : o 8 = .int .i64 P12 := hh_ 8 (by decide)
    have e9 : o 9 = .bool true := hh_ 9 (by decide)
    have e10 : o 10 = .bool true := hh_ 10 (by decide)
    have e11 : o 11 = .agg #[.int .i64 cx,.int .i64 cy] := hh_ 11 (by decide)
    have e12 : o 12 = .agg #[.int .i64 dx,.int .i64 dy] := hh_ 12 (by decide)
    have e13 : o 13 = .agg #[.int .i64 ax,.int .i64 ay] := hh_ 13 (by decide)
    have e14 : o 14 = .int .i64 s3 := hh_ 14 (by decide)
    have e15 : o 15 = .agg #[.int .i64 cx,.int .i64 cy] := hh_ 15 (by decide)
    have e16 : o 16 = .agg #[.int .i64 dx,.int .i64 dy] := hh_ 16 (by decide)
    have e17 : o 17 = .agg #[.int .i64 bx,.int .i64 b_y] := hh_ 17 (by decide)
    have e18 : o 18 = .int .i64 s4 := hh_ 18 (by decide)
    have e19 : o 19 = .int .i64 P34 := hh_ 19 (by decide)
    have e20 : o 20 = .bool false := hh_ 20 (by decide)
    have e21 : o 21 = .bool false := hh_ 21 (by decide)
    rw [e0, e1, e2, e3, e4, e5, e6, e7, e8, e9, e10, e11, e12, e13, e14, e15, e16, e17, e18, e19, e20, e21]
  · intro W9 h9
    have h9 : KL _ _ W9 := h9
    obtain ⟨eL0, e0_0, e0_1⟩ := bl2 (KL.blk h9 (.head _))
    have eF0 := (KL.blk h9 (.head _)).frozen
    obtain ⟨eL1, e1_0, e1_1⟩ := bl2 (KL.blk h9 (.tail _ (.head _)))
    have eF1 := (KL.blk h9 (.tail _ (.head _))).frozen
    obtain ⟨eL2, e2_0, e2_1⟩ := bl2 (KL.blk h9 (.tail _ (.tail _ (.head _))))
    have eF2 := (KL.blk h9 (.tail _ (.tail _ (.head _)))).frozen
    obtain ⟨eL3, e3_0, e3_1⟩ := bl2 (KL.blk h9 (.tail _ (.tail _ (.tail _ (.head _)))))
    have eF3 := (KL.blk h9 (.tail _ (.tail _ (.tail _ (.head _))))).frozen
    have hjb := h9.1
    have hjz := hjb.size
    go_wp2
    go_ret
    exact ⟨rfl, hjb⟩
set_option maxHeartbeats 16000000 in
set_option maxRecDepth 100000 in
theorem refMeet_gzn (ax ay bx b_y cx cy dx dy s1 s2 s3 s4 P12 P34 : Int) (hp : (ax == bx && ay == b_y) = false) (hq : (cx == dx && cy == dy) = false) (hT1 : ∀ w, Calls Try.prog 32 #[.agg #[.int .i64 ax, .int .i64 ay], .agg #[.int .i64 bx, .int .i64 b_y], .agg #[.int .i64 cx, .int .i64 cy]] w fun e w' => e = .returned (.int .i64 s1) ∧ Below w.heap.size w w') (hT2 : ∀ w, Calls Try.prog 32 #[.agg #[.int .i64 ax, .int .i64 ay], .agg #[.int .i64 bx, .int .i64 b_y], .agg #[.int .i64 dx, .int .i64 dy]] w fun e w' => e = .returned (.int .i64 s2) ∧ Below w.heap.size w w') (hT3 : ∀ w, Calls Try.prog 32 #[.agg #[.int .i64 cx, .int .i64 cy], .agg #[.int .i64 dx, .int .i64 dy], .agg #[.int .i64 ax, .int .i64 ay]] w fun e w' => e = .returned (.int .i64 s3) ∧ Below w.heap.size w w') (hT4 : ∀ w, Calls Try.prog 32 #[.agg #[.int .i64 cx, .int .i64 cy], .agg #[.int .i64 dx, .int .i64 dy], .agg #[.int .i64 bx, .int .i64 b_y]] w fun e w' => e = .returned (.int .i64 s4) ∧ Below w.heap.size w w') (d1 : (s1 == 0) = true) (d2 : (s2 == 0) = false) (x1 : IntKind.i64.wrap (s1 * s2) = P12) (x2 : IntKind.i64.wrap (s3 * s4) = P34) (d3 : decide (P12 ≤ 0) = true) (d4 : decide (P34 ≤ 0) = true) (w : World) :
    Calls Try.prog 35 #[.agg #[.int .i64 ax, .int .i64 ay], .agg #[.int .i64 bx, .int .i64 b_y], .agg #[.int .i64 cx, .int .i64 cy], .agg #[.int .i64 dx, .int .i64 dy]] w fun e w' => e = .returned (.int .i64 1) ∧ Below w.heap.size w w' := by
  have e1 := eqP ax ay bx b_y
  have e2 := eqP cx cy dx dy
  rw [hp] at e1
  rw [hq] at e2
  clear hp hq
  go_enter Try.func35, Try.ntmps35
  go_wp2_with (first | (go_at_call 32; (with_reducible refine (hT1 _).mono ?_); rintro e w1 ⟨rfl, hb1⟩; have hj1 : KL [((w.heap.size + 1 + 1 + 1),46,#[.int .i64 dx,.int .i64 dy]),((w.heap.size + 1 + 1),46,#[.int .i64 cx,.int .i64 cy]),((w.heap.size + 1),46,#[.int .i64 bx,.int .i64 b_y]),(w.heap.size,46,#[.int .i64 ax,.int .i64 ay])] w w1 := KL.over (KL.new (g := (w.heap.size + 1 + 1 + 1)) (KL.new (g := (w.heap.size + 1 + 1)) (KL.new (g := (w.heap.size + 1)) (KL.new (g := w.heap.size) (KL.nil w) rfl _ _) (by simp) _ _) (by simp) _ _) (by simp) _ _) hb1; obtain ⟨aL0, a0_0, a0_1⟩ := bl2 (KL.blk hj1 (.head _)); have aF0 := (KL.blk hj1 (.head _)).frozen; obtain ⟨aL1, a1_0, a1_1⟩ := bl2 (KL.blk hj1 (.tail _ (.head _))); have aF1 := (KL.blk hj1 (.tail _ (.head _))).frozen; obtain ⟨aL2, a2_0, a2_1⟩ := bl2 (KL.blk hj1 (.tail _ (.tail _ (.head _)))); have aF2 := (KL.blk hj1 (.tail _ (.tail _ (.head _)))).frozen; obtain ⟨aL3, a3_0, a3_1⟩ := bl2 (KL.blk hj1 (.tail _ (.tail _ (.tail _ (.head _))))); have aF3 := (KL.blk hj1 (.tail _ (.tail _ (.tail _ (.head _))))).frozen) | (go_at_call 32; (with_reducible refine (hT2 _).mono ?_); rintro e w2 ⟨rfl, hb2⟩; have hj2 : KL [((w.heap.size + 1 + 1 + 1),46,#[.int .i64 dx,.int .i64 dy]),((w.heap.size + 1 + 1),46,#[.int .i64 cx,.int .i64 cy]),((w.heap.size + 1),46,#[.int .i64 bx,.int .i64 b_y]),(w.heap.size,46,#[.int .i64 ax,.int .i64 ay])] w w2 := KL.over hj1 hb2; obtain ⟨bL0, b0_0, b0_1⟩ := bl2 (KL.blk hj2 (.head _)); have bF0 := (KL.blk hj2 (.head _)).frozen; obtain ⟨bL1, b1_0, b1_1⟩ := bl2 (KL.blk hj2 (.tail _ (.head _))); have bF1 := (KL.blk hj2 (.tail _ (.head _))).frozen; obtain ⟨bL2, b2_0, b2_1⟩ := bl2 (KL.blk hj2 (.tail _ (.tail _ (.head _)))); have bF2 := (KL.blk hj2 (.tail _ (.tail _ (.head _)))).frozen; obtain ⟨bL3, b3_0, b3_1⟩ := bl2 (KL.blk hj2 (.tail _ (.tail _ (.tail _ (.head _))))); have bF3 := (KL.blk hj2 (.tail _ (.tail _ (.tail _ (.head _))))).frozen))
  refine wp_region_any (by kernel_rfl) ?_
  try (change wpAny _ _ _ _ _ _ _ (World.drew _))
  refine wpAny_vals (fr := fun o => #[.agg #[.int .i64 ax,.int .i64 ay],.agg #[.int .i64 bx,.int .i64 b_y],.agg #[.int .i64 cx,.int .i64 cy],.agg #[.int .i64 dx,.int .i64 dy],.pointer (some ⟨w.heap.size, 0, none⟩),.pointer (some ⟨(w.heap.size + 1), 0, none⟩),.pointer (some ⟨(w.heap.size + 1 + 1), 0, none⟩),.pointer (some ⟨(w.heap.size + 1 + 1 + 1), 0, none⟩),.int .i64 0,undef,undef,.agg #[.int .i64 ax,.int .i64 ay],.agg #[.int .i64 bx,.int .i64 b_y],.bool false,.bool false,.agg #[.int .i64 cx,.int .i64 cy],.agg #[.int .i64 dx,.int .i64 dy],.bool false,.bool false,undef,undef,undef,undef,undef,undef,undef,undef,undef,undef,undef,undef,undef,undef,undef,undef,undef,undef,undef,undef,.agg #[.int .i64 ax,.int .i64 ay],.agg #[.int .i64 bx,.int .i64 b_y],.agg #[.int .i64 cx,.int .i64 cy],.int .i64 s1,.bool true,.bool true,.agg #[.int .i64 ax,.int .i64 ay],.agg #[.int .i64 bx,.int .i64 b_y],.agg #[.int .i64 dx,.int .i64 dy],.int .i64 s2,.bool false,.bool false,undef,undef,undef,undef,undef,undef,undef,undef,undef,undef,undef,undef,undef,undef,undef,undef,undef,undef,undef,undef,undef,undef,undef,undef,undef,undef,undef,undef,o 0,o 1,o 2,o 3,o 4,o 5,o 6,o 7,o 8,o 9,o 10,o 11,o 12,o 13,o 14,o 15,o 16,o 17,o 18,o 19,o 20,o 21]) (vals := fun i_ => ([.agg #[.int .i64 ax,.int .i64 ay],.agg #[.int .i64 bx,.int .i64 b_y],.agg #[.int .i64 cx,.int .i64 cy],.int .i64 s1,.agg #[.int .i64 ax,.int .i64 ay],.agg #[.int .i64 bx,.int .i64 b_y],.agg #[.int .i64 dx,.int .i64 dy],.int .i64 s2,.int .i64 P12,.bool true,.bool true,.agg #[.int .i64 cx,.int .i64 cy],.agg #[.int .i64 dx,.int .i64 dy],.agg #[.int .i64 ax,.int .i64 ay],.int .i64 s3,.agg #[.int .i64 cx,.int .i64 cy],.agg #[.int .i64 dx,.int .i64 dy],.agg #[.int .i64 bx,.int .i64 b_y],.int .i64 s4,.int .i64 P34,.bool true,.bool true] : List Value).getD i_ undef) (Kf := fun _ => True) (K := fun kk_ => ([(KL [((w.heap.size + 1 + 1 + 1),46,#[.int .i64 dx,.int .i64 dy]),((w.heap.size + 1 + 1),46,#[.int .i64 cx,.int .i64 cy]),((w.heap.size + 1),46,#[.int .i64 bx,.int .i64 b_y]),(w.heap.size,46,#[.int .i64 ax,.int .i64 ay])] w)] : List (World → Prop)).getD kk_ (fun _ => True)) (dep := fun i_ => [[],[],[],[0,1,2],[],[],[],[4,5,6],[3,7],[8],[9],[10],[10],[10],[10,11,12,13],[10],[10],[10],[10,15,16,17],[10,14,18],[10,19],[10,20]].getD i_ []) (dv := fun i_ => [[],[],[],[0,1,2],[],[],[],[4,5,6],[3,7],[8],[9],[10],[10],[10],[10,11,12,13],[10],[10],[10],[10,15,16,17],[10,14,18],[10,19],[10,20]].getD i_ []) (kd := fun i_ => [1,1,1,1,1,1,1,1,0,0,0,1,1,1,1,1,1,1,1,0,0,0].getD i_ 0) (ss := []) (l := [0,1,2,3,4,5,6,7,8,9,10,11,12,13,14,15,16,17,18,19,20,21]) (f0 := fun _ => undef) (A := ?A5) 22 ?_ ?_ ?_ ?_ ?_ ?_ ⟨?_, ?_, ?_, ?_, ?_, ?_, ?_, ?_, ?_, ?_, ?_, ?_, ?_, ?_, ?_, ?_, ?_, ?_, ?_, ?_, ?_, ?_, trivial⟩ ?_ ?_
  rotate_left
  · rfl
  · rfl
  · decide +kernel
  · decide +kernel
  · exact KL.drew hj2
  · exact fun _ _ _ _ => trivial
  · intro o W hj
    have hj : KL _ _ W := hj
    obtain ⟨cL, c0, c1⟩ := bl2 (KL.blk hj (.tail _ (.tail _ (.tail _ (.head _)))))
    show wpOp _ _ _ 0 _ ⟨#[_,_,_,_,_,_,_,_,_,_,_,_,_,_,_,_,_,_,_,_,_,_,_,_,_,_,_,_,_,_,_,_,_,_,_,_,_,_,_,_,_,_,_,_,_,_,_,_,_,_,_,_,_,_,_,_,_,_,_,_,_,_,_,_,_,_,_,_,_,_,_,_,_,_,_,_,_,_,_,o 0,o 1,o 2,o 3,o 4,o 5,o 6,o 7,o 8,o 9,o 10,o 11,o 12,o 13,o 14,o 15,o 16,o 17,o 18,o 19,o 20,o 21], []⟩ W
    refine wpOp_step rfl (fun K' hK => ?_)
    go_simp
    exact hK _ _ ⟨rfl, hj⟩
  · intro o W hj
    have hj : KL _ _ W := hj
    obtain ⟨cL, c0, c1⟩ := bl2 (KL.blk hj (.tail _ (.tail _ (.head _))))
    show wpOp _ _ _ 1 _ ⟨#[_,_,_,_,_,_,_,_,_,_,_,_,_,_,_,_,_,_,_,_,_,_,_,_,_,_,_,_,_,_,_,_,_,_,_,_,_,_,_,_,_,_,_,_,_,_,_,_,_,_,_,_,_,_,_,_,_,_,_,_,_,_,_,_,_,_,_,_,_,_,_,_,_,_,_,_,_,_,_,o 0,o 1,o 2,o 3,o 4,o 5,o 6,o 7,o 8,o 9,o 10,o 11,o 12,o 13,o 14,o 15,o 16,o 17,o 18,o 19,o 20,o 21], []⟩ W
    refine wpOp_step rfl (fun K' hK => ?_)
    go_simp
    exact hK _ _ ⟨rfl, hj⟩
  · intro o W hj
    have hj : KL _ _ W := hj
    obtain ⟨cL, c0, c1⟩ := bl2 (KL.blk hj (.tail _ (.head _)))
    show wpOp _ _ _ 2 _ ⟨#[_,_,_,_,_,_,_,_,_,_,_,_,_,_,_,_,_,_,_,_,_,_,_,_,_,_,_,_,_,_,_,_,_,_,_,_,_,_,_,_,_,_,_,_,_,_,_,_,_,_,_,_,_,_,_,_,_,_,_,_,_,_,_,_,_,_,_,_,_,_,_,_,_,_,_,_,_,_,_,o 0,o 1,o 2,o 3,o 4,o 5,o 6,o 7,o 8,o 9,o 10,o 11,o 12,o 13,o 14,o 15,o 16,o 17,o 18,o 19,o 20,o 21], []⟩ W
    refine wpOp_step rfl (fun K' hK => ?_)
    go_simp
    exact hK _ _ ⟨rfl, hj⟩
  · intro o W hj
    have hj : KL _ _ W := hj
    show wpOp _ _ _ 3 _ ⟨#[_,_,_,_,_,_,_,_,_,_,_,_,_,_,_,_,_,_,_,_,_,_,_,_,_,_,_,_,_,_,_,_,_,_,_,_,_,_,_,_,_,_,_,_,_,_,_,_,_,_,_,_,_,_,_,_,_,_,_,_,_,_,_,_,_,_,_,_,_,_,_,_,_,_,_,_,_,_,_,.agg #[.int .i64 ax,.int .i64 ay],.agg #[.int .i64 bx,.int .i64 b_y],.agg #[.int .i64 cx,.int .i64 cy],o 3,o 4,o 5,o 6,o 7,o 8,o 9,o 10,o 11,o 12,o 13,o 14,o 15,o 16,o 17,o 18,o 19,o 20,o 21], []⟩ W
    refine wpOp_step rfl (fun K' hK => ?_)
    go_simp
    refine (hT1 _).mono ?_
    rintro e W1 ⟨rfl, hb1⟩
    exact hK _ _ ⟨rfl, hj.over hb1⟩
  · intro o W hj
    have hj : KL _ _ W := hj
    obtain ⟨cL, c0, c1⟩ := bl2 (KL.blk hj (.tail _ (.tail _ (.tail _ (.head _)))))
    show wpOp _ _ _ 4 _ ⟨#[_,_,_,_,_,_,_,_,_,_,_,_,_,_,_,_,_,_,_,_,_,_,_,_,_,_,_,_,_,_,_,_,_,_,_,_,_,_,_,_,_,_,_,_,_,_,_,_,_,_,_,_,_,_,_,_,_,_,_,_,_,_,_,_,_,_,_,_,_,_,_,_,_,_,_,_,_,_,_,o 0,o 1,o 2,o 3,o 4,o 5,o 6,o 7,o 8,o 9,o 10,o 11,o 12,o 13,o 14,o 15,o 16,o 17,o 18,o 19,o 20,o 21], []⟩ W
    refine wpOp_step rfl (fun K' hK => ?_)
    go_simp
    exact hK _ _ ⟨rfl, hj⟩
  · intro o W hj
    have hj : KL _ _ W := hj
    obtain ⟨cL, c0, c1⟩ := bl2 (KL.blk hj (.tail _ (.tail _ (.head _))))
    show wpOp _ _ _ 5 _ ⟨#[_,_,_,_,_,_,_,_,_,_,_,_,_,_,_,_,_,_,_,_,_,_,_,_,_,_,_,_,_,_,_,_,_,_,_,_,_,_,_,_,_,_,_,_,_,_,_,_,_,_,_,_,_,_,_,_,_,_,_,_,_,_,_,_,_,_,_,_,_,_,_,_,_,_,_,_,_,_,_,o 0,o 1,o 2,o 3,o 4,o 5,o 6,o 7,o 8,o 9,o 10,o 11,o 12,o 13,o 14,o 15,o 16,o 17,o 18,o 19,o 20,o 21], []⟩ W
    refine wpOp_step rfl (fun K' hK => ?_)
    go_simp
    exact hK _ _ ⟨rfl, hj⟩
  · intro o W hj
    have hj : KL _ _ W := hj
    obtain ⟨cL, c0, c1⟩ := bl2 (KL.blk hj (.head _))
    show wpOp _ _ _ 6 _ ⟨#[_,_,_,_,_,_,_,_,_,_,_,_,_,_,_,_,_,_,_,_,_,_,_,_,_,_,_,_,_,_,_,_,_,_,_,_,_,_,_,_,_,_,_,_,_,_,_,_,_,_,_,_,_,_,_,_,_,_,_,_,_,_,_,_,_,_,_,_,_,_,_,_,_,_,_,_,_,_,_,o 0,o 1,o 2,o 3,o 4,o 5,o 6,o 7,o 8,o 9,o 10,o 11,o 12,o 13,o 14,o 15,o 16,o 17,o 18,o 19,o 20,o 21], []⟩ W
    refine wpOp_step rfl (fun K' hK => ?_)
    go_simp
    exact hK _ _ ⟨rfl, hj⟩
  · intro o W hj
    have hj : KL _ _ W := hj
    show wpOp _ _ _ 7 _ ⟨#[_,_,_,_,_,_,_,_,_,_,_,_,_,_,_,_,_,_,_,_,_,_,_,_,_,_,_,_,_,_,_,_,_,_,_,_,_,_,_,_,_,_,_,_,_,_,_,_,_,_,_,_,_,_,_,_,_,_,_,_,_,_,_,_,_,_,_,_,_,_,_,_,_,_,_,_,_,_,_,o 0,o 1,o 2,o 3,.agg #[.int .i64 ax,.int .i64 ay],.agg #[.int .i64 bx,.int .i64 b_y],.agg #[.int .i64 dx,.int .i64 dy],o 7,o 8,o 9,o 10,o 11,o 12,o 13,o 14,o 15,o 16,o 17,o 18,o 19,o 20,o 21], []⟩ W
    refine wpOp_step rfl (fun K' hK => ?_)
    go_simp
    refine (hT2 _).mono ?_
    rintro e W1 ⟨rfl, hb1⟩
    exact hK _ _ ⟨rfl, hj.over hb1⟩
  · intro o W _
    show wpOp _ _ _ 8 _ ⟨#[_,_,_,_,_,_,_,_,_,_,_,_,_,_,_,_,_,_,_,_,_,_,_,_,_,_,_,_,_,_,_,_,_,_,_,_,_,_,_,_,_,_,_,_,_,_,_,_,_,_,_,_,_,_,_,_,_,_,_,_,_,_,_,_,_,_,_,_,_,_,_,_,_,_,_,_,_,_,_,o 0,o 1,o 2,.int .i64 s1,o 4,o 5,o 6,.int .i64 s2,o 8,o 9,o 10,o 11,o 12,o 13,o 14,o 15,o 16,o 17,o 18,o 19,o 20,o 21], []⟩ W
    refine wpOp_step rfl (fun K' hK => ?_)
    go_simp
    exact hK _ _ ⟨rfl, rfl⟩
  · intro o W _
    show wpOp _ _ _ 9 _ ⟨#[_,_,_,_,_,_,_,_,_,_,_,_,_,_,_,_,_,_,_,_,_,_,_,_,_,_,_,_,_,_,_,_,_,_,_,_,_,_,_,_,_,_,_,_,_,_,_,_,_,_,_,_,_,_,_,_,_,_,_,_,_,_,_,_,_,_,_,_,_,_,_,_,_,_,_,_,_,_,_,o 0,o 1,o 2,o 3,o 4,o 5,o 6,o 7,.int .i64 P12,o 9,o 10,o 11,o 12,o 13,o 14,o 15,o 16,o 17,o 18,o 19,o 20,o 21], []⟩ W
    refine wpOp_step rfl (fun K' hK => ?_)
    go_simp
    exact hK _ _ ⟨rfl, rfl⟩
  · intro o W _
    show wpOp _ _ _ 10 _ ⟨#[_,_,_,_,_,_,_,_,_,_,_,_,_,_,_,_,_,_,_,_,_,_,_,_,_,_,_,_,_,_,_,_,_,_,_,_,_,_,_,_,_,_,_,_,_,_,_,_,_,_,_,_,_,_,_,_,_,_,_,_,_,_,_,_,_,_,_,_,_,_,_,_,_,_,_,_,_,_,_,o 0,o 1,o 2,o 3,o 4,o 5,o 6,o 7,o 8,.bool true,o 10,o 11,o 12,o 13,o 14,o 15,o 16,o 17,o 18,o 19,o 20,o 21], []⟩ W
    refine wpOp_step rfl (fun K' hK => ?_)
    go_simp
    exact hK _ _ ⟨rfl, rfl⟩
  · intro o W hj
    have hj : KL _ _ W := hj
    obtain ⟨cL, c0, c1⟩ := bl2 (KL.blk hj (.tail _ (.head _)))
    show wpOp _ _ _ 11 _ ⟨#[_,_,_,_,_,_,_,_,_,_,_,_,_,_,_,_,_,_,_,_,_,_,_,_,_,_,_,_,_,_,_,_,_,_,_,_,_,_,_,_,_,_,_,_,_,_,_,_,_,_,_,_,_,_,_,_,_,_,_,_,_,_,_,_,_,_,_,_,_,_,_,_,_,_,_,_,_,_,_,o 0,o 1,o 2,o 3,o 4,o 5,o 6,o 7,o 8,o 9,.bool true,o 11,o 12,o 13,o 14,o 15,o 16,o 17,o 18,o 19,o 20,o 21], []⟩ W
    refine wpOp_step rfl (fun K' hK => ?_)
    go_simp
    exact hK _ _ ⟨rfl, hj⟩
  · intro o W hj
    have hj : KL _ _ W := hj
    obtain ⟨cL, c0, c1⟩ := bl2 (KL.blk hj (.head _))
    show wpOp _ _ _ 12 _ ⟨#[_,_,_,_,_,_,_,_,_,_,_,_,_,_,_,_,_,_,_,_,_,_,_,_,_,_,_,_,_,_,_,_,_,_,_,_,_,_,_,_,_,_,_,_,_,_,_,_,_,_,_,_,_,_,_,_,_,_,_,_,_,_,_,_,_,_,_,_,_,_,_,_,_,_,_,_,_,_,_,o 0,o 1,o 2,o 3,o 4,o 5,o 6,o 7,o 8,o 9,.bool true,o 11,o 12,o 13,o 14,o 15,o 16,o 17,o 18,o 19,o 20,o 21], []⟩ W
    refine wpOp_step rfl (fun K' hK => ?_)
    go_simp
    exact hK _ _ ⟨rfl, hj⟩
  · intro o W hj
    have hj : KL _ _ W := hj
    obtain ⟨cL, c0, c1⟩ := bl2 (KL.blk hj (.tail _ (.tail _ (.tail _ (.head _)))))
    show wpOp _ _ _ 13 _ ⟨#[_,_,_,_,_,_,_,_,_,_,_,_,_,_,_,_,_,_,_,_,_,_,_,_,_,_,_,_,_,_,_,_,_,_,_,_,_,_,_,_,_,_,_,_,_,_,_,_,_,_,_,_,_,_,_,_,_,_,_,_,_,_,_,_,_,_,_,_,_,_,_,_,_,_,_,_,_,_,_,o 0,o 1,o 2,o 3,o 4,o 5,o 6,o 7,o 8,o 9,.bool true,o 11,o 12,o 13,o 14,o 15,o 16,o 17,o 18,o 19,o 20,o 21], []⟩ W
    refine wpOp_step rfl (fun K' hK => ?_)
    go_simp
    exact hK _ _ ⟨rfl, hj⟩
  · intro o W hj
    have hj : KL _ _ W := hj
    show wpOp _ _ _ 14 _ ⟨#[_,_,_,_,_,_,_,_,_,_,_,_,_,_,_,_,_,_,_,_,_,_,_,_,_,_,_,_,_,_,_,_,_,_,_,_,_,_,_,_,_,_,_,_,_,_,_,_,_,_,_,_,_,_,_,_,_,_,_,_,_,_,_,_,_,_,_,_,_,_,_,_,_,_,_,_,_,_,_,o 0,o 1,o 2,o 3,o 4,o 5,o 6,o 7,o 8,o 9,.bool true,.agg #[.int .i64 cx,.int .i64 cy],.agg #[.int .i64 dx,.int .i64 dy],.agg #[.int .i64 ax,.int .i64 ay],o 14,o 15,o 16,o 17,o 18,o 19,o 20,o 21], []⟩ W
    refine wpOp_step rfl (fun K' hK => ?_)
    go_simp
    refine (hT3 _).mono ?_
    rintro e W1 ⟨rfl, hb1⟩
    exact hK _ _ ⟨rfl, hj.over hb1⟩
  · intro o W hj
    have hj : KL _ _ W := hj
    obtain ⟨cL, c0, c1⟩ := bl2 (KL.blk hj (.tail _ (.head _)))
    show wpOp _ _ _ 15 _ ⟨#[_,_,_,_,_,_,_,_,_,_,_,_,_,_,_,_,_,_,_,_,_,_,_,_,_,_,_,_,_,_,_,_,_,_,_,_,_,_,_,_,_,_,_,_,_,_,_,_,_,_,_,_,_,_,_,_,_,_,_,_,_,_,_,_,_,_,_,_,_,_,_,_,_,_,_,_,_,_,_,o 0,o 1,o 2,o 3,o 4,o 5,o 6,o 7,o 8,o 9,.bool true,o 11,o 12,o 13,o 14,o 15,o 16,o 17,o 18,o 19,o 20,o 21], []⟩ W
    refine wpOp_step rfl (fun K' hK => ?_)
    go_simp
    exact hK _ _ ⟨rfl, hj⟩
  · intro o W hj
    have hj : KL _ _ W := hj
    obtain ⟨cL, c0, c1⟩ := bl2 (KL.blk hj (.head _))
    show wpOp _ _ _ 16 _ ⟨#[_,_,_,_,_,_,_,_,_,_,_,_,_,_,_,_,_,_,_,_,_,_,_,_,_,_,_,_,_,_,_,_,_,_,_,_,_,_,_,_,_,_,_,_,_,_,_,_,_,_,_,_,_,_,_,_,_,_,_,_,_,_,_,_,_,_,_,_,_,_,_,_,_,_,_,_,_,_,_,o 0,o 1,o 2,o 3,o 4,o 5,o 6,o 7,o 8,o 9,.bool true,o 11,o 12,o 13,o 14,o 15,o 16,o 17,o 18,o 19,o 20,o 21], []⟩ W
    refine wpOp_step rfl (fun K' hK => ?_)
    go_simp
    exact hK _ _ ⟨rfl, hj⟩
  · intro o W hj
    have hj : KL _ _ W := hj
    obtain ⟨cL, c0, c1⟩ := bl2 (KL.blk hj (.tail _ (.tail _ (.head _))))
    show wpOp _ _ _ 17 _ ⟨#[_,_,_,_,_,_,_,_,_,_,_,_,_,_,_,_,_,_,_,_,_,_,_,_,_,_,_,_,_,_,_,_,_,_,_,_,_,_,_,_,_,_,_,_,_,_,_,_,_,_,_,_,_,_,_,_,_,_,_,_,_,_,_,_,_,_,_,_,_,_,_,_,_,_,_,_,_,_,_,o 0,o 1,o 2,o 3,o 4,o 5,o 6,o 7,o 8,o 9,.bool true,o 11,o 12,o 13,o 14,o 15,o 16,o 17,o 18,o 19,o 20,o 21], []⟩ W
    refine wpOp_step rfl (fun K' hK => ?_)
    go_simp
    exact hK _ _ ⟨rfl, hj⟩
  · intro o W hj
    have hj : KL _ _ W := hj
    show wpOp _ _ _ 18 _ ⟨#[_,_,_,_,_,_,_,_,_,_,_,_,_,_,_,_,_,_,_,_,_,_,_,_,_,_,_,_,_,_,_,_,_,_,_,_,_,_,_,_,_,_,_,_,_,_,_,_,_,_,_,_,_,_,_,_,_,_,_,_,_,_,_,_,_,_,_,_,_,_,_,_,_,_,_,_,_,_,_,o 0,o 1,o 2,o 3,o 4,o 5,o 6,o 7,o 8,o 9,.bool true,o 11,o 12,o 13,o 14,.agg #[.int .i64 cx,.int .i64 cy],.agg #[.int .i64 dx,.int .i64 dy],.agg #[.int .i64 bx,.int .i64 b_y],o 18,o 19,o 20,o 21], []⟩ W
    refine wpOp_step rfl (fun K' hK => ?_)
    go_simp
    refine (hT4 _).mono ?_
    rintro e W1 ⟨rfl, hb1⟩
    exact hK _ _ ⟨rfl, hj.over hb1⟩
  · intro o W _
    show wpOp _ _ _ 19 _ ⟨#[_,_,_,_,_,_,_,_,_,_,_,_,_,_,_,_,_,_,_,_,_,_,_,_,_,_,_,_,_,_,_,_,_,_,_,_,_,_,_,_,_,_,_,_,_,_,_,_,_,_,_,_,_,_,_,_,_,_,_,_,_,_,_,_,_,_,_,_,_,_,_,_,_,_,_,_,_,_,_,o 0,o 1,o 2,o 3,o 4,o 5,o 6,o 7,o 8,o 9,.bool true,o 11,o 12,o 13,.int .i64 s3,o 15,o 16,o 17,.int .i64 s4,o 19,o 20,o 21], []⟩ W
    refine wpOp_step rfl (fun K' hK => ?_)
    go_simp
    exact hK _ _ ⟨rfl, rfl⟩
  · intro o W _
    show wpOp _ _ _ 20 _ ⟨#[_,_,_,_,_,_,_,_,_,_,_,_,_,_,_,_,_,_,_,_,_,_,_,_,_,_,_,_,_,_,_,_,_,_,_,_,_,_,_,_,_,_,_,_,_,_,_,_,_,_,_,_,_,_,_,_,_,_,_,_,_,_,_,_,_,_,_,_,_,_,_,_,_,_,_,_,_,_,_,o 0,o 1,o 2,o 3,o 4,o 5,o 6,o 7,o 8,o 9,.bool true,o 11,o 12,o 13,o 14,o 15,o 16,o 17,o 18,.int .i64 P34,o 20,o 21], []⟩ W
    refine wpOp_step rfl (fun K' hK => ?_)
    go_simp
    exact hK _ _ ⟨rfl, rfl⟩
  · intro o W _
    show wpOp _ _ _ 21 _ ⟨#[_,_,_,_,_,_,_,_,_,_,_,_,_,_,_,_,_,_,_,_,_,_,_,_,_,_,_,_,_,_,_,_,_,_,_,_,_,_,_,_,_,_,_,_,_,_,_,_,_,_,_,_,_,_,_,_,_,_,_,_,_,_,_,_,_,_,_,_,_,_,_,_,_,_,_,_,_,_,_,o 0,o 1,o 2,o 3,o 4,o 5,o 6,o 7,o 8,o 9,.bool true,o 11,o 12,o 13,o 14,o 15,o 16,o 17,o 18,o 19,.bool true,o 21], []⟩ W
    refine wpOp_step rfl (fun K' hK => ?_)
    go_simp
    exact hK _ _ ⟨rfl, rfl⟩
  · intro o hh_
    have e0 : o 0 = .agg #[.int .i64 ax,.int .i64 ay] := hh_ 0 (by decide)
    have e1 : o 1 = .agg #[.int .i64 bx,.int .i64 b_y] := hh_ 1 (by decide)
    have e2 : o 2 = .agg #[.int .i64 cx,.int .i64 cy] := hh_ 2 (by decide)
    have e3 : o 3 = .int .i64 s1 := hh_ 3 (by decide)
    have e4 : o 4 = .agg #[.int .i64 ax,.int .i64 ay] := hh_ 4 (by decide)
    have e5 : o 5 = .agg #[.int .i64 bx,.int .i64 b_y] := hh_ 5 (by decide)
    have e6 : o 6 = .agg #[.int .i64 dx,.int .i64 dy] := hh_ 6 (by decide)
    have e7 : o 7 = .int .i64 s2 := hh_ 7 (by decide)
    have e8 : o 8 = .int .i64 P12 := hh_ 8 (by decide)
    have e9 : o 9 = .bool true := hh_ 9 (by decide)
    have e10 : o 10 = .bool true := hh_ 10 (by decide)
    have e11 : o 11 = .agg #[.int .i64 cx,.int .i64 cy] := hh_ 11 (by decide)
    have e12 : o 12 = .agg #[.int .i64 dx,.int .i64 dy] := hh_ 12 (by decide)
    have e13 : o 13 = .agg #[.int .i64 ax,.int .i64 ay] := hh_ 13 (by decide)
    have e14 : o 14 = .int .i64 s3 := hh_ 14 (by decide)
    have e15 : o 15 = .agg #[.int .i64 cx,.int .i64 cy] := hh_ 15 (by decide)
    have e16 : o 16 = .agg #[.int .i64 dx,.int .i64 dy] := hh_ 16 (by decide)
    have e17 : o 17 = .agg #[.int .i64 bx,.int .i64 b_y] := hh_ 17 (by decide)
    have e18 : o 18 = .int .i64 s4 := hh_ 18 (by decide)
    have e19 : o 19 = .int .i64 P34 := hh_ 19 (by decide)
    have e20 : o 20 = .bool true := hh_ 20 (by decide)
    have e21 : o 21 = .bool true := hh_ 21 (by decide)
    rw [e0, e1, e2, e3, e4, e5, e6, e7, e8, e9, e10, e11, e12, e13, e14, e15, e16, e17, e18, e19, e20, e21]
  · intro W9 h9
    have h9 : KL _ _ W9 := h9
    obtain ⟨eL0, e0_0, e0_1⟩ := bl2 (KL.blk h9 (.head _))
    have eF0 := (KL.blk h9 (.head _)).frozen
    obtain ⟨eL1, e1_0, e1_1⟩ := bl2 (KL.blk h9 (.tail _ (.head _)))
    have eF1 := (KL.blk h9 (.tail _ (.head _))).frozen
    obtain ⟨eL2, e2_0, e2_1⟩ := bl2 (KL.blk h9 (.tail _ (.tail _ (.head _))))
    have eF2 := (KL.blk h9 (.tail _ (.tail _ (.head _)))).frozen
    obtain ⟨eL3, e3_0, e3_1⟩ := bl2 (KL.blk h9 (.tail _ (.tail _ (.tail _ (.head _)))))
    have eF3 := (KL.blk h9 (.tail _ (.tail _ (.tail _ (.head _))))).frozen
    have hjb := h9.1
    have hjz := hjb.size
    go_wp2
    go_ret
    exact ⟨rfl, hjb⟩
end Go.Proofs.Ythlidkmalfjmbaa
