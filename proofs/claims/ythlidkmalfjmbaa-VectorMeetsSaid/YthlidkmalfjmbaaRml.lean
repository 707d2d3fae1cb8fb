/- The walk of the reference's Meet where neither segment is a point. -/
import Derived.Test.YthlidkmalfjmbaaKls
import Derived.Test.YthlidkmalfjmbaaRdeg
namespace Go.Proofs.Ythlidkmalfjmbaa
open Go.RowKit

set_option maxHeartbeats 16000000 in
set_option maxRecDepth 100000 in
theorem refMeet_l002 (ax ay bx b_y cx cy dx dy p1x p1y p2x p2y q1x q1y q2x q2y s1 s2 : Int) (hp : (ax == bx && ay == b_y) = false) (hq : (cx == dx && cy == dy) = false) (hT1 : ∀ w, Calls Try.prog 32 #[.agg #[.int .i64 ax, .int .i64 ay], .agg #[.int .i64 bx, .int .i64 b_y], .agg #[.int .i64 cx, .int .i64 cy]] w fun e w' => e = .returned (.int .i64 s1) ∧ Below w.heap.size w w') (hT2 : ∀ w, Calls Try.prog 32 #[.agg #[.int .i64 ax, .int .i64 ay], .agg #[.int .i64 bx, .int .i64 b_y], .agg #[.int .i64 dx, .int .i64 dy]] w fun e w' => e = .returned (.int .i64 s2) ∧ Below w.heap.size w w') (z1 : s1 = 0) (z2 : s2 = 0)
    (hs1 : ∀ w, Calls Try.prog 51 #[.agg #[.int .i64 ax, .int .i64 ay], .agg #[.int .i64 bx, .int .i64 b_y]] w fun e w' => e = .returned (.tuple #[.agg #[.int .i64 p1x, .int .i64 p1y], .agg #[.int .i64 p2x, .int .i64 p2y]]) ∧ Below w.heap.size w w') (hs2 : ∀ w, Calls Try.prog 51 #[.agg #[.int .i64 cx, .int .i64 cy], .agg #[.int .i64 dx, .int .i64 dy]] w fun e w' => e = .returned (.tuple #[.agg #[.int .i64 q1x, .int .i64 q1y], .agg #[.int .i64 q2x, .int .i64 q2y]]) ∧ Below w.heap.size w w')
    (hB1 : ∀ w, Calls Try.prog 52 #[.agg #[.int .i64 p1x, .int .i64 p1y], .agg #[.int .i64 q1x, .int .i64 q1y]] w fun e w' => e = .returned (.bool false) ∧ Below w.heap.size w w') (hB2 : ∀ w, Calls Try.prog 52 #[.agg #[.int .i64 q2x, .int .i64 q2y], .agg #[.int .i64 p2x, .int .i64 p2y]] w fun e w' => e = .returned (.bool false) ∧ Below w.heap.size w w') (hB3 : ∀ w, Calls Try.prog 52 #[.agg #[.int .i64 p1x, .int .i64 p1y], .agg #[.int .i64 p2x, .int .i64 p2y]] w fun e w' => e = .returned (.bool true) ∧ Below w.heap.size w w') (w : World) :
    Calls Try.prog 35 #[.agg #[.int .i64 ax, .int .i64 ay], .agg #[.int .i64 bx, .int .i64 b_y], .agg #[.int .i64 cx, .int .i64 cy], .agg #[.int .i64 dx, .int .i64 dy]] w fun e w' => e = .returned (.int .i64 2) ∧ Below w.heap.size w w' := by
  have e1 := eqP ax ay bx b_y
  have e2 := eqP cx cy dx dy
  rw [hp] at e1
  rw [hq] at e2
  clear hp hq
  have d1 : (s1 == 0) = true := by simpa using z1
  have d2 : (s2 == 0) = true := by simpa using z2
  clear z1 z2
  
  
  
  go_enter Try.func35, Try.ntmps35
  go_wp2_with (first
    | (go_at_call 32; (with_reducible refine (hT1 _).mono ?_); rintro e w1 ⟨rfl, hb1⟩; have hj1 : KL [((w.heap.size + 1 + 1 + 1),46,#[.int .i64 dx,.int .i64 dy]),((w.heap.size + 1 + 1),46,#[.int .i64 cx,.int .i64 cy]),((w.heap.size + 1),46,#[.int .i64 bx,.int .i64 b_y]),(w.heap.size,46,#[.int .i64 ax,.int .i64 ay])] w w1 := KL.over (KL.new (g := (w.heap.size + 1 + 1 + 1)) (KL.new (g := (w.heap.size + 1 + 1)) (KL.new (g := (w.heap.size + 1)) (KL.new (g := w.heap.size) (KL.nil w) rfl _ _) (by simp) _ _) (by simp) _ _) (by simp) _ _) hb1; obtain ⟨aL0, a0_0, a0_1⟩ := bl2 (KL.blk hj1 (.head _)); have aF0 := (KL.blk hj1 (.head _)).frozen; obtain ⟨aL1, a1_0, a1_1⟩ := bl2 (KL.blk hj1 (.tail _ (.head _))); have aF1 := (KL.blk hj1 (.tail _ (.head _))).frozen; obtain ⟨aL2, a2_0, a2_1⟩ := bl2 (KL.blk hj1 (.tail _ (.tail _ (.head _)))); have aF2 := (KL.blk hj1 (.tail _ (.tail _ (.head _)))).frozen; obtain ⟨aL3, a3_0, a3_1⟩ := bl2 (KL.blk hj1 (.tail _ (.tail _ (.tail _ (.head _))))); have aF3 := (KL.blk hj1 (.tail _ (.tail _ (.tail _ (.head _))))).frozen)
    | (go_at_call 32; (with_reducible refine (hT2 _).mono ?_); rintro e w2 ⟨rfl, hb2⟩; have hj2 : KL [((w.heap.size + 1 + 1 + 1),46,#[.int .i64 dx,.int .i64 dy]),((w.heap.size + 1 + 1),46,#[.int .i64 cx,.int .i64 cy]),((w.heap.size + 1),46,#[.int .i64 bx,.int .i64 b_y]),(w.heap.size,46,#[.int .i64 ax,.int .i64 ay])] w w2 := KL.over hj1 hb2; obtain ⟨bL0, b0_0, b0_1⟩ := bl2 (KL.blk hj2 (.head _)); have bF0 := (KL.blk hj2 (.head _)).frozen; obtain ⟨bL1, b1_0, b1_1⟩ := bl2 (KL.blk hj2 (.tail _ (.head _))); have bF1 := (KL.blk hj2 (.tail _ (.head _))).frozen; obtain ⟨bL2, b2_0, b2_1⟩ := bl2 (KL.blk hj2 (.tail _ (.tail _ (.head _)))); have bF2 := (KL.blk hj2 (.tail _ (.tail _ (.head _)))).frozen; obtain ⟨bL3, b3_0, b3_1⟩ := bl2 (KL.blk hj2 (.tail _ (.tail _ (.tail _ (.head _))))); have bF3 := (KL.blk hj2 (.tail _ (.tail _ (.tail _ (.head _))))).frozen)
    | (go_at_call 51; (with_reducible refine (hs1 _).mono ?_); rintro e w3 ⟨rfl, hb3⟩; have hj3 : KL [((w.heap.size + 1 + 1 + 1),46,#[.int .i64 dx,.int .i64 dy]),((w.heap.size + 1 + 1),46,#[.int .i64 cx,.int .i64 cy]),((w.heap.size + 1),46,#[.int .i64 bx,.int .i64 b_y]),(w.heap.size,46,#[.int .i64 ax,.int .i64 ay])] w w3 := KL.over hj2 hb3; obtain ⟨cL0, c0_0, c0_1⟩ := bl2 (KL.blk hj3 (.head _)); have cF0 := (KL.blk hj3 (.head _)).frozen; obtain ⟨cL1, c1_0, c1_1⟩ := bl2 (KL.blk hj3 (.tail _ (.head _))); have cF1 := (KL.blk hj3 (.tail _ (.head _))).frozen; obtain ⟨cL2, c2_0, c2_1⟩ := bl2 (KL.blk hj3 (.tail _ (.tail _ (.head _)))); have cF2 := (KL.blk hj3 (.tail _ (.tail _ (.head _)))).frozen; obtain ⟨cL3, c3_0, c3_1⟩ := bl2 (KL.blk hj3 (.tail _ (.tail _ (.tail _ (.head _))))); have cF3 := (KL.blk hj3 (.tail _ (.tail _ (.tail _ (.head _))))).frozen)
    | (go_at_call 51; (with_reducible refine (hs2 _).mono ?_); rintro e w4 ⟨rfl, hb4⟩; have hj4 : KL [((w.heap.size + 1 + 1 + 1),46,#[.int .i64 dx,.int .i64 dy]),((w.heap.size + 1 + 1),46,#[.int .i64 cx,.int .i64 cy]),((w.heap.size + 1),46,#[.int .i64 p2x,.int .i64 p2y]),(w.heap.size,46,#[.int .i64 p1x,.int .i64 p1y])] w w4 := KL.over (KL.up2 2 (KL.up2 3 hj3 rfl (by omega) (by simp <;> omega)) rfl (by omega) (by simp <;> omega)) hb4; obtain ⟨dL0, d0_0, d0_1⟩ := bl2 (KL.blk hj4 (.head _)); have dF0 := (KL.blk hj4 (.head _)).frozen; obtain ⟨dL1, d1_0, d1_1⟩ := bl2 (KL.blk hj4 (.tail _ (.head _))); have dF1 := (KL.blk hj4 (.tail _ (.head _))).frozen; obtain ⟨dL2, d2_0, d2_1⟩ := bl2 (KL.blk hj4 (.tail _ (.tail _ (.head _)))); have dF2 := (KL.blk hj4 (.tail _ (.tail _ (.head _)))).frozen; obtain ⟨dL3, d3_0, d3_1⟩ := bl2 (KL.blk hj4 (.tail _ (.tail _ (.tail _ (.head _))))); have dF3 := (KL.blk hj4 (.tail _ (.tail _ (.tail _ (.head _))))).frozen))
  refine wp_region_any (by kernel_rfl) ?_
  try (change wpAny _ _ _ _ _ _ _ (World.drew _))
  refine wpAny_alloc (fr := fun o => #[.agg #[.int .i64 ax,.int .i64 ay], .agg #[.int .i64 bx,.int .i64 b_y], .agg #[.int .i64 cx,.int .i64 cy], .agg #[.int .i64 dx,.int .i64 dy], .pointer (some ⟨w.heap.size, 0, none⟩), .pointer (some ⟨(w.heap.size + 1), 0, none⟩), .pointer (some ⟨(w.heap.size + 1 + 1), 0, none⟩), .pointer (some ⟨(w.heap.size + 1 + 1 + 1), 0, none⟩), .int .i64 0, o 2, o 3, .agg #[.int .i64 ax,.int .i64 ay], .agg #[.int .i64 bx,.int .i64 b_y], .bool false, .bool false, .agg #[.int .i64 cx,.int .i64 cy], .agg #[.int .i64 dx,.int .i64 dy], .bool false, .bool false, undef, undef, undef, undef, undef, undef, undef, undef, undef, undef, undef, undef, undef, undef, undef, undef, undef, undef, undef, undef, .agg #[.int .i64 ax,.int .i64 ay], .agg #[.int .i64 bx,.int .i64 b_y], .agg #[.int .i64 cx,.int .i64 cy], .int .i64 s1, .bool true, .bool true, .agg #[.int .i64 ax,.int .i64 ay], .agg #[.int .i64 bx,.int .i64 b_y], .agg #[.int .i64 dx,.int .i64 dy], .int .i64 s2, .bool true, .bool true, .tuple #[.agg #[.int .i64 p1x,.int .i64 p1y],.agg #[.int .i64 p2x,.int .i64 p2y]], .agg #[.int .i64 ax,.int .i64 ay], .agg #[.int .i64 bx,.int .i64 b_y], .tuple #[.agg #[.int .i64 p1x,.int .i64 p1y],.agg #[.int .i64 p2x,.int .i64 p2y]], .agg #[.int .i64 p1x,.int .i64 p1y], .agg #[.int .i64 p2x,.int .i64 p2y], .tuple #[.agg #[.int .i64 q1x,.int .i64 q1y],.agg #[.int .i64 q2x,.int .i64 q2y]], .agg #[.int .i64 cx,.int .i64 cy], .agg #[.int .i64 dx,.int .i64 dy], .tuple #[.agg #[.int .i64 q1x,.int .i64 q1y],.agg #[.int .i64 q2x,.int .i64 q2y]], .agg #[.int .i64 q1x,.int .i64 q1y], .agg #[.int .i64 q2x,.int .i64 q2y], o 0, o 1, undef, undef, undef, undef, undef, undef, undef, undef, undef, undef, undef, undef, undef, undef, undef, undef, undef, undef, undef, undef, undef, undef, undef, undef, undef, undef, undef, undef, undef, undef, undef, undef, undef, undef, undef, undef]) (vals := fun i_ => ([.agg #[.int .i64 p1x,.int .i64 p1y], .agg #[.int .i64 p2x,.int .i64 p2y], undef, undef, undef, undef] : List Value).getD i_ undef) (K := fun W_ => KL [((w.heap.size + 1 + 1 + 1),46,#[.int .i64 q2x,.int .i64 q2y]),((w.heap.size + 1 + 1),46,#[.int .i64 q1x,.int .i64 q1y]),((w.heap.size + 1),46,#[.int .i64 p2x,.int .i64 p2y]),(w.heap.size,46,#[.int .i64 p1x,.int .i64 p1y])] w W_) (dep := fun i_ => [[], [], [], [], [0, 2, 3], [0, 1, 2, 3, 4]].getD i_ []) (dv := fun i_ => [[], [], [], [], [0], [1]].getD i_ []) (kd := fun i_ => [1, 1, 2, 2, 3, 4].getD i_ 0) (sa := fun i_ => [2, 3].getD i_ 0) (ss := [4, 5]) (al := [2, 3]) (l := [0, 1, 2, 3, 4, 5]) (f0 := fun i_ => ([undef,undef,undef,undef,undef,undef] : List Value).getD i_ undef) (B := w.heap.size + 1 + 1 + 1 + 1) (T := 46) (z := #[.int .i64 0, .int .i64 0]) (cont := fun t_ j_ => if j_ = 2 then (if 0 < t_ then #[.int .i64 p1x, .int .i64 p1y] else #[.int .i64 0, .int .i64 0]) else if j_ = 3 then (if 1 < t_ then #[.int .i64 p2x, .int .i64 p2y] else #[.int .i64 0, .int .i64 0]) else #[.int .i64 0, .int .i64 0]) (A := fun g_ => ⟨#[.agg #[.int .i64 ax,.int .i64 ay], .agg #[.int .i64 bx,.int .i64 b_y], .agg #[.int .i64 cx,.int .i64 cy], .agg #[.int .i64 dx,.int .i64 dy], .pointer (some ⟨w.heap.size, 0, none⟩), .pointer (some ⟨(w.heap.size + 1), 0, none⟩), .pointer (some ⟨(w.heap.size + 1 + 1), 0, none⟩), .pointer (some ⟨(w.heap.size + 1 + 1 + 1), 0, none⟩), .int .i64 0, ptrV (g_ 2), ptrV (g_ 3), .agg #[.int .i64 ax,.int .i64 ay], .agg #[.int .i64 bx,.int .i64 b_y], .bool false, .bool false, .agg #[.int .i64 cx,.int .i64 cy], .agg #[.int .i64 dx,.int .i64 dy], .bool false, .bool false, undef, undef, undef, undef, undef, undef, undef, undef, undef, undef, undef, undef, undef, undef, undef, undef, undef, undef, undef, undef, .agg #[.int .i64 ax,.int .i64 ay], .agg #[.int .i64 bx,.int .i64 b_y], .agg #[.int .i64 cx,.int .i64 cy], .int .i64 s1, .bool true, .bool true, .agg #[.int .i64 ax,.int .i64 ay], .agg #[.int .i64 bx,.int .i64 b_y], .agg #[.int .i64 dx,.int .i64 dy], .int .i64 s2, .bool true, .bool true, .tuple #[.agg #[.int .i64 p1x,.int .i64 p1y],.agg #[.int .i64 p2x,.int .i64 p2y]], .agg #[.int .i64 ax,.int .i64 ay], .agg #[.int .i64 bx,.int .i64 b_y], .tuple #[.agg #[.int .i64 p1x,.int .i64 p1y],.agg #[.int .i64 p2x,.int .i64 p2y]], .agg #[.int .i64 p1x,.int .i64 p1y], .agg #[.int .i64 p2x,.int .i64 p2y], .tuple #[.agg #[.int .i64 q1x,.int .i64 q1y],.agg #[.int .i64 q2x,.int .i64 q2y]], .agg #[.int .i64 cx,.int .i64 cy], .agg #[.int .i64 dx,.int .i64 dy], .tuple #[.agg #[.int .i64 q1x,.int .i64 q1y],.agg #[.int .i64 q2x,.int .i64 q2y]], .agg #[.int .i64 q1x,.int .i64 q1y], .agg #[.int .i64 q2x,.int .i64 q2y], .agg #[.int .i64 p1x,.int .i64 p1y], .agg #[.int .i64 p2x,.int .i64 p2y], undef, undef, undef, undef, undef, undef, undef, undef, undef, undef, undef, undef, undef, undef, undef, undef, undef, undef, undef, undef, undef, undef, undef, undef, undef, undef, undef, undef, undef, undef, undef, undef, undef, undef, undef, undef], []⟩) 6 rfl rfl (by decide +kernel) (by decide +kernel) ?_ ?_ ?_ ?_ (fun _ h_ => KL.alloc h_ _) ⟨?_, ?_, ?_, ?_, ?_, ?_, trivial⟩ ?_ ?_
  · exact KL.drew (KL.up2 0 (KL.up2 1 hj4 rfl (by omega) (by simp <;> omega)) rfl (by omega) (by simp <;> omega))
  · first | exact Nat.le_refl _ | (simp; done) | (simp <;> omega) | (show _ ≤ World.heap.size _; omega) | omega
  · intro j_ hj_; simp only [List.mem_cons, List.not_mem_nil, or_false] at hj_; rcases hj_ with rfl | rfl <;> rfl
  · intro t_ ht_ j_ hj_ hn_; simp only [List.mem_cons, List.not_mem_nil, or_false] at hj_; rcases hj_ with rfl | rfl <;> rcases t_ with _ | _ | _ <;> first | rfl | exact absurd rfl hn_ | exact absurd ht_ (by simp)
  · intro o W hj
    have hj : KL _ _ W := hj
    obtain ⟨cL, c0, c1⟩ := bl2 (KL.blk hj (.tail _ (.tail _ (.tail _ (.head _)))))
    show wpOp _ _ _ 0 _ ⟨#[_,_,_,_,_,_,_,_,_,o 2,o 3,_,_,_,_,_,_,_,_,_,_,_,_,_,_,_,_,_,_,_,_,_,_,_,_,_,_,_,_,_,_,_,_,_,_,_,_,_,_,_,_,_,_,_,_,_,_,_,_,_,_,_,_,o 0,o 1,_,_,_,_,_,_,_,_,_,_,_,_,_,_,_,_,_,_,_,_,_,_,_,_,_,_,_,_,_,_,_,_,_,_,_,_], []⟩ W
    refine wpOp_step rfl (fun K' hK => ?_)
    go_simp
    exact hK _ _ ⟨rfl, hj, Below.refl _ _⟩
  · intro o W hj
    have hj : KL _ _ W := hj
    obtain ⟨cL, c0, c1⟩ := bl2 (KL.blk hj (.tail _ (.tail _ (.head _))))
    show wpOp _ _ _ 1 _ ⟨#[_,_,_,_,_,_,_,_,_,o 2,o 3,_,_,_,_,_,_,_,_,_,_,_,_,_,_,_,_,_,_,_,_,_,_,_,_,_,_,_,_,_,_,_,_,_,_,_,_,_,_,_,_,_,_,_,_,_,_,_,_,_,_,_,_,o 0,o 1,_,_,_,_,_,_,_,_,_,_,_,_,_,_,_,_,_,_,_,_,_,_,_,_,_,_,_,_,_,_,_,_,_,_,_,_], []⟩ W
    refine wpOp_step rfl (fun K' hK => ?_)
    go_simp
    exact hK _ _ ⟨rfl, hj, Below.refl _ _⟩
  · intro o W
    show wpOp _ _ _ 2 _ ⟨#[_,_,_,_,_,_,_,_,_,o 2,o 3,_,_,_,_,_,_,_,_,_,_,_,_,_,_,_,_,_,_,_,_,_,_,_,_,_,_,_,_,_,_,_,_,_,_,_,_,_,_,_,_,_,_,_,_,_,_,_,_,_,_,_,_,o 0,o 1,_,_,_,_,_,_,_,_,_,_,_,_,_,_,_,_,_,_,_,_,_,_,_,_,_,_,_,_,_,_,_,_,_,_,_,_], []⟩ W
    refine wpOp_step rfl (fun K' hK => ?_)
    go_simp
    exact hK _ _ ⟨rfl, rfl⟩
  · intro o W
    show wpOp _ _ _ 3 _ ⟨#[_,_,_,_,_,_,_,_,_,o 2,o 3,_,_,_,_,_,_,_,_,_,_,_,_,_,_,_,_,_,_,_,_,_,_,_,_,_,_,_,_,_,_,_,_,_,_,_,_,_,_,_,_,_,_,_,_,_,_,_,_,_,_,_,_,o 0,o 1,_,_,_,_,_,_,_,_,_,_,_,_,_,_,_,_,_,_,_,_,_,_,_,_,_,_,_,_,_,_,_,_,_,_,_,_], []⟩ W
    refine wpOp_step rfl (fun K' hK => ?_)
    go_simp
    exact hK _ _ ⟨rfl, rfl⟩
  · intro o W g_ hj hg_ hb_
    have hj : KL _ _ W := hj
    have hb_ : Blk W g_ 46 #[.int .i64 0, .int .i64 0] := hb_
    obtain ⟨cL, c0, c1⟩ := bl2 hb_
    have cF := hb_.frozen
    show wpOp _ _ _ 4 _ ⟨#[_,_,_,_,_,_,_,_,_,.pointer (some ⟨g_, 0, none⟩),o 3,_,_,_,_,_,_,_,_,_,_,_,_,_,_,_,_,_,_,_,_,_,_,_,_,_,_,_,_,_,_,_,_,_,_,_,_,_,_,_,_,_,_,_,_,_,_,_,_,_,_,_,_,.agg #[.int .i64 p1x,.int .i64 p1y],o 1,_,_,_,_,_,_,_,_,_,_,_,_,_,_,_,_,_,_,_,_,_,_,_,_,_,_,_,_,_,_,_,_,_,_,_,_], []⟩ W
    refine wpOp_step rfl (fun K' hK => ?_)
    go_simp
    exact hK _ _ ⟨rfl, st2 hj (by omega) (by simp <;> omega) hb_⟩
  · intro o W g_ hj hg_ hb_
    have hj : KL _ _ W := hj
    have hb_ : Blk W g_ 46 #[.int .i64 0, .int .i64 0] := hb_
    obtain ⟨cL, c0, c1⟩ := bl2 hb_
    have cF := hb_.frozen
    show wpOp _ _ _ 5 _ ⟨#[_,_,_,_,_,_,_,_,_,o 2,.pointer (some ⟨g_, 0, none⟩),_,_,_,_,_,_,_,_,_,_,_,_,_,_,_,_,_,_,_,_,_,_,_,_,_,_,_,_,_,_,_,_,_,_,_,_,_,_,_,_,_,_,_,_,_,_,_,_,_,_,_,_,o 0,.agg #[.int .i64 p2x,.int .i64 p2y],_,_,_,_,_,_,_,_,_,_,_,_,_,_,_,_,_,_,_,_,_,_,_,_,_,_,_,_,_,_,_,_,_,_,_,_], []⟩ W
    refine wpOp_step rfl (fun K' hK => ?_)
    go_simp
    exact hK _ _ ⟨rfl, st2 hj (by omega) (by simp <;> omega) hb_⟩
  · intro o g_ hh_ hp_
    have e0 : o 0 = .agg #[.int .i64 p1x,.int .i64 p1y] := hh_ 0 (by decide) (by simp)
    have e1 : o 1 = .agg #[.int .i64 p2x,.int .i64 p2y] := hh_ 1 (by decide) (by simp)
    have e2 : o 2 = ptrV (g_ 2) := hp_ 2 (by simp)
    have e3 : o 3 = ptrV (g_ 3) := hp_ 3 (by simp)
    rw [e0, e1, e2, e3]
  · intro W5 g_ h5 ho_ hn_
    have h5 : KL _ _ W5 := h5
    obtain ⟨bg2, Bg2⟩ := ho_ 2 (by simp)
    have Bg2 : Blk W5 (g_ 2) 46 #[.int .i64 p1x, .int .i64 p1y] := Bg2
    obtain ⟨bg3, Bg3⟩ := ho_ 3 (by simp)
    have Bg3 : Blk W5 (g_ 3) 46 #[.int .i64 p2x, .int .i64 p2y] := Bg3
    have ng2g3 := hn_ 2 (by simp) 3 (by simp) (by decide)
    clear ho_ hn_
    dsimp only [ptrV]
    generalize g_ 2 = g2 at *
    generalize g_ 3 = g3 at *
    have h5 := KL.cons Bg2 h5
    have h5 := KL.cons Bg3 h5
    clear Bg2 Bg3
    obtain ⟨eL0, e0_0, e0_1⟩ := bl2 (KL.blk h5 (.head _))
    have eF0 := (KL.blk h5 (.head _)).frozen
    obtain ⟨eL1, e1_0, e1_1⟩ := bl2 (KL.blk h5 (.tail _ (.head _)))
    have eF1 := (KL.blk h5 (.tail _ (.head _))).frozen
    obtain ⟨eL2, e2_0, e2_1⟩ := bl2 (KL.blk h5 (.tail _ (.tail _ (.head _))))
    have eF2 := (KL.blk h5 (.tail _ (.tail _ (.head _)))).frozen
    obtain ⟨eL3, e3_0, e3_1⟩ := bl2 (KL.blk h5 (.tail _ (.tail _ (.tail _ (.head _)))))
    have eF3 := (KL.blk h5 (.tail _ (.tail _ (.tail _ (.head _))))).frozen
    obtain ⟨eL4, e4_0, e4_1⟩ := bl2 (KL.blk h5 (.tail _ (.tail _ (.tail _ (.tail _ (.head _))))))
    have eF4 := (KL.blk h5 (.tail _ (.tail _ (.tail _ (.tail _ (.head _)))))).frozen
    obtain ⟨eL5, e5_0, e5_1⟩ := bl2 (KL.blk h5 (.tail _ (.tail _ (.tail _ (.tail _ (.tail _ (.head _)))))))
    have eF5 := (KL.blk h5 (.tail _ (.tail _ (.tail _ (.tail _ (.tail _ (.head _))))))).frozen
    have hjb := h5.1
    have hjz := hjb.size
    have hnn : g2 ≠ g3 := by first | assumption | exact Ne.symm (by assumption) | omega
    go_wp2_with (first
      | (go_at_call 52; (with_reducible refine (hB1 _).mono ?_); rintro e w6 ⟨rfl, hb6⟩; have hj6 : KL [(g3,46,#[.int .i64 p2x,.int .i64 p2y]),(g2,46,#[.int .i64 p1x,.int .i64 p1y]),((w.heap.size + 1 + 1 + 1),46,#[.int .i64 q2x,.int .i64 q2y]),((w.heap.size + 1 + 1),46,#[.int .i64 q1x,.int .i64 q1y]),((w.heap.size + 1),46,#[.int .i64 p2x,.int .i64 p2y]),(w.heap.size,46,#[.int .i64 p1x,.int .i64 p1y])] w w6 := KL.over h5 hb6; obtain ⟨fL0, f0_0, f0_1⟩ := bl2 (KL.blk hj6 (.head _)); have fF0 := (KL.blk hj6 (.head _)).frozen; obtain ⟨fL1, f1_0, f1_1⟩ := bl2 (KL.blk hj6 (.tail _ (.head _))); have fF1 := (KL.blk hj6 (.tail _ (.head _))).frozen; obtain ⟨fL2, f2_0, f2_1⟩ := bl2 (KL.blk hj6 (.tail _ (.tail _ (.head _)))); have fF2 := (KL.blk hj6 (.tail _ (.tail _ (.head _)))).frozen; obtain ⟨fL3, f3_0, f3_1⟩ := bl2 (KL.blk hj6 (.tail _ (.tail _ (.tail _ (.head _))))); have fF3 := (KL.blk hj6 (.tail _ (.tail _ (.tail _ (.head _))))).frozen; obtain ⟨fL4, f4_0, f4_1⟩ := bl2 (KL.blk hj6 (.tail _ (.tail _ (.tail _ (.tail _ (.head _)))))); have fF4 := (KL.blk hj6 (.tail _ (.tail _ (.tail _ (.tail _ (.head _)))))).frozen; obtain ⟨fL5, f5_0, f5_1⟩ := bl2 (KL.blk hj6 (.tail _ (.tail _ (.tail _ (.tail _ (.tail _ (.head _))))))); have fF5 := (KL.blk hj6 (.tail _ (.tail _ (.tail _ (.tail _ (.tail _ (.head _))))))).frozen)
      | (go_at_call 52; (with_reducible refine (hB2 _).mono ?_); rintro e w7 ⟨rfl, hb7⟩; have hj7 : KL [(g3,46,#[.int .i64 p2x,.int .i64 p2y]),(g2,46,#[.int .i64 p1x,.int .i64 p1y]),((w.heap.size + 1 + 1 + 1),46,#[.int .i64 q2x,.int .i64 q2y]),((w.heap.size + 1 + 1),46,#[.int .i64 q1x,.int .i64 q1y]),((w.heap.size + 1),46,#[.int .i64 p2x,.int .i64 p2y]),(w.heap.size,46,#[.int .i64 p1x,.int .i64 p1y])] w w7 := KL.over hj6 hb7; obtain ⟨gL0, g0_0, g0_1⟩ := bl2 (KL.blk hj7 (.head _)); have gF0 := (KL.blk hj7 (.head _)).frozen; obtain ⟨gL1, g1_0, g1_1⟩ := bl2 (KL.blk hj7 (.tail _ (.head _))); have gF1 := (KL.blk hj7 (.tail _ (.head _))).frozen; obtain ⟨gL2, g2_0, g2_1⟩ := bl2 (KL.blk hj7 (.tail _ (.tail _ (.head _)))); have gF2 := (KL.blk hj7 (.tail _ (.tail _ (.head _)))).frozen; obtain ⟨gL3, g3_0, g3_1⟩ := bl2 (KL.blk hj7 (.tail _ (.tail _ (.tail _ (.head _))))); have gF3 := (KL.blk hj7 (.tail _ (.tail _ (.tail _ (.head _))))).frozen; obtain ⟨gL4, g4_0, g4_1⟩ := bl2 (KL.blk hj7 (.tail _ (.tail _ (.tail _ (.tail _ (.head _)))))); have gF4 := (KL.blk hj7 (.tail _ (.tail _ (.tail _ (.tail _ (.head _)))))).frozen; obtain ⟨gL5, g5_0, g5_1⟩ := bl2 (KL.blk hj7 (.tail _ (.tail _ (.tail _ (.tail _ (.tail _ (.head _))))))); have gF5 := (KL.blk hj7 (.tail _ (.tail _ (.tail _ (.tail _ (.tail _ (.head _))))))).frozen)
      | (go_at_call 52; (with_reducible refine (hB3 _).mono ?_); rintro e w8 ⟨rfl, hb8⟩; have hj8 : KL [(g3,46,#[.int .i64 p2x,.int .i64 p2y]),(g2,46,#[.int .i64 p1x,.int .i64 p1y]),((w.heap.size + 1 + 1 + 1),46,#[.int .i64 q2x,.int .i64 q2y]),((w.heap.size + 1 + 1),46,#[.int .i64 q1x,.int .i64 q1y]),((w.heap.size + 1),46,#[.int .i64 p2x,.int .i64 p2y]),(w.heap.size,46,#[.int .i64 p1x,.int .i64 p1y])] w w8 := KL.over hj7 hb8; obtain ⟨hL0, h0_0, h0_1⟩ := bl2 (KL.blk hj8 (.head _)); have hF0 := (KL.blk hj8 (.head _)).frozen; obtain ⟨hL1, h1_0, h1_1⟩ := bl2 (KL.blk hj8 (.tail _ (.head _))); have hF1 := (KL.blk hj8 (.tail _ (.head _))).frozen; obtain ⟨hL2, h2_0, h2_1⟩ := bl2 (KL.blk hj8 (.tail _ (.tail _ (.head _)))); have hF2 := (KL.blk hj8 (.tail _ (.tail _ (.head _)))).frozen; obtain ⟨hL3, h3_0, h3_1⟩ := bl2 (KL.blk hj8 (.tail _ (.tail _ (.tail _ (.head _))))); have hF3 := (KL.blk hj8 (.tail _ (.tail _ (.tail _ (.head _))))).frozen; obtain ⟨hL4, h4_0, h4_1⟩ := bl2 (KL.blk hj8 (.tail _ (.tail _ (.tail _ (.tail _ (.head _)))))); have hF4 := (KL.blk hj8 (.tail _ (.tail _ (.tail _ (.tail _ (.head _)))))).frozen; obtain ⟨hL5, h5_0, h5_1⟩ := bl2 (KL.blk hj8 (.tail _ (.tail _ (.tail _ (.tail _ (.tail _ (.head _))))))); have hF5 := (KL.blk hj8 (.tail _ (.tail _ (.tail _ (.tail _ (.tail _ (.head _))))))).frozen))
    go_ret
    exact ⟨rfl, hj8.1⟩
set_option maxHeartbeats 16000000 in
set_option maxRecDepth 100000 in
theorem refMeet_l001 (ax ay bx b_y cx cy dx dy p1x p1y p2x p2y q1x q1y q2x q2y s1 s2 : Int) (hp : (ax == bx && ay == b_y) = false) (hq : (cx == dx && cy == dy) = false) (hT1 : ∀ w, Calls Try.prog 32 #[.agg #[.int .i64 ax, .int .i64 ay], .agg #[.int .i64 bx, .int .i64 b_y], .agg #[.int .i64 cx, .int .i64 cy]] w fun e w' => e = .returned (.int .i64 s1) ∧ Below w.heap.size w w') (hT2 : ∀ w, Calls Try.prog 32 #[.agg #[.int .i64 ax, .int .i64 ay], .agg #[.int .i64 bx, .int .i64 b_y], .agg #[.int .i64 dx, .int .i64 dy]] w fun e w' => e = .returned (.int .i64 s2) ∧ Below w.heap.size w w') (z1 : s1 = 0) (z2 : s2 = 0)
    (hs1 : ∀ w, Calls Try.prog 51 #[.agg #[.int .i64 ax, .int .i64 ay], .agg #[.int .i64 bx, .int .i64 b_y]] w fun e w' => e = .returned (.tuple #[.agg #[.int .i64 p1x, .int .i64 p1y], .agg #[.int .i64 p2x, .int .i64 p2y]]) ∧ Below w.heap.size w w') (hs2 : ∀ w, Calls Try.prog 51 #[.agg #[.int .i64 cx, .int .i64 cy], .agg #[.int .i64 dx, .int .i64 dy]] w fun e w' => e = .returned (.tuple #[.agg #[.int .i64 q1x, .int .i64 q1y], .agg #[.int .i64 q2x, .int .i64 q2y]]) ∧ Below w.heap.size w w')
    (hB1 : ∀ w, Calls Try.prog 52 #[.agg #[.int .i64 p1x, .int .i64 p1y], .agg #[.int .i64 q1x, .int .i64 q1y]] w fun e w' => e = .returned (.bool false) ∧ Below w.heap.size w w') (hB2 : ∀ w, Calls Try.prog 52 #[.agg #[.int .i64 q2x, .int .i64 q2y], .agg #[.int .i64 p2x, .int .i64 p2y]] w fun e w' => e = .returned (.bool false) ∧ Below w.heap.size w w') (hB3 : ∀ w, Calls Try.prog 52 #[.agg #[.int .i64 p1x, .int .i64 p1y], .agg #[.int .i64 p2x, .int .i64 p2y]] w fun e w' => e = .returned (.bool false) ∧ Below w.heap.size w w') (he : (p1x == p2x && p1y == p2y) = true) (w : World) :
    Calls Try.prog 35 #[.agg #[.int .i64 ax, .int .i64 ay], .agg #[.int .i64 bx, .int .i64 b_y], .agg #[.int .i64 cx, .int .i64 cy], .agg #[.int .i64 dx, .int .i64 dy]] w fun e w' => e = .returned (.int .i64 1) ∧ Below w.heap.size w w' := by
  have e1 := eqP ax ay bx b_y
  have e2 := eqP cx cy dx dy
  rw [hp] at e1
  rw [hq] at e2
  clear hp hq
  have d1 : (s1 == 0) = true := by simpa using z1
  have d2 : (s2 == 0) = true := by simpa using z2
  clear z1 z2
  have e3 := eqP p1x p1y p2x p2y
  rw [he] at e3
  clear he
  go_enter Try.func35, Try.ntmps35
  go_wp2_with (first
    | (go_at_call 32; (with_reducible refine (hT1 _).mono ?_); rintro e w1 ⟨rfl, hb1⟩; have hj1 : KL [((w.heap.size + 1 + 1 + 1),46,#[.int .i64 dx,.int .i64 dy]),((w.heap.size + 1 + 1),46,#[.int .i64 cx,.int .i64 cy]),((w.heap.size + 1),46,#[.int .i64 bx,.int .i64 b_y]),(w.heap.size,46,#[.int .i64 ax,.int .i64 ay])] w w1 := KL.over (KL.new (g := (w.heap.size + 1 + 1 + 1)) (KL.new (g := (w.heap.size + 1 + 1)) (KL.new (g := (w.heap.size + 1)) (KL.new (g := w.heap.size) (KL.nil w) rfl _ _) (by simp) _ _) (by simp) _ _) (by simp) _ _) hb1; obtain ⟨aL0, a0_0, a0_1⟩ := bl2 (KL.blk hj1 (.head _)); have aF0 := (KL.blk hj1 (.head _)).frozen; obtain ⟨aL1, a1_0, a1_1⟩ := bl2 (KL.blk hj1 (.tail _ (.head _))); have aF1 := (KL.blk hj1 (.tail _ (.head _))).frozen; obtain ⟨aL2, a2_0, a2_1⟩ := bl2 (KL.blk hj1 (.tail _ (.tail _ (.head _)))); have aF2 := (KL.blk hj1 (.tail _ (.tail _ (.head _)))).frozen; obtain ⟨aL3, a3_0, a3_1⟩ := bl2 (KL.blk hj1 (.tail _ (.tail _ (.tail _ (.head _))))); have aF3 := (KL.blk hj1 (.tail _ (.tail _ (.tail _ (.head _))))).frozen)
    | (go_at_call 32; (with_reducible refine (hT2 _).mono ?_); rintro e w2 ⟨rfl, hb2⟩; have hj2 : KL [((w.heap.size + 1 + 1 + 1),46,#[.int .i64 dx,.int .i64 dy]),((w.heap.size + 1 + 1),46,#[.int .i64 cx,.int .i64 cy]),((w.heap.size + 1),46,#[.int .i64 bx,.int .i64 b_y]),(w.heap.size,46,#[.int .i64 ax,.int .i64 ay])] w w2 := KL.over hj1 hb2; obtain ⟨bL0, b0_0, b0_1⟩ := bl2 (KL.blk hj2 (.head _)); have bF0 := (KL.blk hj2 (.head _)).frozen; obtain ⟨bL1, b1_0, b1_1⟩ := bl2 (KL.blk hj2 (.tail _ (.head _))); have bF1 := (KL.blk hj2 (.tail _ (.head _))).frozen; obtain ⟨bL2, b2_0, b2_1⟩ := bl2 (KL.blk hj2 (.tail _ (.tail _ (.head _)))); have bF2 := (KL.blk hj2 (.tail _ (.tail _ (.head _)))).frozen; obtain ⟨bL3, b3_0, b3_1⟩ := bl2 (KL.blk hj2 (.tail _ (.tail _ (.tail _ (.head _))))); have bF3 := (KL.blk hj2 (.tail _ (.tail _ (.tail _ (.head _))))).frozen)
    | (go_at_call 51; (with_reducible refine (hs1 _).mono ?_); rintro e w3 ⟨rfl, hb3⟩; have hj3 : KL [((w.heap.size + 1 + 1 + 1),46,#[.int .i64 dx,.int .i64 dy]),((w.heap.size + 1 + 1),46,#[.int .i64 cx,.int .i64 cy]),((w.heap.size + 1),46,#[.int .i64 bx,.int .i64 b_y]),(w.heap.size,46,#[.int .i64 ax,.int .i64 ay])] w w3 := KL.over hj2 hb3; obtain ⟨cL0, c0_0, c0_1⟩ := bl2 (KL.blk hj3 (.head _)); have cF0 := (KL.blk hj3 (.head _)).frozen; obtain ⟨cL1, c1_0, c1_1⟩ := bl2 (KL.blk hj3 (.tail _ (.head _))); have cF1 := (KL.blk hj3 (.tail _ (.head _))).frozen; obtain ⟨cL2, c2_0, c2_1⟩ := bl2 (KL.blk hj3 (.tail _ (.tail _ (.head _)))); have cF2 := (KL.blk hj3 (.tail _ (.tail _ (.head _)))).frozen; obtain ⟨cL3, c3_0, c3_1⟩ := bl2 (KL.blk hj3 (.tail _ (.tail _ (.tail _ (.head _))))); have cF3 := (KL.blk hj3 (.tail _ (.tail _ (.tail _ (.head _))))).frozen)
    | (go_at_call 51; (with_reducible refine (hs2 _).mono ?_); rintro e w4 ⟨rfl, hb4⟩; have hj4 : KL [((w.heap.size + 1 + 1 + 1),46,#[.int .i64 dx,.int .i64 dy]),((w.heap.size + 1 + 1),46,#[.int .i64 cx,.int .i64 cy]),((w.heap.size + 1),46,#[.int .i64 p2x,.int .i64 p2y]),(w.heap.size,46,#[.int .i64 p1x,.int .i64 p1y])] w w4 := KL.over (KL.up2 2 (KL.up2 3 hj3 rfl (by omega) (by simp <;> omega)) rfl (by omega) (by simp <;> omega)) hb4; obtain ⟨dL0, d0_0, d0_1⟩ := bl2 (KL.blk hj4 (.head _)); have dF0 := (KL.blk hj4 (.head _)).frozen; obtain ⟨dL1, d1_0, d1_1⟩ := bl2 (KL.blk hj4 (.tail _ (.head _))); have dF1 := (KL.blk hj4 (.tail _ (.head _))).frozen; obtain ⟨dL2, d2_0, d2_1⟩ := bl2 (KL.blk hj4 (.tail _ (.tail _ (.head _)))); have dF2 := (KL.blk hj4 (.tail _ (.tail _ (.head _)))).frozen; obtain ⟨dL3, d3_0, d3_1⟩ := bl2 (KL.blk hj4 (.tail _ (.tail _ (.tail _ (.head _))))); have dF3 := (KL.blk hj4 (.tail _ (.tail _ (.tail _ (.head _))))).frozen))
  refine wp_region_any (by kernel_rfl) ?_
  try (change wpAny _ _ _ _ _ _ _ (World.drew _))
  refine wpAny_alloc (fr := fun o => #[.agg #[.int .i64 ax,.int .i64 ay], .agg #[.int .i64 bx,.int .i64 b_y], .agg #[.int .i64 cx,.int .i64 cy], .agg #[.int .i64 dx,.int .i64 dy], .pointer (some ⟨w.heap.size, 0, none⟩), .pointer (some ⟨(w.heap.size + 1), 0, none⟩), .pointer (some ⟨(w.heap.size + 1 + 1), 0, none⟩), .pointer (some ⟨(w.heap.size + 1 + 1 + 1), 0, none⟩), .int .i64 0, o 2, o 3, .agg #[.int .i64 ax,.int .i64 ay], .agg #[.int .i64 bx,.int .i64 b_y], .bool false, .bool false, .agg #[.int .i64 cx,.int .i64 cy], .agg #[.int .i64 dx,.int .i64 dy], .bool false, .bool false, undef, undef, undef, undef, undef, undef, undef, undef, undef, undef, undef, undef, undef, undef, undef, undef, undef, undef, undef, undef, .agg #[.int .i64 ax,.int .i64 ay], .agg #[.int .i64 bx,.int .i64 b_y], .agg #[.int .i64 cx,.int .i64 cy], .int .i64 s1, .bool true, .bool true, .agg #[.int .i64 ax,.int .i64 ay], .agg #[.int .i64 bx,.int .i64 b_y], .agg #[.int .i64 dx,.int .i64 dy], .int .i64 s2, .bool true, .bool true, .tuple #[.agg #[.int .i64 p1x,.int .i64 p1y],.agg #[.int .i64 p2x,.int .i64 p2y]], .agg #[.int .i64 ax,.int .i64 ay], .agg #[.int .i64 bx,.int .i64 b_y], .tuple #[.agg #[.int .i64 p1x,.int .i64 p1y],.agg #[.int .i64 p2x,.int .i64 p2y]], .agg #[.int .i64 p1x,.int .i64 p1y], .agg #[.int .i64 p2x,.int .i64 p2y], .tuple #[.agg #[.int .i64 q1x,.int .i64 q1y],.agg #[.int .i64 q2x,.int .i64 q2y]], .agg #[.int .i64 cx,.int .i64 cy], .agg #[.int .i64 dx,.int .i64 dy], .tuple #[.agg #[.int .i64 q1x,.int .i64 q1y],.agg #[.int .i64 q2x,.int .i64 q2y]], .agg #[.int .i64 q1x,.int .i64 q1y], .agg #[.int .i64 q2x,.int .i64 q2y], o 0, o 1, undef, undef, undef, undef, undef, undef, undef, undef, undef, undef, undef, undef, undef, undef, undef, undef, undef, undef, undef, undef, undef, undef, undef, undef, undef, undef, undef, undef, undef, undef, undef, undef, undef, undef, undef, undef]) (vals := fun i_ => ([.agg #[.int .i64 p1x,.int .i64 p1y], .agg #[.int .i64 p2x,.int .i64 p2y], undef, undef, undef, undef] : List Value).getD i_ undef) (K := fun W_ => KL [((w.heap.size + 1 + 1 + 1),46,#[.int .i64 q2x,.int .i64 q2y]),((w.heap.size + 1 + 1),46,#[.int .i64 q1x,.int .i64 q1y]),((w.heap.size + 1),46,#[.int .i64 p2x,.int .i64 p2y]),(w.heap.size,46,#[.int .i64 p1x,.int .i64 p1y])] w W_) (dep := fun i_ => [[], [], [], [], [0, 2, 3], [0, 1, 2, 3, 4]].getD i_ []) (dv := fun i_ => [[], [], [], [], [0], [1]].getD i_ []) (kd := fun i_ => [1, 1, 2, 2, 3, 4].getD i_ 0) (sa := fun i_ => [2, 3].getD i_ 0) (ss := [4, 5]) (al := [2, 3]) (l := [0, 1, 2, 3, 4, 5]) (f0 := fun i_ => ([undef,undef,undef,undef,undef,undef] : List Value).getD i_ undef) (B := w.heap.size + 1 + 1 + 1 + 1) (T := 46) (z := #[.int .i64 0, .int .i64 0]) (cont := fun t_ j_ => if j_ = 2 then (if 0 < t_ then #[.int .i64 p1x, .int .i64 p1y] else #[.int .i64 0, .int .i64 0]) else if j_ = 3 then (if 1 < t_ then #[.int .i64 p2x, .int .i64 p2y] else #[.int .i64 0, .int .i64 0]) else #[.int .i64 0, .int .i64 0]) (A := fun g_ => ⟨#[.agg #[.int .i64 ax,.int .i64 ay], .agg #[.int .i64 bx,.int .i64 b_y], .agg #[.int .i64 cx,.int .i64 cy], .agg #[.int .i64 dx,.int .i64 dy], .pointer (some ⟨w.heap.size, 0, none⟩), .pointer (some ⟨(w.heap.size + 1), 0, none⟩), .pointer (some ⟨(w.heap.size + 1 + 1), 0, none⟩), .pointer (some ⟨(w.heap.size + 1 + 1 + 1), 0, none⟩), .int .i64 0, ptrV (g_ 2), ptrV (g_ 3), .agg #[.int .i64 ax,.int .i64 ay], .agg #[.int .i64 bx,.int .i64 b_y], .bool false, .bool false, .agg #[.int .i64 cx,.int .i64 cy], .agg #[.int .i64 dx,.int .i64 dy], .bool false, .bool false, undef, undef, undef, undef, undef, undef, undef, undef, undef, undef, undef, undef, undef, undef, undef, undef, undef, undef, undef, undef, .agg #[.int .i64 ax,.int .i64 ay], .agg #[.int .i64 bx,.int .i64 b_y], .agg #[.int .i64 cx,.int .i64 cy], .int .i64 s1, .bool true, .bool true, .agg #[.int .i64 ax,.int .i64 ay], .agg #[.int .i64 bx,.int .i64 b_y], .agg #[.int .i64 dx,.int .i64 dy], .int .i64 s2, .bool true, .bool true, .tuple #[.agg #[.int .i64 p1x,.int .i64 p1y],.agg #[.int .i64 p2x,.int .i64 p2y]], .agg #[.int .i64 ax,.int .i64 ay], .agg #[.int .i64 bx,.int .i64 b_y], .tuple #[.agg #[.int .i64 p1x,.int .i64 p1y],.agg #[.int .i64 p2x,.int .i64 p2y]], .agg #[.int .i64 p1x,.int .i64 p1y], .agg #[.int .i64 p2x,.int .i64 p2y], .tuple #[.agg #[.int .i64 q1x,.int .i64 q1y],.agg #[.int .i64 q2x,.int .i64 q2y]], .agg #[.int .i64 cx,.int .i64 cy], .agg #[.int .i64 dx,.int .i64 dy], .tuple #[.agg #[.int .i64 q1x,.int .i64 q1y],.agg #[.int .i64 q2x,.int .i64 q2y]], .agg #[.int .i64 q1x,.int .i64 q1y], .agg #[.int .i64 q2x,.int .i64 q2y], .agg #[.int .i64 p1x,.int .i64 p1y], .agg #[.int .i64 p2x,.int .i64 p2y], undef, undef, undef, undef, undef, undef, undef, undef, undef, undef, undef, undef, undef, undef, undef, undef, undef, undef, undef, undef, undef, undef, undef, undef, undef, undef, undef, undef, undef, undef, undef, undef, undef, undef, undef, undef], []⟩) 6 rfl rfl (by decide +kernel) (by decide +kernel) ?_ ?_ ?_ ?_ (fun _ h_ => KL.alloc h_ _) ⟨?_, ?_, ?_, ?_, ?_, ?_, trivial⟩ ?_ ?_
  · exact KL.drew (KL.up2 0 (KL.up2 1 hj4 rfl (by omega) (by simp <;> omega)) rfl (by omega) (by simp <;> omega))
  · first | exact Nat.le_refl _ | (simp; done) | (simp <;> omega) | (show _ ≤ World.heap.size _; omega) | omega
  · intro j_ hj_; simp only [List.mem_cons, List.not_mem_nil, or_false] at hj_; rcases hj_ with rfl | rfl <;> rfl
  · intro t_ ht_ j_ hj_ hn_; simp only [List.mem_cons, List.not_mem_nil, or_false] at hj_; rcases hj_ with rfl | rfl <;> rcases t_ with _ | _ | _ <;> first | rfl | exact absurd rfl hn_ | exact absurd ht_ (by simp)
  · intro o W hj
    have hj : KL _ _ W := hj
    obtain ⟨cL, c0, c1⟩ := bl2 (KL.blk hj (.tail _ (.tail _ (.tail _ (.head _)))))
    show wpOp _ _ _ 0 _ ⟨#[_,_,_,_,_,_,_,_,_,o 2,o 3,_,_,_,_,_,_,_,_,_,_,_,_,_,_,_,_,_,_,_,_,_,_,_,_,_,_,_,_,_,_,_,_,_,_,_,_,_,_,_,_,_,_,_,_,_,_,_,_,_,_,_,_,o 0,o 1,_,_,_,_,_,_,_,_,_,_,_,_,_,_,_,_,_,_,_,_,_,_,_,_,_,_,_,_,_,_,_,_,_,_,_,_], []⟩ W
    refine wpOp_step rfl (fun K' hK => ?_)
    go_simp
    exact hK _ _ ⟨rfl, hj, Below.refl _ _⟩
  · intro o W hj
    have hj : KL _ _ W := hj
    obtain ⟨cL, c0, c1⟩ := bl2 (KL.blk hj (.tail _ (.tail _ (.head _))))
    show wpOp _ _ _ 1 _ ⟨#[_,_,_,_,_,_,_,_,_,o 2,o 3,_,_,_,_,_,_,_,_,_,_,_,_,_,_,_,_,_,_,_,_,_,_,_,_,_,_,_,_,_,_,_,_,_,_,_,_,_,_,_,_,_,_,_,_,_,_,_,_,_,_,_,_,o 0,o 1,_,_,_,_,_,_,_,_,_,_,_,_,_,_,_,_,_,_,_,_,_,_,_,_,_,_,_,_,_,_,_,_,_,_,_,_], []⟩ W
    refine wpOp_step rfl (fun K' hK => ?_)
    go_simp
    exact hK _ _ ⟨rfl, hj, Below.refl _ _⟩
  · intro o W
    show wpOp _ _ _ 2 _ ⟨#[_,_,_,_,_,_,_,_,_,o 2,o 3,_,_,_,_,_,_,_,_,_,_,_,_,_,_,_,_,_,_,_,_,_,_,_,_,_,_,_,_,_,_,_,_,_,_,_,_,_,_,_,_,_,_,_,_,_,_,_,_,_,_,_,_,o 0,o 1,_,_,_,_,_,_,_,_,_,_,_,_,_,_,_,_,_,_,_,_,_,_,_,_,_,_,_,_,_,_,_,_,_,_,_,_], []⟩ W
    refine wpOp_step rfl (fun K' hK => ?_)
    go_simp
    exact hK _ _ ⟨rfl, rfl⟩
  · intro o W
    show wpOp _ _ _ 3 _ ⟨#[_,_,_,_,_,_,_,_,_,o 2,o 3,_,_,_,_,_,_,_,_,_,_,_,_,_,_,_,_,_,_,_,_,_,_,_,_,_,_,_,_,_,_,_,_,_,_,_,_,_,_,_,_,_,_,_,_,_,_,_,_,_,_,_,_,o 0,o 1,_,_,_,_,_,_,_,_,_,_,_,_,_,_,_,_,_,_,_,_,_,_,_,_,_,_,_,_,_,_,_,_,_,_,_,_], []⟩ W
    refine wpOp_step rfl (fun K' hK => ?_)
    go_simp
    exact hK _ _ ⟨rfl, rfl⟩
  · intro o W g_ hj hg_ hb_
    have hj : KL _ _ W := hj
    have hb_ : Blk W g_ 46 #[.int .i64 0, .int .i64 0] := hb_
    obtain ⟨cL, c0, c1⟩ := bl2 hb_
    have cF := hb_.frozen
    show wpOp _ _ _ 4 _ ⟨#[_,_,_,_,_,_,_,_,_,.pointer (some ⟨g_, 0, none⟩),o 3,_,_,_,_,_,_,_,_,_,_,_,_,_,_,_,_,_,_,_,_,_,_,_,_,_,_,_,_,_,_,_,_,_,_,_,_,_,_,_,_,_,_,_,_,_,_,_,_,_,_,_,_,.agg #[.int .i64 p1x,.int .i64 p1y],o 1,_,_,_,_,_,_,_,_,_,_,_,_,_,_,_,_,_,_,_,_,_,_,_,_,_,_,_,_,_,_,_,_,_,_,_,_], []⟩ W
    refine wpOp_step rfl (fun K' hK => ?_)
    go_simp
    exact hK _ _ ⟨rfl, st2 hj (by omega) (by simp <;> omega) hb_⟩
  · intro o W g_ hj hg_ hb_
    have hj : KL _ _ W := hj
    have hb_ : Blk W g_ 46 #[.int .i64 0, .int .i64 0] := hb_
    obtain ⟨cL, c0, c1⟩ := bl2 hb_
    have cF := hb_.frozen
    show wpOp _ _ _ 5 _ ⟨#[_,_,_,_,_,_,_,_,_,o 2,.pointer (some ⟨g_, 0, none⟩),_,_,_,_,_,_,_,_,_,_,_,_,_,_,_,_,_,_,_,_,_,_,_,_,_,_,_,_,_,_,_,_,_,_,_,_,_,_,_,_,_,_,_,_,_,_,_,_,_,_,_,_,o 0,.agg #[.int .i64 p2x,.int .i64 p2y],_,_,_,_,_,_,_,_,_,_,_,_,_,_,_,_,_,_,_,_,_,_,_,_,_,_,_,_,_,_,_,_,_,_,_,_], []⟩ W
    refine wpOp_step rfl (fun K' hK => ?_)
    go_simp
    exact hK _ _ ⟨rfl, st2 hj (by omega) (by simp <;> omega) hb_⟩
  · intro o g_ hh_ hp_
    have e0 : o 0 = .agg #[.int .i64 p1x,.int .i64 p1y] := hh_ 0 (by decide) (by simp)
    have e1 : o 1 = .agg #[.int .i64 p2x,.int .i64 p2y] := hh_ 1 (by decide) (by simp)
    have e2 : o 2 = ptrV (g_ 2) := hp_ 2 (by simp)
    have e3 : o 3 = ptrV (g_ 3) := hp_ 3 (by simp)
    rw [e0, e1, e2, e3]
  · intro W5 g_ h5 ho_ hn_
    have h5 : KL _ _ W5 := h5
    obtain ⟨bg2, Bg2⟩ := ho_ 2 (by simp)
    have Bg2 : Blk W5 (g_ 2) 46 #[.int .i64 p1x, .int .i64 p1y] := Bg2
    obtain ⟨bg3, Bg3⟩ := ho_ 3 (by simp)
    have Bg3 : Blk W5 (g_ 3) 46 #[.int .i64 p2x, .int .i64 p2y] := Bg3
    have ng2g3 := hn_ 2 (by simp) 3 (by simp) (by decide)
    clear ho_ hn_
    dsimp only [ptrV]
    generalize g_ 2 = g2 at *
    generalize g_ 3 = g3 at *
    have h5 := KL.cons Bg2 h5
    have h5 := KL.cons Bg3 h5
    clear Bg2 Bg3
    obtain ⟨eL0, e0_0, e0_1⟩ := bl2 (KL.blk h5 (.head _))
    have eF0 := (KL.blk h5 (.head _)).frozen
    obtain ⟨eL1, e1_0, e1_1⟩ := bl2 (KL.blk h5 (.tail _ (.head _)))
    have eF1 := (KL.blk h5 (.tail _ (.head _))).frozen
    obtain ⟨eL2, e2_0, e2_1⟩ := bl2 (KL.blk h5 (.tail _ (.tail _ (.head _))))
    have eF2 := (KL.blk h5 (.tail _ (.tail _ (.head _)))).frozen
    obtain ⟨eL3, e3_0, e3_1⟩ := bl2 (KL.blk h5 (.tail _ (.tail _ (.tail _ (.head _)))))
    have eF3 := (KL.blk h5 (.tail _ (.tail _ (.tail _ (.head _))))).frozen
    obtain ⟨eL4, e4_0, e4_1⟩ := bl2 (KL.blk h5 (.tail _ (.tail _ (.tail _ (.tail _ (.head _))))))
    have eF4 := (KL.blk h5 (.tail _ (.tail _ (.tail _ (.tail _ (.head _)))))).frozen
    obtain ⟨eL5, e5_0, e5_1⟩ := bl2 (KL.blk h5 (.tail _ (.tail _ (.tail _ (.tail _ (.tail _ (.head _)))))))
    have eF5 := (KL.blk h5 (.tail _ (.tail _ (.tail _ (.tail _ (.tail _ (.head _))))))).frozen
    have hjb := h5.1
    have hjz := hjb.size
    have hnn : g2 ≠ g3 := by first | assumption | exact Ne.symm (by assumption) | omega
    go_wp2_with (first
      | (go_at_call 52; (with_reducible refine (hB1 _).mono ?_); rintro e w6 ⟨rfl, hb6⟩; have hj6 : KL [(g3,46,#[.int .i64 p2x,.int .i64 p2y]),(g2,46,#[.int .i64 p1x,.int .i64 p1y]),((w.heap.size + 1 + 1 + 1),46,#[.int .i64 q2x,.int .i64 q2y]),((w.heap.size + 1 + 1),46,#[.int .i64 q1x,.int .i64 q1y]),((w.heap.size + 1),46,#[.int .i64 p2x,.int .i64 p2y]),(w.heap.size,46,#[.int .i64 p1x,.int .i64 p1y])] w w6 := KL.over h5 hb6; obtain ⟨fL0, f0_0, f0_1⟩ := bl2 (KL.blk hj6 (.head _)); have fF0 := (KL.blk hj6 (.head _)).frozen; obtain ⟨fL1, f1_0, f1_1⟩ := bl2 (KL.blk hj6 (.tail _ (.head _))); have fF1 := (KL.blk hj6 (.tail _ (.head _))).frozen; obtain ⟨fL2, f2_0, f2_1⟩ := bl2 (KL.blk hj6 (.tail _ (.tail _ (.head _)))); have fF2 := (KL.blk hj6 (.tail _ (.tail _ (.head _)))).frozen; obtain ⟨fL3, f3_0, f3_1⟩ := bl2 (KL.blk hj6 (.tail _ (.tail _ (.tail _ (.head _))))); have fF3 := (KL.blk hj6 (.tail _ (.tail _ (.tail _ (.head _))))).frozen; obtain ⟨fL4, f4_0, f4_1⟩ := bl2 (KL.blk hj6 (.tail _ (.tail _ (.tail _ (.tail _ (.head _)))))); have fF4 := (KL.blk hj6 (.tail _ (.tail _ (.tail _ (.tail _ (.head _)))))).frozen; obtain ⟨fL5, f5_0, f5_1⟩ := bl2 (KL.blk hj6 (.tail _ (.tail _ (.tail _ (.tail _ (.tail _ (.head _))))))); have fF5 := (KL.blk hj6 (.tail _ (.tail _ (.tail _ (.tail _ (.tail _ (.head _))))))).frozen)
      | (go_at_call 52; (with_reducible refine (hB2 _).mono ?_); rintro e w7 ⟨rfl, hb7⟩; have hj7 : KL [(g3,46,#[.int .i64 p2x,.int .i64 p2y]),(g2,46,#[.int .i64 p1x,.int .i64 p1y]),((w.heap.size + 1 + 1 + 1),46,#[.int .i64 q2x,.int .i64 q2y]),((w.heap.size + 1 + 1),46,#[.int .i64 q1x,.int .i64 q1y]),((w.heap.size + 1),46,#[.int .i64 p2x,.int .i64 p2y]),(w.heap.size,46,#[.int .i64 p1x,.int .i64 p1y])] w w7 := KL.over hj6 hb7; obtain ⟨gL0, g0_0, g0_1⟩ := bl2 (KL.blk hj7 (.head _)); have gF0 := (KL.blk hj7 (.head _)).frozen; obtain ⟨gL1, g1_0, g1_1⟩ := bl2 (KL.blk hj7 (.tail _ (.head _))); have gF1 := (KL.blk hj7 (.tail _ (.head _))).frozen; obtain ⟨gL2, g2_0, g2_1⟩ := bl2 (KL.blk hj7 (.tail _ (.tail _ (.head _)))); have gF2 := (KL.blk hj7 (.tail _ (.tail _ (.head _)))).frozen; obtain ⟨gL3, g3_0, g3_1⟩ := bl2 (KL.blk hj7 (.tail _ (.tail _ (.tail _ (.head _))))); have gF3 := (KL.blk hj7 (.tail _ (.tail _ (.tail _ (.head _))))).frozen; obtain ⟨gL4, g4_0, g4_1⟩ := bl2 (KL.blk hj7 (.tail _ (.tail _ (.tail _ (.tail _ (.head _)))))); have gF4 := (KL.blk hj7 (.tail _ (.tail _ (.tail _ (.tail _ (.head _)))))).frozen; obtain ⟨gL5, g5_0, g5_1⟩ := bl2 (KL.blk hj7 (.tail _ (.tail _ (.tail _ (.tail _ (.tail _ (.head _))))))); have gF5 := (KL.blk hj7 (.tail _ (.tail _ (.tail _ (.tail _ (.tail _ (.head _))))))).frozen)
      | (go_at_call 52; (with_reducible refine (hB3 _).mono ?_); rintro e w8 ⟨rfl, hb8⟩; have hj8 : KL [(g3,46,#[.int .i64 p2x,.int .i64 p2y]),(g2,46,#[.int .i64 p1x,.int .i64 p1y]),((w.heap.size + 1 + 1 + 1),46,#[.int .i64 q2x,.int .i64 q2y]),((w.heap.size + 1 + 1),46,#[.int .i64 q1x,.int .i64 q1y]),((w.heap.size + 1),46,#[.int .i64 p2x,.int .i64 p2y]),(w.heap.size,46,#[.int .i64 p1x,.int .i64 p1y])] w w8 := KL.over hj7 hb8; obtain ⟨hL0, h0_0, h0_1⟩ := bl2 (KL.blk hj8 (.head _)); have hF0 := (KL.blk hj8 (.head _)).frozen; obtain ⟨hL1, h1_0, h1_1⟩ := bl2 (KL.blk hj8 (.tail _ (.head _))); have hF1 := (KL.blk hj8 (.tail _ (.head _))).frozen; obtain ⟨hL2, h2_0, h2_1⟩ := bl2 (KL.blk hj8 (.tail _ (.tail _ (.head _)))); have hF2 := (KL.blk hj8 (.tail _ (.tail _ (.head _)))).frozen; obtain ⟨hL3, h3_0, h3_1⟩ := bl2 (KL.blk hj8 (.tail _ (.tail _ (.tail _ (.head _))))); have hF3 := (KL.blk hj8 (.tail _ (.tail _ (.tail _ (.head _))))).frozen; obtain ⟨hL4, h4_0, h4_1⟩ := bl2 (KL.blk hj8 (.tail _ (.tail _ (.tail _ (.tail _ (.head _)))))); have hF4 := (KL.blk hj8 (.tail _ (.tail _ (.tail _ (.tail _ (.head _)))))).frozen; obtain ⟨hL5, h5_0, h5_1⟩ := bl2 (KL.blk hj8 (.tail _ (.tail _ (.tail _ (.tail _ (.tail _ (.head _))))))); have hF5 := (KL.blk hj8 (.tail _ (.tail _ (.tail _ (.tail _ (.tail _ (.head _))))))).frozen))
    go_ret
    exact ⟨rfl, hj8.1⟩
set_option maxHeartbeats 16000000 in
set_option maxRecDepth 100000 in
theorem refMeet_l000 (ax ay bx b_y cx cy dx dy p1x p1y p2x p2y q1x q1y q2x q2y s1 s2 : Int) (hp : (ax == bx && ay == b_y) = false) (hq : (cx == dx && cy == dy) = false) (hT1 : ∀ w, Calls Try.prog 32 #[.agg #[.int .i64 ax, .int .i64 ay], .agg #[.int .i64 bx, .int .i64 b_y], .agg #[.int .i64 cx, .int .i64 cy]] w fun e w' => e = .returned (.int .i64 s1) ∧ Below w.heap.size w w') (hT2 : ∀ w, Calls Try.prog 32 #[.agg #[.int .i64 ax, .int .i64 ay], .agg #[.int .i64 bx, .int .i64 b_y], .agg #[.int .i64 dx, .int .i64 dy]] w fun e w' => e = .returned (.int .i64 s2) ∧ Below w.heap.size w w') (z1 : s1 = 0) (z2 : s2 = 0)
    (hs1 : ∀ w, Calls Try.prog 51 #[.agg #[.int .i64 ax, .int .i64 ay], .agg #[.int .i64 bx, .int .i64 b_y]] w fun e w' => e = .returned (.tuple #[.agg #[.int .i64 p1x, .int .i64 p1y], .agg #[.int .i64 p2x, .int .i64 p2y]]) ∧ Below w.heap.size w w') (hs2 : ∀ w, Calls Try.prog 51 #[.agg #[.int .i64 cx, .int .i64 cy], .agg #[.int .i64 dx, .int .i64 dy]] w fun e w' => e = .returned (.tuple #[.agg #[.int .i64 q1x, .int .i64 q1y], .agg #[.int .i64 q2x, .int .i64 q2y]]) ∧ Below w.heap.size w w')
    (hB1 : ∀ w, Calls Try.prog 52 #[.agg #[.int .i64 p1x, .int .i64 p1y], .agg #[.int .i64 q1x, .int .i64 q1y]] w fun e w' => e = .returned (.bool false) ∧ Below w.heap.size w w') (hB2 : ∀ w, Calls Try.prog 52 #[.agg #[.int .i64 q2x, .int .i64 q2y], .agg #[.int .i64 p2x, .int .i64 p2y]] w fun e w' => e = .returned (.bool false) ∧ Below w.heap.size w w') (hB3 : ∀ w, Calls Try.prog 52 #[.agg #[.int .i64 p1x, .int .i64 p1y], .agg #[.int .i64 p2x, .int .i64 p2y]] w fun e w' => e = .returned (.bool false) ∧ Below w.heap.size w w') (he : (p1x == p2x && p1y == p2y) = false) (w : World) :
    Calls Try.prog 35 #[.agg #[.int .i64 ax, .int .i64 ay], .agg #[.int .i64 bx, .int .i64 b_y], .agg #[.int .i64 cx, .int .i64 cy], .agg #[.int .i64 dx, .int .i64 dy]] w fun e w' => e = .returned (.int .i64 0) ∧ Below w.heap.size w w' := by
  have e1 := eqP ax ay bx b_y
  have e2 := eqP cx cy dx dy
  rw [hp] at e1
  rw [hq] at e2
  clear hp hq
  have d1 : (s1 == 0) = true := by simpa using z1
  have d2 : (s2 == 0) = true := by simpa using z2
  clear z1 z2
  have e3 := eqP p1x p1y p2x p2y
  rw [he] at e3
  clear he
  go_enter Try.func35, Try.ntmps35
  go_wp2_with (first
    | (go_at_call 32; (with_reducible refine (hT1 _).mono ?_); rintro e w1 ⟨rfl, hb1⟩; have hj1 : KL [((w.heap.size + 1 + 1 + 1),46,#[.int .i64 dx,.int .i64 dy]),((w.heap.size + 1 + 1),46,#[.int .i64 cx,.int .i64 cy]),((w.heap.size + 1),46,#[.int .i64 bx,.int .i64 b_y]),(w.heap.size,46,#[.int .i64 ax,.int .i64 ay])] w w1 := KL.over (KL.new (g := (w.heap.size + 1 + 1 + 1)) (KL.new (g := (w.heap.size + 1 + 1)) (KL.new (g := (w.heap.size + 1)) (KL.new (g := w.heap.size) (KL.nil w) rfl _ _) (by simp) _ _) (by simp) _ _) (by simp) _ _) hb1; obtain ⟨aL0, a0_0, a0_1⟩ := bl2 (KL.blk hj1 (.head _)); have aF0 := (KL.blk hj1 (.head _)).frozen; obtain ⟨aL1, a1_0, a1_1⟩ := bl2 (KL.blk hj1 (.tail _ (.head _))); have aF1 := (KL.blk hj1 (.tail _ (.head _))).frozen; obtain ⟨aL2, a2_0, a2_1⟩ := bl2 (KL.blk hj1 (.tail _ (.tail _ (.head _)))); have aF2 := (KL.blk hj1 (.tail _ (.tail _ (.head _)))).frozen; obtain ⟨aL3, a3_0, a3_1⟩ := bl2 (KL.blk hj1 (.tail _ (.tail _ (.tail _ (.head _))))); have aF3 := (KL.blk hj1 (.tail _ (.tail _ (.tail _ (.head _))))).frozen)
    | (go_at_call 32; (with_reducible refine (hT2 _).mono ?_); rintro e w2 ⟨rfl, hb2⟩; have hj2 : KL [((w.heap.size + 1 + 1 + 1),46,#[.int .i64 dx,.int .i64 dy]),((w.heap.size + 1 + 1),46,#[.int .i64 cx,.int .i64 cy]),((w.heap.size + 1),46,#[.int .i64 bx,.int .i64 b_y]),(w.heap.size,46,#[.int .i64 ax,.int .i64 ay])] w w2 := KL.over hj1 hb2; obtain ⟨bL0, b0_0, b0_1⟩ := bl2 (KL.blk hj2 (.head _)); have bF0 := (KL.blk hj2 (.head _)).frozen; obtain ⟨bL1, b1_0, b1_1⟩ := bl2 (KL.blk hj2 (.tail _ (.head _))); have bF1 := (KL.blk hj2 (.tail _ (.head _))).frozen; obtain ⟨bL2, b2_0, b2_1⟩ := bl2 (KL.blk hj2 (.tail _ (.tail _ (.head _)))); have bF2 := (KL.blk hj2 (.tail _ (.tail _ (.head _)))).frozen; obtain ⟨bL3, b3_0, b3_1⟩ := bl2 (KL.blk hj2 (.tail _ (.tail _ (.tail _ (.head _))))); have bF3 := (KL.blk hj2 (.tail _ (.tail _ (.tail _ (.head _))))).frozen)
    | (go_at_call 51; (with_reducible refine (hs1 _).mono ?_); rintro e w3 ⟨rfl, hb3⟩; have hj3 : KL [((w.heap.size + 1 + 1 + 1),46,#[.int .i64 dx,.int .i64 dy]),((w.heap.size + 1 + 1),46,#[.int .i64 cx,.int .i64 cy]),((w.heap.size + 1),46,#[.int .i64 bx,.int .i64 b_y]),(w.heap.size,46,#[.int .i64 ax,.int .i64 ay])] w w3 := KL.over hj2 hb3; obtain ⟨cL0, c0_0, c0_1⟩ := bl2 (KL.blk hj3 (.head _)); have cF0 := (KL.blk hj3 (.head _)).frozen; obtain ⟨cL1, c1_0, c1_1⟩ := bl2 (KL.blk hj3 (.tail _ (.head _))); have cF1 := (KL.blk hj3 (.tail _ (.head _))).frozen; obtain ⟨cL2, c2_0, c2_1⟩ := bl2 (KL.blk hj3 (.tail _ (.tail _ (.head _)))); have cF2 := (KL.blk hj3 (.tail _ (.tail _ (.head _)))).frozen; obtain ⟨cL3, c3_0, c3_1⟩ := bl2 (KL.blk hj3 (.tail _ (.tail _ (.tail _ (.head _))))); have cF3 := (KL.blk hj3 (.tail _ (.tail _ (.tail _ (.head _))))).frozen)
    | (go_at_call 51; (with_reducible refine (hs2 _).mono ?_); rintro e w4 ⟨rfl, hb4⟩; have hj4 : KL [((w.heap.size + 1 + 1 + 1),46,#[.int .i64 dx,.int .i64 dy]),((w.heap.size + 1 + 1),46,#[.int .i64 cx,.int .i64 cy]),((w.heap.size + 1),46,#[.int .i64 p2x,.int .i64 p2y]),(w.heap.size,46,#[.int .i64 p1x,.int .i64 p1y])] w w4 := KL.over (KL.up2 2 (KL.up2 3 hj3 rfl (by omega) (by simp <;> omega)) rfl (by omega) (by simp <;> omega)) hb4; obtain ⟨dL0, d0_0, d0_1⟩ := bl2 (KL.blk hj4 (.head _)); have dF0 := (KL.blk hj4 (.head _)).frozen; obtain ⟨dL1, d1_0, d1_1⟩ := bl2 (KL.blk hj4 (.tail _ (.head _))); have dF1 := (KL.blk hj4 (.tail _ (.head _))).frozen; obtain ⟨dL2, d2_0, d2_1⟩ := bl2 (KL.blk hj4 (.tail _ (.tail _ (.head _)))); have dF2 := (KL.blk hj4 (.tail _ (.tail _ (.head _)))).frozen; obtain ⟨dL3, d3_0, d3_1⟩ := bl2 (KL.blk hj4 (.tail _ (.tail _ (.tail _ (.head _))))); have dF3 := (KL.blk hj4 (.tail _ (.tail _ (.tail _ (.head _))))).frozen))
  refine wp_region_any (by kernel_rfl) ?_
  try (change wpAny _ _ _ _ _ _ _ (World.drew _))
  refine wpAny_alloc (fr := fun o => #[.agg #[.int .i64 ax,.int .i64 ay], .agg #[.int .i64 bx,.int .i64 b_y], .agg #[.int .i64 cx,.int .i64 cy], .agg #[.int .i64 dx,.int .i64 dy], .pointer (some ⟨w.heap.size, 0, none⟩), .pointer (some ⟨(w.heap.size + 1), 0, none⟩), .pointer (some ⟨(w.heap.size + 1 + 1), 0, none⟩), .pointer (some ⟨(w.heap.size + 1 + 1 + 1), 0, none⟩), .int .i64 0, o 2, o 3, .agg #[.int .i64 ax,.int .i64 ay], .agg #[.int .i64 bx,.int .i64 b_y], .bool false, .bool false, .agg #[.int .i64 cx,.int .i64 cy], .agg #[.int .i64 dx,.int .i64 dy], .bool false, .bool false, undef, undef, undef, undef, undef, undef, undef, undef, undef, undef, undef, undef, undef, undef, undef, undef, undef, undef, undef, undef, .agg #[.int .i64 ax,.int .i64 ay], .agg #[.int .i64 bx,.int .i64 b_y], .agg #[.int .i64 cx,.int .i64 cy], .int .i64 s1, .bool true, .bool true, .agg #[.int .i64 ax,.int .i64 ay], .agg #[.int .i64 bx,.int .i64 b_y], .agg #[.int .i64 dx,.int .i64 dy], .int .i64 s2, .bool true, .bool true, .tuple #[.agg #[.int .i64 p1x,.int .i64 p1y],.agg #[.int .i64 p2x,.int .i64 p2y]], .agg #[.int .i64 ax,.int .i64 ay], .agg #[.int .i64 bx,.int .i64 b_y], .tuple #[.agg #[.int .i64 p1x,.int .i64 p1y],.agg #[.int .i64 p2x,.int .i64 p2y]], .agg #[.int .i64 p1x,.int .i64 p1y], .agg #[.int .i64 p2x,.int .i64 p2y], .tuple #[.agg #[.int .i64 q1x,.int .i64 q1y],.agg #[.int .i64 q2x,.int .i64 q2y]], .agg #[.int .i64 cx,.int .i64 cy], .agg #[.int .i64 dx,.int .i64 dy], .tuple #[.agg #[.int .i64 q1x,.int .i64 q1y],.agg #[.int .i64 q2x,.int .i64 q2y]], .agg #[.int .i64 q1x,.int .i64 q1y], .agg #[.int .i64 q2x,.int .i64 q2y], o 0, o 1, undef, undef, undef, undef, undef, undef, undef, undef, undef, undef, undef, undef, undef, undef, undef, undef, undef, undef, undef, undef, undef, undef, undef, undef, undef, undef, undef, undef, undef, undef, undef, undef, undef, undef, undef, undef]) (vals := fun i_ => ([.agg #[.int .i64 p1x,.int .i64 p1y], .agg #[.int .i64 p2x,.int .i64 p2y], undef, undef, undef, undef] : List Value).getD i_ undef) (K := fun W_ => KL [((w.heap.size + 1 + 1 + 1),46,#[.int .i64 q2x,.int .i64 q2y]),((w.heap.size + 1 + 1),46,#[.int .i64 q1x,.int .i64 q1y]),((w.heap.size + 1),46,#[.int .i64 p2x,.int .i64 p2y]),(w.heap.size,46,#[.int .i64 p1x,.int .i64 p1y])] w W_) (dep := fun i_ => [[], [], [], [], [0, 2, 3], [0, 1, 2, 3, 4]].getD i_ []) (dv := fun i_ => [[], [], [], [], [0], [1]].getD i_ []) (kd := fun i_ => [1, 1, 2, 2, 3, 4].getD i_ 0) (sa := fun i_ => [2, 3].getD i_ 0) (ss := [4, 5]) (al := [2, 3]) (l := [0, 1, 2, 3, 4, 5]) (f0 := fun i_ => ([undef,undef,undef,undef,undef,undef] : List Value).getD i_ undef) (B := w.heap.size + 1 + 1 + 1 + 1) (T := 46) (z := #[.int .i64 0, .int .i64 0]) (cont := fun t_ j_ => if j_ = 2 then (if 0 < t_ then #[.int .i64 p1x, .int .i64 p1y] else #[.int .i64 0, .int .i64 0]) else if j_ = 3 then (if 1 < t_ then #[.int .i64 p2x, .int .i64 p2y] else #[.int .i64 0, .int .i64 0]) else #[.int .i64 0, .int .i64 0]) (A := fun g_ => ⟨#[.agg #[.int .i64 ax,.int .i64 ay], .agg #[.int .i64 bx,.int .i64 b_y], .agg #[.int .i64 cx,.int .i64 cy], .agg #[.int .i64 dx,.int .i64 dy], .pointer (some ⟨w.heap.size, 0, none⟩), .pointer (some ⟨(w.heap.size + 1), 0, none⟩), .pointer (some ⟨(w.heap.size + 1 + 1), 0, none⟩), .pointer (some ⟨(w.heap.size + 1 + 1 + 1), 0, none⟩), .int .i64 0, ptrV (g_ 2), ptrV (g_ 3), .agg #[.int .i64 ax,.int .i64 ay], .agg #[.int .i64 bx,.int .i64 b_y], .bool false, .bool false, .agg #[.int .i64 cx,.int .i64 cy], .agg #[.int .i64 dx,.int .i64 dy], .bool false, .bool false, undef, undef, undef, undef, undef, undef, undef, undef, undef, undef, undef, undef, undef, undef, undef, undef, undef, undef, undef, undef, .agg #[.int .i64 ax,.int .i64 ay], .agg #[.int .i64 bx,.int .i64 b_y], .agg #[.int .i64 cx,.int .i64 cy], .int .i64 s1, .bool true, .bool true, .agg #[.int .i64 ax,.int .i64 ay], .agg #[.int .i64 bx,.int .i64 b_y], .agg #[.int .i64 dx,.int .i64 dy], .int .i64 s2, .bool true, .bool true, .tuple #[.agg #[.int .i64 p1x,.int .i64 p1y],.agg #[.int .i64 p2x,.int .i64 p2y]], .agg #[.int .i64 ax,.int .i64 ay], .agg #[.int .i64 bx,.int .i64 b_y], .tuple #[.agg #[.int .i64 p1x,.int .i64 p1y],.agg #[.int .i64 p2x,.int .i64 p2y]], .agg #[.int .i64 p1x,.int .i64 p1y], .agg #[.int .i64 p2x,.int .i64 p2y], .tuple #[.agg #[.int .i64 q1x,.int .i64 q1y],.agg #[.int .i64 q2x,.int .i64 q2y]], .agg #[.int .i64 cx,.int .i64 cy], .agg #[.int .i64 dx,.int .i64 dy], .tuple #[.agg #[.int .i64 q1x,.int .i64 q1y],.agg #[.int .i64 q2x,.int .i64 q2y]], .agg #[.int .i64 q1x,.int .i64 q1y], .agg #[.int .i64 q2x,.int .i64 q2y], .agg #[.int .i64 p1x,.int .i64 p1y], .agg #[.int .i64 p2x,.int .i64 p2y], undef, undef, undef, undef, undef, undef, undef, undef, undef, undef, undef, undef, undef, undef, undef, undef, undef, undef, undef, undef, undef, undef, undef, undef, undef, undef, undef, undef, undef, undef, undef, undef, undef, undef, undef, undef], []⟩) 6 rfl rfl (by decide +kernel) (by decide +kernel) ?_ ?_ ?_ ?_ (fun _ h_ => KL.alloc h_ _) ⟨?_, ?_, ?_, ?_, ?_, ?_, trivial⟩ ?_ ?_
  · exact KL.drew (KL.up2 0 (KL.up2 1 hj4 rfl (by omega) (by simp <;> omega)) rfl (by omega) (by simp <;> omega))
  · first | exact Nat.le_refl _ | (simp; done) | (simp <;> omega) | (show _ ≤ World.heap.size _; omega) | omega
  · intro j_ hj_; simp only [List.mem_cons, List.not_mem_nil, or_false] at hj_; rcases hj_ with rfl | rfl <;> rfl
  · intro t_ ht_ j_ hj_ hn_; simp only [List.mem_cons, List.not_mem_nil, or_false] at hj_; rcases hj_ with rfl | rfl <;> rcases t_ with _ | _ | _ <;> first | rfl | exact absurd rfl hn_ | exact absurd ht_ (by simp)
  · intro o W hj
    have hj : KL _ _ W := hj
    obtain ⟨cL, c0, c1⟩ := bl2 (KL.blk hj (.tail _ (.tail _ (.tail _ (.head _)))))
    show wpOp _ _ _ 0 _ ⟨#[_,_,_,_,_,_,_,_,_,o 2,o 3,_,_,_,_,_,_,_,_,_,_,_,_,_,_,_,_,_,_,_,_,_,_,_,_,_,_,_,_,_,_,_,_,_,_,_,_,_,_,_,_,_,_,_,_,_,_,_,_,_,_,_,_,o 0,o 1,_,_,_,_,_,_,_,_,_,_,_,_,_,_,_,_,_,_,_,_,_,_,_,_,_,_,_,_,_,_,_,_,_,_,_,_], []⟩ W
    refine wpOp_step rfl (fun K' hK => ?_)
    go_simp
    exact hK _ _ ⟨rfl, hj, Below.refl _ _⟩
  · intro o W hj
    have hj : KL _ _ W := hj
    obtain ⟨cL, c0, c1⟩ := bl2 (KL.blk hj (.tail _ (.tail _ (.head _))))
    show wpOp _ _ _ 1 _ ⟨#[_,_,_,_,_,_,_,_,_,o 2,o 3,_,_,_,_,_,_,_,_,_,_,_,_,_,_,_,_,_,_,_,_,_,_,_,_,_,_,_,_,_,_,_,_,_,_,_,_,_,_,_,_,_,_,_,_,_,_,_,_,_,_,_,_,o 0,o 1,_,_,_,_,_,_,_,_,_,_,_,_,_,_,_,_,_,_,_,_,_,_,_,_,_,_,_,_,_,_,_,_,_,_,_,_], []⟩ W
    refine wpOp_step rfl (fun K' hK => ?_)
    go_simp
    exact hK _ _ ⟨rfl, hj, Below.refl _ _⟩
  · intro o W
    show wpOp _ _ _ 2 _ ⟨#[_,_,_,_,_,_,_,_,_,o 2,o 3,_,_,_,_,_,_,_,_,_,_,_,_,_,_,_,_,_,_,_,_,_,_,_,_,_,_,_,_,_,_,_,_,_,_,_,_,_,_,_,_,_,_,_,_,_,_,_,_,_,_,_,_,o 0,o 1,_,_,_,_,_,_,_,_,_,_,_,_,_,_,_,_,_,_,_,_,_,_,_,_,_,_,_,_,_,_,_,_,_,_,_,_], []⟩ W
    refine wpOp_step rfl (fun K' hK => ?_)
    go_simp
    exact hK _ _ ⟨rfl, rfl⟩
  · intro o W
    show wpOp _ _ _ 3 _ ⟨#[_,_,_,_,_,_,_,_,_,o 2,o 3,_,_,_,_,_,_,_,_,_,_,_,_,_,_,_,_,_,_,_,_,_,_,_,_,_,_,_,_,_,_,_,_,_,_,_,_,_,_,_,_,_,_,_,_,_,_,_,_,_,_,_,_,o 0,o 1,_,_,_,_,_,_,_,_,_,_,_,_,_,_,_,_,_,_,_,_,_,_,_,_,_,_,_,_,_,_,_,_,_,_,_,_], []⟩ W
    refine wpOp_step rfl (fun K' hK => ?_)
    go_simp
    exact hK _ _ ⟨rfl, rfl⟩
  · intro o W g_ hj hg_ hb_
    have hj : KL _ _ W := hj
    have hb_ : Blk W g_ 46 #[.int .i64 0, .int .i64 0] := hb_
    obtain ⟨cL, c0, c1⟩ := bl2 hb_
    have cF := hb_.frozen
    show wpOp _ _ _ 4 _ ⟨#[_,_,_,_,_,_,_,_,_,.pointer (some ⟨g_, 0, none⟩),o 3,_,_,_,_,_,_,_,_,_,_,_,_,_,_,_,_,_,_,_,_,_,_,_,_,_,_,_,_,_,_,_,_,_,_,_,_,_,_,_,_,_,_,_,_,_,_,_,_,_,_,_,_,.agg #[.int .i64 p1x,.int .i64 p1y],o 1,_,_,_,_,_,_,_,_,_,_,_,_,_,_,_,_,_,_,_,_,_,_,_,_,_,_,_,_,_,_,_,_,_,_,_,_], []⟩ W
    refine wpOp_step rfl (fun K' hK => ?_)
    go_simp
    exact hK _ _ ⟨rfl, st2 hj (by omega) (by simp <;> omega) hb_⟩
  · intro o W g_ hj hg_ hb_
    have hj : KL _ _ W := hj
    have hb_ : Blk W g_ 46 #[.int .i64 0, .int .i64 0] := hb_
    obtain ⟨cL, c0, c1⟩ := bl2 hb_
    have cF := hb_.frozen
    show wpOp _ _ _ 5 _ ⟨#[_,_,_,_,_,_,_,_,_,o 2,.pointer (some ⟨g_, 0, none⟩),_,_,_,_,_,_,_,_,_,_,_,_,_,_,_,_,_,_,_,_,_,_,_,_,_,_,_,_,_,_,_,_,_,_,_,_,_,_,_,_,_,_,_,_,_,_,_,_,_,_,_,_,o 0,.agg #[.int .i64 p2x,.int .i64 p2y],_,_,_,_,_,_,_,_,_,_,_,_,_,_,_,_,_,_,_,_,_,_,_,_,_,_,_,_,_,_,_,_,_,_,_,_], []⟩ W
    refine wpOp_step rfl (fun K' hK => ?_)
    go_simp
    exact hK _ _ ⟨rfl, st2 hj (by omega) (by simp <;> omega) hb_⟩
  · intro o g_ hh_ hp_
    have e0 : o 0 = .agg #[.int .i64 p1x,.int .i64 p1y] := hh_ 0 (by decide) (by simp)
    have e1 : o 1 = .agg #[.int .i64 p2x,.int .i64 p2y] := hh_ 1 (by decide) (by simp)
    have e2 : o 2 = ptrV (g_ 2) := hp_ 2 (by simp)
    have e3 : o 3 = ptrV (g_ 3) := hp_ 3 (by simp)
    rw [e0, e1, e2, e3]
  · intro W5 g_ h5 ho_ hn_
    have h5 : KL _ _ W5 := h5
    obtain ⟨bg2, Bg2⟩ := ho_ 2 (by simp)
    have Bg2 : Blk W5 (g_ 2) 46 #[.int .i64 p1x, .int .i64 p1y] := Bg2
    obtain ⟨bg3, Bg3⟩ := ho_ 3 (by simp)
    have Bg3 : Blk W5 (g_ 3) 46 #[.int .i64 p2x, .int .i64 p2y] := Bg3
    have ng2g3 := hn_ 2 (by simp) 3 (by simp) (by decide)
    clear ho_ hn_
    dsimp only [ptrV]
    generalize g_ 2 = g2 at *
    generalize g_ 3 = g3 at *
    have h5 := KL.cons Bg2 h5
    have h5 := KL.cons Bg3 h5
    clear Bg2 Bg3
    obtain ⟨eL0, e0_0, e0_1⟩ := bl2 (KL.blk h5 (.head _))
    have eF0 := (KL.blk h5 (.head _)).frozen
    obtain ⟨eL1, e1_0, e1_1⟩ := bl2 (KL.blk h5 (.tail _ (.head _)))
    have eF1 := (KL.blk h5 (.tail _ (.head _))).frozen
    obtain ⟨eL2, e2_0, e2_1⟩ := bl2 (KL.blk h5 (.tail _ (.tail _ (.head _))))
    have eF2 := (KL.blk h5 (.tail _ (.tail _ (.head _)))).frozen
    obtain ⟨eL3, e3_0, e3_1⟩ := bl2 (KL.blk h5 (.tail _ (.tail _ (.tail _ (.head _)))))
    have eF3 := (KL.blk h5 (.tail _ (.tail _ (.tail _ (.head _))))).frozen
    obtain ⟨eL4, e4_0, e4_1⟩ := bl2 (KL.blk h5 (.tail _ (.tail _ (.tail _ (.tail _ (.head _))))))
    have eF4 := (KL.blk h5 (.tail _ (.tail _ (.tail _ (.tail _ (.head _)))))).frozen
    obtain ⟨eL5, e5_0, e5_1⟩ := bl2 (KL.blk h5 (.tail _ (.tail _ (.tail _ (.tail _ (.tail _ (.head _)))))))
    have eF5 := (KL.blk h5 (.tail _ (.tail _ (.tail _ (.tail _ (.tail _ (.head _))))))).frozen
    have hjb := h5.1
    have hjz := hjb.size
    have hnn : g2 ≠ g3 := by first | assumption | exact Ne.symm (by assumption) | omega
    go_wp2_with (first
      | (go_at_call 52; (with_reducible refine (hB1 _).mono ?_); rintro e w6 ⟨rfl, hb6⟩; have hj6 : KL [(g3,46,#[.int .i64 p2x,.int .i64 p2y]),(g2,46,#[.int .i64 p1x,.int .i64 p1y]),((w.heap.size + 1 + 1 + 1),46,#[.int .i64 q2x,.int .i64 q2y]),((w.heap.size + 1 + 1),46,#[.int .i64 q1x,.int .i64 q1y]),((w.heap.size + 1),46,#[.int .i64 p2x,.int .i64 p2y]),(w.heap.size,46,#[.int .i64 p1x,.int .i64 p1y])] w w6 := KL.over h5 hb6; obtain ⟨fL0, f0_0, f0_1⟩ := bl2 (KL.blk hj6 (.head _)); have fF0 := (KL.blk hj6 (.head _)).frozen; obtain ⟨fL1, f1_0, f1_1⟩ := bl2 (KL.blk hj6 (.tail _ (.head _))); have fF1 := (KL.blk hj6 (.tail _ (.head _))).frozen; obtain ⟨fL2, f2_0, f2_1⟩ := bl2 (KL.blk hj6 (.tail _ (.tail _ (.head _)))); have fF2 := (KL.blk hj6 (.tail _ (.tail _ (.head _)))).frozen; obtain ⟨fL3, f3_0, f3_1⟩ := bl2 (KL.blk hj6 (.tail _ (.tail _ (.tail _ (.head _))))); have fF3 := (KL.blk hj6 (.tail _ (.tail _ (.tail _ (.head _))))).frozen; obtain ⟨fL4, f4_0, f4_1⟩ := bl2 (KL.blk hj6 (.tail _ (.tail _ (.tail _ (.tail _ (.head _)))))); have fF4 := (KL.blk hj6 (.tail _ (.tail _ (.tail _ (.tail _ (.head _)))))).frozen; obtain ⟨fL5, f5_0, f5_1⟩ := bl2 (KL.blk hj6 (.tail _ (.tail _ (.tail _ (.tail _ (.tail _ (.head _))))))); have fF5 := (KL.blk hj6 (.tail _ (.tail _ (.tail _ (.tail _ (.tail _ (.head _))))))).frozen)
      | (go_at_call 52; (with_reducible refine (hB2 _).mono ?_); rintro e w7 ⟨rfl, hb7⟩; have hj7 : KL [(g3,46,#[.int .i64 p2x,.int .i64 p2y]),(g2,46,#[.int .i64 p1x,.int .i64 p1y]),((w.heap.size + 1 + 1 + 1),46,#[.int .i64 q2x,.int .i64 q2y]),((w.heap.size + 1 + 1),46,#[.int .i64 q1x,.int .i64 q1y]),((w.heap.size + 1),46,#[.int .i64 p2x,.int .i64 p2y]),(w.heap.size,46,#[.int .i64 p1x,.int .i64 p1y])] w w7 := KL.over hj6 hb7; obtain ⟨gL0, g0_0, g0_1⟩ := bl2 (KL.blk hj7 (.head _)); have gF0 := (KL.blk hj7 (.head _)).frozen; obtain ⟨gL1, g1_0, g1_1⟩ := bl2 (KL.blk hj7 (.tail _ (.head _))); have gF1 := (KL.blk hj7 (.tail _ (.head _))).frozen; obtain ⟨gL2, g2_0, g2_1⟩ := bl2 (KL.blk hj7 (.tail _ (.tail _ (.head _)))); have gF2 := (KL.blk hj7 (.tail _ (.tail _ (.head _)))).frozen; obtain ⟨gL3, g3_0, g3_1⟩ := bl2 (KL.blk hj7 (.tail _ (.tail _ (.tail _ (.head _))))); have gF3 := (KL.blk hj7 (.tail _ (.tail _ (.tail _ (.head _))))).frozen; obtain ⟨gL4, g4_0, g4_1⟩ := bl2 (KL.blk hj7 (.tail _ (.tail _ (.tail _ (.tail _ (.head _)))))); have gF4 := (KL.blk hj7 (.tail _ (.tail _ (.tail _ (.tail _ (.head _)))))).frozen; obtain ⟨gL5, g5_0, g5_1⟩ := bl2 (KL.blk hj7 (.tail _ (.tail _ (.tail _ (.tail _ (.tail _ (.head _))))))); have gF5 := (KL.blk hj7 (.tail _ (.tail _ (.tail _ (.tail _ (.tail _ (.head _))))))).frozen)
      | (go_at_call 52; (with_reducible refine (hB3 _).mono ?_); rintro e w8 ⟨rfl, hb8⟩; have hj8 : KL [(g3,46,#[.int .i64 p2x,.int .i64 p2y]),(g2,46,#[.int .i64 p1x,.int .i64 p1y]),((w.heap.size + 1 + 1 + 1),46,#[.int .i64 q2x,.int .i64 q2y]),((w.heap.size + 1 + 1),46,#[.int .i64 q1x,.int .i64 q1y]),((w.heap.size + 1),46,#[.int .i64 p2x,.int .i64 p2y]),(w.heap.size,46,#[.int .i64 p1x,.int .i64 p1y])] w w8 := KL.over hj7 hb8; obtain ⟨hL0, h0_0, h0_1⟩ := bl2 (KL.blk hj8 (.head _)); have hF0 := (KL.blk hj8 (.head _)).frozen; obtain ⟨hL1, h1_0, h1_1⟩ := bl2 (KL.blk hj8 (.tail _ (.head _))); have hF1 := (KL.blk hj8 (.tail _ (.head _))).frozen; obtain ⟨hL2, h2_0, h2_1⟩ := bl2 (KL.blk hj8 (.tail _ (.tail _ (.head _)))); have hF2 := (KL.blk hj8 (.tail _ (.tail _ (.head _)))).frozen; obtain ⟨hL3, h3_0, h3_1⟩ := bl2 (KL.blk hj8 (.tail _ (.tail _ (.tail _ (.head _))))); have hF3 := (KL.blk hj8 (.tail _ (.tail _ (.tail _ (.head _))))).frozen; obtain ⟨hL4, h4_0, h4_1⟩ := bl2 (KL.blk hj8 (.tail _ (.tail _ (.tail _ (.tail _ (.head _)))))); have hF4 := (KL.blk hj8 (.tail _ (.tail _ (.tail _ (.tail _ (.head _)))))).frozen; obtain ⟨hL5, h5_0, h5_1⟩ := bl2 (KL.blk hj8 (.tail _ (.tail _ (.tail _ (.tail _ (.tail _ (.head _))))))); have hF5 := (KL.blk hj8 (.tail _ (.tail _ (.tail _ (.tail _ (.tail _ (.head _))))))).frozen))
    go_ret
    exact ⟨rfl, hj8.1⟩
set_option maxHeartbeats 16000000 in
set_option maxRecDepth 100000 in
theorem refMeet_l012 (ax ay bx b_y cx cy dx dy p1x p1y p2x p2y q1x q1y q2x q2y s1 s2 : Int) (hp : (ax == bx && ay == b_y) = false) (hq : (cx == dx && cy == dy) = false) (hT1 : ∀ w, Calls Try.prog 32 #[.agg #[.int .i64 ax, .int .i64 ay], .agg #[.int .i64 bx, .int .i64 b_y], .agg #[.int .i64 cx, .int .i64 cy]] w fun e w' => e = .returned (.int .i64 s1) ∧ Below w.heap.size w w') (hT2 : ∀ w, Calls Try.prog 32 #[.agg #[.int .i64 ax, .int .i64 ay], .agg #[.int .i64 bx, .int .i64 b_y], .agg #[.int .i64 dx, .int .i64 dy]] w fun e w' => e = .returned (.int .i64 s2) ∧ Below w.heap.size w w') (z1 : s1 = 0) (z2 : s2 = 0)
    (hs1 : ∀ w, Calls Try.prog 51 #[.agg #[.int .i64 ax, .int .i64 ay], .agg #[.int .i64 bx, .int .i64 b_y]] w fun e w' => e = .returned (.tuple #[.agg #[.int .i64 p1x, .int .i64 p1y], .agg #[.int .i64 p2x, .int .i64 p2y]]) ∧ Below w.heap.size w w') (hs2 : ∀ w, Calls Try.prog 51 #[.agg #[.int .i64 cx, .int .i64 cy], .agg #[.int .i64 dx, .int .i64 dy]] w fun e w' => e = .returned (.tuple #[.agg #[.int .i64 q1x, .int .i64 q1y], .agg #[.int .i64 q2x, .int .i64 q2y]]) ∧ Below w.heap.size w w')
    (hB1 : ∀ w, Calls Try.prog 52 #[.agg #[.int .i64 p1x, .int .i64 p1y], .agg #[.int .i64 q1x, .int .i64 q1y]] w fun e w' => e = .returned (.bool false) ∧ Below w.heap.size w w') (hB2 : ∀ w, Calls Try.prog 52 #[.agg #[.int .i64 q2x, .int .i64 q2y], .agg #[.int .i64 p2x, .int .i64 p2y]] w fun e w' => e = .returned (.bool true) ∧ Below w.heap.size w w') (hB3 : ∀ w, Calls Try.prog 52 #[.agg #[.int .i64 p1x, .int .i64 p1y], .agg #[.int .i64 q2x, .int .i64 q2y]] w fun e w' => e = .returned (.bool true) ∧ Below w.heap.size w w') (w : World) :
    Calls Try.prog 35 #[.agg #[.int .i64 ax, .int .i64 ay], .agg #[.int .i64 bx, .int .i64 b_y], .agg #[.int .i64 cx, .int .i64 cy], .agg #[.int .i64 dx, .int .i64 dy]] w fun e w' => e = .returned (.int .i64 2) ∧ Below w.heap.size w w' := by
  have e1 := eqP ax ay bx b_y
  have e2 := eqP cx cy dx dy
  rw [hp] at e1
  rw [hq] at e2
  clear hp hq
  have d1 : (s1 == 0) = true := by simpa using z1
  have d2 : (s2 == 0) = true := by simpa using z2
  clear z1 z2
  
  
  
  go_enter Try.func35, Try.ntmps35
  go_wp2_with (first
    | (go_at_call 32; (with_reducible refine (hT1 _).mono ?_); rintro e w1 ⟨rfl, hb1⟩; have hj1 : KL [((w.heap.size + 1 + 1 + 1),46,#[.int .i64 dx,.int .i64 dy]),((w.heap.size + 1 + 1),46,#[.int .i64 cx,.int .i64 cy]),((w.heap.size + 1),46,#[.int .i64 bx,.int .i64 b_y]),(w.heap.size,46,#[.int .i64 ax,.int .i64 ay])] w w1 := KL.over (KL.new (g := (w.heap.size + 1 + 1 + 1)) (KL.new (g := (w.heap.size + 1 + 1)) (KL.new (g := (w.heap.size + 1)) (KL.new (g := w.heap.size) (KL.nil w) rfl _ _) (by simp) _ _) (by simp) _ _) (by simp) _ _) hb1; obtain ⟨aL0, a0_0, a0_1⟩ := bl2 (KL.blk hj1 (.head _)); have aF0 := (KL.blk hj1 (.head _)).frozen; obtain ⟨aL1, a1_0, a1_1⟩ := bl2 (KL.blk hj1 (.tail _ (.head _))); have aF1 := (KL.blk hj1 (.tail _ (.head _))).frozen; obtain ⟨aL2, a2_0, a2_1⟩ := bl2 (KL.blk hj1 (.tail _ (.tail _ (.head _)))); have aF2 := (KL.blk hj1 (.tail _ (.tail _ (.head _)))).frozen; obtain ⟨aL3, a3_0, a3_1⟩ := bl2 (KL.blk hj1 (.tail _ (.tail _ (.tail _ (.head _))))); have aF3 := (KL.blk hj1 (.tail _ (.tail _ (.tail _ (.head _))))).frozen)
    | (go_at_call 32; (with_reducible refine (hT2 _).mono ?_); rintro e w2 ⟨rfl, hb2⟩; have hj2 : KL [((w.heap.size + 1 + 1 + 1),46,#[.int .i64 dx,.int .i64 dy]),((w.heap.size + 1 + 1),46,#[.int .i64 cx,.int .i64 cy]),((w.heap.size + 1),46,#[.int .i64 bx,.int .i64 b_y]),(w.heap.size,46,#[.int .i64 ax,.int .i64 ay])] w w2 := KL.over hj1 hb2; obtain ⟨bL0, b0_0, b0_1⟩ := bl2 (KL.blk hj2 (.head _)); have bF0 := (KL.blk hj2 (.head _)).frozen; obtain ⟨bL1, b1_0, b1_1⟩ := bl2 (KL.blk hj2 (.tail _ (.head _))); have bF1 := (KL.blk hj2 (.tail _ (.head _))).frozen; obtain ⟨bL2, b2_0, b2_1⟩ := bl2 (KL.blk hj2 (.tail _ (.tail _ (.head _)))); have bF2 := (KL.blk hj2 (.tail _ (.tail _ (.head _)))).frozen; obtain ⟨bL3, b3_0, b3_1⟩ := bl2 (KL.blk hj2 (.tail _ (.tail _ (.tail _ (.head _))))); have bF3 := (KL.blk hj2 (.tail _ (.tail _ (.tail _ (.head _))))).frozen)
    | (go_at_call 51; (with_reducible refine (hs1 _).mono ?_); rintro e w3 ⟨rfl, hb3⟩; have hj3 : KL [((w.heap.size + 1 + 1 + 1),46,#[.int .i64 dx,.int .i64 dy]),((w.heap.size + 1 + 1),46,#[.int .i64 cx,.int .i64 cy]),((w.heap.size + 1),46,#[.int .i64 bx,.int .i64 b_y]),(w.heap.size,46,#[.int .i64 ax,.int .i64 ay])] w w3 := KL.over hj2 hb3; obtain ⟨cL0, c0_0, c0_1⟩ := bl2 (KL.blk hj3 (.head _)); have cF0 := (KL.blk hj3 (.head _)).frozen; obtain ⟨cL1, c1_0, c1_1⟩ := bl2 (KL.blk hj3 (.tail _ (.head _))); have cF1 := (KL.blk hj3 (.tail _ (.head _))).frozen; obtain ⟨cL2, c2_0, c2_1⟩ := bl2 (KL.blk hj3 (.tail _ (.tail _ (.head _)))); have cF2 := (KL.blk hj3 (.tail _ (.tail _ (.head _)))).frozen; obtain ⟨cL3, c3_0, c3_1⟩ := bl2 (KL.blk hj3 (.tail _ (.tail _ (.tail _ (.head _))))); have cF3 := (KL.blk hj3 (.tail _ (.tail _ (.tail _ (.head _))))).frozen)
    | (go_at_call 51; (with_reducible refine (hs2 _).mono ?_); rintro e w4 ⟨rfl, hb4⟩; have hj4 : KL [((w.heap.size + 1 + 1 + 1),46,#[.int .i64 dx,.int .i64 dy]),((w.heap.size + 1 + 1),46,#[.int .i64 cx,.int .i64 cy]),((w.heap.size + 1),46,#[.int .i64 p2x,.int .i64 p2y]),(w.heap.size,46,#[.int .i64 p1x,.int .i64 p1y])] w w4 := KL.over (KL.up2 2 (KL.up2 3 hj3 rfl (by omega) (by simp <;> omega)) rfl (by omega) (by simp <;> omega)) hb4; obtain ⟨dL0, d0_0, d0_1⟩ := bl2 (KL.blk hj4 (.head _)); have dF0 := (KL.blk hj4 (.head _)).frozen; obtain ⟨dL1, d1_0, d1_1⟩ := bl2 (KL.blk hj4 (.tail _ (.head _))); have dF1 := (KL.blk hj4 (.tail _ (.head _))).frozen; obtain ⟨dL2, d2_0, d2_1⟩ := bl2 (KL.blk hj4 (.tail _ (.tail _ (.head _)))); have dF2 := (KL.blk hj4 (.tail _ (.tail _ (.head _)))).frozen; obtain ⟨dL3, d3_0, d3_1⟩ := bl2 (KL.blk hj4 (.tail _ (.tail _ (.tail _ (.head _))))); have dF3 := (KL.blk hj4 (.tail _ (.tail _ (.tail _ (.head _))))).frozen))
  refine wp_region_any (by kernel_rfl) ?_
  try (change wpAny _ _ _ _ _ _ _ (World.drew _))
  refine wpAny_alloc (fr := fun o => #[.agg #[.int .i64 ax,.int .i64 ay], .agg #[.int .i64 bx,.int .i64 b_y], .agg #[.int .i64 cx,.int .i64 cy], .agg #[.int .i64 dx,.int .i64 dy], .pointer (some ⟨w.heap.size, 0, none⟩), .pointer (some ⟨(w.heap.size + 1), 0, none⟩), .pointer (some ⟨(w.heap.size + 1 + 1), 0, none⟩), .pointer (some ⟨(w.heap.size + 1 + 1 + 1), 0, none⟩), .int .i64 0, o 2, o 3, .agg #[.int .i64 ax,.int .i64 ay], .agg #[.int .i64 bx,.int .i64 b_y], .bool false, .bool false, .agg #[.int .i64 cx,.int .i64 cy], .agg #[.int .i64 dx,.int .i64 dy], .bool false, .bool false, undef, undef, undef, undef, undef, undef, undef, undef, undef, undef, undef, undef, undef, undef, undef, undef, undef, undef, undef, undef, .agg #[.int .i64 ax,.int .i64 ay], .agg #[.int .i64 bx,.int .i64 b_y], .agg #[.int .i64 cx,.int .i64 cy], .int .i64 s1, .bool true, .bool true, .agg #[.int .i64 ax,.int .i64 ay], .agg #[.int .i64 bx,.int .i64 b_y], .agg #[.int .i64 dx,.int .i64 dy], .int .i64 s2, .bool true, .bool true, .tuple #[.agg #[.int .i64 p1x,.int .i64 p1y],.agg #[.int .i64 p2x,.int .i64 p2y]], .agg #[.int .i64 ax,.int .i64 ay], .agg #[.int .i64 bx,.int .i64 b_y], .tuple #[.agg #[.int .i64 p1x,.int .i64 p1y],.agg #[.int .i64 p2x,.int .i64 p2y]], .agg #[.int .i64 p1x,.int .i64 p1y], .agg #[.int .i64 p2x,.int .i64 p2y], .tuple #[.agg #[.int .i64 q1x,.int .i64 q1y],.agg #[.int .i64 q2x,.int .i64 q2y]], .agg #[.int .i64 cx,.int .i64 cy], .agg #[.int .i64 dx,.int .i64 dy], .tuple #[.agg #[.int .i64 q1x,.int .i64 q1y],.agg #[.int .i64 q2x,.int .i64 q2y]], .agg #[.int .i64 q1x,.int .i64 q1y], .agg #[.int .i64 q2x,.int .i64 q2y], o 0, o 1, undef, undef, undef, undef, undef, undef, undef, undef, undef, undef, undef, undef, undef, undef, undef, undef, undef, undef, undef, undef, undef, undef, undef, undef, undef, undef, undef, undef, undef, undef, undef, undef, undef, undef, undef, undef]) (vals := fun i_ => ([.agg #[.int .i64 p1x,.int .i64 p1y], .agg #[.int .i64 p2x,.int .i64 p2y], undef, undef, undef, undef] : List Value).getD i_ undef) (K := fun W_ => KL [((w.heap.size + 1 + 1 + 1),46,#[.int .i64 q2x,.int .i64 q2y]),((w.heap.size + 1 + 1),46,#[.int .i64 q1x,.int .i64 q1y]),((w.heap.size + 1),46,#[.int .i64 p2x,.int .i64 p2y]),(w.heap.size,46,#[.int .i64 p1x,.int .i64 p1y])] w W_) (dep := fun i_ => [[], [], [], [], [0, 2, 3], [0, 1, 2, 3, 4]].getD i_ []) (dv := fun i_ => [[], [], [], [], [0], [1]].getD i_ []) (kd := fun i_ => [1, 1, 2, 2, 3, 4].getD i_ 0) (sa := fun i_ => [2, 3].getD i_ 0) (ss := [4, 5]) (al := [2, 3]) (l := [0, 1, 2, 3, 4, 5]) (f0 := fun i_ => ([undef,undef,undef,undef,undef,undef] : List Value).getD i_ undef) (B := w.heap.size + 1 + 1 + 1 + 1) (T := 46) (z := #[.int .i64 0, .int .i64 0]) (cont := fun t_ j_ => if j_ = 2 then (if 0 < t_ then #[.int .i64 p1x, .int .i64 p1y] else #[.int .i64 0, .int .i64 0]) else if j_ = 3 then (if 1 < t_ then #[.int .i64 p2x, .int .i64 p2y] else #[.int .i64 0, .int .i64 0]) else #[.int .i64 0, .int .i64 0]) (A := fun g_ => ⟨#[.agg #[.int .i64 ax,.int .i64 ay], .agg #[.int .i64 bx,.int .i64 b_y], .agg #[.int .i64 cx,.int .i64 cy], .agg #[.int .i64 dx,.int .i64 dy], .pointer (some ⟨w.heap.size, 0, none⟩), .pointer (some ⟨(w.heap.size + 1), 0, none⟩), .pointer (some ⟨(w.heap.size + 1 + 1), 0, none⟩), .pointer (some ⟨(w.heap.size + 1 + 1 + 1), 0, none⟩), .int .i64 0, ptrV (g_ 2), ptrV (g_ 3), .agg #[.int .i64 ax,.int .i64 ay], .agg #[.int .i64 bx,.int .i64 b_y], .bool false, .bool false, .agg #[.int .i64 cx,.int .i64 cy], .agg #[.int .i64 dx,.int .i64 dy], .bool false, .bool false, undef, undef, undef, undef, undef, undef, undef, undef, undef, undef, undef, undef, undef, undef, undef, undef, undef, undef, undef, undef, .agg #[.int .i64 ax,.int .i64 ay], .agg #[.int .i64 bx,.int .i64 b_y], .agg #[.int .i64 cx,.int .i64 cy], .int .i64 s1, .bool true, .bool true, .agg #[.int .i64 ax,.int .i64 ay], .agg #[.int .i64 bx,.int .i64 b_y], .agg #[.int .i64 dx,.int .i64 dy], .int .i64 s2, .bool true, .bool true, .tuple #[.agg #[.int .i64 p1x,.int .i64 p1y],.agg #[.int .i64 p2x,.int .i64 p2y]], .agg #[.int .i64 ax,.int .i64 ay], .agg #[.int .i64 bx,.int .i64 b_y], .tuple #[.agg #[.int .i64 p1x,.int .i64 p1y],.agg #[.int .i64 p2x,.int .i64 p2y]], .agg #[.int .i64 p1x,.int .i64 p1y], .agg #[.int .i64 p2x,.int .i64 p2y], .tuple #[.agg #[.int .i64 q1x,.int .i64 q1y],.agg #[.int .i64 q2x,.int .i64 q2y]], .agg #[.int .i64 cx,.int .i64 cy], .agg #[.int .i64 dx,.int .i64 dy], .tuple #[.agg #[.int .i64 q1x,.int .i64 q1y],.agg #[.int .i64 q2x,.int .i64 q2y]], .agg #[.int .i64 q1x,.int .i64 q1y], .agg #[.int .i64 q2x,.int .i64 q2y], .agg #[.int .i64 p1x,.int .i64 p1y], .agg #[.int .i64 p2x,.int .i64 p2y], undef, undef, undef, undef, undef, undef, undef, undef, undef, undef, undef, undef, undef, undef, undef, undef, undef, undef, undef, undef, undef, undef, undef, undef, undef, undef, undef, undef, undef, undef, undef, undef, undef, undef, undef, undef], []⟩) 6 rfl rfl (by decide +kernel) (by decide +kernel) ?_ ?_ ?_ ?_ (fun _ h_ => KL.alloc h_ _) ⟨?_, ?_, ?_, ?_, ?_, ?_, trivial⟩ ?_ ?_
  · exact KL.drew (KL.up2 0 (KL.up2 1 hj4 rfl (by omega) (by simp <;> omega)) rfl (by omega) (by simp <;> omega))
  · first | exact Nat.le_refl _ | (simp; done) | (simp <;> omega) | (show _ ≤ World.heap.size _; omega) | omega
  · intro j_ hj_; simp only [List.mem_cons, List.not_mem_nil, or_false] at hj_; rcases hj_ with rfl | rfl <;> rfl
  · intro t_ ht_ j_ hj_ hn_; simp only [List.mem_cons, List.not_mem_nil, or_false] at hj_; rcases hj_ with rfl | rfl <;> rcases t_ with _ | _ | _ <;> first | rfl | exact absurd rfl hn_ | exact absurd ht_ (by simp)
  · intro o W hj
    have hj : KL _ _ W := hj
    obtain ⟨cL, c0, c1⟩ := bl2 (KL.blk hj (.tail _ (.tail _ (.tail _ (.head _)))))
    show wpOp _ _ _ 0 _ ⟨#[_,_,_,_,_,_,_,_,_,o 2,o 3,_,_,_,_,_,_,_,_,_,_,_,_,_,_,_,_,_,_,_,_,_,_,_,_,_,_,_,_,_,_,_,_,_,_,_,_,_,_,_,_,_,_,_,_,_,_,_,_,_,_,_,_,o 0,o 1,_,_,_,_,_,_,_,_,_,_,_,_,_,_,_,_,_,_,_,_,_,_,_,_,_,_,_,_,_,_,_,_,_,_,_,_], []⟩ W
    refine wpOp_step rfl (fun K' hK => ?_)
    go_simp
    exact hK _ _ ⟨rfl, hj, Below.refl _ _⟩
  · intro o W hj
    have hj : KL _ _ W := hj
    obtain ⟨cL, c0, c1⟩ := bl2 (KL.blk hj (.tail _ (.tail _ (.head _))))
    show wpOp _ _ _ 1 _ ⟨#[_,_,_,_,_,_,_,_,_,o 2,o 3,_,_,_,_,_,_,_,_,_,_,_,_,_,_,_,_,_,_,_,_,_,_,_,_,_,_,_,_,_,_,_,_,_,_,_,_,_,_,_,_,_,_,_,_,_,_,_,_,_,_,_,_,o 0,o 1,_,_,_,_,_,_,_,_,_,_,_,_,_,_,_,_,_,_,_,_,_,_,_,_,_,_,_,_,_,_,_,_,_,_,_,_], []⟩ W
    refine wpOp_step rfl (fun K' hK => ?_)
    go_simp
    exact hK _ _ ⟨rfl, hj, Below.refl _ _⟩
  · intro o W
    show wpOp _ _ _ 2 _ ⟨#[_,_,_,_,_,_,_,_,_,o 2,o 3,_,_,_,_,_,_,_,_,_,_,_,_,_,_,_,_,_,_,_,_,_,_,_,_,_,_,_,_,_,_,_,_,_,_,_,_,_,_,_,_,_,_,_,_,_,_,_,_,_,_,_,_,o 0,o 1,_,_,_,_,_,_,_,_,_,_,_,_,_,_,_,_,_,_,_,_,_,_,_,_,_,_,_,_,_,_,_,_,_,_,_,_], []⟩ W
    refine wpOp_step rfl (fun K' hK => ?_)
    go_simp
    exact hK _ _ ⟨rfl, rfl⟩
  · intro o W
    show wpOp _ _ _ 3 _ ⟨#[_,_,_,_,_,_,_,_,_,o 2,o 3,_,_,_,_,_,_,_,_,_,_,_,_,_,_,_,_,_,_,_,_,_,_,_,_,_,_,_,_,_,_,_,_,_,_,_,_,_,_,_,_,_,_,_,_,_,_,_,_,_,_,_,_,o 0,o 1,_,_,_,_,_,_,_,_,_,_,_,_,_,_,_,_,_,_,_,_,_,_,_,_,_,_,_,_,_,_,_,_,_,_,_,_], []⟩ W
    refine wpOp_step rfl (fun K' hK => ?_)
    go_simp
    exact hK _ _ ⟨rfl, rfl⟩
  · intro o W g_ hj hg_ hb_
    have hj : KL _ _ W := hj
    have hb_ : Blk W g_ 46 #[.int .i64 0, .int .i64 0] := hb_
    obtain ⟨cL, c0, c1⟩ := bl2 hb_
    have cF := hb_.frozen
    show wpOp _ _ _ 4 _ ⟨#[_,_,_,_,_,_,_,_,_,.pointer (some ⟨g_, 0, none⟩),o 3,_,_,_,_,_,_,_,_,_,_,_,_,_,_,_,_,_,_,_,_,_,_,_,_,_,_,_,_,_,_,_,_,_,_,_,_,_,_,_,_,_,_,_,_,_,_,_,_,_,_,_,_,.agg #[.int .i64 p1x,.int .i64 p1y],o 1,_,_,_,_,_,_,_,_,_,_,_,_,_,_,_,_,_,_,_,_,_,_,_,_,_,_,_,_,_,_,_,_,_,_,_,_], []⟩ W
    refine wpOp_step rfl (fun K' hK => ?_)
    go_simp
    exact hK _ _ ⟨rfl, st2 hj (by omega) (by simp <;> omega) hb_⟩
  · intro o W g_ hj hg_ hb_
    have hj : KL _ _ W := hj
    have hb_ : Blk W g_ 46 #[.int .i64 0, .int .i64 0] := hb_
    obtain ⟨cL, c0, c1⟩ := bl2 hb_
    have cF := hb_.frozen
    show wpOp _ _ _ 5 _ ⟨#[_,_,_,_,_,_,_,_,_,o 2,.pointer (some ⟨g_, 0, none⟩),_,_,_,_,_,_,_,_,_,_,_,_,_,_,_,_,_,_,_,_,_,_,_,_,_,_,_,_,_,_,_,_,_,_,_,_,_,_,_,_,_,_,_,_,_,_,_,_,_,_,_,_,o 0,.agg #[.int .i64 p2x,.int .i64 p2y],_,_,_,_,_,_,_,_,_,_,_,_,_,_,_,_,_,_,_,_,_,_,_,_,_,_,_,_,_,_,_,_,_,_,_,_], []⟩ W
    refine wpOp_step rfl (fun K' hK => ?_)
    go_simp
    exact hK _ _ ⟨rfl, st2 hj (by omega) (by simp <;> omega) hb_⟩
  · intro o g_ hh_ hp_
    have e0 : o 0 = .agg #[.int .i64 p1x,.int .i64 p1y] := hh_ 0 (by decide) (by simp)
    have e1 : o 1 = .agg #[.int .i64 p2x,.int .i64 p2y] := hh_ 1 (by decide) (by simp)
    have e2 : o 2 = ptrV (g_ 2) := hp_ 2 (by simp)
    have e3 : o 3 = ptrV (g_ 3) := hp_ 3 (by simp)
    rw [e0, e1, e2, e3]
  · intro W5 g_ h5 ho_ hn_
    have h5 : KL _ _ W5 := h5
    obtain ⟨bg2, Bg2⟩ := ho_ 2 (by simp)
    have Bg2 : Blk W5 (g_ 2) 46 #[.int .i64 p1x, .int .i64 p1y] := Bg2
    obtain ⟨bg3, Bg3⟩ := ho_ 3 (by simp)
    have Bg3 : Blk W5 (g_ 3) 46 #[.int .i64 p2x, .int .i64 p2y] := Bg3
    have ng2g3 := hn_ 2 (by simp) 3 (by simp) (by decide)
    clear ho_ hn_
    dsimp only [ptrV]
    generalize g_ 2 = g2 at *
    generalize g_ 3 = g3 at *
    have h5 := KL.cons Bg2 h5
    have h5 := KL.cons Bg3 h5
    clear Bg2 Bg3
    obtain ⟨eL0, e0_0, e0_1⟩ := bl2 (KL.blk h5 (.head _))
    have eF0 := (KL.blk h5 (.head _)).frozen
    obtain ⟨eL1, e1_0, e1_1⟩ := bl2 (KL.blk h5 (.tail _ (.head _)))
    have eF1 := (KL.blk h5 (.tail _ (.head _))).frozen
    obtain ⟨eL2, e2_0, e2_1⟩ := bl2 (KL.blk h5 (.tail _ (.tail _ (.head _))))
    have eF2 := (KL.blk h5 (.tail _ (.tail _ (.head _)))).frozen
    obtain ⟨eL3, e3_0, e3_1⟩ := bl2 (KL.blk h5 (.tail _ (.tail _ (.tail _ (.head _)))))
    have eF3 := (KL.blk h5 (.tail _ (.tail _ (.tail _ (.head _))))).frozen
    obtain ⟨eL4, e4_0, e4_1⟩ := bl2 (KL.blk h5 (.tail _ (.tail _ (.tail _ (.tail _ (.head _))))))
    have eF4 := (KL.blk h5 (.tail _ (.tail _ (.tail _ (.tail _ (.head _)))))).frozen
    obtain ⟨eL5, e5_0, e5_1⟩ := bl2 (KL.blk h5 (.tail _ (.tail _ (.tail _ (.tail _ (.tail _ (.head _)))))))
    have eF5 := (KL.blk h5 (.tail _ (.tail _ (.tail _ (.tail _ (.tail _ (.head _))))))).frozen
    have hjb := h5.1
    have hjz := hjb.size
    have hnn : g2 ≠ g3 := by first | assumption | exact Ne.symm (by assumption) | omega
    go_wp2_with (first
      | (go_at_call 52; (with_reducible refine (hB1 _).mono ?_); rintro e w6 ⟨rfl, hb6⟩; have hj6 : KL [(g3,46,#[.int .i64 p2x,.int .i64 p2y]),(g2,46,#[.int .i64 p1x,.int .i64 p1y]),((w.heap.size + 1 + 1 + 1),46,#[.int .i64 q2x,.int .i64 q2y]),((w.heap.size + 1 + 1),46,#[.int .i64 q1x,.int .i64 q1y]),((w.heap.size + 1),46,#[.int .i64 p2x,.int .i64 p2y]),(w.heap.size,46,#[.int .i64 p1x,.int .i64 p1y])] w w6 := KL.over h5 hb6; obtain ⟨fL0, f0_0, f0_1⟩ := bl2 (KL.blk hj6 (.head _)); have fF0 := (KL.blk hj6 (.head _)).frozen; obtain ⟨fL1, f1_0, f1_1⟩ := bl2 (KL.blk hj6 (.tail _ (.head _))); have fF1 := (KL.blk hj6 (.tail _ (.head _))).frozen; obtain ⟨fL2, f2_0, f2_1⟩ := bl2 (KL.blk hj6 (.tail _ (.tail _ (.head _)))); have fF2 := (KL.blk hj6 (.tail _ (.tail _ (.head _)))).frozen; obtain ⟨fL3, f3_0, f3_1⟩ := bl2 (KL.blk hj6 (.tail _ (.tail _ (.tail _ (.head _))))); have fF3 := (KL.blk hj6 (.tail _ (.tail _ (.tail _ (.head _))))).frozen; obtain ⟨fL4, f4_0, f4_1⟩ := bl2 (KL.blk hj6 (.tail _ (.tail _ (.tail _ (.tail _ (.head _)))))); have fF4 := (KL.blk hj6 (.tail _ (.tail _ (.tail _ (.tail _ (.head _)))))).frozen; obtain ⟨fL5, f5_0, f5_1⟩ := bl2 (KL.blk hj6 (.tail _ (.tail _ (.tail _ (.tail _ (.tail _ (.head _))))))); have fF5 := (KL.blk hj6 (.tail _ (.tail _ (.tail _ (.tail _ (.tail _ (.head _))))))).frozen)
      | (go_at_call 52; (with_reducible refine (hB2 _).mono ?_); rintro e w7 ⟨rfl, hb7⟩; have hj7 : KL [(g3,46,#[.int .i64 p2x,.int .i64 p2y]),(g2,46,#[.int .i64 p1x,.int .i64 p1y]),((w.heap.size + 1 + 1 + 1),46,#[.int .i64 q2x,.int .i64 q2y]),((w.heap.size + 1 + 1),46,#[.int .i64 q1x,.int .i64 q1y]),((w.heap.size + 1),46,#[.int .i64 p2x,.int .i64 p2y]),(w.heap.size,46,#[.int .i64 p1x,.int .i64 p1y])] w w7 := KL.over hj6 hb7; obtain ⟨gL0, g0_0, g0_1⟩ := bl2 (KL.blk hj7 (.head _)); have gF0 := (KL.blk hj7 (.head _)).frozen; obtain ⟨gL1, g1_0, g1_1⟩ := bl2 (KL.blk hj7 (.tail _ (.head _))); have gF1 := (KL.blk hj7 (.tail _ (.head _))).frozen; obtain ⟨gL2, g2_0, g2_1⟩ := bl2 (KL.blk hj7 (.tail _ (.tail _ (.head _)))); have gF2 := (KL.blk hj7 (.tail _ (.tail _ (.head _)))).frozen; obtain ⟨gL3, g3_0, g3_1⟩ := bl2 (KL.blk hj7 (.tail _ (.tail _ (.tail _ (.head _))))); have gF3 := (KL.blk hj7 (.tail _ (.tail _ (.tail _ (.head _))))).frozen; obtain ⟨gL4, g4_0, g4_1⟩ := bl2 (KL.blk hj7 (.tail _ (.tail _ (.tail _ (.tail _ (.head _)))))); have gF4 := (KL.blk hj7 (.tail _ (.tail _ (.tail _ (.tail _ (.head _)))))).frozen; obtain ⟨gL5, g5_0, g5_1⟩ := bl2 (KL.blk hj7 (.tail _ (.tail _ (.tail _ (.tail _ (.tail _ (.head _))))))); have gF5 := (KL.blk hj7 (.tail _ (.tail _ (.tail _ (.tail _ (.tail _ (.head _))))))).frozen)
      | (go_at_call 52; (with_reducible refine (hB3 _).mono ?_); rintro e w8 ⟨rfl, hb8⟩; have hj8 : KL [(g3,46,#[.int .i64 q2x,.int .i64 q2y]),(g2,46,#[.int .i64 p1x,.int .i64 p1y]),((w.heap.size + 1 + 1 + 1),46,#[.int .i64 q2x,.int .i64 q2y]),((w.heap.size + 1 + 1),46,#[.int .i64 q1x,.int .i64 q1y]),((w.heap.size + 1),46,#[.int .i64 p2x,.int .i64 p2y]),(w.heap.size,46,#[.int .i64 p1x,.int .i64 p1y])] w w8 := KL.over (KL.up2 0 hj7 rfl (by omega) (by simp <;> omega)) hb8; obtain ⟨hL0, h0_0, h0_1⟩ := bl2 (KL.blk hj8 (.head _)); have hF0 := (KL.blk hj8 (.head _)).frozen; obtain ⟨hL1, h1_0, h1_1⟩ := bl2 (KL.blk hj8 (.tail _ (.head _))); have hF1 := (KL.blk hj8 (.tail _ (.head _))).frozen; obtain ⟨hL2, h2_0, h2_1⟩ := bl2 (KL.blk hj8 (.tail _ (.tail _ (.head _)))); have hF2 := (KL.blk hj8 (.tail _ (.tail _ (.head _)))).frozen; obtain ⟨hL3, h3_0, h3_1⟩ := bl2 (KL.blk hj8 (.tail _ (.tail _ (.tail _ (.head _))))); have hF3 := (KL.blk hj8 (.tail _ (.tail _ (.tail _ (.head _))))).frozen; obtain ⟨hL4, h4_0, h4_1⟩ := bl2 (KL.blk hj8 (.tail _ (.tail _ (.tail _ (.tail _ (.head _)))))); have hF4 := (KL.blk hj8 (.tail _ (.tail _ (.tail _ (.tail _ (.head _)))))).frozen; obtain ⟨hL5, h5_0, h5_1⟩ := bl2 (KL.blk hj8 (.tail _ (.tail _ (.tail _ (.tail _ (.tail _ (.head _))))))); have hF5 := (KL.blk hj8 (.tail _ (.tail _ (.tail _ (.tail _ (.tail _ (.head _))))))).frozen))
    go_ret
    exact ⟨rfl, hj8.1⟩
set_option maxHeartbeats 16000000 in
set_option maxRecDepth 100000 in
theorem refMeet_l011 (ax ay bx b_y cx cy dx dy p1x p1y p2x p2y q1x q1y q2x q2y s1 s2 : Int) (hp : (ax == bx && ay == b_y) = false) (hq : (cx == dx && cy == dy) = false) (hT1 : ∀ w, Calls Try.prog 32 #[.agg #[.int .i64 ax, .int .i64 ay], .agg #[.int .i64 bx, .int .i64 b_y], .agg #[.int .i64 cx, .int .i64 cy]] w fun e w' => e = .returned (.int .i64 s1) ∧ Below w.heap.size w w') (hT2 : ∀ w, Calls Try.prog 32 #[.agg #[.int .i64 ax, .int .i64 ay], .agg #[.int .i64 bx, .int .i64 b_y], .agg #[.int .i64 dx, .int .i64 dy]] w fun e w' => e = .returned (.int .i64 s2) ∧ Below w.heap.size w w') (z1 : s1 = 0) (z2 : s2 = 0)
    (hs1 : ∀ w, Calls Try.prog 51 #[.agg #[.int .i64 ax, .int .i64 ay], .agg #[.int .i64 bx, .int .i64 b_y]] w fun e w' => e = .returned (.tuple #[.agg #[.int .i64 p1x, .int .i64 p1y], .agg #[.int .i64 p2x, .int .i64 p2y]]) ∧ Below w.heap.size w w') (hs2 : ∀ w, Calls Try.prog 51 #[.agg #[.int .i64 cx, .int .i64 cy], .agg #[.int .i64 dx, .int .i64 dy]] w fun e w' => e = .returned (.tuple #[.agg #[.int .i64 q1x, .int .i64 q1y], .agg #[.int .i64 q2x, .int .i64 q2y]]) ∧ Below w.heap.size w w')
    (hB1 : ∀ w, Calls Try.prog 52 #[.agg #[.int .i64 p1x, .int .i64 p1y], .agg #[.int .i64 q1x, .int .i64 q1y]] w fun e w' => e = .returned (.bool false) ∧ Below w.heap.size w w') (hB2 : ∀ w, Calls Try.prog 52 #[.agg #[.int .i64 q2x, .int .i64 q2y], .agg #[.int .i64 p2x, .int .i64 p2y]] w fun e w' => e = .returned (.bool true) ∧ Below w.heap.size w w') (hB3 : ∀ w, Calls Try.prog 52 #[.agg #[.int .i64 p1x, .int .i64 p1y], .agg #[.int .i64 q2x, .int .i64 q2y]] w fun e w' => e = .returned (.bool false) ∧ Below w.heap.size w w') (he : (p1x == q2x && p1y == q2y) = true) (w : World) :
    Calls Try.prog 35 #[.agg #[.int .i64 ax, .int .i64 ay], .agg #[.int .i64 bx, .int .i64 b_y], .agg #[.int .i64 cx, .int .i64 cy], .agg #[.int .i64 dx, .int .i64 dy]] w fun e w' => e = .returned (.int .i64 1) ∧ Below w.heap.size w w' := by
  have e1 := eqP ax ay bx b_y
  have e2 := eqP cx cy dx dy
  rw [hp] at e1
  rw [hq] at e2
  clear hp hq
  have d1 : (s1 == 0) = true := by simpa using z1
  have d2 : (s2 == 0) = true := by simpa using z2
  clear z1 z2
  have e3 := eqP p1x p1y q2x q2y
  rw [he] at e3
  clear he
  go_enter Try.func35, Try.ntmps35
  go_wp2_with (first
    | (go_at_call 32; (with_reducible refine (hT1 _).mono ?_); rintro e w1 ⟨rfl, hb1⟩; have hj1 : KL [((w.heap.size + 1 + 1 + 1),46,#[.int .i64 dx,.int .i64 dy]),((w.heap.size + 1 + 1),46,#[.int .i64 cx,.int .i64 cy]),((w.heap.size + 1),46,#[.int .i64 bx,.int .i64 b_y]),(w.heap.size,46,#[.int .i64 ax,.int .i64 ay])] w w1 := KL.over (KL.new (g := (w.heap.size + 1 + 1 + 1)) (KL.new (g := (w.heap.size + 1 + 1)) (KL.new (g := (w.heap.size + 1)) (KL.new (g := w.heap.size) (KL.nil w) rfl _ _) (by simp) _ _) (by simp) _ _) (by simp) _ _) hb1; obtain ⟨aL0, a0_0, a0_1⟩ := bl2 (KL.blk hj1 (.head _)); have aF0 := (KL.blk hj1 (.head _)).frozen; obtain ⟨aL1, a1_0, a1_1⟩ := bl2 (KL.blk hj1 (.tail _ (.head _))); have aF1 := (KL.blk hj1 (.tail _ (.head _))).frozen; obtain ⟨aL2, a2_0, a2_1⟩ := bl2 (KL.blk hj1 (.tail _ (.tail _ (.head _)))); have aF2 := (KL.blk hj1 (.tail _ (.tail _ (.head _)))).frozen; obtain ⟨aL3, a3_0, a3_1⟩ := bl2 (KL.blk hj1 (.tail _ (.tail _ (.tail _ (.head _))))); have aF3 := (KL.blk hj1 (.tail _ (.tail _ (.tail _ (.head _))))).frozen)
    | (go_at_call 32; (with_reducible refine (hT2 _).mono ?_); rintro e w2 ⟨rfl, hb2⟩; have hj2 : KL [((w.heap.size + 1 + 1 + 1),46,#[.int .i64 dx,.int .i64 dy]),((w.heap.size + 1 + 1),46,#[.int .i64 cx,.int .i64 cy]),((w.heap.size + 1),46,#[.int .i64 bx,.int .i64 b_y]),(w.heap.size,46,#[.int .i64 ax,.int .i64 ay])] w w2 := KL.over hj1 hb2; obtain ⟨bL0, b0_0, b0_1⟩ := bl2 (KL.blk hj2 (.head _)); have bF0 := (KL.blk hj2 (.head _)).frozen; obtain ⟨bL1, b1_0, b1_1⟩ := bl2 (KL.blk hj2 (.tail _ (.head _))); have bF1 := (KL.blk hj2 (.tail _ (.head _))).frozen; obtain ⟨bL2, b2_0, b2_1⟩ := bl2 (KL.blk hj2 (.tail _ (.tail _ (.head _)))); have bF2 := (KL.blk hj2 (.tail _ (.tail _ (.head _)))).frozen; obtain ⟨bL3, b3_0, b3_1⟩ := bl2 (KL.blk hj2 (.tail _ (.tail _ (.tail _ (.head _))))); have bF3 := (KL.blk hj2 (.tail _ (.tail _ (.tail _ (.head _))))).frozen)
    | (go_at_call 51; (with_reducible refine (hs1 _).mono ?_); rintro e w3 ⟨rfl, hb3⟩; have hj3 : KL [((w.heap.size + 1 + 1 + 1),46,#[.int .i64 dx,.int .i64 dy]),((w.heap.size + 1 + 1),46,#[.int .i64 cx,.int .i64 cy]),((w.heap.size + 1),46,#[.int .i64 bx,.int .i64 b_y]),(w.heap.size,46,#[.int .i64 ax,.int .i64 ay])] w w3 := KL.over hj2 hb3; obtain ⟨cL0, c0_0, c0_1⟩ := bl2 (KL.blk hj3 (.head _)); have cF0 := (KL.blk hj3 (.head _)).frozen; obtain ⟨cL1, c1_0, c1_1⟩ := bl2 (KL.blk hj3 (.tail _ (.head _))); have cF1 := (KL.blk hj3 (.tail _ (.head _))).frozen; obtain ⟨cL2, c2_0, c2_1⟩ := bl2 (KL.blk hj3 (.tail _ (.tail _ (.head _)))); have cF2 := (KL.blk hj3 (.tail _ (.tail _ (.head _)))).frozen; obtain ⟨cL3, c3_0, c3_1⟩ := bl2 (KL.blk hj3 (.tail _ (.tail _ (.tail _ (.head _))))); have cF3 := (KL.blk hj3 (.tail _ (.tail _ (.tail _ (.head _))))).frozen)
    | (go_at_call 51; (with_reducible refine (hs2 _).mono ?_); rintro e w4 ⟨rfl, hb4⟩; have hj4 : KL [((w.heap.size + 1 + 1 + 1),46,#[.int .i64 dx,.int .i64 dy]),((w.heap.size + 1 + 1),46,#[.int .i64 cx,.int .i64 cy]),((w.heap.size + 1),46,#[.int .i64 p2x,.int .i64 p2y]),(w.heap.size,46,#[.int .i64 p1x,.int .i64 p1y])] w w4 := KL.over (KL.up2 2 (KL.up2 3 hj3 rfl (by omega) (by simp <;> omega)) rfl (by omega) (by simp <;> omega)) hb4; obtain ⟨dL0, d0_0, d0_1⟩ := bl2 (KL.blk hj4 (.head _)); have dF0 := (KL.blk hj4 (.head _)).frozen; obtain ⟨dL1, d1_0, d1_1⟩ := bl2 (KL.blk hj4 (.tail _ (.head _))); have dF1 := (KL.blk hj4 (.tail _ (.head _))).frozen; obtain ⟨dL2, d2_0, d2_1⟩ := bl2 (KL.blk hj4 (.tail _ (.tail _ (.head _)))); have dF2 := (KL.blk hj4 (.tail _ (.tail _ (.head _)))).frozen; obtain ⟨dL3, d3_0, d3_1⟩ := bl2 (KL.blk hj4 (.tail _ (.tail _ (.tail _ (.head _))))); have dF3 := (KL.blk hj4 (.tail _ (.tail _ (.tail _ (.head _))))).frozen))
  refine wp_region_any (by kernel_rfl) ?_
  try (change wpAny _ _ _ _ _ _ _ (World.drew _))
  refine wpAny_alloc (fr := fun o => #[.agg #[.int .i64 ax,.int .i64 ay], .agg #[.int .i64 bx,.int .i64 b_y], .agg #[.int .i64 cx,.int .i64 cy], .agg #[.int .i64 dx,.int .i64 dy], .pointer (some ⟨w.heap.size, 0, none⟩), .pointer (some ⟨(w.heap.size + 1), 0, none⟩), .pointer (some ⟨(w.heap.size + 1 + 1), 0, none⟩), .pointer (some ⟨(w.heap.size + 1 + 1 + 1), 0, none⟩), .int .i64 0, o 2, o 3, .agg #[.int .i64 ax,.int .i64 ay], .agg #[.int .i64 bx,.int .i64 b_y], .bool false, .bool false, .agg #[.int .i64 cx,.int .i64 cy], .agg #[.int .i64 dx,.int .i64 dy], .bool false, .bool false, undef, undef, undef, undef, undef, undef, undef, undef, undef, undef, undef, undef, undef, undef, undef, undef, undef, undef, undef, undef, .agg #[.int .i64 ax,.int .i64 ay], .agg #[.int .i64 bx,.int .i64 b_y], .agg #[.int .i64 cx,.int .i64 cy], .int .i64 s1, .bool true, .bool true, .agg #[.int .i64 ax,.int .i64 ay], .agg #[.int .i64 bx,.int .i64 b_y], .agg #[.int .i64 dx,.int .i64 dy], .int .i64 s2, .bool true, .bool true, .tuple #[.agg #[.int .i64 p1x,.int .i64 p1y],.agg #[.int .i64 p2x,.int .i64 p2y]], .agg #[.int .i64 ax,.int .i64 ay], .agg #[.int .i64 bx,.int .i64 b_y], .tuple #[.agg #[.int .i64 p1x,.int .i64 p1y],.agg #[.int .i64 p2x,.int .i64 p2y]], .agg #[.int .i64 p1x,.int .i64 p1y], .agg #[.int .i64 p2x,.int .i64 p2y], .tuple #[.agg #[.int .i64 q1x,.int .i64 q1y],.agg #[.int .i64 q2x,.int .i64 q2y]], .agg #[.int .i64 cx,.int .i64 cy], .agg #[.int .i64 dx,.int .i64 dy], .tuple #[.agg #[.int .i64 q1x,.int .i64 q1y],.agg #[.int .i64 q2x,.int .i64 q2y]], .agg #[.int .i64 q1x,.int .i64 q1y], .agg #[.int .i64 q2x,.int .i64 q2y], o 0, o 1, undef, undef, undef, undef, undef, undef, undef, undef, undef, undef, undef, undef, undef, undef, undef, undef, undef, undef, undef, undef, undef, undef, undef, undef, undef, undef, undef, undef, undef, undef, undef, undef, undef, undef, undef, undef]) (vals := fun i_ => ([.agg #[.int .i64 p1x,.int .i64 p1y], .agg #[.int .i64 p2x,.int .i64 p2y], undef, undef, undef, undef] : List Value).getD i_ undef) (K := fun W_ => KL [((w.heap.size + 1 + 1 + 1),46,#[.int .i64 q2x,.int .i64 q2y]),((w.heap.size + 1 + 1),46,#[.int .i64 q1x,.int .i64 q1y]),((w.heap.size + 1),46,#[.int .i64 p2x,.int .i64 p2y]),(w.heap.size,46,#[.int .i64 p1x,.int .i64 p1y])] w W_) (dep := fun i_ => [[], [], [], [], [0, 2, 3], [0, 1, 2, 3, 4]].getD i_ []) (dv := fun i_ => [[], [], [], [], [0], [1]].getD i_ []) (kd := fun i_ => [1, 1, 2, 2, 3, 4].getD i_ 0) (sa := fun i_ => [2, 3].getD i_ 0) (ss := [4, 5]) (al := [2, 3]) (l := [0, 1, 2, 3, 4, 5]) (f0 := fun i_ => ([undef,undef,undef,undef,undef,undef] : List Value).getD i_ undef) (B := w.heap.size + 1 + 1 + 1 + 1) (T := 46) (z := #[.int .i64 0, .int .i64 0]) (cont := fun t_ j_ => if j_ = 2 then (if 0 < t_ then #[.int .i64 p1x, .int .i64 p1y] else #[.int .i64 0, .int .i64 0]) else if j_ = 3 then (if 1 < t_ then #[.int .i64 p2x, .int .i64 p2y] else #[.int .i64 0, .int .i64 0]) else #[.int .i64 0, .int .i64 0]) (A := fun g_ => ⟨#[.agg #[.int .i64 ax,.int .i64 ay], .agg #[.int .i64 bx,.int .i64 b_y], .agg #[.int .i64 cx,.int .i64 cy], .agg #[.int .i64 dx,.int .i64 dy], .pointer (some ⟨w.heap.size, 0, none⟩), .pointer (some ⟨(w.heap.size + 1), 0, none⟩), .pointer (some ⟨(w.heap.size + 1 + 1), 0, none⟩), .pointer (some ⟨(w.heap.size + 1 + 1 + 1), 0, none⟩), .int .i64 0, ptrV (g_ 2), ptrV (g_ 3), .agg #[.int .i64 ax,.int .i64 ay], .agg #[.int .i64 bx,.int .i64 b_y], .bool false, .bool false, .agg #[.int .i64 cx,.int .i64 cy], .agg #[.int .i64 dx,.int .i64 dy], .bool false, .bool false, undef, undef, undef, undef, undef, undef, undef, undef, undef, undef, undef, undef, undef, undef, undef, undef, undef, undef, undef, undef, .agg #[.int .i64 ax,.int .i64 ay], .agg #[.int .i64 bx,.int .i64 b_y], .agg #[.int .i64 cx,.int .i64 cy], .int .i64 s1, .bool true, .bool true, .agg #[.int .i64 ax,.int .i64 ay], .agg #[.int .i64 bx,.int .i64 b_y], .agg #[.int .i64 dx,.int .i64 dy], .int .i64 s2, .bool true, .bool true, .tuple #[.agg #[.int .i64 p1x,.int .i64 p1y],.agg #[.int .i64 p2x,.int .i64 p2y]], .agg #[.int .i64 ax,.int .i64 ay], .agg #[.int .i64 bx,.int .i64 b_y], .tuple #[.agg #[.int .i64 p1x,.int .i64 p1y],.agg #[.int .i64 p2x,.int .i64 p2y]], .agg #[.int .i64 p1x,.int .i64 p1y], .agg #[.int .i64 p2x,.int .i64 p2y], .tuple #[.agg #[.int .i64 q1x,.int .i64 q1y],.agg #[.int .i64 q2x,.int .i64 q2y]], .agg #[.int .i64 cx,.int .i64 cy], .agg #[.int .i64 dx,.int .i64 dy], .tuple #[.agg #[.int .i64 q1x,.int .i64 q1y],.agg #[.int .i64 q2x,.int .i64 q2y]], .agg #[.int .i64 q1x,.int .i64 q1y], .agg #[.int .i64 q2x,.int .i64 q2y], .agg #[.int .i64 p1x,.int .i64 p1y], .agg #[.int .i64 p2x,.int .i64 p2y], undef, undef, undef, undef, undef, undef, undef, undef, undef, undef, undef, undef, undef, undef, undef, undef, undef, undef, undef, undef, undef, undef, undef, undef, undef, undef, undef, undef, undef, undef, undef, undef, undef, undef, undef, undef], []⟩) 6 rfl rfl (by decide +kernel) (by decide +kernel) ?_ ?_ ?_ ?_ (fun _ h_ => KL.alloc h_ _) ⟨?_, ?_, ?_, ?_, ?_, ?_, trivial⟩ ?_ ?_
  · exact KL.drew (KL.up2 0 (KL.up2 1 hj4 rfl (by omega) (by simp <;> omega)) rfl (by omega) (by simp <;> omega))
  · first | exact Nat.le_refl _ | (simp; done) | (simp <;> omega) | (show _ ≤ World.heap.size _; omega) | omega
  · intro j_ hj_; simp only [List.mem_cons, List.not_mem_nil, or_false] at hj_; rcases hj_ with rfl | rfl <;> rfl
  · intro t_ ht_ j_ hj_ hn_; simp only [List.mem_cons, List.not_mem_nil, or_false] at hj_; rcases hj_ with rfl | rfl <;> rcases t_ with _ | _ | _ <;> first | rfl | exact absurd rfl hn_ | exact absurd ht_ (by simp)
  · intro o W hj
    have hj : KL _ _ W := hj
    obtain ⟨cL, c0, c1⟩ := bl2 (KL.blk hj (.tail _ (.tail _ (.tail _ (.head _)))))
    show wpOp _ _ _ 0 _ ⟨#[_,_,_,_,_,_,_,_,_,o 2,o 3,_,_,_,_,_,_,_,_,_,_,_,_,_,_,_,_,_,_,_,_,_,_,_,_,_,_,_,_,_,_,_,_,_,_,_,_,_,_,_,_,_,_,_,_,_,_,_,_,_,_,_,_,o 0,o 1,_,_,_,_,_,_,_,_,_,_,_,_,_,_,_,_,_,_,_,_,_,_,_,_,_,_,_,_,_,_,_,_,_,_,_,_], []⟩ W
    refine wpOp_step rfl (fun K' hK => ?_)
    go_simp
    exact hK _ _ ⟨rfl, hj, Below.refl _ _⟩
  · intro o W hj
    have hj : KL _ _ W := hj
    obtain ⟨cL, c0, c1⟩ := bl2 (KL.blk hj (.tail _ (.tail _ (.head _))))
    show wpOp _ _ _ 1 _ ⟨#[_,_,_,_,_,_,_,_,_,o 2,o 3,_,_,_,_,_,_,_,_,_,_,_,_,_,_,_,_,_,_,_,_,_,_,_,_,_,_,_,_,_,_,_,_,_,_,_,_,_,_,_,_,_,_,_,_,_,_,_,_,_,_,_,_,o 0,o 1,_,_,_,_,_,_,_,_,_,_,_,_,_,_,_,_,_,_,_,_,_,_,_,_,_,_,_,_,_,_,_,_,_,_,_,_], []⟩ W
    refine wpOp_step rfl (fun K' hK => ?_)
    go_simp
    exact hK _ _ ⟨rfl, hj, Below.refl _ _⟩
  · intro o W
    show wpOp _ _ _ 2 _ ⟨#[_,_,_,_,_,_,_,_,_,o 2,o 3,_,_,_,_,_,_,_,_,_,_,_,_,_,_,_,_,_,_,_,_,_,_,_,_,_,_,_,_,_,_,_,_,_,_,_,_,_,_,_,_,_,_,_,_,_,_,_,_,_,_,_,_,o 0,o 1,_,_,_,_,_,_,_,_,_,_,_,_,_,_,_,_,_,_,_,_,_,_,_,_,_,_,_,_,_,_,_,_,_,_,_,_], []⟩ W
    refine wpOp_step rfl (fun K' hK => ?_)
    go_simp
    exact hK _ _ ⟨rfl, rfl⟩
  · intro o W
    show wpOp _ _ _ 3 _ ⟨#[_,_,_,_,_,_,_,_,_,o 2,o 3,_,_,_,_,_,_,_,_,_,_,_,_,_,_,_,_,_,_,_,_,_,_,_,_,_,_,_,_,_,_,_,_,_,_,_,_,_,_,_,_,_,_,_,_,_,_,_,_,_,_,_,_,o 0,o 1,_,_,_,_,_,_,_,_,_,_,_,_,_,_,_,_,_,_,_,_,_,_,_,_,_,_,_,_,_,_,_,_,_,_,_,_], []⟩ W
    refine wpOp_step rfl (fun K' hK => ?_)
    go_simp
    exact hK _ _ ⟨rfl, rfl⟩
  · intro o W g_ hj hg_ hb_
    have hj : KL _ _ W := hj
    have hb_ : Blk W g_ 46 #[.int .i64 0, .int .i64 0] := hb_
    obtain ⟨cL, c0, c1⟩ := bl2 hb_
    have cF := hb_.frozen
    show wpOp _ _ _ 4 _ ⟨#[_,_,_,_,_,_,_,_,_,.pointer (some ⟨g_, 0, none⟩),o 3,_,_,_,_,_,_,_,_,_,_,_,_,_,_,_,_,_,_,_,_,_,_,_,_,_,_,_,_,_,_,_,_,_,_,_,_,_,_,_,_,_,_,_,_,_,_,_,_,_,_,_,_,.agg #[.int .i64 p1x,.int .i64 p1y],o 1,_,_,_,_,_,_,_,_,_,_,_,_,_,_,_,_,_,_,_,_,_,_,_,_,_,_,_,_,_,_,_,_,_,_,_,_], []⟩ W
    refine wpOp_step rfl (fun K' hK => ?_)
    go_simp
    exact hK _ _ ⟨rfl, st2 hj (by omega) (by simp <;> omega) hb_⟩
  · intro o W g_ hj hg_ hb_
    have hj : KL _ _ W := hj
    have hb_ : Blk W g_ 46 #[.int .i64 0, .int .i64 0] := hb_
    obtain ⟨cL, c0, c1⟩ := bl2 hb_
    have cF := hb_.frozen
    show wpOp _ _ _ 5 _ ⟨#[_,_,_,_,_,_,_,_,_,o 2,.pointer (some ⟨g_, 0, none⟩),_,_,_,_,_,_,_,_,_,_,_,_,_,_,_,_,_,_,_,_,_,_,_,_,_,_,_,_,_,_,_,_,_,_,_,_,_,_,_,_,_,_,_,_,_,_,_,_,_,_,_,_,o 0,.agg #[.int .i64 p2x,.int .i64 p2y],_,_,_,_,_,_,_,_,_,_,_,_,_,_,_,_,_,_,_,_,_,_,_,_,_,_,_,_,_,_,_,_,_,_,_,_], []⟩ W
    refine wpOp_step rfl (fun K' hK => ?_)
    go_simp
    exact hK _ _ ⟨rfl, st2 hj (by omega) (by simp <;> omega) hb_⟩
  · intro o g_ hh_ hp_
    have e0 : o 0 = .agg #[.int .i64 p1x,.int .i64 p1y] := hh_ 0 (by decide) (by simp)
    have e1 : o 1 = .agg #[.int .i64 p2x,.int .i64 p2y] := hh_ 1 (by decide) (by simp)
    have e2 : o 2 = ptrV (g_ 2) := hp_ 2 (by simp)
    have e3 : o 3 = ptrV (g_ 3) := hp_ 3 (by simp)
    rw [e0, e1, e2, e3]
  · intro W5 g_ h5 ho_ hn_
    have h5 : KL _ _ W5 := h5
    obtain ⟨bg2, Bg2⟩ := ho_ 2 (by simp)
    have Bg2 : Blk W5 (g_ 2) 46 #[.int .i64 p1x, .int .i64 p1y] := Bg2
    obtain ⟨bg3, Bg3⟩ := ho_ 3 (by simp)
    have Bg3 : Blk W5 (g_ 3) 46 #[.int .i64 p2x, .int .i64 p2y] := Bg3
    have ng2g3 := hn_ 2 (by simp) 3 (by simp) (by decide)
    clear ho_ hn_
    dsimp only [ptrV]
    generalize g_ 2 = g2 at *
    generalize g_ 3 = g3 at *
    have h5 := KL.cons Bg2 h5
    have h5 := KL.cons Bg3 h5
    clear Bg2 Bg3
    obtain ⟨eL0, e0_0, e0_1⟩ := bl2 (KL.blk h5 (.head _))
    have eF0 := (KL.blk h5 (.head _)).frozen
    obtain ⟨eL1, e1_0, e1_1⟩ := bl2 (KL.blk h5 (.tail _ (.head _)))
    have eF1 := (KL.blk h5 (.tail _ (.head _))).frozen
    obtain ⟨eL2, e2_0, e2_1⟩ := bl2 (KL.blk h5 (.tail _ (.tail _ (.head _))))
    have eF2 := (KL.blk h5 (.tail _ (.tail _ (.head _)))).frozen
    obtain ⟨eL3, e3_0, e3_1⟩ := bl2 (KL.blk h5 (.tail _ (.tail _ (.tail _ (.head _)))))
    have eF3 := (KL.blk h5 (.tail _ (.tail _ (.tail _ (.head _))))).frozen
    obtain ⟨eL4, e4_0, e4_1⟩ := bl2 (KL.blk h5 (.tail _ (.tail _ (.tail _ (.tail _ (.head _))))))
    have eF4 := (KL.blk h5 (.tail _ (.tail _ (.tail _ (.tail _ (.head _)))))).frozen
    obtain ⟨eL5, e5_0, e5_1⟩ := bl2 (KL.blk h5 (.tail _ (.tail _ (.tail _ (.tail _ (.tail _ (.head _)))))))
    have eF5 := (KL.blk h5 (.tail _ (.tail _ (.tail _ (.tail _ (.tail _ (.head _))))))).frozen
    have hjb := h5.1
    have hjz := hjb.size
    have hnn : g2 ≠ g3 := by first | assumption | exact Ne.symm (by assumption) | omega
    go_wp2_with (first
      | (go_at_call 52; (with_reducible refine (hB1 _).mono ?_); rintro e w6 ⟨rfl, hb6⟩; have hj6 : KL [(g3,46,#[.int .i64 p2x,.int .i64 p2y]),(g2,46,#[.int .i64 p1x,.int .i64 p1y]),((w.heap.size + 1 + 1 + 1),46,#[.int .i64 q2x,.int .i64 q2y]),((w.heap.size + 1 + 1),46,#[.int .i64 q1x,.int .i64 q1y]),((w.heap.size + 1),46,#[.int .i64 p2x,.int .i64 p2y]),(w.heap.size,46,#[.int .i64 p1x,.int .i64 p1y])] w w6 := KL.over h5 hb6; obtain ⟨fL0, f0_0, f0_1⟩ := bl2 (KL.blk hj6 (.head _)); have fF0 := (KL.blk hj6 (.head _)).frozen; obtain ⟨fL1, f1_0, f1_1⟩ := bl2 (KL.blk hj6 (.tail _ (.head _))); have fF1 := (KL.blk hj6 (.tail _ (.head _))).frozen; obtain ⟨fL2, f2_0, f2_1⟩ := bl2 (KL.blk hj6 (.tail _ (.tail _ (.head _)))); have fF2 := (KL.blk hj6 (.tail _ (.tail _ (.head _)))).frozen; obtain ⟨fL3, f3_0, f3_1⟩ := bl2 (KL.blk hj6 (.tail _ (.tail _ (.tail _ (.head _))))); have fF3 := (KL.blk hj6 (.tail _ (.tail _ (.tail _ (.head _))))).frozen; obtain ⟨fL4, f4_0, f4_1⟩ := bl2 (KL.blk hj6 (.tail _ (.tail _ (.tail _ (.tail _ (.head _)))))); have fF4 := (KL.blk hj6 (.tail _ (.tail _ (.tail _ (.tail _ (.head _)))))).frozen; obtain ⟨fL5, f5_0, f5_1⟩ := bl2 (KL.blk hj6 (.tail _ (.tail _ (.tail _ (.tail _ (.tail _ (.head _))))))); have fF5 := (KL.blk hj6 (.tail _ (.tail _ (.tail _ (.tail _ (.tail _ (.head _))))))).frozen)
      | (go_at_call 52; (with_reducible refine (hB2 _).mono ?_); rintro e w7 ⟨rfl, hb7⟩; have hj7 : KL [(g3,46,#[.int .i64 p2x,.int .i64 p2y]),(g2,46,#[.int .i64 p1x,.int .i64 p1y]),((w.heap.size + 1 + 1 + 1),46,#[.int .i64 q2x,.int .i64 q2y]),((w.heap.size + 1 + 1),46,#[.int .i64 q1x,.int .i64 q1y]),((w.heap.size + 1),46,#[.int .i64 p2x,.int .i64 p2y]),(w.heap.size,46,#[.int .i64 p1x,.int .i64 p1y])] w w7 := KL.over hj6 hb7; obtain ⟨gL0, g0_0, g0_1⟩ := bl2 (KL.blk hj7 (.head _)); have gF0 := (KL.blk hj7 (.head _)).frozen; obtain ⟨gL1, g1_0, g1_1⟩ := bl2 (KL.blk hj7 (.tail _ (.head _))); have gF1 := (KL.blk hj7 (.tail _ (.head _))).frozen; obtain ⟨gL2, g2_0, g2_1⟩ := bl2 (KL.blk hj7 (.tail _ (.tail _ (.head _)))); have gF2 := (KL.blk hj7 (.tail _ (.tail _ (.head _)))).frozen; obtain ⟨gL3, g3_0, g3_1⟩ := bl2 (KL.blk hj7 (.tail _ (.tail _ (.tail _ (.head _))))); have gF3 := (KL.blk hj7 (.tail _ (.tail _ (.tail _ (.head _))))).frozen; obtain ⟨gL4, g4_0, g4_1⟩ := bl2 (KL.blk hj7 (.tail _ (.tail _ (.tail _ (.tail _ (.head _)))))); have gF4 := (KL.blk hj7 (.tail _ (.tail _ (.tail _ (.tail _ (.head _)))))).frozen; obtain ⟨gL5, g5_0, g5_1⟩ := bl2 (KL.blk hj7 (.tail _ (.tail _ (.tail _ (.tail _ (.tail _ (.head _))))))); have gF5 := (KL.blk hj7 (.tail _ (.tail _ (.tail _ (.tail _ (.tail _ (.head _))))))).frozen)
      | (go_at_call 52; (with_reducible refine (hB3 _).mono ?_); rintro e w8 ⟨rfl, hb8⟩; have hj8 : KL [(g3,46,#[.int .i64 q2x,.int .i64 q2y]),(g2,46,#[.int .i64 p1x,.int .i64 p1y]),((w.heap.size + 1 + 1 + 1),46,#[.int .i64 q2x,.int .i64 q2y]),((w.heap.size + 1 + 1),46,#[.int .i64 q1x,.int .i64 q1y]),((w.heap.size + 1),46,#[.int .i64 p2x,.int .i64 p2y]),(w.heap.size,46,#[.int .i64 p1x,.int .i64 p1y])] w w8 := KL.over (KL.up2 0 hj7 rfl (by omega) (by simp <;> omega)) hb8; obtain ⟨hL0, h0_0, h0_1⟩ := bl2 (KL.blk hj8 (.head _)); have hF0 := (KL.blk hj8 (.head _)).frozen; obtain ⟨hL1, h1_0, h1_1⟩ := bl2 (KL.blk hj8 (.tail _ (.head _))); have hF1 := (KL.blk hj8 (.tail _ (.head _))).frozen; obtain ⟨hL2, h2_0, h2_1⟩ := bl2 (KL.blk hj8 (.tail _ (.tail _ (.head _)))); have hF2 := (KL.blk hj8 (.tail _ (.tail _ (.head _)))).frozen; obtain ⟨hL3, h3_0, h3_1⟩ := bl2 (KL.blk hj8 (.tail _ (.tail _ (.tail _ (.head _))))); have hF3 := (KL.blk hj8 (.tail _ (.tail _ (.tail _ (.head _))))).frozen; obtain ⟨hL4, h4_0, h4_1⟩ := bl2 (KL.blk hj8 (.tail _ (.tail _ (.tail _ (.tail _ (.head _)))))); have hF4 := (KL.blk hj8 (.tail _ (.tail _ (.tail _ (.tail _ (.head _)))))).frozen; obtain ⟨hL5, h5_0, h5_1⟩ := bl2 (KL.blk hj8 (.tail _ (.tail _ (.tail _ (.tail _ (.tail _ (.head _))))))); have hF5 := (KL.blk hj8 (.tail _ (.tail _ (.tail _ (.tail _ (.tail _ (.head _))))))).frozen))
    go_ret
    exact ⟨rfl, hj8.1⟩
set_option maxHeartbeats 16000000 in
set_option maxRecDepth 100000 in
theorem refMeet_l010 (ax ay bx b_y cx cy dx dy p1x p1y p2x p2y q1x q1y q2x q2y s1 s2 : Int) (hp : (ax == bx && ay == b_y) = false) (hq : (cx == dx && cy == dy) = false) (hT1 : ∀ w, Calls Try.prog 32 #[.agg #[.int .i64 ax, .int .i64 ay], .agg #[.int .i64 bx, .int .i64 b_y], .agg #[.int .i64 cx, .int .i64 cy]] w fun e w' => e = .returned (.int .i64 s1) ∧ Below w.heap.size w w') (hT2 : ∀ w, Calls Try.prog 32 #[.agg #[.int .i64 ax, .int .i64 ay], .agg #[.int .i64 bx, .int .i64 b_y], .agg #[.int .i64 dx, .int .i64 dy]] w fun e w' => e = .returned (.int .i64 s2) ∧ Below w.heap.size w w') (z1 : s1 = 0) (z2 : s2 = 0)
    (hs1 : ∀ w, Calls Try.prog 51 #[.agg #[.int .i64 ax, .int .i64 ay], .agg #[.int .i64 bx, .int .i64 b_y]] w fun e w' => e = .returned (.tuple #[.agg #[.int .i64 p1x, .int .i64 p1y], .agg #[.int .i64 p2x, .int .i64 p2y]]) ∧ Below w.heap.size w w') (hs2 : ∀ w, Calls Try.prog 51 #[.agg #[.int .i64 cx, .int .i64 cy], .agg #[.int .i64 dx, .int .i64 dy]] w fun e w' => e = .returned (.tuple #[.agg #[.int .i64 q1x, .int .i64 q1y], .agg #[.int .i64 q2x, .int .i64 q2y]]) ∧ Below w.heap.size w w')
    (hB1 : ∀ w, Calls Try.prog 52 #[.agg #[.int .i64 p1x, .int .i64 p1y], .agg #[.int .i64 q1x, .int .i64 q1y]] w fun e w' => e = .returned (.bool false) ∧ Below w.heap.size w w') (hB2 : ∀ w, Calls Try.prog 52 #[.agg #[.int .i64 q2x, .int .i64 q2y], .agg #[.int .i64 p2x, .int .i64 p2y]] w fun e w' => e = .returned (.bool true) ∧ Below w.heap.size w w') (hB3 : ∀ w, Calls Try.prog 52 #[.agg #[.int .i64 p1x, .int .i64 p1y], .agg #[.int .i64 q2x, .int .i64 q2y]] w fun e w' => e = .returned (.bool false) ∧ Below w.heap.size w w') (he : (p1x == q2x && p1y == q2y) = false) (w : World) :
    Calls Try.prog 35 #[.agg #[.int .i64 ax, .int .i64 ay], .agg #[.int .i64 bx, .int .i64 b_y], .agg #[.int .i64 cx, .int .i64 cy], .agg #[.int .i64 dx, .int .i64 dy]] w fun e w' => e = .returned (.int .i64 0) ∧ Below w.heap.size w w' := by
  have e1 := eqP ax ay bx b_y
  have e2 := eqP cx cy dx dy
  rw [hp] at e1
  rw [hq] at e2
  clear hp hq
  have d1 : (s1 == 0) = true := by simpa using z1
  have d2 : (s2 == 0) = true := by simpa using z2
  clear z1 z2
  have e3 := eqP p1x p1y q2x q2y
  rw [he] at e3
  clear he
  go_enter Try.func35, Try.ntmps35
  go_wp2_with (first
    | (go_at_call 32; (with_reducible refine (hT1 _).mono ?_); rintro e w1 ⟨rfl, hb1⟩; have hj1 : KL [((w.heap.size + 1 + 1 + 1),46,#[.int .i64 dx,.int .i64 dy]),((w.heap.size + 1 + 1),46,#[.int .i64 cx,.int .i64 cy]),((w.heap.size + 1),46,#[.int .i64 bx,.int .i64 b_y]),(w.heap.size,46,#[.int .i64 ax,.int .i64 ay])] w w1 := KL.over (KL.new (g := (w.heap.size + 1 + 1 + 1)) (KL.new (g := (w.heap.size + 1 + 1)) (KL.new (g := (w.heap.size + 1)) (KL.new (g := w.heap.size) (KL.nil w) rfl _ _) (by simp) _ _) (by simp) _ _) (by simp) _ _) hb1; obtain ⟨aL0, a0_0, a0_1⟩ := bl2 (KL.blk hj1 (.head _)); have aF0 := (KL.blk hj1 (.head _)).frozen; obtain ⟨aL1, a1_0, a1_1⟩ := bl2 (KL.blk hj1 (.tail _ (.head _))); have aF1 := (KL.blk hj1 (.tail _ (.head _))).frozen; obtain ⟨aL2, a2_0, a2_1⟩ := bl2 (KL.blk hj1 (.tail _ (.tail _ (.head _)))); have aF2 := (KL.blk hj1 (.tail _ (.tail _ (.head _)))).frozen; obtain ⟨aL3, a3_0, a3_1⟩ := bl2 (KL.blk hj1 (.tail _ (.tail _ (.tail _ (.head _))))); have aF3 := (KL.blk hj1 (.tail _ (.tail _ (.tail _ (.head _))))).frozen)
    | (go_at_call 32; (with_reducible refine (hT2 _).mono ?_); rintro e w2 ⟨rfl, hb2⟩; have hj2 : KL [((w.heap.size + 1 + 1 + 1),46,#[.int .i64 dx,.int .i64 dy]),((w.heap.size + 1 + 1),46,#[.int .i64 cx,.int .i64 cy]),((w.heap.size + 1),46,#[.int .i64 bx,.int .i64 b_y]),(w.heap.size,46,#[.int .i64 ax,.int .i64 ay])] w w2 := KL.over hj1 hb2; obtain ⟨bL0, b0_0, b0_1⟩ := bl2 (KL.blk hj2 (.head _)); have bF0 := (KL.blk hj2 (.head _)).frozen; obtain ⟨bL1, b1_0, b1_1⟩ := bl2 (KL.blk hj2 (.tail _ (.head _))); have bF1 := (KL.blk hj2 (.tail _ (.head _))).frozen; obtain ⟨bL2, b2_0, b2_1⟩ := bl2 (KL.blk hj2 (.tail _ (.tail _ (.head _)))); have bF2 := (KL.blk hj2 (.tail _ (.tail _ (.head _)))).frozen; obtain ⟨bL3, b3_0, b3_1⟩ := bl2 (KL.blk hj2 (.tail _ (.tail _ (.tail _ (.head _))))); have bF3 := (KL.blk hj2 (.tail _ (.tail _ (.tail _ (.head _))))).frozen)
    | (go_at_call 51; (with_reducible refine (hs1 _).mono ?_); rintro e w3 ⟨rfl, hb3⟩; have hj3 : KL [((w.heap.size + 1 + 1 + 1),46,#[.int .i64 dx,.int .i64 dy]),((w.heap.size + 1 + 1),46,#[.int .i64 cx,.int .i64 cy]),((w.heap.size + 1),46,#[.int .i64 bx,.int .i64 b_y]),(w.heap.size,46,#[.int .i64 ax,.int .i64 ay])] w w3 := KL.over hj2 hb3; obtain ⟨cL0, c0_0, c0_1⟩ := bl2 (KL.blk hj3 (.head _)); have cF0 := (KL.blk hj3 (.head _)).frozen; obtain ⟨cL1, c1_0, c1_1⟩ := bl2 (KL.blk hj3 (.tail _ (.head _))); have cF1 := (KL.blk hj3 (.tail _ (.head _))).frozen; obtain ⟨cL2, c2_0, c2_1⟩ := bl2 (KL.blk hj3 (.tail _ (.tail _ (.head _)))); have cF2 := (KL.blk hj3 (.tail _ (.tail _ (.head _)))).frozen; obtain ⟨cL3, c3_0, c3_1⟩ := bl2 (KL.blk hj3 (.tail _ (.tail _ (.tail _ (.head _))))); have cF3 := (KL.blk hj3 (.tail _ (.tail _ (.tail _ (.head _))))).frozen)
    | (go_at_call 51; (with_reducible refine (hs2 _).mono ?_); rintro e w4 ⟨rfl, hb4⟩; have hj4 : KL [((w.heap.size + 1 + 1 + 1),46,#[.int .i64 dx,.int .i64 dy]),((w.heap.size + 1 + 1),46,#[.int .i64 cx,.int .i64 cy]),((w.heap.size + 1),46,#[.int .i64 p2x,.int .i64 p2y]),(w.heap.size,46,#[.int .i64 p1x,.int .i64 p1y])] w w4 := KL.over (KL.up2 2 (KL.up2 3 hj3 rfl (by omega) (by simp <;> omega)) rfl (by omega) (by simp <;> omega)) hb4; obtain ⟨dL0, d0_0, d0_1⟩ := bl2 (KL.blk hj4 (.head _)); have dF0 := (KL.blk hj4 (.head _)).frozen; obtain ⟨dL1, d1_0, d1_1⟩ := bl2 (KL.blk hj4 (.tail _ (.head _))); have dF1 := (KL.blk hj4 (.tail _ (.head _))).frozen; obtain ⟨dL2, d2_0, d2_1⟩ := bl2 (KL.blk hj4 (.tail _ (.tail _ (.head _)))); have dF2 := (KL.blk hj4 (.tail _ (.tail _ (.head _)))).frozen; obtain ⟨dL3, d3_0, d3_1⟩ := bl2 (KL.blk hj4 (.tail _ (.tail _ (.tail _ (.head _))))); have dF3 := (KL.blk hj4 (.tail _ (.tail _ (.tail _ (.head _))))).frozen))
  refine wp_region_any (by kernel_rfl) ?_
  try (change wpAny _ _ _ _ _ _ _ (World.drew _))
  refine wpAny_alloc (fr := fun o => #[.agg #[.int .i64 ax,.int .i64 ay], .agg #[.int .i64 bx,.int .i64 b_y], .agg #[.int .i64 cx,.int .i64 cy], .agg #[.int .i64 dx,.int .i64 dy], .pointer (some ⟨w.heap.size, 0, none⟩), .pointer (some ⟨(w.heap.size + 1), 0, none⟩), .pointer (some ⟨(w.heap.size + 1 + 1), 0, none⟩), .pointer (some ⟨(w.heap.size + 1 + 1 + 1), 0, none⟩), .int .i64 0, o 2, o 3, .agg #[.int .i64 ax,.int .i64 ay], .agg #[.int .i64 bx,.int .i64 b_y], .bool false, .bool false, .agg #[.int .i64 cx,.int .i64 cy], .agg #[.int .i64 dx,.int .i64 dy], .bool false, .bool false, undef, undef, undef, undef, undef, undef, undef, undef, undef, undef, undef, undef, undef, undef, undef, undef, undef, undef, undef, undef, .agg #[.int .i64 ax,.int .i64 ay], .agg #[.int .i64 bx,.int .i64 b_y], .agg #[.int .i64 cx,.int .i64 cy], .int .i64 s1, .bool true, .bool true, .agg #[.int .i64 ax,.int .i64 ay], .agg #[.int .i64 bx,.int .i64 b_y], .agg #[.int .i64 dx,.int .i64 dy], .int .i64 s2, .bool true, .bool true, .tuple #[.agg #[.int .i64 p1x,.int .i64 p1y],.agg #[.int .i64 p2x,.int .i64 p2y]], .agg #[.int .i64 ax,.int .i64 ay], .agg #[.int .i64 bx,.int .i64 b_y], .tuple #[.agg #[.int .i64 p1x,.int .i64 p1y],.agg #[.int .i64 p2x,.int .i64 p2y]], .agg #[.int .i64 p1x,.int .i64 p1y], .agg #[.int .i64 p2x,.int .i64 p2y], .tuple #[.agg #[.int .i64 q1x,.int .i64 q1y],.agg #[.int .i64 q2x,.int .i64 q2y]], .agg #[.int .i64 cx,.int .i64 cy], .agg #[.int .i64 dx,.int .i64 dy], .tuple #[.agg #[.int .i64 q1x,.int .i64 q1y],.agg #[.int .i64 q2x,.int .i64 q2y]], .agg #[.int .i64 q1x,.int .i64 q1y], .agg #[.int .i64 q2x,.int .i64 q2y], o 0, o 1, undef, undef, undef, undef, undef, undef, undef, undef, undef, undef, undef, undef, undef, undef, undef, undef, undef, undef, undef, undef, undef, undef, undef, undef, undef, undef, undef, undef, undef, undef, undef, undef, undef, undef, undef, undef]) (vals := fun i_ => ([.agg #[.int .i64 p1x,.int .i64 p1y], .agg #[.int .i64 p2x,.int .i64 p2y], undef, undef, undef, undef] : List Value).getD i_ undef) (K := fun W_ => KL [((w.heap.size + 1 + 1 + 1),46,#[.int .i64 q2x,.int .i64 q2y]),((w.heap.size + 1 + 1),46,#[.int .i64 q1x,.int .i64 q1y]),((w.heap.size + 1),46,#[.int .i64 p2x,.int .i64 p2y]),(w.heap.size,46,#[.int .i64 p1x,.int .i64 p1y])] w W_) (dep := fun i_ => [[], [], [], [], [0, 2, 3], [0, 1, 2, 3, 4]].getD i_ []) (dv := fun i_ => [[], [], [], [], [0], [1]].getD i_ []) (kd := fun i_ => [1, 1, 2, 2, 3, 4].getD i_ 0) (sa := fun i_ => [2, 3].getD i_ 0) (ss := [4, 5]) (al := [2, 3]) (l := [0, 1, 2, 3, 4, 5]) (f0 := fun i_ => ([undef,undef,undef,undef,undef,undef] : List Value).getD i_ undef) (B := w.heap.size + 1 + 1 + 1 + 1) (T := 46) (z := #[.int .i64 0, .int .i64 0]) (cont := fun t_ j_ => if j_ = 2 then (if 0 < t_ then #[.int .i64 p1x, .int .i64 p1y] else #[.int .i64 0, .int .i64 0]) else if j_ = 3 then (if 1 < t_ then #[.int .i64 p2x, .int .i64 p2y] else #[.int .i64 0, .int .i64 0]) else #[.int .i64 0, .int .i64 0]) (A := fun g_ => ⟨#[.agg #[.int .i64 ax,.int .i64 ay], .agg #[.int .i64 bx,.int .i64 b_y], .agg #[.int .i64 cx,.int .i64 cy], .agg #[.int .i64 dx,.int .i64 dy], .pointer (some ⟨w.heap.size, 0, none⟩), .pointer (some ⟨(w.heap.size + 1), 0, none⟩), .pointer (some ⟨(w.heap.size + 1 + 1), 0, none⟩), .pointer (some ⟨(w.heap.size + 1 + 1 + 1), 0, none⟩), .int .i64 0, ptrV (g_ 2), ptrV (g_ 3), .agg #[.int .i64 ax,.int .i64 ay], .agg #[.int .i64 bx,.int .i64 b_y], .bool false, .bool false, .agg #[.int .i64 cx,.int .i64 cy], .agg #[.int .i64 dx,.int .i64 dy], .bool false, .bool false, undef, undef, undef, undef, undef, undef, undef, undef, undef, undef, undef, undef, undef, undef, undef, undef, undef, undef, undef, undef, .agg #[.int .i64 ax,.int .i64 ay], .agg #[.int .i64 bx,.int .i64 b_y], .agg #[.int .i64 cx,.int .i64 cy], .int .i64 s1, .bool true, .bool true, .agg #[.int .i64 ax,.int .i64 ay], .agg #[.int .i64 bx,.int .i64 b_y], .agg #[.int .i64 dx,.int .i64 dy], .int .i64 s2, .bool true, .bool true, .tuple #[.agg #[.int .i64 p1x,.int .i64 p1y],.agg #[.int .i64 p2x,.int .i64 p2y]], .agg #[.int .i64 ax,.int .i64 ay], .agg #[.int .i64 bx,.int .i64 b_y], .tuple #[.agg #[.int .i64 p1x,.int .i64 p1y],.agg #[.int .i64 p2x,.int .i64 p2y]], .agg #[.int .i64 p1x,.int .i64 p1y], .agg #[.int .i64 p2x,.int .i64 p2y], .tuple #[.agg #[.int .i64 q1x,.int .i64 q1y],.agg #[.int .i64 q2x,.int .i64 q2y]], .agg #[.int .i64 cx,.int .i64 cy], .agg #[.int .i64 dx,.int .i64 dy], .tuple #[.agg #[.int .i64 q1x,.int .i64 q1y],.agg #[.int .i64 q2x,.int .i64 q2y]], .agg #[.int .i64 q1x,.int .i64 q1y], .agg #[.int .i64 q2x,.int .i64 q2y], .agg #[.int .i64 p1x,.int .i64 p1y], .agg #[.int .i64 p2x,.int .i64 p2y], undef, undef, undef, undef, undef, undef, undef, undef, undef, undef, undef, undef, undef, undef, undef, undef, undef, undef, undef, undef, undef, undef, undef, undef, undef, undef, undef, undef, undef, undef, undef, undef, undef, undef, undef, undef], []⟩) 6 rfl rfl (by decide +kernel) (by decide +kernel) ?_ ?_ ?_ ?_ (fun _ h_ => KL.alloc h_ _) ⟨?_, ?_, ?_, ?_, ?_, ?_, trivial⟩ ?_ ?_
  · exact KL.drew (KL.up2 0 (KL.up2 1 hj4 rfl (by omega) (by simp <;> omega)) rfl (by omega) (by simp <;> omega))
  · first | exact Nat.le_refl _ | (simp; done) | (simp <;> omega) | (show _ ≤ World.heap.size _; omega) | omega
  · intro j_ hj_; simp only [List.mem_cons, List.not_mem_nil, or_false] at hj_; rcases hj_ with rfl | rfl <;> rfl
  · intro t_ ht_ j_ hj_ hn_; simp only [List.mem_cons, List.not_mem_nil, or_false] at hj_; rcases hj_ with rfl | rfl <;> rcases t_ with _ | _ | _ <;> first | rfl | exact absurd rfl hn_ | exact absurd ht_ (by simp)
  · intro o W hj
    have hj : KL _ _ W := hj
    obtain ⟨cL, c0, c1⟩ := bl2 (KL.blk hj (.tail _ (.tail _ (.tail _ (.head _)))))
    show wpOp _ _ _ 0 _ ⟨#[_,_,_,_,_,_,_,_,_,o 2,o 3,_,_,_,_,_,_,_,_,_,_,_,_,_,_,_,_,_,_,_,_,_,_,_,_,_,_,_,_,_,_,_,_,_,_,_,_,_,_,_,_,_,_,_,_,_,_,_,_,_,_,_,_,o 0,o 1,_,_,_,_,_,_,_,_,_,_,_,_,_,_,_,_,_,_,_,_,_,_,_,_,_,_,_,_,_,_,_,_,_,_,_,_], []⟩ W
    refine wpOp_step rfl (fun K' hK => ?_)
    go_simp
    exact hK _ _ ⟨rfl, hj, Below.refl _ _⟩
  · intro o W hj
    have hj : KL _ _ W := hj
    obtain ⟨cL, c0, c1⟩ := bl2 (KL.blk hj (.tail _ (.tail _ (.head _))))
    show wpOp _ _ _ 1 _ ⟨#[_,_,_,_,_,_,_,_,_,o 2,o 3,_,_,_,_,_,_,_,_,_,_,_,_,_,_,_,_,_,_,_,_,_,_,_,_,_,_,_,_,_,_,_,_,_,_,_,_,_,_,_,_,_,_,_,_,_,_,_,_,_,_,_,_,o 0,o 1,_,_,_,_,_,_,_,_,_,_,_,_,_,_,_,_,_,_,_,_,_,_,_,_,_,_,_,_,_,_,_,_,_,_,_,_], []⟩ W
    refine wpOp_step rfl (fun K' hK => ?_)
    go_simp
    exact hK _ _ ⟨rfl, hj, Below.refl _ _⟩
  · intro o W
    show wpOp _ _ _ 2 _ ⟨#[_,_,_,_,_,_,_,_,_,o 2,o 3,_,_,_,_,_,_,_,_,_,_,_,_,_,_,_,_,_,_,_,_,_,_,_,_,_,_,_,_,_,_,_,_,_,_,_,_,_,_,_,_,_,_,_,_,_,_,_,_,_,_,_,_,o 0,o 1,_,_,_,_,_,_,_,_,_,_,_,_,_,_,_,_,_,_,_,_,_,_,_,_,_,_,_,_,_,_,_,_,_,_,_,_], []⟩ W
    refine wpOp_step rfl (fun K' hK => ?_)
    go_simp
    exact hK _ _ ⟨rfl, rfl⟩
  · intro o W
    show wpOp _ _ _ 3 _ ⟨#[_,_,_,_,_,_,_,_,_,o 2,o 3,_,_,_,_,_,_,_,_,_,_,_,_,_,_,_,_,_,_,_,_,_,_,_,_,_,_,_,_,_,_,_,_,_,_,_,_,_,_,_,_,_,_,_,_,_,_,_,_,_,_,_,_,o 0,o 1,_,_,_,_,_,_,_,_,_,_,_,_,_,_,_,_,_,_,_,_,_,_,_,_,_,_,_,_,_,_,_,_,_,_,_,_], []⟩ W
    refine wpOp_step rfl (fun K' hK => ?_)
    go_simp
    exact hK _ _ ⟨rfl, rfl⟩
  · intro o W g_ hj hg_ hb_
    have hj : KL _ _ W := hj
    have hb_ : Blk W g_ 46 #[.int .i64 0, .int .i64 0] := hb_
    obtain ⟨cL, c0, c1⟩ := bl2 hb_
    have cF := hb_.frozen
    show wpOp _ _ _ 4 _ ⟨#[_,_,_,_,_,_,_,_,_,.pointer (some ⟨g_, 0, none⟩),o 3,_,_,_,_,_,_,_,_,_,_,_,_,_,_,_,_,_,_,_,_,_,_,_,_,_,_,_,_,_,_,_,_,_,_,_,_,_,_,_,_,_,_,_,_,_,_,_,_,_,_,_,_,.agg #[.int .i64 p1x,.int .i64 p1y],o 1,_,_,_,_,_,_,_,_,_,_,_,_,_,_,_,_,_,_,_,_,_,_,_,_,_,_,_,_,_,_,_,_,_,_,_,_], []⟩ W
    refine wpOp_step rfl (fun K' hK => ?_)
    go_simp
    exact hK _ _ ⟨rfl, st2 hj (by omega) (by simp <;> omega) hb_⟩
  · intro o W g_ hj hg_ hb_
    have hj : KL _ _ W := hj
    have hb_ : Blk W g_ 46 #[.int .i64 0, .int .i64 0] := hb_
    obtain ⟨cL, c0, c1⟩ := bl2 hb_
    have cF := hb_.frozen
    show wpOp _ _ _ 5 _ ⟨#[_,_,_,_,_,_,_,_,_,o 2,.pointer (some ⟨g_, 0, none⟩),_,_,_,_,_,_,_,_,_,_,_,_,_,_,_,_,_,_,_,_,_,_,_,_,_,_,_,_,_,_,_,_,_,_,_,_,_,_,_,_,_,_,_,_,_,_,_,_,_,_,_,_,o 0,.agg #[.int .i64 p2x,.int .i64 p2y],_,_,_,_,_,_,_,_,_,_,_,_,_,_,_,_,_,_,_,_,_,_,_,_,_,_,_,_,_,_,_,_,_,_,_,_], []⟩ W
    refine wpOp_step rfl (fun K' hK => ?_)
    go_simp
    exact hK _ _ ⟨rfl, st2 hj (by omega) (by simp <;> omega) hb_⟩
  · intro o g_ hh_ hp_
    have e0 : o 0 = .agg #[.int .i64 p1x,.int .i64 p1y] := hh_ 0 (by decide) (by simp)
    have e1 : o 1 = .agg #[.int .i64 p2x,.int .i64 p2y] := hh_ 1 (by decide) (by simp)
    have e2 : o 2 = ptrV (g_ 2) := hp_ 2 (by simp)
    have e3 : o 3 = ptrV (g_ 3) := hp_ 3 (by simp)
    rw [e0, e1, e2, e3]
  · intro W5 g_ h5 ho_ hn_
    have h5 : KL _ _ W5 := h5
    obtain ⟨bg2, Bg2⟩ := ho_ 2 (by simp)
    have Bg2 : Blk W5 (g_ 2) 46 #[.int .i64 p1x, .int .i64 p1y] := Bg2
    obtain ⟨bg3, Bg3⟩ := ho_ 3 (by simp)
    have Bg3 : Blk W5 (g_ 3) 46 #[.int .i64 p2x, .int .i64 p2y] := Bg3
    have ng2g3 := hn_ 2 (by simp) 3 (by simp) (by decide)
    clear ho_ hn_
    dsimp only [ptrV]
    generalize g_ 2 = g2 at *
    generalize g_ 3 = g3 at *
    have h5 := KL.cons Bg2 h5
    have h5 := KL.cons Bg3 h5
    clear Bg2 Bg3
    obtain ⟨eL0, e0_0, e0_1⟩ := bl2 (KL.blk h5 (.head _))
    have eF0 := (KL.blk h5 (.head _)).frozen
    obtain ⟨eL1, e1_0, e1_1⟩ := bl2 (KL.blk h5 (.tail _ (.head _)))
    have eF1 := (KL.blk h5 (.tail _ (.head _))).frozen
    obtain ⟨eL2, e2_0, e2_1⟩ := bl2 (KL.blk h5 (.tail _ (.tail _ (.head _))))
    have eF2 := (KL.blk h5 (.tail _ (.tail _ (.head _)))).frozen
    obtain ⟨eL3, e3_0, e3_1⟩ := bl2 (KL.blk h5 (.tail _ (.tail _ (.tail _ (.head _)))))
    have eF3 := (KL.blk h5 (.tail _ (.tail _ (.tail _ (.head _))))).frozen
    obtain ⟨eL4, e4_0, e4_1⟩ := bl2 (KL.blk h5 (.tail _ (.tail _ (.tail _ (.tail _ (.head _))))))
    have eF4 := (KL.blk h5 (.tail _ (.tail _ (.tail _ (.tail _ (.head _)))))).frozen
    obtain ⟨eL5, e5_0, e5_1⟩ := bl2 (KL.blk h5 (.tail _ (.tail _ (.tail _ (.tail _ (.tail _ (.head _)))))))
    have eF5 := (KL.blk h5 (.tail _ (.tail _ (.tail _ (.tail _ (.tail _ (.head _))))))).frozen
    have hjb := h5.1
    have hjz := hjb.size
    have hnn : g2 ≠ g3 := by first | assumption | exact Ne.symm (by assumption) | omega
    go_wp2_with (first
      | (go_at_call 52; (with_reducible refine (hB1 _).mono ?_); rintro e w6 ⟨rfl, hb6⟩; have hj6 : KL [(g3,46,#[.int .i64 p2x,.int .i64 p2y]),(g2,46,#[.int .i64 p1x,.int .i64 p1y]),((w.heap.size + 1 + 1 + 1),46,#[.int .i64 q2x,.int .i64 q2y]),((w.heap.size + 1 + 1),46,#[.int .i64 q1x,.int .i64 q1y]),((w.heap.size + 1),46,#[.int .i64 p2x,.int .i64 p2y]),(w.heap.size,46,#[.int .i64 p1x,.int .i64 p1y])] w w6 := KL.over h5 hb6; obtain ⟨fL0, f0_0, f0_1⟩ := bl2 (KL.blk hj6 (.head _)); have fF0 := (KL.blk hj6 (.head _)).frozen; obtain ⟨fL1, f1_0, f1_1⟩ := bl2 (KL.blk hj6 (.tail _ (.head _))); have fF1 := (KL.blk hj6 (.tail _ (.head _))).frozen; obtain ⟨fL2, f2_0, f2_1⟩ := bl2 (KL.blk hj6 (.tail _ (.tail _ (.head _)))); have fF2 := (KL.blk hj6 (.tail _ (.tail _ (.head _)))).frozen; obtain ⟨fL3, f3_0, f3_1⟩ := bl2 (KL.blk hj6 (.tail _ (.tail _ (.tail _ (.head _))))); have fF3 := (KL.blk hj6 (.tail _ (.tail _ (.tail _ (.head _))))).frozen; obtain ⟨fL4, f4_0, f4_1⟩ := bl2 (KL.blk hj6 (.tail _ (.tail _ (.tail _ (.tail _ (.head _)))))); have fF4 := (KL.blk hj6 (.tail _ (.tail _ (.tail _ (.tail _ (.head _)))))).frozen; obtain ⟨fL5, f5_0, f5_1⟩ := bl2 (KL.blk hj6 (.tail _ (.tail _ (.tail _ (.tail _ (.tail _ (.head _))))))); have fF5 := (KL.blk hj6 (.tail _ (.tail _ (.tail _ (.tail _ (.tail _ (.head _))))))).frozen)
      | (go_at_call 52; (with_reducible refine (hB2 _).mono ?_); rintro e w7 ⟨rfl, hb7⟩; have hj7 : KL [(g3,46,#[.int .i64 p2x,.int .i64 p2y]),(g2,46,#[.int .i64 p1x,.int .i64 p1y]),((w.heap.size + 1 + 1 + 1),46,#[.int .i64 q2x,.int .i64 q2y]),((w.heap.size + 1 + 1),46,#[.int .i64 q1x,.int .i64 q1y]),((w.heap.size + 1),46,#[.int .i64 p2x,.int .i64 p2y]),(w.heap.size,46,#[.int .i64 p1x,.int .i64 p1y])] w w7 := KL.over hj6 hb7; obtain ⟨gL0, g0_0, g0_1⟩ := bl2 (KL.blk hj7 (.head _)); have gF0 := (KL.blk hj7 (.head _)).frozen; obtain ⟨gL1, g1_0, g1_1⟩ := bl2 (KL.blk hj7 (.tail _ (.head _))); have gF1 := (KL.blk hj7 (.tail _ (.head _))).frozen; obtain ⟨gL2, g2_0, g2_1⟩ := bl2 (KL.blk hj7 (.tail _ (.tail _ (.head _)))); have gF2 := (KL.blk hj7 (.tail _ (.tail _ (.head _)))).frozen; obtain ⟨gL3, g3_0, g3_1⟩ := bl2 (KL.blk hj7 (.tail _ (.tail _ (.tail _ (.head _))))); have gF3 := (KL.blk hj7 (.tail _ (.tail _ (.tail _ (.head _))))).frozen; obtain ⟨gL4, g4_0, g4_1⟩ := bl2 (KL.blk hj7 (.tail _ (.tail _ (.tail _ (.tail _ (.head _)))))); have gF4 := (KL.blk hj7 (.tail _ (.tail _ (.tail _ (.tail _ (.head _)))))).frozen; obtain ⟨gL5, g5_0, g5_1⟩ := bl2 (KL.blk hj7 (.tail _ (.tail _ (.tail _ (.tail _ (.tail _ (.head _))))))); have gF5 := (KL.blk hj7 (.tail _ (.tail _ (.tail _ (.tail _ (.tail _ (.head _))))))).frozen)
      | (go_at_call 52; (with_reducible refine (hB3 _).mono ?_); rintro e w8 ⟨rfl, hb8⟩; have hj8 : KL [(g3,46,#[.int .i64 q2x,.int .i64 q2y]),(g2,46,#[.int .i64 p1x,.int .i64 p1y]),((w.heap.size + 1 + 1 + 1),46,#[.int .i64 q2x,.int .i64 q2y]),((w.heap.size + 1 + 1),46,#[.int .i64 q1x,.int .i64 q1y]),((w.heap.size + 1),46,#[.int .i64 p2x,.int .i64 p2y]),(w.heap.size,46,#[.int .i64 p1x,.int .i64 p1y])] w w8 := KL.over (KL.up2 0 hj7 rfl (by omega) (by simp <;> omega)) hb8; obtain ⟨hL0, h0_0, h0_1⟩ := bl2 (KL.blk hj8 (.head _)); have hF0 := (KL.blk hj8 (.head _)).frozen; obtain ⟨hL1, h1_0, h1_1⟩ := bl2 (KL.blk hj8 (.tail _ (.head _))); have hF1 := (KL.blk hj8 (.tail _ (.head _))).frozen; obtain ⟨hL2, h2_0, h2_1⟩ := bl2 (KL.blk hj8 (.tail _ (.tail _ (.head _)))); have hF2 := (KL.blk hj8 (.tail _ (.tail _ (.head _)))).frozen; obtain ⟨hL3, h3_0, h3_1⟩ := bl2 (KL.blk hj8 (.tail _ (.tail _ (.tail _ (.head _))))); have hF3 := (KL.blk hj8 (.tail _ (.tail _ (.tail _ (.head _))))).frozen; obtain ⟨hL4, h4_0, h4_1⟩ := bl2 (KL.blk hj8 (.tail _ (.tail _ (.tail _ (.tail _ (.head _)))))); have hF4 := (KL.blk hj8 (.tail _ (.tail _ (.tail _ (.tail _ (.head _)))))).frozen; obtain ⟨hL5, h5_0, h5_1⟩ := bl2 (KL.blk hj8 (.tail _ (.tail _ (.tail _ (.tail _ (.tail _ (.head _))))))); have hF5 := (KL.blk hj8 (.tail _ (.tail _ (.tail _ (.tail _ (.tail _ (.head _))))))).frozen))
    go_ret
    exact ⟨rfl, hj8.1⟩
set_option maxHeartbeats 16000000 in
set_option maxRecDepth 100000 in
theorem refMeet_l102 (ax ay bx b_y cx cy dx dy p1x p1y p2x p2y q1x q1y q2x q2y s1 s2 : Int) (hp : (ax == bx && ay == b_y) = false) (hq : (cx == dx && cy == dy) = false) (hT1 : ∀ w, Calls Try.prog 32 #[.agg #[.int .i64 ax, .int .i64 ay], .agg #[.int .i64 bx, .int .i64 b_y], .agg #[.int .i64 cx, .int .i64 cy]] w fun e w' => e = .returned (.int .i64 s1) ∧ Below w.heap.size w w') (hT2 : ∀ w, Calls Try.prog 32 #[.agg #[.int .i64 ax, .int .i64 ay], .agg #[.int .i64 bx, .int .i64 b_y], .agg #[.int .i64 dx, .int .i64 dy]] w fun e w' => e = .returned (.int .i64 s2) ∧ Below w.heap.size w w') (z1 : s1 = 0) (z2 : s2 = 0)
    (hs1 : ∀ w, Calls Try.prog 51 #[.agg #[.int .i64 ax, .int .i64 ay], .agg #[.int .i64 bx, .int .i64 b_y]] w fun e w' => e = .returned (.tuple #[.agg #[.int .i64 p1x, .int .i64 p1y], .agg #[.int .i64 p2x, .int .i64 p2y]]) ∧ Below w.heap.size w w') (hs2 : ∀ w, Calls Try.prog 51 #[.agg #[.int .i64 cx, .int .i64 cy], .agg #[.int .i64 dx, .int .i64 dy]] w fun e w' => e = .returned (.tuple #[.agg #[.int .i64 q1x, .int .i64 q1y], .agg #[.int .i64 q2x, .int .i64 q2y]]) ∧ Below w.heap.size w w')
    (hB1 : ∀ w, Calls Try.prog 52 #[.agg #[.int .i64 p1x, .int .i64 p1y], .agg #[.int .i64 q1x, .int .i64 q1y]] w fun e w' => e = .returned (.bool true) ∧ Below w.heap.size w w') (hB2 : ∀ w, Calls Try.prog 52 #[.agg #[.int .i64 q2x, .int .i64 q2y], .agg #[.int .i64 p2x, .int .i64 p2y]] w fun e w' => e = .returned (.bool false) ∧ Below w.heap.size w w') (hB3 : ∀ w, Calls Try.prog 52 #[.agg #[.int .i64 q1x, .int .i64 q1y], .agg #[.int .i64 p2x, .int .i64 p2y]] w fun e w' => e = .returned (.bool true) ∧ Below w.heap.size w w') (w : World) :
    Calls Try.prog 35 #[.agg #[.int .i64 ax, .int .i64 ay], .agg #[.int .i64 bx, .int .i64 b_y], .agg #[.int .i64 cx, .int .i64 cy], .agg #[.int .i64 dx, .int .i64 dy]] w fun e w' => e = .returned (.int .i64 2) ∧ Below w.heap.size w w' := by
  have e1 := eqP ax ay bx b_y
  have e2 := eqP cx cy dx dy
  rw [hp] at e1
  rw [hq] at e2
  clear hp hq
  have d1 : (s1 == 0) = true := by simpa using z1
  have d2 : (s2 == 0) = true := by simpa using z2
  clear z1 z2
  
  
  
  go_enter Try.func35, Try.ntmps35
  go_wp2_with (first
    | (go_at_call 32; (with_reducible refine (hT1 _).mono ?_); rintro e w1 ⟨rfl, hb1⟩; have hj1 : KL [((w.heap.size + 1 + 1 + 1),46,#[.int .i64 dx,.int .i64 dy]),((w.heap.size + 1 + 1),46,#[.int .i64 cx,.int .i64 cy]),((w.heap.size + 1),46,#[.int .i64 bx,.int .i64 b_y]),(w.heap.size,46,#[.int .i64 ax,.int .i64 ay])] w w1 := KL.over (KL.new (g := (w.heap.size + 1 + 1 + 1)) (KL.new (g := (w.heap.size + 1 + 1)) (KL.new (g := (w.heap.size + 1)) (KL.new (g := w.heap.size) (KL.nil w) rfl _ _) (by simp) _ _) (by simp) _ _) (by simp) _ _) hb1; obtain ⟨aL0, a0_0, a0_1⟩ := bl2 (KL.blk hj1 (.head _)); have aF0 := (KL.blk hj1 (.head _)).frozen; obtain ⟨aL1, a1_0, a1_1⟩ := bl2 (KL.blk hj1 (.tail _ (.head _))); have aF1 := (KL.blk hj1 (.tail _ (.head _))).frozen; obtain ⟨aL2, a2_0, a2_1⟩ := bl2 (KL.blk hj1 (.tail _ (.tail _ (.head _)))); have aF2 := (KL.blk hj1 (.tail _ (.tail _ (.head _)))).frozen; obtain ⟨aL3, a3_0, a3_1⟩ := bl2 (KL.blk hj1 (.tail _ (.tail _ (.tail _ (.head _))))); have aF3 := (KL.blk hj1 (.tail _ (.tail _ (.tail _ (.head _))))).frozen)
    | (go_at_call 32; (with_reducible refine (hT2 _).mono ?_); rintro e w2 ⟨rfl, hb2⟩; have hj2 : KL [((w.heap.size + 1 + 1 + 1),46,#[.int .i64 dx,.int .i64 dy]),((w.heap.size + 1 + 1),46,#[.int .i64 cx,.int .i64 cy]),((w.heap.size + 1),46,#[.int .i64 bx,.int .i64 b_y]),(w.heap.size,46,#[.int .i64 ax,.int .i64 ay])] w w2 := KL.over hj1 hb2; obtain ⟨bL0, b0_0, b0_1⟩ := bl2 (KL.blk hj2 (.head _)); have bF0 := (KL.blk hj2 (.head _)).frozen; obtain ⟨bL1, b1_0, b1_1⟩ := bl2 (KL.blk hj2 (.tail _ (.head _))); have bF1 := (KL.blk hj2 (.tail _ (.head _))).frozen; obtain ⟨bL2, b2_0, b2_1⟩ := bl2 (KL.blk hj2 (.tail _ (.tail _ (.head _)))); have bF2 := (KL.blk hj2 (.tail _ (.tail _ (.head _)))).frozen; obtain ⟨bL3, b3_0, b3_1⟩ := bl2 (KL.blk hj2 (.tail _ (.tail _ (.tail _ (.head _))))); have bF3 := (KL.blk hj2 (.tail _ (.tail _ (.tail _ (.head _))))).frozen)
    | (go_at_call 51; (with_reducible refine (hs1 _).mono ?_); rintro e w3 ⟨rfl, hb3⟩; have hj3 : KL [((w.heap.size + 1 + 1 + 1),46,#[.int .i64 dx,.int .i64 dy]),((w.heap.size + 1 + 1),46,#[.int .i64 cx,.int .i64 cy]),((w.heap.size + 1),46,#[.int .i64 bx,.int .i64 b_y]),(w.heap.size,46,#[.int .i64 ax,.int .i64 ay])] w w3 := KL.over hj2 hb3; obtain ⟨cL0, c0_0, c0_1⟩ := bl2 (KL.blk hj3 (.head _)); have cF0 := (KL.blk hj3 (.head _)).frozen; obtain ⟨cL1, c1_0, c1_1⟩ := bl2 (KL.blk hj3 (.tail _ (.head _))); have cF1 := (KL.blk hj3 (.tail _ (.head _))).frozen; obtain ⟨cL2, c2_0, c2_1⟩ := bl2 (KL.blk hj3 (.tail _ (.tail _ (.head _)))); have cF2 := (KL.blk hj3 (.tail _ (.tail _ (.head _)))).frozen; obtain ⟨cL3, c3_0, c3_1⟩ := bl2 (KL.blk hj3 (.tail _ (.tail _ (.tail _ (.head _))))); have cF3 := (KL.blk hj3 (.tail _ (.tail _ (.tail _ (.head _))))).frozen)
    | (go_at_call 51; (with_reducible refine (hs2 _).mono ?_); rintro e w4 ⟨rfl, hb4⟩; have hj4 : KL [((w.heap.size + 1 + 1 + 1),46,#[.int .i64 dx,.int .i64 dy]),((w.heap.size + 1 + 1),46,#[.int .i64 cx,.int .i64 cy]),((w.heap.size + 1),46,#[.int .i64 p2x,.int .i64 p2y]),(w.heap.size,46,#[.int .i64 p1x,.int .i64 p1y])] w w4 := KL.over (KL.up2 2 (KL.up2 3 hj3 rfl (by omega) (by simp <;> omega)) rfl (by omega) (by simp <;> omega)) hb4; obtain ⟨dL0, d0_0, d0_1⟩ := bl2 (KL.blk hj4 (.head _)); have dF0 := (KL.blk hj4 (.head _)).frozen; obtain ⟨dL1, d1_0, d1_1⟩ := bl2 (KL.blk hj4 (.tail _ (.head _))); have dF1 := (KL.blk hj4 (.tail _ (.head _))).frozen; obtain ⟨dL2, d2_0, d2_1⟩ := bl2 (KL.blk hj4 (.tail _ (.tail _ (.head _)))); have dF2 := (KL.blk hj4 (.tail _ (.tail _ (.head _)))).frozen; obtain ⟨dL3, d3_0, d3_1⟩ := bl2 (KL.blk hj4 (.tail _ (.tail _ (.tail _ (.head _))))); have dF3 := (KL.blk hj4 (.tail _ (.tail _ (.tail _ (.head _))))).frozen))
  refine wp_region_any (by kernel_rfl) ?_
  try (change wpAny _ _ _ _ _ _ _ (World.drew _))
  refine wpAny_alloc (fr := fun o => #[.agg #[.int .i64 ax,.int .i64 ay], .agg #[.int .i64 bx,.int .i64 b_y], .agg #[.int .i64 cx,.int .i64 cy], .agg #[.int .i64 dx,.int .i64 dy], .pointer (some ⟨w.heap.size, 0, none⟩), .pointer (some ⟨(w.heap.size + 1), 0, none⟩), .pointer (some ⟨(w.heap.size + 1 + 1), 0, none⟩), .pointer (some ⟨(w.heap.size + 1 + 1 + 1), 0, none⟩), .int .i64 0, o 2, o 3, .agg #[.int .i64 ax,.int .i64 ay], .agg #[.int .i64 bx,.int .i64 b_y], .bool false, .bool false, .agg #[.int .i64 cx,.int .i64 cy], .agg #[.int .i64 dx,.int .i64 dy], .bool false, .bool false, undef, undef, undef, undef, undef, undef, undef, undef, undef, undef, undef, undef, undef, undef, undef, undef, undef, undef, undef, undef, .agg #[.int .i64 ax,.int .i64 ay], .agg #[.int .i64 bx,.int .i64 b_y], .agg #[.int .i64 cx,.int .i64 cy], .int .i64 s1, .bool true, .bool true, .agg #[.int .i64 ax,.int .i64 ay], .agg #[.int .i64 bx,.int .i64 b_y], .agg #[.int .i64 dx,.int .i64 dy], .int .i64 s2, .bool true, .bool true, .tuple #[.agg #[.int .i64 p1x,.int .i64 p1y],.agg #[.int .i64 p2x,.int .i64 p2y]], .agg #[.int .i64 ax,.int .i64 ay], .agg #[.int .i64 bx,.int .i64 b_y], .tuple #[.agg #[.int .i64 p1x,.int .i64 p1y],.agg #[.int .i64 p2x,.int .i64 p2y]], .agg #[.int .i64 p1x,.int .i64 p1y], .agg #[.int .i64 p2x,.int .i64 p2y], .tuple #[.agg #[.int .i64 q1x,.int .i64 q1y],.agg #[.int .i64 q2x,.int .i64 q2y]], .agg #[.int .i64 cx,.int .i64 cy], .agg #[.int .i64 dx,.int .i64 dy], .tuple #[.agg #[.int .i64 q1x,.int .i64 q1y],.agg #[.int .i64 q2x,.int .i64 q2y]], .agg #[.int .i64 q1x,.int .i64 q1y], .agg #[.int .i64 q2x,.int .i64 q2y], o 0, o 1, undef, undef, undef, undef, undef, undef, undef, undef, undef, undef, undef, undef, undef, undef, undef, undef, undef, undef, undef, undef, undef, undef, undef, undef, undef, undef, undef, undef, undef, undef, undef, undef, undef, undef, undef, undef]) (vals := fun i_ => ([.agg #[.int .i64 p1x,.int .i64 p1y], .agg #[.int .i64 p2x,.int .i64 p2y], undef, undef, undef, undef] : List Value).getD i_ undef) (K := fun W_ => KL [((w.heap.size + 1 + 1 + 1),46,#[.int .i64 q2x,.int .i64 q2y]),((w.heap.size + 1 + 1),46,#[.int .i64 q1x,.int .i64 q1y]),((w.heap.size + 1),46,#[.int .i64 p2x,.int .i64 p2y]),(w.heap.size,46,#[.int .i64 p1x,.int .i64 p1y])] w W_) (dep := fun i_ => [[], [], [], [], [0, 2, 3], [0, 1, 2, 3, 4]].getD i_ []) (dv := fun i_ => [[], [], [], [], [0], [1]].getD i_ []) (kd := fun i_ => [1, 1, 2, 2, 3, 4].getD i_ 0) (sa := fun i_ => [2, 3].getD i_ 0) (ss := [4, 5]) (al := [2, 3]) (l := [0, 1, 2, 3, 4, 5]) (f0 := fun i_ => ([undef,undef,undef,undef,undef,undef] : List Value).getD i_ undef) (B := w.heap.size + 1 + 1 + 1 + 1) (T := 46) (z := #[.int .i64 0, .int .i64 0]) (cont := fun t_ j_ => if j_ = 2 then (if 0 < t_ then #[.int .i64 p1x, .int .i64 p1y] else #[.int .i64 0, .int .i64 0]) else if j_ = 3 then (if 1 < t_ then #[.int .i64 p2x, .int .i64 p2y] else #[.int .i64 0, .int .i64 0]) else #[.int .i64 0, .int .i64 0]) (A := fun g_ => ⟨#[.agg #[.int .i64 ax,.int .i64 ay], .agg #[.int .i64 bx,.int .i64 b_y], .agg #[.int .i64 cx,.int .i64 cy], .agg #[.int .i64 dx,.int .i64 dy], .pointer (some ⟨w.heap.size, 0, none⟩), .pointer (some ⟨(w.heap.size + 1), 0, none⟩), .pointer (some ⟨(w.heap.size + 1 + 1), 0, none⟩), .pointer (some ⟨(w.heap.size + 1 + 1 + 1), 0, none⟩), .int .i64 0, ptrV (g_ 2), ptrV (g_ 3), .agg #[.int .i64 ax,.int .i64 ay], .agg #[.int .i64 bx,.int .i64 b_y], .bool false, .bool false, .agg #[.int .i64 cx,.int .i64 cy], .agg #[.int .i64 dx,.int .i64 dy], .bool false, .bool false, undef, undef, undef, undef, undef, undef, undef, undef, undef, undef, undef, undef, undef, undef, undef, undef, undef, undef, undef, undef, .agg #[.int .i64 ax,.int .i64 ay], .agg #[.int .i64 bx,.int .i64 b_y], .agg #[.int .i64 cx,.int .i64 cy], .int .i64 s1, .bool true, .bool true, .agg #[.int .i64 ax,.int .i64 ay], .agg #[.int .i64 bx,.int .i64 b_y], .agg #[.int .i64 dx,.int .i64 dy], .int .i64 s2, .bool true, .bool true, .tuple #[.agg #[.int .i64 p1x,.int .i64 p1y],.agg #[.int .i64 p2x,.int .i64 p2y]], .agg #[.int .i64 ax,.int .i64 ay], .agg #[.int .i64 bx,.int .i64 b_y], .tuple #[.agg #[.int .i64 p1x,.int .i64 p1y],.agg #[.int .i64 p2x,.int .i64 p2y]], .agg #[.int .i64 p1x,.int .i64 p1y], .agg #[.int .i64 p2x,.int .i64 p2y], .tuple #[.agg #[.int .i64 q1x,.int .i64 q1y],.agg #[.int .i64 q2x,.int .i64 q2y]], .agg #[.int .i64 cx,.int .i64 cy], .agg #[.int .i64 dx,.int .i64 dy], .tuple #[.agg #[.int .i64 q1x,.int .i64 q1y],.agg #[.int .i64 q2x,.int .i64 q2y]], .agg #[.int .i64 q1x,.int .i64 q1y], .agg #[.int .i64 q2x,.int .i64 q2y], .agg #[.int .i64 p1x,.int .i64 p1y], .agg #[.int .i64 p2x,.int .i64 p2y], undef, undef, undef, undef, undef, undef, undef, undef, undef, undef, undef, undef, undef, undef, undef, undef, undef, undef, undef, undef, undef, undef, undef, undef, undef, undef, undef, undef, undef, undef, undef, undef, undef, undef, undef, undef], []⟩) 6 rfl rfl (by decide +kernel) (by decide +kernel) ?_ ?_ ?_ ?_ (fun _ h_ => KL.alloc h_ _) ⟨?_, ?_, ?_, ?_, ?_, ?_, trivial⟩ ?_ ?_
  · exact KL.drew (KL.up2 0 (KL.up2 1 hj4 rfl (by omega) (by simp <;> omega)) rfl (by omega) (by simp <;> omega))
  · first | exact Nat.le_refl _ | (simp; done) | (simp <;> omega) | (show _ ≤ World.heap.size _; omega) | omega
  · intro j_ hj_; simp only [List.mem_cons, List.not_mem_nil, or_false] at hj_; rcases hj_ with rfl | rfl <;> rfl
  · intro t_ ht_ j_ hj_ hn_; simp only [List.mem_cons, List.not_mem_nil, or_false] at hj_; rcases hj_ with rfl | rfl <;> rcases t_ with _ | _ | _ <;> first | rfl | exact absurd rfl hn_ | exact absurd ht_ (by simp)
  · intro o W hj
    have hj : KL _ _ W := hj
    obtain ⟨cL, c0, c1⟩ := bl2 (KL.blk hj (.tail _ (.tail _ (.tail _ (.head _)))))
    show wpOp _ _ _ 0 _ ⟨#[_,_,_,_,_,_,_,_,_,o 2,o 3,_,_,_,_,_,_,_,_,_,_,_,_,_,_,_,_,_,_,_,_,_,_,_,_,_,_,_,_,_,_,_,_,_,_,_,_,_,_,_,_,_,_,_,_,_,_,_,_,_,_,_,_,o 0,o 1,_,_,_,_,_,_,_,_,_,_,_,_,_,_,_,_,_,_,_,_,_,_,_,_,_,_,_,_,_,_,_,_,_,_,_,_], []⟩ W
    refine wpOp_step rfl (fun K' hK => ?_)
    go_simp
    exact hK _ _ ⟨rfl, hj, Below.refl _ _⟩
  · intro o W hj
    have hj : KL _ _ W := hj
    obtain ⟨cL, c0, c1⟩ := bl2 (KL.blk hj (.tail _ (.tail _ (.head _))))
    show wpOp _ _ _ 1 _ ⟨#[_,_,_,_,_,_,_,_,_,o 2,o 3,_,_,_,_,_,_,_,_,_,_,_,_,_,_,_,_,_,_,_,_,_,_,_,_,_,_,_,_,_,_,_,_,_,_,_,_,_,_,_,_,_,_,_,_,_,_,_,_,_,_,_,_,o 0,o 1,_,_,_,_,_,_,_,_,_,_,_,_,_,_,_,_,_,_,_,_,_,_,_,_,_,_,_,_,_,_,_,_,_,_,_,_], []⟩ W
    refine wpOp_step rfl (fun K' hK => ?_)
    go_simp
    exact hK _ _ ⟨rfl, hj, Below.refl _ _⟩
  · intro o W
    show wpOp _ _ _ 2 _ ⟨#[_,_,_,_,_,_,_,_,_,o 2,o 3,_,_,_,_,_,_,_,_,_,_,_,_,_,_,_,_,_,_,_,_,_,_,_,_,_,_,_,_,_,_,_,_,_,_,_,_,_,_,_,_,_,_,_,_,_,_,_,_,_,_,_,_,o 0,o 1,_,_,_,_,_,_,_,_,_,_,_,_,_,_,_,_,_,_,_,_,_,_,_,_,_,_,_,_,_,_,_,_,_,_,_,_], []⟩ W
    refine wpOp_step rfl (fun K' hK => ?_)
    go_simp
    exact hK _ _ ⟨rfl, rfl⟩
  · intro o W
    show wpOp _ _ _ 3 _ ⟨#[_,_,_,_,_,_,_,_,_,o 2,o 3,_,_,_,_,_,_,_,_,_,_,_,_,_,_,_,_,_,_,_,_,_,_,_,_,_,_,_,_,_,_,_,_,_,_,_,_,_,_,_,_,_,_,_,_,_,_,_,_,_,_,_,_,o 0,o 1,_,_,_,_,_,_,_,_,_,_,_,_,_,_,_,_,_,_,_,_,_,_,_,_,_,_,_,_,_,_,_,_,_,_,_,_], []⟩ W
    refine wpOp_step rfl (fun K' hK => ?_)
    go_simp
    exact hK _ _ ⟨rfl, rfl⟩
  · intro o W g_ hj hg_ hb_
    have hj : KL _ _ W := hj
    have hb_ : Blk W g_ 46 #[.int .i64 0, .int .i64 0] := hb_
    obtain ⟨cL, c0, c1⟩ := bl2 hb_
    have cF := hb_.frozen
    show wpOp _ _ _ 4 _ ⟨#[_,_,_,_,_,_,_,_,_,.pointer (some ⟨g_, 0, none⟩),o 3,_,_,_,_,_,_,_,_,_,_,_,_,_,_,_,_,_,_,_,_,_,_,_,_,_,_,_,_,_,_,_,_,_,_,_,_,_,_,_,_,_,_,_,_,_,_,_,_,_,_,_,_,.agg #[.int .i64 p1x,.int .i64 p1y],o 1,_,_,_,_,_,_,_,_,_,_,_,_,_,_,_,_,_,_,_,_,_,_,_,_,_,_,_,_,_,_,_,_,_,_,_,_], []⟩ W
    refine wpOp_step rfl (fun K' hK => ?_)
    go_simp
    exact hK _ _ ⟨rfl, st2 hj (by omega) (by simp <;> omega) hb_⟩
  · intro o W g_ hj hg_ hb_
    have hj : KL _ _ W := hj
    have hb_ : Blk W g_ 46 #[.int .i64 0, .int .i64 0] := hb_
    obtain ⟨cL, c0, c1⟩ := bl2 hb_
    have cF := hb_.frozen
    show wpOp _ _ _ 5 _ ⟨#[_,_,_,_,_,_,_,_,_,o 2,.pointer (some ⟨g_, 0, none⟩),_,_,_,_,_,_,_,_,_,_,_,_,_,_,_,_,_,_,_,_,_,_,_,_,_,_,_,_,_,_,_,_,_,_,_,_,_,_,_,_,_,_,_,_,_,_,_,_,_,_,_,_,o 0,.agg #[.int .i64 p2x,.int .i64 p2y],_,_,_,_,_,_,_,_,_,_,_,_,_,_,_,_,_,_,_,_,_,_,_,_,_,_,_,_,_,_,_,_,_,_,_,_], []⟩ W
    refine wpOp_step rfl (fun K' hK => ?_)
    go_simp
    exact hK _ _ ⟨rfl, st2 hj (by omega) (by simp <;> omega) hb_⟩
  · intro o g_ hh_ hp_
    have e0 : o 0 = .agg #[.int .i64 p1x,.int .i64 p1y] := hh_ 0 (by decide) (by simp)
    have e1 : o 1 = .agg #[.int .i64 p2x,.int .i64 p2y] := hh_ 1 (by decide) (by simp)
    have e2 : o 2 = ptrV (g_ 2) := hp_ 2 (by simp)
    have e3 : o 3 = ptrV (g_ 3) := hp_ 3 (by simp)
    rw [e0, e1, e2, e3]
  · intro W5 g_ h5 ho_ hn_
    have h5 : KL _ _ W5 := h5
    obtain ⟨bg2, Bg2⟩ := ho_ 2 (by simp)
    have Bg2 : Blk W5 (g_ 2) 46 #[.int .i64 p1x, .int .i64 p1y] := Bg2
    obtain ⟨bg3, Bg3⟩ := ho_ 3 (by simp)
    have Bg3 : Blk W5 (g_ 3) 46 #[.int .i64 p2x, .int .i64 p2y] := Bg3
    have ng2g3 := hn_ 2 (by simp) 3 (by simp) (by decide)
    clear ho_ hn_
    dsimp only [ptrV]
    generalize g_ 2 = g2 at *
    generalize g_ 3 = g3 at *
    have h5 := KL.cons Bg2 h5
    have h5 := KL.cons Bg3 h5
    clear Bg2 Bg3
    obtain ⟨eL0, e0_0, e0_1⟩ := bl2 (KL.blk h5 (.head _))
    have eF0 := (KL.blk h5 (.head _)).frozen
    obtain ⟨eL1, e1_0, e1_1⟩ := bl2 (KL.blk h5 (.tail _ (.head _)))
    have eF1 := (KL.blk h5 (.tail _ (.head _))).frozen
    obtain ⟨eL2, e2_0, e2_1⟩ := bl2 (KL.blk h5 (.tail _ (.tail _ (.head _))))
    have eF2 := (KL.blk h5 (.tail _ (.tail _ (.head _)))).frozen
    obtain ⟨eL3, e3_0, e3_1⟩ := bl2 (KL.blk h5 (.tail _ (.tail _ (.tail _ (.head _)))))
    have eF3 := (KL.blk h5 (.tail _ (.tail _ (.tail _ (.head _))))).frozen
    obtain ⟨eL4, e4_0, e4_1⟩ := bl2 (KL.blk h5 (.tail _ (.tail _ (.tail _ (.tail _ (.head _))))))
    have eF4 := (KL.blk h5 (.tail _ (.tail _ (.tail _ (.tail _ (.head _)))))).frozen
    obtain ⟨eL5, e5_0, e5_1⟩ := bl2 (KL.blk h5 (.tail _ (.tail _ (.tail _ (.tail _ (.tail _ (.head _)))))))
    have eF5 := (KL.blk h5 (.tail _ (.tail _ (.tail _ (.tail _ (.tail _ (.head _))))))).frozen
    have hjb := h5.1
    have hjz := hjb.size
    have hnn : g2 ≠ g3 := by first | assumption | exact Ne.symm (by assumption) | omega
    go_wp2_with (first
      | (go_at_call 52; (with_reducible refine (hB1 _).mono ?_); rintro e w6 ⟨rfl, hb6⟩; have hj6 : KL [(g3,46,#[.int .i64 p2x,.int .i64 p2y]),(g2,46,#[.int .i64 p1x,.int .i64 p1y]),((w.heap.size + 1 + 1 + 1),46,#[.int .i64 q2x,.int .i64 q2y]),((w.heap.size + 1 + 1),46,#[.int .i64 q1x,.int .i64 q1y]),((w.heap.size + 1),46,#[.int .i64 p2x,.int .i64 p2y]),(w.heap.size,46,#[.int .i64 p1x,.int .i64 p1y])] w w6 := KL.over h5 hb6; obtain ⟨fL0, f0_0, f0_1⟩ := bl2 (KL.blk hj6 (.head _)); have fF0 := (KL.blk hj6 (.head _)).frozen; obtain ⟨fL1, f1_0, f1_1⟩ := bl2 (KL.blk hj6 (.tail _ (.head _))); have fF1 := (KL.blk hj6 (.tail _ (.head _))).frozen; obtain ⟨fL2, f2_0, f2_1⟩ := bl2 (KL.blk hj6 (.tail _ (.tail _ (.head _)))); have fF2 := (KL.blk hj6 (.tail _ (.tail _ (.head _)))).frozen; obtain ⟨fL3, f3_0, f3_1⟩ := bl2 (KL.blk hj6 (.tail _ (.tail _ (.tail _ (.head _))))); have fF3 := (KL.blk hj6 (.tail _ (.tail _ (.tail _ (.head _))))).frozen; obtain ⟨fL4, f4_0, f4_1⟩ := bl2 (KL.blk hj6 (.tail _ (.tail _ (.tail _ (.tail _ (.head _)))))); have fF4 := (KL.blk hj6 (.tail _ (.tail _ (.tail _ (.tail _ (.head _)))))).frozen; obtain ⟨fL5, f5_0, f5_1⟩ := bl2 (KL.blk hj6 (.tail _ (.tail _ (.tail _ (.tail _ (.tail _ (.head _))))))); have fF5 := (KL.blk hj6 (.tail _ (.tail _ (.tail _ (.tail _ (.tail _ (.head _))))))).frozen)
      | (go_at_call 52; (with_reducible refine (hB2 _).mono ?_); rintro e w7 ⟨rfl, hb7⟩; have hj7 : KL [(g3,46,#[.int .i64 p2x,.int .i64 p2y]),(g2,46,#[.int .i64 q1x,.int .i64 q1y]),((w.heap.size + 1 + 1 + 1),46,#[.int .i64 q2x,.int .i64 q2y]),((w.heap.size + 1 + 1),46,#[.int .i64 q1x,.int .i64 q1y]),((w.heap.size + 1),46,#[.int .i64 p2x,.int .i64 p2y]),(w.heap.size,46,#[.int .i64 p1x,.int .i64 p1y])] w w7 := KL.over (KL.up2 1 hj6 rfl (by omega) (by simp <;> omega)) hb7; obtain ⟨gL0, g0_0, g0_1⟩ := bl2 (KL.blk hj7 (.head _)); have gF0 := (KL.blk hj7 (.head _)).frozen; obtain ⟨gL1, g1_0, g1_1⟩ := bl2 (KL.blk hj7 (.tail _ (.head _))); have gF1 := (KL.blk hj7 (.tail _ (.head _))).frozen; obtain ⟨gL2, g2_0, g2_1⟩ := bl2 (KL.blk hj7 (.tail _ (.tail _ (.head _)))); have gF2 := (KL.blk hj7 (.tail _ (.tail _ (.head _)))).frozen; obtain ⟨gL3, g3_0, g3_1⟩ := bl2 (KL.blk hj7 (.tail _ (.tail _ (.tail _ (.head _))))); have gF3 := (KL.blk hj7 (.tail _ (.tail _ (.tail _ (.head _))))).frozen; obtain ⟨gL4, g4_0, g4_1⟩ := bl2 (KL.blk hj7 (.tail _ (.tail _ (.tail _ (.tail _ (.head _)))))); have gF4 := (KL.blk hj7 (.tail _ (.tail _ (.tail _ (.tail _ (.head _)))))).frozen; obtain ⟨gL5, g5_0, g5_1⟩ := bl2 (KL.blk hj7 (.tail _ (.tail _ (.tail _ (.tail _ (.tail _ (.head _))))))); have gF5 := (KL.blk hj7 (.tail _ (.tail _ (.tail _ (.tail _ (.tail _ (.head _))))))).frozen)
      | (go_at_call 52; (with_reducible refine (hB3 _).mono ?_); rintro e w8 ⟨rfl, hb8⟩; have hj8 : KL [(g3,46,#[.int .i64 p2x,.int .i64 p2y]),(g2,46,#[.int .i64 q1x,.int .i64 q1y]),((w.heap.size + 1 + 1 + 1),46,#[.int .i64 q2x,.int .i64 q2y]),((w.heap.size + 1 + 1),46,#[.int .i64 q1x,.int .i64 q1y]),((w.heap.size + 1),46,#[.int .i64 p2x,.int .i64 p2y]),(w.heap.size,46,#[.int .i64 p1x,.int .i64 p1y])] w w8 := KL.over hj7 hb8; obtain ⟨hL0, h0_0, h0_1⟩ := bl2 (KL.blk hj8 (.head _)); have hF0 := (KL.blk hj8 (.head _)).frozen; obtain ⟨hL1, h1_0, h1_1⟩ := bl2 (KL.blk hj8 (.tail _ (.head _))); have hF1 := (KL.blk hj8 (.tail _ (.head _))).frozen; obtain ⟨hL2, h2_0, h2_1⟩ := bl2 (KL.blk hj8 (.tail _ (.tail _ (.head _)))); have hF2 := (KL.blk hj8 (.tail _ (.tail _ (.head _)))).frozen; obtain ⟨hL3, h3_0, h3_1⟩ := bl2 (KL.blk hj8 (.tail _ (.tail _ (.tail _ (.head _))))); have hF3 := (KL.blk hj8 (.tail _ (.tail _ (.tail _ (.head _))))).frozen; obtain ⟨hL4, h4_0, h4_1⟩ := bl2 (KL.blk hj8 (.tail _ (.tail _ (.tail _ (.tail _ (.head _)))))); have hF4 := (KL.blk hj8 (.tail _ (.tail _ (.tail _ (.tail _ (.head _)))))).frozen; obtain ⟨hL5, h5_0, h5_1⟩ := bl2 (KL.blk hj8 (.tail _ (.tail _ (.tail _ (.tail _ (.tail _ (.head _))))))); have hF5 := (KL.blk hj8 (.tail _ (.tail _ (.tail _ (.tail _ (.tail _ (.head _))))))).frozen))
    go_ret
    exact ⟨rfl, hj8.1⟩
set_option maxHeartbeats 16000000 in
set_option maxRecDepth 100000 in
theorem refMeet_l101 (ax ay bx b_y cx cy dx dy p1x p1y p2x p2y q1x q1y q2x q2y s1 s2 : Int) (hp : (ax == bx && ay == b_y) = false) (hq : (cx == dx && cy == dy) = false) (hT1 : ∀ w, Calls Try.prog 32 #[.agg #[.int .i64 ax, .int .i64 ay], .agg #[.int .i64 bx, .int .i64 b_y], .agg #[.int .i64 cx, .int .i64 cy]] w fun e w' => e = .returned (.int .i64 s1) ∧ Below w.heap.size w w') (hT2 : ∀ w, Calls Try.prog 32 #[.agg #[.int .i64 ax, .int .i64 ay], .agg #[.int .i64 bx, .int .i64 b_y], .agg #[.int .i64 dx, .int .i64 dy]] w fun e w' => e = .returned (.int .i64 s2) ∧ Below w.heap.size w w') (z1 : s1 = 0) (z2 : s2 = 0)
    (hs1 : ∀ w, Calls Try.prog 51 #[.agg #[.int .i64 ax, .int .i64 ay], .agg #[.int .i64 bx, .int .i64 b_y]] w fun e w' => e = .returned (.tuple #[.agg #[.int .i64 p1x, .int .i64 p1y], .agg #[.int .i64 p2x, .int .i64 p2y]]) ∧ Below w.heap.size w w') (hs2 : ∀ w, Calls Try.prog 51 #[.agg #[.int .i64 cx, .int .i64 cy], .agg #[.int .i64 dx, .int .i64 dy]] w fun e w' => e = .returned (.tuple #[.agg #[.int .i64 q1x, .int .i64 q1y], .agg #[.int .i64 q2x, .int .i64 q2y]]) ∧ Below w.heap.size w w')
    (hB1 : ∀ w, Calls Try.prog 52 #[.agg #[.int .i64 p1x, .int .i64 p1y], .agg #[.int .i64 q1x, .int .i64 q1y]] w fun e w' => e = .returned (.bool true) ∧ Below w.heap.size w w') (hB2 : ∀ w, Calls Try.prog 52 #[.agg #[.int .i64 q2x, .int .i64 q2y], .agg #[.int .i64 p2x, .int .i64 p2y]] w fun e w' => e = .returned (.bool false) ∧ Below w.heap.size w w') (hB3 : ∀ w, Calls Try.prog 52 #[.agg #[.int .i64 q1x, .int .i64 q1y], .agg #[.int .i64 p2x, .int .i64 p2y]] w fun e w' => e = .returned (.bool false) ∧ Below w.heap.size w w') (he : (q1x == p2x && q1y == p2y) = true) (w : World) :
    Calls Try.prog 35 #[.agg #[.int .i64 ax, .int .i64 ay], .agg #[.int .i64 bx, .int .i64 b_y], .agg #[.int .i64 cx, .int .i64 cy], .agg #[.int .i64 dx, .int .i64 dy]] w fun e w' => e = .returned (.int .i64 1) ∧ Below w.heap.size w w' := by
  have e1 := eqP ax ay bx b_y
  have e2 := eqP cx cy dx dy
  rw [hp] at e1
  rw [hq] at e2
  clear hp hq
  have d1 : (s1 == 0) = true := by simpa using z1
  have d2 : (s2 == 0) = true := by simpa using z2
  clear z1 z2
  have e3 := eqP q1x q1y p2x p2y
  rw [he] at e3
  clear he
  go_enter Try.func35, Try.ntmps35
  go_wp2_with (first
    | (go_at_call 32; (with_reducible refine (hT1 _).mono ?_); rintro e w1 ⟨rfl, hb1⟩; have hj1 : KL [((w.heap.size + 1 + 1 + 1),46,#[.int .i64 dx,.int .i64 dy]),((w.heap.size + 1 + 1),46,#[.int .i64 cx,.int .i64 cy]),((w.heap.size + 1),46,#[.int .i64 bx,.int .i64 b_y]),(w.heap.size,46,#[.int .i64 ax,.int .i64 ay])] w w1 := KL.over (KL.new (g := (w.heap.size + 1 + 1 + 1)) (KL.new (g := (w.heap.size + 1 + 1)) (KL.new (g := (w.heap.size + 1)) (KL.new (g := w.heap.size) (KL.nil w) rfl _ _) (by simp) _ _) (by simp) _ _) (by simp) _ _) hb1; obtain ⟨aL0, a0_0, a0_1⟩ := bl2 (KL.blk hj1 (.head _)); have aF0 := (KL.blk hj1 (.head _)).frozen; obtain ⟨aL1, a1_0, a1_1⟩ := bl2 (KL.blk hj1 (.tail _ (.head _))); have aF1 := (KL.blk hj1 (.tail _ (.head _))).frozen; obtain ⟨aL2, a2_0, a2_1⟩ := bl2 (KL.blk hj1 (.tail _ (.tail _ (.head _)))); have aF2 := (KL.blk hj1 (.tail _ (.tail _ (.head _)))).frozen; obtain ⟨aL3, a3_0, a3_1⟩ := bl2 (KL.blk hj1 (.tail _ (.tail _ (.tail _ (.head _))))); have aF3 := (KL.blk hj1 (.tail _ (.tail _ (.tail _ (.head _))))).frozen)
    | (go_at_call 32; (with_reducible refine (hT2 _).mono ?_); rintro e w2 ⟨rfl, hb2⟩; have hj2 : KL [((w.heap.size + 1 + 1 + 1),46,#[.int .i64 dx,.int .i64 dy]),((w.heap.size + 1 + 1),46,#[.int .i64 cx,.int .i64 cy]),((w.heap.size + 1),46,#[.int .i64 bx,.int .i64 b_y]),(w.heap.size,46,#[.int .i64 ax,.int .i64 ay])] w w2 := KL.over hj1 hb2; obtain ⟨bL0, b0_0, b0_1⟩ := bl2 (KL.blk hj2 (.head _)); have bF0 := (KL.blk hj2 (.head _)).frozen; obtain ⟨bL1, b1_0, b1_1⟩ := bl2 (KL.blk hj2 (.tail _ (.head _))); have bF1 := (KL.blk hj2 (.tail _ (.head _))).frozen; obtain ⟨bL2, b2_0, b2_1⟩ := bl2 (KL.blk hj2 (.tail _ (.tail _ (.head _)))); have bF2 := (KL.blk hj2 (.tail _ (.tail _ (.head _)))).frozen; obtain ⟨bL3, b3_0, b3_1⟩ := bl2 (KL.blk hj2 (.tail _ (.tail _ (.tail _ (.head _))))); have bF3 := (KL.blk hj2 (.tail _ (.tail _ (.tail _ (.head _))))).frozen)
    | (go_at_call 51; (with_reducible refine (hs1 _).mono ?_); rintro e w3 ⟨rfl, hb3⟩; have hj3 : KL [((w.heap.size + 1 + 1 + 1),46,#[.int .i64 dx,.int .i64 dy]),((w.heap.size + 1 + 1),46,#[.int .i64 cx,.int .i64 cy]),((w.heap.size + 1),46,#[.int .i64 bx,.int .i64 b_y]),(w.heap.size,46,#[.int .i64 ax,.int .i64 ay])] w w3 := KL.over hj2 hb3; obtain ⟨cL0, c0_0, c0_1⟩ := bl2 (KL.blk hj3 (.head _)); have cF0 := (KL.blk hj3 (.head _)).frozen; obtain ⟨cL1, c1_0, c1_1⟩ := bl2 (KL.blk hj3 (.tail _ (.head _))); have cF1 := (KL.blk hj3 (.tail _ (.head _))).frozen; obtain ⟨cL2, c2_0, c2_1⟩ := bl2 (KL.blk hj3 (.tail _ (.tail _ (.head _)))); have cF2 := (KL.blk hj3 (.tail _ (.tail _ (.head _)))).frozen; obtain ⟨cL3, c3_0, c3_1⟩ := bl2 (KL.blk hj3 (.tail _ (.tail _ (.tail _ (.head _))))); have cF3 := (KL.blk hj3 (.tail _ (.tail _ (.tail _ (.head _))))).frozen)
    | (go_at_call 51; (with_reducible refine (hs2 _).mono ?_); rintro e w4 ⟨rfl, hb4⟩; have hj4 : KL [((w.heap.size + 1 + 1 + 1),46,#[.int .i64 dx,.int .i64 dy]),((w.heap.size + 1 + 1),46,#[.int .i64 cx,.int .i64 cy]),((w.heap.size + 1),46,#[.int .i64 p2x,.int .i64 p2y]),(w.heap.size,46,#[.int .i64 p1x,.int .i64 p1y])] w w4 := KL.over (KL.up2 2 (KL.up2 3 hj3 rfl (by omega) (by simp <;> omega)) rfl (by omega) (by simp <;> omega)) hb4; obtain ⟨dL0, d0_0, d0_1⟩ := bl2 (KL.blk hj4 (.head _)); have dF0 := (KL.blk hj4 (.head _)).frozen; obtain ⟨dL1, d1_0, d1_1⟩ := bl2 (KL.blk hj4 (.tail _ (.head _))); have dF1 := (KL.blk hj4 (.tail _ (.head _))).frozen; obtain ⟨dL2, d2_0, d2_1⟩ := bl2 (KL.blk hj4 (.tail _ (.tail _ (.head _)))); have dF2 := (KL.blk hj4 (.tail _ (.tail _ (.head _)))).frozen; obtain ⟨dL3, d3_0, d3_1⟩ := bl2 (KL.blk hj4 (.tail _ (.tail _ (.tail _ (.head _))))); have dF3 := (KL.blk hj4 (.tail _ (.tail _ (.tail _ (.head _))))).frozen))
  refine wp_region_any (by kernel_rfl) ?_
  try (change wpAny _ _ _ _ _ _ _ (World.drew _))
  refine wpAny_alloc (fr := fun o => #[.agg #[.int .i64 ax,.int .i64 ay], .agg #[.int .i64 bx,.int .i64 b_y], .agg #[.int .i64 cx,.int .i64 cy], .agg #[.int .i64 dx,.int .i64 dy], .pointer (some ⟨w.heap.size, 0, none⟩), .pointer (some ⟨(w.heap.size + 1), 0, none⟩), .pointer (some ⟨(w.heap.size + 1 + 1), 0, none⟩), .pointer (some ⟨(w.heap.size + 1 + 1 + 1), 0, none⟩), .int .i64 0, o 2, o 3, .agg #[.int .i64 ax,.int .i64 ay], .agg #[.int .i64 bx,.int .i64 b_y], .bool false, .bool false, .agg #[.int .i64 cx,.int .i64 cy], .agg #[.int .i64 dx,.int .i64 dy], .bool false, .bool false, undef, undef, undef, undef, undef, undef, undef, undef, undef, undef, undef, undef, undef, undef, undef, undef, undef, undef, undef, undef, .agg #[.int .i64 ax,.int .i64 ay], .agg #[.int .i64 bx,.int .i64 b_y], .agg #[.int .i64 cx,.int .i64 cy], .int .i64 s1, .bool true, .bool true, .agg #[.int .i64 ax,.int .i64 ay], .agg #[.int .i64 bx,.int .i64 b_y], .agg #[.int .i64 dx,.int .i64 dy], .int .i64 s2, .bool true, .bool true, .tuple #[.agg #[.int .i64 p1x,.int .i64 p1y],.agg #[.int .i64 p2x,.int .i64 p2y]], .agg #[.int .i64 ax,.int .i64 ay], .agg #[.int .i64 bx,.int .i64 b_y], .tuple #[.agg #[.int .i64 p1x,.int .i64 p1y],.agg #[.int .i64 p2x,.int .i64 p2y]], .agg #[.int .i64 p1x,.int .i64 p1y], .agg #[.int .i64 p2x,.int .i64 p2y], .tuple #[.agg #[.int .i64 q1x,.int .i64 q1y],.agg #[.int .i64 q2x,.int .i64 q2y]], .agg #[.int .i64 cx,.int .i64 cy], .agg #[.int .i64 dx,.int .i64 dy], .tuple #[.agg #[.int .i64 q1x,.int .i64 q1y],.agg #[.int .i64 q2x,.int .i64 q2y]], .agg #[.int .i64 q1x,.int .i64 q1y], .agg #[.int .i64 q2x,.int .i64 q2y], o 0, o 1, undef, undef, undef, undef, undef, undef, undef, undef, undef, undef, undef, undef, undef, undef, undef, undef, undef, undef, undef, undef, undef, undef, undef, undef, undef, undef, undef, undef, undef, undef, undef, undef, undef, undef, undef, undef]) (vals := fun i_ => ([.agg #[.int .i64 p1x,.int .i64 p1y], .agg #[.int .i64 p2x,.int .i64 p2y], undef, undef, undef, undef] : List Value).getD i_ undef) (K := fun W_ => KL [((w.heap.size + 1 + 1 + 1),46,#[.int .i64 q2x,.int .i64 q2y]),((w.heap.size + 1 + 1),46,#[.int .i64 q1x,.int .i64 q1y]),((w.heap.size + 1),46,#[.int .i64 p2x,.int .i64 p2y]),(w.heap.size,46,#[.int .i64 p1x,.int .i64 p1y])] w W_) (dep := fun i_ => [[], [], [], [], [0, 2, 3], [0, 1, 2, 3, 4]].getD i_ []) (dv := fun i_ => [[], [], [], [], [0], [1]].getD i_ []) (kd := fun i_ => [1, 1, 2, 2, 3, 4].getD i_ 0) (sa := fun i_ => [2, 3].getD i_ 0) (ss := [4, 5]) (al := [2, 3]) (l := [0, 1, 2, 3, 4, 5]) (f0 := fun i_ => ([undef,undef,undef,undef,undef,undef] : List Value).getD i_ undef) (B := w.heap.size + 1 + 1 + 1 + 1) (T := 46) (z := #[.int .i64 0, .int .i64 0]) (cont := fun t_ j_ => if j_ = 2 then (if 0 < t_ then #[.int .i64 p1x, .int .i64 p1y] else #[.int .i64 0, .int .i64 0]) else if j_ = 3 then (if 1 < t_ then #[.int .i64 p2x, .int .i64 p2y] else #[.int .i64 0, .int .i64 0]) else #[.int .i64 0, .int .i64 0]) (A := fun g_ => ⟨#[.agg #[.int .i64 ax,.int .i64 ay], .agg #[.int .i64 bx,.int .i64 b_y], .agg #[.int .i64 cx,.int .i64 cy], .agg #[.int .i64 dx,.int .i64 dy], .pointer (some ⟨w.heap.size, 0, none⟩), .pointer (some ⟨(w.heap.size + 1), 0, none⟩), .pointer (some ⟨(w.heap.size + 1 + 1), 0, none⟩), .pointer (some ⟨(w.heap.size + 1 + 1 + 1), 0, none⟩), .int .i64 0, ptrV (g_ 2), ptrV (g_ 3), .agg #[.int .i64 ax,.int .i64 ay], .agg #[.int .i64 bx,.int .i64 b_y], .bool false, .bool false, .agg #[.int .i64 cx,.int .i64 cy], .agg #[.int .i64 dx,.int .i64 dy], .bool false, .bool false, undef, undef, undef, undef, undef, undef, undef, undef, undef, undef, undef, undef, undef, undef, undef, undef, undef, undef, undef, undef, .agg #[.int .i64 ax,.int .i64 ay], .agg #[.int .i64 bx,.int .i64 b_y], .agg #[.int .i64 cx,.int .i64 cy], .int .i64 s1, .bool true, .bool true, .agg #[.int .i64 ax,.int .i64 ay], .agg #[.int .i64 bx,.int .i64 b_y], .agg #[.int .i64 dx,.int .i64 dy], .int .i64 s2, .bool true, .bool true, .tuple #[.agg #[.int .i64 p1x,.int .i64 p1y],.agg #[.int .i64 p2x,.int .i64 p2y]], .agg #[.int .i64 ax,.int .i64 ay], .agg #[.int .i64 bx,.int .i64 b_y], .tuple #[.agg #[.int .i64 p1x,.int .i64 p1y],.agg #[.int .i64 p2x,.int .i64 p2y]], .agg #[.int .i64 p1x,.int .i64 p1y], .agg #[.int .i64 p2x,.int .i64 p2y], .tuple #[.agg #[.int .i64 q1x,.int .i64 q1y],.agg #[.int .i64 q2x,.int .i64 q2y]], .agg #[.int .i64 cx,.int .i64 cy], .agg #[.int .i64 dx,.int .i64 dy], .tuple #[.agg #[.int .i64 q1x,.int .i64 q1y],.agg #[.int .i64 q2x,.int .i64 q2y]], .agg #[.int .i64 q1x,.int .i64 q1y], .agg #[.int .i64 q2x,.int .i64 q2y], .agg #[.int .i64 p1x,.int .i64 p1y], .agg #[.int .i64 p2x,.int .i64 p2y], undef, undef, undef, undef, undef, undef, undef, undef, undef, undef, undef, undef, undef, undef, undef, undef, undef, undef, undef, undef, undef, undef, undef, undef, undef, undef, undef, undef, undef, undef, undef, undef, undef, undef, undef, undef], []⟩) 6 rfl rfl (by decide +kernel) (by decide +kernel) ?_ ?_ ?_ ?_ (fun _ h_ => KL.alloc h_ _) ⟨?_, ?_, ?_, ?_, ?_, ?_, trivial⟩ ?_ ?_
  · exact KL.drew (KL.up2 0 (KL.up2 1 hj4 rfl (by omega) (by simp <;> omega)) rfl (by omega) (by simp <;> omega))
  · first | exact Nat.le_refl _ | (simp; done) | (simp <;> omega) | (show _ ≤ World.heap.size _; omega) | omega
  · intro j_ hj_; simp only [List.mem_cons, List.not_mem_nil, or_false] at hj_; rcases hj_ with rfl | rfl <;> rfl
  · intro t_ ht_ j_ hj_ hn_; simp only [List.mem_cons, List.not_mem_nil, or_false] at hj_; rcases hj_ with rfl | rfl <;> rcases t_ with _ | _ | _ <;> first | rfl | exact absurd rfl hn_ | exact absurd ht_ (by simp)
  · intro o W hj
    have hj : KL _ _ W := hj
    obtain ⟨cL, c0, c1⟩ := bl2 (KL.blk hj (.tail _ (.tail _ (.tail _ (.head _)))))
    show wpOp _ _ _ 0 _ ⟨#[_,_,_,_,_,_,_,_,_,o 2,o 3,_,_,_,_,_,_,_,_,_,_,_,_,_,_,_,_,_,_,_,_,_,_,_,_,_,_,_,_,_,_,_,_,_,_,_,_,_,_,_,_,_,_,_,_,_,_,_,_,_,_,_,_,o 0,o 1,_,_,_,_,_,_,_,_,_,_,_,_,_,_,_,_,_,_,_,_,_,_,_,_,_,_,_,_,_,_,_,_,_,_,_,_], []⟩ W
    refine wpOp_step rfl (fun K' hK => ?_)
    go_simp
    exact hK _ _ ⟨rfl, hj, Below.refl _ _⟩
  · intro o W hj
    have hj : KL _ _ W := hj
    obtain ⟨cL, c0, c1⟩ := bl2 (KL.blk hj (.tail _ (.tail _ (.head _))))
    show wpOp _ _ _ 1 _ ⟨#[_,_,_,_,_,_,_,_,_,o 2,o 3,_,_,_,_,_,_,_,_,_,_,_,_,_,_,_,_,_,_,_,_,_,_,_,_,_,_,_,_,_,_,_,_,_,_,_,_,_,_,_,_,_,_,_,_,_,_,_,_,_,_,_,_,o 0,o 1,_,_,_,_,_,_,_,_,_,_,_,_,_,_,_,_,_,_,_,_,_,_,_,_,_,_,_,_,_,_,_,_,_,_,_,_], []⟩ W
    refine wpOp_step rfl (fun K' hK => ?_)
    go_simp
    exact hK _ _ ⟨rfl, hj, Below.refl _ _⟩
  · intro o W
    show wpOp _ _ _ 2 _ ⟨#[_,_,_,_,_,_,_,_,_,o 2,o 3,_,_,_,_,_,_,_,_,_,_,_,_,_,_,_,_,_,_,_,_,_,_,_,_,_,_,_,_,_,_,_,_,_,_,_,_,_,_,_,_,_,_,_,_,_,_,_,_,_,_,_,_,o 0,o 1,_,_,_,_,_,_,_,_,_,_,_,_,_,_,_,_,_,_,_,_,_,_,_,_,_,_,_,_,_,_,_,_,_,_,_,_], []⟩ W
    refine wpOp_step rfl (fun K' hK => ?_)
    go_simp
    exact hK _ _ ⟨rfl, rfl⟩
  · intro o W
    show wpOp _ _ _ 3 _ ⟨#[_,_,_,_,_,_,_,_,_,o 2,o 3,_,_,_,_,_,_,_,_,_,_,_,_,_,_,_,_,_,_,_,_,_,_,_,_,_,_,_,_,_,_,_,_,_,_,_,_,_,_,_,_,_,_,_,_,_,_,_,_,_,_,_,_,o 0,o 1,_,_,_,_,_,_,_,_,_,_,_,_,_,_,_,_,_,_,_,_,_,_,_,_,_,_,_,_,_,_,_,_,_,_,_,_], []⟩ W
    refine wpOp_step rfl (fun K' hK => ?_)
    go_simp
    exact hK _ _ ⟨rfl, rfl⟩
  · intro o W g_ hj hg_ hb_
    have hj : KL _ _ W := hj
    have hb_ : Blk W g_ 46 #[.int .i64 0, .int .i64 0] := hb_
    obtain ⟨cL, c0, c1⟩ := bl2 hb_
    have cF := hb_.frozen
    show wpOp _ _ _ 4 _ ⟨#[_,_,_,_,_,_,_,_,_,.pointer (some ⟨g_, 0, none⟩),o 3,_,_,_,_,_,_,_,_,_,_,_,_,_,_,_,_,_,_,_,_,_,_,_,_,_,_,_,_,_,_,_,_,_,_,_,_,_,_,_,_,_,_,_,_,_,_,_,_,_,_,_,_,.agg #[.int .i64 p1x,.int .i64 p1y],o 1,_,_,_,_,_,_,_,_,_,_,_,_,_,_,_,_,_,_,_,_,_,_,_,_,_,_,_,_,_,_,_,_,_,_,_,_], []⟩ W
    refine wpOp_step rfl (fun K' hK => ?_)
    go_simp
    exact hK _ _ ⟨rfl, st2 hj (by omega) (by simp <;> omega) hb_⟩
  · intro o W g_ hj hg_ hb_
    have hj : KL _ _ W := hj
    have hb_ : Blk W g_ 46 #[.int .i64 0, .int .i64 0] := hb_
    obtain ⟨cL, c0, c1⟩ := bl2 hb_
    have cF := hb_.frozen
    show wpOp _ _ _ 5 _ ⟨#[_,_,_,_,_,_,_,_,_,o 2,.pointer (some ⟨g_, 0, none⟩),_,_,_,_,_,_,_,_,_,_,_,_,_,_,_,_,_,_,_,_,_,_,_,_,_,_,_,_,_,_,_,_,_,_,_,_,_,_,_,_,_,_,_,_,_,_,_,_,_,_,_,_,o 0,.agg #[.int .i64 p2x,.int .i64 p2y],_,_,_,_,_,_,_,_,_,_,_,_,_,_,_,_,_,_,_,_,_,_,_,_,_,_,_,_,_,_,_,_,_,_,_,_], []⟩ W
    refine wpOp_step rfl (fun K' hK => ?_)
    go_simp
    exact hK _ _ ⟨rfl, st2 hj (by omega) (by simp <;> omega) hb_⟩
  · intro o g_ hh_ hp_
    have e0 : o 0 = .agg #[.int .i64 p1x,.int .i64 p1y] := hh_ 0 (by decide) (by simp)
    have e1 : o 1 = .agg #[.int .i64 p2x,.int .i64 p2y] := hh_ 1 (by decide) (by simp)
    have e2 : o 2 = ptrV (g_ 2) := hp_ 2 (by simp)
    have e3 : o 3 = ptrV (g_ 3) := hp_ 3 (by simp)
    rw [e0, e1, e2, e3]
  · intro W5 g_ h5 ho_ hn_
    have h5 : KL _ _ W5 := h5
    obtain ⟨bg2, Bg2⟩ := ho_ 2 (by simp)
    have Bg2 : Blk W5 (g_ 2) 46 #[.int .i64 p1x, .int .i64 p1y] := Bg2
    obtain ⟨bg3, Bg3⟩ := ho_ 3 (by simp)
    have Bg3 : Blk W5 (g_ 3) 46 #[.int .i64 p2x, .int .i64 p2y] := Bg3
    have ng2g3 := hn_ 2 (by simp) 3 (by simp) (by decide)
    clear ho_ hn_
    dsimp only [ptrV]
    generalize g_ 2 = g2 at *
    generalize g_ 3 = g3 at *
    have h5 := KL.cons Bg2 h5
    have h5 := KL.cons Bg3 h5
    clear Bg2 Bg3
    obtain ⟨eL0, e0_0, e0_1⟩ := bl2 (KL.blk h5 (.head _))
    have eF0 := (KL.blk h5 (.head _)).frozen
    obtain ⟨eL1, e1_0, e1_1⟩ := bl2 (KL.blk h5 (.tail _ (.head _)))
    have eF1 := (KL.blk h5 (.tail _ (.head _))).frozen
    obtain ⟨eL2, e2_0, e2_1⟩ := bl2 (KL.blk h5 (.tail _ (.tail _ (.head _))))
    have eF2 := (KL.blk h5 (.tail _ (.tail _ (.head _)))).frozen
    obtain ⟨eL3, e3_0, e3_1⟩ := bl2 (KL.blk h5 (.tail _ (.tail _ (.tail _ (.head _)))))
    have eF3 := (KL.blk h5 (.tail _ (.tail _ (.tail _ (.head _))))).frozen
    obtain ⟨eL4, e4_0, e4_1⟩ := bl2 (KL.blk h5 (.tail _ (.tail _ (.tail _ (.tail _ (.head _))))))
    have eF4 := (KL.blk h5 (.tail _ (.tail _ (.tail _ (.tail _ (.head _)))))).frozen
    obtain ⟨eL5, e5_0, e5_1⟩ := bl2 (KL.blk h5 (.tail _ (.tail _ (.tail _ (.tail _ (.tail _ (.head _)))))))
    have eF5 := (KL.blk h5 (.tail _ (.tail _ (.tail _ (.tail _ (.tail _ (.head _))))))).frozen
    have hjb := h5.1
    have hjz := hjb.size
    have hnn : g2 ≠ g3 := by first | assumption | exact Ne.symm (by assumption) | omega
    go_wp2_with (first
      | (go_at_call 52; (with_reducible refine (hB1 _).mono ?_); rintro e w6 ⟨rfl, hb6⟩; have hj6 : KL [(g3,46,#[.int .i64 p2x,.int .i64 p2y]),(g2,46,#[.int .i64 p1x,.int .i64 p1y]),((w.heap.size + 1 + 1 + 1),46,#[.int .i64 q2x,.int .i64 q2y]),((w.heap.size + 1 + 1),46,#[.int .i64 q1x,.int .i64 q1y]),((w.heap.size + 1),46,#[.int .i64 p2x,.int .i64 p2y]),(w.heap.size,46,#[.int .i64 p1x,.int .i64 p1y])] w w6 := KL.over h5 hb6; obtain ⟨fL0, f0_0, f0_1⟩ := bl2 (KL.blk hj6 (.head _)); have fF0 := (KL.blk hj6 (.head _)).frozen; obtain ⟨fL1, f1_0, f1_1⟩ := bl2 (KL.blk hj6 (.tail _ (.head _))); have fF1 := (KL.blk hj6 (.tail _ (.head _))).frozen; obtain ⟨fL2, f2_0, f2_1⟩ := bl2 (KL.blk hj6 (.tail _ (.tail _ (.head _)))); have fF2 := (KL.blk hj6 (.tail _ (.tail _ (.head _)))).frozen; obtain ⟨fL3, f3_0, f3_1⟩ := bl2 (KL.blk hj6 (.tail _ (.tail _ (.tail _ (.head _))))); have fF3 := (KL.blk hj6 (.tail _ (.tail _ (.tail _ (.head _))))).frozen; obtain ⟨fL4, f4_0, f4_1⟩ := bl2 (KL.blk hj6 (.tail _ (.tail _ (.tail _ (.tail _ (.head _)))))); have fF4 := (KL.blk hj6 (.tail _ (.tail _ (.tail _ (.tail _ (.head _)))))).frozen; obtain ⟨fL5, f5_0, f5_1⟩ := bl2 (KL.blk hj6 (.tail _ (.tail _ (.tail _ (.tail _ (.tail _ (.head _))))))); have fF5 := (KL.blk hj6 (.tail _ (.tail _ (.tail _ (.tail _ (.tail _ (.head _))))))).frozen)
      | (go_at_call 52; (with_reducible refine (hB2 _).mono ?_); rintro e w7 ⟨rfl, hb7⟩; have hj7 : KL [(g3,46,#[.int .i64 p2x,.int .i64 p2y]),(g2,46,#[.int .i64 q1x,.int .i64 q1y]),((w.heap.size + 1 + 1 + 1),46,#[.int .i64 q2x,.int .i64 q2y]),((w.heap.size + 1 + 1),46,#[.int .i64 q1x,.int .i64 q1y]),((w.heap.size + 1),46,#[.int .i64 p2x,.int .i64 p2y]),(w.heap.size,46,#[.int .i64 p1x,.int .i64 p1y])] w w7 := KL.over (KL.up2 1 hj6 rfl (by omega) (by simp <;> omega)) hb7; obtain ⟨gL0, g0_0, g0_1⟩ := bl2 (KL.blk hj7 (.head _)); have gF0 := (KL.blk hj7 (.head _)).frozen; obtain ⟨gL1, g1_0, g1_1⟩ := bl2 (KL.blk hj7 (.tail _ (.head _))); have gF1 := (KL.blk hj7 (.tail _ (.head _))).frozen; obtain ⟨gL2, g2_0, g2_1⟩ := bl2 (KL.blk hj7 (.tail _ (.tail _ (.head _)))); have gF2 := (KL.blk hj7 (.tail _ (.tail _ (.head _)))).frozen; obtain ⟨gL3, g3_0, g3_1⟩ := bl2 (KL.blk hj7 (.tail _ (.tail _ (.tail _ (.head _))))); have gF3 := (KL.blk hj7 (.tail _ (.tail _ (.tail _ (.head _))))).frozen; obtain ⟨gL4, g4_0, g4_1⟩ := bl2 (KL.blk hj7 (.tail _ (.tail _ (.tail _ (.tail _ (.head _)))))); have gF4 := (KL.blk hj7 (.tail _ (.tail _ (.tail _ (.tail _ (.head _)))))).frozen; obtain ⟨gL5, g5_0, g5_1⟩ := bl2 (KL.blk hj7 (.tail _ (.tail _ (.tail _ (.tail _ (.tail _ (.head _))))))); have gF5 := (KL.blk hj7 (.tail _ (.tail _ (.tail _ (.tail _ (.tail _ (.head _))))))).frozen)
      | (go_at_call 52; (with_reducible refine (hB3 _).mono ?_); rintro e w8 ⟨rfl, hb8⟩; have hj8 : KL [(g3,46,#[.int .i64 p2x,.int .i64 p2y]),(g2,46,#[.int .i64 q1x,.int .i64 q1y]),((w.heap.size + 1 + 1 + 1),46,#[.int .i64 q2x,.int .i64 q2y]),((w.heap.size + 1 + 1),46,#[.int .i64 q1x,.int .i64 q1y]),((w.heap.size + 1),46,#[.int .i64 p2x,.int .i64 p2y]),(w.heap.size,46,#[.int .i64 p1x,.int .i64 p1y])] w w8 := KL.over hj7 hb8; obtain ⟨hL0, h0_0, h0_1⟩ := bl2 (KL.blk hj8 (.head _)); have hF0 := (KL.blk hj8 (.head _)).frozen; obtain ⟨hL1, h1_0, h1_1⟩ := bl2 (KL.blk hj8 (.tail _ (.head _))); have hF1 := (KL.blk hj8 (.tail _ (.head _))).frozen; obtain ⟨hL2, h2_0, h2_1⟩ := bl2 (KL.blk hj8 (.tail _ (.tail _ (.head _)))); have hF2 := (KL.blk hj8 (.tail _ (.tail _ (.head _)))).frozen; obtain ⟨hL3, h3_0, h3_1⟩ := bl2 (KL.blk hj8 (.tail _ (.tail _ (.tail _ (.head _))))); have hF3 := (KL.blk hj8 (.tail _ (.tail _ (.tail _ (.head _))))).frozen; obtain ⟨hL4, h4_0, h4_1⟩ := bl2 (KL.blk hj8 (.tail _ (.tail _ (.tail _ (.tail _ (.head _)))))); have hF4 := (KL.blk hj8 (.tail _ (.tail _ (.tail _ (.tail _ (.head _)))))).frozen; obtain ⟨hL5, h5_0, h5_1⟩ := bl2 (KL.blk hj8 (.tail _ (.tail _ (.tail _ (.tail _ (.tail _ (.head _))))))); have hF5 := (KL.blk hj8 (.tail _ (.tail _ (.tail _ (.tail _ (.tail _ (.head _))))))).frozen))
    go_ret
    exact ⟨rfl, hj8.1⟩
set_option maxHeartbeats 16000000 in
set_option maxRecDepth 100000 in
theorem refMeet_l100 (ax ay bx b_y cx cy dx dy p1x p1y p2x p2y q1x q1y q2x q2y s1 s2 : Int) (hp : (ax == bx && ay == b_y) = false) (hq : (cx == dx && cy == dy) = false) (hT1 : ∀ w, Calls Try.prog 32 #[.agg #[.int .i64 ax, .int .i64 ay], .agg #[.int .i64 bx, .int .i64 b_y], .agg #[.int .i64 cx, .int .i64 cy]] w fun e w' => e = .returned (.int .i64 s1) ∧ Below w.heap.size w w') (hT2 : ∀ w, Calls Try.prog 32 #[.agg #[.int .i64 ax, .int .i64 ay], .agg #[.int .i64 bx, .int .i64 b_y], .agg #[.int .i64 dx, .int .i64 dy]] w fun e w' => e = .returned (.int .i64 s2) ∧ Below w.heap.size w w') (z1 : s1 = 0) (z2 : s2 = 0)
    (hs1 : ∀ w, Calls Try.prog 51 #[.agg #[.int .i64 ax, .int .i64 ay], .agg #[.int .i64 bx, .int .i64 b_y]] w fun e w' => e = .returned (.tuple #[.agg #[.int .i64 p1x, .int .i64 p1y], .agg #[.int .i64 p2x, .int .i64 p2y]]) ∧ Below w.heap.size w w') (hs2 : ∀ w, Calls Try.prog 51 #[.agg #[.int .i64 cx, .int .i64 cy], .agg #[.int .i64 dx, .int .i64 dy]] w fun e w' => e = .returned (.tuple #[.agg #[.int .i64 q1x, .int .i64 q1y], .agg #[.int .i64 q2x, .int .i64 q2y]]) ∧ Below w.heap.size w w')
    (hB1 : ∀ w, Calls Try.prog 52 #[.agg #[.int .i64 p1x, .int .i64 p1y], .agg #[.int .i64 q1x, .int .i64 q1y]] w fun e w' => e = .returned (.bool true) ∧ Below w.heap.size w w') (hB2 : ∀ w, Calls Try.prog 52 #[.agg #[.int .i64 q2x, .int .i64 q2y], .agg #[.int .i64 p2x, .int .i64 p2y]] w fun e w' => e = .returned (.bool false) ∧ Below w.heap.size w w') (hB3 : ∀ w, Calls Try.prog 52 #[.agg #[.int .i64 q1x, .int .i64 q1y], .agg #[.int .i64 p2x, .int .i64 p2y]] w fun e w' => e = .returned (.bool false) ∧ Below w.heap.size w w') (he : (q1x == p2x && q1y == p2y) = false) (w : World) :
    Calls Try.prog 35 #[.agg #[.int .i64 ax, .int .i64 ay], .agg #[.int .i64 bx, .int .i64 b_y], .agg #[.int .i64 cx, .int .i64 cy], .agg #[.int .i64 dx, .int .i64 dy]] w fun e w' => e = .returned (.int .i64 0) ∧ Below w.heap.size w w' := by
  have e1 := eqP ax ay bx b_y
  have e2 := eqP cx cy dx dy
  rw [hp] at e1
  rw [hq] at e2
  clear hp hq
  have d1 : (s1 == 0) = true := by simpa using z1
  have d2 : (s2 == 0) = true := by simpa using z2
  clear z1 z2
  have e3 := eqP q1x q1y p2x p2y
  rw [he] at e3
  clear he
  go_enter Try.func35, Try.ntmps35
  go_wp2_with (first
    | (go_at_call 32; (with_reducible refine (hT1 _).mono ?_); rintro e w1 ⟨rfl, hb1⟩; have hj1 : KL [((w.heap.size + 1 + 1 + 1),46,#[.int .i64 dx,.int .i64 dy]),((w.heap.size + 1 + 1),46,#[.int .i64 cx,.int .i64 cy]),((w.heap.size + 1),46,#[.int .i64 bx,.int .i64 b_y]),(w.heap.size,46,#[.int .i64 ax,.int .i64 ay])] w w1 := KL.over (KL.new (g := (w.heap.size + 1 + 1 + 1)) (KL.new (g := (w.heap.size + 1 + 1)) (KL.new (g := (w.heap.size + 1)) (KL.new (g := w.heap.size) (KL.nil w) rfl _ _) (by simp) _ _) (by simp) _ _) (by simp) _ _) hb1; obtain ⟨aL0, a0_0, a0_1⟩ := bl2 (KL.blk hj1 (.head _)); have aF0 := (KL.blk hj1 (.head _)).frozen; obtain ⟨aL1, a1_0, a1_1⟩ := bl2 (KL.blk hj1 (.tail _ (.head _))); have aF1 := (KL.blk hj1 (.tail _ (.head _))).frozen; obtain ⟨aL2, a2_0, a2_1⟩ := bl2 (KL.blk hj1 (.tail _ (.tail _ (.head _)))); have aF2 := (KL.blk hj1 (.tail _ (.tail _ (.head _)))).frozen; obtain ⟨aL3, a3_0, a3_1⟩ := bl2 (KL.blk hj1 (.tail _ (.tail _ (.tail _ (.head _))))); have aF3 := (KL.blk hj1 (.tail _ (.tail _ (.tail _ (.head _))))).frozen)
    | (go_at_call 32; (with_reducible refine (hT2 _).mono ?_); rintro e w2 ⟨rfl, hb2⟩; have hj2 : KL [((w.heap.size + 1 + 1 + 1),46,#[.int .i64 dx,.int .i64 dy]),((w.heap.size + 1 + 1),46,#[.int .i64 cx,.int .i64 cy]),((w.heap.size + 1),46,#[.int .i64 bx,.int .i64 b_y]),(w.heap.size,46,#[.int .i64 ax,.int .i64 ay])] w w2 := KL.over hj1 hb2; obtain ⟨bL0, b0_0, b0_1⟩ := bl2 (KL.blk hj2 (.head _)); have bF0 := (KL.blk hj2 (.head _)).frozen; obtain ⟨bL1, b1_0, b1_1⟩ := bl2 (KL.blk hj2 (.tail _ (.head _))); have bF1 := (KL.blk hj2 (.tail _ (.head _))).frozen; obtain ⟨bL2, b2_0, b2_1⟩ := bl2 (KL.blk hj2 (.tail _ (.tail _ (.head _)))); have bF2 := (KL.blk hj2 (.tail _ (.tail _ (.head _)))).frozen; obtain ⟨bL3, b3_0, b3_1⟩ := bl2 (KL.blk hj2 (.tail _ (.tail _ (.tail _ (.head _))))); have bF3 := (KL.blk hj2 (.tail _ (.tail _ (.tail _ (.head _))))).frozen)
    | (go_at_call 51; (with_reducible refine (hs1 _).mono ?_); rintro e w3 ⟨rfl, hb3⟩; have hj3 : KL [((w.heap.size + 1 + 1 + 1),46,#[.int .i64 dx,.int .i64 dy]),((w.heap.size + 1 + 1),46,#[.int .i64 cx,.int .i64 cy]),((w.heap.size + 1),46,#[.int .i64 bx,.int .i64 b_y]),(w.heap.size,46,#[.int .i64 ax,.int .i64 ay])] w w3 := KL.over hj2 hb3; obtain ⟨cL0, c0_0, c0_1⟩ := bl2 (KL.blk hj3 (.head _)); have cF0 := (KL.blk hj3 (.head _)).frozen; obtain ⟨cL1, c1_0, c1_1⟩ := bl2 (KL.blk hj3 (.tail _ (.head _))); have cF1 := (KL.blk hj3 (.tail _ (.head _))).frozen; obtain ⟨cL2, c2_0, c2_1⟩ := bl2 (KL.blk hj3 (.tail _ (.tail _ (.head _)))); have cF2 := (KL.blk hj3 (.tail _ (.tail _ (.head _)))).frozen; obtain ⟨cL3, c3_0, c3_1⟩ := bl2 (KL.blk hj3 (.tail _ (.tail _ (.tail _ (.head _))))); have cF3 := (KL.blk hj3 (.tail _ (.tail _ (.tail _ (.head _))))).frozen)
    | (go_at_call 51; (with_reducible refine (hs2 _).mono ?_); rintro e w4 ⟨rfl, hb4⟩; have hj4 : KL [((w.heap.size + 1 + 1 + 1),46,#[.int .i64 dx,.int .i64 dy]),((w.heap.size + 1 + 1),46,#[.int .i64 cx,.int .i64 cy]),((w.heap.size + 1),46,#[.int .i64 p2x,.int .i64 p2y]),(w.heap.size,46,#[.int .i64 p1x,.int .i64 p1y])] w w4 := KL.over (KL.up2 2 (KL.up2 3 hj3 rfl (by omega) (by simp <;> omega)) rfl (by omega) (by simp <;> omega)) hb4; obtain ⟨dL0, d0_0, d0_1⟩ := bl2 (KL.blk hj4 (.head _)); have dF0 := (KL.blk hj4 (.head _)).frozen; obtain ⟨dL1, d1_0, d1_1⟩ := bl2 (KL.blk hj4 (.tail _ (.head _))); have dF1 := (KL.blk hj4 (.tail _ (.head _))).frozen; obtain ⟨dL2, d2_0, d2_1⟩ := bl2 (KL.blk hj4 (.tail _ (.tail _ (.head _)))); have dF2 := (KL.blk hj4 (.tail _ (.tail _ (.head _)))).frozen; obtain ⟨dL3, d3_0, d3_1⟩ := bl2 (KL.blk hj4 (.tail _ (.tail _ (.tail _ (.head _))))); have dF3 := (KL.blk hj4 (.tail _ (.tail _ (.tail _ (.head _))))).frozen))
  refine wp_region_any (by kernel_rfl) ?_
  try (change wpAny _ _ _ _ _ _ _ (World.drew _))
  refine wpAny_alloc (fr := fun o => #[.agg #[.int .i64 ax,.int .i64 ay], .agg #[.int .i64 bx,.int .i64 b_y], .agg #[.int .i64 cx,.int .i64 cy], .agg #[.int .i64 dx,.int .i64 dy], .pointer (some ⟨w.heap.size, 0, none⟩), .pointer (some ⟨(w.heap.size + 1), 0, none⟩), .pointer (some ⟨(w.heap.size + 1 + 1), 0, none⟩), .pointer (some ⟨(w.heap.size + 1 + 1 + 1), 0, none⟩), .int .i64 0, o 2, o 3, .agg #[.int .i64 ax,.int .i64 ay], .agg #[.int .i64 bx,.int .i64 b_y], .bool false, .bool false, .agg #[.int .i64 cx,.int .i64 cy], .agg #[.int .i64 dx,.int .i64 dy], .bool false, .bool false, undef, undef, undef, undef, undef, undef, undef, undef, undef, undef, undef, undef, undef, undef, undef, undef, undef, undef, undef, undef, .agg #[.int .i64 ax,.int .i64 ay], .agg #[.int .i64 bx,.int .i64 b_y], .agg #[.int .i64 cx,.int .i64 cy], .int .i64 s1, .bool true, .bool true, .agg #[.int .i64 ax,.int .i64 ay], .agg #[.int .i64 bx,.int .i64 b_y], .agg #[.int .i64 dx,.int .i64 dy], .int .i64 s2, .bool true, .bool true, .tuple #[.agg #[.int .i64 p1x,.int .i64 p1y],.agg #[.int .i64 p2x,.int .i64 p2y]], .agg #[.int .i64 ax,.int .i64 ay], .agg #[.int .i64 bx,.int .i64 b_y], .tuple #[.agg #[.int .i64 p1x,.int .i64 p1y],.agg #[.int .i64 p2x,.int .i64 p2y]], .agg #[.int .i64 p1x,.int .i64 p1y], .agg #[.int .i64 p2x,.int .i64 p2y], .tuple #[.agg #[.int .i64 q1x,.int .i64 q1y],.agg #[.int .i64 q2x,.int .i64 q2y]], .agg #[.int .i64 cx,.int .i64 cy], .agg #[.int .i64 dx,.int .i64 dy], .tuple #[.agg #[.int .i64 q1x,.int .i64 q1y],.agg #[.int .i64 q2x,.int .i64 q2y]], .agg #[.int .i64 q1x,.int .i64 q1y], .agg #[.int .i64 q2x,.int .i64 q2y], o 0, o 1, undef, undef, undef, undef, undef, undef, undef, undef, undef, undef, undef, undef, undef, undef, undef, undef, undef, undef, undef, undef, undef, undef, undef, undef, undef, undef, undef, undef, undef, undef, undef, undef, undef, undef, undef, undef]) (vals := fun i_ => ([.agg #[.int .i64 p1x,.int .i64 p1y], .agg #[.int .i64 p2x,.int .i64 p2y], undef, undef, undef, undef] : List Value).getD i_ undef) (K := fun W_ => KL [((w.heap.size + 1 + 1 + 1),46,#[.int .i64 q2x,.int .i64 q2y]),((w.heap.size + 1 + 1),46,#[.int .i64 q1x,.int .i64 q1y]),((w.heap.size + 1),46,#[.int .i64 p2x,.int .i64 p2y]),(w.heap.size,46,#[.int .i64 p1x,.int .i64 p1y])] w W_) (dep := fun i_ => [[], [], [], [], [0, 2, 3], [0, 1, 2, 3, 4]].getD i_ []) (dv := fun i_ => [[], [], [], [], [0], [1]].getD i_ []) (kd := fun i_ => [1, 1, 2, 2, 3, 4].getD i_ 0) (sa := fun i_ => [2, 3].getD i_ 0) (ss := [4, 5]) (al := [2, 3]) (l := [0, 1, 2, 3, 4, 5]) (f0 := fun i_ => ([undef,undef,undef,undef,undef,undef] : List Value).getD i_ undef) (B := w.heap.size + 1 + 1 + 1 + 1) (T := 46) (z := #[.int .i64 0, .int .i64 0]) (cont := fun t_ j_ => if j_ = 2 then (if 0 < t_ then #[.int .i64 p1x, .int .i64 p1y] else #[.int .i64 0, .int .i64 0]) else if j_ = 3 then (if 1 < t_ then #[.int .i64 p2x, .int .i64 p2y] else #[.int .i64 0, .int .i64 0]) else #[.int .i64 0, .int .i64 0]) (A := fun g_ => ⟨#[.agg #[.int .i64 ax,.int .i64 ay], .agg #[.int .i64 bx,.int .i64 b_y], .agg #[.int .i64 cx,.int .i64 cy], .agg #[.int .i64 dx,.int .i64 dy], .pointer (some ⟨w.heap.size, 0, none⟩), .pointer (some ⟨(w.heap.size + 1), 0, none⟩), .pointer (some ⟨(w.heap.size + 1 + 1), 0, none⟩), .pointer (some ⟨(w.heap.size + 1 + 1 + 1), 0, none⟩), .int .i64 0, ptrV (g_ 2), ptrV (g_ 3), .agg #[.int .i64 ax,.int .i64 ay], .agg #[.int .i64 bx,.int .i64 b_y], .bool false, .bool false, .agg #[.int .i64 cx,.int .i64 cy], .agg #[.int .i64 dx,.int .i64 dy], .bool false, .bool false, undef, undef, undef, undef, undef, undef, undef, undef, undef, undef, undef, undef, undef, undef, undef, undef, undef, undef, undef, undef, .agg #[.int .i64 ax,.int .i64 ay], .agg #[.int .i64 bx,.int .i64 b_y], .agg #[.int .i64 cx,.int .i64 cy], .int .i64 s1, .bool true, .bool true, .agg #[.int .i64 ax,.int .i64 ay], .agg #[.int .i64 bx,.int .i64 b_y], .agg #[.int .i64 dx,.int .i64 dy], .int .i64 s2, .bool true, .bool true, .tuple #[.agg #[.int .i64 p1x,.int .i64 p1y],.agg #[.int .i64 p2x,.int .i64 p2y]], .agg #[.int .i64 ax,.int .i64 ay], .agg #[.int .i64 bx,.int .i64 b_y], .tuple #[.agg #[.int .i64 p1x,.int .i64 p1y],.agg #[.int .i64 p2x,.int .i64 p2y]], .agg #[.int .i64 p1x,.int .i64 p1y], .agg #[.int .i64 p2x,.int .i64 p2y], .tuple #[.agg #[.int .i64 q1x,.int .i64 q1y],.agg #[.int .i64 q2x,.int .i64 q2y]], .agg #[.int .i64 cx,.int .i64 cy], .agg #[.int .i64 dx,.int .i64 dy], .tuple #[.agg #[.int .i64 q1x,.int .i64 q1y],.agg #[.int .i64 q2x,.int .i64 q2y]], .agg #[.int .i64 q1x,.int .i64 q1y], .agg #[.int .i64 q2x,.int .i64 q2y], .agg #[.int .i64 p1x,.int .i64 p1y], .agg #[.int .i64 p2x,.int .i64 p2y], undef, undef, undef, undef, undef, undef, undef, undef, undef, undef, undef, undef, undef, undef, undef, undef, undef, undef, undef, undef, undef, undef, undef, undef, undef, undef, undef, undef, undef, undef, undef, undef, undef, undef, undef, undef], []⟩) 6 rfl rfl (by decide +kernel) (by decide +kernel) ?_ ?_ ?_ ?_ (fun _ h_ => KL.alloc h_ _) ⟨?_, ?_, ?_, ?_, ?_, ?_, trivial⟩ ?_ ?_
  · exact KL.drew (KL.up2 0 (KL.up2 1 hj4 rfl (by omega) (by simp <;> omega)) rfl (by omega) (by simp <;> omega))
  · first | exact Nat.le_refl _ | (simp; done) | (simp <;> omega) | (show _ ≤ World.heap.size _; omega) | omega
  · intro j_ hj_; simp only [List.mem_cons, List.not_mem_nil, or_false] at hj_; rcases hj_ with rfl | rfl <;> rfl
  · intro t_ ht_ j_ hj_ hn_; simp only [List.mem_cons, List.not_mem_nil, or_false] at hj_; rcases hj_ with rfl | rfl <;> rcases t_ with _ | _ | _ <;> first | rfl | exact absurd rfl hn_ | exact absurd ht_ (by simp)
  · intro o W hj
    have hj : KL _ _ W := hj
    obtain ⟨cL, c0, c1⟩ := bl2 (KL.blk hj (.tail _ (.tail _ (.tail _ (.head _)))))
    show wpOp _ _ _ 0 _ ⟨#[_,_,_,_,_,_,_,_,_,o 2,o 3,_,_,_,_,_,_,_,_,_,_,_,_,_,_,_,_,_,_,_,_,_,_,_,_,_,_,_,_,_,_,_,_,_,_,_,_,_,_,_,_,_,_,_,_,_,_,_,_,_,_,_,_,o 0,o 1,_,_,_,_,_,_,_,_,_,_,_,_,_,_,_,_,_,_,_,_,_,_,_,_,_,_,_,_,_,_,_,_,_,_,_,_], []⟩ W
    refine wpOp_step rfl (fun K' hK => ?_)
    go_simp
    exact hK _ _ ⟨rfl, hj, Below.refl _ _⟩
  · intro o W hj
    have hj : KL _ _ W := hj
    obtain ⟨cL, c0, c1⟩ := bl2 (KL.blk hj (.tail _ (.tail _ (.head _))))
    show wpOp _ _ _ 1 _ ⟨#[_,_,_,_,_,_,_,_,_,o 2,o 3,_,_,_,_,_,_,_,_,_,_,_,_,_,_,_,_,_,_,_,_,_,_,_,_,_,_,_,_,_,_,_,_,_,_,_,_,_,_,_,_,_,_,_,_,_,_,_,_,_,_,_,_,o 0,o 1,_,_,_,_,_,_,_,_,_,_,_,_,_,_,_,_,_,_,_,_,_,_,_,_,_,_,_,_,_,_,_,_,_,_,_,_], []⟩ W
    refine wpOp_step rfl (fun K' hK => ?_)
    go_simp
    exact hK _ _ ⟨rfl, hj, Below.refl _ _⟩
  · intro o W
    show wpOp _ _ _ 2 _ ⟨#[_,_,_,_,_,_,_,_,_,o 2,o 3,_,_,_,_,_,_,_,_,_,_,_,_,_,_,_,_,_,_,_,_,_,_,_,_,_,_,_,_,_,_,_,_,_,_,_,_,_,_,_,_,_,_,_,_,_,_,_,_,_,_,_,_,o 0,o 1,_,_,_,_,_,_,_,_,_,_,_,_,_,_,_,_,_,_,_,_,_,_,_,_,_,_,_,_,_,_,_,_,_,_,_,_], []⟩ W
    refine wpOp_step rfl (fun K' hK => ?_)
    go_simp
    exact hK _ _ ⟨rfl, rfl⟩
  · intro o W
    show wpOp _ _ _ 3 _ ⟨#[_,_,_,_,_,_,_,_,_,o 2,o 3,_,_,_,_,_,_,_,_,_,_,_,_,_,_,_,_,_,_,_,_,_,_,_,_,_,_,_,_,_,_,_,_,_,_,_,_,_,_,_,_,_,_,_,_,_,_,_,_,_,_,_,_,o 0,o 1,_,_,_,_,_,_,_,_,_,_,_,_,_,_,_,_,_,_,_,_,_,_,_,_,_,_,_,_,_,_,_,_,_,_,_,_], []⟩ W
    refine wpOp_step rfl (fun K' hK => ?_)
    go_simp
    exact hK _ _ ⟨rfl, rfl⟩
  · intro o W g_ hj hg_ hb_
    have hj : KL _ _ W := hj
    have hb_ : Blk W g_ 46 #[.int .i64 0, .int .i64 0] := hb_
    obtain ⟨cL, c0, c1⟩ := bl2 hb_
    have cF := hb_.frozen
    show wpOp _ _ _ 4 _ ⟨#[_,_,_,_,_,_,_,_,_,.pointer (some ⟨g_, 0, none⟩),o 3,_,_,_,_,_,_,_,_,_,_,_,_,_,_,_,_,_,_,_,_,_,_,_,_,_,_,_,_,_,_,_,_,_,_,_,_,_,_,_,_,_,_,_,_,_,_,_,_,_,_,_,_,.agg #[.int .i64 p1x,.int .i64 p1y],o 1,_,_,_,_,_,_,_,_,_,_,_,_,_,_,_,_,_,_,_,_,_,_,_,_,_,_,_,_,_,_,_,_,_,_,_,_], []⟩ W
    refine wpOp_step rfl (fun K' hK => ?_)
    go_simp
    exact hK _ _ ⟨rfl, st2 hj (by omega) (by simp <;> omega) hb_⟩
  · intro o W g_ hj hg_ hb_
    have hj : KL _ _ W := hj
    have hb_ : Blk W g_ 46 #[.int .i64 0, .int .i64 0] := hb_
    obtain ⟨cL, c0, c1⟩ := bl2 hb_
    have cF := hb_.frozen
    show wpOp _ _ _ 5 _ ⟨#[_,_,_,_,_,_,_,_,_,o 2,.pointer (some ⟨g_, 0, none⟩),_,_,_,_,_,_,_,_,_,_,_,_,_,_,_,_,_,_,_,_,_,_,_,_,_,_,_,_,_,_,_,_,_,_,_,_,_,_,_,_,_,_,_,_,_,_,_,_,_,_,_,_,o 0,.agg #[.int .i64 p2x,.int .i64 p2y],_,_,_,_,_,_,_,_,_,_,_,_,_,_,_,_,_,_,_,_,_,_,_,_,_,_,_,_,_,_,_,_,_,_,_,_], []⟩ W
    refine wpOp_step rfl (fun K' hK => ?_)
    go_simp
    exact hK _ _ ⟨rfl, st2 hj (by omega) (by simp <;> omega) hb_⟩
  · intro o g_ hh_ hp_
    have e0 : o 0 = .agg #[.int .i64 p1x,.int .i64 p1y] := hh_ 0 (by decide) (by simp)
    have e1 : o 1 = .agg #[.int .i64 p2x,.int .i64 p2y] := hh_ 1 (by decide) (by simp)
    have e2 : o 2 = ptrV (g_ 2) := hp_ 2 (by simp)
    have e3 : o 3 = ptrV (g_ 3) := hp_ 3 (by simp)
    rw [e0, e1, e2, e3]
  · intro W5 g_ h5 ho_ hn_
    have h5 : KL _ _ W5 := h5
    obtain ⟨bg2, Bg2⟩ := ho_ 2 (by simp)
    have Bg2 : Blk W5 (g_ 2) 46 #[.int .i64 p1x, .int .i64 p1y] := Bg2
    obtain ⟨bg3, Bg3⟩ := ho_ 3 (by simp)
    have Bg3 : Blk W5 (g_ 3) 46 #[.int .i64 p2x, .int .i64 p2y] := Bg3
    have ng2g3 := hn_ 2 (by simp) 3 (by simp) (by decide)
    clear ho_ hn_
    dsimp only [ptrV]
    generalize g_ 2 = g2 at *
    generalize g_ 3 = g3 at *
    have h5 := KL.cons Bg2 h5
    have h5 := KL.cons Bg3 h5
    clear Bg2 Bg3
    obtain ⟨eL0, e0_0, e0_1⟩ := bl2 (KL.blk h5 (.head _))
    have eF0 := (KL.blk h5 (.head _)).frozen
    obtain ⟨eL1, e1_0, e1_1⟩ := bl2 (KL.blk h5 (.tail _ (.head _)))
    have eF1 := (KL.blk h5 (.tail _ (.head _))).frozen
    obtain ⟨eL2, e2_0, e2_1⟩ := bl2 (KL.blk h5 (.tail _ (.tail _ (.head _))))
    have eF2 := (KL.blk h5 (.tail _ (.tail _ (.head _)))).frozen
    obtain ⟨eL3, e3_0, e3_1⟩ := bl2 (KL.blk h5 (.tail _ (.tail _ (.tail _ (.head _)))))
    have eF3 := (KL.blk h5 (.tail _ (.tail _ (.tail _ (.head _))))).frozen
    obtain ⟨eL4, e4_0, e4_1⟩ := bl2 (KL.blk h5 (.tail _ (.tail _ (.tail _ (.tail _ (.head _))))))
    have eF4 := (KL.blk h5 (.tail _ (.tail _ (.tail _ (.tail _ (.head _)))))).frozen
    obtain ⟨eL5, e5_0, e5_1⟩ := bl2 (KL.blk h5 (.tail _ (.tail _ (.tail _ (.tail _ (.tail _ (.head _)))))))
    have eF5 := (KL.blk h5 (.tail _ (.tail _ (.tail _ (.tail _ (.tail _ (.head _))))))).frozen
    have hjb := h5.1
    have hjz := hjb.size
    have hnn : g2 ≠ g3 := by first | assumption | exact Ne.symm (by assumption) | omega
    go_wp2_with (first
      | (go_at_call 52; (with_reducible refine (hB1 _).mono ?_); rintro e w6 ⟨rfl, hb6⟩; have hj6 : KL [(g3,46,#[.int .i64 p2x,.int .i64 p2y]),(g2,46,#[.int .i64 p1x,.int .i64 p1y]),((w.heap.size + 1 + 1 + 1),46,#[.int .i64 q2x,.int .i64 q2y]),((w.heap.size + 1 + 1),46,#[.int .i64 q1x,.int .i64 q1y]),((w.heap.size + 1),46,#[.int .i64 p2x,.int .i64 p2y]),(w.heap.size,46,#[.int .i64 p1x,.int .i64 p1y])] w w6 := KL.over h5 hb6; obtain ⟨fL0, f0_0, f0_1⟩ := bl2 (KL.blk hj6 (.head _)); have fF0 := (KL.blk hj6 (.head _)).frozen; obtain ⟨fL1, f1_0, f1_1⟩ := bl2 (KL.blk hj6 (.tail _ (.head _))); have fF1 := (KL.blk hj6 (.tail _ (.head _))).frozen; obtain ⟨fL2, f2_0, f2_1⟩ := bl2 (KL.blk hj6 (.tail _ (.tail _ (.head _)))); have fF2 := (KL.blk hj6 (.tail _ (.tail _ (.head _)))).frozen; obtain ⟨fL3, f3_0, f3_1⟩ := bl2 (KL.blk hj6 (.tail _ (.tail _ (.tail _ (.head _))))); have fF3 := (KL.blk hj6 (.tail _ (.tail _ (.tail _ (.head _))))).frozen; obtain ⟨fL4, f4_0, f4_1⟩ := bl2 (KL.blk hj6 (.tail _ (.tail _ (.tail _ (.tail _ (.head _)))))); have fF4 := (KL.blk hj6 (.tail _ (.tail _ (.tail _ (.tail _ (.head _)))))).frozen; obtain ⟨fL5, f5_0, f5_1⟩ := bl2 (KL.blk hj6 (.tail _ (.tail _ (.tail _ (.tail _ (.tail _ (.head _))))))); have fF5 := (KL.blk hj6 (.tail _ (.tail _ (.tail _ (.tail _ (.tail _ (.head _))))))).frozen)
      | (go_at_call 52; (with_reducible refine (hB2 _).mono ?_); rintro e w7 ⟨rfl, hb7⟩; have hj7 : KL [(g3,46,#[.int .i64 p2x,.int .i64 p2y]),(g2,46,#[.int .i64 q1x,.int .i64 q1y]),((w.heap.size + 1 + 1 + 1),46,#[.int .i64 q2x,.int .i64 q2y]),((w.heap.size + 1 + 1),46,#[.int .i64 q1x,.int .i64 q1y]),((w.heap.size + 1),46,#[.int .i64 p2x,.int .i64 p2y]),(w.heap.size,46,#[.int .i64 p1x,.int .i64 p1y])] w w7 := KL.over (KL.up2 1 hj6 rfl (by omega) (by simp <;> omega)) hb7; obtain ⟨gL0, g0_0, g0_1⟩ := bl2 (KL.blk hj7 (.head _)); have gF0 := (KL.blk hj7 (.head _)).frozen; obtain ⟨gL1, g1_0, g1_1⟩ := bl2 (KL.blk hj7 (.tail _ (.head _))); have gF1 := (KL.blk hj7 (.tail _ (.head _))).frozen; obtain ⟨gL2, g2_0, g2_1⟩ := bl2 (KL.blk hj7 (.tail _ (.tail _ (.head _)))); have gF2 := (KL.blk hj7 (.tail _ (.tail _ (.head _)))).frozen; obtain ⟨gL3, g3_0, g3_1⟩ := bl2 (KL.blk hj7 (.tail _ (.tail _ (.tail _ (.head _))))); have gF3 := (KL.blk hj7 (.tail _ (.tail _ (.tail _ (.head _))))).frozen; obtain ⟨gL4, g4_0, g4_1⟩ := bl2 (KL.blk hj7 (.tail _ (.tail _ (.tail _ (.tail _ (.head _)))))); have gF4 := (KL.blk hj7 (.tail _ (.tail _ (.tail _ (.tail _ (.head _)))))).frozen; obtain ⟨gL5, g5_0, g5_1⟩ := bl2 (KL.blk hj7 (.tail _ (.tail _ (.tail _ (.tail _ (.tail _ (.head _))))))); have gF5 := (KL.blk hj7 (.tail _ (.tail _ (.tail _ (.tail _ (.tail _ (.head _))))))).frozen)
      | (go_at_call 52; (with_reducible refine (hB3 _).mono ?_); rintro e w8 ⟨rfl, hb8⟩; have hj8 : KL [(g3,46,#[.int .i64 p2x,.int .i64 p2y]),(g2,46,#[.int .i64 q1x,.int .i64 q1y]),((w.heap.size + 1 + 1 + 1),46,#[.int .i64 q2x,.int .i64 q2y]),((w.heap.size + 1 + 1),46,#[.int .i64 q1x,.int .i64 q1y]),((w.heap.size + 1),46,#[.int .i64 p2x,.int .i64 p2y]),(w.heap.size,46,#[.int .i64 p1x,.int .i64 p1y])] w w8 := KL.over hj7 hb8; obtain ⟨hL0, h0_0, h0_1⟩ := bl2 (KL.blk hj8 (.head _)); have hF0 := (KL.blk hj8 (.head _)).frozen; obtain ⟨hL1, h1_0, h1_1⟩ := bl2 (KL.blk hj8 (.tail _ (.head _))); have hF1 := (KL.blk hj8 (.tail _ (.head _))).frozen; obtain ⟨hL2, h2_0, h2_1⟩ := bl2 (KL.blk hj8 (.tail _ (.tail _ (.head _)))); have hF2 := (KL.blk hj8 (.tail _ (.tail _ (.head _)))).frozen; obtain ⟨hL3, h3_0, h3_1⟩ := bl2 (KL.blk hj8 (.tail _ (.tail _ (.tail _ (.head _))))); have hF3 := (KL.blk hj8 (.tail _ (.tail _ (.tail _ (.head _))))).frozen; obtain ⟨hL4, h4_0, h4_1⟩ := bl2 (KL.blk hj8 (.tail _ (.tail _ (.tail _ (.tail _ (.head _)))))); have hF4 := (KL.blk hj8 (.tail _ (.tail _ (.tail _ (.tail _ (.head _)))))).frozen; obtain ⟨hL5, h5_0, h5_1⟩ := bl2 (KL.blk hj8 (.tail _ (.tail _ (.tail _ (.tail _ (.tail _ (.head _))))))); have hF5 := (KL.blk hj8 (.tail _ (.tail _ (.tail _ (.tail _ (.tail _ (.head _))))))).frozen))
    go_ret
    exact ⟨rfl, hj8.1⟩
set_option maxHeartbeats 16000000 in
set_option maxRecDepth 100000 in
theorem refMeet_l112 (ax ay bx b_y cx cy dx dy p1x p1y p2x p2y q1x q1y q2x q2y s1 s2 : Int) (hp : (ax == bx && ay == b_y) = false) (hq : (cx == dx && cy == dy) = false) (hT1 : ∀ w, Calls Try.prog 32 #[.agg #[.int .i64 ax, .int .i64 ay], .agg #[.int .i64 bx, .int .i64 b_y], .agg #[.int .i64 cx, .int .i64 cy]] w fun e w' => e = .returned (.int .i64 s1) ∧ Below w.heap.size w w') (hT2 : ∀ w, Calls Try.prog 32 #[.agg #[.int .i64 ax, .int .i64 ay], .agg #[.int .i64 bx, .int .i64 b_y], .agg #[.int .i64 dx, .int .i64 dy]] w fun e w' => e = .returned (.int .i64 s2) ∧ Below w.heap.size w w') (z1 : s1 = 0) (z2 : s2 = 0)
    (hs1 : ∀ w, Calls Try.prog 51 #[.agg #[.int .i64 ax, .int .i64 ay], .agg #[.int .i64 bx, .int .i64 b_y]] w fun e w' => e = .returned (.tuple #[.agg #[.int .i64 p1x, .int .i64 p1y], .agg #[.int .i64 p2x, .int .i64 p2y]]) ∧ Below w.heap.size w w') (hs2 : ∀ w, Calls Try.prog 51 #[.agg #[.int .i64 cx, .int .i64 cy], .agg #[.int .i64 dx, .int .i64 dy]] w fun e w' => e = .returned (.tuple #[.agg #[.int .i64 q1x, .int .i64 q1y], .agg #[.int .i64 q2x, .int .i64 q2y]]) ∧ Below w.heap.size w w')
    (hB1 : ∀ w, Calls Try.prog 52 #[.agg #[.int .i64 p1x, .int .i64 p1y], .agg #[.int .i64 q1x, .int .i64 q1y]] w fun e w' => e = .returned (.bool true) ∧ Below w.heap.size w w') (hB2 : ∀ w, Calls Try.prog 52 #[.agg #[.int .i64 q2x, .int .i64 q2y], .agg #[.int .i64 p2x, .int .i64 p2y]] w fun e w' => e = .returned (.bool true) ∧ Below w.heap.size w w') (hB3 : ∀ w, Calls Try.prog 52 #[.agg #[.int .i64 q1x, .int .i64 q1y], .agg #[.int .i64 q2x, .int .i64 q2y]] w fun e w' => e = .returned (.bool true) ∧ Below w.heap.size w w') (w : World) :
    Calls Try.prog 35 #[.agg #[.int .i64 ax, .int .i64 ay], .agg #[.int .i64 bx, .int .i64 b_y], .agg #[.int .i64 cx, .int .i64 cy], .agg #[.int .i64 dx, .int .i64 dy]] w fun e w' => e = .returned (.int .i64 2) ∧ Below w.heap.size w w' := by
  have e1 := eqP ax ay bx b_y
  have e2 := eqP cx cy dx dy
  rw [hp] at e1
  rw [hq] at e2
  clear hp hq
  have d1 : (s1 == 0) = true := by simpa using z1
  have d2 : (s2 == 0) = true := by simpa using z2
  clear z1 z2
  
  
  
  go_enter Try.func35, Try.ntmps35
  go_wp2_with (first
    | (go_at_call 32; (with_reducible refine (hT1 _).mono ?_); rintro e w1 ⟨rfl, hb1⟩; have hj1 : KL [((w.heap.size + 1 + 1 + 1),46,#[.int .i64 dx,.int .i64 dy]),((w.heap.size + 1 + 1),46,#[.int .i64 cx,.int .i64 cy]),((w.heap.size + 1),46,#[.int .i64 bx,.int .i64 b_y]),(w.heap.size,46,#[.int .i64 ax,.int .i64 ay])] w w1 := KL.over (KL.new (g := (w.heap.size + 1 + 1 + 1)) (KL.new (g := (w.heap.size + 1 + 1)) (KL.new (g := (w.heap.size + 1)) (KL.new (g := w.heap.size) (KL.nil w) rfl _ _) (by simp) _ _) (by simp) _ _) (by simp) _ _) hb1; obtain ⟨aL0, a0_0, a0_1⟩ := bl2 (KL.blk hj1 (.head _)); have aF0 := (KL.blk hj1 (.head _)).frozen; obtain ⟨aL1, a1_0, a1_1⟩ := bl2 (KL.blk hj1 (.tail _ (.head _))); have aF1 := (KL.blk hj1 (.tail _ (.head _))).frozen; obtain ⟨aL2, a2_0, a2_1⟩ := bl2 (KL.blk hj1 (.tail _ (.tail _ (.head _)))); have aF2 := (KL.blk hj1 (.tail _ (.tail _ (.head _)))).frozen; obtain ⟨aL3, a3_0, a3_1⟩ := bl2 (KL.blk hj1 (.tail _ (.tail _ (.tail _ (.head _))))); have aF3 := (KL.blk hj1 (.tail _ (.tail _ (.tail _ (.head _))))).frozen)
    | (go_at_call 32; (with_reducible refine (hT2 _).mono ?_); rintro e w2 ⟨rfl, hb2⟩; have hj2 : KL [((w.heap.size + 1 + 1 + 1),46,#[.int .i64 dx,.int .i64 dy]),((w.heap.size + 1 + 1),46,#[.int .i64 cx,.int .i64 cy]),((w.heap.size + 1),46,#[.int .i64 bx,.int .i64 b_y]),(w.heap.size,46,#[.int .i64 ax,.int .i64 ay])] w w2 := KL.over hj1 hb2; obtain ⟨bL0, b0_0, b0_1⟩ := bl2 (KL.blk hj2 (.head _)); have bF0 := (KL.blk hj2 (.head _)).frozen; obtain ⟨bL1, b1_0, b1_1⟩ := bl2 (KL.blk hj2 (.tail _ (.head _))); have bF1 := (KL.blk hj2 (.tail _ (.head _))).frozen; obtain ⟨bL2, b2_0, b2_1⟩ := bl2 (KL.blk hj2 (.tail _ (.tail _ (.head _)))); have bF2 := (KL.blk hj2 (.tail _ (.tail _ (.head _)))).frozen; obtain ⟨bL3, b3_0, b3_1⟩ := bl2 (KL.blk hj2 (.tail _ (.tail _ (.tail _ (.head _))))); have bF3 := (KL.blk hj2 (.tail _ (.tail _ (.tail _ (.head _))))).frozen)
    | (go_at_call 51; (with_reducible refine (hs1 _).mono ?_); rintro e w3 ⟨rfl, hb3⟩; have hj3 : KL [((w.heap.size + 1 + 1 + 1),46,#[.int .i64 dx,.int .i64 dy]),((w.heap.size + 1 + 1),46,#[.int .i64 cx,.int .i64 cy]),((w.heap.size + 1),46,#[.int .i64 bx,.int .i64 b_y]),(w.heap.size,46,#[.int .i64 ax,.int .i64 ay])] w w3 := KL.over hj2 hb3; obtain ⟨cL0, c0_0, c0_1⟩ := bl2 (KL.blk hj3 (.head _)); have cF0 := (KL.blk hj3 (.head _)).frozen; obtain ⟨cL1, c1_0, c1_1⟩ := bl2 (KL.blk hj3 (.tail _ (.head _))); have cF1 := (KL.blk hj3 (.tail _ (.head _))).frozen; obtain ⟨cL2, c2_0, c2_1⟩ := bl2 (KL.blk hj3 (.tail _ (.tail _ (.head _)))); have cF2 := (KL.blk hj3 (.tail _ (.tail _ (.head _)))).frozen; obtain ⟨cL3, c3_0, c3_1⟩ := bl2 (KL.blk hj3 (.tail _ (.tail _ (.tail _ (.head _))))); have cF3 := (KL.blk hj3 (.tail _ (.tail _ (.tail _ (.head _))))).frozen)
    | (go_at_call 51; (with_reducible refine (hs2 _).mono ?_); rintro e w4 ⟨rfl, hb4⟩; have hj4 : KL [((w.heap.size + 1 + 1 + 1),46,#[.int .i64 dx,.int .i64 dy]),((w.heap.size + 1 + 1),46,#[.int .i64 cx,.int .i64 cy]),((w.heap.size + 1),46,#[.int .i64 p2x,.int .i64 p2y]),(w.heap.size,46,#[.int .i64 p1x,.int .i64 p1y])] w w4 := KL.over (KL.up2 2 (KL.up2 3 hj3 rfl (by omega) (by simp <;> omega)) rfl (by omega) (by simp <;> omega)) hb4; obtain ⟨dL0, d0_0, d0_1⟩ := bl2 (KL.blk hj4 (.head _)); have dF0 := (KL.blk hj4 (.head _)).frozen; obtain ⟨dL1, d1_0, d1_1⟩ := bl2 (KL.blk hj4 (.tail _ (.head _))); have dF1 := (KL.blk hj4 (.tail _ (.head _))).frozen; obtain ⟨dL2, d2_0, d2_1⟩ := bl2 (KL.blk hj4 (.tail _ (.tail _ (.head _)))); have dF2 := (KL.blk hj4 (.tail _ (.tail _ (.head _)))).frozen; obtain ⟨dL3, d3_0, d3_1⟩ := bl2 (KL.blk hj4 (.tail _ (.tail _ (.tail _ (.head _))))); have dF3 := (KL.blk hj4 (.tail _ (.tail _ (.tail _ (.head _))))).frozen))
  refine wp_region_any (by kernel_rfl) ?_
  try (change wpAny _ _ _ _ _ _ _ (World.drew _))
  refine wpAny_alloc (fr := fun o => #[.agg #[.int .i64 ax,.int .i64 ay], .agg #[.int .i64 bx,.int .i64 b_y], .agg #[.int .i64 cx,.int .i64 cy], .agg #[.int .i64 dx,.int .i64 dy], .pointer (some ⟨w.heap.size, 0, none⟩), .pointer (some ⟨(w.heap.size + 1), 0, none⟩), .pointer (some ⟨(w.heap.size + 1 + 1), 0, none⟩), .pointer (some ⟨(w.heap.size + 1 + 1 + 1), 0, none⟩), .int .i64 0, o 2, o 3, .agg #[.int .i64 ax,.int .i64 ay], .agg #[.int .i64 bx,.int .i64 b_y], .bool false, .bool false, .agg #[.int .i64 cx,.int .i64 cy], .agg #[.int .i64 dx,.int .i64 dy], .bool false, .bool false, undef, undef, undef, undef, undef, undef, undef, undef, undef, undef, undef, undef, undef, undef, undef, undef, undef, undef, undef, undef, .agg #[.int .i64 ax,.int .i64 ay], .agg #[.int .i64 bx,.int .i64 b_y], .agg #[.int .i64 cx,.int .i64 cy], .int .i64 s1, .bool true, .bool true, .agg #[.int .i64 ax,.int .i64 ay], .agg #[.int .i64 bx,.int .i64 b_y], .agg #[.int .i64 dx,.int .i64 dy], .int .i64 s2, .bool true, .bool true, .tuple #[.agg #[.int .i64 p1x,.int .i64 p1y],.agg #[.int .i64 p2x,.int .i64 p2y]], .agg #[.int .i64 ax,.int .i64 ay], .agg #[.int .i64 bx,.int .i64 b_y], .tuple #[.agg #[.int .i64 p1x,.int .i64 p1y],.agg #[.int .i64 p2x,.int .i64 p2y]], .agg #[.int .i64 p1x,.int .i64 p1y], .agg #[.int .i64 p2x,.int .i64 p2y], .tuple #[.agg #[.int .i64 q1x,.int .i64 q1y],.agg #[.int .i64 q2x,.int .i64 q2y]], .agg #[.int .i64 cx,.int .i64 cy], .agg #[.int .i64 dx,.int .i64 dy], .tuple #[.agg #[.int .i64 q1x,.int .i64 q1y],.agg #[.int .i64 q2x,.int .i64 q2y]], .agg #[.int .i64 q1x,.int .i64 q1y], .agg #[.int .i64 q2x,.int .i64 q2y], o 0, o 1, undef, undef, undef, undef, undef, undef, undef, undef, undef, undef, undef, undef, undef, undef, undef, undef, undef, undef, undef, undef, undef, undef, undef, undef, undef, undef, undef, undef, undef, undef, undef, undef, undef, undef, undef, undef]) (vals := fun i_ => ([.agg #[.int .i64 p1x,.int .i64 p1y], .agg #[.int .i64 p2x,.int .i64 p2y], undef, undef, undef, undef] : List Value).getD i_ undef) (K := fun W_ => KL [((w.heap.size + 1 + 1 + 1),46,#[.int .i64 q2x,.int .i64 q2y]),((w.heap.size + 1 + 1),46,#[.int .i64 q1x,.int .i64 q1y]),((w.heap.size + 1),46,#[.int .i64 p2x,.int .i64 p2y]),(w.heap.size,46,#[.int .i64 p1x,.int .i64 p1y])] w W_) (dep := fun i_ => [[], [], [], [], [0, 2, 3], [0, 1, 2, 3, 4]].getD i_ []) (dv := fun i_ => [[], [], [], [], [0], [1]].getD i_ []) (kd := fun i_ => [1, 1, 2, 2, 3, 4].getD i_ 0) (sa := fun i_ => [2, 3].getD i_ 0) (ss := [4, 5]) (al := [2, 3]) (l := [0, 1, 2, 3, 4, 5]) (f0 := fun i_ => ([undef,undef,undef,undef,undef,undef] : List Value).getD i_ undef) (B := w.heap.size + 1 + 1 + 1 + 1) (T := 46) (z := #[.int .i64 0, .int .i64 0]) (cont := fun t_ j_ => if j_ = 2 then (if 0 < t_ then #[.int .i64 p1x, .int .i64 p1y] else #[.int .i64 0, .int .i64 0]) else if j_ = 3 then (if 1 < t_ then #[.int .i64 p2x, .int .i64 p2y] else #[.int .i64 0, .int .i64 0]) else #[.int .i64 0, .int .i64 0]) (A := fun g_ => ⟨#[.agg #[.int .i64 ax,.int .i64 ay], .agg #[.int .i64 bx,.int .i64 b_y], .agg #[.int .i64 cx,.int .i64 cy], .agg #[.int .i64 dx,.int .i64 dy], .pointer (some ⟨w.heap.size, 0, none⟩), .pointer (some ⟨(w.heap.size + 1), 0, none⟩), .pointer (some ⟨(w.heap.size + 1 + 1), 0, none⟩), .pointer (some ⟨(w.heap.size + 1 + 1 + 1), 0, none⟩), .int .i64 0, ptrV (g_ 2), ptrV (g_ 3), .agg #[.int .i64 ax,.int .i64 ay], .agg #[.int .i64 bx,.int .i64 b_y], .bool false, .bool false, .agg #[.int .i64 cx,.int .i64 cy], .agg #[.int .i64 dx,.int .i64 dy], .bool false, .bool false, undef, undef, undef, undef, undef, undef, undef, undef, undef, undef, undef, undef, undef, undef, undef, undef, undef, undef, undef, undef, .agg #[.int .i64 ax,.int .i64 ay], .agg #[.int .i64 bx,.int .i64 b_y], .agg #[.int .i64 cx,.int .i64 cy], .int .i64 s1, .bool true, .bool true, .agg #[.int .i64 ax,.int .i64 ay], .agg #[.int .i64 bx,.int .i64 b_y], .agg #[.int .i64 dx,.int .i64 dy], .int .i64 s2, .bool true, .bool true, .tuple #[.agg #[.int .i64 p1x,.int .i64 p1y],.agg #[.int .i64 p2x,.int .i64 p2y]], .agg #[.int .i64 ax,.int .i64 ay], .agg #[.int .i64 bx,.int .i64 b_y], .tuple #[.agg #[.int .i64 p1x,.int .i64 p1y],.agg #[.int .i64 p2x,.int .i64 p2y]], .agg #[.int .i64 p1x,.int .i64 p1y], .agg #[.int .i64 p2x,.int .i64 p2y], .tuple #[.agg #[.int .i64 q1x,.int .i64 q1y],.agg #[.int .i64 q2x,.int .i64 q2y]], .agg #[.int .i64 cx,.int .i64 cy], .agg #[.int .i64 dx,.int .i64 dy], .tuple #[.agg #[.int .i64 q1x,.int .i64 q1y],.agg #[.int .i64 q2x,.int .i64 q2y]], .agg #[.int .i64 q1x,.int .i64 q1y], .agg #[.int .i64 q2x,.int .i64 q2y], .agg #[.int .i64 p1x,.int .i64 p1y], .agg #[.int .i64 p2x,.int .i64 p2y], undef, undef, undef, undef, undef, undef, undef, undef, undef, undef, undef, undef, undef, undef, undef, undef, undef, undef, undef, undef, undef, undef, undef, undef, undef, undef, undef, undef, undef, undef, undef, undef, undef, undef, undef, undef], []⟩) 6 rfl rfl (by decide +kernel) (by decide +kernel) ?_ ?_ ?_ ?_ (fun _ h_ => KL.alloc h_ _) ⟨?_, ?_, ?_, ?_, ?_, ?_, trivial⟩ ?_ ?_
  · exact KL.drew (KL.up2 0 (KL.up2 1 hj4 rfl (by omega) (by simp <;> omega)) rfl (by omega) (by simp <;> omega))
  · first | exact Nat.le_refl _ | (simp; done) | (simp <;> omega) | (show _ ≤ World.heap.size _; omega) | omega
  · intro j_ hj_; simp only [List.mem_cons, List.not_mem_nil, or_false] at hj_; rcases hj_ with rfl | rfl <;> rfl
  · intro t_ ht_ j_ hj_ hn_; simp only [List.mem_cons, List.not_mem_nil, or_false] at hj_; rcases hj_ with rfl | rfl <;> rcases t_ with _ | _ | _ <;> first | rfl | exact absurd rfl hn_ | exact absurd ht_ (by simp)
  · intro o W hj
    have hj : KL _ _ W := hj
    obtain ⟨cL, c0, c1⟩ := bl2 (KL.blk hj (.tail _ (.tail _ (.tail _ (.head _)))))
    show wpOp _ _ _ 0 _ ⟨#[_,_,_,_,_,_,_,_,_,o 2,o 3,_,_,_,_,_,_,_,_,_,_,_,_,_,_,_,_,_,_,_,_,_,_,_,_,_,_,_,_,_,_,_,_,_,_,_,_,_,_,_,_,_,_,_,_,_,_,_,_,_,_,_,_,o 0,o 1,_,_,_,_,_,_,_,_,_,_,_,_,_,_,_,_,_,_,_,_,_,_,_,_,_,_,_,_,_,_,_,_,_,_,_,_], []⟩ W
    refine wpOp_step rfl (fun K' hK => ?_)
    go_simp
    exact hK _ _ ⟨rfl, hj, Below.refl _ _⟩
  · intro o W hj
    have hj : KL _ _ W := hj
    obtain ⟨cL, c0, c1⟩ := bl2 (KL.blk hj (.tail _ (.tail _ (.head _))))
    show wpOp _ _ _ 1 _ ⟨#[_,_,_,_,_,_,_,_,_,o 2,o 3,_,_,_,_,_,_,_,_,_,_,_,_,_,_,_,_,_,_,_,_,_,_,_,_,_,_,_,_,_,_,_,_,_,_,_,_,_,_,_,_,_,_,_,_,_,_,_,_,_,_,_,_,o 0,o 1,_,_,_,_,_,_,_,_,_,_,_,_,_,_,_,_,_,_,_,_,_,_,_,_,_,_,_,_,_,_,_,_,_,_,_,_], []⟩ W
    refine wpOp_step rfl (fun K' hK => ?_)
    go_simp
    exact hK _ _ ⟨rfl, hj, Below.refl _ _⟩
  · intro o W
    show wpOp _ _ _ 2 _ ⟨#[_,_,_,_,_,_,_,_,_,o 2,o 3,_,_,_,_,_,_,_,_,_,_,_,_,_,_,_,_,_,_,_,_,_,_,_,_,_,_,_,_,_,_,_,_,_,_,_,_,_,_,_,_,_,_,_,_,_,_,_,_,_,_,_,_,o 0,o 1,_,_,_,_,_,_,_,_,_,_,_,_,_,_,_,_,_,_,_,_,_,_,_,_,_,_,_,_,_,_,_,_,_,_,_,_], []⟩ W
    refine wpOp_step rfl (fun K' hK => ?_)
    go_simp
    exact hK _ _ ⟨rfl, rfl⟩
  · intro o W
    show wpOp _ _ _ 3 _ ⟨#[_,_,_,_,_,_,_,_,_,o 2,o 3,_,_,_,_,_,_,_,_,_,_,_,_,_,_,_,_,_,_,_,_,_,_,_,_,_,_,_,_,_,_,_,_,_,_,_,_,_,_,_,_,_,_,_,_,_,_,_,_,_,_,_,_,o 0,o 1,_,_,_,_,_,_,_,_,_,_,_,_,_,_,_,_,_,_,_,_,_,_,_,_,_,_,_,_,_,_,_,_,_,_,_,_], []⟩ W
    refine wpOp_step rfl (fun K' hK => ?_)
    go_simp
    exact hK _ _ ⟨rfl, rfl⟩
  · intro o W g_ hj hg_ hb_
    have hj : KL _ _ W := hj
    have hb_ : Blk W g_ 46 #[.int .i64 0, .int .i64 0] := hb_
    obtain ⟨cL, c0, c1⟩ := bl2 hb_
    have cF := hb_.frozen
    show wpOp _ _ _ 4 _ ⟨#[_,_,_,_,_,_,_,_,_,.pointer (some ⟨g_, 0, none⟩),o 3,_,_,_,_,_,_,_,_,_,_,_,_,_,_,_,_,_,_,_,_,_,_,_,_,_,_,_,_,_,_,_,_,_,_,_,_,_,_,_,_,_,_,_,_,_,_,_,_,_,_,_,_,.agg #[.int .i64 p1x,.int .i64 p1y],o 1,_,_,_,_,_,_,_,_,_,_,_,_,_,_,_,_,_,_,_,_,_,_,_,_,_,_,_,_,_,_,_,_,_,_,_,_], []⟩ W
    refine wpOp_step rfl (fun K' hK => ?_)
    go_simp
    exact hK _ _ ⟨rfl, st2 hj (by omega) (by simp <;> omega) hb_⟩
  · intro o W g_ hj hg_ hb_
    have hj : KL _ _ W := hj
    have hb_ : Blk W g_ 46 #[.int .i64 0, .int .i64 0] := hb_
    obtain ⟨cL, c0, c1⟩ := bl2 hb_
    have cF := hb_.frozen
    show wpOp _ _ _ 5 _ ⟨#[_,_,_,_,_,_,_,_,_,o 2,.pointer (some ⟨g_, 0, none⟩),_,_,_,_,_,_,_,_,_,_,_,_,_,_,_,_,_,_,_,_,_,_,_,_,_,_,_,_,_,_,_,_,_,_,_,_,_,_,_,_,_,_,_,_,_,_,_,_,_,_,_,_,o 0,.agg #[.int .i64 p2x,.int .i64 p2y],_,_,_,_,_,_,_,_,_,_,_,_,_,_,_,_,_,_,_,_,_,_,_,_,_,_,_,_,_,_,_,_,_,_,_,_], []⟩ W
    refine wpOp_step rfl (fun K' hK => ?_)
    go_simp
    exact hK _ _ ⟨rfl, st2 hj (by omega) (by simp <;> omega) hb_⟩
  · intro o g_ hh_ hp_
    have e0 : o 0 = .agg #[.int .i64 p1x,.int .i64 p1y] := hh_ 0 (by decide) (by simp)
    have e1 : o 1 = .agg #[.int .i64 p2x,.int .i64 p2y] := hh_ 1 (by decide) (by simp)
    have e2 : o 2 = ptrV (g_ 2) := hp_ 2 (by simp)
    have e3 : o 3 = ptrV (g_ 3) := hp_ 3 (by simp)
    rw [e0, e1, e2, e3]
  · intro W5 g_ h5 ho_ hn_
    have h5 : KL _ _ W5 := h5
    obtain ⟨bg2, Bg2⟩ := ho_ 2 (by simp)
    have Bg2 : Blk W5 (g_ 2) 46 #[.int .i64 p1x, .int .i64 p1y] := Bg2
    obtain ⟨bg3, Bg3⟩ := ho_ 3 (by simp)
    have Bg3 : Blk W5 (g_ 3) 46 #[.int .i64 p2x, .int .i64 p2y] := Bg3
    have ng2g3 := hn_ 2 (by simp) 3 (by simp) (by decide)
    clear ho_ hn_
    dsimp only [ptrV]
    generalize g_ 2 = g2 at *
    generalize g_ 3 = g3 at *
    have h5 := KL.cons Bg2 h5
    have h5 := KL.cons Bg3 h5
    clear Bg2 Bg3
    obtain ⟨eL0, e0_0, e0_1⟩ := bl2 (KL.blk h5 (.head _))
    have eF0 := (KL.blk h5 (.head _)).frozen
    obtain ⟨eL1, e1_0, e1_1⟩ := bl2 (KL.blk h5 (.tail _ (.head _)))
    have eF1 := (KL.blk h5 (.tail _ (.head _))).frozen
    obtain ⟨eL2, e2_0, e2_1⟩ := bl2 (KL.blk h5 (.tail _ (.tail _ (.head _))))
    have eF2 := (KL.blk h5 (.tail _ (.tail _ (.head _)))).frozen
    obtain ⟨eL3, e3_0, e3_1⟩ := bl2 (KL.blk h5 (.tail _ (.tail _ (.tail _ (.head _)))))
    have eF3 := (KL.blk h5 (.tail _ (.tail _ (.tail _ (.head _))))).frozen
    obtain ⟨eL4, e4_0, e4_1⟩ := bl2 (KL.blk h5 (.tail _ (.tail _ (.tail _ (.tail _ (.head _))))))
    have eF4 := (KL.blk h5 (.tail _ (.tail _ (.tail _ (.tail _ (.head _)))))).frozen
    obtain ⟨eL5, e5_0, e5_1⟩ := bl2 (KL.blk h5 (.tail _ (.tail _ (.tail _ (.tail _ (.tail _ (.head _)))))))
    have eF5 := (KL.blk h5 (.tail _ (.tail _ (.tail _ (.tail _ (.tail _ (.head _))))))).frozen
    have hjb := h5.1
    have hjz := hjb.size
    have hnn : g2 ≠ g3 := by first | assumption | exact Ne.symm (by assumption) | omega
    go_wp2_with (first
      | (go_at_call 52; (with_reducible refine (hB1 _).mono ?_); rintro e w6 ⟨rfl, hb6⟩; have hj6 : KL [(g3,46,#[.int .i64 p2x,.int .i64 p2y]),(g2,46,#[.int .i64 p1x,.int .i64 p1y]),((w.heap.size + 1 + 1 + 1),46,#[.int .i64 q2x,.int .i64 q2y]),((w.heap.size + 1 + 1),46,#[.int .i64 q1x,.int .i64 q1y]),((w.heap.size + 1),46,#[.int .i64 p2x,.int .i64 p2y]),(w.heap.size,46,#[.int .i64 p1x,.int .i64 p1y])] w w6 := KL.over h5 hb6; obtain ⟨fL0, f0_0, f0_1⟩ := bl2 (KL.blk hj6 (.head _)); have fF0 := (KL.blk hj6 (.head _)).frozen; obtain ⟨fL1, f1_0, f1_1⟩ := bl2 (KL.blk hj6 (.tail _ (.head _))); have fF1 := (KL.blk hj6 (.tail _ (.head _))).frozen; obtain ⟨fL2, f2_0, f2_1⟩ := bl2 (KL.blk hj6 (.tail _ (.tail _ (.head _)))); have fF2 := (KL.blk hj6 (.tail _ (.tail _ (.head _)))).frozen; obtain ⟨fL3, f3_0, f3_1⟩ := bl2 (KL.blk hj6 (.tail _ (.tail _ (.tail _ (.head _))))); have fF3 := (KL.blk hj6 (.tail _ (.tail _ (.tail _ (.head _))))).frozen; obtain ⟨fL4, f4_0, f4_1⟩ := bl2 (KL.blk hj6 (.tail _ (.tail _ (.tail _ (.tail _ (.head _)))))); have fF4 := (KL.blk hj6 (.tail _ (.tail _ (.tail _ (.tail _ (.head _)))))).frozen; obtain ⟨fL5, f5_0, f5_1⟩ := bl2 (KL.blk hj6 (.tail _ (.tail _ (.tail _ (.tail _ (.tail _ (.head _))))))); have fF5 := (KL.blk hj6 (.tail _ (.tail _ (.tail _ (.tail _ (.tail _ (.head _))))))).frozen)
      | (go_at_call 52; (with_reducible refine (hB2 _).mono ?_); rintro e w7 ⟨rfl, hb7⟩; have hj7 : KL [(g3,46,#[.int .i64 p2x,.int .i64 p2y]),(g2,46,#[.int .i64 q1x,.int .i64 q1y]),((w.heap.size + 1 + 1 + 1),46,#[.int .i64 q2x,.int .i64 q2y]),((w.heap.size + 1 + 1),46,#[.int .i64 q1x,.int .i64 q1y]),((w.heap.size + 1),46,#[.int .i64 p2x,.int .i64 p2y]),(w.heap.size,46,#[.int .i64 p1x,.int .i64 p1y])] w w7 := KL.over (KL.up2 1 hj6 rfl (by omega) (by simp <;> omega)) hb7; obtain ⟨gL0, g0_0, g0_1⟩ := bl2 (KL.blk hj7 (.head _)); have gF0 := (KL.blk hj7 (.head _)).frozen; obtain ⟨gL1, g1_0, g1_1⟩ := bl2 (KL.blk hj7 (.tail _ (.head _))); have gF1 := (KL.blk hj7 (.tail _ (.head _))).frozen; obtain ⟨gL2, g2_0, g2_1⟩ := bl2 (KL.blk hj7 (.tail _ (.tail _ (.head _)))); have gF2 := (KL.blk hj7 (.tail _ (.tail _ (.head _)))).frozen; obtain ⟨gL3, g3_0, g3_1⟩ := bl2 (KL.blk hj7 (.tail _ (.tail _ (.tail _ (.head _))))); have gF3 := (KL.blk hj7 (.tail _ (.tail _ (.tail _ (.head _))))).frozen; obtain ⟨gL4, g4_0, g4_1⟩ := bl2 (KL.blk hj7 (.tail _ (.tail _ (.tail _ (.tail _ (.head _)))))); have gF4 := (KL.blk hj7 (.tail _ (.tail _ (.tail _ (.tail _ (.head _)))))).frozen; obtain ⟨gL5, g5_0, g5_1⟩ := bl2 (KL.blk hj7 (.tail _ (.tail _ (.tail _ (.tail _ (.tail _ (.head _))))))); have gF5 := (KL.blk hj7 (.tail _ (.tail _ (.tail _ (.tail _ (.tail _ (.head _))))))).frozen)
      | (go_at_call 52; (with_reducible refine (hB3 _).mono ?_); rintro e w8 ⟨rfl, hb8⟩; have hj8 : KL [(g3,46,#[.int .i64 q2x,.int .i64 q2y]),(g2,46,#[.int .i64 q1x,.int .i64 q1y]),((w.heap.size + 1 + 1 + 1),46,#[.int .i64 q2x,.int .i64 q2y]),((w.heap.size + 1 + 1),46,#[.int .i64 q1x,.int .i64 q1y]),((w.heap.size + 1),46,#[.int .i64 p2x,.int .i64 p2y]),(w.heap.size,46,#[.int .i64 p1x,.int .i64 p1y])] w w8 := KL.over (KL.up2 0 hj7 rfl (by omega) (by simp <;> omega)) hb8; obtain ⟨hL0, h0_0, h0_1⟩ := bl2 (KL.blk hj8 (.head _)); have hF0 := (KL.blk hj8 (.head _)).frozen; obtain ⟨hL1, h1_0, h1_1⟩ := bl2 (KL.blk hj8 (.tail _ (.head _))); have hF1 := (KL.blk hj8 (.tail _ (.head _))).frozen; obtain ⟨hL2, h2_0, h2_1⟩ := bl2 (KL.blk hj8 (.tail _ (.tail _ (.head _)))); have hF2 := (KL.blk hj8 (.tail _ (.tail _ (.head _)))).frozen; obtain ⟨hL3, h3_0, h3_1⟩ := bl2 (KL.blk hj8 (.tail _ (.tail _ (.tail _ (.head _))))); have hF3 := (KL.blk hj8 (.tail _ (.tail _ (.tail _ (.head _))))).frozen; obtain ⟨hL4, h4_0, h4_1⟩ := bl2 (KL.blk hj8 (.tail _ (.tail _ (.tail _ (.tail _ (.head _)))))); have hF4 := (KL.blk hj8 (.tail _ (.tail _ (.tail _ (.tail _ (.head _)))))).frozen; obtain ⟨hL5, h5_0, h5_1⟩ := bl2 (KL.blk hj8 (.tail _ (.tail _ (.tail _ (.tail _ (.tail _ (.head _))))))); have hF5 := (KL.blk hj8 (.tail _ (.tail _ (.tail _ (.tail _ (.tail _ (.head _))))))).frozen))
    go_ret
    exact ⟨rfl, hj8.1⟩
set_option maxHeartbeats 16000000 in
set_option maxRecDepth 100000 in
theorem refMeet_l111 (ax ay bx b_y cx cy dx dy p1x p1y p2x p2y q1x q1y q2x q2y s1 s2 : Int) (hp : (ax == bx && ay == b_y) = false) (hq : (cx == dx && cy == dy) = false) (hT1 : ∀ w, Calls Try.prog 32 #[.agg #[.int .i64 ax, .int .i64 ay], .agg #[.int .i64 bx, .int .i64 b_y], .agg #[.int .i64 cx, .int .i64 cy]] w fun e w' => e = .returned (.int .i64 s1) ∧ Below w.heap.size w w') (hT2 : ∀ w, Calls Try.prog 32 #[.agg #[.int .i64 ax, .int .i64 ay], .agg #[.int .i64 bx, .int .i64 b_y], .agg #[.int .i64 dx, .int .i64 dy]] w fun e w' => e = .returned (.int .i64 s2) ∧ Below w.heap.size w w') (z1 : s1 = 0) (z2 : s2 = 0)
    (hs1 : ∀ w, Calls Try.prog 51 #[.agg #[.int .i64 ax, .int .i64 ay], .agg #[.int .i64 bx, .int .i64 b_y]] w fun e w' => e = .returned (.tuple #[.agg #[.int .i64 p1x, .int .i64 p1y], .agg #[.int .i64 p2x, .int .i64 p2y]]) ∧ Below w.heap.size w w') (hs2 : ∀ w, Calls Try.prog 51 #[.agg #[.int .i64 cx, .int .i64 cy], .agg #[.int .i64 dx, .int .i64 dy]] w fun e w' => e = .returned (.tuple #[.agg #[.int .i64 q1x, .int .i64 q1y], .agg #[.int .i64 q2x, .int .i64 q2y]]) ∧ Below w.heap.size w w')
    (hB1 : ∀ w, Calls Try.prog 52 #[.agg #[.int .i64 p1x, .int .i64 p1y], .agg #[.int .i64 q1x, .int .i64 q1y]] w fun e w' => e = .returned (.bool true) ∧ Below w.heap.size w w') (hB2 : ∀ w, Calls Try.prog 52 #[.agg #[.int .i64 q2x, .int .i64 q2y], .agg #[.int .i64 p2x, .int .i64 p2y]] w fun e w' => e = .returned (.bool true) ∧ Below w.heap.size w w') (hB3 : ∀ w, Calls Try.prog 52 #[.agg #[.int .i64 q1x, .int .i64 q1y], .agg #[.int .i64 q2x, .int .i64 q2y]] w fun e w' => e = .returned (.bool false) ∧ Below w.heap.size w w') (he : (q1x == q2x && q1y == q2y) = true) (w : World) :
    Calls Try.prog 35 #[.agg #[.int .i64 ax, .int .i64 ay], .agg #[.int .i64 bx, .int .i64 b_y], .agg #[.int .i64 cx, .int .i64 cy], .agg #[.int .i64 dx, .int .i64 dy]] w fun e w' => e = .returned (.int .i64 1) ∧ Below w.heap.size w w' := by
  have e1 := eqP ax ay bx b_y
  have e2 := eqP cx cy dx dy
  rw [hp] at e1
  rw [hq] at e2
  clear hp hq
  have d1 : (s1 == 0) = true := by simpa using z1
  have d2 : (s2 == 0) = true := by simpa using z2
  clear z1 z2
  have e3 := eqP q1x q1y q2x q2y
  rw [he] at e3
  clear he
  go_enter Try.func35, Try.ntmps35
  go_wp2_with (first
    | (go_at_call 32; (with_reducible refine (hT1 _).mono ?_); rintro e w1 ⟨rfl, hb1⟩; have hj1 : KL [((w.heap.size + 1 + 1 + 1),46,#[.int .i64 dx,.int .i64 dy]),((w.heap.size + 1 + 1),46,#[.int .i64 cx,.int .i64 cy]),((w.heap.size + 1),46,#[.int .i64 bx,.int .i64 b_y]),(w.heap.size,46,#[.int .i64 ax,.int .i64 ay])] w w1 := KL.over (KL.new (g := (w.heap.size + 1 + 1 + 1)) (KL.new (g := (w.heap.size + 1 + 1)) (KL.new (g := (w.heap.size + 1)) (KL.new (g := w.heap.size) (KL.nil w) rfl _ _) (by simp) _ _) (by simp) _ _) (by simp) _ _) hb1; obtain ⟨aL0, a0_0, a0_1⟩ := bl2 (KL.blk hj1 (.head _)); have aF0 := (KL.blk hj1 (.head _)).frozen; obtain ⟨aL1, a1_0, a1_1⟩ := bl2 (KL.blk hj1 (.tail _ (.head _))); have aF1 := (KL.blk hj1 (.tail _ (.head _))).frozen; obtain ⟨aL2, a2_0, a2_1⟩ := bl2 (KL.blk hj1 (.tail _ (.tail _ (.head _)))); have aF2 := (KL.blk hj1 (.tail _ (.tail _ (.head _)))).frozen; obtain ⟨aL3, a3_0, a3_1⟩ := bl2 (KL.blk hj1 (.tail _ (.tail _ (.tail _ (.head _))))); have aF3 := (KL.blk hj1 (.tail _ (.tail _ (.tail _ (.head _))))).frozen)
    | (go_at_call 32; (with_reducible refine (hT2 _).mono ?_); rintro e w2 ⟨rfl, hb2⟩; have hj2 : KL [((w.heap.size + 1 + 1 + 1),46,#[.int .i64 dx,.int .i64 dy]),((w.heap.size + 1 + 1),46,#[.int .i64 cx,.int .i64 cy]),((w.heap.size + 1),46,#[.int .i64 bx,.int .i64 b_y]),(w.heap.size,46,#[.int .i64 ax,.int .i64 ay])] w w2 := KL.over hj1 hb2; obtain ⟨bL0, b0_0, b0_1⟩ := bl2 (KL.blk hj2 (.head _)); have bF0 := (KL.blk hj2 (.head _)).frozen; obtain ⟨bL1, b1_0, b1_1⟩ := bl2 (KL.blk hj2 (.tail _ (.head _))); have bF1 := (KL.blk hj2 (.tail _ (.head _))).frozen; obtain ⟨bL2, b2_0, b2_1⟩ := bl2 (KL.blk hj2 (.tail _ (.tail _ (.head _)))); have bF2 := (KL.blk hj2 (.tail _ (.tail _ (.head _)))).frozen; obtain ⟨bL3, b3_0, b3_1⟩ := bl2 (KL.blk hj2 (.tail _ (.tail _ (.tail _ (.head _))))); have bF3 := (KL.blk hj2 (.tail _ (.tail _ (.tail _ (.head _))))).frozen)
    | (go_at_call 51; (with_reducible refine (hs1 _).mono ?_); rintro e w3 ⟨rfl, hb3⟩; have hj3 : KL [((w.heap.size + 1 + 1 + 1),46,#[.int .i64 dx,.int .i64 dy]),((w.heap.size + 1 + 1),46,#[.int .i64 cx,.int .i64 cy]),((w.heap.size + 1),46,#[.int .i64 bx,.int .i64 b_y]),(w.heap.size,46,#[.int .i64 ax,.int .i64 ay])] w w3 := KL.over hj2 hb3; obtain ⟨cL0, c0_0, c0_1⟩ := bl2 (KL.blk hj3 (.head _)); have cF0 := (KL.blk hj3 (.head _)).frozen; obtain ⟨cL1, c1_0, c1_1⟩ := bl2 (KL.blk hj3 (.tail _ (.head _))); have cF1 := (KL.blk hj3 (.tail _ (.head _))).frozen; obtain ⟨cL2, c2_0, c2_1⟩ := bl2 (KL.blk hj3 (.tail _ (.tail _ (.head _)))); have cF2 := (KL.blk hj3 (.tail _ (.tail _ (.head _)))).frozen; obtain ⟨cL3, c3_0, c3_1⟩ := bl2 (KL.blk hj3 (.tail _ (.tail _ (.tail _ (.head _))))); have cF3 := (KL.blk hj3 (.tail _ (.tail _ (.tail _ (.head _))))).frozen)
    | (go_at_call 51; (with_reducible refine (hs2 _).mono ?_); rintro e w4 ⟨rfl, hb4⟩; have hj4 : KL [((w.heap.size + 1 + 1 + 1),46,#[.int .i64 dx,.int .i64 dy]),((w.heap.size + 1 + 1),46,#[.int .i64 cx,.int .i64 cy]),((w.heap.size + 1),46,#[.int .i64 p2x,.int .i64 p2y]),(w.heap.size,46,#[.int .i64 p1x,.int .i64 p1y])] w w4 := KL.over (KL.up2 2 (KL.up2 3 hj3 rfl (by omega) (by simp <;> omega)) rfl (by omega) (by simp <;> omega)) hb4; obtain ⟨dL0, d0_0, d0_1⟩ := bl2 (KL.blk hj4 (.head _)); have dF0 := (KL.blk hj4 (.head _)).frozen; obtain ⟨dL1, d1_0, d1_1⟩ := bl2 (KL.blk hj4 (.tail _ (.head _))); have dF1 := (KL.blk hj4 (.tail _ (.head _))).frozen; obtain ⟨dL2, d2_0, d2_1⟩ := bl2 (KL.blk hj4 (.tail _ (.tail _ (.head _)))); have dF2 := (KL.blk hj4 (.tail _ (.tail _ (.head _)))).frozen; obtain ⟨dL3, d3_0, d3_1⟩ := bl2 (KL.blk hj4 (.tail _ (.tail _ (.tail _ (.head _))))); have dF3 := (KL.blk hj4 (.tail _ (.tail _ (.tail _ (.head _))))).frozen))
  refine wp_region_any (by kernel_rfl) ?_
  try (change wpAny _ _ _ _ _ _ _ (World.drew _))
  refine wpAny_alloc (fr := fun o => #[.agg #[.int .i64 ax,.int .i64 ay], .agg #[.int .i64 bx,.int .i64 b_y], .agg #[.int .i64 cx,.int .i64 cy], .agg #[.int .i64 dx,.int .i64 dy], .pointer (some ⟨w.heap.size, 0, none⟩), .pointer (some ⟨(w.heap.size + 1), 0, none⟩), .pointer (some ⟨(w.heap.size + 1 + 1), 0, none⟩), .pointer (some ⟨(w.heap.size + 1 + 1 + 1), 0, none⟩), .int .i64 0, o 2, o 3, .agg #[.int .i64 ax,.int .i64 ay], .agg #[.int .i64 bx,.int .i64 b_y], .bool false, .bool false, .agg #[.int .i64 cx,.int .i64 cy], .agg #[.int .i64 dx,.int .i64 dy], .bool false, .bool false, undef, undef, undef, undef, undef, undef, undef, undef, undef, undef, undef, undef, undef, undef, undef, undef, undef, undef, undef, undef, .agg #[.int .i64 ax,.int .i64 ay], .agg #[.int .i64 bx,.int .i64 b_y], .agg #[.int .i64 cx,.int .i64 cy], .int .i64 s1, .bool true, .bool true, .agg #[.int .i64 ax,.int .i64 ay], .agg #[.int .i64 bx,.int .i64 b_y], .agg #[.int .i64 dx,.int .i64 dy], .int .i64 s2, .bool true, .bool true, .tuple #[.agg #[.int .i64 p1x,.int .i64 p1y],.agg #[.int .i64 p2x,.int .i64 p2y]], .agg #[.int .i64 ax,.int .i64 ay], .agg #[.int .i64 bx,.int .i64 b_y], .tuple #[.agg #[.int .i64 p1x,.int .i64 p1y],.agg #[.int .i64 p2x,.int .i64 p2y]], .agg #[.int .i64 p1x,.int .i64 p1y], .agg #[.int .i64 p2x,.int .i64 p2y], .tuple #[.agg #[.int .i64 q1x,.int .i64 q1y],.agg #[.int .i64 q2x,.int .i64 q2y]], .agg #[.int .i64 cx,.int .i64 cy], .agg #[.int .i64 dx,.int .i64 dy], .tuple #[.agg #[.int .i64 q1x,.int .i64 q1y],.agg #[.int .i64 q2x,.int .i64 q2y]], .agg #[.int .i64 q1x,.int .i64 q1y], .agg #[.int .i64 q2x,.int .i64 q2y], o 0, o 1, undef, undef, undef, undef, undef, undef, undef, undef, undef, undef, undef, undef, undef, undef, undef, undef, undef, undef, undef, undef, undef, undef, undef, undef, undef, undef, undef, undef, undef, undef, undef, undef, undef, undef, undef, undef]) (vals := fun i_ => ([.agg #[.int .i64 p1x,.int .i64 p1y], .agg #[.int .i64 p2x,.int .i64 p2y], undef, undef, undef, undef] : List Value).getD i_ undef) (K := fun W_ => KL [((w.heap.size + 1 + 1 + 1),46,#[.int .i64 q2x,.int .i64 q2y]),((w.heap.size + 1 + 1),46,#[.int .i64 q1x,.int .i64 q1y]),((w.heap.size + 1),46,#[.int .i64 p2x,.int .i64 p2y]),(w.heap.size,46,#[.int .i64 p1x,.int .i64 p1y])] w W_) (dep := fun i_ => [[], [], [], [], [0, 2, 3], [0, 1, 2, 3, 4]].getD i_ []) (dv := fun i_ => [[], [], [], [], [0], [1]].getD i_ []) (kd := fun i_ => [1, 1, 2, 2, 3, 4].getD i_ 0) (sa := fun i_ => [2, 3].getD i_ 0) (ss := [4, 5]) (al := [2, 3]) (l := [0, 1, 2, 3, 4, 5]) (f0 := fun i_ => ([undef,undef,undef,undef,undef,undef] : List Value).getD i_ undef) (B := w.heap.size + 1 + 1 + 1 + 1) (T := 46) (z := #[.int .i64 0, .int .i64 0]) (cont := fun t_ j_ => if j_ = 2 then (if 0 < t_ then #[.int .i64 p1x, .int .i64 p1y] else #[.int .i64 0, .int .i64 0]) else if j_ = 3 then (if 1 < t_ then #[.int .i64 p2x, .int .i64 p2y] else #[.int .i64 0, .int .i64 0]) else #[.int .i64 0, .int .i64 0]) (A := fun g_ => ⟨#[.agg #[.int .i64 ax,.int .i64 ay], .agg #[.int .i64 bx,.int .i64 b_y], .agg #[.int .i64 cx,.int .i64 cy], .agg #[.int .i64 dx,.int .i64 dy], .pointer (some ⟨w.heap.size, 0, none⟩), .pointer (some ⟨(w.heap.size + 1), 0, none⟩), .pointer (some ⟨(w.heap.size + 1 + 1), 0, none⟩), .pointer (some ⟨(w.heap.size + 1 + 1 + 1), 0, none⟩), .int .i64 0, ptrV (g_ 2), ptrV (g_ 3), .agg #[.int .i64 ax,.int .i64 ay], .agg #[.int .i64 bx,.int .i64 b_y], .bool false, .bool false, .agg #[.int .i64 cx,.int .i64 cy], .agg #[.int .i64 dx,.int .i64 dy], .bool false, .bool false, undef, undef, undef, undef, undef, undef, undef, undef, undef, undef, undef, undef, undef, undef, undef, undef, undef, undef, undef, undef, .agg #[.int .i64 ax,.int .i64 ay], .agg #[.int .i64 bx,.int .i64 b_y], .agg #[.int .i64 cx,.int .i64 cy], .int .i64 s1, .bool true, .bool true, .agg #[.int .i64 ax,.int .i64 ay], .agg #[.int .i64 bx,.int .i64 b_y], .agg #[.int .i64 dx,.int .i64 dy], .int .i64 s2, .bool true, .bool true, .tuple #[.agg #[.int .i64 p1x,.int .i64 p1y],.agg #[.int .i64 p2x,.int .i64 p2y]], .agg #[.int .i64 ax,.int .i64 ay], .agg #[.int .i64 bx,.int .i64 b_y], .tuple #[.agg #[.int .i64 p1x,.int .i64 p1y],.agg #[.int .i64 p2x,.int .i64 p2y]], .agg #[.int .i64 p1x,.int .i64 p1y], .agg #[.int .i64 p2x,.int .i64 p2y], .tuple #[.agg #[.int .i64 q1x,.int .i64 q1y],.agg #[.int .i64 q2x,.int .i64 q2y]], .agg #[.int .i64 cx,.int .i64 cy], .agg #[.int .i64 dx,.int .i64 dy], .tuple #[.agg #[.int .i64 q1x,.int .i64 q1y],.agg #[.int .i64 q2x,.int .i64 q2y]], .agg #[.int .i64 q1x,.int .i64 q1y], .agg #[.int .i64 q2x,.int .i64 q2y], .agg #[.int .i64 p1x,.int .i64 p1y], .agg #[.int .i64 p2x,.int .i64 p2y], undef, undef, undef, undef, undef, undef, undef, undef, undef, undef, undef, undef, undef, undef, undef, undef, undef, undef, undef, undef, undef, undef, undef, undef, undef, undef, undef, undef, undef, undef, undef, undef, undef, undef, undef, undef], []⟩) 6 rfl rfl (by decide +kernel) (by decide +kernel) ?_ ?_ ?_ ?_ (fun _ h_ => KL.alloc h_ _) ⟨?_, ?_, ?_, ?_, ?_, ?_, trivial⟩ ?_ ?_
  · exact KL.drew (KL.up2 0 (KL.up2 1 hj4 rfl (by omega) (by simp <;> omega)) rfl (by omega) (by simp <;> omega))
  · first | exact Nat.le_refl _ | (simp; done) | (simp <;> omega) | (show _ ≤ World.heap.size _; omega) | omega
  · intro j_ hj_; simp only [List.mem_cons, List.not_mem_nil, or_false] at hj_; rcases hj_ with rfl | rfl <;> rfl
  · intro t_ ht_ j_ hj_ hn_; simp only [List.mem_cons, List.not_mem_nil, or_false] at hj_; rcases hj_ with rfl | rfl <;> rcases t_ with _ | _ | _ <;> first | rfl | exact absurd rfl hn_ | exact absurd ht_ (by simp)
  · intro o W hj
    have hj : KL _ _ W := hj
    obtain ⟨cL, c0, c1⟩ := bl2 (KL.blk hj (.tail _ (.tail _ (.tail _ (.head _)))))
    show wpOp _ _ _ 0 _ ⟨#[_,_,_,_,_,_,_,_,_,o 2,o 3,_,_,_,_,_,_,_,_,_,_,_,_,_,_,_,_,_,_,_,_,_,_,_,_,_,_,_,_,_,_,_,_,_,_,_,_,_,_,_,_,_,_,_,_,_,_,_,_,_,_,_,_,o 0,o 1,_,_,_,_,_,_,_,_,_,_,_,_,_,_,_,_,_,_,_,_,_,_,_,_,_,_,_,_,_,_,_,_,_,_,_,_], []⟩ W
    refine wpOp_step rfl (fun K' hK => ?_)
    go_simp
    exact hK _ _ ⟨rfl, hj, Below.refl _ _⟩
  · intro o W hj
    have hj : KL _ _ W := hj
    obtain ⟨cL, c0, c1⟩ := bl2 (KL.blk hj (.tail _ (.tail _ (.head _))))
    show wpOp _ _ _ 1 _ ⟨#[_,_,_,_,_,_,_,_,_,o 2,o 3,_,_,_,_,_,_,_,_,_,_,_,_,_,_,_,_,_,_,_,_,_,_,_,_,_,_,_,_,_,_,_,_,_,_,_,_,_,_,_,_,_,_,_,_,_,_,_,_,_,_,_,_,o 0,o 1,_,_,_,_,_,_,_,_,_,_,_,_,_,_,_,_,_,_,_,_,_,_,_,_,_,_,_,_,_,_,_,_,_,_,_,_], []⟩ W
    refine wpOp_step rfl (fun K' hK => ?_)
    go_simp
    exact hK _ _ ⟨rfl, hj, Below.refl _ _⟩
  · intro o W
    show wpOp _ _ _ 2 _ ⟨#[_,_,_,_,_,_,_,_,_,o 2,o 3,_,_,_,_,_,_,_,_,_,_,_,_,_,_,_,_,_,_,_,_,_,_,_,_,_,_,_,_,_,_,_,_,_,_,_,_,_,_,_,_,_,_,_,_,_,_,_,_,_,_,_,_,o 0,o 1,_,_,_,_,_,_,_,_,_,_,_,_,_,_,_,_,_,_,_,_,_,_,_,_,_,_,_,_,_,_,_,_,_,_,_,_], []⟩ W
    refine wpOp_step rfl (fun K' hK => ?_)
    go_simp
    exact hK _ _ ⟨rfl, rfl⟩
  · intro o W
    show wpOp _ _ _ 3 _ ⟨#[_,_,_,_,_,_,_,_,_,o 2,o 3,_,_,_,_,_,_,_,_,_,_,_,_,_,_,_,_,_,_,_,_,_,_,_,_,_,_,_,_,_,_,_,_,_,_,_,_,_,_,_,_,_,_,_,_,_,_,_,_,_,_,_,_,o 0,o 1,_,_,_,_,_,_,_,_,_,_,_,_,_,_,_,_,_,_,_,_,_,_,_,_,_,_,_,_,_,_,_,_,_,_,_,_], []⟩ W
    refine wpOp_step rfl (fun K' hK => ?_)
    go_simp
    exact hK _ _ ⟨rfl, rfl⟩
  · intro o W g_ hj hg_ hb_
    have hj : KL _ _ W := hj
    have hb_ : Blk W g_ 46 #[.int .i64 0, .int .i64 0] := hb_
    obtain ⟨cL, c0, c1⟩ := bl2 hb_
    have cF := hb_.frozen
    show wpOp _ _ _ 4 _ ⟨#[_,_,_,_,_,_,_,_,_,.pointer (some ⟨g_, 0, none⟩),o 3,_,_,_,_,_,_,_,_,_,_,_,_,_,_,_,_,_,_,_,_,_,_,_,_,_,_,_,_,_,_,_,_,_,_,_,_,_,_,_,_,_,_,_,_,_,_,_,_,_,_,_,_,.agg #[.int .i64 p1x,.int .i64 p1y],o 1,_,_,_,_,_,_,_,_,_,_,_,_,_,_,_,_,_,_,_,_,_,_,_,_,_,_,_,_,_,_,_,_,_,_,_,_], []⟩ W
    refine wpOp_step rfl (fun K' hK => ?_)
    go_simp
    exact hK _ _ ⟨rfl, st2 hj (by omega) (by simp <;> omega) hb_⟩
  · intro o W g_ hj hg_ hb_
    have hj : KL _ _ W := hj
    have hb_ : Blk W g_ 46 #[.int .i64 0, .int .i64 0] := hb_
    obtain ⟨cL, c0, c1⟩ := bl2 hb_
    have cF := hb_.frozen
    show wpOp _ _ _ 5 _ ⟨#[_,_,_,_,_,_,_,_,_,o 2,.pointer (some ⟨g_, 0, none⟩),_,_,_,_,_,_,_,_,_,_,_,_,_,_,_,_,_,_,_,_,_,_,_,_,_,_,_,_,_,_,_,_,_,_,_,_,_,_,_,_,_,_,_,_,_,_,_,_,_,_,_,_,o 0,.agg #[.int .i64 p2x,.int .i64 p2y],_,_,_,_,_,_,_,_,_,_,_,_,_,_,_,_,_,_,_,_,_,_,_,_,_,_,_,_,_,_,_,_,_,_,_,_], []⟩ W
    refine wpOp_step rfl (fun K' hK => ?_)
    go_simp
    exact hK _ _ ⟨rfl, st2 hj (by omega) (by simp <;> omega) hb_⟩
  · intro o g_ hh_ hp_
    have e0 : o 0 = .agg #[.int .i64 p1x,.int .i64 p1y] := hh_ 0 (by decide) (by simp)
    have e1 : o 1 = .agg #[.int .i64 p2x,.int .i64 p2y] := hh_ 1 (by decide) (by simp)
    have e2 : o 2 = ptrV (g_ 2) := hp_ 2 (by simp)
    have e3 : o 3 = ptrV (g_ 3) := hp_ 3 (by simp)
    rw [e0, e1, e2, e3]
  · intro W5 g_ h5 ho_ hn_
    have h5 : KL _ _ W5 := h5
    obtain ⟨bg2, Bg2⟩ := ho_ 2 (by simp)
    have Bg2 : Blk W5 (g_ 2) 46 #[.int .i64 p1x, .int .i64 p1y] := Bg2
    obtain ⟨bg3, Bg3⟩ := ho_ 3 (by simp)
    have Bg3 : Blk W5 (g_ 3) 46 #[.int .i64 p2x, .int .i64 p2y] := Bg3
    have ng2g3 := hn_ 2 (by simp) 3 (by simp) (by decide)
    clear ho_ hn_
    dsimp only [ptrV]
    generalize g_ 2 = g2 at *
    generalize g_ 3 = g3 at *
    have h5 := KL.cons Bg2 h5
    have h5 := KL.cons Bg3 h5
    clear Bg2 Bg3
    obtain ⟨eL0, e0_0, e0_1⟩ := bl2 (KL.blk h5 (.head _))
    have eF0 := (KL.blk h5 (.head _)).frozen
    obtain ⟨eL1, e1_0, e1_1⟩ := bl2 (KL.blk h5 (.tail _ (.head _)))
    have eF1 := (KL.blk h5 (.tail _ (.head _))).frozen
    obtain ⟨eL2, e2_0, e2_1⟩ := bl2 (KL.blk h5 (.tail _ (.tail _ (.head _))))
    have eF2 := (KL.blk h5 (.tail _ (.tail _ (.head _)))).frozen
    obtain ⟨eL3, e3_0, e3_1⟩ := bl2 (KL.blk h5 (.tail _ (.tail _ (.tail _ (.head _)))))
    have eF3 := (KL.blk h5 (.tail _ (.tail _ (.tail _ (.head _))))).frozen
    obtain ⟨eL4, e4_0, e4_1⟩ := bl2 (KL.blk h5 (.tail _ (.tail _ (.tail _ (.tail _ (.head _))))))
    have eF4 := (KL.blk h5 (.tail _ (.tail _ (.tail _ (.tail _ (.head _)))))).frozen
    obtain ⟨eL5, e5_0, e5_1⟩ := bl2 (KL.blk h5 (.tail _ (.tail _ (.tail _ (.tail _ (.tail _ (.head _)))))))
    have eF5 := (KL.blk h5 (.tail _ (.tail _ (.tail _ (.tail _ (.tail _ (.head _))))))).frozen
    have hjb := h5.1
    have hjz := hjb.size
    have hnn : g2 ≠ g3 := by first | assumption | exact Ne.symm (by assumption) | omega
    go_wp2_with (first
      | (go_at_call 52; (with_reducible refine (hB1 _).mono ?_); rintro e w6 ⟨rfl, hb6⟩; have hj6 : KL [(g3,46,#[.int .i64 p2x,.int .i64 p2y]),(g2,46,#[.int .i64 p1x,.int .i64 p1y]),((w.heap.size + 1 + 1 + 1),46,#[.int .i64 q2x,.int .i64 q2y]),((w.heap.size + 1 + 1),46,#[.int .i64 q1x,.int .i64 q1y]),((w.heap.size + 1),46,#[.int .i64 p2x,.int .i64 p2y]),(w.heap.size,46,#[.int .i64 p1x,.int .i64 p1y])] w w6 := KL.over h5 hb6; obtain ⟨fL0, f0_0, f0_1⟩ := bl2 (KL.blk hj6 (.head _)); have fF0 := (KL.blk hj6 (.head _)).frozen; obtain ⟨fL1, f1_0, f1_1⟩ := bl2 (KL.blk hj6 (.tail _ (.head _))); have fF1 := (KL.blk hj6 (.tail _ (.head _))).frozen; obtain ⟨fL2, f2_0, f2_1⟩ := bl2 (KL.blk hj6 (.tail _ (.tail _ (.head _)))); have fF2 := (KL.blk hj6 (.tail _ (.tail _ (.head _)))).frozen; obtain ⟨fL3, f3_0, f3_1⟩ := bl2 (KL.blk hj6 (.tail _ (.tail _ (.tail _ (.head _))))); have fF3 := (KL.blk hj6 (.tail _ (.tail _ (.tail _ (.head _))))).frozen; obtain ⟨fL4, f4_0, f4_1⟩ := bl2 (KL.blk hj6 (.tail _ (.tail _ (.tail _ (.tail _ (.head _)))))); have fF4 := (KL.blk hj6 (.tail _ (.tail _ (.tail _ (.tail _ (.head _)))))).frozen; obtain ⟨fL5, f5_0, f5_1⟩ := bl2 (KL.blk hj6 (.tail _ (.tail _ (.tail _ (.tail _ (.tail _ (.head _))))))); have fF5 := (KL.blk hj6 (.tail _ (.tail _ (.tail _ (.tail _ (.tail _ (.head _))))))).frozen)
      | (go_at_call 52; (with_reducible refine (hB2 _).mono ?_); rintro e w7 ⟨rfl, hb7⟩; have hj7 : KL [(g3,46,#[.int .i64 p2x,.int .i64 p2y]),(g2,46,#[.int .i64 q1x,.int .i64 q1y]),((w.heap.size + 1 + 1 + 1),46,#[.int .i64 q2x,.int .i64 q2y]),((w.heap.size + 1 + 1),46,#[.int .i64 q1x,.int .i64 q1y]),((w.heap.size + 1),46,#[.int .i64 p2x,.int .i64 p2y]),(w.heap.size,46,#[.int .i64 p1x,.int .i64 p1y])] w w7 := KL.over (KL.up2 1 hj6 rfl (by omega) (by simp <;> omega)) hb7; obtain ⟨gL0, g0_0, g0_1⟩ := bl2 (KL.blk hj7 (.head _)); have gF0 := (KL.blk hj7 (.head _)).frozen; obtain ⟨gL1, g1_0, g1_1⟩ := bl2 (KL.blk hj7 (.tail _ (.head _))); have gF1 := (KL.blk hj7 (.tail _ (.head _))).frozen; obtain ⟨gL2, g2_0, g2_1⟩ := bl2 (KL.blk hj7 (.tail _ (.tail _ (.head _)))); have gF2 := (KL.blk hj7 (.tail _ (.tail _ (.head _)))).frozen; obtain ⟨gL3, g3_0, g3_1⟩ := bl2 (KL.blk hj7 (.tail _ (.tail _ (.tail _ (.head _))))); have gF3 := (KL.blk hj7 (.tail _ (.tail _ (.tail _ (.head _))))).frozen; obtain ⟨gL4, g4_0, g4_1⟩ := bl2 (KL.blk hj7 (.tail _ (.tail _ (.tail _ (.tail _ (.head _)))))); have gF4 := (KL.blk hj7 (.tail _ (.tail _ (.tail _ (.tail _ (.head _)))))).frozen; obtain ⟨gL5, g5_0, g5_1⟩ := bl2 (KL.blk hj7 (.tail _ (.tail _ (.tail _ (.tail _ (.tail _ (.head _))))))); have gF5 := (KL.blk hj7 (.tail _ (.tail _ (.tail _ (.tail _ (.tail _ (.head _))))))).frozen)
      | (go_at_call 52; (with_reducible refine (hB3 _).mono ?_); rintro e w8 ⟨rfl, hb8⟩; have hj8 : KL [(g3,46,#[.int .i64 q2x,.int .i64 q2y]),(g2,46,#[.int .i64 q1x,.int .i64 q1y]),((w.heap.size + 1 + 1 + 1),46,#[.int .i64 q2x,.int .i64 q2y]),((w.heap.size + 1 + 1),46,#[.int .i64 q1x,.int .i64 q1y]),((w.heap.size + 1),46,#[.int .i64 p2x,.int .i64 p2y]),(w.heap.size,46,#[.int .i64 p1x,.int .i64 p1y])] w w8 := KL.over (KL.up2 0 hj7 rfl (by omega) (by simp <;> omega)) hb8; obtain ⟨hL0, h0_0, h0_1⟩ := bl2 (KL.blk hj8 (.head _)); have hF0 := (KL.blk hj8 (.head _)).frozen; obtain ⟨hL1, h1_0, h1_1⟩ := bl2 (KL.blk hj8 (.tail _ (.head _))); have hF1 := (KL.blk hj8 (.tail _ (.head _))).frozen; obtain ⟨hL2, h2_0, h2_1⟩ := bl2 (KL.blk hj8 (.tail _ (.tail _ (.head _)))); have hF2 := (KL.blk hj8 (.tail _ (.tail _ (.head _)))).frozen; obtain ⟨hL3, h3_0, h3_1⟩ := bl2 (KL.blk hj8 (.tail _ (.tail _ (.tail _ (.head _))))); have hF3 := (KL.blk hj8 (.tail _ (.tail _ (.tail _ (.head _))))).frozen; obtain ⟨hL4, h4_0, h4_1⟩ := bl2 (KL.blk hj8 (.tail _ (.tail _ (.tail _ (.tail _ (.head _)))))); have hF4 := (KL.blk hj8 (.tail _ (.tail _ (.tail _ (.tail _ (.head _)))))).frozen; obtain ⟨hL5, h5_0, h5_1⟩ := bl2 (KL.blk hj8 (.tail _ (.tail _ (.tail _ (.tail _ (.tail _ (.head _))))))); have hF5 := (KL.blk hj8 (.tail _ (.tail _ (.tail _ (.tail _ (.tail _ (.head _))))))).frozen))
    go_ret
    exact ⟨rfl, hj8.1⟩
set_option maxHeartbeats 16000000 in
set_option maxRecDepth 100000 in
theorem refMeet_l110 (ax ay bx b_y cx cy dx dy p1x p1y p2x p2y q1x q1y q2x q2y s1 s2 : Int) (hp : (ax == bx && ay == b_y) = false) (hq : (cx == dx && cy == dy) = false) (hT1 : ∀ w, Calls Try.prog 32 #[.agg #[.int .i64 ax, .int .i64 ay], .agg #[.int .i64 bx, .int .i64 b_y], .agg #[.int .i64 cx, .int .i64 cy]] w fun e w' => e = .returned (.int .i64 s1) ∧ Below w.heap.size w w') (hT2 : ∀ w, Calls Try.prog 32 #[.agg #[.int .i64 ax, .int .i64 ay], .agg #[.int .i64 bx, .int .i64 b_y], .agg #[.int .i64 dx, .int .i64 dy]] w fun e w' => e = .returned (.int .i64 s2) ∧ Below w.heap.size w w') (z1 : s1 = 0) (z2 : s2 = 0)
    (hs1 : ∀ w, Calls Try.prog 51 #[.agg #[.int .i64 ax, .int .i64 ay], .agg #[.int .i64 bx, .int .i64 b_y]] w fun e w' => e = .returned (.tuple #[.agg #[.int .i64 p1x, .int .i64 p1y], .agg #[.int .i64 p2x, .int .i64 p2y]]) ∧ Below w.heap.size w w') (hs2 : ∀ w, Calls Try.prog 51 #[.agg #[.int .i64 cx, .int .i64 cy], .agg #[.int .i64 dx, .int .i64 dy]] w fun e w' => e = .returned (.tuple #[.agg #[.int .i64 q1x, .int .i64 q1y], .agg #[.int .i64 q2x, .int .i64 q2y]]) ∧ Below w.heap.size w w')
    (hB1 : ∀ w, Calls Try.prog 52 #[.agg #[.int .i64 p1x, .int .i64 p1y], .agg #[.int .i64 q1x, .int .i64 q1y]] w fun e w' => e = .returned (.bool true) ∧ Below w.heap.size w w') (hB2 : ∀ w, Calls Try.prog 52 #[.agg #[.int .i64 q2x, .int .i64 q2y], .agg #[.int .i64 p2x, .int .i64 p2y]] w fun e w' => e = .returned (.bool true) ∧ Below w.heap.size w w') (hB3 : ∀ w, Calls Try.prog 52 #[.agg #[.int .i64 q1x, .int .i64 q1y], .agg #[.int .i64 q2x, .int .i64 q2y]] w fun e w' => e = .returned (.bool false) ∧ Below w.heap.size w w') (he : (q1x == q2x && q1y == q2y) = false) (w : World) :
    Calls Try.prog 35 #[.agg #[.int .i64 ax, .int .i64 ay], .agg #[.int .i64 bx, .int .i64 b_y], .agg #[.int .i64 cx, .int .i64 cy], .agg #[.int .i64 dx, .int .i64 dy]] w fun e w' => e = .returned (.int .i64 0) ∧ Below w.heap.size w w' := by
  have e1 := eqP ax ay bx b_y
  have e2 := eqP cx cy dx dy
  rw [hp] at e1
  rw [hq] at e2
  clear hp hq
  have d1 : (s1 == 0) = true := by simpa using z1
  have d2 : (s2 == 0) = true := by simpa using z2
  clear z1 z2
  have e3 := eqP q1x q1y q2x q2y
  rw [he] at e3
  clear he
  go_enter Try.func35, Try.ntmps35
  go_wp2_with (first
    | (go_at_call 32; (with_reducible refine (hT1 _).mono ?_); rintro e w1 ⟨rfl, hb1⟩; have hj1 : KL [((w.heap.size + 1 + 1 + 1),46,#[.int .i64 dx,.int .i64 dy]),((w.heap.size + 1 + 1),46,#[.int .i64 cx,.int .i64 cy]),((w.heap.size + 1),46,#[.int .i64 bx,.int .i64 b_y]),(w.heap.size,46,#[.int .i64 ax,.int .i64 ay])] w w1 := KL.over (KL.new (g := (w.heap.size + 1 + 1 + 1)) (KL.new (g := (w.heap.size + 1 + 1)) (KL.new (g := (w.heap.size + 1)) (KL.new (g := w.heap.size) (KL.nil w) rfl _ _) (by simp) _ _) (by simp) _ _) (by simp) _ _) hb1; obtain ⟨aL0, a0_0, a0_1⟩ := bl2 (KL.blk hj1 (.head _)); have aF0 := (KL.blk hj1 (.head _)).frozen; obtain ⟨aL1, a1_0, a1_1⟩ := bl2 (KL.blk hj1 (.tail _ (.head _))); have aF1 := (KL.blk hj1 (.tail _ (.head _))).frozen; obtain ⟨aL2, a2_0, a2_1⟩ := bl2 (KL.blk hj1 (.tail _ (.tail _ (.head _)))); have aF2 := (KL.blk hj1 (.tail _ (.tail _ (.head _)))).frozen; obtain ⟨aL3, a3_0, a3_1⟩ := bl2 (KL.blk hj1 (.tail _ (.tail _ (.tail _ (.head _))))); have aF3 := (KL.blk hj1 (.tail _ (.tail _ (.tail _ (.head _))))).frozen)
    | (go_at_call 32; (with_reducible refine (hT2 _).mono ?_); rintro e w2 ⟨rfl, hb2⟩; have hj2 : KL [((w.heap.size + 1 + 1 + 1),46,#[.int .i64 dx,.int .i64 dy]),((w.heap.size + 1 + 1),46,#[.int .i64 cx,.int .i64 cy]),((w.heap.size + 1),46,#[.int .i64 bx,.int .i64 b_y]),(w.heap.size,46,#[.int .i64 ax,.int .i64 ay])] w w2 := KL.over hj1 hb2; obtain ⟨bL0, b0_0, b0_1⟩ := bl2 (KL.blk hj2 (.head _)); have bF0 := (KL.blk hj2 (.head _)).frozen; obtain ⟨bL1, b1_0, b1_1⟩ := bl2 (KL.blk hj2 (.tail _ (.head _))); have bF1 := (KL.blk hj2 (.tail _ (.head _))).frozen; obtain ⟨bL2, b2_0, b2_1⟩ := bl2 (KL.blk hj2 (.tail _ (.tail _ (.head _)))); have bF2 := (KL.blk hj2 (.tail _ (.tail _ (.head _)))).frozen; obtain ⟨bL3, b3_0, b3_1⟩ := bl2 (KL.blk hj2 (.tail _ (.tail _ (.tail _ (.head _))))); have bF3 := (KL.blk hj2 (.tail _ (.tail _ (.tail _ (.head _))))).frozen)
    | (go_at_call 51; (with_reducible refine (hs1 _).mono ?_); rintro e w3 ⟨rfl, hb3⟩; have hj3 : KL [((w.heap.size + 1 + 1 + 1),46,#[.int .i64 dx,.int .i64 dy]),((w.heap.size + 1 + 1),46,#[.int .i64 cx,.int .i64 cy]),((w.heap.size + 1),46,#[.int .i64 bx,.int .i64 b_y]),(w.heap.size,46,#[.int .i64 ax,.int .i64 ay])] w w3 := KL.over hj2 hb3; obtain ⟨cL0, c0_0, c0_1⟩ := bl2 (KL.blk hj3 (.head _)); have cF0 := (KL.blk hj3 (.head _)).frozen; obtain ⟨cL1, c1_0, c1_1⟩ := bl2 (KL.blk hj3 (.tail _ (.head _))); have cF1 := (KL.blk hj3 (.tail _ (.head _))).frozen; obtain ⟨cL2, c2_0, c2_1⟩ := bl2 (KL.blk hj3 (.tail _ (.tail _ (.head _)))); have cF2 := (KL.blk hj3 (.tail _ (.tail _ (.head _)))).frozen; obtain ⟨cL3, c3_0, c3_1⟩ := bl2 (KL.blk hj3 (.tail _ (.tail _ (.tail _ (.head _))))); have cF3 := (KL.blk hj3 (.tail _ (.tail _ (.tail _ (.head _))))).frozen)
    | (go_at_call 51; (with_reducible refine (hs2 _).mono ?_); rintro e w4 ⟨rfl, hb4⟩; have hj4 : KL [((w.heap.size + 1 + 1 + 1),46,#[.int .i64 dx,.int .i64 dy]),((w.heap.size + 1 + 1),46,#[.int .i64 cx,.int .i64 cy]),((w.heap.size + 1),46,#[.int .i64 p2x,.int .i64 p2y]),(w.heap.size,46,#[.int .i64 p1x,.int .i64 p1y])] w w4 := KL.over (KL.up2 2 (KL.up2 3 hj3 rfl (by omega) (by simp <;> omega)) rfl (by omega) (by simp <;> omega)) hb4; obtain ⟨dL0, d0_0, d0_1⟩ := bl2 (KL.blk hj4 (.head _)); have dF0 := (KL.blk hj4 (.head _)).frozen; obtain ⟨dL1, d1_0, d1_1⟩ := bl2 (KL.blk hj4 (.tail _ (.head _))); have dF1 := (KL.blk hj4 (.tail _ (.head _))).frozen; obtain ⟨dL2, d2_0, d2_1⟩ := bl2 (KL.blk hj4 (.tail _ (.tail _ (.head _)))); have dF2 := (KL.blk hj4 (.tail _ (.tail _ (.head _)))).frozen; obtain ⟨dL3, d3_0, d3_1⟩ := bl2 (KL.blk hj4 (.tail _ (.tail _ (.tail _ (.head _))))); have dF3 := (KL.blk hj4 (.tail _ (.tail _ (.tail _ (.head _))))).frozen))
  refine wp_region_any (by kernel_rfl) ?_
  try (change wpAny _ _ _ _ _ _ _ (World.drew _))
  refine wpAny_alloc (fr := fun o => #[.agg #[.int .i64 ax,.int .i64 ay], .agg #[.int .i64 bx,.int .i64 b_y], .agg #[.int .i64 cx,.int .i64 cy], .agg #[.int .i64 dx,.int .i64 dy], .pointer (some ⟨w.heap.size, 0, none⟩), .pointer (some ⟨(w.heap.size + 1), 0, none⟩), .pointer (some ⟨(w.heap.size + 1 + 1), 0, none⟩), .pointer (some ⟨(w.heap.size + 1 + 1 + 1), 0, none⟩), .int .i64 0, o 2, o 3, .agg #[.int .i64 ax,.int .i64 ay], .agg #[.int .i64 bx,.int .i64 b_y], .bool false, .bool false, .agg #[.int .i64 cx,.int .i64 cy], .agg #[.int .i64 dx,.int .i64 dy], .bool false, .bool false, undef, undef, undef, undef, undef, undef, undef, undef, undef, undef, undef, undef, undef, undef, undef, undef, undef, undef, undef, undef, .agg #[.int .i64 ax,.int .i64 ay], .agg #[.int .i64 bx,.int .i64 b_y], .agg #[.int .i64 cx,.int .i64 cy], .int .i64 s1, .bool true, .bool true, .agg #[.int .i64 ax,.int .i64 ay], .agg #[.int .i64 bx,.int .i64 b_y], .agg #[.int .i64 dx,.int .i64 dy], .int .i64 s2, .bool true, .bool true, .tuple #[.agg #[.int .i64 p1x,.int .i64 p1y],.agg #[.int .i64 p2x,.int .i64 p2y]], .agg #[.int .i64 ax,.int .i64 ay], .agg #[.int .i64 bx,.int .i64 b_y], .tuple #[.agg #[.int .i64 p1x,.int .i64 p1y],.agg #[.int .i64 p2x,.int .i64 p2y]], .agg #[.int .i64 p1x,.int .i64 p1y], .agg #[.int .i64 p2x,.int .i64 p2y], .tuple #[.agg #[.int .i64 q1x,.int .i64 q1y],.agg #[.int .i64 q2x,.int .i64 q2y]], .agg #[.int .i64 cx,.int .i64 cy], .agg #[.int .i64 dx,.int .i64 dy], .tuple #[.agg #[.int .i64 q1x,.int .i64 q1y],.agg #[.int .i64 q2x,.int .i64 q2y]], .agg #[.int .i64 q1x,.int .i64 q1y], .agg #[.int .i64 q2x,.int .i64 q2y], o 0, o 1, undef, undef, undef, undef, undef, undef, undef, undef, undef, undef, undef, undef, undef, undef, undef, undef, undef, undef, undef, undef, undef, undef, undef, undef, undef, undef, undef, undef, undef, undef, undef, undef, undef, undef, undef, undef]) (vals := fun i_ => ([.agg #[.int .i64 p1x,.int .i64 p1y], .agg #[.int .i64 p2x,.int .i64 p2y], undef, undef, undef, undef] : List Value).getD i_ undef) (K := fun W_ => KL [((w.heap.size + 1 + 1 + 1),46,#[.int .i64 q2x,.int .i64 q2y]),((w.heap.size + 1 + 1),46,#[.int .i64 q1x,.int .i64 q1y]),((w.heap.size + 1),46,#[.int .i64 p2x,.int .i64 p2y]),(w.heap.size,46,#[.int .i64 p1x,.int .i64 p1y])] w W_) (dep := fun i_ => [[], [], [], [], [0, 2, 3], [0, 1, 2, 3, 4]].getD i_ []) (dv := fun i_ => [[], [], [], [], [0], [1]].getD i_ []) (kd := fun i_ => [1, 1, 2, 2, 3, 4].getD i_ 0) (sa := fun i_ => [2, 3].getD i_ 0) (ss := [4, 5]) (al := [2, 3]) (l := [0, 1, 2, 3, 4, 5]) (f0 := fun i_ => ([undef,undef,undef,undef,undef,undef] : List Value).getD i_ undef) (B := w.heap.size + 1 + 1 + 1 + 1) (T := 46) (z := #[.int .i64 0, .int .i64 0]) (cont := fun t_ j_ => if j_ = 2 then (if 0 < t_ then #[.int .i64 p1x, .int .i64 p1y] else #[.int .i64 0, .int .i64 0]) else if j_ = 3 then (if 1 < t_ then #[.int .i64 p2x, .int .i64 p2y] else #[.int .i64 0, .int .i64 0]) else #[.int .i64 0, .int .i64 0]) (A := fun g_ => ⟨#[.agg #[.int .i64 ax,.int .i64 ay], .agg #[.int .i64 bx,.int .i64 b_y], .agg #[.int .i64 cx,.int .i64 cy], .agg #[.int .i64 dx,.int .i64 dy], .pointer (some ⟨w.heap.size, 0, none⟩), .pointer (some ⟨(w.heap.size + 1), 0, none⟩), .pointer (some ⟨(w.heap.size + 1 + 1), 0, none⟩), .pointer (some ⟨(w.heap.size + 1 + 1 + 1), 0, none⟩), .int .i64 0, ptrV (g_ 2), ptrV (g_ 3), .agg #[.int .i64 ax,.int .i64 ay], .agg #[.int .i64 bx,.int .i64 b_y], .bool false, .bool false, .agg #[.int .i64 cx,.int .i64 cy], .agg #[.int .i64 dx,.int .i64 dy], .bool false, .bool false, undef, undef, undef, undef, undef, undef, undef, undef, undef, undef, undef, undef, undef, undef, undef, undef, undef, undef, undef, undef, .agg #[.int .i64 ax,.int .i64 ay], .agg #[.int .i64 bx,.int .i64 b_y], .agg #[.int .i64 cx,.int .i64 cy], .int .i64 s1, .bool true, .bool true, .agg #[.int .i64 ax,.int .i64 ay], .agg #[.int .i64 bx,.int .i64 b_y], .agg #[.int .i64 dx,.int .i64 dy], .int .i64 s2, .bool true, .bool true, .tuple #[.agg #[.int .i64 p1x,.int .i64 p1y],.agg #[.int .i64 p2x,.int .i64 p2y]], .agg #[.int .i64 ax,.int .i64 ay], .agg #[.int .i64 bx,.int .i64 b_y], .tuple #[.agg #[.int .i64 p1x,.int .i64 p1y],.agg #[.int .i64 p2x,.int .i64 p2y]], .agg #[.int .i64 p1x,.int .i64 p1y], .agg #[.int .i64 p2x,.int .i64 p2y], .tuple #[.agg #[.int .i64 q1x,.int .i64 q1y],.agg #[.int .i64 q2x,.int .i64 q2y]], .agg #[.int .i64 cx,.int .i64 cy], .agg #[.int .i64 dx,.int .i64 dy], .tuple #[.agg #[.int .i64 q1x,.int .i64 q1y],.agg #[.int .i64 q2x,.int .i64 q2y]], .agg #[.int .i64 q1x,.int .i64 q1y], .agg #[.int .i64 q2x,.int .i64 q2y], .agg #[.int .i64 p1x,.int .i64 p1y], .agg #[.int .i64 p2x,.int .i64 p2y], undef, undef, undef, undef, undef, undef, undef, undef, undef, undef, undef, undef, undef, undef, undef, undef, undef, undef, undef, undef, undef, undef, undef, undef, undef, undef, undef, undef, undef, undef, undef, undef, undef, undef, undef, undef], []⟩) 6 rfl rfl (by decide +kernel) (by decide +kernel) ?_ ?_ ?_ ?_ (fun _ h_ => KL.alloc h_ _) ⟨?_, ?_, ?_, ?_, ?_, ?_, trivial⟩ ?_ ?_
  · exact KL.drew (KL.up2 0 (KL.up2 1 hj4 rfl (by omega) (by simp <;> omega)) rfl (by omega) (by simp <;> omega))
  · first | exact Nat.le_refl _ | (simp; done) | (simp <;> omega) | (show _ ≤ World.heap.size _; omega) | omega
  · intro j_ hj_; simp only [List.mem_cons, List.not_mem_nil, or_false] at hj_; rcases hj_ with rfl | rfl <;> rfl
  · intro t_ ht_ j_ hj_ hn_; simp only [List.mem_cons, List.not_mem_nil, or_false] at hj_; rcases hj_ with rfl | rfl <;> rcases t_ with _ | _ | _ <;> first | rfl | exact absurd rfl hn_ | exact absurd ht_ (by simp)
  · intro o W hj
    have hj : KL _ _ W := hj
    obtain ⟨cL, c0, c1⟩ := bl2 (KL.blk hj (.tail _ (.tail _ (.tail _ (.head _)))))
    show wpOp _ _ _ 0 _ ⟨#[_,_,_,_,_,_,_,_,_,o 2,o 3,_,_,_,_,_,_,_,_,_,_,_,_,_,_,_,_,_,_,_,_,_,_,_,_,_,_,_,_,_,_,_,_,_,_,_,_,_,_,_,_,_,_,_,_,_,_,_,_,_,_,_,_,o 0,o 1,_,_,_,_,_,_,_,_,_,_,_,_,_,_,_,_,_,_,_,_,_,_,_,_,_,_,_,_,_,_,_,_,_,_,_,_], []⟩ W
    refine wpOp_step rfl (fun K' hK => ?_)
    go_simp
    exact hK _ _ ⟨rfl, hj, Below.refl _ _⟩
  · intro o W hj
    have hj : KL _ _ W := hj
    obtain ⟨cL, c0, c1⟩ := bl2 (KL.blk hj (.tail _ (.tail _ (.head _))))
    show wpOp _ _ _ 1 _ ⟨#[_,_,_,_,_,_,_,_,_,o 2,o 3,_,_,_,_,_,_,_,_,_,_,_,_,_,_,_,_,_,_,_,_,_,_,_,_,_,_,_,_,_,_,_,_,_,_,_,_,_,_,_,_,_,_,_,_,_,_,_,_,_,_,_,_,o 0,o 1,_,_,_,_,_,_,_,_,_,_,_,_,_,_,_,_,_,_,_,_,_,_,_,_,_,_,_,_,_,_,_,_,_,_,_,_], []⟩ W
    refine wpOp_step rfl (fun K' hK => ?_)
    go_simp
    exact hK _ _ ⟨rfl, hj, Below.refl _ _⟩
  · intro o W
    show wpOp _ _ _ 2 _ ⟨#[_,_,_,_,_,_,_,_,_,o 2,o 3,_,_,_,_,_,_,_,_,_,_,_,_,_,_,_,_,_,_,_,_,_,_,_,_,_,_,_,_,_,_,_,_,_,_,_,_,_,_,_,_,_,_,_,_,_,_,_,_,_,_,_,_,o 0,o 1,_,_,_,_,_,_,_,_,_,_,_,_,_,_,_,_,_,_,_,_,_,_,_,_,_,_,_,_,_,_,_,_,_,_,_,_], []⟩ W
    refine wpOp_step rfl (fun K' hK => ?_)
    go_simp
    exact hK _ _ ⟨rfl, rfl⟩
  · intro o W
    show wpOp _ _ _ 3 _ ⟨#[_,_,_,_,_,_,_,_,_,o 2,o 3,_,_,_,_,_,_,_,_,_,_,_,_,_,_,_,_,_,_,_,_,_,_,_,_,_,_,_,_,_,_,_,_,_,_,_,_,_,_,_,_,_,_,_,_,_,_,_,_,_,_,_,_,o 0,o 1,_,_,_,_,_,_,_,_,_,_,_,_,_,_,_,_,_,_,_,_,_,_,_,_,_,_,_,_,_,_,_,_,_,_,_,_], []⟩ W
    refine wpOp_step rfl (fun K' hK => ?_)
    go_simp
    exact hK _ _ ⟨rfl, rfl⟩
  · intro o W g_ hj hg_ hb_
    have hj : KL _ _ W := hj
    have hb_ : Blk W g_ 46 #[.int .i64 0, .int .i64 0] := hb_
    obtain ⟨cL, c0, c1⟩ := bl2 hb_
    have cF := hb_.frozen
    show wpOp _ _ _ 4 _ ⟨#[_,_,_,_,_,_,_,_,_,.pointer (some ⟨g_, 0, none⟩),o 3,_,_,_,_,_,_,_,_,_,_,_,_,_,_,_,_,_,_,_,_,_,_,_,_,_,_,_,_,_,_,_,_,_,_,_,_,_,_,_,_,_,_,_,_,_,_,_,_,_,_,_,_,.agg #[.int .i64 p1x,.int .i64 p1y],o 1,_,_,_,_,_,_,_,_,_,_,_,_,_,_,_,_,_,_,_,_,_,_,_,_,_,_,_,_,_,_,_,_,_,_,_,_], []⟩ W
    refine wpOp_step rfl (fun K' hK => ?_)
    go_simp
    exact hK _ _ ⟨rfl, st2 hj (by omega) (by simp <;> omega) hb_⟩
  · intro o W g_ hj hg_ hb_
    have hj : KL _ _ W := hj
    have hb_ : Blk W g_ 46 #[.int .i64 0, .int .i64 0] := hb_
    obtain ⟨cL, c0, c1⟩ := bl2 hb_
    have cF := hb_.frozen
    show wpOp _ _ _ 5 _ ⟨#[_,_,_,_,_,_,_,_,_,o 2,.pointer (some ⟨g_, 0, none⟩),_,_,_,_,_,_,_,_,_,_,_,_,_,_,_,_,_,_,_,_,_,_,_,_,_,_,_,_,_,_,_,_,_,_,_,_,_,_,_,_,_,_,_,_,_,_,_,_,_,_,_,_,o 0,.agg #[.int .i64 p2x,.int .i64 p2y],_,_,_,_,_,_,_,_,_,_,_,_,_,_,_,_,_,_,_,_,_,_,_,_,_,_,_,_,_,_,_,_,_,_,_,_], []⟩ W
    refine wpOp_step rfl (fun K' hK => ?_)
    go_simp
    exact hK _ _ ⟨rfl, st2 hj (by omega) (by simp <;> omega) hb_⟩
  · intro o g_ hh_ hp_
    have e0 : o 0 = .agg #[.int .i64 p1x,.int .i64 p1y] := hh_ 0 (by decide) (by simp)
    have e1 : o 1 = .agg #[.int .i64 p2x,.int .i64 p2y] := hh_ 1 (by decide) (by simp)
    have e2 : o 2 = ptrV (g_ 2) := hp_ 2 (by simp)
    have e3 : o 3 = ptrV (g_ 3) := hp_ 3 (by simp)
    rw [e0, e1, e2, e3]
  · intro W5 g_ h5 ho_ hn_
    have h5 : KL _ _ W5 := h5
    obtain ⟨bg2, Bg2⟩ := ho_ 2 (by simp)
    have Bg2 : Blk W5 (g_ 2) 46 #[.int .i64 p1x, .int .i64 p1y] := Bg2
    obtain ⟨bg3, Bg3⟩ := ho_ 3 (by simp)
    have Bg3 : Blk W5 (g_ 3) 46 #[.int .i64 p2x, .int .i64 p2y] := Bg3
    have ng2g3 := hn_ 2 (by simp) 3 (by simp) (by decide)
    clear ho_ hn_
    dsimp only [ptrV]
    generalize g_ 2 = g2 at *
    generalize g_ 3 = g3 at *
    have h5 := KL.cons Bg2 h5
    have h5 := KL.cons Bg3 h5
    clear Bg2 Bg3
    obtain ⟨eL0, e0_0, e0_1⟩ := bl2 (KL.blk h5 (.head _))
    have eF0 := (KL.blk h5 (.head _)).frozen
    obtain ⟨eL1, e1_0, e1_1⟩ := bl2 (KL.blk h5 (.tail _ (.head _)))
    have eF1 := (KL.blk h5 (.tail _ (.head _))).frozen
    obtain ⟨eL2, e2_0, e2_1⟩ := bl2 (KL.blk h5 (.tail _ (.tail _ (.head _))))
    have eF2 := (KL.blk h5 (.tail _ (.tail _ (.head _)))).frozen
    obtain ⟨eL3, e3_0, e3_1⟩ := bl2 (KL.blk h5 (.tail _ (.tail _ (.tail _ (.head _)))))
    have eF3 := (KL.blk h5 (.tail _ (.tail _ (.tail _ (.head _))))).frozen
    obtain ⟨eL4, e4_0, e4_1⟩ := bl2 (KL.blk h5 (.tail _ (.tail _ (.tail _ (.tail _ (.head _))))))
    have eF4 := (KL.blk h5 (.tail _ (.tail _ (.tail _ (.tail _ (.head _)))))).frozen
    obtain ⟨eL5, e5_0, e5_1⟩ := bl2 (KL.blk h5 (.tail _ (.tail _ (.tail _ (.tail _ (.tail _ (.head _)))))))
    have eF5 := (KL.blk h5 (.tail _ (.tail _ (.tail _ (.tail _ (.tail _ (.head _))))))).frozen
    have hjb := h5.1
    have hjz := hjb.size
    have hnn : g2 ≠ g3 := by first | assumption | exact Ne.symm (by assumption) | omega
    go_wp2_with (first
      | (go_at_call 52; (with_reducible refine (hB1 _).mono ?_); rintro e w6 ⟨rfl, hb6⟩; have hj6 : KL [(g3,46,#[.int .i64 p2x,.int .i64 p2y]),(g2,46,#[.int .i64 p1x,.int .i64 p1y]),((w.heap.size + 1 + 1 + 1),46,#[.int .i64 q2x,.int .i64 q2y]),((w.heap.size + 1 + 1),46,#[.int .i64 q1x,.int .i64 q1y]),((w.heap.size + 1),46,#[.int .i64 p2x,.int .i64 p2y]),(w.heap.size,46,#[.int .i64 p1x,.int .i64 p1y])] w w6 := KL.over h5 hb6; obtain ⟨fL0, f0_0, f0_1⟩ := bl2 (KL.blk hj6 (.head _)); have fF0 := (KL.blk hj6 (.head _)).frozen; obtain ⟨fL1, f1_0, f1_1⟩ := bl2 (KL.blk hj6 (.tail _ (.head _))); have fF1 := (KL.blk hj6 (.tail _ (.head _))).frozen; obtain ⟨fL2, f2_0, f2_1⟩ := bl2 (KL.blk hj6 (.tail _ (.tail _ (.head _)))); have fF2 := (KL.blk hj6 (.tail _ (.tail _ (.head _)))).frozen; obtain ⟨fL3, f3_0, f3_1⟩ := bl2 (KL.blk hj6 (.tail _ (.tail _ (.tail _ (.head _))))); have fF3 := (KL.blk hj6 (.tail _ (.tail _ (.tail _ (.head _))))).frozen; obtain ⟨fL4, f4_0, f4_1⟩ := bl2 (KL.blk hj6 (.tail _ (.tail _ (.tail _ (.tail _ (.head _)))))); have fF4 := (KL.blk hj6 (.tail _ (.tail _ (.tail _ (.tail _ (.head _)))))).frozen; obtain ⟨fL5, f5_0, f5_1⟩ := bl2 (KL.blk hj6 (.tail _ (.tail _ (.tail _ (.tail _ (.tail _ (.head _))))))); have fF5 := (KL.blk hj6 (.tail _ (.tail _ (.tail _ (.tail _ (.tail _ (.head _))))))).frozen)
      | (go_at_call 52; (with_reducible refine (hB2 _).mono ?_); rintro e w7 ⟨rfl, hb7⟩; have hj7 : KL [(g3,46,#[.int .i64 p2x,.int .i64 p2y]),(g2,46,#[.int .i64 q1x,.int .i64 q1y]),((w.heap.size + 1 + 1 + 1),46,#[.int .i64 q2x,.int .i64 q2y]),((w.heap.size + 1 + 1),46,#[.int .i64 q1x,.int .i64 q1y]),((w.heap.size + 1),46,#[.int .i64 p2x,.int .i64 p2y]),(w.heap.size,46,#[.int .i64 p1x,.int .i64 p1y])] w w7 := KL.over (KL.up2 1 hj6 rfl (by omega) (by simp <;> omega)) hb7; obtain ⟨gL0, g0_0, g0_1⟩ := bl2 (KL.blk hj7 (.head _)); have gF0 := (KL.blk hj7 (.head _)).frozen; obtain ⟨gL1, g1_0, g1_1⟩ := bl2 (KL.blk hj7 (.tail _ (.head _))); have gF1 := (KL.blk hj7 (.tail _ (.head _))).frozen; obtain ⟨gL2, g2_0, g2_1⟩ := bl2 (KL.blk hj7 (.tail _ (.tail _ (.head _)))); have gF2 := (KL.blk hj7 (.tail _ (.tail _ (.head _)))).frozen; obtain ⟨gL3, g3_0, g3_1⟩ := bl2 (KL.blk hj7 (.tail _ (.tail _ (.tail _ (.head _))))); have gF3 := (KL.blk hj7 (.tail _ (.tail _ (.tail _ (.head _))))).frozen; obtain ⟨gL4, g4_0, g4_1⟩ := bl2 (KL.blk hj7 (.tail _ (.tail _ (.tail _ (.tail _ (.head _)))))); have gF4 := (KL.blk hj7 (.tail _ (.tail _ (.tail _ (.tail _ (.head _)))))).frozen; obtain ⟨gL5, g5_0, g5_1⟩ := bl2 (KL.blk hj7 (.tail _ (.tail _ (.tail _ (.tail _ (.tail _ (.head _))))))); have gF5 := (KL.blk hj7 (.tail _ (.tail _ (.tail _ (.tail _ (.tail _ (.head _))))))).frozen)
      | (go_at_call 52; (with_reducible refine (hB3 _).mono ?_); rintro e w8 ⟨rfl, hb8⟩; have hj8 : KL [(g3,46,#[.int .i64 q2x,.int .i64 q2y]),(g2,46,#[.int .i64 q1x,.int .i64 q1y]),((w.heap.size + 1 + 1 + 1),46,#[.int .i64 q2x,.int .i64 q2y]),((w.heap.size + 1 + 1),46,#[.int .i64 q1x,.int .i64 q1y]),((w.heap.size + 1),46,#[.int .i64 p2x,.int .i64 p2y]),(w.heap.size,46,#[.int .i64 p1x,.int .i64 p1y])] w w8 := KL.over (KL.up2 0 hj7 rfl (by omega) (by simp <;> omega)) hb8; obtain ⟨hL0, h0_0, h0_1⟩ := bl2 (KL.blk hj8 (.head _)); have hF0 := (KL.blk hj8 (.head _)).frozen; obtain ⟨hL1, h1_0, h1_1⟩ := bl2 (KL.blk hj8 (.tail _ (.head _))); have hF1 := (KL.blk hj8 (.tail _ (.head _))).frozen; obtain ⟨hL2, h2_0, h2_1⟩ := bl2 (KL.blk hj8 (.tail _ (.tail _ (.head _)))); have hF2 := (KL.blk hj8 (.tail _ (.tail _ (.head _)))).frozen; obtain ⟨hL3, h3_0, h3_1⟩ := bl2 (KL.blk hj8 (.tail _ (.tail _ (.tail _ (.head _))))); have hF3 := (KL.blk hj8 (.tail _ (.tail _ (.tail _ (.head _))))).frozen; obtain ⟨hL4, h4_0, h4_1⟩ := bl2 (KL.blk hj8 (.tail _ (.tail _ (.tail _ (.tail _ (.head _)))))); have hF4 := (KL.blk hj8 (.tail _ (.tail _ (.tail _ (.tail _ (.head _)))))).frozen; obtain ⟨hL5, h5_0, h5_1⟩ := bl2 (KL.blk hj8 (.tail _ (.tail _ (.tail _ (.tail _ (.tail _ (.head _))))))); have hF5 := (KL.blk hj8 (.tail _ (.tail _ (.tail _ (.tail _ (.tail _ (.head _))))))).frozen))
    go_ret
    exact ⟨rfl, hj8.1⟩
end Go.Proofs.Ythlidkmalfjmbaa
