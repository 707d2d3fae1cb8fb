/- The walk of the reference Check,way by way. -/
import Derived.Test.YtoenojnfhiimpaaNum
import Derived.WalkSpells
import Derived.WalkLawsBesides
import Derived.Deep.QuietTactic
import Derived.BigQuiet
import Derived.Laws.StructEq
namespace Go.Proofs.Ytoenojnfhiimpaa
open Go.RowKit

set_option maxHeartbeats 8000000 in
set_option maxRecDepth 100000 in
theorem rck_r0 (a b c d p q : Int)  (hia : ∀ w,Calls Try.prog 32 #[a,.int .i64 1,.int .i64 10000] w fun e w' => e = .returned (.bool false) ∧ w = w') (w : World) :
  Calls Try.prog 13 #[.agg #[a,b,c,d,p,q]] w fun e w' => e = .returned (.int .i64 6) ∧ Below w.heap.size w w' := by
 go_enter Try.func13,Try.ntmps13
 go_wp2
 refine wp_loop_rounds 100 ?_
 rw [rounds_succ]
 go_wp2
 refine wp_region_any (by kernel_rfl) ?_
 try (change wpAny _ _ _ _ _ _ _ (World.drew _))
 refine wpAny_vals (fr := fun o => #[.agg #[a,b,c,d,p,q],.pointer (some ⟨w.heap.size,0,none⟩),.int .i64 0,.slice (some ⟨(w.heap.size + 1),0,none⟩) 3 3,.slice (some ⟨(w.heap.size + 1 + 1),0,none⟩) 3 3,.int .i64 0,undef,.pointer (some ⟨w.heap.size,0,none⟩),.agg #[a,b],.pointer (some ⟨w.heap.size,2,none⟩),.agg #[c,d],.pointer (some ⟨w.heap.size,4,none⟩),.agg #[p,q],.slice (some ⟨(w.heap.size + 1),0,none⟩) 3 3,.slice (some ⟨(w.heap.size + 1 + 1),0,none⟩) 3 3,.int .i64 0,.slice (some ⟨(w.heap.size + 1),0,none⟩) 3 3,.int .i64 3,.bool true,undef,undef,o 0,o 1,o 2,o 3,o 4,o 5,o 6,o 7,o 8,o 9,o 10,o 11,o 12,o 13,o 14,o 15,o 16,o 17,o 18,o 19,o 20,o 21,o 22,o 23,undef,undef,undef,undef,undef,undef,undef,undef,undef,undef,undef,undef,undef,undef,undef,undef,undef]) (vals := fun i_ => ([.slice (some ⟨(w.heap.size + 1),0,none⟩) 3 3,.int .i64 0,.pointer (some ⟨(w.heap.size + 1),0,none⟩),.pointer (some ⟨(w.heap.size + 1),0,none⟩),.int .i64 a,.slice (some ⟨(w.heap.size + 1 + 1),0,none⟩) 3 3,.int .i64 0,.pointer (some ⟨(w.heap.size + 1 + 1),0,none⟩),.int .i64 10000,.bool false,.bool true,.bool true,undef,undef,undef,undef,undef,undef,undef,undef,undef,undef,undef,.bool true] : List Value).getD i_ undef) (Kf := fun _ => True) (K := fun kk_ => ([(KL [((w.heap.size + 1 + 1),3,#[.int .i64 10000,.int .i64 10000,.int .i64 30000]),((w.heap.size + 1),23,#[a,b,c,d,p,q]),(w.heap.size,25,#[a,b,c,d,p,q])] w)] : List (World → Prop)).getD kk_ (fun _ => True)) (dep := fun i_ => [[],[],[0,1],[2],[3],[],[],[5,6],[7],[4,8],[9],[10],[11],[11],[11,12,13],[11,14],[11,15],[11],[11],[11,17,18],[11,19],[11,16,20],[11,21],[11,22]].getD i_ []) (dv := fun i_ => [[],[],[0,1],[2],[3],[],[],[5,6],[7],[4,8],[9],[10],[11],[11],[11,12,13],[11,14],[11,15],[11],[11],[11,17,18],[11,19],[11,16,20],[11,21],[11,22]].getD i_ []) (kd := fun i_ => [0,0,0,0,1,0,0,0,1,0,0,0,0,0,0,0,0,0,0,0,0,0,0,0].getD i_ 0) (ss := []) (l := [0,1,2,3,4,5,6,7,8,9,10,11,12,13,14,15,16,17,18,19,20,21,22,23]) (f0 := fun _ => undef) (A := ?A1) 24 ?_ ?_ ?_ ?_ ?_ ?_ ⟨?_,?_,?_,?_,?_,?_,?_,?_,?_,?_,?_,?_,?_,?_,?_,?_,?_,?_,?_,?_,?_,?_,?_,?_,trivial⟩ ?_ ?_
 rotate_left
 ·rfl
 ·rfl
 ·decide +kernel
 ·decide +kernel
 ·exact KL.drew (KL.new (g := (w.heap.size + 1 + 1)) (KL.new (g := (w.heap.size + 1)) (KL.new (g := w.heap.size) (KL.nil w) rfl _ _) (by simp) _ _) (by simp) _ _)
 ·exact fun _ _ _ _ => trivial
 ·intro o W _
  show wpOp _ _ _ 0 _ ⟨#[_,_,_,_,_,_,_,_,_,_,_,_,_,_,_,_,_,_,_,_,_,o 0,o 1,o 2,o 3,o 4,o 5,o 6,o 7,o 8,o 9,o 10,o 11,o 12,o 13,o 14,o 15,o 16,o 17,o 18,o 19,o 20,o 21,o 22,o 23,_,_,_,_,_,_,_,_,_,_,_,_,_,_,_,_,_],[]⟩ W
  refine wpOp_step rfl fun _ hK => ?_
  go_simp
  exact hK _ _ ⟨rfl,rfl⟩
 ·intro o W _
  show wpOp _ _ _ 1 _ ⟨#[_,_,_,_,_,_,_,_,_,_,_,_,_,_,_,_,_,_,_,_,_,o 0,o 1,o 2,o 3,o 4,o 5,o 6,o 7,o 8,o 9,o 10,o 11,o 12,o 13,o 14,o 15,o 16,o 17,o 18,o 19,o 20,o 21,o 22,o 23,_,_,_,_,_,_,_,_,_,_,_,_,_,_,_,_,_],[]⟩ W
  refine wpOp_step rfl fun _ hK => ?_
  go_simp
  exact hK _ _ ⟨rfl,rfl⟩
 ·intro o W _
  show wpOp _ _ _ 2 _ ⟨#[_,_,_,_,_,_,_,_,_,_,_,_,_,_,_,_,_,_,_,_,_,.slice (some ⟨(w.heap.size + 1),0,none⟩) 3 3,.int .i64 0,o 2,o 3,o 4,o 5,o 6,o 7,o 8,o 9,o 10,o 11,o 12,o 13,o 14,o 15,o 16,o 17,o 18,o 19,o 20,o 21,o 22,o 23,_,_,_,_,_,_,_,_,_,_,_,_,_,_,_,_,_],[]⟩ W
  refine wpOp_step rfl fun _ hK => ?_
  go_simp
  exact hK _ _ ⟨rfl,rfl⟩
 ·intro o W _
  show wpOp _ _ _ 3 _ ⟨#[_,_,_,_,_,_,_,_,_,_,_,_,_,_,_,_,_,_,_,_,_,o 0,o 1,.pointer (some ⟨(w.heap.size + 1),0,none⟩),o 3,o 4,o 5,o 6,o 7,o 8,o 9,o 10,o 11,o 12,o 13,o 14,o 15,o 16,o 17,o 18,o 19,o 20,o 21,o 22,o 23,_,_,_,_,_,_,_,_,_,_,_,_,_,_,_,_,_],[]⟩ W
  refine wpOp_step rfl fun _ hK => ?_
  go_simp
  exact hK _ _ ⟨rfl,rfl⟩
 ·intro o W hj
  have hj : KL _ _ W := hj
  obtain ⟨cL,c0,c1,c2,c3,c4,c5⟩ := bl6 (KL.blk hj (.tail _ (.head _)))
  show wpOp _ _ _ 4 _ ⟨#[_,_,_,_,_,_,_,_,_,_,_,_,_,_,_,_,_,_,_,_,_,o 0,o 1,o 2,.pointer (some ⟨(w.heap.size + 1),0,none⟩),o 4,o 5,o 6,o 7,o 8,o 9,o 10,o 11,o 12,o 13,o 14,o 15,o 16,o 17,o 18,o 19,o 20,o 21,o 22,o 23,_,_,_,_,_,_,_,_,_,_,_,_,_,_,_,_,_],[]⟩ W
  refine wpOp_step rfl fun _ hK => ?_
  go_simp
  exact hK _ _ ⟨rfl,hj⟩
 ·intro o W _
  show wpOp _ _ _ 5 _ ⟨#[_,_,_,_,_,_,_,_,_,_,_,_,_,_,_,_,_,_,_,_,_,o 0,o 1,o 2,o 3,o 4,o 5,o 6,o 7,o 8,o 9,o 10,o 11,o 12,o 13,o 14,o 15,o 16,o 17,o 18,o 19,o 20,o 21,o 22,o 23,_,_,_,_,_,_,_,_,_,_,_,_,_,_,_,_,_],[]⟩ W
  refine wpOp_step rfl fun _ hK => ?_
  go_simp
  exact hK _ _ ⟨rfl,rfl⟩
 ·intro o W _
  show wpOp _ _ _ 6 _ ⟨#[_,_,_,_,_,_,_,_,_,_,_,_,_,_,_,_,_,_,_,_,_,o 0,o 1,o 2,o 3,o 4,o 5,o 6,o 7,o 8,o 9,o 10,o 11,o 12,o 13,o 14,o 15,o 16,o 17,o 18,o 19,o 20,o 21,o 22,o 23,_,_,_,_,_,_,_,_,_,_,_,_,_,_,_,_,_],[]⟩ W
  refine wpOp_step rfl fun _ hK => ?_
  go_simp
  exact hK _ _ ⟨rfl,rfl⟩
 ·intro o W _
  show wpOp _ _ _ 7 _ ⟨#[_,_,_,_,_,_,_,_,_,_,_,_,_,_,_,_,_,_,_,_,_,o 0,o 1,o 2,o 3,o 4,.slice (some ⟨(w.heap.size + 1 + 1),0,none⟩) 3 3,.int .i64 0,o 7,o 8,o 9,o 10,o 11,o 12,o 13,o 14,o 15,o 16,o 17,o 18,o 19,o 20,o 21,o 22,o 23,_,_,_,_,_,_,_,_,_,_,_,_,_,_,_,_,_],[]⟩ W
  refine wpOp_step rfl fun _ hK => ?_
  go_simp
  exact hK _ _ ⟨rfl,rfl⟩
 ·intro o W hj
  have hj : KL _ _ W := hj
  obtain ⟨cL,c0,c1,c2⟩ := bl3 (KL.blk hj (.head _))
  show wpOp _ _ _ 8 _ ⟨#[_,_,_,_,_,_,_,_,_,_,_,_,_,_,_,_,_,_,_,_,_,o 0,o 1,o 2,o 3,o 4,o 5,o 6,.pointer (some ⟨(w.heap.size + 1 + 1),0,none⟩),o 8,o 9,o 10,o 11,o 12,o 13,o 14,o 15,o 16,o 17,o 18,o 19,o 20,o 21,o 22,o 23,_,_,_,_,_,_,_,_,_,_,_,_,_,_,_,_,_],[]⟩ W
  refine wpOp_step rfl fun _ hK => ?_
  go_simp
  exact hK _ _ ⟨rfl,hj⟩
 ·intro o W _
  show wpOp _ _ _ 9 _ ⟨#[_,_,_,_,_,_,_,_,_,_,_,_,_,_,_,_,_,_,_,_,_,o 0,o 1,o 2,o 3,.int .i64 a,o 5,o 6,o 7,.int .i64 10000,o 9,o 10,o 11,o 12,o 13,o 14,o 15,o 16,o 17,o 18,o 19,o 20,o 21,o 22,o 23,_,_,_,_,_,_,_,_,_,_,_,_,_,_,_,_,_],[]⟩ W
  refine wpOp_step rfl fun _ hK => ?_
  go_simp
  refine (hia _).mono ?_
  rintro e W1 ⟨rfl,rfl⟩
  exact hK _ _ ⟨rfl,rfl⟩
 ·intro o W _
  show wpOp _ _ _ 10 _ ⟨#[_,_,_,_,_,_,_,_,_,_,_,_,_,_,_,_,_,_,_,_,_,o 0,o 1,o 2,o 3,o 4,o 5,o 6,o 7,o 8,.bool false,o 10,o 11,o 12,o 13,o 14,o 15,o 16,o 17,o 18,o 19,o 20,o 21,o 22,o 23,_,_,_,_,_,_,_,_,_,_,_,_,_,_,_,_,_],[]⟩ W
  refine wpOp_step rfl fun _ hK => ?_
  go_simp
  exact hK _ _ ⟨rfl,rfl⟩
 ·intro o W _
  show wpOp _ _ _ 11 _ ⟨#[_,_,_,_,_,_,_,_,_,_,_,_,_,_,_,_,_,_,_,_,_,o 0,o 1,o 2,o 3,o 4,o 5,o 6,o 7,o 8,o 9,.bool true,o 11,o 12,o 13,o 14,o 15,o 16,o 17,o 18,o 19,o 20,o 21,o 22,o 23,_,_,_,_,_,_,_,_,_,_,_,_,_,_,_,_,_],[]⟩ W
  refine wpOp_step rfl fun _ hK => ?_
  go_simp
  exact hK _ _ ⟨rfl,rfl⟩
 ·intro o W _
  show wpOp _ _ _ 12 _ ⟨#[_,_,_,_,_,_,_,_,_,_,_,_,_,_,_,_,_,_,_,_,_,o 0,o 1,o 2,o 3,o 4,o 5,o 6,o 7,o 8,o 9,o 10,.bool true,o 12,o 13,o 14,o 15,o 16,o 17,o 18,o 19,o 20,o 21,o 22,o 23,_,_,_,_,_,_,_,_,_,_,_,_,_,_,_,_,_],[]⟩ W
  refine wpOp_step rfl fun _ hK => ?_
  go_simp
  exact hK _ _ ⟨rfl,rfl⟩
 ·intro o W _
  show wpOp _ _ _ 13 _ ⟨#[_,_,_,_,_,_,_,_,_,_,_,_,_,_,_,_,_,_,_,_,_,o 0,o 1,o 2,o 3,o 4,o 5,o 6,o 7,o 8,o 9,o 10,.bool true,o 12,o 13,o 14,o 15,o 16,o 17,o 18,o 19,o 20,o 21,o 22,o 23,_,_,_,_,_,_,_,_,_,_,_,_,_,_,_,_,_],[]⟩ W
  refine wpOp_step rfl fun _ hK => ?_
  go_simp
  exact hK _ _ ⟨rfl,rfl⟩
 ·intro o W _
  show wpOp _ _ _ 14 _ ⟨#[_,_,_,_,_,_,_,_,_,_,_,_,_,_,_,_,_,_,_,_,_,o 0,o 1,o 2,o 3,o 4,o 5,o 6,o 7,o 8,o 9,o 10,.bool true,undef,undef,o 14,o 15,o 16,o 17,o 18,o 19,o 20,o 21,o 22,o 23,_,_,_,_,_,_,_,_,_,_,_,_,_,_,_,_,_],[]⟩ W
  refine wpOp_step rfl fun _ hK => ?_
  go_simp
  exact hK _ _ ⟨rfl,rfl⟩
 ·intro o W _
  show wpOp _ _ _ 15 _ ⟨#[_,_,_,_,_,_,_,_,_,_,_,_,_,_,_,_,_,_,_,_,_,o 0,o 1,o 2,o 3,o 4,o 5,o 6,o 7,o 8,o 9,o 10,.bool true,o 12,o 13,undef,o 15,o 16,o 17,o 18,o 19,o 20,o 21,o 22,o 23,_,_,_,_,_,_,_,_,_,_,_,_,_,_,_,_,_],[]⟩ W
  refine wpOp_step rfl fun _ hK => ?_
  go_simp
  exact hK _ _ ⟨rfl,rfl⟩
 ·intro o W _
  show wpOp _ _ _ 16 _ ⟨#[_,_,_,_,_,_,_,_,_,_,_,_,_,_,_,_,_,_,_,_,_,o 0,o 1,o 2,o 3,o 4,o 5,o 6,o 7,o 8,o 9,o 10,.bool true,o 12,o 13,o 14,undef,o 16,o 17,o 18,o 19,o 20,o 21,o 22,o 23,_,_,_,_,_,_,_,_,_,_,_,_,_,_,_,_,_],[]⟩ W
  refine wpOp_step rfl fun _ hK => ?_
  go_simp
  exact hK _ _ ⟨rfl,rfl⟩
 ·intro o W _
  show wpOp _ _ _ 17 _ ⟨#[_,_,_,_,_,_,_,_,_,_,_,_,_,_,_,_,_,_,_,_,_,o 0,o 1,o 2,o 3,o 4,o 5,o 6,o 7,o 8,o 9,o 10,.bool true,o 12,o 13,o 14,o 15,o 16,o 17,o 18,o 19,o 20,o 21,o 22,o 23,_,_,_,_,_,_,_,_,_,_,_,_,_,_,_,_,_],[]⟩ W
  refine wpOp_step rfl fun _ hK => ?_
  go_simp
  exact hK _ _ ⟨rfl,rfl⟩
 ·intro o W _
  show wpOp _ _ _ 18 _ ⟨#[_,_,_,_,_,_,_,_,_,_,_,_,_,_,_,_,_,_,_,_,_,o 0,o 1,o 2,o 3,o 4,o 5,o 6,o 7,o 8,o 9,o 10,.bool true,o 12,o 13,o 14,o 15,o 16,o 17,o 18,o 19,o 20,o 21,o 22,o 23,_,_,_,_,_,_,_,_,_,_,_,_,_,_,_,_,_],[]⟩ W
  refine wpOp_step rfl fun _ hK => ?_
  go_simp
  exact hK _ _ ⟨rfl,rfl⟩
 ·intro o W _
  show wpOp _ _ _ 19 _ ⟨#[_,_,_,_,_,_,_,_,_,_,_,_,_,_,_,_,_,_,_,_,_,o 0,o 1,o 2,o 3,o 4,o 5,o 6,o 7,o 8,o 9,o 10,.bool true,o 12,o 13,o 14,o 15,o 16,undef,undef,o 19,o 20,o 21,o 22,o 23,_,_,_,_,_,_,_,_,_,_,_,_,_,_,_,_,_],[]⟩ W
  refine wpOp_step rfl fun _ hK => ?_
  go_simp
  exact hK _ _ ⟨rfl,rfl⟩
 ·intro o W _
  show wpOp _ _ _ 20 _ ⟨#[_,_,_,_,_,_,_,_,_,_,_,_,_,_,_,_,_,_,_,_,_,o 0,o 1,o 2,o 3,o 4,o 5,o 6,o 7,o 8,o 9,o 10,.bool true,o 12,o 13,o 14,o 15,o 16,o 17,o 18,undef,o 20,o 21,o 22,o 23,_,_,_,_,_,_,_,_,_,_,_,_,_,_,_,_,_],[]⟩ W
  refine wpOp_step rfl fun _ hK => ?_
  go_simp
  exact hK _ _ ⟨rfl,rfl⟩
 ·intro o W _
  show wpOp _ _ _ 21 _ ⟨#[_,_,_,_,_,_,_,_,_,_,_,_,_,_,_,_,_,_,_,_,_,o 0,o 1,o 2,o 3,o 4,o 5,o 6,o 7,o 8,o 9,o 10,.bool true,o 12,o 13,o 14,o 15,undef,o 17,o 18,o 19,undef,o 21,o 22,o 23,_,_,_,_,_,_,_,_,_,_,_,_,_,_,_,_,_],[]⟩ W
  refine wpOp_step rfl fun _ hK => ?_
  go_simp
  exact hK _ _ ⟨rfl,rfl⟩
 ·intro o W _
  show wpOp _ _ _ 22 _ ⟨#[_,_,_,_,_,_,_,_,_,_,_,_,_,_,_,_,_,_,_,_,_,o 0,o 1,o 2,o 3,o 4,o 5,o 6,o 7,o 8,o 9,o 10,.bool true,o 12,o 13,o 14,o 15,o 16,o 17,o 18,o 19,o 20,undef,o 22,o 23,_,_,_,_,_,_,_,_,_,_,_,_,_,_,_,_,_],[]⟩ W
  refine wpOp_step rfl fun _ hK => ?_
  go_simp
  exact hK _ _ ⟨rfl,rfl⟩
 ·intro o W _
  show wpOp _ _ _ 23 _ ⟨#[_,_,_,_,_,_,_,_,_,_,_,_,_,_,_,_,_,_,_,_,_,o 0,o 1,o 2,o 3,o 4,o 5,o 6,o 7,o 8,o 9,o 10,.bool true,o 12,o 13,o 14,o 15,o 16,o 17,o 18,o 19,o 20,o 21,undef,o 23,_,_,_,_,_,_,_,_,_,_,_,_,_,_,_,_,_],[]⟩ W
  refine wpOp_step rfl fun _ hK => ?_
  go_simp
  exact hK _ _ ⟨rfl,rfl⟩
 ·intro o hh_
  have e0 : o 0 = .slice (some ⟨(w.heap.size + 1),0,none⟩) 3 3 := hh_ 0 (by decide)
  have e1 : o 1 = .int .i64 0 := hh_ 1 (by decide)
  have e2 : o 2 = .pointer (some ⟨(w.heap.size + 1),0,none⟩) := hh_ 2 (by decide)
  have e3 : o 3 = .pointer (some ⟨(w.heap.size + 1),0,none⟩) := hh_ 3 (by decide)
  have e4 : o 4 = .int .i64 a := hh_ 4 (by decide)
  have e5 : o 5 = .slice (some ⟨(w.heap.size + 1 + 1),0,none⟩) 3 3 := hh_ 5 (by decide)
  have e6 : o 6 = .int .i64 0 := hh_ 6 (by decide)
  have e7 : o 7 = .pointer (some ⟨(w.heap.size + 1 + 1),0,none⟩) := hh_ 7 (by decide)
  have e8 : o 8 = .int .i64 10000 := hh_ 8 (by decide)
  have e9 : o 9 = .bool false := hh_ 9 (by decide)
  have e10 : o 10 = .bool true := hh_ 10 (by decide)
  have e11 : o 11 = .bool true := hh_ 11 (by decide)
  have e12 : o 12 = undef := hh_ 12 (by decide)
  have e13 : o 13 = undef := hh_ 13 (by decide)
  have e14 : o 14 = undef := hh_ 14 (by decide)
  have e15 : o 15 = undef := hh_ 15 (by decide)
  have e16 : o 16 = undef := hh_ 16 (by decide)
  have e17 : o 17 = undef := hh_ 17 (by decide)
  have e18 : o 18 = undef := hh_ 18 (by decide)
  have e19 : o 19 = undef := hh_ 19 (by decide)
  have e20 : o 20 = undef := hh_ 20 (by decide)
  have e21 : o 21 = undef := hh_ 21 (by decide)
  have e22 : o 22 = undef := hh_ 22 (by decide)
  have e23 : o 23 = .bool true := hh_ 23 (by decide)
  rw [e0,e1,e2,e3,e4,e5,e6,e7,e8,e9,e10,e11,e12,e13,e14,e15,e16,e17,e18,e19,e20,e21,e22,e23]
 ·intro W1 h1
  have h1 : KL _ _ W1 := h1
  obtain ⟨r1_L0,r1_0_0,r1_0_1,r1_0_2⟩ := bl3 (KL.blk h1 (.head _))
  have r1_F0 := (KL.blk h1 (.head _)).frozen
  obtain ⟨r1_L1,r1_1_0,r1_1_1,r1_1_2,r1_1_3,r1_1_4,r1_1_5⟩ := bl6 (KL.blk h1 (.tail _ (.head _)))
  have r1_F1 := (KL.blk h1 (.tail _ (.head _))).frozen
  obtain ⟨r1_L2,r1_2_0,r1_2_1,r1_2_2,r1_2_3,r1_2_4,r1_2_5⟩ := bl6 (KL.blk h1 (.tail _ (.tail _ (.head _))))
  have r1_F2 := (KL.blk h1 (.tail _ (.tail _ (.head _)))).frozen
  have hjb := h1.1
  have hjz := hjb.size
  go_wp2
  go_ret
  exact ⟨rfl,((show KL [((w.heap.size + 1 + 1),3,#[.int .i64 10000,.int .i64 10000,.int .i64 30000]),((w.heap.size + 1),23,#[a,b,c,d,p,q]),(w.heap.size,25,#[a,b,c,d,p,q])] w _ from h1)).1⟩
set_option maxHeartbeats 8000000 in
set_option maxRecDepth 100000 in
theorem rck_r1 (a b c d p q : Int)  (hia : ∀ w,Calls Try.prog 32 #[a,.int .i64 1,.int .i64 10000] w fun e w' => e = .returned (.bool true) ∧ w = w') (hib : ∀ w,Calls Try.prog 32 #[b,.int .i64 1,.int .i64 10000] w fun e w' => e = .returned (.bool false) ∧ w = w') (w : World) :
  Calls Try.prog 13 #[.agg #[a,b,c,d,p,q]] w fun e w' => e = .returned (.int .i64 6) ∧ Below w.heap.size w w' := by
 go_enter Try.func13,Try.ntmps13
 go_wp2
 refine wp_loop_rounds 100 ?_
 rw [rounds_succ]
 go_wp2
 refine wp_region_any (by kernel_rfl) ?_
 try (change wpAny _ _ _ _ _ _ _ (World.drew _))
 refine wpAny_vals (fr := fun o => #[.agg #[a,b,c,d,p,q],.pointer (some ⟨w.heap.size,0,none⟩),.int .i64 0,.slice (some ⟨(w.heap.size + 1),0,none⟩) 3 3,.slice (some ⟨(w.heap.size + 1 + 1),0,none⟩) 3 3,.int .i64 0,undef,.pointer (some ⟨w.heap.size,0,none⟩),.agg #[a,b],.pointer (some ⟨w.heap.size,2,none⟩),.agg #[c,d],.pointer (some ⟨w.heap.size,4,none⟩),.agg #[p,q],.slice (some ⟨(w.heap.size + 1),0,none⟩) 3 3,.slice (some ⟨(w.heap.size + 1 + 1),0,none⟩) 3 3,.int .i64 0,.slice (some ⟨(w.heap.size + 1),0,none⟩) 3 3,.int .i64 3,.bool true,undef,undef,o 0,o 1,o 2,o 3,o 4,o 5,o 6,o 7,o 8,o 9,o 10,o 11,o 12,o 13,o 14,o 15,o 16,o 17,o 18,o 19,o 20,o 21,o 22,o 23,undef,undef,undef,undef,undef,undef,undef,undef,undef,undef,undef,undef,undef,undef,undef,undef,undef]) (vals := fun i_ => ([.slice (some ⟨(w.heap.size + 1),0,none⟩) 3 3,.int .i64 0,.pointer (some ⟨(w.heap.size + 1),0,none⟩),.pointer (some ⟨(w.heap.size + 1),0,none⟩),.int .i64 a,.slice (some ⟨(w.heap.size + 1 + 1),0,none⟩) 3 3,.int .i64 0,.pointer (some ⟨(w.heap.size + 1 + 1),0,none⟩),.int .i64 10000,.bool true,.bool false,.bool false,.slice (some ⟨(w.heap.size + 1),0,none⟩) 3 3,.int .i64 0,.pointer (some ⟨(w.heap.size + 1),0,none⟩),.pointer (some ⟨(w.heap.size + 1),1,none⟩),.int .i64 b,.slice (some ⟨(w.heap.size + 1 + 1),0,none⟩) 3 3,.int .i64 0,.pointer (some ⟨(w.heap.size + 1 + 1),0,none⟩),.int .i64 10000,.bool false,.bool true,.bool true] : List Value).getD i_ undef) (Kf := fun _ => True) (K := fun kk_ => ([(KL [((w.heap.size + 1 + 1),3,#[.int .i64 10000,.int .i64 10000,.int .i64 30000]),((w.heap.size + 1),23,#[a,b,c,d,p,q]),(w.heap.size,25,#[a,b,c,d,p,q])] w)] : List (World → Prop)).getD kk_ (fun _ => True)) (dep := fun i_ => [[],[],[0,1],[2],[3],[],[],[5,6],[7],[4,8],[9],[10],[11],[11],[11,12,13],[11,14],[11,15],[11],[11],[11,17,18],[11,19],[11,16,20],[11,21],[11,22]].getD i_ []) (dv := fun i_ => [[],[],[0,1],[2],[3],[],[],[5,6],[7],[4,8],[9],[10],[11],[11],[11,12,13],[11,14],[11,15],[11],[11],[11,17,18],[11,19],[11,16,20],[11,21],[11,22]].getD i_ []) (kd := fun i_ => [0,0,0,0,1,0,0,0,1,0,0,0,0,0,0,0,1,0,0,0,1,0,0,0].getD i_ 0) (ss := []) (l := [0,1,2,3,4,5,6,7,8,9,10,11,12,13,14,15,16,17,18,19,20,21,22,23]) (f0 := fun _ => undef) (A := ?A2) 24 ?_ ?_ ?_ ?_ ?_ ?_ ⟨?_,?_,?_,?_,?_,?_,?_,?_,?_,?_,?_,?_,?_,?_,?_,?_,?_,?_,?_,?_,?_,?_,?_,?_,trivial⟩ ?_ ?_
 rotate_left
 ·rfl
 ·rfl
 ·decide +kernel
 ·decide +kernel
 ·exact KL.drew (KL.new (g := (w.heap.size + 1 + 1)) (KL.new (g := (w.heap.size + 1)) (KL.new (g := w.heap.size) (KL.nil w) rfl _ _) (by simp) _ _) (by simp) _ _)
 ·exact fun _ _ _ _ => trivial
 ·intro o W _
  show wpOp _ _ _ 0 _ ⟨#[_,_,_,_,_,_,_,_,_,_,_,_,_,_,_,_,_,_,_,_,_,o 0,o 1,o 2,o 3,o 4,o 5,o 6,o 7,o 8,o 9,o 10,o 11,o 12,o 13,o 14,o 15,o 16,o 17,o 18,o 19,o 20,o 21,o 22,o 23,_,_,_,_,_,_,_,_,_,_,_,_,_,_,_,_,_],[]⟩ W
  refine wpOp_step rfl fun _ hK => ?_
  go_simp
  exact hK _ _ ⟨rfl,rfl⟩
 ·intro o W _
  show wpOp _ _ _ 1 _ ⟨#[_,_,_,_,_,_,_,_,_,_,_,_,_,_,_,_,_,_,_,_,_,o 0,o 1,o 2,o 3,o 4,o 5,o 6,o 7,o 8,o 9,o 10,o 11,o 12,o 13,o 14,o 15,o 16,o 17,o 18,o 19,o 20,o 21,o 22,o 23,_,_,_,_,_,_,_,_,_,_,_,_,_,_,_,_,_],[]⟩ W
  refine wpOp_step rfl fun _ hK => ?_
  go_simp
  exact hK _ _ ⟨rfl,rfl⟩
 ·intro o W _
  show wpOp _ _ _ 2 _ ⟨#[_,_,_,_,_,_,_,_,_,_,_,_,_,_,_,_,_,_,_,_,_,.slice (some ⟨(w.heap.size + 1),0,none⟩) 3 3,.int .i64 0,o 2,o 3,o 4,o 5,o 6,o 7,o 8,o 9,o 10,o 11,o 12,o 13,o 14,o 15,o 16,o 17,o 18,o 19,o 20,o 21,o 22,o 23,_,_,_,_,_,_,_,_,_,_,_,_,_,_,_,_,_],[]⟩ W
  refine wpOp_step rfl fun _ hK => ?_
  go_simp
  exact hK _ _ ⟨rfl,rfl⟩
 ·intro o W _
  show wpOp _ _ _ 3 _ ⟨#[_,_,_,_,_,_,_,_,_,_,_,_,_,_,_,_,_,_,_,_,_,o 0,o 1,.pointer (some ⟨(w.heap.size + 1),0,none⟩),o 3,o 4,o 5,o 6,o 7,o 8,o 9,o 10,o 11,o 12,o 13,o 14,o 15,o 16,o 17,o 18,o 19,o 20,o 21,o 22,o 23,_,_,_,_,_,_,_,_,_,_,_,_,_,_,_,_,_],[]⟩ W
  refine wpOp_step rfl fun _ hK => ?_
  go_simp
  exact hK _ _ ⟨rfl,rfl⟩
 ·intro o W hj
  have hj : KL _ _ W := hj
  obtain ⟨cL,c0,c1,c2,c3,c4,c5⟩ := bl6 (KL.blk hj (.tail _ (.head _)))
  show wpOp _ _ _ 4 _ ⟨#[_,_,_,_,_,_,_,_,_,_,_,_,_,_,_,_,_,_,_,_,_,o 0,o 1,o 2,.pointer (some ⟨(w.heap.size + 1),0,none⟩),o 4,o 5,o 6,o 7,o 8,o 9,o 10,o 11,o 12,o 13,o 14,o 15,o 16,o 17,o 18,o 19,o 20,o 21,o 22,o 23,_,_,_,_,_,_,_,_,_,_,_,_,_,_,_,_,_],[]⟩ W
  refine wpOp_step rfl fun _ hK => ?_
  go_simp
  exact hK _ _ ⟨rfl,hj⟩
 ·intro o W _
  show wpOp _ _ _ 5 _ ⟨#[_,_,_,_,_,_,_,_,_,_,_,_,_,_,_,_,_,_,_,_,_,o 0,o 1,o 2,o 3,o 4,o 5,o 6,o 7,o 8,o 9,o 10,o 11,o 12,o 13,o 14,o 15,o 16,o 17,o 18,o 19,o 20,o 21,o 22,o 23,_,_,_,_,_,_,_,_,_,_,_,_,_,_,_,_,_],[]⟩ W
  refine wpOp_step rfl fun _ hK => ?_
  go_simp
  exact hK _ _ ⟨rfl,rfl⟩
 ·intro o W _
  show wpOp _ _ _ 6 _ ⟨#[_,_,_,_,_,_,_,_,_,_,_,_,_,_,_,_,_,_,_,_,_,o 0,o 1,o 2,o 3,o 4,o 5,o 6,o 7,o 8,o 9,o 10,o 11,o 12,o 13,o 14,o 15,o 16,o 17,o 18,o 19,o 20,o 21,o 22,o 23,_,_,_,_,_,_,_,_,_,_,_,_,_,_,_,_,_],[]⟩ W
  refine wpOp_step rfl fun _ hK => ?_
  go_simp
  exact hK _ _ ⟨rfl,rfl⟩
 ·intro o W _
  show wpOp _ _ _ 7 _ ⟨#[_,_,_,_,_,_,_,_,_,_,_,_,_,_,_,_,_,_,_,_,_,o 0,o 1,o 2,o 3,o 4,.slice (some ⟨(w.heap.size + 1 + 1),0,none⟩) 3 3,.int .i64 0,o 7,o 8,o 9,o 10,o 11,o 12,o 13,o 14,o 15,o 16,o 17,o 18,o 19,o 20,o 21,o 22,o 23,_,_,_,_,_,_,_,_,_,_,_,_,_,_,_,_,_],[]⟩ W
  refine wpOp_step rfl fun _ hK => ?_
  go_simp
  exact hK _ _ ⟨rfl,rfl⟩
 ·intro o W hj
  have hj : KL _ _ W := hj
  obtain ⟨cL,c0,c1,c2⟩ := bl3 (KL.blk hj (.head _))
  show wpOp _ _ _ 8 _ ⟨#[_,_,_,_,_,_,_,_,_,_,_,_,_,_,_,_,_,_,_,_,_,o 0,o 1,o 2,o 3,o 4,o 5,o 6,.pointer (some ⟨(w.heap.size + 1 + 1),0,none⟩),o 8,o 9,o 10,o 11,o 12,o 13,o 14,o 15,o 16,o 17,o 18,o 19,o 20,o 21,o 22,o 23,_,_,_,_,_,_,_,_,_,_,_,_,_,_,_,_,_],[]⟩ W
  refine wpOp_step rfl fun _ hK => ?_
  go_simp
  exact hK _ _ ⟨rfl,hj⟩
 ·intro o W _
  show wpOp _ _ _ 9 _ ⟨#[_,_,_,_,_,_,_,_,_,_,_,_,_,_,_,_,_,_,_,_,_,o 0,o 1,o 2,o 3,.int .i64 a,o 5,o 6,o 7,.int .i64 10000,o 9,o 10,o 11,o 12,o 13,o 14,o 15,o 16,o 17,o 18,o 19,o 20,o 21,o 22,o 23,_,_,_,_,_,_,_,_,_,_,_,_,_,_,_,_,_],[]⟩ W
  refine wpOp_step rfl fun _ hK => ?_
  go_simp
  refine (hia _).mono ?_
  rintro e W1 ⟨rfl,rfl⟩
  exact hK _ _ ⟨rfl,rfl⟩
 ·intro o W _
  show wpOp _ _ _ 10 _ ⟨#[_,_,_,_,_,_,_,_,_,_,_,_,_,_,_,_,_,_,_,_,_,o 0,o 1,o 2,o 3,o 4,o 5,o 6,o 7,o 8,.bool true,o 10,o 11,o 12,o 13,o 14,o 15,o 16,o 17,o 18,o 19,o 20,o 21,o 22,o 23,_,_,_,_,_,_,_,_,_,_,_,_,_,_,_,_,_],[]⟩ W
  refine wpOp_step rfl fun _ hK => ?_
  go_simp
  exact hK _ _ ⟨rfl,rfl⟩
 ·intro o W _
  show wpOp _ _ _ 11 _ ⟨#[_,_,_,_,_,_,_,_,_,_,_,_,_,_,_,_,_,_,_,_,_,o 0,o 1,o 2,o 3,o 4,o 5,o 6,o 7,o 8,o 9,.bool false,o 11,o 12,o 13,o 14,o 15,o 16,o 17,o 18,o 19,o 20,o 21,o 22,o 23,_,_,_,_,_,_,_,_,_,_,_,_,_,_,_,_,_],[]⟩ W
  refine wpOp_step rfl fun _ hK => ?_
  go_simp
  exact hK _ _ ⟨rfl,rfl⟩
 ·intro o W _
  show wpOp _ _ _ 12 _ ⟨#[_,_,_,_,_,_,_,_,_,_,_,_,_,_,_,_,_,_,_,_,_,o 0,o 1,o 2,o 3,o 4,o 5,o 6,o 7,o 8,o 9,o 10,.bool false,o 12,o 13,o 14,o 15,o 16,o 17,o 18,o 19,o 20,o 21,o 22,o 23,_,_,_,_,_,_,_,_,_,_,_,_,_,_,_,_,_],[]⟩ W
  refine wpOp_step rfl fun _ hK => ?_
  go_simp
  exact hK _ _ ⟨rfl,rfl⟩
 ·intro o W _
  show wpOp _ _ _ 13 _ ⟨#[_,_,_,_,_,_,_,_,_,_,_,_,_,_,_,_,_,_,_,_,_,o 0,o 1,o 2,o 3,o 4,o 5,o 6,o 7,o 8,o 9,o 10,.bool false,o 12,o 13,o 14,o 15,o 16,o 17,o 18,o 19,o 20,o 21,o 22,o 23,_,_,_,_,_,_,_,_,_,_,_,_,_,_,_,_,_],[]⟩ W
  refine wpOp_step rfl fun _ hK => ?_
  go_simp
  exact hK _ _ ⟨rfl,rfl⟩
 ·intro o W _
  show wpOp _ _ _ 14 _ ⟨#[_,_,_,_,_,_,_,_,_,_,_,_,_,_,_,_,_,_,_,_,_,o 0,o 1,o 2,o 3,o 4,o 5,o 6,o 7,o 8,o 9,o 10,.bool false,.slice (some ⟨(w.heap.size + 1),0,none⟩) 3 3,.int .i64 0,o 14,o 15,o 16,o 17,o 18,o 19,o 20,o 21,o 22,o 23,_,_,_,_,_,_,_,_,_,_,_,_,_,_,_,_,_],[]⟩ W
  refine wpOp_step rfl fun _ hK => ?_
  go_simp
  exact hK _ _ ⟨rfl,rfl⟩
 ·intro o W _
  show wpOp _ _ _ 15 _ ⟨#[_,_,_,_,_,_,_,_,_,_,_,_,_,_,_,_,_,_,_,_,_,o 0,o 1,o 2,o 3,o 4,o 5,o 6,o 7,o 8,o 9,o 10,.bool false,o 12,o 13,.pointer (some ⟨(w.heap.size + 1),0,none⟩),o 15,o 16,o 17,o 18,o 19,o 20,o 21,o 22,o 23,_,_,_,_,_,_,_,_,_,_,_,_,_,_,_,_,_],[]⟩ W
  refine wpOp_step rfl fun _ hK => ?_
  go_simp
  exact hK _ _ ⟨rfl,rfl⟩
 ·intro o W hj
  have hj : KL _ _ W := hj
  obtain ⟨cL,c0,c1,c2,c3,c4,c5⟩ := bl6 (KL.blk hj (.tail _ (.head _)))
  show wpOp _ _ _ 16 _ ⟨#[_,_,_,_,_,_,_,_,_,_,_,_,_,_,_,_,_,_,_,_,_,o 0,o 1,o 2,o 3,o 4,o 5,o 6,o 7,o 8,o 9,o 10,.bool false,o 12,o 13,o 14,.pointer (some ⟨(w.heap.size + 1),1,none⟩),o 16,o 17,o 18,o 19,o 20,o 21,o 22,o 23,_,_,_,_,_,_,_,_,_,_,_,_,_,_,_,_,_],[]⟩ W
  refine wpOp_step rfl fun _ hK => ?_
  go_simp
  exact hK _ _ ⟨rfl,hj⟩
 ·intro o W _
  show wpOp _ _ _ 17 _ ⟨#[_,_,_,_,_,_,_,_,_,_,_,_,_,_,_,_,_,_,_,_,_,o 0,o 1,o 2,o 3,o 4,o 5,o 6,o 7,o 8,o 9,o 10,.bool false,o 12,o 13,o 14,o 15,o 16,o 17,o 18,o 19,o 20,o 21,o 22,o 23,_,_,_,_,_,_,_,_,_,_,_,_,_,_,_,_,_],[]⟩ W
  refine wpOp_step rfl fun _ hK => ?_
  go_simp
  exact hK _ _ ⟨rfl,rfl⟩
 ·intro o W _
  show wpOp _ _ _ 18 _ ⟨#[_,_,_,_,_,_,_,_,_,_,_,_,_,_,_,_,_,_,_,_,_,o 0,o 1,o 2,o 3,o 4,o 5,o 6,o 7,o 8,o 9,o 10,.bool false,o 12,o 13,o 14,o 15,o 16,o 17,o 18,o 19,o 20,o 21,o 22,o 23,_,_,_,_,_,_,_,_,_,_,_,_,_,_,_,_,_],[]⟩ W
  refine wpOp_step rfl fun _ hK => ?_
  go_simp
  exact hK _ _ ⟨rfl,rfl⟩
 ·intro o W _
  show wpOp _ _ _ 19 _ ⟨#[_,_,_,_,_,_,_,_,_,_,_,_,_,_,_,_,_,_,_,_,_,o 0,o 1,o 2,o 3,o 4,o 5,o 6,o 7,o 8,o 9,o 10,.bool false,o 12,o 13,o 14,o 15,o 16,.slice (some ⟨(w.heap.size + 1 + 1),0,none⟩) 3 3,.int .i64 0,o 19,o 20,o 21,o 22,o 23,_,_,_,_,_,_,_,_,_,_,_,_,_,_,_,_,_],[]⟩ W
  refine wpOp_step rfl fun _ hK => ?_
  go_simp
  exact hK _ _ ⟨rfl,rfl⟩
 ·intro o W hj
  have hj : KL _ _ W := hj
  obtain ⟨cL,c0,c1,c2⟩ := bl3 (KL.blk hj (.head _))
  show wpOp _ _ _ 20 _ ⟨#[_,_,_,_,_,_,_,_,_,_,_,_,_,_,_,_,_,_,_,_,_,o 0,o 1,o 2,o 3,o 4,o 5,o 6,o 7,o 8,o 9,o 10,.bool false,o 12,o 13,o 14,o 15,o 16,o 17,o 18,.pointer (some ⟨(w.heap.size + 1 + 1),0,none⟩),o 20,o 21,o 22,o 23,_,_,_,_,_,_,_,_,_,_,_,_,_,_,_,_,_],[]⟩ W
  refine wpOp_step rfl fun _ hK => ?_
  go_simp
  exact hK _ _ ⟨rfl,hj⟩
 ·intro o W _
  show wpOp _ _ _ 21 _ ⟨#[_,_,_,_,_,_,_,_,_,_,_,_,_,_,_,_,_,_,_,_,_,o 0,o 1,o 2,o 3,o 4,o 5,o 6,o 7,o 8,o 9,o 10,.bool false,o 12,o 13,o 14,o 15,.int .i64 b,o 17,o 18,o 19,.int .i64 10000,o 21,o 22,o 23,_,_,_,_,_,_,_,_,_,_,_,_,_,_,_,_,_],[]⟩ W
  refine wpOp_step rfl fun _ hK => ?_
  go_simp
  refine (hib _).mono ?_
  rintro e W1 ⟨rfl,rfl⟩
  exact hK _ _ ⟨rfl,rfl⟩
 ·intro o W _
  show wpOp _ _ _ 22 _ ⟨#[_,_,_,_,_,_,_,_,_,_,_,_,_,_,_,_,_,_,_,_,_,o 0,o 1,o 2,o 3,o 4,o 5,o 6,o 7,o 8,o 9,o 10,.bool false,o 12,o 13,o 14,o 15,o 16,o 17,o 18,o 19,o 20,.bool false,o 22,o 23,_,_,_,_,_,_,_,_,_,_,_,_,_,_,_,_,_],[]⟩ W
  refine wpOp_step rfl fun _ hK => ?_
  go_simp
  exact hK _ _ ⟨rfl,rfl⟩
 ·intro o W _
  show wpOp _ _ _ 23 _ ⟨#[_,_,_,_,_,_,_,_,_,_,_,_,_,_,_,_,_,_,_,_,_,o 0,o 1,o 2,o 3,o 4,o 5,o 6,o 7,o 8,o 9,o 10,.bool false,o 12,o 13,o 14,o 15,o 16,o 17,o 18,o 19,o 20,o 21,.bool true,o 23,_,_,_,_,_,_,_,_,_,_,_,_,_,_,_,_,_],[]⟩ W
  refine wpOp_step rfl fun _ hK => ?_
  go_simp
  exact hK _ _ ⟨rfl,rfl⟩
 ·intro o hh_
  have e0 : o 0 = .slice (some ⟨(w.heap.size + 1),0,none⟩) 3 3 := hh_ 0 (by decide)
  have e1 : o 1 = .int .i64 0 := hh_ 1 (by decide)
  have e2 : o 2 = .pointer (some ⟨(w.heap.size + 1),0,none⟩) := hh_ 2 (by decide)
  have e3 : o 3 = .pointer (some ⟨(w.heap.size + 1),0,none⟩) := hh_ 3 (by decide)
  have e4 : o 4 = .int .i64 a := hh_ 4 (by decide)
  have e5 : o 5 = .slice (some ⟨(w.heap.size + 1 + 1),0,none⟩) 3 3 := hh_ 5 (by decide)
  have e6 : o 6 = .int .i64 0 := hh_ 6 (by decide)
  have e7 : o 7 = .pointer (some ⟨(w.heap.size + 1 + 1),0,none⟩) := hh_ 7 (by decide)
  have e8 : o 8 = .int .i64 10000 := hh_ 8 (by decide)
  have e9 : o 9 = .bool true := hh_ 9 (by decide)
  have e10 : o 10 = .bool false := hh_ 10 (by decide)
  have e11 : o 11 = .bool false := hh_ 11 (by decide)
  have e12 : o 12 = .slice (some ⟨(w.heap.size + 1),0,none⟩) 3 3 := hh_ 12 (by decide)
  have e13 : o 13 = .int .i64 0 := hh_ 13 (by decide)
  have e14 : o 14 = .pointer (some ⟨(w.heap.size + 1),0,none⟩) := hh_ 14 (by decide)
  have e15 : o 15 = .pointer (some ⟨(w.heap.size + 1),1,none⟩) := hh_ 15 (by decide)
  have e16 : o 16 = .int .i64 b := hh_ 16 (by decide)
  have e17 : o 17 = .slice (some ⟨(w.heap.size + 1 + 1),0,none⟩) 3 3 := hh_ 17 (by decide)
  have e18 : o 18 = .int .i64 0 := hh_ 18 (by decide)
  have e19 : o 19 = .pointer (some ⟨(w.heap.size + 1 + 1),0,none⟩) := hh_ 19 (by decide)
  have e20 : o 20 = .int .i64 10000 := hh_ 20 (by decide)
  have e21 : o 21 = .bool false := hh_ 21 (by decide)
  have e22 : o 22 = .bool true := hh_ 22 (by decide)
  have e23 : o 23 = .bool true := hh_ 23 (by decide)
  rw [e0,e1,e2,e3,e4,e5,e6,e7,e8,e9,e10,e11,e12,e13,e14,e15,e16,e17,e18,e19,e20,e21,e22,e23]
 ·intro W1 h1
  have h1 : KL _ _ W1 := h1
  obtain ⟨r1_L0,r1_0_0,r1_0_1,r1_0_2⟩ := bl3 (KL.blk h1 (.head _))
  have r1_F0 := (KL.blk h1 (.head _)).frozen
  obtain ⟨r1_L1,r1_1_0,r1_1_1,r1_1_2,r1_1_3,r1_1_4,r1_1_5⟩ := bl6 (KL.blk h1 (.tail _ (.head _)))
  have r1_F1 := (KL.blk h1 (.tail _ (.head _))).frozen
  obtain ⟨r1_L2,r1_2_0,r1_2_1,r1_2_2,r1_2_3,r1_2_4,r1_2_5⟩ := bl6 (KL.blk h1 (.tail _ (.tail _ (.head _))))
  have r1_F2 := (KL.blk h1 (.tail _ (.tail _ (.head _)))).frozen
  have hjb := h1.1
  have hjz := hjb.size
  go_wp2
  go_ret
  exact ⟨rfl,((show KL [((w.heap.size + 1 + 1),3,#[.int .i64 10000,.int .i64 10000,.int .i64 30000]),((w.heap.size + 1),23,#[a,b,c,d,p,q]),(w.heap.size,25,#[a,b,c,d,p,q])] w _ from h1)).1⟩
set_option maxHeartbeats 8000000 in
set_option maxRecDepth 100000 in
theorem rck_r2 (a b c d p q : Int)  (hia : ∀ w,Calls Try.prog 32 #[a,.int .i64 1,.int .i64 10000] w fun e w' => e = .returned (.bool true) ∧ w = w') (hib : ∀ w,Calls Try.prog 32 #[b,.int .i64 1,.int .i64 10000] w fun e w' => e = .returned (.bool true) ∧ w = w') (hic : ∀ w,Calls Try.prog 32 #[c,.int .i64 1,.int .i64 10000] w fun e w' => e = .returned (.bool false) ∧ w = w') (w : World) :
  Calls Try.prog 13 #[.agg #[a,b,c,d,p,q]] w fun e w' => e = .returned (.int .i64 6) ∧ Below w.heap.size w w' := by
 go_enter Try.func13,Try.ntmps13
 go_wp2
 refine wp_loop_rounds 100 ?_
 rw [rounds_succ]
 go_wp2
 refine wp_region_any (by kernel_rfl) ?_
 try (change wpAny _ _ _ _ _ _ _ (World.drew _))
 refine wpAny_vals (fr := fun o => #[.agg #[a,b,c,d,p,q],.pointer (some ⟨w.heap.size,0,none⟩),.int .i64 0,.slice (some ⟨(w.heap.size + 1),0,none⟩) 3 3,.slice (some ⟨(w.heap.size + 1 + 1),0,none⟩) 3 3,.int .i64 0,undef,.pointer (some ⟨w.heap.size,0,none⟩),.agg #[a,b],.pointer (some ⟨w.heap.size,2,none⟩),.agg #[c,d],.pointer (some ⟨w.heap.size,4,none⟩),.agg #[p,q],.slice (some ⟨(w.heap.size + 1),0,none⟩) 3 3,.slice (some ⟨(w.heap.size + 1 + 1),0,none⟩) 3 3,.int .i64 0,.slice (some ⟨(w.heap.size + 1),0,none⟩) 3 3,.int .i64 3,.bool true,undef,undef,o 0,o 1,o 2,o 3,o 4,o 5,o 6,o 7,o 8,o 9,o 10,o 11,o 12,o 13,o 14,o 15,o 16,o 17,o 18,o 19,o 20,o 21,o 22,o 23,undef,undef,undef,undef,undef,undef,undef,undef,undef,undef,undef,undef,undef,undef,undef,undef,undef]) (vals := fun i_ => ([.slice (some ⟨(w.heap.size + 1),0,none⟩) 3 3,.int .i64 0,.pointer (some ⟨(w.heap.size + 1),0,none⟩),.pointer (some ⟨(w.heap.size + 1),0,none⟩),.int .i64 a,.slice (some ⟨(w.heap.size + 1 + 1),0,none⟩) 3 3,.int .i64 0,.pointer (some ⟨(w.heap.size + 1 + 1),0,none⟩),.int .i64 10000,.bool true,.bool false,.bool false,.slice (some ⟨(w.heap.size + 1),0,none⟩) 3 3,.int .i64 0,.pointer (some ⟨(w.heap.size + 1),0,none⟩),.pointer (some ⟨(w.heap.size + 1),1,none⟩),.int .i64 b,.slice (some ⟨(w.heap.size + 1 + 1),0,none⟩) 3 3,.int .i64 0,.pointer (some ⟨(w.heap.size + 1 + 1),0,none⟩),.int .i64 10000,.bool true,.bool false,.bool false] : List Value).getD i_ undef) (Kf := fun _ => True) (K := fun kk_ => ([(KL [((w.heap.size + 1 + 1),3,#[.int .i64 10000,.int .i64 10000,.int .i64 30000]),((w.heap.size + 1),23,#[a,b,c,d,p,q]),(w.heap.size,25,#[a,b,c,d,p,q])] w)] : List (World → Prop)).getD kk_ (fun _ => True)) (dep := fun i_ => [[],[],[0,1],[2],[3],[],[],[5,6],[7],[4,8],[9],[10],[11],[11],[11,12,13],[11,14],[11,15],[11],[11],[11,17,18],[11,19],[11,16,20],[11,21],[11,22]].getD i_ []) (dv := fun i_ => [[],[],[0,1],[2],[3],[],[],[5,6],[7],[4,8],[9],[10],[11],[11],[11,12,13],[11,14],[11,15],[11],[11],[11,17,18],[11,19],[11,16,20],[11,21],[11,22]].getD i_ []) (kd := fun i_ => [0,0,0,0,1,0,0,0,1,0,0,0,0,0,0,0,1,0,0,0,1,0,0,0].getD i_ 0) (ss := []) (l := [0,1,2,3,4,5,6,7,8,9,10,11,12,13,14,15,16,17,18,19,20,21,22,23]) (f0 := fun _ => undef) (A := ?A4) 24 ?_ ?_ ?_ ?_ ?_ ?_ ⟨?_,?_,?_,?_,?_,?_,?_,?_,?_,?_,?_,?_,?_,?_,?_,?_,?_,?_,?_,?_,?_,?_,?_,?_,trivial⟩ ?_ ?_
 rotate_left
 ·rfl
 ·rfl
 ·decide +kernel
 ·decide +kernel
 ·exact KL.drew (KL.new (g := (w.heap.size + 1 + 1)) (KL.new (g := (w.heap.size + 1)) (KL.new (g := w.heap.size) (KL.nil w) rfl _ _) (by simp) _ _) (by simp) _ _)
 ·exact fun _ _ _ _ => trivial
 ·intro o W _
  show wpOp _ _ _ 0 _ ⟨#[_,_,_,_,_,_,_,_,_,_,_,_,_,_,_,_,_,_,_,_,_,o 0,o 1,o 2,o 3,o 4,o 5,o 6,o 7,o 8,o 9,o 10,o 11,o 12,o 13,o 14,o 15,o 16,o 17,o 18,o 19,o 20,o 21,o 22,o 23,_,_,_,_,_,_,_,_,_,_,_,_,_,_,_,_,_],[]⟩ W
  refine wpOp_step rfl fun _ hK => ?_
  go_simp
  exact hK _ _ ⟨rfl,rfl⟩
 ·intro o W _
  show wpOp _ _ _ 1 _ ⟨#[_,_,_,_,_,_,_,_,_,_,_,_,_,_,_,_,_,_,_,_,_,o 0,o 1,o 2,o 3,o 4,o 5,o 6,o 7,o 8,o 9,o 10,o 11,o 12,o 13,o 14,o 15,o 16,o 17,o 18,o 19,o 20,o 21,o 22,o 23,_,_,_,_,_,_,_,_,_,_,_,_,_,_,_,_,_],[]⟩ W
  refine wpOp_step rfl fun _ hK => ?_
  go_simp
  exact hK _ _ ⟨rfl,rfl⟩
 ·intro o W _
  show wpOp _ _ _ 2 _ ⟨#[_,_,_,_,_,_,_,_,_,_,_,_,_,_,_,_,_,_,_,_,_,.slice (some ⟨(w.heap.size + 1),0,none⟩) 3 3,.int .i64 0,o 2,o 3,o 4,o 5,o 6,o 7,o 8,o 9,o 10,o 11,o 12,o 13,o 14,o 15,o 16,o 17,o 18,o 19,o 20,o 21,o 22,o 23,_,_,_,_,_,_,_,_,_,_,_,_,_,_,_,_,_],[]⟩ W
  refine wpOp_step rfl fun _ hK => ?_
  go_simp
  exact hK _ _ ⟨rfl,rfl⟩
 ·intro o W _
  show wpOp _ _ _ 3 _ ⟨#[_,_,_,_,_,_,_,_,_,_,_,_,_,_,_,_,_,_,_,_,_,o 0,o 1,.pointer (some ⟨(w.heap.size + 1),0,none⟩),o 3,o 4,o 5,o 6,o 7,o 8,o 9,o 10,o 11,o 12,o 13,o 14,o 15,o 16,o 17,o 18,o 19,o 20,o 21,o 22,o 23,_,_,_,_,_,_,_,_,_,_,_,_,_,_,_,_,_],[]⟩ W
  refine wpOp_step rfl fun _ hK => ?_
  go_simp
  exact hK _ _ ⟨rfl,rfl⟩
 ·intro o W hj
  have hj : KL _ _ W := hj
  obtain ⟨cL,c0,c1,c2,c3,c4,c5⟩ := bl6 (KL.blk hj (.tail _ (.head _)))
  show wpOp _ _ _ 4 _ ⟨#[_,_,_,_,_,_,_,_,_,_,_,_,_,_,_,_,_,_,_,_,_,o 0,o 1,o 2,.pointer (some ⟨(w.heap.size + 1),0,none⟩),o 4,o 5,o 6,o 7,o 8,o 9,o 10,o 11,o 12,o 13,o 14,o 15,o 16,o 17,o 18,o 19,o 20,o 21,o 22,o 23,_,_,_,_,_,_,_,_,_,_,_,_,_,_,_,_,_],[]⟩ W
  refine wpOp_step rfl fun _ hK => ?_
  go_simp
  exact hK _ _ ⟨rfl,hj⟩
 ·intro o W _
  show wpOp _ _ _ 5 _ ⟨#[_,_,_,_,_,_,_,_,_,_,_,_,_,_,_,_,_,_,_,_,_,o 0,o 1,o 2,o 3,o 4,o 5,o 6,o 7,o 8,o 9,o 10,o 11,o 12,o 13,o 14,o 15,o 16,o 17,o 18,o 19,o 20,o 21,o 22,o 23,_,_,_,_,_,_,_,_,_,_,_,_,_,_,_,_,_],[]⟩ W
  refine wpOp_step rfl fun _ hK => ?_
  go_simp
  exact hK _ _ ⟨rfl,rfl⟩
 ·intro o W _
  show wpOp _ _ _ 6 _ ⟨#[_,_,_,_,_,_,_,_,_,_,_,_,_,_,_,_,_,_,_,_,_,o 0,o 1,o 2,o 3,o 4,o 5,o 6,o 7,o 8,o 9,o 10,o 11,o 12,o 13,o 14,o 15,o 16,o 17,o 18,o 19,o 20,o 21,o 22,o 23,_,_,_,_,_,_,_,_,_,_,_,_,_,_,_,_,_],[]⟩ W
  refine wpOp_step rfl fun _ hK => ?_
  go_simp
  exact hK _ _ ⟨rfl,rfl⟩
 ·intro o W _
  show wpOp _ _ _ 7 _ ⟨#[_,_,_,_,_,_,_,_,_,_,_,_,_,_,_,_,_,_,_,_,_,o 0,o 1,o 2,o 3,o 4,.slice (some ⟨(w.heap.size + 1 + 1),0,none⟩) 3 3,.int .i64 0,o 7,o 8,o 9,o 10,o 11,o 12,o 13,o 14,o 15,o 16,o 17,o 18,o 19,o 20,o 21,o 22,o 23,_,_,_,_,_,_,_,_,_,_,_,_,_,_,_,_,_],[]⟩ W
  refine wpOp_step rfl fun _ hK => ?_
  go_simp
  exact hK _ _ ⟨rfl,rfl⟩
 ·intro o W hj
  have hj : KL _ _ W := hj
  obtain ⟨cL,c0,c1,c2⟩ := bl3 (KL.blk hj (.head _))
  show wpOp _ _ _ 8 _ ⟨#[_,_,_,_,_,_,_,_,_,_,_,_,_,_,_,_,_,_,_,_,_,o 0,o 1,o 2,o 3,o 4,o 5,o 6,.pointer (some ⟨(w.heap.size + 1 + 1),0,none⟩),o 8,o 9,o 10,o 11,o 12,o 13,o 14,o 15,o 16,o 17,o 18,o 19,o 20,o 21,o 22,o 23,_,_,_,_,_,_,_,_,_,_,_,_,_,_,_,_,_],[]⟩ W
  refine wpOp_step rfl fun _ hK => ?_
  go_simp
  exact hK _ _ ⟨rfl,hj⟩
 ·intro o W _
  show wpOp _ _ _ 9 _ ⟨#[_,_,_,_,_,_,_,_,_,_,_,_,_,_,_,_,_,_,_,_,_,o 0,o 1,o 2,o 3,.int .i64 a,o 5,o 6,o 7,.int .i64 10000,o 9,o 10,o 11,o 12,o 13,o 14,o 15,o 16,o 17,o 18,o 19,o 20,o 21,o 22,o 23,_,_,_,_,_,_,_,_,_,_,_,_,_,_,_,_,_],[]⟩ W
  refine wpOp_step rfl fun _ hK => ?_
  go_simp
  refine (hia _).mono ?_
  rintro e W1 ⟨rfl,rfl⟩
  exact hK _ _ ⟨rfl,rfl⟩
 ·intro o W _
  show wpOp _ _ _ 10 _ ⟨#[_,_,_,_,_,_,_,_,_,_,_,_,_,_,_,_,_,_,_,_,_,o 0,o 1,o 2,o 3,o 4,o 5,o 6,o 7,o 8,.bool true,o 10,o 11,o 12,o 13,o 14,o 15,o 16,o 17,o 18,o 19,o 20,o 21,o 22,o 23,_,_,_,_,_,_,_,_,_,_,_,_,_,_,_,_,_],[]⟩ W
  refine wpOp_step rfl fun _ hK => ?_
  go_simp
  exact hK _ _ ⟨rfl,rfl⟩
 ·intro o W _
  show wpOp _ _ _ 11 _ ⟨#[_,_,_,_,_,_,_,_,_,_,_,_,_,_,_,_,_,_,_,_,_,o 0,o 1,o 2,o 3,o 4,o 5,o 6,o 7,o 8,o 9,.bool false,o 11,o 12,o 13,o 14,o 15,o 16,o 17,o 18,o 19,o 20,o 21,o 22,o 23,_,_,_,_,_,_,_,_,_,_,_,_,_,_,_,_,_],[]⟩ W
  refine wpOp_step rfl fun _ hK => ?_
  go_simp
  exact hK _ _ ⟨rfl,rfl⟩
 ·intro o W _
  show wpOp _ _ _ 12 _ ⟨#[_,_,_,_,_,_,_,_,_,_,_,_,_,_,_,_,_,_,_,_,_,o 0,o 1,o 2,o 3,o 4,o 5,o 6,o 7,o 8,o 9,o 10,.bool false,o 12,o 13,o 14,o 15,o 16,o 17,o 18,o 19,o 20,o 21,o 22,o 23,_,_,_,_,_,_,_,_,_,_,_,_,_,_,_,_,_],[]⟩ W
  refine wpOp_step rfl fun _ hK => ?_
  go_simp
  exact hK _ _ ⟨rfl,rfl⟩
 ·intro o W _
  show wpOp _ _ _ 13 _ ⟨#[_,_,_,_,_,_,_,_,_,_,_,_,_,_,_,_,_,_,_,_,_,o 0,o 1,o 2,o 3,o 4,o 5,o 6,o 7,o 8,o 9,o 10,.bool false,o 12,o 13,o 14,o 15,o 16,o 17,o 18,o 19,o 20,o 21,o 22,o 23,_,_,_,_,_,_,_,_,_,_,_,_,_,_,_,_,_],[]⟩ W
  refine wpOp_step rfl fun _ hK => ?_
  go_simp
  exact hK _ _ ⟨rfl,rfl⟩
 ·intro o W _
  show wpOp _ _ _ 14 _ ⟨#[_,_,_,_,_,_,_,_,_,_,_,_,_,_,_,_,_,_,_,_,_,o 0,o 1,o 2,o 3,o 4,o 5,o 6,o 7,o 8,o 9,o 10,.bool false,.slice (some ⟨(w.heap.size + 1),0,none⟩) 3 3,.int .i64 0,o 14,o 15,o 16,o 17,o 18,o 19,o 20,o 21,o 22,o 23,_,_,_,_,_,_,_,_,_,_,_,_,_,_,_,_,_],[]⟩ W
  refine wpOp_step rfl fun _ hK => ?_
  go_simp
  exact hK _ _ ⟨rfl,rfl⟩
 ·intro o W _
  show wpOp _ _ _ 15 _ ⟨#[_,_,_,_,_,_,_,_,_,_,_,_,_,_,_,_,_,_,_,_,_,o 0,o 1,o 2,o 3,o 4,o 5,o 6,o 7,o 8,o 9,o 10,.bool false,o 12,o 13,.pointer (some ⟨(w.heap.size + 1),0,none⟩),o 15,o 16,o 17,o 18,o 19,o 20,o 21,o 22,o 23,_,_,_,_,_,_,_,_,_,_,_,_,_,_,_,_,_],[]⟩ W
  refine wpOp_step rfl fun _ hK => ?_
  go_simp
  exact hK _ _ ⟨rfl,rfl⟩
 ·intro o W hj
  have hj : KL _ _ W := hj
  obtain ⟨cL,c0,c1,c2,c3,c4,c5⟩ := bl6 (KL.blk hj (.tail _ (.head _)))
  show wpOp _ _ _ 16 _ ⟨#[_,_,_,_,_,_,_,_,_,_,_,_,_,_,_,_,_,_,_,_,_,o 0,o 1,o 2,o 3,o 4,o 5,o 6,o 7,o 8,o 9,o 10,.bool false,o 12,o 13,o 14,.pointer (some ⟨(w.heap.size + 1),1,none⟩),o 16,o 17,o 18,o 19,o 20,o 21,o 22,o 23,_,_,_,_,_,_,_,_,_,_,_,_,_,_,_,_,_],[]⟩ W
  refine wpOp_step rfl fun _ hK => ?_
  go_simp
  exact hK _ _ ⟨rfl,hj⟩
 ·intro o W _
  show wpOp _ _ _ 17 _ ⟨#[_,_,_,_,_,_,_,_,_,_,_,_,_,_,_,_,_,_,_,_,_,o 0,o 1,o 2,o 3,o 4,o 5,o 6,o 7,o 8,o 9,o 10,.bool false,o 12,o 13,o 14,o 15,o 16,o 17,o 18,o 19,o 20,o 21,o 22,o 23,_,_,_,_,_,_,_,_,_,_,_,_,_,_,_,_,_],[]⟩ W
  refine wpOp_step rfl fun _ hK => ?_
  go_simp
  exact hK _ _ ⟨rfl,rfl⟩
 ·intro o W _
  show wpOp _ _ _ 18 _ ⟨#[_,_,_,_,_,_,_,_,_,_,_,_,_,_,_,_,_,_,_,_,_,o 0,o 1,o 2,o 3,o 4,o 5,o 6,o 7,o 8,o 9,o 10,.bool false,o 12,o 13,o 14,o 15,o 16,o 17,o 18,o 19,o 20,o 21,o 22,o 23,_,_,_,_,_,_,_,_,_,_,_,_,_,_,_,_,_],[]⟩ W
  refine wpOp_step rfl fun _ hK => ?_
  go_simp
  exact hK _ _ ⟨rfl,rfl⟩
 ·intro o W _
  show wpOp _ _ _ 19 _ ⟨#[_,_,_,_,_,_,_,_,_,_,_,_,_,_,_,_,_,_,_,_,_,o 0,o 1,o 2,o 3,o 4,o 5,o 6,o 7,o 8,o 9,o 10,.bool false,o 12,o 13,o 14,o 15,o 16,.slice (some ⟨(w.heap.size + 1 + 1),0,none⟩) 3 3,.int .i64 0,o 19,o 20,o 21,o 22,o 23,_,_,_,_,_,_,_,_,_,_,_,_,_,_,_,_,_],[]⟩ W
  refine wpOp_step rfl fun _ hK => ?_
  go_simp
  exact hK _ _ ⟨rfl,rfl⟩
 ·intro o W hj
  have hj : KL _ _ W := hj
  obtain ⟨cL,c0,c1,c2⟩ := bl3 (KL.blk hj (.head _))
  show wpOp _ _ _ 20 _ ⟨#[_,_,_,_,_,_,_,_,_,_,_,_,_,_,_,_,_,_,_,_,_,o 0,o 1,o 2,o 3,o 4,o 5,o 6,o 7,o 8,o 9,o 10,.bool false,o 12,o 13,o 14,o 15,o 16,o 17,o 18,.pointer (some ⟨(w.heap.size + 1 + 1),0,none⟩),o 20,o 21,o 22,o 23,_,_,_,_,_,_,_,_,_,_,_,_,_,_,_,_,_],[]⟩ W
  refine wpOp_step rfl fun _ hK => ?_
  go_simp
  exact hK _ _ ⟨rfl,hj⟩
 ·intro o W _
  show wpOp _ _ _ 21 _ ⟨#[_,_,_,_,_,_,_,_,_,_,_,_,_,_,_,_,_,_,_,_,_,o 0,o 1,o 2,o 3,o 4,o 5,o 6,o 7,o 8,o 9,o 10,.bool false,o 12,o 13,o 14,o 15,.int .i64 b,o 17,o 18,o 19,.int .i64 10000,o 21,o 22,o 23,_,_,_,_,_,_,_,_,_,_,_,_,_,_,_,_,_],[]⟩ W
  refine wpOp_step rfl fun _ hK => ?_
  go_simp
  refine (hib _).mono ?_
  rintro e W1 ⟨rfl,rfl⟩
  exact hK _ _ ⟨rfl,rfl⟩
 ·intro o W _
  show wpOp _ _ _ 22 _ ⟨#[_,_,_,_,_,_,_,_,_,_,_,_,_,_,_,_,_,_,_,_,_,o 0,o 1,o 2,o 3,o 4,o 5,o 6,o 7,o 8,o 9,o 10,.bool false,o 12,o 13,o 14,o 15,o 16,o 17,o 18,o 19,o 20,.bool true,o 22,o 23,_,_,_,_,_,_,_,_,_,_,_,_,_,_,_,_,_],[]⟩ W
  refine wpOp_step rfl fun _ hK => ?_
  go_simp
  exact hK _ _ ⟨rfl,rfl⟩
 ·intro o W _
  show wpOp _ _ _ 23 _ ⟨#[_,_,_,_,_,_,_,_,_,_,_,_,_,_,_,_,_,_,_,_,_,o 0,o 1,o 2,o 3,o 4,o 5,o 6,o 7,o 8,o 9,o 10,.bool false,o 12,o 13,o 14,o 15,o 16,o 17,o 18,o 19,o 20,o 21,.bool false,o 23,_,_,_,_,_,_,_,_,_,_,_,_,_,_,_,_,_],[]⟩ W
  refine wpOp_step rfl fun _ hK => ?_
  go_simp
  exact hK _ _ ⟨rfl,rfl⟩
 ·intro o hh_
  have e0 : o 0 = .slice (some ⟨(w.heap.size + 1),0,none⟩) 3 3 := hh_ 0 (by decide)
  have e1 : o 1 = .int .i64 0 := hh_ 1 (by decide)
  have e2 : o 2 = .pointer (some ⟨(w.heap.size + 1),0,none⟩) := hh_ 2 (by decide)
  have e3 : o 3 = .pointer (some ⟨(w.heap.size + 1),0,none⟩) := hh_ 3 (by decide)
  have e4 : o 4 = .int .i64 a := hh_ 4 (by decide)
  have e5 : o 5 = .slice (some ⟨(w.heap.size + 1 + 1),0,none⟩) 3 3 := hh_ 5 (by decide)
  have e6 : o 6 = .int .i64 0 := hh_ 6 (by decide)
  have e7 : o 7 = .pointer (some ⟨(w.heap.size + 1 + 1),0,none⟩) := hh_ 7 (by decide)
  have e8 : o 8 = .int .i64 10000 := hh_ 8 (by decide)
  have e9 : o 9 = .bool true := hh_ 9 (by decide)
  have e10 : o 10 = .bool false := hh_ 10 (by decide)
  have e11 : o 11 = .bool false := hh_ 11 (by decide)
  have e12 : o 12 = .slice (some ⟨(w.heap.size + 1),0,none⟩) 3 3 := hh_ 12 (by decide)
  have e13 : o 13 = .int .i64 0 := hh_ 13 (by decide)
  have e14 : o 14 = .pointer (some ⟨(w.heap.size + 1),0,none⟩) := hh_ 14 (by decide)
  have e15 : o 15 = .pointer (some ⟨(w.heap.size + 1),1,none⟩) := hh_ 15 (by decide)
  have e16 : o 16 = .int .i64 b := hh_ 16 (by decide)
  have e17 : o 17 = .slice (some ⟨(w.heap.size + 1 + 1),0,none⟩) 3 3 := hh_ 17 (by decide)
  have e18 : o 18 = .int .i64 0 := hh_ 18 (by decide)
  have e19 : o 19 = .pointer (some ⟨(w.heap.size + 1 + 1),0,none⟩) := hh_ 19 (by decide)
  have e20 : o 20 = .int .i64 10000 := hh_ 20 (by decide)
  have e21 : o 21 = .bool true := hh_ 21 (by decide)
  have e22 : o 22 = .bool false := hh_ 22 (by decide)
  have e23 : o 23 = .bool false := hh_ 23 (by decide)
  rw [e0,e1,e2,e3,e4,e5,e6,e7,e8,e9,e10,e11,e12,e13,e14,e15,e16,e17,e18,e19,e20,e21,e22,e23]
 ·intro W1 h1
  have h1 : KL _ _ W1 := h1
  obtain ⟨r1_L0,r1_0_0,r1_0_1,r1_0_2⟩ := bl3 (KL.blk h1 (.head _))
  have r1_F0 := (KL.blk h1 (.head _)).frozen
  obtain ⟨r1_L1,r1_1_0,r1_1_1,r1_1_2,r1_1_3,r1_1_4,r1_1_5⟩ := bl6 (KL.blk h1 (.tail _ (.head _)))
  have r1_F1 := (KL.blk h1 (.tail _ (.head _))).frozen
  obtain ⟨r1_L2,r1_2_0,r1_2_1,r1_2_2,r1_2_3,r1_2_4,r1_2_5⟩ := bl6 (KL.blk h1 (.tail _ (.tail _ (.head _))))
  have r1_F2 := (KL.blk h1 (.tail _ (.tail _ (.head _)))).frozen
  have hjb := h1.1
  have hjz := hjb.size
  go_wp2
  rw [rounds_succ]
  go_wp2
  refine wp_region_any (by kernel_rfl) ?_
  try (change wpAny _ _ _ _ _ _ _ (World.drew _))
  refine wpAny_vals (fr := fun o => #[.agg #[a,b,c,d,p,q],.pointer (some ⟨w.heap.size,0,none⟩),.int .i64 0,.slice (some ⟨(w.heap.size + 1),0,none⟩) 3 3,.slice (some ⟨(w.heap.size + 1 + 1),0,none⟩) 3 3,.int .i64 1,undef,.pointer (some ⟨w.heap.size,0,none⟩),.agg #[a,b],.pointer (some ⟨w.heap.size,2,none⟩),.agg #[c,d],.pointer (some ⟨w.heap.size,4,none⟩),.agg #[p,q],.slice (some ⟨(w.heap.size + 1),0,none⟩) 3 3,.slice (some ⟨(w.heap.size + 1 + 1),0,none⟩) 3 3,.int .i64 1,.slice (some ⟨(w.heap.size + 1),0,none⟩) 3 3,.int .i64 3,.bool true,.int .i64 0,.int .i64 1,o 0,o 1,o 2,o 3,o 4,o 5,o 6,o 7,o 8,o 9,o 10,o 11,o 12,o 13,o 14,o 15,o 16,o 17,o 18,o 19,o 20,o 21,o 22,o 23,undef,undef,undef,undef,undef,undef,undef,undef,undef,undef,undef,undef,undef,undef,undef,undef,undef]) (vals := fun i_ => ([.slice (some ⟨(w.heap.size + 1),0,none⟩) 3 3,.int .i64 1,.pointer (some ⟨(w.heap.size + 1),2,none⟩),.pointer (some ⟨(w.heap.size + 1),2,none⟩),.int .i64 c,.slice (some ⟨(w.heap.size + 1 + 1),0,none⟩) 3 3,.int .i64 1,.pointer (some ⟨(w.heap.size + 1 + 1),1,none⟩),.int .i64 10000,.bool false,.bool true,.bool true,undef,undef,undef,undef,undef,undef,undef,undef,undef,undef,undef,.bool true] : List Value).getD i_ undef) (Kf := fun _ => True) (K := fun kk_ => ([(KL [((w.heap.size + 1 + 1),3,#[.int .i64 10000,.int .i64 10000,.int .i64 30000]),((w.heap.size + 1),23,#[a,b,c,d,p,q]),(w.heap.size,25,#[a,b,c,d,p,q])] w)] : List (World → Prop)).getD kk_ (fun _ => True)) (dep := fun i_ => [[],[],[0,1],[2],[3],[],[],[5,6],[7],[4,8],[9],[10],[11],[11],[11,12,13],[11,14],[11,15],[11],[11],[11,17,18],[11,19],[11,16,20],[11,21],[11,22]].getD i_ []) (dv := fun i_ => [[],[],[0,1],[2],[3],[],[],[5,6],[7],[4,8],[9],[10],[11],[11],[11,12,13],[11,14],[11,15],[11],[11],[11,17,18],[11,19],[11,16,20],[11,21],[11,22]].getD i_ []) (kd := fun i_ => [0,0,0,0,1,0,0,0,1,0,0,0,0,0,0,0,0,0,0,0,0,0,0,0].getD i_ 0) (ss := []) (l := [0,1,2,3,4,5,6,7,8,9,10,11,12,13,14,15,16,17,18,19,20,21,22,23]) (f0 := fun i_ => ([.slice (some ⟨(w.heap.size + 1),0,none⟩) 3 3,.int .i64 0,.pointer (some ⟨(w.heap.size + 1),0,none⟩),.pointer (some ⟨(w.heap.size + 1),0,none⟩),.int .i64 a,.slice (some ⟨(w.heap.size + 1 + 1),0,none⟩) 3 3,.int .i64 0,.pointer (some ⟨(w.heap.size + 1 + 1),0,none⟩),.int .i64 10000,.bool true,.bool false,.bool false,.slice (some ⟨(w.heap.size + 1),0,none⟩) 3 3,.int .i64 0,.pointer (some ⟨(w.heap.size + 1),0,none⟩),.pointer (some ⟨(w.heap.size + 1),1,none⟩),.int .i64 b,.slice (some ⟨(w.heap.size + 1 + 1),0,none⟩) 3 3,.int .i64 0,.pointer (some ⟨(w.heap.size + 1 + 1),0,none⟩),.int .i64 10000,.bool true,.bool false,.bool false] : List Value).getD i_ undef) (A := ?A3) 24 ?_ ?_ ?_ ?_ ?_ ?_ ⟨?_,?_,?_,?_,?_,?_,?_,?_,?_,?_,?_,?_,?_,?_,?_,?_,?_,?_,?_,?_,?_,?_,?_,?_,trivial⟩ ?_ ?_
  rotate_left
  ·rfl
  ·rfl
  ·decide +kernel
  ·decide +kernel
  ·exact KL.drew h1
  ·exact fun _ _ _ _ => trivial
  ·intro o W _
   show wpOp _ _ _ 0 _ ⟨#[_,_,_,_,_,_,_,_,_,_,_,_,_,_,_,_,_,_,_,_,_,o 0,o 1,o 2,o 3,o 4,o 5,o 6,o 7,o 8,o 9,o 10,o 11,o 12,o 13,o 14,o 15,o 16,o 17,o 18,o 19,o 20,o 21,o 22,o 23,_,_,_,_,_,_,_,_,_,_,_,_,_,_,_,_,_],[]⟩ W
   refine wpOp_step rfl fun _ hK => ?_
   go_simp
   exact hK _ _ ⟨rfl,rfl⟩
  ·intro o W _
   show wpOp _ _ _ 1 _ ⟨#[_,_,_,_,_,_,_,_,_,_,_,_,_,_,_,_,_,_,_,_,_,o 0,o 1,o 2,o 3,o 4,o 5,o 6,o 7,o 8,o 9,o 10,o 11,o 12,o 13,o 14,o 15,o 16,o 17,o 18,o 19,o 20,o 21,o 22,o 23,_,_,_,_,_,_,_,_,_,_,_,_,_,_,_,_,_],[]⟩ W
   refine wpOp_step rfl fun _ hK => ?_
   go_simp
   exact hK _ _ ⟨rfl,rfl⟩
  ·intro o W _
   show wpOp _ _ _ 2 _ ⟨#[_,_,_,_,_,_,_,_,_,_,_,_,_,_,_,_,_,_,_,_,_,.slice (some ⟨(w.heap.size + 1),0,none⟩) 3 3,.int .i64 1,o 2,o 3,o 4,o 5,o 6,o 7,o 8,o 9,o 10,o 11,o 12,o 13,o 14,o 15,o 16,o 17,o 18,o 19,o 20,o 21,o 22,o 23,_,_,_,_,_,_,_,_,_,_,_,_,_,_,_,_,_],[]⟩ W
   refine wpOp_step rfl fun _ hK => ?_
   go_simp
   exact hK _ _ ⟨rfl,rfl⟩
  ·intro o W _
   show wpOp _ _ _ 3 _ ⟨#[_,_,_,_,_,_,_,_,_,_,_,_,_,_,_,_,_,_,_,_,_,o 0,o 1,.pointer (some ⟨(w.heap.size + 1),2,none⟩),o 3,o 4,o 5,o 6,o 7,o 8,o 9,o 10,o 11,o 12,o 13,o 14,o 15,o 16,o 17,o 18,o 19,o 20,o 21,o 22,o 23,_,_,_,_,_,_,_,_,_,_,_,_,_,_,_,_,_],[]⟩ W
   refine wpOp_step rfl fun _ hK => ?_
   go_simp
   exact hK _ _ ⟨rfl,rfl⟩
  ·intro o W hj
   have hj : KL _ _ W := hj
   obtain ⟨cL,c0,c1,c2,c3,c4,c5⟩ := bl6 (KL.blk hj (.tail _ (.head _)))
   show wpOp _ _ _ 4 _ ⟨#[_,_,_,_,_,_,_,_,_,_,_,_,_,_,_,_,_,_,_,_,_,o 0,o 1,o 2,.pointer (some ⟨(w.heap.size + 1),2,none⟩),o 4,o 5,o 6,o 7,o 8,o 9,o 10,o 11,o 12,o 13,o 14,o 15,o 16,o 17,o 18,o 19,o 20,o 21,o 22,o 23,_,_,_,_,_,_,_,_,_,_,_,_,_,_,_,_,_],[]⟩ W
   refine wpOp_step rfl fun _ hK => ?_
   go_simp
   exact hK _ _ ⟨rfl,hj⟩
  ·intro o W _
   show wpOp _ _ _ 5 _ ⟨#[_,_,_,_,_,_,_,_,_,_,_,_,_,_,_,_,_,_,_,_,_,o 0,o 1,o 2,o 3,o 4,o 5,o 6,o 7,o 8,o 9,o 10,o 11,o 12,o 13,o 14,o 15,o 16,o 17,o 18,o 19,o 20,o 21,o 22,o 23,_,_,_,_,_,_,_,_,_,_,_,_,_,_,_,_,_],[]⟩ W
   refine wpOp_step rfl fun _ hK => ?_
   go_simp
   exact hK _ _ ⟨rfl,rfl⟩
  ·intro o W _
   show wpOp _ _ _ 6 _ ⟨#[_,_,_,_,_,_,_,_,_,_,_,_,_,_,_,_,_,_,_,_,_,o 0,o 1,o 2,o 3,o 4,o 5,o 6,o 7,o 8,o 9,o 10,o 11,o 12,o 13,o 14,o 15,o 16,o 17,o 18,o 19,o 20,o 21,o 22,o 23,_,_,_,_,_,_,_,_,_,_,_,_,_,_,_,_,_],[]⟩ W
   refine wpOp_step rfl fun _ hK => ?_
   go_simp
   exact hK _ _ ⟨rfl,rfl⟩
  ·intro o W _
   show wpOp _ _ _ 7 _ ⟨#[_,_,_,_,_,_,_,_,_,_,_,_,_,_,_,_,_,_,_,_,_,o 0,o 1,o 2,o 3,o 4,.slice (some ⟨(w.heap.size + 1 + 1),0,none⟩) 3 3,.int .i64 1,o 7,o 8,o 9,o 10,o 11,o 12,o 13,o 14,o 15,o 16,o 17,o 18,o 19,o 20,o 21,o 22,o 23,_,_,_,_,_,_,_,_,_,_,_,_,_,_,_,_,_],[]⟩ W
   refine wpOp_step rfl fun _ hK => ?_
   go_simp
   exact hK _ _ ⟨rfl,rfl⟩
  ·intro o W hj
   have hj : KL _ _ W := hj
   obtain ⟨cL,c0,c1,c2⟩ := bl3 (KL.blk hj (.head _))
   show wpOp _ _ _ 8 _ ⟨#[_,_,_,_,_,_,_,_,_,_,_,_,_,_,_,_,_,_,_,_,_,o 0,o 1,o 2,o 3,o 4,o 5,o 6,.pointer (some ⟨(w.heap.size + 1 + 1),1,none⟩),o 8,o 9,o 10,o 11,o 12,o 13,o 14,o 15,o 16,o 17,o 18,o 19,o 20,o 21,o 22,o 23,_,_,_,_,_,_,_,_,_,_,_,_,_,_,_,_,_],[]⟩ W
   refine wpOp_step rfl fun _ hK => ?_
   go_simp
   exact hK _ _ ⟨rfl,hj⟩
  ·intro o W _
   show wpOp _ _ _ 9 _ ⟨#[_,_,_,_,_,_,_,_,_,_,_,_,_,_,_,_,_,_,_,_,_,o 0,o 1,o 2,o 3,.int .i64 c,o 5,o 6,o 7,.int .i64 10000,o 9,o 10,o 11,o 12,o 13,o 14,o 15,o 16,o 17,o 18,o 19,o 20,o 21,o 22,o 23,_,_,_,_,_,_,_,_,_,_,_,_,_,_,_,_,_],[]⟩ W
   refine wpOp_step rfl fun _ hK => ?_
   go_simp
   refine (hic _).mono ?_
   rintro e W1 ⟨rfl,rfl⟩
   exact hK _ _ ⟨rfl,rfl⟩
  ·intro o W _
   show wpOp _ _ _ 10 _ ⟨#[_,_,_,_,_,_,_,_,_,_,_,_,_,_,_,_,_,_,_,_,_,o 0,o 1,o 2,o 3,o 4,o 5,o 6,o 7,o 8,.bool false,o 10,o 11,o 12,o 13,o 14,o 15,o 16,o 17,o 18,o 19,o 20,o 21,o 22,o 23,_,_,_,_,_,_,_,_,_,_,_,_,_,_,_,_,_],[]⟩ W
   refine wpOp_step rfl fun _ hK => ?_
   go_simp
   exact hK _ _ ⟨rfl,rfl⟩
  ·intro o W _
   show wpOp _ _ _ 11 _ ⟨#[_,_,_,_,_,_,_,_,_,_,_,_,_,_,_,_,_,_,_,_,_,o 0,o 1,o 2,o 3,o 4,o 5,o 6,o 7,o 8,o 9,.bool true,o 11,o 12,o 13,o 14,o 15,o 16,o 17,o 18,o 19,o 20,o 21,o 22,o 23,_,_,_,_,_,_,_,_,_,_,_,_,_,_,_,_,_],[]⟩ W
   refine wpOp_step rfl fun _ hK => ?_
   go_simp
   exact hK _ _ ⟨rfl,rfl⟩
  ·intro o W _
   show wpOp _ _ _ 12 _ ⟨#[_,_,_,_,_,_,_,_,_,_,_,_,_,_,_,_,_,_,_,_,_,o 0,o 1,o 2,o 3,o 4,o 5,o 6,o 7,o 8,o 9,o 10,.bool true,o 12,o 13,o 14,o 15,o 16,o 17,o 18,o 19,o 20,o 21,o 22,o 23,_,_,_,_,_,_,_,_,_,_,_,_,_,_,_,_,_],[]⟩ W
   refine wpOp_step rfl fun _ hK => ?_
   go_simp
   exact hK _ _ ⟨rfl,rfl⟩
  ·intro o W _
   show wpOp _ _ _ 13 _ ⟨#[_,_,_,_,_,_,_,_,_,_,_,_,_,_,_,_,_,_,_,_,_,o 0,o 1,o 2,o 3,o 4,o 5,o 6,o 7,o 8,o 9,o 10,.bool true,o 12,o 13,o 14,o 15,o 16,o 17,o 18,o 19,o 20,o 21,o 22,o 23,_,_,_,_,_,_,_,_,_,_,_,_,_,_,_,_,_],[]⟩ W
   refine wpOp_step rfl fun _ hK => ?_
   go_simp
   exact hK _ _ ⟨rfl,rfl⟩
  ·intro o W _
   show wpOp _ _ _ 14 _ ⟨#[_,_,_,_,_,_,_,_,_,_,_,_,_,_,_,_,_,_,_,_,_,o 0,o 1,o 2,o 3,o 4,o 5,o 6,o 7,o 8,o 9,o 10,.bool true,undef,undef,o 14,o 15,o 16,o 17,o 18,o 19,o 20,o 21,o 22,o 23,_,_,_,_,_,_,_,_,_,_,_,_,_,_,_,_,_],[]⟩ W
   refine wpOp_step rfl fun _ hK => ?_
   go_simp
   exact hK _ _ ⟨rfl,rfl⟩
  ·intro o W _
   show wpOp _ _ _ 15 _ ⟨#[_,_,_,_,_,_,_,_,_,_,_,_,_,_,_,_,_,_,_,_,_,o 0,o 1,o 2,o 3,o 4,o 5,o 6,o 7,o 8,o 9,o 10,.bool true,o 12,o 13,undef,o 15,o 16,o 17,o 18,o 19,o 20,o 21,o 22,o 23,_,_,_,_,_,_,_,_,_,_,_,_,_,_,_,_,_],[]⟩ W
   refine wpOp_step rfl fun _ hK => ?_
   go_simp
   exact hK _ _ ⟨rfl,rfl⟩
  ·intro o W _
   show wpOp _ _ _ 16 _ ⟨#[_,_,_,_,_,_,_,_,_,_,_,_,_,_,_,_,_,_,_,_,_,o 0,o 1,o 2,o 3,o 4,o 5,o 6,o 7,o 8,o 9,o 10,.bool true,o 12,o 13,o 14,undef,o 16,o 17,o 18,o 19,o 20,o 21,o 22,o 23,_,_,_,_,_,_,_,_,_,_,_,_,_,_,_,_,_],[]⟩ W
   refine wpOp_step rfl fun _ hK => ?_
   go_simp
   exact hK _ _ ⟨rfl,rfl⟩
  ·intro o W _
   show wpOp _ _ _ 17 _ ⟨#[_,_,_,_,_,_,_,_,_,_,_,_,_,_,_,_,_,_,_,_,_,o 0,o 1,o 2,o 3,o 4,o 5,o 6,o 7,o 8,o 9,o 10,.bool true,o 12,o 13,o 14,o 15,o 16,o 17,o 18,o 19,o 20,o 21,o 22,o 23,_,_,_,_,_,_,_,_,_,_,_,_,_,_,_,_,_],[]⟩ W
   refine wpOp_step rfl fun _ hK => ?_
   go_simp
   exact hK _ _ ⟨rfl,rfl⟩
  ·intro o W _
   show wpOp _ _ _ 18 _ ⟨#[_,_,_,_,_,_,_,_,_,_,_,_,_,_,_,_,_,_,_,_,_,o 0,o 1,o 2,o 3,o 4,o 5,o 6,o 7,o 8,o 9,o 10,.bool true,o 12,o 13,o 14,o 15,o 16,o 17,o 18,o 19,o 20,o 21,o 22,o 23,_,_,_,_,_,_,_,_,_,_,_,_,_,_,_,_,_],[]⟩ W
   refine wpOp_step rfl fun _ hK => ?_
   go_simp
   exact hK _ _ ⟨rfl,rfl⟩
  ·intro o W _
   show wpOp _ _ _ 19 _ ⟨#[_,_,_,_,_,_,_,_,_,_,_,_,_,_,_,_,_,_,_,_,_,o 0,o 1,o 2,o 3,o 4,o 5,o 6,o 7,o 8,o 9,o 10,.bool true,o 12,o 13,o 14,o 15,o 16,undef,undef,o 19,o 20,o 21,o 22,o 23,_,_,_,_,_,_,_,_,_,_,_,_,_,_,_,_,_],[]⟩ W
   refine wpOp_step rfl fun _ hK => ?_
   go_simp
   exact hK _ _ ⟨rfl,rfl⟩
  ·intro o W _
   show wpOp _ _ _ 20 _ ⟨#[_,_,_,_,_,_,_,_,_,_,_,_,_,_,_,_,_,_,_,_,_,o 0,o 1,o 2,o 3,o 4,o 5,o 6,o 7,o 8,o 9,o 10,.bool true,o 12,o 13,o 14,o 15,o 16,o 17,o 18,undef,o 20,o 21,o 22,o 23,_,_,_,_,_,_,_,_,_,_,_,_,_,_,_,_,_],[]⟩ W
   refine wpOp_step rfl fun _ hK => ?_
   go_simp
   exact hK _ _ ⟨rfl,rfl⟩
  ·intro o W _
   show wpOp _ _ _ 21 _ ⟨#[_,_,_,_,_,_,_,_,_,_,_,_,_,_,_,_,_,_,_,_,_,o 0,o 1,o 2,o 3,o 4,o 5,o 6,o 7,o 8,o 9,o 10,.bool true,o 12,o 13,o 14,o 15,undef,o 17,o 18,o 19,undef,o 21,o 22,o 23,_,_,_,_,_,_,_,_,_,_,_,_,_,_,_,_,_],[]⟩ W
   refine wpOp_step rfl fun _ hK => ?_
   go_simp
   exact hK _ _ ⟨rfl,rfl⟩
  ·intro o W _
   show wpOp _ _ _ 22 _ ⟨#[_,_,_,_,_,_,_,_,_,_,_,_,_,_,_,_,_,_,_,_,_,o 0,o 1,o 2,o 3,o 4,o 5,o 6,o 7,o 8,o 9,o 10,.bool true,o 12,o 13,o 14,o 15,o 16,o 17,o 18,o 19,o 20,undef,o 22,o 23,_,_,_,_,_,_,_,_,_,_,_,_,_,_,_,_,_],[]⟩ W
   refine wpOp_step rfl fun _ hK => ?_
   go_simp
   exact hK _ _ ⟨rfl,rfl⟩
  ·intro o W _
   show wpOp _ _ _ 23 _ ⟨#[_,_,_,_,_,_,_,_,_,_,_,_,_,_,_,_,_,_,_,_,_,o 0,o 1,o 2,o 3,o 4,o 5,o 6,o 7,o 8,o 9,o 10,.bool true,o 12,o 13,o 14,o 15,o 16,o 17,o 18,o 19,o 20,o 21,undef,o 23,_,_,_,_,_,_,_,_,_,_,_,_,_,_,_,_,_],[]⟩ W
   refine wpOp_step rfl fun _ hK => ?_
   go_simp
   exact hK _ _ ⟨rfl,rfl⟩
  ·intro o hh_
   have e0 : o 0 = .slice (some ⟨(w.heap.size + 1),0,none⟩) 3 3 := hh_ 0 (by decide)
   have e1 : o 1 = .int .i64 1 := hh_ 1 (by decide)
   have e2 : o 2 = .pointer (some ⟨(w.heap.size + 1),2,none⟩) := hh_ 2 (by decide)
   have e3 : o 3 = .pointer (some ⟨(w.heap.size + 1),2,none⟩) := hh_ 3 (by decide)
   have e4 : o 4 = .int .i64 c := hh_ 4 (by decide)
   have e5 : o 5 = .slice (some ⟨(w.heap.size + 1 + 1),0,none⟩) 3 3 := hh_ 5 (by decide)
   have e6 : o 6 = .int .i64 1 := hh_ 6 (by decide)
   have e7 : o 7 = .pointer (some ⟨(w.heap.size + 1 + 1),1,none⟩) := hh_ 7 (by decide)
   have e8 : o 8 = .int .i64 10000 := hh_ 8 (by decide)
   have e9 : o 9 = .bool false := hh_ 9 (by decide)
   have e10 : o 10 = .bool true := hh_ 10 (by decide)
   have e11 : o 11 = .bool true := hh_ 11 (by decide)
   have e12 : o 12 = undef := hh_ 12 (by decide)
   have e13 : o 13 = undef := hh_ 13 (by decide)
   have e14 : o 14 = undef := hh_ 14 (by decide)
   have e15 : o 15 = undef := hh_ 15 (by decide)
   have e16 : o 16 = undef := hh_ 16 (by decide)
   have e17 : o 17 = undef := hh_ 17 (by decide)
   have e18 : o 18 = undef := hh_ 18 (by decide)
   have e19 : o 19 = undef := hh_ 19 (by decide)
   have e20 : o 20 = undef := hh_ 20 (by decide)
   have e21 : o 21 = undef := hh_ 21 (by decide)
   have e22 : o 22 = undef := hh_ 22 (by decide)
   have e23 : o 23 = .bool true := hh_ 23 (by decide)
   rw [e0,e1,e2,e3,e4,e5,e6,e7,e8,e9,e10,e11,e12,e13,e14,e15,e16,e17,e18,e19,e20,e21,e22,e23]
  ·intro W2 h2
   have h2 : KL _ _ W2 := h2
   obtain ⟨r2_L0,r2_0_0,r2_0_1,r2_0_2⟩ := bl3 (KL.blk h2 (.head _))
   have r2_F0 := (KL.blk h2 (.head _)).frozen
   obtain ⟨r2_L1,r2_1_0,r2_1_1,r2_1_2,r2_1_3,r2_1_4,r2_1_5⟩ := bl6 (KL.blk h2 (.tail _ (.head _)))
   have r2_F1 := (KL.blk h2 (.tail _ (.head _))).frozen
   obtain ⟨r2_L2,r2_2_0,r2_2_1,r2_2_2,r2_2_3,r2_2_4,r2_2_5⟩ := bl6 (KL.blk h2 (.tail _ (.tail _ (.head _))))
   have r2_F2 := (KL.blk h2 (.tail _ (.tail _ (.head _)))).frozen
   have hjb := h2.1
   have hjz := hjb.size
   go_wp2
   go_ret
   exact ⟨rfl,((show KL [((w.heap.size + 1 + 1),3,#[.int .i64 10000,.int .i64 10000,.int .i64 30000]),((w.heap.size + 1),23,#[a,b,c,d,p,q]),(w.heap.size,25,#[a,b,c,d,p,q])] w _ from h2)).1⟩
set_option maxHeartbeats 8000000 in
set_option maxRecDepth 100000 in
theorem rck_r3 (a b c d p q : Int)  (hia : ∀ w,Calls Try.prog 32 #[a,.int .i64 1,.int .i64 10000] w fun e w' => e = .returned (.bool true) ∧ w = w') (hib : ∀ w,Calls Try.prog 32 #[b,.int .i64 1,.int .i64 10000] w fun e w' => e = .returned (.bool true) ∧ w = w') (hic : ∀ w,Calls Try.prog 32 #[c,.int .i64 1,.int .i64 10000] w fun e w' => e = .returned (.bool true) ∧ w = w') (hid : ∀ w,Calls Try.prog 32 #[d,.int .i64 1,.int .i64 10000] w fun e w' => e = .returned (.bool false) ∧ w = w') (w : World) :
  Calls Try.prog 13 #[.agg #[a,b,c,d,p,q]] w fun e w' => e = .returned (.int .i64 6) ∧ Below w.heap.size w w' := by
 go_enter Try.func13,Try.ntmps13
 go_wp2
 refine wp_loop_rounds 100 ?_
 rw [rounds_succ]
 go_wp2
 refine wp_region_any (by kernel_rfl) ?_
 try (change wpAny _ _ _ _ _ _ _ (World.drew _))
 refine wpAny_vals (fr := fun o => #[.agg #[a,b,c,d,p,q],.pointer (some ⟨w.heap.size,0,none⟩),.int .i64 0,.slice (some ⟨(w.heap.size + 1),0,none⟩) 3 3,.slice (some ⟨(w.heap.size + 1 + 1),0,none⟩) 3 3,.int .i64 0,undef,.pointer (some ⟨w.heap.size,0,none⟩),.agg #[a,b],.pointer (some ⟨w.heap.size,2,none⟩),.agg #[c,d],.pointer (some ⟨w.heap.size,4,none⟩),.agg #[p,q],.slice (some ⟨(w.heap.size + 1),0,none⟩) 3 3,.slice (some ⟨(w.heap.size + 1 + 1),0,none⟩) 3 3,.int .i64 0,.slice (some ⟨(w.heap.size + 1),0,none⟩) 3 3,.int .i64 3,.bool true,undef,undef,o 0,o 1,o 2,o 3,o 4,o 5,o 6,o 7,o 8,o 9,o 10,o 11,o 12,o 13,o 14,o 15,o 16,o 17,o 18,o 19,o 20,o 21,o 22,o 23,undef,undef,undef,undef,undef,undef,undef,undef,undef,undef,undef,undef,undef,undef,undef,undef,undef]) (vals := fun i_ => ([.slice (some ⟨(w.heap.size + 1),0,none⟩) 3 3,.int .i64 0,.pointer (some ⟨(w.heap.size + 1),0,none⟩),.pointer (some ⟨(w.heap.size + 1),0,none⟩),.int .i64 a,.slice (some ⟨(w.heap.size + 1 + 1),0,none⟩) 3 3,.int .i64 0,.pointer (some ⟨(w.heap.size + 1 + 1),0,none⟩),.int .i64 10000,.bool true,.bool false,.bool false,.slice (some ⟨(w.heap.size + 1),0,none⟩) 3 3,.int .i64 0,.pointer (some ⟨(w.heap.size + 1),0,none⟩),.pointer (some ⟨(w.heap.size + 1),1,none⟩),.int .i64 b,.slice (some ⟨(w.heap.size + 1 + 1),0,none⟩) 3 3,.int .i64 0,.pointer (some ⟨(w.heap.size + 1 + 1),0,none⟩),.int .i64 10000,.bool true,.bool false,.bool false] : List Value).getD i_ undef) (Kf := fun _ => True) (K := fun kk_ => ([(KL [((w.heap.size + 1 + 1),3,#[.int .i64 10000,.int .i64 10000,.int .i64 30000]),((w.heap.size + 1),23,#[a,b,c,d,p,q]),(w.heap.size,25,#[a,b,c,d,p,q])] w)] : List (World → Prop)).getD kk_ (fun _ => True)) (dep := fun i_ => [[],[],[0,1],[2],[3],[],[],[5,6],[7],[4,8],[9],[10],[11],[11],[11,12,13],[11,14],[11,15],[11],[11],[11,17,18],[11,19],[11,16,20],[11,21],[11,22]].getD i_ []) (dv := fun i_ => [[],[],[0,1],[2],[3],[],[],[5,6],[7],[4,8],[9],[10],[11],[11],[11,12,13],[11,14],[11,15],[11],[11],[11,17,18],[11,19],[11,16,20],[11,21],[11,22]].getD i_ []) (kd := fun i_ => [0,0,0,0,1,0,0,0,1,0,0,0,0,0,0,0,1,0,0,0,1,0,0,0].getD i_ 0) (ss := []) (l := [0,1,2,3,4,5,6,7,8,9,10,11,12,13,14,15,16,17,18,19,20,21,22,23]) (f0 := fun _ => undef) (A := ?A6) 24 ?_ ?_ ?_ ?_ ?_ ?_ ⟨?_,?_,?_,?_,?_,?_,?_,?_,?_,?_,?_,?_,?_,?_,?_,?_,?_,?_,?_,?_,?_,?_,?_,?_,trivial⟩ ?_ ?_
 rotate_left
 ·rfl
 ·rfl
 ·decide +kernel
 ·decide +kernel
 ·exact KL.drew (KL.new (g := (w.heap.size + 1 + 1)) (KL.new (g := (w.heap.size + 1)) (KL.new (g := w.heap.size) (KL.nil w) rfl _ _) (by simp) _ _) (by simp) _ _)
 ·exact fun _ _ _ _ => trivial
 ·intro o W _
  show wpOp _ _ _ 0 _ ⟨#[_,_,_,_,_,_,_,_,_,_,_,_,_,_,_,_,_,_,_,_,_,o 0,o 1,o 2,o 3,o 4,o 5,o 6,o 7,o 8,o 9,o 10,o 11,o 12,o 13,o 14,o 15,o 16,o 17,o 18,o 19,o 20,o 21,o 22,o 23,_,_,_,_,_,_,_,_,_,_,_,_,_,_,_,_,_],[]⟩ W
  refine wpOp_step rfl fun _ hK => ?_
  go_simp
  exact hK _ _ ⟨rfl,rfl⟩
 ·intro o W _
  show wpOp _ _ _ 1 _ ⟨#[_,_,_,_,_,_,_,_,_,_,_,_,_,_,_,_,_,_,_,_,_,o 0,o 1,o 2,o 3,o 4,o 5,o 6,o 7,o 8,o 9,o 10,o 11,o 12,o 13,o 14,o 15,o 16,o 17,o 18,o 19,o 20,o 21,o 22,o 23,_,_,_,_,_,_,_,_,_,_,_,_,_,_,_,_,_],[]⟩ W
  refine wpOp_step rfl fun _ hK => ?_
  go_simp
  exact hK _ _ ⟨rfl,rfl⟩
 ·intro o W _
  show wpOp _ _ _ 2 _ ⟨#[_,_,_,_,_,_,_,_,_,_,_,_,_,_,_,_,_,_,_,_,_,.slice (some ⟨(w.heap.size + 1),0,none⟩) 3 3,.int .i64 0,o 2,o 3,o 4,o 5,o 6,o 7,o 8,o 9,o 10,o 11,o 12,o 13,o 14,o 15,o 16,o 17,o 18,o 19,o 20,o 21,o 22,o 23,_,_,_,_,_,_,_,_,_,_,_,_,_,_,_,_,_],[]⟩ W
  refine wpOp_step rfl fun _ hK => ?_
  go_simp
  exact hK _ _ ⟨rfl,rfl⟩
 ·intro o W _
  show wpOp _ _ _ 3 _ ⟨#[_,_,_,_,_,_,_,_,_,_,_,_,_,_,_,_,_,_,_,_,_,o 0,o 1,.pointer (some ⟨(w.heap.size + 1),0,none⟩),o 3,o 4,o 5,o 6,o 7,o 8,o 9,o 10,o 11,o 12,o 13,o 14,o 15,o 16,o 17,o 18,o 19,o 20,o 21,o 22,o 23,_,_,_,_,_,_,_,_,_,_,_,_,_,_,_,_,_],[]⟩ W
  refine wpOp_step rfl fun _ hK => ?_
  go_simp
  exact hK _ _ ⟨rfl,rfl⟩
 ·intro o W hj
  have hj : KL _ _ W := hj
  obtain ⟨cL,c0,c1,c2,c3,c4,c5⟩ := bl6 (KL.blk hj (.tail _ (.head _)))
  show wpOp _ _ _ 4 _ ⟨#[_,_,_,_,_,_,_,_,_,_,_,_,_,_,_,_,_,_,_,_,_,o 0,o 1,o 2,.pointer (some ⟨(w.heap.size + 1),0,none⟩),o 4,o 5,o 6,o 7,o 8,o 9,o 10,o 11,o 12,o 13,o 14,o 15,o 16,o 17,o 18,o 19,o 20,o 21,o 22,o 23,_,_,_,_,_,_,_,_,_,_,_,_,_,_,_,_,_],[]⟩ W
  refine wpOp_step rfl fun _ hK => ?_
  go_simp
  exact hK _ _ ⟨rfl,hj⟩
 ·intro o W _
  show wpOp _ _ _ 5 _ ⟨#[_,_,_,_,_,_,_,_,_,_,_,_,_,_,_,_,_,_,_,_,_,o 0,o 1,o 2,o 3,o 4,o 5,o 6,o 7,o 8,o 9,o 10,o 11,o 12,o 13,o 14,o 15,o 16,o 17,o 18,o 19,o 20,o 21,o 22,o 23,_,_,_,_,_,_,_,_,_,_,_,_,_,_,_,_,_],[]⟩ W
  refine wpOp_step rfl fun _ hK => ?_
  go_simp
  exact hK _ _ ⟨rfl,rfl⟩
 ·intro o W _
  show wpOp _ _ _ 6 _ ⟨#[_,_,_,_,_,_,_,_,_,_,_,_,_,_,_,_,_,_,_,_,_,o 0,o 1,o 2,o 3,o 4,o 5,o 6,o 7,o 8,o 9,o 10,o 11,o 12,o 13,o 14,o 15,o 16,o 17,o 18,o 19,o 20,o 21,o 22,o 23,_,_,_,_,_,_,_,_,_,_,_,_,_,_,_,_,_],[]⟩ W
  refine wpOp_step rfl fun _ hK => ?_
  go_simp
  exact hK _ _ ⟨rfl,rfl⟩
 ·intro o W _
  show wpOp _ _ _ 7 _ ⟨#[_,_,_,_,_,_,_,_,_,_,_,_,_,_,_,_,_,_,_,_,_,o 0,o 1,o 2,o 3,o 4,.slice (some ⟨(w.heap.size + 1 + 1),0,none⟩) 3 3,.int .i64 0,o 7,o 8,o 9,o 10,o 11,o 12,o 13,o 14,o 15,o 16,o 17,o 18,o 19,o 20,o 21,o 22,o 23,_,_,_,_,_,_,_,_,_,_,_,_,_,_,_,_,_],[]⟩ W
  refine wpOp_step rfl fun _ hK => ?_
  go_simp
  exact hK _ _ ⟨rfl,rfl⟩
 ·intro o W hj
  have hj : KL _ _ W := hj
  obtain ⟨cL,c0,c1,c2⟩ := bl3 (KL.blk hj (.head _))
  show wpOp _ _ _ 8 _ ⟨#[_,_,_,_,_,_,_,_,_,_,_,_,_,_,_,_,_,_,_,_,_,o 0,o 1,o 2,o 3,o 4,o 5,o 6,.pointer (some ⟨(w.heap.size + 1 + 1),0,none⟩),o 8,o 9,o 10,o 11,o 12,o 13,o 14,o 15,o 16,o 17,o 18,o 19,o 20,o 21,o 22,o 23,_,_,_,_,_,_,_,_,_,_,_,_,_,_,_,_,_],[]⟩ W
  refine wpOp_step rfl fun _ hK => ?_
  go_simp
  exact hK _ _ ⟨rfl,hj⟩
 ·intro o W _
  show wpOp _ _ _ 9 _ ⟨#[_,_,_,_,_,_,_,_,_,_,_,_,_,_,_,_,_,_,_,_,_,o 0,o 1,o 2,o 3,.int .i64 a,o 5,o 6,o 7,.int .i64 10000,o 9,o 10,o 11,o 12,o 13,o 14,o 15,o 16,o 17,o 18,o 19,o 20,o 21,o 22,o 23,_,_,_,_,_,_,_,_,_,_,_,_,_,_,_,_,_],[]⟩ W
  refine wpOp_step rfl fun _ hK => ?_
  go_simp
  refine (hia _).mono ?_
  rintro e W1 ⟨rfl,rfl⟩
  exact hK _ _ ⟨rfl,rfl⟩
 ·intro o W _
  show wpOp _ _ _ 10 _ ⟨#[_,_,_,_,_,_,_,_,_,_,_,_,_,_,_,_,_,_,_,_,_,o 0,o 1,o 2,o 3,o 4,o 5,o 6,o 7,o 8,.bool true,o 10,o 11,o 12,o 13,o 14,o 15,o 16,o 17,o 18,o 19,o 20,o 21,o 22,o 23,_,_,_,_,_,_,_,_,_,_,_,_,_,_,_,_,_],[]⟩ W
  refine wpOp_step rfl fun _ hK => ?_
  go_simp
  exact hK _ _ ⟨rfl,rfl⟩
 ·intro o W _
  show wpOp _ _ _ 11 _ ⟨#[_,_,_,_,_,_,_,_,_,_,_,_,_,_,_,_,_,_,_,_,_,o 0,o 1,o 2,o 3,o 4,o 5,o 6,o 7,o 8,o 9,.bool false,o 11,o 12,o 13,o 14,o 15,o 16,o 17,o 18,o 19,o 20,o 21,o 22,o 23,_,_,_,_,_,_,_,_,_,_,_,_,_,_,_,_,_],[]⟩ W
  refine wpOp_step rfl fun _ hK => ?_
  go_simp
  exact hK _ _ ⟨rfl,rfl⟩
 ·intro o W _
  show wpOp _ _ _ 12 _ ⟨#[_,_,_,_,_,_,_,_,_,_,_,_,_,_,_,_,_,_,_,_,_,o 0,o 1,o 2,o 3,o 4,o 5,o 6,o 7,o 8,o 9,o 10,.bool false,o 12,o 13,o 14,o 15,o 16,o 17,o 18,o 19,o 20,o 21,o 22,o 23,_,_,_,_,_,_,_,_,_,_,_,_,_,_,_,_,_],[]⟩ W
  refine wpOp_step rfl fun _ hK => ?_
  go_simp
  exact hK _ _ ⟨rfl,rfl⟩
 ·intro o W _
  show wpOp _ _ _ 13 _ ⟨#[_,_,_,_,_,_,_,_,_,_,_,_,_,_,_,_,_,_,_,_,_,o 0,o 1,o 2,o 3,o 4,o 5,o 6,o 7,o 8,o 9,o 10,.bool false,o 12,o 13,o 14,o 15,o 16,o 17,o 18,o 19,o 20,o 21,o 22,o 23,_,_,_,_,_,_,_,_,_,_,_,_,_,_,_,_,_],[]⟩ W
  refine wpOp_step rfl fun _ hK => ?_
  go_simp
  exact hK _ _ ⟨rfl,rfl⟩
 ·intro o W _
  show wpOp _ _ _ 14 _ ⟨#[_,_,_,_,_,_,_,_,_,_,_,_,_,_,_,_,_,_,_,_,_,o 0,o 1,o 2,o 3,o 4,o 5,o 6,o 7,o 8,o 9,o 10,.bool false,.slice (some ⟨(w.heap.size + 1),0,none⟩) 3 3,.int .i64 0,o 14,o 15,o 16,o 17,o 18,o 19,o 20,o 21,o 22,o 23,_,_,_,_,_,_,_,_,_,_,_,_,_,_,_,_,_],[]⟩ W
  refine wpOp_step rfl fun _ hK => ?_
  go_simp
  exact hK _ _ ⟨rfl,rfl⟩
 ·intro o W _
  show wpOp _ _ _ 15 _ ⟨#[_,_,_,_,_,_,_,_,_,_,_,_,_,_,_,_,_,_,_,_,_,o 0,o 1,o 2,o 3,o 4,o 5,o 6,o 7,o 8,o 9,o 10,.bool false,o 12,o 13,.pointer (some ⟨(w.heap.size + 1),0,none⟩),o 15,o 16,o 17,o 18,o 19,o 20,o 21,o 22,o 23,_,_,_,_,_,_,_,_,_,_,_,_,_,_,_,_,_],[]⟩ W
  refine wpOp_step rfl fun _ hK => ?_
  go_simp
  exact hK _ _ ⟨rfl,rfl⟩
 ·intro o W hj
  have hj : KL _ _ W := hj
  obtain ⟨cL,c0,c1,c2,c3,c4,c5⟩ := bl6 (KL.blk hj (.tail _ (.head _)))
  show wpOp _ _ _ 16 _ ⟨#[_,_,_,_,_,_,_,_,_,_,_,_,_,_,_,_,_,_,_,_,_,o 0,o 1,o 2,o 3,o 4,o 5,o 6,o 7,o 8,o 9,o 10,.bool false,o 12,o 13,o 14,.pointer (some ⟨(w.heap.size + 1),1,none⟩),o 16,o 17,o 18,o 19,o 20,o 21,o 22,o 23,_,_,_,_,_,_,_,_,_,_,_,_,_,_,_,_,_],[]⟩ W
  refine wpOp_step rfl fun _ hK => ?_
  go_simp
  exact hK _ _ ⟨rfl,hj⟩
 ·intro o W _
  show wpOp _ _ _ 17 _ ⟨#[_,_,_,_,_,_,_,_,_,_,_,_,_,_,_,_,_,_,_,_,_,o 0,o 1,o 2,o 3,o 4,o 5,o 6,o 7,o 8,o 9,o 10,.bool false,o 12,o 13,o 14,o 15,o 16,o 17,o 18,o 19,o 20,o 21,o 22,o 23,_,_,_,_,_,_,_,_,_,_,_,_,_,_,_,_,_],[]⟩ W
  refine wpOp_step rfl fun _ hK => ?_
  go_simp
  exact hK _ _ ⟨rfl,rfl⟩
 ·intro o W _
  show wpOp _ _ _ 18 _ ⟨#[_,_,_,_,_,_,_,_,_,_,_,_,_,_,_,_,_,_,_,_,_,o 0,o 1,o 2,o 3,o 4,o 5,o 6,o 7,o 8,o 9,o 10,.bool false,o 12,o 13,o 14,o 15,o 16,o 17,o 18,o 19,o 20,o 21,o 22,o 23,_,_,_,_,_,_,_,_,_,_,_,_,_,_,_,_,_],[]⟩ W
  refine wpOp_step rfl fun _ hK => ?_
  go_simp
  exact hK _ _ ⟨rfl,rfl⟩
 ·intro o W _
  show wpOp _ _ _ 19 _ ⟨#[_,_,_,_,_,_,_,_,_,_,_,_,_,_,_,_,_,_,_,_,_,o 0,o 1,o 2,o 3,o 4,o 5,o 6,o 7,o 8,o 9,o 10,.bool false,o 12,o 13,o 14,o 15,o 16,.slice (some ⟨(w.heap.size + 1 + 1),0,none⟩) 3 3,.int .i64 0,o 19,o 20,o 21,o 22,o 23,_,_,_,_,_,_,_,_,_,_,_,_,_,_,_,_,_],[]⟩ W
  refine wpOp_step rfl fun _ hK => ?_
  go_simp
  exact hK _ _ ⟨rfl,rfl⟩
 ·intro o W hj
  have hj : KL _ _ W := hj
  obtain ⟨cL,c0,c1,c2⟩ := bl3 (KL.blk hj (.head _))
  show wpOp _ _ _ 20 _ ⟨#[_,_,_,_,_,_,_,_,_,_,_,_,_,_,_,_,_,_,_,_,_,o 0,o 1,o 2,o 3,o 4,o 5,o 6,o 7,o 8,o 9,o 10,.bool false,o 12,o 13,o 14,o 15,o 16,o 17,o 18,.pointer (some ⟨(w.heap.size + 1 + 1),0,none⟩),o 20,o 21,o 22,o 23,_,_,_,_,_,_,_,_,_,_,_,_,_,_,_,_,_],[]⟩ W
  refine wpOp_step rfl fun _ hK => ?_
  go_simp
  exact hK _ _ ⟨rfl,hj⟩
 ·intro o W _
  show wpOp _ _ _ 21 _ ⟨#[_,_,_,_,_,_,_,_,_,_,_,_,_,_,_,_,_,_,_,_,_,o 0,o 1,o 2,o 3,o 4,o 5,o 6,o 7,o 8,o 9,o 10,.bool false,o 12,o 13,o 14,o 15,.int .i64 b,o 17,o 18,o 19,.int .i64 10000,o 21,o 22,o 23,_,_,_,_,_,_,_,_,_,_,_,_,_,_,_,_,_],[]⟩ W
  refine wpOp_step rfl fun _ hK => ?_
  go_simp
  refine (hib _).mono ?_
  rintro e W1 ⟨rfl,rfl⟩
  exact hK _ _ ⟨rfl,rfl⟩
 ·intro o W _
  show wpOp _ _ _ 22 _ ⟨#[_,_,_,_,_,_,_,_,_,_,_,_,_,_,_,_,_,_,_,_,_,o 0,o 1,o 2,o 3,o 4,o 5,o 6,o 7,o 8,o 9,o 10,.bool false,o 12,o 13,o 14,o 15,o 16,o 17,o 18,o 19,o 20,.bool true,o 22,o 23,_,_,_,_,_,_,_,_,_,_,_,_,_,_,_,_,_],[]⟩ W
  refine wpOp_step rfl fun _ hK => ?_
  go_simp
  exact hK _ _ ⟨rfl,rfl⟩
 ·intro o W _
  show wpOp _ _ _ 23 _ ⟨#[_,_,_,_,_,_,_,_,_,_,_,_,_,_,_,_,_,_,_,_,_,o 0,o 1,o 2,o 3,o 4,o 5,o 6,o 7,o 8,o 9,o 10,.bool false,o 12,o 13,o 14,o 15,o 16,o 17,o 18,o 19,o 20,o 21,.bool false,o 23,_,_,_,_,_,_,_,_,_,_,_,_,_,_,_,_,_],[]⟩ W
  refine wpOp_step rfl fun _ hK => ?_
  go_simp
  exact hK _ _ ⟨rfl,rfl⟩
 ·intro o hh_
  have e0 : o 0 = .slice (some ⟨(w.heap.size + 1),0,none⟩) 3 3 := hh_ 0 (by decide)
  have e1 : o 1 = .int .i64 0 := hh_ 1 (by decide)
  have e2 : o 2 = .pointer (some ⟨(w.heap.size + 1),0,none⟩) := hh_ 2 (by decide)
  have e3 : o 3 = .pointer (some ⟨(w.heap.size + 1),0,none⟩) := hh_ 3 (by decide)
  have e4 : o 4 = .int .i64 a := hh_ 4 (by decide)
  have e5 : o 5 = .slice (some ⟨(w.heap.size + 1 + 1),0,none⟩) 3 3 := hh_ 5 (by decide)
  have e6 : o 6 = .int .i64 0 := hh_ 6 (by decide)
  have e7 : o 7 = .pointer (some ⟨(w.heap.size + 1 + 1),0,none⟩) := hh_ 7 (by decide)
  have e8 : o 8 = .int .i64 10000 := hh_ 8 (by decide)
  have e9 : o 9 = .bool true := hh_ 9 (by decide)
  have e10 : o 10 = .bool false := hh_ 10 (by decide)
  have e11 : o 11 = .bool false := hh_ 11 (by decide)
  have e12 : o 12 = .slice (some ⟨(w.heap.size + 1),0,none⟩) 3 3 := hh_ 12 (by decide)
  have e13 : o 13 = .int .i64 0 := hh_ 13 (by decide)
  have e14 : o 14 = .pointer (some ⟨(w.heap.size + 1),0,none⟩) := hh_ 14 (by decide)
  have e15 : o 15 = .pointer (some ⟨(w.heap.size + 1),1,none⟩) := hh_ 15 (by decide)
  have e16 : o 16 = .int .i64 b := hh_ 16 (by decide)
  have e17 : o 17 = .slice (some ⟨(w.heap.size + 1 + 1),0,none⟩) 3 3 := hh_ 17 (by decide)
  have e18 : o 18 = .int .i64 0 := hh_ 18 (by decide)
  have e19 : o 19 = .pointer (some ⟨(w.heap.size + 1 + 1),0,none⟩) := hh_ 19 (by decide)
  have e20 : o 20 = .int .i64 10000 := hh_ 20 (by decide)
  have e21 : o 21 = .bool true := hh_ 21 (by decide)
  have e22 : o 22 = .bool false := hh_ 22 (by decide)
  have e23 : o 23 = .bool false := hh_ 23 (by decide)
  rw [e0,e1,e2,e3,e4,e5,e6,e7,e8,e9,e10,e11,e12,e13,e14,e15,e16,e17,e18,e19,e20,e21,e22,e23]
 ·intro W1 h1
  have h1 : KL _ _ W1 := h1
  obtain ⟨r1_L0,r1_0_0,r1_0_1,r1_0_2⟩ := bl3 (KL.blk h1 (.head _))
  have r1_F0 := (KL.blk h1 (.head _)).frozen
  obtain ⟨r1_L1,r1_1_0,r1_1_1,r1_1_2,r1_1_3,r1_1_4,r1_1_5⟩ := bl6 (KL.blk h1 (.tail _ (.head _)))
  have r1_F1 := (KL.blk h1 (.tail _ (.head _))).frozen
  obtain ⟨r1_L2,r1_2_0,r1_2_1,r1_2_2,r1_2_3,r1_2_4,r1_2_5⟩ := bl6 (KL.blk h1 (.tail _ (.tail _ (.head _))))
  have r1_F2 := (KL.blk h1 (.tail _ (.tail _ (.head _)))).frozen
  have hjb := h1.1
  have hjz := hjb.size
  go_wp2
  rw [rounds_succ]
  go_wp2
  refine wp_region_any (by kernel_rfl) ?_
  try (change wpAny _ _ _ _ _ _ _ (World.drew _))
  refine wpAny_vals (fr := fun o => #[.agg #[a,b,c,d,p,q],.pointer (some ⟨w.heap.size,0,none⟩),.int .i64 0,.slice (some ⟨(w.heap.size + 1),0,none⟩) 3 3,.slice (some ⟨(w.heap.size + 1 + 1),0,none⟩) 3 3,.int .i64 1,undef,.pointer (some ⟨w.heap.size,0,none⟩),.agg #[a,b],.pointer (some ⟨w.heap.size,2,none⟩),.agg #[c,d],.pointer (some ⟨w.heap.size,4,none⟩),.agg #[p,q],.slice (some ⟨(w.heap.size + 1),0,none⟩) 3 3,.slice (some ⟨(w.heap.size + 1 + 1),0,none⟩) 3 3,.int .i64 1,.slice (some ⟨(w.heap.size + 1),0,none⟩) 3 3,.int .i64 3,.bool true,.int .i64 0,.int .i64 1,o 0,o 1,o 2,o 3,o 4,o 5,o 6,o 7,o 8,o 9,o 10,o 11,o 12,o 13,o 14,o 15,o 16,o 17,o 18,o 19,o 20,o 21,o 22,o 23,undef,undef,undef,undef,undef,undef,undef,undef,undef,undef,undef,undef,undef,undef,undef,undef,undef]) (vals := fun i_ => ([.slice (some ⟨(w.heap.size + 1),0,none⟩) 3 3,.int .i64 1,.pointer (some ⟨(w.heap.size + 1),2,none⟩),.pointer (some ⟨(w.heap.size + 1),2,none⟩),.int .i64 c,.slice (some ⟨(w.heap.size + 1 + 1),0,none⟩) 3 3,.int .i64 1,.pointer (some ⟨(w.heap.size + 1 + 1),1,none⟩),.int .i64 10000,.bool true,.bool false,.bool false,.slice (some ⟨(w.heap.size + 1),0,none⟩) 3 3,.int .i64 1,.pointer (some ⟨(w.heap.size + 1),2,none⟩),.pointer (some ⟨(w.heap.size + 1),3,none⟩),.int .i64 d,.slice (some ⟨(w.heap.size + 1 + 1),0,none⟩) 3 3,.int .i64 1,.pointer (some ⟨(w.heap.size + 1 + 1),1,none⟩),.int .i64 10000,.bool false,.bool true,.bool true] : List Value).getD i_ undef) (Kf := fun _ => True) (K := fun kk_ => ([(KL [((w.heap.size + 1 + 1),3,#[.int .i64 10000,.int .i64 10000,.int .i64 30000]),((w.heap.size + 1),23,#[a,b,c,d,p,q]),(w.heap.size,25,#[a,b,c,d,p,q])] w)] : List (World → Prop)).getD kk_ (fun _ => True)) (dep := fun i_ => [[],[],[0,1],[2],[3],[],[],[5,6],[7],[4,8],[9],[10],[11],[11],[11,12,13],[11,14],[11,15],[11],[11],[11,17,18],[11,19],[11,16,20],[11,21],[11,22]].getD i_ []) (dv := fun i_ => [[],[],[0,1],[2],[3],[],[],[5,6],[7],[4,8],[9],[10],[11],[11],[11,12,13],[11,14],[11,15],[11],[11],[11,17,18],[11,19],[11,16,20],[11,21],[11,22]].getD i_ []) (kd := fun i_ => [0,0,0,0,1,0,0,0,1,0,0,0,0,0,0,0,1,0,0,0,1,0,0,0].getD i_ 0) (ss := []) (l := [0,1,2,3,4,5,6,7,8,9,10,11,12,13,14,15,16,17,18,19,20,21,22,23]) (f0 := fun i_ => ([.slice (some ⟨(w.heap.size + 1),0,none⟩) 3 3,.int .i64 0,.pointer (some ⟨(w.heap.size + 1),0,none⟩),.pointer (some ⟨(w.heap.size + 1),0,none⟩),.int .i64 a,.slice (some ⟨(w.heap.size + 1 + 1),0,none⟩) 3 3,.int .i64 0,.pointer (some ⟨(w.heap.size + 1 + 1),0,none⟩),.int .i64 10000,.bool true,.bool false,.bool false,.slice (some ⟨(w.heap.size + 1),0,none⟩) 3 3,.int .i64 0,.pointer (some ⟨(w.heap.size + 1),0,none⟩),.pointer (some ⟨(w.heap.size + 1),1,none⟩),.int .i64 b,.slice (some ⟨(w.heap.size + 1 + 1),0,none⟩) 3 3,.int .i64 0,.pointer (some ⟨(w.heap.size + 1 + 1),0,none⟩),.int .i64 10000,.bool true,.bool false,.bool false] : List Value).getD i_ undef) (A := ?A5) 24 ?_ ?_ ?_ ?_ ?_ ?_ ⟨?_,?_,?_,?_,?_,?_,?_,?_,?_,?_,?_,?_,?_,?_,?_,?_,?_,?_,?_,?_,?_,?_,?_,?_,trivial⟩ ?_ ?_
  rotate_left
  ·rfl
  ·rfl
  ·decide +kernel
  ·decide +kernel
  ·exact KL.drew h1
  ·exact fun _ _ _ _ => trivial
  ·intro o W _
   show wpOp _ _ _ 0 _ ⟨#[_,_,_,_,_,_,_,_,_,_,_,_,_,_,_,_,_,_,_,_,_,o 0,o 1,o 2,o 3,o 4,o 5,o 6,o 7,o 8,o 9,o 10,o 11,o 12,o 13,o 14,o 15,o 16,o 17,o 18,o 19,o 20,o 21,o 22,o 23,_,_,_,_,_,_,_,_,_,_,_,_,_,_,_,_,_],[]⟩ W
   refine wpOp_step rfl fun _ hK => ?_
   go_simp
   exact hK _ _ ⟨rfl,rfl⟩
  ·intro o W _
   show wpOp _ _ _ 1 _ ⟨#[_,_,_,_,_,_,_,_,_,_,_,_,_,_,_,_,_,_,_,_,_,o 0,o 1,o 2,o 3,o 4,o 5,o 6,o 7,o 8,o 9,o 10,o 11,o 12,o 13,o 14,o 15,o 16,o 17,o 18,o 19,o 20,o 21,o 22,o 23,_,_,_,_,_,_,_,_,_,_,_,_,_,_,_,_,_],[]⟩ W
   refine wpOp_step rfl fun _ hK => ?_
   go_simp
   exact hK _ _ ⟨rfl,rfl⟩
  ·intro o W _
   show wpOp _ _ _ 2 _ ⟨#[_,_,_,_,_,_,_,_,_,_,_,_,_,_,_,_,_,_,_,_,_,.slice (some ⟨(w.heap.size + 1),0,none⟩) 3 3,.int .i64 1,o 2,o 3,o 4,o 5,o 6,o 7,o 8,o 9,o 10,o 11,o 12,o 13,o 14,o 15,o 16,o 17,o 18,o 19,o 20,o 21,o 22,o 23,_,_,_,_,_,_,_,_,_,_,_,_,_,_,_,_,_],[]⟩ W
   refine wpOp_step rfl fun _ hK => ?_
   go_simp
   exact hK _ _ ⟨rfl,rfl⟩
  ·intro o W _
   show wpOp _ _ _ 3 _ ⟨#[_,_,_,_,_,_,_,_,_,_,_,_,_,_,_,_,_,_,_,_,_,o 0,o 1,.pointer (some ⟨(w.heap.size + 1),2,none⟩),o 3,o 4,o 5,o 6,o 7,o 8,o 9,o 10,o 11,o 12,o 13,o 14,o 15,o 16,o 17,o 18,o 19,o 20,o 21,o 22,o 23,_,_,_,_,_,_,_,_,_,_,_,_,_,_,_,_,_],[]⟩ W
   refine wpOp_step rfl fun _ hK => ?_
   go_simp
   exact hK _ _ ⟨rfl,rfl⟩
  ·intro o W hj
   have hj : KL _ _ W := hj
   obtain ⟨cL,c0,c1,c2,c3,c4,c5⟩ := bl6 (KL.blk hj (.tail _ (.head _)))
   show wpOp _ _ _ 4 _ ⟨#[_,_,_,_,_,_,_,_,_,_,_,_,_,_,_,_,_,_,_,_,_,o 0,o 1,o 2,.pointer (some ⟨(w.heap.size + 1),2,none⟩),o 4,o 5,o 6,o 7,o 8,o 9,o 10,o 11,o 12,o 13,o 14,o 15,o 16,o 17,o 18,o 19,o 20,o 21,o 22,o 23,_,_,_,_,_,_,_,_,_,_,_,_,_,_,_,_,_],[]⟩ W
   refine wpOp_step rfl fun _ hK => ?_
   go_simp
   exact hK _ _ ⟨rfl,hj⟩
  ·intro o W _
   show wpOp _ _ _ 5 _ ⟨#[_,_,_,_,_,_,_,_,_,_,_,_,_,_,_,_,_,_,_,_,_,o 0,o 1,o 2,o 3,o 4,o 5,o 6,o 7,o 8,o 9,o 10,o 11,o 12,o 13,o 14,o 15,o 16,o 17,o 18,o 19,o 20,o 21,o 22,o 23,_,_,_,_,_,_,_,_,_,_,_,_,_,_,_,_,_],[]⟩ W
   refine wpOp_step rfl fun _ hK => ?_
   go_simp
   exact hK _ _ ⟨rfl,rfl⟩
  ·intro o W _
   show wpOp _ _ _ 6 _ ⟨#[_,_,_,_,_,_,_,_,_,_,_,_,_,_,_,_,_,_,_,_,_,o 0,o 1,o 2,o 3,o 4,o 5,o 6,o 7,o 8,o 9,o 10,o 11,o 12,o 13,o 14,o 15,o 16,o 17,o 18,o 19,o 20,o 21,o 22,o 23,_,_,_,_,_,_,_,_,_,_,_,_,_,_,_,_,_],[]⟩ W
   refine wpOp_step rfl fun _ hK => ?_
   go_simp
   exact hK _ _ ⟨rfl,rfl⟩
  ·intro o W _
   show wpOp _ _ _ 7 _ ⟨#[_,_,_,_,_,_,_,_,_,_,_,_,_,_,_,_,_,_,_,_,_,o 0,o 1,o 2,o 3,o 4,.slice (some ⟨(w.heap.size + 1 + 1),0,none⟩) 3 3,.int .i64 1,o 7,o 8,o 9,o 10,o 11,o 12,o 13,o 14,o 15,o 16,o 17,o 18,o 19,o 20,o 21,o 22,o 23,_,_,_,_,_,_,_,_,_,_,_,_,_,_,_,_,_],[]⟩ W
   refine wpOp_step rfl fun _ hK => ?_
   go_simp
   exact hK _ _ ⟨rfl,rfl⟩
  ·intro o W hj
   have hj : KL _ _ W := hj
   obtain ⟨cL,c0,c1,c2⟩ := bl3 (KL.blk hj (.head _))
   show wpOp _ _ _ 8 _ ⟨#[_,_,_,_,_,_,_,_,_,_,_,_,_,_,_,_,_,_,_,_,_,o 0,o 1,o 2,o 3,o 4,o 5,o 6,.pointer (some ⟨(w.heap.size + 1 + 1),1,none⟩),o 8,o 9,o 10,o 11,o 12,o 13,o 14,o 15,o 16,o 17,o 18,o 19,o 20,o 21,o 22,o 23,_,_,_,_,_,_,_,_,_,_,_,_,_,_,_,_,_],[]⟩ W
   refine wpOp_step rfl fun _ hK => ?_
   go_simp
   exact hK _ _ ⟨rfl,hj⟩
  ·intro o W _
   show wpOp _ _ _ 9 _ ⟨#[_,_,_,_,_,_,_,_,_,_,_,_,_,_,_,_,_,_,_,_,_,o 0,o 1,o 2,o 3,.int .i64 c,o 5,o 6,o 7,.int .i64 10000,o 9,o 10,o 11,o 12,o 13,o 14,o 15,o 16,o 17,o 18,o 19,o 20,o 21,o 22,o 23,_,_,_,_,_,_,_,_,_,_,_,_,_,_,_,_,_],[]⟩ W
   refine wpOp_step rfl fun _ hK => ?_
   go_simp
   refine (hic _).mono ?_
   rintro e W1 ⟨rfl,rfl⟩
   exact hK _ _ ⟨rfl,rfl⟩
  ·intro o W _
   show wpOp _ _ _ 10 _ ⟨#[_,_,_,_,_,_,_,_,_,_,_,_,_,_,_,_,_,_,_,_,_,o 0,o 1,o 2,o 3,o 4,o 5,o 6,o 7,o 8,.bool true,o 10,o 11,o 12,o 13,o 14,o 15,o 16,o 17,o 18,o 19,o 20,o 21,o 22,o 23,_,_,_,_,_,_,_,_,_,_,_,_,_,_,_,_,_],[]⟩ W
   refine wpOp_step rfl fun _ hK => ?_
   go_simp
   exact hK _ _ ⟨rfl,rfl⟩
  ·intro o W _
   show wpOp _ _ _ 11 _ ⟨#[_,_,_,_,_,_,_,_,_,_,_,_,_,_,_,_,_,_,_,_,_,o 0,o 1,o 2,o 3,o 4,o 5,o 6,o 7,o 8,o 9,.bool false,o 11,o 12,o 13,o 14,o 15,o 16,o 17,o 18,o 19,o 20,o 21,o 22,o 23,_,_,_,_,_,_,_,_,_,_,_,_,_,_,_,_,_],[]⟩ W
   refine wpOp_step rfl fun _ hK => ?_
   go_simp
   exact hK _ _ ⟨rfl,rfl⟩
  ·intro o W _
   show wpOp _ _ _ 12 _ ⟨#[_,_,_,_,_,_,_,_,_,_,_,_,_,_,_,_,_,_,_,_,_,o 0,o 1,o 2,o 3,o 4,o 5,o 6,o 7,o 8,o 9,o 10,.bool false,o 12,o 13,o 14,o 15,o 16,o 17,o 18,o 19,o 20,o 21,o 22,o 23,_,_,_,_,_,_,_,_,_,_,_,_,_,_,_,_,_],[]⟩ W
   refine wpOp_step rfl fun _ hK => ?_
   go_simp
   exact hK _ _ ⟨rfl,rfl⟩
  ·intro o W _
   show wpOp _ _ _ 13 _ ⟨#[_,_,_,_,_,_,_,_,_,_,_,_,_,_,_,_,_,_,_,_,_,o 0,o 1,o 2,o 3,o 4,o 5,o 6,o 7,o 8,o 9,o 10,.bool false,o 12,o 13,o 14,o 15,o 16,o 17,o 18,o 19,o 20,o 21,o 22,o 23,_,_,_,_,_,_,_,_,_,_,_,_,_,_,_,_,_],[]⟩ W
   refine wpOp_step rfl fun _ hK => ?_
   go_simp
   exact hK _ _ ⟨rfl,rfl⟩
  ·intro o W _
   show wpOp _ _ _ 14 _ ⟨#[_,_,_,_,_,_,_,_,_,_,_,_,_,_,_,_,_,_,_,_,_,o 0,o 1,o 2,o 3,o 4,o 5,o 6,o 7,o 8,o 9,o 10,.bool false,.slice (some ⟨(w.heap.size + 1),0,none⟩) 3 3,.int .i64 1,o 14,o 15,o 16,o 17,o 18,o 19,o 20,o 21,o 22,o 23,_,_,_,_,_,_,_,_,_,_,_,_,_,_,_,_,_],[]⟩ W
   refine wpOp_step rfl fun _ hK => ?_
   go_simp
   exact hK _ _ ⟨rfl,rfl⟩
  ·intro o W _
   show wpOp _ _ _ 15 _ ⟨#[_,_,_,_,_,_,_,_,_,_,_,_,_,_,_,_,_,_,_,_,_,o 0,o 1,o 2,o 3,o 4,o 5,o 6,o 7,o 8,o 9,o 10,.bool false,o 12,o 13,.pointer (some ⟨(w.heap.size + 1),2,none⟩),o 15,o 16,o 17,o 18,o 19,o 20,o 21,o 22,o 23,_,_,_,_,_,_,_,_,_,_,_,_,_,_,_,_,_],[]⟩ W
   refine wpOp_step rfl fun _ hK => ?_
   go_simp
   exact hK _ _ ⟨rfl,rfl⟩
  ·intro o W hj
   have hj : KL _ _ W := hj
   obtain ⟨cL,c0,c1,c2,c3,c4,c5⟩ := bl6 (KL.blk hj (.tail _ (.head _)))
   show wpOp _ _ _ 16 _ ⟨#[_,_,_,_,_,_,_,_,_,_,_,_,_,_,_,_,_,_,_,_,_,o 0,o 1,o 2,o 3,o 4,o 5,o 6,o 7,o 8,o 9,o 10,.bool false,o 12,o 13,o 14,.pointer (some ⟨(w.heap.size + 1),3,none⟩),o 16,o 17,o 18,o 19,o 20,o 21,o 22,o 23,_,_,_,_,_,_,_,_,_,_,_,_,_,_,_,_,_],[]⟩ W
   refine wpOp_step rfl fun _ hK => ?_
   go_simp
   exact hK _ _ ⟨rfl,hj⟩
  ·intro o W _
   show wpOp _ _ _ 17 _ ⟨#[_,_,_,_,_,_,_,_,_,_,_,_,_,_,_,_,_,_,_,_,_,o 0,o 1,o 2,o 3,o 4,o 5,o 6,o 7,o 8,o 9,o 10,.bool false,o 12,o 13,o 14,o 15,o 16,o 17,o 18,o 19,o 20,o 21,o 22,o 23,_,_,_,_,_,_,_,_,_,_,_,_,_,_,_,_,_],[]⟩ W
   refine wpOp_step rfl fun _ hK => ?_
   go_simp
   exact hK _ _ ⟨rfl,rfl⟩
  ·intro o W _
   show wpOp _ _ _ 18 _ ⟨#[_,_,_,_,_,_,_,_,_,_,_,_,_,_,_,_,_,_,_,_,_,o 0,o 1,o 2,o 3,o 4,o 5,o 6,o 7,o 8,o 9,o 10,.bool false,o 12,o 13,o 14,o 15,o 16,o 17,o 18,o 19,o 20,o 21,o 22,o 23,_,_,_,_,_,_,_,_,_,_,_,_,_,_,_,_,_],[]⟩ W
   refine wpOp_step rfl fun _ hK => ?_
   go_simp
   exact hK _ _ ⟨rfl,rfl⟩
  ·intro o W _
   show wpOp _ _ _ 19 _ ⟨#[_,_,_,_,_,_,_,_,_,_,_,_,_,_,_,_,_,_,_,_,_,o 0,o 1,o 2,o 3,o 4,o 5,o 6,o 7,o 8,o 9,o 10,.bool false,o 12,o 13,o 14,o 15,o 16,.slice (some ⟨(w.heap.size + 1 + 1),0,none⟩) 3 3,.int .i64 1,o 19,o 20,o 21,o 22,o 23,_,_,_,_,_,_,_,_,_,_,_,_,_,_,_,_,_],[]⟩ W
   refine wpOp_step rfl fun _ hK => ?_
   go_simp
   exact hK _ _ ⟨rfl,rfl⟩
  ·intro o W hj
   have hj : KL _ _ W := hj
   obtain ⟨cL,c0,c1,c2⟩ := bl3 (KL.blk hj (.head _))
   show wpOp _ _ _ 20 _ ⟨#[_,_,_,_,_,_,_,_,_,_,_,_,_,_,_,_,_,_,_,_,_,o 0,o 1,o 2,o 3,o 4,o 5,o 6,o 7,o 8,o 9,o 10,.bool false,o 12,o 13,o 14,o 15,o 16,o 17,o 18,.pointer (some ⟨(w.heap.size + 1 + 1),1,none⟩),o 20,o 21,o 22,o 23,_,_,_,_,_,_,_,_,_,_,_,_,_,_,_,_,_],[]⟩ W
   refine wpOp_step rfl fun _ hK => ?_
   go_simp
   exact hK _ _ ⟨rfl,hj⟩
  ·intro o W _
   show wpOp _ _ _ 21 _ ⟨#[_,_,_,_,_,_,_,_,_,_,_,_,_,_,_,_,_,_,_,_,_,o 0,o 1,o 2,o 3,o 4,o 5,o 6,o 7,o 8,o 9,o 10,.bool false,o 12,o 13,o 14,o 15,.int .i64 d,o 17,o 18,o 19,.int .i64 10000,o 21,o 22,o 23,_,_,_,_,_,_,_,_,_,_,_,_,_,_,_,_,_],[]⟩ W
   refine wpOp_step rfl fun _ hK => ?_
   go_simp
   refine (hid _).mono ?_
   rintro e W1 ⟨rfl,rfl⟩
   exact hK _ _ ⟨rfl,rfl⟩
  ·intro o W _
   show wpOp _ _ _ 22 _ ⟨#[_,_,_,_,_,_,_,_,_,_,_,_,_,_,_,_,_,_,_,_,_,o 0,o 1,o 2,o 3,o 4,o 5,o 6,o 7,o 8,o 9,o 10,.bool false,o 12,o 13,o 14,o 15,o 16,o 17,o 18,o 19,o 20,.bool false,o 22,o 23,_,_,_,_,_,_,_,_,_,_,_,_,_,_,_,_,_],[]⟩ W
   refine wpOp_step rfl fun _ hK => ?_
   go_simp
   exact hK _ _ ⟨rfl,rfl⟩
  ·intro o W _
   show wpOp _ _ _ 23 _ ⟨#[_,_,_,_,_,_,_,_,_,_,_,_,_,_,_,_,_,_,_,_,_,o 0,o 1,o 2,o 3,o 4,o 5,o 6,o 7,o 8,o 9,o 10,.bool false,o 12,o 13,o 14,o 15,o 16,o 17,o 18,o 19,o 20,o 21,.bool true,o 23,_,_,_,_,_,_,_,_,_,_,_,_,_,_,_,_,_],[]⟩ W
   refine wpOp_step rfl fun _ hK => ?_
   go_simp
   exact hK _ _ ⟨rfl,rfl⟩
  ·intro o hh_
   have e0 : o 0 = .slice (some ⟨(w.heap.size + 1),0,none⟩) 3 3 := hh_ 0 (by decide)
   have e1 : o 1 = .int .i64 1 := hh_ 1 (by decide)
   have e2 : o 2 = .pointer (some ⟨(w.heap.size + 1),2,none⟩) := hh_ 2 (by decide)
   have e3 : o 3 = .pointer (some ⟨(w.heap.size + 1),2,none⟩) := hh_ 3 (by decide)
   have e4 : o 4 = .int .i64 c := hh_ 4 (by decide)
   have e5 : o 5 = .slice (some ⟨(w.heap.size + 1 + 1),0,none⟩) 3 3 := hh_ 5 (by decide)
   have e6 : o 6 = .int .i64 1 := hh_ 6 (by decide)
   have e7 : o 7 = .pointer (some ⟨(w.heap.size + 1 + 1),1,none⟩) := hh_ 7 (by decide)
   have e8 : o 8 = .int .i64 10000 := hh_ 8 (by decide)
   have e9 : o 9 = .bool true := hh_ 9 (by decide)
   have e10 : o 10 = .bool false := hh_ 10 (by decide)
   have e11 : o 11 = .bool false := hh_ 11 (by decide)
   have e12 : o 12 = .slice (some ⟨(w.heap.size + 1),0,none⟩) 3 3 := hh_ 12 (by decide)
   have e13 : o 13 = .int .i64 1 := hh_ 13 (by decide)
   have e14 : o 14 = .pointer (some ⟨(w.heap.size + 1),2,none⟩) := hh_ 14 (by decide)
   have e15 : o 15 = .pointer (some ⟨(w.heap.size + 1),3,none⟩) := hh_ 15 (by decide)
   have e16 : o 16 = .int .i64 d := hh_ 16 (by decide)
   have e17 : o 17 = .slice (some ⟨(w.heap.size + 1 + 1),0,none⟩) 3 3 := hh_ 17 (by decide)
   have e18 : o 18 = .int .i64 1 := hh_ 18 (by decide)
   have e19 : o 19 = .pointer (some ⟨(w.heap.size + 1 + 1),1,none⟩) := hh_ 19 (by decide)
   have e20 : o 20 = .int .i64 10000 := hh_ 20 (by decide)
   have e21 : o 21 = .bool false := hh_ 21 (by decide)
   have e22 : o 22 = .bool true := hh_ 22 (by decide)
   have e23 : o 23 = .bool true := hh_ 23 (by decide)
   rw [e0,e1,e2,e3,e4,e5,e6,e7,e8,e9,e10,e11,e12,e13,e14,e15,e16,e17,e18,e19,e20,e21,e22,e23]
  ·intro W2 h2
   have h2 : KL _ _ W2 := h2
   obtain ⟨r2_L0,r2_0_0,r2_0_1,r2_0_2⟩ := bl3 (KL.blk h2 (.head _))
   have r2_F0 := (KL.blk h2 (.head _)).frozen
   obtain ⟨r2_L1,r2_1_0,r2_1_1,r2_1_2,r2_1_3,r2_1_4,r2_1_5⟩ := bl6 (KL.blk h2 (.tail _ (.head _)))
   have r2_F1 := (KL.blk h2 (.tail _ (.head _))).frozen
   obtain ⟨r2_L2,r2_2_0,r2_2_1,r2_2_2,r2_2_3,r2_2_4,r2_2_5⟩ := bl6 (KL.blk h2 (.tail _ (.tail _ (.head _))))
   have r2_F2 := (KL.blk h2 (.tail _ (.tail _ (.head _)))).frozen
   have hjb := h2.1
   have hjz := hjb.size
   go_wp2
   go_ret
   exact ⟨rfl,((show KL [((w.heap.size + 1 + 1),3,#[.int .i64 10000,.int .i64 10000,.int .i64 30000]),((w.heap.size + 1),23,#[a,b,c,d,p,q]),(w.heap.size,25,#[a,b,c,d,p,q])] w _ from h2)).1⟩
end Go.Proofs.Ytoenojnfhiimpaa
