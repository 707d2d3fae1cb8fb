/- KerfJoins: for all boxes and axes Join returns the specified box and cut,or the error. No condition. -/
import Derived.Test.YtogmgaaejepcbaaCor
import Derived.Test.YtogmgaaejepcbaaAwk
import Derived.Test.YtogmgaaejepcbaaEqc
import Derived.Test.YtogmgaaejepcbaaJnx
import Derived.Test.YtogmgaaejepcbaaReg
import Derived.Test.YtogmgaaejepcbaaLfk
import Derived.Test.YtogmgaaejepcbaaJoi0ne
import Derived.Test.YtogmgaaejepcbaaJoi0kf
import Derived.Test.YtogmgaaejepcbaaJoi0ok
import Derived.Test.YtogmgaaejepcbaaJoi1ne
import Derived.Test.YtogmgaaejepcbaaJoi1kf
import Derived.Test.YtogmgaaejepcbaaJoi1ok
import Derived.Test.YtogmgaaejepcbaaJoi2ne
import Derived.Test.YtogmgaaejepcbaaJoi2kf
import Derived.Test.YtogmgaaejepcbaaJoi2ok
namespace Go.Proofs.Ytogmgaaejepcbaa
open Go.ChangeShapes Go.WideShapes Go.ChangeAt Go.RowKit Go.Deep

set_option maxHeartbeats 16000000 in
set_option maxRecDepth 100000 in
theorem jlaw (x y z p q r a b c d s u k r0 r1 r2 r3 r4 r5 c0 c1 c2 f_ : Int) (hJ : (∀ w,Calls Try.prog 20 #[.agg #[x,y,z,p,q,r],.agg #[a,b,c,d,s,u],.int .i64 k] w fun e w' => e = .returned (.tuple #[.agg #[r0,r1,r2,r3,r4,r5],.agg #[c0,c1,c2],.int .i64 f_]) ∧ Below w.heap.size w w')) (hR : (∀ w,Calls Try.prog 21 #[.agg #[x,y,z,p,q,r],.agg #[a,b,c,d,s,u],.int .i64 k] w fun e w' => e = .returned (.tuple #[.agg #[r0,r1,r2,r3,r4,r5],.agg #[c0,c1,c2],.int .i64 f_]) ∧ Below w.heap.size w w')) (w : World) : Calls Try.prog 4 #[.agg #[x,y,z,p,q,r],.agg #[a,b,c,d,s,u],.int .i64 k] w fun e w' => e = .returned (.bool true) ∧ Below w.heap.size w w' := by
 have hA := awake_any
 have q1 : ∀ w,Sem.run Try.prog (binOp .eql 25 (.agg #[r0,r1,r2,r3,r4,r5]) (.agg #[r0,r1,r2,r3,r4,r5])) w = .ok (.bool true) w := fun w => by rw [eqB]; simp
 have q2 : ∀ w,Sem.run Try.prog (binOp .eql 33 (.agg #[c0,c1,c2]) (.agg #[c0,c1,c2])) w = .ok (.bool true) w := fun w => by rw [eqC]; simp
 go_enter Try.func4,Try.ntmps4
 go_wp2_with (first | (go_at_call 12; refine (hA _).mono ?_; rintro e w1 ⟨rfl,hb1⟩; obtain ⟨hc1,hf1⟩ := bcell hb1; have hz1 := hb1.size; (try simp at hz1); (try have y10 : w.heap.size < w1.heap.size := (by omega)); (try have y10p : w.heap.size < w1.heap.size + 1 := (by omega)); (try have y11 : w.heap.size + 1 < w1.heap.size := (by omega)); (try have y11p : w.heap.size + 1 < w1.heap.size + 1 := (by omega)); (try have y12 : w.heap.size + 1 + 1 < w1.heap.size := (by omega)); (try have y12p : w.heap.size + 1 + 1 < w1.heap.size + 1 := (by omega)); (try have y13 : w.heap.size + 1 + 1 + 1 < w1.heap.size := (by omega)); (try have y13p : w.heap.size + 1 + 1 + 1 < w1.heap.size + 1 := (by omega)); (try have y14 : w.heap.size + 1 + 1 + 1 + 1 < w1.heap.size := (by omega)); (try have y14p : w.heap.size + 1 + 1 + 1 + 1 < w1.heap.size + 1 := (by omega)); (try have v0x1 : w0.heap.size < w1.heap.size := (by omega)); (try have v0x1p : w0.heap.size < w1.heap.size + 1 := (by omega))) | (go_at_call 20; refine (hJ _).mono ?_; rintro e w2 ⟨rfl,hb2⟩; obtain ⟨hc2,hf2⟩ := bcell hb2; have hz2 := hb2.size; (try simp at hz2); (try have y20 : w.heap.size < w2.heap.size := (by omega)); (try have y20p : w.heap.size < w2.heap.size + 1 := (by omega)); (try have y21 : w.heap.size + 1 < w2.heap.size := (by omega)); (try have y21p : w.heap.size + 1 < w2.heap.size + 1 := (by omega)); (try have y22 : w.heap.size + 1 + 1 < w2.heap.size := (by omega)); (try have y22p : w.heap.size + 1 + 1 < w2.heap.size + 1 := (by omega)); (try have y23 : w.heap.size + 1 + 1 + 1 < w2.heap.size := (by omega)); (try have y23p : w.heap.size + 1 + 1 + 1 < w2.heap.size + 1 := (by omega)); (try have y24 : w.heap.size + 1 + 1 + 1 + 1 < w2.heap.size := (by omega)); (try have y24p : w.heap.size + 1 + 1 + 1 + 1 < w2.heap.size + 1 := (by omega)); (try have v0x2 : w0.heap.size < w2.heap.size := (by omega)); (try have v0x2p : w0.heap.size < w2.heap.size + 1 := (by omega)); (try have v1x2 : w1.heap.size < w2.heap.size := (by omega)); (try have v1x2p : w1.heap.size < w2.heap.size + 1 := (by omega))) | (go_at_call 21; refine (hR _).mono ?_; rintro e w3 ⟨rfl,hb3⟩; obtain ⟨hc3,hf3⟩ := bcell hb3; have hz3 := hb3.size; (try simp at hz3); (try have y30 : w.heap.size < w3.heap.size := (by omega)); (try have y30p : w.heap.size < w3.heap.size + 1 := (by omega)); (try have y31 : w.heap.size + 1 < w3.heap.size := (by omega)); (try have y31p : w.heap.size + 1 < w3.heap.size + 1 := (by omega)); (try have y32 : w.heap.size + 1 + 1 < w3.heap.size := (by omega)); (try have y32p : w.heap.size + 1 + 1 < w3.heap.size + 1 := (by omega)); (try have y33 : w.heap.size + 1 + 1 + 1 < w3.heap.size := (by omega)); (try have y33p : w.heap.size + 1 + 1 + 1 < w3.heap.size + 1 := (by omega)); (try have y34 : w.heap.size + 1 + 1 + 1 + 1 < w3.heap.size := (by omega)); (try have y34p : w.heap.size + 1 + 1 + 1 + 1 < w3.heap.size + 1 := (by omega)); (try have v0x3 : w0.heap.size < w3.heap.size := (by omega)); (try have v0x3p : w0.heap.size < w3.heap.size + 1 := (by omega)); (try have v1x3 : w1.heap.size < w3.heap.size := (by omega)); (try have v1x3p : w1.heap.size < w3.heap.size + 1 := (by omega)); (try have v2x3 : w2.heap.size < w3.heap.size := (by omega)); (try have v2x3p : w2.heap.size < w3.heap.size + 1 := (by omega)); have m0_0 : w2.heap.size < w3.heap.size := (by omega); have m0_1 : w2.heap.size < w3.heap.size + 1 := (by omega); have m0_2 : w2.heap.size < w3.heap.size + 1 + 1 := (by omega); have m1_0 : (w2.heap.size + 1) < w3.heap.size := (by omega); have m1_1 : (w2.heap.size + 1) < w3.heap.size + 1 := (by omega); have m1_2 : (w2.heap.size + 1) < w3.heap.size + 1 + 1 := (by omega)))
 refine wp_region_any (by kernel_rfl) ?_
 try (change wpAny _ _ _ _ _ _ _ (World.drew _))
 refine wpAny_vals (fr := fun o => #[.agg #[x,y,z,p,q,r],.agg #[a,b,c,d,s,u],.int .i64 k,.pointer (some ⟨w.heap.size,0,none⟩),.pointer (some ⟨(w.heap.size + 1),0,none⟩),undef,o 14,.pointer (some ⟨w2.heap.size,0,none⟩),.pointer (some ⟨(w2.heap.size + 1),0,none⟩),.int .i64 f_,.pointer (some ⟨w3.heap.size,0,none⟩),.pointer (some ⟨(w3.heap.size + 1),0,none⟩),.int .i64 f_,.bool true,.bool false,.tuple #[.agg #[r0,r1,r2,r3,r4,r5],.agg #[c0,c1,c2],.int .i64 f_],.agg #[x,y,z,p,q,r],.agg #[a,b,c,d,s,u],.int .i64 k,.tuple #[.agg #[r0,r1,r2,r3,r4,r5],.agg #[c0,c1,c2],.int .i64 f_],.agg #[r0,r1,r2,r3,r4,r5],.agg #[c0,c1,c2],.int .i64 f_,.tuple #[.agg #[r0,r1,r2,r3,r4,r5],.agg #[c0,c1,c2],.int .i64 f_],.agg #[x,y,z,p,q,r],.agg #[a,b,c,d,s,u],.int .i64 k,.tuple #[.agg #[r0,r1,r2,r3,r4,r5],.agg #[c0,c1,c2],.int .i64 f_],.agg #[r0,r1,r2,r3,r4,r5],.agg #[c0,c1,c2],.int .i64 f_,o 0,o 1,o 2,o 3,o 4,o 5,o 6,o 7,o 8,o 9,o 10,o 11,o 12,o 13]) (vals := fun i_ => ([.agg #[r0,r1,r2,r3,r4,r5],.agg #[r0,r1,r2,r3,r4,r5],.bool true,.bool true,.agg #[c0,c1,c2],.agg #[c0,c1,c2],.agg #[c0,c1,c2],.bool true,.bool true,.bool true,.int .i64 f_,.int .i64 f_,.bool true,.bool true,.bool true] : List Value).getD i_ undef) (Kf := fun _ => True) (K := fun kk_ => ([(KL [((w3.heap.size + 1),27,#[c0,c1,c2]),(w3.heap.size,25,#[r0,r1,r2,r3,r4,r5]),((w2.heap.size + 1),33,#[c0,c1,c2]),(w2.heap.size,25,#[r0,r1,r2,r3,r4,r5]),((w.heap.size + 1),25,#[a,b,c,d,s,u]),(w.heap.size,25,#[x,y,z,p,q,r])] w)] : List (World → Prop)).getD kk_ (fun _ => True)) (dep := fun i_ => [[],[],[0,1],[2],[3],[3],[3,5],[3,4,6],[3,7],[8],[9],[9],[9,10,11],[9,12],[13]].getD i_ []) (dv := fun i_ => [[],[],[0,1],[2],[3],[3],[3,5],[3,4,6],[3,7],[8],[9],[9],[9,10,11],[9,12],[13]].getD i_ []) (kd := fun i_ => [1,1,0,0,1,1,1,0,0,0,0,0,0,0,0].getD i_ 0) (ss := []) (l := [0,1,2,3,4,5,6,7,8,9,10,11,12,13,14]) (f0 := fun i_ => ([undef,undef,undef,undef,undef,undef,undef,undef,undef,undef,undef,undef,undef,undef,.bool false] : List Value).getD i_ undef) (A := ?A1) 15 rfl rfl (by decide +kernel) (by decide +kernel) ?_ ?_ ⟨?_,?_,?_,?_,?_,?_,?_,?_,?_,?_,?_,?_,?_,?_,?_,trivial⟩ ?_ ?_
 rotate_left
 ·exact KL.drew (KL.new (g := (w3.heap.size + 1)) (KL.new (g := w3.heap.size) (KL.over (KL.new (g := (w2.heap.size + 1)) (KL.new (g := w2.heap.size) (KL.over (KL.over (KL.new (g := (w.heap.size + 1)) (KL.new (g := w.heap.size) (KL.nil w) rfl _ _) (by simp) _ _) hb1) hb2) (by simp) _ _) (by simp) _ _) hb3) (by simp) _ _) (by simp) _ _)
 ·exact fun _ _ _ _ => trivial
 ·intro o W hj
  have hj : KL _ _ W := hj
  obtain ⟨cL,c0,c1,c2,c3,c4,c5⟩ := bl6 (KL.blk hj (.tail _ (.tail _ (.tail _ (.head _)))))
  show wpOp _ _ _ 0 _ ⟨#[_,_,_,_,_,_,o 14,_,_,_,_,_,_,_,_,_,_,_,_,_,_,_,_,_,_,_,_,_,_,_,_,o 0,o 1,o 2,o 3,o 4,o 5,o 6,o 7,o 8,o 9,o 10,o 11,o 12,o 13],[]⟩ W
  refine wpOp_step rfl fun _ hK => ?_
  go_simp
  exact hK _ _ ⟨rfl,hj⟩
 ·intro o W hj
  have hj : KL _ _ W := hj
  obtain ⟨cL,c0,c1,c2,c3,c4,c5⟩ := bl6 (KL.blk hj (.tail _ (.head _)))
  show wpOp _ _ _ 1 _ ⟨#[_,_,_,_,_,_,o 14,_,_,_,_,_,_,_,_,_,_,_,_,_,_,_,_,_,_,_,_,_,_,_,_,o 0,o 1,o 2,o 3,o 4,o 5,o 6,o 7,o 8,o 9,o 10,o 11,o 12,o 13],[]⟩ W
  refine wpOp_step rfl fun _ hK => ?_
  go_simp
  exact hK _ _ ⟨rfl,hj⟩
 ·intro o W _
  show wpOp _ _ _ 2 _ ⟨#[_,_,_,_,_,_,o 14,_,_,_,_,_,_,_,_,_,_,_,_,_,_,_,_,_,_,_,_,_,_,_,_,.agg #[r0,r1,r2,r3,r4,r5],.agg #[r0,r1,r2,r3,r4,r5],o 2,o 3,o 4,o 5,o 6,o 7,o 8,o 9,o 10,o 11,o 12,o 13],[]⟩ W
  refine wpOp_step rfl fun _ hK => ?_
  go_simp
  exact hK _ _ ⟨rfl,rfl⟩
 ·intro o W _
  show wpOp _ _ _ 3 _ ⟨#[_,_,_,_,_,_,o 14,_,_,_,_,_,_,_,_,_,_,_,_,_,_,_,_,_,_,_,_,_,_,_,_,o 0,o 1,.bool true,o 3,o 4,o 5,o 6,o 7,o 8,o 9,o 10,o 11,o 12,o 13],[]⟩ W
  refine wpOp_step rfl fun _ hK => ?_
  go_simp
  exact hK _ _ ⟨rfl,rfl⟩
 ·intro o W hj
  have hj : KL _ _ W := hj
  obtain ⟨cL,c0,c1,c2⟩ := bl3 (KL.blk hj (.tail _ (.tail _ (.head _))))
  show wpOp _ _ _ 4 _ ⟨#[_,_,_,_,_,_,o 14,_,_,_,_,_,_,_,_,_,_,_,_,_,_,_,_,_,_,_,_,_,_,_,_,o 0,o 1,o 2,.bool true,o 4,o 5,o 6,o 7,o 8,o 9,o 10,o 11,o 12,o 13],[]⟩ W
  refine wpOp_step rfl fun _ hK => ?_
  go_simp
  exact hK _ _ ⟨rfl,hj⟩
 ·intro o W hj
  have hj : KL _ _ W := hj
  obtain ⟨cL,c0,c1,c2⟩ := bl3 (KL.blk hj (.head _))
  show wpOp _ _ _ 5 _ ⟨#[_,_,_,_,_,_,o 14,_,_,_,_,_,_,_,_,_,_,_,_,_,_,_,_,_,_,_,_,_,_,_,_,o 0,o 1,o 2,.bool true,o 4,o 5,o 6,o 7,o 8,o 9,o 10,o 11,o 12,o 13],[]⟩ W
  refine wpOp_step rfl fun _ hK => ?_
  go_simp
  exact hK _ _ ⟨rfl,hj⟩
 ·intro o W hj
  have hj : KL _ _ W := hj
  show wpOp _ _ _ 6 _ ⟨#[_,_,_,_,_,_,o 14,_,_,_,_,_,_,_,_,_,_,_,_,_,_,_,_,_,_,_,_,_,_,_,_,o 0,o 1,o 2,.bool true,o 4,.agg #[c0,c1,c2],o 6,o 7,o 8,o 9,o 10,o 11,o 12,o 13],[]⟩ W
  refine wpOp_step rfl fun _ hK => ?_
  go_simp
  refine (ours_any _ _ _ _).mono ?_
  rintro e W1 ⟨rfl,hb1⟩
  exact hK _ _ ⟨rfl,hj.over hb1⟩
 ·intro o W _
  show wpOp _ _ _ 7 _ ⟨#[_,_,_,_,_,_,o 14,_,_,_,_,_,_,_,_,_,_,_,_,_,_,_,_,_,_,_,_,_,_,_,_,o 0,o 1,o 2,.bool true,.agg #[c0,c1,c2],o 5,.agg #[c0,c1,c2],o 7,o 8,o 9,o 10,o 11,o 12,o 13],[]⟩ W
  refine wpOp_step rfl fun _ hK => ?_
  go_simp
  exact hK _ _ ⟨rfl,rfl⟩
 ·intro o W _
  show wpOp _ _ _ 8 _ ⟨#[_,_,_,_,_,_,o 14,_,_,_,_,_,_,_,_,_,_,_,_,_,_,_,_,_,_,_,_,_,_,_,_,o 0,o 1,o 2,.bool true,o 4,o 5,o 6,.bool true,o 8,o 9,o 10,o 11,o 12,o 13],[]⟩ W
  refine wpOp_step rfl fun _ hK => ?_
  go_simp
  exact hK _ _ ⟨rfl,rfl⟩
 ·intro o W _
  show wpOp _ _ _ 9 _ ⟨#[_,_,_,_,_,_,o 14,_,_,_,_,_,_,_,_,_,_,_,_,_,_,_,_,_,_,_,_,_,_,_,_,o 0,o 1,o 2,o 3,o 4,o 5,o 6,o 7,.bool true,o 9,o 10,o 11,o 12,o 13],[]⟩ W
  refine wpOp_step rfl fun _ hK => ?_
  go_simp
  exact hK _ _ ⟨rfl,rfl⟩
 ·intro o W _
  show wpOp _ _ _ 10 _ ⟨#[_,_,_,_,_,_,o 14,_,_,_,_,_,_,_,_,_,_,_,_,_,_,_,_,_,_,_,_,_,_,_,_,o 0,o 1,o 2,o 3,o 4,o 5,o 6,o 7,o 8,.bool true,o 10,o 11,o 12,o 13],[]⟩ W
  refine wpOp_step rfl fun _ hK => ?_
  go_simp
  exact hK _ _ ⟨rfl,rfl⟩
 ·intro o W _
  show wpOp _ _ _ 11 _ ⟨#[_,_,_,_,_,_,o 14,_,_,_,_,_,_,_,_,_,_,_,_,_,_,_,_,_,_,_,_,_,_,_,_,o 0,o 1,o 2,o 3,o 4,o 5,o 6,o 7,o 8,.bool true,o 10,o 11,o 12,o 13],[]⟩ W
  refine wpOp_step rfl fun _ hK => ?_
  go_simp
  exact hK _ _ ⟨rfl,rfl⟩
 ·intro o W _
  show wpOp _ _ _ 12 _ ⟨#[_,_,_,_,_,_,o 14,_,_,_,_,_,_,_,_,_,_,_,_,_,_,_,_,_,_,_,_,_,_,_,_,o 0,o 1,o 2,o 3,o 4,o 5,o 6,o 7,o 8,.bool true,.int .i64 f_,.int .i64 f_,o 12,o 13],[]⟩ W
  refine wpOp_step rfl fun _ hK => ?_
  go_simp
  exact hK _ _ ⟨rfl,rfl⟩
 ·intro o W _
  show wpOp _ _ _ 13 _ ⟨#[_,_,_,_,_,_,o 14,_,_,_,_,_,_,_,_,_,_,_,_,_,_,_,_,_,_,_,_,_,_,_,_,o 0,o 1,o 2,o 3,o 4,o 5,o 6,o 7,o 8,.bool true,o 10,o 11,.bool true,o 13],[]⟩ W
  refine wpOp_step rfl fun _ hK => ?_
  go_simp
  exact hK _ _ ⟨rfl,rfl⟩
 ·intro o W _
  show wpOp _ _ _ 14 _ ⟨#[_,_,_,_,_,_,o 14,_,_,_,_,_,_,_,_,_,_,_,_,_,_,_,_,_,_,_,_,_,_,_,_,o 0,o 1,o 2,o 3,o 4,o 5,o 6,o 7,o 8,o 9,o 10,o 11,o 12,.bool true],[]⟩ W
  refine wpOp_step rfl fun _ hK => ?_
  go_simp
  exact hK _ _ ⟨rfl,rfl⟩
 ·intro o hh_
  have e0 : o 0 = .agg #[r0,r1,r2,r3,r4,r5] := hh_ 0 (by decide)
  have e1 : o 1 = .agg #[r0,r1,r2,r3,r4,r5] := hh_ 1 (by decide)
  have e2 : o 2 = .bool true := hh_ 2 (by decide)
  have e3 : o 3 = .bool true := hh_ 3 (by decide)
  have e4 : o 4 = .agg #[c0,c1,c2] := hh_ 4 (by decide)
  have e5 : o 5 = .agg #[c0,c1,c2] := hh_ 5 (by decide)
  have e6 : o 6 = .agg #[c0,c1,c2] := hh_ 6 (by decide)
  have e7 : o 7 = .bool true := hh_ 7 (by decide)
  have e8 : o 8 = .bool true := hh_ 8 (by decide)
  have e9 : o 9 = .bool true := hh_ 9 (by decide)
  have e10 : o 10 = .int .i64 f_ := hh_ 10 (by decide)
  have e11 : o 11 = .int .i64 f_ := hh_ 11 (by decide)
  have e12 : o 12 = .bool true := hh_ 12 (by decide)
  have e13 : o 13 = .bool true := hh_ 13 (by decide)
  have e14 : o 14 = .bool true := hh_ 14 (by decide)
  rw [e0,e1,e2,e3,e4,e5,e6,e7,e8,e9,e10,e11,e12,e13,e14]
 ·intro W hj
  have hj : KL _ _ W := hj
  obtain ⟨cL0,c0_0,c0_1,c0_2⟩ := bl3 (KL.blk hj (.head _))
  obtain ⟨cL1,c1_0,c1_1,c1_2,c1_3,c1_4,c1_5⟩ := bl6 (KL.blk hj (.tail _ (.head _)))
  obtain ⟨cL2,c2_0,c2_1,c2_2⟩ := bl3 (KL.blk hj (.tail _ (.tail _ (.head _))))
  obtain ⟨cL3,c3_0,c3_1,c3_2,c3_3,c3_4,c3_5⟩ := bl6 (KL.blk hj (.tail _ (.tail _ (.tail _ (.head _)))))
  obtain ⟨cL4,c4_0,c4_1,c4_2,c4_3,c4_4,c4_5⟩ := bl6 (KL.blk hj (.tail _ (.tail _ (.tail _ (.tail _ (.head _))))))
  obtain ⟨cL5,c5_0,c5_1,c5_2,c5_3,c5_4,c5_5⟩ := bl6 (KL.blk hj (.tail _ (.tail _ (.tail _ (.tail _ (.tail _ (.head _)))))))
  have hjb := hj.1
  have hjz := hjb.size
  go_wp2
  go_ret
  exact ⟨rfl,hjb⟩
theorem kerfJoins_any (x y z p q r a b c d s u k : Int) (w : World) : Calls Try.prog 4 #[.agg #[x,y,z,p,q,r],.agg #[a,b,c,d,s,u],.int .i64 k] w fun e w' => e = .returned (.bool true) ∧ Below w.heap.size w w' := by
 by_cases h : caI (e2B (eB x y z p q r) (eB a b c d s u)) k = 0
 ·obtain ⟨h1,hk⟩ := caI_z h
  have hv : eB x y z p q r = 0 := by by_cases e : eB x y z p q r = 0; exact e; rw [e2B_n _ e] at h1; exact h1
  have hu : eB a b c d s u = 0 := by rw [hv,e2B_0] at h1; exact h1
  cases hj : rjB x y z p q r a b c d s u k with
  | true =>
   have hR := rJoin_ok x y z p q r a b c d s u k hv hu hk hj
   rcases ax3 hk with rfl | rfl | rfl
   ·exact jlaw x y z p q r a b c d s u 0 _ _ _ _ _ _ _ _ _ _ (fun w => by
     have hq : jnB0 x y z p q r a b c d s u = true ∧ rgB 0 1000 (a - p) = true := by
      simp [rjB,vE,pk,gt3] at hj
      constructor
      ·simp [jnB0]; omega
      ·rw [rgB_iff]; omega
     have hz := Join0ok x y z p q r a b c d s u hv hu hq.1 hq.2 w
     simp [rjB,vE,pk,gt3] at hj
     simpa [gt3,hj] using hz) hR w
   ·exact jlaw x y z p q r a b c d s u 1 _ _ _ _ _ _ _ _ _ _ (fun w => by
     have hq : jnB1 x y z p q r a b c d s u = true ∧ rgB 0 1000 (b - q) = true := by
      simp [rjB,vE,pk,gt3] at hj
      constructor
      ·simp [jnB1]; omega
      ·rw [rgB_iff]; omega
     have hz := Join1ok x y z p q r a b c d s u hv hu hq.1 hq.2 w
     simp [rjB,vE,pk,gt3] at hj
     simpa [gt3,hj] using hz) hR w
   ·exact jlaw x y z p q r a b c d s u 2 _ _ _ _ _ _ _ _ _ _ (fun w => by
     have hq : jnB2 x y z p q r a b c d s u = true ∧ rgB 0 1000 (c - r) = true := by
      simp [rjB,vE,pk,gt3] at hj
      constructor
      ·simp [jnB2]; omega
      ·rw [rgB_iff]; omega
     have hz := Join2ok x y z p q r a b c d s u hv hu hq.1 hq.2 w
     simp [rjB,vE,pk,gt3] at hj
     simpa [gt3,hj] using hz) hR w
  | false =>
   have hR := rJoin_cf x y z p q r a b c d s u k hv hu hk hj
   rcases ax3 hk with rfl | rfl | rfl
   ·cases hq : jnB0 x y z p q r a b c d s u with
    | false => exact jlaw x y z p q r a b c d s u 0 _ _ _ _ _ _ _ _ _ _ (Join0ne x y z p q r a b c d s u hv hu hq) hR w
    | true =>
     have hkf : rgB 0 1000 (a - p) = false := by
      rw [← Bool.not_eq_true,rgB_iff]
      intro hc
      simp [jnB0] at hq
      simp [rjB,vE,pk,gt3] at hj
      omega
     exact jlaw x y z p q r a b c d s u 0 _ _ _ _ _ _ _ _ _ _ (Join0kf x y z p q r a b c d s u hv hu hq hkf) hR w
   ·cases hq : jnB1 x y z p q r a b c d s u with
    | false => exact jlaw x y z p q r a b c d s u 1 _ _ _ _ _ _ _ _ _ _ (Join1ne x y z p q r a b c d s u hv hu hq) hR w
    | true =>
     have hkf : rgB 0 1000 (b - q) = false := by
      rw [← Bool.not_eq_true,rgB_iff]
      intro hc
      simp [jnB1] at hq
      simp [rjB,vE,pk,gt3] at hj
      omega
     exact jlaw x y z p q r a b c d s u 1 _ _ _ _ _ _ _ _ _ _ (Join1kf x y z p q r a b c d s u hv hu hq hkf) hR w
   ·cases hq : jnB2 x y z p q r a b c d s u with
    | false => exact jlaw x y z p q r a b c d s u 2 _ _ _ _ _ _ _ _ _ _ (Join2ne x y z p q r a b c d s u hv hu hq) hR w
    | true =>
     have hkf : rgB 0 1000 (c - r) = false := by
      rw [← Bool.not_eq_true,rgB_iff]
      intro hc
      simp [jnB2] at hq
      simp [rjB,vE,pk,gt3] at hj
      omega
     exact jlaw x y z p q r a b c d s u 2 _ _ _ _ _ _ _ _ _ _ (Join2kf x y z p q r a b c d s u hv hu hq hkf) hR w
 ·exact jlaw x y z p q r a b c d s u k _ _ _ _ _ _ _ _ _ _ (Join_bad x y z p q r a b c d s u k _ rfl h) (rJoin_bad x y z p q r a b c d s u k _ rfl h) w

set_option maxHeartbeats 800000 in
set_option maxRecDepth 100000 in
theorem kerfJoins_lifted (os : Os) (started : os.Started) (H : Type) (enc : TypeId × Value → H) :
  ReturnsInHanded {} Try.checked os 4 .any (Rows.kerfJoinsSpec.pre6 enc Try.prog Try.f4 Rows.kerfJoinsRow.domain false) (Rows.kerfJoinsSpec.post enc Try.prog Try.f4 false true false false) := by
 refine returnsInHanded_of_change (C := Try.checked) Try.own started (by kernel_rfl) Try.func4
  (ChangeSpec.witness6 (enc := enc) (C := Try.checked) false ⟨#[],#[.agg #[.int .i64 0,.int .i64 0,.int .i64 0,.int .i64 0,.int .i64 0,.int .i64 0],.agg #[.int .i64 0,.int .i64 0,.int .i64 0,.int .i64 0,.int .i64 0,.int .i64 0],.int .i64 0],[]⟩ 8 (by kernel_rfl) (by kernel_rfl) (by kernel_rfl) (by kernel_rfl)) ?_
 intro W base args ds gs before hval0 hW _ _
 have hval : ∀ (j : Nat) t v,Try.f4.params[j]? = some t → args[j]? = some v → Value.okWide Try.prog W .any base t v := hval0
 have hW' := hW
 obtain ⟨p,q,hA0,hV,rfl,_,_⟩ := hW
 have hA : DataW.TrodAll enc Try.prog W 0 (fun _ => true) true Try.f4.params.toList args.toList ds p := hA0
 rw [Try.params4] at hA hval
 obtain ⟨v0,v1,v2,d0,d1,d2,p0,p1,p2,rfl,rfl,rfl,h0,h1,h2⟩ := trodAll_three hA
 obtain ⟨rfl,rfl⟩ := trodVars_none hV
 clear hA0 hval0
 simp only [List.append_nil] at hW'
 have harg0 : ∀ W' : World,Below W.heap.size W W' → DataW.Trod enc Try.prog W' 0 (fun b => decide (b < W.heap.size)) true 25 v0 d0 p0 :=
  fun W' hn => Below.trod Try.laidOut (by kernel_rfl) (of_decide_eq_true (by kernel_rfl)) h0 hn (fun y hy => by simpa using hW'.lt y (by simp [hy]))
 have harg1 : ∀ W' : World,Below W.heap.size W W' → DataW.Trod enc Try.prog W' 0 (fun b => decide (b < W.heap.size)) true 25 v1 d1 p1 :=
  fun W' hn => Below.trod Try.laidOut (by kernel_rfl) (of_decide_eq_true (by kernel_rfl)) h1 hn (fun y hy => by simpa using hW'.lt y (by simp [hy]))
 have harg2 : ∀ W' : World,Below W.heap.size W W' → DataW.Trod enc Try.prog W' 0 (fun b => decide (b < W.heap.size)) true 3 v2 d2 p2 :=
  fun W' hn => Below.trod Try.laidOut (by kernel_rfl) (of_decide_eq_true (by kernel_rfl)) h2 hn (fun y hy => by simpa using hW'.lt y (by simp [hy]))
 obtain ⟨x,y,z,p,q,r,rfl⟩ := open_box (hval 0 25 v0 rfl rfl) h0
 obtain ⟨a,b,c,d,s,u,rfl⟩ := open_box (hval 1 25 v1 rfl rfl) h1
 obtain ⟨k,rfl,_,_,_⟩ := open_int Try.underlying3 (hval 2 3 v2 rfl rfl) h2
 refine (kerfJoins_any x y z p q r a b c d s u k W).mono fun e W' ⟨he,hn⟩ => ?_
 subst he
 exact ⟨_,rfl,_,_,_,[],_,[],hW',trodAll_mk1 (shut_bool Try.underlying4 _),trodAll_mk3 (harg0 _ hn) (harg1 _ hn) (harg2 _ hn),(List.append_nil _).symm,hn.frame _,fun h => by cases h⟩

theorem kerfJoins_holds : Rows.KerfJoinsSaid :=
 OpenClaim.holds_of_wide 4 Try.f4 rfl rfl rfl rfl rfl rfl rfl ⟨rfl,rfl,rfl,rfl,rfl⟩ rfl rfl rfl rfl rfl (by kernel_rfl) Try.func4 (by kernel_rfl)
  (of_decide_eq_true (by kernel_rfl)) (by unfold Func.isWrapper; first | (rw [if_pos (by decide +kernel)]; kernel_rfl) | (rw [if_neg (by decide +kernel)]; exact ⟨rfl,rfl⟩))
  (fun os started H enc _ => kerfJoins_lifted os started H enc)
end Go.Proofs.Ytogmgaaejepcbaa
