/- The walk of kerf's Join,one axis,one case. -/
import Derived.Test.YtogmgaaejepcbaaCor
import Derived.Test.YtogmgaaejepcbaaJnb
import Derived.Test.YtogmgaaejepcbaaVol
import Derived.Test.YtogmgaaejepcbaaReg
import Derived.Test.YtogmgaaejepcbaaNes
namespace Go.Proofs.Ytogmgaaejepcbaa
open Go.RowKit

set_option maxHeartbeats 16000000 in
set_option maxRecDepth 100000 in
theorem Join0ok (x y z p q r a b c d s u : Int) (hv : eB x y z p q r = 0) (hu : eB a b c d s u = 0) (hq : jnB0 x y z p q r a b c d s u = true) (hkf : rgB 0 1000 (a - p) = true) (w : World) :
  Calls Try.prog 20 #[.agg #[x,y,z,p,q,r],.agg #[a,b,c,d,s,u],.int .i64 0] w fun e w' => e = .returned (.tuple #[.agg #[x,y,z,d,q,r],.agg #[.int .i64 0,p,.int .i64 (a - p)],.int .i64 0]) ∧ Below w.heap.size w w' := by
 have hc := @cax2 x y z p q r a b c d s u 0
 rw [hv,e2B_0,hu,caI_0 (by decide)] at hc
 obtain ⟨⟨a1,a2,a3⟩,⟨a4,a5,a6⟩,⟨a7,a8,a9⟩⟩ := eB_bd hv
 obtain ⟨⟨a1',a2',a3'⟩,⟨a4',a5',a6'⟩,⟨a7',a8',a9'⟩⟩ := eB_bd hu
 clear hv hu
 have q1 : ∀ w,Sem.run Try.prog (binOp .neq 25 (.agg #[a,y,z,d,q,r]) (.agg #[a,b,c,d,s,u])) w = .ok (.bool (!jnB0 x y z p q r a b c d s u)) w := fun w => neB_run _ _ _ _ _ _ _ _ _ _ _ _ w
 rw [hq] at q1
 have hw : IntKind.i64.wrap (a - p) = a - p := IntWalk.i64_in _ (by omega)
 have hk := isKerf_any (a - p)
 rw [hkf] at hk
 clear hq hkf
 go_enter Try.func20,Try.ntmps20
 go_wp2_with (first | (go_at_call 45; refine (hc _ _ (Blk.new2 (by simp))).mono ?_; rintro e w1 ⟨rfl,hb1⟩; obtain ⟨hc1,hf1⟩ := bcell hb1; have hz1 := hb1.size; (try simp at hz1); (try have y10 : w.heap.size < w1.heap.size := (by omega)); (try have y10p : w.heap.size < w1.heap.size + 1 := (by omega)); (try have y11 : w.heap.size + 1 < w1.heap.size := (by omega)); (try have y11p : w.heap.size + 1 < w1.heap.size + 1 := (by omega)); (try have y12 : w.heap.size + 1 + 1 < w1.heap.size := (by omega)); (try have y12p : w.heap.size + 1 + 1 < w1.heap.size + 1 := (by omega)); (try have y13 : w.heap.size + 1 + 1 + 1 < w1.heap.size := (by omega)); (try have y13p : w.heap.size + 1 + 1 + 1 < w1.heap.size + 1 := (by omega)); (try have y14 : w.heap.size + 1 + 1 + 1 + 1 < w1.heap.size := (by omega)); (try have y14p : w.heap.size + 1 + 1 + 1 + 1 < w1.heap.size + 1 := (by omega)); (try have v0x1 : w0.heap.size < w1.heap.size := (by omega)); (try have v0x1p : w0.heap.size < w1.heap.size + 1 := (by omega))) | (revert hb2; intro hb2; go_at_call 42; refine (ends_any _ _).mono ?_; rintro e w3 ⟨rfl,hb3⟩; obtain ⟨hc3,hf3⟩ := bcell hb3; have hz3 := hb3.size; (try simp at hz3); (try have y30 : w.heap.size < w3.heap.size := (by omega)); (try have y30p : w.heap.size < w3.heap.size + 1 := (by omega)); (try have y31 : w.heap.size + 1 < w3.heap.size := (by omega)); (try have y31p : w.heap.size + 1 < w3.heap.size + 1 := (by omega)); (try have y32 : w.heap.size + 1 + 1 < w3.heap.size := (by omega)); (try have y32p : w.heap.size + 1 + 1 < w3.heap.size + 1 := (by omega)); (try have y33 : w.heap.size + 1 + 1 + 1 < w3.heap.size := (by omega)); (try have y33p : w.heap.size + 1 + 1 + 1 < w3.heap.size + 1 := (by omega)); (try have y34 : w.heap.size + 1 + 1 + 1 + 1 < w3.heap.size := (by omega)); (try have y34p : w.heap.size + 1 + 1 + 1 + 1 < w3.heap.size + 1 := (by omega)); (try have v0x3 : w0.heap.size < w3.heap.size := (by omega)); (try have v0x3p : w0.heap.size < w3.heap.size + 1 := (by omega)); (try have v1x3 : w1.heap.size < w3.heap.size := (by omega)); (try have v1x3p : w1.heap.size < w3.heap.size + 1 := (by omega)); (try have v2x3 : w2.heap.size < w3.heap.size := (by omega)); (try have v2x3p : w2.heap.size < w3.heap.size + 1 := (by omega))) | (go_at_call 42; refine (ends_any _ _).mono ?_; rintro e w2 ⟨rfl,hb2⟩; obtain ⟨hc2,hf2⟩ := bcell hb2; have hz2 := hb2.size; (try simp at hz2); (try have y20 : w.heap.size < w2.heap.size := (by omega)); (try have y20p : w.heap.size < w2.heap.size + 1 := (by omega)); (try have y21 : w.heap.size + 1 < w2.heap.size := (by omega)); (try have y21p : w.heap.size + 1 < w2.heap.size + 1 := (by omega)); (try have y22 : w.heap.size + 1 + 1 < w2.heap.size := (by omega)); (try have y22p : w.heap.size + 1 + 1 < w2.heap.size + 1 := (by omega)); (try have y23 : w.heap.size + 1 + 1 + 1 < w2.heap.size := (by omega)); (try have y23p : w.heap.size + 1 + 1 + 1 < w2.heap.size + 1 := (by omega)); (try have y24 : w.heap.size + 1 + 1 + 1 + 1 < w2.heap.size := (by omega)); (try have y24p : w.heap.size + 1 + 1 + 1 + 1 < w2.heap.size + 1 := (by omega)); (try have v0x2 : w0.heap.size < w2.heap.size := (by omega)); (try have v0x2p : w0.heap.size < w2.heap.size + 1 := (by omega)); (try have v1x2 : w1.heap.size < w2.heap.size := (by omega)); (try have v1x2p : w1.heap.size < w2.heap.size + 1 := (by omega))))
 refine wp_region_any (by kernel_rfl) ?_
 try (change wpAny _ _ _ _ _ _ _ (World.drew _))
 refine wpAny_vals (fr := fun o => #[.agg #[x,y,z,p,q,r],.agg #[a,b,c,d,s,u],.int .i64 0,.pointer (some ⟨w.heap.size,0,none⟩),.pointer (some ⟨(w.heap.size + 1),0,none⟩),undef,.pointer (some ⟨(w.heap.size + 1 + 1),0,none⟩),.pointer (some ⟨(w.heap.size + 1 + 1 + 1),0,none⟩),.int .i64 0,.int .i64 0,.pointer (some ⟨w2.heap.size,0,none⟩),.pointer (some ⟨(w2.heap.size + 1),0,none⟩),.pointer (some ⟨w3.heap.size,0,none⟩),.pointer (some ⟨(w3.heap.size + 1),0,none⟩),o 15,o 16,o 17,undef,.int .i64 0,.agg #[x,y,z,p,q,r],.agg #[a,b,c,d,s,u],.slice (some ⟨(w.heap.size + 1 + 1 + 1 + 1),0,none⟩) 2 2,.int .i64 0,.int .i64 0,.bool false,undef,undef,undef,.tuple #[.agg #[.pointer (some ⟨w.heap.size,0,none⟩),.pointer (some ⟨w.heap.size,1,none⟩),.pointer (some ⟨w.heap.size,2,none⟩)],.agg #[.pointer (some ⟨w.heap.size,3,none⟩),.pointer (some ⟨w.heap.size,4,none⟩),.pointer (some ⟨w.heap.size,5,none⟩)]],.tuple #[.agg #[.pointer (some ⟨w.heap.size,0,none⟩),.pointer (some ⟨w.heap.size,1,none⟩),.pointer (some ⟨w.heap.size,2,none⟩)],.agg #[.pointer (some ⟨w.heap.size,3,none⟩),.pointer (some ⟨w.heap.size,4,none⟩),.pointer (some ⟨w.heap.size,5,none⟩)]],.agg #[.pointer (some ⟨w.heap.size,0,none⟩),.pointer (some ⟨w.heap.size,1,none⟩),.pointer (some ⟨w.heap.size,2,none⟩)],.agg #[.pointer (some ⟨w.heap.size,3,none⟩),.pointer (some ⟨w.heap.size,4,none⟩),.pointer (some ⟨w.heap.size,5,none⟩)],.tuple #[.agg #[.pointer (some ⟨(w.heap.size + 1),0,none⟩),.pointer (some ⟨(w.heap.size + 1),1,none⟩),.pointer (some ⟨(w.heap.size + 1),2,none⟩)],.agg #[.pointer (some ⟨(w.heap.size + 1),3,none⟩),.pointer (some ⟨(w.heap.size + 1),4,none⟩),.pointer (some ⟨(w.heap.size + 1),5,none⟩)]],.tuple #[.agg #[.pointer (some ⟨(w.heap.size + 1),0,none⟩),.pointer (some ⟨(w.heap.size + 1),1,none⟩),.pointer (some ⟨(w.heap.size + 1),2,none⟩)],.agg #[.pointer (some ⟨(w.heap.size + 1),3,none⟩),.pointer (some ⟨(w.heap.size + 1),4,none⟩),.pointer (some ⟨(w.heap.size + 1),5,none⟩)]],.agg #[.pointer (some ⟨(w.heap.size + 1),0,none⟩),.pointer (some ⟨(w.heap.size + 1),1,none⟩),.pointer (some ⟨(w.heap.size + 1),2,none⟩)],.agg #[.pointer (some ⟨(w.heap.size + 1),3,none⟩),.pointer (some ⟨(w.heap.size + 1),4,none⟩),.pointer (some ⟨(w.heap.size + 1),5,none⟩)],o 0,o 1,o 2,o 3,o 4,o 5,o 6,o 7,o 8,o 9,o 10,o 11,o 12,o 13,o 14,undef,undef,undef,undef,undef,undef,undef,undef,undef,undef,undef,undef,undef,undef,undef,undef,undef,undef,undef,undef,undef,undef,undef,undef,undef,undef,undef,undef,undef]) (vals := fun i_ => ([.int .i64 0,.pointer (some ⟨(w2.heap.size + 1),0,none⟩),.pointer (some ⟨w.heap.size,3,none⟩),.pointer (some ⟨w.heap.size,3,none⟩),.int .i64 p,.int .i64 0,.pointer (some ⟨w3.heap.size,0,none⟩),.pointer (some ⟨(w.heap.size + 1),0,none⟩),.pointer (some ⟨(w.heap.size + 1),0,none⟩),.int .i64 a,.int .i64 0,.pointer (some ⟨(w3.heap.size + 1),0,none⟩),.pointer (some ⟨(w.heap.size + 1),3,none⟩),.pointer (some ⟨(w.heap.size + 1),3,none⟩),.int .i64 d,.int .i64 p,.int .i64 a,.int .i64 d] : List Value).getD i_ undef) (Kf := fun _ => True) (K := fun kk_ => ([(KL [((w3.heap.size + 1),76,#[.pointer (some ⟨(w.heap.size + 1),3,none⟩),.pointer (some ⟨(w.heap.size + 1),4,none⟩),.pointer (some ⟨(w.heap.size + 1),5,none⟩)]),(w3.heap.size,76,#[.pointer (some ⟨(w.heap.size + 1),0,none⟩),.pointer (some ⟨(w.heap.size + 1),1,none⟩),.pointer (some ⟨(w.heap.size + 1),2,none⟩)]),((w2.heap.size + 1),76,#[.pointer (some ⟨w.heap.size,3,none⟩),.pointer (some ⟨w.heap.size,4,none⟩),.pointer (some ⟨w.heap.size,5,none⟩)]),(w2.heap.size,76,#[.pointer (some ⟨w.heap.size,0,none⟩),.pointer (some ⟨w.heap.size,1,none⟩),.pointer (some ⟨w.heap.size,2,none⟩)]),((w.heap.size + 1 + 1 + 1),33,#[.int .i64 0,.int .i64 0,.int .i64 0]),((w.heap.size + 1 + 1),25,#[.int .i64 0,.int .i64 0,.int .i64 0,.int .i64 0,.int .i64 0,.int .i64 0]),((w.heap.size + 1),25,#[a,b,c,d,s,u]),(w.heap.size,25,#[x,y,z,p,q,r])] w)] : List (World → Prop)).getD kk_ (fun _ => True)) (dep := fun i_ => [[],[0],[1],[2],[3],[],[5],[6],[7],[8],[],[10],[11],[12],[13],[4],[9],[14]].getD i_ []) (dv := fun i_ => [[],[0],[1],[2],[3],[],[5],[6],[7],[8],[],[10],[11],[12],[13],[4],[9],[14]].getD i_ []) (kd := fun i_ => [0,0,1,0,1,0,0,1,0,1,0,0,1,0,1,0,0,0].getD i_ 0) (ss := []) (l := [0,1,2,3,4,5,6,7,8,9,10,11,12,13,14,15,16,17]) (f0 := fun _ => undef) (A := ?A7) 18 rfl rfl (by decide +kernel) (by decide +kernel) ?_ ?_ ⟨?_,?_,?_,?_,?_,?_,?_,?_,?_,?_,?_,?_,?_,?_,?_,?_,?_,?_,trivial⟩ ?_ ?_
 rotate_left
 ·exact KL.drew (KL.new (g := (w3.heap.size + 1)) (KL.new (g := w3.heap.size) (KL.over (KL.new (g := (w2.heap.size + 1)) (KL.new (g := w2.heap.size) (KL.over (KL.over (KL.alloc (KL.new (g := (w.heap.size + 1 + 1 + 1)) (KL.new (g := (w.heap.size + 1 + 1)) (KL.new (g := (w.heap.size + 1)) (KL.new (g := w.heap.size) (KL.nil w) rfl _ _) (by simp) _ _) (by simp) _ _) (by simp) _ _) _) hb1) hb2) rfl _ _) (by simp) _ _) hb3) rfl _ _) (by simp) _ _)
 ·exact fun _ _ _ _ => trivial
 ·intro o W _
  show wpOp _ _ _ 0 _ ⟨#[_,_,_,_,_,_,_,_,_,_,_,_,_,_,o 15,o 16,o 17,_,_,_,_,_,_,_,_,_,_,_,_,_,_,_,_,_,_,_,o 0,o 1,o 2,o 3,o 4,o 5,o 6,o 7,o 8,o 9,o 10,o 11,o 12,o 13,o 14,_,_,_,_,_,_,_,_,_,_,_,_,_,_,_,_,_,_,_,_,_,_,_,_,_,_,_,_,_],[]⟩ W
  refine wpOp_step rfl fun _ hK => ?_
  go_simp
  exact hK _ _ ⟨rfl,rfl⟩
 ·intro o W _
  show wpOp _ _ _ 1 _ ⟨#[_,_,_,_,_,_,_,_,_,_,_,_,_,_,o 15,o 16,o 17,_,_,_,_,_,_,_,_,_,_,_,_,_,_,_,_,_,_,_,.int .i64 0,o 1,o 2,o 3,o 4,o 5,o 6,o 7,o 8,o 9,o 10,o 11,o 12,o 13,o 14,_,_,_,_,_,_,_,_,_,_,_,_,_,_,_,_,_,_,_,_,_,_,_,_,_,_,_,_,_],[]⟩ W
  refine wpOp_step rfl fun _ hK => ?_
  go_simp
  exact hK _ _ ⟨rfl,rfl⟩
 ·intro o W hj
  have hj : KL _ _ W := hj
  obtain ⟨cL,c0,c1,c2⟩ := bl3 (KL.blk hj (.tail _ (.tail _ (.head _))))
  show wpOp _ _ _ 2 _ ⟨#[_,_,_,_,_,_,_,_,_,_,_,_,_,_,o 15,o 16,o 17,_,_,_,_,_,_,_,_,_,_,_,_,_,_,_,_,_,_,_,o 0,.pointer (some ⟨(w2.heap.size + 1),0,none⟩),o 2,o 3,o 4,o 5,o 6,o 7,o 8,o 9,o 10,o 11,o 12,o 13,o 14,_,_,_,_,_,_,_,_,_,_,_,_,_,_,_,_,_,_,_,_,_,_,_,_,_,_,_,_,_],[]⟩ W
  refine wpOp_step rfl fun _ hK => ?_
  go_simp
  exact hK _ _ ⟨rfl,hj⟩
 ·intro o W _
  show wpOp _ _ _ 3 _ ⟨#[_,_,_,_,_,_,_,_,_,_,_,_,_,_,o 15,o 16,o 17,_,_,_,_,_,_,_,_,_,_,_,_,_,_,_,_,_,_,_,o 0,o 1,.pointer (some ⟨w.heap.size,3,none⟩),o 3,o 4,o 5,o 6,o 7,o 8,o 9,o 10,o 11,o 12,o 13,o 14,_,_,_,_,_,_,_,_,_,_,_,_,_,_,_,_,_,_,_,_,_,_,_,_,_,_,_,_,_],[]⟩ W
  refine wpOp_step rfl fun _ hK => ?_
  go_simp
  exact hK _ _ ⟨rfl,rfl⟩
 ·intro o W hj
  have hj : KL _ _ W := hj
  obtain ⟨cL,c0,c1,c2,c3,c4,c5⟩ := bl6 (KL.blk hj (.tail _ (.tail _ (.tail _ (.tail _ (.tail _ (.tail _ (.tail _ (.head _)))))))))
  show wpOp _ _ _ 4 _ ⟨#[_,_,_,_,_,_,_,_,_,_,_,_,_,_,o 15,o 16,o 17,_,_,_,_,_,_,_,_,_,_,_,_,_,_,_,_,_,_,_,o 0,o 1,o 2,.pointer (some ⟨w.heap.size,3,none⟩),o 4,o 5,o 6,o 7,o 8,o 9,o 10,o 11,o 12,o 13,o 14,_,_,_,_,_,_,_,_,_,_,_,_,_,_,_,_,_,_,_,_,_,_,_,_,_,_,_,_,_],[]⟩ W
  refine wpOp_step rfl fun _ hK => ?_
  go_simp
  exact hK _ _ ⟨rfl,hj⟩
 ·intro o W _
  show wpOp _ _ _ 5 _ ⟨#[_,_,_,_,_,_,_,_,_,_,_,_,_,_,o 15,o 16,o 17,_,_,_,_,_,_,_,_,_,_,_,_,_,_,_,_,_,_,_,o 0,o 1,o 2,o 3,o 4,o 5,o 6,o 7,o 8,o 9,o 10,o 11,o 12,o 13,o 14,_,_,_,_,_,_,_,_,_,_,_,_,_,_,_,_,_,_,_,_,_,_,_,_,_,_,_,_,_],[]⟩ W
  refine wpOp_step rfl fun _ hK => ?_
  go_simp
  exact hK _ _ ⟨rfl,rfl⟩
 ·intro o W _
  show wpOp _ _ _ 6 _ ⟨#[_,_,_,_,_,_,_,_,_,_,_,_,_,_,o 15,o 16,o 17,_,_,_,_,_,_,_,_,_,_,_,_,_,_,_,_,_,_,_,o 0,o 1,o 2,o 3,o 4,.int .i64 0,o 6,o 7,o 8,o 9,o 10,o 11,o 12,o 13,o 14,_,_,_,_,_,_,_,_,_,_,_,_,_,_,_,_,_,_,_,_,_,_,_,_,_,_,_,_,_],[]⟩ W
  refine wpOp_step rfl fun _ hK => ?_
  go_simp
  exact hK _ _ ⟨rfl,rfl⟩
 ·intro o W hj
  have hj : KL _ _ W := hj
  obtain ⟨cL,c0,c1,c2⟩ := bl3 (KL.blk hj (.tail _ (.head _)))
  show wpOp _ _ _ 7 _ ⟨#[_,_,_,_,_,_,_,_,_,_,_,_,_,_,o 15,o 16,o 17,_,_,_,_,_,_,_,_,_,_,_,_,_,_,_,_,_,_,_,o 0,o 1,o 2,o 3,o 4,o 5,.pointer (some ⟨w3.heap.size,0,none⟩),o 7,o 8,o 9,o 10,o 11,o 12,o 13,o 14,_,_,_,_,_,_,_,_,_,_,_,_,_,_,_,_,_,_,_,_,_,_,_,_,_,_,_,_,_],[]⟩ W
  refine wpOp_step rfl fun _ hK => ?_
  go_simp
  exact hK _ _ ⟨rfl,hj⟩
 ·intro o W _
  show wpOp _ _ _ 8 _ ⟨#[_,_,_,_,_,_,_,_,_,_,_,_,_,_,o 15,o 16,o 17,_,_,_,_,_,_,_,_,_,_,_,_,_,_,_,_,_,_,_,o 0,o 1,o 2,o 3,o 4,o 5,o 6,.pointer (some ⟨(w.heap.size + 1),0,none⟩),o 8,o 9,o 10,o 11,o 12,o 13,o 14,_,_,_,_,_,_,_,_,_,_,_,_,_,_,_,_,_,_,_,_,_,_,_,_,_,_,_,_,_],[]⟩ W
  refine wpOp_step rfl fun _ hK => ?_
  go_simp
  exact hK _ _ ⟨rfl,rfl⟩
 ·intro o W hj
  have hj : KL _ _ W := hj
  obtain ⟨cL,c0,c1,c2,c3,c4,c5⟩ := bl6 (KL.blk hj (.tail _ (.tail _ (.tail _ (.tail _ (.tail _ (.tail _ (.head _))))))))
  show wpOp _ _ _ 9 _ ⟨#[_,_,_,_,_,_,_,_,_,_,_,_,_,_,o 15,o 16,o 17,_,_,_,_,_,_,_,_,_,_,_,_,_,_,_,_,_,_,_,o 0,o 1,o 2,o 3,o 4,o 5,o 6,o 7,.pointer (some ⟨(w.heap.size + 1),0,none⟩),o 9,o 10,o 11,o 12,o 13,o 14,_,_,_,_,_,_,_,_,_,_,_,_,_,_,_,_,_,_,_,_,_,_,_,_,_,_,_,_,_],[]⟩ W
  refine wpOp_step rfl fun _ hK => ?_
  go_simp
  exact hK _ _ ⟨rfl,hj⟩
 ·intro o W _
  show wpOp _ _ _ 10 _ ⟨#[_,_,_,_,_,_,_,_,_,_,_,_,_,_,o 15,o 16,o 17,_,_,_,_,_,_,_,_,_,_,_,_,_,_,_,_,_,_,_,o 0,o 1,o 2,o 3,o 4,o 5,o 6,o 7,o 8,o 9,o 10,o 11,o 12,o 13,o 14,_,_,_,_,_,_,_,_,_,_,_,_,_,_,_,_,_,_,_,_,_,_,_,_,_,_,_,_,_],[]⟩ W
  refine wpOp_step rfl fun _ hK => ?_
  go_simp
  exact hK _ _ ⟨rfl,rfl⟩
 ·intro o W _
  show wpOp _ _ _ 11 _ ⟨#[_,_,_,_,_,_,_,_,_,_,_,_,_,_,o 15,o 16,o 17,_,_,_,_,_,_,_,_,_,_,_,_,_,_,_,_,_,_,_,o 0,o 1,o 2,o 3,o 4,o 5,o 6,o 7,o 8,o 9,.int .i64 0,o 11,o 12,o 13,o 14,_,_,_,_,_,_,_,_,_,_,_,_,_,_,_,_,_,_,_,_,_,_,_,_,_,_,_,_,_],[]⟩ W
  refine wpOp_step rfl fun _ hK => ?_
  go_simp
  exact hK _ _ ⟨rfl,rfl⟩
 ·intro o W hj
  have hj : KL _ _ W := hj
  obtain ⟨cL,c0,c1,c2⟩ := bl3 (KL.blk hj (.head _))
  show wpOp _ _ _ 12 _ ⟨#[_,_,_,_,_,_,_,_,_,_,_,_,_,_,o 15,o 16,o 17,_,_,_,_,_,_,_,_,_,_,_,_,_,_,_,_,_,_,_,o 0,o 1,o 2,o 3,o 4,o 5,o 6,o 7,o 8,o 9,o 10,.pointer (some ⟨(w3.heap.size + 1),0,none⟩),o 12,o 13,o 14,_,_,_,_,_,_,_,_,_,_,_,_,_,_,_,_,_,_,_,_,_,_,_,_,_,_,_,_,_],[]⟩ W
  refine wpOp_step rfl fun _ hK => ?_
  go_simp
  exact hK _ _ ⟨rfl,hj⟩
 ·intro o W _
  show wpOp _ _ _ 13 _ ⟨#[_,_,_,_,_,_,_,_,_,_,_,_,_,_,o 15,o 16,o 17,_,_,_,_,_,_,_,_,_,_,_,_,_,_,_,_,_,_,_,o 0,o 1,o 2,o 3,o 4,o 5,o 6,o 7,o 8,o 9,o 10,o 11,.pointer (some ⟨(w.heap.size + 1),3,none⟩),o 13,o 14,_,_,_,_,_,_,_,_,_,_,_,_,_,_,_,_,_,_,_,_,_,_,_,_,_,_,_,_,_],[]⟩ W
  refine wpOp_step rfl fun _ hK => ?_
  go_simp
  exact hK _ _ ⟨rfl,rfl⟩
 ·intro o W hj
  have hj : KL _ _ W := hj
  obtain ⟨cL,c0,c1,c2,c3,c4,c5⟩ := bl6 (KL.blk hj (.tail _ (.tail _ (.tail _ (.tail _ (.tail _ (.tail _ (.head _))))))))
  show wpOp _ _ _ 14 _ ⟨#[_,_,_,_,_,_,_,_,_,_,_,_,_,_,o 15,o 16,o 17,_,_,_,_,_,_,_,_,_,_,_,_,_,_,_,_,_,_,_,o 0,o 1,o 2,o 3,o 4,o 5,o 6,o 7,o 8,o 9,o 10,o 11,o 12,.pointer (some ⟨(w.heap.size + 1),3,none⟩),o 14,_,_,_,_,_,_,_,_,_,_,_,_,_,_,_,_,_,_,_,_,_,_,_,_,_,_,_,_,_],[]⟩ W
  refine wpOp_step rfl fun _ hK => ?_
  go_simp
  exact hK _ _ ⟨rfl,hj⟩
 ·intro o W _
  show wpOp _ _ _ 15 _ ⟨#[_,_,_,_,_,_,_,_,_,_,_,_,_,_,o 15,o 16,o 17,_,_,_,_,_,_,_,_,_,_,_,_,_,_,_,_,_,_,_,o 0,o 1,o 2,o 3,.int .i64 p,o 5,o 6,o 7,o 8,o 9,o 10,o 11,o 12,o 13,o 14,_,_,_,_,_,_,_,_,_,_,_,_,_,_,_,_,_,_,_,_,_,_,_,_,_,_,_,_,_],[]⟩ W
  refine wpOp_step rfl fun _ hK => ?_
  go_simp
  exact hK _ _ ⟨rfl,rfl⟩
 ·intro o W _
  show wpOp _ _ _ 16 _ ⟨#[_,_,_,_,_,_,_,_,_,_,_,_,_,_,o 15,o 16,o 17,_,_,_,_,_,_,_,_,_,_,_,_,_,_,_,_,_,_,_,o 0,o 1,o 2,o 3,o 4,o 5,o 6,o 7,o 8,.int .i64 a,o 10,o 11,o 12,o 13,o 14,_,_,_,_,_,_,_,_,_,_,_,_,_,_,_,_,_,_,_,_,_,_,_,_,_,_,_,_,_],[]⟩ W
  refine wpOp_step rfl fun _ hK => ?_
  go_simp
  exact hK _ _ ⟨rfl,rfl⟩
 ·intro o W _
  show wpOp _ _ _ 17 _ ⟨#[_,_,_,_,_,_,_,_,_,_,_,_,_,_,o 15,o 16,o 17,_,_,_,_,_,_,_,_,_,_,_,_,_,_,_,_,_,_,_,o 0,o 1,o 2,o 3,o 4,o 5,o 6,o 7,o 8,o 9,o 10,o 11,o 12,o 13,.int .i64 d,_,_,_,_,_,_,_,_,_,_,_,_,_,_,_,_,_,_,_,_,_,_,_,_,_,_,_,_,_],[]⟩ W
  refine wpOp_step rfl fun _ hK => ?_
  go_simp
  exact hK _ _ ⟨rfl,rfl⟩
 ·intro o hh_
  have e0 : o 0 = .int .i64 0 := hh_ 0 (by decide)
  have e1 : o 1 = .pointer (some ⟨(w2.heap.size + 1),0,none⟩) := hh_ 1 (by decide)
  have e2 : o 2 = .pointer (some ⟨w.heap.size,3,none⟩) := hh_ 2 (by decide)
  have e3 : o 3 = .pointer (some ⟨w.heap.size,3,none⟩) := hh_ 3 (by decide)
  have e4 : o 4 = .int .i64 p := hh_ 4 (by decide)
  have e5 : o 5 = .int .i64 0 := hh_ 5 (by decide)
  have e6 : o 6 = .pointer (some ⟨w3.heap.size,0,none⟩) := hh_ 6 (by decide)
  have e7 : o 7 = .pointer (some ⟨(w.heap.size + 1),0,none⟩) := hh_ 7 (by decide)
  have e8 : o 8 = .pointer (some ⟨(w.heap.size + 1),0,none⟩) := hh_ 8 (by decide)
  have e9 : o 9 = .int .i64 a := hh_ 9 (by decide)
  have e10 : o 10 = .int .i64 0 := hh_ 10 (by decide)
  have e11 : o 11 = .pointer (some ⟨(w3.heap.size + 1),0,none⟩) := hh_ 11 (by decide)
  have e12 : o 12 = .pointer (some ⟨(w.heap.size + 1),3,none⟩) := hh_ 12 (by decide)
  have e13 : o 13 = .pointer (some ⟨(w.heap.size + 1),3,none⟩) := hh_ 13 (by decide)
  have e14 : o 14 = .int .i64 d := hh_ 14 (by decide)
  have e15 : o 15 = .int .i64 p := hh_ 15 (by decide)
  have e16 : o 16 = .int .i64 a := hh_ 16 (by decide)
  have e17 : o 17 = .int .i64 d := hh_ 17 (by decide)
  rw [e0,e1,e2,e3,e4,e5,e6,e7,e8,e9,e10,e11,e12,e13,e14,e15,e16,e17]
 ·intro W1 h1
  have h1 : KL _ _ W1 := h1
  obtain ⟨aL0,a0_0,a0_1,a0_2⟩ := bl3 (KL.blk h1 (.head _))
  obtain ⟨aL1,a1_0,a1_1,a1_2⟩ := bl3 (KL.blk h1 (.tail _ (.head _)))
  obtain ⟨aL2,a2_0,a2_1,a2_2⟩ := bl3 (KL.blk h1 (.tail _ (.tail _ (.head _))))
  obtain ⟨aL3,a3_0,a3_1,a3_2⟩ := bl3 (KL.blk h1 (.tail _ (.tail _ (.tail _ (.head _)))))
  obtain ⟨aL4,a4_0,a4_1,a4_2⟩ := bl3 (KL.blk h1 (.tail _ (.tail _ (.tail _ (.tail _ (.head _))))))
  have aF4 := (KL.blk h1 (.tail _ (.tail _ (.tail _ (.tail _ (.head _)))))).frozen
  obtain ⟨aL5,a5_0,a5_1,a5_2,a5_3,a5_4,a5_5⟩ := bl6 (KL.blk h1 (.tail _ (.tail _ (.tail _ (.tail _ (.tail _ (.head _)))))))
  have aF5 := (KL.blk h1 (.tail _ (.tail _ (.tail _ (.tail _ (.tail _ (.head _))))))).frozen
  obtain ⟨aL6,a6_0,a6_1,a6_2,a6_3,a6_4,a6_5⟩ := bl6 (KL.blk h1 (.tail _ (.tail _ (.tail _ (.tail _ (.tail _ (.tail _ (.head _))))))))
  obtain ⟨aL7,a7_0,a7_1,a7_2,a7_3,a7_4,a7_5⟩ := bl6 (KL.blk h1 (.tail _ (.tail _ (.tail _ (.tail _ (.tail _ (.tail _ (.tail _ (.head _)))))))))
  have aF7 := (KL.blk h1 (.tail _ (.tail _ (.tail _ (.tail _ (.tail _ (.tail _ (.tail _ (.head _))))))))).frozen
  have hjb := h1.1
  have hjz := hjb.size
  go_wp2
  refine wp_region_any (by kernel_rfl) ?_
  try (change wpAny _ _ _ _ _ _ _ (World.drew _))
  refine wpAny_vals (fr := fun o => #[.agg #[x,y,z,p,q,r],.agg #[a,b,c,d,s,u],.int .i64 0,.pointer (some ⟨w.heap.size,0,none⟩),.pointer (some ⟨(w.heap.size + 1),0,none⟩),undef,.pointer (some ⟨(w.heap.size + 1 + 1),0,none⟩),.pointer (some ⟨(w.heap.size + 1 + 1 + 1),0,none⟩),.int .i64 0,.int .i64 0,.pointer (some ⟨w2.heap.size,0,none⟩),.pointer (some ⟨(w2.heap.size + 1),0,none⟩),.pointer (some ⟨w3.heap.size,0,none⟩),.pointer (some ⟨(w3.heap.size + 1),0,none⟩),.int .i64 p,.int .i64 a,.int .i64 d,undef,.int .i64 0,.agg #[x,y,z,p,q,r],.agg #[a,b,c,d,s,u],.slice (some ⟨(w.heap.size + 1 + 1 + 1 + 1),0,none⟩) 2 2,.int .i64 0,.int .i64 0,.bool false,undef,undef,undef,.tuple #[.agg #[.pointer (some ⟨w.heap.size,0,none⟩),.pointer (some ⟨w.heap.size,1,none⟩),.pointer (some ⟨w.heap.size,2,none⟩)],.agg #[.pointer (some ⟨w.heap.size,3,none⟩),.pointer (some ⟨w.heap.size,4,none⟩),.pointer (some ⟨w.heap.size,5,none⟩)]],.tuple #[.agg #[.pointer (some ⟨w.heap.size,0,none⟩),.pointer (some ⟨w.heap.size,1,none⟩),.pointer (some ⟨w.heap.size,2,none⟩)],.agg #[.pointer (some ⟨w.heap.size,3,none⟩),.pointer (some ⟨w.heap.size,4,none⟩),.pointer (some ⟨w.heap.size,5,none⟩)]],.agg #[.pointer (some ⟨w.heap.size,0,none⟩),.pointer (some ⟨w.heap.size,1,none⟩),.pointer (some ⟨w.heap.size,2,none⟩)],.agg #[.pointer (some ⟨w.heap.size,3,none⟩),.pointer (some ⟨w.heap.size,4,none⟩),.pointer (some ⟨w.heap.size,5,none⟩)],.tuple #[.agg #[.pointer (some ⟨(w.heap.size + 1),0,none⟩),.pointer (some ⟨(w.heap.size + 1),1,none⟩),.pointer (some ⟨(w.heap.size + 1),2,none⟩)],.agg #[.pointer (some ⟨(w.heap.size + 1),3,none⟩),.pointer (some ⟨(w.heap.size + 1),4,none⟩),.pointer (some ⟨(w.heap.size + 1),5,none⟩)]],.tuple #[.agg #[.pointer (some ⟨(w.heap.size + 1),0,none⟩),.pointer (some ⟨(w.heap.size + 1),1,none⟩),.pointer (some ⟨(w.heap.size + 1),2,none⟩)],.agg #[.pointer (some ⟨(w.heap.size + 1),3,none⟩),.pointer (some ⟨(w.heap.size + 1),4,none⟩),.pointer (some ⟨(w.heap.size + 1),5,none⟩)]],.agg #[.pointer (some ⟨(w.heap.size + 1),0,none⟩),.pointer (some ⟨(w.heap.size + 1),1,none⟩),.pointer (some ⟨(w.heap.size + 1),2,none⟩)],.agg #[.pointer (some ⟨(w.heap.size + 1),3,none⟩),.pointer (some ⟨(w.heap.size + 1),4,none⟩),.pointer (some ⟨(w.heap.size + 1),5,none⟩)],.int .i64 0,.pointer (some ⟨(w2.heap.size + 1),0,none⟩),.pointer (some ⟨w.heap.size,3,none⟩),.pointer (some ⟨w.heap.size,3,none⟩),.int .i64 p,.int .i64 0,.pointer (some ⟨w3.heap.size,0,none⟩),.pointer (some ⟨(w.heap.size + 1),0,none⟩),.pointer (some ⟨(w.heap.size + 1),0,none⟩),.int .i64 a,.int .i64 0,.pointer (some ⟨(w3.heap.size + 1),0,none⟩),.pointer (some ⟨(w.heap.size + 1),3,none⟩),.pointer (some ⟨(w.heap.size + 1),3,none⟩),.int .i64 d,o 0,o 1,o 2,o 3,o 4,o 5,o 6,o 7,o 8,o 9,o 10,o 11,o 12,o 13,undef,undef,undef,undef,undef,undef,undef,undef,undef,undef,undef,undef,undef,undef,undef]) (vals := fun i_ => ([.agg #[x,y,z,p,q,r],.int .i64 0,.int .i64 a,.int .i64 d,.agg #[a,y,z,d,q,r],.agg #[a,b,c,d,s,u],.bool false,.bool false,.int .i64 a,.int .i64 p,.int .i64 (a - p),.bool true,.bool false,.bool false] : List Value).getD i_ undef) (Kf := fun _ => True) (K := fun kk_ => ([(KL [((w3.heap.size + 1),76,#[.pointer (some ⟨(w.heap.size + 1),3,none⟩),.pointer (some ⟨(w.heap.size + 1),4,none⟩),.pointer (some ⟨(w.heap.size + 1),5,none⟩)]),(w3.heap.size,76,#[.pointer (some ⟨(w.heap.size + 1),0,none⟩),.pointer (some ⟨(w.heap.size + 1),1,none⟩),.pointer (some ⟨(w.heap.size + 1),2,none⟩)]),((w2.heap.size + 1),76,#[.pointer (some ⟨w.heap.size,3,none⟩),.pointer (some ⟨w.heap.size,4,none⟩),.pointer (some ⟨w.heap.size,5,none⟩)]),(w2.heap.size,76,#[.pointer (some ⟨w.heap.size,0,none⟩),.pointer (some ⟨w.heap.size,1,none⟩),.pointer (some ⟨w.heap.size,2,none⟩)]),((w.heap.size + 1 + 1 + 1),33,#[.int .i64 0,.int .i64 0,.int .i64 0]),((w.heap.size + 1 + 1),25,#[.int .i64 0,.int .i64 0,.int .i64 0,.int .i64 0,.int .i64 0,.int .i64 0]),((w.heap.size + 1),25,#[a,b,c,d,s,u]),(w.heap.size,25,#[x,y,z,p,q,r])] w)] : List (World → Prop)).getD kk_ (fun _ => True)) (dep := fun i_ => [[],[],[],[],[0,1,2,3],[],[4,5],[6],[7],[7],[7,8,9],[7,10],[7,11],[7,12]].getD i_ []) (dv := fun i_ => [[],[],[],[],[0,1,2,3],[],[4,5],[6],[7],[7],[7,8,9],[7,10],[7,11],[7,12]].getD i_ []) (kd := fun i_ => [1,0,0,0,1,1,0,0,0,0,0,0,0,0].getD i_ 0) (ss := []) (l := [0,1,2,3,4,5,6,7,8,9,10,11,12,13]) (f0 := fun _ => undef) (A := ?A6) 14 rfl rfl (by decide +kernel) (by decide +kernel) ?_ ?_ ⟨?_,?_,?_,?_,?_,?_,?_,?_,?_,?_,?_,?_,?_,?_,trivial⟩ ?_ ?_
  rotate_left
  ·exact KL.drew h1
  ·exact fun _ _ _ _ => trivial
  ·intro o W hj
   have hj : KL _ _ W := hj
   obtain ⟨cL,c0,c1,c2,c3,c4,c5⟩ := bl6 (KL.blk hj (.tail _ (.tail _ (.tail _ (.tail _ (.tail _ (.tail _ (.tail _ (.head _)))))))))
   show wpOp _ _ _ 0 _ ⟨#[_,_,_,_,_,_,_,_,_,_,_,_,_,_,_,_,_,_,_,_,_,_,_,_,_,_,_,_,_,_,_,_,_,_,_,_,_,_,_,_,_,_,_,_,_,_,_,_,_,_,_,o 0,o 1,o 2,o 3,o 4,o 5,o 6,o 7,o 8,o 9,o 10,o 11,o 12,o 13,_,_,_,_,_,_,_,_,_,_,_,_,_,_,_],[]⟩ W
   refine wpOp_step rfl fun _ hK => ?_
   go_simp
   exact hK _ _ ⟨rfl,hj⟩
  ·intro o W _
   show wpOp _ _ _ 1 _ ⟨#[_,_,_,_,_,_,_,_,_,_,_,_,_,_,_,_,_,_,_,_,_,_,_,_,_,_,_,_,_,_,_,_,_,_,_,_,_,_,_,_,_,_,_,_,_,_,_,_,_,_,_,o 0,o 1,o 2,o 3,o 4,o 5,o 6,o 7,o 8,o 9,o 10,o 11,o 12,o 13,_,_,_,_,_,_,_,_,_,_,_,_,_,_,_],[]⟩ W
   refine wpOp_step rfl fun _ hK => ?_
   go_simp
   exact hK _ _ ⟨rfl,rfl⟩
  ·intro o W _
   show wpOp _ _ _ 2 _ ⟨#[_,_,_,_,_,_,_,_,_,_,_,_,_,_,_,_,_,_,_,_,_,_,_,_,_,_,_,_,_,_,_,_,_,_,_,_,_,_,_,_,_,_,_,_,_,_,_,_,_,_,_,o 0,o 1,o 2,o 3,o 4,o 5,o 6,o 7,o 8,o 9,o 10,o 11,o 12,o 13,_,_,_,_,_,_,_,_,_,_,_,_,_,_,_],[]⟩ W
   refine wpOp_step rfl fun _ hK => ?_
   go_simp
   exact hK _ _ ⟨rfl,rfl⟩
  ·intro o W _
   show wpOp _ _ _ 3 _ ⟨#[_,_,_,_,_,_,_,_,_,_,_,_,_,_,_,_,_,_,_,_,_,_,_,_,_,_,_,_,_,_,_,_,_,_,_,_,_,_,_,_,_,_,_,_,_,_,_,_,_,_,_,o 0,o 1,o 2,o 3,o 4,o 5,o 6,o 7,o 8,o 9,o 10,o 11,o 12,o 13,_,_,_,_,_,_,_,_,_,_,_,_,_,_,_],[]⟩ W
   refine wpOp_step rfl fun _ hK => ?_
   go_simp
   exact hK _ _ ⟨rfl,rfl⟩
  ·intro o W hj
   have hj : KL _ _ W := hj
   show wpOp _ _ _ 4 _ ⟨#[_,_,_,_,_,_,_,_,_,_,_,_,_,_,_,_,_,_,_,_,_,_,_,_,_,_,_,_,_,_,_,_,_,_,_,_,_,_,_,_,_,_,_,_,_,_,_,_,_,_,_,.agg #[x,y,z,p,q,r],.int .i64 0,.int .i64 a,.int .i64 d,o 4,o 5,o 6,o 7,o 8,o 9,o 10,o 11,o 12,o 13,_,_,_,_,_,_,_,_,_,_,_,_,_,_,_],[]⟩ W
   refine wpOp_step rfl fun _ hK => ?_
   go_simp
   refine (part0 _ _ _ _ _ _ _ _ _).mono ?_
   rintro e W1 ⟨rfl,hb1⟩
   exact hK _ _ ⟨rfl,hj.over hb1⟩
  ·intro o W hj
   have hj : KL _ _ W := hj
   obtain ⟨cL,c0,c1,c2,c3,c4,c5⟩ := bl6 (KL.blk hj (.tail _ (.tail _ (.tail _ (.tail _ (.tail _ (.tail _ (.head _))))))))
   show wpOp _ _ _ 5 _ ⟨#[_,_,_,_,_,_,_,_,_,_,_,_,_,_,_,_,_,_,_,_,_,_,_,_,_,_,_,_,_,_,_,_,_,_,_,_,_,_,_,_,_,_,_,_,_,_,_,_,_,_,_,o 0,o 1,o 2,o 3,o 4,o 5,o 6,o 7,o 8,o 9,o 10,o 11,o 12,o 13,_,_,_,_,_,_,_,_,_,_,_,_,_,_,_],[]⟩ W
   refine wpOp_step rfl fun _ hK => ?_
   go_simp
   exact hK _ _ ⟨rfl,hj⟩
  ·intro o W _
   show wpOp _ _ _ 6 _ ⟨#[_,_,_,_,_,_,_,_,_,_,_,_,_,_,_,_,_,_,_,_,_,_,_,_,_,_,_,_,_,_,_,_,_,_,_,_,_,_,_,_,_,_,_,_,_,_,_,_,_,_,_,o 0,o 1,o 2,o 3,.agg #[a,y,z,d,q,r],.agg #[a,b,c,d,s,u],o 6,o 7,o 8,o 9,o 10,o 11,o 12,o 13,_,_,_,_,_,_,_,_,_,_,_,_,_,_,_],[]⟩ W
   refine wpOp_step rfl fun _ hK => ?_
   go_simp
   exact hK _ _ ⟨rfl,rfl⟩
  ·intro o W _
   show wpOp _ _ _ 7 _ ⟨#[_,_,_,_,_,_,_,_,_,_,_,_,_,_,_,_,_,_,_,_,_,_,_,_,_,_,_,_,_,_,_,_,_,_,_,_,_,_,_,_,_,_,_,_,_,_,_,_,_,_,_,o 0,o 1,o 2,o 3,o 4,o 5,.bool false,o 7,o 8,o 9,o 10,o 11,o 12,o 13,_,_,_,_,_,_,_,_,_,_,_,_,_,_,_],[]⟩ W
   refine wpOp_step rfl fun _ hK => ?_
   go_simp
   exact hK _ _ ⟨rfl,rfl⟩
  ·intro o W _
   show wpOp _ _ _ 8 _ ⟨#[_,_,_,_,_,_,_,_,_,_,_,_,_,_,_,_,_,_,_,_,_,_,_,_,_,_,_,_,_,_,_,_,_,_,_,_,_,_,_,_,_,_,_,_,_,_,_,_,_,_,_,o 0,o 1,o 2,o 3,o 4,o 5,o 6,.bool false,o 8,o 9,o 10,o 11,o 12,o 13,_,_,_,_,_,_,_,_,_,_,_,_,_,_,_],[]⟩ W
   refine wpOp_step rfl fun _ hK => ?_
   go_simp
   exact hK _ _ ⟨rfl,rfl⟩
  ·intro o W _
   show wpOp _ _ _ 9 _ ⟨#[_,_,_,_,_,_,_,_,_,_,_,_,_,_,_,_,_,_,_,_,_,_,_,_,_,_,_,_,_,_,_,_,_,_,_,_,_,_,_,_,_,_,_,_,_,_,_,_,_,_,_,o 0,o 1,o 2,o 3,o 4,o 5,o 6,.bool false,o 8,o 9,o 10,o 11,o 12,o 13,_,_,_,_,_,_,_,_,_,_,_,_,_,_,_],[]⟩ W
   refine wpOp_step rfl fun _ hK => ?_
   go_simp
   exact hK _ _ ⟨rfl,rfl⟩
  ·intro o W _
   show wpOp _ _ _ 10 _ ⟨#[_,_,_,_,_,_,_,_,_,_,_,_,_,_,_,_,_,_,_,_,_,_,_,_,_,_,_,_,_,_,_,_,_,_,_,_,_,_,_,_,_,_,_,_,_,_,_,_,_,_,_,o 0,o 1,o 2,o 3,o 4,o 5,o 6,.bool false,.int .i64 a,.int .i64 p,o 10,o 11,o 12,o 13,_,_,_,_,_,_,_,_,_,_,_,_,_,_,_],[]⟩ W
   refine wpOp_step rfl fun _ hK => ?_
   go_simp
   exact hK _ _ ⟨rfl,rfl⟩
  ·intro o W _
   show wpOp _ _ _ 11 _ ⟨#[_,_,_,_,_,_,_,_,_,_,_,_,_,_,_,_,_,_,_,_,_,_,_,_,_,_,_,_,_,_,_,_,_,_,_,_,_,_,_,_,_,_,_,_,_,_,_,_,_,_,_,o 0,o 1,o 2,o 3,o 4,o 5,o 6,.bool false,o 8,o 9,.int .i64 (a - p),o 11,o 12,o 13,_,_,_,_,_,_,_,_,_,_,_,_,_,_,_],[]⟩ W
   refine wpOp_step rfl fun _ hK => ?_
   go_simp
   refine (hk _).mono ?_
   rintro e W1 ⟨rfl,rfl⟩
   exact hK _ _ ⟨rfl,rfl⟩
  ·intro o W _
   show wpOp _ _ _ 12 _ ⟨#[_,_,_,_,_,_,_,_,_,_,_,_,_,_,_,_,_,_,_,_,_,_,_,_,_,_,_,_,_,_,_,_,_,_,_,_,_,_,_,_,_,_,_,_,_,_,_,_,_,_,_,o 0,o 1,o 2,o 3,o 4,o 5,o 6,.bool false,o 8,o 9,o 10,.bool true,o 12,o 13,_,_,_,_,_,_,_,_,_,_,_,_,_,_,_],[]⟩ W
   refine wpOp_step rfl fun _ hK => ?_
   go_simp
   exact hK _ _ ⟨rfl,rfl⟩
  ·intro o W _
   show wpOp _ _ _ 13 _ ⟨#[_,_,_,_,_,_,_,_,_,_,_,_,_,_,_,_,_,_,_,_,_,_,_,_,_,_,_,_,_,_,_,_,_,_,_,_,_,_,_,_,_,_,_,_,_,_,_,_,_,_,_,o 0,o 1,o 2,o 3,o 4,o 5,o 6,.bool false,o 8,o 9,o 10,o 11,.bool false,o 13,_,_,_,_,_,_,_,_,_,_,_,_,_,_,_],[]⟩ W
   refine wpOp_step rfl fun _ hK => ?_
   go_simp
   exact hK _ _ ⟨rfl,rfl⟩
  ·intro o hh_
   have e0 : o 0 = .agg #[x,y,z,p,q,r] := hh_ 0 (by decide)
   have e1 : o 1 = .int .i64 0 := hh_ 1 (by decide)
   have e2 : o 2 = .int .i64 a := hh_ 2 (by decide)
   have e3 : o 3 = .int .i64 d := hh_ 3 (by decide)
   have e4 : o 4 = .agg #[a,y,z,d,q,r] := hh_ 4 (by decide)
   have e5 : o 5 = .agg #[a,b,c,d,s,u] := hh_ 5 (by decide)
   have e6 : o 6 = .bool false := hh_ 6 (by decide)
   have e7 : o 7 = .bool false := hh_ 7 (by decide)
   have e8 : o 8 = .int .i64 a := hh_ 8 (by decide)
   have e9 : o 9 = .int .i64 p := hh_ 9 (by decide)
   have e10 : o 10 = .int .i64 (a - p) := hh_ 10 (by decide)
   have e11 : o 11 = .bool true := hh_ 11 (by decide)
   have e12 : o 12 = .bool false := hh_ 12 (by decide)
   have e13 : o 13 = .bool false := hh_ 13 (by decide)
   rw [e0,e1,e2,e3,e4,e5,e6,e7,e8,e9,e10,e11,e12,e13]
  ·intro W2 h2
   have h2 : KL _ _ W2 := h2
   obtain ⟨bL0,b0_0,b0_1,b0_2⟩ := bl3 (KL.blk h2 (.head _))
   obtain ⟨bL1,b1_0,b1_1,b1_2⟩ := bl3 (KL.blk h2 (.tail _ (.head _)))
   obtain ⟨bL2,b2_0,b2_1,b2_2⟩ := bl3 (KL.blk h2 (.tail _ (.tail _ (.head _))))
   obtain ⟨bL3,b3_0,b3_1,b3_2⟩ := bl3 (KL.blk h2 (.tail _ (.tail _ (.tail _ (.head _)))))
   obtain ⟨bL4,b4_0,b4_1,b4_2⟩ := bl3 (KL.blk h2 (.tail _ (.tail _ (.tail _ (.tail _ (.head _))))))
   have bF4 := (KL.blk h2 (.tail _ (.tail _ (.tail _ (.tail _ (.head _)))))).frozen
   obtain ⟨bL5,b5_0,b5_1,b5_2,b5_3,b5_4,b5_5⟩ := bl6 (KL.blk h2 (.tail _ (.tail _ (.tail _ (.tail _ (.tail _ (.head _)))))))
   have bF5 := (KL.blk h2 (.tail _ (.tail _ (.tail _ (.tail _ (.tail _ (.head _))))))).frozen
   obtain ⟨bL6,b6_0,b6_1,b6_2,b6_3,b6_4,b6_5⟩ := bl6 (KL.blk h2 (.tail _ (.tail _ (.tail _ (.tail _ (.tail _ (.tail _ (.head _))))))))
   obtain ⟨bL7,b7_0,b7_1,b7_2,b7_3,b7_4,b7_5⟩ := bl6 (KL.blk h2 (.tail _ (.tail _ (.tail _ (.tail _ (.tail _ (.tail _ (.tail _ (.head _)))))))))
   have bF7 := (KL.blk h2 (.tail _ (.tail _ (.tail _ (.tail _ (.tail _ (.tail _ (.tail _ (.head _))))))))).frozen
   have hjb := h2.1
   have hjz := hjb.size
   go_wp2
   refine wp_region_any (by kernel_rfl) ?_
   try (change wpAny _ _ _ _ _ _ _ (World.drew _))
   refine wpAny_vals (fr := fun o => #[.agg #[x,y,z,p,q,r],.agg #[a,b,c,d,s,u],.int .i64 0,.pointer (some ⟨w.heap.size,0,none⟩),.pointer (some ⟨(w.heap.size + 1),0,none⟩),undef,.pointer (some ⟨(w.heap.size + 1 + 1),0,none⟩),.pointer (some ⟨(w.heap.size + 1 + 1 + 1),0,none⟩),o 4,.int .i64 0,.pointer (some ⟨w2.heap.size,0,none⟩),.pointer (some ⟨(w2.heap.size + 1),0,none⟩),.pointer (some ⟨w3.heap.size,0,none⟩),.pointer (some ⟨(w3.heap.size + 1),0,none⟩),.int .i64 p,.int .i64 a,.int .i64 d,.pointer (some ⟨W2.heap.size,0,none⟩),.int .i64 0,.agg #[x,y,z,p,q,r],.agg #[a,b,c,d,s,u],.slice (some ⟨(w.heap.size + 1 + 1 + 1 + 1),0,none⟩) 2 2,.int .i64 0,.int .i64 0,.bool false,undef,undef,undef,.tuple #[.agg #[.pointer (some ⟨w.heap.size,0,none⟩),.pointer (some ⟨w.heap.size,1,none⟩),.pointer (some ⟨w.heap.size,2,none⟩)],.agg #[.pointer (some ⟨w.heap.size,3,none⟩),.pointer (some ⟨w.heap.size,4,none⟩),.pointer (some ⟨w.heap.size,5,none⟩)]],.tuple #[.agg #[.pointer (some ⟨w.heap.size,0,none⟩),.pointer (some ⟨w.heap.size,1,none⟩),.pointer (some ⟨w.heap.size,2,none⟩)],.agg #[.pointer (some ⟨w.heap.size,3,none⟩),.pointer (some ⟨w.heap.size,4,none⟩),.pointer (some ⟨w.heap.size,5,none⟩)]],.agg #[.pointer (some ⟨w.heap.size,0,none⟩),.pointer (some ⟨w.heap.size,1,none⟩),.pointer (some ⟨w.heap.size,2,none⟩)],.agg #[.pointer (some ⟨w.heap.size,3,none⟩),.pointer (some ⟨w.heap.size,4,none⟩),.pointer (some ⟨w.heap.size,5,none⟩)],.tuple #[.agg #[.pointer (some ⟨(w.heap.size + 1),0,none⟩),.pointer (some ⟨(w.heap.size + 1),1,none⟩),.pointer (some ⟨(w.heap.size + 1),2,none⟩)],.agg #[.pointer (some ⟨(w.heap.size + 1),3,none⟩),.pointer (some ⟨(w.heap.size + 1),4,none⟩),.pointer (some ⟨(w.heap.size + 1),5,none⟩)]],.tuple #[.agg #[.pointer (some ⟨(w.heap.size + 1),0,none⟩),.pointer (some ⟨(w.heap.size + 1),1,none⟩),.pointer (some ⟨(w.heap.size + 1),2,none⟩)],.agg #[.pointer (some ⟨(w.heap.size + 1),3,none⟩),.pointer (some ⟨(w.heap.size + 1),4,none⟩),.pointer (some ⟨(w.heap.size + 1),5,none⟩)]],.agg #[.pointer (some ⟨(w.heap.size + 1),0,none⟩),.pointer (some ⟨(w.heap.size + 1),1,none⟩),.pointer (some ⟨(w.heap.size + 1),2,none⟩)],.agg #[.pointer (some ⟨(w.heap.size + 1),3,none⟩),.pointer (some ⟨(w.heap.size + 1),4,none⟩),.pointer (some ⟨(w.heap.size + 1),5,none⟩)],.int .i64 0,.pointer (some ⟨(w2.heap.size + 1),0,none⟩),.pointer (some ⟨w.heap.size,3,none⟩),.pointer (some ⟨w.heap.size,3,none⟩),.int .i64 p,.int .i64 0,.pointer (some ⟨w3.heap.size,0,none⟩),.pointer (some ⟨(w.heap.size + 1),0,none⟩),.pointer (some ⟨(w.heap.size + 1),0,none⟩),.int .i64 a,.int .i64 0,.pointer (some ⟨(w3.heap.size + 1),0,none⟩),.pointer (some ⟨(w.heap.size + 1),3,none⟩),.pointer (some ⟨(w.heap.size + 1),3,none⟩),.int .i64 d,.agg #[x,y,z,p,q,r],.int .i64 0,.int .i64 a,.int .i64 d,.agg #[a,y,z,d,q,r],.agg #[a,b,c,d,s,u],.bool false,.bool false,.int .i64 a,.int .i64 p,.int .i64 (a - p),.bool true,.bool false,.bool false,undef,undef,.int .i64 0,.int .i64 p,.int .i64 a,.int .i64 p,.int .i64 (a - p),.agg #[.int .i64 0,p,.int .i64 (a - p)],.int .i64 0,.pointer (some ⟨(w2.heap.size + 1),0,none⟩),.pointer (some ⟨w.heap.size,3,none⟩),.int .i64 d,.pointer (some ⟨w.heap.size,3,none⟩),o 0,o 1]) (vals := fun i_ => ([.agg #[x,y,z,d,q,r],.agg #[.int .i64 0,p,.int .i64 (a - p)],undef,undef,.int .i64 0] : List Value).getD i_ undef) (Kf := fun W_ => KL [(W2.heap.size,33,#[.int .i64 0,p,.int .i64 (a - p)]),((w3.heap.size + 1),76,#[.pointer (some ⟨(w.heap.size + 1),3,none⟩),.pointer (some ⟨(w.heap.size + 1),4,none⟩),.pointer (some ⟨(w.heap.size + 1),5,none⟩)]),(w3.heap.size,76,#[.pointer (some ⟨(w.heap.size + 1),0,none⟩),.pointer (some ⟨(w.heap.size + 1),1,none⟩),.pointer (some ⟨(w.heap.size + 1),2,none⟩)]),((w2.heap.size + 1),76,#[.pointer (some ⟨w.heap.size,3,none⟩),.pointer (some ⟨w.heap.size,4,none⟩),.pointer (some ⟨w.heap.size,5,none⟩)]),(w2.heap.size,76,#[.pointer (some ⟨w.heap.size,0,none⟩),.pointer (some ⟨w.heap.size,1,none⟩),.pointer (some ⟨w.heap.size,2,none⟩)]),((w.heap.size + 1),25,#[a,b,c,d,s,u]),(w.heap.size,25,#[x,y,z,d,q,r])] w W_) (K := fun kk_ => ([(KL [(W2.heap.size,33,#[.int .i64 0,p,.int .i64 (a - p)]),((w3.heap.size + 1),76,#[.pointer (some ⟨(w.heap.size + 1),3,none⟩),.pointer (some ⟨(w.heap.size + 1),4,none⟩),.pointer (some ⟨(w.heap.size + 1),5,none⟩)]),(w3.heap.size,76,#[.pointer (some ⟨(w.heap.size + 1),0,none⟩),.pointer (some ⟨(w.heap.size + 1),1,none⟩),.pointer (some ⟨(w.heap.size + 1),2,none⟩)]),((w2.heap.size + 1),76,#[.pointer (some ⟨w.heap.size,3,none⟩),.pointer (some ⟨w.heap.size,4,none⟩),.pointer (some ⟨w.heap.size,5,none⟩)]),(w2.heap.size,76,#[.pointer (some ⟨w.heap.size,0,none⟩),.pointer (some ⟨w.heap.size,1,none⟩),.pointer (some ⟨w.heap.size,2,none⟩)]),((w.heap.size + 1 + 1 + 1),33,#[.int .i64 0,.int .i64 0,.int .i64 0]),((w.heap.size + 1 + 1),25,#[.int .i64 0,.int .i64 0,.int .i64 0,.int .i64 0,.int .i64 0,.int .i64 0]),((w.heap.size + 1),25,#[a,b,c,d,s,u]),(w.heap.size,25,#[x,y,z,d,q,r])] w),(KL [(W2.heap.size,33,#[.int .i64 0,p,.int .i64 (a - p)]),((w3.heap.size + 1),76,#[.pointer (some ⟨(w.heap.size + 1),3,none⟩),.pointer (some ⟨(w.heap.size + 1),4,none⟩),.pointer (some ⟨(w.heap.size + 1),5,none⟩)]),(w3.heap.size,76,#[.pointer (some ⟨(w.heap.size + 1),0,none⟩),.pointer (some ⟨(w.heap.size + 1),1,none⟩),.pointer (some ⟨(w.heap.size + 1),2,none⟩)]),((w2.heap.size + 1),76,#[.pointer (some ⟨w.heap.size,3,none⟩),.pointer (some ⟨w.heap.size,4,none⟩),.pointer (some ⟨w.heap.size,5,none⟩)]),(w2.heap.size,76,#[.pointer (some ⟨w.heap.size,0,none⟩),.pointer (some ⟨w.heap.size,1,none⟩),.pointer (some ⟨w.heap.size,2,none⟩)]),((w.heap.size + 1 + 1 + 1),33,#[.int .i64 0,.int .i64 0,.int .i64 0]),((w.heap.size + 1 + 1),25,#[x,y,z,d,q,r]),((w.heap.size + 1),25,#[a,b,c,d,s,u]),(w.heap.size,25,#[x,y,z,d,q,r])] w),(KL [(W2.heap.size,33,#[.int .i64 0,p,.int .i64 (a - p)]),((w3.heap.size + 1),76,#[.pointer (some ⟨(w.heap.size + 1),3,none⟩),.pointer (some ⟨(w.heap.size + 1),4,none⟩),.pointer (some ⟨(w.heap.size + 1),5,none⟩)]),(w3.heap.size,76,#[.pointer (some ⟨(w.heap.size + 1),0,none⟩),.pointer (some ⟨(w.heap.size + 1),1,none⟩),.pointer (some ⟨(w.heap.size + 1),2,none⟩)]),((w2.heap.size + 1),76,#[.pointer (some ⟨w.heap.size,3,none⟩),.pointer (some ⟨w.heap.size,4,none⟩),.pointer (some ⟨w.heap.size,5,none⟩)]),(w2.heap.size,76,#[.pointer (some ⟨w.heap.size,0,none⟩),.pointer (some ⟨w.heap.size,1,none⟩),.pointer (some ⟨w.heap.size,2,none⟩)]),((w.heap.size + 1 + 1 + 1),33,#[.int .i64 0,p,.int .i64 (a - p)]),((w.heap.size + 1 + 1),25,#[x,y,z,d,q,r]),((w.heap.size + 1),25,#[a,b,c,d,s,u]),(w.heap.size,25,#[x,y,z,d,q,r])] w)] : List (World → Prop)).getD kk_ (fun _ => True)) (dep := fun i_ => [[],[],[0],[1,2],[]].getD i_ []) (dv := fun i_ => [[],[],[0],[1],[]].getD i_ []) (kd := fun i_ => [1,0,2,3,0].getD i_ 0) (ss := [2,3]) (l := [0,1,2,3,4]) (f0 := fun i_ => ([undef,undef,undef,undef,.int .i64 0] : List Value).getD i_ undef) (A := ?A5) 5 rfl rfl (by decide +kernel) (by decide +kernel) ?_ ?_ ⟨?_,?_,?_,?_,?_,trivial⟩ ?_ ?_
   rotate_left
   ·exact KL.drew (KL.new (g := W2.heap.size) (KL.up1 7 h2 rfl (by omega) (by simp <;> omega) 3 _) (by simp) _ _)
   ·intro t_ W ht_ hh_
    rcases t_ with _ | _ | _ | _
    ·exact KL.part hh_ (fun p_ hp_ => by simp only [List.mem_cons,List.not_mem_nil,or_false] at hp_; rcases hp_ with rfl | rfl | rfl | rfl | rfl | rfl | rfl; exact (.head _); exact (.tail _ (.head _)); exact (.tail _ (.tail _ (.head _))); exact (.tail _ (.tail _ (.tail _ (.head _)))); exact (.tail _ (.tail _ (.tail _ (.tail _ (.head _))))); exact (.tail _ (.tail _ (.tail _ (.tail _ (.tail _ (.tail _ (.tail _ (.head _)))))))); exact (.tail _ (.tail _ (.tail _ (.tail _ (.tail _ (.tail _ (.tail _ (.tail _ (.head _))))))))))
    ·exact KL.part hh_ (fun p_ hp_ => by simp only [List.mem_cons,List.not_mem_nil,or_false] at hp_; rcases hp_ with rfl | rfl | rfl | rfl | rfl | rfl | rfl; exact (.head _); exact (.tail _ (.head _)); exact (.tail _ (.tail _ (.head _))); exact (.tail _ (.tail _ (.tail _ (.head _)))); exact (.tail _ (.tail _ (.tail _ (.tail _ (.head _))))); exact (.tail _ (.tail _ (.tail _ (.tail _ (.tail _ (.tail _ (.tail _ (.head _)))))))); exact (.tail _ (.tail _ (.tail _ (.tail _ (.tail _ (.tail _ (.tail _ (.tail _ (.head _))))))))))
    ·exact KL.part hh_ (fun p_ hp_ => by simp only [List.mem_cons,List.not_mem_nil,or_false] at hp_; rcases hp_ with rfl | rfl | rfl | rfl | rfl | rfl | rfl; exact (.head _); exact (.tail _ (.head _)); exact (.tail _ (.tail _ (.head _))); exact (.tail _ (.tail _ (.tail _ (.head _)))); exact (.tail _ (.tail _ (.tail _ (.tail _ (.head _))))); exact (.tail _ (.tail _ (.tail _ (.tail _ (.tail _ (.tail _ (.tail _ (.head _)))))))); exact (.tail _ (.tail _ (.tail _ (.tail _ (.tail _ (.tail _ (.tail _ (.tail _ (.head _))))))))))
    ·exact absurd ht_ (by simp)
   ·intro o W hj
    have hj : KL _ _ W := hj
    obtain ⟨cL,c0,c1,c2,c3,c4,c5⟩ := bl6 (KL.blk hj (.tail _ (.tail _ (.tail _ (.tail _ (.tail _ (.tail _ (.tail _ (.tail _ (.head _))))))))))
    show wpOp _ _ _ 0 _ ⟨#[_,_,_,_,_,_,_,_,o 4,_,_,_,_,_,_,_,_,_,_,_,_,_,_,_,_,_,_,_,_,_,_,_,_,_,_,_,_,_,_,_,_,_,_,_,_,_,_,_,_,_,_,_,_,_,_,_,_,_,_,_,_,_,_,_,_,_,_,_,_,_,_,_,_,_,_,_,_,_,o 0,o 1],[]⟩ W
    refine wpOp_step rfl fun _ hK => ?_
    go_simp
    exact hK _ _ ⟨rfl,hj⟩
   ·intro o W hj
    have hj : KL _ _ W := hj
    obtain ⟨cL,c0,c1,c2⟩ := bl3 (KL.blk hj (.head _))
    show wpOp _ _ _ 1 _ ⟨#[_,_,_,_,_,_,_,_,o 4,_,_,_,_,_,_,_,_,_,_,_,_,_,_,_,_,_,_,_,_,_,_,_,_,_,_,_,_,_,_,_,_,_,_,_,_,_,_,_,_,_,_,_,_,_,_,_,_,_,_,_,_,_,_,_,_,_,_,_,_,_,_,_,_,_,_,_,_,_,o 0,o 1],[]⟩ W
    refine wpOp_step rfl fun _ hK => ?_
    go_simp
    exact hK _ _ ⟨rfl,rfl⟩
   ·intro o W hj
    have hj : KL _ _ W := hj
    obtain ⟨cL,c0,c1,c2,c3,c4,c5⟩ := bl6 (KL.blk hj (.tail _ (.tail _ (.tail _ (.tail _ (.tail _ (.tail _ (.head _))))))))
    have cF := (KL.blk hj (.tail _ (.tail _ (.tail _ (.tail _ (.tail _ (.tail _ (.head _)))))))).frozen
    show wpOp _ _ _ 2 _ ⟨#[_,_,_,_,_,_,_,_,o 4,_,_,_,_,_,_,_,_,_,_,_,_,_,_,_,_,_,_,_,_,_,_,_,_,_,_,_,_,_,_,_,_,_,_,_,_,_,_,_,_,_,_,_,_,_,_,_,_,_,_,_,_,_,_,_,_,_,_,_,_,_,_,_,_,_,_,_,_,_,.agg #[x,y,z,d,q,r],o 1],[]⟩ W
    refine wpOp_step rfl fun _ hK => ?_
    go_simp
    exact hK _ _ ⟨rfl,(KL.up6 6 hj rfl (by omega) (by simp <;> omega))⟩
   ·intro o W hj
    have hj : KL _ _ W := hj
    obtain ⟨cL,c0,c1,c2⟩ := bl3 (KL.blk hj (.tail _ (.tail _ (.tail _ (.tail _ (.tail _ (.head _)))))))
    have cF := (KL.blk hj (.tail _ (.tail _ (.tail _ (.tail _ (.tail _ (.head _))))))).frozen
    show wpOp _ _ _ 3 _ ⟨#[_,_,_,_,_,_,_,_,o 4,_,_,_,_,_,_,_,_,_,_,_,_,_,_,_,_,_,_,_,_,_,_,_,_,_,_,_,_,_,_,_,_,_,_,_,_,_,_,_,_,_,_,_,_,_,_,_,_,_,_,_,_,_,_,_,_,_,_,_,_,_,_,_,_,_,_,_,_,_,o 0,.agg #[.int .i64 0,p,.int .i64 (a - p)]],[]⟩ W
    refine wpOp_step rfl fun _ hK => ?_
    go_simp
    exact hK _ _ ⟨rfl,(KL.up3 5 hj rfl (by omega) (by simp <;> omega))⟩
   ·intro o W _
    show wpOp _ _ _ 4 _ ⟨#[_,_,_,_,_,_,_,_,o 4,_,_,_,_,_,_,_,_,_,_,_,_,_,_,_,_,_,_,_,_,_,_,_,_,_,_,_,_,_,_,_,_,_,_,_,_,_,_,_,_,_,_,_,_,_,_,_,_,_,_,_,_,_,_,_,_,_,_,_,_,_,_,_,_,_,_,_,_,_,o 0,o 1],[]⟩ W
    refine wpOp_step rfl fun _ hK => ?_
    go_simp
    exact hK _ _ ⟨rfl,rfl⟩
   ·intro o hh_
    have e0 : o 0 = .agg #[x,y,z,d,q,r] := hh_ 0 (by decide)
    have e1 : o 1 = .agg #[.int .i64 0,p,.int .i64 (a - p)] := hh_ 1 (by decide)
    have e4 : o 4 = .int .i64 0 := hh_ 4 (by decide)
    rw [e0,e1,e4]
   ·intro W3 h3
    have h3 : KL _ _ W3 := h3
    obtain ⟨iL0,i0_0,i0_1,i0_2⟩ := bl3 (KL.blk h3 (.head _))
    obtain ⟨iL1,i1_0,i1_1,i1_2⟩ := bl3 (KL.blk h3 (.tail _ (.head _)))
    obtain ⟨iL2,i2_0,i2_1,i2_2⟩ := bl3 (KL.blk h3 (.tail _ (.tail _ (.head _))))
    obtain ⟨iL3,i3_0,i3_1,i3_2⟩ := bl3 (KL.blk h3 (.tail _ (.tail _ (.tail _ (.head _)))))
    obtain ⟨iL4,i4_0,i4_1,i4_2⟩ := bl3 (KL.blk h3 (.tail _ (.tail _ (.tail _ (.tail _ (.head _))))))
    obtain ⟨iL5,i5_0,i5_1,i5_2⟩ := bl3 (KL.blk h3 (.tail _ (.tail _ (.tail _ (.tail _ (.tail _ (.head _)))))))
    have iF5 := (KL.blk h3 (.tail _ (.tail _ (.tail _ (.tail _ (.tail _ (.head _))))))).frozen
    obtain ⟨iL6,i6_0,i6_1,i6_2,i6_3,i6_4,i6_5⟩ := bl6 (KL.blk h3 (.tail _ (.tail _ (.tail _ (.tail _ (.tail _ (.tail _ (.head _))))))))
    have iF6 := (KL.blk h3 (.tail _ (.tail _ (.tail _ (.tail _ (.tail _ (.tail _ (.head _)))))))).frozen
    obtain ⟨iL7,i7_0,i7_1,i7_2,i7_3,i7_4,i7_5⟩ := bl6 (KL.blk h3 (.tail _ (.tail _ (.tail _ (.tail _ (.tail _ (.tail _ (.tail _ (.head _)))))))))
    obtain ⟨iL8,i8_0,i8_1,i8_2,i8_3,i8_4,i8_5⟩ := bl6 (KL.blk h3 (.tail _ (.tail _ (.tail _ (.tail _ (.tail _ (.tail _ (.tail _ (.tail _ (.head _))))))))))
    have iF8 := (KL.blk h3 (.tail _ (.tail _ (.tail _ (.tail _ (.tail _ (.tail _ (.tail _ (.tail _ (.head _)))))))))).frozen
    have hjb := h3.1
    have hjz := hjb.size
    go_wp2
    exact bodyPost_ret (v := .tuple #[.agg #[x,y,z,d,q,r],.agg #[.int .i64 0,p,.int .i64 (a - p)],.int .i64 0]) (by simp [results,Try.results20,go_sem,i6_0,i6_1,i6_2,i6_3,i6_4,i6_5,i5_0,i5_1,i5_2]) rfl ⟨rfl,hjb⟩
end Go.Proofs.Ytogmgaaejepcbaa
