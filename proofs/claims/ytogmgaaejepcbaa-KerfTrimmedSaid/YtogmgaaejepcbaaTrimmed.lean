/- KerfTrimmed: the piece,what is lost and what the cuts of Trim take away fill the box; at most six cuts; a box is trimmed to itself without any. No condition. -/
import Derived.Test.YtogmgaaejepcbaaCor
import Derived.Test.YtogmgaaejepcbaaAwk
import Derived.Test.YtogmgaaejepcbaaTrb
import Derived.Test.YtogmgaaejepcbaaTrl
import Derived.Test.YtogmgaaejepcbaaVpo
import Derived.Test.YtogmgaaejepcbaaEqc
import Derived.Test.YtogmgaaejepcbaaReg
import Derived.Test.YtogmgaaejepcbaaLfk
namespace Go.Proofs.Ytogmgaaejepcbaa
open Go.ChangeShapes Go.WideShapes Go.ChangeAt Go.RowKit Go.Deep

set_option maxHeartbeats 16000000 in
set_option maxRecDepth 100000 in
theorem trd_z (x y z p q r a b c d s u k L V1 V2 : Int) (ht : ∀ w,Calls Try.prog 34 #[.agg #[x,y,z,p,q,r],.agg #[a,b,c,d,s,u],.int .i64 k] w fun e w' => ∃ A cp,e = .returned (.tuple #[.slice A 0 cp,.int .i64 L,.int .i64 0]) ∧ Below w.heap.size w w') (ht2 : ∀ w,Calls Try.prog 34 #[.agg #[x,y,z,p,q,r],.agg #[x,y,z,p,q,r],.int .i64 k] w fun e w' => ∃ A cp,e = .returned (.tuple #[.slice A 0 cp,.int .i64 0,.int .i64 0]) ∧ Below w.heap.size w w')
  (hv1 : ∀ w,Calls Try.prog 38 #[.agg #[x,y,z,p,q,r]] w fun e w' => e = .returned (.int .i64 V1) ∧ Below w.heap.size w w') (hv2 : ∀ w,Calls Try.prog 38 #[.agg #[a,b,c,d,s,u]] w fun e w' => e = .returned (.int .i64 V2) ∧ Below w.heap.size w w') (hs : V2 + L = V1) (hL0 : 0 ≤ L) (hVb : V1 ≤ 8000000000000000000) (hV0 : 0 ≤ V2) (w : World) : Calls Try.prog 11 #[.agg #[x,y,z,p,q,r],.agg #[a,b,c,d,s,u],.int .i64 k] w fun e w' => e = .returned (.bool true) ∧ Below w.heap.size w w' := by
 have hA := awake_any
 have x1 : IntKind.i64.wrap (V1 - V2) = V1 - V2 := IntWalk.i64_in _ (by omega)
 have x2 : IntKind.i64.wrap (V2 + L) = V2 + L := IntWalk.i64_in _ (by omega)
 have x3 : decide (L < 0) = false := by simp <;> omega
 have x4 : decide (V1 - V2 < L) = false := by simp <;> omega
 have x5 : (V2 + L == V1) = true := by rw [beq_iff_eq]; exact hs
 clear hs
 
 clear hL0 hVb hV0
 go_enter Try.func11,Try.ntmps11
 go_wp2_with (first | (go_at_call 12; refine (hA _).mono ?_; rintro e w1 ⟨rfl,hb1⟩; obtain ⟨hc1,hf1⟩ := bcell hb1; have hz1 := hb1.size; (try simp at hz1); (try have y10 : w.heap.size < w1.heap.size := (by omega)); (try have y10p : w.heap.size < w1.heap.size + 1 := (by omega)); (try have y11 : w.heap.size + 1 < w1.heap.size := (by omega)); (try have y11p : w.heap.size + 1 < w1.heap.size + 1 := (by omega)); (try have y12 : w.heap.size + 1 + 1 < w1.heap.size := (by omega)); (try have y12p : w.heap.size + 1 + 1 < w1.heap.size + 1 := (by omega)); (try have y13 : w.heap.size + 1 + 1 + 1 < w1.heap.size := (by omega)); (try have y13p : w.heap.size + 1 + 1 + 1 < w1.heap.size + 1 := (by omega)); (try have y14 : w.heap.size + 1 + 1 + 1 + 1 < w1.heap.size := (by omega)); (try have y14p : w.heap.size + 1 + 1 + 1 + 1 < w1.heap.size + 1 := (by omega)); (try have v0x1 : w0.heap.size < w1.heap.size := (by omega)); (try have v0x1p : w0.heap.size < w1.heap.size + 1 := (by omega))) | (revert hb2; intro hb2; go_at_call 34; refine (ht2 _).mono ?_; rintro e w3 ⟨A2,cp2,rfl,hb3⟩; obtain ⟨hc3,hf3⟩ := bcell hb3; have hz3 := hb3.size; (try simp at hz3); (try have y30 : w.heap.size < w3.heap.size := (by omega)); (try have y30p : w.heap.size < w3.heap.size + 1 := (by omega)); (try have y31 : w.heap.size + 1 < w3.heap.size := (by omega)); (try have y31p : w.heap.size + 1 < w3.heap.size + 1 := (by omega)); (try have y32 : w.heap.size + 1 + 1 < w3.heap.size := (by omega)); (try have y32p : w.heap.size + 1 + 1 < w3.heap.size + 1 := (by omega)); (try have y33 : w.heap.size + 1 + 1 + 1 < w3.heap.size := (by omega)); (try have y33p : w.heap.size + 1 + 1 + 1 < w3.heap.size + 1 := (by omega)); (try have y34 : w.heap.size + 1 + 1 + 1 + 1 < w3.heap.size := (by omega)); (try have y34p : w.heap.size + 1 + 1 + 1 + 1 < w3.heap.size + 1 := (by omega)); (try have v0x3 : w0.heap.size < w3.heap.size := (by omega)); (try have v0x3p : w0.heap.size < w3.heap.size + 1 := (by omega)); (try have v1x3 : w1.heap.size < w3.heap.size := (by omega)); (try have v1x3p : w1.heap.size < w3.heap.size + 1 := (by omega)); (try have v2x3 : w2.heap.size < w3.heap.size := (by omega)); (try have v2x3p : w2.heap.size < w3.heap.size + 1 := (by omega))) | (go_at_call 34; refine (ht _).mono ?_; rintro e w2 ⟨A1,cp1,rfl,hb2⟩; obtain ⟨hc2,hf2⟩ := bcell hb2; have hz2 := hb2.size; (try simp at hz2); (try have y20 : w.heap.size < w2.heap.size := (by omega)); (try have y20p : w.heap.size < w2.heap.size + 1 := (by omega)); (try have y21 : w.heap.size + 1 < w2.heap.size := (by omega)); (try have y21p : w.heap.size + 1 < w2.heap.size + 1 := (by omega)); (try have y22 : w.heap.size + 1 + 1 < w2.heap.size := (by omega)); (try have y22p : w.heap.size + 1 + 1 < w2.heap.size + 1 := (by omega)); (try have y23 : w.heap.size + 1 + 1 + 1 < w2.heap.size := (by omega)); (try have y23p : w.heap.size + 1 + 1 + 1 < w2.heap.size + 1 := (by omega)); (try have y24 : w.heap.size + 1 + 1 + 1 + 1 < w2.heap.size := (by omega)); (try have y24p : w.heap.size + 1 + 1 + 1 + 1 < w2.heap.size + 1 := (by omega)); (try have v0x2 : w0.heap.size < w2.heap.size := (by omega)); (try have v0x2p : w0.heap.size < w2.heap.size + 1 := (by omega)); (try have v1x2 : w1.heap.size < w2.heap.size := (by omega)); (try have v1x2p : w1.heap.size < w2.heap.size + 1 := (by omega))))
 refine wp_region_any (by kernel_rfl) ?_
 try (change wpAny _ _ _ _ _ _ _ (World.drew _))
 refine wpAny_vals (fr := fun o => #[.agg #[x,y,z,p,q,r],.agg #[a,b,c,d,s,u],.int .i64 k,.pointer (some ⟨w.heap.size,0,none⟩),.pointer (some ⟨(w.heap.size + 1),0,none⟩),undef,.bool false,.slice A1 0 cp1,.int .i64 L,.int .i64 0,.slice A2 0 cp2,.int .i64 0,.int .i64 0,.bool true,.bool false,.tuple #[.slice A1 0 cp1,.int .i64 L,.int .i64 0],.agg #[x,y,z,p,q,r],.agg #[a,b,c,d,s,u],.int .i64 k,.tuple #[.slice A1 0 cp1,.int .i64 L,.int .i64 0],.slice A1 0 cp1,.int .i64 L,.int .i64 0,.int .i64 0,.bool false,undef,undef,undef,undef,undef,undef,undef,.tuple #[.slice A2 0 cp2,.int .i64 0,.int .i64 0],.agg #[x,y,z,p,q,r],.agg #[x,y,z,p,q,r],.int .i64 k,.tuple #[.slice A2 0 cp2,.int .i64 0,.int .i64 0],.slice A2 0 cp2,.int .i64 0,.int .i64 0,o 0,o 1,o 2,o 3,o 4,o 5,o 6,o 7,o 8,o 9,o 10,o 11,o 12,o 13,o 14,o 15,o 16,o 17,o 18,o 19,o 20,o 21,o 22,o 23,o 24,o 25,o 26,o 27,o 28,undef,undef,undef,undef,undef,undef,undef,undef,undef,undef,undef,undef]) (vals := fun i_ => ([.int .i64 0,.bool false,.bool false,.slice A2 0 cp2,.int .i64 0,.bool false,.bool false,.bool false,.int .i64 0,.bool false,.bool false,.bool false,.slice A1 0 cp1,.int .i64 0,.bool false,.bool false,.bool false,.int .i64 L,.bool false,.bool false,.bool false,.int .i64 L,.agg #[x,y,z,p,q,r],.int .i64 V1,.agg #[a,b,c,d,s,u],.int .i64 V2,.int .i64 (V1 - V2),.bool false,.bool false] : List Value).getD i_ undef) (Kf := fun _ => True) (K := fun kk_ => ([(KL [((w.heap.size + 1),25,#[a,b,c,d,s,u]),(w.heap.size,25,#[x,y,z,p,q,r])] w)] : List (World → Prop)).getD kk_ (fun _ => True)) (dep := fun i_ => [[],[0],[1],[2],[2,3],[2,4],[2,5],[6],[7],[7,8],[7,9],[10],[11],[11,12],[11,13],[11,14],[15],[16],[16,17],[16,18],[19],[20],[20],[20,22],[20],[20,24],[20,23,25],[20,21,26],[20,27]].getD i_ []) (dv := fun i_ => [[],[0],[1],[2],[2,3],[2,4],[2,5],[6],[7],[7,8],[7,9],[10],[11],[11,12],[11,13],[11,14],[15],[16],[16,17],[16,18],[19],[20],[20],[20,22],[20],[20,24],[20,23,25],[20,21,26],[20,27]].getD i_ []) (kd := fun i_ => [0,0,0,0,0,0,0,0,0,0,0,0,0,0,0,0,0,0,0,0,0,0,1,1,1,1,0,0,0].getD i_ 0) (ss := []) (l := [0,1,2,3,4,5,6,7,8,9,10,11,12,13,14,15,16,17,18,19,20,21,22,23,24,25,26,27,28]) (f0 := fun _ => undef) (A := ?A2) 29 rfl rfl (by decide +kernel) (by decide +kernel) ?_ ?_ ⟨?_,?_,?_,?_,?_,?_,?_,?_,?_,?_,?_,?_,?_,?_,?_,?_,?_,?_,?_,?_,?_,?_,?_,?_,?_,?_,?_,?_,?_,trivial⟩ ?_ ?_
 rotate_left
 ·exact KL.drew (KL.over (KL.over (KL.over (KL.new (g := (w.heap.size + 1)) (KL.new (g := w.heap.size) (KL.nil w) rfl _ _) (by simp) _ _) hb1) hb2) hb3)
 ·exact fun _ _ _ _ => trivial
 ·intro o W _
  show wpOp _ _ _ 0 _ ⟨#[_,_,_,_,_,_,_,_,_,_,_,_,_,_,_,_,_,_,_,_,_,_,_,_,_,_,_,_,_,_,_,_,_,_,_,_,_,_,_,_,o 0,o 1,o 2,o 3,o 4,o 5,o 6,o 7,o 8,o 9,o 10,o 11,o 12,o 13,o 14,o 15,o 16,o 17,o 18,o 19,o 20,o 21,o 22,o 23,o 24,o 25,o 26,o 27,o 28,_,_,_,_,_,_,_,_,_,_,_,_],[]⟩ W
  refine wpOp_step rfl fun _ hK => ?_
  go_simp
  exact hK _ _ ⟨rfl,rfl⟩
 ·intro o W _
  show wpOp _ _ _ 1 _ ⟨#[_,_,_,_,_,_,_,_,_,_,_,_,_,_,_,_,_,_,_,_,_,_,_,_,_,_,_,_,_,_,_,_,_,_,_,_,_,_,_,_,.int .i64 0,o 1,o 2,o 3,o 4,o 5,o 6,o 7,o 8,o 9,o 10,o 11,o 12,o 13,o 14,o 15,o 16,o 17,o 18,o 19,o 20,o 21,o 22,o 23,o 24,o 25,o 26,o 27,o 28,_,_,_,_,_,_,_,_,_,_,_,_],[]⟩ W
  refine wpOp_step rfl fun _ hK => ?_
  go_simp
  exact hK _ _ ⟨rfl,rfl⟩
 ·intro o W _
  show wpOp _ _ _ 2 _ ⟨#[_,_,_,_,_,_,_,_,_,_,_,_,_,_,_,_,_,_,_,_,_,_,_,_,_,_,_,_,_,_,_,_,_,_,_,_,_,_,_,_,o 0,.bool false,o 2,o 3,o 4,o 5,o 6,o 7,o 8,o 9,o 10,o 11,o 12,o 13,o 14,o 15,o 16,o 17,o 18,o 19,o 20,o 21,o 22,o 23,o 24,o 25,o 26,o 27,o 28,_,_,_,_,_,_,_,_,_,_,_,_],[]⟩ W
  refine wpOp_step rfl fun _ hK => ?_
  go_simp
  exact hK _ _ ⟨rfl,rfl⟩
 ·intro o W _
  show wpOp _ _ _ 3 _ ⟨#[_,_,_,_,_,_,_,_,_,_,_,_,_,_,_,_,_,_,_,_,_,_,_,_,_,_,_,_,_,_,_,_,_,_,_,_,_,_,_,_,o 0,o 1,.bool false,o 3,o 4,o 5,o 6,o 7,o 8,o 9,o 10,o 11,o 12,o 13,o 14,o 15,o 16,o 17,o 18,o 19,o 20,o 21,o 22,o 23,o 24,o 25,o 26,o 27,o 28,_,_,_,_,_,_,_,_,_,_,_,_],[]⟩ W
  refine wpOp_step rfl fun _ hK => ?_
  go_simp
  exact hK _ _ ⟨rfl,rfl⟩
 ·intro o W _
  show wpOp _ _ _ 4 _ ⟨#[_,_,_,_,_,_,_,_,_,_,_,_,_,_,_,_,_,_,_,_,_,_,_,_,_,_,_,_,_,_,_,_,_,_,_,_,_,_,_,_,o 0,o 1,.bool false,.slice A2 0 cp2,o 4,o 5,o 6,o 7,o 8,o 9,o 10,o 11,o 12,o 13,o 14,o 15,o 16,o 17,o 18,o 19,o 20,o 21,o 22,o 23,o 24,o 25,o 26,o 27,o 28,_,_,_,_,_,_,_,_,_,_,_,_],[]⟩ W
  refine wpOp_step rfl fun _ hK => ?_
  go_simp
  exact hK _ _ ⟨rfl,rfl⟩
 ·intro o W _
  show wpOp _ _ _ 5 _ ⟨#[_,_,_,_,_,_,_,_,_,_,_,_,_,_,_,_,_,_,_,_,_,_,_,_,_,_,_,_,_,_,_,_,_,_,_,_,_,_,_,_,o 0,o 1,.bool false,o 3,.int .i64 0,o 5,o 6,o 7,o 8,o 9,o 10,o 11,o 12,o 13,o 14,o 15,o 16,o 17,o 18,o 19,o 20,o 21,o 22,o 23,o 24,o 25,o 26,o 27,o 28,_,_,_,_,_,_,_,_,_,_,_,_],[]⟩ W
  refine wpOp_step rfl fun _ hK => ?_
  go_simp
  exact hK _ _ ⟨rfl,rfl⟩
 ·intro o W _
  show wpOp _ _ _ 6 _ ⟨#[_,_,_,_,_,_,_,_,_,_,_,_,_,_,_,_,_,_,_,_,_,_,_,_,_,_,_,_,_,_,_,_,_,_,_,_,_,_,_,_,o 0,o 1,.bool false,o 3,o 4,.bool false,o 6,o 7,o 8,o 9,o 10,o 11,o 12,o 13,o 14,o 15,o 16,o 17,o 18,o 19,o 20,o 21,o 22,o 23,o 24,o 25,o 26,o 27,o 28,_,_,_,_,_,_,_,_,_,_,_,_],[]⟩ W
  refine wpOp_step rfl fun _ hK => ?_
  go_simp
  exact hK _ _ ⟨rfl,rfl⟩
 ·intro o W _
  show wpOp _ _ _ 7 _ ⟨#[_,_,_,_,_,_,_,_,_,_,_,_,_,_,_,_,_,_,_,_,_,_,_,_,_,_,_,_,_,_,_,_,_,_,_,_,_,_,_,_,o 0,o 1,o 2,o 3,o 4,o 5,.bool false,o 7,o 8,o 9,o 10,o 11,o 12,o 13,o 14,o 15,o 16,o 17,o 18,o 19,o 20,o 21,o 22,o 23,o 24,o 25,o 26,o 27,o 28,_,_,_,_,_,_,_,_,_,_,_,_],[]⟩ W
  refine wpOp_step rfl fun _ hK => ?_
  go_simp
  exact hK _ _ ⟨rfl,rfl⟩
 ·intro o W _
  show wpOp _ _ _ 8 _ ⟨#[_,_,_,_,_,_,_,_,_,_,_,_,_,_,_,_,_,_,_,_,_,_,_,_,_,_,_,_,_,_,_,_,_,_,_,_,_,_,_,_,o 0,o 1,o 2,o 3,o 4,o 5,o 6,.bool false,o 8,o 9,o 10,o 11,o 12,o 13,o 14,o 15,o 16,o 17,o 18,o 19,o 20,o 21,o 22,o 23,o 24,o 25,o 26,o 27,o 28,_,_,_,_,_,_,_,_,_,_,_,_],[]⟩ W
  refine wpOp_step rfl fun _ hK => ?_
  go_simp
  exact hK _ _ ⟨rfl,rfl⟩
 ·intro o W _
  show wpOp _ _ _ 9 _ ⟨#[_,_,_,_,_,_,_,_,_,_,_,_,_,_,_,_,_,_,_,_,_,_,_,_,_,_,_,_,_,_,_,_,_,_,_,_,_,_,_,_,o 0,o 1,o 2,o 3,o 4,o 5,o 6,.bool false,.int .i64 0,o 9,o 10,o 11,o 12,o 13,o 14,o 15,o 16,o 17,o 18,o 19,o 20,o 21,o 22,o 23,o 24,o 25,o 26,o 27,o 28,_,_,_,_,_,_,_,_,_,_,_,_],[]⟩ W
  refine wpOp_step rfl fun _ hK => ?_
  go_simp
  exact hK _ _ ⟨rfl,rfl⟩
 ·intro o W _
  show wpOp _ _ _ 10 _ ⟨#[_,_,_,_,_,_,_,_,_,_,_,_,_,_,_,_,_,_,_,_,_,_,_,_,_,_,_,_,_,_,_,_,_,_,_,_,_,_,_,_,o 0,o 1,o 2,o 3,o 4,o 5,o 6,.bool false,o 8,.bool false,o 10,o 11,o 12,o 13,o 14,o 15,o 16,o 17,o 18,o 19,o 20,o 21,o 22,o 23,o 24,o 25,o 26,o 27,o 28,_,_,_,_,_,_,_,_,_,_,_,_],[]⟩ W
  refine wpOp_step rfl fun _ hK => ?_
  go_simp
  exact hK _ _ ⟨rfl,rfl⟩
 ·intro o W _
  show wpOp _ _ _ 11 _ ⟨#[_,_,_,_,_,_,_,_,_,_,_,_,_,_,_,_,_,_,_,_,_,_,_,_,_,_,_,_,_,_,_,_,_,_,_,_,_,_,_,_,o 0,o 1,o 2,o 3,o 4,o 5,o 6,o 7,o 8,o 9,.bool false,o 11,o 12,o 13,o 14,o 15,o 16,o 17,o 18,o 19,o 20,o 21,o 22,o 23,o 24,o 25,o 26,o 27,o 28,_,_,_,_,_,_,_,_,_,_,_,_],[]⟩ W
  refine wpOp_step rfl fun _ hK => ?_
  go_simp
  exact hK _ _ ⟨rfl,rfl⟩
 ·intro o W _
  show wpOp _ _ _ 12 _ ⟨#[_,_,_,_,_,_,_,_,_,_,_,_,_,_,_,_,_,_,_,_,_,_,_,_,_,_,_,_,_,_,_,_,_,_,_,_,_,_,_,_,o 0,o 1,o 2,o 3,o 4,o 5,o 6,o 7,o 8,o 9,o 10,.bool false,o 12,o 13,o 14,o 15,o 16,o 17,o 18,o 19,o 20,o 21,o 22,o 23,o 24,o 25,o 26,o 27,o 28,_,_,_,_,_,_,_,_,_,_,_,_],[]⟩ W
  refine wpOp_step rfl fun _ hK => ?_
  go_simp
  exact hK _ _ ⟨rfl,rfl⟩
 ·intro o W _
  show wpOp _ _ _ 13 _ ⟨#[_,_,_,_,_,_,_,_,_,_,_,_,_,_,_,_,_,_,_,_,_,_,_,_,_,_,_,_,_,_,_,_,_,_,_,_,_,_,_,_,o 0,o 1,o 2,o 3,o 4,o 5,o 6,o 7,o 8,o 9,o 10,.bool false,.slice A1 0 cp1,o 13,o 14,o 15,o 16,o 17,o 18,o 19,o 20,o 21,o 22,o 23,o 24,o 25,o 26,o 27,o 28,_,_,_,_,_,_,_,_,_,_,_,_],[]⟩ W
  refine wpOp_step rfl fun _ hK => ?_
  go_simp
  exact hK _ _ ⟨rfl,rfl⟩
 ·intro o W _
  show wpOp _ _ _ 14 _ ⟨#[_,_,_,_,_,_,_,_,_,_,_,_,_,_,_,_,_,_,_,_,_,_,_,_,_,_,_,_,_,_,_,_,_,_,_,_,_,_,_,_,o 0,o 1,o 2,o 3,o 4,o 5,o 6,o 7,o 8,o 9,o 10,.bool false,o 12,.int .i64 0,o 14,o 15,o 16,o 17,o 18,o 19,o 20,o 21,o 22,o 23,o 24,o 25,o 26,o 27,o 28,_,_,_,_,_,_,_,_,_,_,_,_],[]⟩ W
  refine wpOp_step rfl fun _ hK => ?_
  go_simp
  exact hK _ _ ⟨rfl,rfl⟩
 ·intro o W _
  show wpOp _ _ _ 15 _ ⟨#[_,_,_,_,_,_,_,_,_,_,_,_,_,_,_,_,_,_,_,_,_,_,_,_,_,_,_,_,_,_,_,_,_,_,_,_,_,_,_,_,o 0,o 1,o 2,o 3,o 4,o 5,o 6,o 7,o 8,o 9,o 10,.bool false,o 12,o 13,.bool false,o 15,o 16,o 17,o 18,o 19,o 20,o 21,o 22,o 23,o 24,o 25,o 26,o 27,o 28,_,_,_,_,_,_,_,_,_,_,_,_],[]⟩ W
  refine wpOp_step rfl fun _ hK => ?_
  go_simp
  exact hK _ _ ⟨rfl,rfl⟩
 ·intro o W _
  show wpOp _ _ _ 16 _ ⟨#[_,_,_,_,_,_,_,_,_,_,_,_,_,_,_,_,_,_,_,_,_,_,_,_,_,_,_,_,_,_,_,_,_,_,_,_,_,_,_,_,o 0,o 1,o 2,o 3,o 4,o 5,o 6,o 7,o 8,o 9,o 10,o 11,o 12,o 13,o 14,.bool false,o 16,o 17,o 18,o 19,o 20,o 21,o 22,o 23,o 24,o 25,o 26,o 27,o 28,_,_,_,_,_,_,_,_,_,_,_,_],[]⟩ W
  refine wpOp_step rfl fun _ hK => ?_
  go_simp
  exact hK _ _ ⟨rfl,rfl⟩
 ·intro o W _
  show wpOp _ _ _ 17 _ ⟨#[_,_,_,_,_,_,_,_,_,_,_,_,_,_,_,_,_,_,_,_,_,_,_,_,_,_,_,_,_,_,_,_,_,_,_,_,_,_,_,_,o 0,o 1,o 2,o 3,o 4,o 5,o 6,o 7,o 8,o 9,o 10,o 11,o 12,o 13,o 14,o 15,.bool false,o 17,o 18,o 19,o 20,o 21,o 22,o 23,o 24,o 25,o 26,o 27,o 28,_,_,_,_,_,_,_,_,_,_,_,_],[]⟩ W
  refine wpOp_step rfl fun _ hK => ?_
  go_simp
  exact hK _ _ ⟨rfl,rfl⟩
 ·intro o W _
  show wpOp _ _ _ 18 _ ⟨#[_,_,_,_,_,_,_,_,_,_,_,_,_,_,_,_,_,_,_,_,_,_,_,_,_,_,_,_,_,_,_,_,_,_,_,_,_,_,_,_,o 0,o 1,o 2,o 3,o 4,o 5,o 6,o 7,o 8,o 9,o 10,o 11,o 12,o 13,o 14,o 15,.bool false,.int .i64 L,o 18,o 19,o 20,o 21,o 22,o 23,o 24,o 25,o 26,o 27,o 28,_,_,_,_,_,_,_,_,_,_,_,_],[]⟩ W
  refine wpOp_step rfl fun _ hK => ?_
  go_simp
  exact hK _ _ ⟨rfl,rfl⟩
 ·intro o W _
  show wpOp _ _ _ 19 _ ⟨#[_,_,_,_,_,_,_,_,_,_,_,_,_,_,_,_,_,_,_,_,_,_,_,_,_,_,_,_,_,_,_,_,_,_,_,_,_,_,_,_,o 0,o 1,o 2,o 3,o 4,o 5,o 6,o 7,o 8,o 9,o 10,o 11,o 12,o 13,o 14,o 15,.bool false,o 17,.bool false,o 19,o 20,o 21,o 22,o 23,o 24,o 25,o 26,o 27,o 28,_,_,_,_,_,_,_,_,_,_,_,_],[]⟩ W
  refine wpOp_step rfl fun _ hK => ?_
  go_simp
  exact hK _ _ ⟨rfl,rfl⟩
 ·intro o W _
  show wpOp _ _ _ 20 _ ⟨#[_,_,_,_,_,_,_,_,_,_,_,_,_,_,_,_,_,_,_,_,_,_,_,_,_,_,_,_,_,_,_,_,_,_,_,_,_,_,_,_,o 0,o 1,o 2,o 3,o 4,o 5,o 6,o 7,o 8,o 9,o 10,o 11,o 12,o 13,o 14,o 15,o 16,o 17,o 18,.bool false,o 20,o 21,o 22,o 23,o 24,o 25,o 26,o 27,o 28,_,_,_,_,_,_,_,_,_,_,_,_],[]⟩ W
  refine wpOp_step rfl fun _ hK => ?_
  go_simp
  exact hK _ _ ⟨rfl,rfl⟩
 ·intro o W _
  show wpOp _ _ _ 21 _ ⟨#[_,_,_,_,_,_,_,_,_,_,_,_,_,_,_,_,_,_,_,_,_,_,_,_,_,_,_,_,_,_,_,_,_,_,_,_,_,_,_,_,o 0,o 1,o 2,o 3,o 4,o 5,o 6,o 7,o 8,o 9,o 10,o 11,o 12,o 13,o 14,o 15,o 16,o 17,o 18,o 19,.bool false,o 21,o 22,o 23,o 24,o 25,o 26,o 27,o 28,_,_,_,_,_,_,_,_,_,_,_,_],[]⟩ W
  refine wpOp_step rfl fun _ hK => ?_
  go_simp
  exact hK _ _ ⟨rfl,rfl⟩
 ·intro o W hj
  have hj : KL _ _ W := hj
  obtain ⟨cL,c0,c1,c2,c3,c4,c5⟩ := bl6 (KL.blk hj (.tail _ (.head _)))
  show wpOp _ _ _ 22 _ ⟨#[_,_,_,_,_,_,_,_,_,_,_,_,_,_,_,_,_,_,_,_,_,_,_,_,_,_,_,_,_,_,_,_,_,_,_,_,_,_,_,_,o 0,o 1,o 2,o 3,o 4,o 5,o 6,o 7,o 8,o 9,o 10,o 11,o 12,o 13,o 14,o 15,o 16,o 17,o 18,o 19,.bool false,o 21,o 22,o 23,o 24,o 25,o 26,o 27,o 28,_,_,_,_,_,_,_,_,_,_,_,_],[]⟩ W
  refine wpOp_step rfl fun _ hK => ?_
  go_simp
  exact hK _ _ ⟨rfl,hj⟩
 ·intro o W hj
  have hj : KL _ _ W := hj
  show wpOp _ _ _ 23 _ ⟨#[_,_,_,_,_,_,_,_,_,_,_,_,_,_,_,_,_,_,_,_,_,_,_,_,_,_,_,_,_,_,_,_,_,_,_,_,_,_,_,_,o 0,o 1,o 2,o 3,o 4,o 5,o 6,o 7,o 8,o 9,o 10,o 11,o 12,o 13,o 14,o 15,o 16,o 17,o 18,o 19,.bool false,o 21,.agg #[x,y,z,p,q,r],o 23,o 24,o 25,o 26,o 27,o 28,_,_,_,_,_,_,_,_,_,_,_,_],[]⟩ W
  refine wpOp_step rfl fun _ hK => ?_
  go_simp
  refine (hv1 _).mono ?_
  rintro e W1 ⟨rfl,hb1⟩
  exact hK _ _ ⟨rfl,hj.over hb1⟩
 ·intro o W hj
  have hj : KL _ _ W := hj
  obtain ⟨cL,c0,c1,c2,c3,c4,c5⟩ := bl6 (KL.blk hj (.head _))
  show wpOp _ _ _ 24 _ ⟨#[_,_,_,_,_,_,_,_,_,_,_,_,_,_,_,_,_,_,_,_,_,_,_,_,_,_,_,_,_,_,_,_,_,_,_,_,_,_,_,_,o 0,o 1,o 2,o 3,o 4,o 5,o 6,o 7,o 8,o 9,o 10,o 11,o 12,o 13,o 14,o 15,o 16,o 17,o 18,o 19,.bool false,o 21,o 22,o 23,o 24,o 25,o 26,o 27,o 28,_,_,_,_,_,_,_,_,_,_,_,_],[]⟩ W
  refine wpOp_step rfl fun _ hK => ?_
  go_simp
  exact hK _ _ ⟨rfl,hj⟩
 ·intro o W hj
  have hj : KL _ _ W := hj
  show wpOp _ _ _ 25 _ ⟨#[_,_,_,_,_,_,_,_,_,_,_,_,_,_,_,_,_,_,_,_,_,_,_,_,_,_,_,_,_,_,_,_,_,_,_,_,_,_,_,_,o 0,o 1,o 2,o 3,o 4,o 5,o 6,o 7,o 8,o 9,o 10,o 11,o 12,o 13,o 14,o 15,o 16,o 17,o 18,o 19,.bool false,o 21,o 22,o 23,.agg #[a,b,c,d,s,u],o 25,o 26,o 27,o 28,_,_,_,_,_,_,_,_,_,_,_,_],[]⟩ W
  refine wpOp_step rfl fun _ hK => ?_
  go_simp
  refine (hv2 _).mono ?_
  rintro e W1 ⟨rfl,hb1⟩
  exact hK _ _ ⟨rfl,hj.over hb1⟩
 ·intro o W _
  show wpOp _ _ _ 26 _ ⟨#[_,_,_,_,_,_,_,_,_,_,_,_,_,_,_,_,_,_,_,_,_,_,_,_,_,_,_,_,_,_,_,_,_,_,_,_,_,_,_,_,o 0,o 1,o 2,o 3,o 4,o 5,o 6,o 7,o 8,o 9,o 10,o 11,o 12,o 13,o 14,o 15,o 16,o 17,o 18,o 19,.bool false,o 21,o 22,.int .i64 V1,o 24,.int .i64 V2,o 26,o 27,o 28,_,_,_,_,_,_,_,_,_,_,_,_],[]⟩ W
  refine wpOp_step rfl fun _ hK => ?_
  go_simp
  exact hK _ _ ⟨rfl,rfl⟩
 ·intro o W _
  show wpOp _ _ _ 27 _ ⟨#[_,_,_,_,_,_,_,_,_,_,_,_,_,_,_,_,_,_,_,_,_,_,_,_,_,_,_,_,_,_,_,_,_,_,_,_,_,_,_,_,o 0,o 1,o 2,o 3,o 4,o 5,o 6,o 7,o 8,o 9,o 10,o 11,o 12,o 13,o 14,o 15,o 16,o 17,o 18,o 19,.bool false,.int .i64 L,o 22,o 23,o 24,o 25,.int .i64 (V1 - V2),o 27,o 28,_,_,_,_,_,_,_,_,_,_,_,_],[]⟩ W
  refine wpOp_step rfl fun _ hK => ?_
  go_simp
  exact hK _ _ ⟨rfl,rfl⟩
 ·intro o W _
  show wpOp _ _ _ 28 _ ⟨#[_,_,_,_,_,_,_,_,_,_,_,_,_,_,_,_,_,_,_,_,_,_,_,_,_,_,_,_,_,_,_,_,_,_,_,_,_,_,_,_,o 0,o 1,o 2,o 3,o 4,o 5,o 6,o 7,o 8,o 9,o 10,o 11,o 12,o 13,o 14,o 15,o 16,o 17,o 18,o 19,.bool false,o 21,o 22,o 23,o 24,o 25,o 26,.bool false,o 28,_,_,_,_,_,_,_,_,_,_,_,_],[]⟩ W
  refine wpOp_step rfl fun _ hK => ?_
  go_simp
  exact hK _ _ ⟨rfl,rfl⟩
 ·intro o hh_
  have e0 : o 0 = .int .i64 0 := hh_ 0 (by decide)
  have e1 : o 1 = .bool false := hh_ 1 (by decide)
  have e2 : o 2 = .bool false := hh_ 2 (by decide)
  have e3 : o 3 = .slice A2 0 cp2 := hh_ 3 (by decide)
  have e4 : o 4 = .int .i64 0 := hh_ 4 (by decide)
  have e5 : o 5 = .bool false := hh_ 5 (by decide)
  have e6 : o 6 = .bool false := hh_ 6 (by decide)
  have e7 : o 7 = .bool false := hh_ 7 (by decide)
  have e8 : o 8 = .int .i64 0 := hh_ 8 (by decide)
  have e9 : o 9 = .bool false := hh_ 9 (by decide)
  have e10 : o 10 = .bool false := hh_ 10 (by decide)
  have e11 : o 11 = .bool false := hh_ 11 (by decide)
  have e12 : o 12 = .slice A1 0 cp1 := hh_ 12 (by decide)
  have e13 : o 13 = .int .i64 0 := hh_ 13 (by decide)
  have e14 : o 14 = .bool false := hh_ 14 (by decide)
  have e15 : o 15 = .bool false := hh_ 15 (by decide)
  have e16 : o 16 = .bool false := hh_ 16 (by decide)
  have e17 : o 17 = .int .i64 L := hh_ 17 (by decide)
  have e18 : o 18 = .bool false := hh_ 18 (by decide)
  have e19 : o 19 = .bool false := hh_ 19 (by decide)
  have e20 : o 20 = .bool false := hh_ 20 (by decide)
  have e21 : o 21 = .int .i64 L := hh_ 21 (by decide)
  have e22 : o 22 = .agg #[x,y,z,p,q,r] := hh_ 22 (by decide)
  have e23 : o 23 = .int .i64 V1 := hh_ 23 (by decide)
  have e24 : o 24 = .agg #[a,b,c,d,s,u] := hh_ 24 (by decide)
  have e25 : o 25 = .int .i64 V2 := hh_ 25 (by decide)
  have e26 : o 26 = .int .i64 (V1 - V2) := hh_ 26 (by decide)
  have e27 : o 27 = .bool false := hh_ 27 (by decide)
  have e28 : o 28 = .bool false := hh_ 28 (by decide)
  rw [e0,e1,e2,e3,e4,e5,e6,e7,e8,e9,e10,e11,e12,e13,e14,e15,e16,e17,e18,e19,e20,e21,e22,e23,e24,e25,e26,e27,e28]
 ·intro W1 h1
  have h1 : KL _ _ W1 := h1
  obtain ⟨aL0,a0_0,a0_1,a0_2,a0_3,a0_4,a0_5⟩ := bl6 (KL.blk h1 (.head _))
  obtain ⟨aL1,a1_0,a1_1,a1_2,a1_3,a1_4,a1_5⟩ := bl6 (KL.blk h1 (.tail _ (.head _)))
  have hjb := h1.1
  have hjz := hjb.size
  go_wp2
  refine wp_region_any (by kernel_rfl) ?_
  try (change wpAny _ _ _ _ _ _ _ (World.drew _))
  refine wpAny_vals (fr := fun o => #[.agg #[x,y,z,p,q,r],.agg #[a,b,c,d,s,u],.int .i64 k,.pointer (some ⟨w.heap.size,0,none⟩),.pointer (some ⟨(w.heap.size + 1),0,none⟩),undef,o 12,.slice A1 0 cp1,.int .i64 L,.int .i64 0,.slice A2 0 cp2,.int .i64 0,.int .i64 0,.bool true,.bool false,.tuple #[.slice A1 0 cp1,.int .i64 L,.int .i64 0],.agg #[x,y,z,p,q,r],.agg #[a,b,c,d,s,u],.int .i64 k,.tuple #[.slice A1 0 cp1,.int .i64 L,.int .i64 0],.slice A1 0 cp1,.int .i64 L,.int .i64 0,.int .i64 0,.bool false,undef,undef,undef,undef,undef,undef,undef,.tuple #[.slice A2 0 cp2,.int .i64 0,.int .i64 0],.agg #[x,y,z,p,q,r],.agg #[x,y,z,p,q,r],.int .i64 k,.tuple #[.slice A2 0 cp2,.int .i64 0,.int .i64 0],.slice A2 0 cp2,.int .i64 0,.int .i64 0,.int .i64 0,.bool false,.bool false,.slice A2 0 cp2,.int .i64 0,.bool false,.bool false,.bool false,.int .i64 0,.bool false,.bool false,.bool false,.slice A1 0 cp1,.int .i64 0,.bool false,.bool false,.bool false,.int .i64 L,.bool false,.bool false,.bool false,.int .i64 L,.agg #[x,y,z,p,q,r],.int .i64 V1,.agg #[a,b,c,d,s,u],.int .i64 V2,.int .i64 (V1 - V2),.bool false,.bool false,o 0,o 1,o 2,o 3,o 4,o 5,o 6,o 7,o 8,o 9,o 10,o 11]) (vals := fun i_ => ([.slice A1 0 cp1,.int .i64 0,.bool false,.bool false,.agg #[a,b,c,d,s,u],.int .i64 V2,.int .i64 L,.int .i64 (V2 + L),.agg #[x,y,z,p,q,r],.int .i64 V1,.bool true,.bool true,.bool true] : List Value).getD i_ undef) (Kf := fun _ => True) (K := fun kk_ => ([(KL [((w.heap.size + 1),25,#[a,b,c,d,s,u]),(w.heap.size,25,#[x,y,z,p,q,r])] w)] : List (World → Prop)).getD kk_ (fun _ => True)) (dep := fun i_ => [[],[0],[1],[2],[3],[3,4],[3],[3,5,6],[3],[3,8],[3,7,9],[3,10],[11]].getD i_ []) (dv := fun i_ => [[],[0],[1],[2],[3],[3,4],[3],[3,5,6],[3],[3,8],[3,7,9],[3,10],[11]].getD i_ []) (kd := fun i_ => [0,0,0,0,1,1,0,0,1,1,0,0,0].getD i_ 0) (ss := []) (l := [0,1,2,3,4,5,6,7,8,9,10,11,12]) (f0 := fun i_ => ([undef,undef,undef,undef,undef,undef,undef,undef,undef,undef,undef,undef,.bool false] : List Value).getD i_ undef) (A := ?A1) 13 rfl rfl (by decide +kernel) (by decide +kernel) ?_ ?_ ⟨?_,?_,?_,?_,?_,?_,?_,?_,?_,?_,?_,?_,?_,trivial⟩ ?_ ?_
  rotate_left
  ·exact KL.drew h1
  ·exact fun _ _ _ _ => trivial
  ·intro o W _
   show wpOp _ _ _ 0 _ ⟨#[_,_,_,_,_,_,o 12,_,_,_,_,_,_,_,_,_,_,_,_,_,_,_,_,_,_,_,_,_,_,_,_,_,_,_,_,_,_,_,_,_,_,_,_,_,_,_,_,_,_,_,_,_,_,_,_,_,_,_,_,_,_,_,_,_,_,_,_,_,_,o 0,o 1,o 2,o 3,o 4,o 5,o 6,o 7,o 8,o 9,o 10,o 11],[]⟩ W
   refine wpOp_step rfl fun _ hK => ?_
   go_simp
   exact hK _ _ ⟨rfl,rfl⟩
  ·intro o W _
   show wpOp _ _ _ 1 _ ⟨#[_,_,_,_,_,_,o 12,_,_,_,_,_,_,_,_,_,_,_,_,_,_,_,_,_,_,_,_,_,_,_,_,_,_,_,_,_,_,_,_,_,_,_,_,_,_,_,_,_,_,_,_,_,_,_,_,_,_,_,_,_,_,_,_,_,_,_,_,_,_,.slice A1 0 cp1,o 1,o 2,o 3,o 4,o 5,o 6,o 7,o 8,o 9,o 10,o 11],[]⟩ W
   refine wpOp_step rfl fun _ hK => ?_
   go_simp
   exact hK _ _ ⟨rfl,rfl⟩
  ·intro o W _
   show wpOp _ _ _ 2 _ ⟨#[_,_,_,_,_,_,o 12,_,_,_,_,_,_,_,_,_,_,_,_,_,_,_,_,_,_,_,_,_,_,_,_,_,_,_,_,_,_,_,_,_,_,_,_,_,_,_,_,_,_,_,_,_,_,_,_,_,_,_,_,_,_,_,_,_,_,_,_,_,_,o 0,.int .i64 0,o 2,o 3,o 4,o 5,o 6,o 7,o 8,o 9,o 10,o 11],[]⟩ W
   refine wpOp_step rfl fun _ hK => ?_
   go_simp
   exact hK _ _ ⟨rfl,rfl⟩
  ·intro o W _
   show wpOp _ _ _ 3 _ ⟨#[_,_,_,_,_,_,o 12,_,_,_,_,_,_,_,_,_,_,_,_,_,_,_,_,_,_,_,_,_,_,_,_,_,_,_,_,_,_,_,_,_,_,_,_,_,_,_,_,_,_,_,_,_,_,_,_,_,_,_,_,_,_,_,_,_,_,_,_,_,_,o 0,o 1,.bool false,o 3,o 4,o 5,o 6,o 7,o 8,o 9,o 10,o 11],[]⟩ W
   refine wpOp_step rfl fun _ hK => ?_
   go_simp
   exact hK _ _ ⟨rfl,rfl⟩
  ·intro o W hj
   have hj : KL _ _ W := hj
   obtain ⟨cL,c0,c1,c2,c3,c4,c5⟩ := bl6 (KL.blk hj (.head _))
   show wpOp _ _ _ 4 _ ⟨#[_,_,_,_,_,_,o 12,_,_,_,_,_,_,_,_,_,_,_,_,_,_,_,_,_,_,_,_,_,_,_,_,_,_,_,_,_,_,_,_,_,_,_,_,_,_,_,_,_,_,_,_,_,_,_,_,_,_,_,_,_,_,_,_,_,_,_,_,_,_,o 0,o 1,o 2,.bool false,o 4,o 5,o 6,o 7,o 8,o 9,o 10,o 11],[]⟩ W
   refine wpOp_step rfl fun _ hK => ?_
   go_simp
   exact hK _ _ ⟨rfl,hj⟩
  ·intro o W hj
   have hj : KL _ _ W := hj
   show wpOp _ _ _ 5 _ ⟨#[_,_,_,_,_,_,o 12,_,_,_,_,_,_,_,_,_,_,_,_,_,_,_,_,_,_,_,_,_,_,_,_,_,_,_,_,_,_,_,_,_,_,_,_,_,_,_,_,_,_,_,_,_,_,_,_,_,_,_,_,_,_,_,_,_,_,_,_,_,_,o 0,o 1,o 2,.bool false,.agg #[a,b,c,d,s,u],o 5,o 6,o 7,o 8,o 9,o 10,o 11],[]⟩ W
   refine wpOp_step rfl fun _ hK => ?_
   go_simp
   refine (hv2 _).mono ?_
   rintro e W1 ⟨rfl,hb1⟩
   exact hK _ _ ⟨rfl,hj.over hb1⟩
  ·intro o W _
   show wpOp _ _ _ 6 _ ⟨#[_,_,_,_,_,_,o 12,_,_,_,_,_,_,_,_,_,_,_,_,_,_,_,_,_,_,_,_,_,_,_,_,_,_,_,_,_,_,_,_,_,_,_,_,_,_,_,_,_,_,_,_,_,_,_,_,_,_,_,_,_,_,_,_,_,_,_,_,_,_,o 0,o 1,o 2,.bool false,o 4,o 5,o 6,o 7,o 8,o 9,o 10,o 11],[]⟩ W
   refine wpOp_step rfl fun _ hK => ?_
   go_simp
   exact hK _ _ ⟨rfl,rfl⟩
  ·intro o W _
   show wpOp _ _ _ 7 _ ⟨#[_,_,_,_,_,_,o 12,_,_,_,_,_,_,_,_,_,_,_,_,_,_,_,_,_,_,_,_,_,_,_,_,_,_,_,_,_,_,_,_,_,_,_,_,_,_,_,_,_,_,_,_,_,_,_,_,_,_,_,_,_,_,_,_,_,_,_,_,_,_,o 0,o 1,o 2,.bool false,o 4,.int .i64 V2,.int .i64 L,o 7,o 8,o 9,o 10,o 11],[]⟩ W
   refine wpOp_step rfl fun _ hK => ?_
   go_simp
   exact hK _ _ ⟨rfl,rfl⟩
  ·intro o W hj
   have hj : KL _ _ W := hj
   obtain ⟨cL,c0,c1,c2,c3,c4,c5⟩ := bl6 (KL.blk hj (.tail _ (.head _)))
   show wpOp _ _ _ 8 _ ⟨#[_,_,_,_,_,_,o 12,_,_,_,_,_,_,_,_,_,_,_,_,_,_,_,_,_,_,_,_,_,_,_,_,_,_,_,_,_,_,_,_,_,_,_,_,_,_,_,_,_,_,_,_,_,_,_,_,_,_,_,_,_,_,_,_,_,_,_,_,_,_,o 0,o 1,o 2,.bool false,o 4,o 5,o 6,o 7,o 8,o 9,o 10,o 11],[]⟩ W
   refine wpOp_step rfl fun _ hK => ?_
   go_simp
   exact hK _ _ ⟨rfl,hj⟩
  ·intro o W hj
   have hj : KL _ _ W := hj
   show wpOp _ _ _ 9 _ ⟨#[_,_,_,_,_,_,o 12,_,_,_,_,_,_,_,_,_,_,_,_,_,_,_,_,_,_,_,_,_,_,_,_,_,_,_,_,_,_,_,_,_,_,_,_,_,_,_,_,_,_,_,_,_,_,_,_,_,_,_,_,_,_,_,_,_,_,_,_,_,_,o 0,o 1,o 2,.bool false,o 4,o 5,o 6,o 7,.agg #[x,y,z,p,q,r],o 9,o 10,o 11],[]⟩ W
   refine wpOp_step rfl fun _ hK => ?_
   go_simp
   refine (hv1 _).mono ?_
   rintro e W1 ⟨rfl,hb1⟩
   exact hK _ _ ⟨rfl,hj.over hb1⟩
  ·intro o W _
   show wpOp _ _ _ 10 _ ⟨#[_,_,_,_,_,_,o 12,_,_,_,_,_,_,_,_,_,_,_,_,_,_,_,_,_,_,_,_,_,_,_,_,_,_,_,_,_,_,_,_,_,_,_,_,_,_,_,_,_,_,_,_,_,_,_,_,_,_,_,_,_,_,_,_,_,_,_,_,_,_,o 0,o 1,o 2,.bool false,o 4,o 5,o 6,.int .i64 (V2 + L),o 8,.int .i64 V1,o 10,o 11],[]⟩ W
   refine wpOp_step rfl fun _ hK => ?_
   go_simp
   exact hK _ _ ⟨rfl,rfl⟩
  ·intro o W _
   show wpOp _ _ _ 11 _ ⟨#[_,_,_,_,_,_,o 12,_,_,_,_,_,_,_,_,_,_,_,_,_,_,_,_,_,_,_,_,_,_,_,_,_,_,_,_,_,_,_,_,_,_,_,_,_,_,_,_,_,_,_,_,_,_,_,_,_,_,_,_,_,_,_,_,_,_,_,_,_,_,o 0,o 1,o 2,.bool false,o 4,o 5,o 6,o 7,o 8,o 9,.bool true,o 11],[]⟩ W
   refine wpOp_step rfl fun _ hK => ?_
   go_simp
   exact hK _ _ ⟨rfl,rfl⟩
  ·intro o W _
   show wpOp _ _ _ 12 _ ⟨#[_,_,_,_,_,_,o 12,_,_,_,_,_,_,_,_,_,_,_,_,_,_,_,_,_,_,_,_,_,_,_,_,_,_,_,_,_,_,_,_,_,_,_,_,_,_,_,_,_,_,_,_,_,_,_,_,_,_,_,_,_,_,_,_,_,_,_,_,_,_,o 0,o 1,o 2,o 3,o 4,o 5,o 6,o 7,o 8,o 9,o 10,.bool true],[]⟩ W
   refine wpOp_step rfl fun _ hK => ?_
   go_simp
   exact hK _ _ ⟨rfl,rfl⟩
  ·intro o hh_
   have e0 : o 0 = .slice A1 0 cp1 := hh_ 0 (by decide)
   have e1 : o 1 = .int .i64 0 := hh_ 1 (by decide)
   have e2 : o 2 = .bool false := hh_ 2 (by decide)
   have e3 : o 3 = .bool false := hh_ 3 (by decide)
   have e4 : o 4 = .agg #[a,b,c,d,s,u] := hh_ 4 (by decide)
   have e5 : o 5 = .int .i64 V2 := hh_ 5 (by decide)
   have e6 : o 6 = .int .i64 L := hh_ 6 (by decide)
   have e7 : o 7 = .int .i64 (V2 + L) := hh_ 7 (by decide)
   have e8 : o 8 = .agg #[x,y,z,p,q,r] := hh_ 8 (by decide)
   have e9 : o 9 = .int .i64 V1 := hh_ 9 (by decide)
   have e10 : o 10 = .bool true := hh_ 10 (by decide)
   have e11 : o 11 = .bool true := hh_ 11 (by decide)
   have e12 : o 12 = .bool true := hh_ 12 (by decide)
   rw [e0,e1,e2,e3,e4,e5,e6,e7,e8,e9,e10,e11,e12]
  ·intro W2 h2
   have h2 : KL _ _ W2 := h2
   obtain ⟨bL0,b0_0,b0_1,b0_2,b0_3,b0_4,b0_5⟩ := bl6 (KL.blk h2 (.head _))
   obtain ⟨bL1,b1_0,b1_1,b1_2,b1_3,b1_4,b1_5⟩ := bl6 (KL.blk h2 (.tail _ (.head _)))
   have hjb := h2.1
   have hjz := hjb.size
   go_wp2
   go_ret
   exact ⟨rfl,hjb⟩
set_option maxHeartbeats 16000000 in
set_option maxRecDepth 100000 in
theorem trd_n (x y z p q r a b c d s u k L V1 V2 : Int) (N : Nat) (ht : ∀ w,Calls Try.prog 34 #[.agg #[x,y,z,p,q,r],.agg #[a,b,c,d,s,u],.int .i64 k] w fun e w' => ∃ A cp,e = .returned (.tuple #[.slice A N cp,.int .i64 L,.int .i64 0]) ∧ Below w.heap.size w w') (ht2 : ∀ w,Calls Try.prog 34 #[.agg #[x,y,z,p,q,r],.agg #[x,y,z,p,q,r],.int .i64 k] w fun e w' => ∃ A cp,e = .returned (.tuple #[.slice A 0 cp,.int .i64 0,.int .i64 0]) ∧ Below w.heap.size w w')
  (hv1 : ∀ w,Calls Try.prog 38 #[.agg #[x,y,z,p,q,r]] w fun e w' => e = .returned (.int .i64 V1) ∧ Below w.heap.size w w') (hv2 : ∀ w,Calls Try.prog 38 #[.agg #[a,b,c,d,s,u]] w fun e w' => e = .returned (.int .i64 V2) ∧ Below w.heap.size w w') (h0 : 0 < N) (hN6 : N ≤ 6) (hL0 : 0 ≤ L) (hLb : V2 + L ≤ V1) (hVb : V1 ≤ 8000000000000000000) (hV0 : 0 ≤ V2) (w : World) : Calls Try.prog 11 #[.agg #[x,y,z,p,q,r],.agg #[a,b,c,d,s,u],.int .i64 k] w fun e w' => e = .returned (.bool true) ∧ Below w.heap.size w w' := by
 have hA := awake_any
 have x1 : IntKind.i64.wrap (V1 - V2) = V1 - V2 := IntWalk.i64_in _ (by omega)
 have x2 : IntKind.i64.wrap (V2 + L) = V2 + L := IntWalk.i64_in _ (by omega)
 have x3 : decide (L < 0) = false := by simp <;> omega
 have x4 : decide (V1 - V2 < L) = false := by simp <;> omega
 have x5 : decide (6 < (N : Int)) = false := by simp <;> omega
 have x6 : decide (0 < (N : Int)) = true := by simp <;> omega
 have x7 : decide (0 < N) = true := by simp <;> omega
 clear hL0 hLb hVb hV0 h0 hN6
 go_enter Try.func11,Try.ntmps11
 go_wp2_with (first | (go_at_call 12; refine (hA _).mono ?_; rintro e w1 ⟨rfl,hb1⟩; obtain ⟨hc1,hf1⟩ := bcell hb1; have hz1 := hb1.size; (try simp at hz1); (try have y10 : w.heap.size < w1.heap.size := (by omega)); (try have y10p : w.heap.size < w1.heap.size + 1 := (by omega)); (try have y11 : w.heap.size + 1 < w1.heap.size := (by omega)); (try have y11p : w.heap.size + 1 < w1.heap.size + 1 := (by omega)); (try have y12 : w.heap.size + 1 + 1 < w1.heap.size := (by omega)); (try have y12p : w.heap.size + 1 + 1 < w1.heap.size + 1 := (by omega)); (try have y13 : w.heap.size + 1 + 1 + 1 < w1.heap.size := (by omega)); (try have y13p : w.heap.size + 1 + 1 + 1 < w1.heap.size + 1 := (by omega)); (try have y14 : w.heap.size + 1 + 1 + 1 + 1 < w1.heap.size := (by omega)); (try have y14p : w.heap.size + 1 + 1 + 1 + 1 < w1.heap.size + 1 := (by omega)); (try have v0x1 : w0.heap.size < w1.heap.size := (by omega)); (try have v0x1p : w0.heap.size < w1.heap.size + 1 := (by omega))) | (revert hb2; intro hb2; go_at_call 34; refine (ht2 _).mono ?_; rintro e w3 ⟨A2,cp2,rfl,hb3⟩; obtain ⟨hc3,hf3⟩ := bcell hb3; have hz3 := hb3.size; (try simp at hz3); (try have y30 : w.heap.size < w3.heap.size := (by omega)); (try have y30p : w.heap.size < w3.heap.size + 1 := (by omega)); (try have y31 : w.heap.size + 1 < w3.heap.size := (by omega)); (try have y31p : w.heap.size + 1 < w3.heap.size + 1 := (by omega)); (try have y32 : w.heap.size + 1 + 1 < w3.heap.size := (by omega)); (try have y32p : w.heap.size + 1 + 1 < w3.heap.size + 1 := (by omega)); (try have y33 : w.heap.size + 1 + 1 + 1 < w3.heap.size := (by omega)); (try have y33p : w.heap.size + 1 + 1 + 1 < w3.heap.size + 1 := (by omega)); (try have y34 : w.heap.size + 1 + 1 + 1 + 1 < w3.heap.size := (by omega)); (try have y34p : w.heap.size + 1 + 1 + 1 + 1 < w3.heap.size + 1 := (by omega)); (try have v0x3 : w0.heap.size < w3.heap.size := (by omega)); (try have v0x3p : w0.heap.size < w3.heap.size + 1 := (by omega)); (try have v1x3 : w1.heap.size < w3.heap.size := (by omega)); (try have v1x3p : w1.heap.size < w3.heap.size + 1 := (by omega)); (try have v2x3 : w2.heap.size < w3.heap.size := (by omega)); (try have v2x3p : w2.heap.size < w3.heap.size + 1 := (by omega))) | (go_at_call 34; refine (ht _).mono ?_; rintro e w2 ⟨A1,cp1,rfl,hb2⟩; obtain ⟨hc2,hf2⟩ := bcell hb2; have hz2 := hb2.size; (try simp at hz2); (try have y20 : w.heap.size < w2.heap.size := (by omega)); (try have y20p : w.heap.size < w2.heap.size + 1 := (by omega)); (try have y21 : w.heap.size + 1 < w2.heap.size := (by omega)); (try have y21p : w.heap.size + 1 < w2.heap.size + 1 := (by omega)); (try have y22 : w.heap.size + 1 + 1 < w2.heap.size := (by omega)); (try have y22p : w.heap.size + 1 + 1 < w2.heap.size + 1 := (by omega)); (try have y23 : w.heap.size + 1 + 1 + 1 < w2.heap.size := (by omega)); (try have y23p : w.heap.size + 1 + 1 + 1 < w2.heap.size + 1 := (by omega)); (try have y24 : w.heap.size + 1 + 1 + 1 + 1 < w2.heap.size := (by omega)); (try have y24p : w.heap.size + 1 + 1 + 1 + 1 < w2.heap.size + 1 := (by omega)); (try have v0x2 : w0.heap.size < w2.heap.size := (by omega)); (try have v0x2p : w0.heap.size < w2.heap.size + 1 := (by omega)); (try have v1x2 : w1.heap.size < w2.heap.size := (by omega)); (try have v1x2p : w1.heap.size < w2.heap.size + 1 := (by omega))))
 refine wp_region_any (by kernel_rfl) ?_
 try (change wpAny _ _ _ _ _ _ _ (World.drew _))
 refine wpAny_vals (fr := fun o => #[.agg #[x,y,z,p,q,r],.agg #[a,b,c,d,s,u],.int .i64 k,.pointer (some ⟨w.heap.size,0,none⟩),.pointer (some ⟨(w.heap.size + 1),0,none⟩),undef,.bool false,.slice A1 N cp1,.int .i64 L,.int .i64 0,.slice A2 0 cp2,.int .i64 0,.int .i64 0,.bool true,.bool false,.tuple #[.slice A1 N cp1,.int .i64 L,.int .i64 0],.agg #[x,y,z,p,q,r],.agg #[a,b,c,d,s,u],.int .i64 k,.tuple #[.slice A1 N cp1,.int .i64 L,.int .i64 0],.slice A1 N cp1,.int .i64 L,.int .i64 0,.int .i64 0,.bool false,undef,undef,undef,undef,undef,undef,undef,.tuple #[.slice A2 0 cp2,.int .i64 0,.int .i64 0],.agg #[x,y,z,p,q,r],.agg #[x,y,z,p,q,r],.int .i64 k,.tuple #[.slice A2 0 cp2,.int .i64 0,.int .i64 0],.slice A2 0 cp2,.int .i64 0,.int .i64 0,o 0,o 1,o 2,o 3,o 4,o 5,o 6,o 7,o 8,o 9,o 10,o 11,o 12,o 13,o 14,o 15,o 16,o 17,o 18,o 19,o 20,o 21,o 22,o 23,o 24,o 25,o 26,o 27,o 28,undef,undef,undef,undef,undef,undef,undef,undef,undef,undef,undef,undef]) (vals := fun i_ => ([.int .i64 0,.bool false,.bool false,.slice A2 0 cp2,.int .i64 0,.bool false,.bool false,.bool false,.int .i64 0,.bool false,.bool false,.bool false,.slice A1 N cp1,.int .i64 ((N : Int)),.bool false,.bool false,.bool false,.int .i64 L,.bool false,.bool false,.bool false,.int .i64 L,.agg #[x,y,z,p,q,r],.int .i64 V1,.agg #[a,b,c,d,s,u],.int .i64 V2,.int .i64 (V1 - V2),.bool false,.bool false] : List Value).getD i_ undef) (Kf := fun _ => True) (K := fun kk_ => ([(KL [((w.heap.size + 1),25,#[a,b,c,d,s,u]),(w.heap.size,25,#[x,y,z,p,q,r])] w)] : List (World → Prop)).getD kk_ (fun _ => True)) (dep := fun i_ => [[],[0],[1],[2],[2,3],[2,4],[2,5],[6],[7],[7,8],[7,9],[10],[11],[11,12],[11,13],[11,14],[15],[16],[16,17],[16,18],[19],[20],[20],[20,22],[20],[20,24],[20,23,25],[20,21,26],[20,27]].getD i_ []) (dv := fun i_ => [[],[0],[1],[2],[2,3],[2,4],[2,5],[6],[7],[7,8],[7,9],[10],[11],[11,12],[11,13],[11,14],[15],[16],[16,17],[16,18],[19],[20],[20],[20,22],[20],[20,24],[20,23,25],[20,21,26],[20,27]].getD i_ []) (kd := fun i_ => [0,0,0,0,0,0,0,0,0,0,0,0,0,0,0,0,0,0,0,0,0,0,1,1,1,1,0,0,0].getD i_ 0) (ss := []) (l := [0,1,2,3,4,5,6,7,8,9,10,11,12,13,14,15,16,17,18,19,20,21,22,23,24,25,26,27,28]) (f0 := fun _ => undef) (A := ?A4) 29 rfl rfl (by decide +kernel) (by decide +kernel) ?_ ?_ ⟨?_,?_,?_,?_,?_,?_,?_,?_,?_,?_,?_,?_,?_,?_,?_,?_,?_,?_,?_,?_,?_,?_,?_,?_,?_,?_,?_,?_,?_,trivial⟩ ?_ ?_
 rotate_left
 ·exact KL.drew (KL.over (KL.over (KL.over (KL.new (g := (w.heap.size + 1)) (KL.new (g := w.heap.size) (KL.nil w) rfl _ _) (by simp) _ _) hb1) hb2) hb3)
 ·exact fun _ _ _ _ => trivial
 ·intro o W _
  show wpOp _ _ _ 0 _ ⟨#[_,_,_,_,_,_,_,_,_,_,_,_,_,_,_,_,_,_,_,_,_,_,_,_,_,_,_,_,_,_,_,_,_,_,_,_,_,_,_,_,o 0,o 1,o 2,o 3,o 4,o 5,o 6,o 7,o 8,o 9,o 10,o 11,o 12,o 13,o 14,o 15,o 16,o 17,o 18,o 19,o 20,o 21,o 22,o 23,o 24,o 25,o 26,o 27,o 28,_,_,_,_,_,_,_,_,_,_,_,_],[]⟩ W
  refine wpOp_step rfl fun _ hK => ?_
  go_simp
  exact hK _ _ ⟨rfl,rfl⟩
 ·intro o W _
  show wpOp _ _ _ 1 _ ⟨#[_,_,_,_,_,_,_,_,_,_,_,_,_,_,_,_,_,_,_,_,_,_,_,_,_,_,_,_,_,_,_,_,_,_,_,_,_,_,_,_,.int .i64 0,o 1,o 2,o 3,o 4,o 5,o 6,o 7,o 8,o 9,o 10,o 11,o 12,o 13,o 14,o 15,o 16,o 17,o 18,o 19,o 20,o 21,o 22,o 23,o 24,o 25,o 26,o 27,o 28,_,_,_,_,_,_,_,_,_,_,_,_],[]⟩ W
  refine wpOp_step rfl fun _ hK => ?_
  go_simp
  exact hK _ _ ⟨rfl,rfl⟩
 ·intro o W _
  show wpOp _ _ _ 2 _ ⟨#[_,_,_,_,_,_,_,_,_,_,_,_,_,_,_,_,_,_,_,_,_,_,_,_,_,_,_,_,_,_,_,_,_,_,_,_,_,_,_,_,o 0,.bool false,o 2,o 3,o 4,o 5,o 6,o 7,o 8,o 9,o 10,o 11,o 12,o 13,o 14,o 15,o 16,o 17,o 18,o 19,o 20,o 21,o 22,o 23,o 24,o 25,o 26,o 27,o 28,_,_,_,_,_,_,_,_,_,_,_,_],[]⟩ W
  refine wpOp_step rfl fun _ hK => ?_
  go_simp
  exact hK _ _ ⟨rfl,rfl⟩
 ·intro o W _
  show wpOp _ _ _ 3 _ ⟨#[_,_,_,_,_,_,_,_,_,_,_,_,_,_,_,_,_,_,_,_,_,_,_,_,_,_,_,_,_,_,_,_,_,_,_,_,_,_,_,_,o 0,o 1,.bool false,o 3,o 4,o 5,o 6,o 7,o 8,o 9,o 10,o 11,o 12,o 13,o 14,o 15,o 16,o 17,o 18,o 19,o 20,o 21,o 22,o 23,o 24,o 25,o 26,o 27,o 28,_,_,_,_,_,_,_,_,_,_,_,_],[]⟩ W
  refine wpOp_step rfl fun _ hK => ?_
  go_simp
  exact hK _ _ ⟨rfl,rfl⟩
 ·intro o W _
  show wpOp _ _ _ 4 _ ⟨#[_,_,_,_,_,_,_,_,_,_,_,_,_,_,_,_,_,_,_,_,_,_,_,_,_,_,_,_,_,_,_,_,_,_,_,_,_,_,_,_,o 0,o 1,.bool false,.slice A2 0 cp2,o 4,o 5,o 6,o 7,o 8,o 9,o 10,o 11,o 12,o 13,o 14,o 15,o 16,o 17,o 18,o 19,o 20,o 21,o 22,o 23,o 24,o 25,o 26,o 27,o 28,_,_,_,_,_,_,_,_,_,_,_,_],[]⟩ W
  refine wpOp_step rfl fun _ hK => ?_
  go_simp
  exact hK _ _ ⟨rfl,rfl⟩
 ·intro o W _
  show wpOp _ _ _ 5 _ ⟨#[_,_,_,_,_,_,_,_,_,_,_,_,_,_,_,_,_,_,_,_,_,_,_,_,_,_,_,_,_,_,_,_,_,_,_,_,_,_,_,_,o 0,o 1,.bool false,o 3,.int .i64 0,o 5,o 6,o 7,o 8,o 9,o 10,o 11,o 12,o 13,o 14,o 15,o 16,o 17,o 18,o 19,o 20,o 21,o 22,o 23,o 24,o 25,o 26,o 27,o 28,_,_,_,_,_,_,_,_,_,_,_,_],[]⟩ W
  refine wpOp_step rfl fun _ hK => ?_
  go_simp
  exact hK _ _ ⟨rfl,rfl⟩
 ·intro o W _
  show wpOp _ _ _ 6 _ ⟨#[_,_,_,_,_,_,_,_,_,_,_,_,_,_,_,_,_,_,_,_,_,_,_,_,_,_,_,_,_,_,_,_,_,_,_,_,_,_,_,_,o 0,o 1,.bool false,o 3,o 4,.bool false,o 6,o 7,o 8,o 9,o 10,o 11,o 12,o 13,o 14,o 15,o 16,o 17,o 18,o 19,o 20,o 21,o 22,o 23,o 24,o 25,o 26,o 27,o 28,_,_,_,_,_,_,_,_,_,_,_,_],[]⟩ W
  refine wpOp_step rfl fun _ hK => ?_
  go_simp
  exact hK _ _ ⟨rfl,rfl⟩
 ·intro o W _
  show wpOp _ _ _ 7 _ ⟨#[_,_,_,_,_,_,_,_,_,_,_,_,_,_,_,_,_,_,_,_,_,_,_,_,_,_,_,_,_,_,_,_,_,_,_,_,_,_,_,_,o 0,o 1,o 2,o 3,o 4,o 5,.bool false,o 7,o 8,o 9,o 10,o 11,o 12,o 13,o 14,o 15,o 16,o 17,o 18,o 19,o 20,o 21,o 22,o 23,o 24,o 25,o 26,o 27,o 28,_,_,_,_,_,_,_,_,_,_,_,_],[]⟩ W
  refine wpOp_step rfl fun _ hK => ?_
  go_simp
  exact hK _ _ ⟨rfl,rfl⟩
 ·intro o W _
  show wpOp _ _ _ 8 _ ⟨#[_,_,_,_,_,_,_,_,_,_,_,_,_,_,_,_,_,_,_,_,_,_,_,_,_,_,_,_,_,_,_,_,_,_,_,_,_,_,_,_,o 0,o 1,o 2,o 3,o 4,o 5,o 6,.bool false,o 8,o 9,o 10,o 11,o 12,o 13,o 14,o 15,o 16,o 17,o 18,o 19,o 20,o 21,o 22,o 23,o 24,o 25,o 26,o 27,o 28,_,_,_,_,_,_,_,_,_,_,_,_],[]⟩ W
  refine wpOp_step rfl fun _ hK => ?_
  go_simp
  exact hK _ _ ⟨rfl,rfl⟩
 ·intro o W _
  show wpOp _ _ _ 9 _ ⟨#[_,_,_,_,_,_,_,_,_,_,_,_,_,_,_,_,_,_,_,_,_,_,_,_,_,_,_,_,_,_,_,_,_,_,_,_,_,_,_,_,o 0,o 1,o 2,o 3,o 4,o 5,o 6,.bool false,.int .i64 0,o 9,o 10,o 11,o 12,o 13,o 14,o 15,o 16,o 17,o 18,o 19,o 20,o 21,o 22,o 23,o 24,o 25,o 26,o 27,o 28,_,_,_,_,_,_,_,_,_,_,_,_],[]⟩ W
  refine wpOp_step rfl fun _ hK => ?_
  go_simp
  exact hK _ _ ⟨rfl,rfl⟩
 ·intro o W _
  show wpOp _ _ _ 10 _ ⟨#[_,_,_,_,_,_,_,_,_,_,_,_,_,_,_,_,_,_,_,_,_,_,_,_,_,_,_,_,_,_,_,_,_,_,_,_,_,_,_,_,o 0,o 1,o 2,o 3,o 4,o 5,o 6,.bool false,o 8,.bool false,o 10,o 11,o 12,o 13,o 14,o 15,o 16,o 17,o 18,o 19,o 20,o 21,o 22,o 23,o 24,o 25,o 26,o 27,o 28,_,_,_,_,_,_,_,_,_,_,_,_],[]⟩ W
  refine wpOp_step rfl fun _ hK => ?_
  go_simp
  exact hK _ _ ⟨rfl,rfl⟩
 ·intro o W _
  show wpOp _ _ _ 11 _ ⟨#[_,_,_,_,_,_,_,_,_,_,_,_,_,_,_,_,_,_,_,_,_,_,_,_,_,_,_,_,_,_,_,_,_,_,_,_,_,_,_,_,o 0,o 1,o 2,o 3,o 4,o 5,o 6,o 7,o 8,o 9,.bool false,o 11,o 12,o 13,o 14,o 15,o 16,o 17,o 18,o 19,o 20,o 21,o 22,o 23,o 24,o 25,o 26,o 27,o 28,_,_,_,_,_,_,_,_,_,_,_,_],[]⟩ W
  refine wpOp_step rfl fun _ hK => ?_
  go_simp
  exact hK _ _ ⟨rfl,rfl⟩
 ·intro o W _
  show wpOp _ _ _ 12 _ ⟨#[_,_,_,_,_,_,_,_,_,_,_,_,_,_,_,_,_,_,_,_,_,_,_,_,_,_,_,_,_,_,_,_,_,_,_,_,_,_,_,_,o 0,o 1,o 2,o 3,o 4,o 5,o 6,o 7,o 8,o 9,o 10,.bool false,o 12,o 13,o 14,o 15,o 16,o 17,o 18,o 19,o 20,o 21,o 22,o 23,o 24,o 25,o 26,o 27,o 28,_,_,_,_,_,_,_,_,_,_,_,_],[]⟩ W
  refine wpOp_step rfl fun _ hK => ?_
  go_simp
  exact hK _ _ ⟨rfl,rfl⟩
 ·intro o W _
  show wpOp _ _ _ 13 _ ⟨#[_,_,_,_,_,_,_,_,_,_,_,_,_,_,_,_,_,_,_,_,_,_,_,_,_,_,_,_,_,_,_,_,_,_,_,_,_,_,_,_,o 0,o 1,o 2,o 3,o 4,o 5,o 6,o 7,o 8,o 9,o 10,.bool false,.slice A1 N cp1,o 13,o 14,o 15,o 16,o 17,o 18,o 19,o 20,o 21,o 22,o 23,o 24,o 25,o 26,o 27,o 28,_,_,_,_,_,_,_,_,_,_,_,_],[]⟩ W
  refine wpOp_step rfl fun _ hK => ?_
  go_simp
  exact hK _ _ ⟨rfl,rfl⟩
 ·intro o W _
  show wpOp _ _ _ 14 _ ⟨#[_,_,_,_,_,_,_,_,_,_,_,_,_,_,_,_,_,_,_,_,_,_,_,_,_,_,_,_,_,_,_,_,_,_,_,_,_,_,_,_,o 0,o 1,o 2,o 3,o 4,o 5,o 6,o 7,o 8,o 9,o 10,.bool false,o 12,.int .i64 ((N : Int)),o 14,o 15,o 16,o 17,o 18,o 19,o 20,o 21,o 22,o 23,o 24,o 25,o 26,o 27,o 28,_,_,_,_,_,_,_,_,_,_,_,_],[]⟩ W
  refine wpOp_step rfl fun _ hK => ?_
  go_simp
  exact hK _ _ ⟨rfl,rfl⟩
 ·intro o W _
  show wpOp _ _ _ 15 _ ⟨#[_,_,_,_,_,_,_,_,_,_,_,_,_,_,_,_,_,_,_,_,_,_,_,_,_,_,_,_,_,_,_,_,_,_,_,_,_,_,_,_,o 0,o 1,o 2,o 3,o 4,o 5,o 6,o 7,o 8,o 9,o 10,.bool false,o 12,o 13,.bool false,o 15,o 16,o 17,o 18,o 19,o 20,o 21,o 22,o 23,o 24,o 25,o 26,o 27,o 28,_,_,_,_,_,_,_,_,_,_,_,_],[]⟩ W
  refine wpOp_step rfl fun _ hK => ?_
  go_simp
  exact hK _ _ ⟨rfl,rfl⟩
 ·intro o W _
  show wpOp _ _ _ 16 _ ⟨#[_,_,_,_,_,_,_,_,_,_,_,_,_,_,_,_,_,_,_,_,_,_,_,_,_,_,_,_,_,_,_,_,_,_,_,_,_,_,_,_,o 0,o 1,o 2,o 3,o 4,o 5,o 6,o 7,o 8,o 9,o 10,o 11,o 12,o 13,o 14,.bool false,o 16,o 17,o 18,o 19,o 20,o 21,o 22,o 23,o 24,o 25,o 26,o 27,o 28,_,_,_,_,_,_,_,_,_,_,_,_],[]⟩ W
  refine wpOp_step rfl fun _ hK => ?_
  go_simp
  exact hK _ _ ⟨rfl,rfl⟩
 ·intro o W _
  show wpOp _ _ _ 17 _ ⟨#[_,_,_,_,_,_,_,_,_,_,_,_,_,_,_,_,_,_,_,_,_,_,_,_,_,_,_,_,_,_,_,_,_,_,_,_,_,_,_,_,o 0,o 1,o 2,o 3,o 4,o 5,o 6,o 7,o 8,o 9,o 10,o 11,o 12,o 13,o 14,o 15,.bool false,o 17,o 18,o 19,o 20,o 21,o 22,o 23,o 24,o 25,o 26,o 27,o 28,_,_,_,_,_,_,_,_,_,_,_,_],[]⟩ W
  refine wpOp_step rfl fun _ hK => ?_
  go_simp
  exact hK _ _ ⟨rfl,rfl⟩
 ·intro o W _
  show wpOp _ _ _ 18 _ ⟨#[_,_,_,_,_,_,_,_,_,_,_,_,_,_,_,_,_,_,_,_,_,_,_,_,_,_,_,_,_,_,_,_,_,_,_,_,_,_,_,_,o 0,o 1,o 2,o 3,o 4,o 5,o 6,o 7,o 8,o 9,o 10,o 11,o 12,o 13,o 14,o 15,.bool false,.int .i64 L,o 18,o 19,o 20,o 21,o 22,o 23,o 24,o 25,o 26,o 27,o 28,_,_,_,_,_,_,_,_,_,_,_,_],[]⟩ W
  refine wpOp_step rfl fun _ hK => ?_
  go_simp
  exact hK _ _ ⟨rfl,rfl⟩
 ·intro o W _
  show wpOp _ _ _ 19 _ ⟨#[_,_,_,_,_,_,_,_,_,_,_,_,_,_,_,_,_,_,_,_,_,_,_,_,_,_,_,_,_,_,_,_,_,_,_,_,_,_,_,_,o 0,o 1,o 2,o 3,o 4,o 5,o 6,o 7,o 8,o 9,o 10,o 11,o 12,o 13,o 14,o 15,.bool false,o 17,.bool false,o 19,o 20,o 21,o 22,o 23,o 24,o 25,o 26,o 27,o 28,_,_,_,_,_,_,_,_,_,_,_,_],[]⟩ W
  refine wpOp_step rfl fun _ hK => ?_
  go_simp
  exact hK _ _ ⟨rfl,rfl⟩
 ·intro o W _
  show wpOp _ _ _ 20 _ ⟨#[_,_,_,_,_,_,_,_,_,_,_,_,_,_,_,_,_,_,_,_,_,_,_,_,_,_,_,_,_,_,_,_,_,_,_,_,_,_,_,_,o 0,o 1,o 2,o 3,o 4,o 5,o 6,o 7,o 8,o 9,o 10,o 11,o 12,o 13,o 14,o 15,o 16,o 17,o 18,.bool false,o 20,o 21,o 22,o 23,o 24,o 25,o 26,o 27,o 28,_,_,_,_,_,_,_,_,_,_,_,_],[]⟩ W
  refine wpOp_step rfl fun _ hK => ?_
  go_simp
  exact hK _ _ ⟨rfl,rfl⟩
 ·intro o W _
  show wpOp _ _ _ 21 _ ⟨#[_,_,_,_,_,_,_,_,_,_,_,_,_,_,_,_,_,_,_,_,_,_,_,_,_,_,_,_,_,_,_,_,_,_,_,_,_,_,_,_,o 0,o 1,o 2,o 3,o 4,o 5,o 6,o 7,o 8,o 9,o 10,o 11,o 12,o 13,o 14,o 15,o 16,o 17,o 18,o 19,.bool false,o 21,o 22,o 23,o 24,o 25,o 26,o 27,o 28,_,_,_,_,_,_,_,_,_,_,_,_],[]⟩ W
  refine wpOp_step rfl fun _ hK => ?_
  go_simp
  exact hK _ _ ⟨rfl,rfl⟩
 ·intro o W hj
  have hj : KL _ _ W := hj
  obtain ⟨cL,c0,c1,c2,c3,c4,c5⟩ := bl6 (KL.blk hj (.tail _ (.head _)))
  show wpOp _ _ _ 22 _ ⟨#[_,_,_,_,_,_,_,_,_,_,_,_,_,_,_,_,_,_,_,_,_,_,_,_,_,_,_,_,_,_,_,_,_,_,_,_,_,_,_,_,o 0,o 1,o 2,o 3,o 4,o 5,o 6,o 7,o 8,o 9,o 10,o 11,o 12,o 13,o 14,o 15,o 16,o 17,o 18,o 19,.bool false,o 21,o 22,o 23,o 24,o 25,o 26,o 27,o 28,_,_,_,_,_,_,_,_,_,_,_,_],[]⟩ W
  refine wpOp_step rfl fun _ hK => ?_
  go_simp
  exact hK _ _ ⟨rfl,hj⟩
 ·intro o W hj
  have hj : KL _ _ W := hj
  show wpOp _ _ _ 23 _ ⟨#[_,_,_,_,_,_,_,_,_,_,_,_,_,_,_,_,_,_,_,_,_,_,_,_,_,_,_,_,_,_,_,_,_,_,_,_,_,_,_,_,o 0,o 1,o 2,o 3,o 4,o 5,o 6,o 7,o 8,o 9,o 10,o 11,o 12,o 13,o 14,o 15,o 16,o 17,o 18,o 19,.bool false,o 21,.agg #[x,y,z,p,q,r],o 23,o 24,o 25,o 26,o 27,o 28,_,_,_,_,_,_,_,_,_,_,_,_],[]⟩ W
  refine wpOp_step rfl fun _ hK => ?_
  go_simp
  refine (hv1 _).mono ?_
  rintro e W1 ⟨rfl,hb1⟩
  exact hK _ _ ⟨rfl,hj.over hb1⟩
 ·intro o W hj
  have hj : KL _ _ W := hj
  obtain ⟨cL,c0,c1,c2,c3,c4,c5⟩ := bl6 (KL.blk hj (.head _))
  show wpOp _ _ _ 24 _ ⟨#[_,_,_,_,_,_,_,_,_,_,_,_,_,_,_,_,_,_,_,_,_,_,_,_,_,_,_,_,_,_,_,_,_,_,_,_,_,_,_,_,o 0,o 1,o 2,o 3,o 4,o 5,o 6,o 7,o 8,o 9,o 10,o 11,o 12,o 13,o 14,o 15,o 16,o 17,o 18,o 19,.bool false,o 21,o 22,o 23,o 24,o 25,o 26,o 27,o 28,_,_,_,_,_,_,_,_,_,_,_,_],[]⟩ W
  refine wpOp_step rfl fun _ hK => ?_
  go_simp
  exact hK _ _ ⟨rfl,hj⟩
 ·intro o W hj
  have hj : KL _ _ W := hj
  show wpOp _ _ _ 25 _ ⟨#[_,_,_,_,_,_,_,_,_,_,_,_,_,_,_,_,_,_,_,_,_,_,_,_,_,_,_,_,_,_,_,_,_,_,_,_,_,_,_,_,o 0,o 1,o 2,o 3,o 4,o 5,o 6,o 7,o 8,o 9,o 10,o 11,o 12,o 13,o 14,o 15,o 16,o 17,o 18,o 19,.bool false,o 21,o 22,o 23,.agg #[a,b,c,d,s,u],o 25,o 26,o 27,o 28,_,_,_,_,_,_,_,_,_,_,_,_],[]⟩ W
  refine wpOp_step rfl fun _ hK => ?_
  go_simp
  refine (hv2 _).mono ?_
  rintro e W1 ⟨rfl,hb1⟩
  exact hK _ _ ⟨rfl,hj.over hb1⟩
 ·intro o W _
  show wpOp _ _ _ 26 _ ⟨#[_,_,_,_,_,_,_,_,_,_,_,_,_,_,_,_,_,_,_,_,_,_,_,_,_,_,_,_,_,_,_,_,_,_,_,_,_,_,_,_,o 0,o 1,o 2,o 3,o 4,o 5,o 6,o 7,o 8,o 9,o 10,o 11,o 12,o 13,o 14,o 15,o 16,o 17,o 18,o 19,.bool false,o 21,o 22,.int .i64 V1,o 24,.int .i64 V2,o 26,o 27,o 28,_,_,_,_,_,_,_,_,_,_,_,_],[]⟩ W
  refine wpOp_step rfl fun _ hK => ?_
  go_simp
  exact hK _ _ ⟨rfl,rfl⟩
 ·intro o W _
  show wpOp _ _ _ 27 _ ⟨#[_,_,_,_,_,_,_,_,_,_,_,_,_,_,_,_,_,_,_,_,_,_,_,_,_,_,_,_,_,_,_,_,_,_,_,_,_,_,_,_,o 0,o 1,o 2,o 3,o 4,o 5,o 6,o 7,o 8,o 9,o 10,o 11,o 12,o 13,o 14,o 15,o 16,o 17,o 18,o 19,.bool false,.int .i64 L,o 22,o 23,o 24,o 25,.int .i64 (V1 - V2),o 27,o 28,_,_,_,_,_,_,_,_,_,_,_,_],[]⟩ W
  refine wpOp_step rfl fun _ hK => ?_
  go_simp
  exact hK _ _ ⟨rfl,rfl⟩
 ·intro o W _
  show wpOp _ _ _ 28 _ ⟨#[_,_,_,_,_,_,_,_,_,_,_,_,_,_,_,_,_,_,_,_,_,_,_,_,_,_,_,_,_,_,_,_,_,_,_,_,_,_,_,_,o 0,o 1,o 2,o 3,o 4,o 5,o 6,o 7,o 8,o 9,o 10,o 11,o 12,o 13,o 14,o 15,o 16,o 17,o 18,o 19,.bool false,o 21,o 22,o 23,o 24,o 25,o 26,.bool false,o 28,_,_,_,_,_,_,_,_,_,_,_,_],[]⟩ W
  refine wpOp_step rfl fun _ hK => ?_
  go_simp
  exact hK _ _ ⟨rfl,rfl⟩
 ·intro o hh_
  have e0 : o 0 = .int .i64 0 := hh_ 0 (by decide)
  have e1 : o 1 = .bool false := hh_ 1 (by decide)
  have e2 : o 2 = .bool false := hh_ 2 (by decide)
  have e3 : o 3 = .slice A2 0 cp2 := hh_ 3 (by decide)
  have e4 : o 4 = .int .i64 0 := hh_ 4 (by decide)
  have e5 : o 5 = .bool false := hh_ 5 (by decide)
  have e6 : o 6 = .bool false := hh_ 6 (by decide)
  have e7 : o 7 = .bool false := hh_ 7 (by decide)
  have e8 : o 8 = .int .i64 0 := hh_ 8 (by decide)
  have e9 : o 9 = .bool false := hh_ 9 (by decide)
  have e10 : o 10 = .bool false := hh_ 10 (by decide)
  have e11 : o 11 = .bool false := hh_ 11 (by decide)
  have e12 : o 12 = .slice A1 N cp1 := hh_ 12 (by decide)
  have e13 : o 13 = .int .i64 ((N : Int)) := hh_ 13 (by decide)
  have e14 : o 14 = .bool false := hh_ 14 (by decide)
  have e15 : o 15 = .bool false := hh_ 15 (by decide)
  have e16 : o 16 = .bool false := hh_ 16 (by decide)
  have e17 : o 17 = .int .i64 L := hh_ 17 (by decide)
  have e18 : o 18 = .bool false := hh_ 18 (by decide)
  have e19 : o 19 = .bool false := hh_ 19 (by decide)
  have e20 : o 20 = .bool false := hh_ 20 (by decide)
  have e21 : o 21 = .int .i64 L := hh_ 21 (by decide)
  have e22 : o 22 = .agg #[x,y,z,p,q,r] := hh_ 22 (by decide)
  have e23 : o 23 = .int .i64 V1 := hh_ 23 (by decide)
  have e24 : o 24 = .agg #[a,b,c,d,s,u] := hh_ 24 (by decide)
  have e25 : o 25 = .int .i64 V2 := hh_ 25 (by decide)
  have e26 : o 26 = .int .i64 (V1 - V2) := hh_ 26 (by decide)
  have e27 : o 27 = .bool false := hh_ 27 (by decide)
  have e28 : o 28 = .bool false := hh_ 28 (by decide)
  rw [e0,e1,e2,e3,e4,e5,e6,e7,e8,e9,e10,e11,e12,e13,e14,e15,e16,e17,e18,e19,e20,e21,e22,e23,e24,e25,e26,e27,e28]
 ·intro W1 h1
  have h1 : KL _ _ W1 := h1
  obtain ⟨aL0,a0_0,a0_1,a0_2,a0_3,a0_4,a0_5⟩ := bl6 (KL.blk h1 (.head _))
  obtain ⟨aL1,a1_0,a1_1,a1_2,a1_3,a1_4,a1_5⟩ := bl6 (KL.blk h1 (.tail _ (.head _)))
  have hjb := h1.1
  have hjz := hjb.size
  go_wp2
  refine wp_region_any (by kernel_rfl) ?_
  try (change wpAny _ _ _ _ _ _ _ (World.drew _))
  refine wpAny_vals (fr := fun o => #[.agg #[x,y,z,p,q,r],.agg #[a,b,c,d,s,u],.int .i64 k,.pointer (some ⟨w.heap.size,0,none⟩),.pointer (some ⟨(w.heap.size + 1),0,none⟩),undef,o 12,.slice A1 N cp1,.int .i64 L,.int .i64 0,.slice A2 0 cp2,.int .i64 0,.int .i64 0,.bool true,.bool false,.tuple #[.slice A1 N cp1,.int .i64 L,.int .i64 0],.agg #[x,y,z,p,q,r],.agg #[a,b,c,d,s,u],.int .i64 k,.tuple #[.slice A1 N cp1,.int .i64 L,.int .i64 0],.slice A1 N cp1,.int .i64 L,.int .i64 0,.int .i64 0,.bool false,undef,undef,undef,undef,undef,undef,undef,.tuple #[.slice A2 0 cp2,.int .i64 0,.int .i64 0],.agg #[x,y,z,p,q,r],.agg #[x,y,z,p,q,r],.int .i64 k,.tuple #[.slice A2 0 cp2,.int .i64 0,.int .i64 0],.slice A2 0 cp2,.int .i64 0,.int .i64 0,.int .i64 0,.bool false,.bool false,.slice A2 0 cp2,.int .i64 0,.bool false,.bool false,.bool false,.int .i64 0,.bool false,.bool false,.bool false,.slice A1 N cp1,.int .i64 ((N : Int)),.bool false,.bool false,.bool false,.int .i64 L,.bool false,.bool false,.bool false,.int .i64 L,.agg #[x,y,z,p,q,r],.int .i64 V1,.agg #[a,b,c,d,s,u],.int .i64 V2,.int .i64 (V1 - V2),.bool false,.bool false,o 0,o 1,o 2,o 3,o 4,o 5,o 6,o 7,o 8,o 9,o 10,o 11]) (vals := fun i_ => ([.slice A1 N cp1,.int .i64 ((N : Int)),.bool true,.bool true,undef,undef,undef,undef,undef,undef,undef,.bool true,.bool true] : List Value).getD i_ undef) (Kf := fun _ => True) (K := fun kk_ => ([(KL [((w.heap.size + 1),25,#[a,b,c,d,s,u]),(w.heap.size,25,#[x,y,z,p,q,r])] w)] : List (World → Prop)).getD kk_ (fun _ => True)) (dep := fun i_ => [[],[0],[1],[2],[3],[3,4],[3],[3,5,6],[3],[3,8],[3,7,9],[3,10],[11]].getD i_ []) (dv := fun i_ => [[],[0],[1],[2],[3],[3,4],[3],[3,5,6],[3],[3,8],[3,7,9],[3,10],[11]].getD i_ []) (kd := fun i_ => [0,0,0,0,0,0,0,0,0,0,0,0,0].getD i_ 0) (ss := []) (l := [0,1,2,3,4,5,6,7,8,9,10,11,12]) (f0 := fun i_ => ([undef,undef,undef,undef,undef,undef,undef,undef,undef,undef,undef,undef,.bool false] : List Value).getD i_ undef) (A := ?A3) 13 rfl rfl (by decide +kernel) (by decide +kernel) ?_ ?_ ⟨?_,?_,?_,?_,?_,?_,?_,?_,?_,?_,?_,?_,?_,trivial⟩ ?_ ?_
  rotate_left
  ·exact KL.drew h1
  ·exact fun _ _ _ _ => trivial
  ·intro o W _
   show wpOp _ _ _ 0 _ ⟨#[_,_,_,_,_,_,o 12,_,_,_,_,_,_,_,_,_,_,_,_,_,_,_,_,_,_,_,_,_,_,_,_,_,_,_,_,_,_,_,_,_,_,_,_,_,_,_,_,_,_,_,_,_,_,_,_,_,_,_,_,_,_,_,_,_,_,_,_,_,_,o 0,o 1,o 2,o 3,o 4,o 5,o 6,o 7,o 8,o 9,o 10,o 11],[]⟩ W
   refine wpOp_step rfl fun _ hK => ?_
   go_simp
   exact hK _ _ ⟨rfl,rfl⟩
  ·intro o W _
   show wpOp _ _ _ 1 _ ⟨#[_,_,_,_,_,_,o 12,_,_,_,_,_,_,_,_,_,_,_,_,_,_,_,_,_,_,_,_,_,_,_,_,_,_,_,_,_,_,_,_,_,_,_,_,_,_,_,_,_,_,_,_,_,_,_,_,_,_,_,_,_,_,_,_,_,_,_,_,_,_,.slice A1 N cp1,o 1,o 2,o 3,o 4,o 5,o 6,o 7,o 8,o 9,o 10,o 11],[]⟩ W
   refine wpOp_step rfl fun _ hK => ?_
   go_simp
   exact hK _ _ ⟨rfl,rfl⟩
  ·intro o W _
   show wpOp _ _ _ 2 _ ⟨#[_,_,_,_,_,_,o 12,_,_,_,_,_,_,_,_,_,_,_,_,_,_,_,_,_,_,_,_,_,_,_,_,_,_,_,_,_,_,_,_,_,_,_,_,_,_,_,_,_,_,_,_,_,_,_,_,_,_,_,_,_,_,_,_,_,_,_,_,_,_,o 0,.int .i64 ((N : Int)),o 2,o 3,o 4,o 5,o 6,o 7,o 8,o 9,o 10,o 11],[]⟩ W
   refine wpOp_step rfl fun _ hK => ?_
   go_simp
   exact hK _ _ ⟨rfl,rfl⟩
  ·intro o W _
   show wpOp _ _ _ 3 _ ⟨#[_,_,_,_,_,_,o 12,_,_,_,_,_,_,_,_,_,_,_,_,_,_,_,_,_,_,_,_,_,_,_,_,_,_,_,_,_,_,_,_,_,_,_,_,_,_,_,_,_,_,_,_,_,_,_,_,_,_,_,_,_,_,_,_,_,_,_,_,_,_,o 0,o 1,.bool true,o 3,o 4,o 5,o 6,o 7,o 8,o 9,o 10,o 11],[]⟩ W
   refine wpOp_step rfl fun _ hK => ?_
   go_simp
   exact hK _ _ ⟨rfl,rfl⟩
  ·intro o W _
   show wpOp _ _ _ 4 _ ⟨#[_,_,_,_,_,_,o 12,_,_,_,_,_,_,_,_,_,_,_,_,_,_,_,_,_,_,_,_,_,_,_,_,_,_,_,_,_,_,_,_,_,_,_,_,_,_,_,_,_,_,_,_,_,_,_,_,_,_,_,_,_,_,_,_,_,_,_,_,_,_,o 0,o 1,o 2,.bool true,o 4,o 5,o 6,o 7,o 8,o 9,o 10,o 11],[]⟩ W
   refine wpOp_step rfl fun _ hK => ?_
   go_simp
   exact hK _ _ ⟨rfl,rfl⟩
  ·intro o W _
   show wpOp _ _ _ 5 _ ⟨#[_,_,_,_,_,_,o 12,_,_,_,_,_,_,_,_,_,_,_,_,_,_,_,_,_,_,_,_,_,_,_,_,_,_,_,_,_,_,_,_,_,_,_,_,_,_,_,_,_,_,_,_,_,_,_,_,_,_,_,_,_,_,_,_,_,_,_,_,_,_,o 0,o 1,o 2,.bool true,undef,o 5,o 6,o 7,o 8,o 9,o 10,o 11],[]⟩ W
   refine wpOp_step rfl fun _ hK => ?_
   go_simp
   exact hK _ _ ⟨rfl,rfl⟩
  ·intro o W _
   show wpOp _ _ _ 6 _ ⟨#[_,_,_,_,_,_,o 12,_,_,_,_,_,_,_,_,_,_,_,_,_,_,_,_,_,_,_,_,_,_,_,_,_,_,_,_,_,_,_,_,_,_,_,_,_,_,_,_,_,_,_,_,_,_,_,_,_,_,_,_,_,_,_,_,_,_,_,_,_,_,o 0,o 1,o 2,.bool true,o 4,o 5,o 6,o 7,o 8,o 9,o 10,o 11],[]⟩ W
   refine wpOp_step rfl fun _ hK => ?_
   go_simp
   exact hK _ _ ⟨rfl,rfl⟩
  ·intro o W _
   show wpOp _ _ _ 7 _ ⟨#[_,_,_,_,_,_,o 12,_,_,_,_,_,_,_,_,_,_,_,_,_,_,_,_,_,_,_,_,_,_,_,_,_,_,_,_,_,_,_,_,_,_,_,_,_,_,_,_,_,_,_,_,_,_,_,_,_,_,_,_,_,_,_,_,_,_,_,_,_,_,o 0,o 1,o 2,.bool true,o 4,undef,undef,o 7,o 8,o 9,o 10,o 11],[]⟩ W
   refine wpOp_step rfl fun _ hK => ?_
   go_simp
   exact hK _ _ ⟨rfl,rfl⟩
  ·intro o W _
   show wpOp _ _ _ 8 _ ⟨#[_,_,_,_,_,_,o 12,_,_,_,_,_,_,_,_,_,_,_,_,_,_,_,_,_,_,_,_,_,_,_,_,_,_,_,_,_,_,_,_,_,_,_,_,_,_,_,_,_,_,_,_,_,_,_,_,_,_,_,_,_,_,_,_,_,_,_,_,_,_,o 0,o 1,o 2,.bool true,o 4,o 5,o 6,o 7,o 8,o 9,o 10,o 11],[]⟩ W
   refine wpOp_step rfl fun _ hK => ?_
   go_simp
   exact hK _ _ ⟨rfl,rfl⟩
  ·intro o W _
   show wpOp _ _ _ 9 _ ⟨#[_,_,_,_,_,_,o 12,_,_,_,_,_,_,_,_,_,_,_,_,_,_,_,_,_,_,_,_,_,_,_,_,_,_,_,_,_,_,_,_,_,_,_,_,_,_,_,_,_,_,_,_,_,_,_,_,_,_,_,_,_,_,_,_,_,_,_,_,_,_,o 0,o 1,o 2,.bool true,o 4,o 5,o 6,o 7,undef,o 9,o 10,o 11],[]⟩ W
   refine wpOp_step rfl fun _ hK => ?_
   go_simp
   exact hK _ _ ⟨rfl,rfl⟩
  ·intro o W _
   show wpOp _ _ _ 10 _ ⟨#[_,_,_,_,_,_,o 12,_,_,_,_,_,_,_,_,_,_,_,_,_,_,_,_,_,_,_,_,_,_,_,_,_,_,_,_,_,_,_,_,_,_,_,_,_,_,_,_,_,_,_,_,_,_,_,_,_,_,_,_,_,_,_,_,_,_,_,_,_,_,o 0,o 1,o 2,.bool true,o 4,o 5,o 6,undef,o 8,undef,o 10,o 11],[]⟩ W
   refine wpOp_step rfl fun _ hK => ?_
   go_simp
   exact hK _ _ ⟨rfl,rfl⟩
  ·intro o W _
   show wpOp _ _ _ 11 _ ⟨#[_,_,_,_,_,_,o 12,_,_,_,_,_,_,_,_,_,_,_,_,_,_,_,_,_,_,_,_,_,_,_,_,_,_,_,_,_,_,_,_,_,_,_,_,_,_,_,_,_,_,_,_,_,_,_,_,_,_,_,_,_,_,_,_,_,_,_,_,_,_,o 0,o 1,o 2,.bool true,o 4,o 5,o 6,o 7,o 8,o 9,undef,o 11],[]⟩ W
   refine wpOp_step rfl fun _ hK => ?_
   go_simp
   exact hK _ _ ⟨rfl,rfl⟩
  ·intro o W _
   show wpOp _ _ _ 12 _ ⟨#[_,_,_,_,_,_,o 12,_,_,_,_,_,_,_,_,_,_,_,_,_,_,_,_,_,_,_,_,_,_,_,_,_,_,_,_,_,_,_,_,_,_,_,_,_,_,_,_,_,_,_,_,_,_,_,_,_,_,_,_,_,_,_,_,_,_,_,_,_,_,o 0,o 1,o 2,o 3,o 4,o 5,o 6,o 7,o 8,o 9,o 10,.bool true],[]⟩ W
   refine wpOp_step rfl fun _ hK => ?_
   go_simp
   exact hK _ _ ⟨rfl,rfl⟩
  ·intro o hh_
   have e0 : o 0 = .slice A1 N cp1 := hh_ 0 (by decide)
   have e1 : o 1 = .int .i64 ((N : Int)) := hh_ 1 (by decide)
   have e2 : o 2 = .bool true := hh_ 2 (by decide)
   have e3 : o 3 = .bool true := hh_ 3 (by decide)
   have e4 : o 4 = undef := hh_ 4 (by decide)
   have e5 : o 5 = undef := hh_ 5 (by decide)
   have e6 : o 6 = undef := hh_ 6 (by decide)
   have e7 : o 7 = undef := hh_ 7 (by decide)
   have e8 : o 8 = undef := hh_ 8 (by decide)
   have e9 : o 9 = undef := hh_ 9 (by decide)
   have e10 : o 10 = undef := hh_ 10 (by decide)
   have e11 : o 11 = .bool true := hh_ 11 (by decide)
   have e12 : o 12 = .bool true := hh_ 12 (by decide)
   rw [e0,e1,e2,e3,e4,e5,e6,e7,e8,e9,e10,e11,e12]
  ·intro W2 h2
   have h2 : KL _ _ W2 := h2
   obtain ⟨bL0,b0_0,b0_1,b0_2,b0_3,b0_4,b0_5⟩ := bl6 (KL.blk h2 (.head _))
   obtain ⟨bL1,b1_0,b1_1,b1_2,b1_3,b1_4,b1_5⟩ := bl6 (KL.blk h2 (.tail _ (.head _)))
   have hjb := h2.1
   have hjz := hjb.size
   go_wp2
   go_ret
   exact ⟨rfl,hjb⟩
set_option maxHeartbeats 4000000 in
set_option maxRecDepth 100000 in
theorem trd_bad (x y z p q r a b c d s u k : Int) (f_ : Int) (hf : trE x y z p q r a b c d s u k = f_) (hn : f_ ≠ 0) (w : World) : Calls Try.prog 11 #[.agg #[x,y,z,p,q,r],.agg #[a,b,c,d,s,u],.int .i64 k] w fun e w' => e = .returned (.bool true) ∧ Below w.heap.size w w' := by
 have hA := awake_any
 have ht := Trim_bad x y z p q r a b c d s u k f_ hf hn
 obtain ⟨t1,t2⟩ := ne_tests hn
 clear hf hn
 go_enter Try.func11,Try.ntmps11
 go_wp2_with (first | (go_at_call 12; refine (hA _).mono ?_; rintro e w1 ⟨rfl,hb1⟩; obtain ⟨hc1,hf1⟩ := bcell hb1; have hz1 := hb1.size; (try simp at hz1); (try have y10 : w.heap.size < w1.heap.size := (by omega)); (try have y10p : w.heap.size < w1.heap.size + 1 := (by omega)); (try have y11 : w.heap.size + 1 < w1.heap.size := (by omega)); (try have y11p : w.heap.size + 1 < w1.heap.size + 1 := (by omega)); (try have y12 : w.heap.size + 1 + 1 < w1.heap.size := (by omega)); (try have y12p : w.heap.size + 1 + 1 < w1.heap.size + 1 := (by omega)); (try have y13 : w.heap.size + 1 + 1 + 1 < w1.heap.size := (by omega)); (try have y13p : w.heap.size + 1 + 1 + 1 < w1.heap.size + 1 := (by omega)); (try have y14 : w.heap.size + 1 + 1 + 1 + 1 < w1.heap.size := (by omega)); (try have y14p : w.heap.size + 1 + 1 + 1 + 1 < w1.heap.size + 1 := (by omega)); (try have v0x1 : w0.heap.size < w1.heap.size := (by omega)); (try have v0x1p : w0.heap.size < w1.heap.size + 1 := (by omega))) | (go_at_call 34; refine (ht _).mono ?_; rintro e w2 ⟨rfl,hb2⟩; obtain ⟨hc2,hf2⟩ := bcell hb2; have hz2 := hb2.size; (try simp at hz2); (try have y20 : w.heap.size < w2.heap.size := (by omega)); (try have y20p : w.heap.size < w2.heap.size + 1 := (by omega)); (try have y21 : w.heap.size + 1 < w2.heap.size := (by omega)); (try have y21p : w.heap.size + 1 < w2.heap.size + 1 := (by omega)); (try have y22 : w.heap.size + 1 + 1 < w2.heap.size := (by omega)); (try have y22p : w.heap.size + 1 + 1 < w2.heap.size + 1 := (by omega)); (try have y23 : w.heap.size + 1 + 1 + 1 < w2.heap.size := (by omega)); (try have y23p : w.heap.size + 1 + 1 + 1 < w2.heap.size + 1 := (by omega)); (try have y24 : w.heap.size + 1 + 1 + 1 + 1 < w2.heap.size := (by omega)); (try have y24p : w.heap.size + 1 + 1 + 1 + 1 < w2.heap.size + 1 := (by omega)); (try have v0x2 : w0.heap.size < w2.heap.size := (by omega)); (try have v0x2p : w0.heap.size < w2.heap.size + 1 := (by omega)); (try have v1x2 : w1.heap.size < w2.heap.size := (by omega)); (try have v1x2p : w1.heap.size < w2.heap.size + 1 := (by omega))))
 go_wp2
 go_ret
 refine ⟨rfl,?_⟩
 repeat (first | with_reducible exact Below.refl _ _ | with_reducible refine Below.setCell ?_ ?_ _ | with_reducible refine Below.alloc ?_ ?_ _ | with_reducible refine Below.drew ?_ | with_reducible refine below_drewN ?_ _ | (refine Below.trans ?_ (bmono (by assumption) ?_)))
 all_goals (first | omega | (simp <;> omega))
theorem kerfTrimmed_any (x y z p q r a b c d s u k : Int) (w : World) : Calls Try.prog 11 #[.agg #[x,y,z,p,q,r],.agg #[a,b,c,d,s,u],.int .i64 k] w fun e w' => e = .returned (.bool true) ∧ Below w.heap.size w w' := by
 by_cases h : trE x y z p q r a b c d s u k = 0
 ·obtain ⟨hv,hu,hk,hi⟩ := trE_z h
  obtain ⟨hk0,_⟩ := rgB_iff.1 hk
  obtain ⟨⟨a1,a2,a3⟩,⟨a4,a5,a6⟩,⟨a7,a8,a9⟩⟩ := eB_bd hv
  obtain ⟨⟨_,b2,_⟩,⟨_,b5,_⟩,⟨_,b8,_⟩⟩ := eB_bd hu
  obtain ⟨n1,n2,n3,n4,n5,n6⟩ := insB_iff.1 hi
  have ht : ∀ w,Calls Try.prog 34 #[.agg #[x,y,z,p,q,r],.agg #[a,b,c,d,s,u],.int .i64 k] w fun e w' => ∃ A cp,e = .returned (.tuple #[.slice A (trN3 x y z p q r a b c d s u k) cp,.int .i64 (trL3 x y z p q r a b c d s u k),.int .i64 0]) ∧ Below w.heap.size w w' := fun w => (Trim_ok x y z p q r a b c d s u k hv hu hk hi w).mono fun e w' he => by
   obtain ⟨A,cp,h1,-,h3⟩ := he; exact ⟨A,cp,h1,h3⟩
  have ht2 : ∀ w,Calls Try.prog 34 #[.agg #[x,y,z,p,q,r],.agg #[x,y,z,p,q,r],.int .i64 k] w fun e w' => ∃ A cp,e = .returned (.tuple #[.slice A 0 cp,.int .i64 0,.int .i64 0]) ∧ Below w.heap.size w w' := fun w => (Trim_ok x y z p q r x y z p q r k hv hv hk (ins_self x y z p q r) w).mono fun e w' he => by
   obtain ⟨A,cp,h1,-,h3⟩ := he
   rw [trN3_self x y z p q r k hk0,trL3_self x y z p q r k (by omega) (by omega) (by omega) (by omega) (by omega) (by omega) (by omega) (by omega) (by omega) (by omega) (by omega) (by omega) a2 a5 a8 hk0] at h1
   exact ⟨A,cp,h1,h3⟩
  have hL := trL3_le x y z p q r a b c d s u k ⟨n1,b2,n4⟩ ⟨n2,b5,n5⟩ ⟨n3,b8,n6⟩ hk0
  have hL0 := (trLb3 x y z p q r a b c d s u k ⟨n1,b2,n4⟩ ⟨n2,b5,n5⟩ ⟨n3,b8,n6⟩ (by omega) (by omega) (by omega) hk0).1
  have hVb := vol_bd x y z p q r (by omega) (by omega) (by omega) (by omega) (by omega) (by omega)
  have hV0 := vol_nn a b c d s u (by omega) (by omega) (by omega)
  have hv1 := fun w => lvol_any x y z p q r (by omega) (by omega) (by omega) (by omega) (by omega) (by omega) w
  have hv2 := fun w => lvol_any a b c d s u (by omega) (by omega) (by omega) (by omega) (by omega) (by omega) w
  by_cases h0 : trN3 x y z p q r a b c d s u k = 0
  ·have hs := trL3_ex x y z p q r a b c d s u k (by omega) (by omega) (by omega) (by omega) (by omega) (by omega) (by omega) (by omega) (by omega) (by omega) (by omega) (by omega) ⟨n1,b2,n4⟩ ⟨n2,b5,n5⟩ ⟨n3,b8,n6⟩ h0
   rw [h0] at ht
   exact trd_z x y z p q r a b c d s u k _ _ _ ht ht2 hv1 hv2 hs hL0 hVb hV0 w
  ·exact trd_n x y z p q r a b c d s u k _ _ _ _ ht ht2 hv1 hv2 (by omega) (trN3_le x y z p q r a b c d s u k) hL0 (by omega) hVb hV0 w
 ·exact trd_bad x y z p q r a b c d s u k _ rfl h w

set_option maxHeartbeats 800000 in
set_option maxRecDepth 100000 in
theorem kerfTrimmed_lifted (os : Os) (started : os.Started) (H : Type) (enc : TypeId × Value → H) :
  ReturnsInHanded {} Try.checked os 11 .any (Rows.kerfTrimmedSpec.pre6 enc Try.prog Try.f11 Rows.kerfTrimmedRow.domain false) (Rows.kerfTrimmedSpec.post enc Try.prog Try.f11 false true false false) := by
 refine returnsInHanded_of_change (C := Try.checked) Try.own started (by kernel_rfl) Try.func11
  (ChangeSpec.witness6 (enc := enc) (C := Try.checked) false ⟨#[],#[.agg #[.int .i64 0,.int .i64 0,.int .i64 0,.int .i64 0,.int .i64 0,.int .i64 0],.agg #[.int .i64 0,.int .i64 0,.int .i64 0,.int .i64 0,.int .i64 0,.int .i64 0],.int .i64 0],[]⟩ 8 (by kernel_rfl) (by kernel_rfl) (by kernel_rfl) (by kernel_rfl)) ?_
 intro W base args ds gs before hval0 hW _ _
 have hval : ∀ (j : Nat) t v,Try.f11.params[j]? = some t → args[j]? = some v → Value.okWide Try.prog W .any base t v := hval0
 have hW' := hW
 obtain ⟨p,q,hA0,hV,rfl,_,_⟩ := hW
 have hA : DataW.TrodAll enc Try.prog W 0 (fun _ => true) true Try.f11.params.toList args.toList ds p := hA0
 rw [Try.params11] at hA hval
 obtain ⟨v0,v1,v2,d0,d1,d2,p0,p1,p2,rfl,rfl,rfl,h0,h1,h2⟩ := trodAll_three hA
 obtain ⟨rfl,rfl⟩ := trodVars_none hV
 clear hA0 hval0
 simp only [List.append_nil] at hW'
 have harg0 : ∀ W' : World,Below W.heap.size W W' → DataW.Trod enc Try.prog W' 0 (fun b => decide (b < W.heap.size)) true 25 v0 d0 p0 :=
  fun W' hn => Below.trod Try.laidOut (by kernel_rfl) (of_decide_eq_true (by kernel_rfl)) h0 hn (fun y hy => by simpa using hW'.lt y (by simp [hy]))
 have harg1 : ∀ W' : World,Below W.heap.size W W' → DataW.Trod enc Try.prog W' 0 (fun b => decide (b < W.heap.size)) true 25 v1 d1 p1 :=
  fun W' hn => Below.trod Try.laidOut (by kernel_rfl) (of_decide_eq_true (by kernel_rfl)) h1 hn (fun y hy => by simpa using hW'.lt y (by simp [hy]))
 have harg2 : ∀ W' : World,Below W.heap.size W W' → DataW.Trod enc Try.prog W' 0 (fun b => decide (b < W.heap.size)) true 3 v2 d2 p2 :=
  fun W' hn => Below.trod Try.laidOut (by kernel_rfl) (of_decide_eq_true (by kernel_rfl)) h2 hn (fun y hy => by simpa using hW'.lt y (by simp [hy]))
 obtain ⟨x,y,z,p,q,r,rfl⟩ := open_box (hval 0 25 v0 rfl rfl) h0
 obtain ⟨a,b,c,d,s,u,rfl⟩ := open_box (hval 1 25 v1 rfl rfl) h1
 obtain ⟨k,rfl,_,_,_⟩ := open_int Try.underlying3 (hval 2 3 v2 rfl rfl) h2
 refine (kerfTrimmed_any x y z p q r a b c d s u k W).mono fun e W' ⟨he,hn⟩ => ?_
 subst he
 exact ⟨_,rfl,_,_,_,[],_,[],hW',trodAll_mk1 (shut_bool Try.underlying4 _),trodAll_mk3 (harg0 _ hn) (harg1 _ hn) (harg2 _ hn),(List.append_nil _).symm,hn.frame _,fun h => by cases h⟩

theorem kerfTrimmed_holds : Rows.KerfTrimmedSaid :=
 OpenClaim.holds_of_wide 11 Try.f11 rfl rfl rfl rfl rfl rfl rfl ⟨rfl,rfl,rfl,rfl,rfl⟩ rfl rfl rfl rfl rfl (by kernel_rfl) Try.func11 (by kernel_rfl)
  (of_decide_eq_true (by kernel_rfl)) (by unfold Func.isWrapper; first | (rw [if_pos (by decide +kernel)]; kernel_rfl) | (rw [if_neg (by decide +kernel)]; exact ⟨rfl,rfl⟩))
  (fun os started H enc _ => kerfTrimmed_lifted os started H enc)
end Go.Proofs.Ytogmgaaejepcbaa
