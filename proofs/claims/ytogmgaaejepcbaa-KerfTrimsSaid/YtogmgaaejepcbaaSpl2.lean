/- The walk of kerf's Split,one axis. -/
import Derived.Test.YtogmgaaejepcbaaCor
import Derived.Test.YtogmgaaejepcbaaCk
import Derived.Test.YtogmgaaejepcbaaVol
import Derived.Test.YtogmgaaejepcbaaReg
namespace Go.Proofs.Ytogmgaaejepcbaa
open Go.RowKit

set_option maxHeartbeats 8000000 in
set_option maxRecDepth 100000 in
theorem Split2z (x y z p q r t k : Int) (hv : eB x y z p q r = 0) (ho : okI z r t k = 0) (hkp : k = 0) (w : World) :
  Calls Try.prog 14 #[.agg #[x,y,z,p,q,r],.agg #[.int .i64 2,t,k]] w fun e w' => e = .returned (.tuple #[.agg #[x,y,z,p,q,t],.agg #[.int .i64 0,.int .i64 0,.int .i64 0,.int .i64 0,.int .i64 0,.int .i64 0],.agg #[x,y,.int .i64 (t + k),p,q,r],.int .i64 0]) ∧ Below w.heap.size w w' := by
 have hc := Check_ok2 x y z p q r t k hv
 rw [ho] at hc
 obtain ⟨⟨a1,a2,a3⟩,⟨a4,a5,a6⟩,⟨a7,a8,a9⟩⟩ := eB_bd hv
 obtain ⟨b1,b2,b3⟩ := okI_z ho
 obtain ⟨b4,b5⟩ := rgB_iff.1 b1
 clear hv ho b1
 have hw : IntKind.i64.wrap (t + k) = t + k := IntWalk.i64_in _ (by omega)
 have d1 : decide (0 < k) = false := by simpa using (show k ≤ 0 by omega)
 clear hkp
 go_enter Try.func14,Try.ntmps14
 go_wp2_with (first | (go_at_call 17; refine (hc _).mono ?_; rintro e w1 ⟨rfl,hb1⟩; obtain ⟨hc1,hf1⟩ := bcell hb1; have hz1 := hb1.size; (try simp at hz1); (try have y10 : w.heap.size < w1.heap.size := (by omega)); (try have y10p : w.heap.size < w1.heap.size + 1 := (by omega)); (try have y11 : w.heap.size + 1 < w1.heap.size := (by omega)); (try have y11p : w.heap.size + 1 < w1.heap.size + 1 := (by omega)); (try have y12 : w.heap.size + 1 + 1 < w1.heap.size := (by omega)); (try have y12p : w.heap.size + 1 + 1 < w1.heap.size + 1 := (by omega)); (try have y13 : w.heap.size + 1 + 1 + 1 < w1.heap.size := (by omega)); (try have y13p : w.heap.size + 1 + 1 + 1 < w1.heap.size + 1 := (by omega)); (try have y14 : w.heap.size + 1 + 1 + 1 + 1 < w1.heap.size := (by omega)); (try have y14p : w.heap.size + 1 + 1 + 1 + 1 < w1.heap.size + 1 := (by omega)); (try have v0x1 : w0.heap.size < w1.heap.size := (by omega)); (try have v0x1p : w0.heap.size < w1.heap.size + 1 := (by omega))) | (go_at_call 42; refine (ends_any _ _).mono ?_; rintro e w2 ⟨rfl,hb2⟩; obtain ⟨hc2,hf2⟩ := bcell hb2; have hz2 := hb2.size; (try simp at hz2); (try have y20 : w.heap.size < w2.heap.size := (by omega)); (try have y20p : w.heap.size < w2.heap.size + 1 := (by omega)); (try have y21 : w.heap.size + 1 < w2.heap.size := (by omega)); (try have y21p : w.heap.size + 1 < w2.heap.size + 1 := (by omega)); (try have y22 : w.heap.size + 1 + 1 < w2.heap.size := (by omega)); (try have y22p : w.heap.size + 1 + 1 < w2.heap.size + 1 := (by omega)); (try have y23 : w.heap.size + 1 + 1 + 1 < w2.heap.size := (by omega)); (try have y23p : w.heap.size + 1 + 1 + 1 < w2.heap.size + 1 := (by omega)); (try have y24 : w.heap.size + 1 + 1 + 1 + 1 < w2.heap.size := (by omega)); (try have y24p : w.heap.size + 1 + 1 + 1 + 1 < w2.heap.size + 1 := (by omega)); (try have v0x2 : w0.heap.size < w2.heap.size := (by omega)); (try have v0x2p : w0.heap.size < w2.heap.size + 1 := (by omega)); (try have v1x2 : w1.heap.size < w2.heap.size := (by omega)); (try have v1x2p : w1.heap.size < w2.heap.size + 1 := (by omega))))
 refine wp_region_any (by kernel_rfl) ?_
 try (change wpAny _ _ _ _ _ _ _ (World.drew _))
 refine wpAny_vals (fr := fun o => #[.agg #[x,y,z,p,q,r],.agg #[.int .i64 2,t,k],.pointer (some ⟨w.heap.size,0,none⟩),.pointer (some ⟨(w.heap.size + 1),0,none⟩),.pointer (some ⟨(w.heap.size + 1 + 1),0,none⟩),.pointer (some ⟨(w.heap.size + 1 + 1 + 1),0,none⟩),.pointer (some ⟨(w.heap.size + 1 + 1 + 1 + 1),0,none⟩),o 31,.int .i64 0,.pointer (some ⟨w2.heap.size,0,none⟩),.pointer (some ⟨(w2.heap.size + 1),0,none⟩),.pointer (some ⟨(w2.heap.size + 1 + 1),0,none⟩),.agg #[x,y,z,p,q,r],.agg #[.int .i64 2,t,k],.int .i64 0,.int .i64 0,.bool false,undef,undef,undef,undef,.tuple #[.agg #[.pointer (some ⟨w.heap.size,0,none⟩),.pointer (some ⟨w.heap.size,1,none⟩),.pointer (some ⟨w.heap.size,2,none⟩)],.agg #[.pointer (some ⟨w.heap.size,3,none⟩),.pointer (some ⟨w.heap.size,4,none⟩),.pointer (some ⟨w.heap.size,5,none⟩)]],.tuple #[.agg #[.pointer (some ⟨w.heap.size,0,none⟩),.pointer (some ⟨w.heap.size,1,none⟩),.pointer (some ⟨w.heap.size,2,none⟩)],.agg #[.pointer (some ⟨w.heap.size,3,none⟩),.pointer (some ⟨w.heap.size,4,none⟩),.pointer (some ⟨w.heap.size,5,none⟩)]],.agg #[.pointer (some ⟨w.heap.size,0,none⟩),.pointer (some ⟨w.heap.size,1,none⟩),.pointer (some ⟨w.heap.size,2,none⟩)],.agg #[.pointer (some ⟨w.heap.size,3,none⟩),.pointer (some ⟨w.heap.size,4,none⟩),.pointer (some ⟨w.heap.size,5,none⟩)],.pointer (some ⟨(w.heap.size + 1),2,none⟩),.int .i64 k,.bool false,undef,undef,undef,undef,undef,undef,undef,undef,undef,undef,undef,o 0,o 1,o 2,o 3,o 4,o 5,o 6,o 7,o 8,o 9,o 10,o 11,o 12,o 13,o 14,o 15,o 16,o 17,o 18,o 19,o 20,o 21,o 22,o 23,o 24,o 25,o 26,o 27]) (vals := fun i_ => ([.agg #[x,y,z,p,q,r],.pointer (some ⟨(w.heap.size + 1),0,none⟩),.int .i64 2,.pointer (some ⟨(w.heap.size + 1),0,none⟩),.int .i64 2,.pointer (some ⟨w2.heap.size,2,none⟩),.pointer (some ⟨w.heap.size,2,none⟩),.pointer (some ⟨w.heap.size,2,none⟩),.int .i64 z,.pointer (some ⟨(w.heap.size + 1),1,none⟩),.int .i64 t,.agg #[x,y,z,p,q,t],.agg #[.int .i64 0,.int .i64 0,.int .i64 0,.int .i64 0,.int .i64 0,.int .i64 0],.agg #[x,y,z,p,q,r],.pointer (some ⟨(w.heap.size + 1),0,none⟩),.int .i64 2,.pointer (some ⟨(w.heap.size + 1),1,none⟩),.int .i64 t,.pointer (some ⟨(w.heap.size + 1),2,none⟩),.int .i64 k,.int .i64 (t + k),.pointer (some ⟨(w.heap.size + 1),0,none⟩),.int .i64 2,.pointer (some ⟨(w2.heap.size + 1),2,none⟩),.pointer (some ⟨w.heap.size,5,none⟩),.pointer (some ⟨w.heap.size,5,none⟩),.int .i64 r,.agg #[x,y,.int .i64 (t + k),p,q,r],undef,undef,undef,.int .i64 0] : List Value).getD i_ undef) (Kf := fun W_ => KL [((w2.heap.size + 1 + 1),25,#[.int .i64 0,.int .i64 0,.int .i64 0,.int .i64 0,.int .i64 0,.int .i64 0]),((w2.heap.size + 1),76,#[.pointer (some ⟨w.heap.size,3,none⟩),.pointer (some ⟨w.heap.size,4,none⟩),.pointer (some ⟨w.heap.size,5,none⟩)]),(w2.heap.size,76,#[.pointer (some ⟨w.heap.size,0,none⟩),.pointer (some ⟨w.heap.size,1,none⟩),.pointer (some ⟨w.heap.size,2,none⟩)]),((w.heap.size + 1),33,#[.int .i64 2,t,k]),(w.heap.size,25,#[x,y,z,p,q,r])] w W_) (K := fun kk_ => ([(KL [((w2.heap.size + 1 + 1),25,#[.int .i64 0,.int .i64 0,.int .i64 0,.int .i64 0,.int .i64 0,.int .i64 0]),((w2.heap.size + 1),76,#[.pointer (some ⟨w.heap.size,3,none⟩),.pointer (some ⟨w.heap.size,4,none⟩),.pointer (some ⟨w.heap.size,5,none⟩)]),(w2.heap.size,76,#[.pointer (some ⟨w.heap.size,0,none⟩),.pointer (some ⟨w.heap.size,1,none⟩),.pointer (some ⟨w.heap.size,2,none⟩)]),((w.heap.size + 1 + 1 + 1 + 1),25,#[.int .i64 0,.int .i64 0,.int .i64 0,.int .i64 0,.int .i64 0,.int .i64 0]),((w.heap.size + 1 + 1 + 1),25,#[.int .i64 0,.int .i64 0,.int .i64 0,.int .i64 0,.int .i64 0,.int .i64 0]),((w.heap.size + 1 + 1),25,#[.int .i64 0,.int .i64 0,.int .i64 0,.int .i64 0,.int .i64 0,.int .i64 0]),((w.heap.size + 1),33,#[.int .i64 2,t,k]),(w.heap.size,25,#[x,y,z,p,q,r])] w),(KL [((w2.heap.size + 1 + 1),25,#[.int .i64 0,.int .i64 0,.int .i64 0,.int .i64 0,.int .i64 0,.int .i64 0]),((w2.heap.size + 1),76,#[.pointer (some ⟨w.heap.size,3,none⟩),.pointer (some ⟨w.heap.size,4,none⟩),.pointer (some ⟨w.heap.size,5,none⟩)]),(w2.heap.size,76,#[.pointer (some ⟨w.heap.size,0,none⟩),.pointer (some ⟨w.heap.size,1,none⟩),.pointer (some ⟨w.heap.size,2,none⟩)]),((w.heap.size + 1 + 1 + 1 + 1),25,#[.int .i64 0,.int .i64 0,.int .i64 0,.int .i64 0,.int .i64 0,.int .i64 0]),((w.heap.size + 1 + 1 + 1),25,#[.int .i64 0,.int .i64 0,.int .i64 0,.int .i64 0,.int .i64 0,.int .i64 0]),((w.heap.size + 1 + 1),25,#[x,y,z,p,q,t]),((w.heap.size + 1),33,#[.int .i64 2,t,k]),(w.heap.size,25,#[x,y,z,p,q,r])] w),(KL [((w2.heap.size + 1 + 1),25,#[.int .i64 0,.int .i64 0,.int .i64 0,.int .i64 0,.int .i64 0,.int .i64 0]),((w2.heap.size + 1),76,#[.pointer (some ⟨w.heap.size,3,none⟩),.pointer (some ⟨w.heap.size,4,none⟩),.pointer (some ⟨w.heap.size,5,none⟩)]),(w2.heap.size,76,#[.pointer (some ⟨w.heap.size,0,none⟩),.pointer (some ⟨w.heap.size,1,none⟩),.pointer (some ⟨w.heap.size,2,none⟩)]),((w.heap.size + 1 + 1 + 1 + 1),25,#[.int .i64 0,.int .i64 0,.int .i64 0,.int .i64 0,.int .i64 0,.int .i64 0]),((w.heap.size + 1 + 1 + 1),25,#[.int .i64 0,.int .i64 0,.int .i64 0,.int .i64 0,.int .i64 0,.int .i64 0]),((w.heap.size + 1 + 1),25,#[x,y,z,p,q,t]),((w.heap.size + 1),33,#[.int .i64 2,t,k]),(w.heap.size,25,#[x,y,z,p,q,r])] w),(KL [((w2.heap.size + 1 + 1),25,#[.int .i64 0,.int .i64 0,.int .i64 0,.int .i64 0,.int .i64 0,.int .i64 0]),((w2.heap.size + 1),76,#[.pointer (some ⟨w.heap.size,3,none⟩),.pointer (some ⟨w.heap.size,4,none⟩),.pointer (some ⟨w.heap.size,5,none⟩)]),(w2.heap.size,76,#[.pointer (some ⟨w.heap.size,0,none⟩),.pointer (some ⟨w.heap.size,1,none⟩),.pointer (some ⟨w.heap.size,2,none⟩)]),((w.heap.size + 1 + 1 + 1 + 1),25,#[x,y,.int .i64 (t + k),p,q,r]),((w.heap.size + 1 + 1 + 1),25,#[.int .i64 0,.int .i64 0,.int .i64 0,.int .i64 0,.int .i64 0,.int .i64 0]),((w.heap.size + 1 + 1),25,#[x,y,z,p,q,t]),((w.heap.size + 1),33,#[.int .i64 2,t,k]),(w.heap.size,25,#[x,y,z,p,q,r])] w)] : List (World → Prop)).getD kk_ (fun _ => True)) (dep := fun i_ => [[],[],[1],[],[3],[4],[5],[6],[7],[],[9],[0,2,8,10],[],[],[],[14],[],[16],[],[18],[17,19],[],[21],[22],[23],[24],[25],[13,15,20,26],[0,2,4,6,8,10,11,27],[12,28],[27,29],[]].getD i_ []) (dv := fun i_ => [[],[],[1],[],[3],[4],[5],[6],[7],[],[9],[0,2,8,10],[],[],[],[14],[],[16],[],[18],[17,19],[],[21],[22],[23],[24],[25],[13,15,20,26],[11],[12],[27],[]].getD i_ []) (kd := fun i_ => [1,0,1,0,1,0,1,0,1,0,1,1,0,0,0,0,0,0,0,0,0,0,0,0,0,0,0,1,2,3,4,0].getD i_ 0) (ss := [28,29,30]) (l := [0,1,2,3,4,5,6,7,8,9,10,11,12,13,14,15,16,17,18,19,20,21,22,23,24,25,26,27,28,29,30,31]) (f0 := fun i_ => ([undef,undef,undef,undef,undef,undef,undef,undef,undef,undef,undef,undef,undef,undef,undef,undef,undef,undef,undef,undef,undef,undef,undef,undef,undef,undef,undef,undef,undef,undef,undef,.int .i64 0] : List Value).getD i_ undef) (A := ?A5) 32 rfl rfl (by decide +kernel) (by decide +kernel) ?_ ?_ ⟨?_,?_,?_,?_,?_,?_,?_,?_,?_,?_,?_,?_,?_,?_,?_,?_,?_,?_,?_,?_,?_,?_,?_,?_,?_,?_,?_,?_,?_,?_,?_,?_,trivial⟩ ?_ ?_
 rotate_left
 ·exact KL.drew (KL.new (g := (w2.heap.size + 1 + 1)) (KL.new (g := (w2.heap.size + 1)) (KL.new (g := w2.heap.size) (KL.over (KL.over (KL.new (g := (w.heap.size + 1 + 1 + 1 + 1)) (KL.new (g := (w.heap.size + 1 + 1 + 1)) (KL.new (g := (w.heap.size + 1 + 1)) (KL.new (g := (w.heap.size + 1)) (KL.new (g := w.heap.size) (KL.nil w) rfl _ _) (by simp) _ _) (by simp) _ _) (by simp) _ _) (by simp) _ _) hb1) hb2) (by simp) _ _) (by simp) _ _) (by simp) _ _)
 ·intro t_ W ht_ hh_
  rcases t_ with _ | _ | _ | _ | _
  ·exact KL.part hh_ (fun p_ hp_ => by simp only [List.mem_cons,List.not_mem_nil,or_false] at hp_; rcases hp_ with rfl | rfl | rfl | rfl | rfl; exact (.head _); exact (.tail _ (.head _)); exact (.tail _ (.tail _ (.head _))); exact (.tail _ (.tail _ (.tail _ (.tail _ (.tail _ (.tail _ (.head _))))))); exact (.tail _ (.tail _ (.tail _ (.tail _ (.tail _ (.tail _ (.tail _ (.head _)))))))))
  ·exact KL.part hh_ (fun p_ hp_ => by simp only [List.mem_cons,List.not_mem_nil,or_false] at hp_; rcases hp_ with rfl | rfl | rfl | rfl | rfl; exact (.head _); exact (.tail _ (.head _)); exact (.tail _ (.tail _ (.head _))); exact (.tail _ (.tail _ (.tail _ (.tail _ (.tail _ (.tail _ (.head _))))))); exact (.tail _ (.tail _ (.tail _ (.tail _ (.tail _ (.tail _ (.tail _ (.head _)))))))))
  ·exact KL.part hh_ (fun p_ hp_ => by simp only [List.mem_cons,List.not_mem_nil,or_false] at hp_; rcases hp_ with rfl | rfl | rfl | rfl | rfl; exact (.head _); exact (.tail _ (.head _)); exact (.tail _ (.tail _ (.head _))); exact (.tail _ (.tail _ (.tail _ (.tail _ (.tail _ (.tail _ (.head _))))))); exact (.tail _ (.tail _ (.tail _ (.tail _ (.tail _ (.tail _ (.tail _ (.head _)))))))))
  ·exact KL.part hh_ (fun p_ hp_ => by simp only [List.mem_cons,List.not_mem_nil,or_false] at hp_; rcases hp_ with rfl | rfl | rfl | rfl | rfl; exact (.head _); exact (.tail _ (.head _)); exact (.tail _ (.tail _ (.head _))); exact (.tail _ (.tail _ (.tail _ (.tail _ (.tail _ (.tail _ (.head _))))))); exact (.tail _ (.tail _ (.tail _ (.tail _ (.tail _ (.tail _ (.tail _ (.head _)))))))))
  ·exact absurd ht_ (by simp)
 ·intro o W hj
  have hj : KL _ _ W := hj
  obtain ⟨cL,c0,c1,c2,c3,c4,c5⟩ := bl6 (KL.blk hj (.tail _ (.tail _ (.tail _ (.tail _ (.tail _ (.tail _ (.tail _ (.head _)))))))))
  show wpOp _ _ _ 0 _ ⟨#[_,_,_,_,_,_,_,o 31,_,_,_,_,_,_,_,_,_,_,_,_,_,_,_,_,_,_,_,_,_,_,_,_,_,_,_,_,_,_,_,o 0,o 1,o 2,o 3,o 4,o 5,o 6,o 7,o 8,o 9,o 10,o 11,o 12,o 13,o 14,o 15,o 16,o 17,o 18,o 19,o 20,o 21,o 22,o 23,o 24,o 25,o 26,o 27],[]⟩ W
  refine wpOp_step rfl fun _ hK => ?_
  go_simp
  exact hK _ _ ⟨rfl,hj⟩
 ·intro o W _
  show wpOp _ _ _ 1 _ ⟨#[_,_,_,_,_,_,_,o 31,_,_,_,_,_,_,_,_,_,_,_,_,_,_,_,_,_,_,_,_,_,_,_,_,_,_,_,_,_,_,_,o 0,o 1,o 2,o 3,o 4,o 5,o 6,o 7,o 8,o 9,o 10,o 11,o 12,o 13,o 14,o 15,o 16,o 17,o 18,o 19,o 20,o 21,o 22,o 23,o 24,o 25,o 26,o 27],[]⟩ W
  refine wpOp_step rfl fun _ hK => ?_
  go_simp
  exact hK _ _ ⟨rfl,rfl⟩
 ·intro o W hj
  have hj : KL _ _ W := hj
  obtain ⟨cL,c0,c1,c2⟩ := bl3 (KL.blk hj (.tail _ (.tail _ (.tail _ (.tail _ (.tail _ (.tail _ (.head _))))))))
  show wpOp _ _ _ 2 _ ⟨#[_,_,_,_,_,_,_,o 31,_,_,_,_,_,_,_,_,_,_,_,_,_,_,_,_,_,_,_,_,_,_,_,_,_,_,_,_,_,_,_,o 0,.pointer (some ⟨(w.heap.size + 1),0,none⟩),o 2,o 3,o 4,o 5,o 6,o 7,o 8,o 9,o 10,o 11,o 12,o 13,o 14,o 15,o 16,o 17,o 18,o 19,o 20,o 21,o 22,o 23,o 24,o 25,o 26,o 27],[]⟩ W
  refine wpOp_step rfl fun _ hK => ?_
  go_simp
  exact hK _ _ ⟨rfl,hj⟩
 ·intro o W _
  show wpOp _ _ _ 3 _ ⟨#[_,_,_,_,_,_,_,o 31,_,_,_,_,_,_,_,_,_,_,_,_,_,_,_,_,_,_,_,_,_,_,_,_,_,_,_,_,_,_,_,o 0,o 1,o 2,o 3,o 4,o 5,o 6,o 7,o 8,o 9,o 10,o 11,o 12,o 13,o 14,o 15,o 16,o 17,o 18,o 19,o 20,o 21,o 22,o 23,o 24,o 25,o 26,o 27],[]⟩ W
  refine wpOp_step rfl fun _ hK => ?_
  go_simp
  exact hK _ _ ⟨rfl,rfl⟩
 ·intro o W hj
  have hj : KL _ _ W := hj
  obtain ⟨cL,c0,c1,c2⟩ := bl3 (KL.blk hj (.tail _ (.tail _ (.tail _ (.tail _ (.tail _ (.tail _ (.head _))))))))
  show wpOp _ _ _ 4 _ ⟨#[_,_,_,_,_,_,_,o 31,_,_,_,_,_,_,_,_,_,_,_,_,_,_,_,_,_,_,_,_,_,_,_,_,_,_,_,_,_,_,_,o 0,o 1,o 2,.pointer (some ⟨(w.heap.size + 1),0,none⟩),o 4,o 5,o 6,o 7,o 8,o 9,o 10,o 11,o 12,o 13,o 14,o 15,o 16,o 17,o 18,o 19,o 20,o 21,o 22,o 23,o 24,o 25,o 26,o 27],[]⟩ W
  refine wpOp_step rfl fun _ hK => ?_
  go_simp
  exact hK _ _ ⟨rfl,hj⟩
 ·intro o W _
  show wpOp _ _ _ 5 _ ⟨#[_,_,_,_,_,_,_,o 31,_,_,_,_,_,_,_,_,_,_,_,_,_,_,_,_,_,_,_,_,_,_,_,_,_,_,_,_,_,_,_,o 0,o 1,o 2,o 3,.int .i64 2,o 5,o 6,o 7,o 8,o 9,o 10,o 11,o 12,o 13,o 14,o 15,o 16,o 17,o 18,o 19,o 20,o 21,o 22,o 23,o 24,o 25,o 26,o 27],[]⟩ W
  refine wpOp_step rfl fun _ hK => ?_
  go_simp
  exact hK _ _ ⟨rfl,rfl⟩
 ·intro o W hj
  have hj : KL _ _ W := hj
  obtain ⟨cL,c0,c1,c2⟩ := bl3 (KL.blk hj (.tail _ (.tail _ (.head _))))
  show wpOp _ _ _ 6 _ ⟨#[_,_,_,_,_,_,_,o 31,_,_,_,_,_,_,_,_,_,_,_,_,_,_,_,_,_,_,_,_,_,_,_,_,_,_,_,_,_,_,_,o 0,o 1,o 2,o 3,o 4,.pointer (some ⟨w2.heap.size,2,none⟩),o 6,o 7,o 8,o 9,o 10,o 11,o 12,o 13,o 14,o 15,o 16,o 17,o 18,o 19,o 20,o 21,o 22,o 23,o 24,o 25,o 26,o 27],[]⟩ W
  refine wpOp_step rfl fun _ hK => ?_
  go_simp
  exact hK _ _ ⟨rfl,hj⟩
 ·intro o W _
  show wpOp _ _ _ 7 _ ⟨#[_,_,_,_,_,_,_,o 31,_,_,_,_,_,_,_,_,_,_,_,_,_,_,_,_,_,_,_,_,_,_,_,_,_,_,_,_,_,_,_,o 0,o 1,o 2,o 3,o 4,o 5,.pointer (some ⟨w.heap.size,2,none⟩),o 7,o 8,o 9,o 10,o 11,o 12,o 13,o 14,o 15,o 16,o 17,o 18,o 19,o 20,o 21,o 22,o 23,o 24,o 25,o 26,o 27],[]⟩ W
  refine wpOp_step rfl fun _ hK => ?_
  go_simp
  exact hK _ _ ⟨rfl,rfl⟩
 ·intro o W hj
  have hj : KL _ _ W := hj
  obtain ⟨cL,c0,c1,c2,c3,c4,c5⟩ := bl6 (KL.blk hj (.tail _ (.tail _ (.tail _ (.tail _ (.tail _ (.tail _ (.tail _ (.head _)))))))))
  show wpOp _ _ _ 8 _ ⟨#[_,_,_,_,_,_,_,o 31,_,_,_,_,_,_,_,_,_,_,_,_,_,_,_,_,_,_,_,_,_,_,_,_,_,_,_,_,_,_,_,o 0,o 1,o 2,o 3,o 4,o 5,o 6,.pointer (some ⟨w.heap.size,2,none⟩),o 8,o 9,o 10,o 11,o 12,o 13,o 14,o 15,o 16,o 17,o 18,o 19,o 20,o 21,o 22,o 23,o 24,o 25,o 26,o 27],[]⟩ W
  refine wpOp_step rfl fun _ hK => ?_
  go_simp
  exact hK _ _ ⟨rfl,hj⟩
 ·intro o W _
  show wpOp _ _ _ 9 _ ⟨#[_,_,_,_,_,_,_,o 31,_,_,_,_,_,_,_,_,_,_,_,_,_,_,_,_,_,_,_,_,_,_,_,_,_,_,_,_,_,_,_,o 0,o 1,o 2,o 3,o 4,o 5,o 6,o 7,o 8,o 9,o 10,o 11,o 12,o 13,o 14,o 15,o 16,o 17,o 18,o 19,o 20,o 21,o 22,o 23,o 24,o 25,o 26,o 27],[]⟩ W
  refine wpOp_step rfl fun _ hK => ?_
  go_simp
  exact hK _ _ ⟨rfl,rfl⟩
 ·intro o W hj
  have hj : KL _ _ W := hj
  obtain ⟨cL,c0,c1,c2⟩ := bl3 (KL.blk hj (.tail _ (.tail _ (.tail _ (.tail _ (.tail _ (.tail _ (.head _))))))))
  show wpOp _ _ _ 10 _ ⟨#[_,_,_,_,_,_,_,o 31,_,_,_,_,_,_,_,_,_,_,_,_,_,_,_,_,_,_,_,_,_,_,_,_,_,_,_,_,_,_,_,o 0,o 1,o 2,o 3,o 4,o 5,o 6,o 7,o 8,.pointer (some ⟨(w.heap.size + 1),1,none⟩),o 10,o 11,o 12,o 13,o 14,o 15,o 16,o 17,o 18,o 19,o 20,o 21,o 22,o 23,o 24,o 25,o 26,o 27],[]⟩ W
  refine wpOp_step rfl fun _ hK => ?_
  go_simp
  exact hK _ _ ⟨rfl,hj⟩
 ·intro o W hj
  have hj : KL _ _ W := hj
  show wpOp _ _ _ 11 _ ⟨#[_,_,_,_,_,_,_,o 31,_,_,_,_,_,_,_,_,_,_,_,_,_,_,_,_,_,_,_,_,_,_,_,_,_,_,_,_,_,_,_,.agg #[x,y,z,p,q,r],o 1,.int .i64 2,o 3,o 4,o 5,o 6,o 7,.int .i64 z,o 9,.int .i64 t,o 11,o 12,o 13,o 14,o 15,o 16,o 17,o 18,o 19,o 20,o 21,o 22,o 23,o 24,o 25,o 26,o 27],[]⟩ W
  refine wpOp_step rfl fun _ hK => ?_
  go_simp
  refine (part2 _ _ _ _ _ _ _ _ _).mono ?_
  rintro e W1 ⟨rfl,hb1⟩
  exact hK _ _ ⟨rfl,hj.over hb1⟩
 ·intro o W hj
  have hj : KL _ _ W := hj
  obtain ⟨cL,c0,c1,c2,c3,c4,c5⟩ := bl6 (KL.blk hj (.head _))
  show wpOp _ _ _ 12 _ ⟨#[_,_,_,_,_,_,_,o 31,_,_,_,_,_,_,_,_,_,_,_,_,_,_,_,_,_,_,_,_,_,_,_,_,_,_,_,_,_,_,_,o 0,o 1,o 2,o 3,o 4,o 5,o 6,o 7,o 8,o 9,o 10,o 11,o 12,o 13,o 14,o 15,o 16,o 17,o 18,o 19,o 20,o 21,o 22,o 23,o 24,o 25,o 26,o 27],[]⟩ W
  refine wpOp_step rfl fun _ hK => ?_
  go_simp
  exact hK _ _ ⟨rfl,rfl⟩
 ·intro o W hj
  have hj : KL _ _ W := hj
  obtain ⟨cL,c0,c1,c2,c3,c4,c5⟩ := bl6 (KL.blk hj (.tail _ (.tail _ (.tail _ (.tail _ (.head _))))))
  show wpOp _ _ _ 13 _ ⟨#[_,_,_,_,_,_,_,o 31,_,_,_,_,_,_,_,_,_,_,_,_,_,_,_,_,_,_,_,_,_,_,_,_,_,_,_,_,_,_,_,o 0,o 1,o 2,o 3,o 4,o 5,o 6,o 7,o 8,o 9,o 10,o 11,o 12,o 13,o 14,o 15,o 16,o 17,o 18,o 19,o 20,o 21,o 22,o 23,o 24,o 25,o 26,o 27],[]⟩ W
  refine wpOp_step rfl fun _ hK => ?_
  go_simp
  exact hK _ _ ⟨rfl,rfl⟩
 ·intro o W _
  show wpOp _ _ _ 14 _ ⟨#[_,_,_,_,_,_,_,o 31,_,_,_,_,_,_,_,_,_,_,_,_,_,_,_,_,_,_,_,_,_,_,_,_,_,_,_,_,_,_,_,o 0,o 1,o 2,o 3,o 4,o 5,o 6,o 7,o 8,o 9,o 10,o 11,o 12,o 13,o 14,o 15,o 16,o 17,o 18,o 19,o 20,o 21,o 22,o 23,o 24,o 25,o 26,o 27],[]⟩ W
  refine wpOp_step rfl fun _ hK => ?_
  go_simp
  exact hK _ _ ⟨rfl,rfl⟩
 ·intro o W hj
  have hj : KL _ _ W := hj
  obtain ⟨cL,c0,c1,c2⟩ := bl3 (KL.blk hj (.tail _ (.tail _ (.tail _ (.head _)))))
  show wpOp _ _ _ 15 _ ⟨#[_,_,_,_,_,_,_,o 31,_,_,_,_,_,_,_,_,_,_,_,_,_,_,_,_,_,_,_,_,_,_,_,_,_,_,_,_,_,_,_,o 0,o 1,o 2,o 3,o 4,o 5,o 6,o 7,o 8,o 9,o 10,o 11,o 12,o 13,.pointer (some ⟨(w.heap.size + 1),0,none⟩),o 15,o 16,o 17,o 18,o 19,o 20,o 21,o 22,o 23,o 24,o 25,o 26,o 27],[]⟩ W
  refine wpOp_step rfl fun _ hK => ?_
  go_simp
  exact hK _ _ ⟨rfl,rfl⟩
 ·intro o W _
  show wpOp _ _ _ 16 _ ⟨#[_,_,_,_,_,_,_,o 31,_,_,_,_,_,_,_,_,_,_,_,_,_,_,_,_,_,_,_,_,_,_,_,_,_,_,_,_,_,_,_,o 0,o 1,o 2,o 3,o 4,o 5,o 6,o 7,o 8,o 9,o 10,o 11,o 12,o 13,o 14,o 15,o 16,o 17,o 18,o 19,o 20,o 21,o 22,o 23,o 24,o 25,o 26,o 27],[]⟩ W
  refine wpOp_step rfl fun _ hK => ?_
  go_simp
  exact hK _ _ ⟨rfl,rfl⟩
 ·intro o W hj
  have hj : KL _ _ W := hj
  obtain ⟨cL,c0,c1,c2⟩ := bl3 (KL.blk hj (.tail _ (.tail _ (.tail _ (.head _)))))
  show wpOp _ _ _ 17 _ ⟨#[_,_,_,_,_,_,_,o 31,_,_,_,_,_,_,_,_,_,_,_,_,_,_,_,_,_,_,_,_,_,_,_,_,_,_,_,_,_,_,_,o 0,o 1,o 2,o 3,o 4,o 5,o 6,o 7,o 8,o 9,o 10,o 11,o 12,o 13,o 14,o 15,.pointer (some ⟨(w.heap.size + 1),1,none⟩),o 17,o 18,o 19,o 20,o 21,o 22,o 23,o 24,o 25,o 26,o 27],[]⟩ W
  refine wpOp_step rfl fun _ hK => ?_
  go_simp
  exact hK _ _ ⟨rfl,rfl⟩
 ·intro o W _
  show wpOp _ _ _ 18 _ ⟨#[_,_,_,_,_,_,_,o 31,_,_,_,_,_,_,_,_,_,_,_,_,_,_,_,_,_,_,_,_,_,_,_,_,_,_,_,_,_,_,_,o 0,o 1,o 2,o 3,o 4,o 5,o 6,o 7,o 8,o 9,o 10,o 11,o 12,o 13,o 14,o 15,o 16,o 17,o 18,o 19,o 20,o 21,o 22,o 23,o 24,o 25,o 26,o 27],[]⟩ W
  refine wpOp_step rfl fun _ hK => ?_
  go_simp
  exact hK _ _ ⟨rfl,rfl⟩
 ·intro o W hj
  have hj : KL _ _ W := hj
  obtain ⟨cL,c0,c1,c2⟩ := bl3 (KL.blk hj (.tail _ (.tail _ (.tail _ (.head _)))))
  show wpOp _ _ _ 19 _ ⟨#[_,_,_,_,_,_,_,o 31,_,_,_,_,_,_,_,_,_,_,_,_,_,_,_,_,_,_,_,_,_,_,_,_,_,_,_,_,_,_,_,o 0,o 1,o 2,o 3,o 4,o 5,o 6,o 7,o 8,o 9,o 10,o 11,o 12,o 13,o 14,o 15,o 16,o 17,.pointer (some ⟨(w.heap.size + 1),2,none⟩),o 19,o 20,o 21,o 22,o 23,o 24,o 25,o 26,o 27],[]⟩ W
  refine wpOp_step rfl fun _ hK => ?_
  go_simp
  exact hK _ _ ⟨rfl,rfl⟩
 ·intro o W _
  show wpOp _ _ _ 20 _ ⟨#[_,_,_,_,_,_,_,o 31,_,_,_,_,_,_,_,_,_,_,_,_,_,_,_,_,_,_,_,_,_,_,_,_,_,_,_,_,_,_,_,o 0,o 1,o 2,o 3,o 4,o 5,o 6,o 7,o 8,o 9,o 10,o 11,o 12,o 13,o 14,o 15,o 16,.int .i64 t,o 18,.int .i64 k,o 20,o 21,o 22,o 23,o 24,o 25,o 26,o 27],[]⟩ W
  refine wpOp_step rfl fun _ hK => ?_
  go_simp
  exact hK _ _ ⟨rfl,rfl⟩
 ·intro o W _
  show wpOp _ _ _ 21 _ ⟨#[_,_,_,_,_,_,_,o 31,_,_,_,_,_,_,_,_,_,_,_,_,_,_,_,_,_,_,_,_,_,_,_,_,_,_,_,_,_,_,_,o 0,o 1,o 2,o 3,o 4,o 5,o 6,o 7,o 8,o 9,o 10,o 11,o 12,o 13,o 14,o 15,o 16,o 17,o 18,o 19,o 20,o 21,o 22,o 23,o 24,o 25,o 26,o 27],[]⟩ W
  refine wpOp_step rfl fun _ hK => ?_
  go_simp
  exact hK _ _ ⟨rfl,rfl⟩
 ·intro o W hj
  have hj : KL _ _ W := hj
  obtain ⟨cL,c0,c1,c2⟩ := bl3 (KL.blk hj (.tail _ (.tail _ (.tail _ (.head _)))))
  show wpOp _ _ _ 22 _ ⟨#[_,_,_,_,_,_,_,o 31,_,_,_,_,_,_,_,_,_,_,_,_,_,_,_,_,_,_,_,_,_,_,_,_,_,_,_,_,_,_,_,o 0,o 1,o 2,o 3,o 4,o 5,o 6,o 7,o 8,o 9,o 10,o 11,o 12,o 13,o 14,o 15,o 16,o 17,o 18,o 19,o 20,.pointer (some ⟨(w.heap.size + 1),0,none⟩),o 22,o 23,o 24,o 25,o 26,o 27],[]⟩ W
  refine wpOp_step rfl fun _ hK => ?_
  go_simp
  exact hK _ _ ⟨rfl,rfl⟩
 ·intro o W _
  show wpOp _ _ _ 23 _ ⟨#[_,_,_,_,_,_,_,o 31,_,_,_,_,_,_,_,_,_,_,_,_,_,_,_,_,_,_,_,_,_,_,_,_,_,_,_,_,_,_,_,o 0,o 1,o 2,o 3,o 4,o 5,o 6,o 7,o 8,o 9,o 10,o 11,o 12,o 13,o 14,o 15,o 16,o 17,o 18,o 19,o 20,o 21,.int .i64 2,o 23,o 24,o 25,o 26,o 27],[]⟩ W
  refine wpOp_step rfl fun _ hK => ?_
  go_simp
  exact hK _ _ ⟨rfl,rfl⟩
 ·intro o W hj
  have hj : KL _ _ W := hj
  obtain ⟨cL,c0,c1,c2⟩ := bl3 (KL.blk hj (.tail _ (.head _)))
  show wpOp _ _ _ 24 _ ⟨#[_,_,_,_,_,_,_,o 31,_,_,_,_,_,_,_,_,_,_,_,_,_,_,_,_,_,_,_,_,_,_,_,_,_,_,_,_,_,_,_,o 0,o 1,o 2,o 3,o 4,o 5,o 6,o 7,o 8,o 9,o 10,o 11,o 12,o 13,o 14,o 15,o 16,o 17,o 18,o 19,o 20,o 21,o 22,.pointer (some ⟨(w2.heap.size + 1),2,none⟩),o 24,o 25,o 26,o 27],[]⟩ W
  refine wpOp_step rfl fun _ hK => ?_
  go_simp
  exact hK _ _ ⟨rfl,rfl⟩
 ·intro o W _
  show wpOp _ _ _ 25 _ ⟨#[_,_,_,_,_,_,_,o 31,_,_,_,_,_,_,_,_,_,_,_,_,_,_,_,_,_,_,_,_,_,_,_,_,_,_,_,_,_,_,_,o 0,o 1,o 2,o 3,o 4,o 5,o 6,o 7,o 8,o 9,o 10,o 11,o 12,o 13,o 14,o 15,o 16,o 17,o 18,o 19,o 20,o 21,o 22,o 23,.pointer (some ⟨w.heap.size,5,none⟩),o 25,o 26,o 27],[]⟩ W
  refine wpOp_step rfl fun _ hK => ?_
  go_simp
  exact hK _ _ ⟨rfl,rfl⟩
 ·intro o W hj
  have hj : KL _ _ W := hj
  obtain ⟨cL,c0,c1,c2,c3,c4,c5⟩ := bl6 (KL.blk hj (.tail _ (.tail _ (.tail _ (.tail _ (.head _))))))
  show wpOp _ _ _ 26 _ ⟨#[_,_,_,_,_,_,_,o 31,_,_,_,_,_,_,_,_,_,_,_,_,_,_,_,_,_,_,_,_,_,_,_,_,_,_,_,_,_,_,_,o 0,o 1,o 2,o 3,o 4,o 5,o 6,o 7,o 8,o 9,o 10,o 11,o 12,o 13,o 14,o 15,o 16,o 17,o 18,o 19,o 20,o 21,o 22,o 23,o 24,.pointer (some ⟨w.heap.size,5,none⟩),o 26,o 27],[]⟩ W
  refine wpOp_step rfl fun _ hK => ?_
  go_simp
  exact hK _ _ ⟨rfl,rfl⟩
 ·intro o W hj
  have hj : KL _ _ W := hj
  show wpOp _ _ _ 27 _ ⟨#[_,_,_,_,_,_,_,o 31,_,_,_,_,_,_,_,_,_,_,_,_,_,_,_,_,_,_,_,_,_,_,_,_,_,_,_,_,_,_,_,o 0,o 1,o 2,o 3,o 4,o 5,o 6,o 7,o 8,o 9,o 10,o 11,o 12,.agg #[x,y,z,p,q,r],o 14,.int .i64 2,o 16,o 17,o 18,o 19,.int .i64 (t + k),o 21,o 22,o 23,o 24,o 25,.int .i64 r,o 27],[]⟩ W
  refine wpOp_step rfl fun _ hK => ?_
  go_simp
  refine (part2 _ _ _ _ _ _ _ _ _).mono ?_
  rintro e W1 ⟨rfl,hb1⟩
  exact hK _ _ ⟨rfl,hj.over hb1⟩
 ·intro o W hj
  have hj : KL _ _ W := hj
  obtain ⟨cL,c0,c1,c2,c3,c4,c5⟩ := bl6 (KL.blk hj (.tail _ (.tail _ (.tail _ (.tail _ (.tail _ (.head _)))))))
  have cF := (KL.blk hj (.tail _ (.tail _ (.tail _ (.tail _ (.tail _ (.head _))))))).frozen
  show wpOp _ _ _ 28 _ ⟨#[_,_,_,_,_,_,_,o 31,_,_,_,_,_,_,_,_,_,_,_,_,_,_,_,_,_,_,_,_,_,_,_,_,_,_,_,_,_,_,_,o 0,o 1,o 2,o 3,o 4,o 5,o 6,o 7,o 8,o 9,o 10,.agg #[x,y,z,p,q,t],o 12,o 13,o 14,o 15,o 16,o 17,o 18,o 19,o 20,o 21,o 22,o 23,o 24,o 25,o 26,o 27],[]⟩ W
  refine wpOp_step rfl fun _ hK => ?_
  go_simp
  exact hK _ _ ⟨rfl,(KL.up6 5 hj rfl (by omega) (by simp <;> omega))⟩
 ·intro o W hj
  have hj : KL _ _ W := hj
  obtain ⟨cL,c0,c1,c2,c3,c4,c5⟩ := bl6 (KL.blk hj (.tail _ (.tail _ (.tail _ (.tail _ (.head _))))))
  have cF := (KL.blk hj (.tail _ (.tail _ (.tail _ (.tail _ (.head _)))))).frozen
  show wpOp _ _ _ 29 _ ⟨#[_,_,_,_,_,_,_,o 31,_,_,_,_,_,_,_,_,_,_,_,_,_,_,_,_,_,_,_,_,_,_,_,_,_,_,_,_,_,_,_,o 0,o 1,o 2,o 3,o 4,o 5,o 6,o 7,o 8,o 9,o 10,o 11,.agg #[.int .i64 0,.int .i64 0,.int .i64 0,.int .i64 0,.int .i64 0,.int .i64 0],o 13,o 14,o 15,o 16,o 17,o 18,o 19,o 20,o 21,o 22,o 23,o 24,o 25,o 26,o 27],[]⟩ W
  refine wpOp_step rfl fun _ hK => ?_
  go_simp
  exact hK _ _ ⟨rfl,(KL.up6 4 hj rfl (by omega) (by simp <;> omega))⟩
 ·intro o W hj
  have hj : KL _ _ W := hj
  obtain ⟨cL,c0,c1,c2,c3,c4,c5⟩ := bl6 (KL.blk hj (.tail _ (.tail _ (.tail _ (.head _)))))
  have cF := (KL.blk hj (.tail _ (.tail _ (.tail _ (.head _))))).frozen
  show wpOp _ _ _ 30 _ ⟨#[_,_,_,_,_,_,_,o 31,_,_,_,_,_,_,_,_,_,_,_,_,_,_,_,_,_,_,_,_,_,_,_,_,_,_,_,_,_,_,_,o 0,o 1,o 2,o 3,o 4,o 5,o 6,o 7,o 8,o 9,o 10,o 11,o 12,o 13,o 14,o 15,o 16,o 17,o 18,o 19,o 20,o 21,o 22,o 23,o 24,o 25,o 26,.agg #[x,y,.int .i64 (t + k),p,q,r]],[]⟩ W
  refine wpOp_step rfl fun _ hK => ?_
  go_simp
  exact hK _ _ ⟨rfl,(KL.up6 3 hj rfl (by omega) (by simp <;> omega))⟩
 ·intro o W _
  show wpOp _ _ _ 31 _ ⟨#[_,_,_,_,_,_,_,o 31,_,_,_,_,_,_,_,_,_,_,_,_,_,_,_,_,_,_,_,_,_,_,_,_,_,_,_,_,_,_,_,o 0,o 1,o 2,o 3,o 4,o 5,o 6,o 7,o 8,o 9,o 10,o 11,o 12,o 13,o 14,o 15,o 16,o 17,o 18,o 19,o 20,o 21,o 22,o 23,o 24,o 25,o 26,o 27],[]⟩ W
  refine wpOp_step rfl fun _ hK => ?_
  go_simp
  exact hK _ _ ⟨rfl,rfl⟩
 ·intro o hh_
  have e0 : o 0 = .agg #[x,y,z,p,q,r] := hh_ 0 (by decide)
  have e1 : o 1 = .pointer (some ⟨(w.heap.size + 1),0,none⟩) := hh_ 1 (by decide)
  have e2 : o 2 = .int .i64 2 := hh_ 2 (by decide)
  have e3 : o 3 = .pointer (some ⟨(w.heap.size + 1),0,none⟩) := hh_ 3 (by decide)
  have e4 : o 4 = .int .i64 2 := hh_ 4 (by decide)
  have e5 : o 5 = .pointer (some ⟨w2.heap.size,2,none⟩) := hh_ 5 (by decide)
  have e6 : o 6 = .pointer (some ⟨w.heap.size,2,none⟩) := hh_ 6 (by decide)
  have e7 : o 7 = .pointer (some ⟨w.heap.size,2,none⟩) := hh_ 7 (by decide)
  have e8 : o 8 = .int .i64 z := hh_ 8 (by decide)
  have e9 : o 9 = .pointer (some ⟨(w.heap.size + 1),1,none⟩) := hh_ 9 (by decide)
  have e10 : o 10 = .int .i64 t := hh_ 10 (by decide)
  have e11 : o 11 = .agg #[x,y,z,p,q,t] := hh_ 11 (by decide)
  have e12 : o 12 = .agg #[.int .i64 0,.int .i64 0,.int .i64 0,.int .i64 0,.int .i64 0,.int .i64 0] := hh_ 12 (by decide)
  have e13 : o 13 = .agg #[x,y,z,p,q,r] := hh_ 13 (by decide)
  have e14 : o 14 = .pointer (some ⟨(w.heap.size + 1),0,none⟩) := hh_ 14 (by decide)
  have e15 : o 15 = .int .i64 2 := hh_ 15 (by decide)
  have e16 : o 16 = .pointer (some ⟨(w.heap.size + 1),1,none⟩) := hh_ 16 (by decide)
  have e17 : o 17 = .int .i64 t := hh_ 17 (by decide)
  have e18 : o 18 = .pointer (some ⟨(w.heap.size + 1),2,none⟩) := hh_ 18 (by decide)
  have e19 : o 19 = .int .i64 k := hh_ 19 (by decide)
  have e20 : o 20 = .int .i64 (t + k) := hh_ 20 (by decide)
  have e21 : o 21 = .pointer (some ⟨(w.heap.size + 1),0,none⟩) := hh_ 21 (by decide)
  have e22 : o 22 = .int .i64 2 := hh_ 22 (by decide)
  have e23 : o 23 = .pointer (some ⟨(w2.heap.size + 1),2,none⟩) := hh_ 23 (by decide)
  have e24 : o 24 = .pointer (some ⟨w.heap.size,5,none⟩) := hh_ 24 (by decide)
  have e25 : o 25 = .pointer (some ⟨w.heap.size,5,none⟩) := hh_ 25 (by decide)
  have e26 : o 26 = .int .i64 r := hh_ 26 (by decide)
  have e27 : o 27 = .agg #[x,y,.int .i64 (t + k),p,q,r] := hh_ 27 (by decide)
  have e31 : o 31 = .int .i64 0 := hh_ 31 (by decide)
  rw [e0,e1,e2,e3,e4,e5,e6,e7,e8,e9,e10,e11,e12,e13,e14,e15,e16,e17,e18,e19,e20,e21,e22,e23,e24,e25,e26,e27,e31]
 ·intro W hj
  have hj : KL _ _ W := hj
  obtain ⟨cL0,c0_0,c0_1,c0_2,c0_3,c0_4,c0_5⟩ := bl6 (KL.blk hj (.head _))
  obtain ⟨cL1,c1_0,c1_1,c1_2⟩ := bl3 (KL.blk hj (.tail _ (.head _)))
  obtain ⟨cL2,c2_0,c2_1,c2_2⟩ := bl3 (KL.blk hj (.tail _ (.tail _ (.head _))))
  obtain ⟨cL3,c3_0,c3_1,c3_2,c3_3,c3_4,c3_5⟩ := bl6 (KL.blk hj (.tail _ (.tail _ (.tail _ (.head _)))))
  obtain ⟨cL4,c4_0,c4_1,c4_2,c4_3,c4_4,c4_5⟩ := bl6 (KL.blk hj (.tail _ (.tail _ (.tail _ (.tail _ (.head _))))))
  obtain ⟨cL5,c5_0,c5_1,c5_2,c5_3,c5_4,c5_5⟩ := bl6 (KL.blk hj (.tail _ (.tail _ (.tail _ (.tail _ (.tail _ (.head _)))))))
  obtain ⟨cL6,c6_0,c6_1,c6_2⟩ := bl3 (KL.blk hj (.tail _ (.tail _ (.tail _ (.tail _ (.tail _ (.tail _ (.head _))))))))
  obtain ⟨cL7,c7_0,c7_1,c7_2,c7_3,c7_4,c7_5⟩ := bl6 (KL.blk hj (.tail _ (.tail _ (.tail _ (.tail _ (.tail _ (.tail _ (.tail _ (.head _)))))))))
  have hjb := hj.1
  have hjz := hjb.size
  go_wp2
  exact bodyPost_ret (v := .tuple #[.agg #[x,y,z,p,q,t],.agg #[.int .i64 0,.int .i64 0,.int .i64 0,.int .i64 0,.int .i64 0,.int .i64 0],.agg #[x,y,.int .i64 (t + k),p,q,r],.int .i64 0]) (by simp [results,Try.results14,go_sem,c5_0,c5_1,c5_2,c5_3,c5_4,c5_5,c4_0,c4_1,c4_2,c4_3,c4_4,c4_5,c3_0,c3_1,c3_2,c3_3,c3_4,c3_5]) rfl ⟨rfl,hjb⟩
set_option maxHeartbeats 8000000 in
set_option maxRecDepth 100000 in
theorem Split2p (x y z p q r t k : Int) (hv : eB x y z p q r = 0) (ho : okI z r t k = 0) (hkp : 0 < k) (w : World) :
  Calls Try.prog 14 #[.agg #[x,y,z,p,q,r],.agg #[.int .i64 2,t,k]] w fun e w' => e = .returned (.tuple #[.agg #[x,y,z,p,q,t],.agg #[x,y,t,p,q,.int .i64 (t + k)],.agg #[x,y,.int .i64 (t + k),p,q,r],.int .i64 0]) ∧ Below w.heap.size w w' := by
 have hc := Check_ok2 x y z p q r t k hv
 rw [ho] at hc
 obtain ⟨⟨a1,a2,a3⟩,⟨a4,a5,a6⟩,⟨a7,a8,a9⟩⟩ := eB_bd hv
 obtain ⟨b1,b2,b3⟩ := okI_z ho
 obtain ⟨b4,b5⟩ := rgB_iff.1 b1
 clear hv ho b1
 have hw : IntKind.i64.wrap (t + k) = t + k := IntWalk.i64_in _ (by omega)
 have d1 : decide (0 < k) = true := by simpa using hkp
 
 go_enter Try.func14,Try.ntmps14
 go_wp2_with (first | (go_at_call 17; refine (hc _).mono ?_; rintro e w1 ⟨rfl,hb1⟩; obtain ⟨hc1,hf1⟩ := bcell hb1; have hz1 := hb1.size; (try simp at hz1); (try have y10 : w.heap.size < w1.heap.size := (by omega)); (try have y10p : w.heap.size < w1.heap.size + 1 := (by omega)); (try have y11 : w.heap.size + 1 < w1.heap.size := (by omega)); (try have y11p : w.heap.size + 1 < w1.heap.size + 1 := (by omega)); (try have y12 : w.heap.size + 1 + 1 < w1.heap.size := (by omega)); (try have y12p : w.heap.size + 1 + 1 < w1.heap.size + 1 := (by omega)); (try have y13 : w.heap.size + 1 + 1 + 1 < w1.heap.size := (by omega)); (try have y13p : w.heap.size + 1 + 1 + 1 < w1.heap.size + 1 := (by omega)); (try have y14 : w.heap.size + 1 + 1 + 1 + 1 < w1.heap.size := (by omega)); (try have y14p : w.heap.size + 1 + 1 + 1 + 1 < w1.heap.size + 1 := (by omega)); (try have v0x1 : w0.heap.size < w1.heap.size := (by omega)); (try have v0x1p : w0.heap.size < w1.heap.size + 1 := (by omega))) | (go_at_call 42; refine (ends_any _ _).mono ?_; rintro e w2 ⟨rfl,hb2⟩; obtain ⟨hc2,hf2⟩ := bcell hb2; have hz2 := hb2.size; (try simp at hz2); (try have y20 : w.heap.size < w2.heap.size := (by omega)); (try have y20p : w.heap.size < w2.heap.size + 1 := (by omega)); (try have y21 : w.heap.size + 1 < w2.heap.size := (by omega)); (try have y21p : w.heap.size + 1 < w2.heap.size + 1 := (by omega)); (try have y22 : w.heap.size + 1 + 1 < w2.heap.size := (by omega)); (try have y22p : w.heap.size + 1 + 1 < w2.heap.size + 1 := (by omega)); (try have y23 : w.heap.size + 1 + 1 + 1 < w2.heap.size := (by omega)); (try have y23p : w.heap.size + 1 + 1 + 1 < w2.heap.size + 1 := (by omega)); (try have y24 : w.heap.size + 1 + 1 + 1 + 1 < w2.heap.size := (by omega)); (try have y24p : w.heap.size + 1 + 1 + 1 + 1 < w2.heap.size + 1 := (by omega)); (try have v0x2 : w0.heap.size < w2.heap.size := (by omega)); (try have v0x2p : w0.heap.size < w2.heap.size + 1 := (by omega)); (try have v1x2 : w1.heap.size < w2.heap.size := (by omega)); (try have v1x2p : w1.heap.size < w2.heap.size + 1 := (by omega))) | (go_at_call 43; refine (part2 _ _ _ _ _ _ _ _ _).mono ?_; rintro e w3 ⟨rfl,hb3⟩; obtain ⟨hc3,hf3⟩ := bcell hb3; have hz3 := hb3.size; (try simp at hz3); (try have y30 : w.heap.size < w3.heap.size := (by omega)); (try have y30p : w.heap.size < w3.heap.size + 1 := (by omega)); (try have y31 : w.heap.size + 1 < w3.heap.size := (by omega)); (try have y31p : w.heap.size + 1 < w3.heap.size + 1 := (by omega)); (try have y32 : w.heap.size + 1 + 1 < w3.heap.size := (by omega)); (try have y32p : w.heap.size + 1 + 1 < w3.heap.size + 1 := (by omega)); (try have y33 : w.heap.size + 1 + 1 + 1 < w3.heap.size := (by omega)); (try have y33p : w.heap.size + 1 + 1 + 1 < w3.heap.size + 1 := (by omega)); (try have y34 : w.heap.size + 1 + 1 + 1 + 1 < w3.heap.size := (by omega)); (try have y34p : w.heap.size + 1 + 1 + 1 + 1 < w3.heap.size + 1 := (by omega)); (try have v0x3 : w0.heap.size < w3.heap.size := (by omega)); (try have v0x3p : w0.heap.size < w3.heap.size + 1 := (by omega)); (try have v1x3 : w1.heap.size < w3.heap.size := (by omega)); (try have v1x3p : w1.heap.size < w3.heap.size + 1 := (by omega)); (try have v2x3 : w2.heap.size < w3.heap.size := (by omega)); (try have v2x3p : w2.heap.size < w3.heap.size + 1 := (by omega))))
 refine wp_region_any (by kernel_rfl) ?_
 try (change wpAny _ _ _ _ _ _ _ (World.drew _))
 refine wpAny_vals (fr := fun o => #[.agg #[x,y,z,p,q,r],.agg #[.int .i64 2,t,k],.pointer (some ⟨w.heap.size,0,none⟩),.pointer (some ⟨(w.heap.size + 1),0,none⟩),.pointer (some ⟨(w.heap.size + 1 + 1),0,none⟩),.pointer (some ⟨(w.heap.size + 1 + 1 + 1),0,none⟩),.pointer (some ⟨(w.heap.size + 1 + 1 + 1 + 1),0,none⟩),o 31,.int .i64 0,.pointer (some ⟨w2.heap.size,0,none⟩),.pointer (some ⟨(w2.heap.size + 1),0,none⟩),.pointer (some ⟨(w2.heap.size + 1 + 1),0,none⟩),.agg #[x,y,z,p,q,r],.agg #[.int .i64 2,t,k],.int .i64 0,.int .i64 0,.bool false,undef,undef,undef,undef,.tuple #[.agg #[.pointer (some ⟨w.heap.size,0,none⟩),.pointer (some ⟨w.heap.size,1,none⟩),.pointer (some ⟨w.heap.size,2,none⟩)],.agg #[.pointer (some ⟨w.heap.size,3,none⟩),.pointer (some ⟨w.heap.size,4,none⟩),.pointer (some ⟨w.heap.size,5,none⟩)]],.tuple #[.agg #[.pointer (some ⟨w.heap.size,0,none⟩),.pointer (some ⟨w.heap.size,1,none⟩),.pointer (some ⟨w.heap.size,2,none⟩)],.agg #[.pointer (some ⟨w.heap.size,3,none⟩),.pointer (some ⟨w.heap.size,4,none⟩),.pointer (some ⟨w.heap.size,5,none⟩)]],.agg #[.pointer (some ⟨w.heap.size,0,none⟩),.pointer (some ⟨w.heap.size,1,none⟩),.pointer (some ⟨w.heap.size,2,none⟩)],.agg #[.pointer (some ⟨w.heap.size,3,none⟩),.pointer (some ⟨w.heap.size,4,none⟩),.pointer (some ⟨w.heap.size,5,none⟩)],.pointer (some ⟨(w.heap.size + 1),2,none⟩),.int .i64 k,.bool true,.agg #[x,y,z,p,q,r],.pointer (some ⟨(w.heap.size + 1),0,none⟩),.int .i64 2,.pointer (some ⟨(w.heap.size + 1),1,none⟩),.int .i64 t,.pointer (some ⟨(w.heap.size + 1),1,none⟩),.int .i64 t,.pointer (some ⟨(w.heap.size + 1),2,none⟩),.int .i64 k,.int .i64 (t + k),.agg #[x,y,t,p,q,.int .i64 (t + k)],o 0,o 1,o 2,o 3,o 4,o 5,o 6,o 7,o 8,o 9,o 10,o 11,o 12,o 13,o 14,o 15,o 16,o 17,o 18,o 19,o 20,o 21,o 22,o 23,o 24,o 25,o 26,o 27]) (vals := fun i_ => ([.agg #[x,y,z,p,q,r],.pointer (some ⟨(w.heap.size + 1),0,none⟩),.int .i64 2,.pointer (some ⟨(w.heap.size + 1),0,none⟩),.int .i64 2,.pointer (some ⟨w2.heap.size,2,none⟩),.pointer (some ⟨w.heap.size,2,none⟩),.pointer (some ⟨w.heap.size,2,none⟩),.int .i64 z,.pointer (some ⟨(w.heap.size + 1),1,none⟩),.int .i64 t,.agg #[x,y,z,p,q,t],.agg #[x,y,t,p,q,.int .i64 (t + k)],.agg #[x,y,z,p,q,r],.pointer (some ⟨(w.heap.size + 1),0,none⟩),.int .i64 2,.pointer (some ⟨(w.heap.size + 1),1,none⟩),.int .i64 t,.pointer (some ⟨(w.heap.size + 1),2,none⟩),.int .i64 k,.int .i64 (t + k),.pointer (some ⟨(w.heap.size + 1),0,none⟩),.int .i64 2,.pointer (some ⟨(w2.heap.size + 1),2,none⟩),.pointer (some ⟨w.heap.size,5,none⟩),.pointer (some ⟨w.heap.size,5,none⟩),.int .i64 r,.agg #[x,y,.int .i64 (t + k),p,q,r],undef,undef,undef,.int .i64 0] : List Value).getD i_ undef) (Kf := fun W_ => KL [((w2.heap.size + 1 + 1),25,#[x,y,t,p,q,.int .i64 (t + k)]),((w2.heap.size + 1),76,#[.pointer (some ⟨w.heap.size,3,none⟩),.pointer (some ⟨w.heap.size,4,none⟩),.pointer (some ⟨w.heap.size,5,none⟩)]),(w2.heap.size,76,#[.pointer (some ⟨w.heap.size,0,none⟩),.pointer (some ⟨w.heap.size,1,none⟩),.pointer (some ⟨w.heap.size,2,none⟩)]),((w.heap.size + 1),33,#[.int .i64 2,t,k]),(w.heap.size,25,#[x,y,z,p,q,r])] w W_) (K := fun kk_ => ([(KL [((w2.heap.size + 1 + 1),25,#[x,y,t,p,q,.int .i64 (t + k)]),((w2.heap.size + 1),76,#[.pointer (some ⟨w.heap.size,3,none⟩),.pointer (some ⟨w.heap.size,4,none⟩),.pointer (some ⟨w.heap.size,5,none⟩)]),(w2.heap.size,76,#[.pointer (some ⟨w.heap.size,0,none⟩),.pointer (some ⟨w.heap.size,1,none⟩),.pointer (some ⟨w.heap.size,2,none⟩)]),((w.heap.size + 1 + 1 + 1 + 1),25,#[.int .i64 0,.int .i64 0,.int .i64 0,.int .i64 0,.int .i64 0,.int .i64 0]),((w.heap.size + 1 + 1 + 1),25,#[.int .i64 0,.int .i64 0,.int .i64 0,.int .i64 0,.int .i64 0,.int .i64 0]),((w.heap.size + 1 + 1),25,#[.int .i64 0,.int .i64 0,.int .i64 0,.int .i64 0,.int .i64 0,.int .i64 0]),((w.heap.size + 1),33,#[.int .i64 2,t,k]),(w.heap.size,25,#[x,y,z,p,q,r])] w),(KL [((w2.heap.size + 1 + 1),25,#[x,y,t,p,q,.int .i64 (t + k)]),((w2.heap.size + 1),76,#[.pointer (some ⟨w.heap.size,3,none⟩),.pointer (some ⟨w.heap.size,4,none⟩),.pointer (some ⟨w.heap.size,5,none⟩)]),(w2.heap.size,76,#[.pointer (some ⟨w.heap.size,0,none⟩),.pointer (some ⟨w.heap.size,1,none⟩),.pointer (some ⟨w.heap.size,2,none⟩)]),((w.heap.size + 1 + 1 + 1 + 1),25,#[.int .i64 0,.int .i64 0,.int .i64 0,.int .i64 0,.int .i64 0,.int .i64 0]),((w.heap.size + 1 + 1 + 1),25,#[.int .i64 0,.int .i64 0,.int .i64 0,.int .i64 0,.int .i64 0,.int .i64 0]),((w.heap.size + 1 + 1),25,#[x,y,z,p,q,t]),((w.heap.size + 1),33,#[.int .i64 2,t,k]),(w.heap.size,25,#[x,y,z,p,q,r])] w),(KL [((w2.heap.size + 1 + 1),25,#[x,y,t,p,q,.int .i64 (t + k)]),((w2.heap.size + 1),76,#[.pointer (some ⟨w.heap.size,3,none⟩),.pointer (some ⟨w.heap.size,4,none⟩),.pointer (some ⟨w.heap.size,5,none⟩)]),(w2.heap.size,76,#[.pointer (some ⟨w.heap.size,0,none⟩),.pointer (some ⟨w.heap.size,1,none⟩),.pointer (some ⟨w.heap.size,2,none⟩)]),((w.heap.size + 1 + 1 + 1 + 1),25,#[.int .i64 0,.int .i64 0,.int .i64 0,.int .i64 0,.int .i64 0,.int .i64 0]),((w.heap.size + 1 + 1 + 1),25,#[x,y,t,p,q,.int .i64 (t + k)]),((w.heap.size + 1 + 1),25,#[x,y,z,p,q,t]),((w.heap.size + 1),33,#[.int .i64 2,t,k]),(w.heap.size,25,#[x,y,z,p,q,r])] w),(KL [((w2.heap.size + 1 + 1),25,#[x,y,t,p,q,.int .i64 (t + k)]),((w2.heap.size + 1),76,#[.pointer (some ⟨w.heap.size,3,none⟩),.pointer (some ⟨w.heap.size,4,none⟩),.pointer (some ⟨w.heap.size,5,none⟩)]),(w2.heap.size,76,#[.pointer (some ⟨w.heap.size,0,none⟩),.pointer (some ⟨w.heap.size,1,none⟩),.pointer (some ⟨w.heap.size,2,none⟩)]),((w.heap.size + 1 + 1 + 1 + 1),25,#[x,y,.int .i64 (t + k),p,q,r]),((w.heap.size + 1 + 1 + 1),25,#[x,y,t,p,q,.int .i64 (t + k)]),((w.heap.size + 1 + 1),25,#[x,y,z,p,q,t]),((w.heap.size + 1),33,#[.int .i64 2,t,k]),(w.heap.size,25,#[x,y,z,p,q,r])] w)] : List (World → Prop)).getD kk_ (fun _ => True)) (dep := fun i_ => [[],[],[1],[],[3],[4],[5],[6],[7],[],[9],[0,2,8,10],[],[],[],[14],[],[16],[],[18],[17,19],[],[21],[22],[23],[24],[25],[13,15,20,26],[0,2,4,6,8,10,11,27],[12,28],[27,29],[]].getD i_ []) (dv := fun i_ => [[],[],[1],[],[3],[4],[5],[6],[7],[],[9],[0,2,8,10],[],[],[],[14],[],[16],[],[18],[17,19],[],[21],[22],[23],[24],[25],[13,15,20,26],[11],[12],[27],[]].getD i_ []) (kd := fun i_ => [1,0,1,0,1,0,1,0,1,0,1,1,0,0,0,0,0,0,0,0,0,0,0,0,0,0,0,1,2,3,4,0].getD i_ 0) (ss := [28,29,30]) (l := [0,1,2,3,4,5,6,7,8,9,10,11,12,13,14,15,16,17,18,19,20,21,22,23,24,25,26,27,28,29,30,31]) (f0 := fun i_ => ([undef,undef,undef,undef,undef,undef,undef,undef,undef,undef,undef,undef,undef,undef,undef,undef,undef,undef,undef,undef,undef,undef,undef,undef,undef,undef,undef,undef,undef,undef,undef,.int .i64 0] : List Value).getD i_ undef) (A := ?A6) 32 rfl rfl (by decide +kernel) (by decide +kernel) ?_ ?_ ⟨?_,?_,?_,?_,?_,?_,?_,?_,?_,?_,?_,?_,?_,?_,?_,?_,?_,?_,?_,?_,?_,?_,?_,?_,?_,?_,?_,?_,?_,?_,?_,?_,trivial⟩ ?_ ?_
 rotate_left
 ·exact KL.drew (KL.up6 0 (KL.over (KL.new (g := (w2.heap.size + 1 + 1)) (KL.new (g := (w2.heap.size + 1)) (KL.new (g := w2.heap.size) (KL.over (KL.over (KL.new (g := (w.heap.size + 1 + 1 + 1 + 1)) (KL.new (g := (w.heap.size + 1 + 1 + 1)) (KL.new (g := (w.heap.size + 1 + 1)) (KL.new (g := (w.heap.size + 1)) (KL.new (g := w.heap.size) (KL.nil w) rfl _ _) (by simp) _ _) (by simp) _ _) (by simp) _ _) (by simp) _ _) hb1) hb2) (by simp) _ _) (by simp) _ _) (by simp) _ _) hb3) rfl (by omega) (by simp <;> omega))
 ·intro t_ W ht_ hh_
  rcases t_ with _ | _ | _ | _ | _
  ·exact KL.part hh_ (fun p_ hp_ => by simp only [List.mem_cons,List.not_mem_nil,or_false] at hp_; rcases hp_ with rfl | rfl | rfl | rfl | rfl; exact (.head _); exact (.tail _ (.head _)); exact (.tail _ (.tail _ (.head _))); exact (.tail _ (.tail _ (.tail _ (.tail _ (.tail _ (.tail _ (.head _))))))); exact (.tail _ (.tail _ (.tail _ (.tail _ (.tail _ (.tail _ (.tail _ (.head _)))))))))
  ·exact KL.part hh_ (fun p_ hp_ => by simp only [List.mem_cons,List.not_mem_nil,or_false] at hp_; rcases hp_ with rfl | rfl | rfl | rfl | rfl; exact (.head _); exact (.tail _ (.head _)); exact (.tail _ (.tail _ (.head _))); exact (.tail _ (.tail _ (.tail _ (.tail _ (.tail _ (.tail _ (.head _))))))); exact (.tail _ (.tail _ (.tail _ (.tail _ (.tail _ (.tail _ (.tail _ (.head _)))))))))
  ·exact KL.part hh_ (fun p_ hp_ => by simp only [List.mem_cons,List.not_mem_nil,or_false] at hp_; rcases hp_ with rfl | rfl | rfl | rfl | rfl; exact (.head _); exact (.tail _ (.head _)); exact (.tail _ (.tail _ (.head _))); exact (.tail _ (.tail _ (.tail _ (.tail _ (.tail _ (.tail _ (.head _))))))); exact (.tail _ (.tail _ (.tail _ (.tail _ (.tail _ (.tail _ (.tail _ (.head _)))))))))
  ·exact KL.part hh_ (fun p_ hp_ => by simp only [List.mem_cons,List.not_mem_nil,or_false] at hp_; rcases hp_ with rfl | rfl | rfl | rfl | rfl; exact (.head _); exact (.tail _ (.head _)); exact (.tail _ (.tail _ (.head _))); exact (.tail _ (.tail _ (.tail _ (.tail _ (.tail _ (.tail _ (.head _))))))); exact (.tail _ (.tail _ (.tail _ (.tail _ (.tail _ (.tail _ (.tail _ (.head _)))))))))
  ·exact absurd ht_ (by simp)
 ·intro o W hj
  have hj : KL _ _ W := hj
  obtain ⟨cL,c0,c1,c2,c3,c4,c5⟩ := bl6 (KL.blk hj (.tail _ (.tail _ (.tail _ (.tail _ (.tail _ (.tail _ (.tail _ (.head _)))))))))
  show wpOp _ _ _ 0 _ ⟨#[_,_,_,_,_,_,_,o 31,_,_,_,_,_,_,_,_,_,_,_,_,_,_,_,_,_,_,_,_,_,_,_,_,_,_,_,_,_,_,_,o 0,o 1,o 2,o 3,o 4,o 5,o 6,o 7,o 8,o 9,o 10,o 11,o 12,o 13,o 14,o 15,o 16,o 17,o 18,o 19,o 20,o 21,o 22,o 23,o 24,o 25,o 26,o 27],[]⟩ W
  refine wpOp_step rfl fun _ hK => ?_
  go_simp
  exact hK _ _ ⟨rfl,hj⟩
 ·intro o W _
  show wpOp _ _ _ 1 _ ⟨#[_,_,_,_,_,_,_,o 31,_,_,_,_,_,_,_,_,_,_,_,_,_,_,_,_,_,_,_,_,_,_,_,_,_,_,_,_,_,_,_,o 0,o 1,o 2,o 3,o 4,o 5,o 6,o 7,o 8,o 9,o 10,o 11,o 12,o 13,o 14,o 15,o 16,o 17,o 18,o 19,o 20,o 21,o 22,o 23,o 24,o 25,o 26,o 27],[]⟩ W
  refine wpOp_step rfl fun _ hK => ?_
  go_simp
  exact hK _ _ ⟨rfl,rfl⟩
 ·intro o W hj
  have hj : KL _ _ W := hj
  obtain ⟨cL,c0,c1,c2⟩ := bl3 (KL.blk hj (.tail _ (.tail _ (.tail _ (.tail _ (.tail _ (.tail _ (.head _))))))))
  show wpOp _ _ _ 2 _ ⟨#[_,_,_,_,_,_,_,o 31,_,_,_,_,_,_,_,_,_,_,_,_,_,_,_,_,_,_,_,_,_,_,_,_,_,_,_,_,_,_,_,o 0,.pointer (some ⟨(w.heap.size + 1),0,none⟩),o 2,o 3,o 4,o 5,o 6,o 7,o 8,o 9,o 10,o 11,o 12,o 13,o 14,o 15,o 16,o 17,o 18,o 19,o 20,o 21,o 22,o 23,o 24,o 25,o 26,o 27],[]⟩ W
  refine wpOp_step rfl fun _ hK => ?_
  go_simp
  exact hK _ _ ⟨rfl,hj⟩
 ·intro o W _
  show wpOp _ _ _ 3 _ ⟨#[_,_,_,_,_,_,_,o 31,_,_,_,_,_,_,_,_,_,_,_,_,_,_,_,_,_,_,_,_,_,_,_,_,_,_,_,_,_,_,_,o 0,o 1,o 2,o 3,o 4,o 5,o 6,o 7,o 8,o 9,o 10,o 11,o 12,o 13,o 14,o 15,o 16,o 17,o 18,o 19,o 20,o 21,o 22,o 23,o 24,o 25,o 26,o 27],[]⟩ W
  refine wpOp_step rfl fun _ hK => ?_
  go_simp
  exact hK _ _ ⟨rfl,rfl⟩
 ·intro o W hj
  have hj : KL _ _ W := hj
  obtain ⟨cL,c0,c1,c2⟩ := bl3 (KL.blk hj (.tail _ (.tail _ (.tail _ (.tail _ (.tail _ (.tail _ (.head _))))))))
  show wpOp _ _ _ 4 _ ⟨#[_,_,_,_,_,_,_,o 31,_,_,_,_,_,_,_,_,_,_,_,_,_,_,_,_,_,_,_,_,_,_,_,_,_,_,_,_,_,_,_,o 0,o 1,o 2,.pointer (some ⟨(w.heap.size + 1),0,none⟩),o 4,o 5,o 6,o 7,o 8,o 9,o 10,o 11,o 12,o 13,o 14,o 15,o 16,o 17,o 18,o 19,o 20,o 21,o 22,o 23,o 24,o 25,o 26,o 27],[]⟩ W
  refine wpOp_step rfl fun _ hK => ?_
  go_simp
  exact hK _ _ ⟨rfl,hj⟩
 ·intro o W _
  show wpOp _ _ _ 5 _ ⟨#[_,_,_,_,_,_,_,o 31,_,_,_,_,_,_,_,_,_,_,_,_,_,_,_,_,_,_,_,_,_,_,_,_,_,_,_,_,_,_,_,o 0,o 1,o 2,o 3,.int .i64 2,o 5,o 6,o 7,o 8,o 9,o 10,o 11,o 12,o 13,o 14,o 15,o 16,o 17,o 18,o 19,o 20,o 21,o 22,o 23,o 24,o 25,o 26,o 27],[]⟩ W
  refine wpOp_step rfl fun _ hK => ?_
  go_simp
  exact hK _ _ ⟨rfl,rfl⟩
 ·intro o W hj
  have hj : KL _ _ W := hj
  obtain ⟨cL,c0,c1,c2⟩ := bl3 (KL.blk hj (.tail _ (.tail _ (.head _))))
  show wpOp _ _ _ 6 _ ⟨#[_,_,_,_,_,_,_,o 31,_,_,_,_,_,_,_,_,_,_,_,_,_,_,_,_,_,_,_,_,_,_,_,_,_,_,_,_,_,_,_,o 0,o 1,o 2,o 3,o 4,.pointer (some ⟨w2.heap.size,2,none⟩),o 6,o 7,o 8,o 9,o 10,o 11,o 12,o 13,o 14,o 15,o 16,o 17,o 18,o 19,o 20,o 21,o 22,o 23,o 24,o 25,o 26,o 27],[]⟩ W
  refine wpOp_step rfl fun _ hK => ?_
  go_simp
  exact hK _ _ ⟨rfl,hj⟩
 ·intro o W _
  show wpOp _ _ _ 7 _ ⟨#[_,_,_,_,_,_,_,o 31,_,_,_,_,_,_,_,_,_,_,_,_,_,_,_,_,_,_,_,_,_,_,_,_,_,_,_,_,_,_,_,o 0,o 1,o 2,o 3,o 4,o 5,.pointer (some ⟨w.heap.size,2,none⟩),o 7,o 8,o 9,o 10,o 11,o 12,o 13,o 14,o 15,o 16,o 17,o 18,o 19,o 20,o 21,o 22,o 23,o 24,o 25,o 26,o 27],[]⟩ W
  refine wpOp_step rfl fun _ hK => ?_
  go_simp
  exact hK _ _ ⟨rfl,rfl⟩
 ·intro o W hj
  have hj : KL _ _ W := hj
  obtain ⟨cL,c0,c1,c2,c3,c4,c5⟩ := bl6 (KL.blk hj (.tail _ (.tail _ (.tail _ (.tail _ (.tail _ (.tail _ (.tail _ (.head _)))))))))
  show wpOp _ _ _ 8 _ ⟨#[_,_,_,_,_,_,_,o 31,_,_,_,_,_,_,_,_,_,_,_,_,_,_,_,_,_,_,_,_,_,_,_,_,_,_,_,_,_,_,_,o 0,o 1,o 2,o 3,o 4,o 5,o 6,.pointer (some ⟨w.heap.size,2,none⟩),o 8,o 9,o 10,o 11,o 12,o 13,o 14,o 15,o 16,o 17,o 18,o 19,o 20,o 21,o 22,o 23,o 24,o 25,o 26,o 27],[]⟩ W
  refine wpOp_step rfl fun _ hK => ?_
  go_simp
  exact hK _ _ ⟨rfl,hj⟩
 ·intro o W _
  show wpOp _ _ _ 9 _ ⟨#[_,_,_,_,_,_,_,o 31,_,_,_,_,_,_,_,_,_,_,_,_,_,_,_,_,_,_,_,_,_,_,_,_,_,_,_,_,_,_,_,o 0,o 1,o 2,o 3,o 4,o 5,o 6,o 7,o 8,o 9,o 10,o 11,o 12,o 13,o 14,o 15,o 16,o 17,o 18,o 19,o 20,o 21,o 22,o 23,o 24,o 25,o 26,o 27],[]⟩ W
  refine wpOp_step rfl fun _ hK => ?_
  go_simp
  exact hK _ _ ⟨rfl,rfl⟩
 ·intro o W hj
  have hj : KL _ _ W := hj
  obtain ⟨cL,c0,c1,c2⟩ := bl3 (KL.blk hj (.tail _ (.tail _ (.tail _ (.tail _ (.tail _ (.tail _ (.head _))))))))
  show wpOp _ _ _ 10 _ ⟨#[_,_,_,_,_,_,_,o 31,_,_,_,_,_,_,_,_,_,_,_,_,_,_,_,_,_,_,_,_,_,_,_,_,_,_,_,_,_,_,_,o 0,o 1,o 2,o 3,o 4,o 5,o 6,o 7,o 8,.pointer (some ⟨(w.heap.size + 1),1,none⟩),o 10,o 11,o 12,o 13,o 14,o 15,o 16,o 17,o 18,o 19,o 20,o 21,o 22,o 23,o 24,o 25,o 26,o 27],[]⟩ W
  refine wpOp_step rfl fun _ hK => ?_
  go_simp
  exact hK _ _ ⟨rfl,hj⟩
 ·intro o W hj
  have hj : KL _ _ W := hj
  show wpOp _ _ _ 11 _ ⟨#[_,_,_,_,_,_,_,o 31,_,_,_,_,_,_,_,_,_,_,_,_,_,_,_,_,_,_,_,_,_,_,_,_,_,_,_,_,_,_,_,.agg #[x,y,z,p,q,r],o 1,.int .i64 2,o 3,o 4,o 5,o 6,o 7,.int .i64 z,o 9,.int .i64 t,o 11,o 12,o 13,o 14,o 15,o 16,o 17,o 18,o 19,o 20,o 21,o 22,o 23,o 24,o 25,o 26,o 27],[]⟩ W
  refine wpOp_step rfl fun _ hK => ?_
  go_simp
  refine (part2 _ _ _ _ _ _ _ _ _).mono ?_
  rintro e W1 ⟨rfl,hb1⟩
  exact hK _ _ ⟨rfl,hj.over hb1⟩
 ·intro o W hj
  have hj : KL _ _ W := hj
  obtain ⟨cL,c0,c1,c2,c3,c4,c5⟩ := bl6 (KL.blk hj (.head _))
  show wpOp _ _ _ 12 _ ⟨#[_,_,_,_,_,_,_,o 31,_,_,_,_,_,_,_,_,_,_,_,_,_,_,_,_,_,_,_,_,_,_,_,_,_,_,_,_,_,_,_,o 0,o 1,o 2,o 3,o 4,o 5,o 6,o 7,o 8,o 9,o 10,o 11,o 12,o 13,o 14,o 15,o 16,o 17,o 18,o 19,o 20,o 21,o 22,o 23,o 24,o 25,o 26,o 27],[]⟩ W
  refine wpOp_step rfl fun _ hK => ?_
  go_simp
  exact hK _ _ ⟨rfl,rfl⟩
 ·intro o W hj
  have hj : KL _ _ W := hj
  obtain ⟨cL,c0,c1,c2,c3,c4,c5⟩ := bl6 (KL.blk hj (.tail _ (.tail _ (.tail _ (.tail _ (.head _))))))
  show wpOp _ _ _ 13 _ ⟨#[_,_,_,_,_,_,_,o 31,_,_,_,_,_,_,_,_,_,_,_,_,_,_,_,_,_,_,_,_,_,_,_,_,_,_,_,_,_,_,_,o 0,o 1,o 2,o 3,o 4,o 5,o 6,o 7,o 8,o 9,o 10,o 11,o 12,o 13,o 14,o 15,o 16,o 17,o 18,o 19,o 20,o 21,o 22,o 23,o 24,o 25,o 26,o 27],[]⟩ W
  refine wpOp_step rfl fun _ hK => ?_
  go_simp
  exact hK _ _ ⟨rfl,rfl⟩
 ·intro o W _
  show wpOp _ _ _ 14 _ ⟨#[_,_,_,_,_,_,_,o 31,_,_,_,_,_,_,_,_,_,_,_,_,_,_,_,_,_,_,_,_,_,_,_,_,_,_,_,_,_,_,_,o 0,o 1,o 2,o 3,o 4,o 5,o 6,o 7,o 8,o 9,o 10,o 11,o 12,o 13,o 14,o 15,o 16,o 17,o 18,o 19,o 20,o 21,o 22,o 23,o 24,o 25,o 26,o 27],[]⟩ W
  refine wpOp_step rfl fun _ hK => ?_
  go_simp
  exact hK _ _ ⟨rfl,rfl⟩
 ·intro o W hj
  have hj : KL _ _ W := hj
  obtain ⟨cL,c0,c1,c2⟩ := bl3 (KL.blk hj (.tail _ (.tail _ (.tail _ (.head _)))))
  show wpOp _ _ _ 15 _ ⟨#[_,_,_,_,_,_,_,o 31,_,_,_,_,_,_,_,_,_,_,_,_,_,_,_,_,_,_,_,_,_,_,_,_,_,_,_,_,_,_,_,o 0,o 1,o 2,o 3,o 4,o 5,o 6,o 7,o 8,o 9,o 10,o 11,o 12,o 13,.pointer (some ⟨(w.heap.size + 1),0,none⟩),o 15,o 16,o 17,o 18,o 19,o 20,o 21,o 22,o 23,o 24,o 25,o 26,o 27],[]⟩ W
  refine wpOp_step rfl fun _ hK => ?_
  go_simp
  exact hK _ _ ⟨rfl,rfl⟩
 ·intro o W _
  show wpOp _ _ _ 16 _ ⟨#[_,_,_,_,_,_,_,o 31,_,_,_,_,_,_,_,_,_,_,_,_,_,_,_,_,_,_,_,_,_,_,_,_,_,_,_,_,_,_,_,o 0,o 1,o 2,o 3,o 4,o 5,o 6,o 7,o 8,o 9,o 10,o 11,o 12,o 13,o 14,o 15,o 16,o 17,o 18,o 19,o 20,o 21,o 22,o 23,o 24,o 25,o 26,o 27],[]⟩ W
  refine wpOp_step rfl fun _ hK => ?_
  go_simp
  exact hK _ _ ⟨rfl,rfl⟩
 ·intro o W hj
  have hj : KL _ _ W := hj
  obtain ⟨cL,c0,c1,c2⟩ := bl3 (KL.blk hj (.tail _ (.tail _ (.tail _ (.head _)))))
  show wpOp _ _ _ 17 _ ⟨#[_,_,_,_,_,_,_,o 31,_,_,_,_,_,_,_,_,_,_,_,_,_,_,_,_,_,_,_,_,_,_,_,_,_,_,_,_,_,_,_,o 0,o 1,o 2,o 3,o 4,o 5,o 6,o 7,o 8,o 9,o 10,o 11,o 12,o 13,o 14,o 15,.pointer (some ⟨(w.heap.size + 1),1,none⟩),o 17,o 18,o 19,o 20,o 21,o 22,o 23,o 24,o 25,o 26,o 27],[]⟩ W
  refine wpOp_step rfl fun _ hK => ?_
  go_simp
  exact hK _ _ ⟨rfl,rfl⟩
 ·intro o W _
  show wpOp _ _ _ 18 _ ⟨#[_,_,_,_,_,_,_,o 31,_,_,_,_,_,_,_,_,_,_,_,_,_,_,_,_,_,_,_,_,_,_,_,_,_,_,_,_,_,_,_,o 0,o 1,o 2,o 3,o 4,o 5,o 6,o 7,o 8,o 9,o 10,o 11,o 12,o 13,o 14,o 15,o 16,o 17,o 18,o 19,o 20,o 21,o 22,o 23,o 24,o 25,o 26,o 27],[]⟩ W
  refine wpOp_step rfl fun _ hK => ?_
  go_simp
  exact hK _ _ ⟨rfl,rfl⟩
 ·intro o W hj
  have hj : KL _ _ W := hj
  obtain ⟨cL,c0,c1,c2⟩ := bl3 (KL.blk hj (.tail _ (.tail _ (.tail _ (.head _)))))
  show wpOp _ _ _ 19 _ ⟨#[_,_,_,_,_,_,_,o 31,_,_,_,_,_,_,_,_,_,_,_,_,_,_,_,_,_,_,_,_,_,_,_,_,_,_,_,_,_,_,_,o 0,o 1,o 2,o 3,o 4,o 5,o 6,o 7,o 8,o 9,o 10,o 11,o 12,o 13,o 14,o 15,o 16,o 17,.pointer (some ⟨(w.heap.size + 1),2,none⟩),o 19,o 20,o 21,o 22,o 23,o 24,o 25,o 26,o 27],[]⟩ W
  refine wpOp_step rfl fun _ hK => ?_
  go_simp
  exact hK _ _ ⟨rfl,rfl⟩
 ·intro o W _
  show wpOp _ _ _ 20 _ ⟨#[_,_,_,_,_,_,_,o 31,_,_,_,_,_,_,_,_,_,_,_,_,_,_,_,_,_,_,_,_,_,_,_,_,_,_,_,_,_,_,_,o 0,o 1,o 2,o 3,o 4,o 5,o 6,o 7,o 8,o 9,o 10,o 11,o 12,o 13,o 14,o 15,o 16,.int .i64 t,o 18,.int .i64 k,o 20,o 21,o 22,o 23,o 24,o 25,o 26,o 27],[]⟩ W
  refine wpOp_step rfl fun _ hK => ?_
  go_simp
  exact hK _ _ ⟨rfl,rfl⟩
 ·intro o W _
  show wpOp _ _ _ 21 _ ⟨#[_,_,_,_,_,_,_,o 31,_,_,_,_,_,_,_,_,_,_,_,_,_,_,_,_,_,_,_,_,_,_,_,_,_,_,_,_,_,_,_,o 0,o 1,o 2,o 3,o 4,o 5,o 6,o 7,o 8,o 9,o 10,o 11,o 12,o 13,o 14,o 15,o 16,o 17,o 18,o 19,o 20,o 21,o 22,o 23,o 24,o 25,o 26,o 27],[]⟩ W
  refine wpOp_step rfl fun _ hK => ?_
  go_simp
  exact hK _ _ ⟨rfl,rfl⟩
 ·intro o W hj
  have hj : KL _ _ W := hj
  obtain ⟨cL,c0,c1,c2⟩ := bl3 (KL.blk hj (.tail _ (.tail _ (.tail _ (.head _)))))
  show wpOp _ _ _ 22 _ ⟨#[_,_,_,_,_,_,_,o 31,_,_,_,_,_,_,_,_,_,_,_,_,_,_,_,_,_,_,_,_,_,_,_,_,_,_,_,_,_,_,_,o 0,o 1,o 2,o 3,o 4,o 5,o 6,o 7,o 8,o 9,o 10,o 11,o 12,o 13,o 14,o 15,o 16,o 17,o 18,o 19,o 20,.pointer (some ⟨(w.heap.size + 1),0,none⟩),o 22,o 23,o 24,o 25,o 26,o 27],[]⟩ W
  refine wpOp_step rfl fun _ hK => ?_
  go_simp
  exact hK _ _ ⟨rfl,rfl⟩
 ·intro o W _
  show wpOp _ _ _ 23 _ ⟨#[_,_,_,_,_,_,_,o 31,_,_,_,_,_,_,_,_,_,_,_,_,_,_,_,_,_,_,_,_,_,_,_,_,_,_,_,_,_,_,_,o 0,o 1,o 2,o 3,o 4,o 5,o 6,o 7,o 8,o 9,o 10,o 11,o 12,o 13,o 14,o 15,o 16,o 17,o 18,o 19,o 20,o 21,.int .i64 2,o 23,o 24,o 25,o 26,o 27],[]⟩ W
  refine wpOp_step rfl fun _ hK => ?_
  go_simp
  exact hK _ _ ⟨rfl,rfl⟩
 ·intro o W hj
  have hj : KL _ _ W := hj
  obtain ⟨cL,c0,c1,c2⟩ := bl3 (KL.blk hj (.tail _ (.head _)))
  show wpOp _ _ _ 24 _ ⟨#[_,_,_,_,_,_,_,o 31,_,_,_,_,_,_,_,_,_,_,_,_,_,_,_,_,_,_,_,_,_,_,_,_,_,_,_,_,_,_,_,o 0,o 1,o 2,o 3,o 4,o 5,o 6,o 7,o 8,o 9,o 10,o 11,o 12,o 13,o 14,o 15,o 16,o 17,o 18,o 19,o 20,o 21,o 22,.pointer (some ⟨(w2.heap.size + 1),2,none⟩),o 24,o 25,o 26,o 27],[]⟩ W
  refine wpOp_step rfl fun _ hK => ?_
  go_simp
  exact hK _ _ ⟨rfl,rfl⟩
 ·intro o W _
  show wpOp _ _ _ 25 _ ⟨#[_,_,_,_,_,_,_,o 31,_,_,_,_,_,_,_,_,_,_,_,_,_,_,_,_,_,_,_,_,_,_,_,_,_,_,_,_,_,_,_,o 0,o 1,o 2,o 3,o 4,o 5,o 6,o 7,o 8,o 9,o 10,o 11,o 12,o 13,o 14,o 15,o 16,o 17,o 18,o 19,o 20,o 21,o 22,o 23,.pointer (some ⟨w.heap.size,5,none⟩),o 25,o 26,o 27],[]⟩ W
  refine wpOp_step rfl fun _ hK => ?_
  go_simp
  exact hK _ _ ⟨rfl,rfl⟩
 ·intro o W hj
  have hj : KL _ _ W := hj
  obtain ⟨cL,c0,c1,c2,c3,c4,c5⟩ := bl6 (KL.blk hj (.tail _ (.tail _ (.tail _ (.tail _ (.head _))))))
  show wpOp _ _ _ 26 _ ⟨#[_,_,_,_,_,_,_,o 31,_,_,_,_,_,_,_,_,_,_,_,_,_,_,_,_,_,_,_,_,_,_,_,_,_,_,_,_,_,_,_,o 0,o 1,o 2,o 3,o 4,o 5,o 6,o 7,o 8,o 9,o 10,o 11,o 12,o 13,o 14,o 15,o 16,o 17,o 18,o 19,o 20,o 21,o 22,o 23,o 24,.pointer (some ⟨w.heap.size,5,none⟩),o 26,o 27],[]⟩ W
  refine wpOp_step rfl fun _ hK => ?_
  go_simp
  exact hK _ _ ⟨rfl,rfl⟩
 ·intro o W hj
  have hj : KL _ _ W := hj
  show wpOp _ _ _ 27 _ ⟨#[_,_,_,_,_,_,_,o 31,_,_,_,_,_,_,_,_,_,_,_,_,_,_,_,_,_,_,_,_,_,_,_,_,_,_,_,_,_,_,_,o 0,o 1,o 2,o 3,o 4,o 5,o 6,o 7,o 8,o 9,o 10,o 11,o 12,.agg #[x,y,z,p,q,r],o 14,.int .i64 2,o 16,o 17,o 18,o 19,.int .i64 (t + k),o 21,o 22,o 23,o 24,o 25,.int .i64 r,o 27],[]⟩ W
  refine wpOp_step rfl fun _ hK => ?_
  go_simp
  refine (part2 _ _ _ _ _ _ _ _ _).mono ?_
  rintro e W1 ⟨rfl,hb1⟩
  exact hK _ _ ⟨rfl,hj.over hb1⟩
 ·intro o W hj
  have hj : KL _ _ W := hj
  obtain ⟨cL,c0,c1,c2,c3,c4,c5⟩ := bl6 (KL.blk hj (.tail _ (.tail _ (.tail _ (.tail _ (.tail _ (.head _)))))))
  have cF := (KL.blk hj (.tail _ (.tail _ (.tail _ (.tail _ (.tail _ (.head _))))))).frozen
  show wpOp _ _ _ 28 _ ⟨#[_,_,_,_,_,_,_,o 31,_,_,_,_,_,_,_,_,_,_,_,_,_,_,_,_,_,_,_,_,_,_,_,_,_,_,_,_,_,_,_,o 0,o 1,o 2,o 3,o 4,o 5,o 6,o 7,o 8,o 9,o 10,.agg #[x,y,z,p,q,t],o 12,o 13,o 14,o 15,o 16,o 17,o 18,o 19,o 20,o 21,o 22,o 23,o 24,o 25,o 26,o 27],[]⟩ W
  refine wpOp_step rfl fun _ hK => ?_
  go_simp
  exact hK _ _ ⟨rfl,(KL.up6 5 hj rfl (by omega) (by simp <;> omega))⟩
 ·intro o W hj
  have hj : KL _ _ W := hj
  obtain ⟨cL,c0,c1,c2,c3,c4,c5⟩ := bl6 (KL.blk hj (.tail _ (.tail _ (.tail _ (.tail _ (.head _))))))
  have cF := (KL.blk hj (.tail _ (.tail _ (.tail _ (.tail _ (.head _)))))).frozen
  show wpOp _ _ _ 29 _ ⟨#[_,_,_,_,_,_,_,o 31,_,_,_,_,_,_,_,_,_,_,_,_,_,_,_,_,_,_,_,_,_,_,_,_,_,_,_,_,_,_,_,o 0,o 1,o 2,o 3,o 4,o 5,o 6,o 7,o 8,o 9,o 10,o 11,.agg #[x,y,t,p,q,.int .i64 (t + k)],o 13,o 14,o 15,o 16,o 17,o 18,o 19,o 20,o 21,o 22,o 23,o 24,o 25,o 26,o 27],[]⟩ W
  refine wpOp_step rfl fun _ hK => ?_
  go_simp
  exact hK _ _ ⟨rfl,(KL.up6 4 hj rfl (by omega) (by simp <;> omega))⟩
 ·intro o W hj
  have hj : KL _ _ W := hj
  obtain ⟨cL,c0,c1,c2,c3,c4,c5⟩ := bl6 (KL.blk hj (.tail _ (.tail _ (.tail _ (.head _)))))
  have cF := (KL.blk hj (.tail _ (.tail _ (.tail _ (.head _))))).frozen
  show wpOp _ _ _ 30 _ ⟨#[_,_,_,_,_,_,_,o 31,_,_,_,_,_,_,_,_,_,_,_,_,_,_,_,_,_,_,_,_,_,_,_,_,_,_,_,_,_,_,_,o 0,o 1,o 2,o 3,o 4,o 5,o 6,o 7,o 8,o 9,o 10,o 11,o 12,o 13,o 14,o 15,o 16,o 17,o 18,o 19,o 20,o 21,o 22,o 23,o 24,o 25,o 26,.agg #[x,y,.int .i64 (t + k),p,q,r]],[]⟩ W
  refine wpOp_step rfl fun _ hK => ?_
  go_simp
  exact hK _ _ ⟨rfl,(KL.up6 3 hj rfl (by omega) (by simp <;> omega))⟩
 ·intro o W _
  show wpOp _ _ _ 31 _ ⟨#[_,_,_,_,_,_,_,o 31,_,_,_,_,_,_,_,_,_,_,_,_,_,_,_,_,_,_,_,_,_,_,_,_,_,_,_,_,_,_,_,o 0,o 1,o 2,o 3,o 4,o 5,o 6,o 7,o 8,o 9,o 10,o 11,o 12,o 13,o 14,o 15,o 16,o 17,o 18,o 19,o 20,o 21,o 22,o 23,o 24,o 25,o 26,o 27],[]⟩ W
  refine wpOp_step rfl fun _ hK => ?_
  go_simp
  exact hK _ _ ⟨rfl,rfl⟩
 ·intro o hh_
  have e0 : o 0 = .agg #[x,y,z,p,q,r] := hh_ 0 (by decide)
  have e1 : o 1 = .pointer (some ⟨(w.heap.size + 1),0,none⟩) := hh_ 1 (by decide)
  have e2 : o 2 = .int .i64 2 := hh_ 2 (by decide)
  have e3 : o 3 = .pointer (some ⟨(w.heap.size + 1),0,none⟩) := hh_ 3 (by decide)
  have e4 : o 4 = .int .i64 2 := hh_ 4 (by decide)
  have e5 : o 5 = .pointer (some ⟨w2.heap.size,2,none⟩) := hh_ 5 (by decide)
  have e6 : o 6 = .pointer (some ⟨w.heap.size,2,none⟩) := hh_ 6 (by decide)
  have e7 : o 7 = .pointer (some ⟨w.heap.size,2,none⟩) := hh_ 7 (by decide)
  have e8 : o 8 = .int .i64 z := hh_ 8 (by decide)
  have e9 : o 9 = .pointer (some ⟨(w.heap.size + 1),1,none⟩) := hh_ 9 (by decide)
  have e10 : o 10 = .int .i64 t := hh_ 10 (by decide)
  have e11 : o 11 = .agg #[x,y,z,p,q,t] := hh_ 11 (by decide)
  have e12 : o 12 = .agg #[x,y,t,p,q,.int .i64 (t + k)] := hh_ 12 (by decide)
  have e13 : o 13 = .agg #[x,y,z,p,q,r] := hh_ 13 (by decide)
  have e14 : o 14 = .pointer (some ⟨(w.heap.size + 1),0,none⟩) := hh_ 14 (by decide)
  have e15 : o 15 = .int .i64 2 := hh_ 15 (by decide)
  have e16 : o 16 = .pointer (some ⟨(w.heap.size + 1),1,none⟩) := hh_ 16 (by decide)
  have e17 : o 17 = .int .i64 t := hh_ 17 (by decide)
  have e18 : o 18 = .pointer (some ⟨(w.heap.size + 1),2,none⟩) := hh_ 18 (by decide)
  have e19 : o 19 = .int .i64 k := hh_ 19 (by decide)
  have e20 : o 20 = .int .i64 (t + k) := hh_ 20 (by decide)
  have e21 : o 21 = .pointer (some ⟨(w.heap.size + 1),0,none⟩) := hh_ 21 (by decide)
  have e22 : o 22 = .int .i64 2 := hh_ 22 (by decide)
  have e23 : o 23 = .pointer (some ⟨(w2.heap.size + 1),2,none⟩) := hh_ 23 (by decide)
  have e24 : o 24 = .pointer (some ⟨w.heap.size,5,none⟩) := hh_ 24 (by decide)
  have e25 : o 25 = .pointer (some ⟨w.heap.size,5,none⟩) := hh_ 25 (by decide)
  have e26 : o 26 = .int .i64 r := hh_ 26 (by decide)
  have e27 : o 27 = .agg #[x,y,.int .i64 (t + k),p,q,r] := hh_ 27 (by decide)
  have e31 : o 31 = .int .i64 0 := hh_ 31 (by decide)
  rw [e0,e1,e2,e3,e4,e5,e6,e7,e8,e9,e10,e11,e12,e13,e14,e15,e16,e17,e18,e19,e20,e21,e22,e23,e24,e25,e26,e27,e31]
 ·intro W hj
  have hj : KL _ _ W := hj
  obtain ⟨cL0,c0_0,c0_1,c0_2,c0_3,c0_4,c0_5⟩ := bl6 (KL.blk hj (.head _))
  obtain ⟨cL1,c1_0,c1_1,c1_2⟩ := bl3 (KL.blk hj (.tail _ (.head _)))
  obtain ⟨cL2,c2_0,c2_1,c2_2⟩ := bl3 (KL.blk hj (.tail _ (.tail _ (.head _))))
  obtain ⟨cL3,c3_0,c3_1,c3_2,c3_3,c3_4,c3_5⟩ := bl6 (KL.blk hj (.tail _ (.tail _ (.tail _ (.head _)))))
  obtain ⟨cL4,c4_0,c4_1,c4_2,c4_3,c4_4,c4_5⟩ := bl6 (KL.blk hj (.tail _ (.tail _ (.tail _ (.tail _ (.head _))))))
  obtain ⟨cL5,c5_0,c5_1,c5_2,c5_3,c5_4,c5_5⟩ := bl6 (KL.blk hj (.tail _ (.tail _ (.tail _ (.tail _ (.tail _ (.head _)))))))
  obtain ⟨cL6,c6_0,c6_1,c6_2⟩ := bl3 (KL.blk hj (.tail _ (.tail _ (.tail _ (.tail _ (.tail _ (.tail _ (.head _))))))))
  obtain ⟨cL7,c7_0,c7_1,c7_2,c7_3,c7_4,c7_5⟩ := bl6 (KL.blk hj (.tail _ (.tail _ (.tail _ (.tail _ (.tail _ (.tail _ (.tail _ (.head _)))))))))
  have hjb := hj.1
  have hjz := hjb.size
  go_wp2
  exact bodyPost_ret (v := .tuple #[.agg #[x,y,z,p,q,t],.agg #[x,y,t,p,q,.int .i64 (t + k)],.agg #[x,y,.int .i64 (t + k),p,q,r],.int .i64 0]) (by simp [results,Try.results14,go_sem,c5_0,c5_1,c5_2,c5_3,c5_4,c5_5,c4_0,c4_1,c4_2,c4_3,c4_4,c4_5,c3_0,c3_1,c3_2,c3_3,c3_4,c3_5]) rfl ⟨rfl,hjb⟩
def midI2 (x y _z p q _r t k : Int) : List Int := if k = 0 then [0,0,0,0,0,0] else [x,y,t,p,q,t + k]
theorem Split_ok2 (x y z p q r t k : Int) (hv : eB x y z p q r = 0) (ho : okI z r t k = 0) (w : World) :
  Calls Try.prog 14 #[.agg #[x,y,z,p,q,r],.agg #[.int .i64 2,t,k]] w fun e w' => e = .returned (.tuple #[.agg #[x,y,z,p,q,t],.agg ((midI2 x y z p q r t k).map (Value.int .i64)).toArray,.agg #[x,y,.int .i64 (t + k),p,q,r],.int .i64 0]) ∧ Below w.heap.size w w' := by
 have b4 := (rgB_iff.1 (okI_z ho).1).1
 by_cases h : k = 0
 ·have := Split2z x y z p q r t k hv ho h w
  simpa [midI2,h] using this
 ·have := Split2p x y z p q r t k hv ho (by omega) w
  simpa [midI2,h] using this
end Go.Proofs.Ytogmgaaejepcbaa
