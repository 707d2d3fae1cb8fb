/- KerfSplits,one axis. -/
import Derived.Test.YtogmgaaejepcbaaCor
import Derived.Test.YtogmgaaejepcbaaLspb
import Derived.Test.YtogmgaaejepcbaaRsp0
namespace Go.Proofs.Ytogmgaaejepcbaa
open Go.RowKit

set_option maxHeartbeats 16000000 in
set_option maxRecDepth 100000 in
theorem spl_0p (x y z p q r t k : Int) (hv : eB x y z p q r = 0) (ho : okI x p t k = 0) (hkp : 0 < k) (w : World) : Calls Try.prog 3 #[.agg #[x,y,z,p,q,r],.agg #[.int .i64 0,t,k]] w fun e w' => e = .returned (.bool true) ∧ Below w.heap.size w w' := by
 have hA := awake_any
 have hrc := rCheck_ok0 x y z p q r t k hv
 have hck := Check_ok0 x y z p q r t k hv
 have hs := Split0p x y z p q r t k hv ho hkp
 have hl := Loss0p x y z p q r t k hv ho hkp
 have hr := rSplit0p x y z p q r t k hv ho hkp
 rw [ho] at hrc hck
 obtain ⟨⟨a1,a2,a3⟩,⟨a4,a5,a6⟩,⟨a7,a8,a9⟩⟩ := eB_bd hv
 obtain ⟨b1,b2,b3⟩ := okI_z ho
 obtain ⟨b4,b5⟩ := rgB_iff.1 b1
 have hv9 := fun w => rvol_any t y z (t + k) q r (by omega) (by omega) (by omega) (by omega) (by omega) (by omega) w
 generalize volI t y z (t + k) q r = V at hl hv9
 clear hv ho b1 a1 a2 a3 a4 a5 a6 a7 a8 a9 b2 b3 b4 b5 hkp
 have q0 : ∀ w,Sem.run Try.prog (binOp .eql 25 (.agg #[x,y,z,t,q,r]) (.agg #[x,y,z,t,q,r])) w = .ok (.bool true) w := fun w => eqBs _ _ _ _ _ _ w
 have q1 : ∀ w,Sem.run Try.prog (binOp .eql 25 (.agg #[t,y,z,.int .i64 (t + k),q,r]) (.agg #[t,y,z,.int .i64 (t + k),q,r])) w = .ok (.bool true) w := fun w => eqBs _ _ _ _ _ _ w
 have q2 : ∀ w,Sem.run Try.prog (binOp .eql 25 (.agg #[.int .i64 (t + k),y,z,p,q,r]) (.agg #[.int .i64 (t + k),y,z,p,q,r])) w = .ok (.bool true) w := fun w => eqBs _ _ _ _ _ _ w
 go_enter Try.func3,Try.ntmps3
 go_wp2_with (first | (go_at_call 12; refine (hA _).mono ?_; rintro e w1 ⟨rfl,hb1⟩; obtain ⟨hc1,hf1⟩ := bcell hb1; have hz1 := hb1.size; (try simp at hz1); (try have y10 : w.heap.size < w1.heap.size := (by omega)); (try have y10p : w.heap.size < w1.heap.size + 1 := (by omega)); (try have y11 : w.heap.size + 1 < w1.heap.size := (by omega)); (try have y11p : w.heap.size + 1 < w1.heap.size + 1 := (by omega)); (try have y12 : w.heap.size + 1 + 1 < w1.heap.size := (by omega)); (try have y12p : w.heap.size + 1 + 1 < w1.heap.size + 1 := (by omega)); (try have y13 : w.heap.size + 1 + 1 + 1 < w1.heap.size := (by omega)); (try have y13p : w.heap.size + 1 + 1 + 1 < w1.heap.size + 1 := (by omega)); (try have y14 : w.heap.size + 1 + 1 + 1 + 1 < w1.heap.size := (by omega)); (try have y14p : w.heap.size + 1 + 1 + 1 + 1 < w1.heap.size + 1 := (by omega)); (try have v0x1 : w0.heap.size < w1.heap.size := (by omega)); (try have v0x1p : w0.heap.size < w1.heap.size + 1 := (by omega))) | (go_at_call 13; refine (hrc _).mono ?_; rintro e w2 ⟨rfl,hb2⟩; obtain ⟨hc2,hf2⟩ := bcell hb2; have hz2 := hb2.size; (try simp at hz2); (try have y20 : w.heap.size < w2.heap.size := (by omega)); (try have y20p : w.heap.size < w2.heap.size + 1 := (by omega)); (try have y21 : w.heap.size + 1 < w2.heap.size := (by omega)); (try have y21p : w.heap.size + 1 < w2.heap.size + 1 := (by omega)); (try have y22 : w.heap.size + 1 + 1 < w2.heap.size := (by omega)); (try have y22p : w.heap.size + 1 + 1 < w2.heap.size + 1 := (by omega)); (try have y23 : w.heap.size + 1 + 1 + 1 < w2.heap.size := (by omega)); (try have y23p : w.heap.size + 1 + 1 + 1 < w2.heap.size + 1 := (by omega)); (try have y24 : w.heap.size + 1 + 1 + 1 + 1 < w2.heap.size := (by omega)); (try have y24p : w.heap.size + 1 + 1 + 1 + 1 < w2.heap.size + 1 := (by omega)); (try have v0x2 : w0.heap.size < w2.heap.size := (by omega)); (try have v0x2p : w0.heap.size < w2.heap.size + 1 := (by omega)); (try have v1x2 : w1.heap.size < w2.heap.size := (by omega)); (try have v1x2p : w1.heap.size < w2.heap.size + 1 := (by omega))))
 refine wp_region_any (by kernel_rfl) ?_
 try (change wpAny _ _ _ _ _ _ _ (World.drew _))
 refine wpAny_alloc (fr := fun o => #[.agg #[x,y,z,p,q,r],.agg #[.int .i64 0,t,k],.pointer (some ⟨w.heap.size,0,none⟩),.pointer (some ⟨(w.heap.size + 1),0,none⟩),.bool false,.int .i64 0,o 9,o 10,o 11,o 15,undef,undef,undef,undef,undef,.bool true,.bool false,.agg #[x,y,z,p,q,r],.agg #[.int .i64 0,t,k],.int .i64 0,o 4,o 0,o 1,o 2,o 3,o 5,o 6,o 7,o 8,undef,undef,undef,undef,undef,undef,undef,undef,undef,undef,undef,undef,undef,undef,undef,undef,undef,undef,undef,undef,undef,undef,undef,undef,undef,undef,undef,undef,undef,undef,undef,undef,undef,undef,undef,undef,undef,undef,undef,undef,undef,undef,undef,undef,undef,undef,undef,undef,undef,undef,undef,undef,undef,undef,undef,undef,undef,undef,undef,undef,undef,undef,undef,undef,undef,undef,undef,undef]) (vals := fun i_ => ([.agg #[x,y,z,p,q,r],.agg #[.int .i64 0,t,k],.agg #[.int .i64 0,t,k],.tuple #[.agg #[x,y,z,t,q,r],.agg #[t,y,z,.int .i64 (t + k),q,r],.agg #[.int .i64 (t + k),y,z,p,q,r],.int .i64 0],.tuple #[.agg #[x,y,z,t,q,r],.agg #[t,y,z,.int .i64 (t + k),q,r],.agg #[.int .i64 (t + k),y,z,p,q,r],.int .i64 0],.agg #[x,y,z,t,q,r],.agg #[t,y,z,.int .i64 (t + k),q,r],.agg #[.int .i64 (t + k),y,z,p,q,r],.int .i64 0,undef,undef,undef,undef,undef,undef,.int .i64 0] : List Value).getD i_ undef) (K := fun W_ => KL [((w.heap.size + 1),27,#[.int .i64 0,t,k]),(w.heap.size,25,#[x,y,z,p,q,r])] w W_) (dep := fun i_ => [[],[],[1],[0,2],[3],[4],[4],[4],[4],[],[],[],[0,1,2,3,4,5,9,10,11],[0,1,2,3,4,5,6,9,10,11,12],[0,1,2,3,4,5,6,7,9,10,11,12,13],[0,1,2,3,4,5,6,7,8,9,10,11,12,13,14]].getD i_ []) (dv := fun i_ => [[],[],[1],[0,2],[3],[4],[4],[4],[4],[],[],[],[5],[6],[7],[8]].getD i_ []) (kd := fun i_ => [1,1,1,1,0,0,0,0,0,2,2,2,3,4,5,0].getD i_ 0) (sa := fun i_ => [9,10,11].getD i_ 0) (ss := [12,13,14]) (al := [9,10,11]) (l := [0,1,2,3,4,5,6,7,8,9,10,11,12,13,14,15]) (f0 := fun i_ => ([undef,undef,undef,undef,undef,undef,undef,undef,undef,undef,undef,undef,undef,undef,undef,undef] : List Value).getD i_ undef) (B := w.heap.size + 1 + 1) (T := 25) (z := #[.int .i64 0,.int .i64 0,.int .i64 0,.int .i64 0,.int .i64 0,.int .i64 0]) (cont := fun t_ j_ => if j_ = 9 then (if 0 < t_ then #[x,y,z,t,q,r] else #[.int .i64 0,.int .i64 0,.int .i64 0,.int .i64 0,.int .i64 0,.int .i64 0]) else if j_ = 10 then (if 1 < t_ then #[t,y,z,.int .i64 (t + k),q,r] else #[.int .i64 0,.int .i64 0,.int .i64 0,.int .i64 0,.int .i64 0,.int .i64 0]) else if j_ = 11 then (if 2 < t_ then #[.int .i64 (t + k),y,z,p,q,r] else #[.int .i64 0,.int .i64 0,.int .i64 0,.int .i64 0,.int .i64 0,.int .i64 0]) else #[.int .i64 0,.int .i64 0,.int .i64 0,.int .i64 0,.int .i64 0,.int .i64 0]) (A := fun g_ => ⟨#[.agg #[x,y,z,p,q,r],.agg #[.int .i64 0,t,k],.pointer (some ⟨w.heap.size,0,none⟩),.pointer (some ⟨(w.heap.size + 1),0,none⟩),.bool false,.int .i64 0,ptrV (g_ 9),ptrV (g_ 10),ptrV (g_ 11),.int .i64 0,undef,undef,undef,undef,undef,.bool true,.bool false,.agg #[x,y,z,p,q,r],.agg #[.int .i64 0,t,k],.int .i64 0,.tuple #[.agg #[x,y,z,t,q,r],.agg #[t,y,z,.int .i64 (t + k),q,r],.agg #[.int .i64 (t + k),y,z,p,q,r],.int .i64 0],.agg #[x,y,z,p,q,r],.agg #[.int .i64 0,t,k],.agg #[.int .i64 0,t,k],.tuple #[.agg #[x,y,z,t,q,r],.agg #[t,y,z,.int .i64 (t + k),q,r],.agg #[.int .i64 (t + k),y,z,p,q,r],.int .i64 0],.agg #[x,y,z,t,q,r],.agg #[t,y,z,.int .i64 (t + k),q,r],.agg #[.int .i64 (t + k),y,z,p,q,r],.int .i64 0,undef,undef,undef,undef,undef,undef,undef,undef,undef,undef,undef,undef,undef,undef,undef,undef,undef,undef,undef,undef,undef,undef,undef,undef,undef,undef,undef,undef,undef,undef,undef,undef,undef,undef,undef,undef,undef,undef,undef,undef,undef,undef,undef,undef,undef,undef,undef,undef,undef,undef,undef,undef,undef,undef,undef,undef,undef,undef,undef,undef,undef,undef,undef,undef,undef,undef,undef,undef],[]⟩) 16 rfl rfl (by decide +kernel) (by decide +kernel) ?_ ?_ ?_ ?_ (fun _ h_ => KL.alloc h_ _) ⟨?_,?_,?_,?_,?_,?_,?_,?_,?_,?_,?_,?_,?_,?_,?_,?_,trivial⟩ ?_ ?_
 ·exact KL.drew (KL.over (KL.over (KL.new (g := (w.heap.size + 1)) (KL.new (g := w.heap.size) (KL.nil w) rfl _ _) (by simp) _ _) hb1) hb2)
 ·first | exact Nat.le_refl _ | (simp; done) | (simp <;> omega) | (show _ ≤ World.heap.size _; omega) | omega
 ·intro j_ hj_; simp only [List.mem_cons,List.not_mem_nil,or_false] at hj_; rcases hj_ with rfl | rfl | rfl <;> rfl
 ·intro t_ ht_ j_ hj_ hn_; simp only [List.mem_cons,List.not_mem_nil,or_false] at hj_; rcases hj_ with rfl | rfl | rfl <;> rcases t_ with _ | _ | _ | _ <;> first | rfl | exact absurd rfl hn_ | exact absurd ht_ (by simp)
 ·intro o W hj
  have hj : KL _ _ W := hj
  obtain ⟨cL,c0,c1,c2,c3,c4,c5⟩ := bl6 (KL.blk hj (.tail _ (.head _)))
  show wpOp _ _ _ 0 _ ⟨⟨_::_::_::_::_::_::o 9::o 10::o 11::o 15::_::_::_::_::_::_::_::_::_::_::o 4::o 0::o 1::o 2::o 3::o 5::o 6::o 7::o 8::_⟩,[]⟩ W
  refine wpOp_step rfl fun _ hK => ?_
  go_simp
  exact hK _ _ ⟨rfl,hj,Below.refl _ _⟩
 ·intro o W hj
  have hj : KL _ _ W := hj
  obtain ⟨cL,c0,c1,c2⟩ := bl3 (KL.blk hj (.head _))
  show wpOp _ _ _ 1 _ ⟨⟨_::_::_::_::_::_::o 9::o 10::o 11::o 15::_::_::_::_::_::_::_::_::_::_::o 4::o 0::o 1::o 2::o 3::o 5::o 6::o 7::o 8::_⟩,[]⟩ W
  refine wpOp_step rfl fun _ hK => ?_
  go_simp
  exact hK _ _ ⟨rfl,hj,Below.refl _ _⟩
 ·intro o W hj
  have hj : KL _ _ W := hj
  show wpOp _ _ _ 2 _ ⟨⟨_::_::_::_::_::_::o 9::o 10::o 11::o 15::_::_::_::_::_::_::_::_::_::_::o 4::o 0::.agg #[.int .i64 0,t,k]::o 2::o 3::o 5::o 6::o 7::o 8::_⟩,[]⟩ W
  refine wpOp_step rfl fun _ hK => ?_
  go_simp
  refine (ours_any _ _ _ _).mono ?_
  rintro e W1 ⟨rfl,hb1⟩
  exact hK _ _ ⟨rfl,hj.over hb1,hb1⟩
 ·intro o W hj
  have hj : KL _ _ W := hj
  show wpOp _ _ _ 3 _ ⟨⟨_::_::_::_::_::_::o 9::o 10::o 11::o 15::_::_::_::_::_::_::_::_::_::_::o 4::.agg #[x,y,z,p,q,r]::o 1::.agg #[.int .i64 0,t,k]::o 3::o 5::o 6::o 7::o 8::_⟩,[]⟩ W
  refine wpOp_step rfl fun _ hK => ?_
  go_simp
  refine (hs _).mono ?_
  rintro e W1 ⟨rfl,hb1⟩
  exact hK _ _ ⟨rfl,hj.over hb1,hb1⟩
 ·intro o W _
  show wpOp _ _ _ 4 _ ⟨⟨_::_::_::_::_::_::o 9::o 10::o 11::o 15::_::_::_::_::_::_::_::_::_::_::o 4::o 0::o 1::o 2::.tuple #[.agg #[x,y,z,t,q,r],.agg #[t,y,z,.int .i64 (t + k),q,r],.agg #[.int .i64 (t + k),y,z,p,q,r],.int .i64 0]::o 5::o 6::o 7::o 8::_⟩,[]⟩ W
  refine wpOp_step rfl fun _ hK => ?_
  go_simp
  exact hK _ _ ⟨rfl,rfl⟩
 ·intro o W _
  show wpOp _ _ _ 5 _ ⟨⟨_::_::_::_::_::_::o 9::o 10::o 11::o 15::_::_::_::_::_::_::_::_::_::_::.tuple #[.agg #[x,y,z,t,q,r],.agg #[t,y,z,.int .i64 (t + k),q,r],.agg #[.int .i64 (t + k),y,z,p,q,r],.int .i64 0]::o 0::o 1::o 2::o 3::o 5::o 6::o 7::o 8::_⟩,[]⟩ W
  refine wpOp_step rfl fun _ hK => ?_
  go_simp
  exact hK _ _ ⟨rfl,rfl⟩
 ·intro o W _
  show wpOp _ _ _ 6 _ ⟨⟨_::_::_::_::_::_::o 9::o 10::o 11::o 15::_::_::_::_::_::_::_::_::_::_::.tuple #[.agg #[x,y,z,t,q,r],.agg #[t,y,z,.int .i64 (t + k),q,r],.agg #[.int .i64 (t + k),y,z,p,q,r],.int .i64 0]::o 0::o 1::o 2::o 3::o 5::o 6::o 7::o 8::_⟩,[]⟩ W
  refine wpOp_step rfl fun _ hK => ?_
  go_simp
  exact hK _ _ ⟨rfl,rfl⟩
 ·intro o W _
  show wpOp _ _ _ 7 _ ⟨⟨_::_::_::_::_::_::o 9::o 10::o 11::o 15::_::_::_::_::_::_::_::_::_::_::.tuple #[.agg #[x,y,z,t,q,r],.agg #[t,y,z,.int .i64 (t + k),q,r],.agg #[.int .i64 (t + k),y,z,p,q,r],.int .i64 0]::o 0::o 1::o 2::o 3::o 5::o 6::o 7::o 8::_⟩,[]⟩ W
  refine wpOp_step rfl fun _ hK => ?_
  go_simp
  exact hK _ _ ⟨rfl,rfl⟩
 ·intro o W _
  show wpOp _ _ _ 8 _ ⟨⟨_::_::_::_::_::_::o 9::o 10::o 11::o 15::_::_::_::_::_::_::_::_::_::_::.tuple #[.agg #[x,y,z,t,q,r],.agg #[t,y,z,.int .i64 (t + k),q,r],.agg #[.int .i64 (t + k),y,z,p,q,r],.int .i64 0]::o 0::o 1::o 2::o 3::o 5::o 6::o 7::o 8::_⟩,[]⟩ W
  refine wpOp_step rfl fun _ hK => ?_
  go_simp
  exact hK _ _ ⟨rfl,rfl⟩
 ·intro o W
  show wpOp _ _ _ 9 _ ⟨⟨_::_::_::_::_::_::o 9::o 10::o 11::o 15::_::_::_::_::_::_::_::_::_::_::o 4::o 0::o 1::o 2::o 3::o 5::o 6::o 7::o 8::_⟩,[]⟩ W
  refine wpOp_step rfl fun _ hK => ?_
  go_simp
  exact hK _ _ ⟨rfl,rfl⟩
 ·intro o W
  show wpOp _ _ _ 10 _ ⟨⟨_::_::_::_::_::_::o 9::o 10::o 11::o 15::_::_::_::_::_::_::_::_::_::_::o 4::o 0::o 1::o 2::o 3::o 5::o 6::o 7::o 8::_⟩,[]⟩ W
  refine wpOp_step rfl fun _ hK => ?_
  go_simp
  exact hK _ _ ⟨rfl,rfl⟩
 ·intro o W
  show wpOp _ _ _ 11 _ ⟨⟨_::_::_::_::_::_::o 9::o 10::o 11::o 15::_::_::_::_::_::_::_::_::_::_::o 4::o 0::o 1::o 2::o 3::o 5::o 6::o 7::o 8::_⟩,[]⟩ W
  refine wpOp_step rfl fun _ hK => ?_
  go_simp
  exact hK _ _ ⟨rfl,rfl⟩
 ·intro o W g_ hj hg_ hb_
  have hj : KL _ _ W := hj
  have hb_ : Blk W g_ 25 #[.int .i64 0,.int .i64 0,.int .i64 0,.int .i64 0,.int .i64 0,.int .i64 0] := hb_
  obtain ⟨cL,c0,c1,c2,c3,c4,c5⟩ := bl6 hb_
  have cF := hb_.frozen
  show wpOp _ _ _ 12 _ ⟨⟨_::_::_::_::_::_::.pointer (some ⟨g_,0,none⟩)::o 10::o 11::o 15::_::_::_::_::_::_::_::_::_::_::o 4::o 0::o 1::o 2::o 3::.agg #[x,y,z,t,q,r]::o 6::o 7::o 8::_⟩,[]⟩ W
  refine wpOp_step rfl fun _ hK => ?_
  go_simp
  exact hK _ _ ⟨rfl,st6 hj (by omega) (by simp <;> omega) hb_⟩
 ·intro o W g_ hj hg_ hb_
  have hj : KL _ _ W := hj
  have hb_ : Blk W g_ 25 #[.int .i64 0,.int .i64 0,.int .i64 0,.int .i64 0,.int .i64 0,.int .i64 0] := hb_
  obtain ⟨cL,c0,c1,c2,c3,c4,c5⟩ := bl6 hb_
  have cF := hb_.frozen
  show wpOp _ _ _ 13 _ ⟨⟨_::_::_::_::_::_::o 9::.pointer (some ⟨g_,0,none⟩)::o 11::o 15::_::_::_::_::_::_::_::_::_::_::o 4::o 0::o 1::o 2::o 3::o 5::.agg #[t,y,z,.int .i64 (t + k),q,r]::o 7::o 8::_⟩,[]⟩ W
  refine wpOp_step rfl fun _ hK => ?_
  go_simp
  exact hK _ _ ⟨rfl,st6 hj (by omega) (by simp <;> omega) hb_⟩
 ·intro o W g_ hj hg_ hb_
  have hj : KL _ _ W := hj
  have hb_ : Blk W g_ 25 #[.int .i64 0,.int .i64 0,.int .i64 0,.int .i64 0,.int .i64 0,.int .i64 0] := hb_
  obtain ⟨cL,c0,c1,c2,c3,c4,c5⟩ := bl6 hb_
  have cF := hb_.frozen
  show wpOp _ _ _ 14 _ ⟨⟨_::_::_::_::_::_::o 9::o 10::.pointer (some ⟨g_,0,none⟩)::o 15::_::_::_::_::_::_::_::_::_::_::o 4::o 0::o 1::o 2::o 3::o 5::o 6::.agg #[.int .i64 (t + k),y,z,p,q,r]::o 8::_⟩,[]⟩ W
  refine wpOp_step rfl fun _ hK => ?_
  go_simp
  exact hK _ _ ⟨rfl,st6 hj (by omega) (by simp <;> omega) hb_⟩
 ·intro o W _
  show wpOp _ _ _ 15 _ ⟨⟨_::_::_::_::_::_::o 9::o 10::o 11::o 15::_::_::_::_::_::_::_::_::_::_::o 4::o 0::o 1::o 2::o 3::o 5::o 6::o 7::.int .i64 0::_⟩,[]⟩ W
  refine wpOp_step rfl fun _ hK => ?_
  go_simp
  exact hK _ _ ⟨rfl,rfl⟩
 ·intro o g_ hh_ hp_
  have e0 : o 0 = .agg #[x,y,z,p,q,r] := hh_ 0 (by decide) (by simp)
  have e1 : o 1 = .agg #[.int .i64 0,t,k] := hh_ 1 (by decide) (by simp)
  have e2 : o 2 = .agg #[.int .i64 0,t,k] := hh_ 2 (by decide) (by simp)
  have e3 : o 3 = .tuple #[.agg #[x,y,z,t,q,r],.agg #[t,y,z,.int .i64 (t + k),q,r],.agg #[.int .i64 (t + k),y,z,p,q,r],.int .i64 0] := hh_ 3 (by decide) (by simp)
  have e4 : o 4 = .tuple #[.agg #[x,y,z,t,q,r],.agg #[t,y,z,.int .i64 (t + k),q,r],.agg #[.int .i64 (t + k),y,z,p,q,r],.int .i64 0] := hh_ 4 (by decide) (by simp)
  have e5 : o 5 = .agg #[x,y,z,t,q,r] := hh_ 5 (by decide) (by simp)
  have e6 : o 6 = .agg #[t,y,z,.int .i64 (t + k),q,r] := hh_ 6 (by decide) (by simp)
  have e7 : o 7 = .agg #[.int .i64 (t + k),y,z,p,q,r] := hh_ 7 (by decide) (by simp)
  have e8 : o 8 = .int .i64 0 := hh_ 8 (by decide) (by simp)
  have e9 : o 9 = ptrV (g_ 9) := hp_ 9 (by simp)
  have e10 : o 10 = ptrV (g_ 10) := hp_ 10 (by simp)
  have e11 : o 11 = ptrV (g_ 11) := hp_ 11 (by simp)
  have e15 : o 15 = .int .i64 0 := hh_ 15 (by decide) (by simp)
  rw [e0,e1,e2,e3,e4,e5,e6,e7,e8,e9,e10,e11,e15]
 ·intro W4 g_ h4 ho_ hn_
  have h4 : KL _ _ W4 := h4
  obtain ⟨bg9,Bg9⟩ := ho_ 9 (by simp)
  have Bg9 : Blk W4 (g_ 9) 25 #[x,y,z,t,q,r] := Bg9
  obtain ⟨bg10,Bg10⟩ := ho_ 10 (by simp)
  have Bg10 : Blk W4 (g_ 10) 25 #[t,y,z,.int .i64 (t + k),q,r] := Bg10
  obtain ⟨bg11,Bg11⟩ := ho_ 11 (by simp)
  have Bg11 : Blk W4 (g_ 11) 25 #[.int .i64 (t + k),y,z,p,q,r] := Bg11
  have ng9g10 := hn_ 9 (by simp) 10 (by simp) (by decide)
  have ng9g11 := hn_ 9 (by simp) 11 (by simp) (by decide)
  have ng10g11 := hn_ 10 (by simp) 11 (by simp) (by decide)
  clear ho_ hn_
  dsimp only [ptrV]
  generalize g_ 9 = g9 at *
  generalize g_ 10 = g10 at *
  generalize g_ 11 = g11 at *
  have h4 := KL.cons Bg9 h4
  have h4 := KL.cons Bg10 h4
  have h4 := KL.cons Bg11 h4
  clear Bg9 Bg10 Bg11
  obtain ⟨dL0,d0_0,d0_1,d0_2,d0_3,d0_4,d0_5⟩ := bl6 (KL.blk h4 (.head _))
  have dF0 := (KL.blk h4 (.head _)).frozen
  obtain ⟨dL1,d1_0,d1_1,d1_2,d1_3,d1_4,d1_5⟩ := bl6 (KL.blk h4 (.tail _ (.head _)))
  have dF1 := (KL.blk h4 (.tail _ (.head _))).frozen
  obtain ⟨dL2,d2_0,d2_1,d2_2,d2_3,d2_4,d2_5⟩ := bl6 (KL.blk h4 (.tail _ (.tail _ (.head _))))
  have dF2 := (KL.blk h4 (.tail _ (.tail _ (.head _)))).frozen
  obtain ⟨dL3,d3_0,d3_1,d3_2⟩ := bl3 (KL.blk h4 (.tail _ (.tail _ (.tail _ (.head _)))))
  obtain ⟨dL4,d4_0,d4_1,d4_2,d4_3,d4_4,d4_5⟩ := bl6 (KL.blk h4 (.tail _ (.tail _ (.tail _ (.tail _ (.head _))))))
  have hjb := h4.1
  have hjz := hjb.size
  go_wp2
  refine wp_region_any (by kernel_rfl) ?_
  try (change wpAny _ _ _ _ _ _ _ (World.drew _))
  refine wpAny_vals (fr := fun o => #[.agg #[x,y,z,p,q,r],.agg #[.int .i64 0,t,k],.pointer (some ⟨w.heap.size,0,none⟩),.pointer (some ⟨(w.heap.size + 1),0,none⟩),.bool false,.int .i64 0,.pointer (some ⟨g9,0,none⟩),.pointer (some ⟨g10,0,none⟩),.pointer (some ⟨g11,0,none⟩),.int .i64 0,o 7,o 8,undef,undef,undef,.bool true,.bool false,.agg #[x,y,z,p,q,r],.agg #[.int .i64 0,t,k],.int .i64 0,.tuple #[.agg #[x,y,z,t,q,r],.agg #[t,y,z,.int .i64 (t + k),q,r],.agg #[.int .i64 (t + k),y,z,p,q,r],.int .i64 0],.agg #[x,y,z,p,q,r],.agg #[.int .i64 0,t,k],.agg #[.int .i64 0,t,k],.tuple #[.agg #[x,y,z,t,q,r],.agg #[t,y,z,.int .i64 (t + k),q,r],.agg #[.int .i64 (t + k),y,z,p,q,r],.int .i64 0],.agg #[x,y,z,t,q,r],.agg #[t,y,z,.int .i64 (t + k),q,r],.agg #[.int .i64 (t + k),y,z,p,q,r],.int .i64 0,o 4,o 0,o 1,o 2,o 3,o 5,o 6,undef,undef,undef,undef,undef,undef,undef,undef,undef,undef,undef,undef,undef,undef,undef,undef,undef,undef,undef,undef,undef,undef,undef,undef,undef,undef,undef,undef,undef,undef,undef,undef,undef,undef,undef,undef,undef,undef,undef,undef,undef,undef,undef,undef,undef,undef,undef,undef,undef,undef,undef,undef,undef,undef,undef,undef,undef,undef,undef,undef,undef]) (vals := fun i_ => ([.agg #[x,y,z,p,q,r],.agg #[.int .i64 0,t,k],.agg #[.int .i64 0,t,k],.tuple #[.int .i64 V,.int .i64 0],.tuple #[.int .i64 V,.int .i64 0],.int .i64 V,.int .i64 0,.int .i64 V,.int .i64 0] : List Value).getD i_ undef) (Kf := fun _ => True) (K := fun kk_ => ([(KL [(g11,25,#[.int .i64 (t + k),y,z,p,q,r]),(g10,25,#[t,y,z,.int .i64 (t + k),q,r]),(g9,25,#[x,y,z,t,q,r]),((w.heap.size + 1),27,#[.int .i64 0,t,k]),(w.heap.size,25,#[x,y,z,p,q,r])] w)] : List (World → Prop)).getD kk_ (fun _ => True)) (dep := fun i_ => [[],[],[1],[0,2],[3],[4],[4],[5],[6]].getD i_ []) (dv := fun i_ => [[],[],[1],[0,2],[3],[4],[4],[5],[6]].getD i_ []) (kd := fun i_ => [1,1,1,1,0,0,0,0,0].getD i_ 0) (ss := []) (l := [0,1,2,3,4,5,6,7,8]) (f0 := fun _ => undef) (A := ?A4) 9 rfl rfl (by decide +kernel) (by decide +kernel) ?_ ?_ ⟨?_,?_,?_,?_,?_,?_,?_,?_,?_,trivial⟩ ?_ ?_
  rotate_left
  ·exact KL.drew h4
  ·exact fun _ _ _ _ => trivial
  ·intro o W hj
   have hj : KL _ _ W := hj
   obtain ⟨cL,c0,c1,c2,c3,c4,c5⟩ := bl6 (KL.blk hj (.tail _ (.tail _ (.tail _ (.tail _ (.head _))))))
   show wpOp _ _ _ 0 _ ⟨⟨_::_::_::_::_::_::_::_::_::_::o 7::o 8::_::_::_::_::_::_::_::_::_::_::_::_::_::_::_::_::_::o 4::o 0::o 1::o 2::o 3::o 5::o 6::_⟩,[]⟩ W
   refine wpOp_step rfl fun _ hK => ?_
   go_simp
   exact hK _ _ ⟨rfl,hj⟩
  ·intro o W hj
   have hj : KL _ _ W := hj
   obtain ⟨cL,c0,c1,c2⟩ := bl3 (KL.blk hj (.tail _ (.tail _ (.tail _ (.head _)))))
   show wpOp _ _ _ 1 _ ⟨⟨_::_::_::_::_::_::_::_::_::_::o 7::o 8::_::_::_::_::_::_::_::_::_::_::_::_::_::_::_::_::_::o 4::o 0::o 1::o 2::o 3::o 5::o 6::_⟩,[]⟩ W
   refine wpOp_step rfl fun _ hK => ?_
   go_simp
   exact hK _ _ ⟨rfl,hj⟩
  ·intro o W hj
   have hj : KL _ _ W := hj
   show wpOp _ _ _ 2 _ ⟨⟨_::_::_::_::_::_::_::_::_::_::o 7::o 8::_::_::_::_::_::_::_::_::_::_::_::_::_::_::_::_::_::o 4::o 0::.agg #[.int .i64 0,t,k]::o 2::o 3::o 5::o 6::_⟩,[]⟩ W
   refine wpOp_step rfl fun _ hK => ?_
   go_simp
   refine (ours_any _ _ _ _).mono ?_
   rintro e W1 ⟨rfl,hb1⟩
   exact hK _ _ ⟨rfl,hj.over hb1⟩
  ·intro o W hj
   have hj : KL _ _ W := hj
   show wpOp _ _ _ 3 _ ⟨⟨_::_::_::_::_::_::_::_::_::_::o 7::o 8::_::_::_::_::_::_::_::_::_::_::_::_::_::_::_::_::_::o 4::.agg #[x,y,z,p,q,r]::o 1::.agg #[.int .i64 0,t,k]::o 3::o 5::o 6::_⟩,[]⟩ W
   refine wpOp_step rfl fun _ hK => ?_
   go_simp
   refine (hl _).mono ?_
   rintro e W1 ⟨rfl,hb1⟩
   exact hK _ _ ⟨rfl,hj.over hb1⟩
  ·intro o W _
   show wpOp _ _ _ 4 _ ⟨⟨_::_::_::_::_::_::_::_::_::_::o 7::o 8::_::_::_::_::_::_::_::_::_::_::_::_::_::_::_::_::_::o 4::o 0::o 1::o 2::.tuple #[.int .i64 V,.int .i64 0]::o 5::o 6::_⟩,[]⟩ W
   refine wpOp_step rfl fun _ hK => ?_
   go_simp
   exact hK _ _ ⟨rfl,rfl⟩
  ·intro o W _
   show wpOp _ _ _ 5 _ ⟨⟨_::_::_::_::_::_::_::_::_::_::o 7::o 8::_::_::_::_::_::_::_::_::_::_::_::_::_::_::_::_::_::.tuple #[.int .i64 V,.int .i64 0]::o 0::o 1::o 2::o 3::o 5::o 6::_⟩,[]⟩ W
   refine wpOp_step rfl fun _ hK => ?_
   go_simp
   exact hK _ _ ⟨rfl,rfl⟩
  ·intro o W _
   show wpOp _ _ _ 6 _ ⟨⟨_::_::_::_::_::_::_::_::_::_::o 7::o 8::_::_::_::_::_::_::_::_::_::_::_::_::_::_::_::_::_::.tuple #[.int .i64 V,.int .i64 0]::o 0::o 1::o 2::o 3::o 5::o 6::_⟩,[]⟩ W
   refine wpOp_step rfl fun _ hK => ?_
   go_simp
   exact hK _ _ ⟨rfl,rfl⟩
  ·intro o W _
   show wpOp _ _ _ 7 _ ⟨⟨_::_::_::_::_::_::_::_::_::_::o 7::o 8::_::_::_::_::_::_::_::_::_::_::_::_::_::_::_::_::_::o 4::o 0::o 1::o 2::o 3::.int .i64 V::o 6::_⟩,[]⟩ W
   refine wpOp_step rfl fun _ hK => ?_
   go_simp
   exact hK _ _ ⟨rfl,rfl⟩
  ·intro o W _
   show wpOp _ _ _ 8 _ ⟨⟨_::_::_::_::_::_::_::_::_::_::o 7::o 8::_::_::_::_::_::_::_::_::_::_::_::_::_::_::_::_::_::o 4::o 0::o 1::o 2::o 3::o 5::.int .i64 0::_⟩,[]⟩ W
   refine wpOp_step rfl fun _ hK => ?_
   go_simp
   exact hK _ _ ⟨rfl,rfl⟩
  ·intro o hh_
   have e0 : o 0 = .agg #[x,y,z,p,q,r] := hh_ 0 (by decide)
   have e1 : o 1 = .agg #[.int .i64 0,t,k] := hh_ 1 (by decide)
   have e2 : o 2 = .agg #[.int .i64 0,t,k] := hh_ 2 (by decide)
   have e3 : o 3 = .tuple #[.int .i64 V,.int .i64 0] := hh_ 3 (by decide)
   have e4 : o 4 = .tuple #[.int .i64 V,.int .i64 0] := hh_ 4 (by decide)
   have e5 : o 5 = .int .i64 V := hh_ 5 (by decide)
   have e6 : o 6 = .int .i64 0 := hh_ 6 (by decide)
   have e7 : o 7 = .int .i64 V := hh_ 7 (by decide)
   have e8 : o 8 = .int .i64 0 := hh_ 8 (by decide)
   rw [e0,e1,e2,e3,e4,e5,e6,e7,e8]
  ·intro W5 h5
   have h5 : KL _ _ W5 := h5
   obtain ⟨eL0,e0_0,e0_1,e0_2,e0_3,e0_4,e0_5⟩ := bl6 (KL.blk h5 (.head _))
   have eF0 := (KL.blk h5 (.head _)).frozen
   obtain ⟨eL1,e1_0,e1_1,e1_2,e1_3,e1_4,e1_5⟩ := bl6 (KL.blk h5 (.tail _ (.head _)))
   have eF1 := (KL.blk h5 (.tail _ (.head _))).frozen
   obtain ⟨eL2,e2_0,e2_1,e2_2,e2_3,e2_4,e2_5⟩ := bl6 (KL.blk h5 (.tail _ (.tail _ (.head _))))
   have eF2 := (KL.blk h5 (.tail _ (.tail _ (.head _)))).frozen
   obtain ⟨eL3,e3_0,e3_1,e3_2⟩ := bl3 (KL.blk h5 (.tail _ (.tail _ (.tail _ (.head _)))))
   obtain ⟨eL4,e4_0,e4_1,e4_2,e4_3,e4_4,e4_5⟩ := bl6 (KL.blk h5 (.tail _ (.tail _ (.tail _ (.tail _ (.head _))))))
   have hjb := h5.1
   have hjz := hjb.size
   go_wp2
   refine wp_region_any (by kernel_rfl) ?_
   try (change wpAny _ _ _ _ _ _ _ (World.drew _))
   refine wpAny_vals (fr := fun o => #[.agg #[x,y,z,p,q,r],.agg #[.int .i64 0,t,k],.pointer (some ⟨w.heap.size,0,none⟩),.pointer (some ⟨(w.heap.size + 1),0,none⟩),.bool false,.int .i64 0,.pointer (some ⟨g9,0,none⟩),.pointer (some ⟨g10,0,none⟩),.pointer (some ⟨g11,0,none⟩),.int .i64 0,.int .i64 V,.int .i64 0,undef,undef,undef,.bool true,.bool false,.agg #[x,y,z,p,q,r],.agg #[.int .i64 0,t,k],.int .i64 0,.tuple #[.agg #[x,y,z,t,q,r],.agg #[t,y,z,.int .i64 (t + k),q,r],.agg #[.int .i64 (t + k),y,z,p,q,r],.int .i64 0],.agg #[x,y,z,p,q,r],.agg #[.int .i64 0,t,k],.agg #[.int .i64 0,t,k],.tuple #[.agg #[x,y,z,t,q,r],.agg #[t,y,z,.int .i64 (t + k),q,r],.agg #[.int .i64 (t + k),y,z,p,q,r],.int .i64 0],.agg #[x,y,z,t,q,r],.agg #[t,y,z,.int .i64 (t + k),q,r],.agg #[.int .i64 (t + k),y,z,p,q,r],.int .i64 0,.tuple #[.int .i64 V,.int .i64 0],.agg #[x,y,z,p,q,r],.agg #[.int .i64 0,t,k],.agg #[.int .i64 0,t,k],.tuple #[.int .i64 V,.int .i64 0],.int .i64 V,.int .i64 0,o 0,o 1,o 2,o 3,o 4,o 5,o 6,o 7,o 8,o 9,o 10,o 11,o 12,o 13,o 14,o 15,undef,undef,undef,undef,undef,undef,undef,undef,undef,undef,undef,undef,undef,undef,undef,undef,undef,undef,undef,undef,undef,undef,undef,undef,undef,undef,undef,undef,undef,undef,undef,undef,undef,undef,undef,undef,undef,undef,undef,undef,undef,undef,undef,undef,undef]) (vals := fun i_ => ([.agg #[x,y,z,p,q,r],.agg #[.int .i64 0,t,k],.agg #[.int .i64 0,t,k],.int .i64 0,.int .i64 0,.bool false,.bool false,.int .i64 0,.int .i64 0,.bool false,.bool false,.bool false,.int .i64 0,.int .i64 0,.bool false,.bool false] : List Value).getD i_ undef) (Kf := fun _ => True) (K := fun kk_ => ([(KL [(g11,25,#[.int .i64 (t + k),y,z,p,q,r]),(g10,25,#[t,y,z,.int .i64 (t + k),q,r]),(g9,25,#[x,y,z,t,q,r]),((w.heap.size + 1),27,#[.int .i64 0,t,k]),(w.heap.size,25,#[x,y,z,p,q,r])] w)] : List (World → Prop)).getD kk_ (fun _ => True)) (dep := fun i_ => [[],[],[1],[0,2],[],[3,4],[5],[6],[6],[6,7,8],[6,9],[10],[11],[11],[11,12,13],[11,14]].getD i_ []) (dv := fun i_ => [[],[],[1],[0,2],[],[3,4],[5],[6],[6],[6,7,8],[6,9],[10],[11],[11],[11,12,13],[11,14]].getD i_ []) (kd := fun i_ => [1,1,1,1,0,0,0,0,0,0,0,0,0,0,0,0].getD i_ 0) (ss := []) (l := [0,1,2,3,4,5,6,7,8,9,10,11,12,13,14,15]) (f0 := fun _ => undef) (A := ?A3) 16 rfl rfl (by decide +kernel) (by decide +kernel) ?_ ?_ ⟨?_,?_,?_,?_,?_,?_,?_,?_,?_,?_,?_,?_,?_,?_,?_,?_,trivial⟩ ?_ ?_
   rotate_left
   ·exact KL.drew h5
   ·exact fun _ _ _ _ => trivial
   ·intro o W hj
    have hj : KL _ _ W := hj
    obtain ⟨cL,c0,c1,c2,c3,c4,c5⟩ := bl6 (KL.blk hj (.tail _ (.tail _ (.tail _ (.tail _ (.head _))))))
    show wpOp _ _ _ 0 _ ⟨⟨_::_::_::_::_::_::_::_::_::_::_::_::_::_::_::_::_::_::_::_::_::_::_::_::_::_::_::_::_::_::_::_::_::_::_::_::o 0::o 1::o 2::o 3::o 4::o 5::o 6::o 7::o 8::o 9::o 10::o 11::o 12::o 13::o 14::o 15::_⟩,[]⟩ W
    refine wpOp_step rfl fun _ hK => ?_
    go_simp
    exact hK _ _ ⟨rfl,hj⟩
   ·intro o W hj
    have hj : KL _ _ W := hj
    obtain ⟨cL,c0,c1,c2⟩ := bl3 (KL.blk hj (.tail _ (.tail _ (.tail _ (.head _)))))
    show wpOp _ _ _ 1 _ ⟨⟨_::_::_::_::_::_::_::_::_::_::_::_::_::_::_::_::_::_::_::_::_::_::_::_::_::_::_::_::_::_::_::_::_::_::_::_::o 0::o 1::o 2::o 3::o 4::o 5::o 6::o 7::o 8::o 9::o 10::o 11::o 12::o 13::o 14::o 15::_⟩,[]⟩ W
    refine wpOp_step rfl fun _ hK => ?_
    go_simp
    exact hK _ _ ⟨rfl,hj⟩
   ·intro o W hj
    have hj : KL _ _ W := hj
    show wpOp _ _ _ 2 _ ⟨⟨_::_::_::_::_::_::_::_::_::_::_::_::_::_::_::_::_::_::_::_::_::_::_::_::_::_::_::_::_::_::_::_::_::_::_::_::o 0::.agg #[.int .i64 0,t,k]::o 2::o 3::o 4::o 5::o 6::o 7::o 8::o 9::o 10::o 11::o 12::o 13::o 14::o 15::_⟩,[]⟩ W
    refine wpOp_step rfl fun _ hK => ?_
    go_simp
    refine (ours_any _ _ _ _).mono ?_
    rintro e W1 ⟨rfl,hb1⟩
    exact hK _ _ ⟨rfl,hj.over hb1⟩
   ·intro o W hj
    have hj : KL _ _ W := hj
    show wpOp _ _ _ 3 _ ⟨⟨_::_::_::_::_::_::_::_::_::_::_::_::_::_::_::_::_::_::_::_::_::_::_::_::_::_::_::_::_::_::_::_::_::_::_::_::.agg #[x,y,z,p,q,r]::o 1::.agg #[.int .i64 0,t,k]::o 3::o 4::o 5::o 6::o 7::o 8::o 9::o 10::o 11::o 12::o 13::o 14::o 15::_⟩,[]⟩ W
    refine wpOp_step rfl fun _ hK => ?_
    go_simp
    refine (hck _).mono ?_
    rintro e W1 ⟨rfl,hb1⟩
    exact hK _ _ ⟨rfl,hj.over hb1⟩
   ·intro o W _
    show wpOp _ _ _ 4 _ ⟨⟨_::_::_::_::_::_::_::_::_::_::_::_::_::_::_::_::_::_::_::_::_::_::_::_::_::_::_::_::_::_::_::_::_::_::_::_::o 0::o 1::o 2::o 3::o 4::o 5::o 6::o 7::o 8::o 9::o 10::o 11::o 12::o 13::o 14::o 15::_⟩,[]⟩ W
    refine wpOp_step rfl fun _ hK => ?_
    go_simp
    exact hK _ _ ⟨rfl,rfl⟩
   ·intro o W _
    show wpOp _ _ _ 5 _ ⟨⟨_::_::_::_::_::_::_::_::_::_::_::_::_::_::_::_::_::_::_::_::_::_::_::_::_::_::_::_::_::_::_::_::_::_::_::_::o 0::o 1::o 2::.int .i64 0::.int .i64 0::o 5::o 6::o 7::o 8::o 9::o 10::o 11::o 12::o 13::o 14::o 15::_⟩,[]⟩ W
    refine wpOp_step rfl fun _ hK => ?_
    go_simp
    exact hK _ _ ⟨rfl,rfl⟩
   ·intro o W _
    show wpOp _ _ _ 6 _ ⟨⟨_::_::_::_::_::_::_::_::_::_::_::_::_::_::_::_::_::_::_::_::_::_::_::_::_::_::_::_::_::_::_::_::_::_::_::_::o 0::o 1::o 2::o 3::o 4::.bool false::o 6::o 7::o 8::o 9::o 10::o 11::o 12::o 13::o 14::o 15::_⟩,[]⟩ W
    refine wpOp_step rfl fun _ hK => ?_
    go_simp
    exact hK _ _ ⟨rfl,rfl⟩
   ·intro o W _
    show wpOp _ _ _ 7 _ ⟨⟨_::_::_::_::_::_::_::_::_::_::_::_::_::_::_::_::_::_::_::_::_::_::_::_::_::_::_::_::_::_::_::_::_::_::_::_::o 0::o 1::o 2::o 3::o 4::o 5::.bool false::o 7::o 8::o 9::o 10::o 11::o 12::o 13::o 14::o 15::_⟩,[]⟩ W
    refine wpOp_step rfl fun _ hK => ?_
    go_simp
    exact hK _ _ ⟨rfl,rfl⟩
   ·intro o W _
    show wpOp _ _ _ 8 _ ⟨⟨_::_::_::_::_::_::_::_::_::_::_::_::_::_::_::_::_::_::_::_::_::_::_::_::_::_::_::_::_::_::_::_::_::_::_::_::o 0::o 1::o 2::o 3::o 4::o 5::.bool false::o 7::o 8::o 9::o 10::o 11::o 12::o 13::o 14::o 15::_⟩,[]⟩ W
    refine wpOp_step rfl fun _ hK => ?_
    go_simp
    exact hK _ _ ⟨rfl,rfl⟩
   ·intro o W _
    show wpOp _ _ _ 9 _ ⟨⟨_::_::_::_::_::_::_::_::_::_::_::_::_::_::_::_::_::_::_::_::_::_::_::_::_::_::_::_::_::_::_::_::_::_::_::_::o 0::o 1::o 2::o 3::o 4::o 5::.bool false::.int .i64 0::.int .i64 0::o 9::o 10::o 11::o 12::o 13::o 14::o 15::_⟩,[]⟩ W
    refine wpOp_step rfl fun _ hK => ?_
    go_simp
    exact hK _ _ ⟨rfl,rfl⟩
   ·intro o W _
    show wpOp _ _ _ 10 _ ⟨⟨_::_::_::_::_::_::_::_::_::_::_::_::_::_::_::_::_::_::_::_::_::_::_::_::_::_::_::_::_::_::_::_::_::_::_::_::o 0::o 1::o 2::o 3::o 4::o 5::.bool false::o 7::o 8::.bool false::o 10::o 11::o 12::o 13::o 14::o 15::_⟩,[]⟩ W
    refine wpOp_step rfl fun _ hK => ?_
    go_simp
    exact hK _ _ ⟨rfl,rfl⟩
   ·intro o W _
    show wpOp _ _ _ 11 _ ⟨⟨_::_::_::_::_::_::_::_::_::_::_::_::_::_::_::_::_::_::_::_::_::_::_::_::_::_::_::_::_::_::_::_::_::_::_::_::o 0::o 1::o 2::o 3::o 4::o 5::o 6::o 7::o 8::o 9::.bool false::o 11::o 12::o 13::o 14::o 15::_⟩,[]⟩ W
    refine wpOp_step rfl fun _ hK => ?_
    go_simp
    exact hK _ _ ⟨rfl,rfl⟩
   ·intro o W _
    show wpOp _ _ _ 12 _ ⟨⟨_::_::_::_::_::_::_::_::_::_::_::_::_::_::_::_::_::_::_::_::_::_::_::_::_::_::_::_::_::_::_::_::_::_::_::_::o 0::o 1::o 2::o 3::o 4::o 5::o 6::o 7::o 8::o 9::o 10::.bool false::o 12::o 13::o 14::o 15::_⟩,[]⟩ W
    refine wpOp_step rfl fun _ hK => ?_
    go_simp
    exact hK _ _ ⟨rfl,rfl⟩
   ·intro o W _
    show wpOp _ _ _ 13 _ ⟨⟨_::_::_::_::_::_::_::_::_::_::_::_::_::_::_::_::_::_::_::_::_::_::_::_::_::_::_::_::_::_::_::_::_::_::_::_::o 0::o 1::o 2::o 3::o 4::o 5::o 6::o 7::o 8::o 9::o 10::.bool false::o 12::o 13::o 14::o 15::_⟩,[]⟩ W
    refine wpOp_step rfl fun _ hK => ?_
    go_simp
    exact hK _ _ ⟨rfl,rfl⟩
   ·intro o W _
    show wpOp _ _ _ 14 _ ⟨⟨_::_::_::_::_::_::_::_::_::_::_::_::_::_::_::_::_::_::_::_::_::_::_::_::_::_::_::_::_::_::_::_::_::_::_::_::o 0::o 1::o 2::o 3::o 4::o 5::o 6::o 7::o 8::o 9::o 10::.bool false::.int .i64 0::.int .i64 0::o 14::o 15::_⟩,[]⟩ W
    refine wpOp_step rfl fun _ hK => ?_
    go_simp
    exact hK _ _ ⟨rfl,rfl⟩
   ·intro o W _
    show wpOp _ _ _ 15 _ ⟨⟨_::_::_::_::_::_::_::_::_::_::_::_::_::_::_::_::_::_::_::_::_::_::_::_::_::_::_::_::_::_::_::_::_::_::_::_::o 0::o 1::o 2::o 3::o 4::o 5::o 6::o 7::o 8::o 9::o 10::.bool false::o 12::o 13::.bool false::o 15::_⟩,[]⟩ W
    refine wpOp_step rfl fun _ hK => ?_
    go_simp
    exact hK _ _ ⟨rfl,rfl⟩
   ·intro o hh_
    have e0 : o 0 = .agg #[x,y,z,p,q,r] := hh_ 0 (by decide)
    have e1 : o 1 = .agg #[.int .i64 0,t,k] := hh_ 1 (by decide)
    have e2 : o 2 = .agg #[.int .i64 0,t,k] := hh_ 2 (by decide)
    have e3 : o 3 = .int .i64 0 := hh_ 3 (by decide)
    have e4 : o 4 = .int .i64 0 := hh_ 4 (by decide)
    have e5 : o 5 = .bool false := hh_ 5 (by decide)
    have e6 : o 6 = .bool false := hh_ 6 (by decide)
    have e7 : o 7 = .int .i64 0 := hh_ 7 (by decide)
    have e8 : o 8 = .int .i64 0 := hh_ 8 (by decide)
    have e9 : o 9 = .bool false := hh_ 9 (by decide)
    have e10 : o 10 = .bool false := hh_ 10 (by decide)
    have e11 : o 11 = .bool false := hh_ 11 (by decide)
    have e12 : o 12 = .int .i64 0 := hh_ 12 (by decide)
    have e13 : o 13 = .int .i64 0 := hh_ 13 (by decide)
    have e14 : o 14 = .bool false := hh_ 14 (by decide)
    have e15 : o 15 = .bool false := hh_ 15 (by decide)
    rw [e0,e1,e2,e3,e4,e5,e6,e7,e8,e9,e10,e11,e12,e13,e14,e15]
   ·intro W6 h6
    have h6 : KL _ _ W6 := h6
    obtain ⟨fL0,f0_0,f0_1,f0_2,f0_3,f0_4,f0_5⟩ := bl6 (KL.blk h6 (.head _))
    have fF0 := (KL.blk h6 (.head _)).frozen
    obtain ⟨fL1,f1_0,f1_1,f1_2,f1_3,f1_4,f1_5⟩ := bl6 (KL.blk h6 (.tail _ (.head _)))
    have fF1 := (KL.blk h6 (.tail _ (.head _))).frozen
    obtain ⟨fL2,f2_0,f2_1,f2_2,f2_3,f2_4,f2_5⟩ := bl6 (KL.blk h6 (.tail _ (.tail _ (.head _))))
    have fF2 := (KL.blk h6 (.tail _ (.tail _ (.head _)))).frozen
    obtain ⟨fL3,f3_0,f3_1,f3_2⟩ := bl3 (KL.blk h6 (.tail _ (.tail _ (.tail _ (.head _)))))
    obtain ⟨fL4,f4_0,f4_1,f4_2,f4_3,f4_4,f4_5⟩ := bl6 (KL.blk h6 (.tail _ (.tail _ (.tail _ (.tail _ (.head _))))))
    have hjb := h6.1
    have hjz := hjb.size
    go_wp2_with (first | (go_at_call 18; refine (hr _).mono ?_; rintro e w7 ⟨rfl,hb7⟩; obtain ⟨hc7,hf7⟩ := bcell hb7; have hz7 := hb7.size; have p7a0 : g9 < w7.heap.size := (by omega); have p7a1 : g9 < w7.heap.size + 1 := (by omega); have p7a2 : g9 < w7.heap.size + 1 + 1 := (by omega); have p7b0 : g10 < w7.heap.size := (by omega); have p7b1 : g10 < w7.heap.size + 1 := (by omega); have p7b2 : g10 < w7.heap.size + 1 + 1 := (by omega); have p7c0 : g11 < w7.heap.size := (by omega); have p7c1 : g11 < w7.heap.size + 1 := (by omega); have p7c2 : g11 < w7.heap.size + 1 + 1 := (by omega)) | (go_at_call 19; refine (hv9 _).mono ?_; rintro e w8 ⟨rfl,hb8⟩; have hz8 := hb8.size; (try simp at hz8)))
    go_ret
    refine ⟨rfl,?_⟩
    repeat (first | with_reducible exact Below.refl _ _ | with_reducible refine Below.setCell ?_ ?_ _ | with_reducible refine Below.alloc ?_ ?_ _ | with_reducible refine Below.drew ?_ | with_reducible refine below_drewN ?_ _ | (refine Below.trans ?_ (bmono (by assumption) ?_)))
    all_goals (first | omega | (simp <;> omega))
set_option maxHeartbeats 16000000 in
set_option maxRecDepth 100000 in
theorem spl_0z (x y z p q r t k : Int) (hv : eB x y z p q r = 0) (ho : okI x p t k = 0) (hkp : k = 0) (w : World) : Calls Try.prog 3 #[.agg #[x,y,z,p,q,r],.agg #[.int .i64 0,t,k]] w fun e w' => e = .returned (.bool true) ∧ Below w.heap.size w w' := by
 have hA := awake_any
 have hrc := rCheck_ok0 x y z p q r t k hv
 have hck := Check_ok0 x y z p q r t k hv
 have hs := Split0z x y z p q r t k hv ho hkp
 have hl := Loss0z x y z p q r t k hv ho hkp
 have hr := rSplit0z x y z p q r t k hv ho hkp
 rw [ho] at hrc hck
 obtain ⟨⟨a1,a2,a3⟩,⟨a4,a5,a6⟩,⟨a7,a8,a9⟩⟩ := eB_bd hv
 obtain ⟨b1,b2,b3⟩ := okI_z ho
 obtain ⟨b4,b5⟩ := rgB_iff.1 b1
 have hv9 := fun w => rvol_any 0 0 0 0 0 0 (by omega) (by omega) (by omega) (by omega) (by omega) (by omega) w
 rw [show volI 0 0 0 0 0 0 = 0 by decide] at hv9
 clear hv ho b1 a1 a2 a3 a4 a5 a6 a7 a8 a9 b2 b3 b4 b5 hkp
 have q0 : ∀ w,Sem.run Try.prog (binOp .eql 25 (.agg #[x,y,z,t,q,r]) (.agg #[x,y,z,t,q,r])) w = .ok (.bool true) w := fun w => eqBs _ _ _ _ _ _ w
 have q1 : ∀ w,Sem.run Try.prog (binOp .eql 25 (.agg #[.int .i64 0,.int .i64 0,.int .i64 0,.int .i64 0,.int .i64 0,.int .i64 0]) (.agg #[.int .i64 0,.int .i64 0,.int .i64 0,.int .i64 0,.int .i64 0,.int .i64 0])) w = .ok (.bool true) w := fun w => eqBs _ _ _ _ _ _ w
 have q2 : ∀ w,Sem.run Try.prog (binOp .eql 25 (.agg #[.int .i64 (t + k),y,z,p,q,r]) (.agg #[.int .i64 (t + k),y,z,p,q,r])) w = .ok (.bool true) w := fun w => eqBs _ _ _ _ _ _ w
 go_enter Try.func3,Try.ntmps3
 go_wp2_with (first | (go_at_call 12; refine (hA _).mono ?_; rintro e w1 ⟨rfl,hb1⟩; obtain ⟨hc1,hf1⟩ := bcell hb1; have hz1 := hb1.size; (try simp at hz1); (try have y10 : w.heap.size < w1.heap.size := (by omega)); (try have y10p : w.heap.size < w1.heap.size + 1 := (by omega)); (try have y11 : w.heap.size + 1 < w1.heap.size := (by omega)); (try have y11p : w.heap.size + 1 < w1.heap.size + 1 := (by omega)); (try have y12 : w.heap.size + 1 + 1 < w1.heap.size := (by omega)); (try have y12p : w.heap.size + 1 + 1 < w1.heap.size + 1 := (by omega)); (try have y13 : w.heap.size + 1 + 1 + 1 < w1.heap.size := (by omega)); (try have y13p : w.heap.size + 1 + 1 + 1 < w1.heap.size + 1 := (by omega)); (try have y14 : w.heap.size + 1 + 1 + 1 + 1 < w1.heap.size := (by omega)); (try have y14p : w.heap.size + 1 + 1 + 1 + 1 < w1.heap.size + 1 := (by omega)); (try have v0x1 : w0.heap.size < w1.heap.size := (by omega)); (try have v0x1p : w0.heap.size < w1.heap.size + 1 := (by omega))) | (go_at_call 13; refine (hrc _).mono ?_; rintro e w2 ⟨rfl,hb2⟩; obtain ⟨hc2,hf2⟩ := bcell hb2; have hz2 := hb2.size; (try simp at hz2); (try have y20 : w.heap.size < w2.heap.size := (by omega)); (try have y20p : w.heap.size < w2.heap.size + 1 := (by omega)); (try have y21 : w.heap.size + 1 < w2.heap.size := (by omega)); (try have y21p : w.heap.size + 1 < w2.heap.size + 1 := (by omega)); (try have y22 : w.heap.size + 1 + 1 < w2.heap.size := (by omega)); (try have y22p : w.heap.size + 1 + 1 < w2.heap.size + 1 := (by omega)); (try have y23 : w.heap.size + 1 + 1 + 1 < w2.heap.size := (by omega)); (try have y23p : w.heap.size + 1 + 1 + 1 < w2.heap.size + 1 := (by omega)); (try have y24 : w.heap.size + 1 + 1 + 1 + 1 < w2.heap.size := (by omega)); (try have y24p : w.heap.size + 1 + 1 + 1 + 1 < w2.heap.size + 1 := (by omega)); (try have v0x2 : w0.heap.size < w2.heap.size := (by omega)); (try have v0x2p : w0.heap.size < w2.heap.size + 1 := (by omega)); (try have v1x2 : w1.heap.size < w2.heap.size := (by omega)); (try have v1x2p : w1.heap.size < w2.heap.size + 1 := (by omega))))
 refine wp_region_any (by kernel_rfl) ?_
 try (change wpAny _ _ _ _ _ _ _ (World.drew _))
 refine wpAny_alloc (fr := fun o => #[.agg #[x,y,z,p,q,r],.agg #[.int .i64 0,t,k],.pointer (some ⟨w.heap.size,0,none⟩),.pointer (some ⟨(w.heap.size + 1),0,none⟩),.bool false,.int .i64 0,o 9,o 10,o 11,o 15,undef,undef,undef,undef,undef,.bool true,.bool false,.agg #[x,y,z,p,q,r],.agg #[.int .i64 0,t,k],.int .i64 0,o 4,o 0,o 1,o 2,o 3,o 5,o 6,o 7,o 8,undef,undef,undef,undef,undef,undef,undef,undef,undef,undef,undef,undef,undef,undef,undef,undef,undef,undef,undef,undef,undef,undef,undef,undef,undef,undef,undef,undef,undef,undef,undef,undef,undef,undef,undef,undef,undef,undef,undef,undef,undef,undef,undef,undef,undef,undef,undef,undef,undef,undef,undef,undef,undef,undef,undef,undef,undef,undef,undef,undef,undef,undef,undef,undef,undef,undef,undef,undef]) (vals := fun i_ => ([.agg #[x,y,z,p,q,r],.agg #[.int .i64 0,t,k],.agg #[.int .i64 0,t,k],.tuple #[.agg #[x,y,z,t,q,r],.agg #[.int .i64 0,.int .i64 0,.int .i64 0,.int .i64 0,.int .i64 0,.int .i64 0],.agg #[.int .i64 (t + k),y,z,p,q,r],.int .i64 0],.tuple #[.agg #[x,y,z,t,q,r],.agg #[.int .i64 0,.int .i64 0,.int .i64 0,.int .i64 0,.int .i64 0,.int .i64 0],.agg #[.int .i64 (t + k),y,z,p,q,r],.int .i64 0],.agg #[x,y,z,t,q,r],.agg #[.int .i64 0,.int .i64 0,.int .i64 0,.int .i64 0,.int .i64 0,.int .i64 0],.agg #[.int .i64 (t + k),y,z,p,q,r],.int .i64 0,undef,undef,undef,undef,undef,undef,.int .i64 0] : List Value).getD i_ undef) (K := fun W_ => KL [((w.heap.size + 1),27,#[.int .i64 0,t,k]),(w.heap.size,25,#[x,y,z,p,q,r])] w W_) (dep := fun i_ => [[],[],[1],[0,2],[3],[4],[4],[4],[4],[],[],[],[0,1,2,3,4,5,9,10,11],[0,1,2,3,4,5,6,9,10,11,12],[0,1,2,3,4,5,6,7,9,10,11,12,13],[0,1,2,3,4,5,6,7,8,9,10,11,12,13,14]].getD i_ []) (dv := fun i_ => [[],[],[1],[0,2],[3],[4],[4],[4],[4],[],[],[],[5],[6],[7],[8]].getD i_ []) (kd := fun i_ => [1,1,1,1,0,0,0,0,0,2,2,2,3,4,5,0].getD i_ 0) (sa := fun i_ => [9,10,11].getD i_ 0) (ss := [12,13,14]) (al := [9,10,11]) (l := [0,1,2,3,4,5,6,7,8,9,10,11,12,13,14,15]) (f0 := fun i_ => ([undef,undef,undef,undef,undef,undef,undef,undef,undef,undef,undef,undef,undef,undef,undef,undef] : List Value).getD i_ undef) (B := w.heap.size + 1 + 1) (T := 25) (z := #[.int .i64 0,.int .i64 0,.int .i64 0,.int .i64 0,.int .i64 0,.int .i64 0]) (cont := fun t_ j_ => if j_ = 9 then (if 0 < t_ then #[x,y,z,t,q,r] else #[.int .i64 0,.int .i64 0,.int .i64 0,.int .i64 0,.int .i64 0,.int .i64 0]) else if j_ = 10 then (if 1 < t_ then #[.int .i64 0,.int .i64 0,.int .i64 0,.int .i64 0,.int .i64 0,.int .i64 0] else #[.int .i64 0,.int .i64 0,.int .i64 0,.int .i64 0,.int .i64 0,.int .i64 0]) else if j_ = 11 then (if 2 < t_ then #[.int .i64 (t + k),y,z,p,q,r] else #[.int .i64 0,.int .i64 0,.int .i64 0,.int .i64 0,.int .i64 0,.int .i64 0]) else #[.int .i64 0,.int .i64 0,.int .i64 0,.int .i64 0,.int .i64 0,.int .i64 0]) (A := fun g_ => ⟨#[.agg #[x,y,z,p,q,r],.agg #[.int .i64 0,t,k],.pointer (some ⟨w.heap.size,0,none⟩),.pointer (some ⟨(w.heap.size + 1),0,none⟩),.bool false,.int .i64 0,ptrV (g_ 9),ptrV (g_ 10),ptrV (g_ 11),.int .i64 0,undef,undef,undef,undef,undef,.bool true,.bool false,.agg #[x,y,z,p,q,r],.agg #[.int .i64 0,t,k],.int .i64 0,.tuple #[.agg #[x,y,z,t,q,r],.agg #[.int .i64 0,.int .i64 0,.int .i64 0,.int .i64 0,.int .i64 0,.int .i64 0],.agg #[.int .i64 (t + k),y,z,p,q,r],.int .i64 0],.agg #[x,y,z,p,q,r],.agg #[.int .i64 0,t,k],.agg #[.int .i64 0,t,k],.tuple #[.agg #[x,y,z,t,q,r],.agg #[.int .i64 0,.int .i64 0,.int .i64 0,.int .i64 0,.int .i64 0,.int .i64 0],.agg #[.int .i64 (t + k),y,z,p,q,r],.int .i64 0],.agg #[x,y,z,t,q,r],.agg #[.int .i64 0,.int .i64 0,.int .i64 0,.int .i64 0,.int .i64 0,.int .i64 0],.agg #[.int .i64 (t + k),y,z,p,q,r],.int .i64 0,undef,undef,undef,undef,undef,undef,undef,undef,undef,undef,undef,undef,undef,undef,undef,undef,undef,undef,undef,undef,undef,undef,undef,undef,undef,undef,undef,undef,undef,undef,undef,undef,undef,undef,undef,undef,undef,undef,undef,undef,undef,undef,undef,undef,undef,undef,undef,undef,undef,undef,undef,undef,undef,undef,undef,undef,undef,undef,undef,undef,undef,undef,undef,undef,undef,undef,undef,undef],[]⟩) 16 rfl rfl (by decide +kernel) (by decide +kernel) ?_ ?_ ?_ ?_ (fun _ h_ => KL.alloc h_ _) ⟨?_,?_,?_,?_,?_,?_,?_,?_,?_,?_,?_,?_,?_,?_,?_,?_,trivial⟩ ?_ ?_
 ·exact KL.drew (KL.over (KL.over (KL.new (g := (w.heap.size + 1)) (KL.new (g := w.heap.size) (KL.nil w) rfl _ _) (by simp) _ _) hb1) hb2)
 ·first | exact Nat.le_refl _ | (simp; done) | (simp <;> omega) | (show _ ≤ World.heap.size _; omega) | omega
 ·intro j_ hj_; simp only [List.mem_cons,List.not_mem_nil,or_false] at hj_; rcases hj_ with rfl | rfl | rfl <;> rfl
 ·intro t_ ht_ j_ hj_ hn_; simp only [List.mem_cons,List.not_mem_nil,or_false] at hj_; rcases hj_ with rfl | rfl | rfl <;> rcases t_ with _ | _ | _ | _ <;> first | rfl | exact absurd rfl hn_ | exact absurd ht_ (by simp)
 ·intro o W hj
  have hj : KL _ _ W := hj
  obtain ⟨cL,c0,c1,c2,c3,c4,c5⟩ := bl6 (KL.blk hj (.tail _ (.head _)))
  show wpOp _ _ _ 0 _ ⟨⟨_::_::_::_::_::_::o 9::o 10::o 11::o 15::_::_::_::_::_::_::_::_::_::_::o 4::o 0::o 1::o 2::o 3::o 5::o 6::o 7::o 8::_⟩,[]⟩ W
  refine wpOp_step rfl fun _ hK => ?_
  go_simp
  exact hK _ _ ⟨rfl,hj,Below.refl _ _⟩
 ·intro o W hj
  have hj : KL _ _ W := hj
  obtain ⟨cL,c0,c1,c2⟩ := bl3 (KL.blk hj (.head _))
  show wpOp _ _ _ 1 _ ⟨⟨_::_::_::_::_::_::o 9::o 10::o 11::o 15::_::_::_::_::_::_::_::_::_::_::o 4::o 0::o 1::o 2::o 3::o 5::o 6::o 7::o 8::_⟩,[]⟩ W
  refine wpOp_step rfl fun _ hK => ?_
  go_simp
  exact hK _ _ ⟨rfl,hj,Below.refl _ _⟩
 ·intro o W hj
  have hj : KL _ _ W := hj
  show wpOp _ _ _ 2 _ ⟨⟨_::_::_::_::_::_::o 9::o 10::o 11::o 15::_::_::_::_::_::_::_::_::_::_::o 4::o 0::.agg #[.int .i64 0,t,k]::o 2::o 3::o 5::o 6::o 7::o 8::_⟩,[]⟩ W
  refine wpOp_step rfl fun _ hK => ?_
  go_simp
  refine (ours_any _ _ _ _).mono ?_
  rintro e W1 ⟨rfl,hb1⟩
  exact hK _ _ ⟨rfl,hj.over hb1,hb1⟩
 ·intro o W hj
  have hj : KL _ _ W := hj
  show wpOp _ _ _ 3 _ ⟨⟨_::_::_::_::_::_::o 9::o 10::o 11::o 15::_::_::_::_::_::_::_::_::_::_::o 4::.agg #[x,y,z,p,q,r]::o 1::.agg #[.int .i64 0,t,k]::o 3::o 5::o 6::o 7::o 8::_⟩,[]⟩ W
  refine wpOp_step rfl fun _ hK => ?_
  go_simp
  refine (hs _).mono ?_
  rintro e W1 ⟨rfl,hb1⟩
  exact hK _ _ ⟨rfl,hj.over hb1,hb1⟩
 ·intro o W _
  show wpOp _ _ _ 4 _ ⟨⟨_::_::_::_::_::_::o 9::o 10::o 11::o 15::_::_::_::_::_::_::_::_::_::_::o 4::o 0::o 1::o 2::.tuple #[.agg #[x,y,z,t,q,r],.agg #[.int .i64 0,.int .i64 0,.int .i64 0,.int .i64 0,.int .i64 0,.int .i64 0],.agg #[.int .i64 (t + k),y,z,p,q,r],.int .i64 0]::o 5::o 6::o 7::o 8::_⟩,[]⟩ W
  refine wpOp_step rfl fun _ hK => ?_
  go_simp
  exact hK _ _ ⟨rfl,rfl⟩
 ·intro o W _
  show wpOp _ _ _ 5 _ ⟨⟨_::_::_::_::_::_::o 9::o 10::o 11::o 15::_::_::_::_::_::_::_::_::_::_::.tuple #[.agg #[x,y,z,t,q,r],.agg #[.int .i64 0,.int .i64 0,.int .i64 0,.int .i64 0,.int .i64 0,.int .i64 0],.agg #[.int .i64 (t + k),y,z,p,q,r],.int .i64 0]::o 0::o 1::o 2::o 3::o 5::o 6::o 7::o 8::_⟩,[]⟩ W
  refine wpOp_step rfl fun _ hK => ?_
  go_simp
  exact hK _ _ ⟨rfl,rfl⟩
 ·intro o W _
  show wpOp _ _ _ 6 _ ⟨⟨_::_::_::_::_::_::o 9::o 10::o 11::o 15::_::_::_::_::_::_::_::_::_::_::.tuple #[.agg #[x,y,z,t,q,r],.agg #[.int .i64 0,.int .i64 0,.int .i64 0,.int .i64 0,.int .i64 0,.int .i64 0],.agg #[.int .i64 (t + k),y,z,p,q,r],.int .i64 0]::o 0::o 1::o 2::o 3::o 5::o 6::o 7::o 8::_⟩,[]⟩ W
  refine wpOp_step rfl fun _ hK => ?_
  go_simp
  exact hK _ _ ⟨rfl,rfl⟩
 ·intro o W _
  show wpOp _ _ _ 7 _ ⟨⟨_::_::_::_::_::_::o 9::o 10::o 11::o 15::_::_::_::_::_::_::_::_::_::_::.tuple #[.agg #[x,y,z,t,q,r],.agg #[.int .i64 0,.int .i64 0,.int .i64 0,.int .i64 0,.int .i64 0,.int .i64 0],.agg #[.int .i64 (t + k),y,z,p,q,r],.int .i64 0]::o 0::o 1::o 2::o 3::o 5::o 6::o 7::o 8::_⟩,[]⟩ W
  refine wpOp_step rfl fun _ hK => ?_
  go_simp
  exact hK _ _ ⟨rfl,rfl⟩
 ·intro o W _
  show wpOp _ _ _ 8 _ ⟨⟨_::_::_::_::_::_::o 9::o 10::o 11::o 15::_::_::_::_::_::_::_::_::_::_::.tuple #[.agg #[x,y,z,t,q,r],.agg #[.int .i64 0,.int .i64 0,.int .i64 0,.int .i64 0,.int .i64 0,.int .i64 0],.agg #[.int .i64 (t + k),y,z,p,q,r],.int .i64 0]::o 0::o 1::o 2::o 3::o 5::o 6::o 7::o 8::_⟩,[]⟩ W
  refine wpOp_step rfl fun _ hK => ?_
  go_simp
  exact hK _ _ ⟨rfl,rfl⟩
 ·intro o W
  show wpOp _ _ _ 9 _ ⟨⟨_::_::_::_::_::_::o 9::o 10::o 11::o 15::_::_::_::_::_::_::_::_::_::_::o 4::o 0::o 1::o 2::o 3::o 5::o 6::o 7::o 8::_⟩,[]⟩ W
  refine wpOp_step rfl fun _ hK => ?_
  go_simp
  exact hK _ _ ⟨rfl,rfl⟩
 ·intro o W
  show wpOp _ _ _ 10 _ ⟨⟨_::_::_::_::_::_::o 9::o 10::o 11::o 15::_::_::_::_::_::_::_::_::_::_::o 4::o 0::o 1::o 2::o 3::o 5::o 6::o 7::o 8::_⟩,[]⟩ W
  refine wpOp_step rfl fun _ hK => ?_
  go_simp
  exact hK _ _ ⟨rfl,rfl⟩
 ·intro o W
  show wpOp _ _ _ 11 _ ⟨⟨_::_::_::_::_::_::o 9::o 10::o 11::o 15::_::_::_::_::_::_::_::_::_::_::o 4::o 0::o 1::o 2::o 3::o 5::o 6::o 7::o 8::_⟩,[]⟩ W
  refine wpOp_step rfl fun _ hK => ?_
  go_simp
  exact hK _ _ ⟨rfl,rfl⟩
 ·intro o W g_ hj hg_ hb_
  have hj : KL _ _ W := hj
  have hb_ : Blk W g_ 25 #[.int .i64 0,.int .i64 0,.int .i64 0,.int .i64 0,.int .i64 0,.int .i64 0] := hb_
  obtain ⟨cL,c0,c1,c2,c3,c4,c5⟩ := bl6 hb_
  have cF := hb_.frozen
  show wpOp _ _ _ 12 _ ⟨⟨_::_::_::_::_::_::.pointer (some ⟨g_,0,none⟩)::o 10::o 11::o 15::_::_::_::_::_::_::_::_::_::_::o 4::o 0::o 1::o 2::o 3::.agg #[x,y,z,t,q,r]::o 6::o 7::o 8::_⟩,[]⟩ W
  refine wpOp_step rfl fun _ hK => ?_
  go_simp
  exact hK _ _ ⟨rfl,st6 hj (by omega) (by simp <;> omega) hb_⟩
 ·intro o W g_ hj hg_ hb_
  have hj : KL _ _ W := hj
  have hb_ : Blk W g_ 25 #[.int .i64 0,.int .i64 0,.int .i64 0,.int .i64 0,.int .i64 0,.int .i64 0] := hb_
  obtain ⟨cL,c0,c1,c2,c3,c4,c5⟩ := bl6 hb_
  have cF := hb_.frozen
  show wpOp _ _ _ 13 _ ⟨⟨_::_::_::_::_::_::o 9::.pointer (some ⟨g_,0,none⟩)::o 11::o 15::_::_::_::_::_::_::_::_::_::_::o 4::o 0::o 1::o 2::o 3::o 5::.agg #[.int .i64 0,.int .i64 0,.int .i64 0,.int .i64 0,.int .i64 0,.int .i64 0]::o 7::o 8::_⟩,[]⟩ W
  refine wpOp_step rfl fun _ hK => ?_
  go_simp
  exact hK _ _ ⟨rfl,st6 hj (by omega) (by simp <;> omega) hb_⟩
 ·intro o W g_ hj hg_ hb_
  have hj : KL _ _ W := hj
  have hb_ : Blk W g_ 25 #[.int .i64 0,.int .i64 0,.int .i64 0,.int .i64 0,.int .i64 0,.int .i64 0] := hb_
  obtain ⟨cL,c0,c1,c2,c3,c4,c5⟩ := bl6 hb_
  have cF := hb_.frozen
  show wpOp _ _ _ 14 _ ⟨⟨_::_::_::_::_::_::o 9::o 10::.pointer (some ⟨g_,0,none⟩)::o 15::_::_::_::_::_::_::_::_::_::_::o 4::o 0::o 1::o 2::o 3::o 5::o 6::.agg #[.int .i64 (t + k),y,z,p,q,r]::o 8::_⟩,[]⟩ W
  refine wpOp_step rfl fun _ hK => ?_
  go_simp
  exact hK _ _ ⟨rfl,st6 hj (by omega) (by simp <;> omega) hb_⟩
 ·intro o W _
  show wpOp _ _ _ 15 _ ⟨⟨_::_::_::_::_::_::o 9::o 10::o 11::o 15::_::_::_::_::_::_::_::_::_::_::o 4::o 0::o 1::o 2::o 3::o 5::o 6::o 7::.int .i64 0::_⟩,[]⟩ W
  refine wpOp_step rfl fun _ hK => ?_
  go_simp
  exact hK _ _ ⟨rfl,rfl⟩
 ·intro o g_ hh_ hp_
  have e0 : o 0 = .agg #[x,y,z,p,q,r] := hh_ 0 (by decide) (by simp)
  have e1 : o 1 = .agg #[.int .i64 0,t,k] := hh_ 1 (by decide) (by simp)
  have e2 : o 2 = .agg #[.int .i64 0,t,k] := hh_ 2 (by decide) (by simp)
  have e3 : o 3 = .tuple #[.agg #[x,y,z,t,q,r],.agg #[.int .i64 0,.int .i64 0,.int .i64 0,.int .i64 0,.int .i64 0,.int .i64 0],.agg #[.int .i64 (t + k),y,z,p,q,r],.int .i64 0] := hh_ 3 (by decide) (by simp)
  have e4 : o 4 = .tuple #[.agg #[x,y,z,t,q,r],.agg #[.int .i64 0,.int .i64 0,.int .i64 0,.int .i64 0,.int .i64 0,.int .i64 0],.agg #[.int .i64 (t + k),y,z,p,q,r],.int .i64 0] := hh_ 4 (by decide) (by simp)
  have e5 : o 5 = .agg #[x,y,z,t,q,r] := hh_ 5 (by decide) (by simp)
  have e6 : o 6 = .agg #[.int .i64 0,.int .i64 0,.int .i64 0,.int .i64 0,.int .i64 0,.int .i64 0] := hh_ 6 (by decide) (by simp)
  have e7 : o 7 = .agg #[.int .i64 (t + k),y,z,p,q,r] := hh_ 7 (by decide) (by simp)
  have e8 : o 8 = .int .i64 0 := hh_ 8 (by decide) (by simp)
  have e9 : o 9 = ptrV (g_ 9) := hp_ 9 (by simp)
  have e10 : o 10 = ptrV (g_ 10) := hp_ 10 (by simp)
  have e11 : o 11 = ptrV (g_ 11) := hp_ 11 (by simp)
  have e15 : o 15 = .int .i64 0 := hh_ 15 (by decide) (by simp)
  rw [e0,e1,e2,e3,e4,e5,e6,e7,e8,e9,e10,e11,e15]
 ·intro W4 g_ h4 ho_ hn_
  have h4 : KL _ _ W4 := h4
  obtain ⟨bg9,Bg9⟩ := ho_ 9 (by simp)
  have Bg9 : Blk W4 (g_ 9) 25 #[x,y,z,t,q,r] := Bg9
  obtain ⟨bg10,Bg10⟩ := ho_ 10 (by simp)
  have Bg10 : Blk W4 (g_ 10) 25 #[.int .i64 0,.int .i64 0,.int .i64 0,.int .i64 0,.int .i64 0,.int .i64 0] := Bg10
  obtain ⟨bg11,Bg11⟩ := ho_ 11 (by simp)
  have Bg11 : Blk W4 (g_ 11) 25 #[.int .i64 (t + k),y,z,p,q,r] := Bg11
  have ng9g10 := hn_ 9 (by simp) 10 (by simp) (by decide)
  have ng9g11 := hn_ 9 (by simp) 11 (by simp) (by decide)
  have ng10g11 := hn_ 10 (by simp) 11 (by simp) (by decide)
  clear ho_ hn_
  dsimp only [ptrV]
  generalize g_ 9 = g9 at *
  generalize g_ 10 = g10 at *
  generalize g_ 11 = g11 at *
  have h4 := KL.cons Bg9 h4
  have h4 := KL.cons Bg10 h4
  have h4 := KL.cons Bg11 h4
  clear Bg9 Bg10 Bg11
  obtain ⟨dL0,d0_0,d0_1,d0_2,d0_3,d0_4,d0_5⟩ := bl6 (KL.blk h4 (.head _))
  have dF0 := (KL.blk h4 (.head _)).frozen
  obtain ⟨dL1,d1_0,d1_1,d1_2,d1_3,d1_4,d1_5⟩ := bl6 (KL.blk h4 (.tail _ (.head _)))
  have dF1 := (KL.blk h4 (.tail _ (.head _))).frozen
  obtain ⟨dL2,d2_0,d2_1,d2_2,d2_3,d2_4,d2_5⟩ := bl6 (KL.blk h4 (.tail _ (.tail _ (.head _))))
  have dF2 := (KL.blk h4 (.tail _ (.tail _ (.head _)))).frozen
  obtain ⟨dL3,d3_0,d3_1,d3_2⟩ := bl3 (KL.blk h4 (.tail _ (.tail _ (.tail _ (.head _)))))
  obtain ⟨dL4,d4_0,d4_1,d4_2,d4_3,d4_4,d4_5⟩ := bl6 (KL.blk h4 (.tail _ (.tail _ (.tail _ (.tail _ (.head _))))))
  have hjb := h4.1
  have hjz := hjb.size
  go_wp2
  refine wp_region_any (by kernel_rfl) ?_
  try (change wpAny _ _ _ _ _ _ _ (World.drew _))
  refine wpAny_vals (fr := fun o => #[.agg #[x,y,z,p,q,r],.agg #[.int .i64 0,t,k],.pointer (some ⟨w.heap.size,0,none⟩),.pointer (some ⟨(w.heap.size + 1),0,none⟩),.bool false,.int .i64 0,.pointer (some ⟨g9,0,none⟩),.pointer (some ⟨g10,0,none⟩),.pointer (some ⟨g11,0,none⟩),.int .i64 0,o 7,o 8,undef,undef,undef,.bool true,.bool false,.agg #[x,y,z,p,q,r],.agg #[.int .i64 0,t,k],.int .i64 0,.tuple #[.agg #[x,y,z,t,q,r],.agg #[.int .i64 0,.int .i64 0,.int .i64 0,.int .i64 0,.int .i64 0,.int .i64 0],.agg #[.int .i64 (t + k),y,z,p,q,r],.int .i64 0],.agg #[x,y,z,p,q,r],.agg #[.int .i64 0,t,k],.agg #[.int .i64 0,t,k],.tuple #[.agg #[x,y,z,t,q,r],.agg #[.int .i64 0,.int .i64 0,.int .i64 0,.int .i64 0,.int .i64 0,.int .i64 0],.agg #[.int .i64 (t + k),y,z,p,q,r],.int .i64 0],.agg #[x,y,z,t,q,r],.agg #[.int .i64 0,.int .i64 0,.int .i64 0,.int .i64 0,.int .i64 0,.int .i64 0],.agg #[.int .i64 (t + k),y,z,p,q,r],.int .i64 0,o 4,o 0,o 1,o 2,o 3,o 5,o 6,undef,undef,undef,undef,undef,undef,undef,undef,undef,undef,undef,undef,undef,undef,undef,undef,undef,undef,undef,undef,undef,undef,undef,undef,undef,undef,undef,undef,undef,undef,undef,undef,undef,undef,undef,undef,undef,undef,undef,undef,undef,undef,undef,undef,undef,undef,undef,undef,undef,undef,undef,undef,undef,undef,undef,undef,undef,undef,undef,undef,undef]) (vals := fun i_ => ([.agg #[x,y,z,p,q,r],.agg #[.int .i64 0,t,k],.agg #[.int .i64 0,t,k],.tuple #[.int .i64 0,.int .i64 0],.tuple #[.int .i64 0,.int .i64 0],.int .i64 0,.int .i64 0,.int .i64 0,.int .i64 0] : List Value).getD i_ undef) (Kf := fun _ => True) (K := fun kk_ => ([(KL [(g11,25,#[.int .i64 (t + k),y,z,p,q,r]),(g10,25,#[.int .i64 0,.int .i64 0,.int .i64 0,.int .i64 0,.int .i64 0,.int .i64 0]),(g9,25,#[x,y,z,t,q,r]),((w.heap.size + 1),27,#[.int .i64 0,t,k]),(w.heap.size,25,#[x,y,z,p,q,r])] w)] : List (World → Prop)).getD kk_ (fun _ => True)) (dep := fun i_ => [[],[],[1],[0,2],[3],[4],[4],[5],[6]].getD i_ []) (dv := fun i_ => [[],[],[1],[0,2],[3],[4],[4],[5],[6]].getD i_ []) (kd := fun i_ => [1,1,1,1,0,0,0,0,0].getD i_ 0) (ss := []) (l := [0,1,2,3,4,5,6,7,8]) (f0 := fun _ => undef) (A := ?A6) 9 rfl rfl (by decide +kernel) (by decide +kernel) ?_ ?_ ⟨?_,?_,?_,?_,?_,?_,?_,?_,?_,trivial⟩ ?_ ?_
  rotate_left
  ·exact KL.drew h4
  ·exact fun _ _ _ _ => trivial
  ·intro o W hj
   have hj : KL _ _ W := hj
   obtain ⟨cL,c0,c1,c2,c3,c4,c5⟩ := bl6 (KL.blk hj (.tail _ (.tail _ (.tail _ (.tail _ (.head _))))))
   show wpOp _ _ _ 0 _ ⟨⟨_::_::_::_::_::_::_::_::_::_::o 7::o 8::_::_::_::_::_::_::_::_::_::_::_::_::_::_::_::_::_::o 4::o 0::o 1::o 2::o 3::o 5::o 6::_⟩,[]⟩ W
   refine wpOp_step rfl fun _ hK => ?_
   go_simp
   exact hK _ _ ⟨rfl,hj⟩
  ·intro o W hj
   have hj : KL _ _ W := hj
   obtain ⟨cL,c0,c1,c2⟩ := bl3 (KL.blk hj (.tail _ (.tail _ (.tail _ (.head _)))))
   show wpOp _ _ _ 1 _ ⟨⟨_::_::_::_::_::_::_::_::_::_::o 7::o 8::_::_::_::_::_::_::_::_::_::_::_::_::_::_::_::_::_::o 4::o 0::o 1::o 2::o 3::o 5::o 6::_⟩,[]⟩ W
   refine wpOp_step rfl fun _ hK => ?_
   go_simp
   exact hK _ _ ⟨rfl,hj⟩
  ·intro o W hj
   have hj : KL _ _ W := hj
   show wpOp _ _ _ 2 _ ⟨⟨_::_::_::_::_::_::_::_::_::_::o 7::o 8::_::_::_::_::_::_::_::_::_::_::_::_::_::_::_::_::_::o 4::o 0::.agg #[.int .i64 0,t,k]::o 2::o 3::o 5::o 6::_⟩,[]⟩ W
   refine wpOp_step rfl fun _ hK => ?_
   go_simp
   refine (ours_any _ _ _ _).mono ?_
   rintro e W1 ⟨rfl,hb1⟩
   exact hK _ _ ⟨rfl,hj.over hb1⟩
  ·intro o W hj
   have hj : KL _ _ W := hj
   show wpOp _ _ _ 3 _ ⟨⟨_::_::_::_::_::_::_::_::_::_::o 7::o 8::_::_::_::_::_::_::_::_::_::_::_::_::_::_::_::_::_::o 4::.agg #[x,y,z,p,q,r]::o 1::.agg #[.int .i64 0,t,k]::o 3::o 5::o 6::_⟩,[]⟩ W
   refine wpOp_step rfl fun _ hK => ?_
   go_simp
   refine (hl _).mono ?_
   rintro e W1 ⟨rfl,hb1⟩
   exact hK _ _ ⟨rfl,hj.over hb1⟩
  ·intro o W _
   show wpOp _ _ _ 4 _ ⟨⟨_::_::_::_::_::_::_::_::_::_::o 7::o 8::_::_::_::_::_::_::_::_::_::_::_::_::_::_::_::_::_::o 4::o 0::o 1::o 2::.tuple #[.int .i64 0,.int .i64 0]::o 5::o 6::_⟩,[]⟩ W
   refine wpOp_step rfl fun _ hK => ?_
   go_simp
   exact hK _ _ ⟨rfl,rfl⟩
  ·intro o W _
   show wpOp _ _ _ 5 _ ⟨⟨_::_::_::_::_::_::_::_::_::_::o 7::o 8::_::_::_::_::_::_::_::_::_::_::_::_::_::_::_::_::_::.tuple #[.int .i64 0,.int .i64 0]::o 0::o 1::o 2::o 3::o 5::o 6::_⟩,[]⟩ W
   refine wpOp_step rfl fun _ hK => ?_
   go_simp
   exact hK _ _ ⟨rfl,rfl⟩
  ·intro o W _
   show wpOp _ _ _ 6 _ ⟨⟨_::_::_::_::_::_::_::_::_::_::o 7::o 8::_::_::_::_::_::_::_::_::_::_::_::_::_::_::_::_::_::.tuple #[.int .i64 0,.int .i64 0]::o 0::o 1::o 2::o 3::o 5::o 6::_⟩,[]⟩ W
   refine wpOp_step rfl fun _ hK => ?_
   go_simp
   exact hK _ _ ⟨rfl,rfl⟩
  ·intro o W _
   show wpOp _ _ _ 7 _ ⟨⟨_::_::_::_::_::_::_::_::_::_::o 7::o 8::_::_::_::_::_::_::_::_::_::_::_::_::_::_::_::_::_::o 4::o 0::o 1::o 2::o 3::.int .i64 0::o 6::_⟩,[]⟩ W
   refine wpOp_step rfl fun _ hK => ?_
   go_simp
   exact hK _ _ ⟨rfl,rfl⟩
  ·intro o W _
   show wpOp _ _ _ 8 _ ⟨⟨_::_::_::_::_::_::_::_::_::_::o 7::o 8::_::_::_::_::_::_::_::_::_::_::_::_::_::_::_::_::_::o 4::o 0::o 1::o 2::o 3::o 5::.int .i64 0::_⟩,[]⟩ W
   refine wpOp_step rfl fun _ hK => ?_
   go_simp
   exact hK _ _ ⟨rfl,rfl⟩
  ·intro o hh_
   have e0 : o 0 = .agg #[x,y,z,p,q,r] := hh_ 0 (by decide)
   have e1 : o 1 = .agg #[.int .i64 0,t,k] := hh_ 1 (by decide)
   have e2 : o 2 = .agg #[.int .i64 0,t,k] := hh_ 2 (by decide)
   have e3 : o 3 = .tuple #[.int .i64 0,.int .i64 0] := hh_ 3 (by decide)
   have e4 : o 4 = .tuple #[.int .i64 0,.int .i64 0] := hh_ 4 (by decide)
   have e5 : o 5 = .int .i64 0 := hh_ 5 (by decide)
   have e6 : o 6 = .int .i64 0 := hh_ 6 (by decide)
   have e7 : o 7 = .int .i64 0 := hh_ 7 (by decide)
   have e8 : o 8 = .int .i64 0 := hh_ 8 (by decide)
   rw [e0,e1,e2,e3,e4,e5,e6,e7,e8]
  ·intro W5 h5
   have h5 : KL _ _ W5 := h5
   obtain ⟨eL0,e0_0,e0_1,e0_2,e0_3,e0_4,e0_5⟩ := bl6 (KL.blk h5 (.head _))
   have eF0 := (KL.blk h5 (.head _)).frozen
   obtain ⟨eL1,e1_0,e1_1,e1_2,e1_3,e1_4,e1_5⟩ := bl6 (KL.blk h5 (.tail _ (.head _)))
   have eF1 := (KL.blk h5 (.tail _ (.head _))).frozen
   obtain ⟨eL2,e2_0,e2_1,e2_2,e2_3,e2_4,e2_5⟩ := bl6 (KL.blk h5 (.tail _ (.tail _ (.head _))))
   have eF2 := (KL.blk h5 (.tail _ (.tail _ (.head _)))).frozen
   obtain ⟨eL3,e3_0,e3_1,e3_2⟩ := bl3 (KL.blk h5 (.tail _ (.tail _ (.tail _ (.head _)))))
   obtain ⟨eL4,e4_0,e4_1,e4_2,e4_3,e4_4,e4_5⟩ := bl6 (KL.blk h5 (.tail _ (.tail _ (.tail _ (.tail _ (.head _))))))
   have hjb := h5.1
   have hjz := hjb.size
   go_wp2
   refine wp_region_any (by kernel_rfl) ?_
   try (change wpAny _ _ _ _ _ _ _ (World.drew _))
   refine wpAny_vals (fr := fun o => #[.agg #[x,y,z,p,q,r],.agg #[.int .i64 0,t,k],.pointer (some ⟨w.heap.size,0,none⟩),.pointer (some ⟨(w.heap.size + 1),0,none⟩),.bool false,.int .i64 0,.pointer (some ⟨g9,0,none⟩),.pointer (some ⟨g10,0,none⟩),.pointer (some ⟨g11,0,none⟩),.int .i64 0,.int .i64 0,.int .i64 0,undef,undef,undef,.bool true,.bool false,.agg #[x,y,z,p,q,r],.agg #[.int .i64 0,t,k],.int .i64 0,.tuple #[.agg #[x,y,z,t,q,r],.agg #[.int .i64 0,.int .i64 0,.int .i64 0,.int .i64 0,.int .i64 0,.int .i64 0],.agg #[.int .i64 (t + k),y,z,p,q,r],.int .i64 0],.agg #[x,y,z,p,q,r],.agg #[.int .i64 0,t,k],.agg #[.int .i64 0,t,k],.tuple #[.agg #[x,y,z,t,q,r],.agg #[.int .i64 0,.int .i64 0,.int .i64 0,.int .i64 0,.int .i64 0,.int .i64 0],.agg #[.int .i64 (t + k),y,z,p,q,r],.int .i64 0],.agg #[x,y,z,t,q,r],.agg #[.int .i64 0,.int .i64 0,.int .i64 0,.int .i64 0,.int .i64 0,.int .i64 0],.agg #[.int .i64 (t + k),y,z,p,q,r],.int .i64 0,.tuple #[.int .i64 0,.int .i64 0],.agg #[x,y,z,p,q,r],.agg #[.int .i64 0,t,k],.agg #[.int .i64 0,t,k],.tuple #[.int .i64 0,.int .i64 0],.int .i64 0,.int .i64 0,o 0,o 1,o 2,o 3,o 4,o 5,o 6,o 7,o 8,o 9,o 10,o 11,o 12,o 13,o 14,o 15,undef,undef,undef,undef,undef,undef,undef,undef,undef,undef,undef,undef,undef,undef,undef,undef,undef,undef,undef,undef,undef,undef,undef,undef,undef,undef,undef,undef,undef,undef,undef,undef,undef,undef,undef,undef,undef,undef,undef,undef,undef,undef,undef,undef,undef]) (vals := fun i_ => ([.agg #[x,y,z,p,q,r],.agg #[.int .i64 0,t,k],.agg #[.int .i64 0,t,k],.int .i64 0,.int .i64 0,.bool false,.bool false,.int .i64 0,.int .i64 0,.bool false,.bool false,.bool false,.int .i64 0,.int .i64 0,.bool false,.bool false] : List Value).getD i_ undef) (Kf := fun _ => True) (K := fun kk_ => ([(KL [(g11,25,#[.int .i64 (t + k),y,z,p,q,r]),(g10,25,#[.int .i64 0,.int .i64 0,.int .i64 0,.int .i64 0,.int .i64 0,.int .i64 0]),(g9,25,#[x,y,z,t,q,r]),((w.heap.size + 1),27,#[.int .i64 0,t,k]),(w.heap.size,25,#[x,y,z,p,q,r])] w)] : List (World → Prop)).getD kk_ (fun _ => True)) (dep := fun i_ => [[],[],[1],[0,2],[],[3,4],[5],[6],[6],[6,7,8],[6,9],[10],[11],[11],[11,12,13],[11,14]].getD i_ []) (dv := fun i_ => [[],[],[1],[0,2],[],[3,4],[5],[6],[6],[6,7,8],[6,9],[10],[11],[11],[11,12,13],[11,14]].getD i_ []) (kd := fun i_ => [1,1,1,1,0,0,0,0,0,0,0,0,0,0,0,0].getD i_ 0) (ss := []) (l := [0,1,2,3,4,5,6,7,8,9,10,11,12,13,14,15]) (f0 := fun _ => undef) (A := ?A5) 16 rfl rfl (by decide +kernel) (by decide +kernel) ?_ ?_ ⟨?_,?_,?_,?_,?_,?_,?_,?_,?_,?_,?_,?_,?_,?_,?_,?_,trivial⟩ ?_ ?_
   rotate_left
   ·exact KL.drew h5
   ·exact fun _ _ _ _ => trivial
   ·intro o W hj
    have hj : KL _ _ W := hj
    obtain ⟨cL,c0,c1,c2,c3,c4,c5⟩ := bl6 (KL.blk hj (.tail _ (.tail _ (.tail _ (.tail _ (.head _))))))
    show wpOp _ _ _ 0 _ ⟨⟨_::_::_::_::_::_::_::_::_::_::_::_::_::_::_::_::_::_::_::_::_::_::_::_::_::_::_::_::_::_::_::_::_::_::_::_::o 0::o 1::o 2::o 3::o 4::o 5::o 6::o 7::o 8::o 9::o 10::o 11::o 12::o 13::o 14::o 15::_⟩,[]⟩ W
    refine wpOp_step rfl fun _ hK => ?_
    go_simp
    exact hK _ _ ⟨rfl,hj⟩
   ·intro o W hj
    have hj : KL _ _ W := hj
    obtain ⟨cL,c0,c1,c2⟩ := bl3 (KL.blk hj (.tail _ (.tail _ (.tail _ (.head _)))))
    show wpOp _ _ _ 1 _ ⟨⟨_::_::_::_::_::_::_::_::_::_::_::_::_::_::_::_::_::_::_::_::_::_::_::_::_::_::_::_::_::_::_::_::_::_::_::_::o 0::o 1::o 2::o 3::o 4::o 5::o 6::o 7::o 8::o 9::o 10::o 11::o 12::o 13::o 14::o 15::_⟩,[]⟩ W
    refine wpOp_step rfl fun _ hK => ?_
    go_simp
    exact hK _ _ ⟨rfl,hj⟩
   ·intro o W hj
    have hj : KL _ _ W := hj
    show wpOp _ _ _ 2 _ ⟨⟨_::_::_::_::_::_::_::_::_::_::_::_::_::_::_::_::_::_::_::_::_::_::_::_::_::_::_::_::_::_::_::_::_::_::_::_::o 0::.agg #[.int .i64 0,t,k]::o 2::o 3::o 4::o 5::o 6::o 7::o 8::o 9::o 10::o 11::o 12::o 13::o 14::o 15::_⟩,[]⟩ W
    refine wpOp_step rfl fun _ hK => ?_
    go_simp
    refine (ours_any _ _ _ _).mono ?_
    rintro e W1 ⟨rfl,hb1⟩
    exact hK _ _ ⟨rfl,hj.over hb1⟩
   ·intro o W hj
    have hj : KL _ _ W := hj
    show wpOp _ _ _ 3 _ ⟨⟨_::_::_::_::_::_::_::_::_::_::_::_::_::_::_::_::_::_::_::_::_::_::_::_::_::_::_::_::_::_::_::_::_::_::_::_::.agg #[x,y,z,p,q,r]::o 1::.agg #[.int .i64 0,t,k]::o 3::o 4::o 5::o 6::o 7::o 8::o 9::o 10::o 11::o 12::o 13::o 14::o 15::_⟩,[]⟩ W
    refine wpOp_step rfl fun _ hK => ?_
    go_simp
    refine (hck _).mono ?_
    rintro e W1 ⟨rfl,hb1⟩
    exact hK _ _ ⟨rfl,hj.over hb1⟩
   ·intro o W _
    show wpOp _ _ _ 4 _ ⟨⟨_::_::_::_::_::_::_::_::_::_::_::_::_::_::_::_::_::_::_::_::_::_::_::_::_::_::_::_::_::_::_::_::_::_::_::_::o 0::o 1::o 2::o 3::o 4::o 5::o 6::o 7::o 8::o 9::o 10::o 11::o 12::o 13::o 14::o 15::_⟩,[]⟩ W
    refine wpOp_step rfl fun _ hK => ?_
    go_simp
    exact hK _ _ ⟨rfl,rfl⟩
   ·intro o W _
    show wpOp _ _ _ 5 _ ⟨⟨_::_::_::_::_::_::_::_::_::_::_::_::_::_::_::_::_::_::_::_::_::_::_::_::_::_::_::_::_::_::_::_::_::_::_::_::o 0::o 1::o 2::.int .i64 0::.int .i64 0::o 5::o 6::o 7::o 8::o 9::o 10::o 11::o 12::o 13::o 14::o 15::_⟩,[]⟩ W
    refine wpOp_step rfl fun _ hK => ?_
    go_simp
    exact hK _ _ ⟨rfl,rfl⟩
   ·intro o W _
    show wpOp _ _ _ 6 _ ⟨⟨_::_::_::_::_::_::_::_::_::_::_::_::_::_::_::_::_::_::_::_::_::_::_::_::_::_::_::_::_::_::_::_::_::_::_::_::o 0::o 1::o 2::o 3::o 4::.bool false::o 6::o 7::o 8::o 9::o 10::o 11::o 12::o 13::o 14::o 15::_⟩,[]⟩ W
    refine wpOp_step rfl fun _ hK => ?_
    go_simp
    exact hK _ _ ⟨rfl,rfl⟩
   ·intro o W _
    show wpOp _ _ _ 7 _ ⟨⟨_::_::_::_::_::_::_::_::_::_::_::_::_::_::_::_::_::_::_::_::_::_::_::_::_::_::_::_::_::_::_::_::_::_::_::_::o 0::o 1::o 2::o 3::o 4::o 5::.bool false::o 7::o 8::o 9::o 10::o 11::o 12::o 13::o 14::o 15::_⟩,[]⟩ W
    refine wpOp_step rfl fun _ hK => ?_
    go_simp
    exact hK _ _ ⟨rfl,rfl⟩
   ·intro o W _
    show wpOp _ _ _ 8 _ ⟨⟨_::_::_::_::_::_::_::_::_::_::_::_::_::_::_::_::_::_::_::_::_::_::_::_::_::_::_::_::_::_::_::_::_::_::_::_::o 0::o 1::o 2::o 3::o 4::o 5::.bool false::o 7::o 8::o 9::o 10::o 11::o 12::o 13::o 14::o 15::_⟩,[]⟩ W
    refine wpOp_step rfl fun _ hK => ?_
    go_simp
    exact hK _ _ ⟨rfl,rfl⟩
   ·intro o W _
    show wpOp _ _ _ 9 _ ⟨⟨_::_::_::_::_::_::_::_::_::_::_::_::_::_::_::_::_::_::_::_::_::_::_::_::_::_::_::_::_::_::_::_::_::_::_::_::o 0::o 1::o 2::o 3::o 4::o 5::.bool false::.int .i64 0::.int .i64 0::o 9::o 10::o 11::o 12::o 13::o 14::o 15::_⟩,[]⟩ W
    refine wpOp_step rfl fun _ hK => ?_
    go_simp
    exact hK _ _ ⟨rfl,rfl⟩
   ·intro o W _
    show wpOp _ _ _ 10 _ ⟨⟨_::_::_::_::_::_::_::_::_::_::_::_::_::_::_::_::_::_::_::_::_::_::_::_::_::_::_::_::_::_::_::_::_::_::_::_::o 0::o 1::o 2::o 3::o 4::o 5::.bool false::o 7::o 8::.bool false::o 10::o 11::o 12::o 13::o 14::o 15::_⟩,[]⟩ W
    refine wpOp_step rfl fun _ hK => ?_
    go_simp
    exact hK _ _ ⟨rfl,rfl⟩
   ·intro o W _
    show wpOp _ _ _ 11 _ ⟨⟨_::_::_::_::_::_::_::_::_::_::_::_::_::_::_::_::_::_::_::_::_::_::_::_::_::_::_::_::_::_::_::_::_::_::_::_::o 0::o 1::o 2::o 3::o 4::o 5::o 6::o 7::o 8::o 9::.bool false::o 11::o 12::o 13::o 14::o 15::_⟩,[]⟩ W
    refine wpOp_step rfl fun _ hK => ?_
    go_simp
    exact hK _ _ ⟨rfl,rfl⟩
   ·intro o W _
    show wpOp _ _ _ 12 _ ⟨⟨_::_::_::_::_::_::_::_::_::_::_::_::_::_::_::_::_::_::_::_::_::_::_::_::_::_::_::_::_::_::_::_::_::_::_::_::o 0::o 1::o 2::o 3::o 4::o 5::o 6::o 7::o 8::o 9::o 10::.bool false::o 12::o 13::o 14::o 15::_⟩,[]⟩ W
    refine wpOp_step rfl fun _ hK => ?_
    go_simp
    exact hK _ _ ⟨rfl,rfl⟩
   ·intro o W _
    show wpOp _ _ _ 13 _ ⟨⟨_::_::_::_::_::_::_::_::_::_::_::_::_::_::_::_::_::_::_::_::_::_::_::_::_::_::_::_::_::_::_::_::_::_::_::_::o 0::o 1::o 2::o 3::o 4::o 5::o 6::o 7::o 8::o 9::o 10::.bool false::o 12::o 13::o 14::o 15::_⟩,[]⟩ W
    refine wpOp_step rfl fun _ hK => ?_
    go_simp
    exact hK _ _ ⟨rfl,rfl⟩
   ·intro o W _
    show wpOp _ _ _ 14 _ ⟨⟨_::_::_::_::_::_::_::_::_::_::_::_::_::_::_::_::_::_::_::_::_::_::_::_::_::_::_::_::_::_::_::_::_::_::_::_::o 0::o 1::o 2::o 3::o 4::o 5::o 6::o 7::o 8::o 9::o 10::.bool false::.int .i64 0::.int .i64 0::o 14::o 15::_⟩,[]⟩ W
    refine wpOp_step rfl fun _ hK => ?_
    go_simp
    exact hK _ _ ⟨rfl,rfl⟩
   ·intro o W _
    show wpOp _ _ _ 15 _ ⟨⟨_::_::_::_::_::_::_::_::_::_::_::_::_::_::_::_::_::_::_::_::_::_::_::_::_::_::_::_::_::_::_::_::_::_::_::_::o 0::o 1::o 2::o 3::o 4::o 5::o 6::o 7::o 8::o 9::o 10::.bool false::o 12::o 13::.bool false::o 15::_⟩,[]⟩ W
    refine wpOp_step rfl fun _ hK => ?_
    go_simp
    exact hK _ _ ⟨rfl,rfl⟩
   ·intro o hh_
    have e0 : o 0 = .agg #[x,y,z,p,q,r] := hh_ 0 (by decide)
    have e1 : o 1 = .agg #[.int .i64 0,t,k] := hh_ 1 (by decide)
    have e2 : o 2 = .agg #[.int .i64 0,t,k] := hh_ 2 (by decide)
    have e3 : o 3 = .int .i64 0 := hh_ 3 (by decide)
    have e4 : o 4 = .int .i64 0 := hh_ 4 (by decide)
    have e5 : o 5 = .bool false := hh_ 5 (by decide)
    have e6 : o 6 = .bool false := hh_ 6 (by decide)
    have e7 : o 7 = .int .i64 0 := hh_ 7 (by decide)
    have e8 : o 8 = .int .i64 0 := hh_ 8 (by decide)
    have e9 : o 9 = .bool false := hh_ 9 (by decide)
    have e10 : o 10 = .bool false := hh_ 10 (by decide)
    have e11 : o 11 = .bool false := hh_ 11 (by decide)
    have e12 : o 12 = .int .i64 0 := hh_ 12 (by decide)
    have e13 : o 13 = .int .i64 0 := hh_ 13 (by decide)
    have e14 : o 14 = .bool false := hh_ 14 (by decide)
    have e15 : o 15 = .bool false := hh_ 15 (by decide)
    rw [e0,e1,e2,e3,e4,e5,e6,e7,e8,e9,e10,e11,e12,e13,e14,e15]
   ·intro W6 h6
    have h6 : KL _ _ W6 := h6
    obtain ⟨fL0,f0_0,f0_1,f0_2,f0_3,f0_4,f0_5⟩ := bl6 (KL.blk h6 (.head _))
    have fF0 := (KL.blk h6 (.head _)).frozen
    obtain ⟨fL1,f1_0,f1_1,f1_2,f1_3,f1_4,f1_5⟩ := bl6 (KL.blk h6 (.tail _ (.head _)))
    have fF1 := (KL.blk h6 (.tail _ (.head _))).frozen
    obtain ⟨fL2,f2_0,f2_1,f2_2,f2_3,f2_4,f2_5⟩ := bl6 (KL.blk h6 (.tail _ (.tail _ (.head _))))
    have fF2 := (KL.blk h6 (.tail _ (.tail _ (.head _)))).frozen
    obtain ⟨fL3,f3_0,f3_1,f3_2⟩ := bl3 (KL.blk h6 (.tail _ (.tail _ (.tail _ (.head _)))))
    obtain ⟨fL4,f4_0,f4_1,f4_2,f4_3,f4_4,f4_5⟩ := bl6 (KL.blk h6 (.tail _ (.tail _ (.tail _ (.tail _ (.head _))))))
    have hjb := h6.1
    have hjz := hjb.size
    go_wp2_with (first | (go_at_call 18; refine (hr _).mono ?_; rintro e w7 ⟨rfl,hb7⟩; obtain ⟨hc7,hf7⟩ := bcell hb7; have hz7 := hb7.size; have p7a0 : g9 < w7.heap.size := (by omega); have p7a1 : g9 < w7.heap.size + 1 := (by omega); have p7a2 : g9 < w7.heap.size + 1 + 1 := (by omega); have p7b0 : g10 < w7.heap.size := (by omega); have p7b1 : g10 < w7.heap.size + 1 := (by omega); have p7b2 : g10 < w7.heap.size + 1 + 1 := (by omega); have p7c0 : g11 < w7.heap.size := (by omega); have p7c1 : g11 < w7.heap.size + 1 := (by omega); have p7c2 : g11 < w7.heap.size + 1 + 1 := (by omega)) | (go_at_call 19; refine (hv9 _).mono ?_; rintro e w8 ⟨rfl,hb8⟩; have hz8 := hb8.size; (try simp at hz8)))
    go_ret
    refine ⟨rfl,?_⟩
    repeat (first | with_reducible exact Below.refl _ _ | with_reducible refine Below.setCell ?_ ?_ _ | with_reducible refine Below.alloc ?_ ?_ _ | with_reducible refine Below.drew ?_ | with_reducible refine below_drewN ?_ _ | (refine Below.trans ?_ (bmono (by assumption) ?_)))
    all_goals (first | omega | (simp <;> omega))
end Go.Proofs.Ytogmgaaejepcbaa
