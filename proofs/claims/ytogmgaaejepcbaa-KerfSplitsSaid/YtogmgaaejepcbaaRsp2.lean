/- The walk of the reference's Split,one axis. -/
import Derived.Test.YtogmgaaejepcbaaCor
import Derived.Test.YtogmgaaejepcbaaSpl
import Derived.Test.YtogmgaaejepcbaaRgb
namespace Go.Proofs.Ytogmgaaejepcbaa
open Go.RowKit

set_option maxHeartbeats 16000000 in
set_option maxRecDepth 100000 in
theorem rSplit2z (x y z p q r t k : Int) (hv : eB x y z p q r = 0) (ho : okI z r t k = 0) (hkp : k = 0) (w : World) :
  Calls Try.prog 18 #[.agg #[x,y,z,p,q,r],.agg #[.int .i64 2,t,k]] w fun e w' => e = .returned (.tuple #[.agg #[x,y,z,p,q,t],.agg #[.int .i64 0,.int .i64 0,.int .i64 0,.int .i64 0,.int .i64 0,.int .i64 0],.agg #[x,y,.int .i64 (t + k),p,q,r]]) ∧ Below w.heap.size w w' := by
 obtain ⟨⟨a1,a2,a3⟩,⟨a4,a5,a6⟩,⟨a7,a8,a9⟩⟩ := eB_bd hv
 obtain ⟨b1,b2,b3⟩ := okI_z ho
 obtain ⟨b4,b5⟩ := rgB_iff.1 b1
 clear hv ho b1
 have hw : IntKind.i64.wrap (t + k) = t + k := IntWalk.i64_in _ (by omega)
 have d1 : (k == 0) = true := by simpa using hkp
 clear hkp
 go_enter Try.func18,Try.ntmps18
 go_wp2
 refine wp_region_any (by kernel_rfl) ?_
 try (change wpAny _ _ _ _ _ _ _ (World.drew _))
 refine wpAny_alloc (fr := fun o => #[.agg #[x,y,z,p,q,r],.agg #[.int .i64 2,t,k],.pointer (some ⟨w.heap.size,0,none⟩),.pointer (some ⟨(w.heap.size + 1),0,none⟩),.pointer (some ⟨(w.heap.size + 1 + 1),0,none⟩),.pointer (some ⟨(w.heap.size + 1 + 1 + 1),0,none⟩),.pointer (some ⟨(w.heap.size + 1 + 1 + 1 + 1),0,none⟩),o 3,o 4,o 5,o 0,o 1,o 2,undef,undef,undef,undef,undef,undef,undef,undef,undef,undef,undef,undef,undef,undef,undef,undef,undef,undef,undef,undef,undef,undef,undef,undef,undef,undef,undef,undef,undef,undef,undef,undef,undef,undef,undef,undef,undef,undef,undef,undef,undef,undef,undef,undef,undef]) (vals := fun i_ => ([.agg #[x,y,z,p,q,r],.agg #[x,y,z,p,q,r],.agg #[x,y,z,p,q,r],undef,undef,undef,undef,undef,undef] : List Value).getD i_ undef) (K := fun W_ => KL [((w.heap.size + 1 + 1 + 1 + 1),25,#[.int .i64 0,.int .i64 0,.int .i64 0,.int .i64 0,.int .i64 0,.int .i64 0]),((w.heap.size + 1 + 1 + 1),25,#[.int .i64 0,.int .i64 0,.int .i64 0,.int .i64 0,.int .i64 0,.int .i64 0]),((w.heap.size + 1 + 1),25,#[.int .i64 0,.int .i64 0,.int .i64 0,.int .i64 0,.int .i64 0,.int .i64 0]),((w.heap.size + 1),27,#[.int .i64 2,t,k]),(w.heap.size,25,#[x,y,z,p,q,r])] w W_) (dep := fun i_ => [[],[],[],[],[],[],[0,3,4,5],[0,1,3,4,5,6],[0,1,2,3,4,5,6,7]].getD i_ []) (dv := fun i_ => [[],[],[],[],[],[],[0],[1],[2]].getD i_ []) (kd := fun i_ => [1,1,1,2,2,2,3,4,5].getD i_ 0) (sa := fun i_ => [3,4,5].getD i_ 0) (ss := [6,7,8]) (al := [3,4,5]) (l := [0,1,2,3,4,5,6,7,8]) (f0 := fun i_ => ([undef,undef,undef,undef,undef,undef,undef,undef,undef] : List Value).getD i_ undef) (B := w.heap.size + 1 + 1 + 1 + 1 + 1) (T := 25) (z := #[.int .i64 0,.int .i64 0,.int .i64 0,.int .i64 0,.int .i64 0,.int .i64 0]) (cont := fun t_ j_ => if j_ = 3 then (if 0 < t_ then #[x,y,z,p,q,r] else #[.int .i64 0,.int .i64 0,.int .i64 0,.int .i64 0,.int .i64 0,.int .i64 0]) else if j_ = 4 then (if 1 < t_ then #[x,y,z,p,q,r] else #[.int .i64 0,.int .i64 0,.int .i64 0,.int .i64 0,.int .i64 0,.int .i64 0]) else if j_ = 5 then (if 2 < t_ then #[x,y,z,p,q,r] else #[.int .i64 0,.int .i64 0,.int .i64 0,.int .i64 0,.int .i64 0,.int .i64 0]) else #[.int .i64 0,.int .i64 0,.int .i64 0,.int .i64 0,.int .i64 0,.int .i64 0]) (A := fun g_ => ⟨#[.agg #[x,y,z,p,q,r],.agg #[.int .i64 2,t,k],.pointer (some ⟨w.heap.size,0,none⟩),.pointer (some ⟨(w.heap.size + 1),0,none⟩),.pointer (some ⟨(w.heap.size + 1 + 1),0,none⟩),.pointer (some ⟨(w.heap.size + 1 + 1 + 1),0,none⟩),.pointer (some ⟨(w.heap.size + 1 + 1 + 1 + 1),0,none⟩),ptrV (g_ 3),ptrV (g_ 4),ptrV (g_ 5),.agg #[x,y,z,p,q,r],.agg #[x,y,z,p,q,r],.agg #[x,y,z,p,q,r],undef,undef,undef,undef,undef,undef,undef,undef,undef,undef,undef,undef,undef,undef,undef,undef,undef,undef,undef,undef,undef,undef,undef,undef,undef,undef,undef,undef,undef,undef,undef,undef,undef,undef,undef,undef,undef,undef,undef,undef,undef,undef,undef,undef,undef],[]⟩) 9 rfl rfl (by decide +kernel) (by decide +kernel) ?_ ?_ ?_ ?_ (fun _ h_ => KL.alloc h_ _) ⟨?_,?_,?_,?_,?_,?_,?_,?_,?_,trivial⟩ ?_ ?_
 ·exact KL.drew (KL.new (g := (w.heap.size + 1 + 1 + 1 + 1)) (KL.new (g := (w.heap.size + 1 + 1 + 1)) (KL.new (g := (w.heap.size + 1 + 1)) (KL.new (g := (w.heap.size + 1)) (KL.new (g := w.heap.size) (KL.nil w) rfl _ _) (by simp) _ _) (by simp) _ _) (by simp) _ _) (by simp) _ _)
 ·first | exact Nat.le_refl _ | (simp; done) | (simp <;> omega)
 ·intro j_ hj_; simp only [List.mem_cons,List.not_mem_nil,or_false] at hj_; rcases hj_ with rfl | rfl | rfl <;> rfl
 ·intro t_ ht_ j_ hj_ hn_; simp only [List.mem_cons,List.not_mem_nil,or_false] at hj_; rcases hj_ with rfl | rfl | rfl <;> rcases t_ with _ | _ | _ | _ <;> first | rfl | exact absurd rfl hn_ | exact absurd ht_ (by simp)
 ·intro o W hj
  have hj : KL _ _ W := hj
  obtain ⟨cL,c0,c1,c2,c3,c4,c5⟩ := bl6 (KL.blk hj (.tail _ (.tail _ (.tail _ (.tail _ (.head _))))))
  show wpOp _ _ _ 0 _ ⟨⟨_::_::_::_::_::_::_::o 3::o 4::o 5::o 0::o 1::o 2::_⟩,[]⟩ W
  refine wpOp_step rfl fun _ hK => ?_
  go_simp
  exact hK _ _ ⟨rfl,hj,Below.refl _ _⟩
 ·intro o W hj
  have hj : KL _ _ W := hj
  obtain ⟨cL,c0,c1,c2,c3,c4,c5⟩ := bl6 (KL.blk hj (.tail _ (.tail _ (.tail _ (.tail _ (.head _))))))
  show wpOp _ _ _ 1 _ ⟨⟨_::_::_::_::_::_::_::o 3::o 4::o 5::o 0::o 1::o 2::_⟩,[]⟩ W
  refine wpOp_step rfl fun _ hK => ?_
  go_simp
  exact hK _ _ ⟨rfl,hj,Below.refl _ _⟩
 ·intro o W hj
  have hj : KL _ _ W := hj
  obtain ⟨cL,c0,c1,c2,c3,c4,c5⟩ := bl6 (KL.blk hj (.tail _ (.tail _ (.tail _ (.tail _ (.head _))))))
  show wpOp _ _ _ 2 _ ⟨⟨_::_::_::_::_::_::_::o 3::o 4::o 5::o 0::o 1::o 2::_⟩,[]⟩ W
  refine wpOp_step rfl fun _ hK => ?_
  go_simp
  exact hK _ _ ⟨rfl,hj,Below.refl _ _⟩
 ·intro o W
  show wpOp _ _ _ 3 _ ⟨⟨_::_::_::_::_::_::_::o 3::o 4::o 5::o 0::o 1::o 2::_⟩,[]⟩ W
  refine wpOp_step rfl fun _ hK => ?_
  go_simp
  exact hK _ _ ⟨rfl,rfl⟩
 ·intro o W
  show wpOp _ _ _ 4 _ ⟨⟨_::_::_::_::_::_::_::o 3::o 4::o 5::o 0::o 1::o 2::_⟩,[]⟩ W
  refine wpOp_step rfl fun _ hK => ?_
  go_simp
  exact hK _ _ ⟨rfl,rfl⟩
 ·intro o W
  show wpOp _ _ _ 5 _ ⟨⟨_::_::_::_::_::_::_::o 3::o 4::o 5::o 0::o 1::o 2::_⟩,[]⟩ W
  refine wpOp_step rfl fun _ hK => ?_
  go_simp
  exact hK _ _ ⟨rfl,rfl⟩
 ·intro o W g_ hj hg_ hb_
  have hj : KL _ _ W := hj
  have hb_ : Blk W g_ 25 #[.int .i64 0,.int .i64 0,.int .i64 0,.int .i64 0,.int .i64 0,.int .i64 0] := hb_
  obtain ⟨cL,c0,c1,c2,c3,c4,c5⟩ := bl6 hb_
  have cF := hb_.frozen
  show wpOp _ _ _ 6 _ ⟨⟨_::_::_::_::_::_::_::.pointer (some ⟨g_,0,none⟩)::o 4::o 5::.agg #[x,y,z,p,q,r]::o 1::o 2::_⟩,[]⟩ W
  refine wpOp_step rfl fun _ hK => ?_
  go_simp
  exact hK _ _ ⟨rfl,st6 hj (by omega) (by simp <;> omega) hb_⟩
 ·intro o W g_ hj hg_ hb_
  have hj : KL _ _ W := hj
  have hb_ : Blk W g_ 25 #[.int .i64 0,.int .i64 0,.int .i64 0,.int .i64 0,.int .i64 0,.int .i64 0] := hb_
  obtain ⟨cL,c0,c1,c2,c3,c4,c5⟩ := bl6 hb_
  have cF := hb_.frozen
  show wpOp _ _ _ 7 _ ⟨⟨_::_::_::_::_::_::_::o 3::.pointer (some ⟨g_,0,none⟩)::o 5::o 0::.agg #[x,y,z,p,q,r]::o 2::_⟩,[]⟩ W
  refine wpOp_step rfl fun _ hK => ?_
  go_simp
  exact hK _ _ ⟨rfl,st6 hj (by omega) (by simp <;> omega) hb_⟩
 ·intro o W g_ hj hg_ hb_
  have hj : KL _ _ W := hj
  have hb_ : Blk W g_ 25 #[.int .i64 0,.int .i64 0,.int .i64 0,.int .i64 0,.int .i64 0,.int .i64 0] := hb_
  obtain ⟨cL,c0,c1,c2,c3,c4,c5⟩ := bl6 hb_
  have cF := hb_.frozen
  show wpOp _ _ _ 8 _ ⟨⟨_::_::_::_::_::_::_::o 3::o 4::.pointer (some ⟨g_,0,none⟩)::o 0::o 1::.agg #[x,y,z,p,q,r]::_⟩,[]⟩ W
  refine wpOp_step rfl fun _ hK => ?_
  go_simp
  exact hK _ _ ⟨rfl,st6 hj (by omega) (by simp <;> omega) hb_⟩
 ·intro o g_ hh_ hp_
  have e0 : o 0 = .agg #[x,y,z,p,q,r] := hh_ 0 (by decide) (by simp)
  have e1 : o 1 = .agg #[x,y,z,p,q,r] := hh_ 1 (by decide) (by simp)
  have e2 : o 2 = .agg #[x,y,z,p,q,r] := hh_ 2 (by decide) (by simp)
  have e3 : o 3 = ptrV (g_ 3) := hp_ 3 (by simp)
  have e4 : o 4 = ptrV (g_ 4) := hp_ 4 (by simp)
  have e5 : o 5 = ptrV (g_ 5) := hp_ 5 (by simp)
  rw [e0,e1,e2,e3,e4,e5]
 ·intro W1 g_ h1 ho_ hn_
  have h1 : KL _ _ W1 := h1
  obtain ⟨bg3,Bg3⟩ := ho_ 3 (by simp)
  have Bg3 : Blk W1 (g_ 3) 25 #[x,y,z,p,q,r] := Bg3
  obtain ⟨bg4,Bg4⟩ := ho_ 4 (by simp)
  have Bg4 : Blk W1 (g_ 4) 25 #[x,y,z,p,q,r] := Bg4
  obtain ⟨bg5,Bg5⟩ := ho_ 5 (by simp)
  have Bg5 : Blk W1 (g_ 5) 25 #[x,y,z,p,q,r] := Bg5
  have ng3g4 := hn_ 3 (by simp) 4 (by simp) (by decide)
  have ng3g5 := hn_ 3 (by simp) 5 (by simp) (by decide)
  have ng4g5 := hn_ 4 (by simp) 5 (by simp) (by decide)
  clear ho_ hn_
  dsimp only [ptrV]
  generalize g_ 3 = g3 at *
  generalize g_ 4 = g4 at *
  generalize g_ 5 = g5 at *
  have h1 := KL.cons Bg3 h1
  have h1 := KL.cons Bg4 h1
  have h1 := KL.cons Bg5 h1
  clear Bg3 Bg4 Bg5
  obtain ⟨aL0,a0_0,a0_1,a0_2,a0_3,a0_4,a0_5⟩ := bl6 (KL.blk h1 (.head _))
  have aF0 := (KL.blk h1 (.head _)).frozen
  obtain ⟨aL1,a1_0,a1_1,a1_2,a1_3,a1_4,a1_5⟩ := bl6 (KL.blk h1 (.tail _ (.head _)))
  have aF1 := (KL.blk h1 (.tail _ (.head _))).frozen
  obtain ⟨aL2,a2_0,a2_1,a2_2,a2_3,a2_4,a2_5⟩ := bl6 (KL.blk h1 (.tail _ (.tail _ (.head _))))
  have aF2 := (KL.blk h1 (.tail _ (.tail _ (.head _)))).frozen
  obtain ⟨aL3,a3_0,a3_1,a3_2,a3_3,a3_4,a3_5⟩ := bl6 (KL.blk h1 (.tail _ (.tail _ (.tail _ (.head _)))))
  obtain ⟨aL4,a4_0,a4_1,a4_2,a4_3,a4_4,a4_5⟩ := bl6 (KL.blk h1 (.tail _ (.tail _ (.tail _ (.tail _ (.head _))))))
  obtain ⟨aL5,a5_0,a5_1,a5_2,a5_3,a5_4,a5_5⟩ := bl6 (KL.blk h1 (.tail _ (.tail _ (.tail _ (.tail _ (.tail _ (.head _)))))))
  obtain ⟨aL6,a6_0,a6_1,a6_2⟩ := bl3 (KL.blk h1 (.tail _ (.tail _ (.tail _ (.tail _ (.tail _ (.tail _ (.head _))))))))
  obtain ⟨aL7,a7_0,a7_1,a7_2,a7_3,a7_4,a7_5⟩ := bl6 (KL.blk h1 (.tail _ (.tail _ (.tail _ (.tail _ (.tail _ (.tail _ (.tail _ (.head _)))))))))
  have hjb := h1.1
  have hjz := hjb.size
  go_wp2_with (go_at_call 47; refine (put2 _ _ _ _ _).mono ?_; rintro e w1 ⟨rfl,hb1⟩; obtain ⟨hc1,hf1⟩ := bcell hb1; have hz1 := hb1.size; (try simp at hz1); (try have y10 : w.heap.size < w1.heap.size := (by omega)); (try have y10p : w.heap.size < w1.heap.size + 1 := (by omega)); (try have y11 : w.heap.size + 1 < w1.heap.size := (by omega)); (try have y11p : w.heap.size + 1 < w1.heap.size + 1 := (by omega)); (try have y12 : w.heap.size + 1 + 1 < w1.heap.size := (by omega)); (try have y12p : w.heap.size + 1 + 1 < w1.heap.size + 1 := (by omega)); (try have y13 : w.heap.size + 1 + 1 + 1 < w1.heap.size := (by omega)); (try have y13p : w.heap.size + 1 + 1 + 1 < w1.heap.size + 1 := (by omega)); (try have y14 : w.heap.size + 1 + 1 + 1 + 1 < w1.heap.size := (by omega)); (try have y14p : w.heap.size + 1 + 1 + 1 + 1 < w1.heap.size + 1 := (by omega)); (try have v0x1 : w0.heap.size < w1.heap.size := (by omega)); (try have v0x1p : w0.heap.size < w1.heap.size + 1 := (by omega)))
  refine wp_region_any (by kernel_rfl) ?_
  try (change wpAny _ _ _ _ _ _ _ (World.drew _))
  refine wpAny_vals (fr := fun o => #[.agg #[x,y,z,p,q,r],.agg #[.int .i64 2,t,k],.pointer (some ⟨w.heap.size,0,none⟩),.pointer (some ⟨(w.heap.size + 1),0,none⟩),.pointer (some ⟨(w.heap.size + 1 + 1),0,none⟩),.pointer (some ⟨(w.heap.size + 1 + 1 + 1),0,none⟩),.pointer (some ⟨(w.heap.size + 1 + 1 + 1 + 1),0,none⟩),.pointer (some ⟨g3,0,none⟩),.pointer (some ⟨g4,0,none⟩),.pointer (some ⟨g5,0,none⟩),.agg #[x,y,z,p,q,r],.agg #[x,y,z,p,q,r],.agg #[x,y,z,p,q,r],.pointer (some ⟨w.heap.size,3,none⟩),.agg #[p,q,r],.pointer (some ⟨(w.heap.size + 1),0,none⟩),.int .i64 2,.pointer (some ⟨(w.heap.size + 1),1,none⟩),.int .i64 t,.agg #[p,q,t],.pointer (some ⟨g3,3,none⟩),o 0,o 1,o 2,o 3,o 4,o 5,o 6,o 7,o 8,o 9,o 10,o 11,o 12,o 13,o 14,o 15,o 16,o 17,o 19,undef,undef,undef,undef,undef,undef,undef,undef,undef,undef,undef,undef,undef,undef,undef,undef,undef,undef]) (vals := fun i_ => ([.pointer (some ⟨w.heap.size,0,none⟩),.agg #[x,y,z],.pointer (some ⟨(w.heap.size + 1),0,none⟩),.int .i64 2,.pointer (some ⟨(w.heap.size + 1),1,none⟩),.int .i64 t,.agg #[x,y,t],.pointer (some ⟨w.heap.size,3,none⟩),.agg #[p,q,r],.pointer (some ⟨(w.heap.size + 1),0,none⟩),.int .i64 2,.pointer (some ⟨(w.heap.size + 1),1,none⟩),.int .i64 t,.pointer (some ⟨(w.heap.size + 1),2,none⟩),.int .i64 k,.int .i64 (t + k),.agg #[p,q,.int .i64 (t + k)],.pointer (some ⟨g4,0,none⟩),undef,.pointer (some ⟨g4,3,none⟩),undef] : List Value).getD i_ undef) (Kf := fun W_ => KL [(g5,25,#[x,y,z,p,q,r]),(g3,25,#[x,y,z,p,q,t]),((w.heap.size + 1 + 1 + 1 + 1),25,#[.int .i64 0,.int .i64 0,.int .i64 0,.int .i64 0,.int .i64 0,.int .i64 0]),((w.heap.size + 1 + 1 + 1),25,#[.int .i64 0,.int .i64 0,.int .i64 0,.int .i64 0,.int .i64 0,.int .i64 0]),((w.heap.size + 1 + 1),25,#[.int .i64 0,.int .i64 0,.int .i64 0,.int .i64 0,.int .i64 0,.int .i64 0]),((w.heap.size + 1),27,#[.int .i64 2,t,k]),(w.heap.size,25,#[x,y,z,p,q,r])] w W_) (K := fun kk_ => ([(KL [(g5,25,#[x,y,z,p,q,r]),(g4,25,#[x,y,z,p,q,r]),(g3,25,#[x,y,z,p,q,t]),((w.heap.size + 1 + 1 + 1 + 1),25,#[.int .i64 0,.int .i64 0,.int .i64 0,.int .i64 0,.int .i64 0,.int .i64 0]),((w.heap.size + 1 + 1 + 1),25,#[.int .i64 0,.int .i64 0,.int .i64 0,.int .i64 0,.int .i64 0,.int .i64 0]),((w.heap.size + 1 + 1),25,#[.int .i64 0,.int .i64 0,.int .i64 0,.int .i64 0,.int .i64 0,.int .i64 0]),((w.heap.size + 1),27,#[.int .i64 2,t,k]),(w.heap.size,25,#[x,y,z,p,q,r])] w),(KL [(g5,25,#[x,y,z,p,q,r]),(g4,25,#[x,y,t,p,q,r]),(g3,25,#[x,y,z,p,q,t]),((w.heap.size + 1 + 1 + 1 + 1),25,#[.int .i64 0,.int .i64 0,.int .i64 0,.int .i64 0,.int .i64 0,.int .i64 0]),((w.heap.size + 1 + 1 + 1),25,#[.int .i64 0,.int .i64 0,.int .i64 0,.int .i64 0,.int .i64 0,.int .i64 0]),((w.heap.size + 1 + 1),25,#[.int .i64 0,.int .i64 0,.int .i64 0,.int .i64 0,.int .i64 0,.int .i64 0]),((w.heap.size + 1),27,#[.int .i64 2,t,k]),(w.heap.size,25,#[x,y,z,p,q,r])] w),(KL [(g5,25,#[x,y,z,p,q,r]),(g4,25,#[x,y,t,p,q,.int .i64 (t + k)]),(g3,25,#[x,y,z,p,q,t]),((w.heap.size + 1 + 1 + 1 + 1),25,#[.int .i64 0,.int .i64 0,.int .i64 0,.int .i64 0,.int .i64 0,.int .i64 0]),((w.heap.size + 1 + 1 + 1),25,#[.int .i64 0,.int .i64 0,.int .i64 0,.int .i64 0,.int .i64 0,.int .i64 0]),((w.heap.size + 1 + 1),25,#[.int .i64 0,.int .i64 0,.int .i64 0,.int .i64 0,.int .i64 0,.int .i64 0]),((w.heap.size + 1),27,#[.int .i64 2,t,k]),(w.heap.size,25,#[x,y,z,p,q,r])] w)] : List (World → Prop)).getD kk_ (fun _ => True)) (dep := fun i_ => [[],[0],[],[2],[],[4],[1,3,5],[],[7],[],[9],[],[11],[],[13],[12,14],[8,10,15],[],[1,3,5,6,16,17],[],[16,18,19]].getD i_ []) (dv := fun i_ => [[],[0],[],[2],[],[4],[1,3,5],[],[7],[],[9],[],[11],[],[13],[12,14],[8,10,15],[],[6,17],[],[16,19]].getD i_ []) (kd := fun i_ => [0,1,0,1,0,1,1,0,0,0,0,0,0,0,0,0,1,0,2,0,3].getD i_ 0) (ss := [18,20]) (l := [0,1,2,3,4,5,6,7,8,9,10,11,12,13,14,15,16,17,18,19,20]) (f0 := fun _ => undef) (A := ?A10) 21 rfl rfl (by decide +kernel) (by decide +kernel) ?_ ?_ ⟨?_,?_,?_,?_,?_,?_,?_,?_,?_,?_,?_,?_,?_,?_,?_,?_,?_,?_,?_,?_,?_,trivial⟩ ?_ ?_
  rotate_left
  ·exact KL.drew (KL.upH 2 (KL.over h1 hb1) rfl (by omega) (by simp <;> omega))
  ·intro t_ W ht_ hh_
   rcases t_ with _ | _ | _ | _
   ·exact KL.part hh_ (fun p_ hp_ => by simp only [List.mem_cons,List.not_mem_nil,or_false] at hp_; rcases hp_ with rfl | rfl | rfl | rfl | rfl | rfl | rfl; exact (.head _); exact (.tail _ (.tail _ (.head _))); exact (.tail _ (.tail _ (.tail _ (.head _)))); exact (.tail _ (.tail _ (.tail _ (.tail _ (.head _))))); exact (.tail _ (.tail _ (.tail _ (.tail _ (.tail _ (.head _)))))); exact (.tail _ (.tail _ (.tail _ (.tail _ (.tail _ (.tail _ (.head _))))))); exact (.tail _ (.tail _ (.tail _ (.tail _ (.tail _ (.tail _ (.tail _ (.head _)))))))))
   ·exact KL.part hh_ (fun p_ hp_ => by simp only [List.mem_cons,List.not_mem_nil,or_false] at hp_; rcases hp_ with rfl | rfl | rfl | rfl | rfl | rfl | rfl; exact (.head _); exact (.tail _ (.tail _ (.head _))); exact (.tail _ (.tail _ (.tail _ (.head _)))); exact (.tail _ (.tail _ (.tail _ (.tail _ (.head _))))); exact (.tail _ (.tail _ (.tail _ (.tail _ (.tail _ (.head _)))))); exact (.tail _ (.tail _ (.tail _ (.tail _ (.tail _ (.tail _ (.head _))))))); exact (.tail _ (.tail _ (.tail _ (.tail _ (.tail _ (.tail _ (.tail _ (.head _)))))))))
   ·exact KL.part hh_ (fun p_ hp_ => by simp only [List.mem_cons,List.not_mem_nil,or_false] at hp_; rcases hp_ with rfl | rfl | rfl | rfl | rfl | rfl | rfl; exact (.head _); exact (.tail _ (.tail _ (.head _))); exact (.tail _ (.tail _ (.tail _ (.head _)))); exact (.tail _ (.tail _ (.tail _ (.tail _ (.head _))))); exact (.tail _ (.tail _ (.tail _ (.tail _ (.tail _ (.head _)))))); exact (.tail _ (.tail _ (.tail _ (.tail _ (.tail _ (.tail _ (.head _))))))); exact (.tail _ (.tail _ (.tail _ (.tail _ (.tail _ (.tail _ (.tail _ (.head _)))))))))
   ·exact absurd ht_ (by simp)
  ·intro o W _
   show wpOp _ _ _ 0 _ ⟨#[_,_,_,_,_,_,_,_,_,_,_,_,_,_,_,_,_,_,_,_,_,o 0,o 1,o 2,o 3,o 4,o 5,o 6,o 7,o 8,o 9,o 10,o 11,o 12,o 13,o 14,o 15,o 16,o 17,o 19,_,_,_,_,_,_,_,_,_,_,_,_,_,_,_,_,_,_],[]⟩ W
   refine wpOp_step rfl fun _ hK => ?_
   go_simp
   exact hK _ _ ⟨rfl,rfl⟩
  ·intro o W hj
   have hj : KL _ _ W := hj
   obtain ⟨cL,c0,c1,c2,c3,c4,c5⟩ := bl6 (KL.blk hj (.tail _ (.tail _ (.tail _ (.tail _ (.tail _ (.tail _ (.tail _ (.head _)))))))))
   show wpOp _ _ _ 1 _ ⟨#[_,_,_,_,_,_,_,_,_,_,_,_,_,_,_,_,_,_,_,_,_,.pointer (some ⟨w.heap.size,0,none⟩),o 1,o 2,o 3,o 4,o 5,o 6,o 7,o 8,o 9,o 10,o 11,o 12,o 13,o 14,o 15,o 16,o 17,o 19,_,_,_,_,_,_,_,_,_,_,_,_,_,_,_,_,_,_],[]⟩ W
   refine wpOp_step rfl fun _ hK => ?_
   go_simp
   exact hK _ _ ⟨rfl,hj⟩
  ·intro o W _
   show wpOp _ _ _ 2 _ ⟨#[_,_,_,_,_,_,_,_,_,_,_,_,_,_,_,_,_,_,_,_,_,o 0,o 1,o 2,o 3,o 4,o 5,o 6,o 7,o 8,o 9,o 10,o 11,o 12,o 13,o 14,o 15,o 16,o 17,o 19,_,_,_,_,_,_,_,_,_,_,_,_,_,_,_,_,_,_],[]⟩ W
   refine wpOp_step rfl fun _ hK => ?_
   go_simp
   exact hK _ _ ⟨rfl,rfl⟩
  ·intro o W hj
   have hj : KL _ _ W := hj
   obtain ⟨cL,c0,c1,c2⟩ := bl3 (KL.blk hj (.tail _ (.tail _ (.tail _ (.tail _ (.tail _ (.tail _ (.head _))))))))
   show wpOp _ _ _ 3 _ ⟨#[_,_,_,_,_,_,_,_,_,_,_,_,_,_,_,_,_,_,_,_,_,o 0,o 1,.pointer (some ⟨(w.heap.size + 1),0,none⟩),o 3,o 4,o 5,o 6,o 7,o 8,o 9,o 10,o 11,o 12,o 13,o 14,o 15,o 16,o 17,o 19,_,_,_,_,_,_,_,_,_,_,_,_,_,_,_,_,_,_],[]⟩ W
   refine wpOp_step rfl fun _ hK => ?_
   go_simp
   exact hK _ _ ⟨rfl,hj⟩
  ·intro o W _
   show wpOp _ _ _ 4 _ ⟨#[_,_,_,_,_,_,_,_,_,_,_,_,_,_,_,_,_,_,_,_,_,o 0,o 1,o 2,o 3,o 4,o 5,o 6,o 7,o 8,o 9,o 10,o 11,o 12,o 13,o 14,o 15,o 16,o 17,o 19,_,_,_,_,_,_,_,_,_,_,_,_,_,_,_,_,_,_],[]⟩ W
   refine wpOp_step rfl fun _ hK => ?_
   go_simp
   exact hK _ _ ⟨rfl,rfl⟩
  ·intro o W hj
   have hj : KL _ _ W := hj
   obtain ⟨cL,c0,c1,c2⟩ := bl3 (KL.blk hj (.tail _ (.tail _ (.tail _ (.tail _ (.tail _ (.tail _ (.head _))))))))
   show wpOp _ _ _ 5 _ ⟨#[_,_,_,_,_,_,_,_,_,_,_,_,_,_,_,_,_,_,_,_,_,o 0,o 1,o 2,o 3,.pointer (some ⟨(w.heap.size + 1),1,none⟩),o 5,o 6,o 7,o 8,o 9,o 10,o 11,o 12,o 13,o 14,o 15,o 16,o 17,o 19,_,_,_,_,_,_,_,_,_,_,_,_,_,_,_,_,_,_],[]⟩ W
   refine wpOp_step rfl fun _ hK => ?_
   go_simp
   exact hK _ _ ⟨rfl,hj⟩
  ·intro o W hj
   have hj : KL _ _ W := hj
   show wpOp _ _ _ 6 _ ⟨#[_,_,_,_,_,_,_,_,_,_,_,_,_,_,_,_,_,_,_,_,_,o 0,.agg #[x,y,z],o 2,.int .i64 2,o 4,.int .i64 t,o 6,o 7,o 8,o 9,o 10,o 11,o 12,o 13,o 14,o 15,o 16,o 17,o 19,_,_,_,_,_,_,_,_,_,_,_,_,_,_,_,_,_,_],[]⟩ W
   refine wpOp_step rfl fun _ hK => ?_
   go_simp
   refine (put2 _ _ _ _ _).mono ?_
   rintro e W1 ⟨rfl,hb1⟩
   exact hK _ _ ⟨rfl,hj.over hb1⟩
  ·intro o W _
   show wpOp _ _ _ 7 _ ⟨#[_,_,_,_,_,_,_,_,_,_,_,_,_,_,_,_,_,_,_,_,_,o 0,o 1,o 2,o 3,o 4,o 5,o 6,o 7,o 8,o 9,o 10,o 11,o 12,o 13,o 14,o 15,o 16,o 17,o 19,_,_,_,_,_,_,_,_,_,_,_,_,_,_,_,_,_,_],[]⟩ W
   refine wpOp_step rfl fun _ hK => ?_
   go_simp
   exact hK _ _ ⟨rfl,rfl⟩
  ·intro o W hj
   have hj : KL _ _ W := hj
   obtain ⟨cL,c0,c1,c2,c3,c4,c5⟩ := bl6 (KL.blk hj (.tail _ (.tail _ (.tail _ (.tail _ (.tail _ (.tail _ (.head _))))))))
   show wpOp _ _ _ 8 _ ⟨#[_,_,_,_,_,_,_,_,_,_,_,_,_,_,_,_,_,_,_,_,_,o 0,o 1,o 2,o 3,o 4,o 5,o 6,.pointer (some ⟨w.heap.size,3,none⟩),o 8,o 9,o 10,o 11,o 12,o 13,o 14,o 15,o 16,o 17,o 19,_,_,_,_,_,_,_,_,_,_,_,_,_,_,_,_,_,_],[]⟩ W
   refine wpOp_step rfl fun _ hK => ?_
   go_simp
   exact hK _ _ ⟨rfl,rfl⟩
  ·intro o W _
   show wpOp _ _ _ 9 _ ⟨#[_,_,_,_,_,_,_,_,_,_,_,_,_,_,_,_,_,_,_,_,_,o 0,o 1,o 2,o 3,o 4,o 5,o 6,o 7,o 8,o 9,o 10,o 11,o 12,o 13,o 14,o 15,o 16,o 17,o 19,_,_,_,_,_,_,_,_,_,_,_,_,_,_,_,_,_,_],[]⟩ W
   refine wpOp_step rfl fun _ hK => ?_
   go_simp
   exact hK _ _ ⟨rfl,rfl⟩
  ·intro o W hj
   have hj : KL _ _ W := hj
   obtain ⟨cL,c0,c1,c2⟩ := bl3 (KL.blk hj (.tail _ (.tail _ (.tail _ (.tail _ (.tail _ (.head _)))))))
   show wpOp _ _ _ 10 _ ⟨#[_,_,_,_,_,_,_,_,_,_,_,_,_,_,_,_,_,_,_,_,_,o 0,o 1,o 2,o 3,o 4,o 5,o 6,o 7,o 8,.pointer (some ⟨(w.heap.size + 1),0,none⟩),o 10,o 11,o 12,o 13,o 14,o 15,o 16,o 17,o 19,_,_,_,_,_,_,_,_,_,_,_,_,_,_,_,_,_,_],[]⟩ W
   refine wpOp_step rfl fun _ hK => ?_
   go_simp
   exact hK _ _ ⟨rfl,rfl⟩
  ·intro o W _
   show wpOp _ _ _ 11 _ ⟨#[_,_,_,_,_,_,_,_,_,_,_,_,_,_,_,_,_,_,_,_,_,o 0,o 1,o 2,o 3,o 4,o 5,o 6,o 7,o 8,o 9,o 10,o 11,o 12,o 13,o 14,o 15,o 16,o 17,o 19,_,_,_,_,_,_,_,_,_,_,_,_,_,_,_,_,_,_],[]⟩ W
   refine wpOp_step rfl fun _ hK => ?_
   go_simp
   exact hK _ _ ⟨rfl,rfl⟩
  ·intro o W hj
   have hj : KL _ _ W := hj
   obtain ⟨cL,c0,c1,c2⟩ := bl3 (KL.blk hj (.tail _ (.tail _ (.tail _ (.tail _ (.tail _ (.head _)))))))
   show wpOp _ _ _ 12 _ ⟨#[_,_,_,_,_,_,_,_,_,_,_,_,_,_,_,_,_,_,_,_,_,o 0,o 1,o 2,o 3,o 4,o 5,o 6,o 7,o 8,o 9,o 10,.pointer (some ⟨(w.heap.size + 1),1,none⟩),o 12,o 13,o 14,o 15,o 16,o 17,o 19,_,_,_,_,_,_,_,_,_,_,_,_,_,_,_,_,_,_],[]⟩ W
   refine wpOp_step rfl fun _ hK => ?_
   go_simp
   exact hK _ _ ⟨rfl,rfl⟩
  ·intro o W _
   show wpOp _ _ _ 13 _ ⟨#[_,_,_,_,_,_,_,_,_,_,_,_,_,_,_,_,_,_,_,_,_,o 0,o 1,o 2,o 3,o 4,o 5,o 6,o 7,o 8,o 9,o 10,o 11,o 12,o 13,o 14,o 15,o 16,o 17,o 19,_,_,_,_,_,_,_,_,_,_,_,_,_,_,_,_,_,_],[]⟩ W
   refine wpOp_step rfl fun _ hK => ?_
   go_simp
   exact hK _ _ ⟨rfl,rfl⟩
  ·intro o W hj
   have hj : KL _ _ W := hj
   obtain ⟨cL,c0,c1,c2⟩ := bl3 (KL.blk hj (.tail _ (.tail _ (.tail _ (.tail _ (.tail _ (.head _)))))))
   show wpOp _ _ _ 14 _ ⟨#[_,_,_,_,_,_,_,_,_,_,_,_,_,_,_,_,_,_,_,_,_,o 0,o 1,o 2,o 3,o 4,o 5,o 6,o 7,o 8,o 9,o 10,o 11,o 12,.pointer (some ⟨(w.heap.size + 1),2,none⟩),o 14,o 15,o 16,o 17,o 19,_,_,_,_,_,_,_,_,_,_,_,_,_,_,_,_,_,_],[]⟩ W
   refine wpOp_step rfl fun _ hK => ?_
   go_simp
   exact hK _ _ ⟨rfl,rfl⟩
  ·intro o W _
   show wpOp _ _ _ 15 _ ⟨#[_,_,_,_,_,_,_,_,_,_,_,_,_,_,_,_,_,_,_,_,_,o 0,o 1,o 2,o 3,o 4,o 5,o 6,o 7,o 8,o 9,o 10,o 11,.int .i64 t,o 13,.int .i64 k,o 15,o 16,o 17,o 19,_,_,_,_,_,_,_,_,_,_,_,_,_,_,_,_,_,_],[]⟩ W
   refine wpOp_step rfl fun _ hK => ?_
   go_simp
   exact hK _ _ ⟨rfl,rfl⟩
  ·intro o W hj
   have hj : KL _ _ W := hj
   show wpOp _ _ _ 16 _ ⟨#[_,_,_,_,_,_,_,_,_,_,_,_,_,_,_,_,_,_,_,_,_,o 0,o 1,o 2,o 3,o 4,o 5,o 6,o 7,.agg #[p,q,r],o 9,.int .i64 2,o 11,o 12,o 13,o 14,.int .i64 (t + k),o 16,o 17,o 19,_,_,_,_,_,_,_,_,_,_,_,_,_,_,_,_,_,_],[]⟩ W
   refine wpOp_step rfl fun _ hK => ?_
   go_simp
   refine (put2 _ _ _ _ _).mono ?_
   rintro e W1 ⟨rfl,hb1⟩
   exact hK _ _ ⟨rfl,hj.over hb1⟩
  ·intro o W _
   show wpOp _ _ _ 17 _ ⟨#[_,_,_,_,_,_,_,_,_,_,_,_,_,_,_,_,_,_,_,_,_,o 0,o 1,o 2,o 3,o 4,o 5,o 6,o 7,o 8,o 9,o 10,o 11,o 12,o 13,o 14,o 15,o 16,o 17,o 19,_,_,_,_,_,_,_,_,_,_,_,_,_,_,_,_,_,_],[]⟩ W
   refine wpOp_step rfl fun _ hK => ?_
   go_simp
   exact hK _ _ ⟨rfl,rfl⟩
  ·intro o W hj
   have hj : KL _ _ W := hj
   obtain ⟨cL,c0,c1,c2,c3,c4,c5⟩ := bl6 (KL.blk hj (.tail _ (.head _)))
   have cF := (KL.blk hj (.tail _ (.head _))).frozen
   show wpOp _ _ _ 18 _ ⟨#[_,_,_,_,_,_,_,_,_,_,_,_,_,_,_,_,_,_,_,_,_,o 0,o 1,o 2,o 3,o 4,o 5,.agg #[x,y,t],o 7,o 8,o 9,o 10,o 11,o 12,o 13,o 14,o 15,o 16,.pointer (some ⟨g4,0,none⟩),o 19,_,_,_,_,_,_,_,_,_,_,_,_,_,_,_,_,_,_],[]⟩ W
   refine wpOp_step rfl fun _ hK => ?_
   go_simp
   exact hK _ _ ⟨rfl,(KL.upL 1 hj rfl (by omega) (by simp <;> omega))⟩
  ·intro o W _
   show wpOp _ _ _ 19 _ ⟨#[_,_,_,_,_,_,_,_,_,_,_,_,_,_,_,_,_,_,_,_,_,o 0,o 1,o 2,o 3,o 4,o 5,o 6,o 7,o 8,o 9,o 10,o 11,o 12,o 13,o 14,o 15,o 16,o 17,o 19,_,_,_,_,_,_,_,_,_,_,_,_,_,_,_,_,_,_],[]⟩ W
   refine wpOp_step rfl fun _ hK => ?_
   go_simp
   exact hK _ _ ⟨rfl,rfl⟩
  ·intro o W hj
   have hj : KL _ _ W := hj
   obtain ⟨cL,c0,c1,c2,c3,c4,c5⟩ := bl6 (KL.blk hj (.tail _ (.head _)))
   have cF := (KL.blk hj (.tail _ (.head _))).frozen
   show wpOp _ _ _ 20 _ ⟨#[_,_,_,_,_,_,_,_,_,_,_,_,_,_,_,_,_,_,_,_,_,o 0,o 1,o 2,o 3,o 4,o 5,o 6,o 7,o 8,o 9,o 10,o 11,o 12,o 13,o 14,o 15,.agg #[p,q,.int .i64 (t + k)],o 17,.pointer (some ⟨g4,3,none⟩),_,_,_,_,_,_,_,_,_,_,_,_,_,_,_,_,_,_],[]⟩ W
   refine wpOp_step rfl fun _ hK => ?_
   go_simp
   exact hK _ _ ⟨rfl,(KL.upH 1 hj rfl (by omega) (by simp <;> omega))⟩
  ·intro o hh_
   have e0 : o 0 = .pointer (some ⟨w.heap.size,0,none⟩) := hh_ 0 (by decide)
   have e1 : o 1 = .agg #[x,y,z] := hh_ 1 (by decide)
   have e2 : o 2 = .pointer (some ⟨(w.heap.size + 1),0,none⟩) := hh_ 2 (by decide)
   have e3 : o 3 = .int .i64 2 := hh_ 3 (by decide)
   have e4 : o 4 = .pointer (some ⟨(w.heap.size + 1),1,none⟩) := hh_ 4 (by decide)
   have e5 : o 5 = .int .i64 t := hh_ 5 (by decide)
   have e6 : o 6 = .agg #[x,y,t] := hh_ 6 (by decide)
   have e7 : o 7 = .pointer (some ⟨w.heap.size,3,none⟩) := hh_ 7 (by decide)
   have e8 : o 8 = .agg #[p,q,r] := hh_ 8 (by decide)
   have e9 : o 9 = .pointer (some ⟨(w.heap.size + 1),0,none⟩) := hh_ 9 (by decide)
   have e10 : o 10 = .int .i64 2 := hh_ 10 (by decide)
   have e11 : o 11 = .pointer (some ⟨(w.heap.size + 1),1,none⟩) := hh_ 11 (by decide)
   have e12 : o 12 = .int .i64 t := hh_ 12 (by decide)
   have e13 : o 13 = .pointer (some ⟨(w.heap.size + 1),2,none⟩) := hh_ 13 (by decide)
   have e14 : o 14 = .int .i64 k := hh_ 14 (by decide)
   have e15 : o 15 = .int .i64 (t + k) := hh_ 15 (by decide)
   have e16 : o 16 = .agg #[p,q,.int .i64 (t + k)] := hh_ 16 (by decide)
   have e17 : o 17 = .pointer (some ⟨g4,0,none⟩) := hh_ 17 (by decide)
   have e19 : o 19 = .pointer (some ⟨g4,3,none⟩) := hh_ 19 (by decide)
   rw [e0,e1,e2,e3,e4,e5,e6,e7,e8,e9,e10,e11,e12,e13,e14,e15,e16,e17,e19]
  ·intro W2 h2
   have h2 : KL _ _ W2 := h2
   obtain ⟨bL0,b0_0,b0_1,b0_2,b0_3,b0_4,b0_5⟩ := bl6 (KL.blk h2 (.head _))
   have bF0 := (KL.blk h2 (.head _)).frozen
   obtain ⟨bL1,b1_0,b1_1,b1_2,b1_3,b1_4,b1_5⟩ := bl6 (KL.blk h2 (.tail _ (.head _)))
   have bF1 := (KL.blk h2 (.tail _ (.head _))).frozen
   obtain ⟨bL2,b2_0,b2_1,b2_2,b2_3,b2_4,b2_5⟩ := bl6 (KL.blk h2 (.tail _ (.tail _ (.head _))))
   have bF2 := (KL.blk h2 (.tail _ (.tail _ (.head _)))).frozen
   obtain ⟨bL3,b3_0,b3_1,b3_2,b3_3,b3_4,b3_5⟩ := bl6 (KL.blk h2 (.tail _ (.tail _ (.tail _ (.head _)))))
   obtain ⟨bL4,b4_0,b4_1,b4_2,b4_3,b4_4,b4_5⟩ := bl6 (KL.blk h2 (.tail _ (.tail _ (.tail _ (.tail _ (.head _))))))
   obtain ⟨bL5,b5_0,b5_1,b5_2,b5_3,b5_4,b5_5⟩ := bl6 (KL.blk h2 (.tail _ (.tail _ (.tail _ (.tail _ (.tail _ (.head _)))))))
   obtain ⟨bL6,b6_0,b6_1,b6_2⟩ := bl3 (KL.blk h2 (.tail _ (.tail _ (.tail _ (.tail _ (.tail _ (.tail _ (.head _))))))))
   obtain ⟨bL7,b7_0,b7_1,b7_2,b7_3,b7_4,b7_5⟩ := bl6 (KL.blk h2 (.tail _ (.tail _ (.tail _ (.tail _ (.tail _ (.tail _ (.tail _ (.head _)))))))))
   have hjb := h2.1
   have hjz := hjb.size
   go_wp2_with (go_at_call 47; refine (put2 _ _ _ _ _).mono ?_; rintro e w2 ⟨rfl,hb2⟩; obtain ⟨hc2,hf2⟩ := bcell hb2; have hz2 := hb2.size; (try simp at hz2); (try have y20 : w.heap.size < w2.heap.size := (by omega)); (try have y20p : w.heap.size < w2.heap.size + 1 := (by omega)); (try have y21 : w.heap.size + 1 < w2.heap.size := (by omega)); (try have y21p : w.heap.size + 1 < w2.heap.size + 1 := (by omega)); (try have y22 : w.heap.size + 1 + 1 < w2.heap.size := (by omega)); (try have y22p : w.heap.size + 1 + 1 < w2.heap.size + 1 := (by omega)); (try have y23 : w.heap.size + 1 + 1 + 1 < w2.heap.size := (by omega)); (try have y23p : w.heap.size + 1 + 1 + 1 < w2.heap.size + 1 := (by omega)); (try have y24 : w.heap.size + 1 + 1 + 1 + 1 < w2.heap.size := (by omega)); (try have y24p : w.heap.size + 1 + 1 + 1 + 1 < w2.heap.size + 1 := (by omega)); (try have v0x2 : w0.heap.size < w2.heap.size := (by omega)); (try have v0x2p : w0.heap.size < w2.heap.size + 1 := (by omega)); (try have v1x2 : w1.heap.size < w2.heap.size := (by omega)); (try have v1x2p : w1.heap.size < w2.heap.size + 1 := (by omega)))
   refine wp_region_any (by kernel_rfl) ?_
   try (change wpAny _ _ _ _ _ _ _ (World.drew _))
   refine wpAny_vals (fr := fun o => #[.agg #[x,y,z,p,q,r],.agg #[.int .i64 2,t,k],.pointer (some ⟨w.heap.size,0,none⟩),.pointer (some ⟨(w.heap.size + 1),0,none⟩),.pointer (some ⟨(w.heap.size + 1 + 1),0,none⟩),.pointer (some ⟨(w.heap.size + 1 + 1 + 1),0,none⟩),.pointer (some ⟨(w.heap.size + 1 + 1 + 1 + 1),0,none⟩),.pointer (some ⟨g3,0,none⟩),.pointer (some ⟨g4,0,none⟩),.pointer (some ⟨g5,0,none⟩),.agg #[x,y,z,p,q,r],.agg #[x,y,z,p,q,r],.agg #[x,y,z,p,q,r],.pointer (some ⟨w.heap.size,3,none⟩),.agg #[p,q,r],.pointer (some ⟨(w.heap.size + 1),0,none⟩),.int .i64 2,.pointer (some ⟨(w.heap.size + 1),1,none⟩),.int .i64 t,.agg #[p,q,t],.pointer (some ⟨g3,3,none⟩),.pointer (some ⟨w.heap.size,0,none⟩),.agg #[x,y,z],.pointer (some ⟨(w.heap.size + 1),0,none⟩),.int .i64 2,.pointer (some ⟨(w.heap.size + 1),1,none⟩),.int .i64 t,.agg #[x,y,t],.pointer (some ⟨w.heap.size,3,none⟩),.agg #[p,q,r],.pointer (some ⟨(w.heap.size + 1),0,none⟩),.int .i64 2,.pointer (some ⟨(w.heap.size + 1),1,none⟩),.int .i64 t,.pointer (some ⟨(w.heap.size + 1),2,none⟩),.int .i64 k,.int .i64 (t + k),.agg #[p,q,.int .i64 (t + k)],.pointer (some ⟨g4,0,none⟩),.pointer (some ⟨g4,3,none⟩),.pointer (some ⟨w.heap.size,0,none⟩),.agg #[x,y,z],.pointer (some ⟨(w.heap.size + 1),0,none⟩),.int .i64 2,.pointer (some ⟨(w.heap.size + 1),1,none⟩),.int .i64 t,.pointer (some ⟨(w.heap.size + 1),2,none⟩),.int .i64 k,.int .i64 (t + k),.agg #[x,y,.int .i64 (t + k)],.pointer (some ⟨g5,0,none⟩),.pointer (some ⟨(w.heap.size + 1),2,none⟩),.int .i64 k,.bool true,.agg #[.int .i64 0,.int .i64 0,.int .i64 0,.int .i64 0,.int .i64 0,.int .i64 0],o 0,o 1,o 2]) (vals := fun i_ => ([.agg #[x,y,z,p,q,t],.agg #[.int .i64 0,.int .i64 0,.int .i64 0,.int .i64 0,.int .i64 0,.int .i64 0],.agg #[x,y,.int .i64 (t + k),p,q,r],undef,undef,undef] : List Value).getD i_ undef) (Kf := fun W_ => KL [(g5,25,#[x,y,.int .i64 (t + k),p,q,r]),(g4,25,#[.int .i64 0,.int .i64 0,.int .i64 0,.int .i64 0,.int .i64 0,.int .i64 0]),(g3,25,#[x,y,z,p,q,t]),((w.heap.size + 1),27,#[.int .i64 2,t,k]),(w.heap.size,25,#[x,y,z,p,q,r])] w W_) (K := fun kk_ => ([(KL [(g5,25,#[x,y,.int .i64 (t + k),p,q,r]),(g4,25,#[.int .i64 0,.int .i64 0,.int .i64 0,.int .i64 0,.int .i64 0,.int .i64 0]),(g3,25,#[x,y,z,p,q,t]),((w.heap.size + 1 + 1 + 1 + 1),25,#[.int .i64 0,.int .i64 0,.int .i64 0,.int .i64 0,.int .i64 0,.int .i64 0]),((w.heap.size + 1 + 1 + 1),25,#[.int .i64 0,.int .i64 0,.int .i64 0,.int .i64 0,.int .i64 0,.int .i64 0]),((w.heap.size + 1 + 1),25,#[.int .i64 0,.int .i64 0,.int .i64 0,.int .i64 0,.int .i64 0,.int .i64 0]),((w.heap.size + 1),27,#[.int .i64 2,t,k]),(w.heap.size,25,#[x,y,z,p,q,r])] w),(KL [(g5,25,#[x,y,.int .i64 (t + k),p,q,r]),(g4,25,#[.int .i64 0,.int .i64 0,.int .i64 0,.int .i64 0,.int .i64 0,.int .i64 0]),(g3,25,#[x,y,z,p,q,t]),((w.heap.size + 1 + 1 + 1 + 1),25,#[.int .i64 0,.int .i64 0,.int .i64 0,.int .i64 0,.int .i64 0,.int .i64 0]),((w.heap.size + 1 + 1 + 1),25,#[.int .i64 0,.int .i64 0,.int .i64 0,.int .i64 0,.int .i64 0,.int .i64 0]),((w.heap.size + 1 + 1),25,#[x,y,z,p,q,t]),((w.heap.size + 1),27,#[.int .i64 2,t,k]),(w.heap.size,25,#[x,y,z,p,q,r])] w),(KL [(g5,25,#[x,y,.int .i64 (t + k),p,q,r]),(g4,25,#[.int .i64 0,.int .i64 0,.int .i64 0,.int .i64 0,.int .i64 0,.int .i64 0]),(g3,25,#[x,y,z,p,q,t]),((w.heap.size + 1 + 1 + 1 + 1),25,#[.int .i64 0,.int .i64 0,.int .i64 0,.int .i64 0,.int .i64 0,.int .i64 0]),((w.heap.size + 1 + 1 + 1),25,#[.int .i64 0,.int .i64 0,.int .i64 0,.int .i64 0,.int .i64 0,.int .i64 0]),((w.heap.size + 1 + 1),25,#[x,y,z,p,q,t]),((w.heap.size + 1),27,#[.int .i64 2,t,k]),(w.heap.size,25,#[x,y,z,p,q,r])] w),(KL [(g5,25,#[x,y,.int .i64 (t + k),p,q,r]),(g4,25,#[.int .i64 0,.int .i64 0,.int .i64 0,.int .i64 0,.int .i64 0,.int .i64 0]),(g3,25,#[x,y,z,p,q,t]),((w.heap.size + 1 + 1 + 1 + 1),25,#[x,y,.int .i64 (t + k),p,q,r]),((w.heap.size + 1 + 1 + 1),25,#[.int .i64 0,.int .i64 0,.int .i64 0,.int .i64 0,.int .i64 0,.int .i64 0]),((w.heap.size + 1 + 1),25,#[x,y,z,p,q,t]),((w.heap.size + 1),27,#[.int .i64 2,t,k]),(w.heap.size,25,#[x,y,z,p,q,r])] w)] : List (World → Prop)).getD kk_ (fun _ => True)) (dep := fun i_ => [[],[],[],[0],[1,3],[2,4]].getD i_ []) (dv := fun i_ => [[],[],[],[0],[1],[2]].getD i_ []) (kd := fun i_ => [1,0,0,2,3,4].getD i_ 0) (ss := [3,4,5]) (l := [0,1,2,3,4,5]) (f0 := fun _ => undef) (A := ?A9) 6 rfl rfl (by decide +kernel) (by decide +kernel) ?_ ?_ ⟨?_,?_,?_,?_,?_,?_,trivial⟩ ?_ ?_
   rotate_left
   ·exact KL.drew (KL.up6 1 (KL.upL 0 (KL.over h2 hb2) rfl (by omega) (by simp <;> omega)) rfl (by omega) (by simp <;> omega))
   ·intro t_ W ht_ hh_
    rcases t_ with _ | _ | _ | _ | _
    ·exact KL.part hh_ (fun p_ hp_ => by simp only [List.mem_cons,List.not_mem_nil,or_false] at hp_; rcases hp_ with rfl | rfl | rfl | rfl | rfl; exact (.head _); exact (.tail _ (.head _)); exact (.tail _ (.tail _ (.head _))); exact (.tail _ (.tail _ (.tail _ (.tail _ (.tail _ (.tail _ (.head _))))))); exact (.tail _ (.tail _ (.tail _ (.tail _ (.tail _ (.tail _ (.tail _ (.head _)))))))))
    ·exact KL.part hh_ (fun p_ hp_ => by simp only [List.mem_cons,List.not_mem_nil,or_false] at hp_; rcases hp_ with rfl | rfl | rfl | rfl | rfl; exact (.head _); exact (.tail _ (.head _)); exact (.tail _ (.tail _ (.head _))); exact (.tail _ (.tail _ (.tail _ (.tail _ (.tail _ (.tail _ (.head _))))))); exact (.tail _ (.tail _ (.tail _ (.tail _ (.tail _ (.tail _ (.tail _ (.head _)))))))))
    ·exact KL.part hh_ (fun p_ hp_ => by simp only [List.mem_cons,List.not_mem_nil,or_false] at hp_; rcases hp_ with rfl | rfl | rfl | rfl | rfl; exact (.head _); exact (.tail _ (.head _)); exact (.tail _ (.tail _ (.head _))); exact (.tail _ (.tail _ (.tail _ (.tail _ (.tail _ (.tail _ (.head _))))))); exact (.tail _ (.tail _ (.tail _ (.tail _ (.tail _ (.tail _ (.tail _ (.head _)))))))))
    ·exact KL.part hh_ (fun p_ hp_ => by simp only [List.mem_cons,List.not_mem_nil,or_false] at hp_; rcases hp_ with rfl | rfl | rfl | rfl | rfl; exact (.head _); exact (.tail _ (.head _)); exact (.tail _ (.tail _ (.head _))); exact (.tail _ (.tail _ (.tail _ (.tail _ (.tail _ (.tail _ (.head _))))))); exact (.tail _ (.tail _ (.tail _ (.tail _ (.tail _ (.tail _ (.tail _ (.head _)))))))))
    ·exact absurd ht_ (by simp)
   ·intro o W hj
    have hj : KL _ _ W := hj
    obtain ⟨cL,c0,c1,c2,c3,c4,c5⟩ := bl6 (KL.blk hj (.tail _ (.tail _ (.head _))))
    show wpOp _ _ _ 0 _ ⟨#[_,_,_,_,_,_,_,_,_,_,_,_,_,_,_,_,_,_,_,_,_,_,_,_,_,_,_,_,_,_,_,_,_,_,_,_,_,_,_,_,_,_,_,_,_,_,_,_,_,_,_,_,_,_,_,o 0,o 1,o 2],[]⟩ W
    refine wpOp_step rfl fun _ hK => ?_
    go_simp
    exact hK _ _ ⟨rfl,hj⟩
   ·intro o W hj
    have hj : KL _ _ W := hj
    obtain ⟨cL,c0,c1,c2,c3,c4,c5⟩ := bl6 (KL.blk hj (.tail _ (.head _)))
    show wpOp _ _ _ 1 _ ⟨#[_,_,_,_,_,_,_,_,_,_,_,_,_,_,_,_,_,_,_,_,_,_,_,_,_,_,_,_,_,_,_,_,_,_,_,_,_,_,_,_,_,_,_,_,_,_,_,_,_,_,_,_,_,_,_,o 0,o 1,o 2],[]⟩ W
    refine wpOp_step rfl fun _ hK => ?_
    go_simp
    exact hK _ _ ⟨rfl,rfl⟩
   ·intro o W hj
    have hj : KL _ _ W := hj
    obtain ⟨cL,c0,c1,c2,c3,c4,c5⟩ := bl6 (KL.blk hj (.head _))
    show wpOp _ _ _ 2 _ ⟨#[_,_,_,_,_,_,_,_,_,_,_,_,_,_,_,_,_,_,_,_,_,_,_,_,_,_,_,_,_,_,_,_,_,_,_,_,_,_,_,_,_,_,_,_,_,_,_,_,_,_,_,_,_,_,_,o 0,o 1,o 2],[]⟩ W
    refine wpOp_step rfl fun _ hK => ?_
    go_simp
    exact hK _ _ ⟨rfl,rfl⟩
   ·intro o W hj
    have hj : KL _ _ W := hj
    obtain ⟨cL,c0,c1,c2,c3,c4,c5⟩ := bl6 (KL.blk hj (.tail _ (.tail _ (.tail _ (.tail _ (.tail _ (.head _)))))))
    have cF := (KL.blk hj (.tail _ (.tail _ (.tail _ (.tail _ (.tail _ (.head _))))))).frozen
    show wpOp _ _ _ 3 _ ⟨#[_,_,_,_,_,_,_,_,_,_,_,_,_,_,_,_,_,_,_,_,_,_,_,_,_,_,_,_,_,_,_,_,_,_,_,_,_,_,_,_,_,_,_,_,_,_,_,_,_,_,_,_,_,_,_,.agg #[x,y,z,p,q,t],o 1,o 2],[]⟩ W
    refine wpOp_step rfl fun _ hK => ?_
    go_simp
    exact hK _ _ ⟨rfl,(KL.up6 5 hj rfl (by omega) (by simp <;> omega))⟩
   ·intro o W hj
    have hj : KL _ _ W := hj
    obtain ⟨cL,c0,c1,c2,c3,c4,c5⟩ := bl6 (KL.blk hj (.tail _ (.tail _ (.tail _ (.tail _ (.head _))))))
    have cF := (KL.blk hj (.tail _ (.tail _ (.tail _ (.tail _ (.head _)))))).frozen
    show wpOp _ _ _ 4 _ ⟨#[_,_,_,_,_,_,_,_,_,_,_,_,_,_,_,_,_,_,_,_,_,_,_,_,_,_,_,_,_,_,_,_,_,_,_,_,_,_,_,_,_,_,_,_,_,_,_,_,_,_,_,_,_,_,_,o 0,.agg #[.int .i64 0,.int .i64 0,.int .i64 0,.int .i64 0,.int .i64 0,.int .i64 0],o 2],[]⟩ W
    refine wpOp_step rfl fun _ hK => ?_
    go_simp
    exact hK _ _ ⟨rfl,(KL.up6 4 hj rfl (by omega) (by simp <;> omega))⟩
   ·intro o W hj
    have hj : KL _ _ W := hj
    obtain ⟨cL,c0,c1,c2,c3,c4,c5⟩ := bl6 (KL.blk hj (.tail _ (.tail _ (.tail _ (.head _)))))
    have cF := (KL.blk hj (.tail _ (.tail _ (.tail _ (.head _))))).frozen
    show wpOp _ _ _ 5 _ ⟨#[_,_,_,_,_,_,_,_,_,_,_,_,_,_,_,_,_,_,_,_,_,_,_,_,_,_,_,_,_,_,_,_,_,_,_,_,_,_,_,_,_,_,_,_,_,_,_,_,_,_,_,_,_,_,_,o 0,o 1,.agg #[x,y,.int .i64 (t + k),p,q,r]],[]⟩ W
    refine wpOp_step rfl fun _ hK => ?_
    go_simp
    exact hK _ _ ⟨rfl,(KL.up6 3 hj rfl (by omega) (by simp <;> omega))⟩
   ·intro o hh_
    have e0 : o 0 = .agg #[x,y,z,p,q,t] := hh_ 0 (by decide)
    have e1 : o 1 = .agg #[.int .i64 0,.int .i64 0,.int .i64 0,.int .i64 0,.int .i64 0,.int .i64 0] := hh_ 1 (by decide)
    have e2 : o 2 = .agg #[x,y,.int .i64 (t + k),p,q,r] := hh_ 2 (by decide)
    rw [e0,e1,e2]
   ·intro W3 h3
    have h3 : KL _ _ W3 := h3
    obtain ⟨dL0,d0_0,d0_1,d0_2,d0_3,d0_4,d0_5⟩ := bl6 (KL.blk h3 (.head _))
    have dF0 := (KL.blk h3 (.head _)).frozen
    obtain ⟨dL1,d1_0,d1_1,d1_2,d1_3,d1_4,d1_5⟩ := bl6 (KL.blk h3 (.tail _ (.head _)))
    have dF1 := (KL.blk h3 (.tail _ (.head _))).frozen
    obtain ⟨dL2,d2_0,d2_1,d2_2,d2_3,d2_4,d2_5⟩ := bl6 (KL.blk h3 (.tail _ (.tail _ (.head _))))
    have dF2 := (KL.blk h3 (.tail _ (.tail _ (.head _)))).frozen
    obtain ⟨dL3,d3_0,d3_1,d3_2,d3_3,d3_4,d3_5⟩ := bl6 (KL.blk h3 (.tail _ (.tail _ (.tail _ (.head _)))))
    obtain ⟨dL4,d4_0,d4_1,d4_2,d4_3,d4_4,d4_5⟩ := bl6 (KL.blk h3 (.tail _ (.tail _ (.tail _ (.tail _ (.head _))))))
    obtain ⟨dL5,d5_0,d5_1,d5_2,d5_3,d5_4,d5_5⟩ := bl6 (KL.blk h3 (.tail _ (.tail _ (.tail _ (.tail _ (.tail _ (.head _)))))))
    obtain ⟨dL6,d6_0,d6_1,d6_2⟩ := bl3 (KL.blk h3 (.tail _ (.tail _ (.tail _ (.tail _ (.tail _ (.tail _ (.head _))))))))
    obtain ⟨dL7,d7_0,d7_1,d7_2,d7_3,d7_4,d7_5⟩ := bl6 (KL.blk h3 (.tail _ (.tail _ (.tail _ (.tail _ (.tail _ (.tail _ (.tail _ (.head _)))))))))
    have hjb := h3.1
    have hjz := hjb.size
    go_wp2
    exact bodyPost_ret (v := .tuple #[.agg #[x,y,z,p,q,t],.agg #[.int .i64 0,.int .i64 0,.int .i64 0,.int .i64 0,.int .i64 0,.int .i64 0],.agg #[x,y,.int .i64 (t + k),p,q,r]]) (by simp [results,Try.results18,go_sem,d5_0,d5_1,d5_2,d5_3,d5_4,d5_5,d4_0,d4_1,d4_2,d4_3,d4_4,d4_5,d3_0,d3_1,d3_2,d3_3,d3_4,d3_5]) rfl ⟨rfl,hjb⟩
set_option maxHeartbeats 16000000 in
set_option maxRecDepth 100000 in
theorem rSplit2p (x y z p q r t k : Int) (hv : eB x y z p q r = 0) (ho : okI z r t k = 0) (hkp : 0 < k) (w : World) :
  Calls Try.prog 18 #[.agg #[x,y,z,p,q,r],.agg #[.int .i64 2,t,k]] w fun e w' => e = .returned (.tuple #[.agg #[x,y,z,p,q,t],.agg #[x,y,t,p,q,.int .i64 (t + k)],.agg #[x,y,.int .i64 (t + k),p,q,r]]) ∧ Below w.heap.size w w' := by
 obtain ⟨⟨a1,a2,a3⟩,⟨a4,a5,a6⟩,⟨a7,a8,a9⟩⟩ := eB_bd hv
 obtain ⟨b1,b2,b3⟩ := okI_z ho
 obtain ⟨b4,b5⟩ := rgB_iff.1 b1
 clear hv ho b1
 have hw : IntKind.i64.wrap (t + k) = t + k := IntWalk.i64_in _ (by omega)
 have d1 : (k == 0) = false := by simp <;> omega
 
 go_enter Try.func18,Try.ntmps18
 go_wp2
 refine wp_region_any (by kernel_rfl) ?_
 try (change wpAny _ _ _ _ _ _ _ (World.drew _))
 refine wpAny_alloc (fr := fun o => #[.agg #[x,y,z,p,q,r],.agg #[.int .i64 2,t,k],.pointer (some ⟨w.heap.size,0,none⟩),.pointer (some ⟨(w.heap.size + 1),0,none⟩),.pointer (some ⟨(w.heap.size + 1 + 1),0,none⟩),.pointer (some ⟨(w.heap.size + 1 + 1 + 1),0,none⟩),.pointer (some ⟨(w.heap.size + 1 + 1 + 1 + 1),0,none⟩),o 3,o 4,o 5,o 0,o 1,o 2,undef,undef,undef,undef,undef,undef,undef,undef,undef,undef,undef,undef,undef,undef,undef,undef,undef,undef,undef,undef,undef,undef,undef,undef,undef,undef,undef,undef,undef,undef,undef,undef,undef,undef,undef,undef,undef,undef,undef,undef,undef,undef,undef,undef,undef]) (vals := fun i_ => ([.agg #[x,y,z,p,q,r],.agg #[x,y,z,p,q,r],.agg #[x,y,z,p,q,r],undef,undef,undef,undef,undef,undef] : List Value).getD i_ undef) (K := fun W_ => KL [((w.heap.size + 1 + 1 + 1 + 1),25,#[.int .i64 0,.int .i64 0,.int .i64 0,.int .i64 0,.int .i64 0,.int .i64 0]),((w.heap.size + 1 + 1 + 1),25,#[.int .i64 0,.int .i64 0,.int .i64 0,.int .i64 0,.int .i64 0,.int .i64 0]),((w.heap.size + 1 + 1),25,#[.int .i64 0,.int .i64 0,.int .i64 0,.int .i64 0,.int .i64 0,.int .i64 0]),((w.heap.size + 1),27,#[.int .i64 2,t,k]),(w.heap.size,25,#[x,y,z,p,q,r])] w W_) (dep := fun i_ => [[],[],[],[],[],[],[0,3,4,5],[0,1,3,4,5,6],[0,1,2,3,4,5,6,7]].getD i_ []) (dv := fun i_ => [[],[],[],[],[],[],[0],[1],[2]].getD i_ []) (kd := fun i_ => [1,1,1,2,2,2,3,4,5].getD i_ 0) (sa := fun i_ => [3,4,5].getD i_ 0) (ss := [6,7,8]) (al := [3,4,5]) (l := [0,1,2,3,4,5,6,7,8]) (f0 := fun i_ => ([undef,undef,undef,undef,undef,undef,undef,undef,undef] : List Value).getD i_ undef) (B := w.heap.size + 1 + 1 + 1 + 1 + 1) (T := 25) (z := #[.int .i64 0,.int .i64 0,.int .i64 0,.int .i64 0,.int .i64 0,.int .i64 0]) (cont := fun t_ j_ => if j_ = 3 then (if 0 < t_ then #[x,y,z,p,q,r] else #[.int .i64 0,.int .i64 0,.int .i64 0,.int .i64 0,.int .i64 0,.int .i64 0]) else if j_ = 4 then (if 1 < t_ then #[x,y,z,p,q,r] else #[.int .i64 0,.int .i64 0,.int .i64 0,.int .i64 0,.int .i64 0,.int .i64 0]) else if j_ = 5 then (if 2 < t_ then #[x,y,z,p,q,r] else #[.int .i64 0,.int .i64 0,.int .i64 0,.int .i64 0,.int .i64 0,.int .i64 0]) else #[.int .i64 0,.int .i64 0,.int .i64 0,.int .i64 0,.int .i64 0,.int .i64 0]) (A := fun g_ => ⟨#[.agg #[x,y,z,p,q,r],.agg #[.int .i64 2,t,k],.pointer (some ⟨w.heap.size,0,none⟩),.pointer (some ⟨(w.heap.size + 1),0,none⟩),.pointer (some ⟨(w.heap.size + 1 + 1),0,none⟩),.pointer (some ⟨(w.heap.size + 1 + 1 + 1),0,none⟩),.pointer (some ⟨(w.heap.size + 1 + 1 + 1 + 1),0,none⟩),ptrV (g_ 3),ptrV (g_ 4),ptrV (g_ 5),.agg #[x,y,z,p,q,r],.agg #[x,y,z,p,q,r],.agg #[x,y,z,p,q,r],undef,undef,undef,undef,undef,undef,undef,undef,undef,undef,undef,undef,undef,undef,undef,undef,undef,undef,undef,undef,undef,undef,undef,undef,undef,undef,undef,undef,undef,undef,undef,undef,undef,undef,undef,undef,undef,undef,undef,undef,undef,undef,undef,undef,undef],[]⟩) 9 rfl rfl (by decide +kernel) (by decide +kernel) ?_ ?_ ?_ ?_ (fun _ h_ => KL.alloc h_ _) ⟨?_,?_,?_,?_,?_,?_,?_,?_,?_,trivial⟩ ?_ ?_
 ·exact KL.drew (KL.new (g := (w.heap.size + 1 + 1 + 1 + 1)) (KL.new (g := (w.heap.size + 1 + 1 + 1)) (KL.new (g := (w.heap.size + 1 + 1)) (KL.new (g := (w.heap.size + 1)) (KL.new (g := w.heap.size) (KL.nil w) rfl _ _) (by simp) _ _) (by simp) _ _) (by simp) _ _) (by simp) _ _)
 ·first | exact Nat.le_refl _ | (simp; done) | (simp <;> omega)
 ·intro j_ hj_; simp only [List.mem_cons,List.not_mem_nil,or_false] at hj_; rcases hj_ with rfl | rfl | rfl <;> rfl
 ·intro t_ ht_ j_ hj_ hn_; simp only [List.mem_cons,List.not_mem_nil,or_false] at hj_; rcases hj_ with rfl | rfl | rfl <;> rcases t_ with _ | _ | _ | _ <;> first | rfl | exact absurd rfl hn_ | exact absurd ht_ (by simp)
 ·intro o W hj
  have hj : KL _ _ W := hj
  obtain ⟨cL,c0,c1,c2,c3,c4,c5⟩ := bl6 (KL.blk hj (.tail _ (.tail _ (.tail _ (.tail _ (.head _))))))
  show wpOp _ _ _ 0 _ ⟨⟨_::_::_::_::_::_::_::o 3::o 4::o 5::o 0::o 1::o 2::_⟩,[]⟩ W
  refine wpOp_step rfl fun _ hK => ?_
  go_simp
  exact hK _ _ ⟨rfl,hj,Below.refl _ _⟩
 ·intro o W hj
  have hj : KL _ _ W := hj
  obtain ⟨cL,c0,c1,c2,c3,c4,c5⟩ := bl6 (KL.blk hj (.tail _ (.tail _ (.tail _ (.tail _ (.head _))))))
  show wpOp _ _ _ 1 _ ⟨⟨_::_::_::_::_::_::_::o 3::o 4::o 5::o 0::o 1::o 2::_⟩,[]⟩ W
  refine wpOp_step rfl fun _ hK => ?_
  go_simp
  exact hK _ _ ⟨rfl,hj,Below.refl _ _⟩
 ·intro o W hj
  have hj : KL _ _ W := hj
  obtain ⟨cL,c0,c1,c2,c3,c4,c5⟩ := bl6 (KL.blk hj (.tail _ (.tail _ (.tail _ (.tail _ (.head _))))))
  show wpOp _ _ _ 2 _ ⟨⟨_::_::_::_::_::_::_::o 3::o 4::o 5::o 0::o 1::o 2::_⟩,[]⟩ W
  refine wpOp_step rfl fun _ hK => ?_
  go_simp
  exact hK _ _ ⟨rfl,hj,Below.refl _ _⟩
 ·intro o W
  show wpOp _ _ _ 3 _ ⟨⟨_::_::_::_::_::_::_::o 3::o 4::o 5::o 0::o 1::o 2::_⟩,[]⟩ W
  refine wpOp_step rfl fun _ hK => ?_
  go_simp
  exact hK _ _ ⟨rfl,rfl⟩
 ·intro o W
  show wpOp _ _ _ 4 _ ⟨⟨_::_::_::_::_::_::_::o 3::o 4::o 5::o 0::o 1::o 2::_⟩,[]⟩ W
  refine wpOp_step rfl fun _ hK => ?_
  go_simp
  exact hK _ _ ⟨rfl,rfl⟩
 ·intro o W
  show wpOp _ _ _ 5 _ ⟨⟨_::_::_::_::_::_::_::o 3::o 4::o 5::o 0::o 1::o 2::_⟩,[]⟩ W
  refine wpOp_step rfl fun _ hK => ?_
  go_simp
  exact hK _ _ ⟨rfl,rfl⟩
 ·intro o W g_ hj hg_ hb_
  have hj : KL _ _ W := hj
  have hb_ : Blk W g_ 25 #[.int .i64 0,.int .i64 0,.int .i64 0,.int .i64 0,.int .i64 0,.int .i64 0] := hb_
  obtain ⟨cL,c0,c1,c2,c3,c4,c5⟩ := bl6 hb_
  have cF := hb_.frozen
  show wpOp _ _ _ 6 _ ⟨⟨_::_::_::_::_::_::_::.pointer (some ⟨g_,0,none⟩)::o 4::o 5::.agg #[x,y,z,p,q,r]::o 1::o 2::_⟩,[]⟩ W
  refine wpOp_step rfl fun _ hK => ?_
  go_simp
  exact hK _ _ ⟨rfl,st6 hj (by omega) (by simp <;> omega) hb_⟩
 ·intro o W g_ hj hg_ hb_
  have hj : KL _ _ W := hj
  have hb_ : Blk W g_ 25 #[.int .i64 0,.int .i64 0,.int .i64 0,.int .i64 0,.int .i64 0,.int .i64 0] := hb_
  obtain ⟨cL,c0,c1,c2,c3,c4,c5⟩ := bl6 hb_
  have cF := hb_.frozen
  show wpOp _ _ _ 7 _ ⟨⟨_::_::_::_::_::_::_::o 3::.pointer (some ⟨g_,0,none⟩)::o 5::o 0::.agg #[x,y,z,p,q,r]::o 2::_⟩,[]⟩ W
  refine wpOp_step rfl fun _ hK => ?_
  go_simp
  exact hK _ _ ⟨rfl,st6 hj (by omega) (by simp <;> omega) hb_⟩
 ·intro o W g_ hj hg_ hb_
  have hj : KL _ _ W := hj
  have hb_ : Blk W g_ 25 #[.int .i64 0,.int .i64 0,.int .i64 0,.int .i64 0,.int .i64 0,.int .i64 0] := hb_
  obtain ⟨cL,c0,c1,c2,c3,c4,c5⟩ := bl6 hb_
  have cF := hb_.frozen
  show wpOp _ _ _ 8 _ ⟨⟨_::_::_::_::_::_::_::o 3::o 4::.pointer (some ⟨g_,0,none⟩)::o 0::o 1::.agg #[x,y,z,p,q,r]::_⟩,[]⟩ W
  refine wpOp_step rfl fun _ hK => ?_
  go_simp
  exact hK _ _ ⟨rfl,st6 hj (by omega) (by simp <;> omega) hb_⟩
 ·intro o g_ hh_ hp_
  have e0 : o 0 = .agg #[x,y,z,p,q,r] := hh_ 0 (by decide) (by simp)
  have e1 : o 1 = .agg #[x,y,z,p,q,r] := hh_ 1 (by decide) (by simp)
  have e2 : o 2 = .agg #[x,y,z,p,q,r] := hh_ 2 (by decide) (by simp)
  have e3 : o 3 = ptrV (g_ 3) := hp_ 3 (by simp)
  have e4 : o 4 = ptrV (g_ 4) := hp_ 4 (by simp)
  have e5 : o 5 = ptrV (g_ 5) := hp_ 5 (by simp)
  rw [e0,e1,e2,e3,e4,e5]
 ·intro W1 g_ h1 ho_ hn_
  have h1 : KL _ _ W1 := h1
  obtain ⟨bg3,Bg3⟩ := ho_ 3 (by simp)
  have Bg3 : Blk W1 (g_ 3) 25 #[x,y,z,p,q,r] := Bg3
  obtain ⟨bg4,Bg4⟩ := ho_ 4 (by simp)
  have Bg4 : Blk W1 (g_ 4) 25 #[x,y,z,p,q,r] := Bg4
  obtain ⟨bg5,Bg5⟩ := ho_ 5 (by simp)
  have Bg5 : Blk W1 (g_ 5) 25 #[x,y,z,p,q,r] := Bg5
  have ng3g4 := hn_ 3 (by simp) 4 (by simp) (by decide)
  have ng3g5 := hn_ 3 (by simp) 5 (by simp) (by decide)
  have ng4g5 := hn_ 4 (by simp) 5 (by simp) (by decide)
  clear ho_ hn_
  dsimp only [ptrV]
  generalize g_ 3 = g3 at *
  generalize g_ 4 = g4 at *
  generalize g_ 5 = g5 at *
  have h1 := KL.cons Bg3 h1
  have h1 := KL.cons Bg4 h1
  have h1 := KL.cons Bg5 h1
  clear Bg3 Bg4 Bg5
  obtain ⟨aL0,a0_0,a0_1,a0_2,a0_3,a0_4,a0_5⟩ := bl6 (KL.blk h1 (.head _))
  have aF0 := (KL.blk h1 (.head _)).frozen
  obtain ⟨aL1,a1_0,a1_1,a1_2,a1_3,a1_4,a1_5⟩ := bl6 (KL.blk h1 (.tail _ (.head _)))
  have aF1 := (KL.blk h1 (.tail _ (.head _))).frozen
  obtain ⟨aL2,a2_0,a2_1,a2_2,a2_3,a2_4,a2_5⟩ := bl6 (KL.blk h1 (.tail _ (.tail _ (.head _))))
  have aF2 := (KL.blk h1 (.tail _ (.tail _ (.head _)))).frozen
  obtain ⟨aL3,a3_0,a3_1,a3_2,a3_3,a3_4,a3_5⟩ := bl6 (KL.blk h1 (.tail _ (.tail _ (.tail _ (.head _)))))
  obtain ⟨aL4,a4_0,a4_1,a4_2,a4_3,a4_4,a4_5⟩ := bl6 (KL.blk h1 (.tail _ (.tail _ (.tail _ (.tail _ (.head _))))))
  obtain ⟨aL5,a5_0,a5_1,a5_2,a5_3,a5_4,a5_5⟩ := bl6 (KL.blk h1 (.tail _ (.tail _ (.tail _ (.tail _ (.tail _ (.head _)))))))
  obtain ⟨aL6,a6_0,a6_1,a6_2⟩ := bl3 (KL.blk h1 (.tail _ (.tail _ (.tail _ (.tail _ (.tail _ (.tail _ (.head _))))))))
  obtain ⟨aL7,a7_0,a7_1,a7_2,a7_3,a7_4,a7_5⟩ := bl6 (KL.blk h1 (.tail _ (.tail _ (.tail _ (.tail _ (.tail _ (.tail _ (.tail _ (.head _)))))))))
  have hjb := h1.1
  have hjz := hjb.size
  go_wp2_with (go_at_call 47; refine (put2 _ _ _ _ _).mono ?_; rintro e w1 ⟨rfl,hb1⟩; obtain ⟨hc1,hf1⟩ := bcell hb1; have hz1 := hb1.size; (try simp at hz1); (try have y10 : w.heap.size < w1.heap.size := (by omega)); (try have y10p : w.heap.size < w1.heap.size + 1 := (by omega)); (try have y11 : w.heap.size + 1 < w1.heap.size := (by omega)); (try have y11p : w.heap.size + 1 < w1.heap.size + 1 := (by omega)); (try have y12 : w.heap.size + 1 + 1 < w1.heap.size := (by omega)); (try have y12p : w.heap.size + 1 + 1 < w1.heap.size + 1 := (by omega)); (try have y13 : w.heap.size + 1 + 1 + 1 < w1.heap.size := (by omega)); (try have y13p : w.heap.size + 1 + 1 + 1 < w1.heap.size + 1 := (by omega)); (try have y14 : w.heap.size + 1 + 1 + 1 + 1 < w1.heap.size := (by omega)); (try have y14p : w.heap.size + 1 + 1 + 1 + 1 < w1.heap.size + 1 := (by omega)); (try have v0x1 : w0.heap.size < w1.heap.size := (by omega)); (try have v0x1p : w0.heap.size < w1.heap.size + 1 := (by omega)))
  refine wp_region_any (by kernel_rfl) ?_
  try (change wpAny _ _ _ _ _ _ _ (World.drew _))
  refine wpAny_vals (fr := fun o => #[.agg #[x,y,z,p,q,r],.agg #[.int .i64 2,t,k],.pointer (some ⟨w.heap.size,0,none⟩),.pointer (some ⟨(w.heap.size + 1),0,none⟩),.pointer (some ⟨(w.heap.size + 1 + 1),0,none⟩),.pointer (some ⟨(w.heap.size + 1 + 1 + 1),0,none⟩),.pointer (some ⟨(w.heap.size + 1 + 1 + 1 + 1),0,none⟩),.pointer (some ⟨g3,0,none⟩),.pointer (some ⟨g4,0,none⟩),.pointer (some ⟨g5,0,none⟩),.agg #[x,y,z,p,q,r],.agg #[x,y,z,p,q,r],.agg #[x,y,z,p,q,r],.pointer (some ⟨w.heap.size,3,none⟩),.agg #[p,q,r],.pointer (some ⟨(w.heap.size + 1),0,none⟩),.int .i64 2,.pointer (some ⟨(w.heap.size + 1),1,none⟩),.int .i64 t,.agg #[p,q,t],.pointer (some ⟨g3,3,none⟩),o 0,o 1,o 2,o 3,o 4,o 5,o 6,o 7,o 8,o 9,o 10,o 11,o 12,o 13,o 14,o 15,o 16,o 17,o 19,undef,undef,undef,undef,undef,undef,undef,undef,undef,undef,undef,undef,undef,undef,undef,undef,undef,undef]) (vals := fun i_ => ([.pointer (some ⟨w.heap.size,0,none⟩),.agg #[x,y,z],.pointer (some ⟨(w.heap.size + 1),0,none⟩),.int .i64 2,.pointer (some ⟨(w.heap.size + 1),1,none⟩),.int .i64 t,.agg #[x,y,t],.pointer (some ⟨w.heap.size,3,none⟩),.agg #[p,q,r],.pointer (some ⟨(w.heap.size + 1),0,none⟩),.int .i64 2,.pointer (some ⟨(w.heap.size + 1),1,none⟩),.int .i64 t,.pointer (some ⟨(w.heap.size + 1),2,none⟩),.int .i64 k,.int .i64 (t + k),.agg #[p,q,.int .i64 (t + k)],.pointer (some ⟨g4,0,none⟩),undef,.pointer (some ⟨g4,3,none⟩),undef] : List Value).getD i_ undef) (Kf := fun W_ => KL [(g5,25,#[x,y,z,p,q,r]),(g3,25,#[x,y,z,p,q,t]),((w.heap.size + 1 + 1 + 1 + 1),25,#[.int .i64 0,.int .i64 0,.int .i64 0,.int .i64 0,.int .i64 0,.int .i64 0]),((w.heap.size + 1 + 1 + 1),25,#[.int .i64 0,.int .i64 0,.int .i64 0,.int .i64 0,.int .i64 0,.int .i64 0]),((w.heap.size + 1 + 1),25,#[.int .i64 0,.int .i64 0,.int .i64 0,.int .i64 0,.int .i64 0,.int .i64 0]),((w.heap.size + 1),27,#[.int .i64 2,t,k]),(w.heap.size,25,#[x,y,z,p,q,r])] w W_) (K := fun kk_ => ([(KL [(g5,25,#[x,y,z,p,q,r]),(g4,25,#[x,y,z,p,q,r]),(g3,25,#[x,y,z,p,q,t]),((w.heap.size + 1 + 1 + 1 + 1),25,#[.int .i64 0,.int .i64 0,.int .i64 0,.int .i64 0,.int .i64 0,.int .i64 0]),((w.heap.size + 1 + 1 + 1),25,#[.int .i64 0,.int .i64 0,.int .i64 0,.int .i64 0,.int .i64 0,.int .i64 0]),((w.heap.size + 1 + 1),25,#[.int .i64 0,.int .i64 0,.int .i64 0,.int .i64 0,.int .i64 0,.int .i64 0]),((w.heap.size + 1),27,#[.int .i64 2,t,k]),(w.heap.size,25,#[x,y,z,p,q,r])] w),(KL [(g5,25,#[x,y,z,p,q,r]),(g4,25,#[x,y,t,p,q,r]),(g3,25,#[x,y,z,p,q,t]),((w.heap.size + 1 + 1 + 1 + 1),25,#[.int .i64 0,.int .i64 0,.int .i64 0,.int .i64 0,.int .i64 0,.int .i64 0]),((w.heap.size + 1 + 1 + 1),25,#[.int .i64 0,.int .i64 0,.int .i64 0,.int .i64 0,.int .i64 0,.int .i64 0]),((w.heap.size + 1 + 1),25,#[.int .i64 0,.int .i64 0,.int .i64 0,.int .i64 0,.int .i64 0,.int .i64 0]),((w.heap.size + 1),27,#[.int .i64 2,t,k]),(w.heap.size,25,#[x,y,z,p,q,r])] w),(KL [(g5,25,#[x,y,z,p,q,r]),(g4,25,#[x,y,t,p,q,.int .i64 (t + k)]),(g3,25,#[x,y,z,p,q,t]),((w.heap.size + 1 + 1 + 1 + 1),25,#[.int .i64 0,.int .i64 0,.int .i64 0,.int .i64 0,.int .i64 0,.int .i64 0]),((w.heap.size + 1 + 1 + 1),25,#[.int .i64 0,.int .i64 0,.int .i64 0,.int .i64 0,.int .i64 0,.int .i64 0]),((w.heap.size + 1 + 1),25,#[.int .i64 0,.int .i64 0,.int .i64 0,.int .i64 0,.int .i64 0,.int .i64 0]),((w.heap.size + 1),27,#[.int .i64 2,t,k]),(w.heap.size,25,#[x,y,z,p,q,r])] w)] : List (World → Prop)).getD kk_ (fun _ => True)) (dep := fun i_ => [[],[0],[],[2],[],[4],[1,3,5],[],[7],[],[9],[],[11],[],[13],[12,14],[8,10,15],[],[1,3,5,6,16,17],[],[16,18,19]].getD i_ []) (dv := fun i_ => [[],[0],[],[2],[],[4],[1,3,5],[],[7],[],[9],[],[11],[],[13],[12,14],[8,10,15],[],[6,17],[],[16,19]].getD i_ []) (kd := fun i_ => [0,1,0,1,0,1,1,0,0,0,0,0,0,0,0,0,1,0,2,0,3].getD i_ 0) (ss := [18,20]) (l := [0,1,2,3,4,5,6,7,8,9,10,11,12,13,14,15,16,17,18,19,20]) (f0 := fun _ => undef) (A := ?A12) 21 rfl rfl (by decide +kernel) (by decide +kernel) ?_ ?_ ⟨?_,?_,?_,?_,?_,?_,?_,?_,?_,?_,?_,?_,?_,?_,?_,?_,?_,?_,?_,?_,?_,trivial⟩ ?_ ?_
  rotate_left
  ·exact KL.drew (KL.upH 2 (KL.over h1 hb1) rfl (by omega) (by simp <;> omega))
  ·intro t_ W ht_ hh_
   rcases t_ with _ | _ | _ | _
   ·exact KL.part hh_ (fun p_ hp_ => by simp only [List.mem_cons,List.not_mem_nil,or_false] at hp_; rcases hp_ with rfl | rfl | rfl | rfl | rfl | rfl | rfl; exact (.head _); exact (.tail _ (.tail _ (.head _))); exact (.tail _ (.tail _ (.tail _ (.head _)))); exact (.tail _ (.tail _ (.tail _ (.tail _ (.head _))))); exact (.tail _ (.tail _ (.tail _ (.tail _ (.tail _ (.head _)))))); exact (.tail _ (.tail _ (.tail _ (.tail _ (.tail _ (.tail _ (.head _))))))); exact (.tail _ (.tail _ (.tail _ (.tail _ (.tail _ (.tail _ (.tail _ (.head _)))))))))
   ·exact KL.part hh_ (fun p_ hp_ => by simp only [List.mem_cons,List.not_mem_nil,or_false] at hp_; rcases hp_ with rfl | rfl | rfl | rfl | rfl | rfl | rfl; exact (.head _); exact (.tail _ (.tail _ (.head _))); exact (.tail _ (.tail _ (.tail _ (.head _)))); exact (.tail _ (.tail _ (.tail _ (.tail _ (.head _))))); exact (.tail _ (.tail _ (.tail _ (.tail _ (.tail _ (.head _)))))); exact (.tail _ (.tail _ (.tail _ (.tail _ (.tail _ (.tail _ (.head _))))))); exact (.tail _ (.tail _ (.tail _ (.tail _ (.tail _ (.tail _ (.tail _ (.head _)))))))))
   ·exact KL.part hh_ (fun p_ hp_ => by simp only [List.mem_cons,List.not_mem_nil,or_false] at hp_; rcases hp_ with rfl | rfl | rfl | rfl | rfl | rfl | rfl; exact (.head _); exact (.tail _ (.tail _ (.head _))); exact (.tail _ (.tail _ (.tail _ (.head _)))); exact (.tail _ (.tail _ (.tail _ (.tail _ (.head _))))); exact (.tail _ (.tail _ (.tail _ (.tail _ (.tail _ (.head _)))))); exact (.tail _ (.tail _ (.tail _ (.tail _ (.tail _ (.tail _ (.head _))))))); exact (.tail _ (.tail _ (.tail _ (.tail _ (.tail _ (.tail _ (.tail _ (.head _)))))))))
   ·exact absurd ht_ (by simp)
  ·intro o W _
   show wpOp _ _ _ 0 _ ⟨#[_,_,_,_,_,_,_,_,_,_,_,_,_,_,_,_,_,_,_,_,_,o 0,o 1,o 2,o 3,o 4,o 5,o 6,o 7,o 8,o 9,o 10,o 11,o 12,o 13,o 14,o 15,o 16,o 17,o 19,_,_,_,_,_,_,_,_,_,_,_,_,_,_,_,_,_,_],[]⟩ W
   refine wpOp_step rfl fun _ hK => ?_
   go_simp
   exact hK _ _ ⟨rfl,rfl⟩
  ·intro o W hj
   have hj : KL _ _ W := hj
   obtain ⟨cL,c0,c1,c2,c3,c4,c5⟩ := bl6 (KL.blk hj (.tail _ (.tail _ (.tail _ (.tail _ (.tail _ (.tail _ (.tail _ (.head _)))))))))
   show wpOp _ _ _ 1 _ ⟨#[_,_,_,_,_,_,_,_,_,_,_,_,_,_,_,_,_,_,_,_,_,.pointer (some ⟨w.heap.size,0,none⟩),o 1,o 2,o 3,o 4,o 5,o 6,o 7,o 8,o 9,o 10,o 11,o 12,o 13,o 14,o 15,o 16,o 17,o 19,_,_,_,_,_,_,_,_,_,_,_,_,_,_,_,_,_,_],[]⟩ W
   refine wpOp_step rfl fun _ hK => ?_
   go_simp
   exact hK _ _ ⟨rfl,hj⟩
  ·intro o W _
   show wpOp _ _ _ 2 _ ⟨#[_,_,_,_,_,_,_,_,_,_,_,_,_,_,_,_,_,_,_,_,_,o 0,o 1,o 2,o 3,o 4,o 5,o 6,o 7,o 8,o 9,o 10,o 11,o 12,o 13,o 14,o 15,o 16,o 17,o 19,_,_,_,_,_,_,_,_,_,_,_,_,_,_,_,_,_,_],[]⟩ W
   refine wpOp_step rfl fun _ hK => ?_
   go_simp
   exact hK _ _ ⟨rfl,rfl⟩
  ·intro o W hj
   have hj : KL _ _ W := hj
   obtain ⟨cL,c0,c1,c2⟩ := bl3 (KL.blk hj (.tail _ (.tail _ (.tail _ (.tail _ (.tail _ (.tail _ (.head _))))))))
   show wpOp _ _ _ 3 _ ⟨#[_,_,_,_,_,_,_,_,_,_,_,_,_,_,_,_,_,_,_,_,_,o 0,o 1,.pointer (some ⟨(w.heap.size + 1),0,none⟩),o 3,o 4,o 5,o 6,o 7,o 8,o 9,o 10,o 11,o 12,o 13,o 14,o 15,o 16,o 17,o 19,_,_,_,_,_,_,_,_,_,_,_,_,_,_,_,_,_,_],[]⟩ W
   refine wpOp_step rfl fun _ hK => ?_
   go_simp
   exact hK _ _ ⟨rfl,hj⟩
  ·intro o W _
   show wpOp _ _ _ 4 _ ⟨#[_,_,_,_,_,_,_,_,_,_,_,_,_,_,_,_,_,_,_,_,_,o 0,o 1,o 2,o 3,o 4,o 5,o 6,o 7,o 8,o 9,o 10,o 11,o 12,o 13,o 14,o 15,o 16,o 17,o 19,_,_,_,_,_,_,_,_,_,_,_,_,_,_,_,_,_,_],[]⟩ W
   refine wpOp_step rfl fun _ hK => ?_
   go_simp
   exact hK _ _ ⟨rfl,rfl⟩
  ·intro o W hj
   have hj : KL _ _ W := hj
   obtain ⟨cL,c0,c1,c2⟩ := bl3 (KL.blk hj (.tail _ (.tail _ (.tail _ (.tail _ (.tail _ (.tail _ (.head _))))))))
   show wpOp _ _ _ 5 _ ⟨#[_,_,_,_,_,_,_,_,_,_,_,_,_,_,_,_,_,_,_,_,_,o 0,o 1,o 2,o 3,.pointer (some ⟨(w.heap.size + 1),1,none⟩),o 5,o 6,o 7,o 8,o 9,o 10,o 11,o 12,o 13,o 14,o 15,o 16,o 17,o 19,_,_,_,_,_,_,_,_,_,_,_,_,_,_,_,_,_,_],[]⟩ W
   refine wpOp_step rfl fun _ hK => ?_
   go_simp
   exact hK _ _ ⟨rfl,hj⟩
  ·intro o W hj
   have hj : KL _ _ W := hj
   show wpOp _ _ _ 6 _ ⟨#[_,_,_,_,_,_,_,_,_,_,_,_,_,_,_,_,_,_,_,_,_,o 0,.agg #[x,y,z],o 2,.int .i64 2,o 4,.int .i64 t,o 6,o 7,o 8,o 9,o 10,o 11,o 12,o 13,o 14,o 15,o 16,o 17,o 19,_,_,_,_,_,_,_,_,_,_,_,_,_,_,_,_,_,_],[]⟩ W
   refine wpOp_step rfl fun _ hK => ?_
   go_simp
   refine (put2 _ _ _ _ _).mono ?_
   rintro e W1 ⟨rfl,hb1⟩
   exact hK _ _ ⟨rfl,hj.over hb1⟩
  ·intro o W _
   show wpOp _ _ _ 7 _ ⟨#[_,_,_,_,_,_,_,_,_,_,_,_,_,_,_,_,_,_,_,_,_,o 0,o 1,o 2,o 3,o 4,o 5,o 6,o 7,o 8,o 9,o 10,o 11,o 12,o 13,o 14,o 15,o 16,o 17,o 19,_,_,_,_,_,_,_,_,_,_,_,_,_,_,_,_,_,_],[]⟩ W
   refine wpOp_step rfl fun _ hK => ?_
   go_simp
   exact hK _ _ ⟨rfl,rfl⟩
  ·intro o W hj
   have hj : KL _ _ W := hj
   obtain ⟨cL,c0,c1,c2,c3,c4,c5⟩ := bl6 (KL.blk hj (.tail _ (.tail _ (.tail _ (.tail _ (.tail _ (.tail _ (.head _))))))))
   show wpOp _ _ _ 8 _ ⟨#[_,_,_,_,_,_,_,_,_,_,_,_,_,_,_,_,_,_,_,_,_,o 0,o 1,o 2,o 3,o 4,o 5,o 6,.pointer (some ⟨w.heap.size,3,none⟩),o 8,o 9,o 10,o 11,o 12,o 13,o 14,o 15,o 16,o 17,o 19,_,_,_,_,_,_,_,_,_,_,_,_,_,_,_,_,_,_],[]⟩ W
   refine wpOp_step rfl fun _ hK => ?_
   go_simp
   exact hK _ _ ⟨rfl,rfl⟩
  ·intro o W _
   show wpOp _ _ _ 9 _ ⟨#[_,_,_,_,_,_,_,_,_,_,_,_,_,_,_,_,_,_,_,_,_,o 0,o 1,o 2,o 3,o 4,o 5,o 6,o 7,o 8,o 9,o 10,o 11,o 12,o 13,o 14,o 15,o 16,o 17,o 19,_,_,_,_,_,_,_,_,_,_,_,_,_,_,_,_,_,_],[]⟩ W
   refine wpOp_step rfl fun _ hK => ?_
   go_simp
   exact hK _ _ ⟨rfl,rfl⟩
  ·intro o W hj
   have hj : KL _ _ W := hj
   obtain ⟨cL,c0,c1,c2⟩ := bl3 (KL.blk hj (.tail _ (.tail _ (.tail _ (.tail _ (.tail _ (.head _)))))))
   show wpOp _ _ _ 10 _ ⟨#[_,_,_,_,_,_,_,_,_,_,_,_,_,_,_,_,_,_,_,_,_,o 0,o 1,o 2,o 3,o 4,o 5,o 6,o 7,o 8,.pointer (some ⟨(w.heap.size + 1),0,none⟩),o 10,o 11,o 12,o 13,o 14,o 15,o 16,o 17,o 19,_,_,_,_,_,_,_,_,_,_,_,_,_,_,_,_,_,_],[]⟩ W
   refine wpOp_step rfl fun _ hK => ?_
   go_simp
   exact hK _ _ ⟨rfl,rfl⟩
  ·intro o W _
   show wpOp _ _ _ 11 _ ⟨#[_,_,_,_,_,_,_,_,_,_,_,_,_,_,_,_,_,_,_,_,_,o 0,o 1,o 2,o 3,o 4,o 5,o 6,o 7,o 8,o 9,o 10,o 11,o 12,o 13,o 14,o 15,o 16,o 17,o 19,_,_,_,_,_,_,_,_,_,_,_,_,_,_,_,_,_,_],[]⟩ W
   refine wpOp_step rfl fun _ hK => ?_
   go_simp
   exact hK _ _ ⟨rfl,rfl⟩
  ·intro o W hj
   have hj : KL _ _ W := hj
   obtain ⟨cL,c0,c1,c2⟩ := bl3 (KL.blk hj (.tail _ (.tail _ (.tail _ (.tail _ (.tail _ (.head _)))))))
   show wpOp _ _ _ 12 _ ⟨#[_,_,_,_,_,_,_,_,_,_,_,_,_,_,_,_,_,_,_,_,_,o 0,o 1,o 2,o 3,o 4,o 5,o 6,o 7,o 8,o 9,o 10,.pointer (some ⟨(w.heap.size + 1),1,none⟩),o 12,o 13,o 14,o 15,o 16,o 17,o 19,_,_,_,_,_,_,_,_,_,_,_,_,_,_,_,_,_,_],[]⟩ W
   refine wpOp_step rfl fun _ hK => ?_
   go_simp
   exact hK _ _ ⟨rfl,rfl⟩
  ·intro o W _
   show wpOp _ _ _ 13 _ ⟨#[_,_,_,_,_,_,_,_,_,_,_,_,_,_,_,_,_,_,_,_,_,o 0,o 1,o 2,o 3,o 4,o 5,o 6,o 7,o 8,o 9,o 10,o 11,o 12,o 13,o 14,o 15,o 16,o 17,o 19,_,_,_,_,_,_,_,_,_,_,_,_,_,_,_,_,_,_],[]⟩ W
   refine wpOp_step rfl fun _ hK => ?_
   go_simp
   exact hK _ _ ⟨rfl,rfl⟩
  ·intro o W hj
   have hj : KL _ _ W := hj
   obtain ⟨cL,c0,c1,c2⟩ := bl3 (KL.blk hj (.tail _ (.tail _ (.tail _ (.tail _ (.tail _ (.head _)))))))
   show wpOp _ _ _ 14 _ ⟨#[_,_,_,_,_,_,_,_,_,_,_,_,_,_,_,_,_,_,_,_,_,o 0,o 1,o 2,o 3,o 4,o 5,o 6,o 7,o 8,o 9,o 10,o 11,o 12,.pointer (some ⟨(w.heap.size + 1),2,none⟩),o 14,o 15,o 16,o 17,o 19,_,_,_,_,_,_,_,_,_,_,_,_,_,_,_,_,_,_],[]⟩ W
   refine wpOp_step rfl fun _ hK => ?_
   go_simp
   exact hK _ _ ⟨rfl,rfl⟩
  ·intro o W _
   show wpOp _ _ _ 15 _ ⟨#[_,_,_,_,_,_,_,_,_,_,_,_,_,_,_,_,_,_,_,_,_,o 0,o 1,o 2,o 3,o 4,o 5,o 6,o 7,o 8,o 9,o 10,o 11,.int .i64 t,o 13,.int .i64 k,o 15,o 16,o 17,o 19,_,_,_,_,_,_,_,_,_,_,_,_,_,_,_,_,_,_],[]⟩ W
   refine wpOp_step rfl fun _ hK => ?_
   go_simp
   exact hK _ _ ⟨rfl,rfl⟩
  ·intro o W hj
   have hj : KL _ _ W := hj
   show wpOp _ _ _ 16 _ ⟨#[_,_,_,_,_,_,_,_,_,_,_,_,_,_,_,_,_,_,_,_,_,o 0,o 1,o 2,o 3,o 4,o 5,o 6,o 7,.agg #[p,q,r],o 9,.int .i64 2,o 11,o 12,o 13,o 14,.int .i64 (t + k),o 16,o 17,o 19,_,_,_,_,_,_,_,_,_,_,_,_,_,_,_,_,_,_],[]⟩ W
   refine wpOp_step rfl fun _ hK => ?_
   go_simp
   refine (put2 _ _ _ _ _).mono ?_
   rintro e W1 ⟨rfl,hb1⟩
   exact hK _ _ ⟨rfl,hj.over hb1⟩
  ·intro o W _
   show wpOp _ _ _ 17 _ ⟨#[_,_,_,_,_,_,_,_,_,_,_,_,_,_,_,_,_,_,_,_,_,o 0,o 1,o 2,o 3,o 4,o 5,o 6,o 7,o 8,o 9,o 10,o 11,o 12,o 13,o 14,o 15,o 16,o 17,o 19,_,_,_,_,_,_,_,_,_,_,_,_,_,_,_,_,_,_],[]⟩ W
   refine wpOp_step rfl fun _ hK => ?_
   go_simp
   exact hK _ _ ⟨rfl,rfl⟩
  ·intro o W hj
   have hj : KL _ _ W := hj
   obtain ⟨cL,c0,c1,c2,c3,c4,c5⟩ := bl6 (KL.blk hj (.tail _ (.head _)))
   have cF := (KL.blk hj (.tail _ (.head _))).frozen
   show wpOp _ _ _ 18 _ ⟨#[_,_,_,_,_,_,_,_,_,_,_,_,_,_,_,_,_,_,_,_,_,o 0,o 1,o 2,o 3,o 4,o 5,.agg #[x,y,t],o 7,o 8,o 9,o 10,o 11,o 12,o 13,o 14,o 15,o 16,.pointer (some ⟨g4,0,none⟩),o 19,_,_,_,_,_,_,_,_,_,_,_,_,_,_,_,_,_,_],[]⟩ W
   refine wpOp_step rfl fun _ hK => ?_
   go_simp
   exact hK _ _ ⟨rfl,(KL.upL 1 hj rfl (by omega) (by simp <;> omega))⟩
  ·intro o W _
   show wpOp _ _ _ 19 _ ⟨#[_,_,_,_,_,_,_,_,_,_,_,_,_,_,_,_,_,_,_,_,_,o 0,o 1,o 2,o 3,o 4,o 5,o 6,o 7,o 8,o 9,o 10,o 11,o 12,o 13,o 14,o 15,o 16,o 17,o 19,_,_,_,_,_,_,_,_,_,_,_,_,_,_,_,_,_,_],[]⟩ W
   refine wpOp_step rfl fun _ hK => ?_
   go_simp
   exact hK _ _ ⟨rfl,rfl⟩
  ·intro o W hj
   have hj : KL _ _ W := hj
   obtain ⟨cL,c0,c1,c2,c3,c4,c5⟩ := bl6 (KL.blk hj (.tail _ (.head _)))
   have cF := (KL.blk hj (.tail _ (.head _))).frozen
   show wpOp _ _ _ 20 _ ⟨#[_,_,_,_,_,_,_,_,_,_,_,_,_,_,_,_,_,_,_,_,_,o 0,o 1,o 2,o 3,o 4,o 5,o 6,o 7,o 8,o 9,o 10,o 11,o 12,o 13,o 14,o 15,.agg #[p,q,.int .i64 (t + k)],o 17,.pointer (some ⟨g4,3,none⟩),_,_,_,_,_,_,_,_,_,_,_,_,_,_,_,_,_,_],[]⟩ W
   refine wpOp_step rfl fun _ hK => ?_
   go_simp
   exact hK _ _ ⟨rfl,(KL.upH 1 hj rfl (by omega) (by simp <;> omega))⟩
  ·intro o hh_
   have e0 : o 0 = .pointer (some ⟨w.heap.size,0,none⟩) := hh_ 0 (by decide)
   have e1 : o 1 = .agg #[x,y,z] := hh_ 1 (by decide)
   have e2 : o 2 = .pointer (some ⟨(w.heap.size + 1),0,none⟩) := hh_ 2 (by decide)
   have e3 : o 3 = .int .i64 2 := hh_ 3 (by decide)
   have e4 : o 4 = .pointer (some ⟨(w.heap.size + 1),1,none⟩) := hh_ 4 (by decide)
   have e5 : o 5 = .int .i64 t := hh_ 5 (by decide)
   have e6 : o 6 = .agg #[x,y,t] := hh_ 6 (by decide)
   have e7 : o 7 = .pointer (some ⟨w.heap.size,3,none⟩) := hh_ 7 (by decide)
   have e8 : o 8 = .agg #[p,q,r] := hh_ 8 (by decide)
   have e9 : o 9 = .pointer (some ⟨(w.heap.size + 1),0,none⟩) := hh_ 9 (by decide)
   have e10 : o 10 = .int .i64 2 := hh_ 10 (by decide)
   have e11 : o 11 = .pointer (some ⟨(w.heap.size + 1),1,none⟩) := hh_ 11 (by decide)
   have e12 : o 12 = .int .i64 t := hh_ 12 (by decide)
   have e13 : o 13 = .pointer (some ⟨(w.heap.size + 1),2,none⟩) := hh_ 13 (by decide)
   have e14 : o 14 = .int .i64 k := hh_ 14 (by decide)
   have e15 : o 15 = .int .i64 (t + k) := hh_ 15 (by decide)
   have e16 : o 16 = .agg #[p,q,.int .i64 (t + k)] := hh_ 16 (by decide)
   have e17 : o 17 = .pointer (some ⟨g4,0,none⟩) := hh_ 17 (by decide)
   have e19 : o 19 = .pointer (some ⟨g4,3,none⟩) := hh_ 19 (by decide)
   rw [e0,e1,e2,e3,e4,e5,e6,e7,e8,e9,e10,e11,e12,e13,e14,e15,e16,e17,e19]
  ·intro W2 h2
   have h2 : KL _ _ W2 := h2
   obtain ⟨bL0,b0_0,b0_1,b0_2,b0_3,b0_4,b0_5⟩ := bl6 (KL.blk h2 (.head _))
   have bF0 := (KL.blk h2 (.head _)).frozen
   obtain ⟨bL1,b1_0,b1_1,b1_2,b1_3,b1_4,b1_5⟩ := bl6 (KL.blk h2 (.tail _ (.head _)))
   have bF1 := (KL.blk h2 (.tail _ (.head _))).frozen
   obtain ⟨bL2,b2_0,b2_1,b2_2,b2_3,b2_4,b2_5⟩ := bl6 (KL.blk h2 (.tail _ (.tail _ (.head _))))
   have bF2 := (KL.blk h2 (.tail _ (.tail _ (.head _)))).frozen
   obtain ⟨bL3,b3_0,b3_1,b3_2,b3_3,b3_4,b3_5⟩ := bl6 (KL.blk h2 (.tail _ (.tail _ (.tail _ (.head _)))))
   obtain ⟨bL4,b4_0,b4_1,b4_2,b4_3,b4_4,b4_5⟩ := bl6 (KL.blk h2 (.tail _ (.tail _ (.tail _ (.tail _ (.head _))))))
   obtain ⟨bL5,b5_0,b5_1,b5_2,b5_3,b5_4,b5_5⟩ := bl6 (KL.blk h2 (.tail _ (.tail _ (.tail _ (.tail _ (.tail _ (.head _)))))))
   obtain ⟨bL6,b6_0,b6_1,b6_2⟩ := bl3 (KL.blk h2 (.tail _ (.tail _ (.tail _ (.tail _ (.tail _ (.tail _ (.head _))))))))
   obtain ⟨bL7,b7_0,b7_1,b7_2,b7_3,b7_4,b7_5⟩ := bl6 (KL.blk h2 (.tail _ (.tail _ (.tail _ (.tail _ (.tail _ (.tail _ (.tail _ (.head _)))))))))
   have hjb := h2.1
   have hjz := hjb.size
   go_wp2_with (go_at_call 47; refine (put2 _ _ _ _ _).mono ?_; rintro e w2 ⟨rfl,hb2⟩; obtain ⟨hc2,hf2⟩ := bcell hb2; have hz2 := hb2.size; (try simp at hz2); (try have y20 : w.heap.size < w2.heap.size := (by omega)); (try have y20p : w.heap.size < w2.heap.size + 1 := (by omega)); (try have y21 : w.heap.size + 1 < w2.heap.size := (by omega)); (try have y21p : w.heap.size + 1 < w2.heap.size + 1 := (by omega)); (try have y22 : w.heap.size + 1 + 1 < w2.heap.size := (by omega)); (try have y22p : w.heap.size + 1 + 1 < w2.heap.size + 1 := (by omega)); (try have y23 : w.heap.size + 1 + 1 + 1 < w2.heap.size := (by omega)); (try have y23p : w.heap.size + 1 + 1 + 1 < w2.heap.size + 1 := (by omega)); (try have y24 : w.heap.size + 1 + 1 + 1 + 1 < w2.heap.size := (by omega)); (try have y24p : w.heap.size + 1 + 1 + 1 + 1 < w2.heap.size + 1 := (by omega)); (try have v0x2 : w0.heap.size < w2.heap.size := (by omega)); (try have v0x2p : w0.heap.size < w2.heap.size + 1 := (by omega)); (try have v1x2 : w1.heap.size < w2.heap.size := (by omega)); (try have v1x2p : w1.heap.size < w2.heap.size + 1 := (by omega)))
   refine wp_region_any (by kernel_rfl) ?_
   try (change wpAny _ _ _ _ _ _ _ (World.drew _))
   refine wpAny_vals (fr := fun o => #[.agg #[x,y,z,p,q,r],.agg #[.int .i64 2,t,k],.pointer (some ⟨w.heap.size,0,none⟩),.pointer (some ⟨(w.heap.size + 1),0,none⟩),.pointer (some ⟨(w.heap.size + 1 + 1),0,none⟩),.pointer (some ⟨(w.heap.size + 1 + 1 + 1),0,none⟩),.pointer (some ⟨(w.heap.size + 1 + 1 + 1 + 1),0,none⟩),.pointer (some ⟨g3,0,none⟩),.pointer (some ⟨g4,0,none⟩),.pointer (some ⟨g5,0,none⟩),.agg #[x,y,z,p,q,r],.agg #[x,y,z,p,q,r],.agg #[x,y,z,p,q,r],.pointer (some ⟨w.heap.size,3,none⟩),.agg #[p,q,r],.pointer (some ⟨(w.heap.size + 1),0,none⟩),.int .i64 2,.pointer (some ⟨(w.heap.size + 1),1,none⟩),.int .i64 t,.agg #[p,q,t],.pointer (some ⟨g3,3,none⟩),.pointer (some ⟨w.heap.size,0,none⟩),.agg #[x,y,z],.pointer (some ⟨(w.heap.size + 1),0,none⟩),.int .i64 2,.pointer (some ⟨(w.heap.size + 1),1,none⟩),.int .i64 t,.agg #[x,y,t],.pointer (some ⟨w.heap.size,3,none⟩),.agg #[p,q,r],.pointer (some ⟨(w.heap.size + 1),0,none⟩),.int .i64 2,.pointer (some ⟨(w.heap.size + 1),1,none⟩),.int .i64 t,.pointer (some ⟨(w.heap.size + 1),2,none⟩),.int .i64 k,.int .i64 (t + k),.agg #[p,q,.int .i64 (t + k)],.pointer (some ⟨g4,0,none⟩),.pointer (some ⟨g4,3,none⟩),.pointer (some ⟨w.heap.size,0,none⟩),.agg #[x,y,z],.pointer (some ⟨(w.heap.size + 1),0,none⟩),.int .i64 2,.pointer (some ⟨(w.heap.size + 1),1,none⟩),.int .i64 t,.pointer (some ⟨(w.heap.size + 1),2,none⟩),.int .i64 k,.int .i64 (t + k),.agg #[x,y,.int .i64 (t + k)],.pointer (some ⟨g5,0,none⟩),.pointer (some ⟨(w.heap.size + 1),2,none⟩),.int .i64 k,.bool false,undef,o 0,o 1,o 2]) (vals := fun i_ => ([.agg #[x,y,z,p,q,t],.agg #[x,y,t,p,q,.int .i64 (t + k)],.agg #[x,y,.int .i64 (t + k),p,q,r],undef,undef,undef] : List Value).getD i_ undef) (Kf := fun W_ => KL [(g5,25,#[x,y,.int .i64 (t + k),p,q,r]),(g4,25,#[x,y,t,p,q,.int .i64 (t + k)]),(g3,25,#[x,y,z,p,q,t]),((w.heap.size + 1),27,#[.int .i64 2,t,k]),(w.heap.size,25,#[x,y,z,p,q,r])] w W_) (K := fun kk_ => ([(KL [(g5,25,#[x,y,.int .i64 (t + k),p,q,r]),(g4,25,#[x,y,t,p,q,.int .i64 (t + k)]),(g3,25,#[x,y,z,p,q,t]),((w.heap.size + 1 + 1 + 1 + 1),25,#[.int .i64 0,.int .i64 0,.int .i64 0,.int .i64 0,.int .i64 0,.int .i64 0]),((w.heap.size + 1 + 1 + 1),25,#[.int .i64 0,.int .i64 0,.int .i64 0,.int .i64 0,.int .i64 0,.int .i64 0]),((w.heap.size + 1 + 1),25,#[.int .i64 0,.int .i64 0,.int .i64 0,.int .i64 0,.int .i64 0,.int .i64 0]),((w.heap.size + 1),27,#[.int .i64 2,t,k]),(w.heap.size,25,#[x,y,z,p,q,r])] w),(KL [(g5,25,#[x,y,.int .i64 (t + k),p,q,r]),(g4,25,#[x,y,t,p,q,.int .i64 (t + k)]),(g3,25,#[x,y,z,p,q,t]),((w.heap.size + 1 + 1 + 1 + 1),25,#[.int .i64 0,.int .i64 0,.int .i64 0,.int .i64 0,.int .i64 0,.int .i64 0]),((w.heap.size + 1 + 1 + 1),25,#[.int .i64 0,.int .i64 0,.int .i64 0,.int .i64 0,.int .i64 0,.int .i64 0]),((w.heap.size + 1 + 1),25,#[x,y,z,p,q,t]),((w.heap.size + 1),27,#[.int .i64 2,t,k]),(w.heap.size,25,#[x,y,z,p,q,r])] w),(KL [(g5,25,#[x,y,.int .i64 (t + k),p,q,r]),(g4,25,#[x,y,t,p,q,.int .i64 (t + k)]),(g3,25,#[x,y,z,p,q,t]),((w.heap.size + 1 + 1 + 1 + 1),25,#[.int .i64 0,.int .i64 0,.int .i64 0,.int .i64 0,.int .i64 0,.int .i64 0]),((w.heap.size + 1 + 1 + 1),25,#[x,y,t,p,q,.int .i64 (t + k)]),((w.heap.size + 1 + 1),25,#[x,y,z,p,q,t]),((w.heap.size + 1),27,#[.int .i64 2,t,k]),(w.heap.size,25,#[x,y,z,p,q,r])] w),(KL [(g5,25,#[x,y,.int .i64 (t + k),p,q,r]),(g4,25,#[x,y,t,p,q,.int .i64 (t + k)]),(g3,25,#[x,y,z,p,q,t]),((w.heap.size + 1 + 1 + 1 + 1),25,#[x,y,.int .i64 (t + k),p,q,r]),((w.heap.size + 1 + 1 + 1),25,#[x,y,t,p,q,.int .i64 (t + k)]),((w.heap.size + 1 + 1),25,#[x,y,z,p,q,t]),((w.heap.size + 1),27,#[.int .i64 2,t,k]),(w.heap.size,25,#[x,y,z,p,q,r])] w)] : List (World → Prop)).getD kk_ (fun _ => True)) (dep := fun i_ => [[],[],[],[0],[1,3],[2,4]].getD i_ []) (dv := fun i_ => [[],[],[],[0],[1],[2]].getD i_ []) (kd := fun i_ => [1,0,0,2,3,4].getD i_ 0) (ss := [3,4,5]) (l := [0,1,2,3,4,5]) (f0 := fun _ => undef) (A := ?A11) 6 rfl rfl (by decide +kernel) (by decide +kernel) ?_ ?_ ⟨?_,?_,?_,?_,?_,?_,trivial⟩ ?_ ?_
   rotate_left
   ·exact KL.drew (KL.upL 0 (KL.over h2 hb2) rfl (by omega) (by simp <;> omega))
   ·intro t_ W ht_ hh_
    rcases t_ with _ | _ | _ | _ | _
    ·exact KL.part hh_ (fun p_ hp_ => by simp only [List.mem_cons,List.not_mem_nil,or_false] at hp_; rcases hp_ with rfl | rfl | rfl | rfl | rfl; exact (.head _); exact (.tail _ (.head _)); exact (.tail _ (.tail _ (.head _))); exact (.tail _ (.tail _ (.tail _ (.tail _ (.tail _ (.tail _ (.head _))))))); exact (.tail _ (.tail _ (.tail _ (.tail _ (.tail _ (.tail _ (.tail _ (.head _)))))))))
    ·exact KL.part hh_ (fun p_ hp_ => by simp only [List.mem_cons,List.not_mem_nil,or_false] at hp_; rcases hp_ with rfl | rfl | rfl | rfl | rfl; exact (.head _); exact (.tail _ (.head _)); exact (.tail _ (.tail _ (.head _))); exact (.tail _ (.tail _ (.tail _ (.tail _ (.tail _ (.tail _ (.head _))))))); exact (.tail _ (.tail _ (.tail _ (.tail _ (.tail _ (.tail _ (.tail _ (.head _)))))))))
    ·exact KL.part hh_ (fun p_ hp_ => by simp only [List.mem_cons,List.not_mem_nil,or_false] at hp_; rcases hp_ with rfl | rfl | rfl | rfl | rfl; exact (.head _); exact (.tail _ (.head _)); exact (.tail _ (.tail _ (.head _))); exact (.tail _ (.tail _ (.tail _ (.tail _ (.tail _ (.tail _ (.head _))))))); exact (.tail _ (.tail _ (.tail _ (.tail _ (.tail _ (.tail _ (.tail _ (.head _)))))))))
    ·exact KL.part hh_ (fun p_ hp_ => by simp only [List.mem_cons,List.not_mem_nil,or_false] at hp_; rcases hp_ with rfl | rfl | rfl | rfl | rfl; exact (.head _); exact (.tail _ (.head _)); exact (.tail _ (.tail _ (.head _))); exact (.tail _ (.tail _ (.tail _ (.tail _ (.tail _ (.tail _ (.head _))))))); exact (.tail _ (.tail _ (.tail _ (.tail _ (.tail _ (.tail _ (.tail _ (.head _)))))))))
    ·exact absurd ht_ (by simp)
   ·intro o W hj
    have hj : KL _ _ W := hj
    obtain ⟨cL,c0,c1,c2,c3,c4,c5⟩ := bl6 (KL.blk hj (.tail _ (.tail _ (.head _))))
    show wpOp _ _ _ 0 _ ⟨#[_,_,_,_,_,_,_,_,_,_,_,_,_,_,_,_,_,_,_,_,_,_,_,_,_,_,_,_,_,_,_,_,_,_,_,_,_,_,_,_,_,_,_,_,_,_,_,_,_,_,_,_,_,_,_,o 0,o 1,o 2],[]⟩ W
    refine wpOp_step rfl fun _ hK => ?_
    go_simp
    exact hK _ _ ⟨rfl,hj⟩
   ·intro o W hj
    have hj : KL _ _ W := hj
    obtain ⟨cL,c0,c1,c2,c3,c4,c5⟩ := bl6 (KL.blk hj (.tail _ (.head _)))
    show wpOp _ _ _ 1 _ ⟨#[_,_,_,_,_,_,_,_,_,_,_,_,_,_,_,_,_,_,_,_,_,_,_,_,_,_,_,_,_,_,_,_,_,_,_,_,_,_,_,_,_,_,_,_,_,_,_,_,_,_,_,_,_,_,_,o 0,o 1,o 2],[]⟩ W
    refine wpOp_step rfl fun _ hK => ?_
    go_simp
    exact hK _ _ ⟨rfl,rfl⟩
   ·intro o W hj
    have hj : KL _ _ W := hj
    obtain ⟨cL,c0,c1,c2,c3,c4,c5⟩ := bl6 (KL.blk hj (.head _))
    show wpOp _ _ _ 2 _ ⟨#[_,_,_,_,_,_,_,_,_,_,_,_,_,_,_,_,_,_,_,_,_,_,_,_,_,_,_,_,_,_,_,_,_,_,_,_,_,_,_,_,_,_,_,_,_,_,_,_,_,_,_,_,_,_,_,o 0,o 1,o 2],[]⟩ W
    refine wpOp_step rfl fun _ hK => ?_
    go_simp
    exact hK _ _ ⟨rfl,rfl⟩
   ·intro o W hj
    have hj : KL _ _ W := hj
    obtain ⟨cL,c0,c1,c2,c3,c4,c5⟩ := bl6 (KL.blk hj (.tail _ (.tail _ (.tail _ (.tail _ (.tail _ (.head _)))))))
    have cF := (KL.blk hj (.tail _ (.tail _ (.tail _ (.tail _ (.tail _ (.head _))))))).frozen
    show wpOp _ _ _ 3 _ ⟨#[_,_,_,_,_,_,_,_,_,_,_,_,_,_,_,_,_,_,_,_,_,_,_,_,_,_,_,_,_,_,_,_,_,_,_,_,_,_,_,_,_,_,_,_,_,_,_,_,_,_,_,_,_,_,_,.agg #[x,y,z,p,q,t],o 1,o 2],[]⟩ W
    refine wpOp_step rfl fun _ hK => ?_
    go_simp
    exact hK _ _ ⟨rfl,(KL.up6 5 hj rfl (by omega) (by simp <;> omega))⟩
   ·intro o W hj
    have hj : KL _ _ W := hj
    obtain ⟨cL,c0,c1,c2,c3,c4,c5⟩ := bl6 (KL.blk hj (.tail _ (.tail _ (.tail _ (.tail _ (.head _))))))
    have cF := (KL.blk hj (.tail _ (.tail _ (.tail _ (.tail _ (.head _)))))).frozen
    show wpOp _ _ _ 4 _ ⟨#[_,_,_,_,_,_,_,_,_,_,_,_,_,_,_,_,_,_,_,_,_,_,_,_,_,_,_,_,_,_,_,_,_,_,_,_,_,_,_,_,_,_,_,_,_,_,_,_,_,_,_,_,_,_,_,o 0,.agg #[x,y,t,p,q,.int .i64 (t + k)],o 2],[]⟩ W
    refine wpOp_step rfl fun _ hK => ?_
    go_simp
    exact hK _ _ ⟨rfl,(KL.up6 4 hj rfl (by omega) (by simp <;> omega))⟩
   ·intro o W hj
    have hj : KL _ _ W := hj
    obtain ⟨cL,c0,c1,c2,c3,c4,c5⟩ := bl6 (KL.blk hj (.tail _ (.tail _ (.tail _ (.head _)))))
    have cF := (KL.blk hj (.tail _ (.tail _ (.tail _ (.head _))))).frozen
    show wpOp _ _ _ 5 _ ⟨#[_,_,_,_,_,_,_,_,_,_,_,_,_,_,_,_,_,_,_,_,_,_,_,_,_,_,_,_,_,_,_,_,_,_,_,_,_,_,_,_,_,_,_,_,_,_,_,_,_,_,_,_,_,_,_,o 0,o 1,.agg #[x,y,.int .i64 (t + k),p,q,r]],[]⟩ W
    refine wpOp_step rfl fun _ hK => ?_
    go_simp
    exact hK _ _ ⟨rfl,(KL.up6 3 hj rfl (by omega) (by simp <;> omega))⟩
   ·intro o hh_
    have e0 : o 0 = .agg #[x,y,z,p,q,t] := hh_ 0 (by decide)
    have e1 : o 1 = .agg #[x,y,t,p,q,.int .i64 (t + k)] := hh_ 1 (by decide)
    have e2 : o 2 = .agg #[x,y,.int .i64 (t + k),p,q,r] := hh_ 2 (by decide)
    rw [e0,e1,e2]
   ·intro W3 h3
    have h3 : KL _ _ W3 := h3
    obtain ⟨dL0,d0_0,d0_1,d0_2,d0_3,d0_4,d0_5⟩ := bl6 (KL.blk h3 (.head _))
    have dF0 := (KL.blk h3 (.head _)).frozen
    obtain ⟨dL1,d1_0,d1_1,d1_2,d1_3,d1_4,d1_5⟩ := bl6 (KL.blk h3 (.tail _ (.head _)))
    have dF1 := (KL.blk h3 (.tail _ (.head _))).frozen
    obtain ⟨dL2,d2_0,d2_1,d2_2,d2_3,d2_4,d2_5⟩ := bl6 (KL.blk h3 (.tail _ (.tail _ (.head _))))
    have dF2 := (KL.blk h3 (.tail _ (.tail _ (.head _)))).frozen
    obtain ⟨dL3,d3_0,d3_1,d3_2,d3_3,d3_4,d3_5⟩ := bl6 (KL.blk h3 (.tail _ (.tail _ (.tail _ (.head _)))))
    obtain ⟨dL4,d4_0,d4_1,d4_2,d4_3,d4_4,d4_5⟩ := bl6 (KL.blk h3 (.tail _ (.tail _ (.tail _ (.tail _ (.head _))))))
    obtain ⟨dL5,d5_0,d5_1,d5_2,d5_3,d5_4,d5_5⟩ := bl6 (KL.blk h3 (.tail _ (.tail _ (.tail _ (.tail _ (.tail _ (.head _)))))))
    obtain ⟨dL6,d6_0,d6_1,d6_2⟩ := bl3 (KL.blk h3 (.tail _ (.tail _ (.tail _ (.tail _ (.tail _ (.tail _ (.head _))))))))
    obtain ⟨dL7,d7_0,d7_1,d7_2,d7_3,d7_4,d7_5⟩ := bl6 (KL.blk h3 (.tail _ (.tail _ (.tail _ (.tail _ (.tail _ (.tail _ (.tail _ (.head _)))))))))
    have hjb := h3.1
    have hjz := hjb.size
    go_wp2
    exact bodyPost_ret (v := .tuple #[.agg #[x,y,z,p,q,t],.agg #[x,y,t,p,q,.int .i64 (t + k)],.agg #[x,y,.int .i64 (t + k),p,q,r]]) (by simp [results,Try.results18,go_sem,d5_0,d5_1,d5_2,d5_3,d5_4,d5_5,d4_0,d4_1,d4_2,d4_3,d4_4,d4_5,d3_0,d3_1,d3_2,d3_3,d3_4,d3_5]) rfl ⟨rfl,hjb⟩
theorem rSplit_ok2 (x y z p q r t k : Int) (hv : eB x y z p q r = 0) (ho : okI z r t k = 0) (w : World) :
  Calls Try.prog 18 #[.agg #[x,y,z,p,q,r],.agg #[.int .i64 2,t,k]] w fun e w' => e = .returned (.tuple #[.agg #[x,y,z,p,q,t],.agg ((midI2 x y z p q r t k).map (Value.int .i64)).toArray,.agg #[x,y,.int .i64 (t + k),p,q,r]]) ∧ Below w.heap.size w w' := by
 have b4 := (rgB_iff.1 (okI_z ho).1).1
 by_cases h : k = 0
 ·have := rSplit2z x y z p q r t k hv ho h w
  simpa [midI2,h] using this
 ·have := rSplit2p x y z p q r t k hv ho (by omega) w
  simpa [midI2,h] using this
end Go.Proofs.Ytogmgaaejepcbaa
