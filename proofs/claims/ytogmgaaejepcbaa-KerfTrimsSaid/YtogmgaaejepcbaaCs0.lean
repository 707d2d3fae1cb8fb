/- The walk of kerf's count of slices,one axis. -/
import Derived.Test.YtogmgaaejepcbaaCor
import Derived.Test.YtogmgaaejepcbaaCs
namespace Go.Proofs.Ytogmgaaejepcbaa
open Go.RowKit

set_option maxHeartbeats 8000000 in
set_option maxRecDepth 100000 in
theorem cs_ok0 (x y z p q r t k n : Int) (hv : eB x y z p q r = 0) (ht : rgB 1 2000000 t = true) (hk : rgB 0 1000 k = true) (hn : (p - x + k) / (t + k) = n) (w : World) :
  Calls Try.prog 50 #[.agg #[x,y,z,p,q,r],.int .i64 0,.int .i64 t,.int .i64 k] w fun e w' => e = .returned (.tuple #[.int .i64 (csN n),.int .i64 (csE n)]) ∧ Below w.heap.size w w' := by
 have hc := @cax1 x y z p q r 0
 rw [hv,caI_0 (by decide)] at hc
 obtain ⟨⟨a1,a2,a3⟩,⟨a4,a5,a6⟩,⟨a7,a8,a9⟩⟩ := eB_bd hv
 have i2 := rgB_iff.1 ht
 have i3 := rgB_iff.1 hk
 have hm := fun w => most_any (p - x) t k (by omega) (by omega) i2.1 i2.2 i3.1 i3.2 w
 have hb := most_bd (l := p - x) (t := t) (k := k) (by omega) (by omega) i2.1 i3.1 i3.2
 rw [hn] at hm hb
 have h1 := isLen_any t
 have h2 := isKerf_any k
 rw [ht] at h1
 rw [hk] at h2
 have hw : IntKind.i64.wrap (p - x) = p - x := IntWalk.i64_in _ (by omega)
 clear hv ht hk hn i2 i3
 go_enter Try.func50,Try.ntmps50
 go_wp2_with (first | (go_at_call 45; refine (hc _ _ (Blk.new2 (by simp))).mono ?_; rintro e w1 ⟨rfl,hb1⟩; obtain ⟨hc1,hf1⟩ := bcell hb1; have hz1 := hb1.size; (try simp at hz1); (try have y10 : w.heap.size < w1.heap.size := (by omega)); (try have y10p : w.heap.size < w1.heap.size + 1 := (by omega)); (try have y11 : w.heap.size + 1 < w1.heap.size := (by omega)); (try have y11p : w.heap.size + 1 < w1.heap.size + 1 := (by omega)); (try have y12 : w.heap.size + 1 + 1 < w1.heap.size := (by omega)); (try have y12p : w.heap.size + 1 + 1 < w1.heap.size + 1 := (by omega)); (try have y13 : w.heap.size + 1 + 1 + 1 < w1.heap.size := (by omega)); (try have y13p : w.heap.size + 1 + 1 + 1 < w1.heap.size + 1 := (by omega)); (try have y14 : w.heap.size + 1 + 1 + 1 + 1 < w1.heap.size := (by omega)); (try have y14p : w.heap.size + 1 + 1 + 1 + 1 < w1.heap.size + 1 := (by omega)); (try have v0x1 : w0.heap.size < w1.heap.size := (by omega)); (try have v0x1p : w0.heap.size < w1.heap.size + 1 := (by omega))) | (go_at_call 48; refine (h1 _).mono ?_; rintro e w' ⟨rfl,rfl⟩) | (go_at_call 46; refine (h2 _).mono ?_; rintro e w' ⟨rfl,rfl⟩) | (go_at_call 42; refine (ends_any _ _).mono ?_; rintro e w2 ⟨rfl,hb2⟩; obtain ⟨hc2,hf2⟩ := bcell hb2; have hz2 := hb2.size; (try simp at hz2); (try have y20 : w.heap.size < w2.heap.size := (by omega)); (try have y20p : w.heap.size < w2.heap.size + 1 := (by omega)); (try have y21 : w.heap.size + 1 < w2.heap.size := (by omega)); (try have y21p : w.heap.size + 1 < w2.heap.size + 1 := (by omega)); (try have y22 : w.heap.size + 1 + 1 < w2.heap.size := (by omega)); (try have y22p : w.heap.size + 1 + 1 < w2.heap.size + 1 := (by omega)); (try have y23 : w.heap.size + 1 + 1 + 1 < w2.heap.size := (by omega)); (try have y23p : w.heap.size + 1 + 1 + 1 < w2.heap.size + 1 := (by omega)); (try have y24 : w.heap.size + 1 + 1 + 1 + 1 < w2.heap.size := (by omega)); (try have y24p : w.heap.size + 1 + 1 + 1 + 1 < w2.heap.size + 1 := (by omega)); (try have v0x2 : w0.heap.size < w2.heap.size := (by omega)); (try have v0x2p : w0.heap.size < w2.heap.size + 1 := (by omega)); (try have v1x2 : w1.heap.size < w2.heap.size := (by omega)); (try have v1x2p : w1.heap.size < w2.heap.size + 1 := (by omega))))
 refine wp_region_any (by kernel_rfl) ?_
 try (change wpAny _ _ _ _ _ _ _ (World.drew _))
 refine wpAny_vals (fr := fun o => #[.agg #[x,y,z,p,q,r],.int .i64 0,.int .i64 t,.int .i64 k,.pointer (some ⟨w.heap.size,0,none⟩),undef,undef,undef,.int .i64 0,.int .i64 0,.int .i64 0,.pointer (some ⟨w2.heap.size,0,none⟩),.pointer (some ⟨(w2.heap.size + 1),0,none⟩),o 14,.int .i64 0,.agg #[x,y,z,p,q,r],.slice (some ⟨(w.heap.size + 1),0,none⟩) 1 1,.int .i64 0,.int .i64 0,.bool false,undef,.int .i64 t,.bool true,.bool false,.bool false,.int .i64 k,.bool true,.bool false,.bool false,.tuple #[.agg #[.pointer (some ⟨w.heap.size,0,none⟩),.pointer (some ⟨w.heap.size,1,none⟩),.pointer (some ⟨w.heap.size,2,none⟩)],.agg #[.pointer (some ⟨w.heap.size,3,none⟩),.pointer (some ⟨w.heap.size,4,none⟩),.pointer (some ⟨w.heap.size,5,none⟩)]],.tuple #[.agg #[.pointer (some ⟨w.heap.size,0,none⟩),.pointer (some ⟨w.heap.size,1,none⟩),.pointer (some ⟨w.heap.size,2,none⟩)],.agg #[.pointer (some ⟨w.heap.size,3,none⟩),.pointer (some ⟨w.heap.size,4,none⟩),.pointer (some ⟨w.heap.size,5,none⟩)]],.agg #[.pointer (some ⟨w.heap.size,0,none⟩),.pointer (some ⟨w.heap.size,1,none⟩),.pointer (some ⟨w.heap.size,2,none⟩)],.agg #[.pointer (some ⟨w.heap.size,3,none⟩),.pointer (some ⟨w.heap.size,4,none⟩),.pointer (some ⟨w.heap.size,5,none⟩)],o 0,o 1,o 2,o 3,o 4,o 5,o 6,o 7,o 8,o 9,o 10,o 11,o 12,o 13,undef,undef,undef,undef,undef,undef,undef]) (vals := fun i_ => ([.int .i64 0,.pointer (some ⟨(w2.heap.size + 1),0,none⟩),.pointer (some ⟨w.heap.size,3,none⟩),.pointer (some ⟨w.heap.size,3,none⟩),.int .i64 p,.int .i64 0,.pointer (some ⟨w2.heap.size,0,none⟩),.pointer (some ⟨w.heap.size,0,none⟩),.pointer (some ⟨w.heap.size,0,none⟩),.int .i64 x,.int .i64 (p - x),.int .i64 t,.int .i64 k,.int .i64 n,.int .i64 n] : List Value).getD i_ undef) (Kf := fun _ => True) (K := fun kk_ => ([(KL [((w2.heap.size + 1),76,#[.pointer (some ⟨w.heap.size,3,none⟩),.pointer (some ⟨w.heap.size,4,none⟩),.pointer (some ⟨w.heap.size,5,none⟩)]),(w2.heap.size,76,#[.pointer (some ⟨w.heap.size,0,none⟩),.pointer (some ⟨w.heap.size,1,none⟩),.pointer (some ⟨w.heap.size,2,none⟩)]),(w.heap.size,25,#[x,y,z,p,q,r])] w)] : List (World → Prop)).getD kk_ (fun _ => True)) (dep := fun i_ => [[],[0],[1],[2],[3],[],[5],[6],[7],[8],[4,9],[],[],[10,11,12],[13]].getD i_ []) (dv := fun i_ => [[],[0],[1],[2],[3],[],[5],[6],[7],[8],[4,9],[],[],[10,11,12],[13]].getD i_ []) (kd := fun i_ => [0,0,1,0,1,0,0,1,0,1,0,0,0,0,0].getD i_ 0) (ss := []) (l := [0,1,2,3,4,5,6,7,8,9,10,11,12,13,14]) (f0 := fun _ => undef) (A := ?A1) 15 rfl rfl (by decide +kernel) (by decide +kernel) ?_ ?_ ⟨?_,?_,?_,?_,?_,?_,?_,?_,?_,?_,?_,?_,?_,?_,?_,trivial⟩ ?_ ?_
 rotate_left
 ·exact KL.drew (KL.new (g := (w2.heap.size + 1)) (KL.new (g := w2.heap.size) (KL.over (KL.over (KL.alloc (KL.new (g := w.heap.size) (KL.nil w) rfl _ _) _) hb1) hb2) rfl _ _) (by simp) _ _)
 ·exact fun _ _ _ _ => trivial
 ·intro o W _
  show wpOp _ _ _ 0 _ ⟨#[_,_,_,_,_,_,_,_,_,_,_,_,_,o 14,_,_,_,_,_,_,_,_,_,_,_,_,_,_,_,_,_,_,_,o 0,o 1,o 2,o 3,o 4,o 5,o 6,o 7,o 8,o 9,o 10,o 11,o 12,o 13,_,_,_,_,_,_,_],[]⟩ W
  refine wpOp_step rfl fun _ hK => ?_
  go_simp
  exact hK _ _ ⟨rfl,rfl⟩
 ·intro o W _
  show wpOp _ _ _ 1 _ ⟨#[_,_,_,_,_,_,_,_,_,_,_,_,_,o 14,_,_,_,_,_,_,_,_,_,_,_,_,_,_,_,_,_,_,_,.int .i64 0,o 1,o 2,o 3,o 4,o 5,o 6,o 7,o 8,o 9,o 10,o 11,o 12,o 13,_,_,_,_,_,_,_],[]⟩ W
  refine wpOp_step rfl fun _ hK => ?_
  go_simp
  exact hK _ _ ⟨rfl,rfl⟩
 ·intro o W hj
  have hj : KL _ _ W := hj
  obtain ⟨cL,c0,c1,c2⟩ := bl3 (KL.blk hj (.head _))
  show wpOp _ _ _ 2 _ ⟨#[_,_,_,_,_,_,_,_,_,_,_,_,_,o 14,_,_,_,_,_,_,_,_,_,_,_,_,_,_,_,_,_,_,_,o 0,.pointer (some ⟨(w2.heap.size + 1),0,none⟩),o 2,o 3,o 4,o 5,o 6,o 7,o 8,o 9,o 10,o 11,o 12,o 13,_,_,_,_,_,_,_],[]⟩ W
  refine wpOp_step rfl fun _ hK => ?_
  go_simp
  exact hK _ _ ⟨rfl,hj⟩
 ·intro o W _
  show wpOp _ _ _ 3 _ ⟨#[_,_,_,_,_,_,_,_,_,_,_,_,_,o 14,_,_,_,_,_,_,_,_,_,_,_,_,_,_,_,_,_,_,_,o 0,o 1,.pointer (some ⟨w.heap.size,3,none⟩),o 3,o 4,o 5,o 6,o 7,o 8,o 9,o 10,o 11,o 12,o 13,_,_,_,_,_,_,_],[]⟩ W
  refine wpOp_step rfl fun _ hK => ?_
  go_simp
  exact hK _ _ ⟨rfl,rfl⟩
 ·intro o W hj
  have hj : KL _ _ W := hj
  obtain ⟨cL,c0,c1,c2,c3,c4,c5⟩ := bl6 (KL.blk hj (.tail _ (.tail _ (.head _))))
  show wpOp _ _ _ 4 _ ⟨#[_,_,_,_,_,_,_,_,_,_,_,_,_,o 14,_,_,_,_,_,_,_,_,_,_,_,_,_,_,_,_,_,_,_,o 0,o 1,o 2,.pointer (some ⟨w.heap.size,3,none⟩),o 4,o 5,o 6,o 7,o 8,o 9,o 10,o 11,o 12,o 13,_,_,_,_,_,_,_],[]⟩ W
  refine wpOp_step rfl fun _ hK => ?_
  go_simp
  exact hK _ _ ⟨rfl,hj⟩
 ·intro o W _
  show wpOp _ _ _ 5 _ ⟨#[_,_,_,_,_,_,_,_,_,_,_,_,_,o 14,_,_,_,_,_,_,_,_,_,_,_,_,_,_,_,_,_,_,_,o 0,o 1,o 2,o 3,o 4,o 5,o 6,o 7,o 8,o 9,o 10,o 11,o 12,o 13,_,_,_,_,_,_,_],[]⟩ W
  refine wpOp_step rfl fun _ hK => ?_
  go_simp
  exact hK _ _ ⟨rfl,rfl⟩
 ·intro o W _
  show wpOp _ _ _ 6 _ ⟨#[_,_,_,_,_,_,_,_,_,_,_,_,_,o 14,_,_,_,_,_,_,_,_,_,_,_,_,_,_,_,_,_,_,_,o 0,o 1,o 2,o 3,o 4,.int .i64 0,o 6,o 7,o 8,o 9,o 10,o 11,o 12,o 13,_,_,_,_,_,_,_],[]⟩ W
  refine wpOp_step rfl fun _ hK => ?_
  go_simp
  exact hK _ _ ⟨rfl,rfl⟩
 ·intro o W hj
  have hj : KL _ _ W := hj
  obtain ⟨cL,c0,c1,c2⟩ := bl3 (KL.blk hj (.tail _ (.head _)))
  show wpOp _ _ _ 7 _ ⟨#[_,_,_,_,_,_,_,_,_,_,_,_,_,o 14,_,_,_,_,_,_,_,_,_,_,_,_,_,_,_,_,_,_,_,o 0,o 1,o 2,o 3,o 4,o 5,.pointer (some ⟨w2.heap.size,0,none⟩),o 7,o 8,o 9,o 10,o 11,o 12,o 13,_,_,_,_,_,_,_],[]⟩ W
  refine wpOp_step rfl fun _ hK => ?_
  go_simp
  exact hK _ _ ⟨rfl,hj⟩
 ·intro o W _
  show wpOp _ _ _ 8 _ ⟨#[_,_,_,_,_,_,_,_,_,_,_,_,_,o 14,_,_,_,_,_,_,_,_,_,_,_,_,_,_,_,_,_,_,_,o 0,o 1,o 2,o 3,o 4,o 5,o 6,.pointer (some ⟨w.heap.size,0,none⟩),o 8,o 9,o 10,o 11,o 12,o 13,_,_,_,_,_,_,_],[]⟩ W
  refine wpOp_step rfl fun _ hK => ?_
  go_simp
  exact hK _ _ ⟨rfl,rfl⟩
 ·intro o W hj
  have hj : KL _ _ W := hj
  obtain ⟨cL,c0,c1,c2,c3,c4,c5⟩ := bl6 (KL.blk hj (.tail _ (.tail _ (.head _))))
  show wpOp _ _ _ 9 _ ⟨#[_,_,_,_,_,_,_,_,_,_,_,_,_,o 14,_,_,_,_,_,_,_,_,_,_,_,_,_,_,_,_,_,_,_,o 0,o 1,o 2,o 3,o 4,o 5,o 6,o 7,.pointer (some ⟨w.heap.size,0,none⟩),o 9,o 10,o 11,o 12,o 13,_,_,_,_,_,_,_],[]⟩ W
  refine wpOp_step rfl fun _ hK => ?_
  go_simp
  exact hK _ _ ⟨rfl,hj⟩
 ·intro o W _
  show wpOp _ _ _ 10 _ ⟨#[_,_,_,_,_,_,_,_,_,_,_,_,_,o 14,_,_,_,_,_,_,_,_,_,_,_,_,_,_,_,_,_,_,_,o 0,o 1,o 2,o 3,.int .i64 p,o 5,o 6,o 7,o 8,.int .i64 x,o 10,o 11,o 12,o 13,_,_,_,_,_,_,_],[]⟩ W
  refine wpOp_step rfl fun _ hK => ?_
  go_simp
  exact hK _ _ ⟨rfl,rfl⟩
 ·intro o W _
  show wpOp _ _ _ 11 _ ⟨#[_,_,_,_,_,_,_,_,_,_,_,_,_,o 14,_,_,_,_,_,_,_,_,_,_,_,_,_,_,_,_,_,_,_,o 0,o 1,o 2,o 3,o 4,o 5,o 6,o 7,o 8,o 9,o 10,o 11,o 12,o 13,_,_,_,_,_,_,_],[]⟩ W
  refine wpOp_step rfl fun _ hK => ?_
  go_simp
  exact hK _ _ ⟨rfl,rfl⟩
 ·intro o W _
  show wpOp _ _ _ 12 _ ⟨#[_,_,_,_,_,_,_,_,_,_,_,_,_,o 14,_,_,_,_,_,_,_,_,_,_,_,_,_,_,_,_,_,_,_,o 0,o 1,o 2,o 3,o 4,o 5,o 6,o 7,o 8,o 9,o 10,o 11,o 12,o 13,_,_,_,_,_,_,_],[]⟩ W
  refine wpOp_step rfl fun _ hK => ?_
  go_simp
  exact hK _ _ ⟨rfl,rfl⟩
 ·intro o W _
  show wpOp _ _ _ 13 _ ⟨#[_,_,_,_,_,_,_,_,_,_,_,_,_,o 14,_,_,_,_,_,_,_,_,_,_,_,_,_,_,_,_,_,_,_,o 0,o 1,o 2,o 3,o 4,o 5,o 6,o 7,o 8,o 9,.int .i64 (p - x),.int .i64 t,.int .i64 k,o 13,_,_,_,_,_,_,_],[]⟩ W
  refine wpOp_step rfl fun _ hK => ?_
  go_simp
  refine (hm _).mono ?_
  rintro e W1 ⟨rfl,rfl⟩
  exact hK _ _ ⟨rfl,rfl⟩
 ·intro o W _
  show wpOp _ _ _ 14 _ ⟨#[_,_,_,_,_,_,_,_,_,_,_,_,_,o 14,_,_,_,_,_,_,_,_,_,_,_,_,_,_,_,_,_,_,_,o 0,o 1,o 2,o 3,o 4,o 5,o 6,o 7,o 8,o 9,o 10,o 11,o 12,.int .i64 n,_,_,_,_,_,_,_],[]⟩ W
  refine wpOp_step rfl fun _ hK => ?_
  go_simp
  exact hK _ _ ⟨rfl,rfl⟩
 ·intro o hh_
  have e0 : o 0 = .int .i64 0 := hh_ 0 (by decide)
  have e1 : o 1 = .pointer (some ⟨(w2.heap.size + 1),0,none⟩) := hh_ 1 (by decide)
  have e2 : o 2 = .pointer (some ⟨w.heap.size,3,none⟩) := hh_ 2 (by decide)
  have e3 : o 3 = .pointer (some ⟨w.heap.size,3,none⟩) := hh_ 3 (by decide)
  have e4 : o 4 = .int .i64 p := hh_ 4 (by decide)
  have e5 : o 5 = .int .i64 0 := hh_ 5 (by decide)
  have e6 : o 6 = .pointer (some ⟨w2.heap.size,0,none⟩) := hh_ 6 (by decide)
  have e7 : o 7 = .pointer (some ⟨w.heap.size,0,none⟩) := hh_ 7 (by decide)
  have e8 : o 8 = .pointer (some ⟨w.heap.size,0,none⟩) := hh_ 8 (by decide)
  have e9 : o 9 = .int .i64 x := hh_ 9 (by decide)
  have e10 : o 10 = .int .i64 (p - x) := hh_ 10 (by decide)
  have e11 : o 11 = .int .i64 t := hh_ 11 (by decide)
  have e12 : o 12 = .int .i64 k := hh_ 12 (by decide)
  have e13 : o 13 = .int .i64 n := hh_ 13 (by decide)
  have e14 : o 14 = .int .i64 n := hh_ 14 (by decide)
  rw [e0,e1,e2,e3,e4,e5,e6,e7,e8,e9,e10,e11,e12,e13,e14]
 ·intro W hj
  have hj : KL _ _ W := hj
  obtain ⟨cL0,c0_0,c0_1,c0_2⟩ := bl3 (KL.blk hj (.head _))
  obtain ⟨cL1,c1_0,c1_1,c1_2⟩ := bl3 (KL.blk hj (.tail _ (.head _)))
  obtain ⟨cL2,c2_0,c2_1,c2_2,c2_3,c2_4,c2_5⟩ := bl6 (KL.blk hj (.tail _ (.tail _ (.head _))))
  have hjb := hj.1
  have hjz := hjb.size
  by_cases h0 : n = 0
  ·subst h0
   go_wp2
   go_ret2
   exact ⟨rfl,hjb⟩
  ·by_cases h9 : 1000 < n
   ·have e0 : (n == 0) = false := by simpa using h0
    have HN := Lib.hid (show csN n = 0 by simp [csN,h0,h9])
    have HE := Lib.hid (show csE n = 7 by simp [csE,h0,h9])
    go_wp2
    go_ret2
    exact ⟨congrArg Ending.returned (by rw [HN.out,HE.out] <;> rfl),hjb⟩
   ·have e0 : (n == 0) = false := by simpa using h0
    have HN := Lib.hid (show csN n = n by simp [csN,h0,h9])
    have HE := Lib.hid (show csE n = 0 by simp [csE,h0,h9])
    go_wp2
    go_ret2
    exact ⟨congrArg Ending.returned (by rw [HN.out,HE.out] <;> rfl),hjb⟩
set_option maxHeartbeats 2000000 in
theorem cs_bt0 (x y z p q r t k : Int) (hv : eB x y z p q r = 0) (ht : rgB 1 2000000 t = false) (w : World) :
  Calls Try.prog 50 #[.agg #[x,y,z,p,q,r],.int .i64 0,.int .i64 t,.int .i64 k] w fun e w' => e = .returned (.tuple #[.int .i64 0,.int .i64 6]) ∧ Below w.heap.size w w' := by
 have hc := @cax1 x y z p q r 0
 rw [hv,caI_0 (by decide)] at hc
 have h1 := isLen_any t
 rw [ht] at h1
 
 
 clear hv ht
 go_enter Try.func50,Try.ntmps50
 go_wp2_with (first | (go_at_call 45; refine (hc _ _ (Blk.new2 (by simp))).mono ?_; rintro e w1 ⟨rfl,hb1⟩; obtain ⟨hc1,hf1⟩ := bcell hb1; have hz1 := hb1.size; (try simp at hz1); (try have y10 : w.heap.size < w1.heap.size := (by omega)); (try have y10p : w.heap.size < w1.heap.size + 1 := (by omega)); (try have y11 : w.heap.size + 1 < w1.heap.size := (by omega)); (try have y11p : w.heap.size + 1 < w1.heap.size + 1 := (by omega)); (try have y12 : w.heap.size + 1 + 1 < w1.heap.size := (by omega)); (try have y12p : w.heap.size + 1 + 1 < w1.heap.size + 1 := (by omega)); (try have y13 : w.heap.size + 1 + 1 + 1 < w1.heap.size := (by omega)); (try have y13p : w.heap.size + 1 + 1 + 1 < w1.heap.size + 1 := (by omega)); (try have y14 : w.heap.size + 1 + 1 + 1 + 1 < w1.heap.size := (by omega)); (try have y14p : w.heap.size + 1 + 1 + 1 + 1 < w1.heap.size + 1 := (by omega)); (try have v0x1 : w0.heap.size < w1.heap.size := (by omega)); (try have v0x1p : w0.heap.size < w1.heap.size + 1 := (by omega))) | (go_at_call 48; refine (h1 _).mono ?_; rintro e w' ⟨rfl,rfl⟩))
 go_ret2
 refine ⟨rfl,?_⟩
 repeat (first | with_reducible exact Below.refl _ _ | with_reducible refine Below.setCell ?_ ?_ _ | with_reducible refine Below.alloc ?_ ?_ _ | with_reducible refine Below.drew ?_ | with_reducible refine below_drewN ?_ _ | (refine Below.trans ?_ (bmono (by assumption) ?_)))
 all_goals (first | omega | (simp <;> omega))
set_option maxHeartbeats 2000000 in
theorem cs_bk0 (x y z p q r t k : Int) (hv : eB x y z p q r = 0) (ht : rgB 1 2000000 t = true) (hk : rgB 0 1000 k = false) (w : World) :
  Calls Try.prog 50 #[.agg #[x,y,z,p,q,r],.int .i64 0,.int .i64 t,.int .i64 k] w fun e w' => e = .returned (.tuple #[.int .i64 0,.int .i64 6]) ∧ Below w.heap.size w w' := by
 have hc := @cax1 x y z p q r 0
 rw [hv,caI_0 (by decide)] at hc
 have h1 := isLen_any t
 rw [ht] at h1
 have h2 := isKerf_any k
 rw [hk] at h2
 clear hv ht hk
 go_enter Try.func50,Try.ntmps50
 go_wp2_with (first | (go_at_call 45; refine (hc _ _ (Blk.new2 (by simp))).mono ?_; rintro e w1 ⟨rfl,hb1⟩; obtain ⟨hc1,hf1⟩ := bcell hb1; have hz1 := hb1.size; (try simp at hz1); (try have y10 : w.heap.size < w1.heap.size := (by omega)); (try have y10p : w.heap.size < w1.heap.size + 1 := (by omega)); (try have y11 : w.heap.size + 1 < w1.heap.size := (by omega)); (try have y11p : w.heap.size + 1 < w1.heap.size + 1 := (by omega)); (try have y12 : w.heap.size + 1 + 1 < w1.heap.size := (by omega)); (try have y12p : w.heap.size + 1 + 1 < w1.heap.size + 1 := (by omega)); (try have y13 : w.heap.size + 1 + 1 + 1 < w1.heap.size := (by omega)); (try have y13p : w.heap.size + 1 + 1 + 1 < w1.heap.size + 1 := (by omega)); (try have y14 : w.heap.size + 1 + 1 + 1 + 1 < w1.heap.size := (by omega)); (try have y14p : w.heap.size + 1 + 1 + 1 + 1 < w1.heap.size + 1 := (by omega)); (try have v0x1 : w0.heap.size < w1.heap.size := (by omega)); (try have v0x1p : w0.heap.size < w1.heap.size + 1 := (by omega))) | (go_at_call 48; refine (h1 _).mono ?_; rintro e w' ⟨rfl,rfl⟩) | (go_at_call 46; refine (h2 _).mono ?_; rintro e w' ⟨rfl,rfl⟩))
 go_ret2
 refine ⟨rfl,?_⟩
 repeat (first | with_reducible exact Below.refl _ _ | with_reducible refine Below.setCell ?_ ?_ _ | with_reducible refine Below.alloc ?_ ?_ _ | with_reducible refine Below.drew ?_ | with_reducible refine below_drewN ?_ _ | (refine Below.trans ?_ (bmono (by assumption) ?_)))
 all_goals (first | omega | (simp <;> omega))
end Go.Proofs.Ytogmgaaejepcbaa
