/- StairChecks,one way each. -/
import Derived.Test.YtoenojnfhiimpaaAwk
import Derived.WalkSpells
import Derived.WalkLawsBesides
import Derived.Deep.QuietTactic
import Derived.BigQuiet
import Derived.Laws.StructEq
namespace Go.Proofs.Ytoenojnfhiimpaa
open Go.RowKit

set_option maxHeartbeats 8000000 in
set_option maxRecDepth 100000 in
theorem checks_bad (a b c d p q n r x g wd l k c0 f0 : Int)  (hc1 : ∀ w,Calls Try.prog 12 #[.agg #[a,b,c,d,p,q]] w fun e w' => e = .returned (.int .i64 c0) ∧ Below w.heap.size w w') (hc2 : ∀ w,Calls Try.prog 13 #[.agg #[a,b,c,d,p,q]] w fun e w' => e = .returned (.int .i64 c0) ∧ Below w.heap.size w w') (hf1 : ∀ w,Calls Try.prog 14 #[.agg #[a,b,c,d,p,q],.agg #[n,r,x,g,wd,l]] w fun e w' => e = .returned (.int .i64 f0) ∧ Below w.heap.size w w') (hf2 : ∀ w,Calls Try.prog 15 #[.agg #[a,b,c,d,p,q],.agg #[n,r,x,g,wd,l]] w fun e w' => e = .returned (.int .i64 f0) ∧ Below w.heap.size w w') (hh : ∀ w,Calls Try.prog 16 #[.agg #[n,r,x,g,wd,l]] w fun e w' => e = .returned (.tuple #[.int .i64 0,.int .i64 0,.int .i64 1]) ∧ Below w.heap.size w w') (hl : ∀ w,Calls Try.prog 17 #[.agg #[n,r,x,g,wd,l],.int .i64 k] w fun e w' => e = .returned (.tuple #[.int .i64 0,.int .i64 1]) ∧ Below w.heap.size w w') (hv : ∀ w,Calls Try.prog 18 #[.agg #[n,r,x,g,wd,l]] w fun e w' => e = .returned (.bool false) ∧ Below w.heap.size w w') (w : World) :
  Calls Try.prog 3 #[.agg #[a,b,c,d,p,q],.agg #[n,r,x,g,wd,l],.int .i64 k] w fun e w' => e = .returned (.bool true) ∧ Below w.heap.size w w' := by
 go_enter Try.func3,Try.ntmps3
 go_wp2_with (first
  | (go_at_call 11; (with_reducible refine ((awake_any _)).mono ?_); rintro e w1 ⟨rfl,hb1⟩; have hj1 : KL [((w.heap.size + 1),27,#[n,r,x,g,wd,l]),(w.heap.size,25,#[a,b,c,d,p,q])] w w1 := KL.over (KL.new (g := (w.heap.size + 1)) (KL.new (g := w.heap.size) (KL.nil w) rfl _ _) (by simp) _ _) hb1; have hz1 := hb1.size; obtain ⟨c1_L0,c1_0_0,c1_0_1,c1_0_2,c1_0_3,c1_0_4,c1_0_5⟩ := bl6 (KL.blk hj1 (.head _)); have c1_F0 := (KL.blk hj1 (.head _)).frozen; obtain ⟨c1_L1,c1_1_0,c1_1_1,c1_1_2,c1_1_3,c1_1_4,c1_1_5⟩ := bl6 (KL.blk hj1 (.tail _ (.head _))); have c1_F1 := (KL.blk hj1 (.tail _ (.head _))).frozen))
 refine wp_region_any (by kernel_rfl) ?_
 try (change wpAny _ _ _ _ _ _ _ (World.drew _))
 refine wpAny_vals (fr := fun o => #[.agg #[a,b,c,d,p,q],.agg #[n,r,x,g,wd,l],.int .i64 k,.pointer (some ⟨w.heap.size,0,none⟩),.pointer (some ⟨(w.heap.size + 1),0,none⟩),undef,.bool false,undef,undef,undef,undef,undef,.bool true,.bool false,o 0,o 1,o 2,o 3,o 4,o 5,o 6,o 7,o 8,o 9,o 10,o 11,o 12,o 13,undef,undef,undef,undef,undef,undef,undef,undef,undef,undef,undef,undef,undef,undef,undef,undef,undef,undef,undef,undef,undef,undef,undef,undef,undef,undef,undef,undef,undef,undef,undef,undef,undef,undef,undef,undef,undef,undef,undef,undef,undef,undef,undef,undef,undef,undef,undef,undef,undef,undef,undef,undef,undef,undef,undef,undef,undef,undef,undef,undef,undef,undef,undef,undef,undef,undef,undef,undef,undef,undef,undef,undef,undef,undef,undef,undef,undef]) (vals := fun i_ => ([.agg #[a,b,c,d,p,q],.int .i64 c0,.agg #[a,b,c,d,p,q],.int .i64 c0,.bool false,.bool false,.agg #[a,b,c,d,p,q],.agg #[n,r,x,g,wd,l],.int .i64 f0,.agg #[a,b,c,d,p,q],.agg #[n,r,x,g,wd,l],.int .i64 f0,.bool false,.bool false] : List Value).getD i_ undef) (Kf := fun _ => True) (K := fun kk_ => ([(KL [((w.heap.size + 1),27,#[n,r,x,g,wd,l]),(w.heap.size,25,#[a,b,c,d,p,q])] w)] : List (World → Prop)).getD kk_ (fun _ => True)) (dep := fun i_ => [[],[0],[],[2],[1,3],[4],[5],[5],[5,6,7],[5],[5],[5,9,10],[5,8,11],[5,12]].getD i_ []) (dv := fun i_ => [[],[0],[],[2],[1,3],[4],[5],[5],[5,6,7],[5],[5],[5,9,10],[5,8,11],[5,12]].getD i_ []) (kd := fun i_ => [1,1,1,1,0,0,1,1,1,1,1,1,0,0].getD i_ 0) (ss := []) (l := [0,1,2,3,4,5,6,7,8,9,10,11,12,13]) (f0 := fun _ => undef) (A := ?A1) 14 ?_ ?_ ?_ ?_ ?_ ?_ ⟨?_,?_,?_,?_,?_,?_,?_,?_,?_,?_,?_,?_,?_,?_,trivial⟩ ?_ ?_
 rotate_left
 ·rfl
 ·rfl
 ·decide +kernel
 ·decide +kernel
 ·exact KL.drew hj1
 ·exact fun _ _ _ _ => trivial
 ·intro o W hj
  have hj : KL _ _ W := hj
  obtain ⟨cL,c0,c1,c2,c3,c4,c5⟩ := bl6 (KL.blk hj (.tail _ (.head _)))
  show wpOp _ _ _ 0 _ ⟨⟨_::_::_::_::_::_::_::_::_::_::_::_::_::_::o 0::o 1::o 2::o 3::o 4::o 5::o 6::o 7::o 8::o 9::o 10::o 11::o 12::o 13::_⟩,[]⟩ W
  refine wpOp_step rfl fun _ hK => ?_
  go_simp
  exact hK _ _ ⟨rfl,hj⟩
 ·intro o W hj
  have hj : KL _ _ W := hj
  show wpOp _ _ _ 1 _ ⟨⟨_::_::_::_::_::_::_::_::_::_::_::_::_::_::.agg #[a,b,c,d,p,q]::o 1::o 2::o 3::o 4::o 5::o 6::o 7::o 8::o 9::o 10::o 11::o 12::o 13::_⟩,[]⟩ W
  refine wpOp_step rfl fun _ hK => ?_
  go_simp
  refine (hc1 _).mono ?_
  rintro e W1 ⟨rfl,hb1⟩
  exact hK _ _ ⟨rfl,hj.over hb1⟩
 ·intro o W hj
  have hj : KL _ _ W := hj
  obtain ⟨cL,c0,c1,c2,c3,c4,c5⟩ := bl6 (KL.blk hj (.tail _ (.head _)))
  show wpOp _ _ _ 2 _ ⟨⟨_::_::_::_::_::_::_::_::_::_::_::_::_::_::o 0::o 1::o 2::o 3::o 4::o 5::o 6::o 7::o 8::o 9::o 10::o 11::o 12::o 13::_⟩,[]⟩ W
  refine wpOp_step rfl fun _ hK => ?_
  go_simp
  exact hK _ _ ⟨rfl,hj⟩
 ·intro o W hj
  have hj : KL _ _ W := hj
  show wpOp _ _ _ 3 _ ⟨⟨_::_::_::_::_::_::_::_::_::_::_::_::_::_::o 0::o 1::.agg #[a,b,c,d,p,q]::o 3::o 4::o 5::o 6::o 7::o 8::o 9::o 10::o 11::o 12::o 13::_⟩,[]⟩ W
  refine wpOp_step rfl fun _ hK => ?_
  go_simp
  refine (hc2 _).mono ?_
  rintro e W1 ⟨rfl,hb1⟩
  exact hK _ _ ⟨rfl,hj.over hb1⟩
 ·intro o W _
  show wpOp _ _ _ 4 _ ⟨⟨_::_::_::_::_::_::_::_::_::_::_::_::_::_::o 0::.int .i64 c0::o 2::.int .i64 c0::o 4::o 5::o 6::o 7::o 8::o 9::o 10::o 11::o 12::o 13::_⟩,[]⟩ W
  refine wpOp_step rfl fun _ hK => ?_
  go_simp
  exact hK _ _ ⟨rfl,rfl⟩
 ·intro o W _
  show wpOp _ _ _ 5 _ ⟨⟨_::_::_::_::_::_::_::_::_::_::_::_::_::_::o 0::o 1::o 2::o 3::.bool false::o 5::o 6::o 7::o 8::o 9::o 10::o 11::o 12::o 13::_⟩,[]⟩ W
  refine wpOp_step rfl fun _ hK => ?_
  go_simp
  exact hK _ _ ⟨rfl,rfl⟩
 ·intro o W hj
  have hj : KL _ _ W := hj
  obtain ⟨cL,c0,c1,c2,c3,c4,c5⟩ := bl6 (KL.blk hj (.tail _ (.head _)))
  show wpOp _ _ _ 6 _ ⟨⟨_::_::_::_::_::_::_::_::_::_::_::_::_::_::o 0::o 1::o 2::o 3::o 4::.bool false::o 6::o 7::o 8::o 9::o 10::o 11::o 12::o 13::_⟩,[]⟩ W
  refine wpOp_step rfl fun _ hK => ?_
  go_simp
  exact hK _ _ ⟨rfl,hj⟩
 ·intro o W hj
  have hj : KL _ _ W := hj
  obtain ⟨cL,c0,c1,c2,c3,c4,c5⟩ := bl6 (KL.blk hj (.head _))
  show wpOp _ _ _ 7 _ ⟨⟨_::_::_::_::_::_::_::_::_::_::_::_::_::_::o 0::o 1::o 2::o 3::o 4::.bool false::o 6::o 7::o 8::o 9::o 10::o 11::o 12::o 13::_⟩,[]⟩ W
  refine wpOp_step rfl fun _ hK => ?_
  go_simp
  exact hK _ _ ⟨rfl,hj⟩
 ·intro o W hj
  have hj : KL _ _ W := hj
  show wpOp _ _ _ 8 _ ⟨⟨_::_::_::_::_::_::_::_::_::_::_::_::_::_::o 0::o 1::o 2::o 3::o 4::.bool false::.agg #[a,b,c,d,p,q]::.agg #[n,r,x,g,wd,l]::o 8::o 9::o 10::o 11::o 12::o 13::_⟩,[]⟩ W
  refine wpOp_step rfl fun _ hK => ?_
  go_simp
  refine (hf1 _).mono ?_
  rintro e W1 ⟨rfl,hb1⟩
  exact hK _ _ ⟨rfl,hj.over hb1⟩
 ·intro o W hj
  have hj : KL _ _ W := hj
  obtain ⟨cL,c0,c1,c2,c3,c4,c5⟩ := bl6 (KL.blk hj (.tail _ (.head _)))
  show wpOp _ _ _ 9 _ ⟨⟨_::_::_::_::_::_::_::_::_::_::_::_::_::_::o 0::o 1::o 2::o 3::o 4::.bool false::o 6::o 7::o 8::o 9::o 10::o 11::o 12::o 13::_⟩,[]⟩ W
  refine wpOp_step rfl fun _ hK => ?_
  go_simp
  exact hK _ _ ⟨rfl,hj⟩
 ·intro o W hj
  have hj : KL _ _ W := hj
  obtain ⟨cL,c0,c1,c2,c3,c4,c5⟩ := bl6 (KL.blk hj (.head _))
  show wpOp _ _ _ 10 _ ⟨⟨_::_::_::_::_::_::_::_::_::_::_::_::_::_::o 0::o 1::o 2::o 3::o 4::.bool false::o 6::o 7::o 8::o 9::o 10::o 11::o 12::o 13::_⟩,[]⟩ W
  refine wpOp_step rfl fun _ hK => ?_
  go_simp
  exact hK _ _ ⟨rfl,hj⟩
 ·intro o W hj
  have hj : KL _ _ W := hj
  show wpOp _ _ _ 11 _ ⟨⟨_::_::_::_::_::_::_::_::_::_::_::_::_::_::o 0::o 1::o 2::o 3::o 4::.bool false::o 6::o 7::o 8::.agg #[a,b,c,d,p,q]::.agg #[n,r,x,g,wd,l]::o 11::o 12::o 13::_⟩,[]⟩ W
  refine wpOp_step rfl fun _ hK => ?_
  go_simp
  refine (hf2 _).mono ?_
  rintro e W1 ⟨rfl,hb1⟩
  exact hK _ _ ⟨rfl,hj.over hb1⟩
 ·intro o W _
  show wpOp _ _ _ 12 _ ⟨⟨_::_::_::_::_::_::_::_::_::_::_::_::_::_::o 0::o 1::o 2::o 3::o 4::.bool false::o 6::o 7::.int .i64 f0::o 9::o 10::.int .i64 f0::o 12::o 13::_⟩,[]⟩ W
  refine wpOp_step rfl fun _ hK => ?_
  go_simp
  exact hK _ _ ⟨rfl,rfl⟩
 ·intro o W _
  show wpOp _ _ _ 13 _ ⟨⟨_::_::_::_::_::_::_::_::_::_::_::_::_::_::o 0::o 1::o 2::o 3::o 4::.bool false::o 6::o 7::o 8::o 9::o 10::o 11::.bool false::o 13::_⟩,[]⟩ W
  refine wpOp_step rfl fun _ hK => ?_
  go_simp
  exact hK _ _ ⟨rfl,rfl⟩
 ·intro o hh_
  have e0 : o 0 = .agg #[a,b,c,d,p,q] := hh_ 0 (by decide)
  have e1 : o 1 = .int .i64 c0 := hh_ 1 (by decide)
  have e2 : o 2 = .agg #[a,b,c,d,p,q] := hh_ 2 (by decide)
  have e3 : o 3 = .int .i64 c0 := hh_ 3 (by decide)
  have e4 : o 4 = .bool false := hh_ 4 (by decide)
  have e5 : o 5 = .bool false := hh_ 5 (by decide)
  have e6 : o 6 = .agg #[a,b,c,d,p,q] := hh_ 6 (by decide)
  have e7 : o 7 = .agg #[n,r,x,g,wd,l] := hh_ 7 (by decide)
  have e8 : o 8 = .int .i64 f0 := hh_ 8 (by decide)
  have e9 : o 9 = .agg #[a,b,c,d,p,q] := hh_ 9 (by decide)
  have e10 : o 10 = .agg #[n,r,x,g,wd,l] := hh_ 10 (by decide)
  have e11 : o 11 = .int .i64 f0 := hh_ 11 (by decide)
  have e12 : o 12 = .bool false := hh_ 12 (by decide)
  have e13 : o 13 = .bool false := hh_ 13 (by decide)
  rw [e0,e1,e2,e3,e4,e5,e6,e7,e8,e9,e10,e11,e12,e13]
 ·intro W2 h2
  have h2 : KL _ _ W2 := h2
  obtain ⟨r2_L0,r2_0_0,r2_0_1,r2_0_2,r2_0_3,r2_0_4,r2_0_5⟩ := bl6 (KL.blk h2 (.head _))
  have r2_F0 := (KL.blk h2 (.head _)).frozen
  obtain ⟨r2_L1,r2_1_0,r2_1_1,r2_1_2,r2_1_3,r2_1_4,r2_1_5⟩ := bl6 (KL.blk h2 (.tail _ (.head _)))
  have r2_F1 := (KL.blk h2 (.tail _ (.head _))).frozen
  have hjb := h2.1
  have hjz := hjb.size
  go_wp2_with (first
   | (go_at_call 16; (with_reducible refine ((hh _)).mono ?_); rintro e w3 ⟨rfl,hb3⟩; have hj3 : KL [((w.heap.size + 1),27,#[n,r,x,g,wd,l]),(w.heap.size,25,#[a,b,c,d,p,q])] w w3 := KL.over h2 hb3; have hz3 := hb3.size; obtain ⟨c3_L0,c3_0_0,c3_0_1,c3_0_2,c3_0_3,c3_0_4,c3_0_5⟩ := bl6 (KL.blk hj3 (.head _)); have c3_F0 := (KL.blk hj3 (.head _)).frozen; obtain ⟨c3_L1,c3_1_0,c3_1_1,c3_1_2,c3_1_3,c3_1_4,c3_1_5⟩ := bl6 (KL.blk hj3 (.tail _ (.head _))); have c3_F1 := (KL.blk hj3 (.tail _ (.head _))).frozen)
   | (go_at_call 17; (with_reducible refine ((hl _)).mono ?_); rintro e w4 ⟨rfl,hb4⟩; have hj4 : KL [((w.heap.size + 1),27,#[n,r,x,g,wd,l]),(w.heap.size,25,#[a,b,c,d,p,q])] w w4 := KL.over hj3 hb4; have hz4 := hb4.size; obtain ⟨c4_L0,c4_0_0,c4_0_1,c4_0_2,c4_0_3,c4_0_4,c4_0_5⟩ := bl6 (KL.blk hj4 (.head _)); have c4_F0 := (KL.blk hj4 (.head _)).frozen; obtain ⟨c4_L1,c4_1_0,c4_1_1,c4_1_2,c4_1_3,c4_1_4,c4_1_5⟩ := bl6 (KL.blk hj4 (.tail _ (.head _))); have c4_F1 := (KL.blk hj4 (.tail _ (.head _))).frozen)
   | (go_at_call 18; (with_reducible refine ((hv _)).mono ?_); rintro e w5 ⟨rfl,hb5⟩; have hj5 : KL [((w.heap.size + 1),27,#[n,r,x,g,wd,l]),(w.heap.size,25,#[a,b,c,d,p,q])] w w5 := KL.over hj4 hb5; have hz5 := hb5.size; obtain ⟨c5_L0,c5_0_0,c5_0_1,c5_0_2,c5_0_3,c5_0_4,c5_0_5⟩ := bl6 (KL.blk hj5 (.head _)); have c5_F0 := (KL.blk hj5 (.head _)).frozen; obtain ⟨c5_L1,c5_1_0,c5_1_1,c5_1_2,c5_1_3,c5_1_4,c5_1_5⟩ := bl6 (KL.blk hj5 (.tail _ (.head _))); have c5_F1 := (KL.blk hj5 (.tail _ (.head _))).frozen))
  go_ret
  exact ⟨rfl,((show KL [((w.heap.size + 1),27,#[n,r,x,g,wd,l]),(w.heap.size,25,#[a,b,c,d,p,q])] w _ from hj5)).1⟩
set_option maxHeartbeats 8000000 in
set_option maxRecDepth 100000 in
theorem checks_neg (a b c d p q n r x g wd l k c0 f0 n1 ng v1 : Int)  (hc1 : ∀ w,Calls Try.prog 12 #[.agg #[a,b,c,d,p,q]] w fun e w' => e = .returned (.int .i64 c0) ∧ Below w.heap.size w w') (hc2 : ∀ w,Calls Try.prog 13 #[.agg #[a,b,c,d,p,q]] w fun e w' => e = .returned (.int .i64 c0) ∧ Below w.heap.size w w') (hf1 : ∀ w,Calls Try.prog 14 #[.agg #[a,b,c,d,p,q],.agg #[n,r,x,g,wd,l]] w fun e w' => e = .returned (.int .i64 f0) ∧ Below w.heap.size w w') (hf2 : ∀ w,Calls Try.prog 15 #[.agg #[a,b,c,d,p,q],.agg #[n,r,x,g,wd,l]] w fun e w' => e = .returned (.int .i64 f0) ∧ Below w.heap.size w w') (hh : ∀ w,Calls Try.prog 16 #[.agg #[n,r,x,g,wd,l]] w fun e w' => e = .returned (.tuple #[v1,ng,.int .i64 0]) ∧ Below w.heap.size w w') (hl : ∀ w,Calls Try.prog 17 #[.agg #[n,r,x,g,wd,l],.int .i64 k] w fun e w' => e = .returned (.tuple #[.int .i64 0,.int .i64 9]) ∧ Below w.heap.size w w') (hv : ∀ w,Calls Try.prog 18 #[.agg #[n,r,x,g,wd,l]] w fun e w' => e = .returned (.bool true) ∧ Below w.heap.size w w') (e1 : IntKind.i64.wrap (n - 1) = n1) (e2 : IntKind.i64.wrap (n * g) = ng) (hr1 : ∀ w,Calls Try.prog 19 #[.agg #[n,r,x,g,wd,l],.int .i64 n1] w fun e w' => e = .returned (.int .i64 v1) ∧ Below w.heap.size w w') (g1 : decide (k < 0) = true) (w : World) :
  Calls Try.prog 3 #[.agg #[a,b,c,d,p,q],.agg #[n,r,x,g,wd,l],.int .i64 k] w fun e w' => e = .returned (.bool true) ∧ Below w.heap.size w w' := by
 go_enter Try.func3,Try.ntmps3
 go_wp2_with (first
  | (go_at_call 11; (with_reducible refine ((awake_any _)).mono ?_); rintro e w1 ⟨rfl,hb1⟩; have hj1 : KL [((w.heap.size + 1),27,#[n,r,x,g,wd,l]),(w.heap.size,25,#[a,b,c,d,p,q])] w w1 := KL.over (KL.new (g := (w.heap.size + 1)) (KL.new (g := w.heap.size) (KL.nil w) rfl _ _) (by simp) _ _) hb1; have hz1 := hb1.size; obtain ⟨c1_L0,c1_0_0,c1_0_1,c1_0_2,c1_0_3,c1_0_4,c1_0_5⟩ := bl6 (KL.blk hj1 (.head _)); have c1_F0 := (KL.blk hj1 (.head _)).frozen; obtain ⟨c1_L1,c1_1_0,c1_1_1,c1_1_2,c1_1_3,c1_1_4,c1_1_5⟩ := bl6 (KL.blk hj1 (.tail _ (.head _))); have c1_F1 := (KL.blk hj1 (.tail _ (.head _))).frozen))
 refine wp_region_any (by kernel_rfl) ?_
 try (change wpAny _ _ _ _ _ _ _ (World.drew _))
 refine wpAny_vals (fr := fun o => #[.agg #[a,b,c,d,p,q],.agg #[n,r,x,g,wd,l],.int .i64 k,.pointer (some ⟨w.heap.size,0,none⟩),.pointer (some ⟨(w.heap.size + 1),0,none⟩),undef,.bool false,undef,undef,undef,undef,undef,.bool true,.bool false,o 0,o 1,o 2,o 3,o 4,o 5,o 6,o 7,o 8,o 9,o 10,o 11,o 12,o 13,undef,undef,undef,undef,undef,undef,undef,undef,undef,undef,undef,undef,undef,undef,undef,undef,undef,undef,undef,undef,undef,undef,undef,undef,undef,undef,undef,undef,undef,undef,undef,undef,undef,undef,undef,undef,undef,undef,undef,undef,undef,undef,undef,undef,undef,undef,undef,undef,undef,undef,undef,undef,undef,undef,undef,undef,undef,undef,undef,undef,undef,undef,undef,undef,undef,undef,undef,undef,undef,undef,undef,undef,undef,undef,undef,undef,undef]) (vals := fun i_ => ([.agg #[a,b,c,d,p,q],.int .i64 c0,.agg #[a,b,c,d,p,q],.int .i64 c0,.bool false,.bool false,.agg #[a,b,c,d,p,q],.agg #[n,r,x,g,wd,l],.int .i64 f0,.agg #[a,b,c,d,p,q],.agg #[n,r,x,g,wd,l],.int .i64 f0,.bool false,.bool false] : List Value).getD i_ undef) (Kf := fun _ => True) (K := fun kk_ => ([(KL [((w.heap.size + 1),27,#[n,r,x,g,wd,l]),(w.heap.size,25,#[a,b,c,d,p,q])] w)] : List (World → Prop)).getD kk_ (fun _ => True)) (dep := fun i_ => [[],[0],[],[2],[1,3],[4],[5],[5],[5,6,7],[5],[5],[5,9,10],[5,8,11],[5,12]].getD i_ []) (dv := fun i_ => [[],[0],[],[2],[1,3],[4],[5],[5],[5,6,7],[5],[5],[5,9,10],[5,8,11],[5,12]].getD i_ []) (kd := fun i_ => [1,1,1,1,0,0,1,1,1,1,1,1,0,0].getD i_ 0) (ss := []) (l := [0,1,2,3,4,5,6,7,8,9,10,11,12,13]) (f0 := fun _ => undef) (A := ?A2) 14 ?_ ?_ ?_ ?_ ?_ ?_ ⟨?_,?_,?_,?_,?_,?_,?_,?_,?_,?_,?_,?_,?_,?_,trivial⟩ ?_ ?_
 rotate_left
 ·rfl
 ·rfl
 ·decide +kernel
 ·decide +kernel
 ·exact KL.drew hj1
 ·exact fun _ _ _ _ => trivial
 ·intro o W hj
  have hj : KL _ _ W := hj
  obtain ⟨cL,c0,c1,c2,c3,c4,c5⟩ := bl6 (KL.blk hj (.tail _ (.head _)))
  show wpOp _ _ _ 0 _ ⟨⟨_::_::_::_::_::_::_::_::_::_::_::_::_::_::o 0::o 1::o 2::o 3::o 4::o 5::o 6::o 7::o 8::o 9::o 10::o 11::o 12::o 13::_⟩,[]⟩ W
  refine wpOp_step rfl fun _ hK => ?_
  go_simp
  exact hK _ _ ⟨rfl,hj⟩
 ·intro o W hj
  have hj : KL _ _ W := hj
  show wpOp _ _ _ 1 _ ⟨⟨_::_::_::_::_::_::_::_::_::_::_::_::_::_::.agg #[a,b,c,d,p,q]::o 1::o 2::o 3::o 4::o 5::o 6::o 7::o 8::o 9::o 10::o 11::o 12::o 13::_⟩,[]⟩ W
  refine wpOp_step rfl fun _ hK => ?_
  go_simp
  refine (hc1 _).mono ?_
  rintro e W1 ⟨rfl,hb1⟩
  exact hK _ _ ⟨rfl,hj.over hb1⟩
 ·intro o W hj
  have hj : KL _ _ W := hj
  obtain ⟨cL,c0,c1,c2,c3,c4,c5⟩ := bl6 (KL.blk hj (.tail _ (.head _)))
  show wpOp _ _ _ 2 _ ⟨⟨_::_::_::_::_::_::_::_::_::_::_::_::_::_::o 0::o 1::o 2::o 3::o 4::o 5::o 6::o 7::o 8::o 9::o 10::o 11::o 12::o 13::_⟩,[]⟩ W
  refine wpOp_step rfl fun _ hK => ?_
  go_simp
  exact hK _ _ ⟨rfl,hj⟩
 ·intro o W hj
  have hj : KL _ _ W := hj
  show wpOp _ _ _ 3 _ ⟨⟨_::_::_::_::_::_::_::_::_::_::_::_::_::_::o 0::o 1::.agg #[a,b,c,d,p,q]::o 3::o 4::o 5::o 6::o 7::o 8::o 9::o 10::o 11::o 12::o 13::_⟩,[]⟩ W
  refine wpOp_step rfl fun _ hK => ?_
  go_simp
  refine (hc2 _).mono ?_
  rintro e W1 ⟨rfl,hb1⟩
  exact hK _ _ ⟨rfl,hj.over hb1⟩
 ·intro o W _
  show wpOp _ _ _ 4 _ ⟨⟨_::_::_::_::_::_::_::_::_::_::_::_::_::_::o 0::.int .i64 c0::o 2::.int .i64 c0::o 4::o 5::o 6::o 7::o 8::o 9::o 10::o 11::o 12::o 13::_⟩,[]⟩ W
  refine wpOp_step rfl fun _ hK => ?_
  go_simp
  exact hK _ _ ⟨rfl,rfl⟩
 ·intro o W _
  show wpOp _ _ _ 5 _ ⟨⟨_::_::_::_::_::_::_::_::_::_::_::_::_::_::o 0::o 1::o 2::o 3::.bool false::o 5::o 6::o 7::o 8::o 9::o 10::o 11::o 12::o 13::_⟩,[]⟩ W
  refine wpOp_step rfl fun _ hK => ?_
  go_simp
  exact hK _ _ ⟨rfl,rfl⟩
 ·intro o W hj
  have hj : KL _ _ W := hj
  obtain ⟨cL,c0,c1,c2,c3,c4,c5⟩ := bl6 (KL.blk hj (.tail _ (.head _)))
  show wpOp _ _ _ 6 _ ⟨⟨_::_::_::_::_::_::_::_::_::_::_::_::_::_::o 0::o 1::o 2::o 3::o 4::.bool false::o 6::o 7::o 8::o 9::o 10::o 11::o 12::o 13::_⟩,[]⟩ W
  refine wpOp_step rfl fun _ hK => ?_
  go_simp
  exact hK _ _ ⟨rfl,hj⟩
 ·intro o W hj
  have hj : KL _ _ W := hj
  obtain ⟨cL,c0,c1,c2,c3,c4,c5⟩ := bl6 (KL.blk hj (.head _))
  show wpOp _ _ _ 7 _ ⟨⟨_::_::_::_::_::_::_::_::_::_::_::_::_::_::o 0::o 1::o 2::o 3::o 4::.bool false::o 6::o 7::o 8::o 9::o 10::o 11::o 12::o 13::_⟩,[]⟩ W
  refine wpOp_step rfl fun _ hK => ?_
  go_simp
  exact hK _ _ ⟨rfl,hj⟩
 ·intro o W hj
  have hj : KL _ _ W := hj
  show wpOp _ _ _ 8 _ ⟨⟨_::_::_::_::_::_::_::_::_::_::_::_::_::_::o 0::o 1::o 2::o 3::o 4::.bool false::.agg #[a,b,c,d,p,q]::.agg #[n,r,x,g,wd,l]::o 8::o 9::o 10::o 11::o 12::o 13::_⟩,[]⟩ W
  refine wpOp_step rfl fun _ hK => ?_
  go_simp
  refine (hf1 _).mono ?_
  rintro e W1 ⟨rfl,hb1⟩
  exact hK _ _ ⟨rfl,hj.over hb1⟩
 ·intro o W hj
  have hj : KL _ _ W := hj
  obtain ⟨cL,c0,c1,c2,c3,c4,c5⟩ := bl6 (KL.blk hj (.tail _ (.head _)))
  show wpOp _ _ _ 9 _ ⟨⟨_::_::_::_::_::_::_::_::_::_::_::_::_::_::o 0::o 1::o 2::o 3::o 4::.bool false::o 6::o 7::o 8::o 9::o 10::o 11::o 12::o 13::_⟩,[]⟩ W
  refine wpOp_step rfl fun _ hK => ?_
  go_simp
  exact hK _ _ ⟨rfl,hj⟩
 ·intro o W hj
  have hj : KL _ _ W := hj
  obtain ⟨cL,c0,c1,c2,c3,c4,c5⟩ := bl6 (KL.blk hj (.head _))
  show wpOp _ _ _ 10 _ ⟨⟨_::_::_::_::_::_::_::_::_::_::_::_::_::_::o 0::o 1::o 2::o 3::o 4::.bool false::o 6::o 7::o 8::o 9::o 10::o 11::o 12::o 13::_⟩,[]⟩ W
  refine wpOp_step rfl fun _ hK => ?_
  go_simp
  exact hK _ _ ⟨rfl,hj⟩
 ·intro o W hj
  have hj : KL _ _ W := hj
  show wpOp _ _ _ 11 _ ⟨⟨_::_::_::_::_::_::_::_::_::_::_::_::_::_::o 0::o 1::o 2::o 3::o 4::.bool false::o 6::o 7::o 8::.agg #[a,b,c,d,p,q]::.agg #[n,r,x,g,wd,l]::o 11::o 12::o 13::_⟩,[]⟩ W
  refine wpOp_step rfl fun _ hK => ?_
  go_simp
  refine (hf2 _).mono ?_
  rintro e W1 ⟨rfl,hb1⟩
  exact hK _ _ ⟨rfl,hj.over hb1⟩
 ·intro o W _
  show wpOp _ _ _ 12 _ ⟨⟨_::_::_::_::_::_::_::_::_::_::_::_::_::_::o 0::o 1::o 2::o 3::o 4::.bool false::o 6::o 7::.int .i64 f0::o 9::o 10::.int .i64 f0::o 12::o 13::_⟩,[]⟩ W
  refine wpOp_step rfl fun _ hK => ?_
  go_simp
  exact hK _ _ ⟨rfl,rfl⟩
 ·intro o W _
  show wpOp _ _ _ 13 _ ⟨⟨_::_::_::_::_::_::_::_::_::_::_::_::_::_::o 0::o 1::o 2::o 3::o 4::.bool false::o 6::o 7::o 8::o 9::o 10::o 11::.bool false::o 13::_⟩,[]⟩ W
  refine wpOp_step rfl fun _ hK => ?_
  go_simp
  exact hK _ _ ⟨rfl,rfl⟩
 ·intro o hh_
  have e0 : o 0 = .agg #[a,b,c,d,p,q] := hh_ 0 (by decide)
  have e1 : o 1 = .int .i64 c0 := hh_ 1 (by decide)
  have e2 : o 2 = .agg #[a,b,c,d,p,q] := hh_ 2 (by decide)
  have e3 : o 3 = .int .i64 c0 := hh_ 3 (by decide)
  have e4 : o 4 = .bool false := hh_ 4 (by decide)
  have e5 : o 5 = .bool false := hh_ 5 (by decide)
  have e6 : o 6 = .agg #[a,b,c,d,p,q] := hh_ 6 (by decide)
  have e7 : o 7 = .agg #[n,r,x,g,wd,l] := hh_ 7 (by decide)
  have e8 : o 8 = .int .i64 f0 := hh_ 8 (by decide)
  have e9 : o 9 = .agg #[a,b,c,d,p,q] := hh_ 9 (by decide)
  have e10 : o 10 = .agg #[n,r,x,g,wd,l] := hh_ 10 (by decide)
  have e11 : o 11 = .int .i64 f0 := hh_ 11 (by decide)
  have e12 : o 12 = .bool false := hh_ 12 (by decide)
  have e13 : o 13 = .bool false := hh_ 13 (by decide)
  rw [e0,e1,e2,e3,e4,e5,e6,e7,e8,e9,e10,e11,e12,e13]
 ·intro W2 h2
  have h2 : KL _ _ W2 := h2
  obtain ⟨r2_L0,r2_0_0,r2_0_1,r2_0_2,r2_0_3,r2_0_4,r2_0_5⟩ := bl6 (KL.blk h2 (.head _))
  have r2_F0 := (KL.blk h2 (.head _)).frozen
  obtain ⟨r2_L1,r2_1_0,r2_1_1,r2_1_2,r2_1_3,r2_1_4,r2_1_5⟩ := bl6 (KL.blk h2 (.tail _ (.head _)))
  have r2_F1 := (KL.blk h2 (.tail _ (.head _))).frozen
  have hjb := h2.1
  have hjz := hjb.size
  go_wp2_with (first
   | (go_at_call 16; (with_reducible refine ((hh _)).mono ?_); rintro e w3 ⟨rfl,hb3⟩; have hj3 : KL [((w.heap.size + 1),27,#[n,r,x,g,wd,l]),(w.heap.size,25,#[a,b,c,d,p,q])] w w3 := KL.over h2 hb3; have hz3 := hb3.size; obtain ⟨c3_L0,c3_0_0,c3_0_1,c3_0_2,c3_0_3,c3_0_4,c3_0_5⟩ := bl6 (KL.blk hj3 (.head _)); have c3_F0 := (KL.blk hj3 (.head _)).frozen; obtain ⟨c3_L1,c3_1_0,c3_1_1,c3_1_2,c3_1_3,c3_1_4,c3_1_5⟩ := bl6 (KL.blk hj3 (.tail _ (.head _))); have c3_F1 := (KL.blk hj3 (.tail _ (.head _))).frozen)
   | (go_at_call 17; (with_reducible refine ((hl _)).mono ?_); rintro e w4 ⟨rfl,hb4⟩; have hj4 : KL [((w.heap.size + 1),27,#[n,r,x,g,wd,l]),(w.heap.size,25,#[a,b,c,d,p,q])] w w4 := KL.over hj3 hb4; have hz4 := hb4.size; obtain ⟨c4_L0,c4_0_0,c4_0_1,c4_0_2,c4_0_3,c4_0_4,c4_0_5⟩ := bl6 (KL.blk hj4 (.head _)); have c4_F0 := (KL.blk hj4 (.head _)).frozen; obtain ⟨c4_L1,c4_1_0,c4_1_1,c4_1_2,c4_1_3,c4_1_4,c4_1_5⟩ := bl6 (KL.blk hj4 (.tail _ (.head _))); have c4_F1 := (KL.blk hj4 (.tail _ (.head _))).frozen)
   | (go_at_call 18; (with_reducible refine ((hv _)).mono ?_); rintro e w5 ⟨rfl,hb5⟩; have hj5 : KL [((w.heap.size + 1),27,#[n,r,x,g,wd,l]),(w.heap.size,25,#[a,b,c,d,p,q])] w w5 := KL.over hj4 hb5; have hz5 := hb5.size; obtain ⟨c5_L0,c5_0_0,c5_0_1,c5_0_2,c5_0_3,c5_0_4,c5_0_5⟩ := bl6 (KL.blk hj5 (.head _)); have c5_F0 := (KL.blk hj5 (.head _)).frozen; obtain ⟨c5_L1,c5_1_0,c5_1_1,c5_1_2,c5_1_3,c5_1_4,c5_1_5⟩ := bl6 (KL.blk hj5 (.tail _ (.head _))); have c5_F1 := (KL.blk hj5 (.tail _ (.head _))).frozen)
   | (go_at_call 19; (with_reducible refine ((hr1 _)).mono ?_); rintro e w6 ⟨rfl,hb6⟩; have hj6 : KL [((w.heap.size + 1),27,#[n,r,x,g,wd,l]),(w.heap.size,25,#[a,b,c,d,p,q])] w w6 := KL.over hj5 hb6; have hz6 := hb6.size; obtain ⟨c6_L0,c6_0_0,c6_0_1,c6_0_2,c6_0_3,c6_0_4,c6_0_5⟩ := bl6 (KL.blk hj6 (.head _)); have c6_F0 := (KL.blk hj6 (.head _)).frozen; obtain ⟨c6_L1,c6_1_0,c6_1_1,c6_1_2,c6_1_3,c6_1_4,c6_1_5⟩ := bl6 (KL.blk hj6 (.tail _ (.head _))); have c6_F1 := (KL.blk hj6 (.tail _ (.head _))).frozen))
  go_ret
  exact ⟨rfl,((show KL [((w.heap.size + 1),27,#[n,r,x,g,wd,l]),(w.heap.size,25,#[a,b,c,d,p,q])] w _ from hj6)).1⟩
set_option maxHeartbeats 8000000 in
set_option maxRecDepth 100000 in
theorem checks_far (a b c d p q n r x g wd l k c0 f0 n1 ng v1 : Int)  (hc1 : ∀ w,Calls Try.prog 12 #[.agg #[a,b,c,d,p,q]] w fun e w' => e = .returned (.int .i64 c0) ∧ Below w.heap.size w w') (hc2 : ∀ w,Calls Try.prog 13 #[.agg #[a,b,c,d,p,q]] w fun e w' => e = .returned (.int .i64 c0) ∧ Below w.heap.size w w') (hf1 : ∀ w,Calls Try.prog 14 #[.agg #[a,b,c,d,p,q],.agg #[n,r,x,g,wd,l]] w fun e w' => e = .returned (.int .i64 f0) ∧ Below w.heap.size w w') (hf2 : ∀ w,Calls Try.prog 15 #[.agg #[a,b,c,d,p,q],.agg #[n,r,x,g,wd,l]] w fun e w' => e = .returned (.int .i64 f0) ∧ Below w.heap.size w w') (hh : ∀ w,Calls Try.prog 16 #[.agg #[n,r,x,g,wd,l]] w fun e w' => e = .returned (.tuple #[v1,ng,.int .i64 0]) ∧ Below w.heap.size w w') (hl : ∀ w,Calls Try.prog 17 #[.agg #[n,r,x,g,wd,l],.int .i64 k] w fun e w' => e = .returned (.tuple #[.int .i64 0,.int .i64 9]) ∧ Below w.heap.size w w') (hv : ∀ w,Calls Try.prog 18 #[.agg #[n,r,x,g,wd,l]] w fun e w' => e = .returned (.bool true) ∧ Below w.heap.size w w') (e1 : IntKind.i64.wrap (n - 1) = n1) (e2 : IntKind.i64.wrap (n * g) = ng) (hr1 : ∀ w,Calls Try.prog 19 #[.agg #[n,r,x,g,wd,l],.int .i64 n1] w fun e w' => e = .returned (.int .i64 v1) ∧ Below w.heap.size w w') (g1 : decide (k < 0) = false) (g2 : decide (n ≤ k) = true) (w : World) :
  Calls Try.prog 3 #[.agg #[a,b,c,d,p,q],.agg #[n,r,x,g,wd,l],.int .i64 k] w fun e w' => e = .returned (.bool true) ∧ Below w.heap.size w w' := by
 go_enter Try.func3,Try.ntmps3
 go_wp2_with (first
  | (go_at_call 11; (with_reducible refine ((awake_any _)).mono ?_); rintro e w1 ⟨rfl,hb1⟩; have hj1 : KL [((w.heap.size + 1),27,#[n,r,x,g,wd,l]),(w.heap.size,25,#[a,b,c,d,p,q])] w w1 := KL.over (KL.new (g := (w.heap.size + 1)) (KL.new (g := w.heap.size) (KL.nil w) rfl _ _) (by simp) _ _) hb1; have hz1 := hb1.size; obtain ⟨c1_L0,c1_0_0,c1_0_1,c1_0_2,c1_0_3,c1_0_4,c1_0_5⟩ := bl6 (KL.blk hj1 (.head _)); have c1_F0 := (KL.blk hj1 (.head _)).frozen; obtain ⟨c1_L1,c1_1_0,c1_1_1,c1_1_2,c1_1_3,c1_1_4,c1_1_5⟩ := bl6 (KL.blk hj1 (.tail _ (.head _))); have c1_F1 := (KL.blk hj1 (.tail _ (.head _))).frozen))
 refine wp_region_any (by kernel_rfl) ?_
 try (change wpAny _ _ _ _ _ _ _ (World.drew _))
 refine wpAny_vals (fr := fun o => #[.agg #[a,b,c,d,p,q],.agg #[n,r,x,g,wd,l],.int .i64 k,.pointer (some ⟨w.heap.size,0,none⟩),.pointer (some ⟨(w.heap.size + 1),0,none⟩),undef,.bool false,undef,undef,undef,undef,undef,.bool true,.bool false,o 0,o 1,o 2,o 3,o 4,o 5,o 6,o 7,o 8,o 9,o 10,o 11,o 12,o 13,undef,undef,undef,undef,undef,undef,undef,undef,undef,undef,undef,undef,undef,undef,undef,undef,undef,undef,undef,undef,undef,undef,undef,undef,undef,undef,undef,undef,undef,undef,undef,undef,undef,undef,undef,undef,undef,undef,undef,undef,undef,undef,undef,undef,undef,undef,undef,undef,undef,undef,undef,undef,undef,undef,undef,undef,undef,undef,undef,undef,undef,undef,undef,undef,undef,undef,undef,undef,undef,undef,undef,undef,undef,undef,undef,undef,undef]) (vals := fun i_ => ([.agg #[a,b,c,d,p,q],.int .i64 c0,.agg #[a,b,c,d,p,q],.int .i64 c0,.bool false,.bool false,.agg #[a,b,c,d,p,q],.agg #[n,r,x,g,wd,l],.int .i64 f0,.agg #[a,b,c,d,p,q],.agg #[n,r,x,g,wd,l],.int .i64 f0,.bool false,.bool false] : List Value).getD i_ undef) (Kf := fun _ => True) (K := fun kk_ => ([(KL [((w.heap.size + 1),27,#[n,r,x,g,wd,l]),(w.heap.size,25,#[a,b,c,d,p,q])] w)] : List (World → Prop)).getD kk_ (fun _ => True)) (dep := fun i_ => [[],[0],[],[2],[1,3],[4],[5],[5],[5,6,7],[5],[5],[5,9,10],[5,8,11],[5,12]].getD i_ []) (dv := fun i_ => [[],[0],[],[2],[1,3],[4],[5],[5],[5,6,7],[5],[5],[5,9,10],[5,8,11],[5,12]].getD i_ []) (kd := fun i_ => [1,1,1,1,0,0,1,1,1,1,1,1,0,0].getD i_ 0) (ss := []) (l := [0,1,2,3,4,5,6,7,8,9,10,11,12,13]) (f0 := fun _ => undef) (A := ?A3) 14 ?_ ?_ ?_ ?_ ?_ ?_ ⟨?_,?_,?_,?_,?_,?_,?_,?_,?_,?_,?_,?_,?_,?_,trivial⟩ ?_ ?_
 rotate_left
 ·rfl
 ·rfl
 ·decide +kernel
 ·decide +kernel
 ·exact KL.drew hj1
 ·exact fun _ _ _ _ => trivial
 ·intro o W hj
  have hj : KL _ _ W := hj
  obtain ⟨cL,c0,c1,c2,c3,c4,c5⟩ := bl6 (KL.blk hj (.tail _ (.head _)))
  show wpOp _ _ _ 0 _ ⟨⟨_::_::_::_::_::_::_::_::_::_::_::_::_::_::o 0::o 1::o 2::o 3::o 4::o 5::o 6::o 7::o 8::o 9::o 10::o 11::o 12::o 13::_⟩,[]⟩ W
  refine wpOp_step rfl fun _ hK => ?_
  go_simp
  exact hK _ _ ⟨rfl,hj⟩
 ·intro o W hj
  have hj : KL _ _ W := hj
  show wpOp _ _ _ 1 _ ⟨⟨_::_::_::_::_::_::_::_::_::_::_::_::_::_::.agg #[a,b,c,d,p,q]::o 1::o 2::o 3::o 4::o 5::o 6::o 7::o 8::o 9::o 10::o 11::o 12::o 13::_⟩,[]⟩ W
  refine wpOp_step rfl fun _ hK => ?_
  go_simp
  refine (hc1 _).mono ?_
  rintro e W1 ⟨rfl,hb1⟩
  exact hK _ _ ⟨rfl,hj.over hb1⟩
 ·intro o W hj
  have hj : KL _ _ W := hj
  obtain ⟨cL,c0,c1,c2,c3,c4,c5⟩ := bl6 (KL.blk hj (.tail _ (.head _)))
  show wpOp _ _ _ 2 _ ⟨⟨_::_::_::_::_::_::_::_::_::_::_::_::_::_::o 0::o 1::o 2::o 3::o 4::o 5::o 6::o 7::o 8::o 9::o 10::o 11::o 12::o 13::_⟩,[]⟩ W
  refine wpOp_step rfl fun _ hK => ?_
  go_simp
  exact hK _ _ ⟨rfl,hj⟩
 ·intro o W hj
  have hj : KL _ _ W := hj
  show wpOp _ _ _ 3 _ ⟨⟨_::_::_::_::_::_::_::_::_::_::_::_::_::_::o 0::o 1::.agg #[a,b,c,d,p,q]::o 3::o 4::o 5::o 6::o 7::o 8::o 9::o 10::o 11::o 12::o 13::_⟩,[]⟩ W
  refine wpOp_step rfl fun _ hK => ?_
  go_simp
  refine (hc2 _).mono ?_
  rintro e W1 ⟨rfl,hb1⟩
  exact hK _ _ ⟨rfl,hj.over hb1⟩
 ·intro o W _
  show wpOp _ _ _ 4 _ ⟨⟨_::_::_::_::_::_::_::_::_::_::_::_::_::_::o 0::.int .i64 c0::o 2::.int .i64 c0::o 4::o 5::o 6::o 7::o 8::o 9::o 10::o 11::o 12::o 13::_⟩,[]⟩ W
  refine wpOp_step rfl fun _ hK => ?_
  go_simp
  exact hK _ _ ⟨rfl,rfl⟩
 ·intro o W _
  show wpOp _ _ _ 5 _ ⟨⟨_::_::_::_::_::_::_::_::_::_::_::_::_::_::o 0::o 1::o 2::o 3::.bool false::o 5::o 6::o 7::o 8::o 9::o 10::o 11::o 12::o 13::_⟩,[]⟩ W
  refine wpOp_step rfl fun _ hK => ?_
  go_simp
  exact hK _ _ ⟨rfl,rfl⟩
 ·intro o W hj
  have hj : KL _ _ W := hj
  obtain ⟨cL,c0,c1,c2,c3,c4,c5⟩ := bl6 (KL.blk hj (.tail _ (.head _)))
  show wpOp _ _ _ 6 _ ⟨⟨_::_::_::_::_::_::_::_::_::_::_::_::_::_::o 0::o 1::o 2::o 3::o 4::.bool false::o 6::o 7::o 8::o 9::o 10::o 11::o 12::o 13::_⟩,[]⟩ W
  refine wpOp_step rfl fun _ hK => ?_
  go_simp
  exact hK _ _ ⟨rfl,hj⟩
 ·intro o W hj
  have hj : KL _ _ W := hj
  obtain ⟨cL,c0,c1,c2,c3,c4,c5⟩ := bl6 (KL.blk hj (.head _))
  show wpOp _ _ _ 7 _ ⟨⟨_::_::_::_::_::_::_::_::_::_::_::_::_::_::o 0::o 1::o 2::o 3::o 4::.bool false::o 6::o 7::o 8::o 9::o 10::o 11::o 12::o 13::_⟩,[]⟩ W
  refine wpOp_step rfl fun _ hK => ?_
  go_simp
  exact hK _ _ ⟨rfl,hj⟩
 ·intro o W hj
  have hj : KL _ _ W := hj
  show wpOp _ _ _ 8 _ ⟨⟨_::_::_::_::_::_::_::_::_::_::_::_::_::_::o 0::o 1::o 2::o 3::o 4::.bool false::.agg #[a,b,c,d,p,q]::.agg #[n,r,x,g,wd,l]::o 8::o 9::o 10::o 11::o 12::o 13::_⟩,[]⟩ W
  refine wpOp_step rfl fun _ hK => ?_
  go_simp
  refine (hf1 _).mono ?_
  rintro e W1 ⟨rfl,hb1⟩
  exact hK _ _ ⟨rfl,hj.over hb1⟩
 ·intro o W hj
  have hj : KL _ _ W := hj
  obtain ⟨cL,c0,c1,c2,c3,c4,c5⟩ := bl6 (KL.blk hj (.tail _ (.head _)))
  show wpOp _ _ _ 9 _ ⟨⟨_::_::_::_::_::_::_::_::_::_::_::_::_::_::o 0::o 1::o 2::o 3::o 4::.bool false::o 6::o 7::o 8::o 9::o 10::o 11::o 12::o 13::_⟩,[]⟩ W
  refine wpOp_step rfl fun _ hK => ?_
  go_simp
  exact hK _ _ ⟨rfl,hj⟩
 ·intro o W hj
  have hj : KL _ _ W := hj
  obtain ⟨cL,c0,c1,c2,c3,c4,c5⟩ := bl6 (KL.blk hj (.head _))
  show wpOp _ _ _ 10 _ ⟨⟨_::_::_::_::_::_::_::_::_::_::_::_::_::_::o 0::o 1::o 2::o 3::o 4::.bool false::o 6::o 7::o 8::o 9::o 10::o 11::o 12::o 13::_⟩,[]⟩ W
  refine wpOp_step rfl fun _ hK => ?_
  go_simp
  exact hK _ _ ⟨rfl,hj⟩
 ·intro o W hj
  have hj : KL _ _ W := hj
  show wpOp _ _ _ 11 _ ⟨⟨_::_::_::_::_::_::_::_::_::_::_::_::_::_::o 0::o 1::o 2::o 3::o 4::.bool false::o 6::o 7::o 8::.agg #[a,b,c,d,p,q]::.agg #[n,r,x,g,wd,l]::o 11::o 12::o 13::_⟩,[]⟩ W
  refine wpOp_step rfl fun _ hK => ?_
  go_simp
  refine (hf2 _).mono ?_
  rintro e W1 ⟨rfl,hb1⟩
  exact hK _ _ ⟨rfl,hj.over hb1⟩
 ·intro o W _
  show wpOp _ _ _ 12 _ ⟨⟨_::_::_::_::_::_::_::_::_::_::_::_::_::_::o 0::o 1::o 2::o 3::o 4::.bool false::o 6::o 7::.int .i64 f0::o 9::o 10::.int .i64 f0::o 12::o 13::_⟩,[]⟩ W
  refine wpOp_step rfl fun _ hK => ?_
  go_simp
  exact hK _ _ ⟨rfl,rfl⟩
 ·intro o W _
  show wpOp _ _ _ 13 _ ⟨⟨_::_::_::_::_::_::_::_::_::_::_::_::_::_::o 0::o 1::o 2::o 3::o 4::.bool false::o 6::o 7::o 8::o 9::o 10::o 11::.bool false::o 13::_⟩,[]⟩ W
  refine wpOp_step rfl fun _ hK => ?_
  go_simp
  exact hK _ _ ⟨rfl,rfl⟩
 ·intro o hh_
  have e0 : o 0 = .agg #[a,b,c,d,p,q] := hh_ 0 (by decide)
  have e1 : o 1 = .int .i64 c0 := hh_ 1 (by decide)
  have e2 : o 2 = .agg #[a,b,c,d,p,q] := hh_ 2 (by decide)
  have e3 : o 3 = .int .i64 c0 := hh_ 3 (by decide)
  have e4 : o 4 = .bool false := hh_ 4 (by decide)
  have e5 : o 5 = .bool false := hh_ 5 (by decide)
  have e6 : o 6 = .agg #[a,b,c,d,p,q] := hh_ 6 (by decide)
  have e7 : o 7 = .agg #[n,r,x,g,wd,l] := hh_ 7 (by decide)
  have e8 : o 8 = .int .i64 f0 := hh_ 8 (by decide)
  have e9 : o 9 = .agg #[a,b,c,d,p,q] := hh_ 9 (by decide)
  have e10 : o 10 = .agg #[n,r,x,g,wd,l] := hh_ 10 (by decide)
  have e11 : o 11 = .int .i64 f0 := hh_ 11 (by decide)
  have e12 : o 12 = .bool false := hh_ 12 (by decide)
  have e13 : o 13 = .bool false := hh_ 13 (by decide)
  rw [e0,e1,e2,e3,e4,e5,e6,e7,e8,e9,e10,e11,e12,e13]
 ·intro W2 h2
  have h2 : KL _ _ W2 := h2
  obtain ⟨r2_L0,r2_0_0,r2_0_1,r2_0_2,r2_0_3,r2_0_4,r2_0_5⟩ := bl6 (KL.blk h2 (.head _))
  have r2_F0 := (KL.blk h2 (.head _)).frozen
  obtain ⟨r2_L1,r2_1_0,r2_1_1,r2_1_2,r2_1_3,r2_1_4,r2_1_5⟩ := bl6 (KL.blk h2 (.tail _ (.head _)))
  have r2_F1 := (KL.blk h2 (.tail _ (.head _))).frozen
  have hjb := h2.1
  have hjz := hjb.size
  go_wp2_with (first
   | (go_at_call 16; (with_reducible refine ((hh _)).mono ?_); rintro e w3 ⟨rfl,hb3⟩; have hj3 : KL [((w.heap.size + 1),27,#[n,r,x,g,wd,l]),(w.heap.size,25,#[a,b,c,d,p,q])] w w3 := KL.over h2 hb3; have hz3 := hb3.size; obtain ⟨c3_L0,c3_0_0,c3_0_1,c3_0_2,c3_0_3,c3_0_4,c3_0_5⟩ := bl6 (KL.blk hj3 (.head _)); have c3_F0 := (KL.blk hj3 (.head _)).frozen; obtain ⟨c3_L1,c3_1_0,c3_1_1,c3_1_2,c3_1_3,c3_1_4,c3_1_5⟩ := bl6 (KL.blk hj3 (.tail _ (.head _))); have c3_F1 := (KL.blk hj3 (.tail _ (.head _))).frozen)
   | (go_at_call 17; (with_reducible refine ((hl _)).mono ?_); rintro e w4 ⟨rfl,hb4⟩; have hj4 : KL [((w.heap.size + 1),27,#[n,r,x,g,wd,l]),(w.heap.size,25,#[a,b,c,d,p,q])] w w4 := KL.over hj3 hb4; have hz4 := hb4.size; obtain ⟨c4_L0,c4_0_0,c4_0_1,c4_0_2,c4_0_3,c4_0_4,c4_0_5⟩ := bl6 (KL.blk hj4 (.head _)); have c4_F0 := (KL.blk hj4 (.head _)).frozen; obtain ⟨c4_L1,c4_1_0,c4_1_1,c4_1_2,c4_1_3,c4_1_4,c4_1_5⟩ := bl6 (KL.blk hj4 (.tail _ (.head _))); have c4_F1 := (KL.blk hj4 (.tail _ (.head _))).frozen)
   | (go_at_call 18; (with_reducible refine ((hv _)).mono ?_); rintro e w5 ⟨rfl,hb5⟩; have hj5 : KL [((w.heap.size + 1),27,#[n,r,x,g,wd,l]),(w.heap.size,25,#[a,b,c,d,p,q])] w w5 := KL.over hj4 hb5; have hz5 := hb5.size; obtain ⟨c5_L0,c5_0_0,c5_0_1,c5_0_2,c5_0_3,c5_0_4,c5_0_5⟩ := bl6 (KL.blk hj5 (.head _)); have c5_F0 := (KL.blk hj5 (.head _)).frozen; obtain ⟨c5_L1,c5_1_0,c5_1_1,c5_1_2,c5_1_3,c5_1_4,c5_1_5⟩ := bl6 (KL.blk hj5 (.tail _ (.head _))); have c5_F1 := (KL.blk hj5 (.tail _ (.head _))).frozen)
   | (go_at_call 19; (with_reducible refine ((hr1 _)).mono ?_); rintro e w6 ⟨rfl,hb6⟩; have hj6 : KL [((w.heap.size + 1),27,#[n,r,x,g,wd,l]),(w.heap.size,25,#[a,b,c,d,p,q])] w w6 := KL.over hj5 hb6; have hz6 := hb6.size; obtain ⟨c6_L0,c6_0_0,c6_0_1,c6_0_2,c6_0_3,c6_0_4,c6_0_5⟩ := bl6 (KL.blk hj6 (.head _)); have c6_F0 := (KL.blk hj6 (.head _)).frozen; obtain ⟨c6_L1,c6_1_0,c6_1_1,c6_1_2,c6_1_3,c6_1_4,c6_1_5⟩ := bl6 (KL.blk hj6 (.tail _ (.head _))); have c6_F1 := (KL.blk hj6 (.tail _ (.head _))).frozen))
  go_ret
  exact ⟨rfl,((show KL [((w.heap.size + 1),27,#[n,r,x,g,wd,l]),(w.heap.size,25,#[a,b,c,d,p,q])] w _ from hj6)).1⟩
set_option maxHeartbeats 8000000 in
set_option maxRecDepth 100000 in
theorem checks_in (a b c d p q n r x g wd l k c0 f0 n1 ng v1 v2 : Int)  (hc1 : ∀ w,Calls Try.prog 12 #[.agg #[a,b,c,d,p,q]] w fun e w' => e = .returned (.int .i64 c0) ∧ Below w.heap.size w w') (hc2 : ∀ w,Calls Try.prog 13 #[.agg #[a,b,c,d,p,q]] w fun e w' => e = .returned (.int .i64 c0) ∧ Below w.heap.size w w') (hf1 : ∀ w,Calls Try.prog 14 #[.agg #[a,b,c,d,p,q],.agg #[n,r,x,g,wd,l]] w fun e w' => e = .returned (.int .i64 f0) ∧ Below w.heap.size w w') (hf2 : ∀ w,Calls Try.prog 15 #[.agg #[a,b,c,d,p,q],.agg #[n,r,x,g,wd,l]] w fun e w' => e = .returned (.int .i64 f0) ∧ Below w.heap.size w w') (hh : ∀ w,Calls Try.prog 16 #[.agg #[n,r,x,g,wd,l]] w fun e w' => e = .returned (.tuple #[v1,ng,.int .i64 0]) ∧ Below w.heap.size w w') (hl : ∀ w,Calls Try.prog 17 #[.agg #[n,r,x,g,wd,l],.int .i64 k] w fun e w' => e = .returned (.tuple #[v2,.int .i64 0]) ∧ Below w.heap.size w w') (hv : ∀ w,Calls Try.prog 18 #[.agg #[n,r,x,g,wd,l]] w fun e w' => e = .returned (.bool true) ∧ Below w.heap.size w w') (e1 : IntKind.i64.wrap (n - 1) = n1) (e2 : IntKind.i64.wrap (n * g) = ng) (hr1 : ∀ w,Calls Try.prog 19 #[.agg #[n,r,x,g,wd,l],.int .i64 n1] w fun e w' => e = .returned (.int .i64 v1) ∧ Below w.heap.size w w') (hr2 : ∀ w,Calls Try.prog 19 #[.agg #[n,r,x,g,wd,l],.int .i64 k] w fun e w' => e = .returned (.int .i64 v2) ∧ Below w.heap.size w w') (g1 : decide (k < 0) = false) (g2 : decide (n ≤ k) = false) (w : World) :
  Calls Try.prog 3 #[.agg #[a,b,c,d,p,q],.agg #[n,r,x,g,wd,l],.int .i64 k] w fun e w' => e = .returned (.bool true) ∧ Below w.heap.size w w' := by
 go_enter Try.func3,Try.ntmps3
 go_wp2_with (first
  | (go_at_call 11; (with_reducible refine ((awake_any _)).mono ?_); rintro e w1 ⟨rfl,hb1⟩; have hj1 : KL [((w.heap.size + 1),27,#[n,r,x,g,wd,l]),(w.heap.size,25,#[a,b,c,d,p,q])] w w1 := KL.over (KL.new (g := (w.heap.size + 1)) (KL.new (g := w.heap.size) (KL.nil w) rfl _ _) (by simp) _ _) hb1; have hz1 := hb1.size; obtain ⟨c1_L0,c1_0_0,c1_0_1,c1_0_2,c1_0_3,c1_0_4,c1_0_5⟩ := bl6 (KL.blk hj1 (.head _)); have c1_F0 := (KL.blk hj1 (.head _)).frozen; obtain ⟨c1_L1,c1_1_0,c1_1_1,c1_1_2,c1_1_3,c1_1_4,c1_1_5⟩ := bl6 (KL.blk hj1 (.tail _ (.head _))); have c1_F1 := (KL.blk hj1 (.tail _ (.head _))).frozen))
 refine wp_region_any (by kernel_rfl) ?_
 try (change wpAny _ _ _ _ _ _ _ (World.drew _))
 refine wpAny_vals (fr := fun o => #[.agg #[a,b,c,d,p,q],.agg #[n,r,x,g,wd,l],.int .i64 k,.pointer (some ⟨w.heap.size,0,none⟩),.pointer (some ⟨(w.heap.size + 1),0,none⟩),undef,.bool false,undef,undef,undef,undef,undef,.bool true,.bool false,o 0,o 1,o 2,o 3,o 4,o 5,o 6,o 7,o 8,o 9,o 10,o 11,o 12,o 13,undef,undef,undef,undef,undef,undef,undef,undef,undef,undef,undef,undef,undef,undef,undef,undef,undef,undef,undef,undef,undef,undef,undef,undef,undef,undef,undef,undef,undef,undef,undef,undef,undef,undef,undef,undef,undef,undef,undef,undef,undef,undef,undef,undef,undef,undef,undef,undef,undef,undef,undef,undef,undef,undef,undef,undef,undef,undef,undef,undef,undef,undef,undef,undef,undef,undef,undef,undef,undef,undef,undef,undef,undef,undef,undef,undef,undef]) (vals := fun i_ => ([.agg #[a,b,c,d,p,q],.int .i64 c0,.agg #[a,b,c,d,p,q],.int .i64 c0,.bool false,.bool false,.agg #[a,b,c,d,p,q],.agg #[n,r,x,g,wd,l],.int .i64 f0,.agg #[a,b,c,d,p,q],.agg #[n,r,x,g,wd,l],.int .i64 f0,.bool false,.bool false] : List Value).getD i_ undef) (Kf := fun _ => True) (K := fun kk_ => ([(KL [((w.heap.size + 1),27,#[n,r,x,g,wd,l]),(w.heap.size,25,#[a,b,c,d,p,q])] w)] : List (World → Prop)).getD kk_ (fun _ => True)) (dep := fun i_ => [[],[0],[],[2],[1,3],[4],[5],[5],[5,6,7],[5],[5],[5,9,10],[5,8,11],[5,12]].getD i_ []) (dv := fun i_ => [[],[0],[],[2],[1,3],[4],[5],[5],[5,6,7],[5],[5],[5,9,10],[5,8,11],[5,12]].getD i_ []) (kd := fun i_ => [1,1,1,1,0,0,1,1,1,1,1,1,0,0].getD i_ 0) (ss := []) (l := [0,1,2,3,4,5,6,7,8,9,10,11,12,13]) (f0 := fun _ => undef) (A := ?A4) 14 ?_ ?_ ?_ ?_ ?_ ?_ ⟨?_,?_,?_,?_,?_,?_,?_,?_,?_,?_,?_,?_,?_,?_,trivial⟩ ?_ ?_
 rotate_left
 ·rfl
 ·rfl
 ·decide +kernel
 ·decide +kernel
 ·exact KL.drew hj1
 ·exact fun _ _ _ _ => trivial
 ·intro o W hj
  have hj : KL _ _ W := hj
  obtain ⟨cL,c0,c1,c2,c3,c4,c5⟩ := bl6 (KL.blk hj (.tail _ (.head _)))
  show wpOp _ _ _ 0 _ ⟨⟨_::_::_::_::_::_::_::_::_::_::_::_::_::_::o 0::o 1::o 2::o 3::o 4::o 5::o 6::o 7::o 8::o 9::o 10::o 11::o 12::o 13::_⟩,[]⟩ W
  refine wpOp_step rfl fun _ hK => ?_
  go_simp
  exact hK _ _ ⟨rfl,hj⟩
 ·intro o W hj
  have hj : KL _ _ W := hj
  show wpOp _ _ _ 1 _ ⟨⟨_::_::_::_::_::_::_::_::_::_::_::_::_::_::.agg #[a,b,c,d,p,q]::o 1::o 2::o 3::o 4::o 5::o 6::o 7::o 8::o 9::o 10::o 11::o 12::o 13::_⟩,[]⟩ W
  refine wpOp_step rfl fun _ hK => ?_
  go_simp
  refine (hc1 _).mono ?_
  rintro e W1 ⟨rfl,hb1⟩
  exact hK _ _ ⟨rfl,hj.over hb1⟩
 ·intro o W hj
  have hj : KL _ _ W := hj
  obtain ⟨cL,c0,c1,c2,c3,c4,c5⟩ := bl6 (KL.blk hj (.tail _ (.head _)))
  show wpOp _ _ _ 2 _ ⟨⟨_::_::_::_::_::_::_::_::_::_::_::_::_::_::o 0::o 1::o 2::o 3::o 4::o 5::o 6::o 7::o 8::o 9::o 10::o 11::o 12::o 13::_⟩,[]⟩ W
  refine wpOp_step rfl fun _ hK => ?_
  go_simp
  exact hK _ _ ⟨rfl,hj⟩
 ·intro o W hj
  have hj : KL _ _ W := hj
  show wpOp _ _ _ 3 _ ⟨⟨_::_::_::_::_::_::_::_::_::_::_::_::_::_::o 0::o 1::.agg #[a,b,c,d,p,q]::o 3::o 4::o 5::o 6::o 7::o 8::o 9::o 10::o 11::o 12::o 13::_⟩,[]⟩ W
  refine wpOp_step rfl fun _ hK => ?_
  go_simp
  refine (hc2 _).mono ?_
  rintro e W1 ⟨rfl,hb1⟩
  exact hK _ _ ⟨rfl,hj.over hb1⟩
 ·intro o W _
  show wpOp _ _ _ 4 _ ⟨⟨_::_::_::_::_::_::_::_::_::_::_::_::_::_::o 0::.int .i64 c0::o 2::.int .i64 c0::o 4::o 5::o 6::o 7::o 8::o 9::o 10::o 11::o 12::o 13::_⟩,[]⟩ W
  refine wpOp_step rfl fun _ hK => ?_
  go_simp
  exact hK _ _ ⟨rfl,rfl⟩
 ·intro o W _
  show wpOp _ _ _ 5 _ ⟨⟨_::_::_::_::_::_::_::_::_::_::_::_::_::_::o 0::o 1::o 2::o 3::.bool false::o 5::o 6::o 7::o 8::o 9::o 10::o 11::o 12::o 13::_⟩,[]⟩ W
  refine wpOp_step rfl fun _ hK => ?_
  go_simp
  exact hK _ _ ⟨rfl,rfl⟩
 ·intro o W hj
  have hj : KL _ _ W := hj
  obtain ⟨cL,c0,c1,c2,c3,c4,c5⟩ := bl6 (KL.blk hj (.tail _ (.head _)))
  show wpOp _ _ _ 6 _ ⟨⟨_::_::_::_::_::_::_::_::_::_::_::_::_::_::o 0::o 1::o 2::o 3::o 4::.bool false::o 6::o 7::o 8::o 9::o 10::o 11::o 12::o 13::_⟩,[]⟩ W
  refine wpOp_step rfl fun _ hK => ?_
  go_simp
  exact hK _ _ ⟨rfl,hj⟩
 ·intro o W hj
  have hj : KL _ _ W := hj
  obtain ⟨cL,c0,c1,c2,c3,c4,c5⟩ := bl6 (KL.blk hj (.head _))
  show wpOp _ _ _ 7 _ ⟨⟨_::_::_::_::_::_::_::_::_::_::_::_::_::_::o 0::o 1::o 2::o 3::o 4::.bool false::o 6::o 7::o 8::o 9::o 10::o 11::o 12::o 13::_⟩,[]⟩ W
  refine wpOp_step rfl fun _ hK => ?_
  go_simp
  exact hK _ _ ⟨rfl,hj⟩
 ·intro o W hj
  have hj : KL _ _ W := hj
  show wpOp _ _ _ 8 _ ⟨⟨_::_::_::_::_::_::_::_::_::_::_::_::_::_::o 0::o 1::o 2::o 3::o 4::.bool false::.agg #[a,b,c,d,p,q]::.agg #[n,r,x,g,wd,l]::o 8::o 9::o 10::o 11::o 12::o 13::_⟩,[]⟩ W
  refine wpOp_step rfl fun _ hK => ?_
  go_simp
  refine (hf1 _).mono ?_
  rintro e W1 ⟨rfl,hb1⟩
  exact hK _ _ ⟨rfl,hj.over hb1⟩
 ·intro o W hj
  have hj : KL _ _ W := hj
  obtain ⟨cL,c0,c1,c2,c3,c4,c5⟩ := bl6 (KL.blk hj (.tail _ (.head _)))
  show wpOp _ _ _ 9 _ ⟨⟨_::_::_::_::_::_::_::_::_::_::_::_::_::_::o 0::o 1::o 2::o 3::o 4::.bool false::o 6::o 7::o 8::o 9::o 10::o 11::o 12::o 13::_⟩,[]⟩ W
  refine wpOp_step rfl fun _ hK => ?_
  go_simp
  exact hK _ _ ⟨rfl,hj⟩
 ·intro o W hj
  have hj : KL _ _ W := hj
  obtain ⟨cL,c0,c1,c2,c3,c4,c5⟩ := bl6 (KL.blk hj (.head _))
  show wpOp _ _ _ 10 _ ⟨⟨_::_::_::_::_::_::_::_::_::_::_::_::_::_::o 0::o 1::o 2::o 3::o 4::.bool false::o 6::o 7::o 8::o 9::o 10::o 11::o 12::o 13::_⟩,[]⟩ W
  refine wpOp_step rfl fun _ hK => ?_
  go_simp
  exact hK _ _ ⟨rfl,hj⟩
 ·intro o W hj
  have hj : KL _ _ W := hj
  show wpOp _ _ _ 11 _ ⟨⟨_::_::_::_::_::_::_::_::_::_::_::_::_::_::o 0::o 1::o 2::o 3::o 4::.bool false::o 6::o 7::o 8::.agg #[a,b,c,d,p,q]::.agg #[n,r,x,g,wd,l]::o 11::o 12::o 13::_⟩,[]⟩ W
  refine wpOp_step rfl fun _ hK => ?_
  go_simp
  refine (hf2 _).mono ?_
  rintro e W1 ⟨rfl,hb1⟩
  exact hK _ _ ⟨rfl,hj.over hb1⟩
 ·intro o W _
  show wpOp _ _ _ 12 _ ⟨⟨_::_::_::_::_::_::_::_::_::_::_::_::_::_::o 0::o 1::o 2::o 3::o 4::.bool false::o 6::o 7::.int .i64 f0::o 9::o 10::.int .i64 f0::o 12::o 13::_⟩,[]⟩ W
  refine wpOp_step rfl fun _ hK => ?_
  go_simp
  exact hK _ _ ⟨rfl,rfl⟩
 ·intro o W _
  show wpOp _ _ _ 13 _ ⟨⟨_::_::_::_::_::_::_::_::_::_::_::_::_::_::o 0::o 1::o 2::o 3::o 4::.bool false::o 6::o 7::o 8::o 9::o 10::o 11::.bool false::o 13::_⟩,[]⟩ W
  refine wpOp_step rfl fun _ hK => ?_
  go_simp
  exact hK _ _ ⟨rfl,rfl⟩
 ·intro o hh_
  have e0 : o 0 = .agg #[a,b,c,d,p,q] := hh_ 0 (by decide)
  have e1 : o 1 = .int .i64 c0 := hh_ 1 (by decide)
  have e2 : o 2 = .agg #[a,b,c,d,p,q] := hh_ 2 (by decide)
  have e3 : o 3 = .int .i64 c0 := hh_ 3 (by decide)
  have e4 : o 4 = .bool false := hh_ 4 (by decide)
  have e5 : o 5 = .bool false := hh_ 5 (by decide)
  have e6 : o 6 = .agg #[a,b,c,d,p,q] := hh_ 6 (by decide)
  have e7 : o 7 = .agg #[n,r,x,g,wd,l] := hh_ 7 (by decide)
  have e8 : o 8 = .int .i64 f0 := hh_ 8 (by decide)
  have e9 : o 9 = .agg #[a,b,c,d,p,q] := hh_ 9 (by decide)
  have e10 : o 10 = .agg #[n,r,x,g,wd,l] := hh_ 10 (by decide)
  have e11 : o 11 = .int .i64 f0 := hh_ 11 (by decide)
  have e12 : o 12 = .bool false := hh_ 12 (by decide)
  have e13 : o 13 = .bool false := hh_ 13 (by decide)
  rw [e0,e1,e2,e3,e4,e5,e6,e7,e8,e9,e10,e11,e12,e13]
 ·intro W2 h2
  have h2 : KL _ _ W2 := h2
  obtain ⟨r2_L0,r2_0_0,r2_0_1,r2_0_2,r2_0_3,r2_0_4,r2_0_5⟩ := bl6 (KL.blk h2 (.head _))
  have r2_F0 := (KL.blk h2 (.head _)).frozen
  obtain ⟨r2_L1,r2_1_0,r2_1_1,r2_1_2,r2_1_3,r2_1_4,r2_1_5⟩ := bl6 (KL.blk h2 (.tail _ (.head _)))
  have r2_F1 := (KL.blk h2 (.tail _ (.head _))).frozen
  have hjb := h2.1
  have hjz := hjb.size
  go_wp2_with (first
   | (go_at_call 16; (with_reducible refine ((hh _)).mono ?_); rintro e w3 ⟨rfl,hb3⟩; have hj3 : KL [((w.heap.size + 1),27,#[n,r,x,g,wd,l]),(w.heap.size,25,#[a,b,c,d,p,q])] w w3 := KL.over h2 hb3; have hz3 := hb3.size; obtain ⟨c3_L0,c3_0_0,c3_0_1,c3_0_2,c3_0_3,c3_0_4,c3_0_5⟩ := bl6 (KL.blk hj3 (.head _)); have c3_F0 := (KL.blk hj3 (.head _)).frozen; obtain ⟨c3_L1,c3_1_0,c3_1_1,c3_1_2,c3_1_3,c3_1_4,c3_1_5⟩ := bl6 (KL.blk hj3 (.tail _ (.head _))); have c3_F1 := (KL.blk hj3 (.tail _ (.head _))).frozen)
   | (go_at_call 17; (with_reducible refine ((hl _)).mono ?_); rintro e w4 ⟨rfl,hb4⟩; have hj4 : KL [((w.heap.size + 1),27,#[n,r,x,g,wd,l]),(w.heap.size,25,#[a,b,c,d,p,q])] w w4 := KL.over hj3 hb4; have hz4 := hb4.size; obtain ⟨c4_L0,c4_0_0,c4_0_1,c4_0_2,c4_0_3,c4_0_4,c4_0_5⟩ := bl6 (KL.blk hj4 (.head _)); have c4_F0 := (KL.blk hj4 (.head _)).frozen; obtain ⟨c4_L1,c4_1_0,c4_1_1,c4_1_2,c4_1_3,c4_1_4,c4_1_5⟩ := bl6 (KL.blk hj4 (.tail _ (.head _))); have c4_F1 := (KL.blk hj4 (.tail _ (.head _))).frozen)
   | (go_at_call 18; (with_reducible refine ((hv _)).mono ?_); rintro e w5 ⟨rfl,hb5⟩; have hj5 : KL [((w.heap.size + 1),27,#[n,r,x,g,wd,l]),(w.heap.size,25,#[a,b,c,d,p,q])] w w5 := KL.over hj4 hb5; have hz5 := hb5.size; obtain ⟨c5_L0,c5_0_0,c5_0_1,c5_0_2,c5_0_3,c5_0_4,c5_0_5⟩ := bl6 (KL.blk hj5 (.head _)); have c5_F0 := (KL.blk hj5 (.head _)).frozen; obtain ⟨c5_L1,c5_1_0,c5_1_1,c5_1_2,c5_1_3,c5_1_4,c5_1_5⟩ := bl6 (KL.blk hj5 (.tail _ (.head _))); have c5_F1 := (KL.blk hj5 (.tail _ (.head _))).frozen)
   | (go_at_call 19; (with_reducible refine ((hr1 _)).mono ?_); rintro e w6 ⟨rfl,hb6⟩; have hj6 : KL [((w.heap.size + 1),27,#[n,r,x,g,wd,l]),(w.heap.size,25,#[a,b,c,d,p,q])] w w6 := KL.over hj5 hb6; have hz6 := hb6.size; obtain ⟨c6_L0,c6_0_0,c6_0_1,c6_0_2,c6_0_3,c6_0_4,c6_0_5⟩ := bl6 (KL.blk hj6 (.head _)); have c6_F0 := (KL.blk hj6 (.head _)).frozen; obtain ⟨c6_L1,c6_1_0,c6_1_1,c6_1_2,c6_1_3,c6_1_4,c6_1_5⟩ := bl6 (KL.blk hj6 (.tail _ (.head _))); have c6_F1 := (KL.blk hj6 (.tail _ (.head _))).frozen)
   | (go_at_call 19; (with_reducible refine ((hr2 _)).mono ?_); rintro e w7 ⟨rfl,hb7⟩; have hj7 : KL [((w.heap.size + 1),27,#[n,r,x,g,wd,l]),(w.heap.size,25,#[a,b,c,d,p,q])] w w7 := KL.over hj6 hb7; have hz7 := hb7.size; obtain ⟨c7_L0,c7_0_0,c7_0_1,c7_0_2,c7_0_3,c7_0_4,c7_0_5⟩ := bl6 (KL.blk hj7 (.head _)); have c7_F0 := (KL.blk hj7 (.head _)).frozen; obtain ⟨c7_L1,c7_1_0,c7_1_1,c7_1_2,c7_1_3,c7_1_4,c7_1_5⟩ := bl6 (KL.blk hj7 (.tail _ (.head _))); have c7_F1 := (KL.blk hj7 (.tail _ (.head _))).frozen))
  go_ret
  exact ⟨rfl,((show KL [((w.heap.size + 1),27,#[n,r,x,g,wd,l]),(w.heap.size,25,#[a,b,c,d,p,q])] w _ from hj7)).1⟩
end Go.Proofs.Ytoenojnfhiimpaa
