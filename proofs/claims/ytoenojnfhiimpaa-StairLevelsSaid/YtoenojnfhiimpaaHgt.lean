/- Height,Level,Spread of stair,one way each. -/
import Derived.Test.YtoenojnfhiimpaaNum
import Derived.Test.YtoenojnfhiimpaaChk
import Derived.Test.YtoenojnfhiimpaaFli
import Derived.Test.YtoenojnfhiimpaaLev
import Derived.WalkSpells
import Derived.WalkLawsBesides
import Derived.Deep.QuietTactic
import Derived.BigQuiet
import Derived.Laws.StructEq
namespace Go.Proofs.Ytoenojnfhiimpaa
open Go.RowKit

set_option maxHeartbeats 8000000 in
set_option maxRecDepth 100000 in
theorem height_bad (n r x g wd l : Int)  (hcf : ∀ w,Calls Try.prog 34 #[.agg #[n,r,x,g,wd,l]] w fun e w' => e = .returned (.int .i64 1) ∧ Below w.heap.size w w') (w : World) :
  Calls Try.prog 16 #[.agg #[n,r,x,g,wd,l]] w fun e w' => e = .returned (.tuple #[.int .i64 0,.int .i64 0,.int .i64 1]) ∧ Below w.heap.size w w' := by
 go_enter Try.func16,Try.ntmps16
 go_wp2_with (first
  | (go_at_call 34; (with_reducible refine ((hcf _)).mono ?_); rintro e w1 ⟨rfl,hb1⟩; have hj1 : KL [(w.heap.size,34,#[n,r,x,g,wd,l])] w w1 := KL.over (KL.new (g := w.heap.size) (KL.nil w) rfl _ _) hb1; have hz1 := hb1.size; obtain ⟨c1_L0,c1_0_0,c1_0_1,c1_0_2,c1_0_3,c1_0_4,c1_0_5⟩ := bl6 (KL.blk hj1 (.head _)); have c1_F0 := (KL.blk hj1 (.head _)).frozen))
 go_ret3
 exact ⟨rfl,((show KL [(w.heap.size,34,#[n,r,x,g,wd,l])] w _ from hj1)).1⟩
set_option maxHeartbeats 8000000 in
set_option maxRecDepth 100000 in
theorem height_ok (n r x g wd l  n1 ng v : Int)  (e1 : IntKind.i64.wrap (n - 1) = n1) (e2 : IntKind.i64.wrap (n * g) = ng) (hcf : ∀ w,Calls Try.prog 34 #[.agg #[n,r,x,g,wd,l]] w fun e w' => e = .returned (.int .i64 0) ∧ Below w.heap.size w w') (hlv : ∀ w,Calls Try.prog 38 #[.agg #[n,r,x,g,wd,l],.int .i64 n1] w fun e w' => e = .returned (.int .i64 v) ∧ Below w.heap.size w w') (w : World) :
  Calls Try.prog 16 #[.agg #[n,r,x,g,wd,l]] w fun e w' => e = .returned (.tuple #[v,ng,.int .i64 0]) ∧ Below w.heap.size w w' := by
 go_enter Try.func16,Try.ntmps16
 go_wp2_with (first
  | (go_at_call 34; (with_reducible refine ((hcf _)).mono ?_); rintro e w1 ⟨rfl,hb1⟩; have hj1 : KL [(w.heap.size,34,#[n,r,x,g,wd,l])] w w1 := KL.over (KL.new (g := w.heap.size) (KL.nil w) rfl _ _) hb1; have hz1 := hb1.size; obtain ⟨c1_L0,c1_0_0,c1_0_1,c1_0_2,c1_0_3,c1_0_4,c1_0_5⟩ := bl6 (KL.blk hj1 (.head _)); have c1_F0 := (KL.blk hj1 (.head _)).frozen))
 refine wp_region_any (by kernel_rfl) ?_
 try (change wpAny _ _ _ _ _ _ _ (World.drew _))
 refine wpAny_vals (fr := fun o => #[.agg #[n,r,x,g,wd,l],.pointer (some ⟨w.heap.size,0,none⟩),o 10,o 11,o 12,.int .i64 0,.agg #[n,r,x,g,wd,l],.int .i64 0,.int .i64 0,.bool false,undef,o 0,o 1,o 2,o 3,o 4,o 5,o 6,o 7,o 8,o 9]) (vals := fun i_ => ([.agg #[n,r,x,g,wd,l],.pointer (some ⟨w.heap.size,0,none⟩),.int .i64 n,.int .i64 n1,.int .i64 v,.pointer (some ⟨w.heap.size,0,none⟩),.int .i64 n,.pointer (some ⟨w.heap.size,3,none⟩),.int .i64 g,.int .i64 ng,.int .i64 v,.int .i64 ng,.int .i64 0] : List Value).getD i_ undef) (Kf := fun _ => True) (K := fun kk_ => ([(KL [(w.heap.size,34,#[n,r,x,g,wd,l])] w)] : List (World → Prop)).getD kk_ (fun _ => True)) (dep := fun i_ => [[],[],[1],[2],[0,3],[],[5],[],[7],[6,8],[4],[9],[]].getD i_ []) (dv := fun i_ => [[],[],[1],[2],[0,3],[],[5],[],[7],[6,8],[4],[9],[]].getD i_ []) (kd := fun i_ => [1,0,1,0,1,0,1,0,1,0,0,0,0].getD i_ 0) (ss := []) (l := [0,1,2,3,4,5,6,7,8,9,10,11,12]) (f0 := fun i_ => ([undef,undef,undef,undef,undef,undef,undef,undef,undef,undef,.int .i64 0,.int .i64 0,.int .i64 0] : List Value).getD i_ undef) (A := ?A1) 13 ?_ ?_ ?_ ?_ ?_ ?_ ⟨?_,?_,?_,?_,?_,?_,?_,?_,?_,?_,?_,?_,?_,trivial⟩ ?_ ?_
 rotate_left
 ·rfl
 ·rfl
 ·decide +kernel
 ·decide +kernel
 ·exact KL.drew hj1
 ·exact fun _ _ _ _ => trivial
 ·intro o W hj
  have hj : KL _ _ W := hj
  obtain ⟨cL,c0,c1,c2,c3,c4,c5⟩ := bl6 (KL.blk hj (.head _))
  show wpOp _ _ _ 0 _ ⟨#[_,_,o 10,o 11,o 12,_,_,_,_,_,_,o 0,o 1,o 2,o 3,o 4,o 5,o 6,o 7,o 8,o 9],[]⟩ W
  refine wpOp_step rfl fun _ hK => ?_
  go_simp
  exact hK _ _ ⟨rfl,hj⟩
 ·intro o W _
  show wpOp _ _ _ 1 _ ⟨#[_,_,o 10,o 11,o 12,_,_,_,_,_,_,o 0,o 1,o 2,o 3,o 4,o 5,o 6,o 7,o 8,o 9],[]⟩ W
  refine wpOp_step rfl fun _ hK => ?_
  go_simp
  exact hK _ _ ⟨rfl,rfl⟩
 ·intro o W hj
  have hj : KL _ _ W := hj
  obtain ⟨cL,c0,c1,c2,c3,c4,c5⟩ := bl6 (KL.blk hj (.head _))
  show wpOp _ _ _ 2 _ ⟨#[_,_,o 10,o 11,o 12,_,_,_,_,_,_,o 0,.pointer (some ⟨w.heap.size,0,none⟩),o 2,o 3,o 4,o 5,o 6,o 7,o 8,o 9],[]⟩ W
  refine wpOp_step rfl fun _ hK => ?_
  go_simp
  exact hK _ _ ⟨rfl,hj⟩
 ·intro o W _
  show wpOp _ _ _ 3 _ ⟨#[_,_,o 10,o 11,o 12,_,_,_,_,_,_,o 0,o 1,.int .i64 n,o 3,o 4,o 5,o 6,o 7,o 8,o 9],[]⟩ W
  refine wpOp_step rfl fun _ hK => ?_
  go_simp
  exact hK _ _ ⟨rfl,rfl⟩
 ·intro o W hj
  have hj : KL _ _ W := hj
  show wpOp _ _ _ 4 _ ⟨#[_,_,o 10,o 11,o 12,_,_,_,_,_,_,.agg #[n,r,x,g,wd,l],o 1,o 2,.int .i64 n1,o 4,o 5,o 6,o 7,o 8,o 9],[]⟩ W
  refine wpOp_step rfl fun _ hK => ?_
  go_simp
  refine (hlv _).mono ?_
  rintro e W1 ⟨rfl,hb1⟩
  exact hK _ _ ⟨rfl,hj.over hb1⟩
 ·intro o W _
  show wpOp _ _ _ 5 _ ⟨#[_,_,o 10,o 11,o 12,_,_,_,_,_,_,o 0,o 1,o 2,o 3,o 4,o 5,o 6,o 7,o 8,o 9],[]⟩ W
  refine wpOp_step rfl fun _ hK => ?_
  go_simp
  exact hK _ _ ⟨rfl,rfl⟩
 ·intro o W hj
  have hj : KL _ _ W := hj
  obtain ⟨cL,c0,c1,c2,c3,c4,c5⟩ := bl6 (KL.blk hj (.head _))
  show wpOp _ _ _ 6 _ ⟨#[_,_,o 10,o 11,o 12,_,_,_,_,_,_,o 0,o 1,o 2,o 3,o 4,.pointer (some ⟨w.heap.size,0,none⟩),o 6,o 7,o 8,o 9],[]⟩ W
  refine wpOp_step rfl fun _ hK => ?_
  go_simp
  exact hK _ _ ⟨rfl,hj⟩
 ·intro o W _
  show wpOp _ _ _ 7 _ ⟨#[_,_,o 10,o 11,o 12,_,_,_,_,_,_,o 0,o 1,o 2,o 3,o 4,o 5,o 6,o 7,o 8,o 9],[]⟩ W
  refine wpOp_step rfl fun _ hK => ?_
  go_simp
  exact hK _ _ ⟨rfl,rfl⟩
 ·intro o W hj
  have hj : KL _ _ W := hj
  obtain ⟨cL,c0,c1,c2,c3,c4,c5⟩ := bl6 (KL.blk hj (.head _))
  show wpOp _ _ _ 8 _ ⟨#[_,_,o 10,o 11,o 12,_,_,_,_,_,_,o 0,o 1,o 2,o 3,o 4,o 5,o 6,.pointer (some ⟨w.heap.size,3,none⟩),o 8,o 9],[]⟩ W
  refine wpOp_step rfl fun _ hK => ?_
  go_simp
  exact hK _ _ ⟨rfl,hj⟩
 ·intro o W _
  show wpOp _ _ _ 9 _ ⟨#[_,_,o 10,o 11,o 12,_,_,_,_,_,_,o 0,o 1,o 2,o 3,o 4,o 5,.int .i64 n,o 7,.int .i64 g,o 9],[]⟩ W
  refine wpOp_step rfl fun _ hK => ?_
  go_simp
  exact hK _ _ ⟨rfl,rfl⟩
 ·intro o W _
  show wpOp _ _ _ 10 _ ⟨#[_,_,o 10,o 11,o 12,_,_,_,_,_,_,o 0,o 1,o 2,o 3,.int .i64 v,o 5,o 6,o 7,o 8,o 9],[]⟩ W
  refine wpOp_step rfl fun _ hK => ?_
  go_simp
  exact hK _ _ ⟨rfl,rfl⟩
 ·intro o W _
  show wpOp _ _ _ 11 _ ⟨#[_,_,o 10,o 11,o 12,_,_,_,_,_,_,o 0,o 1,o 2,o 3,o 4,o 5,o 6,o 7,o 8,.int .i64 ng],[]⟩ W
  refine wpOp_step rfl fun _ hK => ?_
  go_simp
  exact hK _ _ ⟨rfl,rfl⟩
 ·intro o W _
  show wpOp _ _ _ 12 _ ⟨#[_,_,o 10,o 11,o 12,_,_,_,_,_,_,o 0,o 1,o 2,o 3,o 4,o 5,o 6,o 7,o 8,o 9],[]⟩ W
  refine wpOp_step rfl fun _ hK => ?_
  go_simp
  exact hK _ _ ⟨rfl,rfl⟩
 ·intro o hh_
  have e0 : o 0 = .agg #[n,r,x,g,wd,l] := hh_ 0 (by decide)
  have e1 : o 1 = .pointer (some ⟨w.heap.size,0,none⟩) := hh_ 1 (by decide)
  have e2 : o 2 = .int .i64 n := hh_ 2 (by decide)
  have e3 : o 3 = .int .i64 n1 := hh_ 3 (by decide)
  have e4 : o 4 = .int .i64 v := hh_ 4 (by decide)
  have e5 : o 5 = .pointer (some ⟨w.heap.size,0,none⟩) := hh_ 5 (by decide)
  have e6 : o 6 = .int .i64 n := hh_ 6 (by decide)
  have e7 : o 7 = .pointer (some ⟨w.heap.size,3,none⟩) := hh_ 7 (by decide)
  have e8 : o 8 = .int .i64 g := hh_ 8 (by decide)
  have e9 : o 9 = .int .i64 ng := hh_ 9 (by decide)
  have e10 : o 10 = .int .i64 v := hh_ 10 (by decide)
  have e11 : o 11 = .int .i64 ng := hh_ 11 (by decide)
  have e12 : o 12 = .int .i64 0 := hh_ 12 (by decide)
  rw [e0,e1,e2,e3,e4,e5,e6,e7,e8,e9,e10,e11,e12]
 ·intro W2 h2
  have h2 : KL _ _ W2 := h2
  obtain ⟨r2_L0,r2_0_0,r2_0_1,r2_0_2,r2_0_3,r2_0_4,r2_0_5⟩ := bl6 (KL.blk h2 (.head _))
  have r2_F0 := (KL.blk h2 (.head _)).frozen
  have hjb := h2.1
  have hjz := hjb.size
  go_wp2
  go_ret3
  exact ⟨rfl,((show KL [(w.heap.size,34,#[n,r,x,g,wd,l])] w _ from h2)).1⟩
set_option maxHeartbeats 8000000 in
set_option maxRecDepth 100000 in
theorem slevel_bad (n r x g wd l  k : Int)  (hcf : ∀ w,Calls Try.prog 34 #[.agg #[n,r,x,g,wd,l]] w fun e w' => e = .returned (.int .i64 1) ∧ Below w.heap.size w w') (w : World) :
  Calls Try.prog 17 #[.agg #[n,r,x,g,wd,l],.int .i64 k] w fun e w' => e = .returned (.tuple #[.int .i64 0,.int .i64 1]) ∧ Below w.heap.size w w' := by
 go_enter Try.func17,Try.ntmps17
 go_wp2_with (first
  | (go_at_call 34; (with_reducible refine ((hcf _)).mono ?_); rintro e w1 ⟨rfl,hb1⟩; have hj1 : KL [(w.heap.size,34,#[n,r,x,g,wd,l])] w w1 := KL.over (KL.new (g := w.heap.size) (KL.nil w) rfl _ _) hb1; have hz1 := hb1.size; obtain ⟨c1_L0,c1_0_0,c1_0_1,c1_0_2,c1_0_3,c1_0_4,c1_0_5⟩ := bl6 (KL.blk hj1 (.head _)); have c1_F0 := (KL.blk hj1 (.head _)).frozen))
 go_ret2
 exact ⟨rfl,((show KL [(w.heap.size,34,#[n,r,x,g,wd,l])] w _ from hj1)).1⟩
set_option maxHeartbeats 8000000 in
set_option maxRecDepth 100000 in
theorem slevel_none (n r x g wd l  k n1 : Int)  (e1 : IntKind.i64.wrap (n - 1) = n1) (hcf : ∀ w,Calls Try.prog 34 #[.agg #[n,r,x,g,wd,l]] w fun e w' => e = .returned (.int .i64 0) ∧ Below w.heap.size w w') (his : ∀ w,Calls Try.prog 39 #[k,.int .i64 0,n1] w fun e w' => e = .returned (.bool false) ∧ w = w') (w : World) :
  Calls Try.prog 17 #[.agg #[n,r,x,g,wd,l],.int .i64 k] w fun e w' => e = .returned (.tuple #[.int .i64 0,.int .i64 9]) ∧ Below w.heap.size w w' := by
 go_enter Try.func17,Try.ntmps17
 go_wp2_with (first
  | (go_at_call 34; (with_reducible refine ((hcf _)).mono ?_); rintro e w1 ⟨rfl,hb1⟩; have hj1 : KL [(w.heap.size,34,#[n,r,x,g,wd,l])] w w1 := KL.over (KL.new (g := w.heap.size) (KL.nil w) rfl _ _) hb1; have hz1 := hb1.size; obtain ⟨c1_L0,c1_0_0,c1_0_1,c1_0_2,c1_0_3,c1_0_4,c1_0_5⟩ := bl6 (KL.blk hj1 (.head _)); have c1_F0 := (KL.blk hj1 (.head _)).frozen)
  | (go_at_call 39; (with_reducible refine ((his _)).mono ?_); rintro e w' ⟨rfl,rfl⟩))
 go_ret2
 exact ⟨rfl,((show KL [(w.heap.size,34,#[n,r,x,g,wd,l])] w _ from hj1)).1⟩
set_option maxHeartbeats 8000000 in
set_option maxRecDepth 100000 in
theorem slevel_ok (n r x g wd l  k n1 v : Int)  (e1 : IntKind.i64.wrap (n - 1) = n1) (hcf : ∀ w,Calls Try.prog 34 #[.agg #[n,r,x,g,wd,l]] w fun e w' => e = .returned (.int .i64 0) ∧ Below w.heap.size w w') (his : ∀ w,Calls Try.prog 39 #[k,.int .i64 0,n1] w fun e w' => e = .returned (.bool true) ∧ w = w') (hlv : ∀ w,Calls Try.prog 38 #[.agg #[n,r,x,g,wd,l],.int .i64 k] w fun e w' => e = .returned (.int .i64 v) ∧ Below w.heap.size w w') (w : World) :
  Calls Try.prog 17 #[.agg #[n,r,x,g,wd,l],.int .i64 k] w fun e w' => e = .returned (.tuple #[v,.int .i64 0]) ∧ Below w.heap.size w w' := by
 go_enter Try.func17,Try.ntmps17
 go_wp2_with (first
  | (go_at_call 34; (with_reducible refine ((hcf _)).mono ?_); rintro e w1 ⟨rfl,hb1⟩; have hj1 : KL [(w.heap.size,34,#[n,r,x,g,wd,l])] w w1 := KL.over (KL.new (g := w.heap.size) (KL.nil w) rfl _ _) hb1; have hz1 := hb1.size; obtain ⟨c1_L0,c1_0_0,c1_0_1,c1_0_2,c1_0_3,c1_0_4,c1_0_5⟩ := bl6 (KL.blk hj1 (.head _)); have c1_F0 := (KL.blk hj1 (.head _)).frozen)
  | (go_at_call 39; (with_reducible refine ((his _)).mono ?_); rintro e w' ⟨rfl,rfl⟩)
  | (go_at_call 38; (with_reducible refine ((hlv _)).mono ?_); rintro e w2 ⟨rfl,hb2⟩; have hj2 : KL [(w.heap.size,34,#[n,r,x,g,wd,l])] w w2 := KL.over hj1 hb2; have hz2 := hb2.size; obtain ⟨c2_L0,c2_0_0,c2_0_1,c2_0_2,c2_0_3,c2_0_4,c2_0_5⟩ := bl6 (KL.blk hj2 (.head _)); have c2_F0 := (KL.blk hj2 (.head _)).frozen))
 go_ret2
 exact ⟨rfl,((show KL [(w.heap.size,34,#[n,r,x,g,wd,l])] w _ from hj2)).1⟩
set_option maxHeartbeats 8000000 in
set_option maxRecDepth 100000 in
theorem spread_bad (n r x g wd l  k : Int)  (hcf : ∀ w,Calls Try.prog 34 #[.agg #[n,r,x,g,wd,l]] w fun e w' => e = .returned (.int .i64 1) ∧ Below w.heap.size w w') (w : World) :
  Calls Try.prog 23 #[.agg #[n,r,x,g,wd,l],.int .i64 k] w fun e w' => e = .returned (.tuple #[.agg #[.int .i64 0,.int .i64 0],.int .i64 1]) ∧ Below w.heap.size w w' := by
 go_enter Try.func23,Try.ntmps23
 go_wp2_with (first
  | (go_at_call 34; (with_reducible refine ((hcf _)).mono ?_); rintro e w1 ⟨rfl,hb1⟩; have hj1 : KL [((w.heap.size + 1),23,#[.int .i64 0,.int .i64 0]),(w.heap.size,34,#[n,r,x,g,wd,l])] w w1 := KL.over (KL.new (g := (w.heap.size + 1)) (KL.new (g := w.heap.size) (KL.nil w) rfl _ _) (by simp) _ _) hb1; have hz1 := hb1.size; obtain ⟨c1_L0,c1_0_0,c1_0_1⟩ := bl2 (KL.blk hj1 (.head _)); have c1_F0 := (KL.blk hj1 (.head _)).frozen; obtain ⟨c1_L1,c1_1_0,c1_1_1,c1_1_2,c1_1_3,c1_1_4,c1_1_5⟩ := bl6 (KL.blk hj1 (.tail _ (.head _))); have c1_F1 := (KL.blk hj1 (.tail _ (.head _))).frozen))
 exact bodyPost_ret (v := .tuple #[.agg #[.int .i64 0,.int .i64 0],.int .i64 1]) (by first | (simp [results,Try.results23,go_sem]; done) | simp [*,results,Try.results23,go_sem]) rfl ⟨rfl,((show KL [((w.heap.size + 1),23,#[.int .i64 0,.int .i64 0]),(w.heap.size,34,#[n,r,x,g,wd,l])] w _ from (KL.up2 (Z := [((w.heap.size + 1),23,#[.int .i64 0,.int .i64 0]),(w.heap.size,34,#[n,r,x,g,wd,l])]) 0 hj1 rfl (by omega) (by simp <;> omega)))).1⟩
set_option maxHeartbeats 8000000 in
set_option maxRecDepth 100000 in
theorem spread_rng (n r x g wd l  k : Int)  (hcf : ∀ w,Calls Try.prog 34 #[.agg #[n,r,x,g,wd,l]] w fun e w' => e = .returned (.int .i64 0) ∧ Below w.heap.size w w') (his : ∀ w,Calls Try.prog 39 #[k,.int .i64 0,.int .i64 1000] w fun e w' => e = .returned (.bool false) ∧ w = w') (w : World) :
  Calls Try.prog 23 #[.agg #[n,r,x,g,wd,l],.int .i64 k] w fun e w' => e = .returned (.tuple #[.agg #[.int .i64 0,.int .i64 0],.int .i64 6]) ∧ Below w.heap.size w w' := by
 go_enter Try.func23,Try.ntmps23
 go_wp2_with (first
  | (go_at_call 34; (with_reducible refine ((hcf _)).mono ?_); rintro e w1 ⟨rfl,hb1⟩; have hj1 : KL [((w.heap.size + 1),23,#[.int .i64 0,.int .i64 0]),(w.heap.size,34,#[n,r,x,g,wd,l])] w w1 := KL.over (KL.new (g := (w.heap.size + 1)) (KL.new (g := w.heap.size) (KL.nil w) rfl _ _) (by simp) _ _) hb1; have hz1 := hb1.size; obtain ⟨c1_L0,c1_0_0,c1_0_1⟩ := bl2 (KL.blk hj1 (.head _)); have c1_F0 := (KL.blk hj1 (.head _)).frozen; obtain ⟨c1_L1,c1_1_0,c1_1_1,c1_1_2,c1_1_3,c1_1_4,c1_1_5⟩ := bl6 (KL.blk hj1 (.tail _ (.head _))); have c1_F1 := (KL.blk hj1 (.tail _ (.head _))).frozen)
  | (go_at_call 39; (with_reducible refine ((his _)).mono ?_); rintro e w' ⟨rfl,rfl⟩))
 exact bodyPost_ret (v := .tuple #[.agg #[.int .i64 0,.int .i64 0],.int .i64 6]) (by first | (simp [results,Try.results23,go_sem]; done) | simp [*,results,Try.results23,go_sem]) rfl ⟨rfl,((show KL [((w.heap.size + 1),23,#[.int .i64 0,.int .i64 0]),(w.heap.size,34,#[n,r,x,g,wd,l])] w _ from (KL.up2 (Z := [((w.heap.size + 1),23,#[.int .i64 0,.int .i64 0]),(w.heap.size,34,#[n,r,x,g,wd,l])]) 0 hj1 rfl (by omega) (by simp <;> omega)))).1⟩
set_option maxHeartbeats 8000000 in
set_option maxRecDepth 100000 in
theorem spread_ok (n r x g wd l  k n1 nk lo hi v : Int)  (e1 : IntKind.i64.wrap (n - 1) = n1) (e2 : IntKind.i64.wrap (n * k) = nk) (e3 : IntKind.i64.wrap (v - nk) = lo) (e4 : IntKind.i64.wrap (v + nk) = hi) (hcf : ∀ w,Calls Try.prog 34 #[.agg #[n,r,x,g,wd,l]] w fun e w' => e = .returned (.int .i64 0) ∧ Below w.heap.size w w') (his : ∀ w,Calls Try.prog 39 #[k,.int .i64 0,.int .i64 1000] w fun e w' => e = .returned (.bool true) ∧ w = w') (hlv : ∀ w,Calls Try.prog 38 #[.agg #[n,r,x,g,wd,l],.int .i64 n1] w fun e w' => e = .returned (.int .i64 v) ∧ Below w.heap.size w w') (w : World) :
  Calls Try.prog 23 #[.agg #[n,r,x,g,wd,l],.int .i64 k] w fun e w' => e = .returned (.tuple #[.agg #[lo,hi],.int .i64 0]) ∧ Below w.heap.size w w' := by
 go_enter Try.func23,Try.ntmps23
 go_wp2_with (first
  | (go_at_call 34; (with_reducible refine ((hcf _)).mono ?_); rintro e w1 ⟨rfl,hb1⟩; have hj1 : KL [((w.heap.size + 1),23,#[.int .i64 0,.int .i64 0]),(w.heap.size,34,#[n,r,x,g,wd,l])] w w1 := KL.over (KL.new (g := (w.heap.size + 1)) (KL.new (g := w.heap.size) (KL.nil w) rfl _ _) (by simp) _ _) hb1; have hz1 := hb1.size; obtain ⟨c1_L0,c1_0_0,c1_0_1⟩ := bl2 (KL.blk hj1 (.head _)); have c1_F0 := (KL.blk hj1 (.head _)).frozen; obtain ⟨c1_L1,c1_1_0,c1_1_1,c1_1_2,c1_1_3,c1_1_4,c1_1_5⟩ := bl6 (KL.blk hj1 (.tail _ (.head _))); have c1_F1 := (KL.blk hj1 (.tail _ (.head _))).frozen)
  | (go_at_call 39; (with_reducible refine ((his _)).mono ?_); rintro e w' ⟨rfl,rfl⟩))
 refine wp_region_any (by kernel_rfl) ?_
 try (change wpAny _ _ _ _ _ _ _ (World.drew _))
 refine wpAny_vals (fr := fun o => #[.agg #[n,r,x,g,wd,l],.int .i64 k,.pointer (some ⟨w.heap.size,0,none⟩),undef,.pointer (some ⟨(w.heap.size + 1),0,none⟩),.int .i64 0,.int .i64 0,o 9,o 10,.agg #[n,r,x,g,wd,l],.int .i64 0,.int .i64 0,.bool false,undef,undef,.int .i64 k,.bool true,.bool false,undef,o 0,o 1,o 2,o 3,o 4,o 5,o 6,o 7,o 8,undef,undef,undef,undef,undef,undef,undef]) (vals := fun i_ => ([.agg #[n,r,x,g,wd,l],.pointer (some ⟨w.heap.size,0,none⟩),.int .i64 n,.int .i64 n1,.int .i64 v,.pointer (some ⟨w.heap.size,0,none⟩),.int .i64 n,.int .i64 k,.int .i64 nk,.int .i64 v,.int .i64 nk] : List Value).getD i_ undef) (Kf := fun _ => True) (K := fun kk_ => ([(KL [((w.heap.size + 1),23,#[.int .i64 0,.int .i64 0]),(w.heap.size,34,#[n,r,x,g,wd,l])] w)] : List (World → Prop)).getD kk_ (fun _ => True)) (dep := fun i_ => [[],[],[1],[2],[0,3],[],[5],[],[6,7],[4],[8]].getD i_ []) (dv := fun i_ => [[],[],[1],[2],[0,3],[],[5],[],[6,7],[4],[8]].getD i_ []) (kd := fun i_ => [1,0,1,0,1,0,1,0,0,0,0].getD i_ 0) (ss := []) (l := [0,1,2,3,4,5,6,7,8,9,10]) (f0 := fun _ => undef) (A := ?A2) 11 ?_ ?_ ?_ ?_ ?_ ?_ ⟨?_,?_,?_,?_,?_,?_,?_,?_,?_,?_,?_,trivial⟩ ?_ ?_
 rotate_left
 ·rfl
 ·rfl
 ·decide +kernel
 ·decide +kernel
 ·exact KL.drew hj1
 ·exact fun _ _ _ _ => trivial
 ·intro o W hj
  have hj : KL _ _ W := hj
  obtain ⟨cL,c0,c1,c2,c3,c4,c5⟩ := bl6 (KL.blk hj (.tail _ (.head _)))
  show wpOp _ _ _ 0 _ ⟨#[_,_,_,_,_,_,_,o 9,o 10,_,_,_,_,_,_,_,_,_,_,o 0,o 1,o 2,o 3,o 4,o 5,o 6,o 7,o 8,_,_,_,_,_,_,_],[]⟩ W
  refine wpOp_step rfl fun _ hK => ?_
  go_simp
  exact hK _ _ ⟨rfl,hj⟩
 ·intro o W _
  show wpOp _ _ _ 1 _ ⟨#[_,_,_,_,_,_,_,o 9,o 10,_,_,_,_,_,_,_,_,_,_,o 0,o 1,o 2,o 3,o 4,o 5,o 6,o 7,o 8,_,_,_,_,_,_,_],[]⟩ W
  refine wpOp_step rfl fun _ hK => ?_
  go_simp
  exact hK _ _ ⟨rfl,rfl⟩
 ·intro o W hj
  have hj : KL _ _ W := hj
  obtain ⟨cL,c0,c1,c2,c3,c4,c5⟩ := bl6 (KL.blk hj (.tail _ (.head _)))
  show wpOp _ _ _ 2 _ ⟨#[_,_,_,_,_,_,_,o 9,o 10,_,_,_,_,_,_,_,_,_,_,o 0,.pointer (some ⟨w.heap.size,0,none⟩),o 2,o 3,o 4,o 5,o 6,o 7,o 8,_,_,_,_,_,_,_],[]⟩ W
  refine wpOp_step rfl fun _ hK => ?_
  go_simp
  exact hK _ _ ⟨rfl,hj⟩
 ·intro o W _
  show wpOp _ _ _ 3 _ ⟨#[_,_,_,_,_,_,_,o 9,o 10,_,_,_,_,_,_,_,_,_,_,o 0,o 1,.int .i64 n,o 3,o 4,o 5,o 6,o 7,o 8,_,_,_,_,_,_,_],[]⟩ W
  refine wpOp_step rfl fun _ hK => ?_
  go_simp
  exact hK _ _ ⟨rfl,rfl⟩
 ·intro o W hj
  have hj : KL _ _ W := hj
  show wpOp _ _ _ 4 _ ⟨#[_,_,_,_,_,_,_,o 9,o 10,_,_,_,_,_,_,_,_,_,_,.agg #[n,r,x,g,wd,l],o 1,o 2,.int .i64 n1,o 4,o 5,o 6,o 7,o 8,_,_,_,_,_,_,_],[]⟩ W
  refine wpOp_step rfl fun _ hK => ?_
  go_simp
  refine (hlv _).mono ?_
  rintro e W1 ⟨rfl,hb1⟩
  exact hK _ _ ⟨rfl,hj.over hb1⟩
 ·intro o W _
  show wpOp _ _ _ 5 _ ⟨#[_,_,_,_,_,_,_,o 9,o 10,_,_,_,_,_,_,_,_,_,_,o 0,o 1,o 2,o 3,o 4,o 5,o 6,o 7,o 8,_,_,_,_,_,_,_],[]⟩ W
  refine wpOp_step rfl fun _ hK => ?_
  go_simp
  exact hK _ _ ⟨rfl,rfl⟩
 ·intro o W hj
  have hj : KL _ _ W := hj
  obtain ⟨cL,c0,c1,c2,c3,c4,c5⟩ := bl6 (KL.blk hj (.tail _ (.head _)))
  show wpOp _ _ _ 6 _ ⟨#[_,_,_,_,_,_,_,o 9,o 10,_,_,_,_,_,_,_,_,_,_,o 0,o 1,o 2,o 3,o 4,.pointer (some ⟨w.heap.size,0,none⟩),o 6,o 7,o 8,_,_,_,_,_,_,_],[]⟩ W
  refine wpOp_step rfl fun _ hK => ?_
  go_simp
  exact hK _ _ ⟨rfl,hj⟩
 ·intro o W _
  show wpOp _ _ _ 7 _ ⟨#[_,_,_,_,_,_,_,o 9,o 10,_,_,_,_,_,_,_,_,_,_,o 0,o 1,o 2,o 3,o 4,o 5,o 6,o 7,o 8,_,_,_,_,_,_,_],[]⟩ W
  refine wpOp_step rfl fun _ hK => ?_
  go_simp
  exact hK _ _ ⟨rfl,rfl⟩
 ·intro o W _
  show wpOp _ _ _ 8 _ ⟨#[_,_,_,_,_,_,_,o 9,o 10,_,_,_,_,_,_,_,_,_,_,o 0,o 1,o 2,o 3,o 4,o 5,.int .i64 n,.int .i64 k,o 8,_,_,_,_,_,_,_],[]⟩ W
  refine wpOp_step rfl fun _ hK => ?_
  go_simp
  exact hK _ _ ⟨rfl,rfl⟩
 ·intro o W _
  show wpOp _ _ _ 9 _ ⟨#[_,_,_,_,_,_,_,o 9,o 10,_,_,_,_,_,_,_,_,_,_,o 0,o 1,o 2,o 3,.int .i64 v,o 5,o 6,o 7,o 8,_,_,_,_,_,_,_],[]⟩ W
  refine wpOp_step rfl fun _ hK => ?_
  go_simp
  exact hK _ _ ⟨rfl,rfl⟩
 ·intro o W _
  show wpOp _ _ _ 10 _ ⟨#[_,_,_,_,_,_,_,o 9,o 10,_,_,_,_,_,_,_,_,_,_,o 0,o 1,o 2,o 3,o 4,o 5,o 6,o 7,.int .i64 nk,_,_,_,_,_,_,_],[]⟩ W
  refine wpOp_step rfl fun _ hK => ?_
  go_simp
  exact hK _ _ ⟨rfl,rfl⟩
 ·intro o hh_
  have e0 : o 0 = .agg #[n,r,x,g,wd,l] := hh_ 0 (by decide)
  have e1 : o 1 = .pointer (some ⟨w.heap.size,0,none⟩) := hh_ 1 (by decide)
  have e2 : o 2 = .int .i64 n := hh_ 2 (by decide)
  have e3 : o 3 = .int .i64 n1 := hh_ 3 (by decide)
  have e4 : o 4 = .int .i64 v := hh_ 4 (by decide)
  have e5 : o 5 = .pointer (some ⟨w.heap.size,0,none⟩) := hh_ 5 (by decide)
  have e6 : o 6 = .int .i64 n := hh_ 6 (by decide)
  have e7 : o 7 = .int .i64 k := hh_ 7 (by decide)
  have e8 : o 8 = .int .i64 nk := hh_ 8 (by decide)
  have e9 : o 9 = .int .i64 v := hh_ 9 (by decide)
  have e10 : o 10 = .int .i64 nk := hh_ 10 (by decide)
  rw [e0,e1,e2,e3,e4,e5,e6,e7,e8,e9,e10]
 ·intro W2 h2
  have h2 : KL _ _ W2 := h2
  obtain ⟨r2_L0,r2_0_0,r2_0_1⟩ := bl2 (KL.blk h2 (.head _))
  have r2_F0 := (KL.blk h2 (.head _)).frozen
  obtain ⟨r2_L1,r2_1_0,r2_1_1,r2_1_2,r2_1_3,r2_1_4,r2_1_5⟩ := bl6 (KL.blk h2 (.tail _ (.head _)))
  have r2_F1 := (KL.blk h2 (.tail _ (.head _))).frozen
  have hjb := h2.1
  have hjz := hjb.size
  go_wp2
  exact bodyPost_ret (v := .tuple #[.agg #[lo,hi],.int .i64 0]) (by first | (simp [results,Try.results23,go_sem]; done) | simp [*,results,Try.results23,go_sem]) rfl ⟨rfl,((show KL [((w.heap.size + 1),23,#[lo,hi]),(w.heap.size,34,#[n,r,x,g,wd,l])] w _ from (KL.up2 (Z := [((w.heap.size + 1),23,#[.int .i64 0,.int .i64 0]),(w.heap.size,34,#[n,r,x,g,wd,l])]) 0 h2 rfl (by omega) (by simp <;> omega)))).1⟩
end Go.Proofs.Ytoenojnfhiimpaa
