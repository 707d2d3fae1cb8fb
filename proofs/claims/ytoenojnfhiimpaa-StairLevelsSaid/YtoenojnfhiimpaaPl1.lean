/- stair planned,one way each. -/
import Derived.Test.YtoenojnfhiimpaaNum
import Derived.WalkSpells
import Derived.WalkLawsBesides
import Derived.Deep.QuietTactic
import Derived.BigQuiet
import Derived.Laws.StructEq
namespace Go.Proofs.Ytoenojnfhiimpaa
open Go.RowKit

set_option maxHeartbeats 8000000 in
set_option maxRecDepth 100000 in
theorem planned_bad (a b c d p q n r x g wd l L u m mm s G f0 : Int)  (hn0 : n ≠ 0) (hW : IntKind.i64.wrap (L.tdiv n) = u) (hW3 : IntKind.i64.wrap (2 * m) = mm) (hW2 : IntKind.i64.wrap (q - mm) = s) (hG : (if s < (if d < u then d else u) then s else (if d < u then d else u)) = G) (hf : (f0 != 0) = true) (hgr : ∀ w,Calls Try.prog 35 #[.agg #[n,r,x,g,wd,l]] w fun e w' => e = .returned (.int .i64 m) ∧ Below w.heap.size w w') (hft : ∀ w,Calls Try.prog 14 #[.agg #[a,b,c,d,p,q],.agg #[n,r,x,.int .i64 G,wd,l]] w fun e w' => e = .returned (.int .i64 f0) ∧ Below w.heap.size w w') (w : World) :
  Calls Try.prog 41 #[.agg #[a,b,c,d,p,q],.agg #[n,r,x,g,wd,l],.int .i64 L] w fun e w' => e = .returned (.agg #[.int .i64 0,.int .i64 0,.int .i64 0,.int .i64 0,.int .i64 0,.int .i64 0]) ∧ Below w.heap.size w w' := by
 go_enter Try.func41,Try.ntmps41
 go_wp2
 refine wp_region_any (by kernel_rfl) ?_
 try (change wpAny _ _ _ _ _ _ _ (World.drew _))
 refine wpAny_vals (fr := fun o => #[.agg #[a,b,c,d,p,q],.agg #[n,r,x,g,wd,l],.int .i64 L,.pointer (some ⟨w.heap.size,0,none⟩),.pointer (some ⟨(w.heap.size + 1),0,none⟩),undef,.pointer (some ⟨(w.heap.size + 1 + 1),0,none⟩),o 0,o 1,o 2,o 3,o 4,o 5,o 6,o 7,o 8,o 9,o 10,o 11,o 12,o 13,o 14,o 15,undef,undef,undef,undef,undef,undef]) (vals := fun i_ => ([.int .i64 L,.pointer (some ⟨(w.heap.size + 1),0,none⟩),.int .i64 n,.int .i64 u,.pointer (some ⟨w.heap.size,2,none⟩),.pointer (some ⟨w.heap.size,3,none⟩),.int .i64 d,.pointer (some ⟨w.heap.size,4,none⟩),.pointer (some ⟨w.heap.size,5,none⟩),.int .i64 q,.agg #[n,r,x,g,wd,l],.int .i64 m,.int .i64 mm,.int .i64 s,.int .i64 G,.pointer (some ⟨(w.heap.size + 1),3,none⟩),undef] : List Value).getD i_ undef) (Kf := fun _ => True) (K := fun kk_ => ([(KL [((w.heap.size + 1 + 1),34,#[.int .i64 0,.int .i64 0,.int .i64 0,.int .i64 0,.int .i64 0,.int .i64 0]),((w.heap.size + 1),34,#[n,r,x,g,wd,l]),(w.heap.size,31,#[a,b,c,d,p,q])] w),(KL [((w.heap.size + 1 + 1),34,#[.int .i64 0,.int .i64 0,.int .i64 0,.int .i64 0,.int .i64 0,.int .i64 0]),((w.heap.size + 1),34,#[n,r,x,.int .i64 G,wd,l]),(w.heap.size,31,#[a,b,c,d,p,q])] w)] : List (World → Prop)).getD kk_ (fun _ => True)) (dep := fun i_ => [[],[],[1],[0,2],[],[4],[5],[],[7],[8],[],[10],[11],[9,12],[3,6,13],[],[2,6,9,10,11,14,15]].getD i_ []) (dv := fun i_ => [[],[],[1],[0,2],[],[4],[5],[],[7],[8],[],[10],[11],[9,12],[3,6,13],[],[14,15]].getD i_ []) (kd := fun i_ => [0,0,1,0,0,0,1,0,0,1,1,1,0,0,0,0,2].getD i_ 0) (ss := [16]) (l := [0,1,2,3,4,5,6,7,8,9,10,11,12,13,14,15,16]) (f0 := fun _ => undef) (A := ?A1) 17 ?_ ?_ ?_ ?_ ?_ ?_ ⟨?_,?_,?_,?_,?_,?_,?_,?_,?_,?_,?_,?_,?_,?_,?_,?_,?_,trivial⟩ ?_ ?_
 rotate_left
 ·rfl
 ·rfl
 ·decide +kernel
 ·decide +kernel
 ·exact KL.drew (KL.new (g := (w.heap.size + 1 + 1)) (KL.new (g := (w.heap.size + 1)) (KL.new (g := w.heap.size) (KL.nil w) rfl _ _) (by simp) _ _) (by simp) _ _)
 ·exact fun _ _ _ _ => trivial
 ·intro o W _
  show wpOp _ _ _ 0 _ ⟨#[_,_,_,_,_,_,_,o 0,o 1,o 2,o 3,o 4,o 5,o 6,o 7,o 8,o 9,o 10,o 11,o 12,o 13,o 14,o 15,_,_,_,_,_,_],[]⟩ W
  refine wpOp_step rfl fun _ hK => ?_
  go_simp
  exact hK _ _ ⟨rfl,rfl⟩
 ·intro o W _
  show wpOp _ _ _ 1 _ ⟨#[_,_,_,_,_,_,_,o 0,o 1,o 2,o 3,o 4,o 5,o 6,o 7,o 8,o 9,o 10,o 11,o 12,o 13,o 14,o 15,_,_,_,_,_,_],[]⟩ W
  refine wpOp_step rfl fun _ hK => ?_
  go_simp
  exact hK _ _ ⟨rfl,rfl⟩
 ·intro o W hj
  have hj : KL _ _ W := hj
  obtain ⟨cL,c0,c1,c2,c3,c4,c5⟩ := bl6 (KL.blk hj (.tail _ (.head _)))
  show wpOp _ _ _ 2 _ ⟨#[_,_,_,_,_,_,_,o 0,.pointer (some ⟨(w.heap.size + 1),0,none⟩),o 2,o 3,o 4,o 5,o 6,o 7,o 8,o 9,o 10,o 11,o 12,o 13,o 14,o 15,_,_,_,_,_,_],[]⟩ W
  refine wpOp_step rfl fun _ hK => ?_
  go_simp
  exact hK _ _ ⟨rfl,hj⟩
 ·intro o W _
  show wpOp _ _ _ 3 _ ⟨#[_,_,_,_,_,_,_,.int .i64 L,o 1,.int .i64 n,o 3,o 4,o 5,o 6,o 7,o 8,o 9,o 10,o 11,o 12,o 13,o 14,o 15,_,_,_,_,_,_],[]⟩ W
  refine wpOp_step rfl fun _ hK => ?_
  go_simp
  exact hK _ _ ⟨rfl,rfl⟩
 ·intro o W _
  show wpOp _ _ _ 4 _ ⟨#[_,_,_,_,_,_,_,o 0,o 1,o 2,o 3,o 4,o 5,o 6,o 7,o 8,o 9,o 10,o 11,o 12,o 13,o 14,o 15,_,_,_,_,_,_],[]⟩ W
  refine wpOp_step rfl fun _ hK => ?_
  go_simp
  exact hK _ _ ⟨rfl,rfl⟩
 ·intro o W _
  show wpOp _ _ _ 5 _ ⟨#[_,_,_,_,_,_,_,o 0,o 1,o 2,o 3,.pointer (some ⟨w.heap.size,2,none⟩),o 5,o 6,o 7,o 8,o 9,o 10,o 11,o 12,o 13,o 14,o 15,_,_,_,_,_,_],[]⟩ W
  refine wpOp_step rfl fun _ hK => ?_
  go_simp
  exact hK _ _ ⟨rfl,rfl⟩
 ·intro o W hj
  have hj : KL _ _ W := hj
  obtain ⟨cL,c0,c1,c2,c3,c4,c5⟩ := bl6 (KL.blk hj (.tail _ (.tail _ (.head _))))
  show wpOp _ _ _ 6 _ ⟨#[_,_,_,_,_,_,_,o 0,o 1,o 2,o 3,o 4,.pointer (some ⟨w.heap.size,3,none⟩),o 6,o 7,o 8,o 9,o 10,o 11,o 12,o 13,o 14,o 15,_,_,_,_,_,_],[]⟩ W
  refine wpOp_step rfl fun _ hK => ?_
  go_simp
  exact hK _ _ ⟨rfl,hj⟩
 ·intro o W _
  show wpOp _ _ _ 7 _ ⟨#[_,_,_,_,_,_,_,o 0,o 1,o 2,o 3,o 4,o 5,o 6,o 7,o 8,o 9,o 10,o 11,o 12,o 13,o 14,o 15,_,_,_,_,_,_],[]⟩ W
  refine wpOp_step rfl fun _ hK => ?_
  go_simp
  exact hK _ _ ⟨rfl,rfl⟩
 ·intro o W _
  show wpOp _ _ _ 8 _ ⟨#[_,_,_,_,_,_,_,o 0,o 1,o 2,o 3,o 4,o 5,o 6,.pointer (some ⟨w.heap.size,4,none⟩),o 8,o 9,o 10,o 11,o 12,o 13,o 14,o 15,_,_,_,_,_,_],[]⟩ W
  refine wpOp_step rfl fun _ hK => ?_
  go_simp
  exact hK _ _ ⟨rfl,rfl⟩
 ·intro o W hj
  have hj : KL _ _ W := hj
  obtain ⟨cL,c0,c1,c2,c3,c4,c5⟩ := bl6 (KL.blk hj (.tail _ (.tail _ (.head _))))
  show wpOp _ _ _ 9 _ ⟨#[_,_,_,_,_,_,_,o 0,o 1,o 2,o 3,o 4,o 5,o 6,o 7,.pointer (some ⟨w.heap.size,5,none⟩),o 9,o 10,o 11,o 12,o 13,o 14,o 15,_,_,_,_,_,_],[]⟩ W
  refine wpOp_step rfl fun _ hK => ?_
  go_simp
  exact hK _ _ ⟨rfl,hj⟩
 ·intro o W hj
  have hj : KL _ _ W := hj
  obtain ⟨cL,c0,c1,c2,c3,c4,c5⟩ := bl6 (KL.blk hj (.tail _ (.head _)))
  show wpOp _ _ _ 10 _ ⟨#[_,_,_,_,_,_,_,o 0,o 1,o 2,o 3,o 4,o 5,o 6,o 7,o 8,o 9,o 10,o 11,o 12,o 13,o 14,o 15,_,_,_,_,_,_],[]⟩ W
  refine wpOp_step rfl fun _ hK => ?_
  go_simp
  exact hK _ _ ⟨rfl,hj⟩
 ·intro o W hj
  have hj : KL _ _ W := hj
  show wpOp _ _ _ 11 _ ⟨#[_,_,_,_,_,_,_,o 0,o 1,o 2,o 3,o 4,o 5,o 6,o 7,o 8,o 9,.agg #[n,r,x,g,wd,l],o 11,o 12,o 13,o 14,o 15,_,_,_,_,_,_],[]⟩ W
  refine wpOp_step rfl fun _ hK => ?_
  go_simp
  refine (hgr _).mono ?_
  rintro e W1 ⟨rfl,hb1⟩
  exact hK _ _ ⟨rfl,hj.over hb1⟩
 ·intro o W _
  show wpOp _ _ _ 12 _ ⟨#[_,_,_,_,_,_,_,o 0,o 1,o 2,o 3,o 4,o 5,o 6,o 7,o 8,o 9,o 10,.int .i64 m,o 12,o 13,o 14,o 15,_,_,_,_,_,_],[]⟩ W
  refine wpOp_step rfl fun _ hK => ?_
  go_simp
  exact hK _ _ ⟨rfl,rfl⟩
 ·intro o W _
  show wpOp _ _ _ 13 _ ⟨#[_,_,_,_,_,_,_,o 0,o 1,o 2,o 3,o 4,o 5,o 6,o 7,o 8,.int .i64 q,o 10,o 11,.int .i64 mm,o 13,o 14,o 15,_,_,_,_,_,_],[]⟩ W
  refine wpOp_step rfl fun _ hK => ?_
  go_simp
  exact hK _ _ ⟨rfl,rfl⟩
 ·intro o W _
  show wpOp _ _ _ 14 _ ⟨#[_,_,_,_,_,_,_,o 0,o 1,o 2,.int .i64 u,o 4,o 5,.int .i64 d,o 7,o 8,o 9,o 10,o 11,o 12,.int .i64 s,o 14,o 15,_,_,_,_,_,_],[]⟩ W
  refine wpOp_step rfl fun _ hK => ?_
  go_simp
  exact hK _ _ ⟨rfl,rfl⟩
 ·intro o W _
  show wpOp _ _ _ 15 _ ⟨#[_,_,_,_,_,_,_,o 0,o 1,o 2,o 3,o 4,o 5,o 6,o 7,o 8,o 9,o 10,o 11,o 12,o 13,o 14,o 15,_,_,_,_,_,_],[]⟩ W
  refine wpOp_step rfl fun _ hK => ?_
  go_simp
  exact hK _ _ ⟨rfl,rfl⟩
 ·intro o W hj
  have hj : KL _ _ W := hj
  obtain ⟨cL,c0,c1,c2,c3,c4,c5⟩ := bl6 (KL.blk hj (.tail _ (.head _)))
  have cF := (KL.blk hj (.tail _ (.head _))).frozen
  show wpOp _ _ _ 16 _ ⟨#[_,_,_,_,_,_,_,o 0,o 1,o 2,o 3,o 4,o 5,o 6,o 7,o 8,o 9,o 10,o 11,o 12,o 13,.int .i64 G,.pointer (some ⟨(w.heap.size + 1),3,none⟩),_,_,_,_,_,_],[]⟩ W
  refine wpOp_step rfl fun _ hK => ?_
  go_simp
  exact hK _ _ ⟨rfl,(KL.up1 1 hj rfl (by omega) (by simp <;> omega) 3 _)⟩
 ·intro o hh_
  have e0 : o 0 = .int .i64 L := hh_ 0 (by decide)
  have e1 : o 1 = .pointer (some ⟨(w.heap.size + 1),0,none⟩) := hh_ 1 (by decide)
  have e2 : o 2 = .int .i64 n := hh_ 2 (by decide)
  have e3 : o 3 = .int .i64 u := hh_ 3 (by decide)
  have e4 : o 4 = .pointer (some ⟨w.heap.size,2,none⟩) := hh_ 4 (by decide)
  have e5 : o 5 = .pointer (some ⟨w.heap.size,3,none⟩) := hh_ 5 (by decide)
  have e6 : o 6 = .int .i64 d := hh_ 6 (by decide)
  have e7 : o 7 = .pointer (some ⟨w.heap.size,4,none⟩) := hh_ 7 (by decide)
  have e8 : o 8 = .pointer (some ⟨w.heap.size,5,none⟩) := hh_ 8 (by decide)
  have e9 : o 9 = .int .i64 q := hh_ 9 (by decide)
  have e10 : o 10 = .agg #[n,r,x,g,wd,l] := hh_ 10 (by decide)
  have e11 : o 11 = .int .i64 m := hh_ 11 (by decide)
  have e12 : o 12 = .int .i64 mm := hh_ 12 (by decide)
  have e13 : o 13 = .int .i64 s := hh_ 13 (by decide)
  have e14 : o 14 = .int .i64 G := hh_ 14 (by decide)
  have e15 : o 15 = .pointer (some ⟨(w.heap.size + 1),3,none⟩) := hh_ 15 (by decide)
  rw [e0,e1,e2,e3,e4,e5,e6,e7,e8,e9,e10,e11,e12,e13,e14,e15]
 ·intro W1 h1
  have h1 : KL _ _ W1 := h1
  obtain ⟨r1_L0,r1_0_0,r1_0_1,r1_0_2,r1_0_3,r1_0_4,r1_0_5⟩ := bl6 (KL.blk h1 (.head _))
  have r1_F0 := (KL.blk h1 (.head _)).frozen
  obtain ⟨r1_L1,r1_1_0,r1_1_1,r1_1_2,r1_1_3,r1_1_4,r1_1_5⟩ := bl6 (KL.blk h1 (.tail _ (.head _)))
  have r1_F1 := (KL.blk h1 (.tail _ (.head _))).frozen
  obtain ⟨r1_L2,r1_2_0,r1_2_1,r1_2_2,r1_2_3,r1_2_4,r1_2_5⟩ := bl6 (KL.blk h1 (.tail _ (.tail _ (.head _))))
  have r1_F2 := (KL.blk h1 (.tail _ (.tail _ (.head _)))).frozen
  have hjb := h1.1
  have hjz := hjb.size
  go_wp2_with (first
   | (go_at_call 14; (with_reducible refine ((hft _)).mono ?_); rintro e w2 ⟨rfl,hb2⟩; have hj2 : KL [((w.heap.size + 1 + 1),34,#[.int .i64 0,.int .i64 0,.int .i64 0,.int .i64 0,.int .i64 0,.int .i64 0]),((w.heap.size + 1),34,#[n,r,x,.int .i64 G,wd,l]),(w.heap.size,31,#[a,b,c,d,p,q])] w w2 := KL.over h1 hb2; have hz2 := hb2.size; obtain ⟨c2_L0,c2_0_0,c2_0_1,c2_0_2,c2_0_3,c2_0_4,c2_0_5⟩ := bl6 (KL.blk hj2 (.head _)); have c2_F0 := (KL.blk hj2 (.head _)).frozen; obtain ⟨c2_L1,c2_1_0,c2_1_1,c2_1_2,c2_1_3,c2_1_4,c2_1_5⟩ := bl6 (KL.blk hj2 (.tail _ (.head _))); have c2_F1 := (KL.blk hj2 (.tail _ (.head _))).frozen; obtain ⟨c2_L2,c2_2_0,c2_2_1,c2_2_2,c2_2_3,c2_2_4,c2_2_5⟩ := bl6 (KL.blk hj2 (.tail _ (.tail _ (.head _)))); have c2_F2 := (KL.blk hj2 (.tail _ (.tail _ (.head _)))).frozen))
  exact bodyPost_ret (v := .agg #[.int .i64 0,.int .i64 0,.int .i64 0,.int .i64 0,.int .i64 0,.int .i64 0]) (by first | (simp [results,Try.results41,go_sem]; done) | simp [*,results,Try.results41,go_sem]) rfl ⟨rfl,((show KL [((w.heap.size + 1 + 1),34,#[.int .i64 0,.int .i64 0,.int .i64 0,.int .i64 0,.int .i64 0,.int .i64 0]),((w.heap.size + 1),34,#[n,r,x,.int .i64 G,wd,l]),(w.heap.size,31,#[a,b,c,d,p,q])] w _ from (KL.up6 (Z := [((w.heap.size + 1 + 1),34,#[.int .i64 0,.int .i64 0,.int .i64 0,.int .i64 0,.int .i64 0,.int .i64 0]),((w.heap.size + 1),34,#[n,r,x,.int .i64 G,wd,l]),(w.heap.size,31,#[a,b,c,d,p,q])]) 0 hj2 rfl (by omega) (by simp <;> omega)))).1⟩
set_option maxHeartbeats 8000000 in
set_option maxRecDepth 100000 in
theorem planned_ok (a b c d p q n r x g wd l L u m mm s G f0 : Int)  (hn0 : n ≠ 0) (hW : IntKind.i64.wrap (L.tdiv n) = u) (hW3 : IntKind.i64.wrap (2 * m) = mm) (hW2 : IntKind.i64.wrap (q - mm) = s) (hG : (if s < (if d < u then d else u) then s else (if d < u then d else u)) = G) (hf : (f0 != 0) = false) (hgr : ∀ w,Calls Try.prog 35 #[.agg #[n,r,x,g,wd,l]] w fun e w' => e = .returned (.int .i64 m) ∧ Below w.heap.size w w') (hft : ∀ w,Calls Try.prog 14 #[.agg #[a,b,c,d,p,q],.agg #[n,r,x,.int .i64 G,wd,l]] w fun e w' => e = .returned (.int .i64 f0) ∧ Below w.heap.size w w') (w : World) :
  Calls Try.prog 41 #[.agg #[a,b,c,d,p,q],.agg #[n,r,x,g,wd,l],.int .i64 L] w fun e w' => e = .returned (.agg #[n,r,x,.int .i64 G,wd,l]) ∧ Below w.heap.size w w' := by
 go_enter Try.func41,Try.ntmps41
 go_wp2
 refine wp_region_any (by kernel_rfl) ?_
 try (change wpAny _ _ _ _ _ _ _ (World.drew _))
 refine wpAny_vals (fr := fun o => #[.agg #[a,b,c,d,p,q],.agg #[n,r,x,g,wd,l],.int .i64 L,.pointer (some ⟨w.heap.size,0,none⟩),.pointer (some ⟨(w.heap.size + 1),0,none⟩),undef,.pointer (some ⟨(w.heap.size + 1 + 1),0,none⟩),o 0,o 1,o 2,o 3,o 4,o 5,o 6,o 7,o 8,o 9,o 10,o 11,o 12,o 13,o 14,o 15,undef,undef,undef,undef,undef,undef]) (vals := fun i_ => ([.int .i64 L,.pointer (some ⟨(w.heap.size + 1),0,none⟩),.int .i64 n,.int .i64 u,.pointer (some ⟨w.heap.size,2,none⟩),.pointer (some ⟨w.heap.size,3,none⟩),.int .i64 d,.pointer (some ⟨w.heap.size,4,none⟩),.pointer (some ⟨w.heap.size,5,none⟩),.int .i64 q,.agg #[n,r,x,g,wd,l],.int .i64 m,.int .i64 mm,.int .i64 s,.int .i64 G,.pointer (some ⟨(w.heap.size + 1),3,none⟩),undef] : List Value).getD i_ undef) (Kf := fun _ => True) (K := fun kk_ => ([(KL [((w.heap.size + 1 + 1),34,#[.int .i64 0,.int .i64 0,.int .i64 0,.int .i64 0,.int .i64 0,.int .i64 0]),((w.heap.size + 1),34,#[n,r,x,g,wd,l]),(w.heap.size,31,#[a,b,c,d,p,q])] w),(KL [((w.heap.size + 1 + 1),34,#[.int .i64 0,.int .i64 0,.int .i64 0,.int .i64 0,.int .i64 0,.int .i64 0]),((w.heap.size + 1),34,#[n,r,x,.int .i64 G,wd,l]),(w.heap.size,31,#[a,b,c,d,p,q])] w)] : List (World → Prop)).getD kk_ (fun _ => True)) (dep := fun i_ => [[],[],[1],[0,2],[],[4],[5],[],[7],[8],[],[10],[11],[9,12],[3,6,13],[],[2,6,9,10,11,14,15]].getD i_ []) (dv := fun i_ => [[],[],[1],[0,2],[],[4],[5],[],[7],[8],[],[10],[11],[9,12],[3,6,13],[],[14,15]].getD i_ []) (kd := fun i_ => [0,0,1,0,0,0,1,0,0,1,1,1,0,0,0,0,2].getD i_ 0) (ss := [16]) (l := [0,1,2,3,4,5,6,7,8,9,10,11,12,13,14,15,16]) (f0 := fun _ => undef) (A := ?A2) 17 ?_ ?_ ?_ ?_ ?_ ?_ ⟨?_,?_,?_,?_,?_,?_,?_,?_,?_,?_,?_,?_,?_,?_,?_,?_,?_,trivial⟩ ?_ ?_
 rotate_left
 ·rfl
 ·rfl
 ·decide +kernel
 ·decide +kernel
 ·exact KL.drew (KL.new (g := (w.heap.size + 1 + 1)) (KL.new (g := (w.heap.size + 1)) (KL.new (g := w.heap.size) (KL.nil w) rfl _ _) (by simp) _ _) (by simp) _ _)
 ·exact fun _ _ _ _ => trivial
 ·intro o W _
  show wpOp _ _ _ 0 _ ⟨#[_,_,_,_,_,_,_,o 0,o 1,o 2,o 3,o 4,o 5,o 6,o 7,o 8,o 9,o 10,o 11,o 12,o 13,o 14,o 15,_,_,_,_,_,_],[]⟩ W
  refine wpOp_step rfl fun _ hK => ?_
  go_simp
  exact hK _ _ ⟨rfl,rfl⟩
 ·intro o W _
  show wpOp _ _ _ 1 _ ⟨#[_,_,_,_,_,_,_,o 0,o 1,o 2,o 3,o 4,o 5,o 6,o 7,o 8,o 9,o 10,o 11,o 12,o 13,o 14,o 15,_,_,_,_,_,_],[]⟩ W
  refine wpOp_step rfl fun _ hK => ?_
  go_simp
  exact hK _ _ ⟨rfl,rfl⟩
 ·intro o W hj
  have hj : KL _ _ W := hj
  obtain ⟨cL,c0,c1,c2,c3,c4,c5⟩ := bl6 (KL.blk hj (.tail _ (.head _)))
  show wpOp _ _ _ 2 _ ⟨#[_,_,_,_,_,_,_,o 0,.pointer (some ⟨(w.heap.size + 1),0,none⟩),o 2,o 3,o 4,o 5,o 6,o 7,o 8,o 9,o 10,o 11,o 12,o 13,o 14,o 15,_,_,_,_,_,_],[]⟩ W
  refine wpOp_step rfl fun _ hK => ?_
  go_simp
  exact hK _ _ ⟨rfl,hj⟩
 ·intro o W _
  show wpOp _ _ _ 3 _ ⟨#[_,_,_,_,_,_,_,.int .i64 L,o 1,.int .i64 n,o 3,o 4,o 5,o 6,o 7,o 8,o 9,o 10,o 11,o 12,o 13,o 14,o 15,_,_,_,_,_,_],[]⟩ W
  refine wpOp_step rfl fun _ hK => ?_
  go_simp
  exact hK _ _ ⟨rfl,rfl⟩
 ·intro o W _
  show wpOp _ _ _ 4 _ ⟨#[_,_,_,_,_,_,_,o 0,o 1,o 2,o 3,o 4,o 5,o 6,o 7,o 8,o 9,o 10,o 11,o 12,o 13,o 14,o 15,_,_,_,_,_,_],[]⟩ W
  refine wpOp_step rfl fun _ hK => ?_
  go_simp
  exact hK _ _ ⟨rfl,rfl⟩
 ·intro o W _
  show wpOp _ _ _ 5 _ ⟨#[_,_,_,_,_,_,_,o 0,o 1,o 2,o 3,.pointer (some ⟨w.heap.size,2,none⟩),o 5,o 6,o 7,o 8,o 9,o 10,o 11,o 12,o 13,o 14,o 15,_,_,_,_,_,_],[]⟩ W
  refine wpOp_step rfl fun _ hK => ?_
  go_simp
  exact hK _ _ ⟨rfl,rfl⟩
 ·intro o W hj
  have hj : KL _ _ W := hj
  obtain ⟨cL,c0,c1,c2,c3,c4,c5⟩ := bl6 (KL.blk hj (.tail _ (.tail _ (.head _))))
  show wpOp _ _ _ 6 _ ⟨#[_,_,_,_,_,_,_,o 0,o 1,o 2,o 3,o 4,.pointer (some ⟨w.heap.size,3,none⟩),o 6,o 7,o 8,o 9,o 10,o 11,o 12,o 13,o 14,o 15,_,_,_,_,_,_],[]⟩ W
  refine wpOp_step rfl fun _ hK => ?_
  go_simp
  exact hK _ _ ⟨rfl,hj⟩
 ·intro o W _
  show wpOp _ _ _ 7 _ ⟨#[_,_,_,_,_,_,_,o 0,o 1,o 2,o 3,o 4,o 5,o 6,o 7,o 8,o 9,o 10,o 11,o 12,o 13,o 14,o 15,_,_,_,_,_,_],[]⟩ W
  refine wpOp_step rfl fun _ hK => ?_
  go_simp
  exact hK _ _ ⟨rfl,rfl⟩
 ·intro o W _
  show wpOp _ _ _ 8 _ ⟨#[_,_,_,_,_,_,_,o 0,o 1,o 2,o 3,o 4,o 5,o 6,.pointer (some ⟨w.heap.size,4,none⟩),o 8,o 9,o 10,o 11,o 12,o 13,o 14,o 15,_,_,_,_,_,_],[]⟩ W
  refine wpOp_step rfl fun _ hK => ?_
  go_simp
  exact hK _ _ ⟨rfl,rfl⟩
 ·intro o W hj
  have hj : KL _ _ W := hj
  obtain ⟨cL,c0,c1,c2,c3,c4,c5⟩ := bl6 (KL.blk hj (.tail _ (.tail _ (.head _))))
  show wpOp _ _ _ 9 _ ⟨#[_,_,_,_,_,_,_,o 0,o 1,o 2,o 3,o 4,o 5,o 6,o 7,.pointer (some ⟨w.heap.size,5,none⟩),o 9,o 10,o 11,o 12,o 13,o 14,o 15,_,_,_,_,_,_],[]⟩ W
  refine wpOp_step rfl fun _ hK => ?_
  go_simp
  exact hK _ _ ⟨rfl,hj⟩
 ·intro o W hj
  have hj : KL _ _ W := hj
  obtain ⟨cL,c0,c1,c2,c3,c4,c5⟩ := bl6 (KL.blk hj (.tail _ (.head _)))
  show wpOp _ _ _ 10 _ ⟨#[_,_,_,_,_,_,_,o 0,o 1,o 2,o 3,o 4,o 5,o 6,o 7,o 8,o 9,o 10,o 11,o 12,o 13,o 14,o 15,_,_,_,_,_,_],[]⟩ W
  refine wpOp_step rfl fun _ hK => ?_
  go_simp
  exact hK _ _ ⟨rfl,hj⟩
 ·intro o W hj
  have hj : KL _ _ W := hj
  show wpOp _ _ _ 11 _ ⟨#[_,_,_,_,_,_,_,o 0,o 1,o 2,o 3,o 4,o 5,o 6,o 7,o 8,o 9,.agg #[n,r,x,g,wd,l],o 11,o 12,o 13,o 14,o 15,_,_,_,_,_,_],[]⟩ W
  refine wpOp_step rfl fun _ hK => ?_
  go_simp
  refine (hgr _).mono ?_
  rintro e W1 ⟨rfl,hb1⟩
  exact hK _ _ ⟨rfl,hj.over hb1⟩
 ·intro o W _
  show wpOp _ _ _ 12 _ ⟨#[_,_,_,_,_,_,_,o 0,o 1,o 2,o 3,o 4,o 5,o 6,o 7,o 8,o 9,o 10,.int .i64 m,o 12,o 13,o 14,o 15,_,_,_,_,_,_],[]⟩ W
  refine wpOp_step rfl fun _ hK => ?_
  go_simp
  exact hK _ _ ⟨rfl,rfl⟩
 ·intro o W _
  show wpOp _ _ _ 13 _ ⟨#[_,_,_,_,_,_,_,o 0,o 1,o 2,o 3,o 4,o 5,o 6,o 7,o 8,.int .i64 q,o 10,o 11,.int .i64 mm,o 13,o 14,o 15,_,_,_,_,_,_],[]⟩ W
  refine wpOp_step rfl fun _ hK => ?_
  go_simp
  exact hK _ _ ⟨rfl,rfl⟩
 ·intro o W _
  show wpOp _ _ _ 14 _ ⟨#[_,_,_,_,_,_,_,o 0,o 1,o 2,.int .i64 u,o 4,o 5,.int .i64 d,o 7,o 8,o 9,o 10,o 11,o 12,.int .i64 s,o 14,o 15,_,_,_,_,_,_],[]⟩ W
  refine wpOp_step rfl fun _ hK => ?_
  go_simp
  exact hK _ _ ⟨rfl,rfl⟩
 ·intro o W _
  show wpOp _ _ _ 15 _ ⟨#[_,_,_,_,_,_,_,o 0,o 1,o 2,o 3,o 4,o 5,o 6,o 7,o 8,o 9,o 10,o 11,o 12,o 13,o 14,o 15,_,_,_,_,_,_],[]⟩ W
  refine wpOp_step rfl fun _ hK => ?_
  go_simp
  exact hK _ _ ⟨rfl,rfl⟩
 ·intro o W hj
  have hj : KL _ _ W := hj
  obtain ⟨cL,c0,c1,c2,c3,c4,c5⟩ := bl6 (KL.blk hj (.tail _ (.head _)))
  have cF := (KL.blk hj (.tail _ (.head _))).frozen
  show wpOp _ _ _ 16 _ ⟨#[_,_,_,_,_,_,_,o 0,o 1,o 2,o 3,o 4,o 5,o 6,o 7,o 8,o 9,o 10,o 11,o 12,o 13,.int .i64 G,.pointer (some ⟨(w.heap.size + 1),3,none⟩),_,_,_,_,_,_],[]⟩ W
  refine wpOp_step rfl fun _ hK => ?_
  go_simp
  exact hK _ _ ⟨rfl,(KL.up1 1 hj rfl (by omega) (by simp <;> omega) 3 _)⟩
 ·intro o hh_
  have e0 : o 0 = .int .i64 L := hh_ 0 (by decide)
  have e1 : o 1 = .pointer (some ⟨(w.heap.size + 1),0,none⟩) := hh_ 1 (by decide)
  have e2 : o 2 = .int .i64 n := hh_ 2 (by decide)
  have e3 : o 3 = .int .i64 u := hh_ 3 (by decide)
  have e4 : o 4 = .pointer (some ⟨w.heap.size,2,none⟩) := hh_ 4 (by decide)
  have e5 : o 5 = .pointer (some ⟨w.heap.size,3,none⟩) := hh_ 5 (by decide)
  have e6 : o 6 = .int .i64 d := hh_ 6 (by decide)
  have e7 : o 7 = .pointer (some ⟨w.heap.size,4,none⟩) := hh_ 7 (by decide)
  have e8 : o 8 = .pointer (some ⟨w.heap.size,5,none⟩) := hh_ 8 (by decide)
  have e9 : o 9 = .int .i64 q := hh_ 9 (by decide)
  have e10 : o 10 = .agg #[n,r,x,g,wd,l] := hh_ 10 (by decide)
  have e11 : o 11 = .int .i64 m := hh_ 11 (by decide)
  have e12 : o 12 = .int .i64 mm := hh_ 12 (by decide)
  have e13 : o 13 = .int .i64 s := hh_ 13 (by decide)
  have e14 : o 14 = .int .i64 G := hh_ 14 (by decide)
  have e15 : o 15 = .pointer (some ⟨(w.heap.size + 1),3,none⟩) := hh_ 15 (by decide)
  rw [e0,e1,e2,e3,e4,e5,e6,e7,e8,e9,e10,e11,e12,e13,e14,e15]
 ·intro W1 h1
  have h1 : KL _ _ W1 := h1
  obtain ⟨r1_L0,r1_0_0,r1_0_1,r1_0_2,r1_0_3,r1_0_4,r1_0_5⟩ := bl6 (KL.blk h1 (.head _))
  have r1_F0 := (KL.blk h1 (.head _)).frozen
  obtain ⟨r1_L1,r1_1_0,r1_1_1,r1_1_2,r1_1_3,r1_1_4,r1_1_5⟩ := bl6 (KL.blk h1 (.tail _ (.head _)))
  have r1_F1 := (KL.blk h1 (.tail _ (.head _))).frozen
  obtain ⟨r1_L2,r1_2_0,r1_2_1,r1_2_2,r1_2_3,r1_2_4,r1_2_5⟩ := bl6 (KL.blk h1 (.tail _ (.tail _ (.head _))))
  have r1_F2 := (KL.blk h1 (.tail _ (.tail _ (.head _)))).frozen
  have hjb := h1.1
  have hjz := hjb.size
  go_wp2_with (first
   | (go_at_call 14; (with_reducible refine ((hft _)).mono ?_); rintro e w2 ⟨rfl,hb2⟩; have hj2 : KL [((w.heap.size + 1 + 1),34,#[.int .i64 0,.int .i64 0,.int .i64 0,.int .i64 0,.int .i64 0,.int .i64 0]),((w.heap.size + 1),34,#[n,r,x,.int .i64 G,wd,l]),(w.heap.size,31,#[a,b,c,d,p,q])] w w2 := KL.over h1 hb2; have hz2 := hb2.size; obtain ⟨c2_L0,c2_0_0,c2_0_1,c2_0_2,c2_0_3,c2_0_4,c2_0_5⟩ := bl6 (KL.blk hj2 (.head _)); have c2_F0 := (KL.blk hj2 (.head _)).frozen; obtain ⟨c2_L1,c2_1_0,c2_1_1,c2_1_2,c2_1_3,c2_1_4,c2_1_5⟩ := bl6 (KL.blk hj2 (.tail _ (.head _))); have c2_F1 := (KL.blk hj2 (.tail _ (.head _))).frozen; obtain ⟨c2_L2,c2_2_0,c2_2_1,c2_2_2,c2_2_3,c2_2_4,c2_2_5⟩ := bl6 (KL.blk hj2 (.tail _ (.tail _ (.head _)))); have c2_F2 := (KL.blk hj2 (.tail _ (.tail _ (.head _)))).frozen))
  exact bodyPost_ret (v := .agg #[n,r,x,.int .i64 G,wd,l]) (by first | (simp [results,Try.results41,go_sem]; done) | simp [*,results,Try.results41,go_sem]) rfl ⟨rfl,((show KL [((w.heap.size + 1 + 1),34,#[n,r,x,.int .i64 G,wd,l]),((w.heap.size + 1),34,#[n,r,x,.int .i64 G,wd,l]),(w.heap.size,31,#[a,b,c,d,p,q])] w _ from (KL.up6 (Z := [((w.heap.size + 1 + 1),34,#[.int .i64 0,.int .i64 0,.int .i64 0,.int .i64 0,.int .i64 0,.int .i64 0]),((w.heap.size + 1),34,#[n,r,x,.int .i64 G,wd,l]),(w.heap.size,31,#[a,b,c,d,p,q])]) 0 hj2 rfl (by omega) (by simp <;> omega)))).1⟩
end Go.Proofs.Ytoenojnfhiimpaa
