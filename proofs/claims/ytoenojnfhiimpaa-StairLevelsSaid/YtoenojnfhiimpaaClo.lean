/- The closure of level. -/
import Derived.Test.YtoenojnfhiimpaaNum
import Derived.WalkSpells
import Derived.WalkLawsBesides
import Derived.Deep.QuietTactic
import Derived.BigQuiet
import Derived.Laws.StructEq
namespace Go.Proofs.Ytoenojnfhiimpaa
open Go.RowKit

set_option maxHeartbeats 8000000 in
set_option maxRecDepth 100000 in
theorem climb_kl (n r x g wd l i s s2 : Int) (gs gb : Nat) (h1 : 1 ≤ r) (h2 : r ≤ 10000) (hs : IntKind.i64.wrap (s + rsI r x i) = s2) (hne : gb ≠ gs) (w W : World) (hw : w.heap.size ≤ gs) (hk : KL [(gs,3,#[s]),(gb,34,#[n,r,x,g,wd,l])] w W) :
  Calls Try.prog 44 #[.int .i64 i,.pointer (some ⟨gs,0,none⟩),.pointer (some ⟨gb,0,none⟩)] W fun e w' => e = .returned (.tuple #[]) ∧ KL [(gs,3,#[s2]),(gb,34,#[n,r,x,g,wd,l])] w w' := by
 obtain ⟨kL0,k0_0⟩ := bl1 (KL.blk hk (.head _))
 have kF0 := (KL.blk hk (.head _)).frozen
 obtain ⟨kL1,k1_0,k1_1,k1_2,k1_3,k1_4,k1_5⟩ := bl6 (KL.blk hk (.tail _ (.head _)))
 have kF1 := (KL.blk hk (.tail _ (.head _))).frozen
 have hkz := hk.1.size
 have hri := fun i W => rise_any n r x g wd l i W h1 h2
 go_enter Try.func44,Try.ntmps44
 go_wp2
 refine wp_region_any (by kernel_rfl) ?_
 try (change wpAny _ _ _ _ _ _ _ (World.drew _))
 refine wpAny_vals (fr := fun o => #[.int .i64 i,.pointer (some ⟨gs,0,none⟩),.pointer (some ⟨gb,0,none⟩),undef,o 0,o 1,o 2,o 3,o 4]) (vals := fun i_ => ([.int .i64 s,.agg #[n,r,x,g,wd,l],.int .i64 i,.int .i64 (rsI r x i),.int .i64 s2,undef] : List Value).getD i_ undef) (Kf := fun _ => True) (K := fun kk_ => ([(KL [(gs,3,#[s]),(gb,34,#[n,r,x,g,wd,l])] w),(KL [(gs,3,#[s2]),(gb,34,#[n,r,x,g,wd,l])] w)] : List (World → Prop)).getD kk_ (fun _ => True)) (dep := fun i_ => [[],[],[],[1,2],[0,3],[0,1,3,4]].getD i_ []) (dv := fun i_ => [[],[],[],[1,2],[0,3],[4]].getD i_ []) (kd := fun i_ => [1,1,0,1,0,2].getD i_ 0) (ss := [5]) (l := [0,1,2,3,4,5]) (f0 := fun _ => undef) (A := ?A1) 6 ?_ ?_ ?_ ?_ ?_ ?_ ⟨?_,?_,?_,?_,?_,?_,trivial⟩ ?_ ?_
 rotate_left
 ·rfl
 ·rfl
 ·decide +kernel
 ·decide +kernel
 ·exact KL.drew hk
 ·exact fun _ _ _ _ => trivial
 ·intro o W hj
  have hj : KL _ _ W := hj
  obtain ⟨cL,c0⟩ := bl1 (KL.blk hj (.head _))
  show wpOp _ _ _ 0 _ ⟨#[_,_,_,_,o 0,o 1,o 2,o 3,o 4],[]⟩ W
  refine wpOp_step rfl fun _ hK => ?_
  go_simp
  exact hK _ _ ⟨rfl,hj⟩
 ·intro o W hj
  have hj : KL _ _ W := hj
  obtain ⟨cL,c0,c1,c2,c3,c4,c5⟩ := bl6 (KL.blk hj (.tail _ (.head _)))
  show wpOp _ _ _ 1 _ ⟨#[_,_,_,_,o 0,o 1,o 2,o 3,o 4],[]⟩ W
  refine wpOp_step rfl fun _ hK => ?_
  go_simp
  exact hK _ _ ⟨rfl,hj⟩
 ·intro o W _
  show wpOp _ _ _ 2 _ ⟨#[_,_,_,_,o 0,o 1,o 2,o 3,o 4],[]⟩ W
  refine wpOp_step rfl fun _ hK => ?_
  go_simp
  exact hK _ _ ⟨rfl,rfl⟩
 ·intro o W hj
  have hj : KL _ _ W := hj
  show wpOp _ _ _ 3 _ ⟨#[_,_,_,_,o 0,.agg #[n,r,x,g,wd,l],.int .i64 i,o 3,o 4],[]⟩ W
  refine wpOp_step rfl fun _ hK => ?_
  go_simp
  refine (hri _ _).mono ?_
  rintro e W1 ⟨rfl,hb1⟩
  exact hK _ _ ⟨rfl,hj.over hb1⟩
 ·intro o W _
  show wpOp _ _ _ 4 _ ⟨#[_,_,_,_,.int .i64 s,o 1,o 2,.int .i64 (rsI r x i),o 4],[]⟩ W
  refine wpOp_step rfl fun _ hK => ?_
  go_simp
  exact hK _ _ ⟨rfl,rfl⟩
 ·intro o W hj
  have hj : KL _ _ W := hj
  obtain ⟨cL,c0⟩ := bl1 (KL.blk hj (.head _))
  have cF := (KL.blk hj (.head _)).frozen
  show wpOp _ _ _ 5 _ ⟨#[_,_,_,_,o 0,o 1,o 2,o 3,.int .i64 s2],[]⟩ W
  refine wpOp_step rfl fun _ hK => ?_
  go_simp
  exact hK _ _ ⟨rfl,(KL.up1 0 hj rfl (by omega) (by simp <;> omega) 0 _)⟩
 ·intro o hh_
  have e0 : o 0 = .int .i64 s := hh_ 0 (by decide)
  have e1 : o 1 = .agg #[n,r,x,g,wd,l] := hh_ 1 (by decide)
  have e2 : o 2 = .int .i64 i := hh_ 2 (by decide)
  have e3 : o 3 = .int .i64 (rsI r x i) := hh_ 3 (by decide)
  have e4 : o 4 = .int .i64 s2 := hh_ 4 (by decide)
  rw [e0,e1,e2,e3,e4]
 ·intro W1 h1
  have h1 : KL _ _ W1 := h1
  obtain ⟨r1_L0,r1_0_0⟩ := bl1 (KL.blk h1 (.head _))
  have r1_F0 := (KL.blk h1 (.head _)).frozen
  obtain ⟨r1_L1,r1_1_0,r1_1_1,r1_1_2,r1_1_3,r1_1_4,r1_1_5⟩ := bl6 (KL.blk h1 (.tail _ (.head _)))
  have r1_F1 := (KL.blk h1 (.tail _ (.head _))).frozen
  have hjb := h1.1
  have hjz := hjb.size
  go_wp2
  go_end0
  exact ⟨rfl,(show KL [(gs,3,#[s2]),(gb,34,#[n,r,x,g,wd,l])] w _ from h1)⟩
end Go.Proofs.Ytoenojnfhiimpaa
