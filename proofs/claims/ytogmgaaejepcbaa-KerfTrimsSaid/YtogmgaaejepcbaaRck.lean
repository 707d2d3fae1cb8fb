/- The walk of the reference's Check of a cut. -/
import Derived.Test.YtogmgaaejepcbaaCor
import Derived.Test.YtogmgaaejepcbaaCk
import Derived.Test.YtogmgaaejepcbaaReg
namespace Go.Proofs.Ytogmgaaejepcbaa
open Go.RowKit

theorem rAxis_yes (w : World) {k : Int} (h : rgB 0 2 k = true) : Calls Try.prog 40 #[k] w fun e w' => e = .returned (.bool true) ∧ w = w' := by have := rAxis_any k w; rwa [h] at this
theorem rAxis_not (w : World) {k : Int} (h : rgB 0 2 k = false) : Calls Try.prog 40 #[k] w fun e w' => e = .returned (.bool false) ∧ w = w' := by have := rAxis_any k w; rwa [h] at this
set_option maxHeartbeats 8000000 in
set_option maxRecDepth 100000 in
theorem rCheck_ok0 (x y z p q r t k : Int) (hv : eB x y z p q r = 0) (w : World) :
  Calls Try.prog 13 #[.agg #[x,y,z,p,q,r],.agg #[.int .i64 0,t,k]] w fun e w' => e = .returned (.int .i64 (okI x p t k)) ∧ Below w.heap.size w w' := by
 have hc := rbcheck_any x y z p q r
 rw [hv] at hc
 obtain ⟨⟨a1,a2,a3⟩,⟨a4,a5,a6⟩,⟨a7,a8,a9⟩⟩ := eB_bd hv
 clear hv
 have hk := rKerf_any k
 cases h : rgB 0 1000 k
 ·have HE := Lib.hid (okI_6 (lo := x) (hi := p) (t := t) h)
  rw [h] at hk
  clear h
  go_enter Try.func13,Try.ntmps13
  go_wp2_with (first | (go_at_call 35; refine (hc _).mono ?_; rintro e w1 ⟨rfl,hb1⟩; obtain ⟨hc1,hf1⟩ := bcell hb1; have hz1 := hb1.size; (try simp at hz1); (try have y10 : w.heap.size < w1.heap.size := (by omega)); (try have y10p : w.heap.size < w1.heap.size + 1 := (by omega)); (try have y11 : w.heap.size + 1 < w1.heap.size := (by omega)); (try have y11p : w.heap.size + 1 < w1.heap.size + 1 := (by omega)); (try have y12 : w.heap.size + 1 + 1 < w1.heap.size := (by omega)); (try have y12p : w.heap.size + 1 + 1 < w1.heap.size + 1 := (by omega)); (try have y13 : w.heap.size + 1 + 1 + 1 < w1.heap.size := (by omega)); (try have y13p : w.heap.size + 1 + 1 + 1 < w1.heap.size + 1 := (by omega)); (try have y14 : w.heap.size + 1 + 1 + 1 + 1 < w1.heap.size := (by omega)); (try have y14p : w.heap.size + 1 + 1 + 1 + 1 < w1.heap.size + 1 := (by omega)); (try have v0x1 : w0.heap.size < w1.heap.size := (by omega)); (try have v0x1p : w0.heap.size < w1.heap.size + 1 := (by omega))) | (go_at_call 40; refine (rAxis_yes _ (by decide)).mono ?_; rintro e w' ⟨rfl,rfl⟩) | (go_at_call 25; refine (hk _).mono ?_; rintro e w' ⟨rfl,rfl⟩))
  go_ret
  refine ⟨ret_int HE.out.symm,?_⟩
  repeat (first | with_reducible exact Below.refl _ _ | with_reducible refine Below.setCell ?_ ?_ _ | with_reducible refine Below.alloc ?_ ?_ _ | with_reducible refine Below.drew ?_ | with_reducible refine below_drewN ?_ _ | (refine Below.trans ?_ (bmono (by assumption) ?_)))
  all_goals (first | omega | (simp <;> omega))
 ·rw [h] at hk
  have hkk := rgB_iff.1 h
  have hw2 : IntKind.i64.wrap (p - k) = p - k := IntWalk.i64_in _ (by omega)
  by_cases h1 : t ≤ x
  ·have HE := Lib.hid (okI_12 (lo := x) (hi := p) h (.inl h1))
   clear h hw2
   have d1 : decide (t ≤ x) = true := by simpa using h1
   go_enter Try.func13,Try.ntmps13
   go_wp2_with (first | (go_at_call 35; refine (hc _).mono ?_; rintro e w1 ⟨rfl,hb1⟩; obtain ⟨hc1,hf1⟩ := bcell hb1; have hz1 := hb1.size; (try simp at hz1); (try have y10 : w.heap.size < w1.heap.size := (by omega)); (try have y10p : w.heap.size < w1.heap.size + 1 := (by omega)); (try have y11 : w.heap.size + 1 < w1.heap.size := (by omega)); (try have y11p : w.heap.size + 1 < w1.heap.size + 1 := (by omega)); (try have y12 : w.heap.size + 1 + 1 < w1.heap.size := (by omega)); (try have y12p : w.heap.size + 1 + 1 < w1.heap.size + 1 := (by omega)); (try have y13 : w.heap.size + 1 + 1 + 1 < w1.heap.size := (by omega)); (try have y13p : w.heap.size + 1 + 1 + 1 < w1.heap.size + 1 := (by omega)); (try have y14 : w.heap.size + 1 + 1 + 1 + 1 < w1.heap.size := (by omega)); (try have y14p : w.heap.size + 1 + 1 + 1 + 1 < w1.heap.size + 1 := (by omega)); (try have v0x1 : w0.heap.size < w1.heap.size := (by omega)); (try have v0x1p : w0.heap.size < w1.heap.size + 1 := (by omega))) | (go_at_call 40; refine (rAxis_yes _ (by decide)).mono ?_; rintro e w' ⟨rfl,rfl⟩) | (go_at_call 25; refine (hk _).mono ?_; rintro e w' ⟨rfl,rfl⟩))
   refine wp_region_any (by kernel_rfl) ?_
   try (change wpAny _ _ _ _ _ _ _ (World.drew _))
   refine wpAny_vals (fr := fun o => #[.agg #[x,y,z,p,q,r],.agg #[.int .i64 0,t,k],.pointer (some ⟨w.heap.size,0,none⟩),.pointer (some ⟨(w.heap.size + 1),0,none⟩),.int .i64 0,.int .i64 0,.agg #[x,y,z,p,q,r],.int .i64 0,.int .i64 0,.bool false,undef,.pointer (some ⟨(w.heap.size + 1),0,none⟩),.int .i64 0,.bool true,.bool false,.pointer (some ⟨(w.heap.size + 1),2,none⟩),.int .i64 k,.bool true,.bool false,o 0,o 1,o 2,o 3,o 4,o 5,o 6,o 7,o 8,o 9,o 10,o 11,o 12,o 13,o 14,o 15,o 16,o 17,o 18,o 19,o 20]) (vals := fun i_ => ([.pointer (some ⟨(w.heap.size + 1),1,none⟩),.int .i64 t,.pointer (some ⟨w.heap.size,0,none⟩),.agg #[x,y,z],.pointer (some ⟨(w.heap.size + 1),0,none⟩),.int .i64 0,.int .i64 x,.bool true,.bool true,undef,undef,undef,undef,undef,undef,undef,undef,undef,undef,undef,.bool true] : List Value).getD i_ undef) (Kf := fun _ => True) (K := fun kk_ => ([(KL [((w.heap.size + 1),27,#[.int .i64 0,t,k]),(w.heap.size,25,#[x,y,z,p,q,r])] w)] : List (World → Prop)).getD kk_ (fun _ => True)) (dep := fun i_ => [[],[0],[],[2],[],[4],[3,5],[1,6],[7],[8],[8,9],[8],[8,11],[8],[8,13],[8,12,14],[8],[8,16],[8,15,17],[8,10,18],[8,19]].getD i_ []) (dv := fun i_ => [[],[0],[],[2],[],[4],[3,5],[1,6],[7],[8],[8,9],[8],[8,11],[8],[8,13],[8,12,14],[8],[8,16],[8,15,17],[8,10,18],[8,19]].getD i_ []) (kd := fun i_ => [0,1,0,1,0,1,1,0,0,0,0,0,0,0,0,0,0,0,0,0,0].getD i_ 0) (ss := []) (l := [0,1,2,3,4,5,6,7,8,9,10,11,12,13,14,15,16,17,18,19,20]) (f0 := fun _ => undef) (A := ?A1) 21 rfl rfl (by decide +kernel) (by decide +kernel) ?_ ?_ ⟨?_,?_,?_,?_,?_,?_,?_,?_,?_,?_,?_,?_,?_,?_,?_,?_,?_,?_,?_,?_,?_,trivial⟩ ?_ ?_
   rotate_left
   ·exact KL.drew (KL.over (KL.new (KL.new (KL.nil w) rfl _ _) (by simp) _ _) hb1)
   ·exact fun _ _ _ _ => trivial
   ·intro o W _
    show wpOp _ _ _ 0 _ ⟨#[_,_,_,_,_,_,_,_,_,_,_,_,_,_,_,_,_,_,_,o 0,o 1,o 2,o 3,o 4,o 5,o 6,o 7,o 8,o 9,o 10,o 11,o 12,o 13,o 14,o 15,o 16,o 17,o 18,o 19,o 20],[]⟩ W
    refine wpOp_step rfl fun _ hK => ?_
    go_simp
    exact hK _ _ ⟨rfl,rfl⟩
   ·intro o W hj
    have hj : KL _ _ W := hj
    obtain ⟨cL,c0,c1,c2⟩ := bl3 (KL.blk hj (.head _))
    show wpOp _ _ _ 1 _ ⟨#[_,_,_,_,_,_,_,_,_,_,_,_,_,_,_,_,_,_,_,.pointer (some ⟨(w.heap.size + 1),1,none⟩),o 1,o 2,o 3,o 4,o 5,o 6,o 7,o 8,o 9,o 10,o 11,o 12,o 13,o 14,o 15,o 16,o 17,o 18,o 19,o 20],[]⟩ W
    refine wpOp_step rfl fun _ hK => ?_
    go_simp
    exact hK _ _ ⟨rfl,hj⟩
   ·intro o W _
    show wpOp _ _ _ 2 _ ⟨#[_,_,_,_,_,_,_,_,_,_,_,_,_,_,_,_,_,_,_,o 0,o 1,o 2,o 3,o 4,o 5,o 6,o 7,o 8,o 9,o 10,o 11,o 12,o 13,o 14,o 15,o 16,o 17,o 18,o 19,o 20],[]⟩ W
    refine wpOp_step rfl fun _ hK => ?_
    go_simp
    exact hK _ _ ⟨rfl,rfl⟩
   ·intro o W hj
    have hj : KL _ _ W := hj
    obtain ⟨cL,c0,c1,c2,c3,c4,c5⟩ := bl6 (KL.blk hj (.tail _ (.head _)))
    show wpOp _ _ _ 3 _ ⟨#[_,_,_,_,_,_,_,_,_,_,_,_,_,_,_,_,_,_,_,o 0,o 1,.pointer (some ⟨w.heap.size,0,none⟩),o 3,o 4,o 5,o 6,o 7,o 8,o 9,o 10,o 11,o 12,o 13,o 14,o 15,o 16,o 17,o 18,o 19,o 20],[]⟩ W
    refine wpOp_step rfl fun _ hK => ?_
    go_simp
    exact hK _ _ ⟨rfl,hj⟩
   ·intro o W _
    show wpOp _ _ _ 4 _ ⟨#[_,_,_,_,_,_,_,_,_,_,_,_,_,_,_,_,_,_,_,o 0,o 1,o 2,o 3,o 4,o 5,o 6,o 7,o 8,o 9,o 10,o 11,o 12,o 13,o 14,o 15,o 16,o 17,o 18,o 19,o 20],[]⟩ W
    refine wpOp_step rfl fun _ hK => ?_
    go_simp
    exact hK _ _ ⟨rfl,rfl⟩
   ·intro o W hj
    have hj : KL _ _ W := hj
    obtain ⟨cL,c0,c1,c2⟩ := bl3 (KL.blk hj (.head _))
    show wpOp _ _ _ 5 _ ⟨#[_,_,_,_,_,_,_,_,_,_,_,_,_,_,_,_,_,_,_,o 0,o 1,o 2,o 3,.pointer (some ⟨(w.heap.size + 1),0,none⟩),o 5,o 6,o 7,o 8,o 9,o 10,o 11,o 12,o 13,o 14,o 15,o 16,o 17,o 18,o 19,o 20],[]⟩ W
    refine wpOp_step rfl fun _ hK => ?_
    go_simp
    exact hK _ _ ⟨rfl,hj⟩
   ·intro o W hj
    have hj : KL _ _ W := hj
    show wpOp _ _ _ 6 _ ⟨#[_,_,_,_,_,_,_,_,_,_,_,_,_,_,_,_,_,_,_,o 0,o 1,o 2,.agg #[x,y,z],o 4,.int .i64 0,o 6,o 7,o 8,o 9,o 10,o 11,o 12,o 13,o 14,o 15,o 16,o 17,o 18,o 19,o 20],[]⟩ W
    refine wpOp_step rfl fun _ hK => ?_
    go_simp
    refine (get0 _ _ _ _).mono ?_
    rintro e W1 ⟨rfl,hb1⟩
    exact hK _ _ ⟨rfl,hj.over hb1⟩
   ·intro o W _
    show wpOp _ _ _ 7 _ ⟨#[_,_,_,_,_,_,_,_,_,_,_,_,_,_,_,_,_,_,_,o 0,.int .i64 t,o 2,o 3,o 4,o 5,.int .i64 x,o 7,o 8,o 9,o 10,o 11,o 12,o 13,o 14,o 15,o 16,o 17,o 18,o 19,o 20],[]⟩ W
    refine wpOp_step rfl fun _ hK => ?_
    go_simp
    exact hK _ _ ⟨rfl,rfl⟩
   ·intro o W _
    show wpOp _ _ _ 8 _ ⟨#[_,_,_,_,_,_,_,_,_,_,_,_,_,_,_,_,_,_,_,o 0,o 1,o 2,o 3,o 4,o 5,o 6,.bool true,o 8,o 9,o 10,o 11,o 12,o 13,o 14,o 15,o 16,o 17,o 18,o 19,o 20],[]⟩ W
    refine wpOp_step rfl fun _ hK => ?_
    go_simp
    exact hK _ _ ⟨rfl,rfl⟩
   ·intro o W _
    show wpOp _ _ _ 9 _ ⟨#[_,_,_,_,_,_,_,_,_,_,_,_,_,_,_,_,_,_,_,o 0,o 1,o 2,o 3,o 4,o 5,o 6,o 7,.bool true,o 9,o 10,o 11,o 12,o 13,o 14,o 15,o 16,o 17,o 18,o 19,o 20],[]⟩ W
    refine wpOp_step rfl fun _ hK => ?_
    go_simp
    exact hK _ _ ⟨rfl,rfl⟩
   ·intro o W _
    show wpOp _ _ _ 10 _ ⟨#[_,_,_,_,_,_,_,_,_,_,_,_,_,_,_,_,_,_,_,o 0,o 1,o 2,o 3,o 4,o 5,o 6,o 7,.bool true,undef,o 10,o 11,o 12,o 13,o 14,o 15,o 16,o 17,o 18,o 19,o 20],[]⟩ W
    refine wpOp_step rfl fun _ hK => ?_
    go_simp
    exact hK _ _ ⟨rfl,rfl⟩
   ·intro o W _
    show wpOp _ _ _ 11 _ ⟨#[_,_,_,_,_,_,_,_,_,_,_,_,_,_,_,_,_,_,_,o 0,o 1,o 2,o 3,o 4,o 5,o 6,o 7,.bool true,o 9,o 10,o 11,o 12,o 13,o 14,o 15,o 16,o 17,o 18,o 19,o 20],[]⟩ W
    refine wpOp_step rfl fun _ hK => ?_
    go_simp
    exact hK _ _ ⟨rfl,rfl⟩
   ·intro o W _
    show wpOp _ _ _ 12 _ ⟨#[_,_,_,_,_,_,_,_,_,_,_,_,_,_,_,_,_,_,_,o 0,o 1,o 2,o 3,o 4,o 5,o 6,o 7,.bool true,o 9,o 10,undef,o 12,o 13,o 14,o 15,o 16,o 17,o 18,o 19,o 20],[]⟩ W
    refine wpOp_step rfl fun _ hK => ?_
    go_simp
    exact hK _ _ ⟨rfl,rfl⟩
   ·intro o W _
    show wpOp _ _ _ 13 _ ⟨#[_,_,_,_,_,_,_,_,_,_,_,_,_,_,_,_,_,_,_,o 0,o 1,o 2,o 3,o 4,o 5,o 6,o 7,.bool true,o 9,o 10,o 11,o 12,o 13,o 14,o 15,o 16,o 17,o 18,o 19,o 20],[]⟩ W
    refine wpOp_step rfl fun _ hK => ?_
    go_simp
    exact hK _ _ ⟨rfl,rfl⟩
   ·intro o W _
    show wpOp _ _ _ 14 _ ⟨#[_,_,_,_,_,_,_,_,_,_,_,_,_,_,_,_,_,_,_,o 0,o 1,o 2,o 3,o 4,o 5,o 6,o 7,.bool true,o 9,o 10,o 11,o 12,undef,o 14,o 15,o 16,o 17,o 18,o 19,o 20],[]⟩ W
    refine wpOp_step rfl fun _ hK => ?_
    go_simp
    exact hK _ _ ⟨rfl,rfl⟩
   ·intro o W _
    show wpOp _ _ _ 15 _ ⟨#[_,_,_,_,_,_,_,_,_,_,_,_,_,_,_,_,_,_,_,o 0,o 1,o 2,o 3,o 4,o 5,o 6,o 7,.bool true,o 9,o 10,o 11,undef,o 13,undef,o 15,o 16,o 17,o 18,o 19,o 20],[]⟩ W
    refine wpOp_step rfl fun _ hK => ?_
    go_simp
    exact hK _ _ ⟨rfl,rfl⟩
   ·intro o W _
    show wpOp _ _ _ 16 _ ⟨#[_,_,_,_,_,_,_,_,_,_,_,_,_,_,_,_,_,_,_,o 0,o 1,o 2,o 3,o 4,o 5,o 6,o 7,.bool true,o 9,o 10,o 11,o 12,o 13,o 14,o 15,o 16,o 17,o 18,o 19,o 20],[]⟩ W
    refine wpOp_step rfl fun _ hK => ?_
    go_simp
    exact hK _ _ ⟨rfl,rfl⟩
   ·intro o W _
    show wpOp _ _ _ 17 _ ⟨#[_,_,_,_,_,_,_,_,_,_,_,_,_,_,_,_,_,_,_,o 0,o 1,o 2,o 3,o 4,o 5,o 6,o 7,.bool true,o 9,o 10,o 11,o 12,o 13,o 14,o 15,undef,o 17,o 18,o 19,o 20],[]⟩ W
    refine wpOp_step rfl fun _ hK => ?_
    go_simp
    exact hK _ _ ⟨rfl,rfl⟩
   ·intro o W _
    show wpOp _ _ _ 18 _ ⟨#[_,_,_,_,_,_,_,_,_,_,_,_,_,_,_,_,_,_,_,o 0,o 1,o 2,o 3,o 4,o 5,o 6,o 7,.bool true,o 9,o 10,o 11,o 12,o 13,o 14,undef,o 16,undef,o 18,o 19,o 20],[]⟩ W
    refine wpOp_step rfl fun _ hK => ?_
    go_simp
    exact hK _ _ ⟨rfl,rfl⟩
   ·intro o W _
    show wpOp _ _ _ 19 _ ⟨#[_,_,_,_,_,_,_,_,_,_,_,_,_,_,_,_,_,_,_,o 0,o 1,o 2,o 3,o 4,o 5,o 6,o 7,.bool true,o 9,undef,o 11,o 12,o 13,o 14,o 15,o 16,o 17,undef,o 19,o 20],[]⟩ W
    refine wpOp_step rfl fun _ hK => ?_
    go_simp
    exact hK _ _ ⟨rfl,rfl⟩
   ·intro o W _
    show wpOp _ _ _ 20 _ ⟨#[_,_,_,_,_,_,_,_,_,_,_,_,_,_,_,_,_,_,_,o 0,o 1,o 2,o 3,o 4,o 5,o 6,o 7,.bool true,o 9,o 10,o 11,o 12,o 13,o 14,o 15,o 16,o 17,o 18,undef,o 20],[]⟩ W
    refine wpOp_step rfl fun _ hK => ?_
    go_simp
    exact hK _ _ ⟨rfl,rfl⟩
   ·intro o hh_
    have e0 : o 0 = .pointer (some ⟨(w.heap.size + 1),1,none⟩) := hh_ 0 (by decide)
    have e1 : o 1 = .int .i64 t := hh_ 1 (by decide)
    have e2 : o 2 = .pointer (some ⟨w.heap.size,0,none⟩) := hh_ 2 (by decide)
    have e3 : o 3 = .agg #[x,y,z] := hh_ 3 (by decide)
    have e4 : o 4 = .pointer (some ⟨(w.heap.size + 1),0,none⟩) := hh_ 4 (by decide)
    have e5 : o 5 = .int .i64 0 := hh_ 5 (by decide)
    have e6 : o 6 = .int .i64 x := hh_ 6 (by decide)
    have e7 : o 7 = .bool true := hh_ 7 (by decide)
    have e8 : o 8 = .bool true := hh_ 8 (by decide)
    have e9 : o 9 = undef := hh_ 9 (by decide)
    have e10 : o 10 = undef := hh_ 10 (by decide)
    have e11 : o 11 = undef := hh_ 11 (by decide)
    have e12 : o 12 = undef := hh_ 12 (by decide)
    have e13 : o 13 = undef := hh_ 13 (by decide)
    have e14 : o 14 = undef := hh_ 14 (by decide)
    have e15 : o 15 = undef := hh_ 15 (by decide)
    have e16 : o 16 = undef := hh_ 16 (by decide)
    have e17 : o 17 = undef := hh_ 17 (by decide)
    have e18 : o 18 = undef := hh_ 18 (by decide)
    have e19 : o 19 = undef := hh_ 19 (by decide)
    have e20 : o 20 = .bool true := hh_ 20 (by decide)
    rw [e0,e1,e2,e3,e4,e5,e6,e7,e8,e9,e10,e11,e12,e13,e14,e15,e16,e17,e18,e19,e20]
   ·intro W hj
    have hj : KL _ _ W := hj
    obtain ⟨cL0,c0_0,c0_1,c0_2⟩ := bl3 (KL.blk hj (.head _))
    obtain ⟨cL1,c1_0,c1_1,c1_2,c1_3,c1_4,c1_5⟩ := bl6 (KL.blk hj (.tail _ (.head _)))
    have hjb := hj.1
    have hjz := hjb.size
    go_wp2
    go_ret
    exact ⟨ret_int HE.out.symm,hjb⟩
  ·have d1 : decide (t ≤ x) = false := by simpa using h1
   by_cases h2 : p - k ≤ t
   ·have HE := Lib.hid (okI_12 (lo := x) (hi := p) h (.inr h2))
    clear h
    have d2 : decide (p - k ≤ t) = true := by simpa using h2
    go_enter Try.func13,Try.ntmps13
    go_wp2_with (first | (go_at_call 35; refine (hc _).mono ?_; rintro e w1 ⟨rfl,hb1⟩; obtain ⟨hc1,hf1⟩ := bcell hb1; have hz1 := hb1.size; (try simp at hz1); (try have y10 : w.heap.size < w1.heap.size := (by omega)); (try have y10p : w.heap.size < w1.heap.size + 1 := (by omega)); (try have y11 : w.heap.size + 1 < w1.heap.size := (by omega)); (try have y11p : w.heap.size + 1 < w1.heap.size + 1 := (by omega)); (try have y12 : w.heap.size + 1 + 1 < w1.heap.size := (by omega)); (try have y12p : w.heap.size + 1 + 1 < w1.heap.size + 1 := (by omega)); (try have y13 : w.heap.size + 1 + 1 + 1 < w1.heap.size := (by omega)); (try have y13p : w.heap.size + 1 + 1 + 1 < w1.heap.size + 1 := (by omega)); (try have y14 : w.heap.size + 1 + 1 + 1 + 1 < w1.heap.size := (by omega)); (try have y14p : w.heap.size + 1 + 1 + 1 + 1 < w1.heap.size + 1 := (by omega)); (try have v0x1 : w0.heap.size < w1.heap.size := (by omega)); (try have v0x1p : w0.heap.size < w1.heap.size + 1 := (by omega))) | (go_at_call 40; refine (rAxis_yes _ (by decide)).mono ?_; rintro e w' ⟨rfl,rfl⟩) | (go_at_call 25; refine (hk _).mono ?_; rintro e w' ⟨rfl,rfl⟩))
    refine wp_region_any (by kernel_rfl) ?_
    try (change wpAny _ _ _ _ _ _ _ (World.drew _))
    refine wpAny_vals (fr := fun o => #[.agg #[x,y,z,p,q,r],.agg #[.int .i64 0,t,k],.pointer (some ⟨w.heap.size,0,none⟩),.pointer (some ⟨(w.heap.size + 1),0,none⟩),.int .i64 0,.int .i64 0,.agg #[x,y,z,p,q,r],.int .i64 0,.int .i64 0,.bool false,undef,.pointer (some ⟨(w.heap.size + 1),0,none⟩),.int .i64 0,.bool true,.bool false,.pointer (some ⟨(w.heap.size + 1),2,none⟩),.int .i64 k,.bool true,.bool false,o 0,o 1,o 2,o 3,o 4,o 5,o 6,o 7,o 8,o 9,o 10,o 11,o 12,o 13,o 14,o 15,o 16,o 17,o 18,o 19,o 20]) (vals := fun i_ => ([.pointer (some ⟨(w.heap.size + 1),1,none⟩),.int .i64 t,.pointer (some ⟨w.heap.size,0,none⟩),.agg #[x,y,z],.pointer (some ⟨(w.heap.size + 1),0,none⟩),.int .i64 0,.int .i64 x,.bool false,.bool false,.pointer (some ⟨(w.heap.size + 1),1,none⟩),.int .i64 t,.pointer (some ⟨w.heap.size,3,none⟩),.agg #[p,q,r],.pointer (some ⟨(w.heap.size + 1),0,none⟩),.int .i64 0,.int .i64 p,.pointer (some ⟨(w.heap.size + 1),2,none⟩),.int .i64 k,.int .i64 (p - k),.bool true,.bool true] : List Value).getD i_ undef) (Kf := fun _ => True) (K := fun kk_ => ([(KL [((w.heap.size + 1),27,#[.int .i64 0,t,k]),(w.heap.size,25,#[x,y,z,p,q,r])] w)] : List (World → Prop)).getD kk_ (fun _ => True)) (dep := fun i_ => [[],[0],[],[2],[],[4],[3,5],[1,6],[7],[8],[8,9],[8],[8,11],[8],[8,13],[8,12,14],[8],[8,16],[8,15,17],[8,10,18],[8,19]].getD i_ []) (dv := fun i_ => [[],[0],[],[2],[],[4],[3,5],[1,6],[7],[8],[8,9],[8],[8,11],[8],[8,13],[8,12,14],[8],[8,16],[8,15,17],[8,10,18],[8,19]].getD i_ []) (kd := fun i_ => [0,1,0,1,0,1,1,0,0,0,1,0,1,0,1,1,0,1,0,0,0].getD i_ 0) (ss := []) (l := [0,1,2,3,4,5,6,7,8,9,10,11,12,13,14,15,16,17,18,19,20]) (f0 := fun _ => undef) (A := ?A2) 21 rfl rfl (by decide +kernel) (by decide +kernel) ?_ ?_ ⟨?_,?_,?_,?_,?_,?_,?_,?_,?_,?_,?_,?_,?_,?_,?_,?_,?_,?_,?_,?_,?_,trivial⟩ ?_ ?_
    rotate_left
    ·exact KL.drew (KL.over (KL.new (KL.new (KL.nil w) rfl _ _) (by simp) _ _) hb1)
    ·exact fun _ _ _ _ => trivial
    ·intro o W _
     show wpOp _ _ _ 0 _ ⟨#[_,_,_,_,_,_,_,_,_,_,_,_,_,_,_,_,_,_,_,o 0,o 1,o 2,o 3,o 4,o 5,o 6,o 7,o 8,o 9,o 10,o 11,o 12,o 13,o 14,o 15,o 16,o 17,o 18,o 19,o 20],[]⟩ W
     refine wpOp_step rfl fun _ hK => ?_
     go_simp
     exact hK _ _ ⟨rfl,rfl⟩
    ·intro o W hj
     have hj : KL _ _ W := hj
     obtain ⟨cL,c0,c1,c2⟩ := bl3 (KL.blk hj (.head _))
     show wpOp _ _ _ 1 _ ⟨#[_,_,_,_,_,_,_,_,_,_,_,_,_,_,_,_,_,_,_,.pointer (some ⟨(w.heap.size + 1),1,none⟩),o 1,o 2,o 3,o 4,o 5,o 6,o 7,o 8,o 9,o 10,o 11,o 12,o 13,o 14,o 15,o 16,o 17,o 18,o 19,o 20],[]⟩ W
     refine wpOp_step rfl fun _ hK => ?_
     go_simp
     exact hK _ _ ⟨rfl,hj⟩
    ·intro o W _
     show wpOp _ _ _ 2 _ ⟨#[_,_,_,_,_,_,_,_,_,_,_,_,_,_,_,_,_,_,_,o 0,o 1,o 2,o 3,o 4,o 5,o 6,o 7,o 8,o 9,o 10,o 11,o 12,o 13,o 14,o 15,o 16,o 17,o 18,o 19,o 20],[]⟩ W
     refine wpOp_step rfl fun _ hK => ?_
     go_simp
     exact hK _ _ ⟨rfl,rfl⟩
    ·intro o W hj
     have hj : KL _ _ W := hj
     obtain ⟨cL,c0,c1,c2,c3,c4,c5⟩ := bl6 (KL.blk hj (.tail _ (.head _)))
     show wpOp _ _ _ 3 _ ⟨#[_,_,_,_,_,_,_,_,_,_,_,_,_,_,_,_,_,_,_,o 0,o 1,.pointer (some ⟨w.heap.size,0,none⟩),o 3,o 4,o 5,o 6,o 7,o 8,o 9,o 10,o 11,o 12,o 13,o 14,o 15,o 16,o 17,o 18,o 19,o 20],[]⟩ W
     refine wpOp_step rfl fun _ hK => ?_
     go_simp
     exact hK _ _ ⟨rfl,hj⟩
    ·intro o W _
     show wpOp _ _ _ 4 _ ⟨#[_,_,_,_,_,_,_,_,_,_,_,_,_,_,_,_,_,_,_,o 0,o 1,o 2,o 3,o 4,o 5,o 6,o 7,o 8,o 9,o 10,o 11,o 12,o 13,o 14,o 15,o 16,o 17,o 18,o 19,o 20],[]⟩ W
     refine wpOp_step rfl fun _ hK => ?_
     go_simp
     exact hK _ _ ⟨rfl,rfl⟩
    ·intro o W hj
     have hj : KL _ _ W := hj
     obtain ⟨cL,c0,c1,c2⟩ := bl3 (KL.blk hj (.head _))
     show wpOp _ _ _ 5 _ ⟨#[_,_,_,_,_,_,_,_,_,_,_,_,_,_,_,_,_,_,_,o 0,o 1,o 2,o 3,.pointer (some ⟨(w.heap.size + 1),0,none⟩),o 5,o 6,o 7,o 8,o 9,o 10,o 11,o 12,o 13,o 14,o 15,o 16,o 17,o 18,o 19,o 20],[]⟩ W
     refine wpOp_step rfl fun _ hK => ?_
     go_simp
     exact hK _ _ ⟨rfl,hj⟩
    ·intro o W hj
     have hj : KL _ _ W := hj
     show wpOp _ _ _ 6 _ ⟨#[_,_,_,_,_,_,_,_,_,_,_,_,_,_,_,_,_,_,_,o 0,o 1,o 2,.agg #[x,y,z],o 4,.int .i64 0,o 6,o 7,o 8,o 9,o 10,o 11,o 12,o 13,o 14,o 15,o 16,o 17,o 18,o 19,o 20],[]⟩ W
     refine wpOp_step rfl fun _ hK => ?_
     go_simp
     refine (get0 _ _ _ _).mono ?_
     rintro e W1 ⟨rfl,hb1⟩
     exact hK _ _ ⟨rfl,hj.over hb1⟩
    ·intro o W _
     show wpOp _ _ _ 7 _ ⟨#[_,_,_,_,_,_,_,_,_,_,_,_,_,_,_,_,_,_,_,o 0,.int .i64 t,o 2,o 3,o 4,o 5,.int .i64 x,o 7,o 8,o 9,o 10,o 11,o 12,o 13,o 14,o 15,o 16,o 17,o 18,o 19,o 20],[]⟩ W
     refine wpOp_step rfl fun _ hK => ?_
     go_simp
     exact hK _ _ ⟨rfl,rfl⟩
    ·intro o W _
     show wpOp _ _ _ 8 _ ⟨#[_,_,_,_,_,_,_,_,_,_,_,_,_,_,_,_,_,_,_,o 0,o 1,o 2,o 3,o 4,o 5,o 6,.bool false,o 8,o 9,o 10,o 11,o 12,o 13,o 14,o 15,o 16,o 17,o 18,o 19,o 20],[]⟩ W
     refine wpOp_step rfl fun _ hK => ?_
     go_simp
     exact hK _ _ ⟨rfl,rfl⟩
    ·intro o W _
     show wpOp _ _ _ 9 _ ⟨#[_,_,_,_,_,_,_,_,_,_,_,_,_,_,_,_,_,_,_,o 0,o 1,o 2,o 3,o 4,o 5,o 6,o 7,.bool false,o 9,o 10,o 11,o 12,o 13,o 14,o 15,o 16,o 17,o 18,o 19,o 20],[]⟩ W
     refine wpOp_step rfl fun _ hK => ?_
     go_simp
     exact hK _ _ ⟨rfl,rfl⟩
    ·intro o W hj
     have hj : KL _ _ W := hj
     obtain ⟨cL,c0,c1,c2⟩ := bl3 (KL.blk hj (.head _))
     show wpOp _ _ _ 10 _ ⟨#[_,_,_,_,_,_,_,_,_,_,_,_,_,_,_,_,_,_,_,o 0,o 1,o 2,o 3,o 4,o 5,o 6,o 7,.bool false,.pointer (some ⟨(w.heap.size + 1),1,none⟩),o 10,o 11,o 12,o 13,o 14,o 15,o 16,o 17,o 18,o 19,o 20],[]⟩ W
     refine wpOp_step rfl fun _ hK => ?_
     go_simp
     exact hK _ _ ⟨rfl,hj⟩
    ·intro o W _
     show wpOp _ _ _ 11 _ ⟨#[_,_,_,_,_,_,_,_,_,_,_,_,_,_,_,_,_,_,_,o 0,o 1,o 2,o 3,o 4,o 5,o 6,o 7,.bool false,o 9,o 10,o 11,o 12,o 13,o 14,o 15,o 16,o 17,o 18,o 19,o 20],[]⟩ W
     refine wpOp_step rfl fun _ hK => ?_
     go_simp
     exact hK _ _ ⟨rfl,rfl⟩
    ·intro o W hj
     have hj : KL _ _ W := hj
     obtain ⟨cL,c0,c1,c2,c3,c4,c5⟩ := bl6 (KL.blk hj (.tail _ (.head _)))
     show wpOp _ _ _ 12 _ ⟨#[_,_,_,_,_,_,_,_,_,_,_,_,_,_,_,_,_,_,_,o 0,o 1,o 2,o 3,o 4,o 5,o 6,o 7,.bool false,o 9,o 10,.pointer (some ⟨w.heap.size,3,none⟩),o 12,o 13,o 14,o 15,o 16,o 17,o 18,o 19,o 20],[]⟩ W
     refine wpOp_step rfl fun _ hK => ?_
     go_simp
     exact hK _ _ ⟨rfl,hj⟩
    ·intro o W _
     show wpOp _ _ _ 13 _ ⟨#[_,_,_,_,_,_,_,_,_,_,_,_,_,_,_,_,_,_,_,o 0,o 1,o 2,o 3,o 4,o 5,o 6,o 7,.bool false,o 9,o 10,o 11,o 12,o 13,o 14,o 15,o 16,o 17,o 18,o 19,o 20],[]⟩ W
     refine wpOp_step rfl fun _ hK => ?_
     go_simp
     exact hK _ _ ⟨rfl,rfl⟩
    ·intro o W hj
     have hj : KL _ _ W := hj
     obtain ⟨cL,c0,c1,c2⟩ := bl3 (KL.blk hj (.head _))
     show wpOp _ _ _ 14 _ ⟨#[_,_,_,_,_,_,_,_,_,_,_,_,_,_,_,_,_,_,_,o 0,o 1,o 2,o 3,o 4,o 5,o 6,o 7,.bool false,o 9,o 10,o 11,o 12,.pointer (some ⟨(w.heap.size + 1),0,none⟩),o 14,o 15,o 16,o 17,o 18,o 19,o 20],[]⟩ W
     refine wpOp_step rfl fun _ hK => ?_
     go_simp
     exact hK _ _ ⟨rfl,hj⟩
    ·intro o W hj
     have hj : KL _ _ W := hj
     show wpOp _ _ _ 15 _ ⟨#[_,_,_,_,_,_,_,_,_,_,_,_,_,_,_,_,_,_,_,o 0,o 1,o 2,o 3,o 4,o 5,o 6,o 7,.bool false,o 9,o 10,o 11,.agg #[p,q,r],o 13,.int .i64 0,o 15,o 16,o 17,o 18,o 19,o 20],[]⟩ W
     refine wpOp_step rfl fun _ hK => ?_
     go_simp
     refine (get0 _ _ _ _).mono ?_
     rintro e W1 ⟨rfl,hb1⟩
     exact hK _ _ ⟨rfl,hj.over hb1⟩
    ·intro o W _
     show wpOp _ _ _ 16 _ ⟨#[_,_,_,_,_,_,_,_,_,_,_,_,_,_,_,_,_,_,_,o 0,o 1,o 2,o 3,o 4,o 5,o 6,o 7,.bool false,o 9,o 10,o 11,o 12,o 13,o 14,o 15,o 16,o 17,o 18,o 19,o 20],[]⟩ W
     refine wpOp_step rfl fun _ hK => ?_
     go_simp
     exact hK _ _ ⟨rfl,rfl⟩
    ·intro o W hj
     have hj : KL _ _ W := hj
     obtain ⟨cL,c0,c1,c2⟩ := bl3 (KL.blk hj (.head _))
     show wpOp _ _ _ 17 _ ⟨#[_,_,_,_,_,_,_,_,_,_,_,_,_,_,_,_,_,_,_,o 0,o 1,o 2,o 3,o 4,o 5,o 6,o 7,.bool false,o 9,o 10,o 11,o 12,o 13,o 14,o 15,.pointer (some ⟨(w.heap.size + 1),2,none⟩),o 17,o 18,o 19,o 20],[]⟩ W
     refine wpOp_step rfl fun _ hK => ?_
     go_simp
     exact hK _ _ ⟨rfl,hj⟩
    ·intro o W _
     show wpOp _ _ _ 18 _ ⟨#[_,_,_,_,_,_,_,_,_,_,_,_,_,_,_,_,_,_,_,o 0,o 1,o 2,o 3,o 4,o 5,o 6,o 7,.bool false,o 9,o 10,o 11,o 12,o 13,o 14,.int .i64 p,o 16,.int .i64 k,o 18,o 19,o 20],[]⟩ W
     refine wpOp_step rfl fun _ hK => ?_
     go_simp
     exact hK _ _ ⟨rfl,rfl⟩
    ·intro o W _
     show wpOp _ _ _ 19 _ ⟨#[_,_,_,_,_,_,_,_,_,_,_,_,_,_,_,_,_,_,_,o 0,o 1,o 2,o 3,o 4,o 5,o 6,o 7,.bool false,o 9,.int .i64 t,o 11,o 12,o 13,o 14,o 15,o 16,o 17,.int .i64 (p - k),o 19,o 20],[]⟩ W
     refine wpOp_step rfl fun _ hK => ?_
     go_simp
     exact hK _ _ ⟨rfl,rfl⟩
    ·intro o W _
     show wpOp _ _ _ 20 _ ⟨#[_,_,_,_,_,_,_,_,_,_,_,_,_,_,_,_,_,_,_,o 0,o 1,o 2,o 3,o 4,o 5,o 6,o 7,.bool false,o 9,o 10,o 11,o 12,o 13,o 14,o 15,o 16,o 17,o 18,.bool true,o 20],[]⟩ W
     refine wpOp_step rfl fun _ hK => ?_
     go_simp
     exact hK _ _ ⟨rfl,rfl⟩
    ·intro o hh_
     have e0 : o 0 = .pointer (some ⟨(w.heap.size + 1),1,none⟩) := hh_ 0 (by decide)
     have e1 : o 1 = .int .i64 t := hh_ 1 (by decide)
     have e2 : o 2 = .pointer (some ⟨w.heap.size,0,none⟩) := hh_ 2 (by decide)
     have e3 : o 3 = .agg #[x,y,z] := hh_ 3 (by decide)
     have e4 : o 4 = .pointer (some ⟨(w.heap.size + 1),0,none⟩) := hh_ 4 (by decide)
     have e5 : o 5 = .int .i64 0 := hh_ 5 (by decide)
     have e6 : o 6 = .int .i64 x := hh_ 6 (by decide)
     have e7 : o 7 = .bool false := hh_ 7 (by decide)
     have e8 : o 8 = .bool false := hh_ 8 (by decide)
     have e9 : o 9 = .pointer (some ⟨(w.heap.size + 1),1,none⟩) := hh_ 9 (by decide)
     have e10 : o 10 = .int .i64 t := hh_ 10 (by decide)
     have e11 : o 11 = .pointer (some ⟨w.heap.size,3,none⟩) := hh_ 11 (by decide)
     have e12 : o 12 = .agg #[p,q,r] := hh_ 12 (by decide)
     have e13 : o 13 = .pointer (some ⟨(w.heap.size + 1),0,none⟩) := hh_ 13 (by decide)
     have e14 : o 14 = .int .i64 0 := hh_ 14 (by decide)
     have e15 : o 15 = .int .i64 p := hh_ 15 (by decide)
     have e16 : o 16 = .pointer (some ⟨(w.heap.size + 1),2,none⟩) := hh_ 16 (by decide)
     have e17 : o 17 = .int .i64 k := hh_ 17 (by decide)
     have e18 : o 18 = .int .i64 (p - k) := hh_ 18 (by decide)
     have e19 : o 19 = .bool true := hh_ 19 (by decide)
     have e20 : o 20 = .bool true := hh_ 20 (by decide)
     rw [e0,e1,e2,e3,e4,e5,e6,e7,e8,e9,e10,e11,e12,e13,e14,e15,e16,e17,e18,e19,e20]
    ·intro W hj
     have hj : KL _ _ W := hj
     obtain ⟨cL0,c0_0,c0_1,c0_2⟩ := bl3 (KL.blk hj (.head _))
     obtain ⟨cL1,c1_0,c1_1,c1_2,c1_3,c1_4,c1_5⟩ := bl6 (KL.blk hj (.tail _ (.head _)))
     have hjb := hj.1
     have hjz := hjb.size
     go_wp2
     go_ret
     exact ⟨ret_int HE.out.symm,hjb⟩
   ·have HE := Lib.hid (okI_0 (lo := x) (hi := p) h h1 h2)
    clear h
    have d2 : decide (p - k ≤ t) = false := by simpa using h2
    go_enter Try.func13,Try.ntmps13
    go_wp2_with (first | (go_at_call 35; refine (hc _).mono ?_; rintro e w1 ⟨rfl,hb1⟩; obtain ⟨hc1,hf1⟩ := bcell hb1; have hz1 := hb1.size; (try simp at hz1); (try have y10 : w.heap.size < w1.heap.size := (by omega)); (try have y10p : w.heap.size < w1.heap.size + 1 := (by omega)); (try have y11 : w.heap.size + 1 < w1.heap.size := (by omega)); (try have y11p : w.heap.size + 1 < w1.heap.size + 1 := (by omega)); (try have y12 : w.heap.size + 1 + 1 < w1.heap.size := (by omega)); (try have y12p : w.heap.size + 1 + 1 < w1.heap.size + 1 := (by omega)); (try have y13 : w.heap.size + 1 + 1 + 1 < w1.heap.size := (by omega)); (try have y13p : w.heap.size + 1 + 1 + 1 < w1.heap.size + 1 := (by omega)); (try have y14 : w.heap.size + 1 + 1 + 1 + 1 < w1.heap.size := (by omega)); (try have y14p : w.heap.size + 1 + 1 + 1 + 1 < w1.heap.size + 1 := (by omega)); (try have v0x1 : w0.heap.size < w1.heap.size := (by omega)); (try have v0x1p : w0.heap.size < w1.heap.size + 1 := (by omega))) | (go_at_call 40; refine (rAxis_yes _ (by decide)).mono ?_; rintro e w' ⟨rfl,rfl⟩) | (go_at_call 25; refine (hk _).mono ?_; rintro e w' ⟨rfl,rfl⟩))
    refine wp_region_any (by kernel_rfl) ?_
    try (change wpAny _ _ _ _ _ _ _ (World.drew _))
    refine wpAny_vals (fr := fun o => #[.agg #[x,y,z,p,q,r],.agg #[.int .i64 0,t,k],.pointer (some ⟨w.heap.size,0,none⟩),.pointer (some ⟨(w.heap.size + 1),0,none⟩),.int .i64 0,.int .i64 0,.agg #[x,y,z,p,q,r],.int .i64 0,.int .i64 0,.bool false,undef,.pointer (some ⟨(w.heap.size + 1),0,none⟩),.int .i64 0,.bool true,.bool false,.pointer (some ⟨(w.heap.size + 1),2,none⟩),.int .i64 k,.bool true,.bool false,o 0,o 1,o 2,o 3,o 4,o 5,o 6,o 7,o 8,o 9,o 10,o 11,o 12,o 13,o 14,o 15,o 16,o 17,o 18,o 19,o 20]) (vals := fun i_ => ([.pointer (some ⟨(w.heap.size + 1),1,none⟩),.int .i64 t,.pointer (some ⟨w.heap.size,0,none⟩),.agg #[x,y,z],.pointer (some ⟨(w.heap.size + 1),0,none⟩),.int .i64 0,.int .i64 x,.bool false,.bool false,.pointer (some ⟨(w.heap.size + 1),1,none⟩),.int .i64 t,.pointer (some ⟨w.heap.size,3,none⟩),.agg #[p,q,r],.pointer (some ⟨(w.heap.size + 1),0,none⟩),.int .i64 0,.int .i64 p,.pointer (some ⟨(w.heap.size + 1),2,none⟩),.int .i64 k,.int .i64 (p - k),.bool false,.bool false] : List Value).getD i_ undef) (Kf := fun _ => True) (K := fun kk_ => ([(KL [((w.heap.size + 1),27,#[.int .i64 0,t,k]),(w.heap.size,25,#[x,y,z,p,q,r])] w)] : List (World → Prop)).getD kk_ (fun _ => True)) (dep := fun i_ => [[],[0],[],[2],[],[4],[3,5],[1,6],[7],[8],[8,9],[8],[8,11],[8],[8,13],[8,12,14],[8],[8,16],[8,15,17],[8,10,18],[8,19]].getD i_ []) (dv := fun i_ => [[],[0],[],[2],[],[4],[3,5],[1,6],[7],[8],[8,9],[8],[8,11],[8],[8,13],[8,12,14],[8],[8,16],[8,15,17],[8,10,18],[8,19]].getD i_ []) (kd := fun i_ => [0,1,0,1,0,1,1,0,0,0,1,0,1,0,1,1,0,1,0,0,0].getD i_ 0) (ss := []) (l := [0,1,2,3,4,5,6,7,8,9,10,11,12,13,14,15,16,17,18,19,20]) (f0 := fun _ => undef) (A := ?A3) 21 rfl rfl (by decide +kernel) (by decide +kernel) ?_ ?_ ⟨?_,?_,?_,?_,?_,?_,?_,?_,?_,?_,?_,?_,?_,?_,?_,?_,?_,?_,?_,?_,?_,trivial⟩ ?_ ?_
    rotate_left
    ·exact KL.drew (KL.over (KL.new (KL.new (KL.nil w) rfl _ _) (by simp) _ _) hb1)
    ·exact fun _ _ _ _ => trivial
    ·intro o W _
     show wpOp _ _ _ 0 _ ⟨#[_,_,_,_,_,_,_,_,_,_,_,_,_,_,_,_,_,_,_,o 0,o 1,o 2,o 3,o 4,o 5,o 6,o 7,o 8,o 9,o 10,o 11,o 12,o 13,o 14,o 15,o 16,o 17,o 18,o 19,o 20],[]⟩ W
     refine wpOp_step rfl fun _ hK => ?_
     go_simp
     exact hK _ _ ⟨rfl,rfl⟩
    ·intro o W hj
     have hj : KL _ _ W := hj
     obtain ⟨cL,c0,c1,c2⟩ := bl3 (KL.blk hj (.head _))
     show wpOp _ _ _ 1 _ ⟨#[_,_,_,_,_,_,_,_,_,_,_,_,_,_,_,_,_,_,_,.pointer (some ⟨(w.heap.size + 1),1,none⟩),o 1,o 2,o 3,o 4,o 5,o 6,o 7,o 8,o 9,o 10,o 11,o 12,o 13,o 14,o 15,o 16,o 17,o 18,o 19,o 20],[]⟩ W
     refine wpOp_step rfl fun _ hK => ?_
     go_simp
     exact hK _ _ ⟨rfl,hj⟩
    ·intro o W _
     show wpOp _ _ _ 2 _ ⟨#[_,_,_,_,_,_,_,_,_,_,_,_,_,_,_,_,_,_,_,o 0,o 1,o 2,o 3,o 4,o 5,o 6,o 7,o 8,o 9,o 10,o 11,o 12,o 13,o 14,o 15,o 16,o 17,o 18,o 19,o 20],[]⟩ W
     refine wpOp_step rfl fun _ hK => ?_
     go_simp
     exact hK _ _ ⟨rfl,rfl⟩
    ·intro o W hj
     have hj : KL _ _ W := hj
     obtain ⟨cL,c0,c1,c2,c3,c4,c5⟩ := bl6 (KL.blk hj (.tail _ (.head _)))
     show wpOp _ _ _ 3 _ ⟨#[_,_,_,_,_,_,_,_,_,_,_,_,_,_,_,_,_,_,_,o 0,o 1,.pointer (some ⟨w.heap.size,0,none⟩),o 3,o 4,o 5,o 6,o 7,o 8,o 9,o 10,o 11,o 12,o 13,o 14,o 15,o 16,o 17,o 18,o 19,o 20],[]⟩ W
     refine wpOp_step rfl fun _ hK => ?_
     go_simp
     exact hK _ _ ⟨rfl,hj⟩
    ·intro o W _
     show wpOp _ _ _ 4 _ ⟨#[_,_,_,_,_,_,_,_,_,_,_,_,_,_,_,_,_,_,_,o 0,o 1,o 2,o 3,o 4,o 5,o 6,o 7,o 8,o 9,o 10,o 11,o 12,o 13,o 14,o 15,o 16,o 17,o 18,o 19,o 20],[]⟩ W
     refine wpOp_step rfl fun _ hK => ?_
     go_simp
     exact hK _ _ ⟨rfl,rfl⟩
    ·intro o W hj
     have hj : KL _ _ W := hj
     obtain ⟨cL,c0,c1,c2⟩ := bl3 (KL.blk hj (.head _))
     show wpOp _ _ _ 5 _ ⟨#[_,_,_,_,_,_,_,_,_,_,_,_,_,_,_,_,_,_,_,o 0,o 1,o 2,o 3,.pointer (some ⟨(w.heap.size + 1),0,none⟩),o 5,o 6,o 7,o 8,o 9,o 10,o 11,o 12,o 13,o 14,o 15,o 16,o 17,o 18,o 19,o 20],[]⟩ W
     refine wpOp_step rfl fun _ hK => ?_
     go_simp
     exact hK _ _ ⟨rfl,hj⟩
    ·intro o W hj
     have hj : KL _ _ W := hj
     show wpOp _ _ _ 6 _ ⟨#[_,_,_,_,_,_,_,_,_,_,_,_,_,_,_,_,_,_,_,o 0,o 1,o 2,.agg #[x,y,z],o 4,.int .i64 0,o 6,o 7,o 8,o 9,o 10,o 11,o 12,o 13,o 14,o 15,o 16,o 17,o 18,o 19,o 20],[]⟩ W
     refine wpOp_step rfl fun _ hK => ?_
     go_simp
     refine (get0 _ _ _ _).mono ?_
     rintro e W1 ⟨rfl,hb1⟩
     exact hK _ _ ⟨rfl,hj.over hb1⟩
    ·intro o W _
     show wpOp _ _ _ 7 _ ⟨#[_,_,_,_,_,_,_,_,_,_,_,_,_,_,_,_,_,_,_,o 0,.int .i64 t,o 2,o 3,o 4,o 5,.int .i64 x,o 7,o 8,o 9,o 10,o 11,o 12,o 13,o 14,o 15,o 16,o 17,o 18,o 19,o 20],[]⟩ W
     refine wpOp_step rfl fun _ hK => ?_
     go_simp
     exact hK _ _ ⟨rfl,rfl⟩
    ·intro o W _
     show wpOp _ _ _ 8 _ ⟨#[_,_,_,_,_,_,_,_,_,_,_,_,_,_,_,_,_,_,_,o 0,o 1,o 2,o 3,o 4,o 5,o 6,.bool false,o 8,o 9,o 10,o 11,o 12,o 13,o 14,o 15,o 16,o 17,o 18,o 19,o 20],[]⟩ W
     refine wpOp_step rfl fun _ hK => ?_
     go_simp
     exact hK _ _ ⟨rfl,rfl⟩
    ·intro o W _
     show wpOp _ _ _ 9 _ ⟨#[_,_,_,_,_,_,_,_,_,_,_,_,_,_,_,_,_,_,_,o 0,o 1,o 2,o 3,o 4,o 5,o 6,o 7,.bool false,o 9,o 10,o 11,o 12,o 13,o 14,o 15,o 16,o 17,o 18,o 19,o 20],[]⟩ W
     refine wpOp_step rfl fun _ hK => ?_
     go_simp
     exact hK _ _ ⟨rfl,rfl⟩
    ·intro o W hj
     have hj : KL _ _ W := hj
     obtain ⟨cL,c0,c1,c2⟩ := bl3 (KL.blk hj (.head _))
     show wpOp _ _ _ 10 _ ⟨#[_,_,_,_,_,_,_,_,_,_,_,_,_,_,_,_,_,_,_,o 0,o 1,o 2,o 3,o 4,o 5,o 6,o 7,.bool false,.pointer (some ⟨(w.heap.size + 1),1,none⟩),o 10,o 11,o 12,o 13,o 14,o 15,o 16,o 17,o 18,o 19,o 20],[]⟩ W
     refine wpOp_step rfl fun _ hK => ?_
     go_simp
     exact hK _ _ ⟨rfl,hj⟩
    ·intro o W _
     show wpOp _ _ _ 11 _ ⟨#[_,_,_,_,_,_,_,_,_,_,_,_,_,_,_,_,_,_,_,o 0,o 1,o 2,o 3,o 4,o 5,o 6,o 7,.bool false,o 9,o 10,o 11,o 12,o 13,o 14,o 15,o 16,o 17,o 18,o 19,o 20],[]⟩ W
     refine wpOp_step rfl fun _ hK => ?_
     go_simp
     exact hK _ _ ⟨rfl,rfl⟩
    ·intro o W hj
     have hj : KL _ _ W := hj
     obtain ⟨cL,c0,c1,c2,c3,c4,c5⟩ := bl6 (KL.blk hj (.tail _ (.head _)))
     show wpOp _ _ _ 12 _ ⟨#[_,_,_,_,_,_,_,_,_,_,_,_,_,_,_,_,_,_,_,o 0,o 1,o 2,o 3,o 4,o 5,o 6,o 7,.bool false,o 9,o 10,.pointer (some ⟨w.heap.size,3,none⟩),o 12,o 13,o 14,o 15,o 16,o 17,o 18,o 19,o 20],[]⟩ W
     refine wpOp_step rfl fun _ hK => ?_
     go_simp
     exact hK _ _ ⟨rfl,hj⟩
    ·intro o W _
     show wpOp _ _ _ 13 _ ⟨#[_,_,_,_,_,_,_,_,_,_,_,_,_,_,_,_,_,_,_,o 0,o 1,o 2,o 3,o 4,o 5,o 6,o 7,.bool false,o 9,o 10,o 11,o 12,o 13,o 14,o 15,o 16,o 17,o 18,o 19,o 20],[]⟩ W
     refine wpOp_step rfl fun _ hK => ?_
     go_simp
     exact hK _ _ ⟨rfl,rfl⟩
    ·intro o W hj
     have hj : KL _ _ W := hj
     obtain ⟨cL,c0,c1,c2⟩ := bl3 (KL.blk hj (.head _))
     show wpOp _ _ _ 14 _ ⟨#[_,_,_,_,_,_,_,_,_,_,_,_,_,_,_,_,_,_,_,o 0,o 1,o 2,o 3,o 4,o 5,o 6,o 7,.bool false,o 9,o 10,o 11,o 12,.pointer (some ⟨(w.heap.size + 1),0,none⟩),o 14,o 15,o 16,o 17,o 18,o 19,o 20],[]⟩ W
     refine wpOp_step rfl fun _ hK => ?_
     go_simp
     exact hK _ _ ⟨rfl,hj⟩
    ·intro o W hj
     have hj : KL _ _ W := hj
     show wpOp _ _ _ 15 _ ⟨#[_,_,_,_,_,_,_,_,_,_,_,_,_,_,_,_,_,_,_,o 0,o 1,o 2,o 3,o 4,o 5,o 6,o 7,.bool false,o 9,o 10,o 11,.agg #[p,q,r],o 13,.int .i64 0,o 15,o 16,o 17,o 18,o 19,o 20],[]⟩ W
     refine wpOp_step rfl fun _ hK => ?_
     go_simp
     refine (get0 _ _ _ _).mono ?_
     rintro e W1 ⟨rfl,hb1⟩
     exact hK _ _ ⟨rfl,hj.over hb1⟩
    ·intro o W _
     show wpOp _ _ _ 16 _ ⟨#[_,_,_,_,_,_,_,_,_,_,_,_,_,_,_,_,_,_,_,o 0,o 1,o 2,o 3,o 4,o 5,o 6,o 7,.bool false,o 9,o 10,o 11,o 12,o 13,o 14,o 15,o 16,o 17,o 18,o 19,o 20],[]⟩ W
     refine wpOp_step rfl fun _ hK => ?_
     go_simp
     exact hK _ _ ⟨rfl,rfl⟩
    ·intro o W hj
     have hj : KL _ _ W := hj
     obtain ⟨cL,c0,c1,c2⟩ := bl3 (KL.blk hj (.head _))
     show wpOp _ _ _ 17 _ ⟨#[_,_,_,_,_,_,_,_,_,_,_,_,_,_,_,_,_,_,_,o 0,o 1,o 2,o 3,o 4,o 5,o 6,o 7,.bool false,o 9,o 10,o 11,o 12,o 13,o 14,o 15,.pointer (some ⟨(w.heap.size + 1),2,none⟩),o 17,o 18,o 19,o 20],[]⟩ W
     refine wpOp_step rfl fun _ hK => ?_
     go_simp
     exact hK _ _ ⟨rfl,hj⟩
    ·intro o W _
     show wpOp _ _ _ 18 _ ⟨#[_,_,_,_,_,_,_,_,_,_,_,_,_,_,_,_,_,_,_,o 0,o 1,o 2,o 3,o 4,o 5,o 6,o 7,.bool false,o 9,o 10,o 11,o 12,o 13,o 14,.int .i64 p,o 16,.int .i64 k,o 18,o 19,o 20],[]⟩ W
     refine wpOp_step rfl fun _ hK => ?_
     go_simp
     exact hK _ _ ⟨rfl,rfl⟩
    ·intro o W _
     show wpOp _ _ _ 19 _ ⟨#[_,_,_,_,_,_,_,_,_,_,_,_,_,_,_,_,_,_,_,o 0,o 1,o 2,o 3,o 4,o 5,o 6,o 7,.bool false,o 9,.int .i64 t,o 11,o 12,o 13,o 14,o 15,o 16,o 17,.int .i64 (p - k),o 19,o 20],[]⟩ W
     refine wpOp_step rfl fun _ hK => ?_
     go_simp
     exact hK _ _ ⟨rfl,rfl⟩
    ·intro o W _
     show wpOp _ _ _ 20 _ ⟨#[_,_,_,_,_,_,_,_,_,_,_,_,_,_,_,_,_,_,_,o 0,o 1,o 2,o 3,o 4,o 5,o 6,o 7,.bool false,o 9,o 10,o 11,o 12,o 13,o 14,o 15,o 16,o 17,o 18,.bool false,o 20],[]⟩ W
     refine wpOp_step rfl fun _ hK => ?_
     go_simp
     exact hK _ _ ⟨rfl,rfl⟩
    ·intro o hh_
     have e0 : o 0 = .pointer (some ⟨(w.heap.size + 1),1,none⟩) := hh_ 0 (by decide)
     have e1 : o 1 = .int .i64 t := hh_ 1 (by decide)
     have e2 : o 2 = .pointer (some ⟨w.heap.size,0,none⟩) := hh_ 2 (by decide)
     have e3 : o 3 = .agg #[x,y,z] := hh_ 3 (by decide)
     have e4 : o 4 = .pointer (some ⟨(w.heap.size + 1),0,none⟩) := hh_ 4 (by decide)
     have e5 : o 5 = .int .i64 0 := hh_ 5 (by decide)
     have e6 : o 6 = .int .i64 x := hh_ 6 (by decide)
     have e7 : o 7 = .bool false := hh_ 7 (by decide)
     have e8 : o 8 = .bool false := hh_ 8 (by decide)
     have e9 : o 9 = .pointer (some ⟨(w.heap.size + 1),1,none⟩) := hh_ 9 (by decide)
     have e10 : o 10 = .int .i64 t := hh_ 10 (by decide)
     have e11 : o 11 = .pointer (some ⟨w.heap.size,3,none⟩) := hh_ 11 (by decide)
     have e12 : o 12 = .agg #[p,q,r] := hh_ 12 (by decide)
     have e13 : o 13 = .pointer (some ⟨(w.heap.size + 1),0,none⟩) := hh_ 13 (by decide)
     have e14 : o 14 = .int .i64 0 := hh_ 14 (by decide)
     have e15 : o 15 = .int .i64 p := hh_ 15 (by decide)
     have e16 : o 16 = .pointer (some ⟨(w.heap.size + 1),2,none⟩) := hh_ 16 (by decide)
     have e17 : o 17 = .int .i64 k := hh_ 17 (by decide)
     have e18 : o 18 = .int .i64 (p - k) := hh_ 18 (by decide)
     have e19 : o 19 = .bool false := hh_ 19 (by decide)
     have e20 : o 20 = .bool false := hh_ 20 (by decide)
     rw [e0,e1,e2,e3,e4,e5,e6,e7,e8,e9,e10,e11,e12,e13,e14,e15,e16,e17,e18,e19,e20]
    ·intro W hj
     have hj : KL _ _ W := hj
     obtain ⟨cL0,c0_0,c0_1,c0_2⟩ := bl3 (KL.blk hj (.head _))
     obtain ⟨cL1,c1_0,c1_1,c1_2,c1_3,c1_4,c1_5⟩ := bl6 (KL.blk hj (.tail _ (.head _)))
     have hjb := hj.1
     have hjz := hjb.size
     go_wp2
     go_ret
     exact ⟨ret_int HE.out.symm,hjb⟩
set_option maxHeartbeats 8000000 in
set_option maxRecDepth 100000 in
theorem rCheck_ok1 (x y z p q r t k : Int) (hv : eB x y z p q r = 0) (w : World) :
  Calls Try.prog 13 #[.agg #[x,y,z,p,q,r],.agg #[.int .i64 1,t,k]] w fun e w' => e = .returned (.int .i64 (okI y q t k)) ∧ Below w.heap.size w w' := by
 have hc := rbcheck_any x y z p q r
 rw [hv] at hc
 obtain ⟨⟨a1,a2,a3⟩,⟨a4,a5,a6⟩,⟨a7,a8,a9⟩⟩ := eB_bd hv
 clear hv
 have hk := rKerf_any k
 cases h : rgB 0 1000 k
 ·have HE := Lib.hid (okI_6 (lo := y) (hi := q) (t := t) h)
  rw [h] at hk
  clear h
  go_enter Try.func13,Try.ntmps13
  go_wp2_with (first | (go_at_call 35; refine (hc _).mono ?_; rintro e w1 ⟨rfl,hb1⟩; obtain ⟨hc1,hf1⟩ := bcell hb1; have hz1 := hb1.size; (try simp at hz1); (try have y10 : w.heap.size < w1.heap.size := (by omega)); (try have y10p : w.heap.size < w1.heap.size + 1 := (by omega)); (try have y11 : w.heap.size + 1 < w1.heap.size := (by omega)); (try have y11p : w.heap.size + 1 < w1.heap.size + 1 := (by omega)); (try have y12 : w.heap.size + 1 + 1 < w1.heap.size := (by omega)); (try have y12p : w.heap.size + 1 + 1 < w1.heap.size + 1 := (by omega)); (try have y13 : w.heap.size + 1 + 1 + 1 < w1.heap.size := (by omega)); (try have y13p : w.heap.size + 1 + 1 + 1 < w1.heap.size + 1 := (by omega)); (try have y14 : w.heap.size + 1 + 1 + 1 + 1 < w1.heap.size := (by omega)); (try have y14p : w.heap.size + 1 + 1 + 1 + 1 < w1.heap.size + 1 := (by omega)); (try have v0x1 : w0.heap.size < w1.heap.size := (by omega)); (try have v0x1p : w0.heap.size < w1.heap.size + 1 := (by omega))) | (go_at_call 40; refine (rAxis_yes _ (by decide)).mono ?_; rintro e w' ⟨rfl,rfl⟩) | (go_at_call 25; refine (hk _).mono ?_; rintro e w' ⟨rfl,rfl⟩))
  go_ret
  refine ⟨ret_int HE.out.symm,?_⟩
  repeat (first | with_reducible exact Below.refl _ _ | with_reducible refine Below.setCell ?_ ?_ _ | with_reducible refine Below.alloc ?_ ?_ _ | with_reducible refine Below.drew ?_ | with_reducible refine below_drewN ?_ _ | (refine Below.trans ?_ (bmono (by assumption) ?_)))
  all_goals (first | omega | (simp <;> omega))
 ·rw [h] at hk
  have hkk := rgB_iff.1 h
  have hw2 : IntKind.i64.wrap (q - k) = q - k := IntWalk.i64_in _ (by omega)
  by_cases h1 : t ≤ y
  ·have HE := Lib.hid (okI_12 (lo := y) (hi := q) h (.inl h1))
   clear h hw2
   have d1 : decide (t ≤ y) = true := by simpa using h1
   go_enter Try.func13,Try.ntmps13
   go_wp2_with (first | (go_at_call 35; refine (hc _).mono ?_; rintro e w1 ⟨rfl,hb1⟩; obtain ⟨hc1,hf1⟩ := bcell hb1; have hz1 := hb1.size; (try simp at hz1); (try have y10 : w.heap.size < w1.heap.size := (by omega)); (try have y10p : w.heap.size < w1.heap.size + 1 := (by omega)); (try have y11 : w.heap.size + 1 < w1.heap.size := (by omega)); (try have y11p : w.heap.size + 1 < w1.heap.size + 1 := (by omega)); (try have y12 : w.heap.size + 1 + 1 < w1.heap.size := (by omega)); (try have y12p : w.heap.size + 1 + 1 < w1.heap.size + 1 := (by omega)); (try have y13 : w.heap.size + 1 + 1 + 1 < w1.heap.size := (by omega)); (try have y13p : w.heap.size + 1 + 1 + 1 < w1.heap.size + 1 := (by omega)); (try have y14 : w.heap.size + 1 + 1 + 1 + 1 < w1.heap.size := (by omega)); (try have y14p : w.heap.size + 1 + 1 + 1 + 1 < w1.heap.size + 1 := (by omega)); (try have v0x1 : w0.heap.size < w1.heap.size := (by omega)); (try have v0x1p : w0.heap.size < w1.heap.size + 1 := (by omega))) | (go_at_call 40; refine (rAxis_yes _ (by decide)).mono ?_; rintro e w' ⟨rfl,rfl⟩) | (go_at_call 25; refine (hk _).mono ?_; rintro e w' ⟨rfl,rfl⟩))
   refine wp_region_any (by kernel_rfl) ?_
   try (change wpAny _ _ _ _ _ _ _ (World.drew _))
   refine wpAny_vals (fr := fun o => #[.agg #[x,y,z,p,q,r],.agg #[.int .i64 1,t,k],.pointer (some ⟨w.heap.size,0,none⟩),.pointer (some ⟨(w.heap.size + 1),0,none⟩),.int .i64 0,.int .i64 0,.agg #[x,y,z,p,q,r],.int .i64 0,.int .i64 0,.bool false,undef,.pointer (some ⟨(w.heap.size + 1),0,none⟩),.int .i64 1,.bool true,.bool false,.pointer (some ⟨(w.heap.size + 1),2,none⟩),.int .i64 k,.bool true,.bool false,o 0,o 1,o 2,o 3,o 4,o 5,o 6,o 7,o 8,o 9,o 10,o 11,o 12,o 13,o 14,o 15,o 16,o 17,o 18,o 19,o 20]) (vals := fun i_ => ([.pointer (some ⟨(w.heap.size + 1),1,none⟩),.int .i64 t,.pointer (some ⟨w.heap.size,0,none⟩),.agg #[x,y,z],.pointer (some ⟨(w.heap.size + 1),0,none⟩),.int .i64 1,.int .i64 y,.bool true,.bool true,undef,undef,undef,undef,undef,undef,undef,undef,undef,undef,undef,.bool true] : List Value).getD i_ undef) (Kf := fun _ => True) (K := fun kk_ => ([(KL [((w.heap.size + 1),27,#[.int .i64 1,t,k]),(w.heap.size,25,#[x,y,z,p,q,r])] w)] : List (World → Prop)).getD kk_ (fun _ => True)) (dep := fun i_ => [[],[0],[],[2],[],[4],[3,5],[1,6],[7],[8],[8,9],[8],[8,11],[8],[8,13],[8,12,14],[8],[8,16],[8,15,17],[8,10,18],[8,19]].getD i_ []) (dv := fun i_ => [[],[0],[],[2],[],[4],[3,5],[1,6],[7],[8],[8,9],[8],[8,11],[8],[8,13],[8,12,14],[8],[8,16],[8,15,17],[8,10,18],[8,19]].getD i_ []) (kd := fun i_ => [0,1,0,1,0,1,1,0,0,0,0,0,0,0,0,0,0,0,0,0,0].getD i_ 0) (ss := []) (l := [0,1,2,3,4,5,6,7,8,9,10,11,12,13,14,15,16,17,18,19,20]) (f0 := fun _ => undef) (A := ?A4) 21 rfl rfl (by decide +kernel) (by decide +kernel) ?_ ?_ ⟨?_,?_,?_,?_,?_,?_,?_,?_,?_,?_,?_,?_,?_,?_,?_,?_,?_,?_,?_,?_,?_,trivial⟩ ?_ ?_
   rotate_left
   ·exact KL.drew (KL.over (KL.new (KL.new (KL.nil w) rfl _ _) (by simp) _ _) hb1)
   ·exact fun _ _ _ _ => trivial
   ·intro o W _
    show wpOp _ _ _ 0 _ ⟨#[_,_,_,_,_,_,_,_,_,_,_,_,_,_,_,_,_,_,_,o 0,o 1,o 2,o 3,o 4,o 5,o 6,o 7,o 8,o 9,o 10,o 11,o 12,o 13,o 14,o 15,o 16,o 17,o 18,o 19,o 20],[]⟩ W
    refine wpOp_step rfl fun _ hK => ?_
    go_simp
    exact hK _ _ ⟨rfl,rfl⟩
   ·intro o W hj
    have hj : KL _ _ W := hj
    obtain ⟨cL,c0,c1,c2⟩ := bl3 (KL.blk hj (.head _))
    show wpOp _ _ _ 1 _ ⟨#[_,_,_,_,_,_,_,_,_,_,_,_,_,_,_,_,_,_,_,.pointer (some ⟨(w.heap.size + 1),1,none⟩),o 1,o 2,o 3,o 4,o 5,o 6,o 7,o 8,o 9,o 10,o 11,o 12,o 13,o 14,o 15,o 16,o 17,o 18,o 19,o 20],[]⟩ W
    refine wpOp_step rfl fun _ hK => ?_
    go_simp
    exact hK _ _ ⟨rfl,hj⟩
   ·intro o W _
    show wpOp _ _ _ 2 _ ⟨#[_,_,_,_,_,_,_,_,_,_,_,_,_,_,_,_,_,_,_,o 0,o 1,o 2,o 3,o 4,o 5,o 6,o 7,o 8,o 9,o 10,o 11,o 12,o 13,o 14,o 15,o 16,o 17,o 18,o 19,o 20],[]⟩ W
    refine wpOp_step rfl fun _ hK => ?_
    go_simp
    exact hK _ _ ⟨rfl,rfl⟩
   ·intro o W hj
    have hj : KL _ _ W := hj
    obtain ⟨cL,c0,c1,c2,c3,c4,c5⟩ := bl6 (KL.blk hj (.tail _ (.head _)))
    show wpOp _ _ _ 3 _ ⟨#[_,_,_,_,_,_,_,_,_,_,_,_,_,_,_,_,_,_,_,o 0,o 1,.pointer (some ⟨w.heap.size,0,none⟩),o 3,o 4,o 5,o 6,o 7,o 8,o 9,o 10,o 11,o 12,o 13,o 14,o 15,o 16,o 17,o 18,o 19,o 20],[]⟩ W
    refine wpOp_step rfl fun _ hK => ?_
    go_simp
    exact hK _ _ ⟨rfl,hj⟩
   ·intro o W _
    show wpOp _ _ _ 4 _ ⟨#[_,_,_,_,_,_,_,_,_,_,_,_,_,_,_,_,_,_,_,o 0,o 1,o 2,o 3,o 4,o 5,o 6,o 7,o 8,o 9,o 10,o 11,o 12,o 13,o 14,o 15,o 16,o 17,o 18,o 19,o 20],[]⟩ W
    refine wpOp_step rfl fun _ hK => ?_
    go_simp
    exact hK _ _ ⟨rfl,rfl⟩
   ·intro o W hj
    have hj : KL _ _ W := hj
    obtain ⟨cL,c0,c1,c2⟩ := bl3 (KL.blk hj (.head _))
    show wpOp _ _ _ 5 _ ⟨#[_,_,_,_,_,_,_,_,_,_,_,_,_,_,_,_,_,_,_,o 0,o 1,o 2,o 3,.pointer (some ⟨(w.heap.size + 1),0,none⟩),o 5,o 6,o 7,o 8,o 9,o 10,o 11,o 12,o 13,o 14,o 15,o 16,o 17,o 18,o 19,o 20],[]⟩ W
    refine wpOp_step rfl fun _ hK => ?_
    go_simp
    exact hK _ _ ⟨rfl,hj⟩
   ·intro o W hj
    have hj : KL _ _ W := hj
    show wpOp _ _ _ 6 _ ⟨#[_,_,_,_,_,_,_,_,_,_,_,_,_,_,_,_,_,_,_,o 0,o 1,o 2,.agg #[x,y,z],o 4,.int .i64 1,o 6,o 7,o 8,o 9,o 10,o 11,o 12,o 13,o 14,o 15,o 16,o 17,o 18,o 19,o 20],[]⟩ W
    refine wpOp_step rfl fun _ hK => ?_
    go_simp
    refine (get1 _ _ _ _).mono ?_
    rintro e W1 ⟨rfl,hb1⟩
    exact hK _ _ ⟨rfl,hj.over hb1⟩
   ·intro o W _
    show wpOp _ _ _ 7 _ ⟨#[_,_,_,_,_,_,_,_,_,_,_,_,_,_,_,_,_,_,_,o 0,.int .i64 t,o 2,o 3,o 4,o 5,.int .i64 y,o 7,o 8,o 9,o 10,o 11,o 12,o 13,o 14,o 15,o 16,o 17,o 18,o 19,o 20],[]⟩ W
    refine wpOp_step rfl fun _ hK => ?_
    go_simp
    exact hK _ _ ⟨rfl,rfl⟩
   ·intro o W _
    show wpOp _ _ _ 8 _ ⟨#[_,_,_,_,_,_,_,_,_,_,_,_,_,_,_,_,_,_,_,o 0,o 1,o 2,o 3,o 4,o 5,o 6,.bool true,o 8,o 9,o 10,o 11,o 12,o 13,o 14,o 15,o 16,o 17,o 18,o 19,o 20],[]⟩ W
    refine wpOp_step rfl fun _ hK => ?_
    go_simp
    exact hK _ _ ⟨rfl,rfl⟩
   ·intro o W _
    show wpOp _ _ _ 9 _ ⟨#[_,_,_,_,_,_,_,_,_,_,_,_,_,_,_,_,_,_,_,o 0,o 1,o 2,o 3,o 4,o 5,o 6,o 7,.bool true,o 9,o 10,o 11,o 12,o 13,o 14,o 15,o 16,o 17,o 18,o 19,o 20],[]⟩ W
    refine wpOp_step rfl fun _ hK => ?_
    go_simp
    exact hK _ _ ⟨rfl,rfl⟩
   ·intro o W _
    show wpOp _ _ _ 10 _ ⟨#[_,_,_,_,_,_,_,_,_,_,_,_,_,_,_,_,_,_,_,o 0,o 1,o 2,o 3,o 4,o 5,o 6,o 7,.bool true,undef,o 10,o 11,o 12,o 13,o 14,o 15,o 16,o 17,o 18,o 19,o 20],[]⟩ W
    refine wpOp_step rfl fun _ hK => ?_
    go_simp
    exact hK _ _ ⟨rfl,rfl⟩
   ·intro o W _
    show wpOp _ _ _ 11 _ ⟨#[_,_,_,_,_,_,_,_,_,_,_,_,_,_,_,_,_,_,_,o 0,o 1,o 2,o 3,o 4,o 5,o 6,o 7,.bool true,o 9,o 10,o 11,o 12,o 13,o 14,o 15,o 16,o 17,o 18,o 19,o 20],[]⟩ W
    refine wpOp_step rfl fun _ hK => ?_
    go_simp
    exact hK _ _ ⟨rfl,rfl⟩
   ·intro o W _
    show wpOp _ _ _ 12 _ ⟨#[_,_,_,_,_,_,_,_,_,_,_,_,_,_,_,_,_,_,_,o 0,o 1,o 2,o 3,o 4,o 5,o 6,o 7,.bool true,o 9,o 10,undef,o 12,o 13,o 14,o 15,o 16,o 17,o 18,o 19,o 20],[]⟩ W
    refine wpOp_step rfl fun _ hK => ?_
    go_simp
    exact hK _ _ ⟨rfl,rfl⟩
   ·intro o W _
    show wpOp _ _ _ 13 _ ⟨#[_,_,_,_,_,_,_,_,_,_,_,_,_,_,_,_,_,_,_,o 0,o 1,o 2,o 3,o 4,o 5,o 6,o 7,.bool true,o 9,o 10,o 11,o 12,o 13,o 14,o 15,o 16,o 17,o 18,o 19,o 20],[]⟩ W
    refine wpOp_step rfl fun _ hK => ?_
    go_simp
    exact hK _ _ ⟨rfl,rfl⟩
   ·intro o W _
    show wpOp _ _ _ 14 _ ⟨#[_,_,_,_,_,_,_,_,_,_,_,_,_,_,_,_,_,_,_,o 0,o 1,o 2,o 3,o 4,o 5,o 6,o 7,.bool true,o 9,o 10,o 11,o 12,undef,o 14,o 15,o 16,o 17,o 18,o 19,o 20],[]⟩ W
    refine wpOp_step rfl fun _ hK => ?_
    go_simp
    exact hK _ _ ⟨rfl,rfl⟩
   ·intro o W _
    show wpOp _ _ _ 15 _ ⟨#[_,_,_,_,_,_,_,_,_,_,_,_,_,_,_,_,_,_,_,o 0,o 1,o 2,o 3,o 4,o 5,o 6,o 7,.bool true,o 9,o 10,o 11,undef,o 13,undef,o 15,o 16,o 17,o 18,o 19,o 20],[]⟩ W
    refine wpOp_step rfl fun _ hK => ?_
    go_simp
    exact hK _ _ ⟨rfl,rfl⟩
   ·intro o W _
    show wpOp _ _ _ 16 _ ⟨#[_,_,_,_,_,_,_,_,_,_,_,_,_,_,_,_,_,_,_,o 0,o 1,o 2,o 3,o 4,o 5,o 6,o 7,.bool true,o 9,o 10,o 11,o 12,o 13,o 14,o 15,o 16,o 17,o 18,o 19,o 20],[]⟩ W
    refine wpOp_step rfl fun _ hK => ?_
    go_simp
    exact hK _ _ ⟨rfl,rfl⟩
   ·intro o W _
    show wpOp _ _ _ 17 _ ⟨#[_,_,_,_,_,_,_,_,_,_,_,_,_,_,_,_,_,_,_,o 0,o 1,o 2,o 3,o 4,o 5,o 6,o 7,.bool true,o 9,o 10,o 11,o 12,o 13,o 14,o 15,undef,o 17,o 18,o 19,o 20],[]⟩ W
    refine wpOp_step rfl fun _ hK => ?_
    go_simp
    exact hK _ _ ⟨rfl,rfl⟩
   ·intro o W _
    show wpOp _ _ _ 18 _ ⟨#[_,_,_,_,_,_,_,_,_,_,_,_,_,_,_,_,_,_,_,o 0,o 1,o 2,o 3,o 4,o 5,o 6,o 7,.bool true,o 9,o 10,o 11,o 12,o 13,o 14,undef,o 16,undef,o 18,o 19,o 20],[]⟩ W
    refine wpOp_step rfl fun _ hK => ?_
    go_simp
    exact hK _ _ ⟨rfl,rfl⟩
   ·intro o W _
    show wpOp _ _ _ 19 _ ⟨#[_,_,_,_,_,_,_,_,_,_,_,_,_,_,_,_,_,_,_,o 0,o 1,o 2,o 3,o 4,o 5,o 6,o 7,.bool true,o 9,undef,o 11,o 12,o 13,o 14,o 15,o 16,o 17,undef,o 19,o 20],[]⟩ W
    refine wpOp_step rfl fun _ hK => ?_
    go_simp
    exact hK _ _ ⟨rfl,rfl⟩
   ·intro o W _
    show wpOp _ _ _ 20 _ ⟨#[_,_,_,_,_,_,_,_,_,_,_,_,_,_,_,_,_,_,_,o 0,o 1,o 2,o 3,o 4,o 5,o 6,o 7,.bool true,o 9,o 10,o 11,o 12,o 13,o 14,o 15,o 16,o 17,o 18,undef,o 20],[]⟩ W
    refine wpOp_step rfl fun _ hK => ?_
    go_simp
    exact hK _ _ ⟨rfl,rfl⟩
   ·intro o hh_
    have e0 : o 0 = .pointer (some ⟨(w.heap.size + 1),1,none⟩) := hh_ 0 (by decide)
    have e1 : o 1 = .int .i64 t := hh_ 1 (by decide)
    have e2 : o 2 = .pointer (some ⟨w.heap.size,0,none⟩) := hh_ 2 (by decide)
    have e3 : o 3 = .agg #[x,y,z] := hh_ 3 (by decide)
    have e4 : o 4 = .pointer (some ⟨(w.heap.size + 1),0,none⟩) := hh_ 4 (by decide)
    have e5 : o 5 = .int .i64 1 := hh_ 5 (by decide)
    have e6 : o 6 = .int .i64 y := hh_ 6 (by decide)
    have e7 : o 7 = .bool true := hh_ 7 (by decide)
    have e8 : o 8 = .bool true := hh_ 8 (by decide)
    have e9 : o 9 = undef := hh_ 9 (by decide)
    have e10 : o 10 = undef := hh_ 10 (by decide)
    have e11 : o 11 = undef := hh_ 11 (by decide)
    have e12 : o 12 = undef := hh_ 12 (by decide)
    have e13 : o 13 = undef := hh_ 13 (by decide)
    have e14 : o 14 = undef := hh_ 14 (by decide)
    have e15 : o 15 = undef := hh_ 15 (by decide)
    have e16 : o 16 = undef := hh_ 16 (by decide)
    have e17 : o 17 = undef := hh_ 17 (by decide)
    have e18 : o 18 = undef := hh_ 18 (by decide)
    have e19 : o 19 = undef := hh_ 19 (by decide)
    have e20 : o 20 = .bool true := hh_ 20 (by decide)
    rw [e0,e1,e2,e3,e4,e5,e6,e7,e8,e9,e10,e11,e12,e13,e14,e15,e16,e17,e18,e19,e20]
   ·intro W hj
    have hj : KL _ _ W := hj
    obtain ⟨cL0,c0_0,c0_1,c0_2⟩ := bl3 (KL.blk hj (.head _))
    obtain ⟨cL1,c1_0,c1_1,c1_2,c1_3,c1_4,c1_5⟩ := bl6 (KL.blk hj (.tail _ (.head _)))
    have hjb := hj.1
    have hjz := hjb.size
    go_wp2
    go_ret
    exact ⟨ret_int HE.out.symm,hjb⟩
  ·have d1 : decide (t ≤ y) = false := by simpa using h1
   by_cases h2 : q - k ≤ t
   ·have HE := Lib.hid (okI_12 (lo := y) (hi := q) h (.inr h2))
    clear h
    have d2 : decide (q - k ≤ t) = true := by simpa using h2
    go_enter Try.func13,Try.ntmps13
    go_wp2_with (first | (go_at_call 35; refine (hc _).mono ?_; rintro e w1 ⟨rfl,hb1⟩; obtain ⟨hc1,hf1⟩ := bcell hb1; have hz1 := hb1.size; (try simp at hz1); (try have y10 : w.heap.size < w1.heap.size := (by omega)); (try have y10p : w.heap.size < w1.heap.size + 1 := (by omega)); (try have y11 : w.heap.size + 1 < w1.heap.size := (by omega)); (try have y11p : w.heap.size + 1 < w1.heap.size + 1 := (by omega)); (try have y12 : w.heap.size + 1 + 1 < w1.heap.size := (by omega)); (try have y12p : w.heap.size + 1 + 1 < w1.heap.size + 1 := (by omega)); (try have y13 : w.heap.size + 1 + 1 + 1 < w1.heap.size := (by omega)); (try have y13p : w.heap.size + 1 + 1 + 1 < w1.heap.size + 1 := (by omega)); (try have y14 : w.heap.size + 1 + 1 + 1 + 1 < w1.heap.size := (by omega)); (try have y14p : w.heap.size + 1 + 1 + 1 + 1 < w1.heap.size + 1 := (by omega)); (try have v0x1 : w0.heap.size < w1.heap.size := (by omega)); (try have v0x1p : w0.heap.size < w1.heap.size + 1 := (by omega))) | (go_at_call 40; refine (rAxis_yes _ (by decide)).mono ?_; rintro e w' ⟨rfl,rfl⟩) | (go_at_call 25; refine (hk _).mono ?_; rintro e w' ⟨rfl,rfl⟩))
    refine wp_region_any (by kernel_rfl) ?_
    try (change wpAny _ _ _ _ _ _ _ (World.drew _))
    refine wpAny_vals (fr := fun o => #[.agg #[x,y,z,p,q,r],.agg #[.int .i64 1,t,k],.pointer (some ⟨w.heap.size,0,none⟩),.pointer (some ⟨(w.heap.size + 1),0,none⟩),.int .i64 0,.int .i64 0,.agg #[x,y,z,p,q,r],.int .i64 0,.int .i64 0,.bool false,undef,.pointer (some ⟨(w.heap.size + 1),0,none⟩),.int .i64 1,.bool true,.bool false,.pointer (some ⟨(w.heap.size + 1),2,none⟩),.int .i64 k,.bool true,.bool false,o 0,o 1,o 2,o 3,o 4,o 5,o 6,o 7,o 8,o 9,o 10,o 11,o 12,o 13,o 14,o 15,o 16,o 17,o 18,o 19,o 20]) (vals := fun i_ => ([.pointer (some ⟨(w.heap.size + 1),1,none⟩),.int .i64 t,.pointer (some ⟨w.heap.size,0,none⟩),.agg #[x,y,z],.pointer (some ⟨(w.heap.size + 1),0,none⟩),.int .i64 1,.int .i64 y,.bool false,.bool false,.pointer (some ⟨(w.heap.size + 1),1,none⟩),.int .i64 t,.pointer (some ⟨w.heap.size,3,none⟩),.agg #[p,q,r],.pointer (some ⟨(w.heap.size + 1),0,none⟩),.int .i64 1,.int .i64 q,.pointer (some ⟨(w.heap.size + 1),2,none⟩),.int .i64 k,.int .i64 (q - k),.bool true,.bool true] : List Value).getD i_ undef) (Kf := fun _ => True) (K := fun kk_ => ([(KL [((w.heap.size + 1),27,#[.int .i64 1,t,k]),(w.heap.size,25,#[x,y,z,p,q,r])] w)] : List (World → Prop)).getD kk_ (fun _ => True)) (dep := fun i_ => [[],[0],[],[2],[],[4],[3,5],[1,6],[7],[8],[8,9],[8],[8,11],[8],[8,13],[8,12,14],[8],[8,16],[8,15,17],[8,10,18],[8,19]].getD i_ []) (dv := fun i_ => [[],[0],[],[2],[],[4],[3,5],[1,6],[7],[8],[8,9],[8],[8,11],[8],[8,13],[8,12,14],[8],[8,16],[8,15,17],[8,10,18],[8,19]].getD i_ []) (kd := fun i_ => [0,1,0,1,0,1,1,0,0,0,1,0,1,0,1,1,0,1,0,0,0].getD i_ 0) (ss := []) (l := [0,1,2,3,4,5,6,7,8,9,10,11,12,13,14,15,16,17,18,19,20]) (f0 := fun _ => undef) (A := ?A5) 21 rfl rfl (by decide +kernel) (by decide +kernel) ?_ ?_ ⟨?_,?_,?_,?_,?_,?_,?_,?_,?_,?_,?_,?_,?_,?_,?_,?_,?_,?_,?_,?_,?_,trivial⟩ ?_ ?_
    rotate_left
    ·exact KL.drew (KL.over (KL.new (KL.new (KL.nil w) rfl _ _) (by simp) _ _) hb1)
    ·exact fun _ _ _ _ => trivial
    ·intro o W _
     show wpOp _ _ _ 0 _ ⟨#[_,_,_,_,_,_,_,_,_,_,_,_,_,_,_,_,_,_,_,o 0,o 1,o 2,o 3,o 4,o 5,o 6,o 7,o 8,o 9,o 10,o 11,o 12,o 13,o 14,o 15,o 16,o 17,o 18,o 19,o 20],[]⟩ W
     refine wpOp_step rfl fun _ hK => ?_
     go_simp
     exact hK _ _ ⟨rfl,rfl⟩
    ·intro o W hj
     have hj : KL _ _ W := hj
     obtain ⟨cL,c0,c1,c2⟩ := bl3 (KL.blk hj (.head _))
     show wpOp _ _ _ 1 _ ⟨#[_,_,_,_,_,_,_,_,_,_,_,_,_,_,_,_,_,_,_,.pointer (some ⟨(w.heap.size + 1),1,none⟩),o 1,o 2,o 3,o 4,o 5,o 6,o 7,o 8,o 9,o 10,o 11,o 12,o 13,o 14,o 15,o 16,o 17,o 18,o 19,o 20],[]⟩ W
     refine wpOp_step rfl fun _ hK => ?_
     go_simp
     exact hK _ _ ⟨rfl,hj⟩
    ·intro o W _
     show wpOp _ _ _ 2 _ ⟨#[_,_,_,_,_,_,_,_,_,_,_,_,_,_,_,_,_,_,_,o 0,o 1,o 2,o 3,o 4,o 5,o 6,o 7,o 8,o 9,o 10,o 11,o 12,o 13,o 14,o 15,o 16,o 17,o 18,o 19,o 20],[]⟩ W
     refine wpOp_step rfl fun _ hK => ?_
     go_simp
     exact hK _ _ ⟨rfl,rfl⟩
    ·intro o W hj
     have hj : KL _ _ W := hj
     obtain ⟨cL,c0,c1,c2,c3,c4,c5⟩ := bl6 (KL.blk hj (.tail _ (.head _)))
     show wpOp _ _ _ 3 _ ⟨#[_,_,_,_,_,_,_,_,_,_,_,_,_,_,_,_,_,_,_,o 0,o 1,.pointer (some ⟨w.heap.size,0,none⟩),o 3,o 4,o 5,o 6,o 7,o 8,o 9,o 10,o 11,o 12,o 13,o 14,o 15,o 16,o 17,o 18,o 19,o 20],[]⟩ W
     refine wpOp_step rfl fun _ hK => ?_
     go_simp
     exact hK _ _ ⟨rfl,hj⟩
    ·intro o W _
     show wpOp _ _ _ 4 _ ⟨#[_,_,_,_,_,_,_,_,_,_,_,_,_,_,_,_,_,_,_,o 0,o 1,o 2,o 3,o 4,o 5,o 6,o 7,o 8,o 9,o 10,o 11,o 12,o 13,o 14,o 15,o 16,o 17,o 18,o 19,o 20],[]⟩ W
     refine wpOp_step rfl fun _ hK => ?_
     go_simp
     exact hK _ _ ⟨rfl,rfl⟩
    ·intro o W hj
     have hj : KL _ _ W := hj
     obtain ⟨cL,c0,c1,c2⟩ := bl3 (KL.blk hj (.head _))
     show wpOp _ _ _ 5 _ ⟨#[_,_,_,_,_,_,_,_,_,_,_,_,_,_,_,_,_,_,_,o 0,o 1,o 2,o 3,.pointer (some ⟨(w.heap.size + 1),0,none⟩),o 5,o 6,o 7,o 8,o 9,o 10,o 11,o 12,o 13,o 14,o 15,o 16,o 17,o 18,o 19,o 20],[]⟩ W
     refine wpOp_step rfl fun _ hK => ?_
     go_simp
     exact hK _ _ ⟨rfl,hj⟩
    ·intro o W hj
     have hj : KL _ _ W := hj
     show wpOp _ _ _ 6 _ ⟨#[_,_,_,_,_,_,_,_,_,_,_,_,_,_,_,_,_,_,_,o 0,o 1,o 2,.agg #[x,y,z],o 4,.int .i64 1,o 6,o 7,o 8,o 9,o 10,o 11,o 12,o 13,o 14,o 15,o 16,o 17,o 18,o 19,o 20],[]⟩ W
     refine wpOp_step rfl fun _ hK => ?_
     go_simp
     refine (get1 _ _ _ _).mono ?_
     rintro e W1 ⟨rfl,hb1⟩
     exact hK _ _ ⟨rfl,hj.over hb1⟩
    ·intro o W _
     show wpOp _ _ _ 7 _ ⟨#[_,_,_,_,_,_,_,_,_,_,_,_,_,_,_,_,_,_,_,o 0,.int .i64 t,o 2,o 3,o 4,o 5,.int .i64 y,o 7,o 8,o 9,o 10,o 11,o 12,o 13,o 14,o 15,o 16,o 17,o 18,o 19,o 20],[]⟩ W
     refine wpOp_step rfl fun _ hK => ?_
     go_simp
     exact hK _ _ ⟨rfl,rfl⟩
    ·intro o W _
     show wpOp _ _ _ 8 _ ⟨#[_,_,_,_,_,_,_,_,_,_,_,_,_,_,_,_,_,_,_,o 0,o 1,o 2,o 3,o 4,o 5,o 6,.bool false,o 8,o 9,o 10,o 11,o 12,o 13,o 14,o 15,o 16,o 17,o 18,o 19,o 20],[]⟩ W
     refine wpOp_step rfl fun _ hK => ?_
     go_simp
     exact hK _ _ ⟨rfl,rfl⟩
    ·intro o W _
     show wpOp _ _ _ 9 _ ⟨#[_,_,_,_,_,_,_,_,_,_,_,_,_,_,_,_,_,_,_,o 0,o 1,o 2,o 3,o 4,o 5,o 6,o 7,.bool false,o 9,o 10,o 11,o 12,o 13,o 14,o 15,o 16,o 17,o 18,o 19,o 20],[]⟩ W
     refine wpOp_step rfl fun _ hK => ?_
     go_simp
     exact hK _ _ ⟨rfl,rfl⟩
    ·intro o W hj
     have hj : KL _ _ W := hj
     obtain ⟨cL,c0,c1,c2⟩ := bl3 (KL.blk hj (.head _))
     show wpOp _ _ _ 10 _ ⟨#[_,_,_,_,_,_,_,_,_,_,_,_,_,_,_,_,_,_,_,o 0,o 1,o 2,o 3,o 4,o 5,o 6,o 7,.bool false,.pointer (some ⟨(w.heap.size + 1),1,none⟩),o 10,o 11,o 12,o 13,o 14,o 15,o 16,o 17,o 18,o 19,o 20],[]⟩ W
     refine wpOp_step rfl fun _ hK => ?_
     go_simp
     exact hK _ _ ⟨rfl,hj⟩
    ·intro o W _
     show wpOp _ _ _ 11 _ ⟨#[_,_,_,_,_,_,_,_,_,_,_,_,_,_,_,_,_,_,_,o 0,o 1,o 2,o 3,o 4,o 5,o 6,o 7,.bool false,o 9,o 10,o 11,o 12,o 13,o 14,o 15,o 16,o 17,o 18,o 19,o 20],[]⟩ W
     refine wpOp_step rfl fun _ hK => ?_
     go_simp
     exact hK _ _ ⟨rfl,rfl⟩
    ·intro o W hj
     have hj : KL _ _ W := hj
     obtain ⟨cL,c0,c1,c2,c3,c4,c5⟩ := bl6 (KL.blk hj (.tail _ (.head _)))
     show wpOp _ _ _ 12 _ ⟨#[_,_,_,_,_,_,_,_,_,_,_,_,_,_,_,_,_,_,_,o 0,o 1,o 2,o 3,o 4,o 5,o 6,o 7,.bool false,o 9,o 10,.pointer (some ⟨w.heap.size,3,none⟩),o 12,o 13,o 14,o 15,o 16,o 17,o 18,o 19,o 20],[]⟩ W
     refine wpOp_step rfl fun _ hK => ?_
     go_simp
     exact hK _ _ ⟨rfl,hj⟩
    ·intro o W _
     show wpOp _ _ _ 13 _ ⟨#[_,_,_,_,_,_,_,_,_,_,_,_,_,_,_,_,_,_,_,o 0,o 1,o 2,o 3,o 4,o 5,o 6,o 7,.bool false,o 9,o 10,o 11,o 12,o 13,o 14,o 15,o 16,o 17,o 18,o 19,o 20],[]⟩ W
     refine wpOp_step rfl fun _ hK => ?_
     go_simp
     exact hK _ _ ⟨rfl,rfl⟩
    ·intro o W hj
     have hj : KL _ _ W := hj
     obtain ⟨cL,c0,c1,c2⟩ := bl3 (KL.blk hj (.head _))
     show wpOp _ _ _ 14 _ ⟨#[_,_,_,_,_,_,_,_,_,_,_,_,_,_,_,_,_,_,_,o 0,o 1,o 2,o 3,o 4,o 5,o 6,o 7,.bool false,o 9,o 10,o 11,o 12,.pointer (some ⟨(w.heap.size + 1),0,none⟩),o 14,o 15,o 16,o 17,o 18,o 19,o 20],[]⟩ W
     refine wpOp_step rfl fun _ hK => ?_
     go_simp
     exact hK _ _ ⟨rfl,hj⟩
    ·intro o W hj
     have hj : KL _ _ W := hj
     show wpOp _ _ _ 15 _ ⟨#[_,_,_,_,_,_,_,_,_,_,_,_,_,_,_,_,_,_,_,o 0,o 1,o 2,o 3,o 4,o 5,o 6,o 7,.bool false,o 9,o 10,o 11,.agg #[p,q,r],o 13,.int .i64 1,o 15,o 16,o 17,o 18,o 19,o 20],[]⟩ W
     refine wpOp_step rfl fun _ hK => ?_
     go_simp
     refine (get1 _ _ _ _).mono ?_
     rintro e W1 ⟨rfl,hb1⟩
     exact hK _ _ ⟨rfl,hj.over hb1⟩
    ·intro o W _
     show wpOp _ _ _ 16 _ ⟨#[_,_,_,_,_,_,_,_,_,_,_,_,_,_,_,_,_,_,_,o 0,o 1,o 2,o 3,o 4,o 5,o 6,o 7,.bool false,o 9,o 10,o 11,o 12,o 13,o 14,o 15,o 16,o 17,o 18,o 19,o 20],[]⟩ W
     refine wpOp_step rfl fun _ hK => ?_
     go_simp
     exact hK _ _ ⟨rfl,rfl⟩
    ·intro o W hj
     have hj : KL _ _ W := hj
     obtain ⟨cL,c0,c1,c2⟩ := bl3 (KL.blk hj (.head _))
     show wpOp _ _ _ 17 _ ⟨#[_,_,_,_,_,_,_,_,_,_,_,_,_,_,_,_,_,_,_,o 0,o 1,o 2,o 3,o 4,o 5,o 6,o 7,.bool false,o 9,o 10,o 11,o 12,o 13,o 14,o 15,.pointer (some ⟨(w.heap.size + 1),2,none⟩),o 17,o 18,o 19,o 20],[]⟩ W
     refine wpOp_step rfl fun _ hK => ?_
     go_simp
     exact hK _ _ ⟨rfl,hj⟩
    ·intro o W _
     show wpOp _ _ _ 18 _ ⟨#[_,_,_,_,_,_,_,_,_,_,_,_,_,_,_,_,_,_,_,o 0,o 1,o 2,o 3,o 4,o 5,o 6,o 7,.bool false,o 9,o 10,o 11,o 12,o 13,o 14,.int .i64 q,o 16,.int .i64 k,o 18,o 19,o 20],[]⟩ W
     refine wpOp_step rfl fun _ hK => ?_
     go_simp
     exact hK _ _ ⟨rfl,rfl⟩
    ·intro o W _
     show wpOp _ _ _ 19 _ ⟨#[_,_,_,_,_,_,_,_,_,_,_,_,_,_,_,_,_,_,_,o 0,o 1,o 2,o 3,o 4,o 5,o 6,o 7,.bool false,o 9,.int .i64 t,o 11,o 12,o 13,o 14,o 15,o 16,o 17,.int .i64 (q - k),o 19,o 20],[]⟩ W
     refine wpOp_step rfl fun _ hK => ?_
     go_simp
     exact hK _ _ ⟨rfl,rfl⟩
    ·intro o W _
     show wpOp _ _ _ 20 _ ⟨#[_,_,_,_,_,_,_,_,_,_,_,_,_,_,_,_,_,_,_,o 0,o 1,o 2,o 3,o 4,o 5,o 6,o 7,.bool false,o 9,o 10,o 11,o 12,o 13,o 14,o 15,o 16,o 17,o 18,.bool true,o 20],[]⟩ W
     refine wpOp_step rfl fun _ hK => ?_
     go_simp
     exact hK _ _ ⟨rfl,rfl⟩
    ·intro o hh_
     have e0 : o 0 = .pointer (some ⟨(w.heap.size + 1),1,none⟩) := hh_ 0 (by decide)
     have e1 : o 1 = .int .i64 t := hh_ 1 (by decide)
     have e2 : o 2 = .pointer (some ⟨w.heap.size,0,none⟩) := hh_ 2 (by decide)
     have e3 : o 3 = .agg #[x,y,z] := hh_ 3 (by decide)
     have e4 : o 4 = .pointer (some ⟨(w.heap.size + 1),0,none⟩) := hh_ 4 (by decide)
     have e5 : o 5 = .int .i64 1 := hh_ 5 (by decide)
     have e6 : o 6 = .int .i64 y := hh_ 6 (by decide)
     have e7 : o 7 = .bool false := hh_ 7 (by decide)
     have e8 : o 8 = .bool false := hh_ 8 (by decide)
     have e9 : o 9 = .pointer (some ⟨(w.heap.size + 1),1,none⟩) := hh_ 9 (by decide)
     have e10 : o 10 = .int .i64 t := hh_ 10 (by decide)
     have e11 : o 11 = .pointer (some ⟨w.heap.size,3,none⟩) := hh_ 11 (by decide)
     have e12 : o 12 = .agg #[p,q,r] := hh_ 12 (by decide)
     have e13 : o 13 = .pointer (some ⟨(w.heap.size + 1),0,none⟩) := hh_ 13 (by decide)
     have e14 : o 14 = .int .i64 1 := hh_ 14 (by decide)
     have e15 : o 15 = .int .i64 q := hh_ 15 (by decide)
     have e16 : o 16 = .pointer (some ⟨(w.heap.size + 1),2,none⟩) := hh_ 16 (by decide)
     have e17 : o 17 = .int .i64 k := hh_ 17 (by decide)
     have e18 : o 18 = .int .i64 (q - k) := hh_ 18 (by decide)
     have e19 : o 19 = .bool true := hh_ 19 (by decide)
     have e20 : o 20 = .bool true := hh_ 20 (by decide)
     rw [e0,e1,e2,e3,e4,e5,e6,e7,e8,e9,e10,e11,e12,e13,e14,e15,e16,e17,e18,e19,e20]
    ·intro W hj
     have hj : KL _ _ W := hj
     obtain ⟨cL0,c0_0,c0_1,c0_2⟩ := bl3 (KL.blk hj (.head _))
     obtain ⟨cL1,c1_0,c1_1,c1_2,c1_3,c1_4,c1_5⟩ := bl6 (KL.blk hj (.tail _ (.head _)))
     have hjb := hj.1
     have hjz := hjb.size
     go_wp2
     go_ret
     exact ⟨ret_int HE.out.symm,hjb⟩
   ·have HE := Lib.hid (okI_0 (lo := y) (hi := q) h h1 h2)
    clear h
    have d2 : decide (q - k ≤ t) = false := by simpa using h2
    go_enter Try.func13,Try.ntmps13
    go_wp2_with (first | (go_at_call 35; refine (hc _).mono ?_; rintro e w1 ⟨rfl,hb1⟩; obtain ⟨hc1,hf1⟩ := bcell hb1; have hz1 := hb1.size; (try simp at hz1); (try have y10 : w.heap.size < w1.heap.size := (by omega)); (try have y10p : w.heap.size < w1.heap.size + 1 := (by omega)); (try have y11 : w.heap.size + 1 < w1.heap.size := (by omega)); (try have y11p : w.heap.size + 1 < w1.heap.size + 1 := (by omega)); (try have y12 : w.heap.size + 1 + 1 < w1.heap.size := (by omega)); (try have y12p : w.heap.size + 1 + 1 < w1.heap.size + 1 := (by omega)); (try have y13 : w.heap.size + 1 + 1 + 1 < w1.heap.size := (by omega)); (try have y13p : w.heap.size + 1 + 1 + 1 < w1.heap.size + 1 := (by omega)); (try have y14 : w.heap.size + 1 + 1 + 1 + 1 < w1.heap.size := (by omega)); (try have y14p : w.heap.size + 1 + 1 + 1 + 1 < w1.heap.size + 1 := (by omega)); (try have v0x1 : w0.heap.size < w1.heap.size := (by omega)); (try have v0x1p : w0.heap.size < w1.heap.size + 1 := (by omega))) | (go_at_call 40; refine (rAxis_yes _ (by decide)).mono ?_; rintro e w' ⟨rfl,rfl⟩) | (go_at_call 25; refine (hk _).mono ?_; rintro e w' ⟨rfl,rfl⟩))
    refine wp_region_any (by kernel_rfl) ?_
    try (change wpAny _ _ _ _ _ _ _ (World.drew _))
    refine wpAny_vals (fr := fun o => #[.agg #[x,y,z,p,q,r],.agg #[.int .i64 1,t,k],.pointer (some ⟨w.heap.size,0,none⟩),.pointer (some ⟨(w.heap.size + 1),0,none⟩),.int .i64 0,.int .i64 0,.agg #[x,y,z,p,q,r],.int .i64 0,.int .i64 0,.bool false,undef,.pointer (some ⟨(w.heap.size + 1),0,none⟩),.int .i64 1,.bool true,.bool false,.pointer (some ⟨(w.heap.size + 1),2,none⟩),.int .i64 k,.bool true,.bool false,o 0,o 1,o 2,o 3,o 4,o 5,o 6,o 7,o 8,o 9,o 10,o 11,o 12,o 13,o 14,o 15,o 16,o 17,o 18,o 19,o 20]) (vals := fun i_ => ([.pointer (some ⟨(w.heap.size + 1),1,none⟩),.int .i64 t,.pointer (some ⟨w.heap.size,0,none⟩),.agg #[x,y,z],.pointer (some ⟨(w.heap.size + 1),0,none⟩),.int .i64 1,.int .i64 y,.bool false,.bool false,.pointer (some ⟨(w.heap.size + 1),1,none⟩),.int .i64 t,.pointer (some ⟨w.heap.size,3,none⟩),.agg #[p,q,r],.pointer (some ⟨(w.heap.size + 1),0,none⟩),.int .i64 1,.int .i64 q,.pointer (some ⟨(w.heap.size + 1),2,none⟩),.int .i64 k,.int .i64 (q - k),.bool false,.bool false] : List Value).getD i_ undef) (Kf := fun _ => True) (K := fun kk_ => ([(KL [((w.heap.size + 1),27,#[.int .i64 1,t,k]),(w.heap.size,25,#[x,y,z,p,q,r])] w)] : List (World → Prop)).getD kk_ (fun _ => True)) (dep := fun i_ => [[],[0],[],[2],[],[4],[3,5],[1,6],[7],[8],[8,9],[8],[8,11],[8],[8,13],[8,12,14],[8],[8,16],[8,15,17],[8,10,18],[8,19]].getD i_ []) (dv := fun i_ => [[],[0],[],[2],[],[4],[3,5],[1,6],[7],[8],[8,9],[8],[8,11],[8],[8,13],[8,12,14],[8],[8,16],[8,15,17],[8,10,18],[8,19]].getD i_ []) (kd := fun i_ => [0,1,0,1,0,1,1,0,0,0,1,0,1,0,1,1,0,1,0,0,0].getD i_ 0) (ss := []) (l := [0,1,2,3,4,5,6,7,8,9,10,11,12,13,14,15,16,17,18,19,20]) (f0 := fun _ => undef) (A := ?A6) 21 rfl rfl (by decide +kernel) (by decide +kernel) ?_ ?_ ⟨?_,?_,?_,?_,?_,?_,?_,?_,?_,?_,?_,?_,?_,?_,?_,?_,?_,?_,?_,?_,?_,trivial⟩ ?_ ?_
    rotate_left
    ·exact KL.drew (KL.over (KL.new (KL.new (KL.nil w) rfl _ _) (by simp) _ _) hb1)
    ·exact fun _ _ _ _ => trivial
    ·intro o W _
     show wpOp _ _ _ 0 _ ⟨#[_,_,_,_,_,_,_,_,_,_,_,_,_,_,_,_,_,_,_,o 0,o 1,o 2,o 3,o 4,o 5,o 6,o 7,o 8,o 9,o 10,o 11,o 12,o 13,o 14,o 15,o 16,o 17,o 18,o 19,o 20],[]⟩ W
     refine wpOp_step rfl fun _ hK => ?_
     go_simp
     exact hK _ _ ⟨rfl,rfl⟩
    ·intro o W hj
     have hj : KL _ _ W := hj
     obtain ⟨cL,c0,c1,c2⟩ := bl3 (KL.blk hj (.head _))
     show wpOp _ _ _ 1 _ ⟨#[_,_,_,_,_,_,_,_,_,_,_,_,_,_,_,_,_,_,_,.pointer (some ⟨(w.heap.size + 1),1,none⟩),o 1,o 2,o 3,o 4,o 5,o 6,o 7,o 8,o 9,o 10,o 11,o 12,o 13,o 14,o 15,o 16,o 17,o 18,o 19,o 20],[]⟩ W
     refine wpOp_step rfl fun _ hK => ?_
     go_simp
     exact hK _ _ ⟨rfl,hj⟩
    ·intro o W _
     show wpOp _ _ _ 2 _ ⟨#[_,_,_,_,_,_,_,_,_,_,_,_,_,_,_,_,_,_,_,o 0,o 1,o 2,o 3,o 4,o 5,o 6,o 7,o 8,o 9,o 10,o 11,o 12,o 13,o 14,o 15,o 16,o 17,o 18,o 19,o 20],[]⟩ W
     refine wpOp_step rfl fun _ hK => ?_
     go_simp
     exact hK _ _ ⟨rfl,rfl⟩
    ·intro o W hj
     have hj : KL _ _ W := hj
     obtain ⟨cL,c0,c1,c2,c3,c4,c5⟩ := bl6 (KL.blk hj (.tail _ (.head _)))
     show wpOp _ _ _ 3 _ ⟨#[_,_,_,_,_,_,_,_,_,_,_,_,_,_,_,_,_,_,_,o 0,o 1,.pointer (some ⟨w.heap.size,0,none⟩),o 3,o 4,o 5,o 6,o 7,o 8,o 9,o 10,o 11,o 12,o 13,o 14,o 15,o 16,o 17,o 18,o 19,o 20],[]⟩ W
     refine wpOp_step rfl fun _ hK => ?_
     go_simp
     exact hK _ _ ⟨rfl,hj⟩
    ·intro o W _
     show wpOp _ _ _ 4 _ ⟨#[_,_,_,_,_,_,_,_,_,_,_,_,_,_,_,_,_,_,_,o 0,o 1,o 2,o 3,o 4,o 5,o 6,o 7,o 8,o 9,o 10,o 11,o 12,o 13,o 14,o 15,o 16,o 17,o 18,o 19,o 20],[]⟩ W
     refine wpOp_step rfl fun _ hK => ?_
     go_simp
     exact hK _ _ ⟨rfl,rfl⟩
    ·intro o W hj
     have hj : KL _ _ W := hj
     obtain ⟨cL,c0,c1,c2⟩ := bl3 (KL.blk hj (.head _))
     show wpOp _ _ _ 5 _ ⟨#[_,_,_,_,_,_,_,_,_,_,_,_,_,_,_,_,_,_,_,o 0,o 1,o 2,o 3,.pointer (some ⟨(w.heap.size + 1),0,none⟩),o 5,o 6,o 7,o 8,o 9,o 10,o 11,o 12,o 13,o 14,o 15,o 16,o 17,o 18,o 19,o 20],[]⟩ W
     refine wpOp_step rfl fun _ hK => ?_
     go_simp
     exact hK _ _ ⟨rfl,hj⟩
    ·intro o W hj
     have hj : KL _ _ W := hj
     show wpOp _ _ _ 6 _ ⟨#[_,_,_,_,_,_,_,_,_,_,_,_,_,_,_,_,_,_,_,o 0,o 1,o 2,.agg #[x,y,z],o 4,.int .i64 1,o 6,o 7,o 8,o 9,o 10,o 11,o 12,o 13,o 14,o 15,o 16,o 17,o 18,o 19,o 20],[]⟩ W
     refine wpOp_step rfl fun _ hK => ?_
     go_simp
     refine (get1 _ _ _ _).mono ?_
     rintro e W1 ⟨rfl,hb1⟩
     exact hK _ _ ⟨rfl,hj.over hb1⟩
    ·intro o W _
     show wpOp _ _ _ 7 _ ⟨#[_,_,_,_,_,_,_,_,_,_,_,_,_,_,_,_,_,_,_,o 0,.int .i64 t,o 2,o 3,o 4,o 5,.int .i64 y,o 7,o 8,o 9,o 10,o 11,o 12,o 13,o 14,o 15,o 16,o 17,o 18,o 19,o 20],[]⟩ W
     refine wpOp_step rfl fun _ hK => ?_
     go_simp
     exact hK _ _ ⟨rfl,rfl⟩
    ·intro o W _
     show wpOp _ _ _ 8 _ ⟨#[_,_,_,_,_,_,_,_,_,_,_,_,_,_,_,_,_,_,_,o 0,o 1,o 2,o 3,o 4,o 5,o 6,.bool false,o 8,o 9,o 10,o 11,o 12,o 13,o 14,o 15,o 16,o 17,o 18,o 19,o 20],[]⟩ W
     refine wpOp_step rfl fun _ hK => ?_
     go_simp
     exact hK _ _ ⟨rfl,rfl⟩
    ·intro o W _
     show wpOp _ _ _ 9 _ ⟨#[_,_,_,_,_,_,_,_,_,_,_,_,_,_,_,_,_,_,_,o 0,o 1,o 2,o 3,o 4,o 5,o 6,o 7,.bool false,o 9,o 10,o 11,o 12,o 13,o 14,o 15,o 16,o 17,o 18,o 19,o 20],[]⟩ W
     refine wpOp_step rfl fun _ hK => ?_
     go_simp
     exact hK _ _ ⟨rfl,rfl⟩
    ·intro o W hj
     have hj : KL _ _ W := hj
     obtain ⟨cL,c0,c1,c2⟩ := bl3 (KL.blk hj (.head _))
     show wpOp _ _ _ 10 _ ⟨#[_,_,_,_,_,_,_,_,_,_,_,_,_,_,_,_,_,_,_,o 0,o 1,o 2,o 3,o 4,o 5,o 6,o 7,.bool false,.pointer (some ⟨(w.heap.size + 1),1,none⟩),o 10,o 11,o 12,o 13,o 14,o 15,o 16,o 17,o 18,o 19,o 20],[]⟩ W
     refine wpOp_step rfl fun _ hK => ?_
     go_simp
     exact hK _ _ ⟨rfl,hj⟩
    ·intro o W _
     show wpOp _ _ _ 11 _ ⟨#[_,_,_,_,_,_,_,_,_,_,_,_,_,_,_,_,_,_,_,o 0,o 1,o 2,o 3,o 4,o 5,o 6,o 7,.bool false,o 9,o 10,o 11,o 12,o 13,o 14,o 15,o 16,o 17,o 18,o 19,o 20],[]⟩ W
     refine wpOp_step rfl fun _ hK => ?_
     go_simp
     exact hK _ _ ⟨rfl,rfl⟩
    ·intro o W hj
     have hj : KL _ _ W := hj
     obtain ⟨cL,c0,c1,c2,c3,c4,c5⟩ := bl6 (KL.blk hj (.tail _ (.head _)))
     show wpOp _ _ _ 12 _ ⟨#[_,_,_,_,_,_,_,_,_,_,_,_,_,_,_,_,_,_,_,o 0,o 1,o 2,o 3,o 4,o 5,o 6,o 7,.bool false,o 9,o 10,.pointer (some ⟨w.heap.size,3,none⟩),o 12,o 13,o 14,o 15,o 16,o 17,o 18,o 19,o 20],[]⟩ W
     refine wpOp_step rfl fun _ hK => ?_
     go_simp
     exact hK _ _ ⟨rfl,hj⟩
    ·intro o W _
     show wpOp _ _ _ 13 _ ⟨#[_,_,_,_,_,_,_,_,_,_,_,_,_,_,_,_,_,_,_,o 0,o 1,o 2,o 3,o 4,o 5,o 6,o 7,.bool false,o 9,o 10,o 11,o 12,o 13,o 14,o 15,o 16,o 17,o 18,o 19,o 20],[]⟩ W
     refine wpOp_step rfl fun _ hK => ?_
     go_simp
     exact hK _ _ ⟨rfl,rfl⟩
    ·intro o W hj
     have hj : KL _ _ W := hj
     obtain ⟨cL,c0,c1,c2⟩ := bl3 (KL.blk hj (.head _))
     show wpOp _ _ _ 14 _ ⟨#[_,_,_,_,_,_,_,_,_,_,_,_,_,_,_,_,_,_,_,o 0,o 1,o 2,o 3,o 4,o 5,o 6,o 7,.bool false,o 9,o 10,o 11,o 12,.pointer (some ⟨(w.heap.size + 1),0,none⟩),o 14,o 15,o 16,o 17,o 18,o 19,o 20],[]⟩ W
     refine wpOp_step rfl fun _ hK => ?_
     go_simp
     exact hK _ _ ⟨rfl,hj⟩
    ·intro o W hj
     have hj : KL _ _ W := hj
     show wpOp _ _ _ 15 _ ⟨#[_,_,_,_,_,_,_,_,_,_,_,_,_,_,_,_,_,_,_,o 0,o 1,o 2,o 3,o 4,o 5,o 6,o 7,.bool false,o 9,o 10,o 11,.agg #[p,q,r],o 13,.int .i64 1,o 15,o 16,o 17,o 18,o 19,o 20],[]⟩ W
     refine wpOp_step rfl fun _ hK => ?_
     go_simp
     refine (get1 _ _ _ _).mono ?_
     rintro e W1 ⟨rfl,hb1⟩
     exact hK _ _ ⟨rfl,hj.over hb1⟩
    ·intro o W _
     show wpOp _ _ _ 16 _ ⟨#[_,_,_,_,_,_,_,_,_,_,_,_,_,_,_,_,_,_,_,o 0,o 1,o 2,o 3,o 4,o 5,o 6,o 7,.bool false,o 9,o 10,o 11,o 12,o 13,o 14,o 15,o 16,o 17,o 18,o 19,o 20],[]⟩ W
     refine wpOp_step rfl fun _ hK => ?_
     go_simp
     exact hK _ _ ⟨rfl,rfl⟩
    ·intro o W hj
     have hj : KL _ _ W := hj
     obtain ⟨cL,c0,c1,c2⟩ := bl3 (KL.blk hj (.head _))
     show wpOp _ _ _ 17 _ ⟨#[_,_,_,_,_,_,_,_,_,_,_,_,_,_,_,_,_,_,_,o 0,o 1,o 2,o 3,o 4,o 5,o 6,o 7,.bool false,o 9,o 10,o 11,o 12,o 13,o 14,o 15,.pointer (some ⟨(w.heap.size + 1),2,none⟩),o 17,o 18,o 19,o 20],[]⟩ W
     refine wpOp_step rfl fun _ hK => ?_
     go_simp
     exact hK _ _ ⟨rfl,hj⟩
    ·intro o W _
     show wpOp _ _ _ 18 _ ⟨#[_,_,_,_,_,_,_,_,_,_,_,_,_,_,_,_,_,_,_,o 0,o 1,o 2,o 3,o 4,o 5,o 6,o 7,.bool false,o 9,o 10,o 11,o 12,o 13,o 14,.int .i64 q,o 16,.int .i64 k,o 18,o 19,o 20],[]⟩ W
     refine wpOp_step rfl fun _ hK => ?_
     go_simp
     exact hK _ _ ⟨rfl,rfl⟩
    ·intro o W _
     show wpOp _ _ _ 19 _ ⟨#[_,_,_,_,_,_,_,_,_,_,_,_,_,_,_,_,_,_,_,o 0,o 1,o 2,o 3,o 4,o 5,o 6,o 7,.bool false,o 9,.int .i64 t,o 11,o 12,o 13,o 14,o 15,o 16,o 17,.int .i64 (q - k),o 19,o 20],[]⟩ W
     refine wpOp_step rfl fun _ hK => ?_
     go_simp
     exact hK _ _ ⟨rfl,rfl⟩
    ·intro o W _
     show wpOp _ _ _ 20 _ ⟨#[_,_,_,_,_,_,_,_,_,_,_,_,_,_,_,_,_,_,_,o 0,o 1,o 2,o 3,o 4,o 5,o 6,o 7,.bool false,o 9,o 10,o 11,o 12,o 13,o 14,o 15,o 16,o 17,o 18,.bool false,o 20],[]⟩ W
     refine wpOp_step rfl fun _ hK => ?_
     go_simp
     exact hK _ _ ⟨rfl,rfl⟩
    ·intro o hh_
     have e0 : o 0 = .pointer (some ⟨(w.heap.size + 1),1,none⟩) := hh_ 0 (by decide)
     have e1 : o 1 = .int .i64 t := hh_ 1 (by decide)
     have e2 : o 2 = .pointer (some ⟨w.heap.size,0,none⟩) := hh_ 2 (by decide)
     have e3 : o 3 = .agg #[x,y,z] := hh_ 3 (by decide)
     have e4 : o 4 = .pointer (some ⟨(w.heap.size + 1),0,none⟩) := hh_ 4 (by decide)
     have e5 : o 5 = .int .i64 1 := hh_ 5 (by decide)
     have e6 : o 6 = .int .i64 y := hh_ 6 (by decide)
     have e7 : o 7 = .bool false := hh_ 7 (by decide)
     have e8 : o 8 = .bool false := hh_ 8 (by decide)
     have e9 : o 9 = .pointer (some ⟨(w.heap.size + 1),1,none⟩) := hh_ 9 (by decide)
     have e10 : o 10 = .int .i64 t := hh_ 10 (by decide)
     have e11 : o 11 = .pointer (some ⟨w.heap.size,3,none⟩) := hh_ 11 (by decide)
     have e12 : o 12 = .agg #[p,q,r] := hh_ 12 (by decide)
     have e13 : o 13 = .pointer (some ⟨(w.heap.size + 1),0,none⟩) := hh_ 13 (by decide)
     have e14 : o 14 = .int .i64 1 := hh_ 14 (by decide)
     have e15 : o 15 = .int .i64 q := hh_ 15 (by decide)
     have e16 : o 16 = .pointer (some ⟨(w.heap.size + 1),2,none⟩) := hh_ 16 (by decide)
     have e17 : o 17 = .int .i64 k := hh_ 17 (by decide)
     have e18 : o 18 = .int .i64 (q - k) := hh_ 18 (by decide)
     have e19 : o 19 = .bool false := hh_ 19 (by decide)
     have e20 : o 20 = .bool false := hh_ 20 (by decide)
     rw [e0,e1,e2,e3,e4,e5,e6,e7,e8,e9,e10,e11,e12,e13,e14,e15,e16,e17,e18,e19,e20]
    ·intro W hj
     have hj : KL _ _ W := hj
     obtain ⟨cL0,c0_0,c0_1,c0_2⟩ := bl3 (KL.blk hj (.head _))
     obtain ⟨cL1,c1_0,c1_1,c1_2,c1_3,c1_4,c1_5⟩ := bl6 (KL.blk hj (.tail _ (.head _)))
     have hjb := hj.1
     have hjz := hjb.size
     go_wp2
     go_ret
     exact ⟨ret_int HE.out.symm,hjb⟩
set_option maxHeartbeats 8000000 in
set_option maxRecDepth 100000 in
theorem rCheck_ok2 (x y z p q r t k : Int) (hv : eB x y z p q r = 0) (w : World) :
  Calls Try.prog 13 #[.agg #[x,y,z,p,q,r],.agg #[.int .i64 2,t,k]] w fun e w' => e = .returned (.int .i64 (okI z r t k)) ∧ Below w.heap.size w w' := by
 have hc := rbcheck_any x y z p q r
 rw [hv] at hc
 obtain ⟨⟨a1,a2,a3⟩,⟨a4,a5,a6⟩,⟨a7,a8,a9⟩⟩ := eB_bd hv
 clear hv
 have hk := rKerf_any k
 cases h : rgB 0 1000 k
 ·have HE := Lib.hid (okI_6 (lo := z) (hi := r) (t := t) h)
  rw [h] at hk
  clear h
  go_enter Try.func13,Try.ntmps13
  go_wp2_with (first | (go_at_call 35; refine (hc _).mono ?_; rintro e w1 ⟨rfl,hb1⟩; obtain ⟨hc1,hf1⟩ := bcell hb1; have hz1 := hb1.size; (try simp at hz1); (try have y10 : w.heap.size < w1.heap.size := (by omega)); (try have y10p : w.heap.size < w1.heap.size + 1 := (by omega)); (try have y11 : w.heap.size + 1 < w1.heap.size := (by omega)); (try have y11p : w.heap.size + 1 < w1.heap.size + 1 := (by omega)); (try have y12 : w.heap.size + 1 + 1 < w1.heap.size := (by omega)); (try have y12p : w.heap.size + 1 + 1 < w1.heap.size + 1 := (by omega)); (try have y13 : w.heap.size + 1 + 1 + 1 < w1.heap.size := (by omega)); (try have y13p : w.heap.size + 1 + 1 + 1 < w1.heap.size + 1 := (by omega)); (try have y14 : w.heap.size + 1 + 1 + 1 + 1 < w1.heap.size := (by omega)); (try have y14p : w.heap.size + 1 + 1 + 1 + 1 < w1.heap.size + 1 := (by omega)); (try have v0x1 : w0.heap.size < w1.heap.size := (by omega)); (try have v0x1p : w0.heap.size < w1.heap.size + 1 := (by omega))) | (go_at_call 40; refine (rAxis_yes _ (by decide)).mono ?_; rintro e w' ⟨rfl,rfl⟩) | (go_at_call 25; refine (hk _).mono ?_; rintro e w' ⟨rfl,rfl⟩))
  go_ret
  refine ⟨ret_int HE.out.symm,?_⟩
  repeat (first | with_reducible exact Below.refl _ _ | with_reducible refine Below.setCell ?_ ?_ _ | with_reducible refine Below.alloc ?_ ?_ _ | with_reducible refine Below.drew ?_ | with_reducible refine below_drewN ?_ _ | (refine Below.trans ?_ (bmono (by assumption) ?_)))
  all_goals (first | omega | (simp <;> omega))
 ·rw [h] at hk
  have hkk := rgB_iff.1 h
  have hw2 : IntKind.i64.wrap (r - k) = r - k := IntWalk.i64_in _ (by omega)
  by_cases h1 : t ≤ z
  ·have HE := Lib.hid (okI_12 (lo := z) (hi := r) h (.inl h1))
   clear h hw2
   have d1 : decide (t ≤ z) = true := by simpa using h1
   go_enter Try.func13,Try.ntmps13
   go_wp2_with (first | (go_at_call 35; refine (hc _).mono ?_; rintro e w1 ⟨rfl,hb1⟩; obtain ⟨hc1,hf1⟩ := bcell hb1; have hz1 := hb1.size; (try simp at hz1); (try have y10 : w.heap.size < w1.heap.size := (by omega)); (try have y10p : w.heap.size < w1.heap.size + 1 := (by omega)); (try have y11 : w.heap.size + 1 < w1.heap.size := (by omega)); (try have y11p : w.heap.size + 1 < w1.heap.size + 1 := (by omega)); (try have y12 : w.heap.size + 1 + 1 < w1.heap.size := (by omega)); (try have y12p : w.heap.size + 1 + 1 < w1.heap.size + 1 := (by omega)); (try have y13 : w.heap.size + 1 + 1 + 1 < w1.heap.size := (by omega)); (try have y13p : w.heap.size + 1 + 1 + 1 < w1.heap.size + 1 := (by omega)); (try have y14 : w.heap.size + 1 + 1 + 1 + 1 < w1.heap.size := (by omega)); (try have y14p : w.heap.size + 1 + 1 + 1 + 1 < w1.heap.size + 1 := (by omega)); (try have v0x1 : w0.heap.size < w1.heap.size := (by omega)); (try have v0x1p : w0.heap.size < w1.heap.size + 1 := (by omega))) | (go_at_call 40; refine (rAxis_yes _ (by decide)).mono ?_; rintro e w' ⟨rfl,rfl⟩) | (go_at_call 25; refine (hk _).mono ?_; rintro e w' ⟨rfl,rfl⟩))
   refine wp_region_any (by kernel_rfl) ?_
   try (change wpAny _ _ _ _ _ _ _ (World.drew _))
   refine wpAny_vals (fr := fun o => #[.agg #[x,y,z,p,q,r],.agg #[.int .i64 2,t,k],.pointer (some ⟨w.heap.size,0,none⟩),.pointer (some ⟨(w.heap.size + 1),0,none⟩),.int .i64 0,.int .i64 0,.agg #[x,y,z,p,q,r],.int .i64 0,.int .i64 0,.bool false,undef,.pointer (some ⟨(w.heap.size + 1),0,none⟩),.int .i64 2,.bool true,.bool false,.pointer (some ⟨(w.heap.size + 1),2,none⟩),.int .i64 k,.bool true,.bool false,o 0,o 1,o 2,o 3,o 4,o 5,o 6,o 7,o 8,o 9,o 10,o 11,o 12,o 13,o 14,o 15,o 16,o 17,o 18,o 19,o 20]) (vals := fun i_ => ([.pointer (some ⟨(w.heap.size + 1),1,none⟩),.int .i64 t,.pointer (some ⟨w.heap.size,0,none⟩),.agg #[x,y,z],.pointer (some ⟨(w.heap.size + 1),0,none⟩),.int .i64 2,.int .i64 z,.bool true,.bool true,undef,undef,undef,undef,undef,undef,undef,undef,undef,undef,undef,.bool true] : List Value).getD i_ undef) (Kf := fun _ => True) (K := fun kk_ => ([(KL [((w.heap.size + 1),27,#[.int .i64 2,t,k]),(w.heap.size,25,#[x,y,z,p,q,r])] w)] : List (World → Prop)).getD kk_ (fun _ => True)) (dep := fun i_ => [[],[0],[],[2],[],[4],[3,5],[1,6],[7],[8],[8,9],[8],[8,11],[8],[8,13],[8,12,14],[8],[8,16],[8,15,17],[8,10,18],[8,19]].getD i_ []) (dv := fun i_ => [[],[0],[],[2],[],[4],[3,5],[1,6],[7],[8],[8,9],[8],[8,11],[8],[8,13],[8,12,14],[8],[8,16],[8,15,17],[8,10,18],[8,19]].getD i_ []) (kd := fun i_ => [0,1,0,1,0,1,1,0,0,0,0,0,0,0,0,0,0,0,0,0,0].getD i_ 0) (ss := []) (l := [0,1,2,3,4,5,6,7,8,9,10,11,12,13,14,15,16,17,18,19,20]) (f0 := fun _ => undef) (A := ?A7) 21 rfl rfl (by decide +kernel) (by decide +kernel) ?_ ?_ ⟨?_,?_,?_,?_,?_,?_,?_,?_,?_,?_,?_,?_,?_,?_,?_,?_,?_,?_,?_,?_,?_,trivial⟩ ?_ ?_
   rotate_left
   ·exact KL.drew (KL.over (KL.new (KL.new (KL.nil w) rfl _ _) (by simp) _ _) hb1)
   ·exact fun _ _ _ _ => trivial
   ·intro o W _
    show wpOp _ _ _ 0 _ ⟨#[_,_,_,_,_,_,_,_,_,_,_,_,_,_,_,_,_,_,_,o 0,o 1,o 2,o 3,o 4,o 5,o 6,o 7,o 8,o 9,o 10,o 11,o 12,o 13,o 14,o 15,o 16,o 17,o 18,o 19,o 20],[]⟩ W
    refine wpOp_step rfl fun _ hK => ?_
    go_simp
    exact hK _ _ ⟨rfl,rfl⟩
   ·intro o W hj
    have hj : KL _ _ W := hj
    obtain ⟨cL,c0,c1,c2⟩ := bl3 (KL.blk hj (.head _))
    show wpOp _ _ _ 1 _ ⟨#[_,_,_,_,_,_,_,_,_,_,_,_,_,_,_,_,_,_,_,.pointer (some ⟨(w.heap.size + 1),1,none⟩),o 1,o 2,o 3,o 4,o 5,o 6,o 7,o 8,o 9,o 10,o 11,o 12,o 13,o 14,o 15,o 16,o 17,o 18,o 19,o 20],[]⟩ W
    refine wpOp_step rfl fun _ hK => ?_
    go_simp
    exact hK _ _ ⟨rfl,hj⟩
   ·intro o W _
    show wpOp _ _ _ 2 _ ⟨#[_,_,_,_,_,_,_,_,_,_,_,_,_,_,_,_,_,_,_,o 0,o 1,o 2,o 3,o 4,o 5,o 6,o 7,o 8,o 9,o 10,o 11,o 12,o 13,o 14,o 15,o 16,o 17,o 18,o 19,o 20],[]⟩ W
    refine wpOp_step rfl fun _ hK => ?_
    go_simp
    exact hK _ _ ⟨rfl,rfl⟩
   ·intro o W hj
    have hj : KL _ _ W := hj
    obtain ⟨cL,c0,c1,c2,c3,c4,c5⟩ := bl6 (KL.blk hj (.tail _ (.head _)))
    show wpOp _ _ _ 3 _ ⟨#[_,_,_,_,_,_,_,_,_,_,_,_,_,_,_,_,_,_,_,o 0,o 1,.pointer (some ⟨w.heap.size,0,none⟩),o 3,o 4,o 5,o 6,o 7,o 8,o 9,o 10,o 11,o 12,o 13,o 14,o 15,o 16,o 17,o 18,o 19,o 20],[]⟩ W
    refine wpOp_step rfl fun _ hK => ?_
    go_simp
    exact hK _ _ ⟨rfl,hj⟩
   ·intro o W _
    show wpOp _ _ _ 4 _ ⟨#[_,_,_,_,_,_,_,_,_,_,_,_,_,_,_,_,_,_,_,o 0,o 1,o 2,o 3,o 4,o 5,o 6,o 7,o 8,o 9,o 10,o 11,o 12,o 13,o 14,o 15,o 16,o 17,o 18,o 19,o 20],[]⟩ W
    refine wpOp_step rfl fun _ hK => ?_
    go_simp
    exact hK _ _ ⟨rfl,rfl⟩
   ·intro o W hj
    have hj : KL _ _ W := hj
    obtain ⟨cL,c0,c1,c2⟩ := bl3 (KL.blk hj (.head _))
    show wpOp _ _ _ 5 _ ⟨#[_,_,_,_,_,_,_,_,_,_,_,_,_,_,_,_,_,_,_,o 0,o 1,o 2,o 3,.pointer (some ⟨(w.heap.size + 1),0,none⟩),o 5,o 6,o 7,o 8,o 9,o 10,o 11,o 12,o 13,o 14,o 15,o 16,o 17,o 18,o 19,o 20],[]⟩ W
    refine wpOp_step rfl fun _ hK => ?_
    go_simp
    exact hK _ _ ⟨rfl,hj⟩
   ·intro o W hj
    have hj : KL _ _ W := hj
    show wpOp _ _ _ 6 _ ⟨#[_,_,_,_,_,_,_,_,_,_,_,_,_,_,_,_,_,_,_,o 0,o 1,o 2,.agg #[x,y,z],o 4,.int .i64 2,o 6,o 7,o 8,o 9,o 10,o 11,o 12,o 13,o 14,o 15,o 16,o 17,o 18,o 19,o 20],[]⟩ W
    refine wpOp_step rfl fun _ hK => ?_
    go_simp
    refine (get2 _ _ _ _).mono ?_
    rintro e W1 ⟨rfl,hb1⟩
    exact hK _ _ ⟨rfl,hj.over hb1⟩
   ·intro o W _
    show wpOp _ _ _ 7 _ ⟨#[_,_,_,_,_,_,_,_,_,_,_,_,_,_,_,_,_,_,_,o 0,.int .i64 t,o 2,o 3,o 4,o 5,.int .i64 z,o 7,o 8,o 9,o 10,o 11,o 12,o 13,o 14,o 15,o 16,o 17,o 18,o 19,o 20],[]⟩ W
    refine wpOp_step rfl fun _ hK => ?_
    go_simp
    exact hK _ _ ⟨rfl,rfl⟩
   ·intro o W _
    show wpOp _ _ _ 8 _ ⟨#[_,_,_,_,_,_,_,_,_,_,_,_,_,_,_,_,_,_,_,o 0,o 1,o 2,o 3,o 4,o 5,o 6,.bool true,o 8,o 9,o 10,o 11,o 12,o 13,o 14,o 15,o 16,o 17,o 18,o 19,o 20],[]⟩ W
    refine wpOp_step rfl fun _ hK => ?_
    go_simp
    exact hK _ _ ⟨rfl,rfl⟩
   ·intro o W _
    show wpOp _ _ _ 9 _ ⟨#[_,_,_,_,_,_,_,_,_,_,_,_,_,_,_,_,_,_,_,o 0,o 1,o 2,o 3,o 4,o 5,o 6,o 7,.bool true,o 9,o 10,o 11,o 12,o 13,o 14,o 15,o 16,o 17,o 18,o 19,o 20],[]⟩ W
    refine wpOp_step rfl fun _ hK => ?_
    go_simp
    exact hK _ _ ⟨rfl,rfl⟩
   ·intro o W _
    show wpOp _ _ _ 10 _ ⟨#[_,_,_,_,_,_,_,_,_,_,_,_,_,_,_,_,_,_,_,o 0,o 1,o 2,o 3,o 4,o 5,o 6,o 7,.bool true,undef,o 10,o 11,o 12,o 13,o 14,o 15,o 16,o 17,o 18,o 19,o 20],[]⟩ W
    refine wpOp_step rfl fun _ hK => ?_
    go_simp
    exact hK _ _ ⟨rfl,rfl⟩
   ·intro o W _
    show wpOp _ _ _ 11 _ ⟨#[_,_,_,_,_,_,_,_,_,_,_,_,_,_,_,_,_,_,_,o 0,o 1,o 2,o 3,o 4,o 5,o 6,o 7,.bool true,o 9,o 10,o 11,o 12,o 13,o 14,o 15,o 16,o 17,o 18,o 19,o 20],[]⟩ W
    refine wpOp_step rfl fun _ hK => ?_
    go_simp
    exact hK _ _ ⟨rfl,rfl⟩
   ·intro o W _
    show wpOp _ _ _ 12 _ ⟨#[_,_,_,_,_,_,_,_,_,_,_,_,_,_,_,_,_,_,_,o 0,o 1,o 2,o 3,o 4,o 5,o 6,o 7,.bool true,o 9,o 10,undef,o 12,o 13,o 14,o 15,o 16,o 17,o 18,o 19,o 20],[]⟩ W
    refine wpOp_step rfl fun _ hK => ?_
    go_simp
    exact hK _ _ ⟨rfl,rfl⟩
   ·intro o W _
    show wpOp _ _ _ 13 _ ⟨#[_,_,_,_,_,_,_,_,_,_,_,_,_,_,_,_,_,_,_,o 0,o 1,o 2,o 3,o 4,o 5,o 6,o 7,.bool true,o 9,o 10,o 11,o 12,o 13,o 14,o 15,o 16,o 17,o 18,o 19,o 20],[]⟩ W
    refine wpOp_step rfl fun _ hK => ?_
    go_simp
    exact hK _ _ ⟨rfl,rfl⟩
   ·intro o W _
    show wpOp _ _ _ 14 _ ⟨#[_,_,_,_,_,_,_,_,_,_,_,_,_,_,_,_,_,_,_,o 0,o 1,o 2,o 3,o 4,o 5,o 6,o 7,.bool true,o 9,o 10,o 11,o 12,undef,o 14,o 15,o 16,o 17,o 18,o 19,o 20],[]⟩ W
    refine wpOp_step rfl fun _ hK => ?_
    go_simp
    exact hK _ _ ⟨rfl,rfl⟩
   ·intro o W _
    show wpOp _ _ _ 15 _ ⟨#[_,_,_,_,_,_,_,_,_,_,_,_,_,_,_,_,_,_,_,o 0,o 1,o 2,o 3,o 4,o 5,o 6,o 7,.bool true,o 9,o 10,o 11,undef,o 13,undef,o 15,o 16,o 17,o 18,o 19,o 20],[]⟩ W
    refine wpOp_step rfl fun _ hK => ?_
    go_simp
    exact hK _ _ ⟨rfl,rfl⟩
   ·intro o W _
    show wpOp _ _ _ 16 _ ⟨#[_,_,_,_,_,_,_,_,_,_,_,_,_,_,_,_,_,_,_,o 0,o 1,o 2,o 3,o 4,o 5,o 6,o 7,.bool true,o 9,o 10,o 11,o 12,o 13,o 14,o 15,o 16,o 17,o 18,o 19,o 20],[]⟩ W
    refine wpOp_step rfl fun _ hK => ?_
    go_simp
    exact hK _ _ ⟨rfl,rfl⟩
   ·intro o W _
    show wpOp _ _ _ 17 _ ⟨#[_,_,_,_,_,_,_,_,_,_,_,_,_,_,_,_,_,_,_,o 0,o 1,o 2,o 3,o 4,o 5,o 6,o 7,.bool true,o 9,o 10,o 11,o 12,o 13,o 14,o 15,undef,o 17,o 18,o 19,o 20],[]⟩ W
    refine wpOp_step rfl fun _ hK => ?_
    go_simp
    exact hK _ _ ⟨rfl,rfl⟩
   ·intro o W _
    show wpOp _ _ _ 18 _ ⟨#[_,_,_,_,_,_,_,_,_,_,_,_,_,_,_,_,_,_,_,o 0,o 1,o 2,o 3,o 4,o 5,o 6,o 7,.bool true,o 9,o 10,o 11,o 12,o 13,o 14,undef,o 16,undef,o 18,o 19,o 20],[]⟩ W
    refine wpOp_step rfl fun _ hK => ?_
    go_simp
    exact hK _ _ ⟨rfl,rfl⟩
   ·intro o W _
    show wpOp _ _ _ 19 _ ⟨#[_,_,_,_,_,_,_,_,_,_,_,_,_,_,_,_,_,_,_,o 0,o 1,o 2,o 3,o 4,o 5,o 6,o 7,.bool true,o 9,undef,o 11,o 12,o 13,o 14,o 15,o 16,o 17,undef,o 19,o 20],[]⟩ W
    refine wpOp_step rfl fun _ hK => ?_
    go_simp
    exact hK _ _ ⟨rfl,rfl⟩
   ·intro o W _
    show wpOp _ _ _ 20 _ ⟨#[_,_,_,_,_,_,_,_,_,_,_,_,_,_,_,_,_,_,_,o 0,o 1,o 2,o 3,o 4,o 5,o 6,o 7,.bool true,o 9,o 10,o 11,o 12,o 13,o 14,o 15,o 16,o 17,o 18,undef,o 20],[]⟩ W
    refine wpOp_step rfl fun _ hK => ?_
    go_simp
    exact hK _ _ ⟨rfl,rfl⟩
   ·intro o hh_
    have e0 : o 0 = .pointer (some ⟨(w.heap.size + 1),1,none⟩) := hh_ 0 (by decide)
    have e1 : o 1 = .int .i64 t := hh_ 1 (by decide)
    have e2 : o 2 = .pointer (some ⟨w.heap.size,0,none⟩) := hh_ 2 (by decide)
    have e3 : o 3 = .agg #[x,y,z] := hh_ 3 (by decide)
    have e4 : o 4 = .pointer (some ⟨(w.heap.size + 1),0,none⟩) := hh_ 4 (by decide)
    have e5 : o 5 = .int .i64 2 := hh_ 5 (by decide)
    have e6 : o 6 = .int .i64 z := hh_ 6 (by decide)
    have e7 : o 7 = .bool true := hh_ 7 (by decide)
    have e8 : o 8 = .bool true := hh_ 8 (by decide)
    have e9 : o 9 = undef := hh_ 9 (by decide)
    have e10 : o 10 = undef := hh_ 10 (by decide)
    have e11 : o 11 = undef := hh_ 11 (by decide)
    have e12 : o 12 = undef := hh_ 12 (by decide)
    have e13 : o 13 = undef := hh_ 13 (by decide)
    have e14 : o 14 = undef := hh_ 14 (by decide)
    have e15 : o 15 = undef := hh_ 15 (by decide)
    have e16 : o 16 = undef := hh_ 16 (by decide)
    have e17 : o 17 = undef := hh_ 17 (by decide)
    have e18 : o 18 = undef := hh_ 18 (by decide)
    have e19 : o 19 = undef := hh_ 19 (by decide)
    have e20 : o 20 = .bool true := hh_ 20 (by decide)
    rw [e0,e1,e2,e3,e4,e5,e6,e7,e8,e9,e10,e11,e12,e13,e14,e15,e16,e17,e18,e19,e20]
   ·intro W hj
    have hj : KL _ _ W := hj
    obtain ⟨cL0,c0_0,c0_1,c0_2⟩ := bl3 (KL.blk hj (.head _))
    obtain ⟨cL1,c1_0,c1_1,c1_2,c1_3,c1_4,c1_5⟩ := bl6 (KL.blk hj (.tail _ (.head _)))
    have hjb := hj.1
    have hjz := hjb.size
    go_wp2
    go_ret
    exact ⟨ret_int HE.out.symm,hjb⟩
  ·have d1 : decide (t ≤ z) = false := by simpa using h1
   by_cases h2 : r - k ≤ t
   ·have HE := Lib.hid (okI_12 (lo := z) (hi := r) h (.inr h2))
    clear h
    have d2 : decide (r - k ≤ t) = true := by simpa using h2
    go_enter Try.func13,Try.ntmps13
    go_wp2_with (first | (go_at_call 35; refine (hc _).mono ?_; rintro e w1 ⟨rfl,hb1⟩; obtain ⟨hc1,hf1⟩ := bcell hb1; have hz1 := hb1.size; (try simp at hz1); (try have y10 : w.heap.size < w1.heap.size := (by omega)); (try have y10p : w.heap.size < w1.heap.size + 1 := (by omega)); (try have y11 : w.heap.size + 1 < w1.heap.size := (by omega)); (try have y11p : w.heap.size + 1 < w1.heap.size + 1 := (by omega)); (try have y12 : w.heap.size + 1 + 1 < w1.heap.size := (by omega)); (try have y12p : w.heap.size + 1 + 1 < w1.heap.size + 1 := (by omega)); (try have y13 : w.heap.size + 1 + 1 + 1 < w1.heap.size := (by omega)); (try have y13p : w.heap.size + 1 + 1 + 1 < w1.heap.size + 1 := (by omega)); (try have y14 : w.heap.size + 1 + 1 + 1 + 1 < w1.heap.size := (by omega)); (try have y14p : w.heap.size + 1 + 1 + 1 + 1 < w1.heap.size + 1 := (by omega)); (try have v0x1 : w0.heap.size < w1.heap.size := (by omega)); (try have v0x1p : w0.heap.size < w1.heap.size + 1 := (by omega))) | (go_at_call 40; refine (rAxis_yes _ (by decide)).mono ?_; rintro e w' ⟨rfl,rfl⟩) | (go_at_call 25; refine (hk _).mono ?_; rintro e w' ⟨rfl,rfl⟩))
    refine wp_region_any (by kernel_rfl) ?_
    try (change wpAny _ _ _ _ _ _ _ (World.drew _))
    refine wpAny_vals (fr := fun o => #[.agg #[x,y,z,p,q,r],.agg #[.int .i64 2,t,k],.pointer (some ⟨w.heap.size,0,none⟩),.pointer (some ⟨(w.heap.size + 1),0,none⟩),.int .i64 0,.int .i64 0,.agg #[x,y,z,p,q,r],.int .i64 0,.int .i64 0,.bool false,undef,.pointer (some ⟨(w.heap.size + 1),0,none⟩),.int .i64 2,.bool true,.bool false,.pointer (some ⟨(w.heap.size + 1),2,none⟩),.int .i64 k,.bool true,.bool false,o 0,o 1,o 2,o 3,o 4,o 5,o 6,o 7,o 8,o 9,o 10,o 11,o 12,o 13,o 14,o 15,o 16,o 17,o 18,o 19,o 20]) (vals := fun i_ => ([.pointer (some ⟨(w.heap.size + 1),1,none⟩),.int .i64 t,.pointer (some ⟨w.heap.size,0,none⟩),.agg #[x,y,z],.pointer (some ⟨(w.heap.size + 1),0,none⟩),.int .i64 2,.int .i64 z,.bool false,.bool false,.pointer (some ⟨(w.heap.size + 1),1,none⟩),.int .i64 t,.pointer (some ⟨w.heap.size,3,none⟩),.agg #[p,q,r],.pointer (some ⟨(w.heap.size + 1),0,none⟩),.int .i64 2,.int .i64 r,.pointer (some ⟨(w.heap.size + 1),2,none⟩),.int .i64 k,.int .i64 (r - k),.bool true,.bool true] : List Value).getD i_ undef) (Kf := fun _ => True) (K := fun kk_ => ([(KL [((w.heap.size + 1),27,#[.int .i64 2,t,k]),(w.heap.size,25,#[x,y,z,p,q,r])] w)] : List (World → Prop)).getD kk_ (fun _ => True)) (dep := fun i_ => [[],[0],[],[2],[],[4],[3,5],[1,6],[7],[8],[8,9],[8],[8,11],[8],[8,13],[8,12,14],[8],[8,16],[8,15,17],[8,10,18],[8,19]].getD i_ []) (dv := fun i_ => [[],[0],[],[2],[],[4],[3,5],[1,6],[7],[8],[8,9],[8],[8,11],[8],[8,13],[8,12,14],[8],[8,16],[8,15,17],[8,10,18],[8,19]].getD i_ []) (kd := fun i_ => [0,1,0,1,0,1,1,0,0,0,1,0,1,0,1,1,0,1,0,0,0].getD i_ 0) (ss := []) (l := [0,1,2,3,4,5,6,7,8,9,10,11,12,13,14,15,16,17,18,19,20]) (f0 := fun _ => undef) (A := ?A8) 21 rfl rfl (by decide +kernel) (by decide +kernel) ?_ ?_ ⟨?_,?_,?_,?_,?_,?_,?_,?_,?_,?_,?_,?_,?_,?_,?_,?_,?_,?_,?_,?_,?_,trivial⟩ ?_ ?_
    rotate_left
    ·exact KL.drew (KL.over (KL.new (KL.new (KL.nil w) rfl _ _) (by simp) _ _) hb1)
    ·exact fun _ _ _ _ => trivial
    ·intro o W _
     show wpOp _ _ _ 0 _ ⟨#[_,_,_,_,_,_,_,_,_,_,_,_,_,_,_,_,_,_,_,o 0,o 1,o 2,o 3,o 4,o 5,o 6,o 7,o 8,o 9,o 10,o 11,o 12,o 13,o 14,o 15,o 16,o 17,o 18,o 19,o 20],[]⟩ W
     refine wpOp_step rfl fun _ hK => ?_
     go_simp
     exact hK _ _ ⟨rfl,rfl⟩
    ·intro o W hj
     have hj : KL _ _ W := hj
     obtain ⟨cL,c0,c1,c2⟩ := bl3 (KL.blk hj (.head _))
     show wpOp _ _ _ 1 _ ⟨#[_,_,_,_,_,_,_,_,_,_,_,_,_,_,_,_,_,_,_,.pointer (some ⟨(w.heap.size + 1),1,none⟩),o 1,o 2,o 3,o 4,o 5,o 6,o 7,o 8,o 9,o 10,o 11,o 12,o 13,o 14,o 15,o 16,o 17,o 18,o 19,o 20],[]⟩ W
     refine wpOp_step rfl fun _ hK => ?_
     go_simp
     exact hK _ _ ⟨rfl,hj⟩
    ·intro o W _
     show wpOp _ _ _ 2 _ ⟨#[_,_,_,_,_,_,_,_,_,_,_,_,_,_,_,_,_,_,_,o 0,o 1,o 2,o 3,o 4,o 5,o 6,o 7,o 8,o 9,o 10,o 11,o 12,o 13,o 14,o 15,o 16,o 17,o 18,o 19,o 20],[]⟩ W
     refine wpOp_step rfl fun _ hK => ?_
     go_simp
     exact hK _ _ ⟨rfl,rfl⟩
    ·intro o W hj
     have hj : KL _ _ W := hj
     obtain ⟨cL,c0,c1,c2,c3,c4,c5⟩ := bl6 (KL.blk hj (.tail _ (.head _)))
     show wpOp _ _ _ 3 _ ⟨#[_,_,_,_,_,_,_,_,_,_,_,_,_,_,_,_,_,_,_,o 0,o 1,.pointer (some ⟨w.heap.size,0,none⟩),o 3,o 4,o 5,o 6,o 7,o 8,o 9,o 10,o 11,o 12,o 13,o 14,o 15,o 16,o 17,o 18,o 19,o 20],[]⟩ W
     refine wpOp_step rfl fun _ hK => ?_
     go_simp
     exact hK _ _ ⟨rfl,hj⟩
    ·intro o W _
     show wpOp _ _ _ 4 _ ⟨#[_,_,_,_,_,_,_,_,_,_,_,_,_,_,_,_,_,_,_,o 0,o 1,o 2,o 3,o 4,o 5,o 6,o 7,o 8,o 9,o 10,o 11,o 12,o 13,o 14,o 15,o 16,o 17,o 18,o 19,o 20],[]⟩ W
     refine wpOp_step rfl fun _ hK => ?_
     go_simp
     exact hK _ _ ⟨rfl,rfl⟩
    ·intro o W hj
     have hj : KL _ _ W := hj
     obtain ⟨cL,c0,c1,c2⟩ := bl3 (KL.blk hj (.head _))
     show wpOp _ _ _ 5 _ ⟨#[_,_,_,_,_,_,_,_,_,_,_,_,_,_,_,_,_,_,_,o 0,o 1,o 2,o 3,.pointer (some ⟨(w.heap.size + 1),0,none⟩),o 5,o 6,o 7,o 8,o 9,o 10,o 11,o 12,o 13,o 14,o 15,o 16,o 17,o 18,o 19,o 20],[]⟩ W
     refine wpOp_step rfl fun _ hK => ?_
     go_simp
     exact hK _ _ ⟨rfl,hj⟩
    ·intro o W hj
     have hj : KL _ _ W := hj
     show wpOp _ _ _ 6 _ ⟨#[_,_,_,_,_,_,_,_,_,_,_,_,_,_,_,_,_,_,_,o 0,o 1,o 2,.agg #[x,y,z],o 4,.int .i64 2,o 6,o 7,o 8,o 9,o 10,o 11,o 12,o 13,o 14,o 15,o 16,o 17,o 18,o 19,o 20],[]⟩ W
     refine wpOp_step rfl fun _ hK => ?_
     go_simp
     refine (get2 _ _ _ _).mono ?_
     rintro e W1 ⟨rfl,hb1⟩
     exact hK _ _ ⟨rfl,hj.over hb1⟩
    ·intro o W _
     show wpOp _ _ _ 7 _ ⟨#[_,_,_,_,_,_,_,_,_,_,_,_,_,_,_,_,_,_,_,o 0,.int .i64 t,o 2,o 3,o 4,o 5,.int .i64 z,o 7,o 8,o 9,o 10,o 11,o 12,o 13,o 14,o 15,o 16,o 17,o 18,o 19,o 20],[]⟩ W
     refine wpOp_step rfl fun _ hK => ?_
     go_simp
     exact hK _ _ ⟨rfl,rfl⟩
    ·intro o W _
     show wpOp _ _ _ 8 _ ⟨#[_,_,_,_,_,_,_,_,_,_,_,_,_,_,_,_,_,_,_,o 0,o 1,o 2,o 3,o 4,o 5,o 6,.bool false,o 8,o 9,o 10,o 11,o 12,o 13,o 14,o 15,o 16,o 17,o 18,o 19,o 20],[]⟩ W
     refine wpOp_step rfl fun _ hK => ?_
     go_simp
     exact hK _ _ ⟨rfl,rfl⟩
    ·intro o W _
     show wpOp _ _ _ 9 _ ⟨#[_,_,_,_,_,_,_,_,_,_,_,_,_,_,_,_,_,_,_,o 0,o 1,o 2,o 3,o 4,o 5,o 6,o 7,.bool false,o 9,o 10,o 11,o 12,o 13,o 14,o 15,o 16,o 17,o 18,o 19,o 20],[]⟩ W
     refine wpOp_step rfl fun _ hK => ?_
     go_simp
     exact hK _ _ ⟨rfl,rfl⟩
    ·intro o W hj
     have hj : KL _ _ W := hj
     obtain ⟨cL,c0,c1,c2⟩ := bl3 (KL.blk hj (.head _))
     show wpOp _ _ _ 10 _ ⟨#[_,_,_,_,_,_,_,_,_,_,_,_,_,_,_,_,_,_,_,o 0,o 1,o 2,o 3,o 4,o 5,o 6,o 7,.bool false,.pointer (some ⟨(w.heap.size + 1),1,none⟩),o 10,o 11,o 12,o 13,o 14,o 15,o 16,o 17,o 18,o 19,o 20],[]⟩ W
     refine wpOp_step rfl fun _ hK => ?_
     go_simp
     exact hK _ _ ⟨rfl,hj⟩
    ·intro o W _
     show wpOp _ _ _ 11 _ ⟨#[_,_,_,_,_,_,_,_,_,_,_,_,_,_,_,_,_,_,_,o 0,o 1,o 2,o 3,o 4,o 5,o 6,o 7,.bool false,o 9,o 10,o 11,o 12,o 13,o 14,o 15,o 16,o 17,o 18,o 19,o 20],[]⟩ W
     refine wpOp_step rfl fun _ hK => ?_
     go_simp
     exact hK _ _ ⟨rfl,rfl⟩
    ·intro o W hj
     have hj : KL _ _ W := hj
     obtain ⟨cL,c0,c1,c2,c3,c4,c5⟩ := bl6 (KL.blk hj (.tail _ (.head _)))
     show wpOp _ _ _ 12 _ ⟨#[_,_,_,_,_,_,_,_,_,_,_,_,_,_,_,_,_,_,_,o 0,o 1,o 2,o 3,o 4,o 5,o 6,o 7,.bool false,o 9,o 10,.pointer (some ⟨w.heap.size,3,none⟩),o 12,o 13,o 14,o 15,o 16,o 17,o 18,o 19,o 20],[]⟩ W
     refine wpOp_step rfl fun _ hK => ?_
     go_simp
     exact hK _ _ ⟨rfl,hj⟩
    ·intro o W _
     show wpOp _ _ _ 13 _ ⟨#[_,_,_,_,_,_,_,_,_,_,_,_,_,_,_,_,_,_,_,o 0,o 1,o 2,o 3,o 4,o 5,o 6,o 7,.bool false,o 9,o 10,o 11,o 12,o 13,o 14,o 15,o 16,o 17,o 18,o 19,o 20],[]⟩ W
     refine wpOp_step rfl fun _ hK => ?_
     go_simp
     exact hK _ _ ⟨rfl,rfl⟩
    ·intro o W hj
     have hj : KL _ _ W := hj
     obtain ⟨cL,c0,c1,c2⟩ := bl3 (KL.blk hj (.head _))
     show wpOp _ _ _ 14 _ ⟨#[_,_,_,_,_,_,_,_,_,_,_,_,_,_,_,_,_,_,_,o 0,o 1,o 2,o 3,o 4,o 5,o 6,o 7,.bool false,o 9,o 10,o 11,o 12,.pointer (some ⟨(w.heap.size + 1),0,none⟩),o 14,o 15,o 16,o 17,o 18,o 19,o 20],[]⟩ W
     refine wpOp_step rfl fun _ hK => ?_
     go_simp
     exact hK _ _ ⟨rfl,hj⟩
    ·intro o W hj
     have hj : KL _ _ W := hj
     show wpOp _ _ _ 15 _ ⟨#[_,_,_,_,_,_,_,_,_,_,_,_,_,_,_,_,_,_,_,o 0,o 1,o 2,o 3,o 4,o 5,o 6,o 7,.bool false,o 9,o 10,o 11,.agg #[p,q,r],o 13,.int .i64 2,o 15,o 16,o 17,o 18,o 19,o 20],[]⟩ W
     refine wpOp_step rfl fun _ hK => ?_
     go_simp
     refine (get2 _ _ _ _).mono ?_
     rintro e W1 ⟨rfl,hb1⟩
     exact hK _ _ ⟨rfl,hj.over hb1⟩
    ·intro o W _
     show wpOp _ _ _ 16 _ ⟨#[_,_,_,_,_,_,_,_,_,_,_,_,_,_,_,_,_,_,_,o 0,o 1,o 2,o 3,o 4,o 5,o 6,o 7,.bool false,o 9,o 10,o 11,o 12,o 13,o 14,o 15,o 16,o 17,o 18,o 19,o 20],[]⟩ W
     refine wpOp_step rfl fun _ hK => ?_
     go_simp
     exact hK _ _ ⟨rfl,rfl⟩
    ·intro o W hj
     have hj : KL _ _ W := hj
     obtain ⟨cL,c0,c1,c2⟩ := bl3 (KL.blk hj (.head _))
     show wpOp _ _ _ 17 _ ⟨#[_,_,_,_,_,_,_,_,_,_,_,_,_,_,_,_,_,_,_,o 0,o 1,o 2,o 3,o 4,o 5,o 6,o 7,.bool false,o 9,o 10,o 11,o 12,o 13,o 14,o 15,.pointer (some ⟨(w.heap.size + 1),2,none⟩),o 17,o 18,o 19,o 20],[]⟩ W
     refine wpOp_step rfl fun _ hK => ?_
     go_simp
     exact hK _ _ ⟨rfl,hj⟩
    ·intro o W _
     show wpOp _ _ _ 18 _ ⟨#[_,_,_,_,_,_,_,_,_,_,_,_,_,_,_,_,_,_,_,o 0,o 1,o 2,o 3,o 4,o 5,o 6,o 7,.bool false,o 9,o 10,o 11,o 12,o 13,o 14,.int .i64 r,o 16,.int .i64 k,o 18,o 19,o 20],[]⟩ W
     refine wpOp_step rfl fun _ hK => ?_
     go_simp
     exact hK _ _ ⟨rfl,rfl⟩
    ·intro o W _
     show wpOp _ _ _ 19 _ ⟨#[_,_,_,_,_,_,_,_,_,_,_,_,_,_,_,_,_,_,_,o 0,o 1,o 2,o 3,o 4,o 5,o 6,o 7,.bool false,o 9,.int .i64 t,o 11,o 12,o 13,o 14,o 15,o 16,o 17,.int .i64 (r - k),o 19,o 20],[]⟩ W
     refine wpOp_step rfl fun _ hK => ?_
     go_simp
     exact hK _ _ ⟨rfl,rfl⟩
    ·intro o W _
     show wpOp _ _ _ 20 _ ⟨#[_,_,_,_,_,_,_,_,_,_,_,_,_,_,_,_,_,_,_,o 0,o 1,o 2,o 3,o 4,o 5,o 6,o 7,.bool false,o 9,o 10,o 11,o 12,o 13,o 14,o 15,o 16,o 17,o 18,.bool true,o 20],[]⟩ W
     refine wpOp_step rfl fun _ hK => ?_
     go_simp
     exact hK _ _ ⟨rfl,rfl⟩
    ·intro o hh_
     have e0 : o 0 = .pointer (some ⟨(w.heap.size + 1),1,none⟩) := hh_ 0 (by decide)
     have e1 : o 1 = .int .i64 t := hh_ 1 (by decide)
     have e2 : o 2 = .pointer (some ⟨w.heap.size,0,none⟩) := hh_ 2 (by decide)
     have e3 : o 3 = .agg #[x,y,z] := hh_ 3 (by decide)
     have e4 : o 4 = .pointer (some ⟨(w.heap.size + 1),0,none⟩) := hh_ 4 (by decide)
     have e5 : o 5 = .int .i64 2 := hh_ 5 (by decide)
     have e6 : o 6 = .int .i64 z := hh_ 6 (by decide)
     have e7 : o 7 = .bool false := hh_ 7 (by decide)
     have e8 : o 8 = .bool false := hh_ 8 (by decide)
     have e9 : o 9 = .pointer (some ⟨(w.heap.size + 1),1,none⟩) := hh_ 9 (by decide)
     have e10 : o 10 = .int .i64 t := hh_ 10 (by decide)
     have e11 : o 11 = .pointer (some ⟨w.heap.size,3,none⟩) := hh_ 11 (by decide)
     have e12 : o 12 = .agg #[p,q,r] := hh_ 12 (by decide)
     have e13 : o 13 = .pointer (some ⟨(w.heap.size + 1),0,none⟩) := hh_ 13 (by decide)
     have e14 : o 14 = .int .i64 2 := hh_ 14 (by decide)
     have e15 : o 15 = .int .i64 r := hh_ 15 (by decide)
     have e16 : o 16 = .pointer (some ⟨(w.heap.size + 1),2,none⟩) := hh_ 16 (by decide)
     have e17 : o 17 = .int .i64 k := hh_ 17 (by decide)
     have e18 : o 18 = .int .i64 (r - k) := hh_ 18 (by decide)
     have e19 : o 19 = .bool true := hh_ 19 (by decide)
     have e20 : o 20 = .bool true := hh_ 20 (by decide)
     rw [e0,e1,e2,e3,e4,e5,e6,e7,e8,e9,e10,e11,e12,e13,e14,e15,e16,e17,e18,e19,e20]
    ·intro W hj
     have hj : KL _ _ W := hj
     obtain ⟨cL0,c0_0,c0_1,c0_2⟩ := bl3 (KL.blk hj (.head _))
     obtain ⟨cL1,c1_0,c1_1,c1_2,c1_3,c1_4,c1_5⟩ := bl6 (KL.blk hj (.tail _ (.head _)))
     have hjb := hj.1
     have hjz := hjb.size
     go_wp2
     go_ret
     exact ⟨ret_int HE.out.symm,hjb⟩
   ·have HE := Lib.hid (okI_0 (lo := z) (hi := r) h h1 h2)
    clear h
    have d2 : decide (r - k ≤ t) = false := by simpa using h2
    go_enter Try.func13,Try.ntmps13
    go_wp2_with (first | (go_at_call 35; refine (hc _).mono ?_; rintro e w1 ⟨rfl,hb1⟩; obtain ⟨hc1,hf1⟩ := bcell hb1; have hz1 := hb1.size; (try simp at hz1); (try have y10 : w.heap.size < w1.heap.size := (by omega)); (try have y10p : w.heap.size < w1.heap.size + 1 := (by omega)); (try have y11 : w.heap.size + 1 < w1.heap.size := (by omega)); (try have y11p : w.heap.size + 1 < w1.heap.size + 1 := (by omega)); (try have y12 : w.heap.size + 1 + 1 < w1.heap.size := (by omega)); (try have y12p : w.heap.size + 1 + 1 < w1.heap.size + 1 := (by omega)); (try have y13 : w.heap.size + 1 + 1 + 1 < w1.heap.size := (by omega)); (try have y13p : w.heap.size + 1 + 1 + 1 < w1.heap.size + 1 := (by omega)); (try have y14 : w.heap.size + 1 + 1 + 1 + 1 < w1.heap.size := (by omega)); (try have y14p : w.heap.size + 1 + 1 + 1 + 1 < w1.heap.size + 1 := (by omega)); (try have v0x1 : w0.heap.size < w1.heap.size := (by omega)); (try have v0x1p : w0.heap.size < w1.heap.size + 1 := (by omega))) | (go_at_call 40; refine (rAxis_yes _ (by decide)).mono ?_; rintro e w' ⟨rfl,rfl⟩) | (go_at_call 25; refine (hk _).mono ?_; rintro e w' ⟨rfl,rfl⟩))
    refine wp_region_any (by kernel_rfl) ?_
    try (change wpAny _ _ _ _ _ _ _ (World.drew _))
    refine wpAny_vals (fr := fun o => #[.agg #[x,y,z,p,q,r],.agg #[.int .i64 2,t,k],.pointer (some ⟨w.heap.size,0,none⟩),.pointer (some ⟨(w.heap.size + 1),0,none⟩),.int .i64 0,.int .i64 0,.agg #[x,y,z,p,q,r],.int .i64 0,.int .i64 0,.bool false,undef,.pointer (some ⟨(w.heap.size + 1),0,none⟩),.int .i64 2,.bool true,.bool false,.pointer (some ⟨(w.heap.size + 1),2,none⟩),.int .i64 k,.bool true,.bool false,o 0,o 1,o 2,o 3,o 4,o 5,o 6,o 7,o 8,o 9,o 10,o 11,o 12,o 13,o 14,o 15,o 16,o 17,o 18,o 19,o 20]) (vals := fun i_ => ([.pointer (some ⟨(w.heap.size + 1),1,none⟩),.int .i64 t,.pointer (some ⟨w.heap.size,0,none⟩),.agg #[x,y,z],.pointer (some ⟨(w.heap.size + 1),0,none⟩),.int .i64 2,.int .i64 z,.bool false,.bool false,.pointer (some ⟨(w.heap.size + 1),1,none⟩),.int .i64 t,.pointer (some ⟨w.heap.size,3,none⟩),.agg #[p,q,r],.pointer (some ⟨(w.heap.size + 1),0,none⟩),.int .i64 2,.int .i64 r,.pointer (some ⟨(w.heap.size + 1),2,none⟩),.int .i64 k,.int .i64 (r - k),.bool false,.bool false] : List Value).getD i_ undef) (Kf := fun _ => True) (K := fun kk_ => ([(KL [((w.heap.size + 1),27,#[.int .i64 2,t,k]),(w.heap.size,25,#[x,y,z,p,q,r])] w)] : List (World → Prop)).getD kk_ (fun _ => True)) (dep := fun i_ => [[],[0],[],[2],[],[4],[3,5],[1,6],[7],[8],[8,9],[8],[8,11],[8],[8,13],[8,12,14],[8],[8,16],[8,15,17],[8,10,18],[8,19]].getD i_ []) (dv := fun i_ => [[],[0],[],[2],[],[4],[3,5],[1,6],[7],[8],[8,9],[8],[8,11],[8],[8,13],[8,12,14],[8],[8,16],[8,15,17],[8,10,18],[8,19]].getD i_ []) (kd := fun i_ => [0,1,0,1,0,1,1,0,0,0,1,0,1,0,1,1,0,1,0,0,0].getD i_ 0) (ss := []) (l := [0,1,2,3,4,5,6,7,8,9,10,11,12,13,14,15,16,17,18,19,20]) (f0 := fun _ => undef) (A := ?A9) 21 rfl rfl (by decide +kernel) (by decide +kernel) ?_ ?_ ⟨?_,?_,?_,?_,?_,?_,?_,?_,?_,?_,?_,?_,?_,?_,?_,?_,?_,?_,?_,?_,?_,trivial⟩ ?_ ?_
    rotate_left
    ·exact KL.drew (KL.over (KL.new (KL.new (KL.nil w) rfl _ _) (by simp) _ _) hb1)
    ·exact fun _ _ _ _ => trivial
    ·intro o W _
     show wpOp _ _ _ 0 _ ⟨#[_,_,_,_,_,_,_,_,_,_,_,_,_,_,_,_,_,_,_,o 0,o 1,o 2,o 3,o 4,o 5,o 6,o 7,o 8,o 9,o 10,o 11,o 12,o 13,o 14,o 15,o 16,o 17,o 18,o 19,o 20],[]⟩ W
     refine wpOp_step rfl fun _ hK => ?_
     go_simp
     exact hK _ _ ⟨rfl,rfl⟩
    ·intro o W hj
     have hj : KL _ _ W := hj
     obtain ⟨cL,c0,c1,c2⟩ := bl3 (KL.blk hj (.head _))
     show wpOp _ _ _ 1 _ ⟨#[_,_,_,_,_,_,_,_,_,_,_,_,_,_,_,_,_,_,_,.pointer (some ⟨(w.heap.size + 1),1,none⟩),o 1,o 2,o 3,o 4,o 5,o 6,o 7,o 8,o 9,o 10,o 11,o 12,o 13,o 14,o 15,o 16,o 17,o 18,o 19,o 20],[]⟩ W
     refine wpOp_step rfl fun _ hK => ?_
     go_simp
     exact hK _ _ ⟨rfl,hj⟩
    ·intro o W _
     show wpOp _ _ _ 2 _ ⟨#[_,_,_,_,_,_,_,_,_,_,_,_,_,_,_,_,_,_,_,o 0,o 1,o 2,o 3,o 4,o 5,o 6,o 7,o 8,o 9,o 10,o 11,o 12,o 13,o 14,o 15,o 16,o 17,o 18,o 19,o 20],[]⟩ W
     refine wpOp_step rfl fun _ hK => ?_
     go_simp
     exact hK _ _ ⟨rfl,rfl⟩
    ·intro o W hj
     have hj : KL _ _ W := hj
     obtain ⟨cL,c0,c1,c2,c3,c4,c5⟩ := bl6 (KL.blk hj (.tail _ (.head _)))
     show wpOp _ _ _ 3 _ ⟨#[_,_,_,_,_,_,_,_,_,_,_,_,_,_,_,_,_,_,_,o 0,o 1,.pointer (some ⟨w.heap.size,0,none⟩),o 3,o 4,o 5,o 6,o 7,o 8,o 9,o 10,o 11,o 12,o 13,o 14,o 15,o 16,o 17,o 18,o 19,o 20],[]⟩ W
     refine wpOp_step rfl fun _ hK => ?_
     go_simp
     exact hK _ _ ⟨rfl,hj⟩
    ·intro o W _
     show wpOp _ _ _ 4 _ ⟨#[_,_,_,_,_,_,_,_,_,_,_,_,_,_,_,_,_,_,_,o 0,o 1,o 2,o 3,o 4,o 5,o 6,o 7,o 8,o 9,o 10,o 11,o 12,o 13,o 14,o 15,o 16,o 17,o 18,o 19,o 20],[]⟩ W
     refine wpOp_step rfl fun _ hK => ?_
     go_simp
     exact hK _ _ ⟨rfl,rfl⟩
    ·intro o W hj
     have hj : KL _ _ W := hj
     obtain ⟨cL,c0,c1,c2⟩ := bl3 (KL.blk hj (.head _))
     show wpOp _ _ _ 5 _ ⟨#[_,_,_,_,_,_,_,_,_,_,_,_,_,_,_,_,_,_,_,o 0,o 1,o 2,o 3,.pointer (some ⟨(w.heap.size + 1),0,none⟩),o 5,o 6,o 7,o 8,o 9,o 10,o 11,o 12,o 13,o 14,o 15,o 16,o 17,o 18,o 19,o 20],[]⟩ W
     refine wpOp_step rfl fun _ hK => ?_
     go_simp
     exact hK _ _ ⟨rfl,hj⟩
    ·intro o W hj
     have hj : KL _ _ W := hj
     show wpOp _ _ _ 6 _ ⟨#[_,_,_,_,_,_,_,_,_,_,_,_,_,_,_,_,_,_,_,o 0,o 1,o 2,.agg #[x,y,z],o 4,.int .i64 2,o 6,o 7,o 8,o 9,o 10,o 11,o 12,o 13,o 14,o 15,o 16,o 17,o 18,o 19,o 20],[]⟩ W
     refine wpOp_step rfl fun _ hK => ?_
     go_simp
     refine (get2 _ _ _ _).mono ?_
     rintro e W1 ⟨rfl,hb1⟩
     exact hK _ _ ⟨rfl,hj.over hb1⟩
    ·intro o W _
     show wpOp _ _ _ 7 _ ⟨#[_,_,_,_,_,_,_,_,_,_,_,_,_,_,_,_,_,_,_,o 0,.int .i64 t,o 2,o 3,o 4,o 5,.int .i64 z,o 7,o 8,o 9,o 10,o 11,o 12,o 13,o 14,o 15,o 16,o 17,o 18,o 19,o 20],[]⟩ W
     refine wpOp_step rfl fun _ hK => ?_
     go_simp
     exact hK _ _ ⟨rfl,rfl⟩
    ·intro o W _
     show wpOp _ _ _ 8 _ ⟨#[_,_,_,_,_,_,_,_,_,_,_,_,_,_,_,_,_,_,_,o 0,o 1,o 2,o 3,o 4,o 5,o 6,.bool false,o 8,o 9,o 10,o 11,o 12,o 13,o 14,o 15,o 16,o 17,o 18,o 19,o 20],[]⟩ W
     refine wpOp_step rfl fun _ hK => ?_
     go_simp
     exact hK _ _ ⟨rfl,rfl⟩
    ·intro o W _
     show wpOp _ _ _ 9 _ ⟨#[_,_,_,_,_,_,_,_,_,_,_,_,_,_,_,_,_,_,_,o 0,o 1,o 2,o 3,o 4,o 5,o 6,o 7,.bool false,o 9,o 10,o 11,o 12,o 13,o 14,o 15,o 16,o 17,o 18,o 19,o 20],[]⟩ W
     refine wpOp_step rfl fun _ hK => ?_
     go_simp
     exact hK _ _ ⟨rfl,rfl⟩
    ·intro o W hj
     have hj : KL _ _ W := hj
     obtain ⟨cL,c0,c1,c2⟩ := bl3 (KL.blk hj (.head _))
     show wpOp _ _ _ 10 _ ⟨#[_,_,_,_,_,_,_,_,_,_,_,_,_,_,_,_,_,_,_,o 0,o 1,o 2,o 3,o 4,o 5,o 6,o 7,.bool false,.pointer (some ⟨(w.heap.size + 1),1,none⟩),o 10,o 11,o 12,o 13,o 14,o 15,o 16,o 17,o 18,o 19,o 20],[]⟩ W
     refine wpOp_step rfl fun _ hK => ?_
     go_simp
     exact hK _ _ ⟨rfl,hj⟩
    ·intro o W _
     show wpOp _ _ _ 11 _ ⟨#[_,_,_,_,_,_,_,_,_,_,_,_,_,_,_,_,_,_,_,o 0,o 1,o 2,o 3,o 4,o 5,o 6,o 7,.bool false,o 9,o 10,o 11,o 12,o 13,o 14,o 15,o 16,o 17,o 18,o 19,o 20],[]⟩ W
     refine wpOp_step rfl fun _ hK => ?_
     go_simp
     exact hK _ _ ⟨rfl,rfl⟩
    ·intro o W hj
     have hj : KL _ _ W := hj
     obtain ⟨cL,c0,c1,c2,c3,c4,c5⟩ := bl6 (KL.blk hj (.tail _ (.head _)))
     show wpOp _ _ _ 12 _ ⟨#[_,_,_,_,_,_,_,_,_,_,_,_,_,_,_,_,_,_,_,o 0,o 1,o 2,o 3,o 4,o 5,o 6,o 7,.bool false,o 9,o 10,.pointer (some ⟨w.heap.size,3,none⟩),o 12,o 13,o 14,o 15,o 16,o 17,o 18,o 19,o 20],[]⟩ W
     refine wpOp_step rfl fun _ hK => ?_
     go_simp
     exact hK _ _ ⟨rfl,hj⟩
    ·intro o W _
     show wpOp _ _ _ 13 _ ⟨#[_,_,_,_,_,_,_,_,_,_,_,_,_,_,_,_,_,_,_,o 0,o 1,o 2,o 3,o 4,o 5,o 6,o 7,.bool false,o 9,o 10,o 11,o 12,o 13,o 14,o 15,o 16,o 17,o 18,o 19,o 20],[]⟩ W
     refine wpOp_step rfl fun _ hK => ?_
     go_simp
     exact hK _ _ ⟨rfl,rfl⟩
    ·intro o W hj
     have hj : KL _ _ W := hj
     obtain ⟨cL,c0,c1,c2⟩ := bl3 (KL.blk hj (.head _))
     show wpOp _ _ _ 14 _ ⟨#[_,_,_,_,_,_,_,_,_,_,_,_,_,_,_,_,_,_,_,o 0,o 1,o 2,o 3,o 4,o 5,o 6,o 7,.bool false,o 9,o 10,o 11,o 12,.pointer (some ⟨(w.heap.size + 1),0,none⟩),o 14,o 15,o 16,o 17,o 18,o 19,o 20],[]⟩ W
     refine wpOp_step rfl fun _ hK => ?_
     go_simp
     exact hK _ _ ⟨rfl,hj⟩
    ·intro o W hj
     have hj : KL _ _ W := hj
     show wpOp _ _ _ 15 _ ⟨#[_,_,_,_,_,_,_,_,_,_,_,_,_,_,_,_,_,_,_,o 0,o 1,o 2,o 3,o 4,o 5,o 6,o 7,.bool false,o 9,o 10,o 11,.agg #[p,q,r],o 13,.int .i64 2,o 15,o 16,o 17,o 18,o 19,o 20],[]⟩ W
     refine wpOp_step rfl fun _ hK => ?_
     go_simp
     refine (get2 _ _ _ _).mono ?_
     rintro e W1 ⟨rfl,hb1⟩
     exact hK _ _ ⟨rfl,hj.over hb1⟩
    ·intro o W _
     show wpOp _ _ _ 16 _ ⟨#[_,_,_,_,_,_,_,_,_,_,_,_,_,_,_,_,_,_,_,o 0,o 1,o 2,o 3,o 4,o 5,o 6,o 7,.bool false,o 9,o 10,o 11,o 12,o 13,o 14,o 15,o 16,o 17,o 18,o 19,o 20],[]⟩ W
     refine wpOp_step rfl fun _ hK => ?_
     go_simp
     exact hK _ _ ⟨rfl,rfl⟩
    ·intro o W hj
     have hj : KL _ _ W := hj
     obtain ⟨cL,c0,c1,c2⟩ := bl3 (KL.blk hj (.head _))
     show wpOp _ _ _ 17 _ ⟨#[_,_,_,_,_,_,_,_,_,_,_,_,_,_,_,_,_,_,_,o 0,o 1,o 2,o 3,o 4,o 5,o 6,o 7,.bool false,o 9,o 10,o 11,o 12,o 13,o 14,o 15,.pointer (some ⟨(w.heap.size + 1),2,none⟩),o 17,o 18,o 19,o 20],[]⟩ W
     refine wpOp_step rfl fun _ hK => ?_
     go_simp
     exact hK _ _ ⟨rfl,hj⟩
    ·intro o W _
     show wpOp _ _ _ 18 _ ⟨#[_,_,_,_,_,_,_,_,_,_,_,_,_,_,_,_,_,_,_,o 0,o 1,o 2,o 3,o 4,o 5,o 6,o 7,.bool false,o 9,o 10,o 11,o 12,o 13,o 14,.int .i64 r,o 16,.int .i64 k,o 18,o 19,o 20],[]⟩ W
     refine wpOp_step rfl fun _ hK => ?_
     go_simp
     exact hK _ _ ⟨rfl,rfl⟩
    ·intro o W _
     show wpOp _ _ _ 19 _ ⟨#[_,_,_,_,_,_,_,_,_,_,_,_,_,_,_,_,_,_,_,o 0,o 1,o 2,o 3,o 4,o 5,o 6,o 7,.bool false,o 9,.int .i64 t,o 11,o 12,o 13,o 14,o 15,o 16,o 17,.int .i64 (r - k),o 19,o 20],[]⟩ W
     refine wpOp_step rfl fun _ hK => ?_
     go_simp
     exact hK _ _ ⟨rfl,rfl⟩
    ·intro o W _
     show wpOp _ _ _ 20 _ ⟨#[_,_,_,_,_,_,_,_,_,_,_,_,_,_,_,_,_,_,_,o 0,o 1,o 2,o 3,o 4,o 5,o 6,o 7,.bool false,o 9,o 10,o 11,o 12,o 13,o 14,o 15,o 16,o 17,o 18,.bool false,o 20],[]⟩ W
     refine wpOp_step rfl fun _ hK => ?_
     go_simp
     exact hK _ _ ⟨rfl,rfl⟩
    ·intro o hh_
     have e0 : o 0 = .pointer (some ⟨(w.heap.size + 1),1,none⟩) := hh_ 0 (by decide)
     have e1 : o 1 = .int .i64 t := hh_ 1 (by decide)
     have e2 : o 2 = .pointer (some ⟨w.heap.size,0,none⟩) := hh_ 2 (by decide)
     have e3 : o 3 = .agg #[x,y,z] := hh_ 3 (by decide)
     have e4 : o 4 = .pointer (some ⟨(w.heap.size + 1),0,none⟩) := hh_ 4 (by decide)
     have e5 : o 5 = .int .i64 2 := hh_ 5 (by decide)
     have e6 : o 6 = .int .i64 z := hh_ 6 (by decide)
     have e7 : o 7 = .bool false := hh_ 7 (by decide)
     have e8 : o 8 = .bool false := hh_ 8 (by decide)
     have e9 : o 9 = .pointer (some ⟨(w.heap.size + 1),1,none⟩) := hh_ 9 (by decide)
     have e10 : o 10 = .int .i64 t := hh_ 10 (by decide)
     have e11 : o 11 = .pointer (some ⟨w.heap.size,3,none⟩) := hh_ 11 (by decide)
     have e12 : o 12 = .agg #[p,q,r] := hh_ 12 (by decide)
     have e13 : o 13 = .pointer (some ⟨(w.heap.size + 1),0,none⟩) := hh_ 13 (by decide)
     have e14 : o 14 = .int .i64 2 := hh_ 14 (by decide)
     have e15 : o 15 = .int .i64 r := hh_ 15 (by decide)
     have e16 : o 16 = .pointer (some ⟨(w.heap.size + 1),2,none⟩) := hh_ 16 (by decide)
     have e17 : o 17 = .int .i64 k := hh_ 17 (by decide)
     have e18 : o 18 = .int .i64 (r - k) := hh_ 18 (by decide)
     have e19 : o 19 = .bool false := hh_ 19 (by decide)
     have e20 : o 20 = .bool false := hh_ 20 (by decide)
     rw [e0,e1,e2,e3,e4,e5,e6,e7,e8,e9,e10,e11,e12,e13,e14,e15,e16,e17,e18,e19,e20]
    ·intro W hj
     have hj : KL _ _ W := hj
     obtain ⟨cL0,c0_0,c0_1,c0_2⟩ := bl3 (KL.blk hj (.head _))
     obtain ⟨cL1,c1_0,c1_1,c1_2,c1_3,c1_4,c1_5⟩ := bl6 (KL.blk hj (.tail _ (.head _)))
     have hjb := hj.1
     have hjz := hjb.size
     go_wp2
     go_ret
     exact ⟨ret_int HE.out.symm,hjb⟩
set_option maxHeartbeats 2000000 in
theorem rCheck_any (x y z p q r a t k : Int) (w : World) :
  Calls Try.prog 13 #[.agg #[x,y,z,p,q,r],.agg #[a,t,k]] w fun e w' => e = .returned (.int .i64 (ckI x y z p q r a t k)) ∧ Below w.heap.size w w' := by
 have hc := rbcheck_any x y z p q r
 by_cases h : caI (eB x y z p q r) a = 0
 ·obtain ⟨hv,ha⟩ := caI_z h
  have e0 : ckI x y z p q r a t k = if a = 0 then okI x p t k else if a = 1 then okI y q t k else okI z r t k := by rw [ckI,if_pos h]
  rw [e0]
  rcases ax3 ha with rfl | rfl | rfl
  ·exact rCheck_ok0 x y z p q r t k hv w
  ·exact rCheck_ok1 x y z p q r t k hv w
  ·exact rCheck_ok2 x y z p q r t k hv w
 ·have HE := Lib.hid (show ckI x y z p q r a t k = caI (eB x y z p q r) a by simp [ckI,h])
  by_cases hv : eB x y z p q r = 0
  ·rw [hv] at hc HE h
   cases ha : rgB 0 2 a
   ·rw [caI_1 ha] at HE
    have hA := fun w => rAxis_not w ha
    clear ha h hv
    go_enter Try.func13,Try.ntmps13
    go_wp2_with (first | (go_at_call 35; refine (hc _).mono ?_; rintro e w1 ⟨rfl,hb1⟩; obtain ⟨hc1,hf1⟩ := bcell hb1; have hz1 := hb1.size; (try simp at hz1); (try have y10 : w.heap.size < w1.heap.size := (by omega)); (try have y10p : w.heap.size < w1.heap.size + 1 := (by omega)); (try have y11 : w.heap.size + 1 < w1.heap.size := (by omega)); (try have y11p : w.heap.size + 1 < w1.heap.size + 1 := (by omega)); (try have y12 : w.heap.size + 1 + 1 < w1.heap.size := (by omega)); (try have y12p : w.heap.size + 1 + 1 < w1.heap.size + 1 := (by omega)); (try have y13 : w.heap.size + 1 + 1 + 1 < w1.heap.size := (by omega)); (try have y13p : w.heap.size + 1 + 1 + 1 < w1.heap.size + 1 := (by omega)); (try have y14 : w.heap.size + 1 + 1 + 1 + 1 < w1.heap.size := (by omega)); (try have y14p : w.heap.size + 1 + 1 + 1 + 1 < w1.heap.size + 1 := (by omega)); (try have v0x1 : w0.heap.size < w1.heap.size := (by omega)); (try have v0x1p : w0.heap.size < w1.heap.size + 1 := (by omega))) | (go_at_call 40; refine (hA _).mono ?_; rintro e w' ⟨rfl,rfl⟩))
    go_ret
    refine ⟨ret_int HE.out.symm,?_⟩
    repeat (first | with_reducible exact Below.refl _ _ | with_reducible refine Below.setCell ?_ ?_ _ | with_reducible refine Below.alloc ?_ ?_ _ | with_reducible refine Below.drew ?_ | with_reducible refine below_drewN ?_ _ | (refine Below.trans ?_ (bmono (by assumption) ?_)))
    all_goals (first | omega | (simp <;> omega))
   ·exact absurd (caI_0 ha) h
  ·rw [caI_e hv] at HE
   generalize eB x y z p q r = f at hv hc HE ⊢
   obtain ⟨t1,t2⟩ := ne_tests hv
   clear h hv
   go_enter Try.func13,Try.ntmps13
   go_wp2_with (go_at_call 35; refine (hc _).mono ?_; rintro e w1 ⟨rfl,hb1⟩; obtain ⟨hc1,hf1⟩ := bcell hb1; have hz1 := hb1.size; (try simp at hz1); (try have y10 : w.heap.size < w1.heap.size := (by omega)); (try have y10p : w.heap.size < w1.heap.size + 1 := (by omega)); (try have y11 : w.heap.size + 1 < w1.heap.size := (by omega)); (try have y11p : w.heap.size + 1 < w1.heap.size + 1 := (by omega)); (try have y12 : w.heap.size + 1 + 1 < w1.heap.size := (by omega)); (try have y12p : w.heap.size + 1 + 1 < w1.heap.size + 1 := (by omega)); (try have y13 : w.heap.size + 1 + 1 + 1 < w1.heap.size := (by omega)); (try have y13p : w.heap.size + 1 + 1 + 1 < w1.heap.size + 1 := (by omega)); (try have y14 : w.heap.size + 1 + 1 + 1 + 1 < w1.heap.size := (by omega)); (try have y14p : w.heap.size + 1 + 1 + 1 + 1 < w1.heap.size + 1 := (by omega)); (try have v0x1 : w0.heap.size < w1.heap.size := (by omega)); (try have v0x1p : w0.heap.size < w1.heap.size + 1 := (by omega)))
   go_ret
   refine ⟨ret_int HE.out.symm,?_⟩
   repeat (first | with_reducible exact Below.refl _ _ | with_reducible refine Below.setCell ?_ ?_ _ | with_reducible refine Below.alloc ?_ ?_ _ | with_reducible refine Below.drew ?_ | with_reducible refine below_drewN ?_ _ | (refine Below.trans ?_ (bmono (by assumption) ?_)))
   all_goals (first | omega | (simp <;> omega))
end Go.Proofs.Ytogmgaaejepcbaa
