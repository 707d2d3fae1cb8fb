/- The reference's test that a box lies in another one. -/
import Derived.Test.YtogmgaaejepcbaaCor
import Derived.Test.YtogmgaaejepcbaaJnx
import Derived.Test.YtogmgaaejepcbaaReg
import Derived.Test.YtogmgaaejepcbaaSm2
import Derived.Test.YtogmgaaejepcbaaVol
namespace Go.Proofs.Ytogmgaaejepcbaa
open Go.RowKit

def inAx (x y z p q r a b c d s u : Int) (j : Nat) : Prop := ¬ gt3 x y z (j : Int) < gt3 a b c (j : Int) ∧ ¬ gt3 d s u (j : Int) < gt3 p q r (j : Int)
theorem inAx_all {x y z p q r a b c d s u : Int} (h : ∀ j < 3,inAx x y z p q r a b c d s u j) : insB x y z p q r a b c d s u = true := by
 have h0 := h 0 (by decide)
 have h1 := h 1 (by decide)
 have h2 := h 2 (by decide)
 simp [inAx,gt3] at h0 h1 h2
 rw [insB_iff]
 omega
theorem inAx_not {x y z p q r a b c d s u : Int} {j : Nat} (hj : j < 3) (h : ¬ inAx x y z p q r a b c d s u j) : insB x y z p q r a b c d s u = false := by
 rw [← Bool.not_eq_true,insB_iff]
 intro hc
 apply h
 have : j = 0 ∨ j = 1 ∨ j = 2 := by omega
 rcases this with rfl | rfl | rfl <;> simp [inAx,gt3] <;> omega
set_option maxHeartbeats 8000000 in
set_option maxRecDepth 100000 in
theorem rInside_any (x y z p q r a b c d s u : Int) (w : World) :
  Calls Try.prog 36 #[.agg #[x,y,z,p,q,r],.agg #[a,b,c,d,s,u]] w fun e w' => e = .returned (.bool (insB x y z p q r a b c d s u)) ∧ Below w.heap.size w w' := by
 go_enter Try.func36,Try.ntmps36
 go_wp2
 have hjS : KL [((w.heap.size + 1),25,#[a,b,c,d,s,u]),(w.heap.size,25,#[x,y,z,p,q,r])] w _ := (KL.new (g := (w.heap.size + 1)) (KL.new (g := w.heap.size) (KL.nil w) rfl _ _) (by simp) _ _)
 go_loopw [5] (fun i wr => ∃ m : Nat,i = .int .i64 (m : Int) ∧ m ≤ 3 ∧ (∀ j < m,inAx x y z p q r a b c d s u j) ∧ KL [((w.heap.size + 1),25,#[a,b,c,d,s,u]),(w.heap.size,25,#[x,y,z,p,q,r])] w wr) (fun i _ => 3 - (intOf i).toNat)
 case atStart => exact ⟨0,rfl,by omega,fun j hj => absurd hj (by omega),hjS⟩
 case round =>
  clear hjS
  obtain ⟨m,rfl,hm,hall,hj⟩ := hrel
  obtain ⟨cL0,c0_0,c0_1,c0_2,c0_3,c0_4,c0_5⟩ := bl6 (KL.blk hj (.head _))
  obtain ⟨cL1,c1_0,c1_1,c1_2,c1_3,c1_4,c1_5⟩ := bl6 (KL.blk hj (.tail _ (.head _)))
  have hsz := hj.1.size
  by_cases h : m < 3
  ·have d1 : decide ((m : Int) < 3) = true := by simp <;> omega
   have hk : rgB 0 2 (m : Int) = true := rgB_iff.2 (by omega)
   have x1 : IntKind.i64.wrap ((m : Int) + 1) = (m : Int) + 1 := IntWalk.i64_in _ (by omega)
   have g1 := get_k hk x y z
   have g2 := get_k hk a b c
   have g3 := get_k hk p q r
   have g4 := get_k hk d s u
   have hnext0 : inAx x y z p q r a b c d s u m → ∀ j < m + 1,inAx x y z p q r a b c d s u j := fun hc j hj => by
    by_cases e : j < m
    ·exact hall j e
    ·have : j = m := by omega
     subst this; exact hc
   have hno0 : ¬ inAx x y z p q r a b c d s u m → insB x y z p q r a b c d s u = false := inAx_not h
   have hdef : inAx x y z p q r a b c d s u m ↔ (¬ gt3 x y z (m : Int) < gt3 a b c (m : Int) ∧ ¬ gt3 d s u (m : Int) < gt3 p q r (m : Int)) := Iff.rfl
   clear hk hall
   cases h1 : decide (gt3 x y z (m : Int) < gt3 a b c (m : Int)) with
   | true =>
    have hres := Lib.hid (hno0 (fun hc => by simp at h1; exact (hdef.1 hc).1 h1))
    clear hnext0 hno0 hdef
    generalize gt3 x y z (m : Int) = IL at *
    generalize gt3 a b c (m : Int) = OL at *
    go_wp2
    refine wp_region_any (by kernel_rfl) ?_
    try (change wpAny _ _ _ _ _ _ _ (World.drew _))
    refine wpAny_vals (fr := fun o => #[.agg #[x,y,z,p,q,r],.agg #[a,b,c,d,s,u],.pointer (some ⟨w.heap.size,0,none⟩),.pointer (some ⟨(w.heap.size + 1),0,none⟩),u4,.int .i64 (m : Int),.int .i64 (m : Int),.bool true,u8,u9,o 0,o 1,o 2,o 3,o 4,o 5,o 6,o 7,o 8,o 9,o 10,o 11,o 12,o 13,o 14,o 15,o 16,o 17,o 18,o 19]) (vals := fun i_ => ([.pointer (some ⟨w.heap.size,0,none⟩),.agg #[x,y,z],.int .i64 (m : Int),.int .i64 IL,.pointer (some ⟨(w.heap.size + 1),0,none⟩),.agg #[a,b,c],.int .i64 (m : Int),.int .i64 OL,.bool true,.bool true,undef,undef,undef,undef,undef,undef,undef,undef,undef,.bool true] : List Value).getD i_ undef) (Kf := fun _ => True) (K := fun kk_ => ([(KL [((w.heap.size + 1),25,#[a,b,c,d,s,u]),(w.heap.size,25,#[x,y,z,p,q,r])] w)] : List (World → Prop)).getD kk_ (fun _ => True)) (dep := fun i_ => [[],[0],[],[1,2],[],[4],[],[5,6],[3,7],[8],[9],[9,10],[9],[9,11,12],[9],[9,14],[9],[9,15,16],[9,13,17],[9,18]].getD i_ []) (dv := fun i_ => [[],[0],[],[1,2],[],[4],[],[5,6],[3,7],[8],[9],[9,10],[9],[9,11,12],[9],[9,14],[9],[9,15,16],[9,13,17],[9,18]].getD i_ []) (kd := fun i_ => [0,1,0,1,0,1,0,1,0,0,0,0,0,0,0,0,0,0,0,0].getD i_ 0) (ss := []) (l := [0,1,2,3,4,5,6,7,8,9,10,11,12,13,14,15,16,17,18,19]) (f0 := fun i_ => ([u10,u11,u12,u13,u14,u15,u16,u17,u18,u19,u20,u21,u22,u23,u24,u25,u26,u27,u28,u29] : List Value).getD i_ undef) (A := ?A1) 20 rfl rfl (by decide +kernel) (by decide +kernel) ?_ ?_ ⟨?_,?_,?_,?_,?_,?_,?_,?_,?_,?_,?_,?_,?_,?_,?_,?_,?_,?_,?_,?_,trivial⟩ ?_ ?_
    rotate_left
    ·exact KL.drew hj
    ·exact fun _ _ _ _ => trivial
    ·intro o W _
     show wpOp _ _ _ 0 _ ⟨#[_,_,_,_,_,_,_,_,_,_,o 0,o 1,o 2,o 3,o 4,o 5,o 6,o 7,o 8,o 9,o 10,o 11,o 12,o 13,o 14,o 15,o 16,o 17,o 18,o 19],[]⟩ W
     refine wpOp_step rfl fun _ hK => ?_
     go_simp
     exact hK _ _ ⟨rfl,rfl⟩
    ·intro o W hj
     have hj : KL _ _ W := hj
     obtain ⟨cL,c0,c1,c2,c3,c4,c5⟩ := bl6 (KL.blk hj (.tail _ (.head _)))
     show wpOp _ _ _ 1 _ ⟨#[_,_,_,_,_,_,_,_,_,_,.pointer (some ⟨w.heap.size,0,none⟩),o 1,o 2,o 3,o 4,o 5,o 6,o 7,o 8,o 9,o 10,o 11,o 12,o 13,o 14,o 15,o 16,o 17,o 18,o 19],[]⟩ W
     refine wpOp_step rfl fun _ hK => ?_
     go_simp
     exact hK _ _ ⟨rfl,hj⟩
    ·intro o W _
     show wpOp _ _ _ 2 _ ⟨#[_,_,_,_,_,_,_,_,_,_,o 0,o 1,o 2,o 3,o 4,o 5,o 6,o 7,o 8,o 9,o 10,o 11,o 12,o 13,o 14,o 15,o 16,o 17,o 18,o 19],[]⟩ W
     refine wpOp_step rfl fun _ hK => ?_
     go_simp
     exact hK _ _ ⟨rfl,rfl⟩
    ·intro o W hj
     have hj : KL _ _ W := hj
     show wpOp _ _ _ 3 _ ⟨#[_,_,_,_,_,_,_,_,_,_,o 0,.agg #[x,y,z],.int .i64 (m : Int),o 3,o 4,o 5,o 6,o 7,o 8,o 9,o 10,o 11,o 12,o 13,o 14,o 15,o 16,o 17,o 18,o 19],[]⟩ W
     refine wpOp_step rfl fun _ hK => ?_
     go_simp
     refine (g1 _).mono ?_
     rintro e W1 ⟨rfl,hb1⟩
     exact hK _ _ ⟨rfl,hj.over hb1⟩
    ·intro o W _
     show wpOp _ _ _ 4 _ ⟨#[_,_,_,_,_,_,_,_,_,_,o 0,o 1,o 2,o 3,o 4,o 5,o 6,o 7,o 8,o 9,o 10,o 11,o 12,o 13,o 14,o 15,o 16,o 17,o 18,o 19],[]⟩ W
     refine wpOp_step rfl fun _ hK => ?_
     go_simp
     exact hK _ _ ⟨rfl,rfl⟩
    ·intro o W hj
     have hj : KL _ _ W := hj
     obtain ⟨cL,c0,c1,c2,c3,c4,c5⟩ := bl6 (KL.blk hj (.head _))
     show wpOp _ _ _ 5 _ ⟨#[_,_,_,_,_,_,_,_,_,_,o 0,o 1,o 2,o 3,.pointer (some ⟨(w.heap.size + 1),0,none⟩),o 5,o 6,o 7,o 8,o 9,o 10,o 11,o 12,o 13,o 14,o 15,o 16,o 17,o 18,o 19],[]⟩ W
     refine wpOp_step rfl fun _ hK => ?_
     go_simp
     exact hK _ _ ⟨rfl,hj⟩
    ·intro o W _
     show wpOp _ _ _ 6 _ ⟨#[_,_,_,_,_,_,_,_,_,_,o 0,o 1,o 2,o 3,o 4,o 5,o 6,o 7,o 8,o 9,o 10,o 11,o 12,o 13,o 14,o 15,o 16,o 17,o 18,o 19],[]⟩ W
     refine wpOp_step rfl fun _ hK => ?_
     go_simp
     exact hK _ _ ⟨rfl,rfl⟩
    ·intro o W hj
     have hj : KL _ _ W := hj
     show wpOp _ _ _ 7 _ ⟨#[_,_,_,_,_,_,_,_,_,_,o 0,o 1,o 2,o 3,o 4,.agg #[a,b,c],.int .i64 (m : Int),o 7,o 8,o 9,o 10,o 11,o 12,o 13,o 14,o 15,o 16,o 17,o 18,o 19],[]⟩ W
     refine wpOp_step rfl fun _ hK => ?_
     go_simp
     refine (g2 _).mono ?_
     rintro e W1 ⟨rfl,hb1⟩
     exact hK _ _ ⟨rfl,hj.over hb1⟩
    ·intro o W _
     show wpOp _ _ _ 8 _ ⟨#[_,_,_,_,_,_,_,_,_,_,o 0,o 1,o 2,.int .i64 IL,o 4,o 5,o 6,.int .i64 OL,o 8,o 9,o 10,o 11,o 12,o 13,o 14,o 15,o 16,o 17,o 18,o 19],[]⟩ W
     refine wpOp_step rfl fun _ hK => ?_
     go_simp
     exact hK _ _ ⟨rfl,rfl⟩
    ·intro o W _
     show wpOp _ _ _ 9 _ ⟨#[_,_,_,_,_,_,_,_,_,_,o 0,o 1,o 2,o 3,o 4,o 5,o 6,o 7,.bool true,o 9,o 10,o 11,o 12,o 13,o 14,o 15,o 16,o 17,o 18,o 19],[]⟩ W
     refine wpOp_step rfl fun _ hK => ?_
     go_simp
     exact hK _ _ ⟨rfl,rfl⟩
    ·intro o W _
     show wpOp _ _ _ 10 _ ⟨#[_,_,_,_,_,_,_,_,_,_,o 0,o 1,o 2,o 3,o 4,o 5,o 6,o 7,o 8,.bool true,o 10,o 11,o 12,o 13,o 14,o 15,o 16,o 17,o 18,o 19],[]⟩ W
     refine wpOp_step rfl fun _ hK => ?_
     go_simp
     exact hK _ _ ⟨rfl,rfl⟩
    ·intro o W _
     show wpOp _ _ _ 11 _ ⟨#[_,_,_,_,_,_,_,_,_,_,o 0,o 1,o 2,o 3,o 4,o 5,o 6,o 7,o 8,.bool true,undef,o 11,o 12,o 13,o 14,o 15,o 16,o 17,o 18,o 19],[]⟩ W
     refine wpOp_step rfl fun _ hK => ?_
     go_simp
     exact hK _ _ ⟨rfl,rfl⟩
    ·intro o W _
     show wpOp _ _ _ 12 _ ⟨#[_,_,_,_,_,_,_,_,_,_,o 0,o 1,o 2,o 3,o 4,o 5,o 6,o 7,o 8,.bool true,o 10,o 11,o 12,o 13,o 14,o 15,o 16,o 17,o 18,o 19],[]⟩ W
     refine wpOp_step rfl fun _ hK => ?_
     go_simp
     exact hK _ _ ⟨rfl,rfl⟩
    ·intro o W _
     show wpOp _ _ _ 13 _ ⟨#[_,_,_,_,_,_,_,_,_,_,o 0,o 1,o 2,o 3,o 4,o 5,o 6,o 7,o 8,.bool true,o 10,undef,undef,o 13,o 14,o 15,o 16,o 17,o 18,o 19],[]⟩ W
     refine wpOp_step rfl fun _ hK => ?_
     go_simp
     exact hK _ _ ⟨rfl,rfl⟩
    ·intro o W _
     show wpOp _ _ _ 14 _ ⟨#[_,_,_,_,_,_,_,_,_,_,o 0,o 1,o 2,o 3,o 4,o 5,o 6,o 7,o 8,.bool true,o 10,o 11,o 12,o 13,o 14,o 15,o 16,o 17,o 18,o 19],[]⟩ W
     refine wpOp_step rfl fun _ hK => ?_
     go_simp
     exact hK _ _ ⟨rfl,rfl⟩
    ·intro o W _
     show wpOp _ _ _ 15 _ ⟨#[_,_,_,_,_,_,_,_,_,_,o 0,o 1,o 2,o 3,o 4,o 5,o 6,o 7,o 8,.bool true,o 10,o 11,o 12,o 13,undef,o 15,o 16,o 17,o 18,o 19],[]⟩ W
     refine wpOp_step rfl fun _ hK => ?_
     go_simp
     exact hK _ _ ⟨rfl,rfl⟩
    ·intro o W _
     show wpOp _ _ _ 16 _ ⟨#[_,_,_,_,_,_,_,_,_,_,o 0,o 1,o 2,o 3,o 4,o 5,o 6,o 7,o 8,.bool true,o 10,o 11,o 12,o 13,o 14,o 15,o 16,o 17,o 18,o 19],[]⟩ W
     refine wpOp_step rfl fun _ hK => ?_
     go_simp
     exact hK _ _ ⟨rfl,rfl⟩
    ·intro o W _
     show wpOp _ _ _ 17 _ ⟨#[_,_,_,_,_,_,_,_,_,_,o 0,o 1,o 2,o 3,o 4,o 5,o 6,o 7,o 8,.bool true,o 10,o 11,o 12,o 13,o 14,undef,undef,o 17,o 18,o 19],[]⟩ W
     refine wpOp_step rfl fun _ hK => ?_
     go_simp
     exact hK _ _ ⟨rfl,rfl⟩
    ·intro o W _
     show wpOp _ _ _ 18 _ ⟨#[_,_,_,_,_,_,_,_,_,_,o 0,o 1,o 2,o 3,o 4,o 5,o 6,o 7,o 8,.bool true,o 10,o 11,o 12,undef,o 14,o 15,o 16,undef,o 18,o 19],[]⟩ W
     refine wpOp_step rfl fun _ hK => ?_
     go_simp
     exact hK _ _ ⟨rfl,rfl⟩
    ·intro o W _
     show wpOp _ _ _ 19 _ ⟨#[_,_,_,_,_,_,_,_,_,_,o 0,o 1,o 2,o 3,o 4,o 5,o 6,o 7,o 8,.bool true,o 10,o 11,o 12,o 13,o 14,o 15,o 16,o 17,undef,o 19],[]⟩ W
     refine wpOp_step rfl fun _ hK => ?_
     go_simp
     exact hK _ _ ⟨rfl,rfl⟩
    ·intro o hh_
     have e0 : o 0 = .pointer (some ⟨w.heap.size,0,none⟩) := hh_ 0 (by decide)
     have e1 : o 1 = .agg #[x,y,z] := hh_ 1 (by decide)
     have e2 : o 2 = .int .i64 (m : Int) := hh_ 2 (by decide)
     have e3 : o 3 = .int .i64 IL := hh_ 3 (by decide)
     have e4 : o 4 = .pointer (some ⟨(w.heap.size + 1),0,none⟩) := hh_ 4 (by decide)
     have e5 : o 5 = .agg #[a,b,c] := hh_ 5 (by decide)
     have e6 : o 6 = .int .i64 (m : Int) := hh_ 6 (by decide)
     have e7 : o 7 = .int .i64 OL := hh_ 7 (by decide)
     have e8 : o 8 = .bool true := hh_ 8 (by decide)
     have e9 : o 9 = .bool true := hh_ 9 (by decide)
     have e10 : o 10 = undef := hh_ 10 (by decide)
     have e11 : o 11 = undef := hh_ 11 (by decide)
     have e12 : o 12 = undef := hh_ 12 (by decide)
     have e13 : o 13 = undef := hh_ 13 (by decide)
     have e14 : o 14 = undef := hh_ 14 (by decide)
     have e15 : o 15 = undef := hh_ 15 (by decide)
     have e16 : o 16 = undef := hh_ 16 (by decide)
     have e17 : o 17 = undef := hh_ 17 (by decide)
     have e18 : o 18 = undef := hh_ 18 (by decide)
     have e19 : o 19 = .bool true := hh_ 19 (by decide)
     rw [e0,e1,e2,e3,e4,e5,e6,e7,e8,e9,e10,e11,e12,e13,e14,e15,e16,e17,e18,e19]
    ·intro W1 h1
     have h1 : KL _ _ W1 := h1
     obtain ⟨aL0,a0_0,a0_1,a0_2,a0_3,a0_4,a0_5⟩ := bl6 (KL.blk h1 (.head _))
     obtain ⟨aL1,a1_0,a1_1,a1_2,a1_3,a1_4,a1_5⟩ := bl6 (KL.blk h1 (.tail _ (.head _)))
     have hjb := h1.1
     have hjz := hjb.size
     go_wp2
     go_ret
     rw [hres.out]
     exact ⟨rfl,h1.1⟩
   | false =>
    cases h2 : decide (gt3 d s u (m : Int) < gt3 p q r (m : Int)) with
    | true =>
     have hres := Lib.hid (hno0 (fun hc => by simp at h2; exact (hdef.1 hc).2 h2))
     clear hnext0 hno0 hdef
     generalize gt3 x y z (m : Int) = IL at *
     generalize gt3 a b c (m : Int) = OL at *
     generalize gt3 p q r (m : Int) = IH at *
     generalize gt3 d s u (m : Int) = OH at *
     go_wp2
     refine wp_region_any (by kernel_rfl) ?_
     try (change wpAny _ _ _ _ _ _ _ (World.drew _))
     refine wpAny_vals (fr := fun o => #[.agg #[x,y,z,p,q,r],.agg #[a,b,c,d,s,u],.pointer (some ⟨w.heap.size,0,none⟩),.pointer (some ⟨(w.heap.size + 1),0,none⟩),u4,.int .i64 (m : Int),.int .i64 (m : Int),.bool true,u8,u9,o 0,o 1,o 2,o 3,o 4,o 5,o 6,o 7,o 8,o 9,o 10,o 11,o 12,o 13,o 14,o 15,o 16,o 17,o 18,o 19]) (vals := fun i_ => ([.pointer (some ⟨w.heap.size,0,none⟩),.agg #[x,y,z],.int .i64 (m : Int),.int .i64 IL,.pointer (some ⟨(w.heap.size + 1),0,none⟩),.agg #[a,b,c],.int .i64 (m : Int),.int .i64 OL,.bool false,.bool false,.pointer (some ⟨w.heap.size,3,none⟩),.agg #[p,q,r],.int .i64 (m : Int),.int .i64 IH,.pointer (some ⟨(w.heap.size + 1),3,none⟩),.agg #[d,s,u],.int .i64 (m : Int),.int .i64 OH,.bool true,.bool true] : List Value).getD i_ undef) (Kf := fun _ => True) (K := fun kk_ => ([(KL [((w.heap.size + 1),25,#[a,b,c,d,s,u]),(w.heap.size,25,#[x,y,z,p,q,r])] w)] : List (World → Prop)).getD kk_ (fun _ => True)) (dep := fun i_ => [[],[0],[],[1,2],[],[4],[],[5,6],[3,7],[8],[9],[9,10],[9],[9,11,12],[9],[9,14],[9],[9,15,16],[9,13,17],[9,18]].getD i_ []) (dv := fun i_ => [[],[0],[],[1,2],[],[4],[],[5,6],[3,7],[8],[9],[9,10],[9],[9,11,12],[9],[9,14],[9],[9,15,16],[9,13,17],[9,18]].getD i_ []) (kd := fun i_ => [0,1,0,1,0,1,0,1,0,0,0,1,0,1,0,1,0,1,0,0].getD i_ 0) (ss := []) (l := [0,1,2,3,4,5,6,7,8,9,10,11,12,13,14,15,16,17,18,19]) (f0 := fun i_ => ([u10,u11,u12,u13,u14,u15,u16,u17,u18,u19,u20,u21,u22,u23,u24,u25,u26,u27,u28,u29] : List Value).getD i_ undef) (A := ?A2) 20 rfl rfl (by decide +kernel) (by decide +kernel) ?_ ?_ ⟨?_,?_,?_,?_,?_,?_,?_,?_,?_,?_,?_,?_,?_,?_,?_,?_,?_,?_,?_,?_,trivial⟩ ?_ ?_
     rotate_left
     ·exact KL.drew hj
     ·exact fun _ _ _ _ => trivial
     ·intro o W _
      show wpOp _ _ _ 0 _ ⟨#[_,_,_,_,_,_,_,_,_,_,o 0,o 1,o 2,o 3,o 4,o 5,o 6,o 7,o 8,o 9,o 10,o 11,o 12,o 13,o 14,o 15,o 16,o 17,o 18,o 19],[]⟩ W
      refine wpOp_step rfl fun _ hK => ?_
      go_simp
      exact hK _ _ ⟨rfl,rfl⟩
     ·intro o W hj
      have hj : KL _ _ W := hj
      obtain ⟨cL,c0,c1,c2,c3,c4,c5⟩ := bl6 (KL.blk hj (.tail _ (.head _)))
      show wpOp _ _ _ 1 _ ⟨#[_,_,_,_,_,_,_,_,_,_,.pointer (some ⟨w.heap.size,0,none⟩),o 1,o 2,o 3,o 4,o 5,o 6,o 7,o 8,o 9,o 10,o 11,o 12,o 13,o 14,o 15,o 16,o 17,o 18,o 19],[]⟩ W
      refine wpOp_step rfl fun _ hK => ?_
      go_simp
      exact hK _ _ ⟨rfl,hj⟩
     ·intro o W _
      show wpOp _ _ _ 2 _ ⟨#[_,_,_,_,_,_,_,_,_,_,o 0,o 1,o 2,o 3,o 4,o 5,o 6,o 7,o 8,o 9,o 10,o 11,o 12,o 13,o 14,o 15,o 16,o 17,o 18,o 19],[]⟩ W
      refine wpOp_step rfl fun _ hK => ?_
      go_simp
      exact hK _ _ ⟨rfl,rfl⟩
     ·intro o W hj
      have hj : KL _ _ W := hj
      show wpOp _ _ _ 3 _ ⟨#[_,_,_,_,_,_,_,_,_,_,o 0,.agg #[x,y,z],.int .i64 (m : Int),o 3,o 4,o 5,o 6,o 7,o 8,o 9,o 10,o 11,o 12,o 13,o 14,o 15,o 16,o 17,o 18,o 19],[]⟩ W
      refine wpOp_step rfl fun _ hK => ?_
      go_simp
      refine (g1 _).mono ?_
      rintro e W1 ⟨rfl,hb1⟩
      exact hK _ _ ⟨rfl,hj.over hb1⟩
     ·intro o W _
      show wpOp _ _ _ 4 _ ⟨#[_,_,_,_,_,_,_,_,_,_,o 0,o 1,o 2,o 3,o 4,o 5,o 6,o 7,o 8,o 9,o 10,o 11,o 12,o 13,o 14,o 15,o 16,o 17,o 18,o 19],[]⟩ W
      refine wpOp_step rfl fun _ hK => ?_
      go_simp
      exact hK _ _ ⟨rfl,rfl⟩
     ·intro o W hj
      have hj : KL _ _ W := hj
      obtain ⟨cL,c0,c1,c2,c3,c4,c5⟩ := bl6 (KL.blk hj (.head _))
      show wpOp _ _ _ 5 _ ⟨#[_,_,_,_,_,_,_,_,_,_,o 0,o 1,o 2,o 3,.pointer (some ⟨(w.heap.size + 1),0,none⟩),o 5,o 6,o 7,o 8,o 9,o 10,o 11,o 12,o 13,o 14,o 15,o 16,o 17,o 18,o 19],[]⟩ W
      refine wpOp_step rfl fun _ hK => ?_
      go_simp
      exact hK _ _ ⟨rfl,hj⟩
     ·intro o W _
      show wpOp _ _ _ 6 _ ⟨#[_,_,_,_,_,_,_,_,_,_,o 0,o 1,o 2,o 3,o 4,o 5,o 6,o 7,o 8,o 9,o 10,o 11,o 12,o 13,o 14,o 15,o 16,o 17,o 18,o 19],[]⟩ W
      refine wpOp_step rfl fun _ hK => ?_
      go_simp
      exact hK _ _ ⟨rfl,rfl⟩
     ·intro o W hj
      have hj : KL _ _ W := hj
      show wpOp _ _ _ 7 _ ⟨#[_,_,_,_,_,_,_,_,_,_,o 0,o 1,o 2,o 3,o 4,.agg #[a,b,c],.int .i64 (m : Int),o 7,o 8,o 9,o 10,o 11,o 12,o 13,o 14,o 15,o 16,o 17,o 18,o 19],[]⟩ W
      refine wpOp_step rfl fun _ hK => ?_
      go_simp
      refine (g2 _).mono ?_
      rintro e W1 ⟨rfl,hb1⟩
      exact hK _ _ ⟨rfl,hj.over hb1⟩
     ·intro o W _
      show wpOp _ _ _ 8 _ ⟨#[_,_,_,_,_,_,_,_,_,_,o 0,o 1,o 2,.int .i64 IL,o 4,o 5,o 6,.int .i64 OL,o 8,o 9,o 10,o 11,o 12,o 13,o 14,o 15,o 16,o 17,o 18,o 19],[]⟩ W
      refine wpOp_step rfl fun _ hK => ?_
      go_simp
      exact hK _ _ ⟨rfl,rfl⟩
     ·intro o W _
      show wpOp _ _ _ 9 _ ⟨#[_,_,_,_,_,_,_,_,_,_,o 0,o 1,o 2,o 3,o 4,o 5,o 6,o 7,.bool false,o 9,o 10,o 11,o 12,o 13,o 14,o 15,o 16,o 17,o 18,o 19],[]⟩ W
      refine wpOp_step rfl fun _ hK => ?_
      go_simp
      exact hK _ _ ⟨rfl,rfl⟩
     ·intro o W _
      show wpOp _ _ _ 10 _ ⟨#[_,_,_,_,_,_,_,_,_,_,o 0,o 1,o 2,o 3,o 4,o 5,o 6,o 7,o 8,.bool false,o 10,o 11,o 12,o 13,o 14,o 15,o 16,o 17,o 18,o 19],[]⟩ W
      refine wpOp_step rfl fun _ hK => ?_
      go_simp
      exact hK _ _ ⟨rfl,rfl⟩
     ·intro o W hj
      have hj : KL _ _ W := hj
      obtain ⟨cL,c0,c1,c2,c3,c4,c5⟩ := bl6 (KL.blk hj (.tail _ (.head _)))
      show wpOp _ _ _ 11 _ ⟨#[_,_,_,_,_,_,_,_,_,_,o 0,o 1,o 2,o 3,o 4,o 5,o 6,o 7,o 8,.bool false,.pointer (some ⟨w.heap.size,3,none⟩),o 11,o 12,o 13,o 14,o 15,o 16,o 17,o 18,o 19],[]⟩ W
      refine wpOp_step rfl fun _ hK => ?_
      go_simp
      exact hK _ _ ⟨rfl,hj⟩
     ·intro o W _
      show wpOp _ _ _ 12 _ ⟨#[_,_,_,_,_,_,_,_,_,_,o 0,o 1,o 2,o 3,o 4,o 5,o 6,o 7,o 8,.bool false,o 10,o 11,o 12,o 13,o 14,o 15,o 16,o 17,o 18,o 19],[]⟩ W
      refine wpOp_step rfl fun _ hK => ?_
      go_simp
      exact hK _ _ ⟨rfl,rfl⟩
     ·intro o W hj
      have hj : KL _ _ W := hj
      show wpOp _ _ _ 13 _ ⟨#[_,_,_,_,_,_,_,_,_,_,o 0,o 1,o 2,o 3,o 4,o 5,o 6,o 7,o 8,.bool false,o 10,.agg #[p,q,r],.int .i64 (m : Int),o 13,o 14,o 15,o 16,o 17,o 18,o 19],[]⟩ W
      refine wpOp_step rfl fun _ hK => ?_
      go_simp
      refine (g3 _).mono ?_
      rintro e W1 ⟨rfl,hb1⟩
      exact hK _ _ ⟨rfl,hj.over hb1⟩
     ·intro o W _
      show wpOp _ _ _ 14 _ ⟨#[_,_,_,_,_,_,_,_,_,_,o 0,o 1,o 2,o 3,o 4,o 5,o 6,o 7,o 8,.bool false,o 10,o 11,o 12,o 13,o 14,o 15,o 16,o 17,o 18,o 19],[]⟩ W
      refine wpOp_step rfl fun _ hK => ?_
      go_simp
      exact hK _ _ ⟨rfl,rfl⟩
     ·intro o W hj
      have hj : KL _ _ W := hj
      obtain ⟨cL,c0,c1,c2,c3,c4,c5⟩ := bl6 (KL.blk hj (.head _))
      show wpOp _ _ _ 15 _ ⟨#[_,_,_,_,_,_,_,_,_,_,o 0,o 1,o 2,o 3,o 4,o 5,o 6,o 7,o 8,.bool false,o 10,o 11,o 12,o 13,.pointer (some ⟨(w.heap.size + 1),3,none⟩),o 15,o 16,o 17,o 18,o 19],[]⟩ W
      refine wpOp_step rfl fun _ hK => ?_
      go_simp
      exact hK _ _ ⟨rfl,hj⟩
     ·intro o W _
      show wpOp _ _ _ 16 _ ⟨#[_,_,_,_,_,_,_,_,_,_,o 0,o 1,o 2,o 3,o 4,o 5,o 6,o 7,o 8,.bool false,o 10,o 11,o 12,o 13,o 14,o 15,o 16,o 17,o 18,o 19],[]⟩ W
      refine wpOp_step rfl fun _ hK => ?_
      go_simp
      exact hK _ _ ⟨rfl,rfl⟩
     ·intro o W hj
      have hj : KL _ _ W := hj
      show wpOp _ _ _ 17 _ ⟨#[_,_,_,_,_,_,_,_,_,_,o 0,o 1,o 2,o 3,o 4,o 5,o 6,o 7,o 8,.bool false,o 10,o 11,o 12,o 13,o 14,.agg #[d,s,u],.int .i64 (m : Int),o 17,o 18,o 19],[]⟩ W
      refine wpOp_step rfl fun _ hK => ?_
      go_simp
      refine (g4 _).mono ?_
      rintro e W1 ⟨rfl,hb1⟩
      exact hK _ _ ⟨rfl,hj.over hb1⟩
     ·intro o W _
      show wpOp _ _ _ 18 _ ⟨#[_,_,_,_,_,_,_,_,_,_,o 0,o 1,o 2,o 3,o 4,o 5,o 6,o 7,o 8,.bool false,o 10,o 11,o 12,.int .i64 IH,o 14,o 15,o 16,.int .i64 OH,o 18,o 19],[]⟩ W
      refine wpOp_step rfl fun _ hK => ?_
      go_simp
      exact hK _ _ ⟨rfl,rfl⟩
     ·intro o W _
      show wpOp _ _ _ 19 _ ⟨#[_,_,_,_,_,_,_,_,_,_,o 0,o 1,o 2,o 3,o 4,o 5,o 6,o 7,o 8,.bool false,o 10,o 11,o 12,o 13,o 14,o 15,o 16,o 17,.bool true,o 19],[]⟩ W
      refine wpOp_step rfl fun _ hK => ?_
      go_simp
      exact hK _ _ ⟨rfl,rfl⟩
     ·intro o hh_
      have e0 : o 0 = .pointer (some ⟨w.heap.size,0,none⟩) := hh_ 0 (by decide)
      have e1 : o 1 = .agg #[x,y,z] := hh_ 1 (by decide)
      have e2 : o 2 = .int .i64 (m : Int) := hh_ 2 (by decide)
      have e3 : o 3 = .int .i64 IL := hh_ 3 (by decide)
      have e4 : o 4 = .pointer (some ⟨(w.heap.size + 1),0,none⟩) := hh_ 4 (by decide)
      have e5 : o 5 = .agg #[a,b,c] := hh_ 5 (by decide)
      have e6 : o 6 = .int .i64 (m : Int) := hh_ 6 (by decide)
      have e7 : o 7 = .int .i64 OL := hh_ 7 (by decide)
      have e8 : o 8 = .bool false := hh_ 8 (by decide)
      have e9 : o 9 = .bool false := hh_ 9 (by decide)
      have e10 : o 10 = .pointer (some ⟨w.heap.size,3,none⟩) := hh_ 10 (by decide)
      have e11 : o 11 = .agg #[p,q,r] := hh_ 11 (by decide)
      have e12 : o 12 = .int .i64 (m : Int) := hh_ 12 (by decide)
      have e13 : o 13 = .int .i64 IH := hh_ 13 (by decide)
      have e14 : o 14 = .pointer (some ⟨(w.heap.size + 1),3,none⟩) := hh_ 14 (by decide)
      have e15 : o 15 = .agg #[d,s,u] := hh_ 15 (by decide)
      have e16 : o 16 = .int .i64 (m : Int) := hh_ 16 (by decide)
      have e17 : o 17 = .int .i64 OH := hh_ 17 (by decide)
      have e18 : o 18 = .bool true := hh_ 18 (by decide)
      have e19 : o 19 = .bool true := hh_ 19 (by decide)
      rw [e0,e1,e2,e3,e4,e5,e6,e7,e8,e9,e10,e11,e12,e13,e14,e15,e16,e17,e18,e19]
     ·intro W1 h1
      have h1 : KL _ _ W1 := h1
      obtain ⟨aL0,a0_0,a0_1,a0_2,a0_3,a0_4,a0_5⟩ := bl6 (KL.blk h1 (.head _))
      obtain ⟨aL1,a1_0,a1_1,a1_2,a1_3,a1_4,a1_5⟩ := bl6 (KL.blk h1 (.tail _ (.head _)))
      have hjb := h1.1
      have hjz := hjb.size
      go_wp2
      go_ret
      rw [hres.out]
      exact ⟨rfl,h1.1⟩
    | false =>
     have hnext := hnext0 (hdef.2 ⟨by simpa using h1,by simpa using h2⟩)
     clear hnext0 hno0 hdef
     generalize gt3 x y z (m : Int) = IL at *
     generalize gt3 a b c (m : Int) = OL at *
     generalize gt3 p q r (m : Int) = IH at *
     generalize gt3 d s u (m : Int) = OH at *
     go_wp2
     refine wp_region_any (by kernel_rfl) ?_
     try (change wpAny _ _ _ _ _ _ _ (World.drew _))
     refine wpAny_vals (fr := fun o => #[.agg #[x,y,z,p,q,r],.agg #[a,b,c,d,s,u],.pointer (some ⟨w.heap.size,0,none⟩),.pointer (some ⟨(w.heap.size + 1),0,none⟩),u4,.int .i64 (m : Int),.int .i64 (m : Int),.bool true,u8,u9,o 0,o 1,o 2,o 3,o 4,o 5,o 6,o 7,o 8,o 9,o 10,o 11,o 12,o 13,o 14,o 15,o 16,o 17,o 18,o 19]) (vals := fun i_ => ([.pointer (some ⟨w.heap.size,0,none⟩),.agg #[x,y,z],.int .i64 (m : Int),.int .i64 IL,.pointer (some ⟨(w.heap.size + 1),0,none⟩),.agg #[a,b,c],.int .i64 (m : Int),.int .i64 OL,.bool false,.bool false,.pointer (some ⟨w.heap.size,3,none⟩),.agg #[p,q,r],.int .i64 (m : Int),.int .i64 IH,.pointer (some ⟨(w.heap.size + 1),3,none⟩),.agg #[d,s,u],.int .i64 (m : Int),.int .i64 OH,.bool false,.bool false] : List Value).getD i_ undef) (Kf := fun _ => True) (K := fun kk_ => ([(KL [((w.heap.size + 1),25,#[a,b,c,d,s,u]),(w.heap.size,25,#[x,y,z,p,q,r])] w)] : List (World → Prop)).getD kk_ (fun _ => True)) (dep := fun i_ => [[],[0],[],[1,2],[],[4],[],[5,6],[3,7],[8],[9],[9,10],[9],[9,11,12],[9],[9,14],[9],[9,15,16],[9,13,17],[9,18]].getD i_ []) (dv := fun i_ => [[],[0],[],[1,2],[],[4],[],[5,6],[3,7],[8],[9],[9,10],[9],[9,11,12],[9],[9,14],[9],[9,15,16],[9,13,17],[9,18]].getD i_ []) (kd := fun i_ => [0,1,0,1,0,1,0,1,0,0,0,1,0,1,0,1,0,1,0,0].getD i_ 0) (ss := []) (l := [0,1,2,3,4,5,6,7,8,9,10,11,12,13,14,15,16,17,18,19]) (f0 := fun i_ => ([u10,u11,u12,u13,u14,u15,u16,u17,u18,u19,u20,u21,u22,u23,u24,u25,u26,u27,u28,u29] : List Value).getD i_ undef) (A := ?A3) 20 rfl rfl (by decide +kernel) (by decide +kernel) ?_ ?_ ⟨?_,?_,?_,?_,?_,?_,?_,?_,?_,?_,?_,?_,?_,?_,?_,?_,?_,?_,?_,?_,trivial⟩ ?_ ?_
     rotate_left
     ·exact KL.drew hj
     ·exact fun _ _ _ _ => trivial
     ·intro o W _
      show wpOp _ _ _ 0 _ ⟨#[_,_,_,_,_,_,_,_,_,_,o 0,o 1,o 2,o 3,o 4,o 5,o 6,o 7,o 8,o 9,o 10,o 11,o 12,o 13,o 14,o 15,o 16,o 17,o 18,o 19],[]⟩ W
      refine wpOp_step rfl fun _ hK => ?_
      go_simp
      exact hK _ _ ⟨rfl,rfl⟩
     ·intro o W hj
      have hj : KL _ _ W := hj
      obtain ⟨cL,c0,c1,c2,c3,c4,c5⟩ := bl6 (KL.blk hj (.tail _ (.head _)))
      show wpOp _ _ _ 1 _ ⟨#[_,_,_,_,_,_,_,_,_,_,.pointer (some ⟨w.heap.size,0,none⟩),o 1,o 2,o 3,o 4,o 5,o 6,o 7,o 8,o 9,o 10,o 11,o 12,o 13,o 14,o 15,o 16,o 17,o 18,o 19],[]⟩ W
      refine wpOp_step rfl fun _ hK => ?_
      go_simp
      exact hK _ _ ⟨rfl,hj⟩
     ·intro o W _
      show wpOp _ _ _ 2 _ ⟨#[_,_,_,_,_,_,_,_,_,_,o 0,o 1,o 2,o 3,o 4,o 5,o 6,o 7,o 8,o 9,o 10,o 11,o 12,o 13,o 14,o 15,o 16,o 17,o 18,o 19],[]⟩ W
      refine wpOp_step rfl fun _ hK => ?_
      go_simp
      exact hK _ _ ⟨rfl,rfl⟩
     ·intro o W hj
      have hj : KL _ _ W := hj
      show wpOp _ _ _ 3 _ ⟨#[_,_,_,_,_,_,_,_,_,_,o 0,.agg #[x,y,z],.int .i64 (m : Int),o 3,o 4,o 5,o 6,o 7,o 8,o 9,o 10,o 11,o 12,o 13,o 14,o 15,o 16,o 17,o 18,o 19],[]⟩ W
      refine wpOp_step rfl fun _ hK => ?_
      go_simp
      refine (g1 _).mono ?_
      rintro e W1 ⟨rfl,hb1⟩
      exact hK _ _ ⟨rfl,hj.over hb1⟩
     ·intro o W _
      show wpOp _ _ _ 4 _ ⟨#[_,_,_,_,_,_,_,_,_,_,o 0,o 1,o 2,o 3,o 4,o 5,o 6,o 7,o 8,o 9,o 10,o 11,o 12,o 13,o 14,o 15,o 16,o 17,o 18,o 19],[]⟩ W
      refine wpOp_step rfl fun _ hK => ?_
      go_simp
      exact hK _ _ ⟨rfl,rfl⟩
     ·intro o W hj
      have hj : KL _ _ W := hj
      obtain ⟨cL,c0,c1,c2,c3,c4,c5⟩ := bl6 (KL.blk hj (.head _))
      show wpOp _ _ _ 5 _ ⟨#[_,_,_,_,_,_,_,_,_,_,o 0,o 1,o 2,o 3,.pointer (some ⟨(w.heap.size + 1),0,none⟩),o 5,o 6,o 7,o 8,o 9,o 10,o 11,o 12,o 13,o 14,o 15,o 16,o 17,o 18,o 19],[]⟩ W
      refine wpOp_step rfl fun _ hK => ?_
      go_simp
      exact hK _ _ ⟨rfl,hj⟩
     ·intro o W _
      show wpOp _ _ _ 6 _ ⟨#[_,_,_,_,_,_,_,_,_,_,o 0,o 1,o 2,o 3,o 4,o 5,o 6,o 7,o 8,o 9,o 10,o 11,o 12,o 13,o 14,o 15,o 16,o 17,o 18,o 19],[]⟩ W
      refine wpOp_step rfl fun _ hK => ?_
      go_simp
      exact hK _ _ ⟨rfl,rfl⟩
     ·intro o W hj
      have hj : KL _ _ W := hj
      show wpOp _ _ _ 7 _ ⟨#[_,_,_,_,_,_,_,_,_,_,o 0,o 1,o 2,o 3,o 4,.agg #[a,b,c],.int .i64 (m : Int),o 7,o 8,o 9,o 10,o 11,o 12,o 13,o 14,o 15,o 16,o 17,o 18,o 19],[]⟩ W
      refine wpOp_step rfl fun _ hK => ?_
      go_simp
      refine (g2 _).mono ?_
      rintro e W1 ⟨rfl,hb1⟩
      exact hK _ _ ⟨rfl,hj.over hb1⟩
     ·intro o W _
      show wpOp _ _ _ 8 _ ⟨#[_,_,_,_,_,_,_,_,_,_,o 0,o 1,o 2,.int .i64 IL,o 4,o 5,o 6,.int .i64 OL,o 8,o 9,o 10,o 11,o 12,o 13,o 14,o 15,o 16,o 17,o 18,o 19],[]⟩ W
      refine wpOp_step rfl fun _ hK => ?_
      go_simp
      exact hK _ _ ⟨rfl,rfl⟩
     ·intro o W _
      show wpOp _ _ _ 9 _ ⟨#[_,_,_,_,_,_,_,_,_,_,o 0,o 1,o 2,o 3,o 4,o 5,o 6,o 7,.bool false,o 9,o 10,o 11,o 12,o 13,o 14,o 15,o 16,o 17,o 18,o 19],[]⟩ W
      refine wpOp_step rfl fun _ hK => ?_
      go_simp
      exact hK _ _ ⟨rfl,rfl⟩
     ·intro o W _
      show wpOp _ _ _ 10 _ ⟨#[_,_,_,_,_,_,_,_,_,_,o 0,o 1,o 2,o 3,o 4,o 5,o 6,o 7,o 8,.bool false,o 10,o 11,o 12,o 13,o 14,o 15,o 16,o 17,o 18,o 19],[]⟩ W
      refine wpOp_step rfl fun _ hK => ?_
      go_simp
      exact hK _ _ ⟨rfl,rfl⟩
     ·intro o W hj
      have hj : KL _ _ W := hj
      obtain ⟨cL,c0,c1,c2,c3,c4,c5⟩ := bl6 (KL.blk hj (.tail _ (.head _)))
      show wpOp _ _ _ 11 _ ⟨#[_,_,_,_,_,_,_,_,_,_,o 0,o 1,o 2,o 3,o 4,o 5,o 6,o 7,o 8,.bool false,.pointer (some ⟨w.heap.size,3,none⟩),o 11,o 12,o 13,o 14,o 15,o 16,o 17,o 18,o 19],[]⟩ W
      refine wpOp_step rfl fun _ hK => ?_
      go_simp
      exact hK _ _ ⟨rfl,hj⟩
     ·intro o W _
      show wpOp _ _ _ 12 _ ⟨#[_,_,_,_,_,_,_,_,_,_,o 0,o 1,o 2,o 3,o 4,o 5,o 6,o 7,o 8,.bool false,o 10,o 11,o 12,o 13,o 14,o 15,o 16,o 17,o 18,o 19],[]⟩ W
      refine wpOp_step rfl fun _ hK => ?_
      go_simp
      exact hK _ _ ⟨rfl,rfl⟩
     ·intro o W hj
      have hj : KL _ _ W := hj
      show wpOp _ _ _ 13 _ ⟨#[_,_,_,_,_,_,_,_,_,_,o 0,o 1,o 2,o 3,o 4,o 5,o 6,o 7,o 8,.bool false,o 10,.agg #[p,q,r],.int .i64 (m : Int),o 13,o 14,o 15,o 16,o 17,o 18,o 19],[]⟩ W
      refine wpOp_step rfl fun _ hK => ?_
      go_simp
      refine (g3 _).mono ?_
      rintro e W1 ⟨rfl,hb1⟩
      exact hK _ _ ⟨rfl,hj.over hb1⟩
     ·intro o W _
      show wpOp _ _ _ 14 _ ⟨#[_,_,_,_,_,_,_,_,_,_,o 0,o 1,o 2,o 3,o 4,o 5,o 6,o 7,o 8,.bool false,o 10,o 11,o 12,o 13,o 14,o 15,o 16,o 17,o 18,o 19],[]⟩ W
      refine wpOp_step rfl fun _ hK => ?_
      go_simp
      exact hK _ _ ⟨rfl,rfl⟩
     ·intro o W hj
      have hj : KL _ _ W := hj
      obtain ⟨cL,c0,c1,c2,c3,c4,c5⟩ := bl6 (KL.blk hj (.head _))
      show wpOp _ _ _ 15 _ ⟨#[_,_,_,_,_,_,_,_,_,_,o 0,o 1,o 2,o 3,o 4,o 5,o 6,o 7,o 8,.bool false,o 10,o 11,o 12,o 13,.pointer (some ⟨(w.heap.size + 1),3,none⟩),o 15,o 16,o 17,o 18,o 19],[]⟩ W
      refine wpOp_step rfl fun _ hK => ?_
      go_simp
      exact hK _ _ ⟨rfl,hj⟩
     ·intro o W _
      show wpOp _ _ _ 16 _ ⟨#[_,_,_,_,_,_,_,_,_,_,o 0,o 1,o 2,o 3,o 4,o 5,o 6,o 7,o 8,.bool false,o 10,o 11,o 12,o 13,o 14,o 15,o 16,o 17,o 18,o 19],[]⟩ W
      refine wpOp_step rfl fun _ hK => ?_
      go_simp
      exact hK _ _ ⟨rfl,rfl⟩
     ·intro o W hj
      have hj : KL _ _ W := hj
      show wpOp _ _ _ 17 _ ⟨#[_,_,_,_,_,_,_,_,_,_,o 0,o 1,o 2,o 3,o 4,o 5,o 6,o 7,o 8,.bool false,o 10,o 11,o 12,o 13,o 14,.agg #[d,s,u],.int .i64 (m : Int),o 17,o 18,o 19],[]⟩ W
      refine wpOp_step rfl fun _ hK => ?_
      go_simp
      refine (g4 _).mono ?_
      rintro e W1 ⟨rfl,hb1⟩
      exact hK _ _ ⟨rfl,hj.over hb1⟩
     ·intro o W _
      show wpOp _ _ _ 18 _ ⟨#[_,_,_,_,_,_,_,_,_,_,o 0,o 1,o 2,o 3,o 4,o 5,o 6,o 7,o 8,.bool false,o 10,o 11,o 12,.int .i64 IH,o 14,o 15,o 16,.int .i64 OH,o 18,o 19],[]⟩ W
      refine wpOp_step rfl fun _ hK => ?_
      go_simp
      exact hK _ _ ⟨rfl,rfl⟩
     ·intro o W _
      show wpOp _ _ _ 19 _ ⟨#[_,_,_,_,_,_,_,_,_,_,o 0,o 1,o 2,o 3,o 4,o 5,o 6,o 7,o 8,.bool false,o 10,o 11,o 12,o 13,o 14,o 15,o 16,o 17,.bool false,o 19],[]⟩ W
      refine wpOp_step rfl fun _ hK => ?_
      go_simp
      exact hK _ _ ⟨rfl,rfl⟩
     ·intro o hh_
      have e0 : o 0 = .pointer (some ⟨w.heap.size,0,none⟩) := hh_ 0 (by decide)
      have e1 : o 1 = .agg #[x,y,z] := hh_ 1 (by decide)
      have e2 : o 2 = .int .i64 (m : Int) := hh_ 2 (by decide)
      have e3 : o 3 = .int .i64 IL := hh_ 3 (by decide)
      have e4 : o 4 = .pointer (some ⟨(w.heap.size + 1),0,none⟩) := hh_ 4 (by decide)
      have e5 : o 5 = .agg #[a,b,c] := hh_ 5 (by decide)
      have e6 : o 6 = .int .i64 (m : Int) := hh_ 6 (by decide)
      have e7 : o 7 = .int .i64 OL := hh_ 7 (by decide)
      have e8 : o 8 = .bool false := hh_ 8 (by decide)
      have e9 : o 9 = .bool false := hh_ 9 (by decide)
      have e10 : o 10 = .pointer (some ⟨w.heap.size,3,none⟩) := hh_ 10 (by decide)
      have e11 : o 11 = .agg #[p,q,r] := hh_ 11 (by decide)
      have e12 : o 12 = .int .i64 (m : Int) := hh_ 12 (by decide)
      have e13 : o 13 = .int .i64 IH := hh_ 13 (by decide)
      have e14 : o 14 = .pointer (some ⟨(w.heap.size + 1),3,none⟩) := hh_ 14 (by decide)
      have e15 : o 15 = .agg #[d,s,u] := hh_ 15 (by decide)
      have e16 : o 16 = .int .i64 (m : Int) := hh_ 16 (by decide)
      have e17 : o 17 = .int .i64 OH := hh_ 17 (by decide)
      have e18 : o 18 = .bool false := hh_ 18 (by decide)
      have e19 : o 19 = .bool false := hh_ 19 (by decide)
      rw [e0,e1,e2,e3,e4,e5,e6,e7,e8,e9,e10,e11,e12,e13,e14,e15,e16,e17,e18,e19]
     ·intro W1 h1
      have h1 : KL _ _ W1 := h1
      obtain ⟨aL0,a0_0,a0_1,a0_2,a0_3,a0_4,a0_5⟩ := bl6 (KL.blk h1 (.head _))
      obtain ⟨aL1,a1_0,a1_1,a1_2,a1_3,a1_4,a1_5⟩ := bl6 (KL.blk h1 (.tail _ (.head _)))
      have hjb := h1.1
      have hjz := hjb.size
      go_wp2
      go_roundw
      case rel => exact ⟨m + 1,by go_num,by omega,hnext,h1⟩
      case measure => simp [intOf] <;> omega
  ·have e : m = 3 := by omega
   subst e
   have hres := Lib.hid (inAx_all hall)
   have hbw := hj.1
   go_wp2
   go_ret
   rw [hres.out]
   exact ⟨rfl,hbw⟩
end Go.Proofs.Ytogmgaaejepcbaa
