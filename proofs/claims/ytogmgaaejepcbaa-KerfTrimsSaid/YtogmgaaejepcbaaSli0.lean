/- The walk of kerf's Slices,one axis. -/
import Derived.Test.YtogmgaaejepcbaaCor
import Derived.Test.YtogmgaaejepcbaaSlm
import Derived.Test.YtogmgaaejepcbaaReg
import Derived.Test.YtogmgaaejepcbaaRgb
import Derived.Test.YtogmgaaejepcbaaCs0
namespace Go.Proofs.Ytogmgaaejepcbaa
open Go.RowKit

/-- what Slices leaves: the rest is the zero box,or what lies behind the last kerf -/
def slRest0 (x y z p q r t k : Int) (N : Nat) : List Value := if p ≤ frm x (t + k) N then [.int .i64 0,.int .i64 0,.int .i64 0,.int .i64 0,.int .i64 0,.int .i64 0] else [.int .i64 (frm x (t + k) N),.int .i64 y,.int .i64 z,.int .i64 p,.int .i64 q,.int .i64 r]
def SlRes0 (x y z p q r t k : Int) (N : Nat) (w : World) (e : Ending) (w' : World) : Prop :=
 ∃ A c,e = .returned (.tuple #[.slice A N c,.agg (slRest0 x y z p q r t k N).toArray,.int .i64 0]) ∧ RowA w' 6 A N (rowTo (slV0 x y z p q r t k) N) ∧ Below w.heap.size w w'
set_option maxHeartbeats 16000000 in
set_option maxRecDepth 100000 in
theorem Slices0 (x y z p q r t k : Int) (N : Nat) (hv : eB x y z p q r = 0) (ht : rgB 1 2000000 t = true) (hk : rgB 0 1000 k = true) (hn : (p - x + k) / (t + k) = (N : Int)) (hN0 : 0 < N) (hN : N ≤ 1000) (w : World) :
  Calls Try.prog 28 #[.agg #[x,y,z,p,q,r],.int .i64 0,.int .i64 t,.int .i64 k] w (SlRes0 x y z p q r t k N w) := by
 obtain ⟨⟨a1,a2,a3⟩,⟨a4,a5,a6⟩,⟨a7,a8,a9⟩⟩ := eB_bd hv
 have i2 := rgB_iff.1 ht
 have i3 := rgB_iff.1 hk
 have hc := cs_ok0 x y z p q r t k N hv ht hk hn
 rw [show csN (N : Int) = N by simp [csN]; omega,show csE (N : Int) = 0 by simp [csE]; omega] at hc
 clear hv ht hk hn
 have hw : IntKind.i64.wrap (t + k) = t + k := IntWalk.i64_in _ (by omega)
 obtain ⟨i0,in0,in1,in2,in3⟩ := info_parts info25
 go_enter Try.func28,Try.ntmps28
 go_wp2_with (first | (go_at_call 50; refine (hc _).mono ?_; rintro e w1 ⟨rfl,hb1⟩; obtain ⟨hc1,hf1⟩ := bcell hb1; have hz1 := hb1.size; (try simp at hz1); (try have y10 : w.heap.size < w1.heap.size := (by omega)); (try have y10p : w.heap.size < w1.heap.size + 1 := (by omega)); (try have y11 : w.heap.size + 1 < w1.heap.size := (by omega)); (try have y11p : w.heap.size + 1 < w1.heap.size + 1 := (by omega)); (try have y12 : w.heap.size + 1 + 1 < w1.heap.size := (by omega)); (try have y12p : w.heap.size + 1 + 1 < w1.heap.size + 1 := (by omega)); (try have y13 : w.heap.size + 1 + 1 + 1 < w1.heap.size := (by omega)); (try have y13p : w.heap.size + 1 + 1 + 1 < w1.heap.size + 1 := (by omega)); (try have y14 : w.heap.size + 1 + 1 + 1 + 1 < w1.heap.size := (by omega)); (try have y14p : w.heap.size + 1 + 1 + 1 + 1 < w1.heap.size + 1 := (by omega)); (try have v0x1 : w0.heap.size < w1.heap.size := (by omega)); (try have v0x1p : w0.heap.size < w1.heap.size + 1 := (by omega))) | (go_at_call 42; refine (ends_any _ _).mono ?_; rintro e w2 ⟨rfl,hb2⟩; obtain ⟨hc2,hf2⟩ := bcell hb2; have hz2 := hb2.size; (try simp at hz2); (try have y20 : w.heap.size < w2.heap.size := (by omega)); (try have y20p : w.heap.size < w2.heap.size + 1 := (by omega)); (try have y21 : w.heap.size + 1 < w2.heap.size := (by omega)); (try have y21p : w.heap.size + 1 < w2.heap.size + 1 := (by omega)); (try have y22 : w.heap.size + 1 + 1 < w2.heap.size := (by omega)); (try have y22p : w.heap.size + 1 + 1 < w2.heap.size + 1 := (by omega)); (try have y23 : w.heap.size + 1 + 1 + 1 < w2.heap.size := (by omega)); (try have y23p : w.heap.size + 1 + 1 + 1 < w2.heap.size + 1 := (by omega)); (try have y24 : w.heap.size + 1 + 1 + 1 + 1 < w2.heap.size := (by omega)); (try have y24p : w.heap.size + 1 + 1 + 1 + 1 < w2.heap.size + 1 := (by omega)); (try have v0x2 : w0.heap.size < w2.heap.size := (by omega)); (try have v0x2p : w0.heap.size < w2.heap.size + 1 := (by omega)); (try have v1x2 : w1.heap.size < w2.heap.size := (by omega)); (try have v1x2p : w1.heap.size < w2.heap.size + 1 := (by omega))))
 have hjS : KL [((w2.heap.size + 1),76,#[.pointer (some ⟨w.heap.size,3,none⟩),.pointer (some ⟨w.heap.size,4,none⟩),.pointer (some ⟨w.heap.size,5,none⟩)]),(w2.heap.size,76,#[.pointer (some ⟨w.heap.size,0,none⟩),.pointer (some ⟨w.heap.size,1,none⟩),.pointer (some ⟨w.heap.size,2,none⟩)]),((w.heap.size + 1),25,#[.int .i64 0,.int .i64 0,.int .i64 0,.int .i64 0,.int .i64 0,.int .i64 0]),(w.heap.size,25,#[x,y,z,p,q,r])] w _ := (KL.new (g := (w2.heap.size + 1)) (KL.new (g := w2.heap.size) (KL.over (KL.over (KL.new (g := (w.heap.size + 1)) (KL.new (g := w.heap.size) (KL.nil w) rfl _ _) (by simp) _ _) hb1) hb2) rfl _ _) (by simp) _ _)
 go_loopw [15,16,39] (fun f v i wr => ∃ (n : Nat) (A : Option Addr) (c : Nat),n ≤ N ∧ i = .int .i64 n ∧ f = .int .i64 (frm x (t + k) n) ∧ v = .slice A n c ∧ wr.ownsRow (w2.heap.size + 1 + 1) 25 6 (.slice A n c) n (rowTo (slV0 x y z p q r t k) n) ∧ KL [((w2.heap.size + 1),76,#[.pointer (some ⟨w.heap.size,3,none⟩),.pointer (some ⟨w.heap.size,4,none⟩),.pointer (some ⟨w.heap.size,5,none⟩)]),(w2.heap.size,76,#[.pointer (some ⟨w.heap.size,0,none⟩),.pointer (some ⟨w.heap.size,1,none⟩),.pointer (some ⟨w.heap.size,2,none⟩)]),((w.heap.size + 1),25,#[.int .i64 0,.int .i64 0,.int .i64 0,.int .i64 0,.int .i64 0,.int .i64 0]),(w.heap.size,25,#[x,y,z,p,q,r])] w wr) (fun _ _ i _ => N - (intOf i).toNat)
 case atStart => exact ⟨0,none,0,by omega,rfl,by rw [frm_zero],rfl,World.ownsRow_nil _ _ _ _,hjS⟩
 case round =>
  clear hjS
  obtain ⟨n,A,c,hnN,rfl,rfl,rfl,hown,hj⟩ := hrel
  have hfb := frm_bd (lo := x) (st := t + k) (k := n) (by omega) (by omega) (by omega) (by omega) (by omega)
  obtain ⟨cL0,c0_0,c0_1,c0_2⟩ := bl3 (KL.blk hj (.head _))
  obtain ⟨cL1,c1_0,c1_1,c1_2⟩ := bl3 (KL.blk hj (.tail _ (.head _)))
  obtain ⟨cL2,c2_0,c2_1,c2_2,c2_3,c2_4,c2_5⟩ := bl6 (KL.blk hj (.tail _ (.tail _ (.head _))))
  have cF2 := (KL.blk hj (.tail _ (.tail _ (.head _)))).frozen
  obtain ⟨cL3,c3_0,c3_1,c3_2,c3_3,c3_4,c3_5⟩ := bl6 (KL.blk hj (.tail _ (.tail _ (.tail _ (.head _)))))
  have hsz := hj.1.size
  by_cases hlt : n < N
  ·have hfs := Lib.hid (frm_succ x (t + k) n)
   have hfx := frm_bd (lo := x) (st := t + k) (k := n + 1) (by omega) (by omega) (by omega) (by omega) (by omega)
   have hfx' : frm x (t + k) n + (t + k) ≤ 3000000000 ∧ -1000000 ≤ frm x (t + k) n + (t + k) := by rw [← hfs.out]; omega
   clear hfx
   have hmk : rowTo (slV0 x y z p q r t k) (n + 1) = rowTo (slV0 x y z p q r t k) n ++ slV0 x y z p q r t k n := rowTo_succ _ _
   have HMK := Lib.hid hmk
   clear hmk
   have hsv := Lib.hid (show slV0 x y z p q r t k n = [.int .i64 (frm x (t + k) n),.int .i64 y,.int .i64 z,.int .i64 (frm x (t + k) n + t),.int .i64 q,.int .i64 r] from rfl)
   generalize hF : frm x (t + k) n = F at *
   go_wp2_with (first
    | (go_at_call 43; refine (part0 _ _ _ _ _ _ _ _ _).mono ?_; rintro e w4 ⟨rfl,hb4⟩; have hz4 := hb4.size; have hown4 := own_below hown hb4; have hj4 := hj.over hb4)
    | (at_builtin; refine wpList_append_kl rfl (.tmp 41) (.tmp 49) _ rfl (w2.heap.size + 1 + 1) 25 i0 _ 6 48 Try.underlying52 in0 in1 in2 in3 rfl (by decide) (.slice A n c) n _ rfl (hown4.alloc _) (w4.heap.size + 1) (some ⟨w4.heap.size,0,none⟩) 1 1 (slV0 x y z p q r t k n) rfl (by rw [hsv.out]; exact reads_new (Blk.new _ _ _) rfl (by omega)) (slV0_one _ _ _ _ _ _ _ _ _) (n + 1) (rowTo (slV0 x y z p q r t k) (n + 1)) rfl HMK.out (by simp only [maxLen]; omega) (by omega) (hj4.alloc _) (by simp <;> omega) (by omega) (by simp <;> omega) ?_; intro A5 c5 w5 hown5 hj5 hs5))
   go_roundw
   case rel => exact ⟨n + 1,A5,c5,by omega,by go_num,by rw [hfs.out],rfl,hown5,hj5⟩
   case measure => simp [intOf] <;> omega
  ·obtain rfl : n = N := by omega
   rcases hown.2 with ⟨e1,e2⟩ | ⟨g,cap,cur,e1,hg,hh,hcap,hcm,hcs,htk⟩
   ·omega
   ·injection e1 with e1a e1b e1c
    subst e1a
    subst e1c
    have hB : Blk wr g 25 cur := hh
    have hgl := hB.lt
    have hj := KL.cons hB hj
    clear hB hh
    by_cases hz : p ≤ frm x (t + k) n
    ·have HR := Lib.hid (show slRest0 x y z p q r t k n = [.int .i64 0,.int .i64 0,.int .i64 0,.int .i64 0,.int .i64 0,.int .i64 0] by unfold slRest0; rw [if_pos hz])
     go_wp2
     have hz2 : KL [(g,25,cur),((w2.heap.size + 1),76,#[.pointer (some ⟨w.heap.size,3,none⟩),.pointer (some ⟨w.heap.size,4,none⟩),.pointer (some ⟨w.heap.size,5,none⟩)]),(w2.heap.size,76,#[.pointer (some ⟨w.heap.size,0,none⟩),.pointer (some ⟨w.heap.size,1,none⟩),.pointer (some ⟨w.heap.size,2,none⟩)]),((w.heap.size + 1),25,#[.int .i64 0,.int .i64 0,.int .i64 0,.int .i64 0,.int .i64 0,.int .i64 0]),(w.heap.size,25,#[x,y,z,p,q,r])] w _ := (KL.up6 3 hj rfl (by omega) (by simp <;> omega))
     obtain ⟨dL,d0,d1,d2,d3,d4,d5⟩ := bl6 (KL.blk hz2 (.tail _ (.tail _ (.tail _ (.head _)))))
     have hzg := KL.blk hz2 (.head _)
     exact bodyPost_ret (v := .tuple #[.slice (some ⟨g,0,none⟩) n c,.agg #[.int .i64 0,.int .i64 0,.int .i64 0,.int .i64 0,.int .i64 0,.int .i64 0],.int .i64 0]) (by simp [results,Try.results28,go_sem,d0,d1,d2,d3,d4,d5]) rfl ⟨some ⟨g,0,none⟩,c,by rw [HR.out],RowA.of_blk hzg hown.1 htk,hz2.1⟩
    ·have HR := Lib.hid (show slRest0 x y z p q r t k n = [.int .i64 (frm x (t + k) n),.int .i64 y,.int .i64 z,.int .i64 p,.int .i64 q,.int .i64 r] by unfold slRest0; rw [if_neg hz])
     have hd : decide (p ≤ frm x (t + k) n) = false := by simpa using hz
     go_wp2
     refine wp_region_any (by kernel_rfl) ?_
     try (change wpAny _ _ _ _ _ _ _ (World.drew _))
     refine wpAny_vals (fr := fun o => #[.agg #[x,y,z,p,q,r],.int .i64 0,.int .i64 t,.int .i64 k,.pointer (some ⟨w.heap.size,0,none⟩),undef,undef,undef,o 10,.pointer (some ⟨(w.heap.size + 1),0,none⟩),o 12,.int .i64 ((n : Int)),.int .i64 0,.pointer (some ⟨w2.heap.size,0,none⟩),.pointer (some ⟨(w2.heap.size + 1),0,none⟩),.int .i64 (frm x (t + k) n),.slice (some ⟨g,0,none⟩) n c,.tuple #[.int .i64 ((n : Int)),.int .i64 0],.agg #[x,y,z,p,q,r],.int .i64 0,.int .i64 t,.int .i64 k,.tuple #[.int .i64 ((n : Int)),.int .i64 0],.int .i64 ((n : Int)),.int .i64 0,.int .i64 0,.bool false,undef,undef,.tuple #[.agg #[.pointer (some ⟨w.heap.size,0,none⟩),.pointer (some ⟨w.heap.size,1,none⟩),.pointer (some ⟨w.heap.size,2,none⟩)],.agg #[.pointer (some ⟨w.heap.size,3,none⟩),.pointer (some ⟨w.heap.size,4,none⟩),.pointer (some ⟨w.heap.size,5,none⟩)]],.tuple #[.agg #[.pointer (some ⟨w.heap.size,0,none⟩),.pointer (some ⟨w.heap.size,1,none⟩),.pointer (some ⟨w.heap.size,2,none⟩)],.agg #[.pointer (some ⟨w.heap.size,3,none⟩),.pointer (some ⟨w.heap.size,4,none⟩),.pointer (some ⟨w.heap.size,5,none⟩)]],.agg #[.pointer (some ⟨w.heap.size,0,none⟩),.pointer (some ⟨w.heap.size,1,none⟩),.pointer (some ⟨w.heap.size,2,none⟩)],.agg #[.pointer (some ⟨w.heap.size,3,none⟩),.pointer (some ⟨w.heap.size,4,none⟩),.pointer (some ⟨w.heap.size,5,none⟩)],.int .i64 0,.pointer (some ⟨w2.heap.size,0,none⟩),.pointer (some ⟨w.heap.size,0,none⟩),.pointer (some ⟨w.heap.size,0,none⟩),.int .i64 x,.int .i64 ((n : Int)),.int .i64 ((n : Int)),.bool false,u41,u42,u43,u44,u45,u46,u47,u48,u49,u50,u51,u52,u53,u54,u55,u56,.int .i64 (frm x (t + k) n),.int .i64 0,.pointer (some ⟨(w2.heap.size + 1),0,none⟩),.pointer (some ⟨w.heap.size,3,none⟩),.pointer (some ⟨w.heap.size,3,none⟩),.int .i64 p,.bool false,undef,undef,o 0,o 1,o 2,o 3,o 4,o 5,o 6,o 7,o 8,o 9]) (vals := fun i_ => ([.slice (some ⟨g,0,none⟩) n c,.agg #[x,y,z,p,q,r],.int .i64 0,.int .i64 (frm x (t + k) n),.int .i64 0,.pointer (some ⟨(w2.heap.size + 1),0,none⟩),.pointer (some ⟨w.heap.size,3,none⟩),.pointer (some ⟨w.heap.size,3,none⟩),.int .i64 p,.agg #[.int .i64 (frm x (t + k) n),.int .i64 y,.int .i64 z,.int .i64 p,.int .i64 q,.int .i64 r],.slice (some ⟨g,0,none⟩) n c,undef,.int .i64 0] : List Value).getD i_ undef) (Kf := fun _ => True) (K := fun kk_ => ([(KL [(g,25,cur),((w2.heap.size + 1),76,#[.pointer (some ⟨w.heap.size,3,none⟩),.pointer (some ⟨w.heap.size,4,none⟩),.pointer (some ⟨w.heap.size,5,none⟩)]),(w2.heap.size,76,#[.pointer (some ⟨w.heap.size,0,none⟩),.pointer (some ⟨w.heap.size,1,none⟩),.pointer (some ⟨w.heap.size,2,none⟩)]),((w.heap.size + 1),25,#[.int .i64 0,.int .i64 0,.int .i64 0,.int .i64 0,.int .i64 0,.int .i64 0]),(w.heap.size,25,#[x,y,z,p,q,r])] w),(KL [(g,25,cur),((w2.heap.size + 1),76,#[.pointer (some ⟨w.heap.size,3,none⟩),.pointer (some ⟨w.heap.size,4,none⟩),.pointer (some ⟨w.heap.size,5,none⟩)]),(w2.heap.size,76,#[.pointer (some ⟨w.heap.size,0,none⟩),.pointer (some ⟨w.heap.size,1,none⟩),.pointer (some ⟨w.heap.size,2,none⟩)]),((w.heap.size + 1),25,#[.int .i64 (frm x (t + k) n),.int .i64 y,.int .i64 z,.int .i64 p,.int .i64 q,.int .i64 r]),(w.heap.size,25,#[x,y,z,p,q,r])] w)] : List (World → Prop)).getD kk_ (fun _ => True)) (dep := fun i_ => [[],[],[],[],[],[4],[5],[6],[7],[1,2,3,8],[0],[1,6,8,9],[]].getD i_ []) (dv := fun i_ => [[],[],[],[],[],[4],[5],[6],[7],[1,2,3,8],[0],[9],[]].getD i_ []) (kd := fun i_ => [0,1,0,0,0,0,1,0,1,1,0,2,0].getD i_ 0) (ss := [11]) (l := [0,1,2,3,4,5,6,7,8,9,10,11,12]) (f0 := fun i_ => ([undef,undef,undef,undef,undef,undef,undef,undef,undef,undef,.slice none 0 0,undef,.int .i64 0] : List Value).getD i_ undef) (A := ?A1) 13 rfl rfl (by decide +kernel) (by decide +kernel) ?_ ?_ ⟨?_,?_,?_,?_,?_,?_,?_,?_,?_,?_,?_,?_,?_,trivial⟩ ?_ ?_
     rotate_left
     ·exact KL.drew hj
     ·exact fun _ _ _ _ => trivial
     ·intro o W _
      show wpOp _ _ _ 0 _ ⟨#[_,_,_,_,_,_,_,_,o 10,_,o 12,_,_,_,_,_,_,_,_,_,_,_,_,_,_,_,_,_,_,_,_,_,_,_,_,_,_,_,_,_,_,_,_,_,_,_,_,_,_,_,_,_,_,_,_,_,_,_,_,_,_,_,_,_,_,_,o 0,o 1,o 2,o 3,o 4,o 5,o 6,o 7,o 8,o 9],[]⟩ W
      refine wpOp_step rfl fun _ hK => ?_
      go_simp
      exact hK _ _ ⟨rfl,rfl⟩
     ·intro o W hj
      have hj : KL _ _ W := hj
      obtain ⟨cL,c0,c1,c2,c3,c4,c5⟩ := bl6 (KL.blk hj (.tail _ (.tail _ (.tail _ (.tail _ (.head _))))))
      show wpOp _ _ _ 1 _ ⟨#[_,_,_,_,_,_,_,_,o 10,_,o 12,_,_,_,_,_,_,_,_,_,_,_,_,_,_,_,_,_,_,_,_,_,_,_,_,_,_,_,_,_,_,_,_,_,_,_,_,_,_,_,_,_,_,_,_,_,_,_,_,_,_,_,_,_,_,_,o 0,o 1,o 2,o 3,o 4,o 5,o 6,o 7,o 8,o 9],[]⟩ W
      refine wpOp_step rfl fun _ hK => ?_
      go_simp
      exact hK _ _ ⟨rfl,hj⟩
     ·intro o W _
      show wpOp _ _ _ 2 _ ⟨#[_,_,_,_,_,_,_,_,o 10,_,o 12,_,_,_,_,_,_,_,_,_,_,_,_,_,_,_,_,_,_,_,_,_,_,_,_,_,_,_,_,_,_,_,_,_,_,_,_,_,_,_,_,_,_,_,_,_,_,_,_,_,_,_,_,_,_,_,o 0,o 1,o 2,o 3,o 4,o 5,o 6,o 7,o 8,o 9],[]⟩ W
      refine wpOp_step rfl fun _ hK => ?_
      go_simp
      exact hK _ _ ⟨rfl,rfl⟩
     ·intro o W _
      show wpOp _ _ _ 3 _ ⟨#[_,_,_,_,_,_,_,_,o 10,_,o 12,_,_,_,_,_,_,_,_,_,_,_,_,_,_,_,_,_,_,_,_,_,_,_,_,_,_,_,_,_,_,_,_,_,_,_,_,_,_,_,_,_,_,_,_,_,_,_,_,_,_,_,_,_,_,_,o 0,o 1,o 2,o 3,o 4,o 5,o 6,o 7,o 8,o 9],[]⟩ W
      refine wpOp_step rfl fun _ hK => ?_
      go_simp
      exact hK _ _ ⟨rfl,rfl⟩
     ·intro o W _
      show wpOp _ _ _ 4 _ ⟨#[_,_,_,_,_,_,_,_,o 10,_,o 12,_,_,_,_,_,_,_,_,_,_,_,_,_,_,_,_,_,_,_,_,_,_,_,_,_,_,_,_,_,_,_,_,_,_,_,_,_,_,_,_,_,_,_,_,_,_,_,_,_,_,_,_,_,_,_,o 0,o 1,o 2,o 3,o 4,o 5,o 6,o 7,o 8,o 9],[]⟩ W
      refine wpOp_step rfl fun _ hK => ?_
      go_simp
      exact hK _ _ ⟨rfl,rfl⟩
     ·intro o W _
      show wpOp _ _ _ 5 _ ⟨#[_,_,_,_,_,_,_,_,o 10,_,o 12,_,_,_,_,_,_,_,_,_,_,_,_,_,_,_,_,_,_,_,_,_,_,_,_,_,_,_,_,_,_,_,_,_,_,_,_,_,_,_,_,_,_,_,_,_,_,_,_,_,_,_,_,_,_,_,o 0,o 1,o 2,o 3,.int .i64 0,o 5,o 6,o 7,o 8,o 9],[]⟩ W
      refine wpOp_step rfl fun _ hK => ?_
      go_simp
      exact hK _ _ ⟨rfl,rfl⟩
     ·intro o W hj
      have hj : KL _ _ W := hj
      obtain ⟨cL,c0,c1,c2⟩ := bl3 (KL.blk hj (.tail _ (.head _)))
      show wpOp _ _ _ 6 _ ⟨#[_,_,_,_,_,_,_,_,o 10,_,o 12,_,_,_,_,_,_,_,_,_,_,_,_,_,_,_,_,_,_,_,_,_,_,_,_,_,_,_,_,_,_,_,_,_,_,_,_,_,_,_,_,_,_,_,_,_,_,_,_,_,_,_,_,_,_,_,o 0,o 1,o 2,o 3,o 4,.pointer (some ⟨(w2.heap.size + 1),0,none⟩),o 6,o 7,o 8,o 9],[]⟩ W
      refine wpOp_step rfl fun _ hK => ?_
      go_simp
      exact hK _ _ ⟨rfl,hj⟩
     ·intro o W _
      show wpOp _ _ _ 7 _ ⟨#[_,_,_,_,_,_,_,_,o 10,_,o 12,_,_,_,_,_,_,_,_,_,_,_,_,_,_,_,_,_,_,_,_,_,_,_,_,_,_,_,_,_,_,_,_,_,_,_,_,_,_,_,_,_,_,_,_,_,_,_,_,_,_,_,_,_,_,_,o 0,o 1,o 2,o 3,o 4,o 5,.pointer (some ⟨w.heap.size,3,none⟩),o 7,o 8,o 9],[]⟩ W
      refine wpOp_step rfl fun _ hK => ?_
      go_simp
      exact hK _ _ ⟨rfl,rfl⟩
     ·intro o W hj
      have hj : KL _ _ W := hj
      obtain ⟨cL,c0,c1,c2,c3,c4,c5⟩ := bl6 (KL.blk hj (.tail _ (.tail _ (.tail _ (.tail _ (.head _))))))
      show wpOp _ _ _ 8 _ ⟨#[_,_,_,_,_,_,_,_,o 10,_,o 12,_,_,_,_,_,_,_,_,_,_,_,_,_,_,_,_,_,_,_,_,_,_,_,_,_,_,_,_,_,_,_,_,_,_,_,_,_,_,_,_,_,_,_,_,_,_,_,_,_,_,_,_,_,_,_,o 0,o 1,o 2,o 3,o 4,o 5,o 6,.pointer (some ⟨w.heap.size,3,none⟩),o 8,o 9],[]⟩ W
      refine wpOp_step rfl fun _ hK => ?_
      go_simp
      exact hK _ _ ⟨rfl,hj⟩
     ·intro o W hj
      have hj : KL _ _ W := hj
      show wpOp _ _ _ 9 _ ⟨#[_,_,_,_,_,_,_,_,o 10,_,o 12,_,_,_,_,_,_,_,_,_,_,_,_,_,_,_,_,_,_,_,_,_,_,_,_,_,_,_,_,_,_,_,_,_,_,_,_,_,_,_,_,_,_,_,_,_,_,_,_,_,_,_,_,_,_,_,o 0,.agg #[x,y,z,p,q,r],.int .i64 0,.int .i64 (frm x (t + k) n),o 4,o 5,o 6,o 7,.int .i64 p,o 9],[]⟩ W
      refine wpOp_step rfl fun _ hK => ?_
      go_simp
      refine (part0 _ _ _ _ _ _ _ _ _).mono ?_
      rintro e W1 ⟨rfl,hb1⟩
      exact hK _ _ ⟨rfl,hj.over hb1⟩
     ·intro o W _
      show wpOp _ _ _ 10 _ ⟨#[_,_,_,_,_,_,_,_,o 10,_,o 12,_,_,_,_,_,_,_,_,_,_,_,_,_,_,_,_,_,_,_,_,_,_,_,_,_,_,_,_,_,_,_,_,_,_,_,_,_,_,_,_,_,_,_,_,_,_,_,_,_,_,_,_,_,_,_,.slice (some ⟨g,0,none⟩) n c,o 1,o 2,o 3,o 4,o 5,o 6,o 7,o 8,o 9],[]⟩ W
      refine wpOp_step rfl fun _ hK => ?_
      go_simp
      exact hK _ _ ⟨rfl,rfl⟩
     ·intro o W hj
      have hj : KL _ _ W := hj
      obtain ⟨cL,c0,c1,c2,c3,c4,c5⟩ := bl6 (KL.blk hj (.tail _ (.tail _ (.tail _ (.head _)))))
      have cF := (KL.blk hj (.tail _ (.tail _ (.tail _ (.head _))))).frozen
      show wpOp _ _ _ 11 _ ⟨#[_,_,_,_,_,_,_,_,o 10,_,o 12,_,_,_,_,_,_,_,_,_,_,_,_,_,_,_,_,_,_,_,_,_,_,_,_,_,_,_,_,_,_,_,_,_,_,_,_,_,_,_,_,_,_,_,_,_,_,_,_,_,_,_,_,_,_,_,o 0,o 1,o 2,o 3,o 4,o 5,o 6,o 7,o 8,.agg #[.int .i64 (frm x (t + k) n),.int .i64 y,.int .i64 z,.int .i64 p,.int .i64 q,.int .i64 r]],[]⟩ W
      refine wpOp_step rfl fun _ hK => ?_
      go_simp
      exact hK _ _ ⟨rfl,(KL.up6 3 hj rfl (by omega) (by simp <;> omega))⟩
     ·intro o W _
      show wpOp _ _ _ 12 _ ⟨#[_,_,_,_,_,_,_,_,o 10,_,o 12,_,_,_,_,_,_,_,_,_,_,_,_,_,_,_,_,_,_,_,_,_,_,_,_,_,_,_,_,_,_,_,_,_,_,_,_,_,_,_,_,_,_,_,_,_,_,_,_,_,_,_,_,_,_,_,o 0,o 1,o 2,o 3,o 4,o 5,o 6,o 7,o 8,o 9],[]⟩ W
      refine wpOp_step rfl fun _ hK => ?_
      go_simp
      exact hK _ _ ⟨rfl,rfl⟩
     ·intro o hh_
      have e0 : o 0 = .slice (some ⟨g,0,none⟩) n c := hh_ 0 (by decide)
      have e1 : o 1 = .agg #[x,y,z,p,q,r] := hh_ 1 (by decide)
      have e2 : o 2 = .int .i64 0 := hh_ 2 (by decide)
      have e3 : o 3 = .int .i64 (frm x (t + k) n) := hh_ 3 (by decide)
      have e4 : o 4 = .int .i64 0 := hh_ 4 (by decide)
      have e5 : o 5 = .pointer (some ⟨(w2.heap.size + 1),0,none⟩) := hh_ 5 (by decide)
      have e6 : o 6 = .pointer (some ⟨w.heap.size,3,none⟩) := hh_ 6 (by decide)
      have e7 : o 7 = .pointer (some ⟨w.heap.size,3,none⟩) := hh_ 7 (by decide)
      have e8 : o 8 = .int .i64 p := hh_ 8 (by decide)
      have e9 : o 9 = .agg #[.int .i64 (frm x (t + k) n),.int .i64 y,.int .i64 z,.int .i64 p,.int .i64 q,.int .i64 r] := hh_ 9 (by decide)
      have e10 : o 10 = .slice (some ⟨g,0,none⟩) n c := hh_ 10 (by decide)
      have e12 : o 12 = .int .i64 0 := hh_ 12 (by decide)
      rw [e0,e1,e2,e3,e4,e5,e6,e7,e8,e9,e10,e12]
     ·intro W7 h7
      have h7 : KL _ _ W7 := h7
      have dL0 := (KL.blk h7 (.head _)).lt
      obtain ⟨dL1,d1_0,d1_1,d1_2⟩ := bl3 (KL.blk h7 (.tail _ (.head _)))
      obtain ⟨dL2,d2_0,d2_1,d2_2⟩ := bl3 (KL.blk h7 (.tail _ (.tail _ (.head _))))
      obtain ⟨dL3,d3_0,d3_1,d3_2,d3_3,d3_4,d3_5⟩ := bl6 (KL.blk h7 (.tail _ (.tail _ (.tail _ (.head _)))))
      have dF3 := (KL.blk h7 (.tail _ (.tail _ (.tail _ (.head _))))).frozen
      obtain ⟨dL4,d4_0,d4_1,d4_2,d4_3,d4_4,d4_5⟩ := bl6 (KL.blk h7 (.tail _ (.tail _ (.tail _ (.tail _ (.head _))))))
      have hjb := h7.1
      have hjz := hjb.size
      go_wp2
      have hzg := KL.blk h7 (.head _)
      exact bodyPost_ret (v := .tuple #[.slice (some ⟨g,0,none⟩) n c,.agg #[.int .i64 (frm x (t + k) n),.int .i64 y,.int .i64 z,.int .i64 p,.int .i64 q,.int .i64 r],.int .i64 0]) (by simp [results,Try.results28,go_sem,d3_0,d3_1,d3_2,d3_3,d3_4,d3_5]) rfl ⟨some ⟨g,0,none⟩,c,by rw [HR.out],RowA.of_blk hzg hown.1 htk,hjb⟩
end Go.Proofs.Ytogmgaaejepcbaa
