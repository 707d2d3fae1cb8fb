/- The walk of kerf's Cuts,one axis. -/
import Derived.Test.YtogmgaaejepcbaaCor
import Derived.Test.YtogmgaaejepcbaaCum
import Derived.Test.YtogmgaaejepcbaaReg
import Derived.Test.YtogmgaaejepcbaaRgb
import Derived.Test.YtogmgaaejepcbaaCs0
namespace Go.Proofs.Ytogmgaaejepcbaa
open Go.RowKit

/-- what Cuts leaves -/
def CuRes0 (x _y _z p _q _r t k : Int) (N : Nat) (w : World) (e : Ending) (w' : World) : Prop :=
 ∃ A c,e = .returned (.tuple #[.slice A (cutN p (frm x (t + k) N) N N) c,.int .i64 0]) ∧ RowA w' 3 A (cutN p (frm x (t + k) N) N N) (rowTo (cuV0 x t k) (cutN p (frm x (t + k) N) N N)) ∧ Below w.heap.size w w'
set_option maxHeartbeats 16000000 in
set_option maxRecDepth 100000 in
theorem Cuts0 (x y z p q r t k : Int) (N : Nat) (hv : eB x y z p q r = 0) (ht : rgB 1 2000000 t = true) (hk : rgB 0 1000 k = true) (hn : (p - x + k) / (t + k) = (N : Int)) (hN0 : 0 < N) (hN : N ≤ 1000) (w : World) :
  Calls Try.prog 29 #[.agg #[x,y,z,p,q,r],.int .i64 0,.int .i64 t,.int .i64 k] w (CuRes0 x y z p q r t k N w) := by
 obtain ⟨⟨a1,a2,a3⟩,⟨a4,a5,a6⟩,⟨a7,a8,a9⟩⟩ := eB_bd hv
 have i2 := rgB_iff.1 ht
 have i3 := rgB_iff.1 hk
 have hc := cs_ok0 x y z p q r t k N hv ht hk hn
 rw [show csN (N : Int) = N by simp [csN]; omega,show csE (N : Int) = 0 by simp [csE]; omega] at hc
 have HN := Lib.hid hn
 clear hv ht hk hn
 have hw : IntKind.i64.wrap (t + k) = t + k := IntWalk.i64_in _ (by omega)
 obtain ⟨i0,in0,in1,in2,in3⟩ := info_parts info33
 go_enter Try.func29,Try.ntmps29
 go_wp2_with (first | (go_at_call 50; refine (hc _).mono ?_; rintro e w1 ⟨rfl,hb1⟩; obtain ⟨hc1,hf1⟩ := bcell hb1; have hz1 := hb1.size; (try simp at hz1); (try have y10 : w.heap.size < w1.heap.size := (by omega)); (try have y10p : w.heap.size < w1.heap.size + 1 := (by omega)); (try have y11 : w.heap.size + 1 < w1.heap.size := (by omega)); (try have y11p : w.heap.size + 1 < w1.heap.size + 1 := (by omega)); (try have y12 : w.heap.size + 1 + 1 < w1.heap.size := (by omega)); (try have y12p : w.heap.size + 1 + 1 < w1.heap.size + 1 := (by omega)); (try have y13 : w.heap.size + 1 + 1 + 1 < w1.heap.size := (by omega)); (try have y13p : w.heap.size + 1 + 1 + 1 < w1.heap.size + 1 := (by omega)); (try have y14 : w.heap.size + 1 + 1 + 1 + 1 < w1.heap.size := (by omega)); (try have y14p : w.heap.size + 1 + 1 + 1 + 1 < w1.heap.size + 1 := (by omega)); (try have v0x1 : w0.heap.size < w1.heap.size := (by omega)); (try have v0x1p : w0.heap.size < w1.heap.size + 1 := (by omega))) | (go_at_call 42; refine (ends_any _ _).mono ?_; rintro e w2 ⟨rfl,hb2⟩; obtain ⟨hc2,hf2⟩ := bcell hb2; have hz2 := hb2.size; (try simp at hz2); (try have y20 : w.heap.size < w2.heap.size := (by omega)); (try have y20p : w.heap.size < w2.heap.size + 1 := (by omega)); (try have y21 : w.heap.size + 1 < w2.heap.size := (by omega)); (try have y21p : w.heap.size + 1 < w2.heap.size + 1 := (by omega)); (try have y22 : w.heap.size + 1 + 1 < w2.heap.size := (by omega)); (try have y22p : w.heap.size + 1 + 1 < w2.heap.size + 1 := (by omega)); (try have y23 : w.heap.size + 1 + 1 + 1 < w2.heap.size := (by omega)); (try have y23p : w.heap.size + 1 + 1 + 1 < w2.heap.size + 1 := (by omega)); (try have y24 : w.heap.size + 1 + 1 + 1 + 1 < w2.heap.size := (by omega)); (try have y24p : w.heap.size + 1 + 1 + 1 + 1 < w2.heap.size + 1 := (by omega)); (try have v0x2 : w0.heap.size < w2.heap.size := (by omega)); (try have v0x2p : w0.heap.size < w2.heap.size + 1 := (by omega)); (try have v1x2 : w1.heap.size < w2.heap.size := (by omega)); (try have v1x2p : w1.heap.size < w2.heap.size + 1 := (by omega))))
 have hjS : KL [((w2.heap.size + 1),76,#[.pointer (some ⟨w.heap.size,3,none⟩),.pointer (some ⟨w.heap.size,4,none⟩),.pointer (some ⟨w.heap.size,5,none⟩)]),(w2.heap.size,76,#[.pointer (some ⟨w.heap.size,0,none⟩),.pointer (some ⟨w.heap.size,1,none⟩),.pointer (some ⟨w.heap.size,2,none⟩)]),(w.heap.size,25,#[x,y,z,p,q,r])] w _ := (KL.new (g := (w2.heap.size + 1)) (KL.new (g := w2.heap.size) (KL.over (KL.over (KL.new (g := w.heap.size) (KL.nil w) rfl _ _) hb1) hb2) rfl _ _) (by simp) _ _)
 go_loopw [14,15,39] (fun f v i wr => ∃ (n m : Nat) (A : Option Addr) (c : Nat),n ≤ N ∧ m = cutN p (frm x (t + k) N) N n ∧ i = .int .i64 n ∧ f = .int .i64 (frm x (t + k) n + t) ∧ v = .slice A m c ∧ wr.ownsRow (w2.heap.size + 1 + 1) 33 3 (.slice A m c) m (rowTo (cuV0 x t k) m) ∧ KL [((w2.heap.size + 1),76,#[.pointer (some ⟨w.heap.size,3,none⟩),.pointer (some ⟨w.heap.size,4,none⟩),.pointer (some ⟨w.heap.size,5,none⟩)]),(w2.heap.size,76,#[.pointer (some ⟨w.heap.size,0,none⟩),.pointer (some ⟨w.heap.size,1,none⟩),.pointer (some ⟨w.heap.size,2,none⟩)]),(w.heap.size,25,#[x,y,z,p,q,r])] w wr) (fun _ _ i _ => N - (intOf i).toNat)
 case atStart => exact ⟨0,0,none,0,by omega,(cutN_lt hN0).symm,rfl,by rw [frm_zero],rfl,World.ownsRow_nil _ _ _ _,hjS⟩
 case round =>
  clear hjS
  obtain ⟨n,m,A,c,hnN,hm,rfl,rfl,rfl,hown,hj⟩ := hrel
  have hfb := frm_bd (lo := x) (st := t + k) (k := n) (by omega) (by omega) (by omega) (by omega) (by omega)
  obtain ⟨cL0,c0_0,c0_1,c0_2⟩ := bl3 (KL.blk hj (.head _))
  obtain ⟨cL1,c1_0,c1_1,c1_2⟩ := bl3 (KL.blk hj (.tail _ (.head _)))
  obtain ⟨cL2,c2_0,c2_1,c2_2,c2_3,c2_4,c2_5⟩ := bl6 (KL.blk hj (.tail _ (.tail _ (.head _))))
  have hsz := hj.1.size
  by_cases hlt : n < N
  ·rw [cutN_lt hlt] at hm
   have hm := hm.symm
   subst hm
   have hin := frm_in i2.1 i3.1 HN.out (n := n) (by omega)
   have hlast := frm_last i2.1 i3.1 HN.out
   have hfs := Lib.hid (frm_succ x (t + k) n)
   have hmk : rowTo (cuV0 x t k) (n + 1) = rowTo (cuV0 x t k) n ++ cuV0 x t k n := rowTo_succ _ _
   have HMK := Lib.hid hmk
   clear hmk
   have hsv := Lib.hid (show cuV0 x t k n = [.int .i64 0,.int .i64 (frm x (t + k) n + t),.int .i64 k] from rfl)
   have hcase : (n + 1 < N ∧ frm x (t + k) n + t + k < p) ∨ (n + 1 = N ∧ frm x (t + k) n + t + k < p ∧ frm x (t + k) N < p) ∨ (n + 1 = N ∧ p ≤ frm x (t + k) n + t + k ∧ p ≤ frm x (t + k) N) := by
    by_cases e : n + 1 = N
    ·subst e
     have := hfs.out
     omega
    ·have h2 := frm_in i2.1 i3.1 HN.out (n := n + 1) (by omega)
     have := hfs.out
     omega
   generalize hF : frm x (t + k) n = F at *
   generalize hG : frm x (t + k) N = G at *
   rcases hcase with ⟨hc1,hc2⟩ | ⟨hc1,hc2,hc3⟩ | ⟨hc1,hc2,hc3⟩
   ·go_wp2_with (first
     | (at_builtin; refine wpList_append_kl rfl (.tmp 50) (.tmp 55) _ rfl (w2.heap.size + 1 + 1) 33 i0 _ 3 24 Try.underlying55 in0 in1 in2 in3 rfl (by decide) (.slice A n c) n _ rfl (hown.alloc _) (wr.heap.size + 1) (some ⟨wr.heap.size,0,none⟩) 1 1 (cuV0 x t k n) rfl (by rw [hsv.out]; exact reads_new (Blk.new _ _ _) rfl (by omega)) (cuV0_one _ _ _ _) (n + 1) (rowTo (cuV0 x t k) (n + 1)) rfl HMK.out (by simp only [maxLen]; omega) (by omega) (hj.alloc _) (by simp <;> omega) (by omega) (by simp <;> omega) ?_; intro A5 c5 w5 hown5 hj5 hs5))
    go_roundw
    case rel => exact ⟨n + 1,n + 1,A5,c5,by omega,(cutN_lt hc1).symm,by go_num,by rw [hfs.out]; go_num,rfl,hown5,hj5⟩
    case measure => simp [intOf] <;> omega
   ·have HC := Lib.hid hc1
    clear hc1
    go_wp2_with (first
     | (at_builtin; refine wpList_append_kl rfl (.tmp 50) (.tmp 55) _ rfl (w2.heap.size + 1 + 1) 33 i0 _ 3 24 Try.underlying55 in0 in1 in2 in3 rfl (by decide) (.slice A n c) n _ rfl (hown.alloc _) (wr.heap.size + 1) (some ⟨wr.heap.size,0,none⟩) 1 1 (cuV0 x t k n) rfl (by rw [hsv.out]; exact reads_new (Blk.new _ _ _) rfl (by omega)) (cuV0_one _ _ _ _) (n + 1) (rowTo (cuV0 x t k) (n + 1)) rfl HMK.out (by simp only [maxLen]; omega) (by omega) (hj.alloc _) (by simp <;> omega) (by omega) (by simp <;> omega) ?_; intro A5 c5 w5 hown5 hj5 hs5))
    go_roundw
    case rel => exact ⟨n + 1,n + 1,A5,c5,by have := HC.out; omega,(cutN_yes hc3 _).symm,by go_num,by rw [hfs.out]; go_num,rfl,hown5,hj5⟩
    case measure => simp [intOf] <;> omega
   ·have HC := Lib.hid hc1
    clear hc1
    go_wp2
    go_roundw
    case rel => exact ⟨n + 1,n,A,c,by have := HC.out; omega,by have h1 := HC.out; subst h1; rw [cutN_no hc3]; rfl,by go_num,by rw [hfs.out]; go_num,rfl,hown,hj⟩
    case measure => simp [intOf] <;> omega
  ·obtain rfl : n = N := by omega
   subst hm
   have hbw := hj.1
   go_wp2
   go_ret2
   exact ⟨A,c,rfl,RowA.of_own hown,hbw⟩
end Go.Proofs.Ytogmgaaejepcbaa
