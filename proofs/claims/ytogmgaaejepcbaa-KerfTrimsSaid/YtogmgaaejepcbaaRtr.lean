/- The walk of the reference's Trim. -/
import Derived.Test.YtogmgaaejepcbaaCor
import Derived.Test.YtogmgaaejepcbaaRtm
namespace Go.Proofs.Ytogmgaaejepcbaa
open Go.RowKit

def RtRes (x y z p q r a b c d s u k : Int) (w : World) (e : Ending) (w' : World) : Prop :=
 ∃ A cp,e = .returned (.tuple #[.slice A (trN3 x y z p q r a b c d s u k) cp,.int .i64 (trL3 x y z p q r a b c d s u k)]) ∧ RowA w' 3 A (trN3 x y z p q r a b c d s u k) (trR3 x y z p q r a b c d s u k) ∧ Below w.heap.size w w'
set_option maxHeartbeats 32000000 in
set_option maxRecDepth 100000 in
theorem rTrim_ok (x y z p q r a b c d s u k : Int) (hx : x ≤ a ∧ a < d ∧ d ≤ p) (hy : y ≤ b ∧ b < s ∧ s ≤ q) (hz : z ≤ c ∧ c < u ∧ u ≤ r) (bx : -1000000 ≤ x ∧ p ≤ 1000000) (by_ : -1000000 ≤ y ∧ q ≤ 1000000) (bz : -1000000 ≤ z ∧ r ≤ 1000000) (hk : 0 ≤ k) (hkm2 : k ≤ 1000) (w : World) :
  Calls Try.prog 37 #[.agg #[x,y,z,p,q,r],.agg #[a,b,c,d,s,u],.int .i64 k] w (RtRes x y z p q r a b c d s u k w) := by
 have hfacts := Lib.hid (trm_facts x y z p q r a b c d s u k hx hy hz bx by_ bz hk hkm2)
 clear hx hy hz bx by_ bz
 obtain ⟨i0,in0,in1,in2,in3⟩ := info_parts info27
 go_enter Try.func37,Try.ntmps37
 go_wp2
 have hj0 : KL [((w.heap.size + 1 + 1),27,#[]),((w.heap.size + 1),25,#[a,b,c,d,s,u]),(w.heap.size,25,#[x,y,z,p,q,r])] w _ := KL.new (g := (w.heap.size + 1 + 1)) (KL.new (g := (w.heap.size + 1)) (KL.new (g := w.heap.size) (KL.nil w) rfl _ _) (by simp) _ _) (by simp) _ _
 have hjS : KL [((w.heap.size + 1),25,#[a,b,c,d,s,u]),(w.heap.size,25,#[x,y,z,p,q,r])] w _ := KL.part hj0 (fun p_ hp_ => .tail _ hp_)
 have hown0 : World.ownsRow _ (w.heap.size + 1 + 1) 27 3 (.slice (some ⟨(w.heap.size + 1 + 1),0,none⟩) 0 0) 0 (trR0 x y z p q r a b c d s u k) := ⟨rfl,.inr ⟨_,0,#[],rfl,Nat.le_refl _,KL.blk hj0 (.head _),Nat.le_refl _,Nat.zero_le _,rfl,rfl⟩⟩
 clear hj0
 go_loopw [8,9,10] (fun v l i wr => ∃ (m n : Nat) (A : Option Addr) (c_ : Nat) (X Y Z P Q R L : Int) (xs : List Value),m ≤ 3 ∧ v = .slice A n c_ ∧ l = .int .i64 L ∧ i = .int .i64 m ∧ St x y z p q r a b c d s u k m X Y Z P Q R L n xs ∧ wr.ownsRow (w.heap.size + 1 + 1) 27 3 (.slice A n c_) n xs ∧ KL [((w.heap.size + 1),25,#[a,b,c,d,s,u]),(w.heap.size,25,#[.int .i64 X,.int .i64 Y,.int .i64 Z,.int .i64 P,.int .i64 Q,.int .i64 R])] w wr) (fun _ _ i _ => 3 - (intOf i).toNat)
 case atStart => exact ⟨0,0,_,0,x,y,z,p,q,r,trL0 x y z p q r a b c d s u k,trR0 x y z p q r a b c d s u k,by omega,rfl,rfl,rfl,⟨rfl,rfl,rfl,rfl,rfl,rfl,rfl,rfl,rfl⟩,hown0,hjS⟩
 case round =>
  clear hjS hown0
  obtain ⟨m,n,A,c_,X,Y,Z,P,Q,R,L,xs,hm,rfl,rfl,rfl,hst,hown,hj⟩ := hrel
  obtain ⟨zL0,z0_0,z0_1,z0_2,z0_3,z0_4,z0_5⟩ := bl6 (KL.blk hj (.head _))
  obtain ⟨zL1,z1_0,z1_1,z1_2,z1_3,z1_4,z1_5⟩ := bl6 (KL.blk hj (.tail _ (.head _)))
  have hsz := hj.1.size
  by_cases hlt : m < 3
  ·obtain ⟨lo,LP,hi,HP,D1,D2,E1,E2,V1,V2,glo,ghi,gLP,gHP,x1,x2,⟨d1a,d1b⟩,⟨d2a,d2b⟩,⟨lpa,lpb⟩,⟨hpa,hpb⟩,x3,x4,hV1,hV2,⟨hL0,hv1,hv2,hLs_,hn2⟩,hX_,hP_,hSt_⟩ := hfacts.out m hlt X Y Z P Q R L n xs hst
   have hkm : rgB 0 2 (m : Int) = true := rgB_iff.2 (by omega)
   have gl : ∀ w,Calls Try.prog 41 #[.agg #[.int .i64 X,.int .i64 Y,.int .i64 Z],.int .i64 ((m : Int))] w fun e w' => e = .returned (.int .i64 lo) ∧ Below w.heap.size w w' := fun w => by have h := get_k hkm X Y Z w; rwa [glo] at h
   have gh : ∀ w,Calls Try.prog 41 #[.agg #[.int .i64 P,.int .i64 Q,.int .i64 R],.int .i64 ((m : Int))] w fun e w' => e = .returned (.int .i64 hi) ∧ Below w.heap.size w w' := fun w => by have h := get_k hkm P Q R w; rwa [ghi] at h
   have ga : ∀ w,Calls Try.prog 41 #[.agg #[a,b,c],.int .i64 ((m : Int))] w fun e w' => e = .returned (.int .i64 LP) ∧ Below w.heap.size w w' := fun w => by have h := get_k hkm a b c w; rwa [gLP] at h
   have gd : ∀ w,Calls Try.prog 41 #[.agg #[d,s,u],.int .i64 ((m : Int))] w fun e w' => e = .returned (.int .i64 HP) ∧ Below w.heap.size w w' := fun w => by have h := get_k hkm d s u w; rwa [gHP] at h
   have pn := fun x y z n w => put_n hkm x y z n w
   have HS := Lib.hid hSt_
   have hXX := Lib.hid hX_
   have hPP := Lib.hid hP_
   have hLs := Lib.hid hLs_
   have d3 : decide ((m : Int) < 3) = true := by simp <;> omega
   have d4 : decide (m < 3) = true := by simp <;> omega
   have x5 : IntKind.i64.wrap ((m : Int) + 1) = (m : Int) + 1 := IntWalk.i64_in _ (by omega)
   clear glo ghi gLP gHP hSt_ hX_ hP_ hLs_ hkm hst
   go_wp2
   refine wp_region_any (by kernel_rfl) ?_
   try (change wpAny _ _ _ _ _ _ _ (World.drew _))
   refine wpAny_vals (fr := fun o => #[.agg #[x,y,z,p,q,r],.agg #[a,b,c,d,s,u],.int .i64 k,.pointer (some ⟨w.heap.size,0,none⟩),.pointer (some ⟨(w.heap.size + 1),0,none⟩),undef,.slice none 0 0,.int .i64 0,.slice A n c_,.int .i64 L,.int .i64 ((m : Int)),o 8,o 9,u13,u14,u15,u16,.slice (some ⟨(w.heap.size + 1 + 1),0,none⟩) 0 0,.int .i64 ((m : Int)),.bool true,u20,u21,o 0,o 1,o 2,o 3,o 4,o 5,o 6,o 7,u30,u31,u32,u33,u34,u35,u36,u37,u38,u39,u40,u41,u42,u43,u44,u45,u46,u47,u48,u49,u50,u51,u52,u53,u54,u55,u56,u57,u58,u59,u60,u61,u62,u63,u64,u65,u66,u67,u68,u69,u70,u71,u72,u73,u74,u75,u76,u77,u78,u79,u80,u81,u82,u83,u84,u85,u86,u87,u88,u89,u90,u91,u92,u93,u94,u95,u96,u97,u98,u99,u100,u101,u102,u103,u104,u105,u106,u107,u108,u109,u110,u111,u112,u113,u114,u115,u116,u117,u118,u119,u120,u121,undef,undef]) (vals := fun i_ => ([.pointer (some ⟨(w.heap.size + 1),0,none⟩),.agg #[a,b,c],.int .i64 ((m : Int)),.int .i64 LP,.pointer (some ⟨(w.heap.size + 1),3,none⟩),.agg #[d,s,u],.int .i64 ((m : Int)),.int .i64 HP,.int .i64 LP,.int .i64 HP] : List Value).getD i_ undef) (Kf := fun _ => True) (K := fun kk_ => ([(KL [((w.heap.size + 1),25,#[a,b,c,d,s,u]),(w.heap.size,25,#[.int .i64 X,.int .i64 Y,.int .i64 Z,.int .i64 P,.int .i64 Q,.int .i64 R])] wr)] : List (World → Prop)).getD kk_ (fun _ => True)) (dep := fun i_ => [[],[0],[],[1,2],[],[4],[],[5,6],[3],[7]].getD i_ []) (dv := fun i_ => [[],[0],[],[1,2],[],[4],[],[5,6],[3],[7]].getD i_ []) (kd := fun i_ => [0,1,0,1,0,1,0,1,0,0].getD i_ 0) (ss := []) (l := [0,1,2,3,4,5,6,7,8,9]) (f0 := fun i_ => ([u22,u23,u24,u25,u26,u27,u28,u29,u11,u12] : List Value).getD i_ undef) (A := ?A9) 10 ?_ ?_ ?_ ?_ ?_ ?_ ⟨?_,?_,?_,?_,?_,?_,?_,?_,?_,?_,trivial⟩ ?_ ?_
   rotate_left
   ·rfl
   ·rfl
   ·decide +kernel
   ·decide +kernel
   ·exact KL.drew hj.base
   ·exact fun _ _ _ _ => trivial
   ·intro o W _
    show wpOp _ _ _ 0 _ ⟨⟨_::_::_::_::_::_::_::_::_::_::_::o 8::o 9::_::_::_::_::_::_::_::_::_::o 0::o 1::o 2::o 3::o 4::o 5::o 6::o 7::_⟩,[]⟩ W
    refine wpOp_step rfl fun _ hK => ?_
    go_simp
    exact hK _ _ ⟨rfl,rfl⟩
   ·intro o W hj
    have hj : KL _ _ W := hj
    obtain ⟨cL,c0,c1,c2,c3,c4,c5⟩ := bl6 (KL.blk hj (.head _))
    show wpOp _ _ _ 1 _ ⟨⟨_::_::_::_::_::_::_::_::_::_::_::o 8::o 9::_::_::_::_::_::_::_::_::_::.pointer (some ⟨(w.heap.size + 1),0,none⟩)::o 1::o 2::o 3::o 4::o 5::o 6::o 7::_⟩,[]⟩ W
    refine wpOp_step rfl fun _ hK => ?_
    go_simp
    exact hK _ _ ⟨rfl,hj⟩
   ·intro o W _
    show wpOp _ _ _ 2 _ ⟨⟨_::_::_::_::_::_::_::_::_::_::_::o 8::o 9::_::_::_::_::_::_::_::_::_::o 0::o 1::o 2::o 3::o 4::o 5::o 6::o 7::_⟩,[]⟩ W
    refine wpOp_step rfl fun _ hK => ?_
    go_simp
    exact hK _ _ ⟨rfl,rfl⟩
   ·intro o W hj
    have hj : KL _ _ W := hj
    show wpOp _ _ _ 3 _ ⟨⟨_::_::_::_::_::_::_::_::_::_::_::o 8::o 9::_::_::_::_::_::_::_::_::_::o 0::.agg #[a,b,c]::.int .i64 ((m : Int))::o 3::o 4::o 5::o 6::o 7::_⟩,[]⟩ W
    refine wpOp_step rfl fun _ hK => ?_
    go_simp
    refine (ga _).mono ?_
    rintro e W1 ⟨rfl,hb1⟩
    exact hK _ _ ⟨rfl,hj.over hb1⟩
   ·intro o W _
    show wpOp _ _ _ 4 _ ⟨⟨_::_::_::_::_::_::_::_::_::_::_::o 8::o 9::_::_::_::_::_::_::_::_::_::o 0::o 1::o 2::o 3::o 4::o 5::o 6::o 7::_⟩,[]⟩ W
    refine wpOp_step rfl fun _ hK => ?_
    go_simp
    exact hK _ _ ⟨rfl,rfl⟩
   ·intro o W hj
    have hj : KL _ _ W := hj
    obtain ⟨cL,c0,c1,c2,c3,c4,c5⟩ := bl6 (KL.blk hj (.head _))
    show wpOp _ _ _ 5 _ ⟨⟨_::_::_::_::_::_::_::_::_::_::_::o 8::o 9::_::_::_::_::_::_::_::_::_::o 0::o 1::o 2::o 3::.pointer (some ⟨(w.heap.size + 1),3,none⟩)::o 5::o 6::o 7::_⟩,[]⟩ W
    refine wpOp_step rfl fun _ hK => ?_
    go_simp
    exact hK _ _ ⟨rfl,hj⟩
   ·intro o W _
    show wpOp _ _ _ 6 _ ⟨⟨_::_::_::_::_::_::_::_::_::_::_::o 8::o 9::_::_::_::_::_::_::_::_::_::o 0::o 1::o 2::o 3::o 4::o 5::o 6::o 7::_⟩,[]⟩ W
    refine wpOp_step rfl fun _ hK => ?_
    go_simp
    exact hK _ _ ⟨rfl,rfl⟩
   ·intro o W hj
    have hj : KL _ _ W := hj
    show wpOp _ _ _ 7 _ ⟨⟨_::_::_::_::_::_::_::_::_::_::_::o 8::o 9::_::_::_::_::_::_::_::_::_::o 0::o 1::o 2::o 3::o 4::.agg #[d,s,u]::.int .i64 ((m : Int))::o 7::_⟩,[]⟩ W
    refine wpOp_step rfl fun _ hK => ?_
    go_simp
    refine (gd _).mono ?_
    rintro e W1 ⟨rfl,hb1⟩
    exact hK _ _ ⟨rfl,hj.over hb1⟩
   ·intro o W _
    show wpOp _ _ _ 8 _ ⟨⟨_::_::_::_::_::_::_::_::_::_::_::o 8::o 9::_::_::_::_::_::_::_::_::_::o 0::o 1::o 2::.int .i64 LP::o 4::o 5::o 6::o 7::_⟩,[]⟩ W
    refine wpOp_step rfl fun _ hK => ?_
    go_simp
    exact hK _ _ ⟨rfl,rfl⟩
   ·intro o W _
    show wpOp _ _ _ 9 _ ⟨⟨_::_::_::_::_::_::_::_::_::_::_::o 8::o 9::_::_::_::_::_::_::_::_::_::o 0::o 1::o 2::o 3::o 4::o 5::o 6::.int .i64 HP::_⟩,[]⟩ W
    refine wpOp_step rfl fun _ hK => ?_
    go_simp
    exact hK _ _ ⟨rfl,rfl⟩
   ·intro o hh_
    have e0 : o 0 = .pointer (some ⟨(w.heap.size + 1),0,none⟩) := hh_ 0 (by decide)
    have e1 : o 1 = .agg #[a,b,c] := hh_ 1 (by decide)
    have e2 : o 2 = .int .i64 ((m : Int)) := hh_ 2 (by decide)
    have e3 : o 3 = .int .i64 LP := hh_ 3 (by decide)
    have e4 : o 4 = .pointer (some ⟨(w.heap.size + 1),3,none⟩) := hh_ 4 (by decide)
    have e5 : o 5 = .agg #[d,s,u] := hh_ 5 (by decide)
    have e6 : o 6 = .int .i64 ((m : Int)) := hh_ 6 (by decide)
    have e7 : o 7 = .int .i64 HP := hh_ 7 (by decide)
    have e8 : o 8 = .int .i64 LP := hh_ 8 (by decide)
    have e9 : o 9 = .int .i64 HP := hh_ 9 (by decide)
    rw [e0,e1,e2,e3,e4,e5,e6,e7,e8,e9]
   ·intro W1 h1
    have h1 : KL _ _ W1 := h1
    obtain ⟨aL0,a0_0,a0_1,a0_2,a0_3,a0_4,a0_5⟩ := bl6 (KL.blk h1 (.head _))
    obtain ⟨aL1,a1_0,a1_1,a1_2,a1_3,a1_4,a1_5⟩ := bl6 (KL.blk h1 (.tail _ (.head _)))
    have hjb := h1.1
    have hjz := hjb.size
    have hown1 := own_below hown hjb
    have hj1 := hj.over hjb
    by_cases hz1 : 0 < D1
    ·by_cases hk1 : k < D1
     ·have t1 : decide (0 < D1) = true := by simpa using hz1
      go_wp2_with (go_at_call 41; (with_reducible refine (gl _).mono ?_); rintro e w2 ⟨rfl,hb2⟩; have hj2 : KL [((w.heap.size + 1),25,#[a,b,c,d,s,u]),(w.heap.size,25,#[.int .i64 X,.int .i64 Y,.int .i64 Z,.int .i64 P,.int .i64 Q,.int .i64 R])] w w2 := hj1.over hb2; have hown2 := own_below hown1 hb2; obtain ⟨bL,b0,b1,b2,b3,b4,b5⟩ := bl6 (KL.blk hj2 (.tail _ (.head _))); have bM := (KL.blk hj2 (.head _)).lt)
      have xL1 : IntKind.i64.wrap (L + V1) = L + V1 := IntWalk.i64_in _ (by have h := hLs.out; rw [if_pos hz1] at h; split at h <;> omega)
      have HK1 := Lib.hid hk1
      clear hk1
      have xLk : IntKind.i64.wrap (LP - k) = LP - k := IntWalk.i64_in _ (by omega)
      refine wp_region_any (by kernel_rfl) ?_
      try (change wpAny _ _ _ _ _ _ _ (World.drew _))
      refine wpAny_vals (fr := fun o => #[.agg #[x,y,z,p,q,r],.agg #[a,b,c,d,s,u],.int .i64 k,.pointer (some ⟨w.heap.size,0,none⟩),.pointer (some ⟨(w.heap.size + 1),0,none⟩),undef,.slice none 0 0,.int .i64 0,.slice A n c_,.int .i64 L,.int .i64 ((m : Int)),.int .i64 LP,.int .i64 HP,.int .i64 D1,.pointer (some ⟨w2.heap.size,0,none⟩),u15,u16,.slice (some ⟨(w.heap.size + 1 + 1),0,none⟩) 0 0,.int .i64 ((m : Int)),.bool true,u20,u21,.pointer (some ⟨(w.heap.size + 1),0,none⟩),.agg #[a,b,c],.int .i64 ((m : Int)),.int .i64 LP,.pointer (some ⟨(w.heap.size + 1),3,none⟩),.agg #[d,s,u],.int .i64 ((m : Int)),.int .i64 HP,.int .i64 LP,.pointer (some ⟨w.heap.size,0,none⟩),.agg #[.int .i64 X,.int .i64 Y,.int .i64 Z],.int .i64 ((m : Int)),.int .i64 lo,.int .i64 D1,.int .i64 D1,.bool true,.agg #[.int .i64 X,.int .i64 Y,.int .i64 Z,.int .i64 P,.int .i64 Q,.int .i64 R],o 0,o 1,o 2,o 3,o 4,o 5,o 6,o 7,o 8,o 9,o 10,o 11,o 12,o 13,o 14,o 16,u55,u56,u57,u58,u59,u60,u61,u62,u63,u64,u65,u66,u67,u68,u69,u70,u71,u72,u73,u74,u75,u76,u77,u78,u79,u80,u81,u82,u83,u84,u85,u86,u87,u88,u89,u90,u91,u92,u93,u94,u95,u96,u97,u98,u99,u100,u101,u102,u103,u104,u105,u106,u107,u108,u109,u110,u111,u112,u113,u114,u115,u116,u117,u118,u119,u120,u121,undef,undef]) (vals := fun i_ => ([.pointer (some ⟨w.heap.size,0,none⟩),.agg #[.int .i64 X,.int .i64 Y,.int .i64 Z],.int .i64 ((m : Int)),.int .i64 LP,.int .i64 D1,.int .i64 k,.int .i64 (if k < D1 then k else D1),.int .i64 E1,.agg #[.int .i64 (pt 0 X (m : Int) E1),.int .i64 (pt 1 Y (m : Int) E1),.int .i64 (pt 2 Z (m : Int) E1)],.pointer (some ⟨w.heap.size,3,none⟩),.agg #[.int .i64 P,.int .i64 Q,.int .i64 R],.int .i64 ((m : Int)),.int .i64 LP,.agg #[.int .i64 (pt 0 P (m : Int) LP),.int .i64 (pt 1 Q (m : Int) LP),.int .i64 (pt 2 R (m : Int) LP)],.pointer (some ⟨w2.heap.size,0,none⟩),undef,.pointer (some ⟨w2.heap.size,3,none⟩),undef] : List Value).getD i_ undef) (Kf := fun W_ => KL [((w.heap.size + 1),25,#[a,b,c,d,s,u]),(w.heap.size,25,#[.int .i64 X,.int .i64 Y,.int .i64 Z,.int .i64 P,.int .i64 Q,.int .i64 R])] w2 W_) (K := fun kk_ => ([(KL [(w2.heap.size,25,#[.int .i64 X,.int .i64 Y,.int .i64 Z,.int .i64 P,.int .i64 Q,.int .i64 R]),((w.heap.size + 1),25,#[a,b,c,d,s,u]),(w.heap.size,25,#[.int .i64 X,.int .i64 Y,.int .i64 Z,.int .i64 P,.int .i64 Q,.int .i64 R])] w2),(KL [(w2.heap.size,25,#[.int .i64 (pt 0 X (m : Int) E1),.int .i64 (pt 1 Y (m : Int) E1),.int .i64 (pt 2 Z (m : Int) E1),.int .i64 P,.int .i64 Q,.int .i64 R]),((w.heap.size + 1),25,#[a,b,c,d,s,u]),(w.heap.size,25,#[.int .i64 X,.int .i64 Y,.int .i64 Z,.int .i64 P,.int .i64 Q,.int .i64 R])] w2),(KL [(w2.heap.size,25,#[.int .i64 (pt 0 X (m : Int) E1),.int .i64 (pt 1 Y (m : Int) E1),.int .i64 (pt 2 Z (m : Int) E1),.int .i64 (pt 0 P (m : Int) LP),.int .i64 (pt 1 Q (m : Int) LP),.int .i64 (pt 2 R (m : Int) LP)]),((w.heap.size + 1),25,#[a,b,c,d,s,u]),(w.heap.size,25,#[.int .i64 X,.int .i64 Y,.int .i64 Z,.int .i64 P,.int .i64 Q,.int .i64 R])] w2)] : List (World → Prop)).getD kk_ (fun _ => True)) (dep := fun i_ => [[],[0],[],[],[],[],[4,5],[3,6],[1,2,7],[],[9],[],[],[10,11,12],[],[1,8,13,14],[],[13,15,16]].getD i_ []) (dv := fun i_ => [[],[0],[],[],[],[],[4,5],[3,6],[1,2,7],[],[9],[],[],[10,11,12],[],[8,14],[],[13,16]].getD i_ []) (kd := fun i_ => [0,1,0,0,0,0,0,0,1,0,0,0,0,1,0,2,0,3].getD i_ 0) (ss := [15,17]) (l := [0,1,2,3,4,5,6,7,8,9,10,11,12,13,14,15,16,17]) (f0 := fun i_ => ([u39,u40,u41,u42,u43,u44,u45,u46,u47,u48,u49,u50,u51,u52,u53,undef,u54,undef] : List Value).getD i_ undef) (A := ?A3) 18 ?_ ?_ ?_ ?_ ?_ ?_ ⟨?_,?_,?_,?_,?_,?_,?_,?_,?_,?_,?_,?_,?_,?_,?_,?_,?_,?_,trivial⟩ ?_ ?_
      rotate_left
      ·rfl
      ·rfl
      ·decide +kernel
      ·decide +kernel
      ·exact KL.drew (KL.new (g := w2.heap.size) hj2.base rfl _ _)
      ·intro t_ W ht_ hh_
       rcases t_ with _ | _ | _ | _
       ·exact KL.part hh_ (fun p_ hp_ => by simp only [List.mem_cons,List.not_mem_nil,or_false] at hp_; rcases hp_ with rfl | rfl; exact (.tail _ (.head _)); exact (.tail _ (.tail _ (.head _))))
       ·exact KL.part hh_ (fun p_ hp_ => by simp only [List.mem_cons,List.not_mem_nil,or_false] at hp_; rcases hp_ with rfl | rfl; exact (.tail _ (.head _)); exact (.tail _ (.tail _ (.head _))))
       ·exact KL.part hh_ (fun p_ hp_ => by simp only [List.mem_cons,List.not_mem_nil,or_false] at hp_; rcases hp_ with rfl | rfl; exact (.tail _ (.head _)); exact (.tail _ (.tail _ (.head _))))
       ·exact absurd ht_ (by simp)
      ·intro o W _
       show wpOp _ _ _ 0 _ ⟨⟨_::_::_::_::_::_::_::_::_::_::_::_::_::_::_::_::_::_::_::_::_::_::_::_::_::_::_::_::_::_::_::_::_::_::_::_::_::_::_::o 0::o 1::o 2::o 3::o 4::o 5::o 6::o 7::o 8::o 9::o 10::o 11::o 12::o 13::o 14::o 16::_⟩,[]⟩ W
       refine wpOp_step rfl fun _ hK => ?_
       go_simp
       exact hK _ _ ⟨rfl,rfl⟩
      ·intro o W hj
       have hj : KL _ _ W := hj
       obtain ⟨cL,c0,c1,c2,c3,c4,c5⟩ := bl6 (KL.blk hj (.tail _ (.tail _ (.head _))))
       show wpOp _ _ _ 1 _ ⟨⟨_::_::_::_::_::_::_::_::_::_::_::_::_::_::_::_::_::_::_::_::_::_::_::_::_::_::_::_::_::_::_::_::_::_::_::_::_::_::_::.pointer (some ⟨w.heap.size,0,none⟩)::o 1::o 2::o 3::o 4::o 5::o 6::o 7::o 8::o 9::o 10::o 11::o 12::o 13::o 14::o 16::_⟩,[]⟩ W
       refine wpOp_step rfl fun _ hK => ?_
       go_simp
       exact hK _ _ ⟨rfl,hj⟩
      ·intro o W _
       show wpOp _ _ _ 2 _ ⟨⟨_::_::_::_::_::_::_::_::_::_::_::_::_::_::_::_::_::_::_::_::_::_::_::_::_::_::_::_::_::_::_::_::_::_::_::_::_::_::_::o 0::o 1::o 2::o 3::o 4::o 5::o 6::o 7::o 8::o 9::o 10::o 11::o 12::o 13::o 14::o 16::_⟩,[]⟩ W
       refine wpOp_step rfl fun _ hK => ?_
       go_simp
       exact hK _ _ ⟨rfl,rfl⟩
      ·intro o W _
       show wpOp _ _ _ 3 _ ⟨⟨_::_::_::_::_::_::_::_::_::_::_::_::_::_::_::_::_::_::_::_::_::_::_::_::_::_::_::_::_::_::_::_::_::_::_::_::_::_::_::o 0::o 1::o 2::o 3::o 4::o 5::o 6::o 7::o 8::o 9::o 10::o 11::o 12::o 13::o 14::o 16::_⟩,[]⟩ W
       refine wpOp_step rfl fun _ hK => ?_
       go_simp
       exact hK _ _ ⟨rfl,rfl⟩
      ·intro o W _
       show wpOp _ _ _ 4 _ ⟨⟨_::_::_::_::_::_::_::_::_::_::_::_::_::_::_::_::_::_::_::_::_::_::_::_::_::_::_::_::_::_::_::_::_::_::_::_::_::_::_::o 0::o 1::o 2::o 3::o 4::o 5::o 6::o 7::o 8::o 9::o 10::o 11::o 12::o 13::o 14::o 16::_⟩,[]⟩ W
       refine wpOp_step rfl fun _ hK => ?_
       go_simp
       exact hK _ _ ⟨rfl,rfl⟩
      ·intro o W _
       show wpOp _ _ _ 5 _ ⟨⟨_::_::_::_::_::_::_::_::_::_::_::_::_::_::_::_::_::_::_::_::_::_::_::_::_::_::_::_::_::_::_::_::_::_::_::_::_::_::_::o 0::o 1::o 2::o 3::o 4::o 5::o 6::o 7::o 8::o 9::o 10::o 11::o 12::o 13::o 14::o 16::_⟩,[]⟩ W
       refine wpOp_step rfl fun _ hK => ?_
       go_simp
       exact hK _ _ ⟨rfl,rfl⟩
      ·intro o W _
       show wpOp _ _ _ 6 _ ⟨⟨_::_::_::_::_::_::_::_::_::_::_::_::_::_::_::_::_::_::_::_::_::_::_::_::_::_::_::_::_::_::_::_::_::_::_::_::_::_::_::o 0::o 1::o 2::o 3::.int .i64 D1::.int .i64 k::o 6::o 7::o 8::o 9::o 10::o 11::o 12::o 13::o 14::o 16::_⟩,[]⟩ W
       refine wpOp_step rfl fun _ hK => ?_
       go_simp
       exact hK _ _ ⟨rfl,rfl⟩
      ·intro o W _
       show wpOp _ _ _ 7 _ ⟨⟨_::_::_::_::_::_::_::_::_::_::_::_::_::_::_::_::_::_::_::_::_::_::_::_::_::_::_::_::_::_::_::_::_::_::_::_::_::_::_::o 0::o 1::o 2::.int .i64 LP::o 4::o 5::.int .i64 (if k < D1 then k else D1)::o 7::o 8::o 9::o 10::o 11::o 12::o 13::o 14::o 16::_⟩,[]⟩ W
       refine wpOp_step rfl fun _ hK => ?_
       go_simp
       exact hK _ _ ⟨rfl,rfl⟩
      ·intro o W hj
       have hj : KL _ _ W := hj
       show wpOp _ _ _ 8 _ ⟨⟨_::_::_::_::_::_::_::_::_::_::_::_::_::_::_::_::_::_::_::_::_::_::_::_::_::_::_::_::_::_::_::_::_::_::_::_::_::_::_::o 0::.agg #[.int .i64 X,.int .i64 Y,.int .i64 Z]::.int .i64 ((m : Int))::o 3::o 4::o 5::o 6::.int .i64 E1::o 8::o 9::o 10::o 11::o 12::o 13::o 14::o 16::_⟩,[]⟩ W
       refine wpOp_step rfl fun _ hK => ?_
       go_simp
       refine (pn _ _ _ _ _).mono ?_
       rintro e W1 ⟨rfl,hb1⟩
       exact hK _ _ ⟨rfl,hj.over hb1⟩
      ·intro o W _
       show wpOp _ _ _ 9 _ ⟨⟨_::_::_::_::_::_::_::_::_::_::_::_::_::_::_::_::_::_::_::_::_::_::_::_::_::_::_::_::_::_::_::_::_::_::_::_::_::_::_::o 0::o 1::o 2::o 3::o 4::o 5::o 6::o 7::o 8::o 9::o 10::o 11::o 12::o 13::o 14::o 16::_⟩,[]⟩ W
       refine wpOp_step rfl fun _ hK => ?_
       go_simp
       exact hK _ _ ⟨rfl,rfl⟩
      ·intro o W hj
       have hj : KL _ _ W := hj
       obtain ⟨cL,c0,c1,c2,c3,c4,c5⟩ := bl6 (KL.blk hj (.tail _ (.head _)))
       show wpOp _ _ _ 10 _ ⟨⟨_::_::_::_::_::_::_::_::_::_::_::_::_::_::_::_::_::_::_::_::_::_::_::_::_::_::_::_::_::_::_::_::_::_::_::_::_::_::_::o 0::o 1::o 2::o 3::o 4::o 5::o 6::o 7::o 8::.pointer (some ⟨w.heap.size,3,none⟩)::o 10::o 11::o 12::o 13::o 14::o 16::_⟩,[]⟩ W
       refine wpOp_step rfl fun _ hK => ?_
       go_simp
       exact hK _ _ ⟨rfl,rfl⟩
      ·intro o W _
       show wpOp _ _ _ 11 _ ⟨⟨_::_::_::_::_::_::_::_::_::_::_::_::_::_::_::_::_::_::_::_::_::_::_::_::_::_::_::_::_::_::_::_::_::_::_::_::_::_::_::o 0::o 1::o 2::o 3::o 4::o 5::o 6::o 7::o 8::o 9::o 10::o 11::o 12::o 13::o 14::o 16::_⟩,[]⟩ W
       refine wpOp_step rfl fun _ hK => ?_
       go_simp
       exact hK _ _ ⟨rfl,rfl⟩
      ·intro o W _
       show wpOp _ _ _ 12 _ ⟨⟨_::_::_::_::_::_::_::_::_::_::_::_::_::_::_::_::_::_::_::_::_::_::_::_::_::_::_::_::_::_::_::_::_::_::_::_::_::_::_::o 0::o 1::o 2::o 3::o 4::o 5::o 6::o 7::o 8::o 9::o 10::o 11::o 12::o 13::o 14::o 16::_⟩,[]⟩ W
       refine wpOp_step rfl fun _ hK => ?_
       go_simp
       exact hK _ _ ⟨rfl,rfl⟩
      ·intro o W hj
       have hj : KL _ _ W := hj
       show wpOp _ _ _ 13 _ ⟨⟨_::_::_::_::_::_::_::_::_::_::_::_::_::_::_::_::_::_::_::_::_::_::_::_::_::_::_::_::_::_::_::_::_::_::_::_::_::_::_::o 0::o 1::o 2::o 3::o 4::o 5::o 6::o 7::o 8::o 9::.agg #[.int .i64 P,.int .i64 Q,.int .i64 R]::.int .i64 ((m : Int))::.int .i64 LP::o 13::o 14::o 16::_⟩,[]⟩ W
       refine wpOp_step rfl fun _ hK => ?_
       go_simp
       refine (pn _ _ _ _ _).mono ?_
       rintro e W1 ⟨rfl,hb1⟩
       exact hK _ _ ⟨rfl,hj.over hb1⟩
      ·intro o W _
       show wpOp _ _ _ 14 _ ⟨⟨_::_::_::_::_::_::_::_::_::_::_::_::_::_::_::_::_::_::_::_::_::_::_::_::_::_::_::_::_::_::_::_::_::_::_::_::_::_::_::o 0::o 1::o 2::o 3::o 4::o 5::o 6::o 7::o 8::o 9::o 10::o 11::o 12::o 13::o 14::o 16::_⟩,[]⟩ W
       refine wpOp_step rfl fun _ hK => ?_
       go_simp
       exact hK _ _ ⟨rfl,rfl⟩
      ·intro o W hj
       have hj : KL _ _ W := hj
       obtain ⟨cL,c0,c1,c2,c3,c4,c5⟩ := bl6 (KL.blk hj (.head _))
       have cF := (KL.blk hj (.head _)).frozen
       show wpOp _ _ _ 15 _ ⟨⟨_::_::_::_::_::_::_::_::_::_::_::_::_::_::_::_::_::_::_::_::_::_::_::_::_::_::_::_::_::_::_::_::_::_::_::_::_::_::_::o 0::o 1::o 2::o 3::o 4::o 5::o 6::o 7::.agg #[.int .i64 (pt 0 X (m : Int) E1),.int .i64 (pt 1 Y (m : Int) E1),.int .i64 (pt 2 Z (m : Int) E1)]::o 9::o 10::o 11::o 12::o 13::.pointer (some ⟨w2.heap.size,0,none⟩)::o 16::_⟩,[]⟩ W
       refine wpOp_step rfl fun _ hK => ?_
       go_simp
       exact hK _ _ ⟨rfl,(KL.upL 0 hj rfl (by omega) (by simp <;> omega))⟩
      ·intro o W _
       show wpOp _ _ _ 16 _ ⟨⟨_::_::_::_::_::_::_::_::_::_::_::_::_::_::_::_::_::_::_::_::_::_::_::_::_::_::_::_::_::_::_::_::_::_::_::_::_::_::_::o 0::o 1::o 2::o 3::o 4::o 5::o 6::o 7::o 8::o 9::o 10::o 11::o 12::o 13::o 14::o 16::_⟩,[]⟩ W
       refine wpOp_step rfl fun _ hK => ?_
       go_simp
       exact hK _ _ ⟨rfl,rfl⟩
      ·intro o W hj
       have hj : KL _ _ W := hj
       obtain ⟨cL,c0,c1,c2,c3,c4,c5⟩ := bl6 (KL.blk hj (.head _))
       have cF := (KL.blk hj (.head _)).frozen
       show wpOp _ _ _ 17 _ ⟨⟨_::_::_::_::_::_::_::_::_::_::_::_::_::_::_::_::_::_::_::_::_::_::_::_::_::_::_::_::_::_::_::_::_::_::_::_::_::_::_::o 0::o 1::o 2::o 3::o 4::o 5::o 6::o 7::o 8::o 9::o 10::o 11::o 12::.agg #[.int .i64 (pt 0 P (m : Int) LP),.int .i64 (pt 1 Q (m : Int) LP),.int .i64 (pt 2 R (m : Int) LP)]::o 14::.pointer (some ⟨w2.heap.size,3,none⟩)::_⟩,[]⟩ W
       refine wpOp_step rfl fun _ hK => ?_
       go_simp
       exact hK _ _ ⟨rfl,(KL.upH 0 hj rfl (by omega) (by simp <;> omega))⟩
      ·intro o hh_
       have e0 : o 0 = .pointer (some ⟨w.heap.size,0,none⟩) := hh_ 0 (by decide)
       have e1 : o 1 = .agg #[.int .i64 X,.int .i64 Y,.int .i64 Z] := hh_ 1 (by decide)
       have e2 : o 2 = .int .i64 ((m : Int)) := hh_ 2 (by decide)
       have e3 : o 3 = .int .i64 LP := hh_ 3 (by decide)
       have e4 : o 4 = .int .i64 D1 := hh_ 4 (by decide)
       have e5 : o 5 = .int .i64 k := hh_ 5 (by decide)
       have e6 : o 6 = .int .i64 (if k < D1 then k else D1) := hh_ 6 (by decide)
       have e7 : o 7 = .int .i64 E1 := hh_ 7 (by decide)
       have e8 : o 8 = .agg #[.int .i64 (pt 0 X (m : Int) E1),.int .i64 (pt 1 Y (m : Int) E1),.int .i64 (pt 2 Z (m : Int) E1)] := hh_ 8 (by decide)
       have e9 : o 9 = .pointer (some ⟨w.heap.size,3,none⟩) := hh_ 9 (by decide)
       have e10 : o 10 = .agg #[.int .i64 P,.int .i64 Q,.int .i64 R] := hh_ 10 (by decide)
       have e11 : o 11 = .int .i64 ((m : Int)) := hh_ 11 (by decide)
       have e12 : o 12 = .int .i64 LP := hh_ 12 (by decide)
       have e13 : o 13 = .agg #[.int .i64 (pt 0 P (m : Int) LP),.int .i64 (pt 1 Q (m : Int) LP),.int .i64 (pt 2 R (m : Int) LP)] := hh_ 13 (by decide)
       have e14 : o 14 = .pointer (some ⟨w2.heap.size,0,none⟩) := hh_ 14 (by decide)
       have e16 : o 16 = .pointer (some ⟨w2.heap.size,3,none⟩) := hh_ 16 (by decide)
       rw [e0,e1,e2,e3,e4,e5,e6,e7,e8,e9,e10,e11,e12,e13,e14,e16]
      ·intro W3 h3
       have h3 : KL _ _ W3 := h3
       obtain ⟨eL0,e0_0,e0_1,e0_2,e0_3,e0_4,e0_5⟩ := bl6 (KL.blk h3 (.head _))
       obtain ⟨eL1,e1_0,e1_1,e1_2,e1_3,e1_4,e1_5⟩ := bl6 (KL.blk h3 (.tail _ (.head _)))
       obtain ⟨eL2,e2_0,e2_1,e2_2,e2_3,e2_4,e2_5⟩ := bl6 (KL.blk h3 (.tail _ (.tail _ (.head _))))
       have hjb := h3.1
       have hjz := hjb.size
       have hk1 := HK1.out
       have hj3 := hj2.over hjb
       have hown3 := own_below hown2 hjb
       have t3 : decide (k < D1) = true := by simpa using hk1
       go_wp2_with (first
        | (go_at_call 19; refine (hV1 _).mono ?_; rintro e w4 ⟨rfl,hb4⟩; have hj4 := hj3.over hb4; have hown4 := own_below hown3 hb4; have hz4 := hb4.size; obtain ⟨fL,f0,f1,f2,f3,f4,f5⟩ := bl6 (KL.blk hj4 (.tail _ (.head _))); have fM := (KL.blk hj4 (.head _)).lt)
        | (at_builtin; refine wpList_append_kl rfl (.tmp 62) (.tmp 69) _ rfl (w.heap.size + 1 + 1) 27 i0 _ 3 24 Try.underlying62 in0 in1 in2 in3 rfl (by decide) (.slice A n c_) n _ rfl (hown4.alloc _) (w4.heap.size + 1) (some ⟨w4.heap.size,0,none⟩) 1 1 [.int .i64 ((m : Int)),.int .i64 (LP - k),.int .i64 k] rfl (reads_new (Blk.new _ _ _) rfl (by omega)) cut_one (n + 1) (xs ++ [.int .i64 ((m : Int)),.int .i64 (LP - k),.int .i64 k]) rfl rfl (by simp only [maxLen]; omega) (by omega) (hj4.alloc _) (by simp <;> omega) (by omega) (by simp <;> omega) ?_; intro A5 c5 w5 hown5 hj5 hs5; obtain ⟨gL,g0,g1,g2,g3,g4,g5⟩ := bl6 (KL.blk hj5 (.tail _ (.head _))); have gM := (KL.blk hj5 (.head _)).lt)
        | (go_at_call 47; refine (pn _ _ _ _ _).mono ?_; rintro e w6 ⟨rfl,hb6⟩; have hj6 : KL [((w.heap.size + 1),25,#[a,b,c,d,s,u]),(w.heap.size,25,#[.int .i64 X,.int .i64 Y,.int .i64 Z,.int .i64 P,.int .i64 Q,.int .i64 R])] w w6 := hj5.over hb6; have hown6 := own_below hown5 hb6; obtain ⟨hL,h0,h1,h2,h3,h4,h5⟩ := bl6 (KL.blk hj6 (.tail _ (.head _))); have hM := (KL.blk hj6 (.head _)).lt; have hF := (KL.blk hj6 (.tail _ (.head _))).frozen))
       by_cases hz2 : 0 < D2
       ·by_cases hk2 : k < D2
        ·have t2 : decide (0 < D2) = true := by simpa using hz2
         go_wp2_with (go_at_call 41; (with_reducible refine (gh _).mono ?_); rintro e w8 ⟨rfl,hb8⟩; have hj8 : KL [((w.heap.size + 1),25,#[a,b,c,d,s,u]),(w.heap.size,25,#[.int .i64 ((pt 0 X (m : Int) LP)),.int .i64 ((pt 1 Y (m : Int) LP)),.int .i64 ((pt 2 Z (m : Int) LP)),.int .i64 P,.int .i64 Q,.int .i64 R])] w w8 := (KL.upL 1 hj6 rfl (by omega) (by simp <;> omega)).over hb8; have hown8 := own_below (own_far (p := ⟨w.heap.size,2,none⟩) (own_far (p := ⟨w.heap.size,1,none⟩) (own_far (p := ⟨w.heap.size,0,none⟩) hown6 _ (by show w.heap.size < _; omega)) _ (by show w.heap.size < _; omega)) _ (by show w.heap.size < _; omega)) hb8; obtain ⟨dL,d0,d1,d2,d3,d4,d5⟩ := bl6 (KL.blk hj8 (.tail _ (.head _))); have dM := (KL.blk hj8 (.head _)).lt)
         have xL2 : IntKind.i64.wrap (L + V1 + V2) = L + V1 + V2 := IntWalk.i64_in _ (by have h := hLs.out; rw [if_pos (show 0 < D1 by omega),if_pos (show 0 < D2 by omega)] at h; omega)
         have HK2 := Lib.hid hk2
         clear hk2
         refine wp_region_any (by kernel_rfl) ?_
         try (change wpAny _ _ _ _ _ _ _ (World.drew _))
         refine wpAny_vals (fr := fun o => #[.agg #[x,y,z,p,q,r],.agg #[a,b,c,d,s,u],.int .i64 k,.pointer (some ⟨w.heap.size,0,none⟩),.pointer (some ⟨(w.heap.size + 1),0,none⟩),undef,.slice none 0 0,.int .i64 0,.slice A5 (n + 1) c5,.int .i64 (L + V1),.int .i64 ((m : Int)),.int .i64 LP,.int .i64 HP,.int .i64 D1,.pointer (some ⟨w2.heap.size,0,none⟩),.int .i64 D2,.pointer (some ⟨w8.heap.size,0,none⟩),.slice (some ⟨(w.heap.size + 1 + 1),0,none⟩) 0 0,.int .i64 ((m : Int)),.bool true,u20,u21,.pointer (some ⟨(w.heap.size + 1),0,none⟩),.agg #[a,b,c],.int .i64 ((m : Int)),.int .i64 LP,.pointer (some ⟨(w.heap.size + 1),3,none⟩),.agg #[d,s,u],.int .i64 ((m : Int)),.int .i64 HP,.int .i64 LP,.pointer (some ⟨w.heap.size,0,none⟩),.agg #[.int .i64 X,.int .i64 Y,.int .i64 Z],.int .i64 ((m : Int)),.int .i64 lo,.int .i64 D1,.int .i64 D1,.bool true,.agg #[.int .i64 X,.int .i64 Y,.int .i64 Z,.int .i64 P,.int .i64 Q,.int .i64 R],.pointer (some ⟨w.heap.size,0,none⟩),.agg #[.int .i64 X,.int .i64 Y,.int .i64 Z],.int .i64 ((m : Int)),.int .i64 LP,.int .i64 D1,.int .i64 k,.int .i64 k,.int .i64 E1,.agg #[.int .i64 (pt 0 X (m : Int) E1),.int .i64 (pt 1 Y (m : Int) E1),.int .i64 (pt 2 Z (m : Int) E1)],.pointer (some ⟨w.heap.size,3,none⟩),.agg #[.int .i64 P,.int .i64 Q,.int .i64 R],.int .i64 ((m : Int)),.int .i64 LP,.agg #[.int .i64 (pt 0 P (m : Int) LP),.int .i64 (pt 1 Q (m : Int) LP),.int .i64 (pt 2 R (m : Int) LP)],.pointer (some ⟨w2.heap.size,0,none⟩),.pointer (some ⟨w2.heap.size,3,none⟩),.int .i64 L,.agg #[.int .i64 (pt 0 X (m : Int) E1),.int .i64 (pt 1 Y (m : Int) E1),.int .i64 (pt 2 Z (m : Int) E1),.int .i64 (pt 0 P (m : Int) LP),.int .i64 (pt 1 Q (m : Int) LP),.int .i64 (pt 2 R (m : Int) LP)],.int .i64 V1,.int .i64 (L + V1),.int .i64 D1,.int .i64 k,.bool true,.slice A n c_,.int .i64 ((m : Int)),.int .i64 LP,.int .i64 k,.int .i64 (LP - k),.int .i64 k,.agg #[.int .i64 ((m : Int)),.int .i64 (LP - k),.int .i64 k],.slice (some ⟨w4.heap.size,0,none⟩) 1 1,.slice A5 (n + 1) c5,.pointer (some ⟨w.heap.size,0,none⟩),.agg #[.int .i64 X,.int .i64 Y,.int .i64 Z],.int .i64 ((m : Int)),.int .i64 LP,.agg #[.int .i64 (pt 0 X (m : Int) LP),.int .i64 (pt 1 Y (m : Int) LP),.int .i64 (pt 2 Z (m : Int) LP)],.pointer (some ⟨w.heap.size,0,none⟩),.pointer (some ⟨w.heap.size,3,none⟩),.agg #[.int .i64 P,.int .i64 Q,.int .i64 R],.int .i64 ((m : Int)),.int .i64 hi,.int .i64 HP,.int .i64 D2,.int .i64 D2,.bool true,.agg #[.int .i64 ((pt 0 X (m : Int) LP)),.int .i64 ((pt 1 Y (m : Int) LP)),.int .i64 ((pt 2 Z (m : Int) LP)),.int .i64 P,.int .i64 Q,.int .i64 R],o 0,o 1,o 2,o 3,o 4,o 5,o 6,o 7,o 8,o 9,o 10,o 11,o 12,o 13,o 14,o 16,u102,u103,u104,u105,u106,u107,u108,u109,u110,u111,u112,u113,u114,u115,u116,u117,u118,u119,u120,u121,undef,undef]) (vals := fun i_ => ([.pointer (some ⟨w.heap.size,0,none⟩),.agg #[.int .i64 ((pt 0 X (m : Int) LP)),.int .i64 ((pt 1 Y (m : Int) LP)),.int .i64 ((pt 2 Z (m : Int) LP))],.int .i64 ((m : Int)),.int .i64 HP,.agg #[.int .i64 (pt 0 ((pt 0 X (m : Int) LP)) (m : Int) HP),.int .i64 (pt 1 ((pt 1 Y (m : Int) LP)) (m : Int) HP),.int .i64 (pt 2 ((pt 2 Z (m : Int) LP)) (m : Int) HP)],.pointer (some ⟨w.heap.size,3,none⟩),.agg #[.int .i64 P,.int .i64 Q,.int .i64 R],.int .i64 ((m : Int)),.int .i64 HP,.int .i64 D2,.int .i64 k,.int .i64 (if k < D2 then k else D2),.int .i64 E2,.agg #[.int .i64 (pt 0 P (m : Int) E2),.int .i64 (pt 1 Q (m : Int) E2),.int .i64 (pt 2 R (m : Int) E2)],.pointer (some ⟨w8.heap.size,0,none⟩),undef,.pointer (some ⟨w8.heap.size,3,none⟩),undef] : List Value).getD i_ undef) (Kf := fun W_ => KL [((w.heap.size + 1),25,#[a,b,c,d,s,u]),(w.heap.size,25,#[.int .i64 ((pt 0 X (m : Int) LP)),.int .i64 ((pt 1 Y (m : Int) LP)),.int .i64 ((pt 2 Z (m : Int) LP)),.int .i64 P,.int .i64 Q,.int .i64 R])] w8 W_) (K := fun kk_ => ([(KL [(w8.heap.size,25,#[.int .i64 ((pt 0 X (m : Int) LP)),.int .i64 ((pt 1 Y (m : Int) LP)),.int .i64 ((pt 2 Z (m : Int) LP)),.int .i64 P,.int .i64 Q,.int .i64 R]),((w.heap.size + 1),25,#[a,b,c,d,s,u]),(w.heap.size,25,#[.int .i64 ((pt 0 X (m : Int) LP)),.int .i64 ((pt 1 Y (m : Int) LP)),.int .i64 ((pt 2 Z (m : Int) LP)),.int .i64 P,.int .i64 Q,.int .i64 R])] w8),(KL [(w8.heap.size,25,#[.int .i64 (pt 0 ((pt 0 X (m : Int) LP)) (m : Int) HP),.int .i64 (pt 1 ((pt 1 Y (m : Int) LP)) (m : Int) HP),.int .i64 (pt 2 ((pt 2 Z (m : Int) LP)) (m : Int) HP),.int .i64 P,.int .i64 Q,.int .i64 R]),((w.heap.size + 1),25,#[a,b,c,d,s,u]),(w.heap.size,25,#[.int .i64 ((pt 0 X (m : Int) LP)),.int .i64 ((pt 1 Y (m : Int) LP)),.int .i64 ((pt 2 Z (m : Int) LP)),.int .i64 P,.int .i64 Q,.int .i64 R])] w8),(KL [(w8.heap.size,25,#[.int .i64 (pt 0 ((pt 0 X (m : Int) LP)) (m : Int) HP),.int .i64 (pt 1 ((pt 1 Y (m : Int) LP)) (m : Int) HP),.int .i64 (pt 2 ((pt 2 Z (m : Int) LP)) (m : Int) HP),.int .i64 (pt 0 P (m : Int) E2),.int .i64 (pt 1 Q (m : Int) E2),.int .i64 (pt 2 R (m : Int) E2)]),((w.heap.size + 1),25,#[a,b,c,d,s,u]),(w.heap.size,25,#[.int .i64 ((pt 0 X (m : Int) LP)),.int .i64 ((pt 1 Y (m : Int) LP)),.int .i64 ((pt 2 Z (m : Int) LP)),.int .i64 P,.int .i64 Q,.int .i64 R])] w8)] : List (World → Prop)).getD kk_ (fun _ => True)) (dep := fun i_ => [[],[0],[],[],[1,2,3],[],[5],[],[],[],[],[9,10],[8,11],[6,7,12],[],[1,4,13,14],[],[13,15,16]].getD i_ []) (dv := fun i_ => [[],[0],[],[],[1,2,3],[],[5],[],[],[],[],[9,10],[8,11],[6,7,12],[],[4,14],[],[13,16]].getD i_ []) (kd := fun i_ => [0,1,0,0,1,0,0,0,0,0,0,0,0,1,0,2,0,3].getD i_ 0) (ss := [15,17]) (l := [0,1,2,3,4,5,6,7,8,9,10,11,12,13,14,15,16,17]) (f0 := fun i_ => ([u86,u87,u88,u89,u90,u91,u92,u93,u94,u95,u96,u97,u98,u99,u100,undef,u101,undef] : List Value).getD i_ undef) (A := ?A1) 18 ?_ ?_ ?_ ?_ ?_ ?_ ⟨?_,?_,?_,?_,?_,?_,?_,?_,?_,?_,?_,?_,?_,?_,?_,?_,?_,?_,trivial⟩ ?_ ?_
         rotate_left
         ·rfl
         ·rfl
         ·decide +kernel
         ·decide +kernel
         ·exact KL.drew (KL.new (g := w8.heap.size) hj8.base rfl _ _)
         ·intro t_ W ht_ hh_
          rcases t_ with _ | _ | _ | _
          ·exact KL.part hh_ (fun p_ hp_ => by simp only [List.mem_cons,List.not_mem_nil,or_false] at hp_; rcases hp_ with rfl | rfl; exact (.tail _ (.head _)); exact (.tail _ (.tail _ (.head _))))
          ·exact KL.part hh_ (fun p_ hp_ => by simp only [List.mem_cons,List.not_mem_nil,or_false] at hp_; rcases hp_ with rfl | rfl; exact (.tail _ (.head _)); exact (.tail _ (.tail _ (.head _))))
          ·exact KL.part hh_ (fun p_ hp_ => by simp only [List.mem_cons,List.not_mem_nil,or_false] at hp_; rcases hp_ with rfl | rfl; exact (.tail _ (.head _)); exact (.tail _ (.tail _ (.head _))))
          ·exact absurd ht_ (by simp)
         ·intro o W _
          show wpOp _ _ _ 0 _ ⟨#[_,_,_,_,_,_,_,_,_,_,_,_,_,_,_,_,_,_,_,_,_,_,_,_,_,_,_,_,_,_,_,_,_,_,_,_,_,_,_,_,_,_,_,_,_,_,_,_,_,_,_,_,_,_,_,_,_,_,_,_,_,_,_,_,_,_,_,_,_,_,_,_,_,_,_,_,_,_,_,_,_,_,_,_,_,_,o 0,o 1,o 2,o 3,o 4,o 5,o 6,o 7,o 8,o 9,o 10,o 11,o 12,o 13,o 14,o 16,_,_,_,_,_,_,_,_,_,_,_,_,_,_,_,_,_,_,_,_,_,_],[]⟩ W
          refine wpOp_step rfl fun _ hK => ?_
          go_simp
          exact hK _ _ ⟨rfl,rfl⟩
         ·intro o W hj
          have hj : KL _ _ W := hj
          obtain ⟨cL,c0,c1,c2,c3,c4,c5⟩ := bl6 (KL.blk hj (.tail _ (.tail _ (.head _))))
          show wpOp _ _ _ 1 _ ⟨#[_,_,_,_,_,_,_,_,_,_,_,_,_,_,_,_,_,_,_,_,_,_,_,_,_,_,_,_,_,_,_,_,_,_,_,_,_,_,_,_,_,_,_,_,_,_,_,_,_,_,_,_,_,_,_,_,_,_,_,_,_,_,_,_,_,_,_,_,_,_,_,_,_,_,_,_,_,_,_,_,_,_,_,_,_,_,.pointer (some ⟨w.heap.size,0,none⟩),o 1,o 2,o 3,o 4,o 5,o 6,o 7,o 8,o 9,o 10,o 11,o 12,o 13,o 14,o 16,_,_,_,_,_,_,_,_,_,_,_,_,_,_,_,_,_,_,_,_,_,_],[]⟩ W
          refine wpOp_step rfl fun _ hK => ?_
          go_simp
          exact hK _ _ ⟨rfl,hj⟩
         ·intro o W _
          show wpOp _ _ _ 2 _ ⟨#[_,_,_,_,_,_,_,_,_,_,_,_,_,_,_,_,_,_,_,_,_,_,_,_,_,_,_,_,_,_,_,_,_,_,_,_,_,_,_,_,_,_,_,_,_,_,_,_,_,_,_,_,_,_,_,_,_,_,_,_,_,_,_,_,_,_,_,_,_,_,_,_,_,_,_,_,_,_,_,_,_,_,_,_,_,_,o 0,o 1,o 2,o 3,o 4,o 5,o 6,o 7,o 8,o 9,o 10,o 11,o 12,o 13,o 14,o 16,_,_,_,_,_,_,_,_,_,_,_,_,_,_,_,_,_,_,_,_,_,_],[]⟩ W
          refine wpOp_step rfl fun _ hK => ?_
          go_simp
          exact hK _ _ ⟨rfl,rfl⟩
         ·intro o W _
          show wpOp _ _ _ 3 _ ⟨#[_,_,_,_,_,_,_,_,_,_,_,_,_,_,_,_,_,_,_,_,_,_,_,_,_,_,_,_,_,_,_,_,_,_,_,_,_,_,_,_,_,_,_,_,_,_,_,_,_,_,_,_,_,_,_,_,_,_,_,_,_,_,_,_,_,_,_,_,_,_,_,_,_,_,_,_,_,_,_,_,_,_,_,_,_,_,o 0,o 1,o 2,o 3,o 4,o 5,o 6,o 7,o 8,o 9,o 10,o 11,o 12,o 13,o 14,o 16,_,_,_,_,_,_,_,_,_,_,_,_,_,_,_,_,_,_,_,_,_,_],[]⟩ W
          refine wpOp_step rfl fun _ hK => ?_
          go_simp
          exact hK _ _ ⟨rfl,rfl⟩
         ·intro o W hj
          have hj : KL _ _ W := hj
          show wpOp _ _ _ 4 _ ⟨#[_,_,_,_,_,_,_,_,_,_,_,_,_,_,_,_,_,_,_,_,_,_,_,_,_,_,_,_,_,_,_,_,_,_,_,_,_,_,_,_,_,_,_,_,_,_,_,_,_,_,_,_,_,_,_,_,_,_,_,_,_,_,_,_,_,_,_,_,_,_,_,_,_,_,_,_,_,_,_,_,_,_,_,_,_,_,o 0,.agg #[.int .i64 ((pt 0 X (m : Int) LP)),.int .i64 ((pt 1 Y (m : Int) LP)),.int .i64 ((pt 2 Z (m : Int) LP))],.int .i64 ((m : Int)),.int .i64 HP,o 4,o 5,o 6,o 7,o 8,o 9,o 10,o 11,o 12,o 13,o 14,o 16,_,_,_,_,_,_,_,_,_,_,_,_,_,_,_,_,_,_,_,_,_,_],[]⟩ W
          refine wpOp_step rfl fun _ hK => ?_
          go_simp
          refine (pn _ _ _ _ _).mono ?_
          rintro e W1 ⟨rfl,hb1⟩
          exact hK _ _ ⟨rfl,hj.over hb1⟩
         ·intro o W _
          show wpOp _ _ _ 5 _ ⟨#[_,_,_,_,_,_,_,_,_,_,_,_,_,_,_,_,_,_,_,_,_,_,_,_,_,_,_,_,_,_,_,_,_,_,_,_,_,_,_,_,_,_,_,_,_,_,_,_,_,_,_,_,_,_,_,_,_,_,_,_,_,_,_,_,_,_,_,_,_,_,_,_,_,_,_,_,_,_,_,_,_,_,_,_,_,_,o 0,o 1,o 2,o 3,o 4,o 5,o 6,o 7,o 8,o 9,o 10,o 11,o 12,o 13,o 14,o 16,_,_,_,_,_,_,_,_,_,_,_,_,_,_,_,_,_,_,_,_,_,_],[]⟩ W
          refine wpOp_step rfl fun _ hK => ?_
          go_simp
          exact hK _ _ ⟨rfl,rfl⟩
         ·intro o W hj
          have hj : KL _ _ W := hj
          obtain ⟨cL,c0,c1,c2,c3,c4,c5⟩ := bl6 (KL.blk hj (.tail _ (.head _)))
          show wpOp _ _ _ 6 _ ⟨#[_,_,_,_,_,_,_,_,_,_,_,_,_,_,_,_,_,_,_,_,_,_,_,_,_,_,_,_,_,_,_,_,_,_,_,_,_,_,_,_,_,_,_,_,_,_,_,_,_,_,_,_,_,_,_,_,_,_,_,_,_,_,_,_,_,_,_,_,_,_,_,_,_,_,_,_,_,_,_,_,_,_,_,_,_,_,o 0,o 1,o 2,o 3,o 4,.pointer (some ⟨w.heap.size,3,none⟩),o 6,o 7,o 8,o 9,o 10,o 11,o 12,o 13,o 14,o 16,_,_,_,_,_,_,_,_,_,_,_,_,_,_,_,_,_,_,_,_,_,_],[]⟩ W
          refine wpOp_step rfl fun _ hK => ?_
          go_simp
          exact hK _ _ ⟨rfl,rfl⟩
         ·intro o W _
          show wpOp _ _ _ 7 _ ⟨#[_,_,_,_,_,_,_,_,_,_,_,_,_,_,_,_,_,_,_,_,_,_,_,_,_,_,_,_,_,_,_,_,_,_,_,_,_,_,_,_,_,_,_,_,_,_,_,_,_,_,_,_,_,_,_,_,_,_,_,_,_,_,_,_,_,_,_,_,_,_,_,_,_,_,_,_,_,_,_,_,_,_,_,_,_,_,o 0,o 1,o 2,o 3,o 4,o 5,o 6,o 7,o 8,o 9,o 10,o 11,o 12,o 13,o 14,o 16,_,_,_,_,_,_,_,_,_,_,_,_,_,_,_,_,_,_,_,_,_,_],[]⟩ W
          refine wpOp_step rfl fun _ hK => ?_
          go_simp
          exact hK _ _ ⟨rfl,rfl⟩
         ·intro o W _
          show wpOp _ _ _ 8 _ ⟨#[_,_,_,_,_,_,_,_,_,_,_,_,_,_,_,_,_,_,_,_,_,_,_,_,_,_,_,_,_,_,_,_,_,_,_,_,_,_,_,_,_,_,_,_,_,_,_,_,_,_,_,_,_,_,_,_,_,_,_,_,_,_,_,_,_,_,_,_,_,_,_,_,_,_,_,_,_,_,_,_,_,_,_,_,_,_,o 0,o 1,o 2,o 3,o 4,o 5,o 6,o 7,o 8,o 9,o 10,o 11,o 12,o 13,o 14,o 16,_,_,_,_,_,_,_,_,_,_,_,_,_,_,_,_,_,_,_,_,_,_],[]⟩ W
          refine wpOp_step rfl fun _ hK => ?_
          go_simp
          exact hK _ _ ⟨rfl,rfl⟩
         ·intro o W _
          show wpOp _ _ _ 9 _ ⟨#[_,_,_,_,_,_,_,_,_,_,_,_,_,_,_,_,_,_,_,_,_,_,_,_,_,_,_,_,_,_,_,_,_,_,_,_,_,_,_,_,_,_,_,_,_,_,_,_,_,_,_,_,_,_,_,_,_,_,_,_,_,_,_,_,_,_,_,_,_,_,_,_,_,_,_,_,_,_,_,_,_,_,_,_,_,_,o 0,o 1,o 2,o 3,o 4,o 5,o 6,o 7,o 8,o 9,o 10,o 11,o 12,o 13,o 14,o 16,_,_,_,_,_,_,_,_,_,_,_,_,_,_,_,_,_,_,_,_,_,_],[]⟩ W
          refine wpOp_step rfl fun _ hK => ?_
          go_simp
          exact hK _ _ ⟨rfl,rfl⟩
         ·intro o W _
          show wpOp _ _ _ 10 _ ⟨#[_,_,_,_,_,_,_,_,_,_,_,_,_,_,_,_,_,_,_,_,_,_,_,_,_,_,_,_,_,_,_,_,_,_,_,_,_,_,_,_,_,_,_,_,_,_,_,_,_,_,_,_,_,_,_,_,_,_,_,_,_,_,_,_,_,_,_,_,_,_,_,_,_,_,_,_,_,_,_,_,_,_,_,_,_,_,o 0,o 1,o 2,o 3,o 4,o 5,o 6,o 7,o 8,o 9,o 10,o 11,o 12,o 13,o 14,o 16,_,_,_,_,_,_,_,_,_,_,_,_,_,_,_,_,_,_,_,_,_,_],[]⟩ W
          refine wpOp_step rfl fun _ hK => ?_
          go_simp
          exact hK _ _ ⟨rfl,rfl⟩
         ·intro o W _
          show wpOp _ _ _ 11 _ ⟨#[_,_,_,_,_,_,_,_,_,_,_,_,_,_,_,_,_,_,_,_,_,_,_,_,_,_,_,_,_,_,_,_,_,_,_,_,_,_,_,_,_,_,_,_,_,_,_,_,_,_,_,_,_,_,_,_,_,_,_,_,_,_,_,_,_,_,_,_,_,_,_,_,_,_,_,_,_,_,_,_,_,_,_,_,_,_,o 0,o 1,o 2,o 3,o 4,o 5,o 6,o 7,o 8,.int .i64 D2,.int .i64 k,o 11,o 12,o 13,o 14,o 16,_,_,_,_,_,_,_,_,_,_,_,_,_,_,_,_,_,_,_,_,_,_],[]⟩ W
          refine wpOp_step rfl fun _ hK => ?_
          go_simp
          exact hK _ _ ⟨rfl,rfl⟩
         ·intro o W _
          show wpOp _ _ _ 12 _ ⟨#[_,_,_,_,_,_,_,_,_,_,_,_,_,_,_,_,_,_,_,_,_,_,_,_,_,_,_,_,_,_,_,_,_,_,_,_,_,_,_,_,_,_,_,_,_,_,_,_,_,_,_,_,_,_,_,_,_,_,_,_,_,_,_,_,_,_,_,_,_,_,_,_,_,_,_,_,_,_,_,_,_,_,_,_,_,_,o 0,o 1,o 2,o 3,o 4,o 5,o 6,o 7,.int .i64 HP,o 9,o 10,.int .i64 (if k < D2 then k else D2),o 12,o 13,o 14,o 16,_,_,_,_,_,_,_,_,_,_,_,_,_,_,_,_,_,_,_,_,_,_],[]⟩ W
          refine wpOp_step rfl fun _ hK => ?_
          go_simp
          exact hK _ _ ⟨rfl,rfl⟩
         ·intro o W hj
          have hj : KL _ _ W := hj
          show wpOp _ _ _ 13 _ ⟨#[_,_,_,_,_,_,_,_,_,_,_,_,_,_,_,_,_,_,_,_,_,_,_,_,_,_,_,_,_,_,_,_,_,_,_,_,_,_,_,_,_,_,_,_,_,_,_,_,_,_,_,_,_,_,_,_,_,_,_,_,_,_,_,_,_,_,_,_,_,_,_,_,_,_,_,_,_,_,_,_,_,_,_,_,_,_,o 0,o 1,o 2,o 3,o 4,o 5,.agg #[.int .i64 P,.int .i64 Q,.int .i64 R],.int .i64 ((m : Int)),o 8,o 9,o 10,o 11,.int .i64 E2,o 13,o 14,o 16,_,_,_,_,_,_,_,_,_,_,_,_,_,_,_,_,_,_,_,_,_,_],[]⟩ W
          refine wpOp_step rfl fun _ hK => ?_
          go_simp
          refine (pn _ _ _ _ _).mono ?_
          rintro e W1 ⟨rfl,hb1⟩
          exact hK _ _ ⟨rfl,hj.over hb1⟩
         ·intro o W _
          show wpOp _ _ _ 14 _ ⟨#[_,_,_,_,_,_,_,_,_,_,_,_,_,_,_,_,_,_,_,_,_,_,_,_,_,_,_,_,_,_,_,_,_,_,_,_,_,_,_,_,_,_,_,_,_,_,_,_,_,_,_,_,_,_,_,_,_,_,_,_,_,_,_,_,_,_,_,_,_,_,_,_,_,_,_,_,_,_,_,_,_,_,_,_,_,_,o 0,o 1,o 2,o 3,o 4,o 5,o 6,o 7,o 8,o 9,o 10,o 11,o 12,o 13,o 14,o 16,_,_,_,_,_,_,_,_,_,_,_,_,_,_,_,_,_,_,_,_,_,_],[]⟩ W
          refine wpOp_step rfl fun _ hK => ?_
          go_simp
          exact hK _ _ ⟨rfl,rfl⟩
         ·intro o W hj
          have hj : KL _ _ W := hj
          obtain ⟨cL,c0,c1,c2,c3,c4,c5⟩ := bl6 (KL.blk hj (.head _))
          have cF := (KL.blk hj (.head _)).frozen
          show wpOp _ _ _ 15 _ ⟨#[_,_,_,_,_,_,_,_,_,_,_,_,_,_,_,_,_,_,_,_,_,_,_,_,_,_,_,_,_,_,_,_,_,_,_,_,_,_,_,_,_,_,_,_,_,_,_,_,_,_,_,_,_,_,_,_,_,_,_,_,_,_,_,_,_,_,_,_,_,_,_,_,_,_,_,_,_,_,_,_,_,_,_,_,_,_,o 0,o 1,o 2,o 3,.agg #[.int .i64 (pt 0 ((pt 0 X (m : Int) LP)) (m : Int) HP),.int .i64 (pt 1 ((pt 1 Y (m : Int) LP)) (m : Int) HP),.int .i64 (pt 2 ((pt 2 Z (m : Int) LP)) (m : Int) HP)],o 5,o 6,o 7,o 8,o 9,o 10,o 11,o 12,o 13,.pointer (some ⟨w8.heap.size,0,none⟩),o 16,_,_,_,_,_,_,_,_,_,_,_,_,_,_,_,_,_,_,_,_,_,_],[]⟩ W
          refine wpOp_step rfl fun _ hK => ?_
          go_simp
          exact hK _ _ ⟨rfl,(KL.upL 0 hj rfl (by omega) (by simp <;> omega))⟩
         ·intro o W _
          show wpOp _ _ _ 16 _ ⟨#[_,_,_,_,_,_,_,_,_,_,_,_,_,_,_,_,_,_,_,_,_,_,_,_,_,_,_,_,_,_,_,_,_,_,_,_,_,_,_,_,_,_,_,_,_,_,_,_,_,_,_,_,_,_,_,_,_,_,_,_,_,_,_,_,_,_,_,_,_,_,_,_,_,_,_,_,_,_,_,_,_,_,_,_,_,_,o 0,o 1,o 2,o 3,o 4,o 5,o 6,o 7,o 8,o 9,o 10,o 11,o 12,o 13,o 14,o 16,_,_,_,_,_,_,_,_,_,_,_,_,_,_,_,_,_,_,_,_,_,_],[]⟩ W
          refine wpOp_step rfl fun _ hK => ?_
          go_simp
          exact hK _ _ ⟨rfl,rfl⟩
         ·intro o W hj
          have hj : KL _ _ W := hj
          obtain ⟨cL,c0,c1,c2,c3,c4,c5⟩ := bl6 (KL.blk hj (.head _))
          have cF := (KL.blk hj (.head _)).frozen
          show wpOp _ _ _ 17 _ ⟨#[_,_,_,_,_,_,_,_,_,_,_,_,_,_,_,_,_,_,_,_,_,_,_,_,_,_,_,_,_,_,_,_,_,_,_,_,_,_,_,_,_,_,_,_,_,_,_,_,_,_,_,_,_,_,_,_,_,_,_,_,_,_,_,_,_,_,_,_,_,_,_,_,_,_,_,_,_,_,_,_,_,_,_,_,_,_,o 0,o 1,o 2,o 3,o 4,o 5,o 6,o 7,o 8,o 9,o 10,o 11,o 12,.agg #[.int .i64 (pt 0 P (m : Int) E2),.int .i64 (pt 1 Q (m : Int) E2),.int .i64 (pt 2 R (m : Int) E2)],o 14,.pointer (some ⟨w8.heap.size,3,none⟩),_,_,_,_,_,_,_,_,_,_,_,_,_,_,_,_,_,_,_,_,_,_],[]⟩ W
          refine wpOp_step rfl fun _ hK => ?_
          go_simp
          exact hK _ _ ⟨rfl,(KL.upH 0 hj rfl (by omega) (by simp <;> omega))⟩
         ·intro o hh_
          have e0 : o 0 = .pointer (some ⟨w.heap.size,0,none⟩) := hh_ 0 (by decide)
          have e1 : o 1 = .agg #[.int .i64 ((pt 0 X (m : Int) LP)),.int .i64 ((pt 1 Y (m : Int) LP)),.int .i64 ((pt 2 Z (m : Int) LP))] := hh_ 1 (by decide)
          have e2 : o 2 = .int .i64 ((m : Int)) := hh_ 2 (by decide)
          have e3 : o 3 = .int .i64 HP := hh_ 3 (by decide)
          have e4 : o 4 = .agg #[.int .i64 (pt 0 ((pt 0 X (m : Int) LP)) (m : Int) HP),.int .i64 (pt 1 ((pt 1 Y (m : Int) LP)) (m : Int) HP),.int .i64 (pt 2 ((pt 2 Z (m : Int) LP)) (m : Int) HP)] := hh_ 4 (by decide)
          have e5 : o 5 = .pointer (some ⟨w.heap.size,3,none⟩) := hh_ 5 (by decide)
          have e6 : o 6 = .agg #[.int .i64 P,.int .i64 Q,.int .i64 R] := hh_ 6 (by decide)
          have e7 : o 7 = .int .i64 ((m : Int)) := hh_ 7 (by decide)
          have e8 : o 8 = .int .i64 HP := hh_ 8 (by decide)
          have e9 : o 9 = .int .i64 D2 := hh_ 9 (by decide)
          have e10 : o 10 = .int .i64 k := hh_ 10 (by decide)
          have e11 : o 11 = .int .i64 (if k < D2 then k else D2) := hh_ 11 (by decide)
          have e12 : o 12 = .int .i64 E2 := hh_ 12 (by decide)
          have e13 : o 13 = .agg #[.int .i64 (pt 0 P (m : Int) E2),.int .i64 (pt 1 Q (m : Int) E2),.int .i64 (pt 2 R (m : Int) E2)] := hh_ 13 (by decide)
          have e14 : o 14 = .pointer (some ⟨w8.heap.size,0,none⟩) := hh_ 14 (by decide)
          have e16 : o 16 = .pointer (some ⟨w8.heap.size,3,none⟩) := hh_ 16 (by decide)
          rw [e0,e1,e2,e3,e4,e5,e6,e7,e8,e9,e10,e11,e12,e13,e14,e16]
         ·intro W9 h9
          have h9 : KL _ _ W9 := h9
          obtain ⟨eL0,e0_0,e0_1,e0_2,e0_3,e0_4,e0_5⟩ := bl6 (KL.blk h9 (.head _))
          obtain ⟨eL1,e1_0,e1_1,e1_2,e1_3,e1_4,e1_5⟩ := bl6 (KL.blk h9 (.tail _ (.head _)))
          obtain ⟨eL2,e2_0,e2_1,e2_2,e2_3,e2_4,e2_5⟩ := bl6 (KL.blk h9 (.tail _ (.tail _ (.head _))))
          have hjb := h9.1
          have hjz := hjb.size
          have hk2 := HK2.out
          have hj9 := hj8.over hjb
          have hown9 := own_below hown8 hjb
          have t4 : decide (k < D2) = true := by simpa using hk2
          go_wp2_with (first
           | (go_at_call 19; refine (hV2 _).mono ?_; rintro e w10 ⟨rfl,hb10⟩; have hj10 := hj9.over hb10; have hown10 := own_below hown9 hb10; have hz10 := hb10.size; obtain ⟨fL,f0,f1,f2,f3,f4,f5⟩ := bl6 (KL.blk hj10 (.tail _ (.head _))); have fM := (KL.blk hj10 (.head _)).lt)
           | (at_builtin; refine wpList_append_kl rfl (.tmp 109) (.tmp 114) _ rfl (w.heap.size + 1 + 1) 27 i0 _ 3 24 Try.underlying62 in0 in1 in2 in3 rfl (by decide) (.slice A5 (n + 1) c5) (n + 1) _ rfl (hown10.alloc _) (w10.heap.size + 1) (some ⟨w10.heap.size,0,none⟩) 1 1 [.int .i64 ((m : Int)),.int .i64 HP,.int .i64 k] rfl (reads_new (Blk.new _ _ _) rfl (by omega)) cut_one ((n + 1) + 1) ((xs ++ [.int .i64 ((m : Int)),.int .i64 (LP - k),.int .i64 k]) ++ [.int .i64 ((m : Int)),.int .i64 HP,.int .i64 k]) rfl rfl (by simp only [maxLen]; omega) (by omega) (hj10.alloc _) (by simp <;> omega) (by omega) (by simp <;> omega) ?_; intro A6 c6 w11 hown11 hj11 hs11; obtain ⟨gL,g0,g1,g2,g3,g4,g5⟩ := bl6 (KL.blk hj11 (.tail _ (.head _))); have gM := (KL.blk hj11 (.head _)).lt)
           | (go_at_call 47; refine (pn _ _ _ _ _).mono ?_; rintro e w12 ⟨rfl,hb12⟩; have hj12 : KL [((w.heap.size + 1),25,#[a,b,c,d,s,u]),(w.heap.size,25,#[.int .i64 ((pt 0 X (m : Int) LP)),.int .i64 ((pt 1 Y (m : Int) LP)),.int .i64 ((pt 2 Z (m : Int) LP)),.int .i64 P,.int .i64 Q,.int .i64 R])] w w12 := hj11.over hb12; have hown12 := own_below hown11 hb12; obtain ⟨hL,h0,h1,h2,h3,h4,h5⟩ := bl6 (KL.blk hj12 (.tail _ (.head _))); have hM := (KL.blk hj12 (.head _)).lt; have hF := (KL.blk hj12 (.tail _ (.head _))).frozen))
          go_roundw
          case rel => exact ⟨m + 1,((n + 1) + 1),A6,c6,(pt 0 X (m : Int) LP),(pt 1 Y (m : Int) LP),(pt 2 Z (m : Int) LP),(pt 0 P (m : Int) HP),(pt 1 Q (m : Int) HP),(pt 2 R (m : Int) HP),L + V1 + V2,((xs ++ [.int .i64 ((m : Int)),.int .i64 (LP - k),.int .i64 k]) ++ [.int .i64 ((m : Int)),.int .i64 HP,.int .i64 k]),by omega,rfl,rfl,by go_num,by
           have h := HS.out
           rw [if_pos (show 0 < D1 by omega),if_pos (show 0 < D2 by omega),if_pos (show k < D1 by omega),if_pos (show k < D1 by omega),if_pos (show k < D2 by omega),if_pos (show k < D2 by omega)] at h
           (repeat rw [List.append_nil] at h)
           (repeat rw [Int.add_zero] at h)
           skip
           skip
           exact h,(own_far (p := ⟨w.heap.size,5,none⟩) (own_far (p := ⟨w.heap.size,4,none⟩) (own_far (p := ⟨w.heap.size,3,none⟩) hown12 _ (by show w.heap.size < _; omega)) _ (by show w.heap.size < _; omega)) _ (by show w.heap.size < _; omega)),KL.upH 1 hj12 rfl (by omega) (by simp <;> omega)⟩
          case measure => simp [intOf] <;> omega
        ·have t2 : decide (0 < D2) = true := by simpa using hz2
         go_wp2_with (go_at_call 41; (with_reducible refine (gh _).mono ?_); rintro e w8 ⟨rfl,hb8⟩; have hj8 : KL [((w.heap.size + 1),25,#[a,b,c,d,s,u]),(w.heap.size,25,#[.int .i64 ((pt 0 X (m : Int) LP)),.int .i64 ((pt 1 Y (m : Int) LP)),.int .i64 ((pt 2 Z (m : Int) LP)),.int .i64 P,.int .i64 Q,.int .i64 R])] w w8 := (KL.upL 1 hj6 rfl (by omega) (by simp <;> omega)).over hb8; have hown8 := own_below (own_far (p := ⟨w.heap.size,2,none⟩) (own_far (p := ⟨w.heap.size,1,none⟩) (own_far (p := ⟨w.heap.size,0,none⟩) hown6 _ (by show w.heap.size < _; omega)) _ (by show w.heap.size < _; omega)) _ (by show w.heap.size < _; omega)) hb8; obtain ⟨dL,d0,d1,d2,d3,d4,d5⟩ := bl6 (KL.blk hj8 (.tail _ (.head _))); have dM := (KL.blk hj8 (.head _)).lt)
         have xL2 : IntKind.i64.wrap (L + V1 + V2) = L + V1 + V2 := IntWalk.i64_in _ (by have h := hLs.out; rw [if_pos (show 0 < D1 by omega),if_pos (show 0 < D2 by omega)] at h; omega)
         have HK2 := Lib.hid hk2
         clear hk2
         refine wp_region_any (by kernel_rfl) ?_
         try (change wpAny _ _ _ _ _ _ _ (World.drew _))
         refine wpAny_vals (fr := fun o => #[.agg #[x,y,z,p,q,r],.agg #[a,b,c,d,s,u],.int .i64 k,.pointer (some ⟨w.heap.size,0,none⟩),.pointer (some ⟨(w.heap.size + 1),0,none⟩),undef,.slice none 0 0,.int .i64 0,.slice A5 (n + 1) c5,.int .i64 (L + V1),.int .i64 ((m : Int)),.int .i64 LP,.int .i64 HP,.int .i64 D1,.pointer (some ⟨w2.heap.size,0,none⟩),.int .i64 D2,.pointer (some ⟨w8.heap.size,0,none⟩),.slice (some ⟨(w.heap.size + 1 + 1),0,none⟩) 0 0,.int .i64 ((m : Int)),.bool true,u20,u21,.pointer (some ⟨(w.heap.size + 1),0,none⟩),.agg #[a,b,c],.int .i64 ((m : Int)),.int .i64 LP,.pointer (some ⟨(w.heap.size + 1),3,none⟩),.agg #[d,s,u],.int .i64 ((m : Int)),.int .i64 HP,.int .i64 LP,.pointer (some ⟨w.heap.size,0,none⟩),.agg #[.int .i64 X,.int .i64 Y,.int .i64 Z],.int .i64 ((m : Int)),.int .i64 lo,.int .i64 D1,.int .i64 D1,.bool true,.agg #[.int .i64 X,.int .i64 Y,.int .i64 Z,.int .i64 P,.int .i64 Q,.int .i64 R],.pointer (some ⟨w.heap.size,0,none⟩),.agg #[.int .i64 X,.int .i64 Y,.int .i64 Z],.int .i64 ((m : Int)),.int .i64 LP,.int .i64 D1,.int .i64 k,.int .i64 k,.int .i64 E1,.agg #[.int .i64 (pt 0 X (m : Int) E1),.int .i64 (pt 1 Y (m : Int) E1),.int .i64 (pt 2 Z (m : Int) E1)],.pointer (some ⟨w.heap.size,3,none⟩),.agg #[.int .i64 P,.int .i64 Q,.int .i64 R],.int .i64 ((m : Int)),.int .i64 LP,.agg #[.int .i64 (pt 0 P (m : Int) LP),.int .i64 (pt 1 Q (m : Int) LP),.int .i64 (pt 2 R (m : Int) LP)],.pointer (some ⟨w2.heap.size,0,none⟩),.pointer (some ⟨w2.heap.size,3,none⟩),.int .i64 L,.agg #[.int .i64 (pt 0 X (m : Int) E1),.int .i64 (pt 1 Y (m : Int) E1),.int .i64 (pt 2 Z (m : Int) E1),.int .i64 (pt 0 P (m : Int) LP),.int .i64 (pt 1 Q (m : Int) LP),.int .i64 (pt 2 R (m : Int) LP)],.int .i64 V1,.int .i64 (L + V1),.int .i64 D1,.int .i64 k,.bool true,.slice A n c_,.int .i64 ((m : Int)),.int .i64 LP,.int .i64 k,.int .i64 (LP - k),.int .i64 k,.agg #[.int .i64 ((m : Int)),.int .i64 (LP - k),.int .i64 k],.slice (some ⟨w4.heap.size,0,none⟩) 1 1,.slice A5 (n + 1) c5,.pointer (some ⟨w.heap.size,0,none⟩),.agg #[.int .i64 X,.int .i64 Y,.int .i64 Z],.int .i64 ((m : Int)),.int .i64 LP,.agg #[.int .i64 (pt 0 X (m : Int) LP),.int .i64 (pt 1 Y (m : Int) LP),.int .i64 (pt 2 Z (m : Int) LP)],.pointer (some ⟨w.heap.size,0,none⟩),.pointer (some ⟨w.heap.size,3,none⟩),.agg #[.int .i64 P,.int .i64 Q,.int .i64 R],.int .i64 ((m : Int)),.int .i64 hi,.int .i64 HP,.int .i64 D2,.int .i64 D2,.bool true,.agg #[.int .i64 ((pt 0 X (m : Int) LP)),.int .i64 ((pt 1 Y (m : Int) LP)),.int .i64 ((pt 2 Z (m : Int) LP)),.int .i64 P,.int .i64 Q,.int .i64 R],o 0,o 1,o 2,o 3,o 4,o 5,o 6,o 7,o 8,o 9,o 10,o 11,o 12,o 13,o 14,o 16,u102,u103,u104,u105,u106,u107,u108,u109,u110,u111,u112,u113,u114,u115,u116,u117,u118,u119,u120,u121,undef,undef]) (vals := fun i_ => ([.pointer (some ⟨w.heap.size,0,none⟩),.agg #[.int .i64 ((pt 0 X (m : Int) LP)),.int .i64 ((pt 1 Y (m : Int) LP)),.int .i64 ((pt 2 Z (m : Int) LP))],.int .i64 ((m : Int)),.int .i64 HP,.agg #[.int .i64 (pt 0 ((pt 0 X (m : Int) LP)) (m : Int) HP),.int .i64 (pt 1 ((pt 1 Y (m : Int) LP)) (m : Int) HP),.int .i64 (pt 2 ((pt 2 Z (m : Int) LP)) (m : Int) HP)],.pointer (some ⟨w.heap.size,3,none⟩),.agg #[.int .i64 P,.int .i64 Q,.int .i64 R],.int .i64 ((m : Int)),.int .i64 HP,.int .i64 D2,.int .i64 k,.int .i64 (if k < D2 then k else D2),.int .i64 E2,.agg #[.int .i64 (pt 0 P (m : Int) E2),.int .i64 (pt 1 Q (m : Int) E2),.int .i64 (pt 2 R (m : Int) E2)],.pointer (some ⟨w8.heap.size,0,none⟩),undef,.pointer (some ⟨w8.heap.size,3,none⟩),undef] : List Value).getD i_ undef) (Kf := fun W_ => KL [((w.heap.size + 1),25,#[a,b,c,d,s,u]),(w.heap.size,25,#[.int .i64 ((pt 0 X (m : Int) LP)),.int .i64 ((pt 1 Y (m : Int) LP)),.int .i64 ((pt 2 Z (m : Int) LP)),.int .i64 P,.int .i64 Q,.int .i64 R])] w8 W_) (K := fun kk_ => ([(KL [(w8.heap.size,25,#[.int .i64 ((pt 0 X (m : Int) LP)),.int .i64 ((pt 1 Y (m : Int) LP)),.int .i64 ((pt 2 Z (m : Int) LP)),.int .i64 P,.int .i64 Q,.int .i64 R]),((w.heap.size + 1),25,#[a,b,c,d,s,u]),(w.heap.size,25,#[.int .i64 ((pt 0 X (m : Int) LP)),.int .i64 ((pt 1 Y (m : Int) LP)),.int .i64 ((pt 2 Z (m : Int) LP)),.int .i64 P,.int .i64 Q,.int .i64 R])] w8),(KL [(w8.heap.size,25,#[.int .i64 (pt 0 ((pt 0 X (m : Int) LP)) (m : Int) HP),.int .i64 (pt 1 ((pt 1 Y (m : Int) LP)) (m : Int) HP),.int .i64 (pt 2 ((pt 2 Z (m : Int) LP)) (m : Int) HP),.int .i64 P,.int .i64 Q,.int .i64 R]),((w.heap.size + 1),25,#[a,b,c,d,s,u]),(w.heap.size,25,#[.int .i64 ((pt 0 X (m : Int) LP)),.int .i64 ((pt 1 Y (m : Int) LP)),.int .i64 ((pt 2 Z (m : Int) LP)),.int .i64 P,.int .i64 Q,.int .i64 R])] w8),(KL [(w8.heap.size,25,#[.int .i64 (pt 0 ((pt 0 X (m : Int) LP)) (m : Int) HP),.int .i64 (pt 1 ((pt 1 Y (m : Int) LP)) (m : Int) HP),.int .i64 (pt 2 ((pt 2 Z (m : Int) LP)) (m : Int) HP),.int .i64 (pt 0 P (m : Int) E2),.int .i64 (pt 1 Q (m : Int) E2),.int .i64 (pt 2 R (m : Int) E2)]),((w.heap.size + 1),25,#[a,b,c,d,s,u]),(w.heap.size,25,#[.int .i64 ((pt 0 X (m : Int) LP)),.int .i64 ((pt 1 Y (m : Int) LP)),.int .i64 ((pt 2 Z (m : Int) LP)),.int .i64 P,.int .i64 Q,.int .i64 R])] w8)] : List (World → Prop)).getD kk_ (fun _ => True)) (dep := fun i_ => [[],[0],[],[],[1,2,3],[],[5],[],[],[],[],[9,10],[8,11],[6,7,12],[],[1,4,13,14],[],[13,15,16]].getD i_ []) (dv := fun i_ => [[],[0],[],[],[1,2,3],[],[5],[],[],[],[],[9,10],[8,11],[6,7,12],[],[4,14],[],[13,16]].getD i_ []) (kd := fun i_ => [0,1,0,0,1,0,0,0,0,0,0,0,0,1,0,2,0,3].getD i_ 0) (ss := [15,17]) (l := [0,1,2,3,4,5,6,7,8,9,10,11,12,13,14,15,16,17]) (f0 := fun i_ => ([u86,u87,u88,u89,u90,u91,u92,u93,u94,u95,u96,u97,u98,u99,u100,undef,u101,undef] : List Value).getD i_ undef) (A := ?A2) 18 ?_ ?_ ?_ ?_ ?_ ?_ ⟨?_,?_,?_,?_,?_,?_,?_,?_,?_,?_,?_,?_,?_,?_,?_,?_,?_,?_,trivial⟩ ?_ ?_
         rotate_left
         ·rfl
         ·rfl
         ·decide +kernel
         ·decide +kernel
         ·exact KL.drew (KL.new (g := w8.heap.size) hj8.base rfl _ _)
         ·intro t_ W ht_ hh_
          rcases t_ with _ | _ | _ | _
          ·exact KL.part hh_ (fun p_ hp_ => by simp only [List.mem_cons,List.not_mem_nil,or_false] at hp_; rcases hp_ with rfl | rfl; exact (.tail _ (.head _)); exact (.tail _ (.tail _ (.head _))))
          ·exact KL.part hh_ (fun p_ hp_ => by simp only [List.mem_cons,List.not_mem_nil,or_false] at hp_; rcases hp_ with rfl | rfl; exact (.tail _ (.head _)); exact (.tail _ (.tail _ (.head _))))
          ·exact KL.part hh_ (fun p_ hp_ => by simp only [List.mem_cons,List.not_mem_nil,or_false] at hp_; rcases hp_ with rfl | rfl; exact (.tail _ (.head _)); exact (.tail _ (.tail _ (.head _))))
          ·exact absurd ht_ (by simp)
         ·intro o W _
          show wpOp _ _ _ 0 _ ⟨#[_,_,_,_,_,_,_,_,_,_,_,_,_,_,_,_,_,_,_,_,_,_,_,_,_,_,_,_,_,_,_,_,_,_,_,_,_,_,_,_,_,_,_,_,_,_,_,_,_,_,_,_,_,_,_,_,_,_,_,_,_,_,_,_,_,_,_,_,_,_,_,_,_,_,_,_,_,_,_,_,_,_,_,_,_,_,o 0,o 1,o 2,o 3,o 4,o 5,o 6,o 7,o 8,o 9,o 10,o 11,o 12,o 13,o 14,o 16,_,_,_,_,_,_,_,_,_,_,_,_,_,_,_,_,_,_,_,_,_,_],[]⟩ W
          refine wpOp_step rfl fun _ hK => ?_
          go_simp
          exact hK _ _ ⟨rfl,rfl⟩
         ·intro o W hj
          have hj : KL _ _ W := hj
          obtain ⟨cL,c0,c1,c2,c3,c4,c5⟩ := bl6 (KL.blk hj (.tail _ (.tail _ (.head _))))
          show wpOp _ _ _ 1 _ ⟨#[_,_,_,_,_,_,_,_,_,_,_,_,_,_,_,_,_,_,_,_,_,_,_,_,_,_,_,_,_,_,_,_,_,_,_,_,_,_,_,_,_,_,_,_,_,_,_,_,_,_,_,_,_,_,_,_,_,_,_,_,_,_,_,_,_,_,_,_,_,_,_,_,_,_,_,_,_,_,_,_,_,_,_,_,_,_,.pointer (some ⟨w.heap.size,0,none⟩),o 1,o 2,o 3,o 4,o 5,o 6,o 7,o 8,o 9,o 10,o 11,o 12,o 13,o 14,o 16,_,_,_,_,_,_,_,_,_,_,_,_,_,_,_,_,_,_,_,_,_,_],[]⟩ W
          refine wpOp_step rfl fun _ hK => ?_
          go_simp
          exact hK _ _ ⟨rfl,hj⟩
         ·intro o W _
          show wpOp _ _ _ 2 _ ⟨#[_,_,_,_,_,_,_,_,_,_,_,_,_,_,_,_,_,_,_,_,_,_,_,_,_,_,_,_,_,_,_,_,_,_,_,_,_,_,_,_,_,_,_,_,_,_,_,_,_,_,_,_,_,_,_,_,_,_,_,_,_,_,_,_,_,_,_,_,_,_,_,_,_,_,_,_,_,_,_,_,_,_,_,_,_,_,o 0,o 1,o 2,o 3,o 4,o 5,o 6,o 7,o 8,o 9,o 10,o 11,o 12,o 13,o 14,o 16,_,_,_,_,_,_,_,_,_,_,_,_,_,_,_,_,_,_,_,_,_,_],[]⟩ W
          refine wpOp_step rfl fun _ hK => ?_
          go_simp
          exact hK _ _ ⟨rfl,rfl⟩
         ·intro o W _
          show wpOp _ _ _ 3 _ ⟨#[_,_,_,_,_,_,_,_,_,_,_,_,_,_,_,_,_,_,_,_,_,_,_,_,_,_,_,_,_,_,_,_,_,_,_,_,_,_,_,_,_,_,_,_,_,_,_,_,_,_,_,_,_,_,_,_,_,_,_,_,_,_,_,_,_,_,_,_,_,_,_,_,_,_,_,_,_,_,_,_,_,_,_,_,_,_,o 0,o 1,o 2,o 3,o 4,o 5,o 6,o 7,o 8,o 9,o 10,o 11,o 12,o 13,o 14,o 16,_,_,_,_,_,_,_,_,_,_,_,_,_,_,_,_,_,_,_,_,_,_],[]⟩ W
          refine wpOp_step rfl fun _ hK => ?_
          go_simp
          exact hK _ _ ⟨rfl,rfl⟩
         ·intro o W hj
          have hj : KL _ _ W := hj
          show wpOp _ _ _ 4 _ ⟨#[_,_,_,_,_,_,_,_,_,_,_,_,_,_,_,_,_,_,_,_,_,_,_,_,_,_,_,_,_,_,_,_,_,_,_,_,_,_,_,_,_,_,_,_,_,_,_,_,_,_,_,_,_,_,_,_,_,_,_,_,_,_,_,_,_,_,_,_,_,_,_,_,_,_,_,_,_,_,_,_,_,_,_,_,_,_,o 0,.agg #[.int .i64 ((pt 0 X (m : Int) LP)),.int .i64 ((pt 1 Y (m : Int) LP)),.int .i64 ((pt 2 Z (m : Int) LP))],.int .i64 ((m : Int)),.int .i64 HP,o 4,o 5,o 6,o 7,o 8,o 9,o 10,o 11,o 12,o 13,o 14,o 16,_,_,_,_,_,_,_,_,_,_,_,_,_,_,_,_,_,_,_,_,_,_],[]⟩ W
          refine wpOp_step rfl fun _ hK => ?_
          go_simp
          refine (pn _ _ _ _ _).mono ?_
          rintro e W1 ⟨rfl,hb1⟩
          exact hK _ _ ⟨rfl,hj.over hb1⟩
         ·intro o W _
          show wpOp _ _ _ 5 _ ⟨#[_,_,_,_,_,_,_,_,_,_,_,_,_,_,_,_,_,_,_,_,_,_,_,_,_,_,_,_,_,_,_,_,_,_,_,_,_,_,_,_,_,_,_,_,_,_,_,_,_,_,_,_,_,_,_,_,_,_,_,_,_,_,_,_,_,_,_,_,_,_,_,_,_,_,_,_,_,_,_,_,_,_,_,_,_,_,o 0,o 1,o 2,o 3,o 4,o 5,o 6,o 7,o 8,o 9,o 10,o 11,o 12,o 13,o 14,o 16,_,_,_,_,_,_,_,_,_,_,_,_,_,_,_,_,_,_,_,_,_,_],[]⟩ W
          refine wpOp_step rfl fun _ hK => ?_
          go_simp
          exact hK _ _ ⟨rfl,rfl⟩
         ·intro o W hj
          have hj : KL _ _ W := hj
          obtain ⟨cL,c0,c1,c2,c3,c4,c5⟩ := bl6 (KL.blk hj (.tail _ (.head _)))
          show wpOp _ _ _ 6 _ ⟨#[_,_,_,_,_,_,_,_,_,_,_,_,_,_,_,_,_,_,_,_,_,_,_,_,_,_,_,_,_,_,_,_,_,_,_,_,_,_,_,_,_,_,_,_,_,_,_,_,_,_,_,_,_,_,_,_,_,_,_,_,_,_,_,_,_,_,_,_,_,_,_,_,_,_,_,_,_,_,_,_,_,_,_,_,_,_,o 0,o 1,o 2,o 3,o 4,.pointer (some ⟨w.heap.size,3,none⟩),o 6,o 7,o 8,o 9,o 10,o 11,o 12,o 13,o 14,o 16,_,_,_,_,_,_,_,_,_,_,_,_,_,_,_,_,_,_,_,_,_,_],[]⟩ W
          refine wpOp_step rfl fun _ hK => ?_
          go_simp
          exact hK _ _ ⟨rfl,rfl⟩
         ·intro o W _
          show wpOp _ _ _ 7 _ ⟨#[_,_,_,_,_,_,_,_,_,_,_,_,_,_,_,_,_,_,_,_,_,_,_,_,_,_,_,_,_,_,_,_,_,_,_,_,_,_,_,_,_,_,_,_,_,_,_,_,_,_,_,_,_,_,_,_,_,_,_,_,_,_,_,_,_,_,_,_,_,_,_,_,_,_,_,_,_,_,_,_,_,_,_,_,_,_,o 0,o 1,o 2,o 3,o 4,o 5,o 6,o 7,o 8,o 9,o 10,o 11,o 12,o 13,o 14,o 16,_,_,_,_,_,_,_,_,_,_,_,_,_,_,_,_,_,_,_,_,_,_],[]⟩ W
          refine wpOp_step rfl fun _ hK => ?_
          go_simp
          exact hK _ _ ⟨rfl,rfl⟩
         ·intro o W _
          show wpOp _ _ _ 8 _ ⟨#[_,_,_,_,_,_,_,_,_,_,_,_,_,_,_,_,_,_,_,_,_,_,_,_,_,_,_,_,_,_,_,_,_,_,_,_,_,_,_,_,_,_,_,_,_,_,_,_,_,_,_,_,_,_,_,_,_,_,_,_,_,_,_,_,_,_,_,_,_,_,_,_,_,_,_,_,_,_,_,_,_,_,_,_,_,_,o 0,o 1,o 2,o 3,o 4,o 5,o 6,o 7,o 8,o 9,o 10,o 11,o 12,o 13,o 14,o 16,_,_,_,_,_,_,_,_,_,_,_,_,_,_,_,_,_,_,_,_,_,_],[]⟩ W
          refine wpOp_step rfl fun _ hK => ?_
          go_simp
          exact hK _ _ ⟨rfl,rfl⟩
         ·intro o W _
          show wpOp _ _ _ 9 _ ⟨#[_,_,_,_,_,_,_,_,_,_,_,_,_,_,_,_,_,_,_,_,_,_,_,_,_,_,_,_,_,_,_,_,_,_,_,_,_,_,_,_,_,_,_,_,_,_,_,_,_,_,_,_,_,_,_,_,_,_,_,_,_,_,_,_,_,_,_,_,_,_,_,_,_,_,_,_,_,_,_,_,_,_,_,_,_,_,o 0,o 1,o 2,o 3,o 4,o 5,o 6,o 7,o 8,o 9,o 10,o 11,o 12,o 13,o 14,o 16,_,_,_,_,_,_,_,_,_,_,_,_,_,_,_,_,_,_,_,_,_,_],[]⟩ W
          refine wpOp_step rfl fun _ hK => ?_
          go_simp
          exact hK _ _ ⟨rfl,rfl⟩
         ·intro o W _
          show wpOp _ _ _ 10 _ ⟨#[_,_,_,_,_,_,_,_,_,_,_,_,_,_,_,_,_,_,_,_,_,_,_,_,_,_,_,_,_,_,_,_,_,_,_,_,_,_,_,_,_,_,_,_,_,_,_,_,_,_,_,_,_,_,_,_,_,_,_,_,_,_,_,_,_,_,_,_,_,_,_,_,_,_,_,_,_,_,_,_,_,_,_,_,_,_,o 0,o 1,o 2,o 3,o 4,o 5,o 6,o 7,o 8,o 9,o 10,o 11,o 12,o 13,o 14,o 16,_,_,_,_,_,_,_,_,_,_,_,_,_,_,_,_,_,_,_,_,_,_],[]⟩ W
          refine wpOp_step rfl fun _ hK => ?_
          go_simp
          exact hK _ _ ⟨rfl,rfl⟩
         ·intro o W _
          show wpOp _ _ _ 11 _ ⟨#[_,_,_,_,_,_,_,_,_,_,_,_,_,_,_,_,_,_,_,_,_,_,_,_,_,_,_,_,_,_,_,_,_,_,_,_,_,_,_,_,_,_,_,_,_,_,_,_,_,_,_,_,_,_,_,_,_,_,_,_,_,_,_,_,_,_,_,_,_,_,_,_,_,_,_,_,_,_,_,_,_,_,_,_,_,_,o 0,o 1,o 2,o 3,o 4,o 5,o 6,o 7,o 8,.int .i64 D2,.int .i64 k,o 11,o 12,o 13,o 14,o 16,_,_,_,_,_,_,_,_,_,_,_,_,_,_,_,_,_,_,_,_,_,_],[]⟩ W
          refine wpOp_step rfl fun _ hK => ?_
          go_simp
          exact hK _ _ ⟨rfl,rfl⟩
         ·intro o W _
          show wpOp _ _ _ 12 _ ⟨#[_,_,_,_,_,_,_,_,_,_,_,_,_,_,_,_,_,_,_,_,_,_,_,_,_,_,_,_,_,_,_,_,_,_,_,_,_,_,_,_,_,_,_,_,_,_,_,_,_,_,_,_,_,_,_,_,_,_,_,_,_,_,_,_,_,_,_,_,_,_,_,_,_,_,_,_,_,_,_,_,_,_,_,_,_,_,o 0,o 1,o 2,o 3,o 4,o 5,o 6,o 7,.int .i64 HP,o 9,o 10,.int .i64 (if k < D2 then k else D2),o 12,o 13,o 14,o 16,_,_,_,_,_,_,_,_,_,_,_,_,_,_,_,_,_,_,_,_,_,_],[]⟩ W
          refine wpOp_step rfl fun _ hK => ?_
          go_simp
          exact hK _ _ ⟨rfl,rfl⟩
         ·intro o W hj
          have hj : KL _ _ W := hj
          show wpOp _ _ _ 13 _ ⟨#[_,_,_,_,_,_,_,_,_,_,_,_,_,_,_,_,_,_,_,_,_,_,_,_,_,_,_,_,_,_,_,_,_,_,_,_,_,_,_,_,_,_,_,_,_,_,_,_,_,_,_,_,_,_,_,_,_,_,_,_,_,_,_,_,_,_,_,_,_,_,_,_,_,_,_,_,_,_,_,_,_,_,_,_,_,_,o 0,o 1,o 2,o 3,o 4,o 5,.agg #[.int .i64 P,.int .i64 Q,.int .i64 R],.int .i64 ((m : Int)),o 8,o 9,o 10,o 11,.int .i64 E2,o 13,o 14,o 16,_,_,_,_,_,_,_,_,_,_,_,_,_,_,_,_,_,_,_,_,_,_],[]⟩ W
          refine wpOp_step rfl fun _ hK => ?_
          go_simp
          refine (pn _ _ _ _ _).mono ?_
          rintro e W1 ⟨rfl,hb1⟩
          exact hK _ _ ⟨rfl,hj.over hb1⟩
         ·intro o W _
          show wpOp _ _ _ 14 _ ⟨#[_,_,_,_,_,_,_,_,_,_,_,_,_,_,_,_,_,_,_,_,_,_,_,_,_,_,_,_,_,_,_,_,_,_,_,_,_,_,_,_,_,_,_,_,_,_,_,_,_,_,_,_,_,_,_,_,_,_,_,_,_,_,_,_,_,_,_,_,_,_,_,_,_,_,_,_,_,_,_,_,_,_,_,_,_,_,o 0,o 1,o 2,o 3,o 4,o 5,o 6,o 7,o 8,o 9,o 10,o 11,o 12,o 13,o 14,o 16,_,_,_,_,_,_,_,_,_,_,_,_,_,_,_,_,_,_,_,_,_,_],[]⟩ W
          refine wpOp_step rfl fun _ hK => ?_
          go_simp
          exact hK _ _ ⟨rfl,rfl⟩
         ·intro o W hj
          have hj : KL _ _ W := hj
          obtain ⟨cL,c0,c1,c2,c3,c4,c5⟩ := bl6 (KL.blk hj (.head _))
          have cF := (KL.blk hj (.head _)).frozen
          show wpOp _ _ _ 15 _ ⟨#[_,_,_,_,_,_,_,_,_,_,_,_,_,_,_,_,_,_,_,_,_,_,_,_,_,_,_,_,_,_,_,_,_,_,_,_,_,_,_,_,_,_,_,_,_,_,_,_,_,_,_,_,_,_,_,_,_,_,_,_,_,_,_,_,_,_,_,_,_,_,_,_,_,_,_,_,_,_,_,_,_,_,_,_,_,_,o 0,o 1,o 2,o 3,.agg #[.int .i64 (pt 0 ((pt 0 X (m : Int) LP)) (m : Int) HP),.int .i64 (pt 1 ((pt 1 Y (m : Int) LP)) (m : Int) HP),.int .i64 (pt 2 ((pt 2 Z (m : Int) LP)) (m : Int) HP)],o 5,o 6,o 7,o 8,o 9,o 10,o 11,o 12,o 13,.pointer (some ⟨w8.heap.size,0,none⟩),o 16,_,_,_,_,_,_,_,_,_,_,_,_,_,_,_,_,_,_,_,_,_,_],[]⟩ W
          refine wpOp_step rfl fun _ hK => ?_
          go_simp
          exact hK _ _ ⟨rfl,(KL.upL 0 hj rfl (by omega) (by simp <;> omega))⟩
         ·intro o W _
          show wpOp _ _ _ 16 _ ⟨#[_,_,_,_,_,_,_,_,_,_,_,_,_,_,_,_,_,_,_,_,_,_,_,_,_,_,_,_,_,_,_,_,_,_,_,_,_,_,_,_,_,_,_,_,_,_,_,_,_,_,_,_,_,_,_,_,_,_,_,_,_,_,_,_,_,_,_,_,_,_,_,_,_,_,_,_,_,_,_,_,_,_,_,_,_,_,o 0,o 1,o 2,o 3,o 4,o 5,o 6,o 7,o 8,o 9,o 10,o 11,o 12,o 13,o 14,o 16,_,_,_,_,_,_,_,_,_,_,_,_,_,_,_,_,_,_,_,_,_,_],[]⟩ W
          refine wpOp_step rfl fun _ hK => ?_
          go_simp
          exact hK _ _ ⟨rfl,rfl⟩
         ·intro o W hj
          have hj : KL _ _ W := hj
          obtain ⟨cL,c0,c1,c2,c3,c4,c5⟩ := bl6 (KL.blk hj (.head _))
          have cF := (KL.blk hj (.head _)).frozen
          show wpOp _ _ _ 17 _ ⟨#[_,_,_,_,_,_,_,_,_,_,_,_,_,_,_,_,_,_,_,_,_,_,_,_,_,_,_,_,_,_,_,_,_,_,_,_,_,_,_,_,_,_,_,_,_,_,_,_,_,_,_,_,_,_,_,_,_,_,_,_,_,_,_,_,_,_,_,_,_,_,_,_,_,_,_,_,_,_,_,_,_,_,_,_,_,_,o 0,o 1,o 2,o 3,o 4,o 5,o 6,o 7,o 8,o 9,o 10,o 11,o 12,.agg #[.int .i64 (pt 0 P (m : Int) E2),.int .i64 (pt 1 Q (m : Int) E2),.int .i64 (pt 2 R (m : Int) E2)],o 14,.pointer (some ⟨w8.heap.size,3,none⟩),_,_,_,_,_,_,_,_,_,_,_,_,_,_,_,_,_,_,_,_,_,_],[]⟩ W
          refine wpOp_step rfl fun _ hK => ?_
          go_simp
          exact hK _ _ ⟨rfl,(KL.upH 0 hj rfl (by omega) (by simp <;> omega))⟩
         ·intro o hh_
          have e0 : o 0 = .pointer (some ⟨w.heap.size,0,none⟩) := hh_ 0 (by decide)
          have e1 : o 1 = .agg #[.int .i64 ((pt 0 X (m : Int) LP)),.int .i64 ((pt 1 Y (m : Int) LP)),.int .i64 ((pt 2 Z (m : Int) LP))] := hh_ 1 (by decide)
          have e2 : o 2 = .int .i64 ((m : Int)) := hh_ 2 (by decide)
          have e3 : o 3 = .int .i64 HP := hh_ 3 (by decide)
          have e4 : o 4 = .agg #[.int .i64 (pt 0 ((pt 0 X (m : Int) LP)) (m : Int) HP),.int .i64 (pt 1 ((pt 1 Y (m : Int) LP)) (m : Int) HP),.int .i64 (pt 2 ((pt 2 Z (m : Int) LP)) (m : Int) HP)] := hh_ 4 (by decide)
          have e5 : o 5 = .pointer (some ⟨w.heap.size,3,none⟩) := hh_ 5 (by decide)
          have e6 : o 6 = .agg #[.int .i64 P,.int .i64 Q,.int .i64 R] := hh_ 6 (by decide)
          have e7 : o 7 = .int .i64 ((m : Int)) := hh_ 7 (by decide)
          have e8 : o 8 = .int .i64 HP := hh_ 8 (by decide)
          have e9 : o 9 = .int .i64 D2 := hh_ 9 (by decide)
          have e10 : o 10 = .int .i64 k := hh_ 10 (by decide)
          have e11 : o 11 = .int .i64 (if k < D2 then k else D2) := hh_ 11 (by decide)
          have e12 : o 12 = .int .i64 E2 := hh_ 12 (by decide)
          have e13 : o 13 = .agg #[.int .i64 (pt 0 P (m : Int) E2),.int .i64 (pt 1 Q (m : Int) E2),.int .i64 (pt 2 R (m : Int) E2)] := hh_ 13 (by decide)
          have e14 : o 14 = .pointer (some ⟨w8.heap.size,0,none⟩) := hh_ 14 (by decide)
          have e16 : o 16 = .pointer (some ⟨w8.heap.size,3,none⟩) := hh_ 16 (by decide)
          rw [e0,e1,e2,e3,e4,e5,e6,e7,e8,e9,e10,e11,e12,e13,e14,e16]
         ·intro W9 h9
          have h9 : KL _ _ W9 := h9
          obtain ⟨eL0,e0_0,e0_1,e0_2,e0_3,e0_4,e0_5⟩ := bl6 (KL.blk h9 (.head _))
          obtain ⟨eL1,e1_0,e1_1,e1_2,e1_3,e1_4,e1_5⟩ := bl6 (KL.blk h9 (.tail _ (.head _)))
          obtain ⟨eL2,e2_0,e2_1,e2_2,e2_3,e2_4,e2_5⟩ := bl6 (KL.blk h9 (.tail _ (.tail _ (.head _))))
          have hjb := h9.1
          have hjz := hjb.size
          have hk2 := HK2.out
          have hj9 := hj8.over hjb
          have hown9 := own_below hown8 hjb
          have t4 : decide (k < D2) = false := by simpa using hk2
          go_wp2_with (first
           | (go_at_call 19; refine (hV2 _).mono ?_; rintro e w10 ⟨rfl,hb10⟩; have hj10 := hj9.over hb10; have hown10 := own_below hown9 hb10; have hz10 := hb10.size; obtain ⟨fL,f0,f1,f2,f3,f4,f5⟩ := bl6 (KL.blk hj10 (.tail _ (.head _))); have fM := (KL.blk hj10 (.head _)).lt)
           | (go_at_call 47; refine (pn _ _ _ _ _).mono ?_; rintro e w12 ⟨rfl,hb12⟩; have hj12 : KL [((w.heap.size + 1),25,#[a,b,c,d,s,u]),(w.heap.size,25,#[.int .i64 ((pt 0 X (m : Int) LP)),.int .i64 ((pt 1 Y (m : Int) LP)),.int .i64 ((pt 2 Z (m : Int) LP)),.int .i64 P,.int .i64 Q,.int .i64 R])] w w12 := hj10.over hb12; have hown12 := own_below hown10 hb12; obtain ⟨hL,h0,h1,h2,h3,h4,h5⟩ := bl6 (KL.blk hj12 (.tail _ (.head _))); have hM := (KL.blk hj12 (.head _)).lt; have hF := (KL.blk hj12 (.tail _ (.head _))).frozen))
          go_roundw
          case rel => exact ⟨m + 1,(n + 1),A5,c5,(pt 0 X (m : Int) LP),(pt 1 Y (m : Int) LP),(pt 2 Z (m : Int) LP),(pt 0 P (m : Int) HP),(pt 1 Q (m : Int) HP),(pt 2 R (m : Int) HP),L + V1 + V2,(xs ++ [.int .i64 ((m : Int)),.int .i64 (LP - k),.int .i64 k]),by omega,rfl,rfl,by go_num,by
           have h := HS.out
           rw [if_pos (show 0 < D1 by omega),if_pos (show 0 < D2 by omega),if_pos (show k < D1 by omega),if_pos (show k < D1 by omega),if_neg (show ¬ k < D2 by omega),if_neg (show ¬ k < D2 by omega)] at h
           (repeat rw [List.append_nil] at h)
           (repeat rw [Int.add_zero] at h)
           skip
           skip
           exact h,(own_far (p := ⟨w.heap.size,5,none⟩) (own_far (p := ⟨w.heap.size,4,none⟩) (own_far (p := ⟨w.heap.size,3,none⟩) hown12 _ (by show w.heap.size < _; omega)) _ (by show w.heap.size < _; omega)) _ (by show w.heap.size < _; omega)),KL.upH 1 hj12 rfl (by omega) (by simp <;> omega)⟩
          case measure => simp [intOf] <;> omega
       ·have hk2 : ¬ k < D2 := by omega
        have t2 : decide (0 < D2) = false := by simpa using hz2
        go_wp2_with (go_at_call 41; (with_reducible refine (gh _).mono ?_); rintro e w8 ⟨rfl,hb8⟩; have hj8 : KL [((w.heap.size + 1),25,#[a,b,c,d,s,u]),(w.heap.size,25,#[.int .i64 ((pt 0 X (m : Int) LP)),.int .i64 ((pt 1 Y (m : Int) LP)),.int .i64 ((pt 2 Z (m : Int) LP)),.int .i64 P,.int .i64 Q,.int .i64 R])] w w8 := (KL.upL 1 hj6 rfl (by omega) (by simp <;> omega)).over hb8; have hown8 := own_below (own_far (p := ⟨w.heap.size,2,none⟩) (own_far (p := ⟨w.heap.size,1,none⟩) (own_far (p := ⟨w.heap.size,0,none⟩) hown6 _ (by show w.heap.size < _; omega)) _ (by show w.heap.size < _; omega)) _ (by show w.heap.size < _; omega)) hb8; obtain ⟨dL,d0,d1,d2,d3,d4,d5⟩ := bl6 (KL.blk hj8 (.tail _ (.head _))); have dM := (KL.blk hj8 (.head _)).lt)
        obtain ⟨eP,eQ,eR⟩ := hPP.out (by omega)
        go_roundw
        case rel => exact ⟨m + 1,(n + 1),A5,c5,(pt 0 X (m : Int) LP),(pt 1 Y (m : Int) LP),(pt 2 Z (m : Int) LP),P,Q,R,L + V1,(xs ++ [.int .i64 ((m : Int)),.int .i64 (LP - k),.int .i64 k]),by omega,rfl,rfl,by go_num,by
         have h := HS.out
         rw [if_pos (show 0 < D1 by omega),if_neg (show ¬ 0 < D2 by omega),if_pos (show k < D1 by omega),if_pos (show k < D1 by omega),if_neg (show ¬ k < D2 by omega),if_neg (show ¬ k < D2 by omega)] at h
         (repeat rw [List.append_nil] at h)
         (repeat rw [Int.add_zero] at h)
         skip
         rw [eP,eQ,eR] at h
         exact h,hown8,hj8⟩
        case measure => simp [intOf] <;> omega
     ·have t1 : decide (0 < D1) = true := by simpa using hz1
      go_wp2_with (go_at_call 41; (with_reducible refine (gl _).mono ?_); rintro e w2 ⟨rfl,hb2⟩; have hj2 : KL [((w.heap.size + 1),25,#[a,b,c,d,s,u]),(w.heap.size,25,#[.int .i64 X,.int .i64 Y,.int .i64 Z,.int .i64 P,.int .i64 Q,.int .i64 R])] w w2 := hj1.over hb2; have hown2 := own_below hown1 hb2; obtain ⟨bL,b0,b1,b2,b3,b4,b5⟩ := bl6 (KL.blk hj2 (.tail _ (.head _))); have bM := (KL.blk hj2 (.head _)).lt)
      have xL1 : IntKind.i64.wrap (L + V1) = L + V1 := IntWalk.i64_in _ (by have h := hLs.out; rw [if_pos hz1] at h; split at h <;> omega)
      have HK1 := Lib.hid hk1
      clear hk1
      have xLk : IntKind.i64.wrap (LP - k) = LP - k := IntWalk.i64_in _ (by omega)
      refine wp_region_any (by kernel_rfl) ?_
      try (change wpAny _ _ _ _ _ _ _ (World.drew _))
      refine wpAny_vals (fr := fun o => #[.agg #[x,y,z,p,q,r],.agg #[a,b,c,d,s,u],.int .i64 k,.pointer (some ⟨w.heap.size,0,none⟩),.pointer (some ⟨(w.heap.size + 1),0,none⟩),undef,.slice none 0 0,.int .i64 0,.slice A n c_,.int .i64 L,.int .i64 ((m : Int)),.int .i64 LP,.int .i64 HP,.int .i64 D1,.pointer (some ⟨w2.heap.size,0,none⟩),u15,u16,.slice (some ⟨(w.heap.size + 1 + 1),0,none⟩) 0 0,.int .i64 ((m : Int)),.bool true,u20,u21,.pointer (some ⟨(w.heap.size + 1),0,none⟩),.agg #[a,b,c],.int .i64 ((m : Int)),.int .i64 LP,.pointer (some ⟨(w.heap.size + 1),3,none⟩),.agg #[d,s,u],.int .i64 ((m : Int)),.int .i64 HP,.int .i64 LP,.pointer (some ⟨w.heap.size,0,none⟩),.agg #[.int .i64 X,.int .i64 Y,.int .i64 Z],.int .i64 ((m : Int)),.int .i64 lo,.int .i64 D1,.int .i64 D1,.bool true,.agg #[.int .i64 X,.int .i64 Y,.int .i64 Z,.int .i64 P,.int .i64 Q,.int .i64 R],o 0,o 1,o 2,o 3,o 4,o 5,o 6,o 7,o 8,o 9,o 10,o 11,o 12,o 13,o 14,o 16,u55,u56,u57,u58,u59,u60,u61,u62,u63,u64,u65,u66,u67,u68,u69,u70,u71,u72,u73,u74,u75,u76,u77,u78,u79,u80,u81,u82,u83,u84,u85,u86,u87,u88,u89,u90,u91,u92,u93,u94,u95,u96,u97,u98,u99,u100,u101,u102,u103,u104,u105,u106,u107,u108,u109,u110,u111,u112,u113,u114,u115,u116,u117,u118,u119,u120,u121,undef,undef]) (vals := fun i_ => ([.pointer (some ⟨w.heap.size,0,none⟩),.agg #[.int .i64 X,.int .i64 Y,.int .i64 Z],.int .i64 ((m : Int)),.int .i64 LP,.int .i64 D1,.int .i64 k,.int .i64 (if k < D1 then k else D1),.int .i64 E1,.agg #[.int .i64 (pt 0 X (m : Int) E1),.int .i64 (pt 1 Y (m : Int) E1),.int .i64 (pt 2 Z (m : Int) E1)],.pointer (some ⟨w.heap.size,3,none⟩),.agg #[.int .i64 P,.int .i64 Q,.int .i64 R],.int .i64 ((m : Int)),.int .i64 LP,.agg #[.int .i64 (pt 0 P (m : Int) LP),.int .i64 (pt 1 Q (m : Int) LP),.int .i64 (pt 2 R (m : Int) LP)],.pointer (some ⟨w2.heap.size,0,none⟩),undef,.pointer (some ⟨w2.heap.size,3,none⟩),undef] : List Value).getD i_ undef) (Kf := fun W_ => KL [((w.heap.size + 1),25,#[a,b,c,d,s,u]),(w.heap.size,25,#[.int .i64 X,.int .i64 Y,.int .i64 Z,.int .i64 P,.int .i64 Q,.int .i64 R])] w2 W_) (K := fun kk_ => ([(KL [(w2.heap.size,25,#[.int .i64 X,.int .i64 Y,.int .i64 Z,.int .i64 P,.int .i64 Q,.int .i64 R]),((w.heap.size + 1),25,#[a,b,c,d,s,u]),(w.heap.size,25,#[.int .i64 X,.int .i64 Y,.int .i64 Z,.int .i64 P,.int .i64 Q,.int .i64 R])] w2),(KL [(w2.heap.size,25,#[.int .i64 (pt 0 X (m : Int) E1),.int .i64 (pt 1 Y (m : Int) E1),.int .i64 (pt 2 Z (m : Int) E1),.int .i64 P,.int .i64 Q,.int .i64 R]),((w.heap.size + 1),25,#[a,b,c,d,s,u]),(w.heap.size,25,#[.int .i64 X,.int .i64 Y,.int .i64 Z,.int .i64 P,.int .i64 Q,.int .i64 R])] w2),(KL [(w2.heap.size,25,#[.int .i64 (pt 0 X (m : Int) E1),.int .i64 (pt 1 Y (m : Int) E1),.int .i64 (pt 2 Z (m : Int) E1),.int .i64 (pt 0 P (m : Int) LP),.int .i64 (pt 1 Q (m : Int) LP),.int .i64 (pt 2 R (m : Int) LP)]),((w.heap.size + 1),25,#[a,b,c,d,s,u]),(w.heap.size,25,#[.int .i64 X,.int .i64 Y,.int .i64 Z,.int .i64 P,.int .i64 Q,.int .i64 R])] w2)] : List (World → Prop)).getD kk_ (fun _ => True)) (dep := fun i_ => [[],[0],[],[],[],[],[4,5],[3,6],[1,2,7],[],[9],[],[],[10,11,12],[],[1,8,13,14],[],[13,15,16]].getD i_ []) (dv := fun i_ => [[],[0],[],[],[],[],[4,5],[3,6],[1,2,7],[],[9],[],[],[10,11,12],[],[8,14],[],[13,16]].getD i_ []) (kd := fun i_ => [0,1,0,0,0,0,0,0,1,0,0,0,0,1,0,2,0,3].getD i_ 0) (ss := [15,17]) (l := [0,1,2,3,4,5,6,7,8,9,10,11,12,13,14,15,16,17]) (f0 := fun i_ => ([u39,u40,u41,u42,u43,u44,u45,u46,u47,u48,u49,u50,u51,u52,u53,undef,u54,undef] : List Value).getD i_ undef) (A := ?A6) 18 ?_ ?_ ?_ ?_ ?_ ?_ ⟨?_,?_,?_,?_,?_,?_,?_,?_,?_,?_,?_,?_,?_,?_,?_,?_,?_,?_,trivial⟩ ?_ ?_
      rotate_left
      ·rfl
      ·rfl
      ·decide +kernel
      ·decide +kernel
      ·exact KL.drew (KL.new (g := w2.heap.size) hj2.base rfl _ _)
      ·intro t_ W ht_ hh_
       rcases t_ with _ | _ | _ | _
       ·exact KL.part hh_ (fun p_ hp_ => by simp only [List.mem_cons,List.not_mem_nil,or_false] at hp_; rcases hp_ with rfl | rfl; exact (.tail _ (.head _)); exact (.tail _ (.tail _ (.head _))))
       ·exact KL.part hh_ (fun p_ hp_ => by simp only [List.mem_cons,List.not_mem_nil,or_false] at hp_; rcases hp_ with rfl | rfl; exact (.tail _ (.head _)); exact (.tail _ (.tail _ (.head _))))
       ·exact KL.part hh_ (fun p_ hp_ => by simp only [List.mem_cons,List.not_mem_nil,or_false] at hp_; rcases hp_ with rfl | rfl; exact (.tail _ (.head _)); exact (.tail _ (.tail _ (.head _))))
       ·exact absurd ht_ (by simp)
      ·intro o W _
       show wpOp _ _ _ 0 _ ⟨⟨_::_::_::_::_::_::_::_::_::_::_::_::_::_::_::_::_::_::_::_::_::_::_::_::_::_::_::_::_::_::_::_::_::_::_::_::_::_::_::o 0::o 1::o 2::o 3::o 4::o 5::o 6::o 7::o 8::o 9::o 10::o 11::o 12::o 13::o 14::o 16::_⟩,[]⟩ W
       refine wpOp_step rfl fun _ hK => ?_
       go_simp
       exact hK _ _ ⟨rfl,rfl⟩
      ·intro o W hj
       have hj : KL _ _ W := hj
       obtain ⟨cL,c0,c1,c2,c3,c4,c5⟩ := bl6 (KL.blk hj (.tail _ (.tail _ (.head _))))
       show wpOp _ _ _ 1 _ ⟨⟨_::_::_::_::_::_::_::_::_::_::_::_::_::_::_::_::_::_::_::_::_::_::_::_::_::_::_::_::_::_::_::_::_::_::_::_::_::_::_::.pointer (some ⟨w.heap.size,0,none⟩)::o 1::o 2::o 3::o 4::o 5::o 6::o 7::o 8::o 9::o 10::o 11::o 12::o 13::o 14::o 16::_⟩,[]⟩ W
       refine wpOp_step rfl fun _ hK => ?_
       go_simp
       exact hK _ _ ⟨rfl,hj⟩
      ·intro o W _
       show wpOp _ _ _ 2 _ ⟨⟨_::_::_::_::_::_::_::_::_::_::_::_::_::_::_::_::_::_::_::_::_::_::_::_::_::_::_::_::_::_::_::_::_::_::_::_::_::_::_::o 0::o 1::o 2::o 3::o 4::o 5::o 6::o 7::o 8::o 9::o 10::o 11::o 12::o 13::o 14::o 16::_⟩,[]⟩ W
       refine wpOp_step rfl fun _ hK => ?_
       go_simp
       exact hK _ _ ⟨rfl,rfl⟩
      ·intro o W _
       show wpOp _ _ _ 3 _ ⟨⟨_::_::_::_::_::_::_::_::_::_::_::_::_::_::_::_::_::_::_::_::_::_::_::_::_::_::_::_::_::_::_::_::_::_::_::_::_::_::_::o 0::o 1::o 2::o 3::o 4::o 5::o 6::o 7::o 8::o 9::o 10::o 11::o 12::o 13::o 14::o 16::_⟩,[]⟩ W
       refine wpOp_step rfl fun _ hK => ?_
       go_simp
       exact hK _ _ ⟨rfl,rfl⟩
      ·intro o W _
       show wpOp _ _ _ 4 _ ⟨⟨_::_::_::_::_::_::_::_::_::_::_::_::_::_::_::_::_::_::_::_::_::_::_::_::_::_::_::_::_::_::_::_::_::_::_::_::_::_::_::o 0::o 1::o 2::o 3::o 4::o 5::o 6::o 7::o 8::o 9::o 10::o 11::o 12::o 13::o 14::o 16::_⟩,[]⟩ W
       refine wpOp_step rfl fun _ hK => ?_
       go_simp
       exact hK _ _ ⟨rfl,rfl⟩
      ·intro o W _
       show wpOp _ _ _ 5 _ ⟨⟨_::_::_::_::_::_::_::_::_::_::_::_::_::_::_::_::_::_::_::_::_::_::_::_::_::_::_::_::_::_::_::_::_::_::_::_::_::_::_::o 0::o 1::o 2::o 3::o 4::o 5::o 6::o 7::o 8::o 9::o 10::o 11::o 12::o 13::o 14::o 16::_⟩,[]⟩ W
       refine wpOp_step rfl fun _ hK => ?_
       go_simp
       exact hK _ _ ⟨rfl,rfl⟩
      ·intro o W _
       show wpOp _ _ _ 6 _ ⟨⟨_::_::_::_::_::_::_::_::_::_::_::_::_::_::_::_::_::_::_::_::_::_::_::_::_::_::_::_::_::_::_::_::_::_::_::_::_::_::_::o 0::o 1::o 2::o 3::.int .i64 D1::.int .i64 k::o 6::o 7::o 8::o 9::o 10::o 11::o 12::o 13::o 14::o 16::_⟩,[]⟩ W
       refine wpOp_step rfl fun _ hK => ?_
       go_simp
       exact hK _ _ ⟨rfl,rfl⟩
      ·intro o W _
       show wpOp _ _ _ 7 _ ⟨⟨_::_::_::_::_::_::_::_::_::_::_::_::_::_::_::_::_::_::_::_::_::_::_::_::_::_::_::_::_::_::_::_::_::_::_::_::_::_::_::o 0::o 1::o 2::.int .i64 LP::o 4::o 5::.int .i64 (if k < D1 then k else D1)::o 7::o 8::o 9::o 10::o 11::o 12::o 13::o 14::o 16::_⟩,[]⟩ W
       refine wpOp_step rfl fun _ hK => ?_
       go_simp
       exact hK _ _ ⟨rfl,rfl⟩
      ·intro o W hj
       have hj : KL _ _ W := hj
       show wpOp _ _ _ 8 _ ⟨⟨_::_::_::_::_::_::_::_::_::_::_::_::_::_::_::_::_::_::_::_::_::_::_::_::_::_::_::_::_::_::_::_::_::_::_::_::_::_::_::o 0::.agg #[.int .i64 X,.int .i64 Y,.int .i64 Z]::.int .i64 ((m : Int))::o 3::o 4::o 5::o 6::.int .i64 E1::o 8::o 9::o 10::o 11::o 12::o 13::o 14::o 16::_⟩,[]⟩ W
       refine wpOp_step rfl fun _ hK => ?_
       go_simp
       refine (pn _ _ _ _ _).mono ?_
       rintro e W1 ⟨rfl,hb1⟩
       exact hK _ _ ⟨rfl,hj.over hb1⟩
      ·intro o W _
       show wpOp _ _ _ 9 _ ⟨⟨_::_::_::_::_::_::_::_::_::_::_::_::_::_::_::_::_::_::_::_::_::_::_::_::_::_::_::_::_::_::_::_::_::_::_::_::_::_::_::o 0::o 1::o 2::o 3::o 4::o 5::o 6::o 7::o 8::o 9::o 10::o 11::o 12::o 13::o 14::o 16::_⟩,[]⟩ W
       refine wpOp_step rfl fun _ hK => ?_
       go_simp
       exact hK _ _ ⟨rfl,rfl⟩
      ·intro o W hj
       have hj : KL _ _ W := hj
       obtain ⟨cL,c0,c1,c2,c3,c4,c5⟩ := bl6 (KL.blk hj (.tail _ (.head _)))
       show wpOp _ _ _ 10 _ ⟨⟨_::_::_::_::_::_::_::_::_::_::_::_::_::_::_::_::_::_::_::_::_::_::_::_::_::_::_::_::_::_::_::_::_::_::_::_::_::_::_::o 0::o 1::o 2::o 3::o 4::o 5::o 6::o 7::o 8::.pointer (some ⟨w.heap.size,3,none⟩)::o 10::o 11::o 12::o 13::o 14::o 16::_⟩,[]⟩ W
       refine wpOp_step rfl fun _ hK => ?_
       go_simp
       exact hK _ _ ⟨rfl,rfl⟩
      ·intro o W _
       show wpOp _ _ _ 11 _ ⟨⟨_::_::_::_::_::_::_::_::_::_::_::_::_::_::_::_::_::_::_::_::_::_::_::_::_::_::_::_::_::_::_::_::_::_::_::_::_::_::_::o 0::o 1::o 2::o 3::o 4::o 5::o 6::o 7::o 8::o 9::o 10::o 11::o 12::o 13::o 14::o 16::_⟩,[]⟩ W
       refine wpOp_step rfl fun _ hK => ?_
       go_simp
       exact hK _ _ ⟨rfl,rfl⟩
      ·intro o W _
       show wpOp _ _ _ 12 _ ⟨⟨_::_::_::_::_::_::_::_::_::_::_::_::_::_::_::_::_::_::_::_::_::_::_::_::_::_::_::_::_::_::_::_::_::_::_::_::_::_::_::o 0::o 1::o 2::o 3::o 4::o 5::o 6::o 7::o 8::o 9::o 10::o 11::o 12::o 13::o 14::o 16::_⟩,[]⟩ W
       refine wpOp_step rfl fun _ hK => ?_
       go_simp
       exact hK _ _ ⟨rfl,rfl⟩
      ·intro o W hj
       have hj : KL _ _ W := hj
       show wpOp _ _ _ 13 _ ⟨⟨_::_::_::_::_::_::_::_::_::_::_::_::_::_::_::_::_::_::_::_::_::_::_::_::_::_::_::_::_::_::_::_::_::_::_::_::_::_::_::o 0::o 1::o 2::o 3::o 4::o 5::o 6::o 7::o 8::o 9::.agg #[.int .i64 P,.int .i64 Q,.int .i64 R]::.int .i64 ((m : Int))::.int .i64 LP::o 13::o 14::o 16::_⟩,[]⟩ W
       refine wpOp_step rfl fun _ hK => ?_
       go_simp
       refine (pn _ _ _ _ _).mono ?_
       rintro e W1 ⟨rfl,hb1⟩
       exact hK _ _ ⟨rfl,hj.over hb1⟩
      ·intro o W _
       show wpOp _ _ _ 14 _ ⟨⟨_::_::_::_::_::_::_::_::_::_::_::_::_::_::_::_::_::_::_::_::_::_::_::_::_::_::_::_::_::_::_::_::_::_::_::_::_::_::_::o 0::o 1::o 2::o 3::o 4::o 5::o 6::o 7::o 8::o 9::o 10::o 11::o 12::o 13::o 14::o 16::_⟩,[]⟩ W
       refine wpOp_step rfl fun _ hK => ?_
       go_simp
       exact hK _ _ ⟨rfl,rfl⟩
      ·intro o W hj
       have hj : KL _ _ W := hj
       obtain ⟨cL,c0,c1,c2,c3,c4,c5⟩ := bl6 (KL.blk hj (.head _))
       have cF := (KL.blk hj (.head _)).frozen
       show wpOp _ _ _ 15 _ ⟨⟨_::_::_::_::_::_::_::_::_::_::_::_::_::_::_::_::_::_::_::_::_::_::_::_::_::_::_::_::_::_::_::_::_::_::_::_::_::_::_::o 0::o 1::o 2::o 3::o 4::o 5::o 6::o 7::.agg #[.int .i64 (pt 0 X (m : Int) E1),.int .i64 (pt 1 Y (m : Int) E1),.int .i64 (pt 2 Z (m : Int) E1)]::o 9::o 10::o 11::o 12::o 13::.pointer (some ⟨w2.heap.size,0,none⟩)::o 16::_⟩,[]⟩ W
       refine wpOp_step rfl fun _ hK => ?_
       go_simp
       exact hK _ _ ⟨rfl,(KL.upL 0 hj rfl (by omega) (by simp <;> omega))⟩
      ·intro o W _
       show wpOp _ _ _ 16 _ ⟨⟨_::_::_::_::_::_::_::_::_::_::_::_::_::_::_::_::_::_::_::_::_::_::_::_::_::_::_::_::_::_::_::_::_::_::_::_::_::_::_::o 0::o 1::o 2::o 3::o 4::o 5::o 6::o 7::o 8::o 9::o 10::o 11::o 12::o 13::o 14::o 16::_⟩,[]⟩ W
       refine wpOp_step rfl fun _ hK => ?_
       go_simp
       exact hK _ _ ⟨rfl,rfl⟩
      ·intro o W hj
       have hj : KL _ _ W := hj
       obtain ⟨cL,c0,c1,c2,c3,c4,c5⟩ := bl6 (KL.blk hj (.head _))
       have cF := (KL.blk hj (.head _)).frozen
       show wpOp _ _ _ 17 _ ⟨⟨_::_::_::_::_::_::_::_::_::_::_::_::_::_::_::_::_::_::_::_::_::_::_::_::_::_::_::_::_::_::_::_::_::_::_::_::_::_::_::o 0::o 1::o 2::o 3::o 4::o 5::o 6::o 7::o 8::o 9::o 10::o 11::o 12::.agg #[.int .i64 (pt 0 P (m : Int) LP),.int .i64 (pt 1 Q (m : Int) LP),.int .i64 (pt 2 R (m : Int) LP)]::o 14::.pointer (some ⟨w2.heap.size,3,none⟩)::_⟩,[]⟩ W
       refine wpOp_step rfl fun _ hK => ?_
       go_simp
       exact hK _ _ ⟨rfl,(KL.upH 0 hj rfl (by omega) (by simp <;> omega))⟩
      ·intro o hh_
       have e0 : o 0 = .pointer (some ⟨w.heap.size,0,none⟩) := hh_ 0 (by decide)
       have e1 : o 1 = .agg #[.int .i64 X,.int .i64 Y,.int .i64 Z] := hh_ 1 (by decide)
       have e2 : o 2 = .int .i64 ((m : Int)) := hh_ 2 (by decide)
       have e3 : o 3 = .int .i64 LP := hh_ 3 (by decide)
       have e4 : o 4 = .int .i64 D1 := hh_ 4 (by decide)
       have e5 : o 5 = .int .i64 k := hh_ 5 (by decide)
       have e6 : o 6 = .int .i64 (if k < D1 then k else D1) := hh_ 6 (by decide)
       have e7 : o 7 = .int .i64 E1 := hh_ 7 (by decide)
       have e8 : o 8 = .agg #[.int .i64 (pt 0 X (m : Int) E1),.int .i64 (pt 1 Y (m : Int) E1),.int .i64 (pt 2 Z (m : Int) E1)] := hh_ 8 (by decide)
       have e9 : o 9 = .pointer (some ⟨w.heap.size,3,none⟩) := hh_ 9 (by decide)
       have e10 : o 10 = .agg #[.int .i64 P,.int .i64 Q,.int .i64 R] := hh_ 10 (by decide)
       have e11 : o 11 = .int .i64 ((m : Int)) := hh_ 11 (by decide)
       have e12 : o 12 = .int .i64 LP := hh_ 12 (by decide)
       have e13 : o 13 = .agg #[.int .i64 (pt 0 P (m : Int) LP),.int .i64 (pt 1 Q (m : Int) LP),.int .i64 (pt 2 R (m : Int) LP)] := hh_ 13 (by decide)
       have e14 : o 14 = .pointer (some ⟨w2.heap.size,0,none⟩) := hh_ 14 (by decide)
       have e16 : o 16 = .pointer (some ⟨w2.heap.size,3,none⟩) := hh_ 16 (by decide)
       rw [e0,e1,e2,e3,e4,e5,e6,e7,e8,e9,e10,e11,e12,e13,e14,e16]
      ·intro W3 h3
       have h3 : KL _ _ W3 := h3
       obtain ⟨eL0,e0_0,e0_1,e0_2,e0_3,e0_4,e0_5⟩ := bl6 (KL.blk h3 (.head _))
       obtain ⟨eL1,e1_0,e1_1,e1_2,e1_3,e1_4,e1_5⟩ := bl6 (KL.blk h3 (.tail _ (.head _)))
       obtain ⟨eL2,e2_0,e2_1,e2_2,e2_3,e2_4,e2_5⟩ := bl6 (KL.blk h3 (.tail _ (.tail _ (.head _))))
       have hjb := h3.1
       have hjz := hjb.size
       have hk1 := HK1.out
       have hj3 := hj2.over hjb
       have hown3 := own_below hown2 hjb
       have t3 : decide (k < D1) = false := by simpa using hk1
       go_wp2_with (first
        | (go_at_call 19; refine (hV1 _).mono ?_; rintro e w4 ⟨rfl,hb4⟩; have hj4 := hj3.over hb4; have hown4 := own_below hown3 hb4; have hz4 := hb4.size; obtain ⟨fL,f0,f1,f2,f3,f4,f5⟩ := bl6 (KL.blk hj4 (.tail _ (.head _))); have fM := (KL.blk hj4 (.head _)).lt)
        | (go_at_call 47; refine (pn _ _ _ _ _).mono ?_; rintro e w6 ⟨rfl,hb6⟩; have hj6 : KL [((w.heap.size + 1),25,#[a,b,c,d,s,u]),(w.heap.size,25,#[.int .i64 X,.int .i64 Y,.int .i64 Z,.int .i64 P,.int .i64 Q,.int .i64 R])] w w6 := hj4.over hb6; have hown6 := own_below hown4 hb6; obtain ⟨hL,h0,h1,h2,h3,h4,h5⟩ := bl6 (KL.blk hj6 (.tail _ (.head _))); have hM := (KL.blk hj6 (.head _)).lt; have hF := (KL.blk hj6 (.tail _ (.head _))).frozen))
       by_cases hz2 : 0 < D2
       ·by_cases hk2 : k < D2
        ·have t2 : decide (0 < D2) = true := by simpa using hz2
         go_wp2_with (go_at_call 41; (with_reducible refine (gh _).mono ?_); rintro e w8 ⟨rfl,hb8⟩; have hj8 : KL [((w.heap.size + 1),25,#[a,b,c,d,s,u]),(w.heap.size,25,#[.int .i64 ((pt 0 X (m : Int) LP)),.int .i64 ((pt 1 Y (m : Int) LP)),.int .i64 ((pt 2 Z (m : Int) LP)),.int .i64 P,.int .i64 Q,.int .i64 R])] w w8 := (KL.upL 1 hj6 rfl (by omega) (by simp <;> omega)).over hb8; have hown8 := own_below (own_far (p := ⟨w.heap.size,2,none⟩) (own_far (p := ⟨w.heap.size,1,none⟩) (own_far (p := ⟨w.heap.size,0,none⟩) hown6 _ (by show w.heap.size < _; omega)) _ (by show w.heap.size < _; omega)) _ (by show w.heap.size < _; omega)) hb8; obtain ⟨dL,d0,d1,d2,d3,d4,d5⟩ := bl6 (KL.blk hj8 (.tail _ (.head _))); have dM := (KL.blk hj8 (.head _)).lt)
         have xL2 : IntKind.i64.wrap (L + V1 + V2) = L + V1 + V2 := IntWalk.i64_in _ (by have h := hLs.out; rw [if_pos (show 0 < D1 by omega),if_pos (show 0 < D2 by omega)] at h; omega)
         have HK2 := Lib.hid hk2
         clear hk2
         refine wp_region_any (by kernel_rfl) ?_
         try (change wpAny _ _ _ _ _ _ _ (World.drew _))
         refine wpAny_vals (fr := fun o => #[.agg #[x,y,z,p,q,r],.agg #[a,b,c,d,s,u],.int .i64 k,.pointer (some ⟨w.heap.size,0,none⟩),.pointer (some ⟨(w.heap.size + 1),0,none⟩),undef,.slice none 0 0,.int .i64 0,.slice A n c_,.int .i64 (L + V1),.int .i64 ((m : Int)),.int .i64 LP,.int .i64 HP,.int .i64 D1,.pointer (some ⟨w2.heap.size,0,none⟩),.int .i64 D2,.pointer (some ⟨w8.heap.size,0,none⟩),.slice (some ⟨(w.heap.size + 1 + 1),0,none⟩) 0 0,.int .i64 ((m : Int)),.bool true,u20,u21,.pointer (some ⟨(w.heap.size + 1),0,none⟩),.agg #[a,b,c],.int .i64 ((m : Int)),.int .i64 LP,.pointer (some ⟨(w.heap.size + 1),3,none⟩),.agg #[d,s,u],.int .i64 ((m : Int)),.int .i64 HP,.int .i64 LP,.pointer (some ⟨w.heap.size,0,none⟩),.agg #[.int .i64 X,.int .i64 Y,.int .i64 Z],.int .i64 ((m : Int)),.int .i64 lo,.int .i64 D1,.int .i64 D1,.bool true,.agg #[.int .i64 X,.int .i64 Y,.int .i64 Z,.int .i64 P,.int .i64 Q,.int .i64 R],.pointer (some ⟨w.heap.size,0,none⟩),.agg #[.int .i64 X,.int .i64 Y,.int .i64 Z],.int .i64 ((m : Int)),.int .i64 LP,.int .i64 D1,.int .i64 k,.int .i64 D1,.int .i64 E1,.agg #[.int .i64 (pt 0 X (m : Int) E1),.int .i64 (pt 1 Y (m : Int) E1),.int .i64 (pt 2 Z (m : Int) E1)],.pointer (some ⟨w.heap.size,3,none⟩),.agg #[.int .i64 P,.int .i64 Q,.int .i64 R],.int .i64 ((m : Int)),.int .i64 LP,.agg #[.int .i64 (pt 0 P (m : Int) LP),.int .i64 (pt 1 Q (m : Int) LP),.int .i64 (pt 2 R (m : Int) LP)],.pointer (some ⟨w2.heap.size,0,none⟩),.pointer (some ⟨w2.heap.size,3,none⟩),.int .i64 L,.agg #[.int .i64 (pt 0 X (m : Int) E1),.int .i64 (pt 1 Y (m : Int) E1),.int .i64 (pt 2 Z (m : Int) E1),.int .i64 (pt 0 P (m : Int) LP),.int .i64 (pt 1 Q (m : Int) LP),.int .i64 (pt 2 R (m : Int) LP)],.int .i64 V1,.int .i64 (L + V1),.int .i64 D1,.int .i64 k,.bool false,u62,u63,u64,u65,u66,u67,u68,u69,u70,.pointer (some ⟨w.heap.size,0,none⟩),.agg #[.int .i64 X,.int .i64 Y,.int .i64 Z],.int .i64 ((m : Int)),.int .i64 LP,.agg #[.int .i64 (pt 0 X (m : Int) LP),.int .i64 (pt 1 Y (m : Int) LP),.int .i64 (pt 2 Z (m : Int) LP)],.pointer (some ⟨w.heap.size,0,none⟩),.pointer (some ⟨w.heap.size,3,none⟩),.agg #[.int .i64 P,.int .i64 Q,.int .i64 R],.int .i64 ((m : Int)),.int .i64 hi,.int .i64 HP,.int .i64 D2,.int .i64 D2,.bool true,.agg #[.int .i64 ((pt 0 X (m : Int) LP)),.int .i64 ((pt 1 Y (m : Int) LP)),.int .i64 ((pt 2 Z (m : Int) LP)),.int .i64 P,.int .i64 Q,.int .i64 R],o 0,o 1,o 2,o 3,o 4,o 5,o 6,o 7,o 8,o 9,o 10,o 11,o 12,o 13,o 14,o 16,u102,u103,u104,u105,u106,u107,u108,u109,u110,u111,u112,u113,u114,u115,u116,u117,u118,u119,u120,u121,undef,undef]) (vals := fun i_ => ([.pointer (some ⟨w.heap.size,0,none⟩),.agg #[.int .i64 ((pt 0 X (m : Int) LP)),.int .i64 ((pt 1 Y (m : Int) LP)),.int .i64 ((pt 2 Z (m : Int) LP))],.int .i64 ((m : Int)),.int .i64 HP,.agg #[.int .i64 (pt 0 ((pt 0 X (m : Int) LP)) (m : Int) HP),.int .i64 (pt 1 ((pt 1 Y (m : Int) LP)) (m : Int) HP),.int .i64 (pt 2 ((pt 2 Z (m : Int) LP)) (m : Int) HP)],.pointer (some ⟨w.heap.size,3,none⟩),.agg #[.int .i64 P,.int .i64 Q,.int .i64 R],.int .i64 ((m : Int)),.int .i64 HP,.int .i64 D2,.int .i64 k,.int .i64 (if k < D2 then k else D2),.int .i64 E2,.agg #[.int .i64 (pt 0 P (m : Int) E2),.int .i64 (pt 1 Q (m : Int) E2),.int .i64 (pt 2 R (m : Int) E2)],.pointer (some ⟨w8.heap.size,0,none⟩),undef,.pointer (some ⟨w8.heap.size,3,none⟩),undef] : List Value).getD i_ undef) (Kf := fun W_ => KL [((w.heap.size + 1),25,#[a,b,c,d,s,u]),(w.heap.size,25,#[.int .i64 ((pt 0 X (m : Int) LP)),.int .i64 ((pt 1 Y (m : Int) LP)),.int .i64 ((pt 2 Z (m : Int) LP)),.int .i64 P,.int .i64 Q,.int .i64 R])] w8 W_) (K := fun kk_ => ([(KL [(w8.heap.size,25,#[.int .i64 ((pt 0 X (m : Int) LP)),.int .i64 ((pt 1 Y (m : Int) LP)),.int .i64 ((pt 2 Z (m : Int) LP)),.int .i64 P,.int .i64 Q,.int .i64 R]),((w.heap.size + 1),25,#[a,b,c,d,s,u]),(w.heap.size,25,#[.int .i64 ((pt 0 X (m : Int) LP)),.int .i64 ((pt 1 Y (m : Int) LP)),.int .i64 ((pt 2 Z (m : Int) LP)),.int .i64 P,.int .i64 Q,.int .i64 R])] w8),(KL [(w8.heap.size,25,#[.int .i64 (pt 0 ((pt 0 X (m : Int) LP)) (m : Int) HP),.int .i64 (pt 1 ((pt 1 Y (m : Int) LP)) (m : Int) HP),.int .i64 (pt 2 ((pt 2 Z (m : Int) LP)) (m : Int) HP),.int .i64 P,.int .i64 Q,.int .i64 R]),((w.heap.size + 1),25,#[a,b,c,d,s,u]),(w.heap.size,25,#[.int .i64 ((pt 0 X (m : Int) LP)),.int .i64 ((pt 1 Y (m : Int) LP)),.int .i64 ((pt 2 Z (m : Int) LP)),.int .i64 P,.int .i64 Q,.int .i64 R])] w8),(KL [(w8.heap.size,25,#[.int .i64 (pt 0 ((pt 0 X (m : Int) LP)) (m : Int) HP),.int .i64 (pt 1 ((pt 1 Y (m : Int) LP)) (m : Int) HP),.int .i64 (pt 2 ((pt 2 Z (m : Int) LP)) (m : Int) HP),.int .i64 (pt 0 P (m : Int) E2),.int .i64 (pt 1 Q (m : Int) E2),.int .i64 (pt 2 R (m : Int) E2)]),((w.heap.size + 1),25,#[a,b,c,d,s,u]),(w.heap.size,25,#[.int .i64 ((pt 0 X (m : Int) LP)),.int .i64 ((pt 1 Y (m : Int) LP)),.int .i64 ((pt 2 Z (m : Int) LP)),.int .i64 P,.int .i64 Q,.int .i64 R])] w8)] : List (World → Prop)).getD kk_ (fun _ => True)) (dep := fun i_ => [[],[0],[],[],[1,2,3],[],[5],[],[],[],[],[9,10],[8,11],[6,7,12],[],[1,4,13,14],[],[13,15,16]].getD i_ []) (dv := fun i_ => [[],[0],[],[],[1,2,3],[],[5],[],[],[],[],[9,10],[8,11],[6,7,12],[],[4,14],[],[13,16]].getD i_ []) (kd := fun i_ => [0,1,0,0,1,0,0,0,0,0,0,0,0,1,0,2,0,3].getD i_ 0) (ss := [15,17]) (l := [0,1,2,3,4,5,6,7,8,9,10,11,12,13,14,15,16,17]) (f0 := fun i_ => ([u86,u87,u88,u89,u90,u91,u92,u93,u94,u95,u96,u97,u98,u99,u100,undef,u101,undef] : List Value).getD i_ undef) (A := ?A4) 18 ?_ ?_ ?_ ?_ ?_ ?_ ⟨?_,?_,?_,?_,?_,?_,?_,?_,?_,?_,?_,?_,?_,?_,?_,?_,?_,?_,trivial⟩ ?_ ?_
         rotate_left
         ·rfl
         ·rfl
         ·decide +kernel
         ·decide +kernel
         ·exact KL.drew (KL.new (g := w8.heap.size) hj8.base rfl _ _)
         ·intro t_ W ht_ hh_
          rcases t_ with _ | _ | _ | _
          ·exact KL.part hh_ (fun p_ hp_ => by simp only [List.mem_cons,List.not_mem_nil,or_false] at hp_; rcases hp_ with rfl | rfl; exact (.tail _ (.head _)); exact (.tail _ (.tail _ (.head _))))
          ·exact KL.part hh_ (fun p_ hp_ => by simp only [List.mem_cons,List.not_mem_nil,or_false] at hp_; rcases hp_ with rfl | rfl; exact (.tail _ (.head _)); exact (.tail _ (.tail _ (.head _))))
          ·exact KL.part hh_ (fun p_ hp_ => by simp only [List.mem_cons,List.not_mem_nil,or_false] at hp_; rcases hp_ with rfl | rfl; exact (.tail _ (.head _)); exact (.tail _ (.tail _ (.head _))))
          ·exact absurd ht_ (by simp)
         ·intro o W _
          show wpOp _ _ _ 0 _ ⟨#[_,_,_,_,_,_,_,_,_,_,_,_,_,_,_,_,_,_,_,_,_,_,_,_,_,_,_,_,_,_,_,_,_,_,_,_,_,_,_,_,_,_,_,_,_,_,_,_,_,_,_,_,_,_,_,_,_,_,_,_,_,_,_,_,_,_,_,_,_,_,_,_,_,_,_,_,_,_,_,_,_,_,_,_,_,_,o 0,o 1,o 2,o 3,o 4,o 5,o 6,o 7,o 8,o 9,o 10,o 11,o 12,o 13,o 14,o 16,_,_,_,_,_,_,_,_,_,_,_,_,_,_,_,_,_,_,_,_,_,_],[]⟩ W
          refine wpOp_step rfl fun _ hK => ?_
          go_simp
          exact hK _ _ ⟨rfl,rfl⟩
         ·intro o W hj
          have hj : KL _ _ W := hj
          obtain ⟨cL,c0,c1,c2,c3,c4,c5⟩ := bl6 (KL.blk hj (.tail _ (.tail _ (.head _))))
          show wpOp _ _ _ 1 _ ⟨#[_,_,_,_,_,_,_,_,_,_,_,_,_,_,_,_,_,_,_,_,_,_,_,_,_,_,_,_,_,_,_,_,_,_,_,_,_,_,_,_,_,_,_,_,_,_,_,_,_,_,_,_,_,_,_,_,_,_,_,_,_,_,_,_,_,_,_,_,_,_,_,_,_,_,_,_,_,_,_,_,_,_,_,_,_,_,.pointer (some ⟨w.heap.size,0,none⟩),o 1,o 2,o 3,o 4,o 5,o 6,o 7,o 8,o 9,o 10,o 11,o 12,o 13,o 14,o 16,_,_,_,_,_,_,_,_,_,_,_,_,_,_,_,_,_,_,_,_,_,_],[]⟩ W
          refine wpOp_step rfl fun _ hK => ?_
          go_simp
          exact hK _ _ ⟨rfl,hj⟩
         ·intro o W _
          show wpOp _ _ _ 2 _ ⟨#[_,_,_,_,_,_,_,_,_,_,_,_,_,_,_,_,_,_,_,_,_,_,_,_,_,_,_,_,_,_,_,_,_,_,_,_,_,_,_,_,_,_,_,_,_,_,_,_,_,_,_,_,_,_,_,_,_,_,_,_,_,_,_,_,_,_,_,_,_,_,_,_,_,_,_,_,_,_,_,_,_,_,_,_,_,_,o 0,o 1,o 2,o 3,o 4,o 5,o 6,o 7,o 8,o 9,o 10,o 11,o 12,o 13,o 14,o 16,_,_,_,_,_,_,_,_,_,_,_,_,_,_,_,_,_,_,_,_,_,_],[]⟩ W
          refine wpOp_step rfl fun _ hK => ?_
          go_simp
          exact hK _ _ ⟨rfl,rfl⟩
         ·intro o W _
          show wpOp _ _ _ 3 _ ⟨#[_,_,_,_,_,_,_,_,_,_,_,_,_,_,_,_,_,_,_,_,_,_,_,_,_,_,_,_,_,_,_,_,_,_,_,_,_,_,_,_,_,_,_,_,_,_,_,_,_,_,_,_,_,_,_,_,_,_,_,_,_,_,_,_,_,_,_,_,_,_,_,_,_,_,_,_,_,_,_,_,_,_,_,_,_,_,o 0,o 1,o 2,o 3,o 4,o 5,o 6,o 7,o 8,o 9,o 10,o 11,o 12,o 13,o 14,o 16,_,_,_,_,_,_,_,_,_,_,_,_,_,_,_,_,_,_,_,_,_,_],[]⟩ W
          refine wpOp_step rfl fun _ hK => ?_
          go_simp
          exact hK _ _ ⟨rfl,rfl⟩
         ·intro o W hj
          have hj : KL _ _ W := hj
          show wpOp _ _ _ 4 _ ⟨#[_,_,_,_,_,_,_,_,_,_,_,_,_,_,_,_,_,_,_,_,_,_,_,_,_,_,_,_,_,_,_,_,_,_,_,_,_,_,_,_,_,_,_,_,_,_,_,_,_,_,_,_,_,_,_,_,_,_,_,_,_,_,_,_,_,_,_,_,_,_,_,_,_,_,_,_,_,_,_,_,_,_,_,_,_,_,o 0,.agg #[.int .i64 ((pt 0 X (m : Int) LP)),.int .i64 ((pt 1 Y (m : Int) LP)),.int .i64 ((pt 2 Z (m : Int) LP))],.int .i64 ((m : Int)),.int .i64 HP,o 4,o 5,o 6,o 7,o 8,o 9,o 10,o 11,o 12,o 13,o 14,o 16,_,_,_,_,_,_,_,_,_,_,_,_,_,_,_,_,_,_,_,_,_,_],[]⟩ W
          refine wpOp_step rfl fun _ hK => ?_
          go_simp
          refine (pn _ _ _ _ _).mono ?_
          rintro e W1 ⟨rfl,hb1⟩
          exact hK _ _ ⟨rfl,hj.over hb1⟩
         ·intro o W _
          show wpOp _ _ _ 5 _ ⟨#[_,_,_,_,_,_,_,_,_,_,_,_,_,_,_,_,_,_,_,_,_,_,_,_,_,_,_,_,_,_,_,_,_,_,_,_,_,_,_,_,_,_,_,_,_,_,_,_,_,_,_,_,_,_,_,_,_,_,_,_,_,_,_,_,_,_,_,_,_,_,_,_,_,_,_,_,_,_,_,_,_,_,_,_,_,_,o 0,o 1,o 2,o 3,o 4,o 5,o 6,o 7,o 8,o 9,o 10,o 11,o 12,o 13,o 14,o 16,_,_,_,_,_,_,_,_,_,_,_,_,_,_,_,_,_,_,_,_,_,_],[]⟩ W
          refine wpOp_step rfl fun _ hK => ?_
          go_simp
          exact hK _ _ ⟨rfl,rfl⟩
         ·intro o W hj
          have hj : KL _ _ W := hj
          obtain ⟨cL,c0,c1,c2,c3,c4,c5⟩ := bl6 (KL.blk hj (.tail _ (.head _)))
          show wpOp _ _ _ 6 _ ⟨#[_,_,_,_,_,_,_,_,_,_,_,_,_,_,_,_,_,_,_,_,_,_,_,_,_,_,_,_,_,_,_,_,_,_,_,_,_,_,_,_,_,_,_,_,_,_,_,_,_,_,_,_,_,_,_,_,_,_,_,_,_,_,_,_,_,_,_,_,_,_,_,_,_,_,_,_,_,_,_,_,_,_,_,_,_,_,o 0,o 1,o 2,o 3,o 4,.pointer (some ⟨w.heap.size,3,none⟩),o 6,o 7,o 8,o 9,o 10,o 11,o 12,o 13,o 14,o 16,_,_,_,_,_,_,_,_,_,_,_,_,_,_,_,_,_,_,_,_,_,_],[]⟩ W
          refine wpOp_step rfl fun _ hK => ?_
          go_simp
          exact hK _ _ ⟨rfl,rfl⟩
         ·intro o W _
          show wpOp _ _ _ 7 _ ⟨#[_,_,_,_,_,_,_,_,_,_,_,_,_,_,_,_,_,_,_,_,_,_,_,_,_,_,_,_,_,_,_,_,_,_,_,_,_,_,_,_,_,_,_,_,_,_,_,_,_,_,_,_,_,_,_,_,_,_,_,_,_,_,_,_,_,_,_,_,_,_,_,_,_,_,_,_,_,_,_,_,_,_,_,_,_,_,o 0,o 1,o 2,o 3,o 4,o 5,o 6,o 7,o 8,o 9,o 10,o 11,o 12,o 13,o 14,o 16,_,_,_,_,_,_,_,_,_,_,_,_,_,_,_,_,_,_,_,_,_,_],[]⟩ W
          refine wpOp_step rfl fun _ hK => ?_
          go_simp
          exact hK _ _ ⟨rfl,rfl⟩
         ·intro o W _
          show wpOp _ _ _ 8 _ ⟨#[_,_,_,_,_,_,_,_,_,_,_,_,_,_,_,_,_,_,_,_,_,_,_,_,_,_,_,_,_,_,_,_,_,_,_,_,_,_,_,_,_,_,_,_,_,_,_,_,_,_,_,_,_,_,_,_,_,_,_,_,_,_,_,_,_,_,_,_,_,_,_,_,_,_,_,_,_,_,_,_,_,_,_,_,_,_,o 0,o 1,o 2,o 3,o 4,o 5,o 6,o 7,o 8,o 9,o 10,o 11,o 12,o 13,o 14,o 16,_,_,_,_,_,_,_,_,_,_,_,_,_,_,_,_,_,_,_,_,_,_],[]⟩ W
          refine wpOp_step rfl fun _ hK => ?_
          go_simp
          exact hK _ _ ⟨rfl,rfl⟩
         ·intro o W _
          show wpOp _ _ _ 9 _ ⟨#[_,_,_,_,_,_,_,_,_,_,_,_,_,_,_,_,_,_,_,_,_,_,_,_,_,_,_,_,_,_,_,_,_,_,_,_,_,_,_,_,_,_,_,_,_,_,_,_,_,_,_,_,_,_,_,_,_,_,_,_,_,_,_,_,_,_,_,_,_,_,_,_,_,_,_,_,_,_,_,_,_,_,_,_,_,_,o 0,o 1,o 2,o 3,o 4,o 5,o 6,o 7,o 8,o 9,o 10,o 11,o 12,o 13,o 14,o 16,_,_,_,_,_,_,_,_,_,_,_,_,_,_,_,_,_,_,_,_,_,_],[]⟩ W
          refine wpOp_step rfl fun _ hK => ?_
          go_simp
          exact hK _ _ ⟨rfl,rfl⟩
         ·intro o W _
          show wpOp _ _ _ 10 _ ⟨#[_,_,_,_,_,_,_,_,_,_,_,_,_,_,_,_,_,_,_,_,_,_,_,_,_,_,_,_,_,_,_,_,_,_,_,_,_,_,_,_,_,_,_,_,_,_,_,_,_,_,_,_,_,_,_,_,_,_,_,_,_,_,_,_,_,_,_,_,_,_,_,_,_,_,_,_,_,_,_,_,_,_,_,_,_,_,o 0,o 1,o 2,o 3,o 4,o 5,o 6,o 7,o 8,o 9,o 10,o 11,o 12,o 13,o 14,o 16,_,_,_,_,_,_,_,_,_,_,_,_,_,_,_,_,_,_,_,_,_,_],[]⟩ W
          refine wpOp_step rfl fun _ hK => ?_
          go_simp
          exact hK _ _ ⟨rfl,rfl⟩
         ·intro o W _
          show wpOp _ _ _ 11 _ ⟨#[_,_,_,_,_,_,_,_,_,_,_,_,_,_,_,_,_,_,_,_,_,_,_,_,_,_,_,_,_,_,_,_,_,_,_,_,_,_,_,_,_,_,_,_,_,_,_,_,_,_,_,_,_,_,_,_,_,_,_,_,_,_,_,_,_,_,_,_,_,_,_,_,_,_,_,_,_,_,_,_,_,_,_,_,_,_,o 0,o 1,o 2,o 3,o 4,o 5,o 6,o 7,o 8,.int .i64 D2,.int .i64 k,o 11,o 12,o 13,o 14,o 16,_,_,_,_,_,_,_,_,_,_,_,_,_,_,_,_,_,_,_,_,_,_],[]⟩ W
          refine wpOp_step rfl fun _ hK => ?_
          go_simp
          exact hK _ _ ⟨rfl,rfl⟩
         ·intro o W _
          show wpOp _ _ _ 12 _ ⟨#[_,_,_,_,_,_,_,_,_,_,_,_,_,_,_,_,_,_,_,_,_,_,_,_,_,_,_,_,_,_,_,_,_,_,_,_,_,_,_,_,_,_,_,_,_,_,_,_,_,_,_,_,_,_,_,_,_,_,_,_,_,_,_,_,_,_,_,_,_,_,_,_,_,_,_,_,_,_,_,_,_,_,_,_,_,_,o 0,o 1,o 2,o 3,o 4,o 5,o 6,o 7,.int .i64 HP,o 9,o 10,.int .i64 (if k < D2 then k else D2),o 12,o 13,o 14,o 16,_,_,_,_,_,_,_,_,_,_,_,_,_,_,_,_,_,_,_,_,_,_],[]⟩ W
          refine wpOp_step rfl fun _ hK => ?_
          go_simp
          exact hK _ _ ⟨rfl,rfl⟩
         ·intro o W hj
          have hj : KL _ _ W := hj
          show wpOp _ _ _ 13 _ ⟨#[_,_,_,_,_,_,_,_,_,_,_,_,_,_,_,_,_,_,_,_,_,_,_,_,_,_,_,_,_,_,_,_,_,_,_,_,_,_,_,_,_,_,_,_,_,_,_,_,_,_,_,_,_,_,_,_,_,_,_,_,_,_,_,_,_,_,_,_,_,_,_,_,_,_,_,_,_,_,_,_,_,_,_,_,_,_,o 0,o 1,o 2,o 3,o 4,o 5,.agg #[.int .i64 P,.int .i64 Q,.int .i64 R],.int .i64 ((m : Int)),o 8,o 9,o 10,o 11,.int .i64 E2,o 13,o 14,o 16,_,_,_,_,_,_,_,_,_,_,_,_,_,_,_,_,_,_,_,_,_,_],[]⟩ W
          refine wpOp_step rfl fun _ hK => ?_
          go_simp
          refine (pn _ _ _ _ _).mono ?_
          rintro e W1 ⟨rfl,hb1⟩
          exact hK _ _ ⟨rfl,hj.over hb1⟩
         ·intro o W _
          show wpOp _ _ _ 14 _ ⟨#[_,_,_,_,_,_,_,_,_,_,_,_,_,_,_,_,_,_,_,_,_,_,_,_,_,_,_,_,_,_,_,_,_,_,_,_,_,_,_,_,_,_,_,_,_,_,_,_,_,_,_,_,_,_,_,_,_,_,_,_,_,_,_,_,_,_,_,_,_,_,_,_,_,_,_,_,_,_,_,_,_,_,_,_,_,_,o 0,o 1,o 2,o 3,o 4,o 5,o 6,o 7,o 8,o 9,o 10,o 11,o 12,o 13,o 14,o 16,_,_,_,_,_,_,_,_,_,_,_,_,_,_,_,_,_,_,_,_,_,_],[]⟩ W
          refine wpOp_step rfl fun _ hK => ?_
          go_simp
          exact hK _ _ ⟨rfl,rfl⟩
         ·intro o W hj
          have hj : KL _ _ W := hj
          obtain ⟨cL,c0,c1,c2,c3,c4,c5⟩ := bl6 (KL.blk hj (.head _))
          have cF := (KL.blk hj (.head _)).frozen
          show wpOp _ _ _ 15 _ ⟨#[_,_,_,_,_,_,_,_,_,_,_,_,_,_,_,_,_,_,_,_,_,_,_,_,_,_,_,_,_,_,_,_,_,_,_,_,_,_,_,_,_,_,_,_,_,_,_,_,_,_,_,_,_,_,_,_,_,_,_,_,_,_,_,_,_,_,_,_,_,_,_,_,_,_,_,_,_,_,_,_,_,_,_,_,_,_,o 0,o 1,o 2,o 3,.agg #[.int .i64 (pt 0 ((pt 0 X (m : Int) LP)) (m : Int) HP),.int .i64 (pt 1 ((pt 1 Y (m : Int) LP)) (m : Int) HP),.int .i64 (pt 2 ((pt 2 Z (m : Int) LP)) (m : Int) HP)],o 5,o 6,o 7,o 8,o 9,o 10,o 11,o 12,o 13,.pointer (some ⟨w8.heap.size,0,none⟩),o 16,_,_,_,_,_,_,_,_,_,_,_,_,_,_,_,_,_,_,_,_,_,_],[]⟩ W
          refine wpOp_step rfl fun _ hK => ?_
          go_simp
          exact hK _ _ ⟨rfl,(KL.upL 0 hj rfl (by omega) (by simp <;> omega))⟩
         ·intro o W _
          show wpOp _ _ _ 16 _ ⟨#[_,_,_,_,_,_,_,_,_,_,_,_,_,_,_,_,_,_,_,_,_,_,_,_,_,_,_,_,_,_,_,_,_,_,_,_,_,_,_,_,_,_,_,_,_,_,_,_,_,_,_,_,_,_,_,_,_,_,_,_,_,_,_,_,_,_,_,_,_,_,_,_,_,_,_,_,_,_,_,_,_,_,_,_,_,_,o 0,o 1,o 2,o 3,o 4,o 5,o 6,o 7,o 8,o 9,o 10,o 11,o 12,o 13,o 14,o 16,_,_,_,_,_,_,_,_,_,_,_,_,_,_,_,_,_,_,_,_,_,_],[]⟩ W
          refine wpOp_step rfl fun _ hK => ?_
          go_simp
          exact hK _ _ ⟨rfl,rfl⟩
         ·intro o W hj
          have hj : KL _ _ W := hj
          obtain ⟨cL,c0,c1,c2,c3,c4,c5⟩ := bl6 (KL.blk hj (.head _))
          have cF := (KL.blk hj (.head _)).frozen
          show wpOp _ _ _ 17 _ ⟨#[_,_,_,_,_,_,_,_,_,_,_,_,_,_,_,_,_,_,_,_,_,_,_,_,_,_,_,_,_,_,_,_,_,_,_,_,_,_,_,_,_,_,_,_,_,_,_,_,_,_,_,_,_,_,_,_,_,_,_,_,_,_,_,_,_,_,_,_,_,_,_,_,_,_,_,_,_,_,_,_,_,_,_,_,_,_,o 0,o 1,o 2,o 3,o 4,o 5,o 6,o 7,o 8,o 9,o 10,o 11,o 12,.agg #[.int .i64 (pt 0 P (m : Int) E2),.int .i64 (pt 1 Q (m : Int) E2),.int .i64 (pt 2 R (m : Int) E2)],o 14,.pointer (some ⟨w8.heap.size,3,none⟩),_,_,_,_,_,_,_,_,_,_,_,_,_,_,_,_,_,_,_,_,_,_],[]⟩ W
          refine wpOp_step rfl fun _ hK => ?_
          go_simp
          exact hK _ _ ⟨rfl,(KL.upH 0 hj rfl (by omega) (by simp <;> omega))⟩
         ·intro o hh_
          have e0 : o 0 = .pointer (some ⟨w.heap.size,0,none⟩) := hh_ 0 (by decide)
          have e1 : o 1 = .agg #[.int .i64 ((pt 0 X (m : Int) LP)),.int .i64 ((pt 1 Y (m : Int) LP)),.int .i64 ((pt 2 Z (m : Int) LP))] := hh_ 1 (by decide)
          have e2 : o 2 = .int .i64 ((m : Int)) := hh_ 2 (by decide)
          have e3 : o 3 = .int .i64 HP := hh_ 3 (by decide)
          have e4 : o 4 = .agg #[.int .i64 (pt 0 ((pt 0 X (m : Int) LP)) (m : Int) HP),.int .i64 (pt 1 ((pt 1 Y (m : Int) LP)) (m : Int) HP),.int .i64 (pt 2 ((pt 2 Z (m : Int) LP)) (m : Int) HP)] := hh_ 4 (by decide)
          have e5 : o 5 = .pointer (some ⟨w.heap.size,3,none⟩) := hh_ 5 (by decide)
          have e6 : o 6 = .agg #[.int .i64 P,.int .i64 Q,.int .i64 R] := hh_ 6 (by decide)
          have e7 : o 7 = .int .i64 ((m : Int)) := hh_ 7 (by decide)
          have e8 : o 8 = .int .i64 HP := hh_ 8 (by decide)
          have e9 : o 9 = .int .i64 D2 := hh_ 9 (by decide)
          have e10 : o 10 = .int .i64 k := hh_ 10 (by decide)
          have e11 : o 11 = .int .i64 (if k < D2 then k else D2) := hh_ 11 (by decide)
          have e12 : o 12 = .int .i64 E2 := hh_ 12 (by decide)
          have e13 : o 13 = .agg #[.int .i64 (pt 0 P (m : Int) E2),.int .i64 (pt 1 Q (m : Int) E2),.int .i64 (pt 2 R (m : Int) E2)] := hh_ 13 (by decide)
          have e14 : o 14 = .pointer (some ⟨w8.heap.size,0,none⟩) := hh_ 14 (by decide)
          have e16 : o 16 = .pointer (some ⟨w8.heap.size,3,none⟩) := hh_ 16 (by decide)
          rw [e0,e1,e2,e3,e4,e5,e6,e7,e8,e9,e10,e11,e12,e13,e14,e16]
         ·intro W9 h9
          have h9 : KL _ _ W9 := h9
          obtain ⟨eL0,e0_0,e0_1,e0_2,e0_3,e0_4,e0_5⟩ := bl6 (KL.blk h9 (.head _))
          obtain ⟨eL1,e1_0,e1_1,e1_2,e1_3,e1_4,e1_5⟩ := bl6 (KL.blk h9 (.tail _ (.head _)))
          obtain ⟨eL2,e2_0,e2_1,e2_2,e2_3,e2_4,e2_5⟩ := bl6 (KL.blk h9 (.tail _ (.tail _ (.head _))))
          have hjb := h9.1
          have hjz := hjb.size
          have hk2 := HK2.out
          have hj9 := hj8.over hjb
          have hown9 := own_below hown8 hjb
          have t4 : decide (k < D2) = true := by simpa using hk2
          go_wp2_with (first
           | (go_at_call 19; refine (hV2 _).mono ?_; rintro e w10 ⟨rfl,hb10⟩; have hj10 := hj9.over hb10; have hown10 := own_below hown9 hb10; have hz10 := hb10.size; obtain ⟨fL,f0,f1,f2,f3,f4,f5⟩ := bl6 (KL.blk hj10 (.tail _ (.head _))); have fM := (KL.blk hj10 (.head _)).lt)
           | (at_builtin; refine wpList_append_kl rfl (.tmp 109) (.tmp 114) _ rfl (w.heap.size + 1 + 1) 27 i0 _ 3 24 Try.underlying62 in0 in1 in2 in3 rfl (by decide) (.slice A n c_) n _ rfl (hown10.alloc _) (w10.heap.size + 1) (some ⟨w10.heap.size,0,none⟩) 1 1 [.int .i64 ((m : Int)),.int .i64 HP,.int .i64 k] rfl (reads_new (Blk.new _ _ _) rfl (by omega)) cut_one (n + 1) (xs ++ [.int .i64 ((m : Int)),.int .i64 HP,.int .i64 k]) rfl rfl (by simp only [maxLen]; omega) (by omega) (hj10.alloc _) (by simp <;> omega) (by omega) (by simp <;> omega) ?_; intro A6 c6 w11 hown11 hj11 hs11; obtain ⟨gL,g0,g1,g2,g3,g4,g5⟩ := bl6 (KL.blk hj11 (.tail _ (.head _))); have gM := (KL.blk hj11 (.head _)).lt)
           | (go_at_call 47; refine (pn _ _ _ _ _).mono ?_; rintro e w12 ⟨rfl,hb12⟩; have hj12 : KL [((w.heap.size + 1),25,#[a,b,c,d,s,u]),(w.heap.size,25,#[.int .i64 ((pt 0 X (m : Int) LP)),.int .i64 ((pt 1 Y (m : Int) LP)),.int .i64 ((pt 2 Z (m : Int) LP)),.int .i64 P,.int .i64 Q,.int .i64 R])] w w12 := hj11.over hb12; have hown12 := own_below hown11 hb12; obtain ⟨hL,h0,h1,h2,h3,h4,h5⟩ := bl6 (KL.blk hj12 (.tail _ (.head _))); have hM := (KL.blk hj12 (.head _)).lt; have hF := (KL.blk hj12 (.tail _ (.head _))).frozen))
          go_roundw
          case rel => exact ⟨m + 1,(n + 1),A6,c6,(pt 0 X (m : Int) LP),(pt 1 Y (m : Int) LP),(pt 2 Z (m : Int) LP),(pt 0 P (m : Int) HP),(pt 1 Q (m : Int) HP),(pt 2 R (m : Int) HP),L + V1 + V2,(xs ++ [.int .i64 ((m : Int)),.int .i64 HP,.int .i64 k]),by omega,rfl,rfl,by go_num,by
           have h := HS.out
           rw [if_pos (show 0 < D1 by omega),if_pos (show 0 < D2 by omega),if_neg (show ¬ k < D1 by omega),if_neg (show ¬ k < D1 by omega),if_pos (show k < D2 by omega),if_pos (show k < D2 by omega)] at h
           (repeat rw [List.append_nil] at h)
           (repeat rw [Int.add_zero] at h)
           skip
           skip
           exact h,(own_far (p := ⟨w.heap.size,5,none⟩) (own_far (p := ⟨w.heap.size,4,none⟩) (own_far (p := ⟨w.heap.size,3,none⟩) hown12 _ (by show w.heap.size < _; omega)) _ (by show w.heap.size < _; omega)) _ (by show w.heap.size < _; omega)),KL.upH 1 hj12 rfl (by omega) (by simp <;> omega)⟩
          case measure => simp [intOf] <;> omega
        ·have t2 : decide (0 < D2) = true := by simpa using hz2
         go_wp2_with (go_at_call 41; (with_reducible refine (gh _).mono ?_); rintro e w8 ⟨rfl,hb8⟩; have hj8 : KL [((w.heap.size + 1),25,#[a,b,c,d,s,u]),(w.heap.size,25,#[.int .i64 ((pt 0 X (m : Int) LP)),.int .i64 ((pt 1 Y (m : Int) LP)),.int .i64 ((pt 2 Z (m : Int) LP)),.int .i64 P,.int .i64 Q,.int .i64 R])] w w8 := (KL.upL 1 hj6 rfl (by omega) (by simp <;> omega)).over hb8; have hown8 := own_below (own_far (p := ⟨w.heap.size,2,none⟩) (own_far (p := ⟨w.heap.size,1,none⟩) (own_far (p := ⟨w.heap.size,0,none⟩) hown6 _ (by show w.heap.size < _; omega)) _ (by show w.heap.size < _; omega)) _ (by show w.heap.size < _; omega)) hb8; obtain ⟨dL,d0,d1,d2,d3,d4,d5⟩ := bl6 (KL.blk hj8 (.tail _ (.head _))); have dM := (KL.blk hj8 (.head _)).lt)
         have xL2 : IntKind.i64.wrap (L + V1 + V2) = L + V1 + V2 := IntWalk.i64_in _ (by have h := hLs.out; rw [if_pos (show 0 < D1 by omega),if_pos (show 0 < D2 by omega)] at h; omega)
         have HK2 := Lib.hid hk2
         clear hk2
         refine wp_region_any (by kernel_rfl) ?_
         try (change wpAny _ _ _ _ _ _ _ (World.drew _))
         refine wpAny_vals (fr := fun o => #[.agg #[x,y,z,p,q,r],.agg #[a,b,c,d,s,u],.int .i64 k,.pointer (some ⟨w.heap.size,0,none⟩),.pointer (some ⟨(w.heap.size + 1),0,none⟩),undef,.slice none 0 0,.int .i64 0,.slice A n c_,.int .i64 (L + V1),.int .i64 ((m : Int)),.int .i64 LP,.int .i64 HP,.int .i64 D1,.pointer (some ⟨w2.heap.size,0,none⟩),.int .i64 D2,.pointer (some ⟨w8.heap.size,0,none⟩),.slice (some ⟨(w.heap.size + 1 + 1),0,none⟩) 0 0,.int .i64 ((m : Int)),.bool true,u20,u21,.pointer (some ⟨(w.heap.size + 1),0,none⟩),.agg #[a,b,c],.int .i64 ((m : Int)),.int .i64 LP,.pointer (some ⟨(w.heap.size + 1),3,none⟩),.agg #[d,s,u],.int .i64 ((m : Int)),.int .i64 HP,.int .i64 LP,.pointer (some ⟨w.heap.size,0,none⟩),.agg #[.int .i64 X,.int .i64 Y,.int .i64 Z],.int .i64 ((m : Int)),.int .i64 lo,.int .i64 D1,.int .i64 D1,.bool true,.agg #[.int .i64 X,.int .i64 Y,.int .i64 Z,.int .i64 P,.int .i64 Q,.int .i64 R],.pointer (some ⟨w.heap.size,0,none⟩),.agg #[.int .i64 X,.int .i64 Y,.int .i64 Z],.int .i64 ((m : Int)),.int .i64 LP,.int .i64 D1,.int .i64 k,.int .i64 D1,.int .i64 E1,.agg #[.int .i64 (pt 0 X (m : Int) E1),.int .i64 (pt 1 Y (m : Int) E1),.int .i64 (pt 2 Z (m : Int) E1)],.pointer (some ⟨w.heap.size,3,none⟩),.agg #[.int .i64 P,.int .i64 Q,.int .i64 R],.int .i64 ((m : Int)),.int .i64 LP,.agg #[.int .i64 (pt 0 P (m : Int) LP),.int .i64 (pt 1 Q (m : Int) LP),.int .i64 (pt 2 R (m : Int) LP)],.pointer (some ⟨w2.heap.size,0,none⟩),.pointer (some ⟨w2.heap.size,3,none⟩),.int .i64 L,.agg #[.int .i64 (pt 0 X (m : Int) E1),.int .i64 (pt 1 Y (m : Int) E1),.int .i64 (pt 2 Z (m : Int) E1),.int .i64 (pt 0 P (m : Int) LP),.int .i64 (pt 1 Q (m : Int) LP),.int .i64 (pt 2 R (m : Int) LP)],.int .i64 V1,.int .i64 (L + V1),.int .i64 D1,.int .i64 k,.bool false,u62,u63,u64,u65,u66,u67,u68,u69,u70,.pointer (some ⟨w.heap.size,0,none⟩),.agg #[.int .i64 X,.int .i64 Y,.int .i64 Z],.int .i64 ((m : Int)),.int .i64 LP,.agg #[.int .i64 (pt 0 X (m : Int) LP),.int .i64 (pt 1 Y (m : Int) LP),.int .i64 (pt 2 Z (m : Int) LP)],.pointer (some ⟨w.heap.size,0,none⟩),.pointer (some ⟨w.heap.size,3,none⟩),.agg #[.int .i64 P,.int .i64 Q,.int .i64 R],.int .i64 ((m : Int)),.int .i64 hi,.int .i64 HP,.int .i64 D2,.int .i64 D2,.bool true,.agg #[.int .i64 ((pt 0 X (m : Int) LP)),.int .i64 ((pt 1 Y (m : Int) LP)),.int .i64 ((pt 2 Z (m : Int) LP)),.int .i64 P,.int .i64 Q,.int .i64 R],o 0,o 1,o 2,o 3,o 4,o 5,o 6,o 7,o 8,o 9,o 10,o 11,o 12,o 13,o 14,o 16,u102,u103,u104,u105,u106,u107,u108,u109,u110,u111,u112,u113,u114,u115,u116,u117,u118,u119,u120,u121,undef,undef]) (vals := fun i_ => ([.pointer (some ⟨w.heap.size,0,none⟩),.agg #[.int .i64 ((pt 0 X (m : Int) LP)),.int .i64 ((pt 1 Y (m : Int) LP)),.int .i64 ((pt 2 Z (m : Int) LP))],.int .i64 ((m : Int)),.int .i64 HP,.agg #[.int .i64 (pt 0 ((pt 0 X (m : Int) LP)) (m : Int) HP),.int .i64 (pt 1 ((pt 1 Y (m : Int) LP)) (m : Int) HP),.int .i64 (pt 2 ((pt 2 Z (m : Int) LP)) (m : Int) HP)],.pointer (some ⟨w.heap.size,3,none⟩),.agg #[.int .i64 P,.int .i64 Q,.int .i64 R],.int .i64 ((m : Int)),.int .i64 HP,.int .i64 D2,.int .i64 k,.int .i64 (if k < D2 then k else D2),.int .i64 E2,.agg #[.int .i64 (pt 0 P (m : Int) E2),.int .i64 (pt 1 Q (m : Int) E2),.int .i64 (pt 2 R (m : Int) E2)],.pointer (some ⟨w8.heap.size,0,none⟩),undef,.pointer (some ⟨w8.heap.size,3,none⟩),undef] : List Value).getD i_ undef) (Kf := fun W_ => KL [((w.heap.size + 1),25,#[a,b,c,d,s,u]),(w.heap.size,25,#[.int .i64 ((pt 0 X (m : Int) LP)),.int .i64 ((pt 1 Y (m : Int) LP)),.int .i64 ((pt 2 Z (m : Int) LP)),.int .i64 P,.int .i64 Q,.int .i64 R])] w8 W_) (K := fun kk_ => ([(KL [(w8.heap.size,25,#[.int .i64 ((pt 0 X (m : Int) LP)),.int .i64 ((pt 1 Y (m : Int) LP)),.int .i64 ((pt 2 Z (m : Int) LP)),.int .i64 P,.int .i64 Q,.int .i64 R]),((w.heap.size + 1),25,#[a,b,c,d,s,u]),(w.heap.size,25,#[.int .i64 ((pt 0 X (m : Int) LP)),.int .i64 ((pt 1 Y (m : Int) LP)),.int .i64 ((pt 2 Z (m : Int) LP)),.int .i64 P,.int .i64 Q,.int .i64 R])] w8),(KL [(w8.heap.size,25,#[.int .i64 (pt 0 ((pt 0 X (m : Int) LP)) (m : Int) HP),.int .i64 (pt 1 ((pt 1 Y (m : Int) LP)) (m : Int) HP),.int .i64 (pt 2 ((pt 2 Z (m : Int) LP)) (m : Int) HP),.int .i64 P,.int .i64 Q,.int .i64 R]),((w.heap.size + 1),25,#[a,b,c,d,s,u]),(w.heap.size,25,#[.int .i64 ((pt 0 X (m : Int) LP)),.int .i64 ((pt 1 Y (m : Int) LP)),.int .i64 ((pt 2 Z (m : Int) LP)),.int .i64 P,.int .i64 Q,.int .i64 R])] w8),(KL [(w8.heap.size,25,#[.int .i64 (pt 0 ((pt 0 X (m : Int) LP)) (m : Int) HP),.int .i64 (pt 1 ((pt 1 Y (m : Int) LP)) (m : Int) HP),.int .i64 (pt 2 ((pt 2 Z (m : Int) LP)) (m : Int) HP),.int .i64 (pt 0 P (m : Int) E2),.int .i64 (pt 1 Q (m : Int) E2),.int .i64 (pt 2 R (m : Int) E2)]),((w.heap.size + 1),25,#[a,b,c,d,s,u]),(w.heap.size,25,#[.int .i64 ((pt 0 X (m : Int) LP)),.int .i64 ((pt 1 Y (m : Int) LP)),.int .i64 ((pt 2 Z (m : Int) LP)),.int .i64 P,.int .i64 Q,.int .i64 R])] w8)] : List (World → Prop)).getD kk_ (fun _ => True)) (dep := fun i_ => [[],[0],[],[],[1,2,3],[],[5],[],[],[],[],[9,10],[8,11],[6,7,12],[],[1,4,13,14],[],[13,15,16]].getD i_ []) (dv := fun i_ => [[],[0],[],[],[1,2,3],[],[5],[],[],[],[],[9,10],[8,11],[6,7,12],[],[4,14],[],[13,16]].getD i_ []) (kd := fun i_ => [0,1,0,0,1,0,0,0,0,0,0,0,0,1,0,2,0,3].getD i_ 0) (ss := [15,17]) (l := [0,1,2,3,4,5,6,7,8,9,10,11,12,13,14,15,16,17]) (f0 := fun i_ => ([u86,u87,u88,u89,u90,u91,u92,u93,u94,u95,u96,u97,u98,u99,u100,undef,u101,undef] : List Value).getD i_ undef) (A := ?A5) 18 ?_ ?_ ?_ ?_ ?_ ?_ ⟨?_,?_,?_,?_,?_,?_,?_,?_,?_,?_,?_,?_,?_,?_,?_,?_,?_,?_,trivial⟩ ?_ ?_
         rotate_left
         ·rfl
         ·rfl
         ·decide +kernel
         ·decide +kernel
         ·exact KL.drew (KL.new (g := w8.heap.size) hj8.base rfl _ _)
         ·intro t_ W ht_ hh_
          rcases t_ with _ | _ | _ | _
          ·exact KL.part hh_ (fun p_ hp_ => by simp only [List.mem_cons,List.not_mem_nil,or_false] at hp_; rcases hp_ with rfl | rfl; exact (.tail _ (.head _)); exact (.tail _ (.tail _ (.head _))))
          ·exact KL.part hh_ (fun p_ hp_ => by simp only [List.mem_cons,List.not_mem_nil,or_false] at hp_; rcases hp_ with rfl | rfl; exact (.tail _ (.head _)); exact (.tail _ (.tail _ (.head _))))
          ·exact KL.part hh_ (fun p_ hp_ => by simp only [List.mem_cons,List.not_mem_nil,or_false] at hp_; rcases hp_ with rfl | rfl; exact (.tail _ (.head _)); exact (.tail _ (.tail _ (.head _))))
          ·exact absurd ht_ (by simp)
         ·intro o W _
          show wpOp _ _ _ 0 _ ⟨#[_,_,_,_,_,_,_,_,_,_,_,_,_,_,_,_,_,_,_,_,_,_,_,_,_,_,_,_,_,_,_,_,_,_,_,_,_,_,_,_,_,_,_,_,_,_,_,_,_,_,_,_,_,_,_,_,_,_,_,_,_,_,_,_,_,_,_,_,_,_,_,_,_,_,_,_,_,_,_,_,_,_,_,_,_,_,o 0,o 1,o 2,o 3,o 4,o 5,o 6,o 7,o 8,o 9,o 10,o 11,o 12,o 13,o 14,o 16,_,_,_,_,_,_,_,_,_,_,_,_,_,_,_,_,_,_,_,_,_,_],[]⟩ W
          refine wpOp_step rfl fun _ hK => ?_
          go_simp
          exact hK _ _ ⟨rfl,rfl⟩
         ·intro o W hj
          have hj : KL _ _ W := hj
          obtain ⟨cL,c0,c1,c2,c3,c4,c5⟩ := bl6 (KL.blk hj (.tail _ (.tail _ (.head _))))
          show wpOp _ _ _ 1 _ ⟨#[_,_,_,_,_,_,_,_,_,_,_,_,_,_,_,_,_,_,_,_,_,_,_,_,_,_,_,_,_,_,_,_,_,_,_,_,_,_,_,_,_,_,_,_,_,_,_,_,_,_,_,_,_,_,_,_,_,_,_,_,_,_,_,_,_,_,_,_,_,_,_,_,_,_,_,_,_,_,_,_,_,_,_,_,_,_,.pointer (some ⟨w.heap.size,0,none⟩),o 1,o 2,o 3,o 4,o 5,o 6,o 7,o 8,o 9,o 10,o 11,o 12,o 13,o 14,o 16,_,_,_,_,_,_,_,_,_,_,_,_,_,_,_,_,_,_,_,_,_,_],[]⟩ W
          refine wpOp_step rfl fun _ hK => ?_
          go_simp
          exact hK _ _ ⟨rfl,hj⟩
         ·intro o W _
          show wpOp _ _ _ 2 _ ⟨#[_,_,_,_,_,_,_,_,_,_,_,_,_,_,_,_,_,_,_,_,_,_,_,_,_,_,_,_,_,_,_,_,_,_,_,_,_,_,_,_,_,_,_,_,_,_,_,_,_,_,_,_,_,_,_,_,_,_,_,_,_,_,_,_,_,_,_,_,_,_,_,_,_,_,_,_,_,_,_,_,_,_,_,_,_,_,o 0,o 1,o 2,o 3,o 4,o 5,o 6,o 7,o 8,o 9,o 10,o 11,o 12,o 13,o 14,o 16,_,_,_,_,_,_,_,_,_,_,_,_,_,_,_,_,_,_,_,_,_,_],[]⟩ W
          refine wpOp_step rfl fun _ hK => ?_
          go_simp
          exact hK _ _ ⟨rfl,rfl⟩
         ·intro o W _
          show wpOp _ _ _ 3 _ ⟨#[_,_,_,_,_,_,_,_,_,_,_,_,_,_,_,_,_,_,_,_,_,_,_,_,_,_,_,_,_,_,_,_,_,_,_,_,_,_,_,_,_,_,_,_,_,_,_,_,_,_,_,_,_,_,_,_,_,_,_,_,_,_,_,_,_,_,_,_,_,_,_,_,_,_,_,_,_,_,_,_,_,_,_,_,_,_,o 0,o 1,o 2,o 3,o 4,o 5,o 6,o 7,o 8,o 9,o 10,o 11,o 12,o 13,o 14,o 16,_,_,_,_,_,_,_,_,_,_,_,_,_,_,_,_,_,_,_,_,_,_],[]⟩ W
          refine wpOp_step rfl fun _ hK => ?_
          go_simp
          exact hK _ _ ⟨rfl,rfl⟩
         ·intro o W hj
          have hj : KL _ _ W := hj
          show wpOp _ _ _ 4 _ ⟨#[_,_,_,_,_,_,_,_,_,_,_,_,_,_,_,_,_,_,_,_,_,_,_,_,_,_,_,_,_,_,_,_,_,_,_,_,_,_,_,_,_,_,_,_,_,_,_,_,_,_,_,_,_,_,_,_,_,_,_,_,_,_,_,_,_,_,_,_,_,_,_,_,_,_,_,_,_,_,_,_,_,_,_,_,_,_,o 0,.agg #[.int .i64 ((pt 0 X (m : Int) LP)),.int .i64 ((pt 1 Y (m : Int) LP)),.int .i64 ((pt 2 Z (m : Int) LP))],.int .i64 ((m : Int)),.int .i64 HP,o 4,o 5,o 6,o 7,o 8,o 9,o 10,o 11,o 12,o 13,o 14,o 16,_,_,_,_,_,_,_,_,_,_,_,_,_,_,_,_,_,_,_,_,_,_],[]⟩ W
          refine wpOp_step rfl fun _ hK => ?_
          go_simp
          refine (pn _ _ _ _ _).mono ?_
          rintro e W1 ⟨rfl,hb1⟩
          exact hK _ _ ⟨rfl,hj.over hb1⟩
         ·intro o W _
          show wpOp _ _ _ 5 _ ⟨#[_,_,_,_,_,_,_,_,_,_,_,_,_,_,_,_,_,_,_,_,_,_,_,_,_,_,_,_,_,_,_,_,_,_,_,_,_,_,_,_,_,_,_,_,_,_,_,_,_,_,_,_,_,_,_,_,_,_,_,_,_,_,_,_,_,_,_,_,_,_,_,_,_,_,_,_,_,_,_,_,_,_,_,_,_,_,o 0,o 1,o 2,o 3,o 4,o 5,o 6,o 7,o 8,o 9,o 10,o 11,o 12,o 13,o 14,o 16,_,_,_,_,_,_,_,_,_,_,_,_,_,_,_,_,_,_,_,_,_,_],[]⟩ W
          refine wpOp_step rfl fun _ hK => ?_
          go_simp
          exact hK _ _ ⟨rfl,rfl⟩
         ·intro o W hj
          have hj : KL _ _ W := hj
          obtain ⟨cL,c0,c1,c2,c3,c4,c5⟩ := bl6 (KL.blk hj (.tail _ (.head _)))
          show wpOp _ _ _ 6 _ ⟨#[_,_,_,_,_,_,_,_,_,_,_,_,_,_,_,_,_,_,_,_,_,_,_,_,_,_,_,_,_,_,_,_,_,_,_,_,_,_,_,_,_,_,_,_,_,_,_,_,_,_,_,_,_,_,_,_,_,_,_,_,_,_,_,_,_,_,_,_,_,_,_,_,_,_,_,_,_,_,_,_,_,_,_,_,_,_,o 0,o 1,o 2,o 3,o 4,.pointer (some ⟨w.heap.size,3,none⟩),o 6,o 7,o 8,o 9,o 10,o 11,o 12,o 13,o 14,o 16,_,_,_,_,_,_,_,_,_,_,_,_,_,_,_,_,_,_,_,_,_,_],[]⟩ W
          refine wpOp_step rfl fun _ hK => ?_
          go_simp
          exact hK _ _ ⟨rfl,rfl⟩
         ·intro o W _
          show wpOp _ _ _ 7 _ ⟨#[_,_,_,_,_,_,_,_,_,_,_,_,_,_,_,_,_,_,_,_,_,_,_,_,_,_,_,_,_,_,_,_,_,_,_,_,_,_,_,_,_,_,_,_,_,_,_,_,_,_,_,_,_,_,_,_,_,_,_,_,_,_,_,_,_,_,_,_,_,_,_,_,_,_,_,_,_,_,_,_,_,_,_,_,_,_,o 0,o 1,o 2,o 3,o 4,o 5,o 6,o 7,o 8,o 9,o 10,o 11,o 12,o 13,o 14,o 16,_,_,_,_,_,_,_,_,_,_,_,_,_,_,_,_,_,_,_,_,_,_],[]⟩ W
          refine wpOp_step rfl fun _ hK => ?_
          go_simp
          exact hK _ _ ⟨rfl,rfl⟩
         ·intro o W _
          show wpOp _ _ _ 8 _ ⟨#[_,_,_,_,_,_,_,_,_,_,_,_,_,_,_,_,_,_,_,_,_,_,_,_,_,_,_,_,_,_,_,_,_,_,_,_,_,_,_,_,_,_,_,_,_,_,_,_,_,_,_,_,_,_,_,_,_,_,_,_,_,_,_,_,_,_,_,_,_,_,_,_,_,_,_,_,_,_,_,_,_,_,_,_,_,_,o 0,o 1,o 2,o 3,o 4,o 5,o 6,o 7,o 8,o 9,o 10,o 11,o 12,o 13,o 14,o 16,_,_,_,_,_,_,_,_,_,_,_,_,_,_,_,_,_,_,_,_,_,_],[]⟩ W
          refine wpOp_step rfl fun _ hK => ?_
          go_simp
          exact hK _ _ ⟨rfl,rfl⟩
         ·intro o W _
          show wpOp _ _ _ 9 _ ⟨#[_,_,_,_,_,_,_,_,_,_,_,_,_,_,_,_,_,_,_,_,_,_,_,_,_,_,_,_,_,_,_,_,_,_,_,_,_,_,_,_,_,_,_,_,_,_,_,_,_,_,_,_,_,_,_,_,_,_,_,_,_,_,_,_,_,_,_,_,_,_,_,_,_,_,_,_,_,_,_,_,_,_,_,_,_,_,o 0,o 1,o 2,o 3,o 4,o 5,o 6,o 7,o 8,o 9,o 10,o 11,o 12,o 13,o 14,o 16,_,_,_,_,_,_,_,_,_,_,_,_,_,_,_,_,_,_,_,_,_,_],[]⟩ W
          refine wpOp_step rfl fun _ hK => ?_
          go_simp
          exact hK _ _ ⟨rfl,rfl⟩
         ·intro o W _
          show wpOp _ _ _ 10 _ ⟨#[_,_,_,_,_,_,_,_,_,_,_,_,_,_,_,_,_,_,_,_,_,_,_,_,_,_,_,_,_,_,_,_,_,_,_,_,_,_,_,_,_,_,_,_,_,_,_,_,_,_,_,_,_,_,_,_,_,_,_,_,_,_,_,_,_,_,_,_,_,_,_,_,_,_,_,_,_,_,_,_,_,_,_,_,_,_,o 0,o 1,o 2,o 3,o 4,o 5,o 6,o 7,o 8,o 9,o 10,o 11,o 12,o 13,o 14,o 16,_,_,_,_,_,_,_,_,_,_,_,_,_,_,_,_,_,_,_,_,_,_],[]⟩ W
          refine wpOp_step rfl fun _ hK => ?_
          go_simp
          exact hK _ _ ⟨rfl,rfl⟩
         ·intro o W _
          show wpOp _ _ _ 11 _ ⟨#[_,_,_,_,_,_,_,_,_,_,_,_,_,_,_,_,_,_,_,_,_,_,_,_,_,_,_,_,_,_,_,_,_,_,_,_,_,_,_,_,_,_,_,_,_,_,_,_,_,_,_,_,_,_,_,_,_,_,_,_,_,_,_,_,_,_,_,_,_,_,_,_,_,_,_,_,_,_,_,_,_,_,_,_,_,_,o 0,o 1,o 2,o 3,o 4,o 5,o 6,o 7,o 8,.int .i64 D2,.int .i64 k,o 11,o 12,o 13,o 14,o 16,_,_,_,_,_,_,_,_,_,_,_,_,_,_,_,_,_,_,_,_,_,_],[]⟩ W
          refine wpOp_step rfl fun _ hK => ?_
          go_simp
          exact hK _ _ ⟨rfl,rfl⟩
         ·intro o W _
          show wpOp _ _ _ 12 _ ⟨#[_,_,_,_,_,_,_,_,_,_,_,_,_,_,_,_,_,_,_,_,_,_,_,_,_,_,_,_,_,_,_,_,_,_,_,_,_,_,_,_,_,_,_,_,_,_,_,_,_,_,_,_,_,_,_,_,_,_,_,_,_,_,_,_,_,_,_,_,_,_,_,_,_,_,_,_,_,_,_,_,_,_,_,_,_,_,o 0,o 1,o 2,o 3,o 4,o 5,o 6,o 7,.int .i64 HP,o 9,o 10,.int .i64 (if k < D2 then k else D2),o 12,o 13,o 14,o 16,_,_,_,_,_,_,_,_,_,_,_,_,_,_,_,_,_,_,_,_,_,_],[]⟩ W
          refine wpOp_step rfl fun _ hK => ?_
          go_simp
          exact hK _ _ ⟨rfl,rfl⟩
         ·intro o W hj
          have hj : KL _ _ W := hj
          show wpOp _ _ _ 13 _ ⟨#[_,_,_,_,_,_,_,_,_,_,_,_,_,_,_,_,_,_,_,_,_,_,_,_,_,_,_,_,_,_,_,_,_,_,_,_,_,_,_,_,_,_,_,_,_,_,_,_,_,_,_,_,_,_,_,_,_,_,_,_,_,_,_,_,_,_,_,_,_,_,_,_,_,_,_,_,_,_,_,_,_,_,_,_,_,_,o 0,o 1,o 2,o 3,o 4,o 5,.agg #[.int .i64 P,.int .i64 Q,.int .i64 R],.int .i64 ((m : Int)),o 8,o 9,o 10,o 11,.int .i64 E2,o 13,o 14,o 16,_,_,_,_,_,_,_,_,_,_,_,_,_,_,_,_,_,_,_,_,_,_],[]⟩ W
          refine wpOp_step rfl fun _ hK => ?_
          go_simp
          refine (pn _ _ _ _ _).mono ?_
          rintro e W1 ⟨rfl,hb1⟩
          exact hK _ _ ⟨rfl,hj.over hb1⟩
         ·intro o W _
          show wpOp _ _ _ 14 _ ⟨#[_,_,_,_,_,_,_,_,_,_,_,_,_,_,_,_,_,_,_,_,_,_,_,_,_,_,_,_,_,_,_,_,_,_,_,_,_,_,_,_,_,_,_,_,_,_,_,_,_,_,_,_,_,_,_,_,_,_,_,_,_,_,_,_,_,_,_,_,_,_,_,_,_,_,_,_,_,_,_,_,_,_,_,_,_,_,o 0,o 1,o 2,o 3,o 4,o 5,o 6,o 7,o 8,o 9,o 10,o 11,o 12,o 13,o 14,o 16,_,_,_,_,_,_,_,_,_,_,_,_,_,_,_,_,_,_,_,_,_,_],[]⟩ W
          refine wpOp_step rfl fun _ hK => ?_
          go_simp
          exact hK _ _ ⟨rfl,rfl⟩
         ·intro o W hj
          have hj : KL _ _ W := hj
          obtain ⟨cL,c0,c1,c2,c3,c4,c5⟩ := bl6 (KL.blk hj (.head _))
          have cF := (KL.blk hj (.head _)).frozen
          show wpOp _ _ _ 15 _ ⟨#[_,_,_,_,_,_,_,_,_,_,_,_,_,_,_,_,_,_,_,_,_,_,_,_,_,_,_,_,_,_,_,_,_,_,_,_,_,_,_,_,_,_,_,_,_,_,_,_,_,_,_,_,_,_,_,_,_,_,_,_,_,_,_,_,_,_,_,_,_,_,_,_,_,_,_,_,_,_,_,_,_,_,_,_,_,_,o 0,o 1,o 2,o 3,.agg #[.int .i64 (pt 0 ((pt 0 X (m : Int) LP)) (m : Int) HP),.int .i64 (pt 1 ((pt 1 Y (m : Int) LP)) (m : Int) HP),.int .i64 (pt 2 ((pt 2 Z (m : Int) LP)) (m : Int) HP)],o 5,o 6,o 7,o 8,o 9,o 10,o 11,o 12,o 13,.pointer (some ⟨w8.heap.size,0,none⟩),o 16,_,_,_,_,_,_,_,_,_,_,_,_,_,_,_,_,_,_,_,_,_,_],[]⟩ W
          refine wpOp_step rfl fun _ hK => ?_
          go_simp
          exact hK _ _ ⟨rfl,(KL.upL 0 hj rfl (by omega) (by simp <;> omega))⟩
         ·intro o W _
          show wpOp _ _ _ 16 _ ⟨#[_,_,_,_,_,_,_,_,_,_,_,_,_,_,_,_,_,_,_,_,_,_,_,_,_,_,_,_,_,_,_,_,_,_,_,_,_,_,_,_,_,_,_,_,_,_,_,_,_,_,_,_,_,_,_,_,_,_,_,_,_,_,_,_,_,_,_,_,_,_,_,_,_,_,_,_,_,_,_,_,_,_,_,_,_,_,o 0,o 1,o 2,o 3,o 4,o 5,o 6,o 7,o 8,o 9,o 10,o 11,o 12,o 13,o 14,o 16,_,_,_,_,_,_,_,_,_,_,_,_,_,_,_,_,_,_,_,_,_,_],[]⟩ W
          refine wpOp_step rfl fun _ hK => ?_
          go_simp
          exact hK _ _ ⟨rfl,rfl⟩
         ·intro o W hj
          have hj : KL _ _ W := hj
          obtain ⟨cL,c0,c1,c2,c3,c4,c5⟩ := bl6 (KL.blk hj (.head _))
          have cF := (KL.blk hj (.head _)).frozen
          show wpOp _ _ _ 17 _ ⟨#[_,_,_,_,_,_,_,_,_,_,_,_,_,_,_,_,_,_,_,_,_,_,_,_,_,_,_,_,_,_,_,_,_,_,_,_,_,_,_,_,_,_,_,_,_,_,_,_,_,_,_,_,_,_,_,_,_,_,_,_,_,_,_,_,_,_,_,_,_,_,_,_,_,_,_,_,_,_,_,_,_,_,_,_,_,_,o 0,o 1,o 2,o 3,o 4,o 5,o 6,o 7,o 8,o 9,o 10,o 11,o 12,.agg #[.int .i64 (pt 0 P (m : Int) E2),.int .i64 (pt 1 Q (m : Int) E2),.int .i64 (pt 2 R (m : Int) E2)],o 14,.pointer (some ⟨w8.heap.size,3,none⟩),_,_,_,_,_,_,_,_,_,_,_,_,_,_,_,_,_,_,_,_,_,_],[]⟩ W
          refine wpOp_step rfl fun _ hK => ?_
          go_simp
          exact hK _ _ ⟨rfl,(KL.upH 0 hj rfl (by omega) (by simp <;> omega))⟩
         ·intro o hh_
          have e0 : o 0 = .pointer (some ⟨w.heap.size,0,none⟩) := hh_ 0 (by decide)
          have e1 : o 1 = .agg #[.int .i64 ((pt 0 X (m : Int) LP)),.int .i64 ((pt 1 Y (m : Int) LP)),.int .i64 ((pt 2 Z (m : Int) LP))] := hh_ 1 (by decide)
          have e2 : o 2 = .int .i64 ((m : Int)) := hh_ 2 (by decide)
          have e3 : o 3 = .int .i64 HP := hh_ 3 (by decide)
          have e4 : o 4 = .agg #[.int .i64 (pt 0 ((pt 0 X (m : Int) LP)) (m : Int) HP),.int .i64 (pt 1 ((pt 1 Y (m : Int) LP)) (m : Int) HP),.int .i64 (pt 2 ((pt 2 Z (m : Int) LP)) (m : Int) HP)] := hh_ 4 (by decide)
          have e5 : o 5 = .pointer (some ⟨w.heap.size,3,none⟩) := hh_ 5 (by decide)
          have e6 : o 6 = .agg #[.int .i64 P,.int .i64 Q,.int .i64 R] := hh_ 6 (by decide)
          have e7 : o 7 = .int .i64 ((m : Int)) := hh_ 7 (by decide)
          have e8 : o 8 = .int .i64 HP := hh_ 8 (by decide)
          have e9 : o 9 = .int .i64 D2 := hh_ 9 (by decide)
          have e10 : o 10 = .int .i64 k := hh_ 10 (by decide)
          have e11 : o 11 = .int .i64 (if k < D2 then k else D2) := hh_ 11 (by decide)
          have e12 : o 12 = .int .i64 E2 := hh_ 12 (by decide)
          have e13 : o 13 = .agg #[.int .i64 (pt 0 P (m : Int) E2),.int .i64 (pt 1 Q (m : Int) E2),.int .i64 (pt 2 R (m : Int) E2)] := hh_ 13 (by decide)
          have e14 : o 14 = .pointer (some ⟨w8.heap.size,0,none⟩) := hh_ 14 (by decide)
          have e16 : o 16 = .pointer (some ⟨w8.heap.size,3,none⟩) := hh_ 16 (by decide)
          rw [e0,e1,e2,e3,e4,e5,e6,e7,e8,e9,e10,e11,e12,e13,e14,e16]
         ·intro W9 h9
          have h9 : KL _ _ W9 := h9
          obtain ⟨eL0,e0_0,e0_1,e0_2,e0_3,e0_4,e0_5⟩ := bl6 (KL.blk h9 (.head _))
          obtain ⟨eL1,e1_0,e1_1,e1_2,e1_3,e1_4,e1_5⟩ := bl6 (KL.blk h9 (.tail _ (.head _)))
          obtain ⟨eL2,e2_0,e2_1,e2_2,e2_3,e2_4,e2_5⟩ := bl6 (KL.blk h9 (.tail _ (.tail _ (.head _))))
          have hjb := h9.1
          have hjz := hjb.size
          have hk2 := HK2.out
          have hj9 := hj8.over hjb
          have hown9 := own_below hown8 hjb
          have t4 : decide (k < D2) = false := by simpa using hk2
          go_wp2_with (first
           | (go_at_call 19; refine (hV2 _).mono ?_; rintro e w10 ⟨rfl,hb10⟩; have hj10 := hj9.over hb10; have hown10 := own_below hown9 hb10; have hz10 := hb10.size; obtain ⟨fL,f0,f1,f2,f3,f4,f5⟩ := bl6 (KL.blk hj10 (.tail _ (.head _))); have fM := (KL.blk hj10 (.head _)).lt)
           | (go_at_call 47; refine (pn _ _ _ _ _).mono ?_; rintro e w12 ⟨rfl,hb12⟩; have hj12 : KL [((w.heap.size + 1),25,#[a,b,c,d,s,u]),(w.heap.size,25,#[.int .i64 ((pt 0 X (m : Int) LP)),.int .i64 ((pt 1 Y (m : Int) LP)),.int .i64 ((pt 2 Z (m : Int) LP)),.int .i64 P,.int .i64 Q,.int .i64 R])] w w12 := hj10.over hb12; have hown12 := own_below hown10 hb12; obtain ⟨hL,h0,h1,h2,h3,h4,h5⟩ := bl6 (KL.blk hj12 (.tail _ (.head _))); have hM := (KL.blk hj12 (.head _)).lt; have hF := (KL.blk hj12 (.tail _ (.head _))).frozen))
          go_roundw
          case rel => exact ⟨m + 1,n,A,c_,(pt 0 X (m : Int) LP),(pt 1 Y (m : Int) LP),(pt 2 Z (m : Int) LP),(pt 0 P (m : Int) HP),(pt 1 Q (m : Int) HP),(pt 2 R (m : Int) HP),L + V1 + V2,xs,by omega,rfl,rfl,by go_num,by
           have h := HS.out
           rw [if_pos (show 0 < D1 by omega),if_pos (show 0 < D2 by omega),if_neg (show ¬ k < D1 by omega),if_neg (show ¬ k < D1 by omega),if_neg (show ¬ k < D2 by omega),if_neg (show ¬ k < D2 by omega)] at h
           (repeat rw [List.append_nil] at h)
           (repeat rw [Int.add_zero] at h)
           skip
           skip
           exact h,(own_far (p := ⟨w.heap.size,5,none⟩) (own_far (p := ⟨w.heap.size,4,none⟩) (own_far (p := ⟨w.heap.size,3,none⟩) hown12 _ (by show w.heap.size < _; omega)) _ (by show w.heap.size < _; omega)) _ (by show w.heap.size < _; omega)),KL.upH 1 hj12 rfl (by omega) (by simp <;> omega)⟩
          case measure => simp [intOf] <;> omega
       ·have hk2 : ¬ k < D2 := by omega
        have t2 : decide (0 < D2) = false := by simpa using hz2
        go_wp2_with (go_at_call 41; (with_reducible refine (gh _).mono ?_); rintro e w8 ⟨rfl,hb8⟩; have hj8 : KL [((w.heap.size + 1),25,#[a,b,c,d,s,u]),(w.heap.size,25,#[.int .i64 ((pt 0 X (m : Int) LP)),.int .i64 ((pt 1 Y (m : Int) LP)),.int .i64 ((pt 2 Z (m : Int) LP)),.int .i64 P,.int .i64 Q,.int .i64 R])] w w8 := (KL.upL 1 hj6 rfl (by omega) (by simp <;> omega)).over hb8; have hown8 := own_below (own_far (p := ⟨w.heap.size,2,none⟩) (own_far (p := ⟨w.heap.size,1,none⟩) (own_far (p := ⟨w.heap.size,0,none⟩) hown6 _ (by show w.heap.size < _; omega)) _ (by show w.heap.size < _; omega)) _ (by show w.heap.size < _; omega)) hb8; obtain ⟨dL,d0,d1,d2,d3,d4,d5⟩ := bl6 (KL.blk hj8 (.tail _ (.head _))); have dM := (KL.blk hj8 (.head _)).lt)
        obtain ⟨eP,eQ,eR⟩ := hPP.out (by omega)
        go_roundw
        case rel => exact ⟨m + 1,n,A,c_,(pt 0 X (m : Int) LP),(pt 1 Y (m : Int) LP),(pt 2 Z (m : Int) LP),P,Q,R,L + V1,xs,by omega,rfl,rfl,by go_num,by
         have h := HS.out
         rw [if_pos (show 0 < D1 by omega),if_neg (show ¬ 0 < D2 by omega),if_neg (show ¬ k < D1 by omega),if_neg (show ¬ k < D1 by omega),if_neg (show ¬ k < D2 by omega),if_neg (show ¬ k < D2 by omega)] at h
         (repeat rw [List.append_nil] at h)
         (repeat rw [Int.add_zero] at h)
         skip
         rw [eP,eQ,eR] at h
         exact h,hown8,hj8⟩
        case measure => simp [intOf] <;> omega
    ·have hk1 : ¬ k < D1 := by omega
     have t1 : decide (0 < D1) = false := by simpa using hz1
     go_wp2_with (go_at_call 41; (with_reducible refine (gl _).mono ?_); rintro e w2 ⟨rfl,hb2⟩; have hj2 : KL [((w.heap.size + 1),25,#[a,b,c,d,s,u]),(w.heap.size,25,#[.int .i64 X,.int .i64 Y,.int .i64 Z,.int .i64 P,.int .i64 Q,.int .i64 R])] w w2 := hj1.over hb2; have hown2 := own_below hown1 hb2; obtain ⟨bL,b0,b1,b2,b3,b4,b5⟩ := bl6 (KL.blk hj2 (.tail _ (.head _))); have bM := (KL.blk hj2 (.head _)).lt)
     obtain ⟨eX,eY,eZ⟩ := hXX.out (by omega)
     rw [eX,eY,eZ] at hV2
     by_cases hz2 : 0 < D2
     ·by_cases hk2 : k < D2
      ·have t2 : decide (0 < D2) = true := by simpa using hz2
       go_wp2_with (go_at_call 41; (with_reducible refine (gh _).mono ?_); rintro e w8 ⟨rfl,hb8⟩; have hj8 : KL [((w.heap.size + 1),25,#[a,b,c,d,s,u]),(w.heap.size,25,#[.int .i64 X,.int .i64 Y,.int .i64 Z,.int .i64 P,.int .i64 Q,.int .i64 R])] w w8 := hj2.over hb8; have hown8 := own_below hown2 hb8; obtain ⟨dL,d0,d1,d2,d3,d4,d5⟩ := bl6 (KL.blk hj8 (.tail _ (.head _))); have dM := (KL.blk hj8 (.head _)).lt)
       have xL2 : IntKind.i64.wrap (L + V2) = L + V2 := IntWalk.i64_in _ (by have h := hLs.out; rw [if_neg (show ¬ 0 < D1 by omega),if_pos (show 0 < D2 by omega)] at h; omega)
       have HK2 := Lib.hid hk2
       clear hk2
       refine wp_region_any (by kernel_rfl) ?_
       try (change wpAny _ _ _ _ _ _ _ (World.drew _))
       refine wpAny_vals (fr := fun o => #[.agg #[x,y,z,p,q,r],.agg #[a,b,c,d,s,u],.int .i64 k,.pointer (some ⟨w.heap.size,0,none⟩),.pointer (some ⟨(w.heap.size + 1),0,none⟩),undef,.slice none 0 0,.int .i64 0,.slice A n c_,.int .i64 L,.int .i64 ((m : Int)),.int .i64 LP,.int .i64 HP,.int .i64 D1,u14,.int .i64 D2,.pointer (some ⟨w8.heap.size,0,none⟩),.slice (some ⟨(w.heap.size + 1 + 1),0,none⟩) 0 0,.int .i64 ((m : Int)),.bool true,u20,u21,.pointer (some ⟨(w.heap.size + 1),0,none⟩),.agg #[a,b,c],.int .i64 ((m : Int)),.int .i64 LP,.pointer (some ⟨(w.heap.size + 1),3,none⟩),.agg #[d,s,u],.int .i64 ((m : Int)),.int .i64 HP,.int .i64 LP,.pointer (some ⟨w.heap.size,0,none⟩),.agg #[.int .i64 X,.int .i64 Y,.int .i64 Z],.int .i64 ((m : Int)),.int .i64 lo,.int .i64 D1,.int .i64 D1,.bool false,u38,u39,u40,u41,u42,u43,u44,u45,u46,u47,u48,u49,u50,u51,u52,u53,u54,u55,u56,u57,u58,u59,u60,u61,u62,u63,u64,u65,u66,u67,u68,u69,u70,u71,u72,u73,u74,u75,u76,.pointer (some ⟨w.heap.size,3,none⟩),.agg #[.int .i64 P,.int .i64 Q,.int .i64 R],.int .i64 ((m : Int)),.int .i64 hi,.int .i64 HP,.int .i64 D2,.int .i64 D2,.bool true,.agg #[.int .i64 X,.int .i64 Y,.int .i64 Z,.int .i64 P,.int .i64 Q,.int .i64 R],o 0,o 1,o 2,o 3,o 4,o 5,o 6,o 7,o 8,o 9,o 10,o 11,o 12,o 13,o 14,o 16,u102,u103,u104,u105,u106,u107,u108,u109,u110,u111,u112,u113,u114,u115,u116,u117,u118,u119,u120,u121,undef,undef]) (vals := fun i_ => ([.pointer (some ⟨w.heap.size,0,none⟩),.agg #[.int .i64 X,.int .i64 Y,.int .i64 Z],.int .i64 ((m : Int)),.int .i64 HP,.agg #[.int .i64 (pt 0 X (m : Int) HP),.int .i64 (pt 1 Y (m : Int) HP),.int .i64 (pt 2 Z (m : Int) HP)],.pointer (some ⟨w.heap.size,3,none⟩),.agg #[.int .i64 P,.int .i64 Q,.int .i64 R],.int .i64 ((m : Int)),.int .i64 HP,.int .i64 D2,.int .i64 k,.int .i64 (if k < D2 then k else D2),.int .i64 E2,.agg #[.int .i64 (pt 0 P (m : Int) E2),.int .i64 (pt 1 Q (m : Int) E2),.int .i64 (pt 2 R (m : Int) E2)],.pointer (some ⟨w8.heap.size,0,none⟩),undef,.pointer (some ⟨w8.heap.size,3,none⟩),undef] : List Value).getD i_ undef) (Kf := fun W_ => KL [((w.heap.size + 1),25,#[a,b,c,d,s,u]),(w.heap.size,25,#[.int .i64 X,.int .i64 Y,.int .i64 Z,.int .i64 P,.int .i64 Q,.int .i64 R])] w8 W_) (K := fun kk_ => ([(KL [(w8.heap.size,25,#[.int .i64 X,.int .i64 Y,.int .i64 Z,.int .i64 P,.int .i64 Q,.int .i64 R]),((w.heap.size + 1),25,#[a,b,c,d,s,u]),(w.heap.size,25,#[.int .i64 X,.int .i64 Y,.int .i64 Z,.int .i64 P,.int .i64 Q,.int .i64 R])] w8),(KL [(w8.heap.size,25,#[.int .i64 (pt 0 X (m : Int) HP),.int .i64 (pt 1 Y (m : Int) HP),.int .i64 (pt 2 Z (m : Int) HP),.int .i64 P,.int .i64 Q,.int .i64 R]),((w.heap.size + 1),25,#[a,b,c,d,s,u]),(w.heap.size,25,#[.int .i64 X,.int .i64 Y,.int .i64 Z,.int .i64 P,.int .i64 Q,.int .i64 R])] w8),(KL [(w8.heap.size,25,#[.int .i64 (pt 0 X (m : Int) HP),.int .i64 (pt 1 Y (m : Int) HP),.int .i64 (pt 2 Z (m : Int) HP),.int .i64 (pt 0 P (m : Int) E2),.int .i64 (pt 1 Q (m : Int) E2),.int .i64 (pt 2 R (m : Int) E2)]),((w.heap.size + 1),25,#[a,b,c,d,s,u]),(w.heap.size,25,#[.int .i64 X,.int .i64 Y,.int .i64 Z,.int .i64 P,.int .i64 Q,.int .i64 R])] w8)] : List (World → Prop)).getD kk_ (fun _ => True)) (dep := fun i_ => [[],[0],[],[],[1,2,3],[],[5],[],[],[],[],[9,10],[8,11],[6,7,12],[],[1,4,13,14],[],[13,15,16]].getD i_ []) (dv := fun i_ => [[],[0],[],[],[1,2,3],[],[5],[],[],[],[],[9,10],[8,11],[6,7,12],[],[4,14],[],[13,16]].getD i_ []) (kd := fun i_ => [0,1,0,0,1,0,0,0,0,0,0,0,0,1,0,2,0,3].getD i_ 0) (ss := [15,17]) (l := [0,1,2,3,4,5,6,7,8,9,10,11,12,13,14,15,16,17]) (f0 := fun i_ => ([u86,u87,u88,u89,u90,u91,u92,u93,u94,u95,u96,u97,u98,u99,u100,undef,u101,undef] : List Value).getD i_ undef) (A := ?A7) 18 ?_ ?_ ?_ ?_ ?_ ?_ ⟨?_,?_,?_,?_,?_,?_,?_,?_,?_,?_,?_,?_,?_,?_,?_,?_,?_,?_,trivial⟩ ?_ ?_
       rotate_left
       ·rfl
       ·rfl
       ·decide +kernel
       ·decide +kernel
       ·exact KL.drew (KL.new (g := w8.heap.size) hj8.base rfl _ _)
       ·intro t_ W ht_ hh_
        rcases t_ with _ | _ | _ | _
        ·exact KL.part hh_ (fun p_ hp_ => by simp only [List.mem_cons,List.not_mem_nil,or_false] at hp_; rcases hp_ with rfl | rfl; exact (.tail _ (.head _)); exact (.tail _ (.tail _ (.head _))))
        ·exact KL.part hh_ (fun p_ hp_ => by simp only [List.mem_cons,List.not_mem_nil,or_false] at hp_; rcases hp_ with rfl | rfl; exact (.tail _ (.head _)); exact (.tail _ (.tail _ (.head _))))
        ·exact KL.part hh_ (fun p_ hp_ => by simp only [List.mem_cons,List.not_mem_nil,or_false] at hp_; rcases hp_ with rfl | rfl; exact (.tail _ (.head _)); exact (.tail _ (.tail _ (.head _))))
        ·exact absurd ht_ (by simp)
       ·intro o W _
        show wpOp _ _ _ 0 _ ⟨#[_,_,_,_,_,_,_,_,_,_,_,_,_,_,_,_,_,_,_,_,_,_,_,_,_,_,_,_,_,_,_,_,_,_,_,_,_,_,_,_,_,_,_,_,_,_,_,_,_,_,_,_,_,_,_,_,_,_,_,_,_,_,_,_,_,_,_,_,_,_,_,_,_,_,_,_,_,_,_,_,_,_,_,_,_,_,o 0,o 1,o 2,o 3,o 4,o 5,o 6,o 7,o 8,o 9,o 10,o 11,o 12,o 13,o 14,o 16,_,_,_,_,_,_,_,_,_,_,_,_,_,_,_,_,_,_,_,_,_,_],[]⟩ W
        refine wpOp_step rfl fun _ hK => ?_
        go_simp
        exact hK _ _ ⟨rfl,rfl⟩
       ·intro o W hj
        have hj : KL _ _ W := hj
        obtain ⟨cL,c0,c1,c2,c3,c4,c5⟩ := bl6 (KL.blk hj (.tail _ (.tail _ (.head _))))
        show wpOp _ _ _ 1 _ ⟨#[_,_,_,_,_,_,_,_,_,_,_,_,_,_,_,_,_,_,_,_,_,_,_,_,_,_,_,_,_,_,_,_,_,_,_,_,_,_,_,_,_,_,_,_,_,_,_,_,_,_,_,_,_,_,_,_,_,_,_,_,_,_,_,_,_,_,_,_,_,_,_,_,_,_,_,_,_,_,_,_,_,_,_,_,_,_,.pointer (some ⟨w.heap.size,0,none⟩),o 1,o 2,o 3,o 4,o 5,o 6,o 7,o 8,o 9,o 10,o 11,o 12,o 13,o 14,o 16,_,_,_,_,_,_,_,_,_,_,_,_,_,_,_,_,_,_,_,_,_,_],[]⟩ W
        refine wpOp_step rfl fun _ hK => ?_
        go_simp
        exact hK _ _ ⟨rfl,hj⟩
       ·intro o W _
        show wpOp _ _ _ 2 _ ⟨#[_,_,_,_,_,_,_,_,_,_,_,_,_,_,_,_,_,_,_,_,_,_,_,_,_,_,_,_,_,_,_,_,_,_,_,_,_,_,_,_,_,_,_,_,_,_,_,_,_,_,_,_,_,_,_,_,_,_,_,_,_,_,_,_,_,_,_,_,_,_,_,_,_,_,_,_,_,_,_,_,_,_,_,_,_,_,o 0,o 1,o 2,o 3,o 4,o 5,o 6,o 7,o 8,o 9,o 10,o 11,o 12,o 13,o 14,o 16,_,_,_,_,_,_,_,_,_,_,_,_,_,_,_,_,_,_,_,_,_,_],[]⟩ W
        refine wpOp_step rfl fun _ hK => ?_
        go_simp
        exact hK _ _ ⟨rfl,rfl⟩
       ·intro o W _
        show wpOp _ _ _ 3 _ ⟨#[_,_,_,_,_,_,_,_,_,_,_,_,_,_,_,_,_,_,_,_,_,_,_,_,_,_,_,_,_,_,_,_,_,_,_,_,_,_,_,_,_,_,_,_,_,_,_,_,_,_,_,_,_,_,_,_,_,_,_,_,_,_,_,_,_,_,_,_,_,_,_,_,_,_,_,_,_,_,_,_,_,_,_,_,_,_,o 0,o 1,o 2,o 3,o 4,o 5,o 6,o 7,o 8,o 9,o 10,o 11,o 12,o 13,o 14,o 16,_,_,_,_,_,_,_,_,_,_,_,_,_,_,_,_,_,_,_,_,_,_],[]⟩ W
        refine wpOp_step rfl fun _ hK => ?_
        go_simp
        exact hK _ _ ⟨rfl,rfl⟩
       ·intro o W hj
        have hj : KL _ _ W := hj
        show wpOp _ _ _ 4 _ ⟨#[_,_,_,_,_,_,_,_,_,_,_,_,_,_,_,_,_,_,_,_,_,_,_,_,_,_,_,_,_,_,_,_,_,_,_,_,_,_,_,_,_,_,_,_,_,_,_,_,_,_,_,_,_,_,_,_,_,_,_,_,_,_,_,_,_,_,_,_,_,_,_,_,_,_,_,_,_,_,_,_,_,_,_,_,_,_,o 0,.agg #[.int .i64 X,.int .i64 Y,.int .i64 Z],.int .i64 ((m : Int)),.int .i64 HP,o 4,o 5,o 6,o 7,o 8,o 9,o 10,o 11,o 12,o 13,o 14,o 16,_,_,_,_,_,_,_,_,_,_,_,_,_,_,_,_,_,_,_,_,_,_],[]⟩ W
        refine wpOp_step rfl fun _ hK => ?_
        go_simp
        refine (pn _ _ _ _ _).mono ?_
        rintro e W1 ⟨rfl,hb1⟩
        exact hK _ _ ⟨rfl,hj.over hb1⟩
       ·intro o W _
        show wpOp _ _ _ 5 _ ⟨#[_,_,_,_,_,_,_,_,_,_,_,_,_,_,_,_,_,_,_,_,_,_,_,_,_,_,_,_,_,_,_,_,_,_,_,_,_,_,_,_,_,_,_,_,_,_,_,_,_,_,_,_,_,_,_,_,_,_,_,_,_,_,_,_,_,_,_,_,_,_,_,_,_,_,_,_,_,_,_,_,_,_,_,_,_,_,o 0,o 1,o 2,o 3,o 4,o 5,o 6,o 7,o 8,o 9,o 10,o 11,o 12,o 13,o 14,o 16,_,_,_,_,_,_,_,_,_,_,_,_,_,_,_,_,_,_,_,_,_,_],[]⟩ W
        refine wpOp_step rfl fun _ hK => ?_
        go_simp
        exact hK _ _ ⟨rfl,rfl⟩
       ·intro o W hj
        have hj : KL _ _ W := hj
        obtain ⟨cL,c0,c1,c2,c3,c4,c5⟩ := bl6 (KL.blk hj (.tail _ (.head _)))
        show wpOp _ _ _ 6 _ ⟨#[_,_,_,_,_,_,_,_,_,_,_,_,_,_,_,_,_,_,_,_,_,_,_,_,_,_,_,_,_,_,_,_,_,_,_,_,_,_,_,_,_,_,_,_,_,_,_,_,_,_,_,_,_,_,_,_,_,_,_,_,_,_,_,_,_,_,_,_,_,_,_,_,_,_,_,_,_,_,_,_,_,_,_,_,_,_,o 0,o 1,o 2,o 3,o 4,.pointer (some ⟨w.heap.size,3,none⟩),o 6,o 7,o 8,o 9,o 10,o 11,o 12,o 13,o 14,o 16,_,_,_,_,_,_,_,_,_,_,_,_,_,_,_,_,_,_,_,_,_,_],[]⟩ W
        refine wpOp_step rfl fun _ hK => ?_
        go_simp
        exact hK _ _ ⟨rfl,rfl⟩
       ·intro o W _
        show wpOp _ _ _ 7 _ ⟨#[_,_,_,_,_,_,_,_,_,_,_,_,_,_,_,_,_,_,_,_,_,_,_,_,_,_,_,_,_,_,_,_,_,_,_,_,_,_,_,_,_,_,_,_,_,_,_,_,_,_,_,_,_,_,_,_,_,_,_,_,_,_,_,_,_,_,_,_,_,_,_,_,_,_,_,_,_,_,_,_,_,_,_,_,_,_,o 0,o 1,o 2,o 3,o 4,o 5,o 6,o 7,o 8,o 9,o 10,o 11,o 12,o 13,o 14,o 16,_,_,_,_,_,_,_,_,_,_,_,_,_,_,_,_,_,_,_,_,_,_],[]⟩ W
        refine wpOp_step rfl fun _ hK => ?_
        go_simp
        exact hK _ _ ⟨rfl,rfl⟩
       ·intro o W _
        show wpOp _ _ _ 8 _ ⟨#[_,_,_,_,_,_,_,_,_,_,_,_,_,_,_,_,_,_,_,_,_,_,_,_,_,_,_,_,_,_,_,_,_,_,_,_,_,_,_,_,_,_,_,_,_,_,_,_,_,_,_,_,_,_,_,_,_,_,_,_,_,_,_,_,_,_,_,_,_,_,_,_,_,_,_,_,_,_,_,_,_,_,_,_,_,_,o 0,o 1,o 2,o 3,o 4,o 5,o 6,o 7,o 8,o 9,o 10,o 11,o 12,o 13,o 14,o 16,_,_,_,_,_,_,_,_,_,_,_,_,_,_,_,_,_,_,_,_,_,_],[]⟩ W
        refine wpOp_step rfl fun _ hK => ?_
        go_simp
        exact hK _ _ ⟨rfl,rfl⟩
       ·intro o W _
        show wpOp _ _ _ 9 _ ⟨#[_,_,_,_,_,_,_,_,_,_,_,_,_,_,_,_,_,_,_,_,_,_,_,_,_,_,_,_,_,_,_,_,_,_,_,_,_,_,_,_,_,_,_,_,_,_,_,_,_,_,_,_,_,_,_,_,_,_,_,_,_,_,_,_,_,_,_,_,_,_,_,_,_,_,_,_,_,_,_,_,_,_,_,_,_,_,o 0,o 1,o 2,o 3,o 4,o 5,o 6,o 7,o 8,o 9,o 10,o 11,o 12,o 13,o 14,o 16,_,_,_,_,_,_,_,_,_,_,_,_,_,_,_,_,_,_,_,_,_,_],[]⟩ W
        refine wpOp_step rfl fun _ hK => ?_
        go_simp
        exact hK _ _ ⟨rfl,rfl⟩
       ·intro o W _
        show wpOp _ _ _ 10 _ ⟨#[_,_,_,_,_,_,_,_,_,_,_,_,_,_,_,_,_,_,_,_,_,_,_,_,_,_,_,_,_,_,_,_,_,_,_,_,_,_,_,_,_,_,_,_,_,_,_,_,_,_,_,_,_,_,_,_,_,_,_,_,_,_,_,_,_,_,_,_,_,_,_,_,_,_,_,_,_,_,_,_,_,_,_,_,_,_,o 0,o 1,o 2,o 3,o 4,o 5,o 6,o 7,o 8,o 9,o 10,o 11,o 12,o 13,o 14,o 16,_,_,_,_,_,_,_,_,_,_,_,_,_,_,_,_,_,_,_,_,_,_],[]⟩ W
        refine wpOp_step rfl fun _ hK => ?_
        go_simp
        exact hK _ _ ⟨rfl,rfl⟩
       ·intro o W _
        show wpOp _ _ _ 11 _ ⟨#[_,_,_,_,_,_,_,_,_,_,_,_,_,_,_,_,_,_,_,_,_,_,_,_,_,_,_,_,_,_,_,_,_,_,_,_,_,_,_,_,_,_,_,_,_,_,_,_,_,_,_,_,_,_,_,_,_,_,_,_,_,_,_,_,_,_,_,_,_,_,_,_,_,_,_,_,_,_,_,_,_,_,_,_,_,_,o 0,o 1,o 2,o 3,o 4,o 5,o 6,o 7,o 8,.int .i64 D2,.int .i64 k,o 11,o 12,o 13,o 14,o 16,_,_,_,_,_,_,_,_,_,_,_,_,_,_,_,_,_,_,_,_,_,_],[]⟩ W
        refine wpOp_step rfl fun _ hK => ?_
        go_simp
        exact hK _ _ ⟨rfl,rfl⟩
       ·intro o W _
        show wpOp _ _ _ 12 _ ⟨#[_,_,_,_,_,_,_,_,_,_,_,_,_,_,_,_,_,_,_,_,_,_,_,_,_,_,_,_,_,_,_,_,_,_,_,_,_,_,_,_,_,_,_,_,_,_,_,_,_,_,_,_,_,_,_,_,_,_,_,_,_,_,_,_,_,_,_,_,_,_,_,_,_,_,_,_,_,_,_,_,_,_,_,_,_,_,o 0,o 1,o 2,o 3,o 4,o 5,o 6,o 7,.int .i64 HP,o 9,o 10,.int .i64 (if k < D2 then k else D2),o 12,o 13,o 14,o 16,_,_,_,_,_,_,_,_,_,_,_,_,_,_,_,_,_,_,_,_,_,_],[]⟩ W
        refine wpOp_step rfl fun _ hK => ?_
        go_simp
        exact hK _ _ ⟨rfl,rfl⟩
       ·intro o W hj
        have hj : KL _ _ W := hj
        show wpOp _ _ _ 13 _ ⟨#[_,_,_,_,_,_,_,_,_,_,_,_,_,_,_,_,_,_,_,_,_,_,_,_,_,_,_,_,_,_,_,_,_,_,_,_,_,_,_,_,_,_,_,_,_,_,_,_,_,_,_,_,_,_,_,_,_,_,_,_,_,_,_,_,_,_,_,_,_,_,_,_,_,_,_,_,_,_,_,_,_,_,_,_,_,_,o 0,o 1,o 2,o 3,o 4,o 5,.agg #[.int .i64 P,.int .i64 Q,.int .i64 R],.int .i64 ((m : Int)),o 8,o 9,o 10,o 11,.int .i64 E2,o 13,o 14,o 16,_,_,_,_,_,_,_,_,_,_,_,_,_,_,_,_,_,_,_,_,_,_],[]⟩ W
        refine wpOp_step rfl fun _ hK => ?_
        go_simp
        refine (pn _ _ _ _ _).mono ?_
        rintro e W1 ⟨rfl,hb1⟩
        exact hK _ _ ⟨rfl,hj.over hb1⟩
       ·intro o W _
        show wpOp _ _ _ 14 _ ⟨#[_,_,_,_,_,_,_,_,_,_,_,_,_,_,_,_,_,_,_,_,_,_,_,_,_,_,_,_,_,_,_,_,_,_,_,_,_,_,_,_,_,_,_,_,_,_,_,_,_,_,_,_,_,_,_,_,_,_,_,_,_,_,_,_,_,_,_,_,_,_,_,_,_,_,_,_,_,_,_,_,_,_,_,_,_,_,o 0,o 1,o 2,o 3,o 4,o 5,o 6,o 7,o 8,o 9,o 10,o 11,o 12,o 13,o 14,o 16,_,_,_,_,_,_,_,_,_,_,_,_,_,_,_,_,_,_,_,_,_,_],[]⟩ W
        refine wpOp_step rfl fun _ hK => ?_
        go_simp
        exact hK _ _ ⟨rfl,rfl⟩
       ·intro o W hj
        have hj : KL _ _ W := hj
        obtain ⟨cL,c0,c1,c2,c3,c4,c5⟩ := bl6 (KL.blk hj (.head _))
        have cF := (KL.blk hj (.head _)).frozen
        show wpOp _ _ _ 15 _ ⟨#[_,_,_,_,_,_,_,_,_,_,_,_,_,_,_,_,_,_,_,_,_,_,_,_,_,_,_,_,_,_,_,_,_,_,_,_,_,_,_,_,_,_,_,_,_,_,_,_,_,_,_,_,_,_,_,_,_,_,_,_,_,_,_,_,_,_,_,_,_,_,_,_,_,_,_,_,_,_,_,_,_,_,_,_,_,_,o 0,o 1,o 2,o 3,.agg #[.int .i64 (pt 0 X (m : Int) HP),.int .i64 (pt 1 Y (m : Int) HP),.int .i64 (pt 2 Z (m : Int) HP)],o 5,o 6,o 7,o 8,o 9,o 10,o 11,o 12,o 13,.pointer (some ⟨w8.heap.size,0,none⟩),o 16,_,_,_,_,_,_,_,_,_,_,_,_,_,_,_,_,_,_,_,_,_,_],[]⟩ W
        refine wpOp_step rfl fun _ hK => ?_
        go_simp
        exact hK _ _ ⟨rfl,(KL.upL 0 hj rfl (by omega) (by simp <;> omega))⟩
       ·intro o W _
        show wpOp _ _ _ 16 _ ⟨#[_,_,_,_,_,_,_,_,_,_,_,_,_,_,_,_,_,_,_,_,_,_,_,_,_,_,_,_,_,_,_,_,_,_,_,_,_,_,_,_,_,_,_,_,_,_,_,_,_,_,_,_,_,_,_,_,_,_,_,_,_,_,_,_,_,_,_,_,_,_,_,_,_,_,_,_,_,_,_,_,_,_,_,_,_,_,o 0,o 1,o 2,o 3,o 4,o 5,o 6,o 7,o 8,o 9,o 10,o 11,o 12,o 13,o 14,o 16,_,_,_,_,_,_,_,_,_,_,_,_,_,_,_,_,_,_,_,_,_,_],[]⟩ W
        refine wpOp_step rfl fun _ hK => ?_
        go_simp
        exact hK _ _ ⟨rfl,rfl⟩
       ·intro o W hj
        have hj : KL _ _ W := hj
        obtain ⟨cL,c0,c1,c2,c3,c4,c5⟩ := bl6 (KL.blk hj (.head _))
        have cF := (KL.blk hj (.head _)).frozen
        show wpOp _ _ _ 17 _ ⟨#[_,_,_,_,_,_,_,_,_,_,_,_,_,_,_,_,_,_,_,_,_,_,_,_,_,_,_,_,_,_,_,_,_,_,_,_,_,_,_,_,_,_,_,_,_,_,_,_,_,_,_,_,_,_,_,_,_,_,_,_,_,_,_,_,_,_,_,_,_,_,_,_,_,_,_,_,_,_,_,_,_,_,_,_,_,_,o 0,o 1,o 2,o 3,o 4,o 5,o 6,o 7,o 8,o 9,o 10,o 11,o 12,.agg #[.int .i64 (pt 0 P (m : Int) E2),.int .i64 (pt 1 Q (m : Int) E2),.int .i64 (pt 2 R (m : Int) E2)],o 14,.pointer (some ⟨w8.heap.size,3,none⟩),_,_,_,_,_,_,_,_,_,_,_,_,_,_,_,_,_,_,_,_,_,_],[]⟩ W
        refine wpOp_step rfl fun _ hK => ?_
        go_simp
        exact hK _ _ ⟨rfl,(KL.upH 0 hj rfl (by omega) (by simp <;> omega))⟩
       ·intro o hh_
        have e0 : o 0 = .pointer (some ⟨w.heap.size,0,none⟩) := hh_ 0 (by decide)
        have e1 : o 1 = .agg #[.int .i64 X,.int .i64 Y,.int .i64 Z] := hh_ 1 (by decide)
        have e2 : o 2 = .int .i64 ((m : Int)) := hh_ 2 (by decide)
        have e3 : o 3 = .int .i64 HP := hh_ 3 (by decide)
        have e4 : o 4 = .agg #[.int .i64 (pt 0 X (m : Int) HP),.int .i64 (pt 1 Y (m : Int) HP),.int .i64 (pt 2 Z (m : Int) HP)] := hh_ 4 (by decide)
        have e5 : o 5 = .pointer (some ⟨w.heap.size,3,none⟩) := hh_ 5 (by decide)
        have e6 : o 6 = .agg #[.int .i64 P,.int .i64 Q,.int .i64 R] := hh_ 6 (by decide)
        have e7 : o 7 = .int .i64 ((m : Int)) := hh_ 7 (by decide)
        have e8 : o 8 = .int .i64 HP := hh_ 8 (by decide)
        have e9 : o 9 = .int .i64 D2 := hh_ 9 (by decide)
        have e10 : o 10 = .int .i64 k := hh_ 10 (by decide)
        have e11 : o 11 = .int .i64 (if k < D2 then k else D2) := hh_ 11 (by decide)
        have e12 : o 12 = .int .i64 E2 := hh_ 12 (by decide)
        have e13 : o 13 = .agg #[.int .i64 (pt 0 P (m : Int) E2),.int .i64 (pt 1 Q (m : Int) E2),.int .i64 (pt 2 R (m : Int) E2)] := hh_ 13 (by decide)
        have e14 : o 14 = .pointer (some ⟨w8.heap.size,0,none⟩) := hh_ 14 (by decide)
        have e16 : o 16 = .pointer (some ⟨w8.heap.size,3,none⟩) := hh_ 16 (by decide)
        rw [e0,e1,e2,e3,e4,e5,e6,e7,e8,e9,e10,e11,e12,e13,e14,e16]
       ·intro W9 h9
        have h9 : KL _ _ W9 := h9
        obtain ⟨eL0,e0_0,e0_1,e0_2,e0_3,e0_4,e0_5⟩ := bl6 (KL.blk h9 (.head _))
        obtain ⟨eL1,e1_0,e1_1,e1_2,e1_3,e1_4,e1_5⟩ := bl6 (KL.blk h9 (.tail _ (.head _)))
        obtain ⟨eL2,e2_0,e2_1,e2_2,e2_3,e2_4,e2_5⟩ := bl6 (KL.blk h9 (.tail _ (.tail _ (.head _))))
        have hjb := h9.1
        have hjz := hjb.size
        have hk2 := HK2.out
        have hj9 := hj8.over hjb
        have hown9 := own_below hown8 hjb
        have t4 : decide (k < D2) = true := by simpa using hk2
        go_wp2_with (first
         | (go_at_call 19; refine (hV2 _).mono ?_; rintro e w10 ⟨rfl,hb10⟩; have hj10 := hj9.over hb10; have hown10 := own_below hown9 hb10; have hz10 := hb10.size; obtain ⟨fL,f0,f1,f2,f3,f4,f5⟩ := bl6 (KL.blk hj10 (.tail _ (.head _))); have fM := (KL.blk hj10 (.head _)).lt)
         | (at_builtin; refine wpList_append_kl rfl (.tmp 109) (.tmp 114) _ rfl (w.heap.size + 1 + 1) 27 i0 _ 3 24 Try.underlying62 in0 in1 in2 in3 rfl (by decide) (.slice A n c_) n _ rfl (hown10.alloc _) (w10.heap.size + 1) (some ⟨w10.heap.size,0,none⟩) 1 1 [.int .i64 ((m : Int)),.int .i64 HP,.int .i64 k] rfl (reads_new (Blk.new _ _ _) rfl (by omega)) cut_one (n + 1) (xs ++ [.int .i64 ((m : Int)),.int .i64 HP,.int .i64 k]) rfl rfl (by simp only [maxLen]; omega) (by omega) (hj10.alloc _) (by simp <;> omega) (by omega) (by simp <;> omega) ?_; intro A6 c6 w11 hown11 hj11 hs11; obtain ⟨gL,g0,g1,g2,g3,g4,g5⟩ := bl6 (KL.blk hj11 (.tail _ (.head _))); have gM := (KL.blk hj11 (.head _)).lt)
         | (go_at_call 47; refine (pn _ _ _ _ _).mono ?_; rintro e w12 ⟨rfl,hb12⟩; have hj12 : KL [((w.heap.size + 1),25,#[a,b,c,d,s,u]),(w.heap.size,25,#[.int .i64 X,.int .i64 Y,.int .i64 Z,.int .i64 P,.int .i64 Q,.int .i64 R])] w w12 := hj11.over hb12; have hown12 := own_below hown11 hb12; obtain ⟨hL,h0,h1,h2,h3,h4,h5⟩ := bl6 (KL.blk hj12 (.tail _ (.head _))); have hM := (KL.blk hj12 (.head _)).lt; have hF := (KL.blk hj12 (.tail _ (.head _))).frozen))
        go_roundw
        case rel => exact ⟨m + 1,(n + 1),A6,c6,X,Y,Z,(pt 0 P (m : Int) HP),(pt 1 Q (m : Int) HP),(pt 2 R (m : Int) HP),L + V2,(xs ++ [.int .i64 ((m : Int)),.int .i64 HP,.int .i64 k]),by omega,rfl,rfl,by go_num,by
         have h := HS.out
         rw [if_neg (show ¬ 0 < D1 by omega),if_pos (show 0 < D2 by omega),if_neg (show ¬ k < D1 by omega),if_neg (show ¬ k < D1 by omega),if_pos (show k < D2 by omega),if_pos (show k < D2 by omega)] at h
         (repeat rw [List.append_nil] at h)
         (repeat rw [Int.add_zero] at h)
         rw [eX,eY,eZ] at h
         skip
         exact h,(own_far (p := ⟨w.heap.size,5,none⟩) (own_far (p := ⟨w.heap.size,4,none⟩) (own_far (p := ⟨w.heap.size,3,none⟩) hown12 _ (by show w.heap.size < _; omega)) _ (by show w.heap.size < _; omega)) _ (by show w.heap.size < _; omega)),KL.upH 1 hj12 rfl (by omega) (by simp <;> omega)⟩
        case measure => simp [intOf] <;> omega
      ·have t2 : decide (0 < D2) = true := by simpa using hz2
       go_wp2_with (go_at_call 41; (with_reducible refine (gh _).mono ?_); rintro e w8 ⟨rfl,hb8⟩; have hj8 : KL [((w.heap.size + 1),25,#[a,b,c,d,s,u]),(w.heap.size,25,#[.int .i64 X,.int .i64 Y,.int .i64 Z,.int .i64 P,.int .i64 Q,.int .i64 R])] w w8 := hj2.over hb8; have hown8 := own_below hown2 hb8; obtain ⟨dL,d0,d1,d2,d3,d4,d5⟩ := bl6 (KL.blk hj8 (.tail _ (.head _))); have dM := (KL.blk hj8 (.head _)).lt)
       have xL2 : IntKind.i64.wrap (L + V2) = L + V2 := IntWalk.i64_in _ (by have h := hLs.out; rw [if_neg (show ¬ 0 < D1 by omega),if_pos (show 0 < D2 by omega)] at h; omega)
       have HK2 := Lib.hid hk2
       clear hk2
       refine wp_region_any (by kernel_rfl) ?_
       try (change wpAny _ _ _ _ _ _ _ (World.drew _))
       refine wpAny_vals (fr := fun o => #[.agg #[x,y,z,p,q,r],.agg #[a,b,c,d,s,u],.int .i64 k,.pointer (some ⟨w.heap.size,0,none⟩),.pointer (some ⟨(w.heap.size + 1),0,none⟩),undef,.slice none 0 0,.int .i64 0,.slice A n c_,.int .i64 L,.int .i64 ((m : Int)),.int .i64 LP,.int .i64 HP,.int .i64 D1,u14,.int .i64 D2,.pointer (some ⟨w8.heap.size,0,none⟩),.slice (some ⟨(w.heap.size + 1 + 1),0,none⟩) 0 0,.int .i64 ((m : Int)),.bool true,u20,u21,.pointer (some ⟨(w.heap.size + 1),0,none⟩),.agg #[a,b,c],.int .i64 ((m : Int)),.int .i64 LP,.pointer (some ⟨(w.heap.size + 1),3,none⟩),.agg #[d,s,u],.int .i64 ((m : Int)),.int .i64 HP,.int .i64 LP,.pointer (some ⟨w.heap.size,0,none⟩),.agg #[.int .i64 X,.int .i64 Y,.int .i64 Z],.int .i64 ((m : Int)),.int .i64 lo,.int .i64 D1,.int .i64 D1,.bool false,u38,u39,u40,u41,u42,u43,u44,u45,u46,u47,u48,u49,u50,u51,u52,u53,u54,u55,u56,u57,u58,u59,u60,u61,u62,u63,u64,u65,u66,u67,u68,u69,u70,u71,u72,u73,u74,u75,u76,.pointer (some ⟨w.heap.size,3,none⟩),.agg #[.int .i64 P,.int .i64 Q,.int .i64 R],.int .i64 ((m : Int)),.int .i64 hi,.int .i64 HP,.int .i64 D2,.int .i64 D2,.bool true,.agg #[.int .i64 X,.int .i64 Y,.int .i64 Z,.int .i64 P,.int .i64 Q,.int .i64 R],o 0,o 1,o 2,o 3,o 4,o 5,o 6,o 7,o 8,o 9,o 10,o 11,o 12,o 13,o 14,o 16,u102,u103,u104,u105,u106,u107,u108,u109,u110,u111,u112,u113,u114,u115,u116,u117,u118,u119,u120,u121,undef,undef]) (vals := fun i_ => ([.pointer (some ⟨w.heap.size,0,none⟩),.agg #[.int .i64 X,.int .i64 Y,.int .i64 Z],.int .i64 ((m : Int)),.int .i64 HP,.agg #[.int .i64 (pt 0 X (m : Int) HP),.int .i64 (pt 1 Y (m : Int) HP),.int .i64 (pt 2 Z (m : Int) HP)],.pointer (some ⟨w.heap.size,3,none⟩),.agg #[.int .i64 P,.int .i64 Q,.int .i64 R],.int .i64 ((m : Int)),.int .i64 HP,.int .i64 D2,.int .i64 k,.int .i64 (if k < D2 then k else D2),.int .i64 E2,.agg #[.int .i64 (pt 0 P (m : Int) E2),.int .i64 (pt 1 Q (m : Int) E2),.int .i64 (pt 2 R (m : Int) E2)],.pointer (some ⟨w8.heap.size,0,none⟩),undef,.pointer (some ⟨w8.heap.size,3,none⟩),undef] : List Value).getD i_ undef) (Kf := fun W_ => KL [((w.heap.size + 1),25,#[a,b,c,d,s,u]),(w.heap.size,25,#[.int .i64 X,.int .i64 Y,.int .i64 Z,.int .i64 P,.int .i64 Q,.int .i64 R])] w8 W_) (K := fun kk_ => ([(KL [(w8.heap.size,25,#[.int .i64 X,.int .i64 Y,.int .i64 Z,.int .i64 P,.int .i64 Q,.int .i64 R]),((w.heap.size + 1),25,#[a,b,c,d,s,u]),(w.heap.size,25,#[.int .i64 X,.int .i64 Y,.int .i64 Z,.int .i64 P,.int .i64 Q,.int .i64 R])] w8),(KL [(w8.heap.size,25,#[.int .i64 (pt 0 X (m : Int) HP),.int .i64 (pt 1 Y (m : Int) HP),.int .i64 (pt 2 Z (m : Int) HP),.int .i64 P,.int .i64 Q,.int .i64 R]),((w.heap.size + 1),25,#[a,b,c,d,s,u]),(w.heap.size,25,#[.int .i64 X,.int .i64 Y,.int .i64 Z,.int .i64 P,.int .i64 Q,.int .i64 R])] w8),(KL [(w8.heap.size,25,#[.int .i64 (pt 0 X (m : Int) HP),.int .i64 (pt 1 Y (m : Int) HP),.int .i64 (pt 2 Z (m : Int) HP),.int .i64 (pt 0 P (m : Int) E2),.int .i64 (pt 1 Q (m : Int) E2),.int .i64 (pt 2 R (m : Int) E2)]),((w.heap.size + 1),25,#[a,b,c,d,s,u]),(w.heap.size,25,#[.int .i64 X,.int .i64 Y,.int .i64 Z,.int .i64 P,.int .i64 Q,.int .i64 R])] w8)] : List (World → Prop)).getD kk_ (fun _ => True)) (dep := fun i_ => [[],[0],[],[],[1,2,3],[],[5],[],[],[],[],[9,10],[8,11],[6,7,12],[],[1,4,13,14],[],[13,15,16]].getD i_ []) (dv := fun i_ => [[],[0],[],[],[1,2,3],[],[5],[],[],[],[],[9,10],[8,11],[6,7,12],[],[4,14],[],[13,16]].getD i_ []) (kd := fun i_ => [0,1,0,0,1,0,0,0,0,0,0,0,0,1,0,2,0,3].getD i_ 0) (ss := [15,17]) (l := [0,1,2,3,4,5,6,7,8,9,10,11,12,13,14,15,16,17]) (f0 := fun i_ => ([u86,u87,u88,u89,u90,u91,u92,u93,u94,u95,u96,u97,u98,u99,u100,undef,u101,undef] : List Value).getD i_ undef) (A := ?A8) 18 ?_ ?_ ?_ ?_ ?_ ?_ ⟨?_,?_,?_,?_,?_,?_,?_,?_,?_,?_,?_,?_,?_,?_,?_,?_,?_,?_,trivial⟩ ?_ ?_
       rotate_left
       ·rfl
       ·rfl
       ·decide +kernel
       ·decide +kernel
       ·exact KL.drew (KL.new (g := w8.heap.size) hj8.base rfl _ _)
       ·intro t_ W ht_ hh_
        rcases t_ with _ | _ | _ | _
        ·exact KL.part hh_ (fun p_ hp_ => by simp only [List.mem_cons,List.not_mem_nil,or_false] at hp_; rcases hp_ with rfl | rfl; exact (.tail _ (.head _)); exact (.tail _ (.tail _ (.head _))))
        ·exact KL.part hh_ (fun p_ hp_ => by simp only [List.mem_cons,List.not_mem_nil,or_false] at hp_; rcases hp_ with rfl | rfl; exact (.tail _ (.head _)); exact (.tail _ (.tail _ (.head _))))
        ·exact KL.part hh_ (fun p_ hp_ => by simp only [List.mem_cons,List.not_mem_nil,or_false] at hp_; rcases hp_ with rfl | rfl; exact (.tail _ (.head _)); exact (.tail _ (.tail _ (.head _))))
        ·exact absurd ht_ (by simp)
       ·intro o W _
        show wpOp _ _ _ 0 _ ⟨#[_,_,_,_,_,_,_,_,_,_,_,_,_,_,_,_,_,_,_,_,_,_,_,_,_,_,_,_,_,_,_,_,_,_,_,_,_,_,_,_,_,_,_,_,_,_,_,_,_,_,_,_,_,_,_,_,_,_,_,_,_,_,_,_,_,_,_,_,_,_,_,_,_,_,_,_,_,_,_,_,_,_,_,_,_,_,o 0,o 1,o 2,o 3,o 4,o 5,o 6,o 7,o 8,o 9,o 10,o 11,o 12,o 13,o 14,o 16,_,_,_,_,_,_,_,_,_,_,_,_,_,_,_,_,_,_,_,_,_,_],[]⟩ W
        refine wpOp_step rfl fun _ hK => ?_
        go_simp
        exact hK _ _ ⟨rfl,rfl⟩
       ·intro o W hj
        have hj : KL _ _ W := hj
        obtain ⟨cL,c0,c1,c2,c3,c4,c5⟩ := bl6 (KL.blk hj (.tail _ (.tail _ (.head _))))
        show wpOp _ _ _ 1 _ ⟨#[_,_,_,_,_,_,_,_,_,_,_,_,_,_,_,_,_,_,_,_,_,_,_,_,_,_,_,_,_,_,_,_,_,_,_,_,_,_,_,_,_,_,_,_,_,_,_,_,_,_,_,_,_,_,_,_,_,_,_,_,_,_,_,_,_,_,_,_,_,_,_,_,_,_,_,_,_,_,_,_,_,_,_,_,_,_,.pointer (some ⟨w.heap.size,0,none⟩),o 1,o 2,o 3,o 4,o 5,o 6,o 7,o 8,o 9,o 10,o 11,o 12,o 13,o 14,o 16,_,_,_,_,_,_,_,_,_,_,_,_,_,_,_,_,_,_,_,_,_,_],[]⟩ W
        refine wpOp_step rfl fun _ hK => ?_
        go_simp
        exact hK _ _ ⟨rfl,hj⟩
       ·intro o W _
        show wpOp _ _ _ 2 _ ⟨#[_,_,_,_,_,_,_,_,_,_,_,_,_,_,_,_,_,_,_,_,_,_,_,_,_,_,_,_,_,_,_,_,_,_,_,_,_,_,_,_,_,_,_,_,_,_,_,_,_,_,_,_,_,_,_,_,_,_,_,_,_,_,_,_,_,_,_,_,_,_,_,_,_,_,_,_,_,_,_,_,_,_,_,_,_,_,o 0,o 1,o 2,o 3,o 4,o 5,o 6,o 7,o 8,o 9,o 10,o 11,o 12,o 13,o 14,o 16,_,_,_,_,_,_,_,_,_,_,_,_,_,_,_,_,_,_,_,_,_,_],[]⟩ W
        refine wpOp_step rfl fun _ hK => ?_
        go_simp
        exact hK _ _ ⟨rfl,rfl⟩
       ·intro o W _
        show wpOp _ _ _ 3 _ ⟨#[_,_,_,_,_,_,_,_,_,_,_,_,_,_,_,_,_,_,_,_,_,_,_,_,_,_,_,_,_,_,_,_,_,_,_,_,_,_,_,_,_,_,_,_,_,_,_,_,_,_,_,_,_,_,_,_,_,_,_,_,_,_,_,_,_,_,_,_,_,_,_,_,_,_,_,_,_,_,_,_,_,_,_,_,_,_,o 0,o 1,o 2,o 3,o 4,o 5,o 6,o 7,o 8,o 9,o 10,o 11,o 12,o 13,o 14,o 16,_,_,_,_,_,_,_,_,_,_,_,_,_,_,_,_,_,_,_,_,_,_],[]⟩ W
        refine wpOp_step rfl fun _ hK => ?_
        go_simp
        exact hK _ _ ⟨rfl,rfl⟩
       ·intro o W hj
        have hj : KL _ _ W := hj
        show wpOp _ _ _ 4 _ ⟨#[_,_,_,_,_,_,_,_,_,_,_,_,_,_,_,_,_,_,_,_,_,_,_,_,_,_,_,_,_,_,_,_,_,_,_,_,_,_,_,_,_,_,_,_,_,_,_,_,_,_,_,_,_,_,_,_,_,_,_,_,_,_,_,_,_,_,_,_,_,_,_,_,_,_,_,_,_,_,_,_,_,_,_,_,_,_,o 0,.agg #[.int .i64 X,.int .i64 Y,.int .i64 Z],.int .i64 ((m : Int)),.int .i64 HP,o 4,o 5,o 6,o 7,o 8,o 9,o 10,o 11,o 12,o 13,o 14,o 16,_,_,_,_,_,_,_,_,_,_,_,_,_,_,_,_,_,_,_,_,_,_],[]⟩ W
        refine wpOp_step rfl fun _ hK => ?_
        go_simp
        refine (pn _ _ _ _ _).mono ?_
        rintro e W1 ⟨rfl,hb1⟩
        exact hK _ _ ⟨rfl,hj.over hb1⟩
       ·intro o W _
        show wpOp _ _ _ 5 _ ⟨#[_,_,_,_,_,_,_,_,_,_,_,_,_,_,_,_,_,_,_,_,_,_,_,_,_,_,_,_,_,_,_,_,_,_,_,_,_,_,_,_,_,_,_,_,_,_,_,_,_,_,_,_,_,_,_,_,_,_,_,_,_,_,_,_,_,_,_,_,_,_,_,_,_,_,_,_,_,_,_,_,_,_,_,_,_,_,o 0,o 1,o 2,o 3,o 4,o 5,o 6,o 7,o 8,o 9,o 10,o 11,o 12,o 13,o 14,o 16,_,_,_,_,_,_,_,_,_,_,_,_,_,_,_,_,_,_,_,_,_,_],[]⟩ W
        refine wpOp_step rfl fun _ hK => ?_
        go_simp
        exact hK _ _ ⟨rfl,rfl⟩
       ·intro o W hj
        have hj : KL _ _ W := hj
        obtain ⟨cL,c0,c1,c2,c3,c4,c5⟩ := bl6 (KL.blk hj (.tail _ (.head _)))
        show wpOp _ _ _ 6 _ ⟨#[_,_,_,_,_,_,_,_,_,_,_,_,_,_,_,_,_,_,_,_,_,_,_,_,_,_,_,_,_,_,_,_,_,_,_,_,_,_,_,_,_,_,_,_,_,_,_,_,_,_,_,_,_,_,_,_,_,_,_,_,_,_,_,_,_,_,_,_,_,_,_,_,_,_,_,_,_,_,_,_,_,_,_,_,_,_,o 0,o 1,o 2,o 3,o 4,.pointer (some ⟨w.heap.size,3,none⟩),o 6,o 7,o 8,o 9,o 10,o 11,o 12,o 13,o 14,o 16,_,_,_,_,_,_,_,_,_,_,_,_,_,_,_,_,_,_,_,_,_,_],[]⟩ W
        refine wpOp_step rfl fun _ hK => ?_
        go_simp
        exact hK _ _ ⟨rfl,rfl⟩
       ·intro o W _
        show wpOp _ _ _ 7 _ ⟨#[_,_,_,_,_,_,_,_,_,_,_,_,_,_,_,_,_,_,_,_,_,_,_,_,_,_,_,_,_,_,_,_,_,_,_,_,_,_,_,_,_,_,_,_,_,_,_,_,_,_,_,_,_,_,_,_,_,_,_,_,_,_,_,_,_,_,_,_,_,_,_,_,_,_,_,_,_,_,_,_,_,_,_,_,_,_,o 0,o 1,o 2,o 3,o 4,o 5,o 6,o 7,o 8,o 9,o 10,o 11,o 12,o 13,o 14,o 16,_,_,_,_,_,_,_,_,_,_,_,_,_,_,_,_,_,_,_,_,_,_],[]⟩ W
        refine wpOp_step rfl fun _ hK => ?_
        go_simp
        exact hK _ _ ⟨rfl,rfl⟩
       ·intro o W _
        show wpOp _ _ _ 8 _ ⟨#[_,_,_,_,_,_,_,_,_,_,_,_,_,_,_,_,_,_,_,_,_,_,_,_,_,_,_,_,_,_,_,_,_,_,_,_,_,_,_,_,_,_,_,_,_,_,_,_,_,_,_,_,_,_,_,_,_,_,_,_,_,_,_,_,_,_,_,_,_,_,_,_,_,_,_,_,_,_,_,_,_,_,_,_,_,_,o 0,o 1,o 2,o 3,o 4,o 5,o 6,o 7,o 8,o 9,o 10,o 11,o 12,o 13,o 14,o 16,_,_,_,_,_,_,_,_,_,_,_,_,_,_,_,_,_,_,_,_,_,_],[]⟩ W
        refine wpOp_step rfl fun _ hK => ?_
        go_simp
        exact hK _ _ ⟨rfl,rfl⟩
       ·intro o W _
        show wpOp _ _ _ 9 _ ⟨#[_,_,_,_,_,_,_,_,_,_,_,_,_,_,_,_,_,_,_,_,_,_,_,_,_,_,_,_,_,_,_,_,_,_,_,_,_,_,_,_,_,_,_,_,_,_,_,_,_,_,_,_,_,_,_,_,_,_,_,_,_,_,_,_,_,_,_,_,_,_,_,_,_,_,_,_,_,_,_,_,_,_,_,_,_,_,o 0,o 1,o 2,o 3,o 4,o 5,o 6,o 7,o 8,o 9,o 10,o 11,o 12,o 13,o 14,o 16,_,_,_,_,_,_,_,_,_,_,_,_,_,_,_,_,_,_,_,_,_,_],[]⟩ W
        refine wpOp_step rfl fun _ hK => ?_
        go_simp
        exact hK _ _ ⟨rfl,rfl⟩
       ·intro o W _
        show wpOp _ _ _ 10 _ ⟨#[_,_,_,_,_,_,_,_,_,_,_,_,_,_,_,_,_,_,_,_,_,_,_,_,_,_,_,_,_,_,_,_,_,_,_,_,_,_,_,_,_,_,_,_,_,_,_,_,_,_,_,_,_,_,_,_,_,_,_,_,_,_,_,_,_,_,_,_,_,_,_,_,_,_,_,_,_,_,_,_,_,_,_,_,_,_,o 0,o 1,o 2,o 3,o 4,o 5,o 6,o 7,o 8,o 9,o 10,o 11,o 12,o 13,o 14,o 16,_,_,_,_,_,_,_,_,_,_,_,_,_,_,_,_,_,_,_,_,_,_],[]⟩ W
        refine wpOp_step rfl fun _ hK => ?_
        go_simp
        exact hK _ _ ⟨rfl,rfl⟩
       ·intro o W _
        show wpOp _ _ _ 11 _ ⟨#[_,_,_,_,_,_,_,_,_,_,_,_,_,_,_,_,_,_,_,_,_,_,_,_,_,_,_,_,_,_,_,_,_,_,_,_,_,_,_,_,_,_,_,_,_,_,_,_,_,_,_,_,_,_,_,_,_,_,_,_,_,_,_,_,_,_,_,_,_,_,_,_,_,_,_,_,_,_,_,_,_,_,_,_,_,_,o 0,o 1,o 2,o 3,o 4,o 5,o 6,o 7,o 8,.int .i64 D2,.int .i64 k,o 11,o 12,o 13,o 14,o 16,_,_,_,_,_,_,_,_,_,_,_,_,_,_,_,_,_,_,_,_,_,_],[]⟩ W
        refine wpOp_step rfl fun _ hK => ?_
        go_simp
        exact hK _ _ ⟨rfl,rfl⟩
       ·intro o W _
        show wpOp _ _ _ 12 _ ⟨#[_,_,_,_,_,_,_,_,_,_,_,_,_,_,_,_,_,_,_,_,_,_,_,_,_,_,_,_,_,_,_,_,_,_,_,_,_,_,_,_,_,_,_,_,_,_,_,_,_,_,_,_,_,_,_,_,_,_,_,_,_,_,_,_,_,_,_,_,_,_,_,_,_,_,_,_,_,_,_,_,_,_,_,_,_,_,o 0,o 1,o 2,o 3,o 4,o 5,o 6,o 7,.int .i64 HP,o 9,o 10,.int .i64 (if k < D2 then k else D2),o 12,o 13,o 14,o 16,_,_,_,_,_,_,_,_,_,_,_,_,_,_,_,_,_,_,_,_,_,_],[]⟩ W
        refine wpOp_step rfl fun _ hK => ?_
        go_simp
        exact hK _ _ ⟨rfl,rfl⟩
       ·intro o W hj
        have hj : KL _ _ W := hj
        show wpOp _ _ _ 13 _ ⟨#[_,_,_,_,_,_,_,_,_,_,_,_,_,_,_,_,_,_,_,_,_,_,_,_,_,_,_,_,_,_,_,_,_,_,_,_,_,_,_,_,_,_,_,_,_,_,_,_,_,_,_,_,_,_,_,_,_,_,_,_,_,_,_,_,_,_,_,_,_,_,_,_,_,_,_,_,_,_,_,_,_,_,_,_,_,_,o 0,o 1,o 2,o 3,o 4,o 5,.agg #[.int .i64 P,.int .i64 Q,.int .i64 R],.int .i64 ((m : Int)),o 8,o 9,o 10,o 11,.int .i64 E2,o 13,o 14,o 16,_,_,_,_,_,_,_,_,_,_,_,_,_,_,_,_,_,_,_,_,_,_],[]⟩ W
        refine wpOp_step rfl fun _ hK => ?_
        go_simp
        refine (pn _ _ _ _ _).mono ?_
        rintro e W1 ⟨rfl,hb1⟩
        exact hK _ _ ⟨rfl,hj.over hb1⟩
       ·intro o W _
        show wpOp _ _ _ 14 _ ⟨#[_,_,_,_,_,_,_,_,_,_,_,_,_,_,_,_,_,_,_,_,_,_,_,_,_,_,_,_,_,_,_,_,_,_,_,_,_,_,_,_,_,_,_,_,_,_,_,_,_,_,_,_,_,_,_,_,_,_,_,_,_,_,_,_,_,_,_,_,_,_,_,_,_,_,_,_,_,_,_,_,_,_,_,_,_,_,o 0,o 1,o 2,o 3,o 4,o 5,o 6,o 7,o 8,o 9,o 10,o 11,o 12,o 13,o 14,o 16,_,_,_,_,_,_,_,_,_,_,_,_,_,_,_,_,_,_,_,_,_,_],[]⟩ W
        refine wpOp_step rfl fun _ hK => ?_
        go_simp
        exact hK _ _ ⟨rfl,rfl⟩
       ·intro o W hj
        have hj : KL _ _ W := hj
        obtain ⟨cL,c0,c1,c2,c3,c4,c5⟩ := bl6 (KL.blk hj (.head _))
        have cF := (KL.blk hj (.head _)).frozen
        show wpOp _ _ _ 15 _ ⟨#[_,_,_,_,_,_,_,_,_,_,_,_,_,_,_,_,_,_,_,_,_,_,_,_,_,_,_,_,_,_,_,_,_,_,_,_,_,_,_,_,_,_,_,_,_,_,_,_,_,_,_,_,_,_,_,_,_,_,_,_,_,_,_,_,_,_,_,_,_,_,_,_,_,_,_,_,_,_,_,_,_,_,_,_,_,_,o 0,o 1,o 2,o 3,.agg #[.int .i64 (pt 0 X (m : Int) HP),.int .i64 (pt 1 Y (m : Int) HP),.int .i64 (pt 2 Z (m : Int) HP)],o 5,o 6,o 7,o 8,o 9,o 10,o 11,o 12,o 13,.pointer (some ⟨w8.heap.size,0,none⟩),o 16,_,_,_,_,_,_,_,_,_,_,_,_,_,_,_,_,_,_,_,_,_,_],[]⟩ W
        refine wpOp_step rfl fun _ hK => ?_
        go_simp
        exact hK _ _ ⟨rfl,(KL.upL 0 hj rfl (by omega) (by simp <;> omega))⟩
       ·intro o W _
        show wpOp _ _ _ 16 _ ⟨#[_,_,_,_,_,_,_,_,_,_,_,_,_,_,_,_,_,_,_,_,_,_,_,_,_,_,_,_,_,_,_,_,_,_,_,_,_,_,_,_,_,_,_,_,_,_,_,_,_,_,_,_,_,_,_,_,_,_,_,_,_,_,_,_,_,_,_,_,_,_,_,_,_,_,_,_,_,_,_,_,_,_,_,_,_,_,o 0,o 1,o 2,o 3,o 4,o 5,o 6,o 7,o 8,o 9,o 10,o 11,o 12,o 13,o 14,o 16,_,_,_,_,_,_,_,_,_,_,_,_,_,_,_,_,_,_,_,_,_,_],[]⟩ W
        refine wpOp_step rfl fun _ hK => ?_
        go_simp
        exact hK _ _ ⟨rfl,rfl⟩
       ·intro o W hj
        have hj : KL _ _ W := hj
        obtain ⟨cL,c0,c1,c2,c3,c4,c5⟩ := bl6 (KL.blk hj (.head _))
        have cF := (KL.blk hj (.head _)).frozen
        show wpOp _ _ _ 17 _ ⟨#[_,_,_,_,_,_,_,_,_,_,_,_,_,_,_,_,_,_,_,_,_,_,_,_,_,_,_,_,_,_,_,_,_,_,_,_,_,_,_,_,_,_,_,_,_,_,_,_,_,_,_,_,_,_,_,_,_,_,_,_,_,_,_,_,_,_,_,_,_,_,_,_,_,_,_,_,_,_,_,_,_,_,_,_,_,_,o 0,o 1,o 2,o 3,o 4,o 5,o 6,o 7,o 8,o 9,o 10,o 11,o 12,.agg #[.int .i64 (pt 0 P (m : Int) E2),.int .i64 (pt 1 Q (m : Int) E2),.int .i64 (pt 2 R (m : Int) E2)],o 14,.pointer (some ⟨w8.heap.size,3,none⟩),_,_,_,_,_,_,_,_,_,_,_,_,_,_,_,_,_,_,_,_,_,_],[]⟩ W
        refine wpOp_step rfl fun _ hK => ?_
        go_simp
        exact hK _ _ ⟨rfl,(KL.upH 0 hj rfl (by omega) (by simp <;> omega))⟩
       ·intro o hh_
        have e0 : o 0 = .pointer (some ⟨w.heap.size,0,none⟩) := hh_ 0 (by decide)
        have e1 : o 1 = .agg #[.int .i64 X,.int .i64 Y,.int .i64 Z] := hh_ 1 (by decide)
        have e2 : o 2 = .int .i64 ((m : Int)) := hh_ 2 (by decide)
        have e3 : o 3 = .int .i64 HP := hh_ 3 (by decide)
        have e4 : o 4 = .agg #[.int .i64 (pt 0 X (m : Int) HP),.int .i64 (pt 1 Y (m : Int) HP),.int .i64 (pt 2 Z (m : Int) HP)] := hh_ 4 (by decide)
        have e5 : o 5 = .pointer (some ⟨w.heap.size,3,none⟩) := hh_ 5 (by decide)
        have e6 : o 6 = .agg #[.int .i64 P,.int .i64 Q,.int .i64 R] := hh_ 6 (by decide)
        have e7 : o 7 = .int .i64 ((m : Int)) := hh_ 7 (by decide)
        have e8 : o 8 = .int .i64 HP := hh_ 8 (by decide)
        have e9 : o 9 = .int .i64 D2 := hh_ 9 (by decide)
        have e10 : o 10 = .int .i64 k := hh_ 10 (by decide)
        have e11 : o 11 = .int .i64 (if k < D2 then k else D2) := hh_ 11 (by decide)
        have e12 : o 12 = .int .i64 E2 := hh_ 12 (by decide)
        have e13 : o 13 = .agg #[.int .i64 (pt 0 P (m : Int) E2),.int .i64 (pt 1 Q (m : Int) E2),.int .i64 (pt 2 R (m : Int) E2)] := hh_ 13 (by decide)
        have e14 : o 14 = .pointer (some ⟨w8.heap.size,0,none⟩) := hh_ 14 (by decide)
        have e16 : o 16 = .pointer (some ⟨w8.heap.size,3,none⟩) := hh_ 16 (by decide)
        rw [e0,e1,e2,e3,e4,e5,e6,e7,e8,e9,e10,e11,e12,e13,e14,e16]
       ·intro W9 h9
        have h9 : KL _ _ W9 := h9
        obtain ⟨eL0,e0_0,e0_1,e0_2,e0_3,e0_4,e0_5⟩ := bl6 (KL.blk h9 (.head _))
        obtain ⟨eL1,e1_0,e1_1,e1_2,e1_3,e1_4,e1_5⟩ := bl6 (KL.blk h9 (.tail _ (.head _)))
        obtain ⟨eL2,e2_0,e2_1,e2_2,e2_3,e2_4,e2_5⟩ := bl6 (KL.blk h9 (.tail _ (.tail _ (.head _))))
        have hjb := h9.1
        have hjz := hjb.size
        have hk2 := HK2.out
        have hj9 := hj8.over hjb
        have hown9 := own_below hown8 hjb
        have t4 : decide (k < D2) = false := by simpa using hk2
        go_wp2_with (first
         | (go_at_call 19; refine (hV2 _).mono ?_; rintro e w10 ⟨rfl,hb10⟩; have hj10 := hj9.over hb10; have hown10 := own_below hown9 hb10; have hz10 := hb10.size; obtain ⟨fL,f0,f1,f2,f3,f4,f5⟩ := bl6 (KL.blk hj10 (.tail _ (.head _))); have fM := (KL.blk hj10 (.head _)).lt)
         | (go_at_call 47; refine (pn _ _ _ _ _).mono ?_; rintro e w12 ⟨rfl,hb12⟩; have hj12 : KL [((w.heap.size + 1),25,#[a,b,c,d,s,u]),(w.heap.size,25,#[.int .i64 X,.int .i64 Y,.int .i64 Z,.int .i64 P,.int .i64 Q,.int .i64 R])] w w12 := hj10.over hb12; have hown12 := own_below hown10 hb12; obtain ⟨hL,h0,h1,h2,h3,h4,h5⟩ := bl6 (KL.blk hj12 (.tail _ (.head _))); have hM := (KL.blk hj12 (.head _)).lt; have hF := (KL.blk hj12 (.tail _ (.head _))).frozen))
        go_roundw
        case rel => exact ⟨m + 1,n,A,c_,X,Y,Z,(pt 0 P (m : Int) HP),(pt 1 Q (m : Int) HP),(pt 2 R (m : Int) HP),L + V2,xs,by omega,rfl,rfl,by go_num,by
         have h := HS.out
         rw [if_neg (show ¬ 0 < D1 by omega),if_pos (show 0 < D2 by omega),if_neg (show ¬ k < D1 by omega),if_neg (show ¬ k < D1 by omega),if_neg (show ¬ k < D2 by omega),if_neg (show ¬ k < D2 by omega)] at h
         (repeat rw [List.append_nil] at h)
         (repeat rw [Int.add_zero] at h)
         rw [eX,eY,eZ] at h
         skip
         exact h,(own_far (p := ⟨w.heap.size,5,none⟩) (own_far (p := ⟨w.heap.size,4,none⟩) (own_far (p := ⟨w.heap.size,3,none⟩) hown12 _ (by show w.heap.size < _; omega)) _ (by show w.heap.size < _; omega)) _ (by show w.heap.size < _; omega)),KL.upH 1 hj12 rfl (by omega) (by simp <;> omega)⟩
        case measure => simp [intOf] <;> omega
     ·have hk2 : ¬ k < D2 := by omega
      have t2 : decide (0 < D2) = false := by simpa using hz2
      go_wp2_with (go_at_call 41; (with_reducible refine (gh _).mono ?_); rintro e w8 ⟨rfl,hb8⟩; have hj8 : KL [((w.heap.size + 1),25,#[a,b,c,d,s,u]),(w.heap.size,25,#[.int .i64 X,.int .i64 Y,.int .i64 Z,.int .i64 P,.int .i64 Q,.int .i64 R])] w w8 := hj2.over hb8; have hown8 := own_below hown2 hb8; obtain ⟨dL,d0,d1,d2,d3,d4,d5⟩ := bl6 (KL.blk hj8 (.tail _ (.head _))); have dM := (KL.blk hj8 (.head _)).lt)
      obtain ⟨eP,eQ,eR⟩ := hPP.out (by omega)
      go_roundw
      case rel => exact ⟨m + 1,n,A,c_,X,Y,Z,P,Q,R,L,xs,by omega,rfl,rfl,by go_num,by
       have h := HS.out
       rw [if_neg (show ¬ 0 < D1 by omega),if_neg (show ¬ 0 < D2 by omega),if_neg (show ¬ k < D1 by omega),if_neg (show ¬ k < D1 by omega),if_neg (show ¬ k < D2 by omega),if_neg (show ¬ k < D2 by omega)] at h
       (repeat rw [List.append_nil] at h)
       (repeat rw [Int.add_zero] at h)
       rw [eX,eY,eZ] at h
       rw [eP,eQ,eR] at h
       exact h,hown8,hj8⟩
      case measure => simp [intOf] <;> omega
  ·obtain rfl : m = 3 := by omega
   obtain ⟨_,_,_,_,_,_,hL,hn,hxs⟩ := hst
   have HL := Lib.hid hL
   have HN := Lib.hid hn
   have HX := Lib.hid hxs
   clear hL hn hxs
   have hjw := hj.1
   go_wp2
   go_ret2
   exact ⟨A,c_,by rw [← HL.out,← HN.out]; rfl,by rw [← HN.out,← HX.out]; exact RowA.of_own hown,hjw⟩
end Go.Proofs.Ytogmgaaejepcbaa
