/- KerfParts: if a box is split at its Cuts,one after the other,each first part is a slice,and what is left at the end is the rest,or the last slice with what is ground off. No condition. -/
import Derived.Test.YtogmgaaejepcbaaCor
import Derived.Test.YtogmgaaejepcbaaSlices
import Derived.Test.YtogmgaaejepcbaaJnx
import Derived.Test.YtogmgaaejepcbaaSpl
import Derived.Test.YtogmgaaejepcbaaLos
import Derived.Test.YtogmgaaejepcbaaAwk
import Derived.Test.YtogmgaaejepcbaaLfk
namespace Go.Proofs.Ytogmgaaejepcbaa
open Go.RowKit

set_option maxHeartbeats 16000000 in
set_option maxRecDepth 100000 in
theorem parts_run (x y z p q r a t k : Int) (r0 r1 r2 r3 r4 r5 : Int) (N M : Nat) (xs ys : List Value) (sV lV mV : Nat → Nat → Int) (ct : Nat → Int) (hN0 : 0 < N) (hN : N ≤ 100) (hM : M ≤ N)
  (hlx : ∀ m,m < N → xs[m * 6]? = some (.int .i64 (sV m 0)) ∧ xs[m * 6 + 1]? = some (.int .i64 (sV m 1)) ∧ xs[m * 6 + 2]? = some (.int .i64 (sV m 2)) ∧ xs[m * 6 + 3]? = some (.int .i64 (sV m 3)) ∧ xs[m * 6 + 4]? = some (.int .i64 (sV m 4)) ∧ xs[m * 6 + 5]? = some (.int .i64 (sV m 5)))
  (hly : ∀ m,m < M → ys[m * 3]? = some (.int .i64 a) ∧ ys[m * 3 + 1]? = some (.int .i64 (ct m)) ∧ ys[m * 3 + 2]? = some (.int .i64 k))
  (hl0 : lV 0 0 = x ∧ lV 0 1 = y ∧ lV 0 2 = z ∧ lV 0 3 = p ∧ lV 0 4 = q ∧ lV 0 5 = r)
  (hS : ∀ w,Calls Try.prog 28 #[.agg #[x,y,z,p,q,r],.int .i64 a,.int .i64 t,.int .i64 k] w fun e w' => ∃ A c,e = .returned (.tuple #[.slice A N c,.agg #[r0,r1,r2,r3,r4,r5],.int .i64 0]) ∧ RowA w' 6 A N xs ∧ Below w.heap.size w w')
  (hC : ∀ w,Calls Try.prog 29 #[.agg #[x,y,z,p,q,r],.int .i64 a,.int .i64 t,.int .i64 k] w fun e w' => ∃ A c,e = .returned (.tuple #[.slice A M c,.int .i64 0]) ∧ RowA w' 3 A M ys ∧ Below w.heap.size w w')
  (hsp : ∀ m,m < M → ∀ w,Calls Try.prog 14 #[.agg #[.int .i64 (lV m 0),.int .i64 (lV m 1),.int .i64 (lV m 2),.int .i64 (lV m 3),.int .i64 (lV m 4),.int .i64 (lV m 5)],.agg #[a,.int .i64 (ct m),k]] w fun e w' => e = .returned (.tuple #[.agg #[.int .i64 (sV m 0),.int .i64 (sV m 1),.int .i64 (sV m 2),.int .i64 (sV m 3),.int .i64 (sV m 4),.int .i64 (sV m 5)],.agg #[.int .i64 (mV m 0),.int .i64 (mV m 1),.int .i64 (mV m 2),.int .i64 (mV m 3),.int .i64 (mV m 4),.int .i64 (mV m 5)],.agg #[.int .i64 (lV (m + 1) 0),.int .i64 (lV (m + 1) 1),.int .i64 (lV (m + 1) 2),.int .i64 (lV (m + 1) 3),.int .i64 (lV (m + 1) 4),.int .i64 (lV (m + 1) 5)],.int .i64 0]) ∧ Below w.heap.size w w')
  (hA : ∀ w,Calls Try.prog 12 #[] w fun e w' => e = .returned (.bool true) ∧ Below w.heap.size w w')
  (hend : (M = N ∧ ((r0 == 0 && (r1 == 0 && r2 == 0)) && (r3 == 0 && (r4 == 0 && r5 == 0))) = false ∧ r0 = lV M 0 ∧ r1 = lV M 1 ∧ r2 = lV M 2 ∧ r3 = lV M 3 ∧ r4 = lV M 4 ∧ r5 = lV M 5) ∨
   (N = M + 1 ∧ (r0 = 0 ∧ r1 = 0 ∧ r2 = 0 ∧ r3 = 0 ∧ r4 = 0 ∧ r5 = 0) ∧ (sV M 0 = lV M 0 ∧ sV M 1 = lV M 1 ∧ sV M 2 = lV M 2) ∧ (-10000000000 ≤ lV M 3 ∧ lV M 3 ≤ 10000000000 ∧ -10000000000 ≤ lV M 4 ∧ lV M 4 ≤ 10000000000 ∧ -10000000000 ≤ lV M 5 ∧ lV M 5 ≤ 10000000000 ∧ -10000000000 ≤ sV M 3 ∧ sV M 3 ≤ 10000000000 ∧ -10000000000 ≤ sV M 4 ∧ sV M 4 ≤ 10000000000 ∧ -10000000000 ≤ sV M 5 ∧ sV M 5 ≤ 10000000000) ∧ 0 ≤ lV M 3 - sV M 3 + lV M 4 - sV M 4 + lV M 5 - sV M 5 ∧ lV M 3 - sV M 3 + lV M 4 - sV M 4 + lV M 5 - sV M 5 ≤ k)) (w : World) :
  Calls Try.prog 10 #[.agg #[x,y,z,p,q,r],.int .i64 a,.int .i64 t,.int .i64 k] w fun e w' => e = .returned (.bool true) ∧ Below w.heap.size w w' := by
 have hlxH := Lib.hid hlx
 have hlyH := Lib.hid hly
 have hspH := Lib.hid hsp
 have hendH := Lib.hid hend
 have hl0H := Lib.hid hl0
 have d0 : decide (100 < (N : Int)) = false := by simp <;> omega
 have d00 : decide (100 < N) = false := by simp <;> omega
 clear hlx hly hsp hend hl0
 go_enter Try.func10,Try.ntmps10
 go_wp2_with (first
  | (go_at_call 12; refine (hA _).mono ?_; rintro e w1 ⟨rfl,hb1⟩; obtain ⟨hc1,hf1⟩ := bcell hb1; have hz1 := hb1.size; (try simp at hz1); (try have y10 : w.heap.size < w1.heap.size := (by omega)); (try have y10p : w.heap.size < w1.heap.size + 1 := (by omega)); (try have y11 : w.heap.size + 1 < w1.heap.size := (by omega)); (try have y11p : w.heap.size + 1 < w1.heap.size + 1 := (by omega)); (try have y12 : w.heap.size + 1 + 1 < w1.heap.size := (by omega)); (try have y12p : w.heap.size + 1 + 1 < w1.heap.size + 1 := (by omega)); (try have y13 : w.heap.size + 1 + 1 + 1 < w1.heap.size := (by omega)); (try have y13p : w.heap.size + 1 + 1 + 1 < w1.heap.size + 1 := (by omega)); (try have y14 : w.heap.size + 1 + 1 + 1 + 1 < w1.heap.size := (by omega)); (try have y14p : w.heap.size + 1 + 1 + 1 + 1 < w1.heap.size + 1 := (by omega)); (try have v0x1 : w0.heap.size < w1.heap.size := (by omega)); (try have v0x1p : w0.heap.size < w1.heap.size + 1 := (by omega)))
  | (go_at_call 28; refine (hS _).mono ?_; rintro e w2 ⟨A1_,cpS,rfl,hr1_,hb2⟩; obtain ⟨hc2,hf2⟩ := bcell hb2; have hz2 := hb2.size; (try simp at hz2); (try have y20 : w.heap.size < w2.heap.size := (by omega)); (try have y20p : w.heap.size < w2.heap.size + 1 := (by omega)); (try have y21 : w.heap.size + 1 < w2.heap.size := (by omega)); (try have y21p : w.heap.size + 1 < w2.heap.size + 1 := (by omega)); (try have y22 : w.heap.size + 1 + 1 < w2.heap.size := (by omega)); (try have y22p : w.heap.size + 1 + 1 < w2.heap.size + 1 := (by omega)); (try have y23 : w.heap.size + 1 + 1 + 1 < w2.heap.size := (by omega)); (try have y23p : w.heap.size + 1 + 1 + 1 < w2.heap.size + 1 := (by omega)); (try have y24 : w.heap.size + 1 + 1 + 1 + 1 < w2.heap.size := (by omega)); (try have y24p : w.heap.size + 1 + 1 + 1 + 1 < w2.heap.size + 1 := (by omega)); (try have v0x2 : w0.heap.size < w2.heap.size := (by omega)); (try have v0x2p : w0.heap.size < w2.heap.size + 1 := (by omega)); (try have v1x2 : w1.heap.size < w2.heap.size := (by omega)); (try have v1x2p : w1.heap.size < w2.heap.size + 1 := (by omega)); obtain ⟨gS,rfl,hgS,hcS_⟩ := hr1_.2 hN0; have hcS0 := Lib.hid hcS_; clear hr1_ hcS_)
  | (go_at_call 29; refine (hC _).mono ?_; rintro e w3 ⟨A2,cpC,rfl,hr2_,hb3⟩; obtain ⟨hc3,hf3⟩ := bcell hb3; have hz3 := hb3.size; (try simp at hz3); (try have y30 : w.heap.size < w3.heap.size := (by omega)); (try have y30p : w.heap.size < w3.heap.size + 1 := (by omega)); (try have y31 : w.heap.size + 1 < w3.heap.size := (by omega)); (try have y31p : w.heap.size + 1 < w3.heap.size + 1 := (by omega)); (try have y32 : w.heap.size + 1 + 1 < w3.heap.size := (by omega)); (try have y32p : w.heap.size + 1 + 1 < w3.heap.size + 1 := (by omega)); (try have y33 : w.heap.size + 1 + 1 + 1 < w3.heap.size := (by omega)); (try have y33p : w.heap.size + 1 + 1 + 1 < w3.heap.size + 1 := (by omega)); (try have y34 : w.heap.size + 1 + 1 + 1 + 1 < w3.heap.size := (by omega)); (try have y34p : w.heap.size + 1 + 1 + 1 + 1 < w3.heap.size + 1 := (by omega)); (try have v0x3 : w0.heap.size < w3.heap.size := (by omega)); (try have v0x3p : w0.heap.size < w3.heap.size + 1 := (by omega)); (try have v1x3 : w1.heap.size < w3.heap.size := (by omega)); (try have v1x3p : w1.heap.size < w3.heap.size + 1 := (by omega)); (try have v2x3 : w2.heap.size < w3.heap.size := (by omega)); (try have v2x3p : w2.heap.size < w3.heap.size + 1 := (by omega)); have hr2 := Lib.hid hr2_; clear hr2_))
 have B23 : Below w2.heap.size w2 w3 := (by (repeat (first | with_reducible exact Below.refl _ _ | with_reducible refine Below.setCell ?_ ?_ _ | with_reducible refine Below.alloc ?_ ?_ _ | with_reducible refine Below.drew ?_ | with_reducible refine below_drewN ?_ _ | (refine Below.trans ?_ (bmono (by assumption) ?_)))); all_goals (first | omega | (simp <;> omega)))
 have hjS : KL [(w3.heap.size,25,#[x,y,z,p,q,r]),(w2.heap.size,25,#[r0,r1,r2,r3,r4,r5]),(w.heap.size,25,#[x,y,z,p,q,r])] w _ := KL.new (g := w3.heap.size) (KL.over (KL.new (g := w2.heap.size) (KL.over (KL.over (KL.new (g := w.heap.size) (KL.nil w) rfl _ _) hb1) hb2) rfl _ _) hb3) rfl _ _
 go_loopw [15] (fun i wr => ∃ m : Nat,i = .int .i64 (m : Int) ∧ m ≤ M ∧ Below w3.heap.size w3 wr ∧ KL [(w3.heap.size,25,#[.int .i64 ((lV m 0)),.int .i64 ((lV m 1)),.int .i64 ((lV m 2)),.int .i64 ((lV m 3)),.int .i64 ((lV m 4)),.int .i64 ((lV m 5))]),(w2.heap.size,25,#[r0,r1,r2,r3,r4,r5]),(w.heap.size,25,#[x,y,z,p,q,r])] w wr) (fun i _ => M - (intOf i).toNat)
 case atStart =>
  obtain ⟨f0,f1,f2,f3,f4,f5⟩ := hl0H.out
  exact ⟨0,rfl,by omega,(Below.refl _ _).alloc (Nat.le_refl _) _,by rw [f0,f1,f2,f3,f4,f5]; exact hjS⟩
 case round =>
  obtain ⟨m,rfl,hm,hbw,hj⟩ := hrel
  obtain ⟨cL1,c1_0,c1_1,c1_2,c1_3,c1_4,c1_5⟩ := bl6 (KL.blk hj (.tail _ (.head _)))
  obtain ⟨cL2,c2_0,c2_1,c2_2,c2_3,c2_4,c2_5⟩ := bl6 (KL.blk hj (.tail _ (.tail _ (.head _))))
  have cL0 := (KL.blk hj (.head _)).lt
  have hsz := hj.1.size
  by_cases h : m < M
  ·obtain ⟨e0,e1,e2,e3,e4,e5⟩ := hlxH.out m (by omega)
   obtain ⟨f0,f1,f2⟩ := hlyH.out m h
   obtain ⟨gC,rfl,hgC,hcC_⟩ := hr2.out.2 (by omega)
   have hcS := ((C6.mk hgS (hcS0.out _ _ e0) (hcS0.out _ _ e1) (hcS0.out _ _ e2) (hcS0.out _ _ e3) (hcS0.out _ _ e4) (hcS0.out _ _ e5)).over B23).over hbw
   have hcC := (C3.mk hgC (hcC_ _ _ f0) (hcC_ _ _ f1) (hcC_ _ _ f2)).over hbw
   have hs := hspH.out m h
   clear e0 e1 e2 e3 e4 e5 f0 f1 f2 hcC_
   have n0_ : lV (m + 1) 0 = lV (m + 1) 0 := rfl
   have n1_ : lV (m + 1) 1 = lV (m + 1) 1 := rfl
   have n2_ : lV (m + 1) 2 = lV (m + 1) 2 := rfl
   have n3_ : lV (m + 1) 3 = lV (m + 1) 3 := rfl
   have n4_ : lV (m + 1) 4 = lV (m + 1) 4 := rfl
   have n5_ : lV (m + 1) 5 = lV (m + 1) 5 := rfl
   generalize ct m = T at *
   generalize sV m 0 = S0 at *
   generalize sV m 1 = S1 at *
   generalize sV m 2 = S2 at *
   generalize sV m 3 = S3 at *
   generalize sV m 4 = S4 at *
   generalize sV m 5 = S5 at *
   generalize lV m 0 = L0 at *
   generalize lV m 1 = L1 at *
   generalize lV m 2 = L2 at *
   generalize lV m 3 = L3 at *
   generalize lV m 4 = L4 at *
   generalize lV m 5 = L5 at *
   generalize mV m 0 = D0 at *
   generalize mV m 1 = D1 at *
   generalize mV m 2 = D2 at *
   generalize mV m 3 = D3 at *
   generalize mV m 4 = D4 at *
   generalize mV m 5 = D5 at *
   generalize hn0 : lV (m + 1) 0 = N0 at *
   generalize hn1 : lV (m + 1) 1 = N1 at *
   generalize hn2 : lV (m + 1) 2 = N2 at *
   generalize hn3 : lV (m + 1) 3 = N3 at *
   generalize hn4 : lV (m + 1) 4 = N4 at *
   generalize hn5 : lV (m + 1) 5 = N5 at *
   have n0 := Lib.hid hn0
   have n1 := Lib.hid hn1
   have n2 := Lib.hid hn2
   have n3 := Lib.hid hn3
   have n4 := Lib.hid hn4
   have n5 := Lib.hid hn5
   clear hn0 n0_ hn1 n1_ hn2 n2_ hn3 n3_ hn4 n4_ hn5 n5_
   have d1 : decide ((m : Int) < (M : Int)) = true := by simp <;> omega
   have d2 : decide ((N : Int) ≤ (m : Int)) = false := by simp <;> omega
   have d3 : decide (N ≤ m) = false := by simp <;> omega
   have i1 : (0 : Int) ≤ (m : Int) := by omega
   have i2 : (m : Int) < (M : Int) := by omega
   have i3 : (m : Int) < (N : Int) := by omega
   have q1 : ∀ w,Sem.run Try.prog (binOp .neq 25 (.agg #[.int .i64 S0,.int .i64 S1,.int .i64 S2,.int .i64 S3,.int .i64 S4,.int .i64 S5]) (.agg #[.int .i64 S0,.int .i64 S1,.int .i64 S2,.int .i64 S3,.int .i64 S4,.int .i64 S5])) w = .ok (.bool false) w := fun w => by rw [neB_run]; simp
   have x1 : IntKind.i64.wrap ((m : Int) + 1) = (m : Int) + 1 := IntWalk.i64_in _ (by omega)
   go_wp2
   refine wp_region_any (by kernel_rfl) ?_
   try (change wpAny _ _ _ _ _ _ _ (World.drew _))
   refine wpAny_alloc (fr := fun o => #[.agg #[x,y,z,p,q,r],.int .i64 a,.int .i64 t,.int .i64 k,.pointer (some ⟨w.heap.size,0,none⟩),undef,undef,undef,u8,.slice (some ⟨gS,0,none⟩) N cpS,.pointer (some ⟨w2.heap.size,0,none⟩),.int .i64 0,.slice (some ⟨gC,0,none⟩) M cpC,.int .i64 0,.pointer (some ⟨w3.heap.size,0,none⟩),.int .i64 ((m : Int)),o 11,o 12,o 13,o 17,undef,undef,.bool true,.bool false,.tuple #[.slice (some ⟨gS,0,none⟩) N cpS,.agg #[r0,r1,r2,r3,r4,r5],.int .i64 0],.agg #[x,y,z,p,q,r],.int .i64 a,.int .i64 t,.int .i64 k,.tuple #[.slice (some ⟨gS,0,none⟩) N cpS,.agg #[r0,r1,r2,r3,r4,r5],.int .i64 0],.slice (some ⟨gS,0,none⟩) N cpS,.agg #[r0,r1,r2,r3,r4,r5],.int .i64 0,.tuple #[.slice (some ⟨gC,0,none⟩) M cpC,.int .i64 0],.agg #[x,y,z,p,q,r],.int .i64 a,.int .i64 t,.int .i64 k,.tuple #[.slice (some ⟨gC,0,none⟩) M cpC,.int .i64 0],.slice (some ⟨gC,0,none⟩) M cpC,.int .i64 0,.int .i64 0,.int .i64 0,.bool false,.int .i64 0,.bool false,.bool false,.slice (some ⟨gS,0,none⟩) N cpS,.int .i64 ((N : Int)),.bool false,.bool false,undef,undef,undef,undef,undef,undef,undef,.agg #[x,y,z,p,q,r],.int .i64 ((m : Int)),.slice (some ⟨gC,0,none⟩) M cpC,.int .i64 ((M : Int)),.bool true,u63,u64,o 6,o 0,o 1,o 2,o 3,o 4,o 5,o 7,o 8,o 9,o 10,u76,u77,u78,u79,u80,u81,u82,u83,u84,u85,u86,u87,u88,u89,u90,u91,u92,u93,u94,u95,u96,u97,u98,u99,u100,u101,u102,u103,u104,u105,u106,u107,u108,u109,u110,undef,undef,undef,undef,undef,undef,undef,undef,undef,undef,undef,undef,undef,undef,undef,undef,undef,undef,undef,undef,undef,undef,undef,undef,undef,undef,undef,undef,undef,undef,undef,undef,undef,undef,undef,undef,undef,undef,undef,undef,undef,undef,undef,undef,undef,undef,undef,undef,undef,undef,undef,undef,undef,undef,undef,undef,undef,undef,undef,undef,undef,undef,undef,undef,undef,undef,undef]) (vals := fun i_ => ([.agg #[.int .i64 L0,.int .i64 L1,.int .i64 L2,.int .i64 L3,.int .i64 L4,.int .i64 L5],.slice (some ⟨gC,0,none⟩) M cpC,.int .i64 ((m : Int)),.pointer (some ⟨gC,m * 3,none⟩),.agg #[a,.int .i64 T,k],.tuple #[.agg #[.int .i64 S0,.int .i64 S1,.int .i64 S2,.int .i64 S3,.int .i64 S4,.int .i64 S5],.agg #[.int .i64 D0,.int .i64 D1,.int .i64 D2,.int .i64 D3,.int .i64 D4,.int .i64 D5],.agg #[.int .i64 N0,.int .i64 N1,.int .i64 N2,.int .i64 N3,.int .i64 N4,.int .i64 N5],.int .i64 0],.tuple #[.agg #[.int .i64 S0,.int .i64 S1,.int .i64 S2,.int .i64 S3,.int .i64 S4,.int .i64 S5],.agg #[.int .i64 D0,.int .i64 D1,.int .i64 D2,.int .i64 D3,.int .i64 D4,.int .i64 D5],.agg #[.int .i64 N0,.int .i64 N1,.int .i64 N2,.int .i64 N3,.int .i64 N4,.int .i64 N5],.int .i64 0],.agg #[.int .i64 S0,.int .i64 S1,.int .i64 S2,.int .i64 S3,.int .i64 S4,.int .i64 S5],.agg #[.int .i64 D0,.int .i64 D1,.int .i64 D2,.int .i64 D3,.int .i64 D4,.int .i64 D5],.agg #[.int .i64 N0,.int .i64 N1,.int .i64 N2,.int .i64 N3,.int .i64 N4,.int .i64 N5],.int .i64 0,undef,undef,undef,undef,undef,undef,.int .i64 0] : List Value).getD i_ undef) (K := fun W_ => KL [(w3.heap.size,25,#[.int .i64 L0,.int .i64 L1,.int .i64 L2,.int .i64 L3,.int .i64 L4,.int .i64 L5]),(w2.heap.size,25,#[r0,r1,r2,r3,r4,r5]),(w.heap.size,25,#[x,y,z,p,q,r])] wr W_) (dep := fun i_ => [[],[],[],[1,2],[3],[0,4],[5],[6],[6],[6],[6],[],[],[],[0,1,2,3,4,5,6,7,11,12,13],[0,1,2,3,4,5,6,7,8,11,12,13,14],[0,1,2,3,4,5,6,7,8,9,11,12,13,14,15],[0,1,2,3,4,5,6,7,8,9,10,11,12,13,14,15,16]].getD i_ []) (dv := fun i_ => [[],[],[],[1,2],[3],[0,4],[5],[6],[6],[6],[6],[],[],[],[7],[8],[9],[10]].getD i_ []) (kd := fun i_ => [1,0,0,0,1,1,0,0,0,0,0,2,2,2,3,4,5,0].getD i_ 0) (sa := fun i_ => [11,12,13].getD i_ 0) (ss := [14,15,16]) (al := [11,12,13]) (l := [0,1,2,3,4,5,6,7,8,9,10,11,12,13,14,15,16,17]) (f0 := fun i_ => ([u66,u67,u68,u69,u70,u71,u65,u72,u73,u74,u75,u16,u17,u18,undef,undef,undef,u19] : List Value).getD i_ undef) (B := wr.heap.size) (T := 25) (z := #[.int .i64 0,.int .i64 0,.int .i64 0,.int .i64 0,.int .i64 0,.int .i64 0]) (cont := fun t_ j_ => if j_ = 11 then (if 0 < t_ then #[.int .i64 S0,.int .i64 S1,.int .i64 S2,.int .i64 S3,.int .i64 S4,.int .i64 S5] else #[.int .i64 0,.int .i64 0,.int .i64 0,.int .i64 0,.int .i64 0,.int .i64 0]) else if j_ = 12 then (if 1 < t_ then #[.int .i64 D0,.int .i64 D1,.int .i64 D2,.int .i64 D3,.int .i64 D4,.int .i64 D5] else #[.int .i64 0,.int .i64 0,.int .i64 0,.int .i64 0,.int .i64 0,.int .i64 0]) else if j_ = 13 then (if 2 < t_ then #[.int .i64 N0,.int .i64 N1,.int .i64 N2,.int .i64 N3,.int .i64 N4,.int .i64 N5] else #[.int .i64 0,.int .i64 0,.int .i64 0,.int .i64 0,.int .i64 0,.int .i64 0]) else #[.int .i64 0,.int .i64 0,.int .i64 0,.int .i64 0,.int .i64 0,.int .i64 0]) (A := fun g_ => ⟨#[.agg #[x,y,z,p,q,r],.int .i64 a,.int .i64 t,.int .i64 k,.pointer (some ⟨w.heap.size,0,none⟩),undef,undef,undef,u8,.slice (some ⟨gS,0,none⟩) N cpS,.pointer (some ⟨w2.heap.size,0,none⟩),.int .i64 0,.slice (some ⟨gC,0,none⟩) M cpC,.int .i64 0,.pointer (some ⟨w3.heap.size,0,none⟩),.int .i64 ((m : Int)),ptrV (g_ 11),ptrV (g_ 12),ptrV (g_ 13),.int .i64 0,undef,undef,.bool true,.bool false,.tuple #[.slice (some ⟨gS,0,none⟩) N cpS,.agg #[r0,r1,r2,r3,r4,r5],.int .i64 0],.agg #[x,y,z,p,q,r],.int .i64 a,.int .i64 t,.int .i64 k,.tuple #[.slice (some ⟨gS,0,none⟩) N cpS,.agg #[r0,r1,r2,r3,r4,r5],.int .i64 0],.slice (some ⟨gS,0,none⟩) N cpS,.agg #[r0,r1,r2,r3,r4,r5],.int .i64 0,.tuple #[.slice (some ⟨gC,0,none⟩) M cpC,.int .i64 0],.agg #[x,y,z,p,q,r],.int .i64 a,.int .i64 t,.int .i64 k,.tuple #[.slice (some ⟨gC,0,none⟩) M cpC,.int .i64 0],.slice (some ⟨gC,0,none⟩) M cpC,.int .i64 0,.int .i64 0,.int .i64 0,.bool false,.int .i64 0,.bool false,.bool false,.slice (some ⟨gS,0,none⟩) N cpS,.int .i64 ((N : Int)),.bool false,.bool false,undef,undef,undef,undef,undef,undef,undef,.agg #[x,y,z,p,q,r],.int .i64 ((m : Int)),.slice (some ⟨gC,0,none⟩) M cpC,.int .i64 ((M : Int)),.bool true,u63,u64,.tuple #[.agg #[.int .i64 S0,.int .i64 S1,.int .i64 S2,.int .i64 S3,.int .i64 S4,.int .i64 S5],.agg #[.int .i64 D0,.int .i64 D1,.int .i64 D2,.int .i64 D3,.int .i64 D4,.int .i64 D5],.agg #[.int .i64 N0,.int .i64 N1,.int .i64 N2,.int .i64 N3,.int .i64 N4,.int .i64 N5],.int .i64 0],.agg #[.int .i64 L0,.int .i64 L1,.int .i64 L2,.int .i64 L3,.int .i64 L4,.int .i64 L5],.slice (some ⟨gC,0,none⟩) M cpC,.int .i64 ((m : Int)),.pointer (some ⟨gC,m * 3,none⟩),.agg #[a,.int .i64 T,k],.tuple #[.agg #[.int .i64 S0,.int .i64 S1,.int .i64 S2,.int .i64 S3,.int .i64 S4,.int .i64 S5],.agg #[.int .i64 D0,.int .i64 D1,.int .i64 D2,.int .i64 D3,.int .i64 D4,.int .i64 D5],.agg #[.int .i64 N0,.int .i64 N1,.int .i64 N2,.int .i64 N3,.int .i64 N4,.int .i64 N5],.int .i64 0],.agg #[.int .i64 S0,.int .i64 S1,.int .i64 S2,.int .i64 S3,.int .i64 S4,.int .i64 S5],.agg #[.int .i64 D0,.int .i64 D1,.int .i64 D2,.int .i64 D3,.int .i64 D4,.int .i64 D5],.agg #[.int .i64 N0,.int .i64 N1,.int .i64 N2,.int .i64 N3,.int .i64 N4,.int .i64 N5],.int .i64 0,u76,u77,u78,u79,u80,u81,u82,u83,u84,u85,u86,u87,u88,u89,u90,u91,u92,u93,u94,u95,u96,u97,u98,u99,u100,u101,u102,u103,u104,u105,u106,u107,u108,u109,u110,undef,undef,undef,undef,undef,undef,undef,undef,undef,undef,undef,undef,undef,undef,undef,undef,undef,undef,undef,undef,undef,undef,undef,undef,undef,undef,undef,undef,undef,undef,undef,undef,undef,undef,undef,undef,undef,undef,undef,undef,undef,undef,undef,undef,undef,undef,undef,undef,undef,undef,undef,undef,undef,undef,undef,undef,undef,undef,undef,undef,undef,undef,undef,undef,undef,undef,undef],[]⟩) 18 rfl rfl (by decide +kernel) (by decide +kernel) ?_ ?_ ?_ ?_ (fun _ h_ => KL.alloc h_ _) ⟨?_,?_,?_,?_,?_,?_,?_,?_,?_,?_,?_,?_,?_,?_,?_,?_,?_,?_,trivial⟩ ?_ ?_
   ·exact KL.drew hj.base
   ·first | exact Nat.le_refl _ | (simp; done) | (simp <;> omega) | (show _ ≤ World.heap.size _; omega) | omega
   ·intro j_ hj_; simp only [List.mem_cons,List.not_mem_nil,or_false] at hj_; rcases hj_ with rfl | rfl | rfl <;> rfl
   ·intro t_ ht_ j_ hj_ hn_; simp only [List.mem_cons,List.not_mem_nil,or_false] at hj_; rcases hj_ with rfl | rfl | rfl <;> rcases t_ with _ | _ | _ | _ <;> first | rfl | exact absurd rfl hn_ | exact absurd ht_ (by simp)
   ·intro o W hj
    have hj : KL _ _ W := hj
    obtain ⟨cL,c0,c1,c2,c3,c4,c5⟩ := bl6 (KL.blk hj (.head _))
    show wpOp _ _ _ 0 _ ⟨⟨_::_::_::_::_::_::_::_::_::_::_::_::_::_::_::_::o 11::o 12::o 13::o 17::_::_::_::_::_::_::_::_::_::_::_::_::_::_::_::_::_::_::_::_::_::_::_::_::_::_::_::_::_::_::_::_::_::_::_::_::_::_::_::_::_::_::_::_::_::o 6::o 0::o 1::o 2::o 3::o 4::o 5::o 7::o 8::o 9::o 10::_⟩,[]⟩ W
    refine wpOp_step rfl fun _ hK => ?_
    go_simp
    exact hK _ _ ⟨rfl,hj,Below.refl _ _⟩
   ·intro o W _
    show wpOp _ _ _ 1 _ ⟨⟨_::_::_::_::_::_::_::_::_::_::_::_::_::_::_::_::o 11::o 12::o 13::o 17::_::_::_::_::_::_::_::_::_::_::_::_::_::_::_::_::_::_::_::_::_::_::_::_::_::_::_::_::_::_::_::_::_::_::_::_::_::_::_::_::_::_::_::_::_::o 6::o 0::o 1::o 2::o 3::o 4::o 5::o 7::o 8::o 9::o 10::_⟩,[]⟩ W
    refine wpOp_step rfl fun _ hK => ?_
    go_simp
    exact hK _ _ ⟨rfl,rfl⟩
   ·intro o W _
    show wpOp _ _ _ 2 _ ⟨⟨_::_::_::_::_::_::_::_::_::_::_::_::_::_::_::_::o 11::o 12::o 13::o 17::_::_::_::_::_::_::_::_::_::_::_::_::_::_::_::_::_::_::_::_::_::_::_::_::_::_::_::_::_::_::_::_::_::_::_::_::_::_::_::_::_::_::_::_::_::o 6::o 0::o 1::o 2::o 3::o 4::o 5::o 7::o 8::o 9::o 10::_⟩,[]⟩ W
    refine wpOp_step rfl fun _ hK => ?_
    go_simp
    exact hK _ _ ⟨rfl,rfl⟩
   ·intro o W _
    show wpOp _ _ _ 3 _ ⟨⟨_::_::_::_::_::_::_::_::_::_::_::_::_::_::_::_::o 11::o 12::o 13::o 17::_::_::_::_::_::_::_::_::_::_::_::_::_::_::_::_::_::_::_::_::_::_::_::_::_::_::_::_::_::_::_::_::_::_::_::_::_::_::_::_::_::_::_::_::_::o 6::o 0::.slice (some ⟨gC,0,none⟩) M cpC::.int .i64 ((m : Int))::o 3::o 4::o 5::o 7::o 8::o 9::o 10::_⟩,[]⟩ W
    refine wpOp_step rfl fun _ hK => ?_
    go_simp
    exact hK _ _ ⟨rfl,rfl⟩
   ·intro o W hj
    have hj : KL _ _ W := hj
    obtain ⟨ccL,cc0,cc1,cc2⟩ := hcC.over hj.1
    show wpOp _ _ _ 4 _ ⟨⟨_::_::_::_::_::_::_::_::_::_::_::_::_::_::_::_::o 11::o 12::o 13::o 17::_::_::_::_::_::_::_::_::_::_::_::_::_::_::_::_::_::_::_::_::_::_::_::_::_::_::_::_::_::_::_::_::_::_::_::_::_::_::_::_::_::_::_::_::_::o 6::o 0::o 1::o 2::.pointer (some ⟨gC,m * 3,none⟩)::o 4::o 5::o 7::o 8::o 9::o 10::_⟩,[]⟩ W
    refine wpOp_step rfl fun _ hK => ?_
    go_simp
    exact hK _ _ ⟨rfl,hj,Below.refl _ _⟩
   ·intro o W hj
    have hj : KL _ _ W := hj
    show wpOp _ _ _ 5 _ ⟨⟨_::_::_::_::_::_::_::_::_::_::_::_::_::_::_::_::o 11::o 12::o 13::o 17::_::_::_::_::_::_::_::_::_::_::_::_::_::_::_::_::_::_::_::_::_::_::_::_::_::_::_::_::_::_::_::_::_::_::_::_::_::_::_::_::_::_::_::_::_::o 6::.agg #[.int .i64 L0,.int .i64 L1,.int .i64 L2,.int .i64 L3,.int .i64 L4,.int .i64 L5]::o 1::o 2::o 3::.agg #[a,.int .i64 T,k]::o 5::o 7::o 8::o 9::o 10::_⟩,[]⟩ W
    refine wpOp_step rfl fun _ hK => ?_
    go_simp
    refine (hs _).mono ?_
    rintro e W1 ⟨rfl,hb1⟩
    exact hK _ _ ⟨rfl,hj.over hb1,hb1⟩
   ·intro o W _
    show wpOp _ _ _ 6 _ ⟨⟨_::_::_::_::_::_::_::_::_::_::_::_::_::_::_::_::o 11::o 12::o 13::o 17::_::_::_::_::_::_::_::_::_::_::_::_::_::_::_::_::_::_::_::_::_::_::_::_::_::_::_::_::_::_::_::_::_::_::_::_::_::_::_::_::_::_::_::_::_::o 6::o 0::o 1::o 2::o 3::o 4::.tuple #[.agg #[.int .i64 S0,.int .i64 S1,.int .i64 S2,.int .i64 S3,.int .i64 S4,.int .i64 S5],.agg #[.int .i64 D0,.int .i64 D1,.int .i64 D2,.int .i64 D3,.int .i64 D4,.int .i64 D5],.agg #[.int .i64 N0,.int .i64 N1,.int .i64 N2,.int .i64 N3,.int .i64 N4,.int .i64 N5],.int .i64 0]::o 7::o 8::o 9::o 10::_⟩,[]⟩ W
    refine wpOp_step rfl fun _ hK => ?_
    go_simp
    exact hK _ _ ⟨rfl,rfl⟩
   ·intro o W _
    show wpOp _ _ _ 7 _ ⟨⟨_::_::_::_::_::_::_::_::_::_::_::_::_::_::_::_::o 11::o 12::o 13::o 17::_::_::_::_::_::_::_::_::_::_::_::_::_::_::_::_::_::_::_::_::_::_::_::_::_::_::_::_::_::_::_::_::_::_::_::_::_::_::_::_::_::_::_::_::_::.tuple #[.agg #[.int .i64 S0,.int .i64 S1,.int .i64 S2,.int .i64 S3,.int .i64 S4,.int .i64 S5],.agg #[.int .i64 D0,.int .i64 D1,.int .i64 D2,.int .i64 D3,.int .i64 D4,.int .i64 D5],.agg #[.int .i64 N0,.int .i64 N1,.int .i64 N2,.int .i64 N3,.int .i64 N4,.int .i64 N5],.int .i64 0]::o 0::o 1::o 2::o 3::o 4::o 5::o 7::o 8::o 9::o 10::_⟩,[]⟩ W
    refine wpOp_step rfl fun _ hK => ?_
    go_simp
    exact hK _ _ ⟨rfl,rfl⟩
   ·intro o W _
    show wpOp _ _ _ 8 _ ⟨⟨_::_::_::_::_::_::_::_::_::_::_::_::_::_::_::_::o 11::o 12::o 13::o 17::_::_::_::_::_::_::_::_::_::_::_::_::_::_::_::_::_::_::_::_::_::_::_::_::_::_::_::_::_::_::_::_::_::_::_::_::_::_::_::_::_::_::_::_::_::.tuple #[.agg #[.int .i64 S0,.int .i64 S1,.int .i64 S2,.int .i64 S3,.int .i64 S4,.int .i64 S5],.agg #[.int .i64 D0,.int .i64 D1,.int .i64 D2,.int .i64 D3,.int .i64 D4,.int .i64 D5],.agg #[.int .i64 N0,.int .i64 N1,.int .i64 N2,.int .i64 N3,.int .i64 N4,.int .i64 N5],.int .i64 0]::o 0::o 1::o 2::o 3::o 4::o 5::o 7::o 8::o 9::o 10::_⟩,[]⟩ W
    refine wpOp_step rfl fun _ hK => ?_
    go_simp
    exact hK _ _ ⟨rfl,rfl⟩
   ·intro o W _
    show wpOp _ _ _ 9 _ ⟨⟨_::_::_::_::_::_::_::_::_::_::_::_::_::_::_::_::o 11::o 12::o 13::o 17::_::_::_::_::_::_::_::_::_::_::_::_::_::_::_::_::_::_::_::_::_::_::_::_::_::_::_::_::_::_::_::_::_::_::_::_::_::_::_::_::_::_::_::_::_::.tuple #[.agg #[.int .i64 S0,.int .i64 S1,.int .i64 S2,.int .i64 S3,.int .i64 S4,.int .i64 S5],.agg #[.int .i64 D0,.int .i64 D1,.int .i64 D2,.int .i64 D3,.int .i64 D4,.int .i64 D5],.agg #[.int .i64 N0,.int .i64 N1,.int .i64 N2,.int .i64 N3,.int .i64 N4,.int .i64 N5],.int .i64 0]::o 0::o 1::o 2::o 3::o 4::o 5::o 7::o 8::o 9::o 10::_⟩,[]⟩ W
    refine wpOp_step rfl fun _ hK => ?_
    go_simp
    exact hK _ _ ⟨rfl,rfl⟩
   ·intro o W _
    show wpOp _ _ _ 10 _ ⟨⟨_::_::_::_::_::_::_::_::_::_::_::_::_::_::_::_::o 11::o 12::o 13::o 17::_::_::_::_::_::_::_::_::_::_::_::_::_::_::_::_::_::_::_::_::_::_::_::_::_::_::_::_::_::_::_::_::_::_::_::_::_::_::_::_::_::_::_::_::_::.tuple #[.agg #[.int .i64 S0,.int .i64 S1,.int .i64 S2,.int .i64 S3,.int .i64 S4,.int .i64 S5],.agg #[.int .i64 D0,.int .i64 D1,.int .i64 D2,.int .i64 D3,.int .i64 D4,.int .i64 D5],.agg #[.int .i64 N0,.int .i64 N1,.int .i64 N2,.int .i64 N3,.int .i64 N4,.int .i64 N5],.int .i64 0]::o 0::o 1::o 2::o 3::o 4::o 5::o 7::o 8::o 9::o 10::_⟩,[]⟩ W
    refine wpOp_step rfl fun _ hK => ?_
    go_simp
    exact hK _ _ ⟨rfl,rfl⟩
   ·intro o W
    show wpOp _ _ _ 11 _ ⟨⟨_::_::_::_::_::_::_::_::_::_::_::_::_::_::_::_::o 11::o 12::o 13::o 17::_::_::_::_::_::_::_::_::_::_::_::_::_::_::_::_::_::_::_::_::_::_::_::_::_::_::_::_::_::_::_::_::_::_::_::_::_::_::_::_::_::_::_::_::_::o 6::o 0::o 1::o 2::o 3::o 4::o 5::o 7::o 8::o 9::o 10::_⟩,[]⟩ W
    refine wpOp_step rfl fun _ hK => ?_
    go_simp
    exact hK _ _ ⟨rfl,rfl⟩
   ·intro o W
    show wpOp _ _ _ 12 _ ⟨⟨_::_::_::_::_::_::_::_::_::_::_::_::_::_::_::_::o 11::o 12::o 13::o 17::_::_::_::_::_::_::_::_::_::_::_::_::_::_::_::_::_::_::_::_::_::_::_::_::_::_::_::_::_::_::_::_::_::_::_::_::_::_::_::_::_::_::_::_::_::o 6::o 0::o 1::o 2::o 3::o 4::o 5::o 7::o 8::o 9::o 10::_⟩,[]⟩ W
    refine wpOp_step rfl fun _ hK => ?_
    go_simp
    exact hK _ _ ⟨rfl,rfl⟩
   ·intro o W
    show wpOp _ _ _ 13 _ ⟨⟨_::_::_::_::_::_::_::_::_::_::_::_::_::_::_::_::o 11::o 12::o 13::o 17::_::_::_::_::_::_::_::_::_::_::_::_::_::_::_::_::_::_::_::_::_::_::_::_::_::_::_::_::_::_::_::_::_::_::_::_::_::_::_::_::_::_::_::_::_::o 6::o 0::o 1::o 2::o 3::o 4::o 5::o 7::o 8::o 9::o 10::_⟩,[]⟩ W
    refine wpOp_step rfl fun _ hK => ?_
    go_simp
    exact hK _ _ ⟨rfl,rfl⟩
   ·intro o W g_ hj hg_ hb_
    have hj : KL _ _ W := hj
    have hb_ : Blk W g_ 25 #[.int .i64 0,.int .i64 0,.int .i64 0,.int .i64 0,.int .i64 0,.int .i64 0] := hb_
    obtain ⟨cL,c0,c1,c2,c3,c4,c5⟩ := bl6 hb_
    have cF := hb_.frozen
    show wpOp _ _ _ 14 _ ⟨⟨_::_::_::_::_::_::_::_::_::_::_::_::_::_::_::_::.pointer (some ⟨g_,0,none⟩)::o 12::o 13::o 17::_::_::_::_::_::_::_::_::_::_::_::_::_::_::_::_::_::_::_::_::_::_::_::_::_::_::_::_::_::_::_::_::_::_::_::_::_::_::_::_::_::_::_::_::_::o 6::o 0::o 1::o 2::o 3::o 4::o 5::.agg #[.int .i64 S0,.int .i64 S1,.int .i64 S2,.int .i64 S3,.int .i64 S4,.int .i64 S5]::o 8::o 9::o 10::_⟩,[]⟩ W
    refine wpOp_step rfl fun _ hK => ?_
    go_simp
    exact hK _ _ ⟨rfl,st6 hj (by omega) (by simp <;> omega) hb_⟩
   ·intro o W g_ hj hg_ hb_
    have hj : KL _ _ W := hj
    have hb_ : Blk W g_ 25 #[.int .i64 0,.int .i64 0,.int .i64 0,.int .i64 0,.int .i64 0,.int .i64 0] := hb_
    obtain ⟨cL,c0,c1,c2,c3,c4,c5⟩ := bl6 hb_
    have cF := hb_.frozen
    show wpOp _ _ _ 15 _ ⟨⟨_::_::_::_::_::_::_::_::_::_::_::_::_::_::_::_::o 11::.pointer (some ⟨g_,0,none⟩)::o 13::o 17::_::_::_::_::_::_::_::_::_::_::_::_::_::_::_::_::_::_::_::_::_::_::_::_::_::_::_::_::_::_::_::_::_::_::_::_::_::_::_::_::_::_::_::_::_::o 6::o 0::o 1::o 2::o 3::o 4::o 5::o 7::.agg #[.int .i64 D0,.int .i64 D1,.int .i64 D2,.int .i64 D3,.int .i64 D4,.int .i64 D5]::o 9::o 10::_⟩,[]⟩ W
    refine wpOp_step rfl fun _ hK => ?_
    go_simp
    exact hK _ _ ⟨rfl,st6 hj (by omega) (by simp <;> omega) hb_⟩
   ·intro o W g_ hj hg_ hb_
    have hj : KL _ _ W := hj
    have hb_ : Blk W g_ 25 #[.int .i64 0,.int .i64 0,.int .i64 0,.int .i64 0,.int .i64 0,.int .i64 0] := hb_
    obtain ⟨cL,c0,c1,c2,c3,c4,c5⟩ := bl6 hb_
    have cF := hb_.frozen
    show wpOp _ _ _ 16 _ ⟨⟨_::_::_::_::_::_::_::_::_::_::_::_::_::_::_::_::o 11::o 12::.pointer (some ⟨g_,0,none⟩)::o 17::_::_::_::_::_::_::_::_::_::_::_::_::_::_::_::_::_::_::_::_::_::_::_::_::_::_::_::_::_::_::_::_::_::_::_::_::_::_::_::_::_::_::_::_::_::o 6::o 0::o 1::o 2::o 3::o 4::o 5::o 7::o 8::.agg #[.int .i64 N0,.int .i64 N1,.int .i64 N2,.int .i64 N3,.int .i64 N4,.int .i64 N5]::o 10::_⟩,[]⟩ W
    refine wpOp_step rfl fun _ hK => ?_
    go_simp
    exact hK _ _ ⟨rfl,st6 hj (by omega) (by simp <;> omega) hb_⟩
   ·intro o W _
    show wpOp _ _ _ 17 _ ⟨⟨_::_::_::_::_::_::_::_::_::_::_::_::_::_::_::_::o 11::o 12::o 13::o 17::_::_::_::_::_::_::_::_::_::_::_::_::_::_::_::_::_::_::_::_::_::_::_::_::_::_::_::_::_::_::_::_::_::_::_::_::_::_::_::_::_::_::_::_::_::o 6::o 0::o 1::o 2::o 3::o 4::o 5::o 7::o 8::o 9::.int .i64 0::_⟩,[]⟩ W
    refine wpOp_step rfl fun _ hK => ?_
    go_simp
    exact hK _ _ ⟨rfl,rfl⟩
   ·intro o g_ hh_ hp_
    have e0 : o 0 = .agg #[.int .i64 L0,.int .i64 L1,.int .i64 L2,.int .i64 L3,.int .i64 L4,.int .i64 L5] := hh_ 0 (by decide) (by simp)
    have e1 : o 1 = .slice (some ⟨gC,0,none⟩) M cpC := hh_ 1 (by decide) (by simp)
    have e2 : o 2 = .int .i64 ((m : Int)) := hh_ 2 (by decide) (by simp)
    have e3 : o 3 = .pointer (some ⟨gC,m * 3,none⟩) := hh_ 3 (by decide) (by simp)
    have e4 : o 4 = .agg #[a,.int .i64 T,k] := hh_ 4 (by decide) (by simp)
    have e5 : o 5 = .tuple #[.agg #[.int .i64 S0,.int .i64 S1,.int .i64 S2,.int .i64 S3,.int .i64 S4,.int .i64 S5],.agg #[.int .i64 D0,.int .i64 D1,.int .i64 D2,.int .i64 D3,.int .i64 D4,.int .i64 D5],.agg #[.int .i64 N0,.int .i64 N1,.int .i64 N2,.int .i64 N3,.int .i64 N4,.int .i64 N5],.int .i64 0] := hh_ 5 (by decide) (by simp)
    have e6 : o 6 = .tuple #[.agg #[.int .i64 S0,.int .i64 S1,.int .i64 S2,.int .i64 S3,.int .i64 S4,.int .i64 S5],.agg #[.int .i64 D0,.int .i64 D1,.int .i64 D2,.int .i64 D3,.int .i64 D4,.int .i64 D5],.agg #[.int .i64 N0,.int .i64 N1,.int .i64 N2,.int .i64 N3,.int .i64 N4,.int .i64 N5],.int .i64 0] := hh_ 6 (by decide) (by simp)
    have e7 : o 7 = .agg #[.int .i64 S0,.int .i64 S1,.int .i64 S2,.int .i64 S3,.int .i64 S4,.int .i64 S5] := hh_ 7 (by decide) (by simp)
    have e8 : o 8 = .agg #[.int .i64 D0,.int .i64 D1,.int .i64 D2,.int .i64 D3,.int .i64 D4,.int .i64 D5] := hh_ 8 (by decide) (by simp)
    have e9 : o 9 = .agg #[.int .i64 N0,.int .i64 N1,.int .i64 N2,.int .i64 N3,.int .i64 N4,.int .i64 N5] := hh_ 9 (by decide) (by simp)
    have e10 : o 10 = .int .i64 0 := hh_ 10 (by decide) (by simp)
    have e11 : o 11 = ptrV (g_ 11) := hp_ 11 (by simp)
    have e12 : o 12 = ptrV (g_ 12) := hp_ 12 (by simp)
    have e13 : o 13 = ptrV (g_ 13) := hp_ 13 (by simp)
    have e17 : o 17 = .int .i64 0 := hh_ 17 (by decide) (by simp)
    rw [e0,e1,e2,e3,e4,e5,e6,e7,e8,e9,e10,e11,e12,e13,e17]
   ·intro W13 g_ h13 ho_ hn_
    have h13 : KL _ _ W13 := h13
    obtain ⟨bg11,Bg11⟩ := ho_ 11 (by simp)
    have Bg11 : Blk W13 (g_ 11) 25 #[.int .i64 S0,.int .i64 S1,.int .i64 S2,.int .i64 S3,.int .i64 S4,.int .i64 S5] := Bg11
    obtain ⟨bg12,Bg12⟩ := ho_ 12 (by simp)
    have Bg12 : Blk W13 (g_ 12) 25 #[.int .i64 D0,.int .i64 D1,.int .i64 D2,.int .i64 D3,.int .i64 D4,.int .i64 D5] := Bg12
    obtain ⟨bg13,Bg13⟩ := ho_ 13 (by simp)
    have Bg13 : Blk W13 (g_ 13) 25 #[.int .i64 N0,.int .i64 N1,.int .i64 N2,.int .i64 N3,.int .i64 N4,.int .i64 N5] := Bg13
    have ng11g12 := hn_ 11 (by simp) 12 (by simp) (by decide)
    have ng11g13 := hn_ 11 (by simp) 13 (by simp) (by decide)
    have ng12g13 := hn_ 12 (by simp) 13 (by simp) (by decide)
    clear ho_ hn_
    dsimp only [ptrV]
    generalize g_ 11 = g11 at *
    generalize g_ 12 = g12 at *
    generalize g_ 13 = g13 at *
    have h13 := KL.cons Bg11 h13
    have h13 := KL.cons Bg12 h13
    have h13 := KL.cons Bg13 h13
    clear Bg11 Bg12 Bg13
    obtain ⟨dL0,d0_0,d0_1,d0_2,d0_3,d0_4,d0_5⟩ := bl6 (KL.blk h13 (.head _))
    have dF0 := (KL.blk h13 (.head _)).frozen
    obtain ⟨dL1,d1_0,d1_1,d1_2,d1_3,d1_4,d1_5⟩ := bl6 (KL.blk h13 (.tail _ (.head _)))
    have dF1 := (KL.blk h13 (.tail _ (.head _))).frozen
    obtain ⟨dL2,d2_0,d2_1,d2_2,d2_3,d2_4,d2_5⟩ := bl6 (KL.blk h13 (.tail _ (.tail _ (.head _))))
    have dF2 := (KL.blk h13 (.tail _ (.tail _ (.head _)))).frozen
    obtain ⟨dL3,d3_0,d3_1,d3_2,d3_3,d3_4,d3_5⟩ := bl6 (KL.blk h13 (.tail _ (.tail _ (.tail _ (.head _)))))
    have dF3 := (KL.blk h13 (.tail _ (.tail _ (.tail _ (.head _))))).frozen
    obtain ⟨dL4,d4_0,d4_1,d4_2,d4_3,d4_4,d4_5⟩ := bl6 (KL.blk h13 (.tail _ (.tail _ (.tail _ (.tail _ (.head _))))))
    obtain ⟨dL5,d5_0,d5_1,d5_2,d5_3,d5_4,d5_5⟩ := bl6 (KL.blk h13 (.tail _ (.tail _ (.tail _ (.tail _ (.tail _ (.head _)))))))
    have hjb := h13.1
    have hjz := hjb.size
    go_wp2
    refine wp_region_any (by kernel_rfl) ?_
    try (change wpAny _ _ _ _ _ _ _ (World.drew _))
    refine wpAny_vals (fr := fun o => #[.agg #[x,y,z,p,q,r],.int .i64 a,.int .i64 t,.int .i64 k,.pointer (some ⟨w.heap.size,0,none⟩),undef,undef,undef,u8,.slice (some ⟨gS,0,none⟩) N cpS,.pointer (some ⟨w2.heap.size,0,none⟩),.int .i64 0,.slice (some ⟨gC,0,none⟩) M cpC,.int .i64 0,.pointer (some ⟨w3.heap.size,0,none⟩),.int .i64 ((m : Int)),.pointer (some ⟨g11,0,none⟩),.pointer (some ⟨g12,0,none⟩),.pointer (some ⟨g13,0,none⟩),.int .i64 0,undef,undef,.bool true,.bool false,.tuple #[.slice (some ⟨gS,0,none⟩) N cpS,.agg #[r0,r1,r2,r3,r4,r5],.int .i64 0],.agg #[x,y,z,p,q,r],.int .i64 a,.int .i64 t,.int .i64 k,.tuple #[.slice (some ⟨gS,0,none⟩) N cpS,.agg #[r0,r1,r2,r3,r4,r5],.int .i64 0],.slice (some ⟨gS,0,none⟩) N cpS,.agg #[r0,r1,r2,r3,r4,r5],.int .i64 0,.tuple #[.slice (some ⟨gC,0,none⟩) M cpC,.int .i64 0],.agg #[x,y,z,p,q,r],.int .i64 a,.int .i64 t,.int .i64 k,.tuple #[.slice (some ⟨gC,0,none⟩) M cpC,.int .i64 0],.slice (some ⟨gC,0,none⟩) M cpC,.int .i64 0,.int .i64 0,.int .i64 0,.bool false,.int .i64 0,.bool false,.bool false,.slice (some ⟨gS,0,none⟩) N cpS,.int .i64 ((N : Int)),.bool false,.bool false,undef,undef,undef,undef,undef,undef,undef,.agg #[x,y,z,p,q,r],.int .i64 ((m : Int)),.slice (some ⟨gC,0,none⟩) M cpC,.int .i64 ((M : Int)),.bool true,u63,u64,.tuple #[.agg #[.int .i64 S0,.int .i64 S1,.int .i64 S2,.int .i64 S3,.int .i64 S4,.int .i64 S5],.agg #[.int .i64 D0,.int .i64 D1,.int .i64 D2,.int .i64 D3,.int .i64 D4,.int .i64 D5],.agg #[.int .i64 N0,.int .i64 N1,.int .i64 N2,.int .i64 N3,.int .i64 N4,.int .i64 N5],.int .i64 0],.agg #[.int .i64 L0,.int .i64 L1,.int .i64 L2,.int .i64 L3,.int .i64 L4,.int .i64 L5],.slice (some ⟨gC,0,none⟩) M cpC,.int .i64 ((m : Int)),.pointer (some ⟨gC,m * 3,none⟩),.agg #[a,.int .i64 T,k],.tuple #[.agg #[.int .i64 S0,.int .i64 S1,.int .i64 S2,.int .i64 S3,.int .i64 S4,.int .i64 S5],.agg #[.int .i64 D0,.int .i64 D1,.int .i64 D2,.int .i64 D3,.int .i64 D4,.int .i64 D5],.agg #[.int .i64 N0,.int .i64 N1,.int .i64 N2,.int .i64 N3,.int .i64 N4,.int .i64 N5],.int .i64 0],.agg #[.int .i64 S0,.int .i64 S1,.int .i64 S2,.int .i64 S3,.int .i64 S4,.int .i64 S5],.agg #[.int .i64 D0,.int .i64 D1,.int .i64 D2,.int .i64 D3,.int .i64 D4,.int .i64 D5],.agg #[.int .i64 N0,.int .i64 N1,.int .i64 N2,.int .i64 N3,.int .i64 N4,.int .i64 N5],.int .i64 0,o 0,o 1,o 2,o 3,o 4,o 5,o 6,o 7,o 8,o 9,o 10,o 11,o 12,o 13,o 14,o 15,o 16,o 17,o 18,o 19,o 20,o 21,o 22,o 23,o 24,o 25,o 26,o 27,o 28,o 29,o 30,o 31,o 32,o 33,u110,undef,undef,undef,undef,undef,undef,undef,undef,undef,undef,undef,undef,undef,undef,undef,undef,undef,undef,undef,undef,undef,undef,undef,undef,undef,undef,undef,undef,undef,undef,undef,undef,undef,undef,undef,undef,undef,undef,undef,undef,undef,undef,undef,undef,undef,undef,undef,undef,undef,undef,undef,undef,undef,undef,undef,undef,undef,undef,undef,undef,undef,undef,undef,undef,undef,undef,undef]) (vals := fun i_ => ([.int .i64 0,.bool false,.bool false,.int .i64 ((m : Int)),.slice (some ⟨gS,0,none⟩) N cpS,.int .i64 ((N : Int)),.bool false,.bool false,.bool false,.agg #[.int .i64 S0,.int .i64 S1,.int .i64 S2,.int .i64 S3,.int .i64 S4,.int .i64 S5],.slice (some ⟨gS,0,none⟩) N cpS,.int .i64 ((m : Int)),.pointer (some ⟨gS,m * 6,none⟩),.agg #[.int .i64 S0,.int .i64 S1,.int .i64 S2,.int .i64 S3,.int .i64 S4,.int .i64 S5],.bool false,.bool false,.bool false,.slice (some ⟨gC,0,none⟩) M cpC,.int .i64 ((m : Int)),.pointer (some ⟨gC,m * 3,none⟩),.pointer (some ⟨gC,m * 3,none⟩),.int .i64 a,.int .i64 a,.bool false,.bool false,.bool false,.slice (some ⟨gC,0,none⟩) M cpC,.int .i64 ((m : Int)),.pointer (some ⟨gC,m * 3,none⟩),.pointer (some ⟨gC,m * 3 + 2,none⟩),.int .i64 k,.int .i64 k,.bool false,.bool false] : List Value).getD i_ undef) (Kf := fun _ => True) (K := fun kk_ => ([(KL [(g13,25,#[.int .i64 N0,.int .i64 N1,.int .i64 N2,.int .i64 N3,.int .i64 N4,.int .i64 N5]),(g12,25,#[.int .i64 D0,.int .i64 D1,.int .i64 D2,.int .i64 D3,.int .i64 D4,.int .i64 D5]),(g11,25,#[.int .i64 S0,.int .i64 S1,.int .i64 S2,.int .i64 S3,.int .i64 S4,.int .i64 S5]),(w3.heap.size,25,#[.int .i64 L0,.int .i64 L1,.int .i64 L2,.int .i64 L3,.int .i64 L4,.int .i64 L5]),(w2.heap.size,25,#[r0,r1,r2,r3,r4,r5]),(w.heap.size,25,#[x,y,z,p,q,r])] wr)] : List (World → Prop)).getD kk_ (fun _ => True)) (dep := fun i_ => [[],[0],[1],[2],[2],[2,4],[2,3,5],[2,6],[7],[8],[8],[8],[8,10,11],[8,12],[8,9,13],[8,14],[15],[16],[16],[16,17,18],[16,19],[16,20],[16],[16,21,22],[16,23],[24],[25],[25],[25,26,27],[25,28],[25,29],[25],[25,30,31],[25,32]].getD i_ []) (dv := fun i_ => [[],[0],[1],[2],[2],[2,4],[2,3,5],[2,6],[7],[8],[8],[8],[8,10,11],[8,12],[8,9,13],[8,14],[15],[16],[16],[16,17,18],[16,19],[16,20],[16],[16,21,22],[16,23],[24],[25],[25],[25,26,27],[25,28],[25,29],[25],[25,30,31],[25,32]].getD i_ []) (kd := fun i_ => [0,0,0,0,0,0,0,0,0,1,0,0,0,1,0,0,0,0,0,0,0,1,0,0,0,0,0,0,0,0,1,0,0,0].getD i_ 0) (ss := []) (l := [0,1,2,3,4,5,6,7,8,9,10,11,12,13,14,15,16,17,18,19,20,21,22,23,24,25,26,27,28,29,30,31,32,33]) (f0 := fun i_ => (u76 :: u77 :: u78 :: u79 :: u80 :: u81 :: u82 :: u83 :: u84 :: u85 :: u86 :: u87 :: u88 :: u89 :: u90 :: u91 :: u92 :: u93 :: u94 :: u95 :: u96 :: u97 :: u98 :: u99 :: u100 :: u101 :: u102 :: u103 :: u104 :: u105 :: u106 :: u107 :: u108 :: u109 :: [] : List Value).getD i_ undef) (A := ?A1) 34 ?_ ?_ ?_ ?_ ?_ ?_ ⟨?_,?_,?_,?_,?_,?_,?_,?_,?_,?_,?_,?_,?_,?_,?_,?_,?_,?_,?_,?_,?_,?_,?_,?_,?_,?_,?_,?_,?_,?_,?_,?_,?_,?_,trivial⟩ ?_ ?_
    rotate_left
    ·rfl
    ·rfl
    ·decide +kernel
    ·decide +kernel
    ·exact KL.drew h13
    ·exact fun _ _ _ _ => trivial
    ·intro o W _
     show wpOp _ _ _ 0 _ ⟨⟨_::_::_::_::_::_::_::_::_::_::_::_::_::_::_::_::_::_::_::_::_::_::_::_::_::_::_::_::_::_::_::_::_::_::_::_::_::_::_::_::_::_::_::_::_::_::_::_::_::_::_::_::_::_::_::_::_::_::_::_::_::_::_::_::_::_::_::_::_::_::_::_::_::_::_::_::o 0::o 1::o 2::o 3::o 4::o 5::o 6::o 7::o 8::o 9::o 10::o 11::o 12::o 13::o 14::o 15::o 16::o 17::o 18::o 19::o 20::o 21::o 22::o 23::o 24::o 25::o 26::o 27::o 28::o 29::o 30::o 31::o 32::o 33::_⟩,[]⟩ W
     refine wpOp_step rfl fun _ hK => ?_
     go_simp
     exact hK _ _ ⟨rfl,rfl⟩
    ·intro o W _
     show wpOp _ _ _ 1 _ ⟨⟨_::_::_::_::_::_::_::_::_::_::_::_::_::_::_::_::_::_::_::_::_::_::_::_::_::_::_::_::_::_::_::_::_::_::_::_::_::_::_::_::_::_::_::_::_::_::_::_::_::_::_::_::_::_::_::_::_::_::_::_::_::_::_::_::_::_::_::_::_::_::_::_::_::_::_::_::.int .i64 0::o 1::o 2::o 3::o 4::o 5::o 6::o 7::o 8::o 9::o 10::o 11::o 12::o 13::o 14::o 15::o 16::o 17::o 18::o 19::o 20::o 21::o 22::o 23::o 24::o 25::o 26::o 27::o 28::o 29::o 30::o 31::o 32::o 33::_⟩,[]⟩ W
     refine wpOp_step rfl fun _ hK => ?_
     go_simp
     exact hK _ _ ⟨rfl,rfl⟩
    ·intro o W _
     show wpOp _ _ _ 2 _ ⟨⟨_::_::_::_::_::_::_::_::_::_::_::_::_::_::_::_::_::_::_::_::_::_::_::_::_::_::_::_::_::_::_::_::_::_::_::_::_::_::_::_::_::_::_::_::_::_::_::_::_::_::_::_::_::_::_::_::_::_::_::_::_::_::_::_::_::_::_::_::_::_::_::_::_::_::_::_::o 0::.bool false::o 2::o 3::o 4::o 5::o 6::o 7::o 8::o 9::o 10::o 11::o 12::o 13::o 14::o 15::o 16::o 17::o 18::o 19::o 20::o 21::o 22::o 23::o 24::o 25::o 26::o 27::o 28::o 29::o 30::o 31::o 32::o 33::_⟩,[]⟩ W
     refine wpOp_step rfl fun _ hK => ?_
     go_simp
     exact hK _ _ ⟨rfl,rfl⟩
    ·intro o W _
     show wpOp _ _ _ 3 _ ⟨⟨_::_::_::_::_::_::_::_::_::_::_::_::_::_::_::_::_::_::_::_::_::_::_::_::_::_::_::_::_::_::_::_::_::_::_::_::_::_::_::_::_::_::_::_::_::_::_::_::_::_::_::_::_::_::_::_::_::_::_::_::_::_::_::_::_::_::_::_::_::_::_::_::_::_::_::_::o 0::o 1::.bool false::o 3::o 4::o 5::o 6::o 7::o 8::o 9::o 10::o 11::o 12::o 13::o 14::o 15::o 16::o 17::o 18::o 19::o 20::o 21::o 22::o 23::o 24::o 25::o 26::o 27::o 28::o 29::o 30::o 31::o 32::o 33::_⟩,[]⟩ W
     refine wpOp_step rfl fun _ hK => ?_
     go_simp
     exact hK _ _ ⟨rfl,rfl⟩
    ·intro o W _
     show wpOp _ _ _ 4 _ ⟨⟨_::_::_::_::_::_::_::_::_::_::_::_::_::_::_::_::_::_::_::_::_::_::_::_::_::_::_::_::_::_::_::_::_::_::_::_::_::_::_::_::_::_::_::_::_::_::_::_::_::_::_::_::_::_::_::_::_::_::_::_::_::_::_::_::_::_::_::_::_::_::_::_::_::_::_::_::o 0::o 1::.bool false::o 3::o 4::o 5::o 6::o 7::o 8::o 9::o 10::o 11::o 12::o 13::o 14::o 15::o 16::o 17::o 18::o 19::o 20::o 21::o 22::o 23::o 24::o 25::o 26::o 27::o 28::o 29::o 30::o 31::o 32::o 33::_⟩,[]⟩ W
     refine wpOp_step rfl fun _ hK => ?_
     go_simp
     exact hK _ _ ⟨rfl,rfl⟩
    ·intro o W _
     show wpOp _ _ _ 5 _ ⟨⟨_::_::_::_::_::_::_::_::_::_::_::_::_::_::_::_::_::_::_::_::_::_::_::_::_::_::_::_::_::_::_::_::_::_::_::_::_::_::_::_::_::_::_::_::_::_::_::_::_::_::_::_::_::_::_::_::_::_::_::_::_::_::_::_::_::_::_::_::_::_::_::_::_::_::_::_::o 0::o 1::.bool false::o 3::.slice (some ⟨gS,0,none⟩) N cpS::o 5::o 6::o 7::o 8::o 9::o 10::o 11::o 12::o 13::o 14::o 15::o 16::o 17::o 18::o 19::o 20::o 21::o 22::o 23::o 24::o 25::o 26::o 27::o 28::o 29::o 30::o 31::o 32::o 33::_⟩,[]⟩ W
     refine wpOp_step rfl fun _ hK => ?_
     go_simp
     exact hK _ _ ⟨rfl,rfl⟩
    ·intro o W _
     show wpOp _ _ _ 6 _ ⟨⟨_::_::_::_::_::_::_::_::_::_::_::_::_::_::_::_::_::_::_::_::_::_::_::_::_::_::_::_::_::_::_::_::_::_::_::_::_::_::_::_::_::_::_::_::_::_::_::_::_::_::_::_::_::_::_::_::_::_::_::_::_::_::_::_::_::_::_::_::_::_::_::_::_::_::_::_::o 0::o 1::.bool false::.int .i64 ((m : Int))::o 4::.int .i64 ((N : Int))::o 6::o 7::o 8::o 9::o 10::o 11::o 12::o 13::o 14::o 15::o 16::o 17::o 18::o 19::o 20::o 21::o 22::o 23::o 24::o 25::o 26::o 27::o 28::o 29::o 30::o 31::o 32::o 33::_⟩,[]⟩ W
     refine wpOp_step rfl fun _ hK => ?_
     go_simp
     exact hK _ _ ⟨rfl,rfl⟩
    ·intro o W _
     show wpOp _ _ _ 7 _ ⟨⟨_::_::_::_::_::_::_::_::_::_::_::_::_::_::_::_::_::_::_::_::_::_::_::_::_::_::_::_::_::_::_::_::_::_::_::_::_::_::_::_::_::_::_::_::_::_::_::_::_::_::_::_::_::_::_::_::_::_::_::_::_::_::_::_::_::_::_::_::_::_::_::_::_::_::_::_::o 0::o 1::.bool false::o 3::o 4::o 5::.bool false::o 7::o 8::o 9::o 10::o 11::o 12::o 13::o 14::o 15::o 16::o 17::o 18::o 19::o 20::o 21::o 22::o 23::o 24::o 25::o 26::o 27::o 28::o 29::o 30::o 31::o 32::o 33::_⟩,[]⟩ W
     refine wpOp_step rfl fun _ hK => ?_
     go_simp
     exact hK _ _ ⟨rfl,rfl⟩
    ·intro o W _
     show wpOp _ _ _ 8 _ ⟨⟨_::_::_::_::_::_::_::_::_::_::_::_::_::_::_::_::_::_::_::_::_::_::_::_::_::_::_::_::_::_::_::_::_::_::_::_::_::_::_::_::_::_::_::_::_::_::_::_::_::_::_::_::_::_::_::_::_::_::_::_::_::_::_::_::_::_::_::_::_::_::_::_::_::_::_::_::o 0::o 1::o 2::o 3::o 4::o 5::o 6::.bool false::o 8::o 9::o 10::o 11::o 12::o 13::o 14::o 15::o 16::o 17::o 18::o 19::o 20::o 21::o 22::o 23::o 24::o 25::o 26::o 27::o 28::o 29::o 30::o 31::o 32::o 33::_⟩,[]⟩ W
     refine wpOp_step rfl fun _ hK => ?_
     go_simp
     exact hK _ _ ⟨rfl,rfl⟩
    ·intro o W hj
     have hj : KL _ _ W := hj
     obtain ⟨cL,c0,c1,c2,c3,c4,c5⟩ := bl6 (KL.blk hj (.tail _ (.tail _ (.head _))))
     show wpOp _ _ _ 9 _ ⟨⟨_::_::_::_::_::_::_::_::_::_::_::_::_::_::_::_::_::_::_::_::_::_::_::_::_::_::_::_::_::_::_::_::_::_::_::_::_::_::_::_::_::_::_::_::_::_::_::_::_::_::_::_::_::_::_::_::_::_::_::_::_::_::_::_::_::_::_::_::_::_::_::_::_::_::_::_::o 0::o 1::o 2::o 3::o 4::o 5::o 6::o 7::.bool false::o 9::o 10::o 11::o 12::o 13::o 14::o 15::o 16::o 17::o 18::o 19::o 20::o 21::o 22::o 23::o 24::o 25::o 26::o 27::o 28::o 29::o 30::o 31::o 32::o 33::_⟩,[]⟩ W
     refine wpOp_step rfl fun _ hK => ?_
     go_simp
     exact hK _ _ ⟨rfl,hj⟩
    ·intro o W _
     show wpOp _ _ _ 10 _ ⟨⟨_::_::_::_::_::_::_::_::_::_::_::_::_::_::_::_::_::_::_::_::_::_::_::_::_::_::_::_::_::_::_::_::_::_::_::_::_::_::_::_::_::_::_::_::_::_::_::_::_::_::_::_::_::_::_::_::_::_::_::_::_::_::_::_::_::_::_::_::_::_::_::_::_::_::_::_::o 0::o 1::o 2::o 3::o 4::o 5::o 6::o 7::.bool false::o 9::o 10::o 11::o 12::o 13::o 14::o 15::o 16::o 17::o 18::o 19::o 20::o 21::o 22::o 23::o 24::o 25::o 26::o 27::o 28::o 29::o 30::o 31::o 32::o 33::_⟩,[]⟩ W
     refine wpOp_step rfl fun _ hK => ?_
     go_simp
     exact hK _ _ ⟨rfl,rfl⟩
    ·intro o W _
     show wpOp _ _ _ 11 _ ⟨⟨_::_::_::_::_::_::_::_::_::_::_::_::_::_::_::_::_::_::_::_::_::_::_::_::_::_::_::_::_::_::_::_::_::_::_::_::_::_::_::_::_::_::_::_::_::_::_::_::_::_::_::_::_::_::_::_::_::_::_::_::_::_::_::_::_::_::_::_::_::_::_::_::_::_::_::_::o 0::o 1::o 2::o 3::o 4::o 5::o 6::o 7::.bool false::o 9::o 10::o 11::o 12::o 13::o 14::o 15::o 16::o 17::o 18::o 19::o 20::o 21::o 22::o 23::o 24::o 25::o 26::o 27::o 28::o 29::o 30::o 31::o 32::o 33::_⟩,[]⟩ W
     refine wpOp_step rfl fun _ hK => ?_
     go_simp
     exact hK _ _ ⟨rfl,rfl⟩
    ·intro o W _
     show wpOp _ _ _ 12 _ ⟨⟨_::_::_::_::_::_::_::_::_::_::_::_::_::_::_::_::_::_::_::_::_::_::_::_::_::_::_::_::_::_::_::_::_::_::_::_::_::_::_::_::_::_::_::_::_::_::_::_::_::_::_::_::_::_::_::_::_::_::_::_::_::_::_::_::_::_::_::_::_::_::_::_::_::_::_::_::o 0::o 1::o 2::o 3::o 4::o 5::o 6::o 7::.bool false::o 9::.slice (some ⟨gS,0,none⟩) N cpS::.int .i64 ((m : Int))::o 12::o 13::o 14::o 15::o 16::o 17::o 18::o 19::o 20::o 21::o 22::o 23::o 24::o 25::o 26::o 27::o 28::o 29::o 30::o 31::o 32::o 33::_⟩,[]⟩ W
     refine wpOp_step rfl fun _ hK => ?_
     go_simp
     exact hK _ _ ⟨rfl,rfl⟩
    ·intro o W hj
     have hj : KL _ _ W := hj
     obtain ⟨ccL,cc0,cc1,cc2,cc3,cc4,cc5⟩ := hcS.over hj.1
     show wpOp _ _ _ 13 _ ⟨⟨_::_::_::_::_::_::_::_::_::_::_::_::_::_::_::_::_::_::_::_::_::_::_::_::_::_::_::_::_::_::_::_::_::_::_::_::_::_::_::_::_::_::_::_::_::_::_::_::_::_::_::_::_::_::_::_::_::_::_::_::_::_::_::_::_::_::_::_::_::_::_::_::_::_::_::_::o 0::o 1::o 2::o 3::o 4::o 5::o 6::o 7::.bool false::o 9::o 10::o 11::.pointer (some ⟨gS,m * 6,none⟩)::o 13::o 14::o 15::o 16::o 17::o 18::o 19::o 20::o 21::o 22::o 23::o 24::o 25::o 26::o 27::o 28::o 29::o 30::o 31::o 32::o 33::_⟩,[]⟩ W
     refine wpOp_step rfl fun _ hK => ?_
     go_simp
     exact hK _ _ ⟨rfl,hj⟩
    ·intro o W _
     show wpOp _ _ _ 14 _ ⟨⟨_::_::_::_::_::_::_::_::_::_::_::_::_::_::_::_::_::_::_::_::_::_::_::_::_::_::_::_::_::_::_::_::_::_::_::_::_::_::_::_::_::_::_::_::_::_::_::_::_::_::_::_::_::_::_::_::_::_::_::_::_::_::_::_::_::_::_::_::_::_::_::_::_::_::_::_::o 0::o 1::o 2::o 3::o 4::o 5::o 6::o 7::.bool false::.agg #[.int .i64 S0,.int .i64 S1,.int .i64 S2,.int .i64 S3,.int .i64 S4,.int .i64 S5]::o 10::o 11::o 12::.agg #[.int .i64 S0,.int .i64 S1,.int .i64 S2,.int .i64 S3,.int .i64 S4,.int .i64 S5]::o 14::o 15::o 16::o 17::o 18::o 19::o 20::o 21::o 22::o 23::o 24::o 25::o 26::o 27::o 28::o 29::o 30::o 31::o 32::o 33::_⟩,[]⟩ W
     refine wpOp_step rfl fun _ hK => ?_
     go_simp
     exact hK _ _ ⟨rfl,rfl⟩
    ·intro o W _
     show wpOp _ _ _ 15 _ ⟨⟨_::_::_::_::_::_::_::_::_::_::_::_::_::_::_::_::_::_::_::_::_::_::_::_::_::_::_::_::_::_::_::_::_::_::_::_::_::_::_::_::_::_::_::_::_::_::_::_::_::_::_::_::_::_::_::_::_::_::_::_::_::_::_::_::_::_::_::_::_::_::_::_::_::_::_::_::o 0::o 1::o 2::o 3::o 4::o 5::o 6::o 7::.bool false::o 9::o 10::o 11::o 12::o 13::.bool false::o 15::o 16::o 17::o 18::o 19::o 20::o 21::o 22::o 23::o 24::o 25::o 26::o 27::o 28::o 29::o 30::o 31::o 32::o 33::_⟩,[]⟩ W
     refine wpOp_step rfl fun _ hK => ?_
     go_simp
     exact hK _ _ ⟨rfl,rfl⟩
    ·intro o W _
     show wpOp _ _ _ 16 _ ⟨⟨_::_::_::_::_::_::_::_::_::_::_::_::_::_::_::_::_::_::_::_::_::_::_::_::_::_::_::_::_::_::_::_::_::_::_::_::_::_::_::_::_::_::_::_::_::_::_::_::_::_::_::_::_::_::_::_::_::_::_::_::_::_::_::_::_::_::_::_::_::_::_::_::_::_::_::_::o 0::o 1::o 2::o 3::o 4::o 5::o 6::o 7::o 8::o 9::o 10::o 11::o 12::o 13::o 14::.bool false::o 16::o 17::o 18::o 19::o 20::o 21::o 22::o 23::o 24::o 25::o 26::o 27::o 28::o 29::o 30::o 31::o 32::o 33::_⟩,[]⟩ W
     refine wpOp_step rfl fun _ hK => ?_
     go_simp
     exact hK _ _ ⟨rfl,rfl⟩
    ·intro o W _
     show wpOp _ _ _ 17 _ ⟨⟨_::_::_::_::_::_::_::_::_::_::_::_::_::_::_::_::_::_::_::_::_::_::_::_::_::_::_::_::_::_::_::_::_::_::_::_::_::_::_::_::_::_::_::_::_::_::_::_::_::_::_::_::_::_::_::_::_::_::_::_::_::_::_::_::_::_::_::_::_::_::_::_::_::_::_::_::o 0::o 1::o 2::o 3::o 4::o 5::o 6::o 7::o 8::o 9::o 10::o 11::o 12::o 13::o 14::o 15::.bool false::o 17::o 18::o 19::o 20::o 21::o 22::o 23::o 24::o 25::o 26::o 27::o 28::o 29::o 30::o 31::o 32::o 33::_⟩,[]⟩ W
     refine wpOp_step rfl fun _ hK => ?_
     go_simp
     exact hK _ _ ⟨rfl,rfl⟩
    ·intro o W _
     show wpOp _ _ _ 18 _ ⟨⟨_::_::_::_::_::_::_::_::_::_::_::_::_::_::_::_::_::_::_::_::_::_::_::_::_::_::_::_::_::_::_::_::_::_::_::_::_::_::_::_::_::_::_::_::_::_::_::_::_::_::_::_::_::_::_::_::_::_::_::_::_::_::_::_::_::_::_::_::_::_::_::_::_::_::_::_::o 0::o 1::o 2::o 3::o 4::o 5::o 6::o 7::o 8::o 9::o 10::o 11::o 12::o 13::o 14::o 15::.bool false::o 17::o 18::o 19::o 20::o 21::o 22::o 23::o 24::o 25::o 26::o 27::o 28::o 29::o 30::o 31::o 32::o 33::_⟩,[]⟩ W
     refine wpOp_step rfl fun _ hK => ?_
     go_simp
     exact hK _ _ ⟨rfl,rfl⟩
    ·intro o W _
     show wpOp _ _ _ 19 _ ⟨⟨_::_::_::_::_::_::_::_::_::_::_::_::_::_::_::_::_::_::_::_::_::_::_::_::_::_::_::_::_::_::_::_::_::_::_::_::_::_::_::_::_::_::_::_::_::_::_::_::_::_::_::_::_::_::_::_::_::_::_::_::_::_::_::_::_::_::_::_::_::_::_::_::_::_::_::_::o 0::o 1::o 2::o 3::o 4::o 5::o 6::o 7::o 8::o 9::o 10::o 11::o 12::o 13::o 14::o 15::.bool false::.slice (some ⟨gC,0,none⟩) M cpC::.int .i64 ((m : Int))::o 19::o 20::o 21::o 22::o 23::o 24::o 25::o 26::o 27::o 28::o 29::o 30::o 31::o 32::o 33::_⟩,[]⟩ W
     refine wpOp_step rfl fun _ hK => ?_
     go_simp
     exact hK _ _ ⟨rfl,rfl⟩
    ·intro o W _
     show wpOp _ _ _ 20 _ ⟨⟨_::_::_::_::_::_::_::_::_::_::_::_::_::_::_::_::_::_::_::_::_::_::_::_::_::_::_::_::_::_::_::_::_::_::_::_::_::_::_::_::_::_::_::_::_::_::_::_::_::_::_::_::_::_::_::_::_::_::_::_::_::_::_::_::_::_::_::_::_::_::_::_::_::_::_::_::o 0::o 1::o 2::o 3::o 4::o 5::o 6::o 7::o 8::o 9::o 10::o 11::o 12::o 13::o 14::o 15::.bool false::o 17::o 18::.pointer (some ⟨gC,m * 3,none⟩)::o 20::o 21::o 22::o 23::o 24::o 25::o 26::o 27::o 28::o 29::o 30::o 31::o 32::o 33::_⟩,[]⟩ W
     refine wpOp_step rfl fun _ hK => ?_
     go_simp
     exact hK _ _ ⟨rfl,rfl⟩
    ·intro o W hj
     have hj : KL _ _ W := hj
     obtain ⟨ccL,cc0,cc1,cc2⟩ := hcC.over hj.1
     show wpOp _ _ _ 21 _ ⟨⟨_::_::_::_::_::_::_::_::_::_::_::_::_::_::_::_::_::_::_::_::_::_::_::_::_::_::_::_::_::_::_::_::_::_::_::_::_::_::_::_::_::_::_::_::_::_::_::_::_::_::_::_::_::_::_::_::_::_::_::_::_::_::_::_::_::_::_::_::_::_::_::_::_::_::_::_::o 0::o 1::o 2::o 3::o 4::o 5::o 6::o 7::o 8::o 9::o 10::o 11::o 12::o 13::o 14::o 15::.bool false::o 17::o 18::o 19::.pointer (some ⟨gC,m * 3,none⟩)::o 21::o 22::o 23::o 24::o 25::o 26::o 27::o 28::o 29::o 30::o 31::o 32::o 33::_⟩,[]⟩ W
     refine wpOp_step rfl fun _ hK => ?_
     go_simp
     exact hK _ _ ⟨rfl,hj⟩
    ·intro o W _
     show wpOp _ _ _ 22 _ ⟨⟨_::_::_::_::_::_::_::_::_::_::_::_::_::_::_::_::_::_::_::_::_::_::_::_::_::_::_::_::_::_::_::_::_::_::_::_::_::_::_::_::_::_::_::_::_::_::_::_::_::_::_::_::_::_::_::_::_::_::_::_::_::_::_::_::_::_::_::_::_::_::_::_::_::_::_::_::o 0::o 1::o 2::o 3::o 4::o 5::o 6::o 7::o 8::o 9::o 10::o 11::o 12::o 13::o 14::o 15::.bool false::o 17::o 18::o 19::o 20::o 21::o 22::o 23::o 24::o 25::o 26::o 27::o 28::o 29::o 30::o 31::o 32::o 33::_⟩,[]⟩ W
     refine wpOp_step rfl fun _ hK => ?_
     go_simp
     exact hK _ _ ⟨rfl,rfl⟩
    ·intro o W _
     show wpOp _ _ _ 23 _ ⟨⟨_::_::_::_::_::_::_::_::_::_::_::_::_::_::_::_::_::_::_::_::_::_::_::_::_::_::_::_::_::_::_::_::_::_::_::_::_::_::_::_::_::_::_::_::_::_::_::_::_::_::_::_::_::_::_::_::_::_::_::_::_::_::_::_::_::_::_::_::_::_::_::_::_::_::_::_::o 0::o 1::o 2::o 3::o 4::o 5::o 6::o 7::o 8::o 9::o 10::o 11::o 12::o 13::o 14::o 15::.bool false::o 17::o 18::o 19::o 20::.int .i64 a::.int .i64 a::o 23::o 24::o 25::o 26::o 27::o 28::o 29::o 30::o 31::o 32::o 33::_⟩,[]⟩ W
     refine wpOp_step rfl fun _ hK => ?_
     go_simp
     exact hK _ _ ⟨rfl,rfl⟩
    ·intro o W _
     show wpOp _ _ _ 24 _ ⟨⟨_::_::_::_::_::_::_::_::_::_::_::_::_::_::_::_::_::_::_::_::_::_::_::_::_::_::_::_::_::_::_::_::_::_::_::_::_::_::_::_::_::_::_::_::_::_::_::_::_::_::_::_::_::_::_::_::_::_::_::_::_::_::_::_::_::_::_::_::_::_::_::_::_::_::_::_::o 0::o 1::o 2::o 3::o 4::o 5::o 6::o 7::o 8::o 9::o 10::o 11::o 12::o 13::o 14::o 15::.bool false::o 17::o 18::o 19::o 20::o 21::o 22::.bool false::o 24::o 25::o 26::o 27::o 28::o 29::o 30::o 31::o 32::o 33::_⟩,[]⟩ W
     refine wpOp_step rfl fun _ hK => ?_
     go_simp
     exact hK _ _ ⟨rfl,rfl⟩
    ·intro o W _
     show wpOp _ _ _ 25 _ ⟨⟨_::_::_::_::_::_::_::_::_::_::_::_::_::_::_::_::_::_::_::_::_::_::_::_::_::_::_::_::_::_::_::_::_::_::_::_::_::_::_::_::_::_::_::_::_::_::_::_::_::_::_::_::_::_::_::_::_::_::_::_::_::_::_::_::_::_::_::_::_::_::_::_::_::_::_::_::o 0::o 1::o 2::o 3::o 4::o 5::o 6::o 7::o 8::o 9::o 10::o 11::o 12::o 13::o 14::o 15::o 16::o 17::o 18::o 19::o 20::o 21::o 22::o 23::.bool false::o 25::o 26::o 27::o 28::o 29::o 30::o 31::o 32::o 33::_⟩,[]⟩ W
     refine wpOp_step rfl fun _ hK => ?_
     go_simp
     exact hK _ _ ⟨rfl,rfl⟩
    ·intro o W _
     show wpOp _ _ _ 26 _ ⟨⟨_::_::_::_::_::_::_::_::_::_::_::_::_::_::_::_::_::_::_::_::_::_::_::_::_::_::_::_::_::_::_::_::_::_::_::_::_::_::_::_::_::_::_::_::_::_::_::_::_::_::_::_::_::_::_::_::_::_::_::_::_::_::_::_::_::_::_::_::_::_::_::_::_::_::_::_::o 0::o 1::o 2::o 3::o 4::o 5::o 6::o 7::o 8::o 9::o 10::o 11::o 12::o 13::o 14::o 15::o 16::o 17::o 18::o 19::o 20::o 21::o 22::o 23::o 24::.bool false::o 26::o 27::o 28::o 29::o 30::o 31::o 32::o 33::_⟩,[]⟩ W
     refine wpOp_step rfl fun _ hK => ?_
     go_simp
     exact hK _ _ ⟨rfl,rfl⟩
    ·intro o W _
     show wpOp _ _ _ 27 _ ⟨⟨_::_::_::_::_::_::_::_::_::_::_::_::_::_::_::_::_::_::_::_::_::_::_::_::_::_::_::_::_::_::_::_::_::_::_::_::_::_::_::_::_::_::_::_::_::_::_::_::_::_::_::_::_::_::_::_::_::_::_::_::_::_::_::_::_::_::_::_::_::_::_::_::_::_::_::_::o 0::o 1::o 2::o 3::o 4::o 5::o 6::o 7::o 8::o 9::o 10::o 11::o 12::o 13::o 14::o 15::o 16::o 17::o 18::o 19::o 20::o 21::o 22::o 23::o 24::.bool false::o 26::o 27::o 28::o 29::o 30::o 31::o 32::o 33::_⟩,[]⟩ W
     refine wpOp_step rfl fun _ hK => ?_
     go_simp
     exact hK _ _ ⟨rfl,rfl⟩
    ·intro o W _
     show wpOp _ _ _ 28 _ ⟨⟨_::_::_::_::_::_::_::_::_::_::_::_::_::_::_::_::_::_::_::_::_::_::_::_::_::_::_::_::_::_::_::_::_::_::_::_::_::_::_::_::_::_::_::_::_::_::_::_::_::_::_::_::_::_::_::_::_::_::_::_::_::_::_::_::_::_::_::_::_::_::_::_::_::_::_::_::o 0::o 1::o 2::o 3::o 4::o 5::o 6::o 7::o 8::o 9::o 10::o 11::o 12::o 13::o 14::o 15::o 16::o 17::o 18::o 19::o 20::o 21::o 22::o 23::o 24::.bool false::.slice (some ⟨gC,0,none⟩) M cpC::.int .i64 ((m : Int))::o 28::o 29::o 30::o 31::o 32::o 33::_⟩,[]⟩ W
     refine wpOp_step rfl fun _ hK => ?_
     go_simp
     exact hK _ _ ⟨rfl,rfl⟩
    ·intro o W _
     show wpOp _ _ _ 29 _ ⟨⟨_::_::_::_::_::_::_::_::_::_::_::_::_::_::_::_::_::_::_::_::_::_::_::_::_::_::_::_::_::_::_::_::_::_::_::_::_::_::_::_::_::_::_::_::_::_::_::_::_::_::_::_::_::_::_::_::_::_::_::_::_::_::_::_::_::_::_::_::_::_::_::_::_::_::_::_::o 0::o 1::o 2::o 3::o 4::o 5::o 6::o 7::o 8::o 9::o 10::o 11::o 12::o 13::o 14::o 15::o 16::o 17::o 18::o 19::o 20::o 21::o 22::o 23::o 24::.bool false::o 26::o 27::.pointer (some ⟨gC,m * 3,none⟩)::o 29::o 30::o 31::o 32::o 33::_⟩,[]⟩ W
     refine wpOp_step rfl fun _ hK => ?_
     go_simp
     exact hK _ _ ⟨rfl,rfl⟩
    ·intro o W hj
     have hj : KL _ _ W := hj
     obtain ⟨ccL,cc0,cc1,cc2⟩ := hcC.over hj.1
     show wpOp _ _ _ 30 _ ⟨⟨_::_::_::_::_::_::_::_::_::_::_::_::_::_::_::_::_::_::_::_::_::_::_::_::_::_::_::_::_::_::_::_::_::_::_::_::_::_::_::_::_::_::_::_::_::_::_::_::_::_::_::_::_::_::_::_::_::_::_::_::_::_::_::_::_::_::_::_::_::_::_::_::_::_::_::_::o 0::o 1::o 2::o 3::o 4::o 5::o 6::o 7::o 8::o 9::o 10::o 11::o 12::o 13::o 14::o 15::o 16::o 17::o 18::o 19::o 20::o 21::o 22::o 23::o 24::.bool false::o 26::o 27::o 28::.pointer (some ⟨gC,m * 3 + 2,none⟩)::o 30::o 31::o 32::o 33::_⟩,[]⟩ W
     refine wpOp_step rfl fun _ hK => ?_
     go_simp
     exact hK _ _ ⟨rfl,hj⟩
    ·intro o W _
     show wpOp _ _ _ 31 _ ⟨⟨_::_::_::_::_::_::_::_::_::_::_::_::_::_::_::_::_::_::_::_::_::_::_::_::_::_::_::_::_::_::_::_::_::_::_::_::_::_::_::_::_::_::_::_::_::_::_::_::_::_::_::_::_::_::_::_::_::_::_::_::_::_::_::_::_::_::_::_::_::_::_::_::_::_::_::_::o 0::o 1::o 2::o 3::o 4::o 5::o 6::o 7::o 8::o 9::o 10::o 11::o 12::o 13::o 14::o 15::o 16::o 17::o 18::o 19::o 20::o 21::o 22::o 23::o 24::.bool false::o 26::o 27::o 28::o 29::o 30::o 31::o 32::o 33::_⟩,[]⟩ W
     refine wpOp_step rfl fun _ hK => ?_
     go_simp
     exact hK _ _ ⟨rfl,rfl⟩
    ·intro o W _
     show wpOp _ _ _ 32 _ ⟨⟨_::_::_::_::_::_::_::_::_::_::_::_::_::_::_::_::_::_::_::_::_::_::_::_::_::_::_::_::_::_::_::_::_::_::_::_::_::_::_::_::_::_::_::_::_::_::_::_::_::_::_::_::_::_::_::_::_::_::_::_::_::_::_::_::_::_::_::_::_::_::_::_::_::_::_::_::o 0::o 1::o 2::o 3::o 4::o 5::o 6::o 7::o 8::o 9::o 10::o 11::o 12::o 13::o 14::o 15::o 16::o 17::o 18::o 19::o 20::o 21::o 22::o 23::o 24::.bool false::o 26::o 27::o 28::o 29::.int .i64 k::.int .i64 k::o 32::o 33::_⟩,[]⟩ W
     refine wpOp_step rfl fun _ hK => ?_
     go_simp
     exact hK _ _ ⟨rfl,rfl⟩
    ·intro o W _
     show wpOp _ _ _ 33 _ ⟨⟨_::_::_::_::_::_::_::_::_::_::_::_::_::_::_::_::_::_::_::_::_::_::_::_::_::_::_::_::_::_::_::_::_::_::_::_::_::_::_::_::_::_::_::_::_::_::_::_::_::_::_::_::_::_::_::_::_::_::_::_::_::_::_::_::_::_::_::_::_::_::_::_::_::_::_::_::o 0::o 1::o 2::o 3::o 4::o 5::o 6::o 7::o 8::o 9::o 10::o 11::o 12::o 13::o 14::o 15::o 16::o 17::o 18::o 19::o 20::o 21::o 22::o 23::o 24::.bool false::o 26::o 27::o 28::o 29::o 30::o 31::.bool false::o 33::_⟩,[]⟩ W
     refine wpOp_step rfl fun _ hK => ?_
     go_simp
     exact hK _ _ ⟨rfl,rfl⟩
    ·intro o hh_
     have e0 : o 0 = .int .i64 0 := hh_ 0 (by decide)
     have e1 : o 1 = .bool false := hh_ 1 (by decide)
     have e2 : o 2 = .bool false := hh_ 2 (by decide)
     have e3 : o 3 = .int .i64 ((m : Int)) := hh_ 3 (by decide)
     have e4 : o 4 = .slice (some ⟨gS,0,none⟩) N cpS := hh_ 4 (by decide)
     have e5 : o 5 = .int .i64 ((N : Int)) := hh_ 5 (by decide)
     have e6 : o 6 = .bool false := hh_ 6 (by decide)
     have e7 : o 7 = .bool false := hh_ 7 (by decide)
     have e8 : o 8 = .bool false := hh_ 8 (by decide)
     have e9 : o 9 = .agg #[.int .i64 S0,.int .i64 S1,.int .i64 S2,.int .i64 S3,.int .i64 S4,.int .i64 S5] := hh_ 9 (by decide)
     have e10 : o 10 = .slice (some ⟨gS,0,none⟩) N cpS := hh_ 10 (by decide)
     have e11 : o 11 = .int .i64 ((m : Int)) := hh_ 11 (by decide)
     have e12 : o 12 = .pointer (some ⟨gS,m * 6,none⟩) := hh_ 12 (by decide)
     have e13 : o 13 = .agg #[.int .i64 S0,.int .i64 S1,.int .i64 S2,.int .i64 S3,.int .i64 S4,.int .i64 S5] := hh_ 13 (by decide)
     have e14 : o 14 = .bool false := hh_ 14 (by decide)
     have e15 : o 15 = .bool false := hh_ 15 (by decide)
     have e16 : o 16 = .bool false := hh_ 16 (by decide)
     have e17 : o 17 = .slice (some ⟨gC,0,none⟩) M cpC := hh_ 17 (by decide)
     have e18 : o 18 = .int .i64 ((m : Int)) := hh_ 18 (by decide)
     have e19 : o 19 = .pointer (some ⟨gC,m * 3,none⟩) := hh_ 19 (by decide)
     have e20 : o 20 = .pointer (some ⟨gC,m * 3,none⟩) := hh_ 20 (by decide)
     have e21 : o 21 = .int .i64 a := hh_ 21 (by decide)
     have e22 : o 22 = .int .i64 a := hh_ 22 (by decide)
     have e23 : o 23 = .bool false := hh_ 23 (by decide)
     have e24 : o 24 = .bool false := hh_ 24 (by decide)
     have e25 : o 25 = .bool false := hh_ 25 (by decide)
     have e26 : o 26 = .slice (some ⟨gC,0,none⟩) M cpC := hh_ 26 (by decide)
     have e27 : o 27 = .int .i64 ((m : Int)) := hh_ 27 (by decide)
     have e28 : o 28 = .pointer (some ⟨gC,m * 3,none⟩) := hh_ 28 (by decide)
     have e29 : o 29 = .pointer (some ⟨gC,m * 3 + 2,none⟩) := hh_ 29 (by decide)
     have e30 : o 30 = .int .i64 k := hh_ 30 (by decide)
     have e31 : o 31 = .int .i64 k := hh_ 31 (by decide)
     have e32 : o 32 = .bool false := hh_ 32 (by decide)
     have e33 : o 33 = .bool false := hh_ 33 (by decide)
     rw [e0,e1,e2,e3,e4,e5,e6,e7,e8,e9,e10,e11,e12,e13,e14,e15,e16,e17,e18,e19,e20,e21,e22,e23,e24,e25,e26,e27,e28,e29,e30,e31,e32,e33]
    ·intro W14 h14
     have h14 : KL _ _ W14 := h14
     obtain ⟨eL0,e0_0,e0_1,e0_2,e0_3,e0_4,e0_5⟩ := bl6 (KL.blk h14 (.head _))
     have eF0 := (KL.blk h14 (.head _)).frozen
     obtain ⟨eL1,e1_0,e1_1,e1_2,e1_3,e1_4,e1_5⟩ := bl6 (KL.blk h14 (.tail _ (.head _)))
     have eF1 := (KL.blk h14 (.tail _ (.head _))).frozen
     obtain ⟨eL2,e2_0,e2_1,e2_2,e2_3,e2_4,e2_5⟩ := bl6 (KL.blk h14 (.tail _ (.tail _ (.head _))))
     have eF2 := (KL.blk h14 (.tail _ (.tail _ (.head _)))).frozen
     obtain ⟨eL3,e3_0,e3_1,e3_2,e3_3,e3_4,e3_5⟩ := bl6 (KL.blk h14 (.tail _ (.tail _ (.tail _ (.head _)))))
     have eF3 := (KL.blk h14 (.tail _ (.tail _ (.tail _ (.head _))))).frozen
     obtain ⟨eL4,e4_0,e4_1,e4_2,e4_3,e4_4,e4_5⟩ := bl6 (KL.blk h14 (.tail _ (.tail _ (.tail _ (.tail _ (.head _))))))
     obtain ⟨eL5,e5_0,e5_1,e5_2,e5_3,e5_4,e5_5⟩ := bl6 (KL.blk h14 (.tail _ (.tail _ (.tail _ (.tail _ (.tail _ (.head _)))))))
     have hjb := h14.1
     have hjz := hjb.size
     have hjn := hj.over hjb
     have hbn := hbw.trans (bmono hjb hbw.size)
     go_wp2
     go_roundw
     case rel => exact ⟨m + 1,by go_num,by omega,(((((hbn.setCell (Nat.le_refl _) _).setCell (Nat.le_refl _) _).setCell (Nat.le_refl _) _).setCell (Nat.le_refl _) _).setCell (Nat.le_refl _) _).setCell (Nat.le_refl _) _,by rw [n0.out,n1.out,n2.out,n3.out,n4.out,n5.out]; exact KL.up6 0 hjn rfl (by omega) (by simp <;> omega)⟩
     case measure => simp [intOf] <;> omega
  ·have e : M = m := by omega
   subst e
   rcases hendH.out with he | he
   ·obtain ⟨hMN,hrz,er⟩ := he
    obtain ⟨er0,er1,er2,er3,er4,er5⟩ := er
    rw [← er0,← er1,← er2,← er3,← er4,← er5] at hj
    have hMN' : (M : Int) = (N : Int) := by omega
    clear er0 er1 er2 er3 er4 er5
    obtain ⟨zL0,z0_0,z0_1,z0_2,z0_3,z0_4,z0_5⟩ := bl6 (KL.blk hj (.head _))
    have zF0 := (KL.blk hj (.head _)).frozen
    obtain ⟨zL1,z1_0,z1_1,z1_2,z1_3,z1_4,z1_5⟩ := bl6 (KL.blk hj (.tail _ (.head _)))
    obtain ⟨zL2,z2_0,z2_1,z2_2,z2_3,z2_4,z2_5⟩ := bl6 (KL.blk hj (.tail _ (.tail _ (.head _))))
    have q1 : ∀ w,Sem.run Try.prog (binOp .neq 25 (.agg #[r0,r1,r2,r3,r4,r5]) (.agg #[.int .i64 0,.int .i64 0,.int .i64 0,.int .i64 0,.int .i64 0,.int .i64 0])) w = .ok (.bool true) w := fun w => by rw [neB_run,hrz]; rfl
    have q2 : ∀ w,Sem.run Try.prog (binOp .eql 25 (.agg #[r0,r1,r2,r3,r4,r5]) (.agg #[r0,r1,r2,r3,r4,r5])) w = .ok (.bool true) w := fun w => by rw [eqB]; simp
    subst hMN
    clear hrz hMN'
    have hjw := hj.1
    go_wp2
    go_ret
    exact ⟨rfl,hjw⟩
   ·obtain ⟨hMN,er,es,hbd,hd0,hdk⟩ := he
    obtain ⟨er0,er1,er2,er3,er4,er5⟩ := er
    obtain ⟨es0,es1,es2⟩ := es
    subst er0; subst er1; subst er2; subst er3; subst er4; subst er5
    obtain ⟨e0,e1,e2,e3,e4,e5⟩ := hlxH.out M (by omega)
    rw [es0] at e0
    rw [es1] at e1
    rw [es2] at e2
    have hcS := ((C6.mk hgS (hcS0.out _ _ e0) (hcS0.out _ _ e1) (hcS0.out _ _ e2) (hcS0.out _ _ e3) (hcS0.out _ _ e4) (hcS0.out _ _ e5)).over B23).over hbw
    clear e0 e1 e2 e3 e4 e5 es0 es1 es2
    generalize lV M 0 = L0 at *
    generalize lV M 1 = L1 at *
    generalize lV M 2 = L2 at *
    generalize lV M 3 = L3 at *
    generalize lV M 4 = L4 at *
    generalize lV M 5 = L5 at *
    generalize sV M 3 = S3 at *
    generalize sV M 4 = S4 at *
    generalize sV M 5 = S5 at *
    obtain ⟨b0,b1,b2,b3,b4,b5,b6,b7,b8,b9,b10,b11⟩ := hbd
    have x1 : IntKind.i64.wrap (L3 - S3) = L3 - S3 := IntWalk.i64_in _ (by omega)
    have x2 : IntKind.i64.wrap (L3 - S3 + L4) = L3 - S3 + L4 := IntWalk.i64_in _ (by omega)
    have x3 : IntKind.i64.wrap (L3 - S3 + L4 - S4) = L3 - S3 + L4 - S4 := IntWalk.i64_in _ (by omega)
    have x4 : IntKind.i64.wrap (L3 - S3 + L4 - S4 + L5) = L3 - S3 + L4 - S4 + L5 := IntWalk.i64_in _ (by omega)
    obtain ⟨DD,hDD⟩ : ∃ DD,DD = L3 - S3 + L4 - S4 + L5 - S5 := ⟨_,rfl⟩
    rw [← hDD] at hd0 hdk
    have x5 : IntKind.i64.wrap (L3 - S3 + L4 - S4 + L5 - S5) = DD := by rw [hDD]; exact IntWalk.i64_in _ (by omega)
    have x6 : IntKind.i64.wrap ((N : Int) - 1) = (M : Int) := by rw [hMN]; exact (IntWalk.i64_in _ (by omega)).trans (by omega)
    have x7 : (0 : Int) ≤ (M : Int) := by omega
    have x8 : decide (0 ≤ DD) = true := by simpa using hd0
    have x9 : decide (DD ≤ k) = true := by simpa using hdk
    have xa : ((N : Int) == 0) = false := by simp <;> omega
    have xb : (M : Int) < (N : Int) := by omega
    have xc : M < N := by omega
    obtain ⟨zL0,z0_0,z0_1,z0_2,z0_3,z0_4,z0_5⟩ := bl6 (KL.blk hj (.head _))
    have zF0 := (KL.blk hj (.head _)).frozen
    obtain ⟨zL1,z1_0,z1_1,z1_2,z1_3,z1_4,z1_5⟩ := bl6 (KL.blk hj (.tail _ (.head _)))
    obtain ⟨zL2,z2_0,z2_1,z2_2,z2_3,z2_4,z2_5⟩ := bl6 (KL.blk hj (.tail _ (.tail _ (.head _))))
    obtain ⟨ccL,cc0,cc1,cc2,cc3,cc4,cc5⟩ := hcS
    have q1 : ∀ w,Sem.run Try.prog (binOp .neq 25 (.agg #[.int .i64 0,.int .i64 0,.int .i64 0,.int .i64 0,.int .i64 0,.int .i64 0]) (.agg #[.int .i64 0,.int .i64 0,.int .i64 0,.int .i64 0,.int .i64 0,.int .i64 0])) w = .ok (.bool false) w := fun w => by rw [neB_run]; simp
    have q2 : ∀ w,Sem.run Try.prog (binOp .eql 23 (.agg #[.int .i64 L0,.int .i64 L1,.int .i64 L2]) (.agg #[.int .i64 L0,.int .i64 L1,.int .i64 L2])) w = .ok (.bool true) w := fun w => by rw [eqV]; simp
    have hjw := hj.1
    have hm' := Lib.hid hMN
    clear hDD hMN b0 b1 b2 b3 b4 b5 b6 b7 b8 b9 b10 b11 hd0 hdk
    go_wp2
    go_ret
    refine ⟨rfl,?_⟩
    exact hjw.alloc (by omega) _
end Go.Proofs.Ytogmgaaejepcbaa

namespace Go.Proofs.Ytogmgaaejepcbaa
open Go.RowKit

set_option maxHeartbeats 16000000 in
set_option maxRecDepth 100000 in
theorem parts_no (x y z p q r a t k : Int) (f : Int) (hf : slE x y z p q r a t k = f) (hn : f ≠ 0) (hA : (∀ w,Calls Try.prog 12 #[] w fun e w' => e = .returned (.bool true) ∧ Below w.heap.size w w')) (w : World) :
  Calls Try.prog 10 #[.agg #[x,y,z,p,q,r],.int .i64 a,.int .i64 t,.int .i64 k] w fun e w' => e = .returned (.bool true) ∧ Below w.heap.size w w' := by
 have hS := Slices_bad x y z p q r a t k f hf hn
 have hC := Cuts_bad x y z p q r a t k f hf hn
 obtain ⟨t1,t2⟩ := ne_tests hn
 have t3 : (f != f) = false := by simp
 clear hf hn
 go_enter Try.func10,Try.ntmps10
 go_wp2_with (first
  | (go_at_call 12; refine (hA _).mono ?_; rintro e w1 ⟨rfl,hb1⟩; obtain ⟨hc1,hf1⟩ := bcell hb1; have hz1 := hb1.size; (try simp at hz1); (try have y10 : w.heap.size < w1.heap.size := (by omega)); (try have y10p : w.heap.size < w1.heap.size + 1 := (by omega)); (try have y11 : w.heap.size + 1 < w1.heap.size := (by omega)); (try have y11p : w.heap.size + 1 < w1.heap.size + 1 := (by omega)); (try have y12 : w.heap.size + 1 + 1 < w1.heap.size := (by omega)); (try have y12p : w.heap.size + 1 + 1 < w1.heap.size + 1 := (by omega)); (try have y13 : w.heap.size + 1 + 1 + 1 < w1.heap.size := (by omega)); (try have y13p : w.heap.size + 1 + 1 + 1 < w1.heap.size + 1 := (by omega)); (try have y14 : w.heap.size + 1 + 1 + 1 + 1 < w1.heap.size := (by omega)); (try have y14p : w.heap.size + 1 + 1 + 1 + 1 < w1.heap.size + 1 := (by omega)); (try have v0x1 : w0.heap.size < w1.heap.size := (by omega)); (try have v0x1p : w0.heap.size < w1.heap.size + 1 := (by omega)))
  | (go_at_call 28; refine (hS _).mono ?_; rintro e w2 ⟨rfl,hb2⟩; obtain ⟨hc2,hf2⟩ := bcell hb2; have hz2 := hb2.size; (try simp at hz2); (try have y20 : w.heap.size < w2.heap.size := (by omega)); (try have y20p : w.heap.size < w2.heap.size + 1 := (by omega)); (try have y21 : w.heap.size + 1 < w2.heap.size := (by omega)); (try have y21p : w.heap.size + 1 < w2.heap.size + 1 := (by omega)); (try have y22 : w.heap.size + 1 + 1 < w2.heap.size := (by omega)); (try have y22p : w.heap.size + 1 + 1 < w2.heap.size + 1 := (by omega)); (try have y23 : w.heap.size + 1 + 1 + 1 < w2.heap.size := (by omega)); (try have y23p : w.heap.size + 1 + 1 + 1 < w2.heap.size + 1 := (by omega)); (try have y24 : w.heap.size + 1 + 1 + 1 + 1 < w2.heap.size := (by omega)); (try have y24p : w.heap.size + 1 + 1 + 1 + 1 < w2.heap.size + 1 := (by omega)); (try have v0x2 : w0.heap.size < w2.heap.size := (by omega)); (try have v0x2p : w0.heap.size < w2.heap.size + 1 := (by omega)); (try have v1x2 : w1.heap.size < w2.heap.size := (by omega)); (try have v1x2p : w1.heap.size < w2.heap.size + 1 := (by omega)))
  | (go_at_call 29; refine (hC _).mono ?_; rintro e w3 ⟨rfl,hb3⟩; obtain ⟨hc3,hf3⟩ := bcell hb3; have hz3 := hb3.size; (try simp at hz3); (try have y30 : w.heap.size < w3.heap.size := (by omega)); (try have y30p : w.heap.size < w3.heap.size + 1 := (by omega)); (try have y31 : w.heap.size + 1 < w3.heap.size := (by omega)); (try have y31p : w.heap.size + 1 < w3.heap.size + 1 := (by omega)); (try have y32 : w.heap.size + 1 + 1 < w3.heap.size := (by omega)); (try have y32p : w.heap.size + 1 + 1 < w3.heap.size + 1 := (by omega)); (try have y33 : w.heap.size + 1 + 1 + 1 < w3.heap.size := (by omega)); (try have y33p : w.heap.size + 1 + 1 + 1 < w3.heap.size + 1 := (by omega)); (try have y34 : w.heap.size + 1 + 1 + 1 + 1 < w3.heap.size := (by omega)); (try have y34p : w.heap.size + 1 + 1 + 1 + 1 < w3.heap.size + 1 := (by omega)); (try have v0x3 : w0.heap.size < w3.heap.size := (by omega)); (try have v0x3p : w0.heap.size < w3.heap.size + 1 := (by omega)); (try have v1x3 : w1.heap.size < w3.heap.size := (by omega)); (try have v1x3p : w1.heap.size < w3.heap.size + 1 := (by omega)); (try have v2x3 : w2.heap.size < w3.heap.size := (by omega)); (try have v2x3p : w2.heap.size < w3.heap.size + 1 := (by omega))))
 go_ret
 refine ⟨rfl,?_⟩
 repeat (first | with_reducible exact Below.refl _ _ | with_reducible refine Below.setCell ?_ ?_ _ | with_reducible refine Below.alloc ?_ ?_ _ | with_reducible refine Below.drew ?_ | with_reducible refine below_drewN ?_ _ | (refine Below.trans ?_ (bmono (by assumption) ?_)))
 all_goals (first | omega | (simp <;> omega))
set_option maxHeartbeats 16000000 in
set_option maxRecDepth 100000 in
theorem parts_big (x y z p q r a t k : Int) (r0 r1 r2 r3 r4 r5 : Int) (N M : Nat) (hN : 100 < N)
  (hS : ∀ w,Calls Try.prog 28 #[.agg #[x,y,z,p,q,r],.int .i64 a,.int .i64 t,.int .i64 k] w fun e w' => ∃ A c,e = .returned (.tuple #[.slice A N c,.agg #[r0,r1,r2,r3,r4,r5],.int .i64 0]) ∧ Below w.heap.size w w')
  (hC : ∀ w,Calls Try.prog 29 #[.agg #[x,y,z,p,q,r],.int .i64 a,.int .i64 t,.int .i64 k] w fun e w' => ∃ A c,e = .returned (.tuple #[.slice A M c,.int .i64 0]) ∧ Below w.heap.size w w') (hA : (∀ w,Calls Try.prog 12 #[] w fun e w' => e = .returned (.bool true) ∧ Below w.heap.size w w')) (w : World) :
  Calls Try.prog 10 #[.agg #[x,y,z,p,q,r],.int .i64 a,.int .i64 t,.int .i64 k] w fun e w' => e = .returned (.bool true) ∧ Below w.heap.size w w' := by
 have d0 : decide (100 < (N : Int)) = true := by simp <;> omega
 have d00 : decide (100 < N) = true := by simp <;> omega
 go_enter Try.func10,Try.ntmps10
 go_wp2_with (first
  | (go_at_call 12; refine (hA _).mono ?_; rintro e w1 ⟨rfl,hb1⟩; obtain ⟨hc1,hf1⟩ := bcell hb1; have hz1 := hb1.size; (try simp at hz1); (try have y10 : w.heap.size < w1.heap.size := (by omega)); (try have y10p : w.heap.size < w1.heap.size + 1 := (by omega)); (try have y11 : w.heap.size + 1 < w1.heap.size := (by omega)); (try have y11p : w.heap.size + 1 < w1.heap.size + 1 := (by omega)); (try have y12 : w.heap.size + 1 + 1 < w1.heap.size := (by omega)); (try have y12p : w.heap.size + 1 + 1 < w1.heap.size + 1 := (by omega)); (try have y13 : w.heap.size + 1 + 1 + 1 < w1.heap.size := (by omega)); (try have y13p : w.heap.size + 1 + 1 + 1 < w1.heap.size + 1 := (by omega)); (try have y14 : w.heap.size + 1 + 1 + 1 + 1 < w1.heap.size := (by omega)); (try have y14p : w.heap.size + 1 + 1 + 1 + 1 < w1.heap.size + 1 := (by omega)); (try have v0x1 : w0.heap.size < w1.heap.size := (by omega)); (try have v0x1p : w0.heap.size < w1.heap.size + 1 := (by omega)))
  | (go_at_call 28; refine (hS _).mono ?_; rintro e w2 ⟨A1,cp1,rfl,hb2⟩; obtain ⟨hc2,hf2⟩ := bcell hb2; have hz2 := hb2.size; (try simp at hz2); (try have y20 : w.heap.size < w2.heap.size := (by omega)); (try have y20p : w.heap.size < w2.heap.size + 1 := (by omega)); (try have y21 : w.heap.size + 1 < w2.heap.size := (by omega)); (try have y21p : w.heap.size + 1 < w2.heap.size + 1 := (by omega)); (try have y22 : w.heap.size + 1 + 1 < w2.heap.size := (by omega)); (try have y22p : w.heap.size + 1 + 1 < w2.heap.size + 1 := (by omega)); (try have y23 : w.heap.size + 1 + 1 + 1 < w2.heap.size := (by omega)); (try have y23p : w.heap.size + 1 + 1 + 1 < w2.heap.size + 1 := (by omega)); (try have y24 : w.heap.size + 1 + 1 + 1 + 1 < w2.heap.size := (by omega)); (try have y24p : w.heap.size + 1 + 1 + 1 + 1 < w2.heap.size + 1 := (by omega)); (try have v0x2 : w0.heap.size < w2.heap.size := (by omega)); (try have v0x2p : w0.heap.size < w2.heap.size + 1 := (by omega)); (try have v1x2 : w1.heap.size < w2.heap.size := (by omega)); (try have v1x2p : w1.heap.size < w2.heap.size + 1 := (by omega)))
  | (go_at_call 29; refine (hC _).mono ?_; rintro e w3 ⟨A2,cp2,rfl,hb3⟩; obtain ⟨hc3,hf3⟩ := bcell hb3; have hz3 := hb3.size; (try simp at hz3); (try have y30 : w.heap.size < w3.heap.size := (by omega)); (try have y30p : w.heap.size < w3.heap.size + 1 := (by omega)); (try have y31 : w.heap.size + 1 < w3.heap.size := (by omega)); (try have y31p : w.heap.size + 1 < w3.heap.size + 1 := (by omega)); (try have y32 : w.heap.size + 1 + 1 < w3.heap.size := (by omega)); (try have y32p : w.heap.size + 1 + 1 < w3.heap.size + 1 := (by omega)); (try have y33 : w.heap.size + 1 + 1 + 1 < w3.heap.size := (by omega)); (try have y33p : w.heap.size + 1 + 1 + 1 < w3.heap.size + 1 := (by omega)); (try have y34 : w.heap.size + 1 + 1 + 1 + 1 < w3.heap.size := (by omega)); (try have y34p : w.heap.size + 1 + 1 + 1 + 1 < w3.heap.size + 1 := (by omega)); (try have v0x3 : w0.heap.size < w3.heap.size := (by omega)); (try have v0x3p : w0.heap.size < w3.heap.size + 1 := (by omega)); (try have v1x3 : w1.heap.size < w3.heap.size := (by omega)); (try have v1x3p : w1.heap.size < w3.heap.size + 1 := (by omega)); (try have v2x3 : w2.heap.size < w3.heap.size := (by omega)); (try have v2x3p : w2.heap.size < w3.heap.size + 1 := (by omega))))
 go_ret
 refine ⟨rfl,?_⟩
 repeat (first | with_reducible exact Below.refl _ _ | with_reducible refine Below.setCell ?_ ?_ _ | with_reducible refine Below.alloc ?_ ?_ _ | with_reducible refine Below.drew ?_ | with_reducible refine below_drewN ?_ _ | (refine Below.trans ?_ (bmono (by assumption) ?_)))
 all_goals (first | omega | (simp <;> omega))
theorem frm_cut {lo hi t k : Int} {N m : Nat} (ht : 1 ≤ t) (hk : 0 ≤ k) (hn : (hi - lo + k) / (t + k) = (N : Int)) (h : m < cutN hi (frm lo (t + k) N) N N) : frm lo (t + k) m + t + k < hi := by
 have hs := frm_succ lo (t + k) m
 by_cases hz : hi ≤ frm lo (t + k) N
 ·rw [cutN_no hz] at h
  have := frm_in ht hk hn (n := m + 1) (by omega)
  omega
 ·rw [cutN_yes (by omega)] at h
  by_cases h1 : m + 1 = N
  ·rw [h1] at hs; omega
  ·have := frm_in ht hk hn (n := m + 1) (by omega)
   omega
theorem frm_ge {lo st : Int} (h : 0 ≤ st) (m : Nat) : lo ≤ frm lo st m := by
 have := Int.mul_nonneg (a := (m : Int)) (by omega) h
 unfold frm; omega
set_option maxHeartbeats 4000000 in
theorem parts_ax0 (x y z p q r t k : Int) (N : Nat) (hv : eB x y z p q r = 0) (ht : rgB 1 2000000 t = true) (hk : rgB 0 1000 k = true) (hn : (p - x + k) / (t + k) = (N : Int)) (hN0 : 0 < N) (hN : N ≤ 1000) (hA : (∀ w,Calls Try.prog 12 #[] w fun e w' => e = .returned (.bool true) ∧ Below w.heap.size w w')) (w : World) :
  Calls Try.prog 10 #[.agg #[x,y,z,p,q,r],.int .i64 0,.int .i64 t,.int .i64 k] w fun e w' => e = .returned (.bool true) ∧ Below w.heap.size w w' := by
 obtain ⟨⟨a1,a2,a3⟩,⟨a4,a5,a6⟩,⟨a7,a8,a9⟩⟩ := eB_bd hv
 have ht1 := (rgB_iff.1 ht).1
 have hk0 := (rgB_iff.1 hk).1
 have hsp : ∀ m,m < (cutN p (frm x (t + k) N) N N) → ∀ w,Calls Try.prog 14 #[.agg #[.int .i64 ((frm x (t + k) m)),.int .i64 y,.int .i64 z,.int .i64 p,.int .i64 q,.int .i64 r],.agg #[.int .i64 0,.int .i64 (frm x (t + k) m + t),.int .i64 k]] w fun e w' => e = .returned (.tuple #[.agg #[.int .i64 ((frm x (t + k) m)),.int .i64 y,.int .i64 z,.int .i64 ((frm x (t + k) m + t)),.int .i64 q,.int .i64 r],.agg #[.int .i64 ((midI0 (frm x (t + k) m) y z p q r (frm x (t + k) m + t) k).getD 0 0),.int .i64 ((midI0 (frm x (t + k) m) y z p q r (frm x (t + k) m + t) k).getD 1 0),.int .i64 ((midI0 (frm x (t + k) m) y z p q r (frm x (t + k) m + t) k).getD 2 0),.int .i64 ((midI0 (frm x (t + k) m) y z p q r (frm x (t + k) m + t) k).getD 3 0),.int .i64 ((midI0 (frm x (t + k) m) y z p q r (frm x (t + k) m + t) k).getD 4 0),.int .i64 ((midI0 (frm x (t + k) m) y z p q r (frm x (t + k) m + t) k).getD 5 0)],.agg #[.int .i64 ((frm x (t + k) (m + 1))),.int .i64 y,.int .i64 z,.int .i64 p,.int .i64 q,.int .i64 r],.int .i64 0]) ∧ Below w.heap.size w w' := fun m hm w => by
  have u1 := frm_cut ht1 hk0 hn hm
  have u2 := frm_ge (lo := x) (st := t + k) (by omega) m
  have u3 := frm_succ x (t + k) m
  have h := Split_ok0 (frm x (t + k) m) y z p q r (frm x (t + k) m + t) k (eB_mk (by omega) (by omega) (by omega) (by omega) (by omega) (by omega) (by omega) (by omega) (by omega)) (okI_0 hk (by omega) (by omega)) w
  rw [show frm x (t + k) m + t + k = frm x (t + k) (m + 1) by rw [u3]; omega] at h
  refine h.mono fun e w' he => ⟨?_,he.2⟩
  rw [he.1]
  unfold midI0
  split <;> rfl
 by_cases hz : p ≤ frm x (t + k) N
 ·have HR : slRest0 x y z p q r t k N = [.int .i64 0,.int .i64 0,.int .i64 0,.int .i64 0,.int .i64 0,.int .i64 0] := by unfold slRest0; rw [if_pos hz]
  have hM1 : N = (cutN p (frm x (t + k) N) N N) + 1 := by rw [cutN_no hz]; omega
  by_cases hb : 100 < N
  ·exact parts_big x y z p q r 0 t k (0) (0) (0) (0) (0) (0) N (cutN p (frm x (t + k) N) N N) hb
    (fun w => (Slices0 x y z p q r t k N hv ht hk hn hN0 hN w).mono fun e w' he => by
      obtain ⟨A,c,h1,h2,h3⟩ := he
      rw [HR] at h1
      exact ⟨A,c,h1,h3⟩)
    (fun w => (Cuts0 x y z p q r t k N hv ht hk hn hN0 hN w).mono fun e w' he => by
      obtain ⟨A,c,h1,h2,h3⟩ := he
      exact ⟨A,c,h1,h3⟩) hA w
  ·exact parts_run x y z p q r 0 t k (0) (0) (0) (0) (0) (0) N (cutN p (frm x (t + k) N) N N) (rowTo (slV0 x y z p q r t k) N) (rowTo (cuV0 x t k) (cutN p (frm x (t + k) N) N N)) (fun m i => ([(frm x (t + k) m),y,z,(frm x (t + k) m + t),q,r] : List Int).getD i 0) (fun m i => ([(frm x (t + k) m),y,z,p,q,r] : List Int).getD i 0) (fun m i => (midI0 (frm x (t + k) m) y z p q r (frm x (t + k) m + t) k).getD i 0) (fun m => frm x (t + k) m + t) hN0 (by omega) (cutN_le _ _ _)
    (fun m hm => ⟨(rowTo_at (j := 0) (slV0_len _ _ _ _ _ _ _ _) hm (by omega)).trans rfl,(rowTo_at (j := 1) (slV0_len _ _ _ _ _ _ _ _) hm (by omega)).trans rfl,(rowTo_at (j := 2) (slV0_len _ _ _ _ _ _ _ _) hm (by omega)).trans rfl,(rowTo_at (j := 3) (slV0_len _ _ _ _ _ _ _ _) hm (by omega)).trans rfl,(rowTo_at (j := 4) (slV0_len _ _ _ _ _ _ _ _) hm (by omega)).trans rfl,(rowTo_at (j := 5) (slV0_len _ _ _ _ _ _ _ _) hm (by omega)).trans rfl⟩)
    (fun m hm => ⟨(rowTo_at (j := 0) (cuV0_len _ _ _) hm (by omega)).trans rfl,(rowTo_at (j := 1) (cuV0_len _ _ _) hm (by omega)).trans rfl,(rowTo_at (j := 2) (cuV0_len _ _ _) hm (by omega)).trans rfl⟩)
    ⟨frm_zero _ _,rfl,rfl,rfl,rfl,rfl⟩
    (fun w => (Slices0 x y z p q r t k N hv ht hk hn hN0 hN w).mono fun e w' he => by
      obtain ⟨A,c,h1,h2,h3⟩ := he
      rw [HR] at h1
      exact ⟨A,c,h1,h2,h3⟩)
    (fun w => (Cuts0 x y z p q r t k N hv ht hk hn hN0 hN w).mono fun e w' he => he)
    hsp hA
    (.inr ⟨hM1,⟨rfl,rfl,rfl,rfl,rfl,rfl⟩,⟨rfl,rfl,rfl⟩,by
     have u1 := frm_in ht1 hk0 hn (n := (cutN p (frm x (t + k) N) N N)) (by omega)
     have u2 := frm_ge (lo := x) (st := t + k) (by omega) (cutN p (frm x (t + k) N) N N)
     show -10000000000 ≤ p ∧ p ≤ 10000000000 ∧ -10000000000 ≤ q ∧ q ≤ 10000000000 ∧ -10000000000 ≤ r ∧ r ≤ 10000000000 ∧ -10000000000 ≤ (frm x (t + k) (cutN p (frm x (t + k) N) N N) + t) ∧ (frm x (t + k) (cutN p (frm x (t + k) N) N N) + t) ≤ 10000000000 ∧ -10000000000 ≤ q ∧ q ≤ 10000000000 ∧ -10000000000 ≤ r ∧ r ≤ 10000000000
     omega,by
     have u1 := frm_in ht1 hk0 hn (n := (cutN p (frm x (t + k) N) N N)) (by omega)
     show 0 ≤ p - (frm x (t + k) (cutN p (frm x (t + k) N) N N) + t) + q - q + r - r
     omega,by
     have u1 := frm_succ x (t + k) (cutN p (frm x (t + k) N) N N)
     rw [← hM1] at u1
     show p - (frm x (t + k) (cutN p (frm x (t + k) N) N N) + t) + q - q + r - r ≤ k
     omega⟩) w
 ·have HR : slRest0 x y z p q r t k N = [.int .i64 (frm x (t + k) N),.int .i64 y,.int .i64 z,.int .i64 p,.int .i64 q,.int .i64 r] := by unfold slRest0; rw [if_neg hz]
  have hM1 : (cutN p (frm x (t + k) N) N N) = N := by exact cutN_yes (by omega) N
  by_cases hb : 100 < N
  ·exact parts_big x y z p q r 0 t k (frm x (t + k) N) (y) (z) (p) (q) (r) N (cutN p (frm x (t + k) N) N N) hb
    (fun w => (Slices0 x y z p q r t k N hv ht hk hn hN0 hN w).mono fun e w' he => by
      obtain ⟨A,c,h1,h2,h3⟩ := he
      rw [HR] at h1
      exact ⟨A,c,h1,h3⟩)
    (fun w => (Cuts0 x y z p q r t k N hv ht hk hn hN0 hN w).mono fun e w' he => by
      obtain ⟨A,c,h1,h2,h3⟩ := he
      exact ⟨A,c,h1,h3⟩) hA w
  ·exact parts_run x y z p q r 0 t k (frm x (t + k) N) (y) (z) (p) (q) (r) N (cutN p (frm x (t + k) N) N N) (rowTo (slV0 x y z p q r t k) N) (rowTo (cuV0 x t k) (cutN p (frm x (t + k) N) N N)) (fun m i => ([(frm x (t + k) m),y,z,(frm x (t + k) m + t),q,r] : List Int).getD i 0) (fun m i => ([(frm x (t + k) m),y,z,p,q,r] : List Int).getD i 0) (fun m i => (midI0 (frm x (t + k) m) y z p q r (frm x (t + k) m + t) k).getD i 0) (fun m => frm x (t + k) m + t) hN0 (by omega) (cutN_le _ _ _)
    (fun m hm => ⟨(rowTo_at (j := 0) (slV0_len _ _ _ _ _ _ _ _) hm (by omega)).trans rfl,(rowTo_at (j := 1) (slV0_len _ _ _ _ _ _ _ _) hm (by omega)).trans rfl,(rowTo_at (j := 2) (slV0_len _ _ _ _ _ _ _ _) hm (by omega)).trans rfl,(rowTo_at (j := 3) (slV0_len _ _ _ _ _ _ _ _) hm (by omega)).trans rfl,(rowTo_at (j := 4) (slV0_len _ _ _ _ _ _ _ _) hm (by omega)).trans rfl,(rowTo_at (j := 5) (slV0_len _ _ _ _ _ _ _ _) hm (by omega)).trans rfl⟩)
    (fun m hm => ⟨(rowTo_at (j := 0) (cuV0_len _ _ _) hm (by omega)).trans rfl,(rowTo_at (j := 1) (cuV0_len _ _ _) hm (by omega)).trans rfl,(rowTo_at (j := 2) (cuV0_len _ _ _) hm (by omega)).trans rfl⟩)
    ⟨frm_zero _ _,rfl,rfl,rfl,rfl,rfl⟩
    (fun w => (Slices0 x y z p q r t k N hv ht hk hn hN0 hN w).mono fun e w' he => by
      obtain ⟨A,c,h1,h2,h3⟩ := he
      rw [HR] at h1
      exact ⟨A,c,h1,h2,h3⟩)
    (fun w => (Cuts0 x y z p q r t k N hv ht hk hn hN0 hN w).mono fun e w' he => he)
    hsp hA
    (.inl ⟨hM1,by
     rw [← Bool.not_eq_true]
     simp
     omega,by rw [hM1]; rfl,rfl,rfl,rfl,rfl,rfl⟩) w
set_option maxHeartbeats 4000000 in
theorem parts_ax1 (x y z p q r t k : Int) (N : Nat) (hv : eB x y z p q r = 0) (ht : rgB 1 2000000 t = true) (hk : rgB 0 1000 k = true) (hn : (q - y + k) / (t + k) = (N : Int)) (hN0 : 0 < N) (hN : N ≤ 1000) (hA : (∀ w,Calls Try.prog 12 #[] w fun e w' => e = .returned (.bool true) ∧ Below w.heap.size w w')) (w : World) :
  Calls Try.prog 10 #[.agg #[x,y,z,p,q,r],.int .i64 1,.int .i64 t,.int .i64 k] w fun e w' => e = .returned (.bool true) ∧ Below w.heap.size w w' := by
 obtain ⟨⟨a1,a2,a3⟩,⟨a4,a5,a6⟩,⟨a7,a8,a9⟩⟩ := eB_bd hv
 have ht1 := (rgB_iff.1 ht).1
 have hk0 := (rgB_iff.1 hk).1
 have hsp : ∀ m,m < (cutN q (frm y (t + k) N) N N) → ∀ w,Calls Try.prog 14 #[.agg #[.int .i64 x,.int .i64 ((frm y (t + k) m)),.int .i64 z,.int .i64 p,.int .i64 q,.int .i64 r],.agg #[.int .i64 1,.int .i64 (frm y (t + k) m + t),.int .i64 k]] w fun e w' => e = .returned (.tuple #[.agg #[.int .i64 x,.int .i64 ((frm y (t + k) m)),.int .i64 z,.int .i64 p,.int .i64 ((frm y (t + k) m + t)),.int .i64 r],.agg #[.int .i64 ((midI1 x (frm y (t + k) m) z p q r (frm y (t + k) m + t) k).getD 0 0),.int .i64 ((midI1 x (frm y (t + k) m) z p q r (frm y (t + k) m + t) k).getD 1 0),.int .i64 ((midI1 x (frm y (t + k) m) z p q r (frm y (t + k) m + t) k).getD 2 0),.int .i64 ((midI1 x (frm y (t + k) m) z p q r (frm y (t + k) m + t) k).getD 3 0),.int .i64 ((midI1 x (frm y (t + k) m) z p q r (frm y (t + k) m + t) k).getD 4 0),.int .i64 ((midI1 x (frm y (t + k) m) z p q r (frm y (t + k) m + t) k).getD 5 0)],.agg #[.int .i64 x,.int .i64 ((frm y (t + k) (m + 1))),.int .i64 z,.int .i64 p,.int .i64 q,.int .i64 r],.int .i64 0]) ∧ Below w.heap.size w w' := fun m hm w => by
  have u1 := frm_cut ht1 hk0 hn hm
  have u2 := frm_ge (lo := y) (st := t + k) (by omega) m
  have u3 := frm_succ y (t + k) m
  have h := Split_ok1 x (frm y (t + k) m) z p q r (frm y (t + k) m + t) k (eB_mk (by omega) (by omega) (by omega) (by omega) (by omega) (by omega) (by omega) (by omega) (by omega)) (okI_0 hk (by omega) (by omega)) w
  rw [show frm y (t + k) m + t + k = frm y (t + k) (m + 1) by rw [u3]; omega] at h
  refine h.mono fun e w' he => ⟨?_,he.2⟩
  rw [he.1]
  unfold midI1
  split <;> rfl
 by_cases hz : q ≤ frm y (t + k) N
 ·have HR : slRest1 x y z p q r t k N = [.int .i64 0,.int .i64 0,.int .i64 0,.int .i64 0,.int .i64 0,.int .i64 0] := by unfold slRest1; rw [if_pos hz]
  have hM1 : N = (cutN q (frm y (t + k) N) N N) + 1 := by rw [cutN_no hz]; omega
  by_cases hb : 100 < N
  ·exact parts_big x y z p q r 1 t k (0) (0) (0) (0) (0) (0) N (cutN q (frm y (t + k) N) N N) hb
    (fun w => (Slices1 x y z p q r t k N hv ht hk hn hN0 hN w).mono fun e w' he => by
      obtain ⟨A,c,h1,h2,h3⟩ := he
      rw [HR] at h1
      exact ⟨A,c,h1,h3⟩)
    (fun w => (Cuts1 x y z p q r t k N hv ht hk hn hN0 hN w).mono fun e w' he => by
      obtain ⟨A,c,h1,h2,h3⟩ := he
      exact ⟨A,c,h1,h3⟩) hA w
  ·exact parts_run x y z p q r 1 t k (0) (0) (0) (0) (0) (0) N (cutN q (frm y (t + k) N) N N) (rowTo (slV1 x y z p q r t k) N) (rowTo (cuV1 y t k) (cutN q (frm y (t + k) N) N N)) (fun m i => ([x,(frm y (t + k) m),z,p,(frm y (t + k) m + t),r] : List Int).getD i 0) (fun m i => ([x,(frm y (t + k) m),z,p,q,r] : List Int).getD i 0) (fun m i => (midI1 x (frm y (t + k) m) z p q r (frm y (t + k) m + t) k).getD i 0) (fun m => frm y (t + k) m + t) hN0 (by omega) (cutN_le _ _ _)
    (fun m hm => ⟨(rowTo_at (j := 0) (slV1_len _ _ _ _ _ _ _ _) hm (by omega)).trans rfl,(rowTo_at (j := 1) (slV1_len _ _ _ _ _ _ _ _) hm (by omega)).trans rfl,(rowTo_at (j := 2) (slV1_len _ _ _ _ _ _ _ _) hm (by omega)).trans rfl,(rowTo_at (j := 3) (slV1_len _ _ _ _ _ _ _ _) hm (by omega)).trans rfl,(rowTo_at (j := 4) (slV1_len _ _ _ _ _ _ _ _) hm (by omega)).trans rfl,(rowTo_at (j := 5) (slV1_len _ _ _ _ _ _ _ _) hm (by omega)).trans rfl⟩)
    (fun m hm => ⟨(rowTo_at (j := 0) (cuV1_len _ _ _) hm (by omega)).trans rfl,(rowTo_at (j := 1) (cuV1_len _ _ _) hm (by omega)).trans rfl,(rowTo_at (j := 2) (cuV1_len _ _ _) hm (by omega)).trans rfl⟩)
    ⟨rfl,frm_zero _ _,rfl,rfl,rfl,rfl⟩
    (fun w => (Slices1 x y z p q r t k N hv ht hk hn hN0 hN w).mono fun e w' he => by
      obtain ⟨A,c,h1,h2,h3⟩ := he
      rw [HR] at h1
      exact ⟨A,c,h1,h2,h3⟩)
    (fun w => (Cuts1 x y z p q r t k N hv ht hk hn hN0 hN w).mono fun e w' he => he)
    hsp hA
    (.inr ⟨hM1,⟨rfl,rfl,rfl,rfl,rfl,rfl⟩,⟨rfl,rfl,rfl⟩,by
     have u1 := frm_in ht1 hk0 hn (n := (cutN q (frm y (t + k) N) N N)) (by omega)
     have u2 := frm_ge (lo := y) (st := t + k) (by omega) (cutN q (frm y (t + k) N) N N)
     show -10000000000 ≤ p ∧ p ≤ 10000000000 ∧ -10000000000 ≤ q ∧ q ≤ 10000000000 ∧ -10000000000 ≤ r ∧ r ≤ 10000000000 ∧ -10000000000 ≤ p ∧ p ≤ 10000000000 ∧ -10000000000 ≤ (frm y (t + k) (cutN q (frm y (t + k) N) N N) + t) ∧ (frm y (t + k) (cutN q (frm y (t + k) N) N N) + t) ≤ 10000000000 ∧ -10000000000 ≤ r ∧ r ≤ 10000000000
     omega,by
     have u1 := frm_in ht1 hk0 hn (n := (cutN q (frm y (t + k) N) N N)) (by omega)
     show 0 ≤ p - p + q - (frm y (t + k) (cutN q (frm y (t + k) N) N N) + t) + r - r
     omega,by
     have u1 := frm_succ y (t + k) (cutN q (frm y (t + k) N) N N)
     rw [← hM1] at u1
     show p - p + q - (frm y (t + k) (cutN q (frm y (t + k) N) N N) + t) + r - r ≤ k
     omega⟩) w
 ·have HR : slRest1 x y z p q r t k N = [.int .i64 x,.int .i64 (frm y (t + k) N),.int .i64 z,.int .i64 p,.int .i64 q,.int .i64 r] := by unfold slRest1; rw [if_neg hz]
  have hM1 : (cutN q (frm y (t + k) N) N N) = N := by exact cutN_yes (by omega) N
  by_cases hb : 100 < N
  ·exact parts_big x y z p q r 1 t k (x) (frm y (t + k) N) (z) (p) (q) (r) N (cutN q (frm y (t + k) N) N N) hb
    (fun w => (Slices1 x y z p q r t k N hv ht hk hn hN0 hN w).mono fun e w' he => by
      obtain ⟨A,c,h1,h2,h3⟩ := he
      rw [HR] at h1
      exact ⟨A,c,h1,h3⟩)
    (fun w => (Cuts1 x y z p q r t k N hv ht hk hn hN0 hN w).mono fun e w' he => by
      obtain ⟨A,c,h1,h2,h3⟩ := he
      exact ⟨A,c,h1,h3⟩) hA w
  ·exact parts_run x y z p q r 1 t k (x) (frm y (t + k) N) (z) (p) (q) (r) N (cutN q (frm y (t + k) N) N N) (rowTo (slV1 x y z p q r t k) N) (rowTo (cuV1 y t k) (cutN q (frm y (t + k) N) N N)) (fun m i => ([x,(frm y (t + k) m),z,p,(frm y (t + k) m + t),r] : List Int).getD i 0) (fun m i => ([x,(frm y (t + k) m),z,p,q,r] : List Int).getD i 0) (fun m i => (midI1 x (frm y (t + k) m) z p q r (frm y (t + k) m + t) k).getD i 0) (fun m => frm y (t + k) m + t) hN0 (by omega) (cutN_le _ _ _)
    (fun m hm => ⟨(rowTo_at (j := 0) (slV1_len _ _ _ _ _ _ _ _) hm (by omega)).trans rfl,(rowTo_at (j := 1) (slV1_len _ _ _ _ _ _ _ _) hm (by omega)).trans rfl,(rowTo_at (j := 2) (slV1_len _ _ _ _ _ _ _ _) hm (by omega)).trans rfl,(rowTo_at (j := 3) (slV1_len _ _ _ _ _ _ _ _) hm (by omega)).trans rfl,(rowTo_at (j := 4) (slV1_len _ _ _ _ _ _ _ _) hm (by omega)).trans rfl,(rowTo_at (j := 5) (slV1_len _ _ _ _ _ _ _ _) hm (by omega)).trans rfl⟩)
    (fun m hm => ⟨(rowTo_at (j := 0) (cuV1_len _ _ _) hm (by omega)).trans rfl,(rowTo_at (j := 1) (cuV1_len _ _ _) hm (by omega)).trans rfl,(rowTo_at (j := 2) (cuV1_len _ _ _) hm (by omega)).trans rfl⟩)
    ⟨rfl,frm_zero _ _,rfl,rfl,rfl,rfl⟩
    (fun w => (Slices1 x y z p q r t k N hv ht hk hn hN0 hN w).mono fun e w' he => by
      obtain ⟨A,c,h1,h2,h3⟩ := he
      rw [HR] at h1
      exact ⟨A,c,h1,h2,h3⟩)
    (fun w => (Cuts1 x y z p q r t k N hv ht hk hn hN0 hN w).mono fun e w' he => he)
    hsp hA
    (.inl ⟨hM1,by
     rw [← Bool.not_eq_true]
     simp
     omega,rfl,by rw [hM1]; rfl,rfl,rfl,rfl,rfl⟩) w
set_option maxHeartbeats 4000000 in
theorem parts_ax2 (x y z p q r t k : Int) (N : Nat) (hv : eB x y z p q r = 0) (ht : rgB 1 2000000 t = true) (hk : rgB 0 1000 k = true) (hn : (r - z + k) / (t + k) = (N : Int)) (hN0 : 0 < N) (hN : N ≤ 1000) (hA : (∀ w,Calls Try.prog 12 #[] w fun e w' => e = .returned (.bool true) ∧ Below w.heap.size w w')) (w : World) :
  Calls Try.prog 10 #[.agg #[x,y,z,p,q,r],.int .i64 2,.int .i64 t,.int .i64 k] w fun e w' => e = .returned (.bool true) ∧ Below w.heap.size w w' := by
 obtain ⟨⟨a1,a2,a3⟩,⟨a4,a5,a6⟩,⟨a7,a8,a9⟩⟩ := eB_bd hv
 have ht1 := (rgB_iff.1 ht).1
 have hk0 := (rgB_iff.1 hk).1
 have hsp : ∀ m,m < (cutN r (frm z (t + k) N) N N) → ∀ w,Calls Try.prog 14 #[.agg #[.int .i64 x,.int .i64 y,.int .i64 ((frm z (t + k) m)),.int .i64 p,.int .i64 q,.int .i64 r],.agg #[.int .i64 2,.int .i64 (frm z (t + k) m + t),.int .i64 k]] w fun e w' => e = .returned (.tuple #[.agg #[.int .i64 x,.int .i64 y,.int .i64 ((frm z (t + k) m)),.int .i64 p,.int .i64 q,.int .i64 ((frm z (t + k) m + t))],.agg #[.int .i64 ((midI2 x y (frm z (t + k) m) p q r (frm z (t + k) m + t) k).getD 0 0),.int .i64 ((midI2 x y (frm z (t + k) m) p q r (frm z (t + k) m + t) k).getD 1 0),.int .i64 ((midI2 x y (frm z (t + k) m) p q r (frm z (t + k) m + t) k).getD 2 0),.int .i64 ((midI2 x y (frm z (t + k) m) p q r (frm z (t + k) m + t) k).getD 3 0),.int .i64 ((midI2 x y (frm z (t + k) m) p q r (frm z (t + k) m + t) k).getD 4 0),.int .i64 ((midI2 x y (frm z (t + k) m) p q r (frm z (t + k) m + t) k).getD 5 0)],.agg #[.int .i64 x,.int .i64 y,.int .i64 ((frm z (t + k) (m + 1))),.int .i64 p,.int .i64 q,.int .i64 r],.int .i64 0]) ∧ Below w.heap.size w w' := fun m hm w => by
  have u1 := frm_cut ht1 hk0 hn hm
  have u2 := frm_ge (lo := z) (st := t + k) (by omega) m
  have u3 := frm_succ z (t + k) m
  have h := Split_ok2 x y (frm z (t + k) m) p q r (frm z (t + k) m + t) k (eB_mk (by omega) (by omega) (by omega) (by omega) (by omega) (by omega) (by omega) (by omega) (by omega)) (okI_0 hk (by omega) (by omega)) w
  rw [show frm z (t + k) m + t + k = frm z (t + k) (m + 1) by rw [u3]; omega] at h
  refine h.mono fun e w' he => ⟨?_,he.2⟩
  rw [he.1]
  unfold midI2
  split <;> rfl
 by_cases hz : r ≤ frm z (t + k) N
 ·have HR : slRest2 x y z p q r t k N = [.int .i64 0,.int .i64 0,.int .i64 0,.int .i64 0,.int .i64 0,.int .i64 0] := by unfold slRest2; rw [if_pos hz]
  have hM1 : N = (cutN r (frm z (t + k) N) N N) + 1 := by rw [cutN_no hz]; omega
  by_cases hb : 100 < N
  ·exact parts_big x y z p q r 2 t k (0) (0) (0) (0) (0) (0) N (cutN r (frm z (t + k) N) N N) hb
    (fun w => (Slices2 x y z p q r t k N hv ht hk hn hN0 hN w).mono fun e w' he => by
      obtain ⟨A,c,h1,h2,h3⟩ := he
      rw [HR] at h1
      exact ⟨A,c,h1,h3⟩)
    (fun w => (Cuts2 x y z p q r t k N hv ht hk hn hN0 hN w).mono fun e w' he => by
      obtain ⟨A,c,h1,h2,h3⟩ := he
      exact ⟨A,c,h1,h3⟩) hA w
  ·exact parts_run x y z p q r 2 t k (0) (0) (0) (0) (0) (0) N (cutN r (frm z (t + k) N) N N) (rowTo (slV2 x y z p q r t k) N) (rowTo (cuV2 z t k) (cutN r (frm z (t + k) N) N N)) (fun m i => ([x,y,(frm z (t + k) m),p,q,(frm z (t + k) m + t)] : List Int).getD i 0) (fun m i => ([x,y,(frm z (t + k) m),p,q,r] : List Int).getD i 0) (fun m i => (midI2 x y (frm z (t + k) m) p q r (frm z (t + k) m + t) k).getD i 0) (fun m => frm z (t + k) m + t) hN0 (by omega) (cutN_le _ _ _)
    (fun m hm => ⟨(rowTo_at (j := 0) (slV2_len _ _ _ _ _ _ _ _) hm (by omega)).trans rfl,(rowTo_at (j := 1) (slV2_len _ _ _ _ _ _ _ _) hm (by omega)).trans rfl,(rowTo_at (j := 2) (slV2_len _ _ _ _ _ _ _ _) hm (by omega)).trans rfl,(rowTo_at (j := 3) (slV2_len _ _ _ _ _ _ _ _) hm (by omega)).trans rfl,(rowTo_at (j := 4) (slV2_len _ _ _ _ _ _ _ _) hm (by omega)).trans rfl,(rowTo_at (j := 5) (slV2_len _ _ _ _ _ _ _ _) hm (by omega)).trans rfl⟩)
    (fun m hm => ⟨(rowTo_at (j := 0) (cuV2_len _ _ _) hm (by omega)).trans rfl,(rowTo_at (j := 1) (cuV2_len _ _ _) hm (by omega)).trans rfl,(rowTo_at (j := 2) (cuV2_len _ _ _) hm (by omega)).trans rfl⟩)
    ⟨rfl,rfl,frm_zero _ _,rfl,rfl,rfl⟩
    (fun w => (Slices2 x y z p q r t k N hv ht hk hn hN0 hN w).mono fun e w' he => by
      obtain ⟨A,c,h1,h2,h3⟩ := he
      rw [HR] at h1
      exact ⟨A,c,h1,h2,h3⟩)
    (fun w => (Cuts2 x y z p q r t k N hv ht hk hn hN0 hN w).mono fun e w' he => he)
    hsp hA
    (.inr ⟨hM1,⟨rfl,rfl,rfl,rfl,rfl,rfl⟩,⟨rfl,rfl,rfl⟩,by
     have u1 := frm_in ht1 hk0 hn (n := (cutN r (frm z (t + k) N) N N)) (by omega)
     have u2 := frm_ge (lo := z) (st := t + k) (by omega) (cutN r (frm z (t + k) N) N N)
     show -10000000000 ≤ p ∧ p ≤ 10000000000 ∧ -10000000000 ≤ q ∧ q ≤ 10000000000 ∧ -10000000000 ≤ r ∧ r ≤ 10000000000 ∧ -10000000000 ≤ p ∧ p ≤ 10000000000 ∧ -10000000000 ≤ q ∧ q ≤ 10000000000 ∧ -10000000000 ≤ (frm z (t + k) (cutN r (frm z (t + k) N) N N) + t) ∧ (frm z (t + k) (cutN r (frm z (t + k) N) N N) + t) ≤ 10000000000
     omega,by
     have u1 := frm_in ht1 hk0 hn (n := (cutN r (frm z (t + k) N) N N)) (by omega)
     show 0 ≤ p - p + q - q + r - (frm z (t + k) (cutN r (frm z (t + k) N) N N) + t)
     omega,by
     have u1 := frm_succ z (t + k) (cutN r (frm z (t + k) N) N N)
     rw [← hM1] at u1
     show p - p + q - q + r - (frm z (t + k) (cutN r (frm z (t + k) N) N N) + t) ≤ k
     omega⟩) w
 ·have HR : slRest2 x y z p q r t k N = [.int .i64 x,.int .i64 y,.int .i64 (frm z (t + k) N),.int .i64 p,.int .i64 q,.int .i64 r] := by unfold slRest2; rw [if_neg hz]
  have hM1 : (cutN r (frm z (t + k) N) N N) = N := by exact cutN_yes (by omega) N
  by_cases hb : 100 < N
  ·exact parts_big x y z p q r 2 t k (x) (y) (frm z (t + k) N) (p) (q) (r) N (cutN r (frm z (t + k) N) N N) hb
    (fun w => (Slices2 x y z p q r t k N hv ht hk hn hN0 hN w).mono fun e w' he => by
      obtain ⟨A,c,h1,h2,h3⟩ := he
      rw [HR] at h1
      exact ⟨A,c,h1,h3⟩)
    (fun w => (Cuts2 x y z p q r t k N hv ht hk hn hN0 hN w).mono fun e w' he => by
      obtain ⟨A,c,h1,h2,h3⟩ := he
      exact ⟨A,c,h1,h3⟩) hA w
  ·exact parts_run x y z p q r 2 t k (x) (y) (frm z (t + k) N) (p) (q) (r) N (cutN r (frm z (t + k) N) N N) (rowTo (slV2 x y z p q r t k) N) (rowTo (cuV2 z t k) (cutN r (frm z (t + k) N) N N)) (fun m i => ([x,y,(frm z (t + k) m),p,q,(frm z (t + k) m + t)] : List Int).getD i 0) (fun m i => ([x,y,(frm z (t + k) m),p,q,r] : List Int).getD i 0) (fun m i => (midI2 x y (frm z (t + k) m) p q r (frm z (t + k) m + t) k).getD i 0) (fun m => frm z (t + k) m + t) hN0 (by omega) (cutN_le _ _ _)
    (fun m hm => ⟨(rowTo_at (j := 0) (slV2_len _ _ _ _ _ _ _ _) hm (by omega)).trans rfl,(rowTo_at (j := 1) (slV2_len _ _ _ _ _ _ _ _) hm (by omega)).trans rfl,(rowTo_at (j := 2) (slV2_len _ _ _ _ _ _ _ _) hm (by omega)).trans rfl,(rowTo_at (j := 3) (slV2_len _ _ _ _ _ _ _ _) hm (by omega)).trans rfl,(rowTo_at (j := 4) (slV2_len _ _ _ _ _ _ _ _) hm (by omega)).trans rfl,(rowTo_at (j := 5) (slV2_len _ _ _ _ _ _ _ _) hm (by omega)).trans rfl⟩)
    (fun m hm => ⟨(rowTo_at (j := 0) (cuV2_len _ _ _) hm (by omega)).trans rfl,(rowTo_at (j := 1) (cuV2_len _ _ _) hm (by omega)).trans rfl,(rowTo_at (j := 2) (cuV2_len _ _ _) hm (by omega)).trans rfl⟩)
    ⟨rfl,rfl,frm_zero _ _,rfl,rfl,rfl⟩
    (fun w => (Slices2 x y z p q r t k N hv ht hk hn hN0 hN w).mono fun e w' he => by
      obtain ⟨A,c,h1,h2,h3⟩ := he
      rw [HR] at h1
      exact ⟨A,c,h1,h2,h3⟩)
    (fun w => (Cuts2 x y z p q r t k N hv ht hk hn hN0 hN w).mono fun e w' he => he)
    hsp hA
    (.inl ⟨hM1,by
     rw [← Bool.not_eq_true]
     simp
     omega,rfl,rfl,by rw [hM1]; rfl,rfl,rfl,rfl⟩) w
theorem parts_all (x y z p q r a t k : Int) (hA : (∀ w,Calls Try.prog 12 #[] w fun e w' => e = .returned (.bool true) ∧ Below w.heap.size w w')) (w : World) : Calls Try.prog 10 #[.agg #[x,y,z,p,q,r],.int .i64 a,.int .i64 t,.int .i64 k] w fun e w' => e = .returned (.bool true) ∧ Below w.heap.size w w' := by
 by_cases h : slE x y z p q r a t k = 0
 ·obtain ⟨hv,ha,ht,hk,hc⟩ := slE_z h
  obtain ⟨⟨a1,a2,a3⟩,⟨a4,a5,a6⟩,⟨a7,a8,a9⟩⟩ := eB_bd hv
  have i2 := rgB_iff.1 ht
  have i3 := rgB_iff.1 hk
  rcases ax3 ha with rfl | rfl | rfl
  ·have hc' : csE ((p - x + k) / (t + k)) = 0 := hc
   have hb := most_bd (l := p - x) (t := t) (k := k) (by omega) (by omega) i2.1 i3.1 i3.2
   obtain ⟨h0,h1⟩ := csE_z hc' hb.1
   exact parts_ax0 x y z p q r t k ((p - x + k) / (t + k)).toNat hv ht hk (by omega) (by omega) (by omega) hA w
  ·have hc' : csE ((q - y + k) / (t + k)) = 0 := hc
   have hb := most_bd (l := q - y) (t := t) (k := k) (by omega) (by omega) i2.1 i3.1 i3.2
   obtain ⟨h0,h1⟩ := csE_z hc' hb.1
   exact parts_ax1 x y z p q r t k ((q - y + k) / (t + k)).toNat hv ht hk (by omega) (by omega) (by omega) hA w
  ·have hc' : csE ((r - z + k) / (t + k)) = 0 := hc
   have hb := most_bd (l := r - z) (t := t) (k := k) (by omega) (by omega) i2.1 i3.1 i3.2
   obtain ⟨h0,h1⟩ := csE_z hc' hb.1
   exact parts_ax2 x y z p q r t k ((r - z + k) / (t + k)).toNat hv ht hk (by omega) (by omega) (by omega) hA w
 ·exact parts_no x y z p q r a t k _ rfl h hA w
end Go.Proofs.Ytogmgaaejepcbaa

namespace Go.Proofs.Ytogmgaaejepcbaa
open Go.ChangeShapes Go.WideShapes Go.ChangeAt Go.RowKit Go.Deep

theorem kerfParts_any (x y z p q r a t k : Int) (w : World) : Calls Try.prog 10 #[.agg #[x,y,z,p,q,r],.int .i64 a,.int .i64 t,.int .i64 k] w fun e w' => e = .returned (.bool true) ∧ Below w.heap.size w w' := parts_all x y z p q r a t k awake_any w

set_option maxHeartbeats 800000 in
set_option maxRecDepth 100000 in
theorem kerfParts_lifted (os : Os) (started : os.Started) (H : Type) (enc : TypeId × Value → H) :
  ReturnsInHanded {} Try.checked os 10 .any (Rows.kerfPartsSpec.pre6 enc Try.prog Try.f10 Rows.kerfPartsRow.domain false) (Rows.kerfPartsSpec.post enc Try.prog Try.f10 false true false false) := by
 refine returnsInHanded_of_change (C := Try.checked) Try.own started (by kernel_rfl) Try.func10
  (ChangeSpec.witness6 (enc := enc) (C := Try.checked) false ⟨#[],#[.agg #[.int .i64 0,.int .i64 0,.int .i64 0,.int .i64 0,.int .i64 0,.int .i64 0],.int .i64 0,.int .i64 0,.int .i64 0],[]⟩ 8 (by kernel_rfl) (by kernel_rfl) (by kernel_rfl) (by kernel_rfl)) ?_
 intro W base args ds gs before hval0 hW _ _
 have hval : ∀ (j : Nat) t v,Try.f10.params[j]? = some t → args[j]? = some v → Value.okWide Try.prog W .any base t v := hval0
 have hW' := hW
 obtain ⟨p,q,hA0,hV,rfl,_,_⟩ := hW
 have hA : DataW.TrodAll enc Try.prog W 0 (fun _ => true) true Try.f10.params.toList args.toList ds p := hA0
 rw [Try.params10] at hA hval
 obtain ⟨v0,v1,v2,v3,d0,d1,d2,d3,p0,p1,p2,p3,rfl,rfl,rfl,h0,h1,h2,h3⟩ := trodAll_four hA
 obtain ⟨rfl,rfl⟩ := trodVars_none hV
 clear hA0 hval0
 simp only [List.append_nil] at hW'
 have harg0 : ∀ W' : World,Below W.heap.size W W' → DataW.Trod enc Try.prog W' 0 (fun b => decide (b < W.heap.size)) true 25 v0 d0 p0 :=
  fun W' hn => Below.trod Try.laidOut (by kernel_rfl) (of_decide_eq_true (by kernel_rfl)) h0 hn (fun y hy => by simpa using hW'.lt y (by simp [hy]))
 have harg1 : ∀ W' : World,Below W.heap.size W W' → DataW.Trod enc Try.prog W' 0 (fun b => decide (b < W.heap.size)) true 3 v1 d1 p1 :=
  fun W' hn => Below.trod Try.laidOut (by kernel_rfl) (of_decide_eq_true (by kernel_rfl)) h1 hn (fun y hy => by simpa using hW'.lt y (by simp [hy]))
 have harg2 : ∀ W' : World,Below W.heap.size W W' → DataW.Trod enc Try.prog W' 0 (fun b => decide (b < W.heap.size)) true 3 v2 d2 p2 :=
  fun W' hn => Below.trod Try.laidOut (by kernel_rfl) (of_decide_eq_true (by kernel_rfl)) h2 hn (fun y hy => by simpa using hW'.lt y (by simp [hy]))
 have harg3 : ∀ W' : World,Below W.heap.size W W' → DataW.Trod enc Try.prog W' 0 (fun b => decide (b < W.heap.size)) true 3 v3 d3 p3 :=
  fun W' hn => Below.trod Try.laidOut (by kernel_rfl) (of_decide_eq_true (by kernel_rfl)) h3 hn (fun y hy => by simpa using hW'.lt y (by simp [hy]))
 obtain ⟨x,y,z,p,q,r,rfl⟩ := open_box (hval 0 25 v0 rfl rfl) h0
 obtain ⟨a,rfl,_,_,_⟩ := open_int Try.underlying3 (hval 1 3 v1 rfl rfl) h1
 obtain ⟨t,rfl,_,_,_⟩ := open_int Try.underlying3 (hval 2 3 v2 rfl rfl) h2
 obtain ⟨k,rfl,_,_,_⟩ := open_int Try.underlying3 (hval 3 3 v3 rfl rfl) h3
 refine (kerfParts_any x y z p q r a t k W).mono fun e W' ⟨he,hn⟩ => ?_
 subst he
 exact ⟨_,rfl,_,_,_,[],_,[],hW',trodAll_mk1 (shut_bool Try.underlying4 _),trodAll_mk4 (harg0 _ hn) (harg1 _ hn) (harg2 _ hn) (harg3 _ hn),(List.append_nil _).symm,hn.frame _,fun h => by cases h⟩

theorem kerfParts_holds : Rows.KerfPartsSaid :=
 OpenClaim.holds_of_wide 10 Try.f10 rfl rfl rfl rfl rfl rfl rfl ⟨rfl,rfl,rfl,rfl,rfl⟩ rfl rfl rfl rfl rfl (by kernel_rfl) Try.func10 (by kernel_rfl)
  (of_decide_eq_true (by kernel_rfl)) (by unfold Func.isWrapper; first | (rw [if_pos (by decide +kernel)]; kernel_rfl) | (rw [if_neg (by decide +kernel)]; exact ⟨rfl,rfl⟩))
  (fun os started H enc _ => kerfParts_lifted os started H enc)
end Go.Proofs.Ytogmgaaejepcbaa
