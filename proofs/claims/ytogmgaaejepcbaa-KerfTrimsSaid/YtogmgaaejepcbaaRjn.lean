/- The walk of the reference's Join. -/
import Derived.Test.YtogmgaaejepcbaaCor
import Derived.Test.YtogmgaaejepcbaaReg
import Derived.Test.YtogmgaaejepcbaaSm2
import Derived.Test.YtogmgaaejepcbaaEnd
import Derived.Test.YtogmgaaejepcbaaCk
namespace Go.Proofs.Ytogmgaaejepcbaa
open Go.RowKit

set_option maxHeartbeats 16000000 in
set_option maxRecDepth 100000 in
theorem rjn_b1 (x y z p q r a b c d s u k f_ : Int) (c1_ : (∀ w,Calls Try.prog 35 #[.agg #[x,y,z,p,q,r]] w fun e w' => e = .returned (.int .i64 f_) ∧ Below w.heap.size w w')) (hn : f_ ≠ 0) (w : World) :
  Calls Try.prog 21 #[.agg #[x,y,z,p,q,r],.agg #[a,b,c,d,s,u],.int .i64 k] w fun e w' => e = .returned (.tuple #[.agg #[.int .i64 0,.int .i64 0,.int .i64 0,.int .i64 0,.int .i64 0,.int .i64 0],.agg #[.int .i64 0,.int .i64 0,.int .i64 0],.int .i64 f_]) ∧ Below w.heap.size w w' := by
 obtain ⟨t1,t2⟩ := ne_tests hn
 clear hn
 go_enter Try.func21,Try.ntmps21
 go_wp2_with (first | (go_at_call 35; refine (c1_ _).mono ?_; rintro e w1 ⟨rfl,hb1⟩; obtain ⟨hc1,hf1⟩ := bcell hb1; have hz1 := hb1.size; (try simp at hz1); (try have y10 : w.heap.size < w1.heap.size := (by omega)); (try have y10p : w.heap.size < w1.heap.size + 1 := (by omega)); (try have y11 : w.heap.size + 1 < w1.heap.size := (by omega)); (try have y11p : w.heap.size + 1 < w1.heap.size + 1 := (by omega)); (try have y12 : w.heap.size + 1 + 1 < w1.heap.size := (by omega)); (try have y12p : w.heap.size + 1 + 1 < w1.heap.size + 1 := (by omega)); (try have y13 : w.heap.size + 1 + 1 + 1 < w1.heap.size := (by omega)); (try have y13p : w.heap.size + 1 + 1 + 1 < w1.heap.size + 1 := (by omega)); (try have y14 : w.heap.size + 1 + 1 + 1 + 1 < w1.heap.size := (by omega)); (try have y14p : w.heap.size + 1 + 1 + 1 + 1 < w1.heap.size + 1 := (by omega)); (try have v0x1 : w0.heap.size < w1.heap.size := (by omega)); (try have v0x1p : w0.heap.size < w1.heap.size + 1 := (by omega))))
 have hz : KL [((w.heap.size + 1 + 1 + 1),27,#[.int .i64 0,.int .i64 0,.int .i64 0]),((w.heap.size + 1 + 1),25,#[.int .i64 0,.int .i64 0,.int .i64 0,.int .i64 0,.int .i64 0,.int .i64 0]),((w.heap.size + 1),25,#[a,b,c,d,s,u]),(w.heap.size,25,#[x,y,z,p,q,r])] w _ := (KL.up3 0 (KL.up6 1 (KL.over (KL.new (g := (w.heap.size + 1 + 1 + 1)) (KL.new (g := (w.heap.size + 1 + 1)) (KL.new (g := (w.heap.size + 1)) (KL.new (g := w.heap.size) (KL.nil w) rfl _ _) (by simp) _ _) (by simp) _ _) (by simp) _ _) hb1) rfl (by omega) (by simp <;> omega)) rfl (by omega) (by simp <;> omega))
 obtain ⟨eL,e0,e1,e2,e3,e4,e5⟩ := bl6 (KL.blk hz (.tail _ (.head _)))
 obtain ⟨iL,i0,i1,i2⟩ := bl3 (KL.blk hz (.head _))
 exact bodyPost_ret (v := .tuple #[.agg #[.int .i64 0,.int .i64 0,.int .i64 0,.int .i64 0,.int .i64 0,.int .i64 0],.agg #[.int .i64 0,.int .i64 0,.int .i64 0],.int .i64 f_]) (by simp [results,Try.results21,go_sem,e0,e1,e2,e3,e4,e5,i0,i1,i2]) rfl ⟨rfl,hz.1⟩
set_option maxHeartbeats 16000000 in
set_option maxRecDepth 100000 in
theorem rjn_b2 (x y z p q r a b c d s u k f_ : Int) (c1_ : (∀ w,Calls Try.prog 35 #[.agg #[x,y,z,p,q,r]] w fun e w' => e = .returned (.int .i64 0) ∧ Below w.heap.size w w')) (c2_ : (∀ w,Calls Try.prog 35 #[.agg #[a,b,c,d,s,u]] w fun e w' => e = .returned (.int .i64 f_) ∧ Below w.heap.size w w')) (hn : f_ ≠ 0) (w : World) :
  Calls Try.prog 21 #[.agg #[x,y,z,p,q,r],.agg #[a,b,c,d,s,u],.int .i64 k] w fun e w' => e = .returned (.tuple #[.agg #[.int .i64 0,.int .i64 0,.int .i64 0,.int .i64 0,.int .i64 0,.int .i64 0],.agg #[.int .i64 0,.int .i64 0,.int .i64 0],.int .i64 f_]) ∧ Below w.heap.size w w' := by
 obtain ⟨t1,t2⟩ := ne_tests hn
 clear hn
 go_enter Try.func21,Try.ntmps21
 go_wp2_with (first | (revert hb1; intro hb1; go_at_call 35; refine (c2_ _).mono ?_; rintro e w2 ⟨rfl,hb2⟩; obtain ⟨hc2,hf2⟩ := bcell hb2; have hz2 := hb2.size; (try simp at hz2); (try have y20 : w.heap.size < w2.heap.size := (by omega)); (try have y20p : w.heap.size < w2.heap.size + 1 := (by omega)); (try have y21 : w.heap.size + 1 < w2.heap.size := (by omega)); (try have y21p : w.heap.size + 1 < w2.heap.size + 1 := (by omega)); (try have y22 : w.heap.size + 1 + 1 < w2.heap.size := (by omega)); (try have y22p : w.heap.size + 1 + 1 < w2.heap.size + 1 := (by omega)); (try have y23 : w.heap.size + 1 + 1 + 1 < w2.heap.size := (by omega)); (try have y23p : w.heap.size + 1 + 1 + 1 < w2.heap.size + 1 := (by omega)); (try have y24 : w.heap.size + 1 + 1 + 1 + 1 < w2.heap.size := (by omega)); (try have y24p : w.heap.size + 1 + 1 + 1 + 1 < w2.heap.size + 1 := (by omega)); (try have v0x2 : w0.heap.size < w2.heap.size := (by omega)); (try have v0x2p : w0.heap.size < w2.heap.size + 1 := (by omega)); (try have v1x2 : w1.heap.size < w2.heap.size := (by omega)); (try have v1x2p : w1.heap.size < w2.heap.size + 1 := (by omega))) | (go_at_call 35; refine (c1_ _).mono ?_; rintro e w1 ⟨rfl,hb1⟩; obtain ⟨hc1,hf1⟩ := bcell hb1; have hz1 := hb1.size; (try simp at hz1); (try have y10 : w.heap.size < w1.heap.size := (by omega)); (try have y10p : w.heap.size < w1.heap.size + 1 := (by omega)); (try have y11 : w.heap.size + 1 < w1.heap.size := (by omega)); (try have y11p : w.heap.size + 1 < w1.heap.size + 1 := (by omega)); (try have y12 : w.heap.size + 1 + 1 < w1.heap.size := (by omega)); (try have y12p : w.heap.size + 1 + 1 < w1.heap.size + 1 := (by omega)); (try have y13 : w.heap.size + 1 + 1 + 1 < w1.heap.size := (by omega)); (try have y13p : w.heap.size + 1 + 1 + 1 < w1.heap.size + 1 := (by omega)); (try have y14 : w.heap.size + 1 + 1 + 1 + 1 < w1.heap.size := (by omega)); (try have y14p : w.heap.size + 1 + 1 + 1 + 1 < w1.heap.size + 1 := (by omega)); (try have v0x1 : w0.heap.size < w1.heap.size := (by omega)); (try have v0x1p : w0.heap.size < w1.heap.size + 1 := (by omega))))
 have hz : KL [((w.heap.size + 1 + 1 + 1),27,#[.int .i64 0,.int .i64 0,.int .i64 0]),((w.heap.size + 1 + 1),25,#[.int .i64 0,.int .i64 0,.int .i64 0,.int .i64 0,.int .i64 0,.int .i64 0]),((w.heap.size + 1),25,#[a,b,c,d,s,u]),(w.heap.size,25,#[x,y,z,p,q,r])] w _ := (KL.up3 0 (KL.up6 1 (KL.over (KL.over (KL.new (g := (w.heap.size + 1 + 1 + 1)) (KL.new (g := (w.heap.size + 1 + 1)) (KL.new (g := (w.heap.size + 1)) (KL.new (g := w.heap.size) (KL.nil w) rfl _ _) (by simp) _ _) (by simp) _ _) (by simp) _ _) hb1) hb2) rfl (by omega) (by simp <;> omega)) rfl (by omega) (by simp <;> omega))
 obtain ⟨eL,e0,e1,e2,e3,e4,e5⟩ := bl6 (KL.blk hz (.tail _ (.head _)))
 obtain ⟨iL,i0,i1,i2⟩ := bl3 (KL.blk hz (.head _))
 exact bodyPost_ret (v := .tuple #[.agg #[.int .i64 0,.int .i64 0,.int .i64 0,.int .i64 0,.int .i64 0,.int .i64 0],.agg #[.int .i64 0,.int .i64 0,.int .i64 0],.int .i64 f_]) (by simp [results,Try.results21,go_sem,e0,e1,e2,e3,e4,e5,i0,i1,i2]) rfl ⟨rfl,hz.1⟩
set_option maxHeartbeats 16000000 in
set_option maxRecDepth 100000 in
theorem rjn_ax (x y z p q r a b c d s u k : Int) (c1_ : (∀ w,Calls Try.prog 35 #[.agg #[x,y,z,p,q,r]] w fun e w' => e = .returned (.int .i64 0) ∧ Below w.heap.size w w')) (c2_ : (∀ w,Calls Try.prog 35 #[.agg #[a,b,c,d,s,u]] w fun e w' => e = .returned (.int .i64 0) ∧ Below w.heap.size w w')) (hk : ∀ w,Calls Try.prog 40 #[k] w fun e w' => e = .returned (.bool false) ∧ w = w') (w : World) :
  Calls Try.prog 21 #[.agg #[x,y,z,p,q,r],.agg #[a,b,c,d,s,u],.int .i64 k] w fun e w' => e = .returned (.tuple #[.agg #[.int .i64 0,.int .i64 0,.int .i64 0,.int .i64 0,.int .i64 0,.int .i64 0],.agg #[.int .i64 0,.int .i64 0,.int .i64 0],.int .i64 1]) ∧ Below w.heap.size w w' := by
 skip
 skip
 go_enter Try.func21,Try.ntmps21
 go_wp2_with (first | (revert hb1; intro hb1; go_at_call 35; refine (c2_ _).mono ?_; rintro e w2 ⟨rfl,hb2⟩; obtain ⟨hc2,hf2⟩ := bcell hb2; have hz2 := hb2.size; (try simp at hz2); (try have y20 : w.heap.size < w2.heap.size := (by omega)); (try have y20p : w.heap.size < w2.heap.size + 1 := (by omega)); (try have y21 : w.heap.size + 1 < w2.heap.size := (by omega)); (try have y21p : w.heap.size + 1 < w2.heap.size + 1 := (by omega)); (try have y22 : w.heap.size + 1 + 1 < w2.heap.size := (by omega)); (try have y22p : w.heap.size + 1 + 1 < w2.heap.size + 1 := (by omega)); (try have y23 : w.heap.size + 1 + 1 + 1 < w2.heap.size := (by omega)); (try have y23p : w.heap.size + 1 + 1 + 1 < w2.heap.size + 1 := (by omega)); (try have y24 : w.heap.size + 1 + 1 + 1 + 1 < w2.heap.size := (by omega)); (try have y24p : w.heap.size + 1 + 1 + 1 + 1 < w2.heap.size + 1 := (by omega)); (try have v0x2 : w0.heap.size < w2.heap.size := (by omega)); (try have v0x2p : w0.heap.size < w2.heap.size + 1 := (by omega)); (try have v1x2 : w1.heap.size < w2.heap.size := (by omega)); (try have v1x2p : w1.heap.size < w2.heap.size + 1 := (by omega))) | (go_at_call 35; refine (c1_ _).mono ?_; rintro e w1 ⟨rfl,hb1⟩; obtain ⟨hc1,hf1⟩ := bcell hb1; have hz1 := hb1.size; (try simp at hz1); (try have y10 : w.heap.size < w1.heap.size := (by omega)); (try have y10p : w.heap.size < w1.heap.size + 1 := (by omega)); (try have y11 : w.heap.size + 1 < w1.heap.size := (by omega)); (try have y11p : w.heap.size + 1 < w1.heap.size + 1 := (by omega)); (try have y12 : w.heap.size + 1 + 1 < w1.heap.size := (by omega)); (try have y12p : w.heap.size + 1 + 1 < w1.heap.size + 1 := (by omega)); (try have y13 : w.heap.size + 1 + 1 + 1 < w1.heap.size := (by omega)); (try have y13p : w.heap.size + 1 + 1 + 1 < w1.heap.size + 1 := (by omega)); (try have y14 : w.heap.size + 1 + 1 + 1 + 1 < w1.heap.size := (by omega)); (try have y14p : w.heap.size + 1 + 1 + 1 + 1 < w1.heap.size + 1 := (by omega)); (try have v0x1 : w0.heap.size < w1.heap.size := (by omega)); (try have v0x1p : w0.heap.size < w1.heap.size + 1 := (by omega))) | (go_at_call 40; refine (hk _).mono ?_; rintro e w' ⟨rfl,rfl⟩))
 have hz : KL [((w.heap.size + 1 + 1 + 1),27,#[.int .i64 0,.int .i64 0,.int .i64 0]),((w.heap.size + 1 + 1),25,#[.int .i64 0,.int .i64 0,.int .i64 0,.int .i64 0,.int .i64 0,.int .i64 0]),((w.heap.size + 1),25,#[a,b,c,d,s,u]),(w.heap.size,25,#[x,y,z,p,q,r])] w _ := (KL.up3 0 (KL.up6 1 (KL.over (KL.over (KL.new (g := (w.heap.size + 1 + 1 + 1)) (KL.new (g := (w.heap.size + 1 + 1)) (KL.new (g := (w.heap.size + 1)) (KL.new (g := w.heap.size) (KL.nil w) rfl _ _) (by simp) _ _) (by simp) _ _) (by simp) _ _) hb1) hb2) rfl (by omega) (by simp <;> omega)) rfl (by omega) (by simp <;> omega))
 obtain ⟨eL,e0,e1,e2,e3,e4,e5⟩ := bl6 (KL.blk hz (.tail _ (.head _)))
 obtain ⟨iL,i0,i1,i2⟩ := bl3 (KL.blk hz (.head _))
 exact bodyPost_ret (v := .tuple #[.agg #[.int .i64 0,.int .i64 0,.int .i64 0,.int .i64 0,.int .i64 0,.int .i64 0],.agg #[.int .i64 0,.int .i64 0,.int .i64 0],.int .i64 1]) (by simp [results,Try.results21,go_sem,e0,e1,e2,e3,e4,e5,i0,i1,i2]) rfl ⟨rfl,hz.1⟩
set_option maxHeartbeats 16000000 in
set_option maxRecDepth 100000 in
theorem rjn_L (x y z p q r a b c d s u k AT ON : Int) (c1_ : (∀ w,Calls Try.prog 35 #[.agg #[x,y,z,p,q,r]] w fun e w' => e = .returned (.int .i64 0) ∧ Below w.heap.size w w')) (c2_ : (∀ w,Calls Try.prog 35 #[.agg #[a,b,c,d,s,u]] w fun e w' => e = .returned (.int .i64 0) ∧ Below w.heap.size w w')) (hk : ∀ w,Calls Try.prog 40 #[k] w fun e w' => e = .returned (.bool true) ∧ w = w') (g1_ : (∀ w,Calls Try.prog 41 #[.agg #[p,q,r],.int .i64 k] w fun e w' => e = .returned (.int .i64 AT) ∧ Below w.heap.size w w')) (g2_ : (∀ w,Calls Try.prog 41 #[.agg #[a,b,c],.int .i64 k] w fun e w' => e = .returned (.int .i64 ON) ∧ Below w.heap.size w w'))
  (dL : decide (ON < AT) = true) (w : World) :
  Calls Try.prog 21 #[.agg #[x,y,z,p,q,r],.agg #[a,b,c,d,s,u],.int .i64 k] w fun e w' => e = .returned (.tuple #[.agg #[.int .i64 0,.int .i64 0,.int .i64 0,.int .i64 0,.int .i64 0,.int .i64 0],.agg #[.int .i64 0,.int .i64 0,.int .i64 0],.int .i64 10]) ∧ Below w.heap.size w w' := by
 go_enter Try.func21,Try.ntmps21
 go_wp2_with (first | (revert hb1; intro hb1; go_at_call 35; refine (c2_ _).mono ?_; rintro e w2 ⟨rfl,hb2⟩; obtain ⟨hc2,hf2⟩ := bcell hb2; have hz2 := hb2.size; (try simp at hz2); (try have y20 : w.heap.size < w2.heap.size := (by omega)); (try have y20p : w.heap.size < w2.heap.size + 1 := (by omega)); (try have y21 : w.heap.size + 1 < w2.heap.size := (by omega)); (try have y21p : w.heap.size + 1 < w2.heap.size + 1 := (by omega)); (try have y22 : w.heap.size + 1 + 1 < w2.heap.size := (by omega)); (try have y22p : w.heap.size + 1 + 1 < w2.heap.size + 1 := (by omega)); (try have y23 : w.heap.size + 1 + 1 + 1 < w2.heap.size := (by omega)); (try have y23p : w.heap.size + 1 + 1 + 1 < w2.heap.size + 1 := (by omega)); (try have y24 : w.heap.size + 1 + 1 + 1 + 1 < w2.heap.size := (by omega)); (try have y24p : w.heap.size + 1 + 1 + 1 + 1 < w2.heap.size + 1 := (by omega)); (try have v0x2 : w0.heap.size < w2.heap.size := (by omega)); (try have v0x2p : w0.heap.size < w2.heap.size + 1 := (by omega)); (try have v1x2 : w1.heap.size < w2.heap.size := (by omega)); (try have v1x2p : w1.heap.size < w2.heap.size + 1 := (by omega))) | (go_at_call 35; refine (c1_ _).mono ?_; rintro e w1 ⟨rfl,hb1⟩; obtain ⟨hc1,hf1⟩ := bcell hb1; have hz1 := hb1.size; (try simp at hz1); (try have y10 : w.heap.size < w1.heap.size := (by omega)); (try have y10p : w.heap.size < w1.heap.size + 1 := (by omega)); (try have y11 : w.heap.size + 1 < w1.heap.size := (by omega)); (try have y11p : w.heap.size + 1 < w1.heap.size + 1 := (by omega)); (try have y12 : w.heap.size + 1 + 1 < w1.heap.size := (by omega)); (try have y12p : w.heap.size + 1 + 1 < w1.heap.size + 1 := (by omega)); (try have y13 : w.heap.size + 1 + 1 + 1 < w1.heap.size := (by omega)); (try have y13p : w.heap.size + 1 + 1 + 1 < w1.heap.size + 1 := (by omega)); (try have y14 : w.heap.size + 1 + 1 + 1 + 1 < w1.heap.size := (by omega)); (try have y14p : w.heap.size + 1 + 1 + 1 + 1 < w1.heap.size + 1 := (by omega)); (try have v0x1 : w0.heap.size < w1.heap.size := (by omega)); (try have v0x1p : w0.heap.size < w1.heap.size + 1 := (by omega))) | (go_at_call 40; refine (hk _).mono ?_; rintro e w' ⟨rfl,rfl⟩))
 refine wp_region_any (by kernel_rfl) ?_
 try (change wpAny _ _ _ _ _ _ _ (World.drew _))
 refine wpAny_vals (fr := fun o => #[.agg #[x,y,z,p,q,r],.agg #[a,b,c,d,s,u],.int .i64 k,.pointer (some ⟨w.heap.size,0,none⟩),.pointer (some ⟨(w.heap.size + 1),0,none⟩),undef,.pointer (some ⟨(w.heap.size + 1 + 1),0,none⟩),.pointer (some ⟨(w.heap.size + 1 + 1 + 1),0,none⟩),.int .i64 0,.int .i64 0,.int .i64 0,o 8,o 9,.agg #[x,y,z,p,q,r],.int .i64 0,.int .i64 0,.bool false,undef,undef,undef,.agg #[a,b,c,d,s,u],.int .i64 0,.int .i64 0,.bool false,undef,undef,undef,.int .i64 k,.bool true,.bool false,undef,undef,o 0,o 1,o 2,o 3,o 4,o 5,o 6,o 7,undef,undef,undef,undef,undef,undef,undef,undef,undef,undef,undef,undef,undef,undef,undef,undef,undef,undef,undef,undef,undef,undef,undef,undef,undef,undef,undef,undef,undef,undef,undef,undef,undef,undef,undef,undef,undef,undef,undef,undef,undef,undef,undef,undef]) (vals := fun i_ => ([.pointer (some ⟨w.heap.size,3,none⟩),.agg #[p,q,r],.int .i64 k,.int .i64 AT,.pointer (some ⟨(w.heap.size + 1),0,none⟩),.agg #[a,b,c],.int .i64 k,.int .i64 ON,.int .i64 AT,.int .i64 ON] : List Value).getD i_ undef) (Kf := fun _ => True) (K := fun kk_ => ([(KL [((w.heap.size + 1 + 1 + 1),27,#[.int .i64 0,.int .i64 0,.int .i64 0]),((w.heap.size + 1 + 1),25,#[.int .i64 0,.int .i64 0,.int .i64 0,.int .i64 0,.int .i64 0,.int .i64 0]),((w.heap.size + 1),25,#[a,b,c,d,s,u]),(w.heap.size,25,#[x,y,z,p,q,r])] w)] : List (World → Prop)).getD kk_ (fun _ => True)) (dep := fun i_ => [[],[0],[],[1,2],[],[4],[],[5,6],[3],[7]].getD i_ []) (dv := fun i_ => [[],[0],[],[1,2],[],[4],[],[5,6],[3],[7]].getD i_ []) (kd := fun i_ => [0,1,0,1,0,1,0,1,0,0].getD i_ 0) (ss := []) (l := [0,1,2,3,4,5,6,7,8,9]) (f0 := fun _ => undef) (A := ?A2) 10 rfl rfl (by decide +kernel) (by decide +kernel) ?_ ?_ ⟨?_,?_,?_,?_,?_,?_,?_,?_,?_,?_,trivial⟩ ?_ ?_
 rotate_left
 ·exact KL.drew (KL.over (KL.over (KL.new (g := (w.heap.size + 1 + 1 + 1)) (KL.new (g := (w.heap.size + 1 + 1)) (KL.new (g := (w.heap.size + 1)) (KL.new (g := w.heap.size) (KL.nil w) rfl _ _) (by simp) _ _) (by simp) _ _) (by simp) _ _) hb1) hb2)
 ·exact fun _ _ _ _ => trivial
 ·intro o W _
  show wpOp _ _ _ 0 _ ⟨⟨_::_::_::_::_::_::_::_::_::_::_::o 8::o 9::_::_::_::_::_::_::_::_::_::_::_::_::_::_::_::_::_::_::_::o 0::o 1::o 2::o 3::o 4::o 5::o 6::o 7::_⟩,[]⟩ W
  refine wpOp_step rfl fun _ hK => ?_
  go_simp
  exact hK _ _ ⟨rfl,rfl⟩
 ·intro o W hj
  have hj : KL _ _ W := hj
  obtain ⟨cL,c0,c1,c2,c3,c4,c5⟩ := bl6 (KL.blk hj (.tail _ (.tail _ (.tail _ (.head _)))))
  show wpOp _ _ _ 1 _ ⟨⟨_::_::_::_::_::_::_::_::_::_::_::o 8::o 9::_::_::_::_::_::_::_::_::_::_::_::_::_::_::_::_::_::_::_::.pointer (some ⟨w.heap.size,3,none⟩)::o 1::o 2::o 3::o 4::o 5::o 6::o 7::_⟩,[]⟩ W
  refine wpOp_step rfl fun _ hK => ?_
  go_simp
  exact hK _ _ ⟨rfl,hj⟩
 ·intro o W _
  show wpOp _ _ _ 2 _ ⟨⟨_::_::_::_::_::_::_::_::_::_::_::o 8::o 9::_::_::_::_::_::_::_::_::_::_::_::_::_::_::_::_::_::_::_::o 0::o 1::o 2::o 3::o 4::o 5::o 6::o 7::_⟩,[]⟩ W
  refine wpOp_step rfl fun _ hK => ?_
  go_simp
  exact hK _ _ ⟨rfl,rfl⟩
 ·intro o W hj
  have hj : KL _ _ W := hj
  show wpOp _ _ _ 3 _ ⟨⟨_::_::_::_::_::_::_::_::_::_::_::o 8::o 9::_::_::_::_::_::_::_::_::_::_::_::_::_::_::_::_::_::_::_::o 0::.agg #[p,q,r]::.int .i64 k::o 3::o 4::o 5::o 6::o 7::_⟩,[]⟩ W
  refine wpOp_step rfl fun _ hK => ?_
  go_simp
  refine (g1_ _).mono ?_
  rintro e W1 ⟨rfl,hb1⟩
  exact hK _ _ ⟨rfl,hj.over hb1⟩
 ·intro o W _
  show wpOp _ _ _ 4 _ ⟨⟨_::_::_::_::_::_::_::_::_::_::_::o 8::o 9::_::_::_::_::_::_::_::_::_::_::_::_::_::_::_::_::_::_::_::o 0::o 1::o 2::o 3::o 4::o 5::o 6::o 7::_⟩,[]⟩ W
  refine wpOp_step rfl fun _ hK => ?_
  go_simp
  exact hK _ _ ⟨rfl,rfl⟩
 ·intro o W hj
  have hj : KL _ _ W := hj
  obtain ⟨cL,c0,c1,c2,c3,c4,c5⟩ := bl6 (KL.blk hj (.tail _ (.tail _ (.head _))))
  show wpOp _ _ _ 5 _ ⟨⟨_::_::_::_::_::_::_::_::_::_::_::o 8::o 9::_::_::_::_::_::_::_::_::_::_::_::_::_::_::_::_::_::_::_::o 0::o 1::o 2::o 3::.pointer (some ⟨(w.heap.size + 1),0,none⟩)::o 5::o 6::o 7::_⟩,[]⟩ W
  refine wpOp_step rfl fun _ hK => ?_
  go_simp
  exact hK _ _ ⟨rfl,hj⟩
 ·intro o W _
  show wpOp _ _ _ 6 _ ⟨⟨_::_::_::_::_::_::_::_::_::_::_::o 8::o 9::_::_::_::_::_::_::_::_::_::_::_::_::_::_::_::_::_::_::_::o 0::o 1::o 2::o 3::o 4::o 5::o 6::o 7::_⟩,[]⟩ W
  refine wpOp_step rfl fun _ hK => ?_
  go_simp
  exact hK _ _ ⟨rfl,rfl⟩
 ·intro o W hj
  have hj : KL _ _ W := hj
  show wpOp _ _ _ 7 _ ⟨⟨_::_::_::_::_::_::_::_::_::_::_::o 8::o 9::_::_::_::_::_::_::_::_::_::_::_::_::_::_::_::_::_::_::_::o 0::o 1::o 2::o 3::o 4::.agg #[a,b,c]::.int .i64 k::o 7::_⟩,[]⟩ W
  refine wpOp_step rfl fun _ hK => ?_
  go_simp
  refine (g2_ _).mono ?_
  rintro e W1 ⟨rfl,hb1⟩
  exact hK _ _ ⟨rfl,hj.over hb1⟩
 ·intro o W _
  show wpOp _ _ _ 8 _ ⟨⟨_::_::_::_::_::_::_::_::_::_::_::o 8::o 9::_::_::_::_::_::_::_::_::_::_::_::_::_::_::_::_::_::_::_::o 0::o 1::o 2::.int .i64 AT::o 4::o 5::o 6::o 7::_⟩,[]⟩ W
  refine wpOp_step rfl fun _ hK => ?_
  go_simp
  exact hK _ _ ⟨rfl,rfl⟩
 ·intro o W _
  show wpOp _ _ _ 9 _ ⟨⟨_::_::_::_::_::_::_::_::_::_::_::o 8::o 9::_::_::_::_::_::_::_::_::_::_::_::_::_::_::_::_::_::_::_::o 0::o 1::o 2::o 3::o 4::o 5::o 6::.int .i64 ON::_⟩,[]⟩ W
  refine wpOp_step rfl fun _ hK => ?_
  go_simp
  exact hK _ _ ⟨rfl,rfl⟩
 ·intro o hh_
  have e0 : o 0 = .pointer (some ⟨w.heap.size,3,none⟩) := hh_ 0 (by decide)
  have e1 : o 1 = .agg #[p,q,r] := hh_ 1 (by decide)
  have e2 : o 2 = .int .i64 k := hh_ 2 (by decide)
  have e3 : o 3 = .int .i64 AT := hh_ 3 (by decide)
  have e4 : o 4 = .pointer (some ⟨(w.heap.size + 1),0,none⟩) := hh_ 4 (by decide)
  have e5 : o 5 = .agg #[a,b,c] := hh_ 5 (by decide)
  have e6 : o 6 = .int .i64 k := hh_ 6 (by decide)
  have e7 : o 7 = .int .i64 ON := hh_ 7 (by decide)
  have e8 : o 8 = .int .i64 AT := hh_ 8 (by decide)
  have e9 : o 9 = .int .i64 ON := hh_ 9 (by decide)
  rw [e0,e1,e2,e3,e4,e5,e6,e7,e8,e9]
 ·intro W1 h1
  have h1 : KL _ _ W1 := h1
  obtain ⟨aL0,a0_0,a0_1,a0_2⟩ := bl3 (KL.blk h1 (.head _))
  have aF0 := (KL.blk h1 (.head _)).frozen
  obtain ⟨aL1,a1_0,a1_1,a1_2,a1_3,a1_4,a1_5⟩ := bl6 (KL.blk h1 (.tail _ (.head _)))
  have aF1 := (KL.blk h1 (.tail _ (.head _))).frozen
  obtain ⟨aL2,a2_0,a2_1,a2_2,a2_3,a2_4,a2_5⟩ := bl6 (KL.blk h1 (.tail _ (.tail _ (.head _))))
  obtain ⟨aL3,a3_0,a3_1,a3_2,a3_3,a3_4,a3_5⟩ := bl6 (KL.blk h1 (.tail _ (.tail _ (.tail _ (.head _)))))
  have hjb := h1.1
  have hjz := hjb.size
  go_wp2
  refine wp_region_any (by kernel_rfl) ?_
  try (change wpAny _ _ _ _ _ _ _ (World.drew _))
  refine wpAny_vals (fr := fun o => #[.agg #[x,y,z,p,q,r],.agg #[a,b,c,d,s,u],.int .i64 k,.pointer (some ⟨w.heap.size,0,none⟩),.pointer (some ⟨(w.heap.size + 1),0,none⟩),undef,.pointer (some ⟨(w.heap.size + 1 + 1),0,none⟩),.pointer (some ⟨(w.heap.size + 1 + 1 + 1),0,none⟩),.int .i64 0,.int .i64 0,.int .i64 0,.int .i64 AT,.int .i64 ON,.agg #[x,y,z,p,q,r],.int .i64 0,.int .i64 0,.bool false,undef,undef,undef,.agg #[a,b,c,d,s,u],.int .i64 0,.int .i64 0,.bool false,undef,undef,undef,.int .i64 k,.bool true,.bool false,undef,undef,.pointer (some ⟨w.heap.size,3,none⟩),.agg #[p,q,r],.int .i64 k,.int .i64 AT,.pointer (some ⟨(w.heap.size + 1),0,none⟩),.agg #[a,b,c],.int .i64 k,.int .i64 ON,o 0,o 1,o 2,o 3,o 4,o 5,o 6,o 7,o 8,o 9,o 10,o 11,o 12,o 13,o 14,o 15,o 16,o 17,o 18,o 19,o 20,o 21,o 22,o 23,o 24,o 25,o 26,o 27,o 28,o 29,o 30,undef,undef,undef,undef,undef,undef,undef,undef,undef,undef,undef,undef,undef]) (vals := fun i_ => ([.int .i64 ON,.int .i64 AT,.bool true,.bool true,undef,undef,undef,undef,.bool true,.bool true,undef,undef,undef,undef,undef,undef,undef,undef,undef,.bool true,.bool true,undef,undef,undef,undef,undef,undef,undef,undef,undef,.bool true] : List Value).getD i_ undef) (Kf := fun _ => True) (K := fun kk_ => ([(KL [((w.heap.size + 1 + 1 + 1),27,#[.int .i64 0,.int .i64 0,.int .i64 0]),((w.heap.size + 1 + 1),25,#[.int .i64 0,.int .i64 0,.int .i64 0,.int .i64 0,.int .i64 0,.int .i64 0]),((w.heap.size + 1),25,#[a,b,c,d,s,u]),(w.heap.size,25,#[x,y,z,p,q,r])] w)] : List (World → Prop)).getD kk_ (fun _ => True)) (dep := fun i_ => [[],[],[0,1],[2],[3],[3],[3,4,5],[3,6],[3,7],[8],[9],[9,10],[9],[9,11,12],[9],[9,14],[9],[9,15,16],[9,13,17],[9,18],[19],[20],[20,21],[20],[20,22,23],[20],[20,25],[20],[20,26,27],[20,24,28],[20,29]].getD i_ []) (dv := fun i_ => [[],[],[0,1],[2],[3],[3],[3,4,5],[3,6],[3,7],[8],[9],[9,10],[9],[9,11,12],[9],[9,14],[9],[9,15,16],[9,13,17],[9,18],[19],[20],[20,21],[20],[20,22,23],[20],[20,25],[20],[20,26,27],[20,24,28],[20,29]].getD i_ []) (kd := fun i_ => [0,0,0,0,0,0,0,0,0,0,0,0,0,0,0,0,0,0,0,0,0,0,0,0,0,0,0,0,0,0,0].getD i_ 0) (ss := []) (l := [0,1,2,3,4,5,6,7,8,9,10,11,12,13,14,15,16,17,18,19,20,21,22,23,24,25,26,27,28,29,30]) (f0 := fun _ => undef) (A := ?A1) 31 rfl rfl (by decide +kernel) (by decide +kernel) ?_ ?_ ⟨?_,?_,?_,?_,?_,?_,?_,?_,?_,?_,?_,?_,?_,?_,?_,?_,?_,?_,?_,?_,?_,?_,?_,?_,?_,?_,?_,?_,?_,?_,?_,trivial⟩ ?_ ?_
  rotate_left
  ·exact KL.drew h1
  ·exact fun _ _ _ _ => trivial
  ·intro o W _
   show wpOp _ _ _ 0 _ ⟨#[_,_,_,_,_,_,_,_,_,_,_,_,_,_,_,_,_,_,_,_,_,_,_,_,_,_,_,_,_,_,_,_,_,_,_,_,_,_,_,_,o 0,o 1,o 2,o 3,o 4,o 5,o 6,o 7,o 8,o 9,o 10,o 11,o 12,o 13,o 14,o 15,o 16,o 17,o 18,o 19,o 20,o 21,o 22,o 23,o 24,o 25,o 26,o 27,o 28,o 29,o 30,_,_,_,_,_,_,_,_,_,_,_,_,_],[]⟩ W
   refine wpOp_step rfl fun _ hK => ?_
   go_simp
   exact hK _ _ ⟨rfl,rfl⟩
  ·intro o W _
   show wpOp _ _ _ 1 _ ⟨#[_,_,_,_,_,_,_,_,_,_,_,_,_,_,_,_,_,_,_,_,_,_,_,_,_,_,_,_,_,_,_,_,_,_,_,_,_,_,_,_,o 0,o 1,o 2,o 3,o 4,o 5,o 6,o 7,o 8,o 9,o 10,o 11,o 12,o 13,o 14,o 15,o 16,o 17,o 18,o 19,o 20,o 21,o 22,o 23,o 24,o 25,o 26,o 27,o 28,o 29,o 30,_,_,_,_,_,_,_,_,_,_,_,_,_],[]⟩ W
   refine wpOp_step rfl fun _ hK => ?_
   go_simp
   exact hK _ _ ⟨rfl,rfl⟩
  ·intro o W _
   show wpOp _ _ _ 2 _ ⟨#[_,_,_,_,_,_,_,_,_,_,_,_,_,_,_,_,_,_,_,_,_,_,_,_,_,_,_,_,_,_,_,_,_,_,_,_,_,_,_,_,.int .i64 ON,.int .i64 AT,o 2,o 3,o 4,o 5,o 6,o 7,o 8,o 9,o 10,o 11,o 12,o 13,o 14,o 15,o 16,o 17,o 18,o 19,o 20,o 21,o 22,o 23,o 24,o 25,o 26,o 27,o 28,o 29,o 30,_,_,_,_,_,_,_,_,_,_,_,_,_],[]⟩ W
   refine wpOp_step rfl fun _ hK => ?_
   go_simp
   exact hK _ _ ⟨rfl,rfl⟩
  ·intro o W _
   show wpOp _ _ _ 3 _ ⟨#[_,_,_,_,_,_,_,_,_,_,_,_,_,_,_,_,_,_,_,_,_,_,_,_,_,_,_,_,_,_,_,_,_,_,_,_,_,_,_,_,o 0,o 1,.bool true,o 3,o 4,o 5,o 6,o 7,o 8,o 9,o 10,o 11,o 12,o 13,o 14,o 15,o 16,o 17,o 18,o 19,o 20,o 21,o 22,o 23,o 24,o 25,o 26,o 27,o 28,o 29,o 30,_,_,_,_,_,_,_,_,_,_,_,_,_],[]⟩ W
   refine wpOp_step rfl fun _ hK => ?_
   go_simp
   exact hK _ _ ⟨rfl,rfl⟩
  ·intro o W _
   show wpOp _ _ _ 4 _ ⟨#[_,_,_,_,_,_,_,_,_,_,_,_,_,_,_,_,_,_,_,_,_,_,_,_,_,_,_,_,_,_,_,_,_,_,_,_,_,_,_,_,o 0,o 1,o 2,.bool true,o 4,o 5,o 6,o 7,o 8,o 9,o 10,o 11,o 12,o 13,o 14,o 15,o 16,o 17,o 18,o 19,o 20,o 21,o 22,o 23,o 24,o 25,o 26,o 27,o 28,o 29,o 30,_,_,_,_,_,_,_,_,_,_,_,_,_],[]⟩ W
   refine wpOp_step rfl fun _ hK => ?_
   go_simp
   exact hK _ _ ⟨rfl,rfl⟩
  ·intro o W _
   show wpOp _ _ _ 5 _ ⟨#[_,_,_,_,_,_,_,_,_,_,_,_,_,_,_,_,_,_,_,_,_,_,_,_,_,_,_,_,_,_,_,_,_,_,_,_,_,_,_,_,o 0,o 1,o 2,.bool true,o 4,o 5,o 6,o 7,o 8,o 9,o 10,o 11,o 12,o 13,o 14,o 15,o 16,o 17,o 18,o 19,o 20,o 21,o 22,o 23,o 24,o 25,o 26,o 27,o 28,o 29,o 30,_,_,_,_,_,_,_,_,_,_,_,_,_],[]⟩ W
   refine wpOp_step rfl fun _ hK => ?_
   go_simp
   exact hK _ _ ⟨rfl,rfl⟩
  ·intro o W _
   show wpOp _ _ _ 6 _ ⟨#[_,_,_,_,_,_,_,_,_,_,_,_,_,_,_,_,_,_,_,_,_,_,_,_,_,_,_,_,_,_,_,_,_,_,_,_,_,_,_,_,o 0,o 1,o 2,.bool true,undef,undef,o 6,o 7,o 8,o 9,o 10,o 11,o 12,o 13,o 14,o 15,o 16,o 17,o 18,o 19,o 20,o 21,o 22,o 23,o 24,o 25,o 26,o 27,o 28,o 29,o 30,_,_,_,_,_,_,_,_,_,_,_,_,_],[]⟩ W
   refine wpOp_step rfl fun _ hK => ?_
   go_simp
   exact hK _ _ ⟨rfl,rfl⟩
  ·intro o W _
   show wpOp _ _ _ 7 _ ⟨#[_,_,_,_,_,_,_,_,_,_,_,_,_,_,_,_,_,_,_,_,_,_,_,_,_,_,_,_,_,_,_,_,_,_,_,_,_,_,_,_,o 0,o 1,o 2,.bool true,o 4,o 5,undef,o 7,o 8,o 9,o 10,o 11,o 12,o 13,o 14,o 15,o 16,o 17,o 18,o 19,o 20,o 21,o 22,o 23,o 24,o 25,o 26,o 27,o 28,o 29,o 30,_,_,_,_,_,_,_,_,_,_,_,_,_],[]⟩ W
   refine wpOp_step rfl fun _ hK => ?_
   go_simp
   exact hK _ _ ⟨rfl,rfl⟩
  ·intro o W _
   show wpOp _ _ _ 8 _ ⟨#[_,_,_,_,_,_,_,_,_,_,_,_,_,_,_,_,_,_,_,_,_,_,_,_,_,_,_,_,_,_,_,_,_,_,_,_,_,_,_,_,o 0,o 1,o 2,.bool true,o 4,o 5,o 6,undef,o 8,o 9,o 10,o 11,o 12,o 13,o 14,o 15,o 16,o 17,o 18,o 19,o 20,o 21,o 22,o 23,o 24,o 25,o 26,o 27,o 28,o 29,o 30,_,_,_,_,_,_,_,_,_,_,_,_,_],[]⟩ W
   refine wpOp_step rfl fun _ hK => ?_
   go_simp
   exact hK _ _ ⟨rfl,rfl⟩
  ·intro o W _
   show wpOp _ _ _ 9 _ ⟨#[_,_,_,_,_,_,_,_,_,_,_,_,_,_,_,_,_,_,_,_,_,_,_,_,_,_,_,_,_,_,_,_,_,_,_,_,_,_,_,_,o 0,o 1,o 2,o 3,o 4,o 5,o 6,o 7,.bool true,o 9,o 10,o 11,o 12,o 13,o 14,o 15,o 16,o 17,o 18,o 19,o 20,o 21,o 22,o 23,o 24,o 25,o 26,o 27,o 28,o 29,o 30,_,_,_,_,_,_,_,_,_,_,_,_,_],[]⟩ W
   refine wpOp_step rfl fun _ hK => ?_
   go_simp
   exact hK _ _ ⟨rfl,rfl⟩
  ·intro o W _
   show wpOp _ _ _ 10 _ ⟨#[_,_,_,_,_,_,_,_,_,_,_,_,_,_,_,_,_,_,_,_,_,_,_,_,_,_,_,_,_,_,_,_,_,_,_,_,_,_,_,_,o 0,o 1,o 2,o 3,o 4,o 5,o 6,o 7,o 8,.bool true,o 10,o 11,o 12,o 13,o 14,o 15,o 16,o 17,o 18,o 19,o 20,o 21,o 22,o 23,o 24,o 25,o 26,o 27,o 28,o 29,o 30,_,_,_,_,_,_,_,_,_,_,_,_,_],[]⟩ W
   refine wpOp_step rfl fun _ hK => ?_
   go_simp
   exact hK _ _ ⟨rfl,rfl⟩
  ·intro o W _
   show wpOp _ _ _ 11 _ ⟨#[_,_,_,_,_,_,_,_,_,_,_,_,_,_,_,_,_,_,_,_,_,_,_,_,_,_,_,_,_,_,_,_,_,_,_,_,_,_,_,_,o 0,o 1,o 2,o 3,o 4,o 5,o 6,o 7,o 8,.bool true,undef,o 11,o 12,o 13,o 14,o 15,o 16,o 17,o 18,o 19,o 20,o 21,o 22,o 23,o 24,o 25,o 26,o 27,o 28,o 29,o 30,_,_,_,_,_,_,_,_,_,_,_,_,_],[]⟩ W
   refine wpOp_step rfl fun _ hK => ?_
   go_simp
   exact hK _ _ ⟨rfl,rfl⟩
  ·intro o W _
   show wpOp _ _ _ 12 _ ⟨#[_,_,_,_,_,_,_,_,_,_,_,_,_,_,_,_,_,_,_,_,_,_,_,_,_,_,_,_,_,_,_,_,_,_,_,_,_,_,_,_,o 0,o 1,o 2,o 3,o 4,o 5,o 6,o 7,o 8,.bool true,o 10,o 11,o 12,o 13,o 14,o 15,o 16,o 17,o 18,o 19,o 20,o 21,o 22,o 23,o 24,o 25,o 26,o 27,o 28,o 29,o 30,_,_,_,_,_,_,_,_,_,_,_,_,_],[]⟩ W
   refine wpOp_step rfl fun _ hK => ?_
   go_simp
   exact hK _ _ ⟨rfl,rfl⟩
  ·intro o W _
   show wpOp _ _ _ 13 _ ⟨#[_,_,_,_,_,_,_,_,_,_,_,_,_,_,_,_,_,_,_,_,_,_,_,_,_,_,_,_,_,_,_,_,_,_,_,_,_,_,_,_,o 0,o 1,o 2,o 3,o 4,o 5,o 6,o 7,o 8,.bool true,o 10,undef,undef,o 13,o 14,o 15,o 16,o 17,o 18,o 19,o 20,o 21,o 22,o 23,o 24,o 25,o 26,o 27,o 28,o 29,o 30,_,_,_,_,_,_,_,_,_,_,_,_,_],[]⟩ W
   refine wpOp_step rfl fun _ hK => ?_
   go_simp
   exact hK _ _ ⟨rfl,rfl⟩
  ·intro o W _
   show wpOp _ _ _ 14 _ ⟨#[_,_,_,_,_,_,_,_,_,_,_,_,_,_,_,_,_,_,_,_,_,_,_,_,_,_,_,_,_,_,_,_,_,_,_,_,_,_,_,_,o 0,o 1,o 2,o 3,o 4,o 5,o 6,o 7,o 8,.bool true,o 10,o 11,o 12,o 13,o 14,o 15,o 16,o 17,o 18,o 19,o 20,o 21,o 22,o 23,o 24,o 25,o 26,o 27,o 28,o 29,o 30,_,_,_,_,_,_,_,_,_,_,_,_,_],[]⟩ W
   refine wpOp_step rfl fun _ hK => ?_
   go_simp
   exact hK _ _ ⟨rfl,rfl⟩
  ·intro o W _
   show wpOp _ _ _ 15 _ ⟨#[_,_,_,_,_,_,_,_,_,_,_,_,_,_,_,_,_,_,_,_,_,_,_,_,_,_,_,_,_,_,_,_,_,_,_,_,_,_,_,_,o 0,o 1,o 2,o 3,o 4,o 5,o 6,o 7,o 8,.bool true,o 10,o 11,o 12,o 13,undef,o 15,o 16,o 17,o 18,o 19,o 20,o 21,o 22,o 23,o 24,o 25,o 26,o 27,o 28,o 29,o 30,_,_,_,_,_,_,_,_,_,_,_,_,_],[]⟩ W
   refine wpOp_step rfl fun _ hK => ?_
   go_simp
   exact hK _ _ ⟨rfl,rfl⟩
  ·intro o W _
   show wpOp _ _ _ 16 _ ⟨#[_,_,_,_,_,_,_,_,_,_,_,_,_,_,_,_,_,_,_,_,_,_,_,_,_,_,_,_,_,_,_,_,_,_,_,_,_,_,_,_,o 0,o 1,o 2,o 3,o 4,o 5,o 6,o 7,o 8,.bool true,o 10,o 11,o 12,o 13,o 14,o 15,o 16,o 17,o 18,o 19,o 20,o 21,o 22,o 23,o 24,o 25,o 26,o 27,o 28,o 29,o 30,_,_,_,_,_,_,_,_,_,_,_,_,_],[]⟩ W
   refine wpOp_step rfl fun _ hK => ?_
   go_simp
   exact hK _ _ ⟨rfl,rfl⟩
  ·intro o W _
   show wpOp _ _ _ 17 _ ⟨#[_,_,_,_,_,_,_,_,_,_,_,_,_,_,_,_,_,_,_,_,_,_,_,_,_,_,_,_,_,_,_,_,_,_,_,_,_,_,_,_,o 0,o 1,o 2,o 3,o 4,o 5,o 6,o 7,o 8,.bool true,o 10,o 11,o 12,o 13,o 14,undef,undef,o 17,o 18,o 19,o 20,o 21,o 22,o 23,o 24,o 25,o 26,o 27,o 28,o 29,o 30,_,_,_,_,_,_,_,_,_,_,_,_,_],[]⟩ W
   refine wpOp_step rfl fun _ hK => ?_
   go_simp
   exact hK _ _ ⟨rfl,rfl⟩
  ·intro o W _
   show wpOp _ _ _ 18 _ ⟨#[_,_,_,_,_,_,_,_,_,_,_,_,_,_,_,_,_,_,_,_,_,_,_,_,_,_,_,_,_,_,_,_,_,_,_,_,_,_,_,_,o 0,o 1,o 2,o 3,o 4,o 5,o 6,o 7,o 8,.bool true,o 10,o 11,o 12,undef,o 14,o 15,o 16,undef,o 18,o 19,o 20,o 21,o 22,o 23,o 24,o 25,o 26,o 27,o 28,o 29,o 30,_,_,_,_,_,_,_,_,_,_,_,_,_],[]⟩ W
   refine wpOp_step rfl fun _ hK => ?_
   go_simp
   exact hK _ _ ⟨rfl,rfl⟩
  ·intro o W _
   show wpOp _ _ _ 19 _ ⟨#[_,_,_,_,_,_,_,_,_,_,_,_,_,_,_,_,_,_,_,_,_,_,_,_,_,_,_,_,_,_,_,_,_,_,_,_,_,_,_,_,o 0,o 1,o 2,o 3,o 4,o 5,o 6,o 7,o 8,.bool true,o 10,o 11,o 12,o 13,o 14,o 15,o 16,o 17,undef,o 19,o 20,o 21,o 22,o 23,o 24,o 25,o 26,o 27,o 28,o 29,o 30,_,_,_,_,_,_,_,_,_,_,_,_,_],[]⟩ W
   refine wpOp_step rfl fun _ hK => ?_
   go_simp
   exact hK _ _ ⟨rfl,rfl⟩
  ·intro o W _
   show wpOp _ _ _ 20 _ ⟨#[_,_,_,_,_,_,_,_,_,_,_,_,_,_,_,_,_,_,_,_,_,_,_,_,_,_,_,_,_,_,_,_,_,_,_,_,_,_,_,_,o 0,o 1,o 2,o 3,o 4,o 5,o 6,o 7,o 8,o 9,o 10,o 11,o 12,o 13,o 14,o 15,o 16,o 17,o 18,.bool true,o 20,o 21,o 22,o 23,o 24,o 25,o 26,o 27,o 28,o 29,o 30,_,_,_,_,_,_,_,_,_,_,_,_,_],[]⟩ W
   refine wpOp_step rfl fun _ hK => ?_
   go_simp
   exact hK _ _ ⟨rfl,rfl⟩
  ·intro o W _
   show wpOp _ _ _ 21 _ ⟨#[_,_,_,_,_,_,_,_,_,_,_,_,_,_,_,_,_,_,_,_,_,_,_,_,_,_,_,_,_,_,_,_,_,_,_,_,_,_,_,_,o 0,o 1,o 2,o 3,o 4,o 5,o 6,o 7,o 8,o 9,o 10,o 11,o 12,o 13,o 14,o 15,o 16,o 17,o 18,o 19,.bool true,o 21,o 22,o 23,o 24,o 25,o 26,o 27,o 28,o 29,o 30,_,_,_,_,_,_,_,_,_,_,_,_,_],[]⟩ W
   refine wpOp_step rfl fun _ hK => ?_
   go_simp
   exact hK _ _ ⟨rfl,rfl⟩
  ·intro o W _
   show wpOp _ _ _ 22 _ ⟨#[_,_,_,_,_,_,_,_,_,_,_,_,_,_,_,_,_,_,_,_,_,_,_,_,_,_,_,_,_,_,_,_,_,_,_,_,_,_,_,_,o 0,o 1,o 2,o 3,o 4,o 5,o 6,o 7,o 8,o 9,o 10,o 11,o 12,o 13,o 14,o 15,o 16,o 17,o 18,o 19,.bool true,undef,o 22,o 23,o 24,o 25,o 26,o 27,o 28,o 29,o 30,_,_,_,_,_,_,_,_,_,_,_,_,_],[]⟩ W
   refine wpOp_step rfl fun _ hK => ?_
   go_simp
   exact hK _ _ ⟨rfl,rfl⟩
  ·intro o W _
   show wpOp _ _ _ 23 _ ⟨#[_,_,_,_,_,_,_,_,_,_,_,_,_,_,_,_,_,_,_,_,_,_,_,_,_,_,_,_,_,_,_,_,_,_,_,_,_,_,_,_,o 0,o 1,o 2,o 3,o 4,o 5,o 6,o 7,o 8,o 9,o 10,o 11,o 12,o 13,o 14,o 15,o 16,o 17,o 18,o 19,.bool true,o 21,o 22,o 23,o 24,o 25,o 26,o 27,o 28,o 29,o 30,_,_,_,_,_,_,_,_,_,_,_,_,_],[]⟩ W
   refine wpOp_step rfl fun _ hK => ?_
   go_simp
   exact hK _ _ ⟨rfl,rfl⟩
  ·intro o W _
   show wpOp _ _ _ 24 _ ⟨#[_,_,_,_,_,_,_,_,_,_,_,_,_,_,_,_,_,_,_,_,_,_,_,_,_,_,_,_,_,_,_,_,_,_,_,_,_,_,_,_,o 0,o 1,o 2,o 3,o 4,o 5,o 6,o 7,o 8,o 9,o 10,o 11,o 12,o 13,o 14,o 15,o 16,o 17,o 18,o 19,.bool true,o 21,undef,undef,o 24,o 25,o 26,o 27,o 28,o 29,o 30,_,_,_,_,_,_,_,_,_,_,_,_,_],[]⟩ W
   refine wpOp_step rfl fun _ hK => ?_
   go_simp
   exact hK _ _ ⟨rfl,rfl⟩
  ·intro o W _
   show wpOp _ _ _ 25 _ ⟨#[_,_,_,_,_,_,_,_,_,_,_,_,_,_,_,_,_,_,_,_,_,_,_,_,_,_,_,_,_,_,_,_,_,_,_,_,_,_,_,_,o 0,o 1,o 2,o 3,o 4,o 5,o 6,o 7,o 8,o 9,o 10,o 11,o 12,o 13,o 14,o 15,o 16,o 17,o 18,o 19,.bool true,o 21,o 22,o 23,o 24,o 25,o 26,o 27,o 28,o 29,o 30,_,_,_,_,_,_,_,_,_,_,_,_,_],[]⟩ W
   refine wpOp_step rfl fun _ hK => ?_
   go_simp
   exact hK _ _ ⟨rfl,rfl⟩
  ·intro o W _
   show wpOp _ _ _ 26 _ ⟨#[_,_,_,_,_,_,_,_,_,_,_,_,_,_,_,_,_,_,_,_,_,_,_,_,_,_,_,_,_,_,_,_,_,_,_,_,_,_,_,_,o 0,o 1,o 2,o 3,o 4,o 5,o 6,o 7,o 8,o 9,o 10,o 11,o 12,o 13,o 14,o 15,o 16,o 17,o 18,o 19,.bool true,o 21,o 22,o 23,o 24,undef,o 26,o 27,o 28,o 29,o 30,_,_,_,_,_,_,_,_,_,_,_,_,_],[]⟩ W
   refine wpOp_step rfl fun _ hK => ?_
   go_simp
   exact hK _ _ ⟨rfl,rfl⟩
  ·intro o W _
   show wpOp _ _ _ 27 _ ⟨#[_,_,_,_,_,_,_,_,_,_,_,_,_,_,_,_,_,_,_,_,_,_,_,_,_,_,_,_,_,_,_,_,_,_,_,_,_,_,_,_,o 0,o 1,o 2,o 3,o 4,o 5,o 6,o 7,o 8,o 9,o 10,o 11,o 12,o 13,o 14,o 15,o 16,o 17,o 18,o 19,.bool true,o 21,o 22,o 23,o 24,o 25,o 26,o 27,o 28,o 29,o 30,_,_,_,_,_,_,_,_,_,_,_,_,_],[]⟩ W
   refine wpOp_step rfl fun _ hK => ?_
   go_simp
   exact hK _ _ ⟨rfl,rfl⟩
  ·intro o W _
   show wpOp _ _ _ 28 _ ⟨#[_,_,_,_,_,_,_,_,_,_,_,_,_,_,_,_,_,_,_,_,_,_,_,_,_,_,_,_,_,_,_,_,_,_,_,_,_,_,_,_,o 0,o 1,o 2,o 3,o 4,o 5,o 6,o 7,o 8,o 9,o 10,o 11,o 12,o 13,o 14,o 15,o 16,o 17,o 18,o 19,.bool true,o 21,o 22,o 23,o 24,o 25,undef,undef,o 28,o 29,o 30,_,_,_,_,_,_,_,_,_,_,_,_,_],[]⟩ W
   refine wpOp_step rfl fun _ hK => ?_
   go_simp
   exact hK _ _ ⟨rfl,rfl⟩
  ·intro o W _
   show wpOp _ _ _ 29 _ ⟨#[_,_,_,_,_,_,_,_,_,_,_,_,_,_,_,_,_,_,_,_,_,_,_,_,_,_,_,_,_,_,_,_,_,_,_,_,_,_,_,_,o 0,o 1,o 2,o 3,o 4,o 5,o 6,o 7,o 8,o 9,o 10,o 11,o 12,o 13,o 14,o 15,o 16,o 17,o 18,o 19,.bool true,o 21,o 22,o 23,undef,o 25,o 26,o 27,undef,o 29,o 30,_,_,_,_,_,_,_,_,_,_,_,_,_],[]⟩ W
   refine wpOp_step rfl fun _ hK => ?_
   go_simp
   exact hK _ _ ⟨rfl,rfl⟩
  ·intro o W _
   show wpOp _ _ _ 30 _ ⟨#[_,_,_,_,_,_,_,_,_,_,_,_,_,_,_,_,_,_,_,_,_,_,_,_,_,_,_,_,_,_,_,_,_,_,_,_,_,_,_,_,o 0,o 1,o 2,o 3,o 4,o 5,o 6,o 7,o 8,o 9,o 10,o 11,o 12,o 13,o 14,o 15,o 16,o 17,o 18,o 19,.bool true,o 21,o 22,o 23,o 24,o 25,o 26,o 27,o 28,undef,o 30,_,_,_,_,_,_,_,_,_,_,_,_,_],[]⟩ W
   refine wpOp_step rfl fun _ hK => ?_
   go_simp
   exact hK _ _ ⟨rfl,rfl⟩
  ·intro o hh_
   have e0 : o 0 = .int .i64 ON := hh_ 0 (by decide)
   have e1 : o 1 = .int .i64 AT := hh_ 1 (by decide)
   have e2 : o 2 = .bool true := hh_ 2 (by decide)
   have e3 : o 3 = .bool true := hh_ 3 (by decide)
   have e4 : o 4 = undef := hh_ 4 (by decide)
   have e5 : o 5 = undef := hh_ 5 (by decide)
   have e6 : o 6 = undef := hh_ 6 (by decide)
   have e7 : o 7 = undef := hh_ 7 (by decide)
   have e8 : o 8 = .bool true := hh_ 8 (by decide)
   have e9 : o 9 = .bool true := hh_ 9 (by decide)
   have e10 : o 10 = undef := hh_ 10 (by decide)
   have e11 : o 11 = undef := hh_ 11 (by decide)
   have e12 : o 12 = undef := hh_ 12 (by decide)
   have e13 : o 13 = undef := hh_ 13 (by decide)
   have e14 : o 14 = undef := hh_ 14 (by decide)
   have e15 : o 15 = undef := hh_ 15 (by decide)
   have e16 : o 16 = undef := hh_ 16 (by decide)
   have e17 : o 17 = undef := hh_ 17 (by decide)
   have e18 : o 18 = undef := hh_ 18 (by decide)
   have e19 : o 19 = .bool true := hh_ 19 (by decide)
   have e20 : o 20 = .bool true := hh_ 20 (by decide)
   have e21 : o 21 = undef := hh_ 21 (by decide)
   have e22 : o 22 = undef := hh_ 22 (by decide)
   have e23 : o 23 = undef := hh_ 23 (by decide)
   have e24 : o 24 = undef := hh_ 24 (by decide)
   have e25 : o 25 = undef := hh_ 25 (by decide)
   have e26 : o 26 = undef := hh_ 26 (by decide)
   have e27 : o 27 = undef := hh_ 27 (by decide)
   have e28 : o 28 = undef := hh_ 28 (by decide)
   have e29 : o 29 = undef := hh_ 29 (by decide)
   have e30 : o 30 = .bool true := hh_ 30 (by decide)
   rw [e0,e1,e2,e3,e4,e5,e6,e7,e8,e9,e10,e11,e12,e13,e14,e15,e16,e17,e18,e19,e20,e21,e22,e23,e24,e25,e26,e27,e28,e29,e30]
  ·intro W2 h2
   have h2 : KL _ _ W2 := h2
   obtain ⟨bL0,b0_0,b0_1,b0_2⟩ := bl3 (KL.blk h2 (.head _))
   have bF0 := (KL.blk h2 (.head _)).frozen
   obtain ⟨bL1,b1_0,b1_1,b1_2,b1_3,b1_4,b1_5⟩ := bl6 (KL.blk h2 (.tail _ (.head _)))
   have bF1 := (KL.blk h2 (.tail _ (.head _))).frozen
   obtain ⟨bL2,b2_0,b2_1,b2_2,b2_3,b2_4,b2_5⟩ := bl6 (KL.blk h2 (.tail _ (.tail _ (.head _))))
   obtain ⟨bL3,b3_0,b3_1,b3_2,b3_3,b3_4,b3_5⟩ := bl6 (KL.blk h2 (.tail _ (.tail _ (.tail _ (.head _)))))
   have hjb := h2.1
   have hjz := hjb.size
   go_wp2
   have hz : KL [((w.heap.size + 1 + 1 + 1),27,#[.int .i64 0,.int .i64 0,.int .i64 0]),((w.heap.size + 1 + 1),25,#[.int .i64 0,.int .i64 0,.int .i64 0,.int .i64 0,.int .i64 0,.int .i64 0]),((w.heap.size + 1),25,#[a,b,c,d,s,u]),(w.heap.size,25,#[x,y,z,p,q,r])] w _ := (KL.up3 0 (KL.up6 1 h2 rfl (by omega) (by simp <;> omega)) rfl (by omega) (by simp <;> omega))
   obtain ⟨eL,e0,e1,e2,e3,e4,e5⟩ := bl6 (KL.blk hz (.tail _ (.head _)))
   obtain ⟨iL,i0,i1,i2⟩ := bl3 (KL.blk hz (.head _))
   exact bodyPost_ret (v := .tuple #[.agg #[.int .i64 0,.int .i64 0,.int .i64 0,.int .i64 0,.int .i64 0,.int .i64 0],.agg #[.int .i64 0,.int .i64 0,.int .i64 0],.int .i64 10]) (by simp [results,Try.results21,go_sem,e0,e1,e2,e3,e4,e5,i0,i1,i2]) rfl ⟨rfl,hz.1⟩
set_option maxHeartbeats 16000000 in
set_option maxRecDepth 100000 in
theorem rjn_G (x y z p q r a b c d s u k AT ON : Int) (c1_ : (∀ w,Calls Try.prog 35 #[.agg #[x,y,z,p,q,r]] w fun e w' => e = .returned (.int .i64 0) ∧ Below w.heap.size w w')) (c2_ : (∀ w,Calls Try.prog 35 #[.agg #[a,b,c,d,s,u]] w fun e w' => e = .returned (.int .i64 0) ∧ Below w.heap.size w w')) (hk : ∀ w,Calls Try.prog 40 #[k] w fun e w' => e = .returned (.bool true) ∧ w = w') (g1_ : (∀ w,Calls Try.prog 41 #[.agg #[p,q,r],.int .i64 k] w fun e w' => e = .returned (.int .i64 AT) ∧ Below w.heap.size w w')) (g2_ : (∀ w,Calls Try.prog 41 #[.agg #[a,b,c],.int .i64 k] w fun e w' => e = .returned (.int .i64 ON) ∧ Below w.heap.size w w'))
  (dL : decide (ON < AT) = false) (dW : IntKind.i64.wrap (ON - AT) = ON - AT) (dG : decide (1000 < ON - AT) = true) (w : World) :
  Calls Try.prog 21 #[.agg #[x,y,z,p,q,r],.agg #[a,b,c,d,s,u],.int .i64 k] w fun e w' => e = .returned (.tuple #[.agg #[.int .i64 0,.int .i64 0,.int .i64 0,.int .i64 0,.int .i64 0,.int .i64 0],.agg #[.int .i64 0,.int .i64 0,.int .i64 0],.int .i64 10]) ∧ Below w.heap.size w w' := by
 go_enter Try.func21,Try.ntmps21
 go_wp2_with (first | (revert hb1; intro hb1; go_at_call 35; refine (c2_ _).mono ?_; rintro e w2 ⟨rfl,hb2⟩; obtain ⟨hc2,hf2⟩ := bcell hb2; have hz2 := hb2.size; (try simp at hz2); (try have y20 : w.heap.size < w2.heap.size := (by omega)); (try have y20p : w.heap.size < w2.heap.size + 1 := (by omega)); (try have y21 : w.heap.size + 1 < w2.heap.size := (by omega)); (try have y21p : w.heap.size + 1 < w2.heap.size + 1 := (by omega)); (try have y22 : w.heap.size + 1 + 1 < w2.heap.size := (by omega)); (try have y22p : w.heap.size + 1 + 1 < w2.heap.size + 1 := (by omega)); (try have y23 : w.heap.size + 1 + 1 + 1 < w2.heap.size := (by omega)); (try have y23p : w.heap.size + 1 + 1 + 1 < w2.heap.size + 1 := (by omega)); (try have y24 : w.heap.size + 1 + 1 + 1 + 1 < w2.heap.size := (by omega)); (try have y24p : w.heap.size + 1 + 1 + 1 + 1 < w2.heap.size + 1 := (by omega)); (try have v0x2 : w0.heap.size < w2.heap.size := (by omega)); (try have v0x2p : w0.heap.size < w2.heap.size + 1 := (by omega)); (try have v1x2 : w1.heap.size < w2.heap.size := (by omega)); (try have v1x2p : w1.heap.size < w2.heap.size + 1 := (by omega))) | (go_at_call 35; refine (c1_ _).mono ?_; rintro e w1 ⟨rfl,hb1⟩; obtain ⟨hc1,hf1⟩ := bcell hb1; have hz1 := hb1.size; (try simp at hz1); (try have y10 : w.heap.size < w1.heap.size := (by omega)); (try have y10p : w.heap.size < w1.heap.size + 1 := (by omega)); (try have y11 : w.heap.size + 1 < w1.heap.size := (by omega)); (try have y11p : w.heap.size + 1 < w1.heap.size + 1 := (by omega)); (try have y12 : w.heap.size + 1 + 1 < w1.heap.size := (by omega)); (try have y12p : w.heap.size + 1 + 1 < w1.heap.size + 1 := (by omega)); (try have y13 : w.heap.size + 1 + 1 + 1 < w1.heap.size := (by omega)); (try have y13p : w.heap.size + 1 + 1 + 1 < w1.heap.size + 1 := (by omega)); (try have y14 : w.heap.size + 1 + 1 + 1 + 1 < w1.heap.size := (by omega)); (try have y14p : w.heap.size + 1 + 1 + 1 + 1 < w1.heap.size + 1 := (by omega)); (try have v0x1 : w0.heap.size < w1.heap.size := (by omega)); (try have v0x1p : w0.heap.size < w1.heap.size + 1 := (by omega))) | (go_at_call 40; refine (hk _).mono ?_; rintro e w' ⟨rfl,rfl⟩))
 refine wp_region_any (by kernel_rfl) ?_
 try (change wpAny _ _ _ _ _ _ _ (World.drew _))
 refine wpAny_vals (fr := fun o => #[.agg #[x,y,z,p,q,r],.agg #[a,b,c,d,s,u],.int .i64 k,.pointer (some ⟨w.heap.size,0,none⟩),.pointer (some ⟨(w.heap.size + 1),0,none⟩),undef,.pointer (some ⟨(w.heap.size + 1 + 1),0,none⟩),.pointer (some ⟨(w.heap.size + 1 + 1 + 1),0,none⟩),.int .i64 0,.int .i64 0,.int .i64 0,o 8,o 9,.agg #[x,y,z,p,q,r],.int .i64 0,.int .i64 0,.bool false,undef,undef,undef,.agg #[a,b,c,d,s,u],.int .i64 0,.int .i64 0,.bool false,undef,undef,undef,.int .i64 k,.bool true,.bool false,undef,undef,o 0,o 1,o 2,o 3,o 4,o 5,o 6,o 7,undef,undef,undef,undef,undef,undef,undef,undef,undef,undef,undef,undef,undef,undef,undef,undef,undef,undef,undef,undef,undef,undef,undef,undef,undef,undef,undef,undef,undef,undef,undef,undef,undef,undef,undef,undef,undef,undef,undef,undef,undef,undef,undef,undef]) (vals := fun i_ => ([.pointer (some ⟨w.heap.size,3,none⟩),.agg #[p,q,r],.int .i64 k,.int .i64 AT,.pointer (some ⟨(w.heap.size + 1),0,none⟩),.agg #[a,b,c],.int .i64 k,.int .i64 ON,.int .i64 AT,.int .i64 ON] : List Value).getD i_ undef) (Kf := fun _ => True) (K := fun kk_ => ([(KL [((w.heap.size + 1 + 1 + 1),27,#[.int .i64 0,.int .i64 0,.int .i64 0]),((w.heap.size + 1 + 1),25,#[.int .i64 0,.int .i64 0,.int .i64 0,.int .i64 0,.int .i64 0,.int .i64 0]),((w.heap.size + 1),25,#[a,b,c,d,s,u]),(w.heap.size,25,#[x,y,z,p,q,r])] w)] : List (World → Prop)).getD kk_ (fun _ => True)) (dep := fun i_ => [[],[0],[],[1,2],[],[4],[],[5,6],[3],[7]].getD i_ []) (dv := fun i_ => [[],[0],[],[1,2],[],[4],[],[5,6],[3],[7]].getD i_ []) (kd := fun i_ => [0,1,0,1,0,1,0,1,0,0].getD i_ 0) (ss := []) (l := [0,1,2,3,4,5,6,7,8,9]) (f0 := fun _ => undef) (A := ?A4) 10 rfl rfl (by decide +kernel) (by decide +kernel) ?_ ?_ ⟨?_,?_,?_,?_,?_,?_,?_,?_,?_,?_,trivial⟩ ?_ ?_
 rotate_left
 ·exact KL.drew (KL.over (KL.over (KL.new (g := (w.heap.size + 1 + 1 + 1)) (KL.new (g := (w.heap.size + 1 + 1)) (KL.new (g := (w.heap.size + 1)) (KL.new (g := w.heap.size) (KL.nil w) rfl _ _) (by simp) _ _) (by simp) _ _) (by simp) _ _) hb1) hb2)
 ·exact fun _ _ _ _ => trivial
 ·intro o W _
  show wpOp _ _ _ 0 _ ⟨⟨_::_::_::_::_::_::_::_::_::_::_::o 8::o 9::_::_::_::_::_::_::_::_::_::_::_::_::_::_::_::_::_::_::_::o 0::o 1::o 2::o 3::o 4::o 5::o 6::o 7::_⟩,[]⟩ W
  refine wpOp_step rfl fun _ hK => ?_
  go_simp
  exact hK _ _ ⟨rfl,rfl⟩
 ·intro o W hj
  have hj : KL _ _ W := hj
  obtain ⟨cL,c0,c1,c2,c3,c4,c5⟩ := bl6 (KL.blk hj (.tail _ (.tail _ (.tail _ (.head _)))))
  show wpOp _ _ _ 1 _ ⟨⟨_::_::_::_::_::_::_::_::_::_::_::o 8::o 9::_::_::_::_::_::_::_::_::_::_::_::_::_::_::_::_::_::_::_::.pointer (some ⟨w.heap.size,3,none⟩)::o 1::o 2::o 3::o 4::o 5::o 6::o 7::_⟩,[]⟩ W
  refine wpOp_step rfl fun _ hK => ?_
  go_simp
  exact hK _ _ ⟨rfl,hj⟩
 ·intro o W _
  show wpOp _ _ _ 2 _ ⟨⟨_::_::_::_::_::_::_::_::_::_::_::o 8::o 9::_::_::_::_::_::_::_::_::_::_::_::_::_::_::_::_::_::_::_::o 0::o 1::o 2::o 3::o 4::o 5::o 6::o 7::_⟩,[]⟩ W
  refine wpOp_step rfl fun _ hK => ?_
  go_simp
  exact hK _ _ ⟨rfl,rfl⟩
 ·intro o W hj
  have hj : KL _ _ W := hj
  show wpOp _ _ _ 3 _ ⟨⟨_::_::_::_::_::_::_::_::_::_::_::o 8::o 9::_::_::_::_::_::_::_::_::_::_::_::_::_::_::_::_::_::_::_::o 0::.agg #[p,q,r]::.int .i64 k::o 3::o 4::o 5::o 6::o 7::_⟩,[]⟩ W
  refine wpOp_step rfl fun _ hK => ?_
  go_simp
  refine (g1_ _).mono ?_
  rintro e W1 ⟨rfl,hb1⟩
  exact hK _ _ ⟨rfl,hj.over hb1⟩
 ·intro o W _
  show wpOp _ _ _ 4 _ ⟨⟨_::_::_::_::_::_::_::_::_::_::_::o 8::o 9::_::_::_::_::_::_::_::_::_::_::_::_::_::_::_::_::_::_::_::o 0::o 1::o 2::o 3::o 4::o 5::o 6::o 7::_⟩,[]⟩ W
  refine wpOp_step rfl fun _ hK => ?_
  go_simp
  exact hK _ _ ⟨rfl,rfl⟩
 ·intro o W hj
  have hj : KL _ _ W := hj
  obtain ⟨cL,c0,c1,c2,c3,c4,c5⟩ := bl6 (KL.blk hj (.tail _ (.tail _ (.head _))))
  show wpOp _ _ _ 5 _ ⟨⟨_::_::_::_::_::_::_::_::_::_::_::o 8::o 9::_::_::_::_::_::_::_::_::_::_::_::_::_::_::_::_::_::_::_::o 0::o 1::o 2::o 3::.pointer (some ⟨(w.heap.size + 1),0,none⟩)::o 5::o 6::o 7::_⟩,[]⟩ W
  refine wpOp_step rfl fun _ hK => ?_
  go_simp
  exact hK _ _ ⟨rfl,hj⟩
 ·intro o W _
  show wpOp _ _ _ 6 _ ⟨⟨_::_::_::_::_::_::_::_::_::_::_::o 8::o 9::_::_::_::_::_::_::_::_::_::_::_::_::_::_::_::_::_::_::_::o 0::o 1::o 2::o 3::o 4::o 5::o 6::o 7::_⟩,[]⟩ W
  refine wpOp_step rfl fun _ hK => ?_
  go_simp
  exact hK _ _ ⟨rfl,rfl⟩
 ·intro o W hj
  have hj : KL _ _ W := hj
  show wpOp _ _ _ 7 _ ⟨⟨_::_::_::_::_::_::_::_::_::_::_::o 8::o 9::_::_::_::_::_::_::_::_::_::_::_::_::_::_::_::_::_::_::_::o 0::o 1::o 2::o 3::o 4::.agg #[a,b,c]::.int .i64 k::o 7::_⟩,[]⟩ W
  refine wpOp_step rfl fun _ hK => ?_
  go_simp
  refine (g2_ _).mono ?_
  rintro e W1 ⟨rfl,hb1⟩
  exact hK _ _ ⟨rfl,hj.over hb1⟩
 ·intro o W _
  show wpOp _ _ _ 8 _ ⟨⟨_::_::_::_::_::_::_::_::_::_::_::o 8::o 9::_::_::_::_::_::_::_::_::_::_::_::_::_::_::_::_::_::_::_::o 0::o 1::o 2::.int .i64 AT::o 4::o 5::o 6::o 7::_⟩,[]⟩ W
  refine wpOp_step rfl fun _ hK => ?_
  go_simp
  exact hK _ _ ⟨rfl,rfl⟩
 ·intro o W _
  show wpOp _ _ _ 9 _ ⟨⟨_::_::_::_::_::_::_::_::_::_::_::o 8::o 9::_::_::_::_::_::_::_::_::_::_::_::_::_::_::_::_::_::_::_::o 0::o 1::o 2::o 3::o 4::o 5::o 6::.int .i64 ON::_⟩,[]⟩ W
  refine wpOp_step rfl fun _ hK => ?_
  go_simp
  exact hK _ _ ⟨rfl,rfl⟩
 ·intro o hh_
  have e0 : o 0 = .pointer (some ⟨w.heap.size,3,none⟩) := hh_ 0 (by decide)
  have e1 : o 1 = .agg #[p,q,r] := hh_ 1 (by decide)
  have e2 : o 2 = .int .i64 k := hh_ 2 (by decide)
  have e3 : o 3 = .int .i64 AT := hh_ 3 (by decide)
  have e4 : o 4 = .pointer (some ⟨(w.heap.size + 1),0,none⟩) := hh_ 4 (by decide)
  have e5 : o 5 = .agg #[a,b,c] := hh_ 5 (by decide)
  have e6 : o 6 = .int .i64 k := hh_ 6 (by decide)
  have e7 : o 7 = .int .i64 ON := hh_ 7 (by decide)
  have e8 : o 8 = .int .i64 AT := hh_ 8 (by decide)
  have e9 : o 9 = .int .i64 ON := hh_ 9 (by decide)
  rw [e0,e1,e2,e3,e4,e5,e6,e7,e8,e9]
 ·intro W1 h1
  have h1 : KL _ _ W1 := h1
  obtain ⟨aL0,a0_0,a0_1,a0_2⟩ := bl3 (KL.blk h1 (.head _))
  have aF0 := (KL.blk h1 (.head _)).frozen
  obtain ⟨aL1,a1_0,a1_1,a1_2,a1_3,a1_4,a1_5⟩ := bl6 (KL.blk h1 (.tail _ (.head _)))
  have aF1 := (KL.blk h1 (.tail _ (.head _))).frozen
  obtain ⟨aL2,a2_0,a2_1,a2_2,a2_3,a2_4,a2_5⟩ := bl6 (KL.blk h1 (.tail _ (.tail _ (.head _))))
  obtain ⟨aL3,a3_0,a3_1,a3_2,a3_3,a3_4,a3_5⟩ := bl6 (KL.blk h1 (.tail _ (.tail _ (.tail _ (.head _)))))
  have hjb := h1.1
  have hjz := hjb.size
  go_wp2
  refine wp_region_any (by kernel_rfl) ?_
  try (change wpAny _ _ _ _ _ _ _ (World.drew _))
  refine wpAny_vals (fr := fun o => #[.agg #[x,y,z,p,q,r],.agg #[a,b,c,d,s,u],.int .i64 k,.pointer (some ⟨w.heap.size,0,none⟩),.pointer (some ⟨(w.heap.size + 1),0,none⟩),undef,.pointer (some ⟨(w.heap.size + 1 + 1),0,none⟩),.pointer (some ⟨(w.heap.size + 1 + 1 + 1),0,none⟩),.int .i64 0,.int .i64 0,.int .i64 0,.int .i64 AT,.int .i64 ON,.agg #[x,y,z,p,q,r],.int .i64 0,.int .i64 0,.bool false,undef,undef,undef,.agg #[a,b,c,d,s,u],.int .i64 0,.int .i64 0,.bool false,undef,undef,undef,.int .i64 k,.bool true,.bool false,undef,undef,.pointer (some ⟨w.heap.size,3,none⟩),.agg #[p,q,r],.int .i64 k,.int .i64 AT,.pointer (some ⟨(w.heap.size + 1),0,none⟩),.agg #[a,b,c],.int .i64 k,.int .i64 ON,o 0,o 1,o 2,o 3,o 4,o 5,o 6,o 7,o 8,o 9,o 10,o 11,o 12,o 13,o 14,o 15,o 16,o 17,o 18,o 19,o 20,o 21,o 22,o 23,o 24,o 25,o 26,o 27,o 28,o 29,o 30,undef,undef,undef,undef,undef,undef,undef,undef,undef,undef,undef,undef,undef]) (vals := fun i_ => ([.int .i64 ON,.int .i64 AT,.bool false,.bool false,.int .i64 ON,.int .i64 AT,.int .i64 (ON - AT),.bool true,.bool true,.bool true,undef,undef,undef,undef,undef,undef,undef,undef,undef,.bool true,.bool true,undef,undef,undef,undef,undef,undef,undef,undef,undef,.bool true] : List Value).getD i_ undef) (Kf := fun _ => True) (K := fun kk_ => ([(KL [((w.heap.size + 1 + 1 + 1),27,#[.int .i64 0,.int .i64 0,.int .i64 0]),((w.heap.size + 1 + 1),25,#[.int .i64 0,.int .i64 0,.int .i64 0,.int .i64 0,.int .i64 0,.int .i64 0]),((w.heap.size + 1),25,#[a,b,c,d,s,u]),(w.heap.size,25,#[x,y,z,p,q,r])] w)] : List (World → Prop)).getD kk_ (fun _ => True)) (dep := fun i_ => [[],[],[0,1],[2],[3],[3],[3,4,5],[3,6],[3,7],[8],[9],[9,10],[9],[9,11,12],[9],[9,14],[9],[9,15,16],[9,13,17],[9,18],[19],[20],[20,21],[20],[20,22,23],[20],[20,25],[20],[20,26,27],[20,24,28],[20,29]].getD i_ []) (dv := fun i_ => [[],[],[0,1],[2],[3],[3],[3,4,5],[3,6],[3,7],[8],[9],[9,10],[9],[9,11,12],[9],[9,14],[9],[9,15,16],[9,13,17],[9,18],[19],[20],[20,21],[20],[20,22,23],[20],[20,25],[20],[20,26,27],[20,24,28],[20,29]].getD i_ []) (kd := fun i_ => [0,0,0,0,0,0,0,0,0,0,0,0,0,0,0,0,0,0,0,0,0,0,0,0,0,0,0,0,0,0,0].getD i_ 0) (ss := []) (l := [0,1,2,3,4,5,6,7,8,9,10,11,12,13,14,15,16,17,18,19,20,21,22,23,24,25,26,27,28,29,30]) (f0 := fun _ => undef) (A := ?A3) 31 rfl rfl (by decide +kernel) (by decide +kernel) ?_ ?_ ⟨?_,?_,?_,?_,?_,?_,?_,?_,?_,?_,?_,?_,?_,?_,?_,?_,?_,?_,?_,?_,?_,?_,?_,?_,?_,?_,?_,?_,?_,?_,?_,trivial⟩ ?_ ?_
  rotate_left
  ·exact KL.drew h1
  ·exact fun _ _ _ _ => trivial
  ·intro o W _
   show wpOp _ _ _ 0 _ ⟨#[_,_,_,_,_,_,_,_,_,_,_,_,_,_,_,_,_,_,_,_,_,_,_,_,_,_,_,_,_,_,_,_,_,_,_,_,_,_,_,_,o 0,o 1,o 2,o 3,o 4,o 5,o 6,o 7,o 8,o 9,o 10,o 11,o 12,o 13,o 14,o 15,o 16,o 17,o 18,o 19,o 20,o 21,o 22,o 23,o 24,o 25,o 26,o 27,o 28,o 29,o 30,_,_,_,_,_,_,_,_,_,_,_,_,_],[]⟩ W
   refine wpOp_step rfl fun _ hK => ?_
   go_simp
   exact hK _ _ ⟨rfl,rfl⟩
  ·intro o W _
   show wpOp _ _ _ 1 _ ⟨#[_,_,_,_,_,_,_,_,_,_,_,_,_,_,_,_,_,_,_,_,_,_,_,_,_,_,_,_,_,_,_,_,_,_,_,_,_,_,_,_,o 0,o 1,o 2,o 3,o 4,o 5,o 6,o 7,o 8,o 9,o 10,o 11,o 12,o 13,o 14,o 15,o 16,o 17,o 18,o 19,o 20,o 21,o 22,o 23,o 24,o 25,o 26,o 27,o 28,o 29,o 30,_,_,_,_,_,_,_,_,_,_,_,_,_],[]⟩ W
   refine wpOp_step rfl fun _ hK => ?_
   go_simp
   exact hK _ _ ⟨rfl,rfl⟩
  ·intro o W _
   show wpOp _ _ _ 2 _ ⟨#[_,_,_,_,_,_,_,_,_,_,_,_,_,_,_,_,_,_,_,_,_,_,_,_,_,_,_,_,_,_,_,_,_,_,_,_,_,_,_,_,.int .i64 ON,.int .i64 AT,o 2,o 3,o 4,o 5,o 6,o 7,o 8,o 9,o 10,o 11,o 12,o 13,o 14,o 15,o 16,o 17,o 18,o 19,o 20,o 21,o 22,o 23,o 24,o 25,o 26,o 27,o 28,o 29,o 30,_,_,_,_,_,_,_,_,_,_,_,_,_],[]⟩ W
   refine wpOp_step rfl fun _ hK => ?_
   go_simp
   exact hK _ _ ⟨rfl,rfl⟩
  ·intro o W _
   show wpOp _ _ _ 3 _ ⟨#[_,_,_,_,_,_,_,_,_,_,_,_,_,_,_,_,_,_,_,_,_,_,_,_,_,_,_,_,_,_,_,_,_,_,_,_,_,_,_,_,o 0,o 1,.bool false,o 3,o 4,o 5,o 6,o 7,o 8,o 9,o 10,o 11,o 12,o 13,o 14,o 15,o 16,o 17,o 18,o 19,o 20,o 21,o 22,o 23,o 24,o 25,o 26,o 27,o 28,o 29,o 30,_,_,_,_,_,_,_,_,_,_,_,_,_],[]⟩ W
   refine wpOp_step rfl fun _ hK => ?_
   go_simp
   exact hK _ _ ⟨rfl,rfl⟩
  ·intro o W _
   show wpOp _ _ _ 4 _ ⟨#[_,_,_,_,_,_,_,_,_,_,_,_,_,_,_,_,_,_,_,_,_,_,_,_,_,_,_,_,_,_,_,_,_,_,_,_,_,_,_,_,o 0,o 1,o 2,.bool false,o 4,o 5,o 6,o 7,o 8,o 9,o 10,o 11,o 12,o 13,o 14,o 15,o 16,o 17,o 18,o 19,o 20,o 21,o 22,o 23,o 24,o 25,o 26,o 27,o 28,o 29,o 30,_,_,_,_,_,_,_,_,_,_,_,_,_],[]⟩ W
   refine wpOp_step rfl fun _ hK => ?_
   go_simp
   exact hK _ _ ⟨rfl,rfl⟩
  ·intro o W _
   show wpOp _ _ _ 5 _ ⟨#[_,_,_,_,_,_,_,_,_,_,_,_,_,_,_,_,_,_,_,_,_,_,_,_,_,_,_,_,_,_,_,_,_,_,_,_,_,_,_,_,o 0,o 1,o 2,.bool false,o 4,o 5,o 6,o 7,o 8,o 9,o 10,o 11,o 12,o 13,o 14,o 15,o 16,o 17,o 18,o 19,o 20,o 21,o 22,o 23,o 24,o 25,o 26,o 27,o 28,o 29,o 30,_,_,_,_,_,_,_,_,_,_,_,_,_],[]⟩ W
   refine wpOp_step rfl fun _ hK => ?_
   go_simp
   exact hK _ _ ⟨rfl,rfl⟩
  ·intro o W _
   show wpOp _ _ _ 6 _ ⟨#[_,_,_,_,_,_,_,_,_,_,_,_,_,_,_,_,_,_,_,_,_,_,_,_,_,_,_,_,_,_,_,_,_,_,_,_,_,_,_,_,o 0,o 1,o 2,.bool false,.int .i64 ON,.int .i64 AT,o 6,o 7,o 8,o 9,o 10,o 11,o 12,o 13,o 14,o 15,o 16,o 17,o 18,o 19,o 20,o 21,o 22,o 23,o 24,o 25,o 26,o 27,o 28,o 29,o 30,_,_,_,_,_,_,_,_,_,_,_,_,_],[]⟩ W
   refine wpOp_step rfl fun _ hK => ?_
   go_simp
   exact hK _ _ ⟨rfl,rfl⟩
  ·intro o W _
   show wpOp _ _ _ 7 _ ⟨#[_,_,_,_,_,_,_,_,_,_,_,_,_,_,_,_,_,_,_,_,_,_,_,_,_,_,_,_,_,_,_,_,_,_,_,_,_,_,_,_,o 0,o 1,o 2,.bool false,o 4,o 5,.int .i64 (ON - AT),o 7,o 8,o 9,o 10,o 11,o 12,o 13,o 14,o 15,o 16,o 17,o 18,o 19,o 20,o 21,o 22,o 23,o 24,o 25,o 26,o 27,o 28,o 29,o 30,_,_,_,_,_,_,_,_,_,_,_,_,_],[]⟩ W
   refine wpOp_step rfl fun _ hK => ?_
   go_simp
   exact hK _ _ ⟨rfl,rfl⟩
  ·intro o W _
   show wpOp _ _ _ 8 _ ⟨#[_,_,_,_,_,_,_,_,_,_,_,_,_,_,_,_,_,_,_,_,_,_,_,_,_,_,_,_,_,_,_,_,_,_,_,_,_,_,_,_,o 0,o 1,o 2,.bool false,o 4,o 5,o 6,.bool true,o 8,o 9,o 10,o 11,o 12,o 13,o 14,o 15,o 16,o 17,o 18,o 19,o 20,o 21,o 22,o 23,o 24,o 25,o 26,o 27,o 28,o 29,o 30,_,_,_,_,_,_,_,_,_,_,_,_,_],[]⟩ W
   refine wpOp_step rfl fun _ hK => ?_
   go_simp
   exact hK _ _ ⟨rfl,rfl⟩
  ·intro o W _
   show wpOp _ _ _ 9 _ ⟨#[_,_,_,_,_,_,_,_,_,_,_,_,_,_,_,_,_,_,_,_,_,_,_,_,_,_,_,_,_,_,_,_,_,_,_,_,_,_,_,_,o 0,o 1,o 2,o 3,o 4,o 5,o 6,o 7,.bool true,o 9,o 10,o 11,o 12,o 13,o 14,o 15,o 16,o 17,o 18,o 19,o 20,o 21,o 22,o 23,o 24,o 25,o 26,o 27,o 28,o 29,o 30,_,_,_,_,_,_,_,_,_,_,_,_,_],[]⟩ W
   refine wpOp_step rfl fun _ hK => ?_
   go_simp
   exact hK _ _ ⟨rfl,rfl⟩
  ·intro o W _
   show wpOp _ _ _ 10 _ ⟨#[_,_,_,_,_,_,_,_,_,_,_,_,_,_,_,_,_,_,_,_,_,_,_,_,_,_,_,_,_,_,_,_,_,_,_,_,_,_,_,_,o 0,o 1,o 2,o 3,o 4,o 5,o 6,o 7,o 8,.bool true,o 10,o 11,o 12,o 13,o 14,o 15,o 16,o 17,o 18,o 19,o 20,o 21,o 22,o 23,o 24,o 25,o 26,o 27,o 28,o 29,o 30,_,_,_,_,_,_,_,_,_,_,_,_,_],[]⟩ W
   refine wpOp_step rfl fun _ hK => ?_
   go_simp
   exact hK _ _ ⟨rfl,rfl⟩
  ·intro o W _
   show wpOp _ _ _ 11 _ ⟨#[_,_,_,_,_,_,_,_,_,_,_,_,_,_,_,_,_,_,_,_,_,_,_,_,_,_,_,_,_,_,_,_,_,_,_,_,_,_,_,_,o 0,o 1,o 2,o 3,o 4,o 5,o 6,o 7,o 8,.bool true,undef,o 11,o 12,o 13,o 14,o 15,o 16,o 17,o 18,o 19,o 20,o 21,o 22,o 23,o 24,o 25,o 26,o 27,o 28,o 29,o 30,_,_,_,_,_,_,_,_,_,_,_,_,_],[]⟩ W
   refine wpOp_step rfl fun _ hK => ?_
   go_simp
   exact hK _ _ ⟨rfl,rfl⟩
  ·intro o W _
   show wpOp _ _ _ 12 _ ⟨#[_,_,_,_,_,_,_,_,_,_,_,_,_,_,_,_,_,_,_,_,_,_,_,_,_,_,_,_,_,_,_,_,_,_,_,_,_,_,_,_,o 0,o 1,o 2,o 3,o 4,o 5,o 6,o 7,o 8,.bool true,o 10,o 11,o 12,o 13,o 14,o 15,o 16,o 17,o 18,o 19,o 20,o 21,o 22,o 23,o 24,o 25,o 26,o 27,o 28,o 29,o 30,_,_,_,_,_,_,_,_,_,_,_,_,_],[]⟩ W
   refine wpOp_step rfl fun _ hK => ?_
   go_simp
   exact hK _ _ ⟨rfl,rfl⟩
  ·intro o W _
   show wpOp _ _ _ 13 _ ⟨#[_,_,_,_,_,_,_,_,_,_,_,_,_,_,_,_,_,_,_,_,_,_,_,_,_,_,_,_,_,_,_,_,_,_,_,_,_,_,_,_,o 0,o 1,o 2,o 3,o 4,o 5,o 6,o 7,o 8,.bool true,o 10,undef,undef,o 13,o 14,o 15,o 16,o 17,o 18,o 19,o 20,o 21,o 22,o 23,o 24,o 25,o 26,o 27,o 28,o 29,o 30,_,_,_,_,_,_,_,_,_,_,_,_,_],[]⟩ W
   refine wpOp_step rfl fun _ hK => ?_
   go_simp
   exact hK _ _ ⟨rfl,rfl⟩
  ·intro o W _
   show wpOp _ _ _ 14 _ ⟨#[_,_,_,_,_,_,_,_,_,_,_,_,_,_,_,_,_,_,_,_,_,_,_,_,_,_,_,_,_,_,_,_,_,_,_,_,_,_,_,_,o 0,o 1,o 2,o 3,o 4,o 5,o 6,o 7,o 8,.bool true,o 10,o 11,o 12,o 13,o 14,o 15,o 16,o 17,o 18,o 19,o 20,o 21,o 22,o 23,o 24,o 25,o 26,o 27,o 28,o 29,o 30,_,_,_,_,_,_,_,_,_,_,_,_,_],[]⟩ W
   refine wpOp_step rfl fun _ hK => ?_
   go_simp
   exact hK _ _ ⟨rfl,rfl⟩
  ·intro o W _
   show wpOp _ _ _ 15 _ ⟨#[_,_,_,_,_,_,_,_,_,_,_,_,_,_,_,_,_,_,_,_,_,_,_,_,_,_,_,_,_,_,_,_,_,_,_,_,_,_,_,_,o 0,o 1,o 2,o 3,o 4,o 5,o 6,o 7,o 8,.bool true,o 10,o 11,o 12,o 13,undef,o 15,o 16,o 17,o 18,o 19,o 20,o 21,o 22,o 23,o 24,o 25,o 26,o 27,o 28,o 29,o 30,_,_,_,_,_,_,_,_,_,_,_,_,_],[]⟩ W
   refine wpOp_step rfl fun _ hK => ?_
   go_simp
   exact hK _ _ ⟨rfl,rfl⟩
  ·intro o W _
   show wpOp _ _ _ 16 _ ⟨#[_,_,_,_,_,_,_,_,_,_,_,_,_,_,_,_,_,_,_,_,_,_,_,_,_,_,_,_,_,_,_,_,_,_,_,_,_,_,_,_,o 0,o 1,o 2,o 3,o 4,o 5,o 6,o 7,o 8,.bool true,o 10,o 11,o 12,o 13,o 14,o 15,o 16,o 17,o 18,o 19,o 20,o 21,o 22,o 23,o 24,o 25,o 26,o 27,o 28,o 29,o 30,_,_,_,_,_,_,_,_,_,_,_,_,_],[]⟩ W
   refine wpOp_step rfl fun _ hK => ?_
   go_simp
   exact hK _ _ ⟨rfl,rfl⟩
  ·intro o W _
   show wpOp _ _ _ 17 _ ⟨#[_,_,_,_,_,_,_,_,_,_,_,_,_,_,_,_,_,_,_,_,_,_,_,_,_,_,_,_,_,_,_,_,_,_,_,_,_,_,_,_,o 0,o 1,o 2,o 3,o 4,o 5,o 6,o 7,o 8,.bool true,o 10,o 11,o 12,o 13,o 14,undef,undef,o 17,o 18,o 19,o 20,o 21,o 22,o 23,o 24,o 25,o 26,o 27,o 28,o 29,o 30,_,_,_,_,_,_,_,_,_,_,_,_,_],[]⟩ W
   refine wpOp_step rfl fun _ hK => ?_
   go_simp
   exact hK _ _ ⟨rfl,rfl⟩
  ·intro o W _
   show wpOp _ _ _ 18 _ ⟨#[_,_,_,_,_,_,_,_,_,_,_,_,_,_,_,_,_,_,_,_,_,_,_,_,_,_,_,_,_,_,_,_,_,_,_,_,_,_,_,_,o 0,o 1,o 2,o 3,o 4,o 5,o 6,o 7,o 8,.bool true,o 10,o 11,o 12,undef,o 14,o 15,o 16,undef,o 18,o 19,o 20,o 21,o 22,o 23,o 24,o 25,o 26,o 27,o 28,o 29,o 30,_,_,_,_,_,_,_,_,_,_,_,_,_],[]⟩ W
   refine wpOp_step rfl fun _ hK => ?_
   go_simp
   exact hK _ _ ⟨rfl,rfl⟩
  ·intro o W _
   show wpOp _ _ _ 19 _ ⟨#[_,_,_,_,_,_,_,_,_,_,_,_,_,_,_,_,_,_,_,_,_,_,_,_,_,_,_,_,_,_,_,_,_,_,_,_,_,_,_,_,o 0,o 1,o 2,o 3,o 4,o 5,o 6,o 7,o 8,.bool true,o 10,o 11,o 12,o 13,o 14,o 15,o 16,o 17,undef,o 19,o 20,o 21,o 22,o 23,o 24,o 25,o 26,o 27,o 28,o 29,o 30,_,_,_,_,_,_,_,_,_,_,_,_,_],[]⟩ W
   refine wpOp_step rfl fun _ hK => ?_
   go_simp
   exact hK _ _ ⟨rfl,rfl⟩
  ·intro o W _
   show wpOp _ _ _ 20 _ ⟨#[_,_,_,_,_,_,_,_,_,_,_,_,_,_,_,_,_,_,_,_,_,_,_,_,_,_,_,_,_,_,_,_,_,_,_,_,_,_,_,_,o 0,o 1,o 2,o 3,o 4,o 5,o 6,o 7,o 8,o 9,o 10,o 11,o 12,o 13,o 14,o 15,o 16,o 17,o 18,.bool true,o 20,o 21,o 22,o 23,o 24,o 25,o 26,o 27,o 28,o 29,o 30,_,_,_,_,_,_,_,_,_,_,_,_,_],[]⟩ W
   refine wpOp_step rfl fun _ hK => ?_
   go_simp
   exact hK _ _ ⟨rfl,rfl⟩
  ·intro o W _
   show wpOp _ _ _ 21 _ ⟨#[_,_,_,_,_,_,_,_,_,_,_,_,_,_,_,_,_,_,_,_,_,_,_,_,_,_,_,_,_,_,_,_,_,_,_,_,_,_,_,_,o 0,o 1,o 2,o 3,o 4,o 5,o 6,o 7,o 8,o 9,o 10,o 11,o 12,o 13,o 14,o 15,o 16,o 17,o 18,o 19,.bool true,o 21,o 22,o 23,o 24,o 25,o 26,o 27,o 28,o 29,o 30,_,_,_,_,_,_,_,_,_,_,_,_,_],[]⟩ W
   refine wpOp_step rfl fun _ hK => ?_
   go_simp
   exact hK _ _ ⟨rfl,rfl⟩
  ·intro o W _
   show wpOp _ _ _ 22 _ ⟨#[_,_,_,_,_,_,_,_,_,_,_,_,_,_,_,_,_,_,_,_,_,_,_,_,_,_,_,_,_,_,_,_,_,_,_,_,_,_,_,_,o 0,o 1,o 2,o 3,o 4,o 5,o 6,o 7,o 8,o 9,o 10,o 11,o 12,o 13,o 14,o 15,o 16,o 17,o 18,o 19,.bool true,undef,o 22,o 23,o 24,o 25,o 26,o 27,o 28,o 29,o 30,_,_,_,_,_,_,_,_,_,_,_,_,_],[]⟩ W
   refine wpOp_step rfl fun _ hK => ?_
   go_simp
   exact hK _ _ ⟨rfl,rfl⟩
  ·intro o W _
   show wpOp _ _ _ 23 _ ⟨#[_,_,_,_,_,_,_,_,_,_,_,_,_,_,_,_,_,_,_,_,_,_,_,_,_,_,_,_,_,_,_,_,_,_,_,_,_,_,_,_,o 0,o 1,o 2,o 3,o 4,o 5,o 6,o 7,o 8,o 9,o 10,o 11,o 12,o 13,o 14,o 15,o 16,o 17,o 18,o 19,.bool true,o 21,o 22,o 23,o 24,o 25,o 26,o 27,o 28,o 29,o 30,_,_,_,_,_,_,_,_,_,_,_,_,_],[]⟩ W
   refine wpOp_step rfl fun _ hK => ?_
   go_simp
   exact hK _ _ ⟨rfl,rfl⟩
  ·intro o W _
   show wpOp _ _ _ 24 _ ⟨#[_,_,_,_,_,_,_,_,_,_,_,_,_,_,_,_,_,_,_,_,_,_,_,_,_,_,_,_,_,_,_,_,_,_,_,_,_,_,_,_,o 0,o 1,o 2,o 3,o 4,o 5,o 6,o 7,o 8,o 9,o 10,o 11,o 12,o 13,o 14,o 15,o 16,o 17,o 18,o 19,.bool true,o 21,undef,undef,o 24,o 25,o 26,o 27,o 28,o 29,o 30,_,_,_,_,_,_,_,_,_,_,_,_,_],[]⟩ W
   refine wpOp_step rfl fun _ hK => ?_
   go_simp
   exact hK _ _ ⟨rfl,rfl⟩
  ·intro o W _
   show wpOp _ _ _ 25 _ ⟨#[_,_,_,_,_,_,_,_,_,_,_,_,_,_,_,_,_,_,_,_,_,_,_,_,_,_,_,_,_,_,_,_,_,_,_,_,_,_,_,_,o 0,o 1,o 2,o 3,o 4,o 5,o 6,o 7,o 8,o 9,o 10,o 11,o 12,o 13,o 14,o 15,o 16,o 17,o 18,o 19,.bool true,o 21,o 22,o 23,o 24,o 25,o 26,o 27,o 28,o 29,o 30,_,_,_,_,_,_,_,_,_,_,_,_,_],[]⟩ W
   refine wpOp_step rfl fun _ hK => ?_
   go_simp
   exact hK _ _ ⟨rfl,rfl⟩
  ·intro o W _
   show wpOp _ _ _ 26 _ ⟨#[_,_,_,_,_,_,_,_,_,_,_,_,_,_,_,_,_,_,_,_,_,_,_,_,_,_,_,_,_,_,_,_,_,_,_,_,_,_,_,_,o 0,o 1,o 2,o 3,o 4,o 5,o 6,o 7,o 8,o 9,o 10,o 11,o 12,o 13,o 14,o 15,o 16,o 17,o 18,o 19,.bool true,o 21,o 22,o 23,o 24,undef,o 26,o 27,o 28,o 29,o 30,_,_,_,_,_,_,_,_,_,_,_,_,_],[]⟩ W
   refine wpOp_step rfl fun _ hK => ?_
   go_simp
   exact hK _ _ ⟨rfl,rfl⟩
  ·intro o W _
   show wpOp _ _ _ 27 _ ⟨#[_,_,_,_,_,_,_,_,_,_,_,_,_,_,_,_,_,_,_,_,_,_,_,_,_,_,_,_,_,_,_,_,_,_,_,_,_,_,_,_,o 0,o 1,o 2,o 3,o 4,o 5,o 6,o 7,o 8,o 9,o 10,o 11,o 12,o 13,o 14,o 15,o 16,o 17,o 18,o 19,.bool true,o 21,o 22,o 23,o 24,o 25,o 26,o 27,o 28,o 29,o 30,_,_,_,_,_,_,_,_,_,_,_,_,_],[]⟩ W
   refine wpOp_step rfl fun _ hK => ?_
   go_simp
   exact hK _ _ ⟨rfl,rfl⟩
  ·intro o W _
   show wpOp _ _ _ 28 _ ⟨#[_,_,_,_,_,_,_,_,_,_,_,_,_,_,_,_,_,_,_,_,_,_,_,_,_,_,_,_,_,_,_,_,_,_,_,_,_,_,_,_,o 0,o 1,o 2,o 3,o 4,o 5,o 6,o 7,o 8,o 9,o 10,o 11,o 12,o 13,o 14,o 15,o 16,o 17,o 18,o 19,.bool true,o 21,o 22,o 23,o 24,o 25,undef,undef,o 28,o 29,o 30,_,_,_,_,_,_,_,_,_,_,_,_,_],[]⟩ W
   refine wpOp_step rfl fun _ hK => ?_
   go_simp
   exact hK _ _ ⟨rfl,rfl⟩
  ·intro o W _
   show wpOp _ _ _ 29 _ ⟨#[_,_,_,_,_,_,_,_,_,_,_,_,_,_,_,_,_,_,_,_,_,_,_,_,_,_,_,_,_,_,_,_,_,_,_,_,_,_,_,_,o 0,o 1,o 2,o 3,o 4,o 5,o 6,o 7,o 8,o 9,o 10,o 11,o 12,o 13,o 14,o 15,o 16,o 17,o 18,o 19,.bool true,o 21,o 22,o 23,undef,o 25,o 26,o 27,undef,o 29,o 30,_,_,_,_,_,_,_,_,_,_,_,_,_],[]⟩ W
   refine wpOp_step rfl fun _ hK => ?_
   go_simp
   exact hK _ _ ⟨rfl,rfl⟩
  ·intro o W _
   show wpOp _ _ _ 30 _ ⟨#[_,_,_,_,_,_,_,_,_,_,_,_,_,_,_,_,_,_,_,_,_,_,_,_,_,_,_,_,_,_,_,_,_,_,_,_,_,_,_,_,o 0,o 1,o 2,o 3,o 4,o 5,o 6,o 7,o 8,o 9,o 10,o 11,o 12,o 13,o 14,o 15,o 16,o 17,o 18,o 19,.bool true,o 21,o 22,o 23,o 24,o 25,o 26,o 27,o 28,undef,o 30,_,_,_,_,_,_,_,_,_,_,_,_,_],[]⟩ W
   refine wpOp_step rfl fun _ hK => ?_
   go_simp
   exact hK _ _ ⟨rfl,rfl⟩
  ·intro o hh_
   have e0 : o 0 = .int .i64 ON := hh_ 0 (by decide)
   have e1 : o 1 = .int .i64 AT := hh_ 1 (by decide)
   have e2 : o 2 = .bool false := hh_ 2 (by decide)
   have e3 : o 3 = .bool false := hh_ 3 (by decide)
   have e4 : o 4 = .int .i64 ON := hh_ 4 (by decide)
   have e5 : o 5 = .int .i64 AT := hh_ 5 (by decide)
   have e6 : o 6 = .int .i64 (ON - AT) := hh_ 6 (by decide)
   have e7 : o 7 = .bool true := hh_ 7 (by decide)
   have e8 : o 8 = .bool true := hh_ 8 (by decide)
   have e9 : o 9 = .bool true := hh_ 9 (by decide)
   have e10 : o 10 = undef := hh_ 10 (by decide)
   have e11 : o 11 = undef := hh_ 11 (by decide)
   have e12 : o 12 = undef := hh_ 12 (by decide)
   have e13 : o 13 = undef := hh_ 13 (by decide)
   have e14 : o 14 = undef := hh_ 14 (by decide)
   have e15 : o 15 = undef := hh_ 15 (by decide)
   have e16 : o 16 = undef := hh_ 16 (by decide)
   have e17 : o 17 = undef := hh_ 17 (by decide)
   have e18 : o 18 = undef := hh_ 18 (by decide)
   have e19 : o 19 = .bool true := hh_ 19 (by decide)
   have e20 : o 20 = .bool true := hh_ 20 (by decide)
   have e21 : o 21 = undef := hh_ 21 (by decide)
   have e22 : o 22 = undef := hh_ 22 (by decide)
   have e23 : o 23 = undef := hh_ 23 (by decide)
   have e24 : o 24 = undef := hh_ 24 (by decide)
   have e25 : o 25 = undef := hh_ 25 (by decide)
   have e26 : o 26 = undef := hh_ 26 (by decide)
   have e27 : o 27 = undef := hh_ 27 (by decide)
   have e28 : o 28 = undef := hh_ 28 (by decide)
   have e29 : o 29 = undef := hh_ 29 (by decide)
   have e30 : o 30 = .bool true := hh_ 30 (by decide)
   rw [e0,e1,e2,e3,e4,e5,e6,e7,e8,e9,e10,e11,e12,e13,e14,e15,e16,e17,e18,e19,e20,e21,e22,e23,e24,e25,e26,e27,e28,e29,e30]
  ·intro W2 h2
   have h2 : KL _ _ W2 := h2
   obtain ⟨bL0,b0_0,b0_1,b0_2⟩ := bl3 (KL.blk h2 (.head _))
   have bF0 := (KL.blk h2 (.head _)).frozen
   obtain ⟨bL1,b1_0,b1_1,b1_2,b1_3,b1_4,b1_5⟩ := bl6 (KL.blk h2 (.tail _ (.head _)))
   have bF1 := (KL.blk h2 (.tail _ (.head _))).frozen
   obtain ⟨bL2,b2_0,b2_1,b2_2,b2_3,b2_4,b2_5⟩ := bl6 (KL.blk h2 (.tail _ (.tail _ (.head _))))
   obtain ⟨bL3,b3_0,b3_1,b3_2,b3_3,b3_4,b3_5⟩ := bl6 (KL.blk h2 (.tail _ (.tail _ (.tail _ (.head _)))))
   have hjb := h2.1
   have hjz := hjb.size
   go_wp2
   have hz : KL [((w.heap.size + 1 + 1 + 1),27,#[.int .i64 0,.int .i64 0,.int .i64 0]),((w.heap.size + 1 + 1),25,#[.int .i64 0,.int .i64 0,.int .i64 0,.int .i64 0,.int .i64 0,.int .i64 0]),((w.heap.size + 1),25,#[a,b,c,d,s,u]),(w.heap.size,25,#[x,y,z,p,q,r])] w _ := (KL.up3 0 (KL.up6 1 h2 rfl (by omega) (by simp <;> omega)) rfl (by omega) (by simp <;> omega))
   obtain ⟨eL,e0,e1,e2,e3,e4,e5⟩ := bl6 (KL.blk hz (.tail _ (.head _)))
   obtain ⟨iL,i0,i1,i2⟩ := bl3 (KL.blk hz (.head _))
   exact bodyPost_ret (v := .tuple #[.agg #[.int .i64 0,.int .i64 0,.int .i64 0,.int .i64 0,.int .i64 0,.int .i64 0],.agg #[.int .i64 0,.int .i64 0,.int .i64 0],.int .i64 10]) (by simp [results,Try.results21,go_sem,e0,e1,e2,e3,e4,e5,i0,i1,i2]) rfl ⟨rfl,hz.1⟩
set_option maxHeartbeats 16000000 in
set_option maxRecDepth 100000 in
theorem rjn_m (x y z p q r a b c d s u k AT ON m0 m1 m2 n0 n1 n2 : Int) (c1_ : (∀ w,Calls Try.prog 35 #[.agg #[x,y,z,p,q,r]] w fun e w' => e = .returned (.int .i64 0) ∧ Below w.heap.size w w')) (c2_ : (∀ w,Calls Try.prog 35 #[.agg #[a,b,c,d,s,u]] w fun e w' => e = .returned (.int .i64 0) ∧ Below w.heap.size w w')) (hk : ∀ w,Calls Try.prog 40 #[k] w fun e w' => e = .returned (.bool true) ∧ w = w') (g1_ : (∀ w,Calls Try.prog 41 #[.agg #[p,q,r],.int .i64 k] w fun e w' => e = .returned (.int .i64 AT) ∧ Below w.heap.size w w')) (g2_ : (∀ w,Calls Try.prog 41 #[.agg #[a,b,c],.int .i64 k] w fun e w' => e = .returned (.int .i64 ON) ∧ Below w.heap.size w w'))
  (dL : decide (ON < AT) = false) (dW : IntKind.i64.wrap (ON - AT) = ON - AT) (dG : decide (1000 < ON - AT) = false) (q1 : ∀ w,Sem.run Try.prog (binOp .neq 23 (.agg #[m0,m1,m2]) (.agg #[n0,n1,n2])) w = .ok (.bool true) w) (p1_ : (∀ w,Calls Try.prog 47 #[.agg #[x,y,z],.int .i64 k,.int .i64 0] w fun e w' => e = .returned (.agg #[m0,m1,m2]) ∧ Below w.heap.size w w')) (p2_ : (∀ w,Calls Try.prog 47 #[.agg #[a,b,c],.int .i64 k,.int .i64 0] w fun e w' => e = .returned (.agg #[n0,n1,n2]) ∧ Below w.heap.size w w')) (w : World) :
  Calls Try.prog 21 #[.agg #[x,y,z,p,q,r],.agg #[a,b,c,d,s,u],.int .i64 k] w fun e w' => e = .returned (.tuple #[.agg #[.int .i64 0,.int .i64 0,.int .i64 0,.int .i64 0,.int .i64 0,.int .i64 0],.agg #[.int .i64 0,.int .i64 0,.int .i64 0],.int .i64 10]) ∧ Below w.heap.size w w' := by
 go_enter Try.func21,Try.ntmps21
 go_wp2_with (first | (revert hb1; intro hb1; go_at_call 35; refine (c2_ _).mono ?_; rintro e w2 ⟨rfl,hb2⟩; obtain ⟨hc2,hf2⟩ := bcell hb2; have hz2 := hb2.size; (try simp at hz2); (try have y20 : w.heap.size < w2.heap.size := (by omega)); (try have y20p : w.heap.size < w2.heap.size + 1 := (by omega)); (try have y21 : w.heap.size + 1 < w2.heap.size := (by omega)); (try have y21p : w.heap.size + 1 < w2.heap.size + 1 := (by omega)); (try have y22 : w.heap.size + 1 + 1 < w2.heap.size := (by omega)); (try have y22p : w.heap.size + 1 + 1 < w2.heap.size + 1 := (by omega)); (try have y23 : w.heap.size + 1 + 1 + 1 < w2.heap.size := (by omega)); (try have y23p : w.heap.size + 1 + 1 + 1 < w2.heap.size + 1 := (by omega)); (try have y24 : w.heap.size + 1 + 1 + 1 + 1 < w2.heap.size := (by omega)); (try have y24p : w.heap.size + 1 + 1 + 1 + 1 < w2.heap.size + 1 := (by omega)); (try have v0x2 : w0.heap.size < w2.heap.size := (by omega)); (try have v0x2p : w0.heap.size < w2.heap.size + 1 := (by omega)); (try have v1x2 : w1.heap.size < w2.heap.size := (by omega)); (try have v1x2p : w1.heap.size < w2.heap.size + 1 := (by omega))) | (go_at_call 35; refine (c1_ _).mono ?_; rintro e w1 ⟨rfl,hb1⟩; obtain ⟨hc1,hf1⟩ := bcell hb1; have hz1 := hb1.size; (try simp at hz1); (try have y10 : w.heap.size < w1.heap.size := (by omega)); (try have y10p : w.heap.size < w1.heap.size + 1 := (by omega)); (try have y11 : w.heap.size + 1 < w1.heap.size := (by omega)); (try have y11p : w.heap.size + 1 < w1.heap.size + 1 := (by omega)); (try have y12 : w.heap.size + 1 + 1 < w1.heap.size := (by omega)); (try have y12p : w.heap.size + 1 + 1 < w1.heap.size + 1 := (by omega)); (try have y13 : w.heap.size + 1 + 1 + 1 < w1.heap.size := (by omega)); (try have y13p : w.heap.size + 1 + 1 + 1 < w1.heap.size + 1 := (by omega)); (try have y14 : w.heap.size + 1 + 1 + 1 + 1 < w1.heap.size := (by omega)); (try have y14p : w.heap.size + 1 + 1 + 1 + 1 < w1.heap.size + 1 := (by omega)); (try have v0x1 : w0.heap.size < w1.heap.size := (by omega)); (try have v0x1p : w0.heap.size < w1.heap.size + 1 := (by omega))) | (go_at_call 40; refine (hk _).mono ?_; rintro e w' ⟨rfl,rfl⟩))
 refine wp_region_any (by kernel_rfl) ?_
 try (change wpAny _ _ _ _ _ _ _ (World.drew _))
 refine wpAny_vals (fr := fun o => #[.agg #[x,y,z,p,q,r],.agg #[a,b,c,d,s,u],.int .i64 k,.pointer (some ⟨w.heap.size,0,none⟩),.pointer (some ⟨(w.heap.size + 1),0,none⟩),undef,.pointer (some ⟨(w.heap.size + 1 + 1),0,none⟩),.pointer (some ⟨(w.heap.size + 1 + 1 + 1),0,none⟩),.int .i64 0,.int .i64 0,.int .i64 0,o 8,o 9,.agg #[x,y,z,p,q,r],.int .i64 0,.int .i64 0,.bool false,undef,undef,undef,.agg #[a,b,c,d,s,u],.int .i64 0,.int .i64 0,.bool false,undef,undef,undef,.int .i64 k,.bool true,.bool false,undef,undef,o 0,o 1,o 2,o 3,o 4,o 5,o 6,o 7,undef,undef,undef,undef,undef,undef,undef,undef,undef,undef,undef,undef,undef,undef,undef,undef,undef,undef,undef,undef,undef,undef,undef,undef,undef,undef,undef,undef,undef,undef,undef,undef,undef,undef,undef,undef,undef,undef,undef,undef,undef,undef,undef,undef]) (vals := fun i_ => ([.pointer (some ⟨w.heap.size,3,none⟩),.agg #[p,q,r],.int .i64 k,.int .i64 AT,.pointer (some ⟨(w.heap.size + 1),0,none⟩),.agg #[a,b,c],.int .i64 k,.int .i64 ON,.int .i64 AT,.int .i64 ON] : List Value).getD i_ undef) (Kf := fun _ => True) (K := fun kk_ => ([(KL [((w.heap.size + 1 + 1 + 1),27,#[.int .i64 0,.int .i64 0,.int .i64 0]),((w.heap.size + 1 + 1),25,#[.int .i64 0,.int .i64 0,.int .i64 0,.int .i64 0,.int .i64 0,.int .i64 0]),((w.heap.size + 1),25,#[a,b,c,d,s,u]),(w.heap.size,25,#[x,y,z,p,q,r])] w)] : List (World → Prop)).getD kk_ (fun _ => True)) (dep := fun i_ => [[],[0],[],[1,2],[],[4],[],[5,6],[3],[7]].getD i_ []) (dv := fun i_ => [[],[0],[],[1,2],[],[4],[],[5,6],[3],[7]].getD i_ []) (kd := fun i_ => [0,1,0,1,0,1,0,1,0,0].getD i_ 0) (ss := []) (l := [0,1,2,3,4,5,6,7,8,9]) (f0 := fun _ => undef) (A := ?A6) 10 rfl rfl (by decide +kernel) (by decide +kernel) ?_ ?_ ⟨?_,?_,?_,?_,?_,?_,?_,?_,?_,?_,trivial⟩ ?_ ?_
 rotate_left
 ·exact KL.drew (KL.over (KL.over (KL.new (g := (w.heap.size + 1 + 1 + 1)) (KL.new (g := (w.heap.size + 1 + 1)) (KL.new (g := (w.heap.size + 1)) (KL.new (g := w.heap.size) (KL.nil w) rfl _ _) (by simp) _ _) (by simp) _ _) (by simp) _ _) hb1) hb2)
 ·exact fun _ _ _ _ => trivial
 ·intro o W _
  show wpOp _ _ _ 0 _ ⟨⟨_::_::_::_::_::_::_::_::_::_::_::o 8::o 9::_::_::_::_::_::_::_::_::_::_::_::_::_::_::_::_::_::_::_::o 0::o 1::o 2::o 3::o 4::o 5::o 6::o 7::_⟩,[]⟩ W
  refine wpOp_step rfl fun _ hK => ?_
  go_simp
  exact hK _ _ ⟨rfl,rfl⟩
 ·intro o W hj
  have hj : KL _ _ W := hj
  obtain ⟨cL,c0,c1,c2,c3,c4,c5⟩ := bl6 (KL.blk hj (.tail _ (.tail _ (.tail _ (.head _)))))
  show wpOp _ _ _ 1 _ ⟨⟨_::_::_::_::_::_::_::_::_::_::_::o 8::o 9::_::_::_::_::_::_::_::_::_::_::_::_::_::_::_::_::_::_::_::.pointer (some ⟨w.heap.size,3,none⟩)::o 1::o 2::o 3::o 4::o 5::o 6::o 7::_⟩,[]⟩ W
  refine wpOp_step rfl fun _ hK => ?_
  go_simp
  exact hK _ _ ⟨rfl,hj⟩
 ·intro o W _
  show wpOp _ _ _ 2 _ ⟨⟨_::_::_::_::_::_::_::_::_::_::_::o 8::o 9::_::_::_::_::_::_::_::_::_::_::_::_::_::_::_::_::_::_::_::o 0::o 1::o 2::o 3::o 4::o 5::o 6::o 7::_⟩,[]⟩ W
  refine wpOp_step rfl fun _ hK => ?_
  go_simp
  exact hK _ _ ⟨rfl,rfl⟩
 ·intro o W hj
  have hj : KL _ _ W := hj
  show wpOp _ _ _ 3 _ ⟨⟨_::_::_::_::_::_::_::_::_::_::_::o 8::o 9::_::_::_::_::_::_::_::_::_::_::_::_::_::_::_::_::_::_::_::o 0::.agg #[p,q,r]::.int .i64 k::o 3::o 4::o 5::o 6::o 7::_⟩,[]⟩ W
  refine wpOp_step rfl fun _ hK => ?_
  go_simp
  refine (g1_ _).mono ?_
  rintro e W1 ⟨rfl,hb1⟩
  exact hK _ _ ⟨rfl,hj.over hb1⟩
 ·intro o W _
  show wpOp _ _ _ 4 _ ⟨⟨_::_::_::_::_::_::_::_::_::_::_::o 8::o 9::_::_::_::_::_::_::_::_::_::_::_::_::_::_::_::_::_::_::_::o 0::o 1::o 2::o 3::o 4::o 5::o 6::o 7::_⟩,[]⟩ W
  refine wpOp_step rfl fun _ hK => ?_
  go_simp
  exact hK _ _ ⟨rfl,rfl⟩
 ·intro o W hj
  have hj : KL _ _ W := hj
  obtain ⟨cL,c0,c1,c2,c3,c4,c5⟩ := bl6 (KL.blk hj (.tail _ (.tail _ (.head _))))
  show wpOp _ _ _ 5 _ ⟨⟨_::_::_::_::_::_::_::_::_::_::_::o 8::o 9::_::_::_::_::_::_::_::_::_::_::_::_::_::_::_::_::_::_::_::o 0::o 1::o 2::o 3::.pointer (some ⟨(w.heap.size + 1),0,none⟩)::o 5::o 6::o 7::_⟩,[]⟩ W
  refine wpOp_step rfl fun _ hK => ?_
  go_simp
  exact hK _ _ ⟨rfl,hj⟩
 ·intro o W _
  show wpOp _ _ _ 6 _ ⟨⟨_::_::_::_::_::_::_::_::_::_::_::o 8::o 9::_::_::_::_::_::_::_::_::_::_::_::_::_::_::_::_::_::_::_::o 0::o 1::o 2::o 3::o 4::o 5::o 6::o 7::_⟩,[]⟩ W
  refine wpOp_step rfl fun _ hK => ?_
  go_simp
  exact hK _ _ ⟨rfl,rfl⟩
 ·intro o W hj
  have hj : KL _ _ W := hj
  show wpOp _ _ _ 7 _ ⟨⟨_::_::_::_::_::_::_::_::_::_::_::o 8::o 9::_::_::_::_::_::_::_::_::_::_::_::_::_::_::_::_::_::_::_::o 0::o 1::o 2::o 3::o 4::.agg #[a,b,c]::.int .i64 k::o 7::_⟩,[]⟩ W
  refine wpOp_step rfl fun _ hK => ?_
  go_simp
  refine (g2_ _).mono ?_
  rintro e W1 ⟨rfl,hb1⟩
  exact hK _ _ ⟨rfl,hj.over hb1⟩
 ·intro o W _
  show wpOp _ _ _ 8 _ ⟨⟨_::_::_::_::_::_::_::_::_::_::_::o 8::o 9::_::_::_::_::_::_::_::_::_::_::_::_::_::_::_::_::_::_::_::o 0::o 1::o 2::.int .i64 AT::o 4::o 5::o 6::o 7::_⟩,[]⟩ W
  refine wpOp_step rfl fun _ hK => ?_
  go_simp
  exact hK _ _ ⟨rfl,rfl⟩
 ·intro o W _
  show wpOp _ _ _ 9 _ ⟨⟨_::_::_::_::_::_::_::_::_::_::_::o 8::o 9::_::_::_::_::_::_::_::_::_::_::_::_::_::_::_::_::_::_::_::o 0::o 1::o 2::o 3::o 4::o 5::o 6::.int .i64 ON::_⟩,[]⟩ W
  refine wpOp_step rfl fun _ hK => ?_
  go_simp
  exact hK _ _ ⟨rfl,rfl⟩
 ·intro o hh_
  have e0 : o 0 = .pointer (some ⟨w.heap.size,3,none⟩) := hh_ 0 (by decide)
  have e1 : o 1 = .agg #[p,q,r] := hh_ 1 (by decide)
  have e2 : o 2 = .int .i64 k := hh_ 2 (by decide)
  have e3 : o 3 = .int .i64 AT := hh_ 3 (by decide)
  have e4 : o 4 = .pointer (some ⟨(w.heap.size + 1),0,none⟩) := hh_ 4 (by decide)
  have e5 : o 5 = .agg #[a,b,c] := hh_ 5 (by decide)
  have e6 : o 6 = .int .i64 k := hh_ 6 (by decide)
  have e7 : o 7 = .int .i64 ON := hh_ 7 (by decide)
  have e8 : o 8 = .int .i64 AT := hh_ 8 (by decide)
  have e9 : o 9 = .int .i64 ON := hh_ 9 (by decide)
  rw [e0,e1,e2,e3,e4,e5,e6,e7,e8,e9]
 ·intro W1 h1
  have h1 : KL _ _ W1 := h1
  obtain ⟨aL0,a0_0,a0_1,a0_2⟩ := bl3 (KL.blk h1 (.head _))
  have aF0 := (KL.blk h1 (.head _)).frozen
  obtain ⟨aL1,a1_0,a1_1,a1_2,a1_3,a1_4,a1_5⟩ := bl6 (KL.blk h1 (.tail _ (.head _)))
  have aF1 := (KL.blk h1 (.tail _ (.head _))).frozen
  obtain ⟨aL2,a2_0,a2_1,a2_2,a2_3,a2_4,a2_5⟩ := bl6 (KL.blk h1 (.tail _ (.tail _ (.head _))))
  obtain ⟨aL3,a3_0,a3_1,a3_2,a3_3,a3_4,a3_5⟩ := bl6 (KL.blk h1 (.tail _ (.tail _ (.tail _ (.head _)))))
  have hjb := h1.1
  have hjz := hjb.size
  go_wp2
  refine wp_region_any (by kernel_rfl) ?_
  try (change wpAny _ _ _ _ _ _ _ (World.drew _))
  refine wpAny_vals (fr := fun o => #[.agg #[x,y,z,p,q,r],.agg #[a,b,c,d,s,u],.int .i64 k,.pointer (some ⟨w.heap.size,0,none⟩),.pointer (some ⟨(w.heap.size + 1),0,none⟩),undef,.pointer (some ⟨(w.heap.size + 1 + 1),0,none⟩),.pointer (some ⟨(w.heap.size + 1 + 1 + 1),0,none⟩),.int .i64 0,.int .i64 0,.int .i64 0,.int .i64 AT,.int .i64 ON,.agg #[x,y,z,p,q,r],.int .i64 0,.int .i64 0,.bool false,undef,undef,undef,.agg #[a,b,c,d,s,u],.int .i64 0,.int .i64 0,.bool false,undef,undef,undef,.int .i64 k,.bool true,.bool false,undef,undef,.pointer (some ⟨w.heap.size,3,none⟩),.agg #[p,q,r],.int .i64 k,.int .i64 AT,.pointer (some ⟨(w.heap.size + 1),0,none⟩),.agg #[a,b,c],.int .i64 k,.int .i64 ON,o 0,o 1,o 2,o 3,o 4,o 5,o 6,o 7,o 8,o 9,o 10,o 11,o 12,o 13,o 14,o 15,o 16,o 17,o 18,o 19,o 20,o 21,o 22,o 23,o 24,o 25,o 26,o 27,o 28,o 29,o 30,undef,undef,undef,undef,undef,undef,undef,undef,undef,undef,undef,undef,undef]) (vals := fun i_ => ([.int .i64 ON,.int .i64 AT,.bool false,.bool false,.int .i64 ON,.int .i64 AT,.int .i64 (ON - AT),.bool false,.bool false,.bool false,.pointer (some ⟨w.heap.size,0,none⟩),.agg #[x,y,z],.int .i64 k,.agg #[m0,m1,m2],.pointer (some ⟨(w.heap.size + 1),0,none⟩),.agg #[a,b,c],.int .i64 k,.agg #[n0,n1,n2],.bool true,.bool true,.bool true,undef,undef,undef,undef,undef,undef,undef,undef,undef,.bool true] : List Value).getD i_ undef) (Kf := fun _ => True) (K := fun kk_ => ([(KL [((w.heap.size + 1 + 1 + 1),27,#[.int .i64 0,.int .i64 0,.int .i64 0]),((w.heap.size + 1 + 1),25,#[.int .i64 0,.int .i64 0,.int .i64 0,.int .i64 0,.int .i64 0,.int .i64 0]),((w.heap.size + 1),25,#[a,b,c,d,s,u]),(w.heap.size,25,#[x,y,z,p,q,r])] w)] : List (World → Prop)).getD kk_ (fun _ => True)) (dep := fun i_ => [[],[],[0,1],[2],[3],[3],[3,4,5],[3,6],[3,7],[8],[9],[9,10],[9],[9,11,12],[9],[9,14],[9],[9,15,16],[9,13,17],[9,18],[19],[20],[20,21],[20],[20,22,23],[20],[20,25],[20],[20,26,27],[20,24,28],[20,29]].getD i_ []) (dv := fun i_ => [[],[],[0,1],[2],[3],[3],[3,4,5],[3,6],[3,7],[8],[9],[9,10],[9],[9,11,12],[9],[9,14],[9],[9,15,16],[9,13,17],[9,18],[19],[20],[20,21],[20],[20,22,23],[20],[20,25],[20],[20,26,27],[20,24,28],[20,29]].getD i_ []) (kd := fun i_ => [0,0,0,0,0,0,0,0,0,0,0,1,0,1,0,1,0,1,0,0,0,0,0,0,0,0,0,0,0,0,0].getD i_ 0) (ss := []) (l := [0,1,2,3,4,5,6,7,8,9,10,11,12,13,14,15,16,17,18,19,20,21,22,23,24,25,26,27,28,29,30]) (f0 := fun _ => undef) (A := ?A5) 31 rfl rfl (by decide +kernel) (by decide +kernel) ?_ ?_ ⟨?_,?_,?_,?_,?_,?_,?_,?_,?_,?_,?_,?_,?_,?_,?_,?_,?_,?_,?_,?_,?_,?_,?_,?_,?_,?_,?_,?_,?_,?_,?_,trivial⟩ ?_ ?_
  rotate_left
  ·exact KL.drew h1
  ·exact fun _ _ _ _ => trivial
  ·intro o W _
   show wpOp _ _ _ 0 _ ⟨#[_,_,_,_,_,_,_,_,_,_,_,_,_,_,_,_,_,_,_,_,_,_,_,_,_,_,_,_,_,_,_,_,_,_,_,_,_,_,_,_,o 0,o 1,o 2,o 3,o 4,o 5,o 6,o 7,o 8,o 9,o 10,o 11,o 12,o 13,o 14,o 15,o 16,o 17,o 18,o 19,o 20,o 21,o 22,o 23,o 24,o 25,o 26,o 27,o 28,o 29,o 30,_,_,_,_,_,_,_,_,_,_,_,_,_],[]⟩ W
   refine wpOp_step rfl fun _ hK => ?_
   go_simp
   exact hK _ _ ⟨rfl,rfl⟩
  ·intro o W _
   show wpOp _ _ _ 1 _ ⟨#[_,_,_,_,_,_,_,_,_,_,_,_,_,_,_,_,_,_,_,_,_,_,_,_,_,_,_,_,_,_,_,_,_,_,_,_,_,_,_,_,o 0,o 1,o 2,o 3,o 4,o 5,o 6,o 7,o 8,o 9,o 10,o 11,o 12,o 13,o 14,o 15,o 16,o 17,o 18,o 19,o 20,o 21,o 22,o 23,o 24,o 25,o 26,o 27,o 28,o 29,o 30,_,_,_,_,_,_,_,_,_,_,_,_,_],[]⟩ W
   refine wpOp_step rfl fun _ hK => ?_
   go_simp
   exact hK _ _ ⟨rfl,rfl⟩
  ·intro o W _
   show wpOp _ _ _ 2 _ ⟨#[_,_,_,_,_,_,_,_,_,_,_,_,_,_,_,_,_,_,_,_,_,_,_,_,_,_,_,_,_,_,_,_,_,_,_,_,_,_,_,_,.int .i64 ON,.int .i64 AT,o 2,o 3,o 4,o 5,o 6,o 7,o 8,o 9,o 10,o 11,o 12,o 13,o 14,o 15,o 16,o 17,o 18,o 19,o 20,o 21,o 22,o 23,o 24,o 25,o 26,o 27,o 28,o 29,o 30,_,_,_,_,_,_,_,_,_,_,_,_,_],[]⟩ W
   refine wpOp_step rfl fun _ hK => ?_
   go_simp
   exact hK _ _ ⟨rfl,rfl⟩
  ·intro o W _
   show wpOp _ _ _ 3 _ ⟨#[_,_,_,_,_,_,_,_,_,_,_,_,_,_,_,_,_,_,_,_,_,_,_,_,_,_,_,_,_,_,_,_,_,_,_,_,_,_,_,_,o 0,o 1,.bool false,o 3,o 4,o 5,o 6,o 7,o 8,o 9,o 10,o 11,o 12,o 13,o 14,o 15,o 16,o 17,o 18,o 19,o 20,o 21,o 22,o 23,o 24,o 25,o 26,o 27,o 28,o 29,o 30,_,_,_,_,_,_,_,_,_,_,_,_,_],[]⟩ W
   refine wpOp_step rfl fun _ hK => ?_
   go_simp
   exact hK _ _ ⟨rfl,rfl⟩
  ·intro o W _
   show wpOp _ _ _ 4 _ ⟨#[_,_,_,_,_,_,_,_,_,_,_,_,_,_,_,_,_,_,_,_,_,_,_,_,_,_,_,_,_,_,_,_,_,_,_,_,_,_,_,_,o 0,o 1,o 2,.bool false,o 4,o 5,o 6,o 7,o 8,o 9,o 10,o 11,o 12,o 13,o 14,o 15,o 16,o 17,o 18,o 19,o 20,o 21,o 22,o 23,o 24,o 25,o 26,o 27,o 28,o 29,o 30,_,_,_,_,_,_,_,_,_,_,_,_,_],[]⟩ W
   refine wpOp_step rfl fun _ hK => ?_
   go_simp
   exact hK _ _ ⟨rfl,rfl⟩
  ·intro o W _
   show wpOp _ _ _ 5 _ ⟨#[_,_,_,_,_,_,_,_,_,_,_,_,_,_,_,_,_,_,_,_,_,_,_,_,_,_,_,_,_,_,_,_,_,_,_,_,_,_,_,_,o 0,o 1,o 2,.bool false,o 4,o 5,o 6,o 7,o 8,o 9,o 10,o 11,o 12,o 13,o 14,o 15,o 16,o 17,o 18,o 19,o 20,o 21,o 22,o 23,o 24,o 25,o 26,o 27,o 28,o 29,o 30,_,_,_,_,_,_,_,_,_,_,_,_,_],[]⟩ W
   refine wpOp_step rfl fun _ hK => ?_
   go_simp
   exact hK _ _ ⟨rfl,rfl⟩
  ·intro o W _
   show wpOp _ _ _ 6 _ ⟨#[_,_,_,_,_,_,_,_,_,_,_,_,_,_,_,_,_,_,_,_,_,_,_,_,_,_,_,_,_,_,_,_,_,_,_,_,_,_,_,_,o 0,o 1,o 2,.bool false,.int .i64 ON,.int .i64 AT,o 6,o 7,o 8,o 9,o 10,o 11,o 12,o 13,o 14,o 15,o 16,o 17,o 18,o 19,o 20,o 21,o 22,o 23,o 24,o 25,o 26,o 27,o 28,o 29,o 30,_,_,_,_,_,_,_,_,_,_,_,_,_],[]⟩ W
   refine wpOp_step rfl fun _ hK => ?_
   go_simp
   exact hK _ _ ⟨rfl,rfl⟩
  ·intro o W _
   show wpOp _ _ _ 7 _ ⟨#[_,_,_,_,_,_,_,_,_,_,_,_,_,_,_,_,_,_,_,_,_,_,_,_,_,_,_,_,_,_,_,_,_,_,_,_,_,_,_,_,o 0,o 1,o 2,.bool false,o 4,o 5,.int .i64 (ON - AT),o 7,o 8,o 9,o 10,o 11,o 12,o 13,o 14,o 15,o 16,o 17,o 18,o 19,o 20,o 21,o 22,o 23,o 24,o 25,o 26,o 27,o 28,o 29,o 30,_,_,_,_,_,_,_,_,_,_,_,_,_],[]⟩ W
   refine wpOp_step rfl fun _ hK => ?_
   go_simp
   exact hK _ _ ⟨rfl,rfl⟩
  ·intro o W _
   show wpOp _ _ _ 8 _ ⟨#[_,_,_,_,_,_,_,_,_,_,_,_,_,_,_,_,_,_,_,_,_,_,_,_,_,_,_,_,_,_,_,_,_,_,_,_,_,_,_,_,o 0,o 1,o 2,.bool false,o 4,o 5,o 6,.bool false,o 8,o 9,o 10,o 11,o 12,o 13,o 14,o 15,o 16,o 17,o 18,o 19,o 20,o 21,o 22,o 23,o 24,o 25,o 26,o 27,o 28,o 29,o 30,_,_,_,_,_,_,_,_,_,_,_,_,_],[]⟩ W
   refine wpOp_step rfl fun _ hK => ?_
   go_simp
   exact hK _ _ ⟨rfl,rfl⟩
  ·intro o W _
   show wpOp _ _ _ 9 _ ⟨#[_,_,_,_,_,_,_,_,_,_,_,_,_,_,_,_,_,_,_,_,_,_,_,_,_,_,_,_,_,_,_,_,_,_,_,_,_,_,_,_,o 0,o 1,o 2,o 3,o 4,o 5,o 6,o 7,.bool false,o 9,o 10,o 11,o 12,o 13,o 14,o 15,o 16,o 17,o 18,o 19,o 20,o 21,o 22,o 23,o 24,o 25,o 26,o 27,o 28,o 29,o 30,_,_,_,_,_,_,_,_,_,_,_,_,_],[]⟩ W
   refine wpOp_step rfl fun _ hK => ?_
   go_simp
   exact hK _ _ ⟨rfl,rfl⟩
  ·intro o W _
   show wpOp _ _ _ 10 _ ⟨#[_,_,_,_,_,_,_,_,_,_,_,_,_,_,_,_,_,_,_,_,_,_,_,_,_,_,_,_,_,_,_,_,_,_,_,_,_,_,_,_,o 0,o 1,o 2,o 3,o 4,o 5,o 6,o 7,o 8,.bool false,o 10,o 11,o 12,o 13,o 14,o 15,o 16,o 17,o 18,o 19,o 20,o 21,o 22,o 23,o 24,o 25,o 26,o 27,o 28,o 29,o 30,_,_,_,_,_,_,_,_,_,_,_,_,_],[]⟩ W
   refine wpOp_step rfl fun _ hK => ?_
   go_simp
   exact hK _ _ ⟨rfl,rfl⟩
  ·intro o W hj
   have hj : KL _ _ W := hj
   obtain ⟨cL,c0,c1,c2,c3,c4,c5⟩ := bl6 (KL.blk hj (.tail _ (.tail _ (.tail _ (.head _)))))
   show wpOp _ _ _ 11 _ ⟨#[_,_,_,_,_,_,_,_,_,_,_,_,_,_,_,_,_,_,_,_,_,_,_,_,_,_,_,_,_,_,_,_,_,_,_,_,_,_,_,_,o 0,o 1,o 2,o 3,o 4,o 5,o 6,o 7,o 8,.bool false,.pointer (some ⟨w.heap.size,0,none⟩),o 11,o 12,o 13,o 14,o 15,o 16,o 17,o 18,o 19,o 20,o 21,o 22,o 23,o 24,o 25,o 26,o 27,o 28,o 29,o 30,_,_,_,_,_,_,_,_,_,_,_,_,_],[]⟩ W
   refine wpOp_step rfl fun _ hK => ?_
   go_simp
   exact hK _ _ ⟨rfl,hj⟩
  ·intro o W _
   show wpOp _ _ _ 12 _ ⟨#[_,_,_,_,_,_,_,_,_,_,_,_,_,_,_,_,_,_,_,_,_,_,_,_,_,_,_,_,_,_,_,_,_,_,_,_,_,_,_,_,o 0,o 1,o 2,o 3,o 4,o 5,o 6,o 7,o 8,.bool false,o 10,o 11,o 12,o 13,o 14,o 15,o 16,o 17,o 18,o 19,o 20,o 21,o 22,o 23,o 24,o 25,o 26,o 27,o 28,o 29,o 30,_,_,_,_,_,_,_,_,_,_,_,_,_],[]⟩ W
   refine wpOp_step rfl fun _ hK => ?_
   go_simp
   exact hK _ _ ⟨rfl,rfl⟩
  ·intro o W hj
   have hj : KL _ _ W := hj
   show wpOp _ _ _ 13 _ ⟨#[_,_,_,_,_,_,_,_,_,_,_,_,_,_,_,_,_,_,_,_,_,_,_,_,_,_,_,_,_,_,_,_,_,_,_,_,_,_,_,_,o 0,o 1,o 2,o 3,o 4,o 5,o 6,o 7,o 8,.bool false,o 10,.agg #[x,y,z],.int .i64 k,o 13,o 14,o 15,o 16,o 17,o 18,o 19,o 20,o 21,o 22,o 23,o 24,o 25,o 26,o 27,o 28,o 29,o 30,_,_,_,_,_,_,_,_,_,_,_,_,_],[]⟩ W
   refine wpOp_step rfl fun _ hK => ?_
   go_simp
   refine (p1_ _).mono ?_
   rintro e W1 ⟨rfl,hb1⟩
   exact hK _ _ ⟨rfl,hj.over hb1⟩
  ·intro o W _
   show wpOp _ _ _ 14 _ ⟨#[_,_,_,_,_,_,_,_,_,_,_,_,_,_,_,_,_,_,_,_,_,_,_,_,_,_,_,_,_,_,_,_,_,_,_,_,_,_,_,_,o 0,o 1,o 2,o 3,o 4,o 5,o 6,o 7,o 8,.bool false,o 10,o 11,o 12,o 13,o 14,o 15,o 16,o 17,o 18,o 19,o 20,o 21,o 22,o 23,o 24,o 25,o 26,o 27,o 28,o 29,o 30,_,_,_,_,_,_,_,_,_,_,_,_,_],[]⟩ W
   refine wpOp_step rfl fun _ hK => ?_
   go_simp
   exact hK _ _ ⟨rfl,rfl⟩
  ·intro o W hj
   have hj : KL _ _ W := hj
   obtain ⟨cL,c0,c1,c2,c3,c4,c5⟩ := bl6 (KL.blk hj (.tail _ (.tail _ (.head _))))
   show wpOp _ _ _ 15 _ ⟨#[_,_,_,_,_,_,_,_,_,_,_,_,_,_,_,_,_,_,_,_,_,_,_,_,_,_,_,_,_,_,_,_,_,_,_,_,_,_,_,_,o 0,o 1,o 2,o 3,o 4,o 5,o 6,o 7,o 8,.bool false,o 10,o 11,o 12,o 13,.pointer (some ⟨(w.heap.size + 1),0,none⟩),o 15,o 16,o 17,o 18,o 19,o 20,o 21,o 22,o 23,o 24,o 25,o 26,o 27,o 28,o 29,o 30,_,_,_,_,_,_,_,_,_,_,_,_,_],[]⟩ W
   refine wpOp_step rfl fun _ hK => ?_
   go_simp
   exact hK _ _ ⟨rfl,hj⟩
  ·intro o W _
   show wpOp _ _ _ 16 _ ⟨#[_,_,_,_,_,_,_,_,_,_,_,_,_,_,_,_,_,_,_,_,_,_,_,_,_,_,_,_,_,_,_,_,_,_,_,_,_,_,_,_,o 0,o 1,o 2,o 3,o 4,o 5,o 6,o 7,o 8,.bool false,o 10,o 11,o 12,o 13,o 14,o 15,o 16,o 17,o 18,o 19,o 20,o 21,o 22,o 23,o 24,o 25,o 26,o 27,o 28,o 29,o 30,_,_,_,_,_,_,_,_,_,_,_,_,_],[]⟩ W
   refine wpOp_step rfl fun _ hK => ?_
   go_simp
   exact hK _ _ ⟨rfl,rfl⟩
  ·intro o W hj
   have hj : KL _ _ W := hj
   show wpOp _ _ _ 17 _ ⟨#[_,_,_,_,_,_,_,_,_,_,_,_,_,_,_,_,_,_,_,_,_,_,_,_,_,_,_,_,_,_,_,_,_,_,_,_,_,_,_,_,o 0,o 1,o 2,o 3,o 4,o 5,o 6,o 7,o 8,.bool false,o 10,o 11,o 12,o 13,o 14,.agg #[a,b,c],.int .i64 k,o 17,o 18,o 19,o 20,o 21,o 22,o 23,o 24,o 25,o 26,o 27,o 28,o 29,o 30,_,_,_,_,_,_,_,_,_,_,_,_,_],[]⟩ W
   refine wpOp_step rfl fun _ hK => ?_
   go_simp
   refine (p2_ _).mono ?_
   rintro e W1 ⟨rfl,hb1⟩
   exact hK _ _ ⟨rfl,hj.over hb1⟩
  ·intro o W _
   show wpOp _ _ _ 18 _ ⟨#[_,_,_,_,_,_,_,_,_,_,_,_,_,_,_,_,_,_,_,_,_,_,_,_,_,_,_,_,_,_,_,_,_,_,_,_,_,_,_,_,o 0,o 1,o 2,o 3,o 4,o 5,o 6,o 7,o 8,.bool false,o 10,o 11,o 12,.agg #[m0,m1,m2],o 14,o 15,o 16,.agg #[n0,n1,n2],o 18,o 19,o 20,o 21,o 22,o 23,o 24,o 25,o 26,o 27,o 28,o 29,o 30,_,_,_,_,_,_,_,_,_,_,_,_,_],[]⟩ W
   refine wpOp_step rfl fun _ hK => ?_
   go_simp
   exact hK _ _ ⟨rfl,rfl⟩
  ·intro o W _
   show wpOp _ _ _ 19 _ ⟨#[_,_,_,_,_,_,_,_,_,_,_,_,_,_,_,_,_,_,_,_,_,_,_,_,_,_,_,_,_,_,_,_,_,_,_,_,_,_,_,_,o 0,o 1,o 2,o 3,o 4,o 5,o 6,o 7,o 8,.bool false,o 10,o 11,o 12,o 13,o 14,o 15,o 16,o 17,.bool true,o 19,o 20,o 21,o 22,o 23,o 24,o 25,o 26,o 27,o 28,o 29,o 30,_,_,_,_,_,_,_,_,_,_,_,_,_],[]⟩ W
   refine wpOp_step rfl fun _ hK => ?_
   go_simp
   exact hK _ _ ⟨rfl,rfl⟩
  ·intro o W _
   show wpOp _ _ _ 20 _ ⟨#[_,_,_,_,_,_,_,_,_,_,_,_,_,_,_,_,_,_,_,_,_,_,_,_,_,_,_,_,_,_,_,_,_,_,_,_,_,_,_,_,o 0,o 1,o 2,o 3,o 4,o 5,o 6,o 7,o 8,o 9,o 10,o 11,o 12,o 13,o 14,o 15,o 16,o 17,o 18,.bool true,o 20,o 21,o 22,o 23,o 24,o 25,o 26,o 27,o 28,o 29,o 30,_,_,_,_,_,_,_,_,_,_,_,_,_],[]⟩ W
   refine wpOp_step rfl fun _ hK => ?_
   go_simp
   exact hK _ _ ⟨rfl,rfl⟩
  ·intro o W _
   show wpOp _ _ _ 21 _ ⟨#[_,_,_,_,_,_,_,_,_,_,_,_,_,_,_,_,_,_,_,_,_,_,_,_,_,_,_,_,_,_,_,_,_,_,_,_,_,_,_,_,o 0,o 1,o 2,o 3,o 4,o 5,o 6,o 7,o 8,o 9,o 10,o 11,o 12,o 13,o 14,o 15,o 16,o 17,o 18,o 19,.bool true,o 21,o 22,o 23,o 24,o 25,o 26,o 27,o 28,o 29,o 30,_,_,_,_,_,_,_,_,_,_,_,_,_],[]⟩ W
   refine wpOp_step rfl fun _ hK => ?_
   go_simp
   exact hK _ _ ⟨rfl,rfl⟩
  ·intro o W _
   show wpOp _ _ _ 22 _ ⟨#[_,_,_,_,_,_,_,_,_,_,_,_,_,_,_,_,_,_,_,_,_,_,_,_,_,_,_,_,_,_,_,_,_,_,_,_,_,_,_,_,o 0,o 1,o 2,o 3,o 4,o 5,o 6,o 7,o 8,o 9,o 10,o 11,o 12,o 13,o 14,o 15,o 16,o 17,o 18,o 19,.bool true,undef,o 22,o 23,o 24,o 25,o 26,o 27,o 28,o 29,o 30,_,_,_,_,_,_,_,_,_,_,_,_,_],[]⟩ W
   refine wpOp_step rfl fun _ hK => ?_
   go_simp
   exact hK _ _ ⟨rfl,rfl⟩
  ·intro o W _
   show wpOp _ _ _ 23 _ ⟨#[_,_,_,_,_,_,_,_,_,_,_,_,_,_,_,_,_,_,_,_,_,_,_,_,_,_,_,_,_,_,_,_,_,_,_,_,_,_,_,_,o 0,o 1,o 2,o 3,o 4,o 5,o 6,o 7,o 8,o 9,o 10,o 11,o 12,o 13,o 14,o 15,o 16,o 17,o 18,o 19,.bool true,o 21,o 22,o 23,o 24,o 25,o 26,o 27,o 28,o 29,o 30,_,_,_,_,_,_,_,_,_,_,_,_,_],[]⟩ W
   refine wpOp_step rfl fun _ hK => ?_
   go_simp
   exact hK _ _ ⟨rfl,rfl⟩
  ·intro o W _
   show wpOp _ _ _ 24 _ ⟨#[_,_,_,_,_,_,_,_,_,_,_,_,_,_,_,_,_,_,_,_,_,_,_,_,_,_,_,_,_,_,_,_,_,_,_,_,_,_,_,_,o 0,o 1,o 2,o 3,o 4,o 5,o 6,o 7,o 8,o 9,o 10,o 11,o 12,o 13,o 14,o 15,o 16,o 17,o 18,o 19,.bool true,o 21,undef,undef,o 24,o 25,o 26,o 27,o 28,o 29,o 30,_,_,_,_,_,_,_,_,_,_,_,_,_],[]⟩ W
   refine wpOp_step rfl fun _ hK => ?_
   go_simp
   exact hK _ _ ⟨rfl,rfl⟩
  ·intro o W _
   show wpOp _ _ _ 25 _ ⟨#[_,_,_,_,_,_,_,_,_,_,_,_,_,_,_,_,_,_,_,_,_,_,_,_,_,_,_,_,_,_,_,_,_,_,_,_,_,_,_,_,o 0,o 1,o 2,o 3,o 4,o 5,o 6,o 7,o 8,o 9,o 10,o 11,o 12,o 13,o 14,o 15,o 16,o 17,o 18,o 19,.bool true,o 21,o 22,o 23,o 24,o 25,o 26,o 27,o 28,o 29,o 30,_,_,_,_,_,_,_,_,_,_,_,_,_],[]⟩ W
   refine wpOp_step rfl fun _ hK => ?_
   go_simp
   exact hK _ _ ⟨rfl,rfl⟩
  ·intro o W _
   show wpOp _ _ _ 26 _ ⟨#[_,_,_,_,_,_,_,_,_,_,_,_,_,_,_,_,_,_,_,_,_,_,_,_,_,_,_,_,_,_,_,_,_,_,_,_,_,_,_,_,o 0,o 1,o 2,o 3,o 4,o 5,o 6,o 7,o 8,o 9,o 10,o 11,o 12,o 13,o 14,o 15,o 16,o 17,o 18,o 19,.bool true,o 21,o 22,o 23,o 24,undef,o 26,o 27,o 28,o 29,o 30,_,_,_,_,_,_,_,_,_,_,_,_,_],[]⟩ W
   refine wpOp_step rfl fun _ hK => ?_
   go_simp
   exact hK _ _ ⟨rfl,rfl⟩
  ·intro o W _
   show wpOp _ _ _ 27 _ ⟨#[_,_,_,_,_,_,_,_,_,_,_,_,_,_,_,_,_,_,_,_,_,_,_,_,_,_,_,_,_,_,_,_,_,_,_,_,_,_,_,_,o 0,o 1,o 2,o 3,o 4,o 5,o 6,o 7,o 8,o 9,o 10,o 11,o 12,o 13,o 14,o 15,o 16,o 17,o 18,o 19,.bool true,o 21,o 22,o 23,o 24,o 25,o 26,o 27,o 28,o 29,o 30,_,_,_,_,_,_,_,_,_,_,_,_,_],[]⟩ W
   refine wpOp_step rfl fun _ hK => ?_
   go_simp
   exact hK _ _ ⟨rfl,rfl⟩
  ·intro o W _
   show wpOp _ _ _ 28 _ ⟨#[_,_,_,_,_,_,_,_,_,_,_,_,_,_,_,_,_,_,_,_,_,_,_,_,_,_,_,_,_,_,_,_,_,_,_,_,_,_,_,_,o 0,o 1,o 2,o 3,o 4,o 5,o 6,o 7,o 8,o 9,o 10,o 11,o 12,o 13,o 14,o 15,o 16,o 17,o 18,o 19,.bool true,o 21,o 22,o 23,o 24,o 25,undef,undef,o 28,o 29,o 30,_,_,_,_,_,_,_,_,_,_,_,_,_],[]⟩ W
   refine wpOp_step rfl fun _ hK => ?_
   go_simp
   exact hK _ _ ⟨rfl,rfl⟩
  ·intro o W _
   show wpOp _ _ _ 29 _ ⟨#[_,_,_,_,_,_,_,_,_,_,_,_,_,_,_,_,_,_,_,_,_,_,_,_,_,_,_,_,_,_,_,_,_,_,_,_,_,_,_,_,o 0,o 1,o 2,o 3,o 4,o 5,o 6,o 7,o 8,o 9,o 10,o 11,o 12,o 13,o 14,o 15,o 16,o 17,o 18,o 19,.bool true,o 21,o 22,o 23,undef,o 25,o 26,o 27,undef,o 29,o 30,_,_,_,_,_,_,_,_,_,_,_,_,_],[]⟩ W
   refine wpOp_step rfl fun _ hK => ?_
   go_simp
   exact hK _ _ ⟨rfl,rfl⟩
  ·intro o W _
   show wpOp _ _ _ 30 _ ⟨#[_,_,_,_,_,_,_,_,_,_,_,_,_,_,_,_,_,_,_,_,_,_,_,_,_,_,_,_,_,_,_,_,_,_,_,_,_,_,_,_,o 0,o 1,o 2,o 3,o 4,o 5,o 6,o 7,o 8,o 9,o 10,o 11,o 12,o 13,o 14,o 15,o 16,o 17,o 18,o 19,.bool true,o 21,o 22,o 23,o 24,o 25,o 26,o 27,o 28,undef,o 30,_,_,_,_,_,_,_,_,_,_,_,_,_],[]⟩ W
   refine wpOp_step rfl fun _ hK => ?_
   go_simp
   exact hK _ _ ⟨rfl,rfl⟩
  ·intro o hh_
   have e0 : o 0 = .int .i64 ON := hh_ 0 (by decide)
   have e1 : o 1 = .int .i64 AT := hh_ 1 (by decide)
   have e2 : o 2 = .bool false := hh_ 2 (by decide)
   have e3 : o 3 = .bool false := hh_ 3 (by decide)
   have e4 : o 4 = .int .i64 ON := hh_ 4 (by decide)
   have e5 : o 5 = .int .i64 AT := hh_ 5 (by decide)
   have e6 : o 6 = .int .i64 (ON - AT) := hh_ 6 (by decide)
   have e7 : o 7 = .bool false := hh_ 7 (by decide)
   have e8 : o 8 = .bool false := hh_ 8 (by decide)
   have e9 : o 9 = .bool false := hh_ 9 (by decide)
   have e10 : o 10 = .pointer (some ⟨w.heap.size,0,none⟩) := hh_ 10 (by decide)
   have e11 : o 11 = .agg #[x,y,z] := hh_ 11 (by decide)
   have e12 : o 12 = .int .i64 k := hh_ 12 (by decide)
   have e13 : o 13 = .agg #[m0,m1,m2] := hh_ 13 (by decide)
   have e14 : o 14 = .pointer (some ⟨(w.heap.size + 1),0,none⟩) := hh_ 14 (by decide)
   have e15 : o 15 = .agg #[a,b,c] := hh_ 15 (by decide)
   have e16 : o 16 = .int .i64 k := hh_ 16 (by decide)
   have e17 : o 17 = .agg #[n0,n1,n2] := hh_ 17 (by decide)
   have e18 : o 18 = .bool true := hh_ 18 (by decide)
   have e19 : o 19 = .bool true := hh_ 19 (by decide)
   have e20 : o 20 = .bool true := hh_ 20 (by decide)
   have e21 : o 21 = undef := hh_ 21 (by decide)
   have e22 : o 22 = undef := hh_ 22 (by decide)
   have e23 : o 23 = undef := hh_ 23 (by decide)
   have e24 : o 24 = undef := hh_ 24 (by decide)
   have e25 : o 25 = undef := hh_ 25 (by decide)
   have e26 : o 26 = undef := hh_ 26 (by decide)
   have e27 : o 27 = undef := hh_ 27 (by decide)
   have e28 : o 28 = undef := hh_ 28 (by decide)
   have e29 : o 29 = undef := hh_ 29 (by decide)
   have e30 : o 30 = .bool true := hh_ 30 (by decide)
   rw [e0,e1,e2,e3,e4,e5,e6,e7,e8,e9,e10,e11,e12,e13,e14,e15,e16,e17,e18,e19,e20,e21,e22,e23,e24,e25,e26,e27,e28,e29,e30]
  ·intro W2 h2
   have h2 : KL _ _ W2 := h2
   obtain ⟨bL0,b0_0,b0_1,b0_2⟩ := bl3 (KL.blk h2 (.head _))
   have bF0 := (KL.blk h2 (.head _)).frozen
   obtain ⟨bL1,b1_0,b1_1,b1_2,b1_3,b1_4,b1_5⟩ := bl6 (KL.blk h2 (.tail _ (.head _)))
   have bF1 := (KL.blk h2 (.tail _ (.head _))).frozen
   obtain ⟨bL2,b2_0,b2_1,b2_2,b2_3,b2_4,b2_5⟩ := bl6 (KL.blk h2 (.tail _ (.tail _ (.head _))))
   obtain ⟨bL3,b3_0,b3_1,b3_2,b3_3,b3_4,b3_5⟩ := bl6 (KL.blk h2 (.tail _ (.tail _ (.tail _ (.head _)))))
   have hjb := h2.1
   have hjz := hjb.size
   go_wp2
   have hz : KL [((w.heap.size + 1 + 1 + 1),27,#[.int .i64 0,.int .i64 0,.int .i64 0]),((w.heap.size + 1 + 1),25,#[.int .i64 0,.int .i64 0,.int .i64 0,.int .i64 0,.int .i64 0,.int .i64 0]),((w.heap.size + 1),25,#[a,b,c,d,s,u]),(w.heap.size,25,#[x,y,z,p,q,r])] w _ := (KL.up3 0 (KL.up6 1 h2 rfl (by omega) (by simp <;> omega)) rfl (by omega) (by simp <;> omega))
   obtain ⟨eL,e0,e1,e2,e3,e4,e5⟩ := bl6 (KL.blk hz (.tail _ (.head _)))
   obtain ⟨iL,i0,i1,i2⟩ := bl3 (KL.blk hz (.head _))
   exact bodyPost_ret (v := .tuple #[.agg #[.int .i64 0,.int .i64 0,.int .i64 0,.int .i64 0,.int .i64 0,.int .i64 0],.agg #[.int .i64 0,.int .i64 0,.int .i64 0],.int .i64 10]) (by simp [results,Try.results21,go_sem,e0,e1,e2,e3,e4,e5,i0,i1,i2]) rfl ⟨rfl,hz.1⟩
set_option maxHeartbeats 16000000 in
set_option maxRecDepth 100000 in
theorem rjn_M (x y z p q r a b c d s u k AT ON m0 m1 m2 n0 n1 n2 k0 k1 k2 l0 l1 l2 : Int) (c1_ : (∀ w,Calls Try.prog 35 #[.agg #[x,y,z,p,q,r]] w fun e w' => e = .returned (.int .i64 0) ∧ Below w.heap.size w w')) (c2_ : (∀ w,Calls Try.prog 35 #[.agg #[a,b,c,d,s,u]] w fun e w' => e = .returned (.int .i64 0) ∧ Below w.heap.size w w')) (hk : ∀ w,Calls Try.prog 40 #[k] w fun e w' => e = .returned (.bool true) ∧ w = w') (g1_ : (∀ w,Calls Try.prog 41 #[.agg #[p,q,r],.int .i64 k] w fun e w' => e = .returned (.int .i64 AT) ∧ Below w.heap.size w w')) (g2_ : (∀ w,Calls Try.prog 41 #[.agg #[a,b,c],.int .i64 k] w fun e w' => e = .returned (.int .i64 ON) ∧ Below w.heap.size w w'))
  (dL : decide (ON < AT) = false) (dW : IntKind.i64.wrap (ON - AT) = ON - AT) (dG : decide (1000 < ON - AT) = false) (q1 : ∀ w,Sem.run Try.prog (binOp .neq 23 (.agg #[m0,m1,m2]) (.agg #[n0,n1,n2])) w = .ok (.bool false) w) (p1_ : (∀ w,Calls Try.prog 47 #[.agg #[x,y,z],.int .i64 k,.int .i64 0] w fun e w' => e = .returned (.agg #[m0,m1,m2]) ∧ Below w.heap.size w w')) (p2_ : (∀ w,Calls Try.prog 47 #[.agg #[a,b,c],.int .i64 k,.int .i64 0] w fun e w' => e = .returned (.agg #[n0,n1,n2]) ∧ Below w.heap.size w w')) (q2 : ∀ w,Sem.run Try.prog (binOp .neq 23 (.agg #[k0,k1,k2]) (.agg #[l0,l1,l2])) w = .ok (.bool true) w) (p3_ : (∀ w,Calls Try.prog 47 #[.agg #[p,q,r],.int .i64 k,.int .i64 0] w fun e w' => e = .returned (.agg #[k0,k1,k2]) ∧ Below w.heap.size w w')) (p4_ : (∀ w,Calls Try.prog 47 #[.agg #[d,s,u],.int .i64 k,.int .i64 0] w fun e w' => e = .returned (.agg #[l0,l1,l2]) ∧ Below w.heap.size w w')) (w : World) :
  Calls Try.prog 21 #[.agg #[x,y,z,p,q,r],.agg #[a,b,c,d,s,u],.int .i64 k] w fun e w' => e = .returned (.tuple #[.agg #[.int .i64 0,.int .i64 0,.int .i64 0,.int .i64 0,.int .i64 0,.int .i64 0],.agg #[.int .i64 0,.int .i64 0,.int .i64 0],.int .i64 10]) ∧ Below w.heap.size w w' := by
 go_enter Try.func21,Try.ntmps21
 go_wp2_with (first | (revert hb1; intro hb1; go_at_call 35; refine (c2_ _).mono ?_; rintro e w2 ⟨rfl,hb2⟩; obtain ⟨hc2,hf2⟩ := bcell hb2; have hz2 := hb2.size; (try simp at hz2); (try have y20 : w.heap.size < w2.heap.size := (by omega)); (try have y20p : w.heap.size < w2.heap.size + 1 := (by omega)); (try have y21 : w.heap.size + 1 < w2.heap.size := (by omega)); (try have y21p : w.heap.size + 1 < w2.heap.size + 1 := (by omega)); (try have y22 : w.heap.size + 1 + 1 < w2.heap.size := (by omega)); (try have y22p : w.heap.size + 1 + 1 < w2.heap.size + 1 := (by omega)); (try have y23 : w.heap.size + 1 + 1 + 1 < w2.heap.size := (by omega)); (try have y23p : w.heap.size + 1 + 1 + 1 < w2.heap.size + 1 := (by omega)); (try have y24 : w.heap.size + 1 + 1 + 1 + 1 < w2.heap.size := (by omega)); (try have y24p : w.heap.size + 1 + 1 + 1 + 1 < w2.heap.size + 1 := (by omega)); (try have v0x2 : w0.heap.size < w2.heap.size := (by omega)); (try have v0x2p : w0.heap.size < w2.heap.size + 1 := (by omega)); (try have v1x2 : w1.heap.size < w2.heap.size := (by omega)); (try have v1x2p : w1.heap.size < w2.heap.size + 1 := (by omega))) | (go_at_call 35; refine (c1_ _).mono ?_; rintro e w1 ⟨rfl,hb1⟩; obtain ⟨hc1,hf1⟩ := bcell hb1; have hz1 := hb1.size; (try simp at hz1); (try have y10 : w.heap.size < w1.heap.size := (by omega)); (try have y10p : w.heap.size < w1.heap.size + 1 := (by omega)); (try have y11 : w.heap.size + 1 < w1.heap.size := (by omega)); (try have y11p : w.heap.size + 1 < w1.heap.size + 1 := (by omega)); (try have y12 : w.heap.size + 1 + 1 < w1.heap.size := (by omega)); (try have y12p : w.heap.size + 1 + 1 < w1.heap.size + 1 := (by omega)); (try have y13 : w.heap.size + 1 + 1 + 1 < w1.heap.size := (by omega)); (try have y13p : w.heap.size + 1 + 1 + 1 < w1.heap.size + 1 := (by omega)); (try have y14 : w.heap.size + 1 + 1 + 1 + 1 < w1.heap.size := (by omega)); (try have y14p : w.heap.size + 1 + 1 + 1 + 1 < w1.heap.size + 1 := (by omega)); (try have v0x1 : w0.heap.size < w1.heap.size := (by omega)); (try have v0x1p : w0.heap.size < w1.heap.size + 1 := (by omega))) | (go_at_call 40; refine (hk _).mono ?_; rintro e w' ⟨rfl,rfl⟩))
 refine wp_region_any (by kernel_rfl) ?_
 try (change wpAny _ _ _ _ _ _ _ (World.drew _))
 refine wpAny_vals (fr := fun o => #[.agg #[x,y,z,p,q,r],.agg #[a,b,c,d,s,u],.int .i64 k,.pointer (some ⟨w.heap.size,0,none⟩),.pointer (some ⟨(w.heap.size + 1),0,none⟩),undef,.pointer (some ⟨(w.heap.size + 1 + 1),0,none⟩),.pointer (some ⟨(w.heap.size + 1 + 1 + 1),0,none⟩),.int .i64 0,.int .i64 0,.int .i64 0,o 8,o 9,.agg #[x,y,z,p,q,r],.int .i64 0,.int .i64 0,.bool false,undef,undef,undef,.agg #[a,b,c,d,s,u],.int .i64 0,.int .i64 0,.bool false,undef,undef,undef,.int .i64 k,.bool true,.bool false,undef,undef,o 0,o 1,o 2,o 3,o 4,o 5,o 6,o 7,undef,undef,undef,undef,undef,undef,undef,undef,undef,undef,undef,undef,undef,undef,undef,undef,undef,undef,undef,undef,undef,undef,undef,undef,undef,undef,undef,undef,undef,undef,undef,undef,undef,undef,undef,undef,undef,undef,undef,undef,undef,undef,undef,undef]) (vals := fun i_ => ([.pointer (some ⟨w.heap.size,3,none⟩),.agg #[p,q,r],.int .i64 k,.int .i64 AT,.pointer (some ⟨(w.heap.size + 1),0,none⟩),.agg #[a,b,c],.int .i64 k,.int .i64 ON,.int .i64 AT,.int .i64 ON] : List Value).getD i_ undef) (Kf := fun _ => True) (K := fun kk_ => ([(KL [((w.heap.size + 1 + 1 + 1),27,#[.int .i64 0,.int .i64 0,.int .i64 0]),((w.heap.size + 1 + 1),25,#[.int .i64 0,.int .i64 0,.int .i64 0,.int .i64 0,.int .i64 0,.int .i64 0]),((w.heap.size + 1),25,#[a,b,c,d,s,u]),(w.heap.size,25,#[x,y,z,p,q,r])] w)] : List (World → Prop)).getD kk_ (fun _ => True)) (dep := fun i_ => [[],[0],[],[1,2],[],[4],[],[5,6],[3],[7]].getD i_ []) (dv := fun i_ => [[],[0],[],[1,2],[],[4],[],[5,6],[3],[7]].getD i_ []) (kd := fun i_ => [0,1,0,1,0,1,0,1,0,0].getD i_ 0) (ss := []) (l := [0,1,2,3,4,5,6,7,8,9]) (f0 := fun _ => undef) (A := ?A8) 10 rfl rfl (by decide +kernel) (by decide +kernel) ?_ ?_ ⟨?_,?_,?_,?_,?_,?_,?_,?_,?_,?_,trivial⟩ ?_ ?_
 rotate_left
 ·exact KL.drew (KL.over (KL.over (KL.new (g := (w.heap.size + 1 + 1 + 1)) (KL.new (g := (w.heap.size + 1 + 1)) (KL.new (g := (w.heap.size + 1)) (KL.new (g := w.heap.size) (KL.nil w) rfl _ _) (by simp) _ _) (by simp) _ _) (by simp) _ _) hb1) hb2)
 ·exact fun _ _ _ _ => trivial
 ·intro o W _
  show wpOp _ _ _ 0 _ ⟨⟨_::_::_::_::_::_::_::_::_::_::_::o 8::o 9::_::_::_::_::_::_::_::_::_::_::_::_::_::_::_::_::_::_::_::o 0::o 1::o 2::o 3::o 4::o 5::o 6::o 7::_⟩,[]⟩ W
  refine wpOp_step rfl fun _ hK => ?_
  go_simp
  exact hK _ _ ⟨rfl,rfl⟩
 ·intro o W hj
  have hj : KL _ _ W := hj
  obtain ⟨cL,c0,c1,c2,c3,c4,c5⟩ := bl6 (KL.blk hj (.tail _ (.tail _ (.tail _ (.head _)))))
  show wpOp _ _ _ 1 _ ⟨⟨_::_::_::_::_::_::_::_::_::_::_::o 8::o 9::_::_::_::_::_::_::_::_::_::_::_::_::_::_::_::_::_::_::_::.pointer (some ⟨w.heap.size,3,none⟩)::o 1::o 2::o 3::o 4::o 5::o 6::o 7::_⟩,[]⟩ W
  refine wpOp_step rfl fun _ hK => ?_
  go_simp
  exact hK _ _ ⟨rfl,hj⟩
 ·intro o W _
  show wpOp _ _ _ 2 _ ⟨⟨_::_::_::_::_::_::_::_::_::_::_::o 8::o 9::_::_::_::_::_::_::_::_::_::_::_::_::_::_::_::_::_::_::_::o 0::o 1::o 2::o 3::o 4::o 5::o 6::o 7::_⟩,[]⟩ W
  refine wpOp_step rfl fun _ hK => ?_
  go_simp
  exact hK _ _ ⟨rfl,rfl⟩
 ·intro o W hj
  have hj : KL _ _ W := hj
  show wpOp _ _ _ 3 _ ⟨⟨_::_::_::_::_::_::_::_::_::_::_::o 8::o 9::_::_::_::_::_::_::_::_::_::_::_::_::_::_::_::_::_::_::_::o 0::.agg #[p,q,r]::.int .i64 k::o 3::o 4::o 5::o 6::o 7::_⟩,[]⟩ W
  refine wpOp_step rfl fun _ hK => ?_
  go_simp
  refine (g1_ _).mono ?_
  rintro e W1 ⟨rfl,hb1⟩
  exact hK _ _ ⟨rfl,hj.over hb1⟩
 ·intro o W _
  show wpOp _ _ _ 4 _ ⟨⟨_::_::_::_::_::_::_::_::_::_::_::o 8::o 9::_::_::_::_::_::_::_::_::_::_::_::_::_::_::_::_::_::_::_::o 0::o 1::o 2::o 3::o 4::o 5::o 6::o 7::_⟩,[]⟩ W
  refine wpOp_step rfl fun _ hK => ?_
  go_simp
  exact hK _ _ ⟨rfl,rfl⟩
 ·intro o W hj
  have hj : KL _ _ W := hj
  obtain ⟨cL,c0,c1,c2,c3,c4,c5⟩ := bl6 (KL.blk hj (.tail _ (.tail _ (.head _))))
  show wpOp _ _ _ 5 _ ⟨⟨_::_::_::_::_::_::_::_::_::_::_::o 8::o 9::_::_::_::_::_::_::_::_::_::_::_::_::_::_::_::_::_::_::_::o 0::o 1::o 2::o 3::.pointer (some ⟨(w.heap.size + 1),0,none⟩)::o 5::o 6::o 7::_⟩,[]⟩ W
  refine wpOp_step rfl fun _ hK => ?_
  go_simp
  exact hK _ _ ⟨rfl,hj⟩
 ·intro o W _
  show wpOp _ _ _ 6 _ ⟨⟨_::_::_::_::_::_::_::_::_::_::_::o 8::o 9::_::_::_::_::_::_::_::_::_::_::_::_::_::_::_::_::_::_::_::o 0::o 1::o 2::o 3::o 4::o 5::o 6::o 7::_⟩,[]⟩ W
  refine wpOp_step rfl fun _ hK => ?_
  go_simp
  exact hK _ _ ⟨rfl,rfl⟩
 ·intro o W hj
  have hj : KL _ _ W := hj
  show wpOp _ _ _ 7 _ ⟨⟨_::_::_::_::_::_::_::_::_::_::_::o 8::o 9::_::_::_::_::_::_::_::_::_::_::_::_::_::_::_::_::_::_::_::o 0::o 1::o 2::o 3::o 4::.agg #[a,b,c]::.int .i64 k::o 7::_⟩,[]⟩ W
  refine wpOp_step rfl fun _ hK => ?_
  go_simp
  refine (g2_ _).mono ?_
  rintro e W1 ⟨rfl,hb1⟩
  exact hK _ _ ⟨rfl,hj.over hb1⟩
 ·intro o W _
  show wpOp _ _ _ 8 _ ⟨⟨_::_::_::_::_::_::_::_::_::_::_::o 8::o 9::_::_::_::_::_::_::_::_::_::_::_::_::_::_::_::_::_::_::_::o 0::o 1::o 2::.int .i64 AT::o 4::o 5::o 6::o 7::_⟩,[]⟩ W
  refine wpOp_step rfl fun _ hK => ?_
  go_simp
  exact hK _ _ ⟨rfl,rfl⟩
 ·intro o W _
  show wpOp _ _ _ 9 _ ⟨⟨_::_::_::_::_::_::_::_::_::_::_::o 8::o 9::_::_::_::_::_::_::_::_::_::_::_::_::_::_::_::_::_::_::_::o 0::o 1::o 2::o 3::o 4::o 5::o 6::.int .i64 ON::_⟩,[]⟩ W
  refine wpOp_step rfl fun _ hK => ?_
  go_simp
  exact hK _ _ ⟨rfl,rfl⟩
 ·intro o hh_
  have e0 : o 0 = .pointer (some ⟨w.heap.size,3,none⟩) := hh_ 0 (by decide)
  have e1 : o 1 = .agg #[p,q,r] := hh_ 1 (by decide)
  have e2 : o 2 = .int .i64 k := hh_ 2 (by decide)
  have e3 : o 3 = .int .i64 AT := hh_ 3 (by decide)
  have e4 : o 4 = .pointer (some ⟨(w.heap.size + 1),0,none⟩) := hh_ 4 (by decide)
  have e5 : o 5 = .agg #[a,b,c] := hh_ 5 (by decide)
  have e6 : o 6 = .int .i64 k := hh_ 6 (by decide)
  have e7 : o 7 = .int .i64 ON := hh_ 7 (by decide)
  have e8 : o 8 = .int .i64 AT := hh_ 8 (by decide)
  have e9 : o 9 = .int .i64 ON := hh_ 9 (by decide)
  rw [e0,e1,e2,e3,e4,e5,e6,e7,e8,e9]
 ·intro W1 h1
  have h1 : KL _ _ W1 := h1
  obtain ⟨aL0,a0_0,a0_1,a0_2⟩ := bl3 (KL.blk h1 (.head _))
  have aF0 := (KL.blk h1 (.head _)).frozen
  obtain ⟨aL1,a1_0,a1_1,a1_2,a1_3,a1_4,a1_5⟩ := bl6 (KL.blk h1 (.tail _ (.head _)))
  have aF1 := (KL.blk h1 (.tail _ (.head _))).frozen
  obtain ⟨aL2,a2_0,a2_1,a2_2,a2_3,a2_4,a2_5⟩ := bl6 (KL.blk h1 (.tail _ (.tail _ (.head _))))
  obtain ⟨aL3,a3_0,a3_1,a3_2,a3_3,a3_4,a3_5⟩ := bl6 (KL.blk h1 (.tail _ (.tail _ (.tail _ (.head _)))))
  have hjb := h1.1
  have hjz := hjb.size
  go_wp2
  refine wp_region_any (by kernel_rfl) ?_
  try (change wpAny _ _ _ _ _ _ _ (World.drew _))
  refine wpAny_vals (fr := fun o => #[.agg #[x,y,z,p,q,r],.agg #[a,b,c,d,s,u],.int .i64 k,.pointer (some ⟨w.heap.size,0,none⟩),.pointer (some ⟨(w.heap.size + 1),0,none⟩),undef,.pointer (some ⟨(w.heap.size + 1 + 1),0,none⟩),.pointer (some ⟨(w.heap.size + 1 + 1 + 1),0,none⟩),.int .i64 0,.int .i64 0,.int .i64 0,.int .i64 AT,.int .i64 ON,.agg #[x,y,z,p,q,r],.int .i64 0,.int .i64 0,.bool false,undef,undef,undef,.agg #[a,b,c,d,s,u],.int .i64 0,.int .i64 0,.bool false,undef,undef,undef,.int .i64 k,.bool true,.bool false,undef,undef,.pointer (some ⟨w.heap.size,3,none⟩),.agg #[p,q,r],.int .i64 k,.int .i64 AT,.pointer (some ⟨(w.heap.size + 1),0,none⟩),.agg #[a,b,c],.int .i64 k,.int .i64 ON,o 0,o 1,o 2,o 3,o 4,o 5,o 6,o 7,o 8,o 9,o 10,o 11,o 12,o 13,o 14,o 15,o 16,o 17,o 18,o 19,o 20,o 21,o 22,o 23,o 24,o 25,o 26,o 27,o 28,o 29,o 30,undef,undef,undef,undef,undef,undef,undef,undef,undef,undef,undef,undef,undef]) (vals := fun i_ => ([.int .i64 ON,.int .i64 AT,.bool false,.bool false,.int .i64 ON,.int .i64 AT,.int .i64 (ON - AT),.bool false,.bool false,.bool false,.pointer (some ⟨w.heap.size,0,none⟩),.agg #[x,y,z],.int .i64 k,.agg #[m0,m1,m2],.pointer (some ⟨(w.heap.size + 1),0,none⟩),.agg #[a,b,c],.int .i64 k,.agg #[n0,n1,n2],.bool false,.bool false,.bool false,.pointer (some ⟨w.heap.size,3,none⟩),.agg #[p,q,r],.int .i64 k,.agg #[k0,k1,k2],.pointer (some ⟨(w.heap.size + 1),3,none⟩),.agg #[d,s,u],.int .i64 k,.agg #[l0,l1,l2],.bool true,.bool true] : List Value).getD i_ undef) (Kf := fun _ => True) (K := fun kk_ => ([(KL [((w.heap.size + 1 + 1 + 1),27,#[.int .i64 0,.int .i64 0,.int .i64 0]),((w.heap.size + 1 + 1),25,#[.int .i64 0,.int .i64 0,.int .i64 0,.int .i64 0,.int .i64 0,.int .i64 0]),((w.heap.size + 1),25,#[a,b,c,d,s,u]),(w.heap.size,25,#[x,y,z,p,q,r])] w)] : List (World → Prop)).getD kk_ (fun _ => True)) (dep := fun i_ => [[],[],[0,1],[2],[3],[3],[3,4,5],[3,6],[3,7],[8],[9],[9,10],[9],[9,11,12],[9],[9,14],[9],[9,15,16],[9,13,17],[9,18],[19],[20],[20,21],[20],[20,22,23],[20],[20,25],[20],[20,26,27],[20,24,28],[20,29]].getD i_ []) (dv := fun i_ => [[],[],[0,1],[2],[3],[3],[3,4,5],[3,6],[3,7],[8],[9],[9,10],[9],[9,11,12],[9],[9,14],[9],[9,15,16],[9,13,17],[9,18],[19],[20],[20,21],[20],[20,22,23],[20],[20,25],[20],[20,26,27],[20,24,28],[20,29]].getD i_ []) (kd := fun i_ => [0,0,0,0,0,0,0,0,0,0,0,1,0,1,0,1,0,1,0,0,0,0,1,0,1,0,1,0,1,0,0].getD i_ 0) (ss := []) (l := [0,1,2,3,4,5,6,7,8,9,10,11,12,13,14,15,16,17,18,19,20,21,22,23,24,25,26,27,28,29,30]) (f0 := fun _ => undef) (A := ?A7) 31 rfl rfl (by decide +kernel) (by decide +kernel) ?_ ?_ ⟨?_,?_,?_,?_,?_,?_,?_,?_,?_,?_,?_,?_,?_,?_,?_,?_,?_,?_,?_,?_,?_,?_,?_,?_,?_,?_,?_,?_,?_,?_,?_,trivial⟩ ?_ ?_
  rotate_left
  ·exact KL.drew h1
  ·exact fun _ _ _ _ => trivial
  ·intro o W _
   show wpOp _ _ _ 0 _ ⟨#[_,_,_,_,_,_,_,_,_,_,_,_,_,_,_,_,_,_,_,_,_,_,_,_,_,_,_,_,_,_,_,_,_,_,_,_,_,_,_,_,o 0,o 1,o 2,o 3,o 4,o 5,o 6,o 7,o 8,o 9,o 10,o 11,o 12,o 13,o 14,o 15,o 16,o 17,o 18,o 19,o 20,o 21,o 22,o 23,o 24,o 25,o 26,o 27,o 28,o 29,o 30,_,_,_,_,_,_,_,_,_,_,_,_,_],[]⟩ W
   refine wpOp_step rfl fun _ hK => ?_
   go_simp
   exact hK _ _ ⟨rfl,rfl⟩
  ·intro o W _
   show wpOp _ _ _ 1 _ ⟨#[_,_,_,_,_,_,_,_,_,_,_,_,_,_,_,_,_,_,_,_,_,_,_,_,_,_,_,_,_,_,_,_,_,_,_,_,_,_,_,_,o 0,o 1,o 2,o 3,o 4,o 5,o 6,o 7,o 8,o 9,o 10,o 11,o 12,o 13,o 14,o 15,o 16,o 17,o 18,o 19,o 20,o 21,o 22,o 23,o 24,o 25,o 26,o 27,o 28,o 29,o 30,_,_,_,_,_,_,_,_,_,_,_,_,_],[]⟩ W
   refine wpOp_step rfl fun _ hK => ?_
   go_simp
   exact hK _ _ ⟨rfl,rfl⟩
  ·intro o W _
   show wpOp _ _ _ 2 _ ⟨#[_,_,_,_,_,_,_,_,_,_,_,_,_,_,_,_,_,_,_,_,_,_,_,_,_,_,_,_,_,_,_,_,_,_,_,_,_,_,_,_,.int .i64 ON,.int .i64 AT,o 2,o 3,o 4,o 5,o 6,o 7,o 8,o 9,o 10,o 11,o 12,o 13,o 14,o 15,o 16,o 17,o 18,o 19,o 20,o 21,o 22,o 23,o 24,o 25,o 26,o 27,o 28,o 29,o 30,_,_,_,_,_,_,_,_,_,_,_,_,_],[]⟩ W
   refine wpOp_step rfl fun _ hK => ?_
   go_simp
   exact hK _ _ ⟨rfl,rfl⟩
  ·intro o W _
   show wpOp _ _ _ 3 _ ⟨#[_,_,_,_,_,_,_,_,_,_,_,_,_,_,_,_,_,_,_,_,_,_,_,_,_,_,_,_,_,_,_,_,_,_,_,_,_,_,_,_,o 0,o 1,.bool false,o 3,o 4,o 5,o 6,o 7,o 8,o 9,o 10,o 11,o 12,o 13,o 14,o 15,o 16,o 17,o 18,o 19,o 20,o 21,o 22,o 23,o 24,o 25,o 26,o 27,o 28,o 29,o 30,_,_,_,_,_,_,_,_,_,_,_,_,_],[]⟩ W
   refine wpOp_step rfl fun _ hK => ?_
   go_simp
   exact hK _ _ ⟨rfl,rfl⟩
  ·intro o W _
   show wpOp _ _ _ 4 _ ⟨#[_,_,_,_,_,_,_,_,_,_,_,_,_,_,_,_,_,_,_,_,_,_,_,_,_,_,_,_,_,_,_,_,_,_,_,_,_,_,_,_,o 0,o 1,o 2,.bool false,o 4,o 5,o 6,o 7,o 8,o 9,o 10,o 11,o 12,o 13,o 14,o 15,o 16,o 17,o 18,o 19,o 20,o 21,o 22,o 23,o 24,o 25,o 26,o 27,o 28,o 29,o 30,_,_,_,_,_,_,_,_,_,_,_,_,_],[]⟩ W
   refine wpOp_step rfl fun _ hK => ?_
   go_simp
   exact hK _ _ ⟨rfl,rfl⟩
  ·intro o W _
   show wpOp _ _ _ 5 _ ⟨#[_,_,_,_,_,_,_,_,_,_,_,_,_,_,_,_,_,_,_,_,_,_,_,_,_,_,_,_,_,_,_,_,_,_,_,_,_,_,_,_,o 0,o 1,o 2,.bool false,o 4,o 5,o 6,o 7,o 8,o 9,o 10,o 11,o 12,o 13,o 14,o 15,o 16,o 17,o 18,o 19,o 20,o 21,o 22,o 23,o 24,o 25,o 26,o 27,o 28,o 29,o 30,_,_,_,_,_,_,_,_,_,_,_,_,_],[]⟩ W
   refine wpOp_step rfl fun _ hK => ?_
   go_simp
   exact hK _ _ ⟨rfl,rfl⟩
  ·intro o W _
   show wpOp _ _ _ 6 _ ⟨#[_,_,_,_,_,_,_,_,_,_,_,_,_,_,_,_,_,_,_,_,_,_,_,_,_,_,_,_,_,_,_,_,_,_,_,_,_,_,_,_,o 0,o 1,o 2,.bool false,.int .i64 ON,.int .i64 AT,o 6,o 7,o 8,o 9,o 10,o 11,o 12,o 13,o 14,o 15,o 16,o 17,o 18,o 19,o 20,o 21,o 22,o 23,o 24,o 25,o 26,o 27,o 28,o 29,o 30,_,_,_,_,_,_,_,_,_,_,_,_,_],[]⟩ W
   refine wpOp_step rfl fun _ hK => ?_
   go_simp
   exact hK _ _ ⟨rfl,rfl⟩
  ·intro o W _
   show wpOp _ _ _ 7 _ ⟨#[_,_,_,_,_,_,_,_,_,_,_,_,_,_,_,_,_,_,_,_,_,_,_,_,_,_,_,_,_,_,_,_,_,_,_,_,_,_,_,_,o 0,o 1,o 2,.bool false,o 4,o 5,.int .i64 (ON - AT),o 7,o 8,o 9,o 10,o 11,o 12,o 13,o 14,o 15,o 16,o 17,o 18,o 19,o 20,o 21,o 22,o 23,o 24,o 25,o 26,o 27,o 28,o 29,o 30,_,_,_,_,_,_,_,_,_,_,_,_,_],[]⟩ W
   refine wpOp_step rfl fun _ hK => ?_
   go_simp
   exact hK _ _ ⟨rfl,rfl⟩
  ·intro o W _
   show wpOp _ _ _ 8 _ ⟨#[_,_,_,_,_,_,_,_,_,_,_,_,_,_,_,_,_,_,_,_,_,_,_,_,_,_,_,_,_,_,_,_,_,_,_,_,_,_,_,_,o 0,o 1,o 2,.bool false,o 4,o 5,o 6,.bool false,o 8,o 9,o 10,o 11,o 12,o 13,o 14,o 15,o 16,o 17,o 18,o 19,o 20,o 21,o 22,o 23,o 24,o 25,o 26,o 27,o 28,o 29,o 30,_,_,_,_,_,_,_,_,_,_,_,_,_],[]⟩ W
   refine wpOp_step rfl fun _ hK => ?_
   go_simp
   exact hK _ _ ⟨rfl,rfl⟩
  ·intro o W _
   show wpOp _ _ _ 9 _ ⟨#[_,_,_,_,_,_,_,_,_,_,_,_,_,_,_,_,_,_,_,_,_,_,_,_,_,_,_,_,_,_,_,_,_,_,_,_,_,_,_,_,o 0,o 1,o 2,o 3,o 4,o 5,o 6,o 7,.bool false,o 9,o 10,o 11,o 12,o 13,o 14,o 15,o 16,o 17,o 18,o 19,o 20,o 21,o 22,o 23,o 24,o 25,o 26,o 27,o 28,o 29,o 30,_,_,_,_,_,_,_,_,_,_,_,_,_],[]⟩ W
   refine wpOp_step rfl fun _ hK => ?_
   go_simp
   exact hK _ _ ⟨rfl,rfl⟩
  ·intro o W _
   show wpOp _ _ _ 10 _ ⟨#[_,_,_,_,_,_,_,_,_,_,_,_,_,_,_,_,_,_,_,_,_,_,_,_,_,_,_,_,_,_,_,_,_,_,_,_,_,_,_,_,o 0,o 1,o 2,o 3,o 4,o 5,o 6,o 7,o 8,.bool false,o 10,o 11,o 12,o 13,o 14,o 15,o 16,o 17,o 18,o 19,o 20,o 21,o 22,o 23,o 24,o 25,o 26,o 27,o 28,o 29,o 30,_,_,_,_,_,_,_,_,_,_,_,_,_],[]⟩ W
   refine wpOp_step rfl fun _ hK => ?_
   go_simp
   exact hK _ _ ⟨rfl,rfl⟩
  ·intro o W hj
   have hj : KL _ _ W := hj
   obtain ⟨cL,c0,c1,c2,c3,c4,c5⟩ := bl6 (KL.blk hj (.tail _ (.tail _ (.tail _ (.head _)))))
   show wpOp _ _ _ 11 _ ⟨#[_,_,_,_,_,_,_,_,_,_,_,_,_,_,_,_,_,_,_,_,_,_,_,_,_,_,_,_,_,_,_,_,_,_,_,_,_,_,_,_,o 0,o 1,o 2,o 3,o 4,o 5,o 6,o 7,o 8,.bool false,.pointer (some ⟨w.heap.size,0,none⟩),o 11,o 12,o 13,o 14,o 15,o 16,o 17,o 18,o 19,o 20,o 21,o 22,o 23,o 24,o 25,o 26,o 27,o 28,o 29,o 30,_,_,_,_,_,_,_,_,_,_,_,_,_],[]⟩ W
   refine wpOp_step rfl fun _ hK => ?_
   go_simp
   exact hK _ _ ⟨rfl,hj⟩
  ·intro o W _
   show wpOp _ _ _ 12 _ ⟨#[_,_,_,_,_,_,_,_,_,_,_,_,_,_,_,_,_,_,_,_,_,_,_,_,_,_,_,_,_,_,_,_,_,_,_,_,_,_,_,_,o 0,o 1,o 2,o 3,o 4,o 5,o 6,o 7,o 8,.bool false,o 10,o 11,o 12,o 13,o 14,o 15,o 16,o 17,o 18,o 19,o 20,o 21,o 22,o 23,o 24,o 25,o 26,o 27,o 28,o 29,o 30,_,_,_,_,_,_,_,_,_,_,_,_,_],[]⟩ W
   refine wpOp_step rfl fun _ hK => ?_
   go_simp
   exact hK _ _ ⟨rfl,rfl⟩
  ·intro o W hj
   have hj : KL _ _ W := hj
   show wpOp _ _ _ 13 _ ⟨#[_,_,_,_,_,_,_,_,_,_,_,_,_,_,_,_,_,_,_,_,_,_,_,_,_,_,_,_,_,_,_,_,_,_,_,_,_,_,_,_,o 0,o 1,o 2,o 3,o 4,o 5,o 6,o 7,o 8,.bool false,o 10,.agg #[x,y,z],.int .i64 k,o 13,o 14,o 15,o 16,o 17,o 18,o 19,o 20,o 21,o 22,o 23,o 24,o 25,o 26,o 27,o 28,o 29,o 30,_,_,_,_,_,_,_,_,_,_,_,_,_],[]⟩ W
   refine wpOp_step rfl fun _ hK => ?_
   go_simp
   refine (p1_ _).mono ?_
   rintro e W1 ⟨rfl,hb1⟩
   exact hK _ _ ⟨rfl,hj.over hb1⟩
  ·intro o W _
   show wpOp _ _ _ 14 _ ⟨#[_,_,_,_,_,_,_,_,_,_,_,_,_,_,_,_,_,_,_,_,_,_,_,_,_,_,_,_,_,_,_,_,_,_,_,_,_,_,_,_,o 0,o 1,o 2,o 3,o 4,o 5,o 6,o 7,o 8,.bool false,o 10,o 11,o 12,o 13,o 14,o 15,o 16,o 17,o 18,o 19,o 20,o 21,o 22,o 23,o 24,o 25,o 26,o 27,o 28,o 29,o 30,_,_,_,_,_,_,_,_,_,_,_,_,_],[]⟩ W
   refine wpOp_step rfl fun _ hK => ?_
   go_simp
   exact hK _ _ ⟨rfl,rfl⟩
  ·intro o W hj
   have hj : KL _ _ W := hj
   obtain ⟨cL,c0,c1,c2,c3,c4,c5⟩ := bl6 (KL.blk hj (.tail _ (.tail _ (.head _))))
   show wpOp _ _ _ 15 _ ⟨#[_,_,_,_,_,_,_,_,_,_,_,_,_,_,_,_,_,_,_,_,_,_,_,_,_,_,_,_,_,_,_,_,_,_,_,_,_,_,_,_,o 0,o 1,o 2,o 3,o 4,o 5,o 6,o 7,o 8,.bool false,o 10,o 11,o 12,o 13,.pointer (some ⟨(w.heap.size + 1),0,none⟩),o 15,o 16,o 17,o 18,o 19,o 20,o 21,o 22,o 23,o 24,o 25,o 26,o 27,o 28,o 29,o 30,_,_,_,_,_,_,_,_,_,_,_,_,_],[]⟩ W
   refine wpOp_step rfl fun _ hK => ?_
   go_simp
   exact hK _ _ ⟨rfl,hj⟩
  ·intro o W _
   show wpOp _ _ _ 16 _ ⟨#[_,_,_,_,_,_,_,_,_,_,_,_,_,_,_,_,_,_,_,_,_,_,_,_,_,_,_,_,_,_,_,_,_,_,_,_,_,_,_,_,o 0,o 1,o 2,o 3,o 4,o 5,o 6,o 7,o 8,.bool false,o 10,o 11,o 12,o 13,o 14,o 15,o 16,o 17,o 18,o 19,o 20,o 21,o 22,o 23,o 24,o 25,o 26,o 27,o 28,o 29,o 30,_,_,_,_,_,_,_,_,_,_,_,_,_],[]⟩ W
   refine wpOp_step rfl fun _ hK => ?_
   go_simp
   exact hK _ _ ⟨rfl,rfl⟩
  ·intro o W hj
   have hj : KL _ _ W := hj
   show wpOp _ _ _ 17 _ ⟨#[_,_,_,_,_,_,_,_,_,_,_,_,_,_,_,_,_,_,_,_,_,_,_,_,_,_,_,_,_,_,_,_,_,_,_,_,_,_,_,_,o 0,o 1,o 2,o 3,o 4,o 5,o 6,o 7,o 8,.bool false,o 10,o 11,o 12,o 13,o 14,.agg #[a,b,c],.int .i64 k,o 17,o 18,o 19,o 20,o 21,o 22,o 23,o 24,o 25,o 26,o 27,o 28,o 29,o 30,_,_,_,_,_,_,_,_,_,_,_,_,_],[]⟩ W
   refine wpOp_step rfl fun _ hK => ?_
   go_simp
   refine (p2_ _).mono ?_
   rintro e W1 ⟨rfl,hb1⟩
   exact hK _ _ ⟨rfl,hj.over hb1⟩
  ·intro o W _
   show wpOp _ _ _ 18 _ ⟨#[_,_,_,_,_,_,_,_,_,_,_,_,_,_,_,_,_,_,_,_,_,_,_,_,_,_,_,_,_,_,_,_,_,_,_,_,_,_,_,_,o 0,o 1,o 2,o 3,o 4,o 5,o 6,o 7,o 8,.bool false,o 10,o 11,o 12,.agg #[m0,m1,m2],o 14,o 15,o 16,.agg #[n0,n1,n2],o 18,o 19,o 20,o 21,o 22,o 23,o 24,o 25,o 26,o 27,o 28,o 29,o 30,_,_,_,_,_,_,_,_,_,_,_,_,_],[]⟩ W
   refine wpOp_step rfl fun _ hK => ?_
   go_simp
   exact hK _ _ ⟨rfl,rfl⟩
  ·intro o W _
   show wpOp _ _ _ 19 _ ⟨#[_,_,_,_,_,_,_,_,_,_,_,_,_,_,_,_,_,_,_,_,_,_,_,_,_,_,_,_,_,_,_,_,_,_,_,_,_,_,_,_,o 0,o 1,o 2,o 3,o 4,o 5,o 6,o 7,o 8,.bool false,o 10,o 11,o 12,o 13,o 14,o 15,o 16,o 17,.bool false,o 19,o 20,o 21,o 22,o 23,o 24,o 25,o 26,o 27,o 28,o 29,o 30,_,_,_,_,_,_,_,_,_,_,_,_,_],[]⟩ W
   refine wpOp_step rfl fun _ hK => ?_
   go_simp
   exact hK _ _ ⟨rfl,rfl⟩
  ·intro o W _
   show wpOp _ _ _ 20 _ ⟨#[_,_,_,_,_,_,_,_,_,_,_,_,_,_,_,_,_,_,_,_,_,_,_,_,_,_,_,_,_,_,_,_,_,_,_,_,_,_,_,_,o 0,o 1,o 2,o 3,o 4,o 5,o 6,o 7,o 8,o 9,o 10,o 11,o 12,o 13,o 14,o 15,o 16,o 17,o 18,.bool false,o 20,o 21,o 22,o 23,o 24,o 25,o 26,o 27,o 28,o 29,o 30,_,_,_,_,_,_,_,_,_,_,_,_,_],[]⟩ W
   refine wpOp_step rfl fun _ hK => ?_
   go_simp
   exact hK _ _ ⟨rfl,rfl⟩
  ·intro o W _
   show wpOp _ _ _ 21 _ ⟨#[_,_,_,_,_,_,_,_,_,_,_,_,_,_,_,_,_,_,_,_,_,_,_,_,_,_,_,_,_,_,_,_,_,_,_,_,_,_,_,_,o 0,o 1,o 2,o 3,o 4,o 5,o 6,o 7,o 8,o 9,o 10,o 11,o 12,o 13,o 14,o 15,o 16,o 17,o 18,o 19,.bool false,o 21,o 22,o 23,o 24,o 25,o 26,o 27,o 28,o 29,o 30,_,_,_,_,_,_,_,_,_,_,_,_,_],[]⟩ W
   refine wpOp_step rfl fun _ hK => ?_
   go_simp
   exact hK _ _ ⟨rfl,rfl⟩
  ·intro o W hj
   have hj : KL _ _ W := hj
   obtain ⟨cL,c0,c1,c2,c3,c4,c5⟩ := bl6 (KL.blk hj (.tail _ (.tail _ (.tail _ (.head _)))))
   show wpOp _ _ _ 22 _ ⟨#[_,_,_,_,_,_,_,_,_,_,_,_,_,_,_,_,_,_,_,_,_,_,_,_,_,_,_,_,_,_,_,_,_,_,_,_,_,_,_,_,o 0,o 1,o 2,o 3,o 4,o 5,o 6,o 7,o 8,o 9,o 10,o 11,o 12,o 13,o 14,o 15,o 16,o 17,o 18,o 19,.bool false,.pointer (some ⟨w.heap.size,3,none⟩),o 22,o 23,o 24,o 25,o 26,o 27,o 28,o 29,o 30,_,_,_,_,_,_,_,_,_,_,_,_,_],[]⟩ W
   refine wpOp_step rfl fun _ hK => ?_
   go_simp
   exact hK _ _ ⟨rfl,hj⟩
  ·intro o W _
   show wpOp _ _ _ 23 _ ⟨#[_,_,_,_,_,_,_,_,_,_,_,_,_,_,_,_,_,_,_,_,_,_,_,_,_,_,_,_,_,_,_,_,_,_,_,_,_,_,_,_,o 0,o 1,o 2,o 3,o 4,o 5,o 6,o 7,o 8,o 9,o 10,o 11,o 12,o 13,o 14,o 15,o 16,o 17,o 18,o 19,.bool false,o 21,o 22,o 23,o 24,o 25,o 26,o 27,o 28,o 29,o 30,_,_,_,_,_,_,_,_,_,_,_,_,_],[]⟩ W
   refine wpOp_step rfl fun _ hK => ?_
   go_simp
   exact hK _ _ ⟨rfl,rfl⟩
  ·intro o W hj
   have hj : KL _ _ W := hj
   show wpOp _ _ _ 24 _ ⟨#[_,_,_,_,_,_,_,_,_,_,_,_,_,_,_,_,_,_,_,_,_,_,_,_,_,_,_,_,_,_,_,_,_,_,_,_,_,_,_,_,o 0,o 1,o 2,o 3,o 4,o 5,o 6,o 7,o 8,o 9,o 10,o 11,o 12,o 13,o 14,o 15,o 16,o 17,o 18,o 19,.bool false,o 21,.agg #[p,q,r],.int .i64 k,o 24,o 25,o 26,o 27,o 28,o 29,o 30,_,_,_,_,_,_,_,_,_,_,_,_,_],[]⟩ W
   refine wpOp_step rfl fun _ hK => ?_
   go_simp
   refine (p3_ _).mono ?_
   rintro e W1 ⟨rfl,hb1⟩
   exact hK _ _ ⟨rfl,hj.over hb1⟩
  ·intro o W _
   show wpOp _ _ _ 25 _ ⟨#[_,_,_,_,_,_,_,_,_,_,_,_,_,_,_,_,_,_,_,_,_,_,_,_,_,_,_,_,_,_,_,_,_,_,_,_,_,_,_,_,o 0,o 1,o 2,o 3,o 4,o 5,o 6,o 7,o 8,o 9,o 10,o 11,o 12,o 13,o 14,o 15,o 16,o 17,o 18,o 19,.bool false,o 21,o 22,o 23,o 24,o 25,o 26,o 27,o 28,o 29,o 30,_,_,_,_,_,_,_,_,_,_,_,_,_],[]⟩ W
   refine wpOp_step rfl fun _ hK => ?_
   go_simp
   exact hK _ _ ⟨rfl,rfl⟩
  ·intro o W hj
   have hj : KL _ _ W := hj
   obtain ⟨cL,c0,c1,c2,c3,c4,c5⟩ := bl6 (KL.blk hj (.tail _ (.tail _ (.head _))))
   show wpOp _ _ _ 26 _ ⟨#[_,_,_,_,_,_,_,_,_,_,_,_,_,_,_,_,_,_,_,_,_,_,_,_,_,_,_,_,_,_,_,_,_,_,_,_,_,_,_,_,o 0,o 1,o 2,o 3,o 4,o 5,o 6,o 7,o 8,o 9,o 10,o 11,o 12,o 13,o 14,o 15,o 16,o 17,o 18,o 19,.bool false,o 21,o 22,o 23,o 24,.pointer (some ⟨(w.heap.size + 1),3,none⟩),o 26,o 27,o 28,o 29,o 30,_,_,_,_,_,_,_,_,_,_,_,_,_],[]⟩ W
   refine wpOp_step rfl fun _ hK => ?_
   go_simp
   exact hK _ _ ⟨rfl,hj⟩
  ·intro o W _
   show wpOp _ _ _ 27 _ ⟨#[_,_,_,_,_,_,_,_,_,_,_,_,_,_,_,_,_,_,_,_,_,_,_,_,_,_,_,_,_,_,_,_,_,_,_,_,_,_,_,_,o 0,o 1,o 2,o 3,o 4,o 5,o 6,o 7,o 8,o 9,o 10,o 11,o 12,o 13,o 14,o 15,o 16,o 17,o 18,o 19,.bool false,o 21,o 22,o 23,o 24,o 25,o 26,o 27,o 28,o 29,o 30,_,_,_,_,_,_,_,_,_,_,_,_,_],[]⟩ W
   refine wpOp_step rfl fun _ hK => ?_
   go_simp
   exact hK _ _ ⟨rfl,rfl⟩
  ·intro o W hj
   have hj : KL _ _ W := hj
   show wpOp _ _ _ 28 _ ⟨#[_,_,_,_,_,_,_,_,_,_,_,_,_,_,_,_,_,_,_,_,_,_,_,_,_,_,_,_,_,_,_,_,_,_,_,_,_,_,_,_,o 0,o 1,o 2,o 3,o 4,o 5,o 6,o 7,o 8,o 9,o 10,o 11,o 12,o 13,o 14,o 15,o 16,o 17,o 18,o 19,.bool false,o 21,o 22,o 23,o 24,o 25,.agg #[d,s,u],.int .i64 k,o 28,o 29,o 30,_,_,_,_,_,_,_,_,_,_,_,_,_],[]⟩ W
   refine wpOp_step rfl fun _ hK => ?_
   go_simp
   refine (p4_ _).mono ?_
   rintro e W1 ⟨rfl,hb1⟩
   exact hK _ _ ⟨rfl,hj.over hb1⟩
  ·intro o W _
   show wpOp _ _ _ 29 _ ⟨#[_,_,_,_,_,_,_,_,_,_,_,_,_,_,_,_,_,_,_,_,_,_,_,_,_,_,_,_,_,_,_,_,_,_,_,_,_,_,_,_,o 0,o 1,o 2,o 3,o 4,o 5,o 6,o 7,o 8,o 9,o 10,o 11,o 12,o 13,o 14,o 15,o 16,o 17,o 18,o 19,.bool false,o 21,o 22,o 23,.agg #[k0,k1,k2],o 25,o 26,o 27,.agg #[l0,l1,l2],o 29,o 30,_,_,_,_,_,_,_,_,_,_,_,_,_],[]⟩ W
   refine wpOp_step rfl fun _ hK => ?_
   go_simp
   exact hK _ _ ⟨rfl,rfl⟩
  ·intro o W _
   show wpOp _ _ _ 30 _ ⟨#[_,_,_,_,_,_,_,_,_,_,_,_,_,_,_,_,_,_,_,_,_,_,_,_,_,_,_,_,_,_,_,_,_,_,_,_,_,_,_,_,o 0,o 1,o 2,o 3,o 4,o 5,o 6,o 7,o 8,o 9,o 10,o 11,o 12,o 13,o 14,o 15,o 16,o 17,o 18,o 19,.bool false,o 21,o 22,o 23,o 24,o 25,o 26,o 27,o 28,.bool true,o 30,_,_,_,_,_,_,_,_,_,_,_,_,_],[]⟩ W
   refine wpOp_step rfl fun _ hK => ?_
   go_simp
   exact hK _ _ ⟨rfl,rfl⟩
  ·intro o hh_
   have e0 : o 0 = .int .i64 ON := hh_ 0 (by decide)
   have e1 : o 1 = .int .i64 AT := hh_ 1 (by decide)
   have e2 : o 2 = .bool false := hh_ 2 (by decide)
   have e3 : o 3 = .bool false := hh_ 3 (by decide)
   have e4 : o 4 = .int .i64 ON := hh_ 4 (by decide)
   have e5 : o 5 = .int .i64 AT := hh_ 5 (by decide)
   have e6 : o 6 = .int .i64 (ON - AT) := hh_ 6 (by decide)
   have e7 : o 7 = .bool false := hh_ 7 (by decide)
   have e8 : o 8 = .bool false := hh_ 8 (by decide)
   have e9 : o 9 = .bool false := hh_ 9 (by decide)
   have e10 : o 10 = .pointer (some ⟨w.heap.size,0,none⟩) := hh_ 10 (by decide)
   have e11 : o 11 = .agg #[x,y,z] := hh_ 11 (by decide)
   have e12 : o 12 = .int .i64 k := hh_ 12 (by decide)
   have e13 : o 13 = .agg #[m0,m1,m2] := hh_ 13 (by decide)
   have e14 : o 14 = .pointer (some ⟨(w.heap.size + 1),0,none⟩) := hh_ 14 (by decide)
   have e15 : o 15 = .agg #[a,b,c] := hh_ 15 (by decide)
   have e16 : o 16 = .int .i64 k := hh_ 16 (by decide)
   have e17 : o 17 = .agg #[n0,n1,n2] := hh_ 17 (by decide)
   have e18 : o 18 = .bool false := hh_ 18 (by decide)
   have e19 : o 19 = .bool false := hh_ 19 (by decide)
   have e20 : o 20 = .bool false := hh_ 20 (by decide)
   have e21 : o 21 = .pointer (some ⟨w.heap.size,3,none⟩) := hh_ 21 (by decide)
   have e22 : o 22 = .agg #[p,q,r] := hh_ 22 (by decide)
   have e23 : o 23 = .int .i64 k := hh_ 23 (by decide)
   have e24 : o 24 = .agg #[k0,k1,k2] := hh_ 24 (by decide)
   have e25 : o 25 = .pointer (some ⟨(w.heap.size + 1),3,none⟩) := hh_ 25 (by decide)
   have e26 : o 26 = .agg #[d,s,u] := hh_ 26 (by decide)
   have e27 : o 27 = .int .i64 k := hh_ 27 (by decide)
   have e28 : o 28 = .agg #[l0,l1,l2] := hh_ 28 (by decide)
   have e29 : o 29 = .bool true := hh_ 29 (by decide)
   have e30 : o 30 = .bool true := hh_ 30 (by decide)
   rw [e0,e1,e2,e3,e4,e5,e6,e7,e8,e9,e10,e11,e12,e13,e14,e15,e16,e17,e18,e19,e20,e21,e22,e23,e24,e25,e26,e27,e28,e29,e30]
  ·intro W2 h2
   have h2 : KL _ _ W2 := h2
   obtain ⟨bL0,b0_0,b0_1,b0_2⟩ := bl3 (KL.blk h2 (.head _))
   have bF0 := (KL.blk h2 (.head _)).frozen
   obtain ⟨bL1,b1_0,b1_1,b1_2,b1_3,b1_4,b1_5⟩ := bl6 (KL.blk h2 (.tail _ (.head _)))
   have bF1 := (KL.blk h2 (.tail _ (.head _))).frozen
   obtain ⟨bL2,b2_0,b2_1,b2_2,b2_3,b2_4,b2_5⟩ := bl6 (KL.blk h2 (.tail _ (.tail _ (.head _))))
   obtain ⟨bL3,b3_0,b3_1,b3_2,b3_3,b3_4,b3_5⟩ := bl6 (KL.blk h2 (.tail _ (.tail _ (.tail _ (.head _)))))
   have hjb := h2.1
   have hjz := hjb.size
   go_wp2
   have hz : KL [((w.heap.size + 1 + 1 + 1),27,#[.int .i64 0,.int .i64 0,.int .i64 0]),((w.heap.size + 1 + 1),25,#[.int .i64 0,.int .i64 0,.int .i64 0,.int .i64 0,.int .i64 0,.int .i64 0]),((w.heap.size + 1),25,#[a,b,c,d,s,u]),(w.heap.size,25,#[x,y,z,p,q,r])] w _ := (KL.up3 0 (KL.up6 1 h2 rfl (by omega) (by simp <;> omega)) rfl (by omega) (by simp <;> omega))
   obtain ⟨eL,e0,e1,e2,e3,e4,e5⟩ := bl6 (KL.blk hz (.tail _ (.head _)))
   obtain ⟨iL,i0,i1,i2⟩ := bl3 (KL.blk hz (.head _))
   exact bodyPost_ret (v := .tuple #[.agg #[.int .i64 0,.int .i64 0,.int .i64 0,.int .i64 0,.int .i64 0,.int .i64 0],.agg #[.int .i64 0,.int .i64 0,.int .i64 0],.int .i64 10]) (by simp [results,Try.results21,go_sem,e0,e1,e2,e3,e4,e5,i0,i1,i2]) rfl ⟨rfl,hz.1⟩
set_option maxHeartbeats 16000000 in
set_option maxRecDepth 100000 in
theorem rjn_ok (x y z p q r a b c d s u k AT ON m0 m1 m2 n0 n1 n2 k0 k1 k2 l0 l1 l2 : Int) (c1_ : (∀ w,Calls Try.prog 35 #[.agg #[x,y,z,p,q,r]] w fun e w' => e = .returned (.int .i64 0) ∧ Below w.heap.size w w')) (c2_ : (∀ w,Calls Try.prog 35 #[.agg #[a,b,c,d,s,u]] w fun e w' => e = .returned (.int .i64 0) ∧ Below w.heap.size w w')) (hk : ∀ w,Calls Try.prog 40 #[k] w fun e w' => e = .returned (.bool true) ∧ w = w') (g1_ : (∀ w,Calls Try.prog 41 #[.agg #[p,q,r],.int .i64 k] w fun e w' => e = .returned (.int .i64 AT) ∧ Below w.heap.size w w')) (g2_ : (∀ w,Calls Try.prog 41 #[.agg #[a,b,c],.int .i64 k] w fun e w' => e = .returned (.int .i64 ON) ∧ Below w.heap.size w w'))
  (dL : decide (ON < AT) = false) (dW : IntKind.i64.wrap (ON - AT) = ON - AT) (dG : decide (1000 < ON - AT) = false) (q1 : ∀ w,Sem.run Try.prog (binOp .neq 23 (.agg #[m0,m1,m2]) (.agg #[n0,n1,n2])) w = .ok (.bool false) w) (p1_ : (∀ w,Calls Try.prog 47 #[.agg #[x,y,z],.int .i64 k,.int .i64 0] w fun e w' => e = .returned (.agg #[m0,m1,m2]) ∧ Below w.heap.size w w')) (p2_ : (∀ w,Calls Try.prog 47 #[.agg #[a,b,c],.int .i64 k,.int .i64 0] w fun e w' => e = .returned (.agg #[n0,n1,n2]) ∧ Below w.heap.size w w')) (q2 : ∀ w,Sem.run Try.prog (binOp .neq 23 (.agg #[k0,k1,k2]) (.agg #[l0,l1,l2])) w = .ok (.bool false) w) (p3_ : (∀ w,Calls Try.prog 47 #[.agg #[p,q,r],.int .i64 k,.int .i64 0] w fun e w' => e = .returned (.agg #[k0,k1,k2]) ∧ Below w.heap.size w w')) (p4_ : (∀ w,Calls Try.prog 47 #[.agg #[d,s,u],.int .i64 k,.int .i64 0] w fun e w' => e = .returned (.agg #[l0,l1,l2]) ∧ Below w.heap.size w w')) (w : World) :
  Calls Try.prog 21 #[.agg #[x,y,z,p,q,r],.agg #[a,b,c,d,s,u],.int .i64 k] w fun e w' => e = .returned (.tuple #[.agg #[x,y,z,d,s,u],.agg #[k,.int .i64 AT,.int .i64 (ON - AT)],.int .i64 0]) ∧ Below w.heap.size w w' := by
 go_enter Try.func21,Try.ntmps21
 go_wp2_with (first | (revert hb1; intro hb1; go_at_call 35; refine (c2_ _).mono ?_; rintro e w2 ⟨rfl,hb2⟩; obtain ⟨hc2,hf2⟩ := bcell hb2; have hz2 := hb2.size; (try simp at hz2); (try have y20 : w.heap.size < w2.heap.size := (by omega)); (try have y20p : w.heap.size < w2.heap.size + 1 := (by omega)); (try have y21 : w.heap.size + 1 < w2.heap.size := (by omega)); (try have y21p : w.heap.size + 1 < w2.heap.size + 1 := (by omega)); (try have y22 : w.heap.size + 1 + 1 < w2.heap.size := (by omega)); (try have y22p : w.heap.size + 1 + 1 < w2.heap.size + 1 := (by omega)); (try have y23 : w.heap.size + 1 + 1 + 1 < w2.heap.size := (by omega)); (try have y23p : w.heap.size + 1 + 1 + 1 < w2.heap.size + 1 := (by omega)); (try have y24 : w.heap.size + 1 + 1 + 1 + 1 < w2.heap.size := (by omega)); (try have y24p : w.heap.size + 1 + 1 + 1 + 1 < w2.heap.size + 1 := (by omega)); (try have v0x2 : w0.heap.size < w2.heap.size := (by omega)); (try have v0x2p : w0.heap.size < w2.heap.size + 1 := (by omega)); (try have v1x2 : w1.heap.size < w2.heap.size := (by omega)); (try have v1x2p : w1.heap.size < w2.heap.size + 1 := (by omega))) | (go_at_call 35; refine (c1_ _).mono ?_; rintro e w1 ⟨rfl,hb1⟩; obtain ⟨hc1,hf1⟩ := bcell hb1; have hz1 := hb1.size; (try simp at hz1); (try have y10 : w.heap.size < w1.heap.size := (by omega)); (try have y10p : w.heap.size < w1.heap.size + 1 := (by omega)); (try have y11 : w.heap.size + 1 < w1.heap.size := (by omega)); (try have y11p : w.heap.size + 1 < w1.heap.size + 1 := (by omega)); (try have y12 : w.heap.size + 1 + 1 < w1.heap.size := (by omega)); (try have y12p : w.heap.size + 1 + 1 < w1.heap.size + 1 := (by omega)); (try have y13 : w.heap.size + 1 + 1 + 1 < w1.heap.size := (by omega)); (try have y13p : w.heap.size + 1 + 1 + 1 < w1.heap.size + 1 := (by omega)); (try have y14 : w.heap.size + 1 + 1 + 1 + 1 < w1.heap.size := (by omega)); (try have y14p : w.heap.size + 1 + 1 + 1 + 1 < w1.heap.size + 1 := (by omega)); (try have v0x1 : w0.heap.size < w1.heap.size := (by omega)); (try have v0x1p : w0.heap.size < w1.heap.size + 1 := (by omega))) | (go_at_call 40; refine (hk _).mono ?_; rintro e w' ⟨rfl,rfl⟩))
 refine wp_region_any (by kernel_rfl) ?_
 try (change wpAny _ _ _ _ _ _ _ (World.drew _))
 refine wpAny_vals (fr := fun o => #[.agg #[x,y,z,p,q,r],.agg #[a,b,c,d,s,u],.int .i64 k,.pointer (some ⟨w.heap.size,0,none⟩),.pointer (some ⟨(w.heap.size + 1),0,none⟩),undef,.pointer (some ⟨(w.heap.size + 1 + 1),0,none⟩),.pointer (some ⟨(w.heap.size + 1 + 1 + 1),0,none⟩),.int .i64 0,.int .i64 0,.int .i64 0,o 8,o 9,.agg #[x,y,z,p,q,r],.int .i64 0,.int .i64 0,.bool false,undef,undef,undef,.agg #[a,b,c,d,s,u],.int .i64 0,.int .i64 0,.bool false,undef,undef,undef,.int .i64 k,.bool true,.bool false,undef,undef,o 0,o 1,o 2,o 3,o 4,o 5,o 6,o 7,undef,undef,undef,undef,undef,undef,undef,undef,undef,undef,undef,undef,undef,undef,undef,undef,undef,undef,undef,undef,undef,undef,undef,undef,undef,undef,undef,undef,undef,undef,undef,undef,undef,undef,undef,undef,undef,undef,undef,undef,undef,undef,undef,undef]) (vals := fun i_ => ([.pointer (some ⟨w.heap.size,3,none⟩),.agg #[p,q,r],.int .i64 k,.int .i64 AT,.pointer (some ⟨(w.heap.size + 1),0,none⟩),.agg #[a,b,c],.int .i64 k,.int .i64 ON,.int .i64 AT,.int .i64 ON] : List Value).getD i_ undef) (Kf := fun _ => True) (K := fun kk_ => ([(KL [((w.heap.size + 1 + 1 + 1),27,#[.int .i64 0,.int .i64 0,.int .i64 0]),((w.heap.size + 1 + 1),25,#[.int .i64 0,.int .i64 0,.int .i64 0,.int .i64 0,.int .i64 0,.int .i64 0]),((w.heap.size + 1),25,#[a,b,c,d,s,u]),(w.heap.size,25,#[x,y,z,p,q,r])] w)] : List (World → Prop)).getD kk_ (fun _ => True)) (dep := fun i_ => [[],[0],[],[1,2],[],[4],[],[5,6],[3],[7]].getD i_ []) (dv := fun i_ => [[],[0],[],[1,2],[],[4],[],[5,6],[3],[7]].getD i_ []) (kd := fun i_ => [0,1,0,1,0,1,0,1,0,0].getD i_ 0) (ss := []) (l := [0,1,2,3,4,5,6,7,8,9]) (f0 := fun _ => undef) (A := ?A10) 10 rfl rfl (by decide +kernel) (by decide +kernel) ?_ ?_ ⟨?_,?_,?_,?_,?_,?_,?_,?_,?_,?_,trivial⟩ ?_ ?_
 rotate_left
 ·exact KL.drew (KL.over (KL.over (KL.new (g := (w.heap.size + 1 + 1 + 1)) (KL.new (g := (w.heap.size + 1 + 1)) (KL.new (g := (w.heap.size + 1)) (KL.new (g := w.heap.size) (KL.nil w) rfl _ _) (by simp) _ _) (by simp) _ _) (by simp) _ _) hb1) hb2)
 ·exact fun _ _ _ _ => trivial
 ·intro o W _
  show wpOp _ _ _ 0 _ ⟨⟨_::_::_::_::_::_::_::_::_::_::_::o 8::o 9::_::_::_::_::_::_::_::_::_::_::_::_::_::_::_::_::_::_::_::o 0::o 1::o 2::o 3::o 4::o 5::o 6::o 7::_⟩,[]⟩ W
  refine wpOp_step rfl fun _ hK => ?_
  go_simp
  exact hK _ _ ⟨rfl,rfl⟩
 ·intro o W hj
  have hj : KL _ _ W := hj
  obtain ⟨cL,c0,c1,c2,c3,c4,c5⟩ := bl6 (KL.blk hj (.tail _ (.tail _ (.tail _ (.head _)))))
  show wpOp _ _ _ 1 _ ⟨⟨_::_::_::_::_::_::_::_::_::_::_::o 8::o 9::_::_::_::_::_::_::_::_::_::_::_::_::_::_::_::_::_::_::_::.pointer (some ⟨w.heap.size,3,none⟩)::o 1::o 2::o 3::o 4::o 5::o 6::o 7::_⟩,[]⟩ W
  refine wpOp_step rfl fun _ hK => ?_
  go_simp
  exact hK _ _ ⟨rfl,hj⟩
 ·intro o W _
  show wpOp _ _ _ 2 _ ⟨⟨_::_::_::_::_::_::_::_::_::_::_::o 8::o 9::_::_::_::_::_::_::_::_::_::_::_::_::_::_::_::_::_::_::_::o 0::o 1::o 2::o 3::o 4::o 5::o 6::o 7::_⟩,[]⟩ W
  refine wpOp_step rfl fun _ hK => ?_
  go_simp
  exact hK _ _ ⟨rfl,rfl⟩
 ·intro o W hj
  have hj : KL _ _ W := hj
  show wpOp _ _ _ 3 _ ⟨⟨_::_::_::_::_::_::_::_::_::_::_::o 8::o 9::_::_::_::_::_::_::_::_::_::_::_::_::_::_::_::_::_::_::_::o 0::.agg #[p,q,r]::.int .i64 k::o 3::o 4::o 5::o 6::o 7::_⟩,[]⟩ W
  refine wpOp_step rfl fun _ hK => ?_
  go_simp
  refine (g1_ _).mono ?_
  rintro e W1 ⟨rfl,hb1⟩
  exact hK _ _ ⟨rfl,hj.over hb1⟩
 ·intro o W _
  show wpOp _ _ _ 4 _ ⟨⟨_::_::_::_::_::_::_::_::_::_::_::o 8::o 9::_::_::_::_::_::_::_::_::_::_::_::_::_::_::_::_::_::_::_::o 0::o 1::o 2::o 3::o 4::o 5::o 6::o 7::_⟩,[]⟩ W
  refine wpOp_step rfl fun _ hK => ?_
  go_simp
  exact hK _ _ ⟨rfl,rfl⟩
 ·intro o W hj
  have hj : KL _ _ W := hj
  obtain ⟨cL,c0,c1,c2,c3,c4,c5⟩ := bl6 (KL.blk hj (.tail _ (.tail _ (.head _))))
  show wpOp _ _ _ 5 _ ⟨⟨_::_::_::_::_::_::_::_::_::_::_::o 8::o 9::_::_::_::_::_::_::_::_::_::_::_::_::_::_::_::_::_::_::_::o 0::o 1::o 2::o 3::.pointer (some ⟨(w.heap.size + 1),0,none⟩)::o 5::o 6::o 7::_⟩,[]⟩ W
  refine wpOp_step rfl fun _ hK => ?_
  go_simp
  exact hK _ _ ⟨rfl,hj⟩
 ·intro o W _
  show wpOp _ _ _ 6 _ ⟨⟨_::_::_::_::_::_::_::_::_::_::_::o 8::o 9::_::_::_::_::_::_::_::_::_::_::_::_::_::_::_::_::_::_::_::o 0::o 1::o 2::o 3::o 4::o 5::o 6::o 7::_⟩,[]⟩ W
  refine wpOp_step rfl fun _ hK => ?_
  go_simp
  exact hK _ _ ⟨rfl,rfl⟩
 ·intro o W hj
  have hj : KL _ _ W := hj
  show wpOp _ _ _ 7 _ ⟨⟨_::_::_::_::_::_::_::_::_::_::_::o 8::o 9::_::_::_::_::_::_::_::_::_::_::_::_::_::_::_::_::_::_::_::o 0::o 1::o 2::o 3::o 4::.agg #[a,b,c]::.int .i64 k::o 7::_⟩,[]⟩ W
  refine wpOp_step rfl fun _ hK => ?_
  go_simp
  refine (g2_ _).mono ?_
  rintro e W1 ⟨rfl,hb1⟩
  exact hK _ _ ⟨rfl,hj.over hb1⟩
 ·intro o W _
  show wpOp _ _ _ 8 _ ⟨⟨_::_::_::_::_::_::_::_::_::_::_::o 8::o 9::_::_::_::_::_::_::_::_::_::_::_::_::_::_::_::_::_::_::_::o 0::o 1::o 2::.int .i64 AT::o 4::o 5::o 6::o 7::_⟩,[]⟩ W
  refine wpOp_step rfl fun _ hK => ?_
  go_simp
  exact hK _ _ ⟨rfl,rfl⟩
 ·intro o W _
  show wpOp _ _ _ 9 _ ⟨⟨_::_::_::_::_::_::_::_::_::_::_::o 8::o 9::_::_::_::_::_::_::_::_::_::_::_::_::_::_::_::_::_::_::_::o 0::o 1::o 2::o 3::o 4::o 5::o 6::.int .i64 ON::_⟩,[]⟩ W
  refine wpOp_step rfl fun _ hK => ?_
  go_simp
  exact hK _ _ ⟨rfl,rfl⟩
 ·intro o hh_
  have e0 : o 0 = .pointer (some ⟨w.heap.size,3,none⟩) := hh_ 0 (by decide)
  have e1 : o 1 = .agg #[p,q,r] := hh_ 1 (by decide)
  have e2 : o 2 = .int .i64 k := hh_ 2 (by decide)
  have e3 : o 3 = .int .i64 AT := hh_ 3 (by decide)
  have e4 : o 4 = .pointer (some ⟨(w.heap.size + 1),0,none⟩) := hh_ 4 (by decide)
  have e5 : o 5 = .agg #[a,b,c] := hh_ 5 (by decide)
  have e6 : o 6 = .int .i64 k := hh_ 6 (by decide)
  have e7 : o 7 = .int .i64 ON := hh_ 7 (by decide)
  have e8 : o 8 = .int .i64 AT := hh_ 8 (by decide)
  have e9 : o 9 = .int .i64 ON := hh_ 9 (by decide)
  rw [e0,e1,e2,e3,e4,e5,e6,e7,e8,e9]
 ·intro W1 h1
  have h1 : KL _ _ W1 := h1
  obtain ⟨aL0,a0_0,a0_1,a0_2⟩ := bl3 (KL.blk h1 (.head _))
  have aF0 := (KL.blk h1 (.head _)).frozen
  obtain ⟨aL1,a1_0,a1_1,a1_2,a1_3,a1_4,a1_5⟩ := bl6 (KL.blk h1 (.tail _ (.head _)))
  have aF1 := (KL.blk h1 (.tail _ (.head _))).frozen
  obtain ⟨aL2,a2_0,a2_1,a2_2,a2_3,a2_4,a2_5⟩ := bl6 (KL.blk h1 (.tail _ (.tail _ (.head _))))
  obtain ⟨aL3,a3_0,a3_1,a3_2,a3_3,a3_4,a3_5⟩ := bl6 (KL.blk h1 (.tail _ (.tail _ (.tail _ (.head _)))))
  have hjb := h1.1
  have hjz := hjb.size
  go_wp2
  refine wp_region_any (by kernel_rfl) ?_
  try (change wpAny _ _ _ _ _ _ _ (World.drew _))
  refine wpAny_vals (fr := fun o => #[.agg #[x,y,z,p,q,r],.agg #[a,b,c,d,s,u],.int .i64 k,.pointer (some ⟨w.heap.size,0,none⟩),.pointer (some ⟨(w.heap.size + 1),0,none⟩),undef,.pointer (some ⟨(w.heap.size + 1 + 1),0,none⟩),.pointer (some ⟨(w.heap.size + 1 + 1 + 1),0,none⟩),.int .i64 0,.int .i64 0,.int .i64 0,.int .i64 AT,.int .i64 ON,.agg #[x,y,z,p,q,r],.int .i64 0,.int .i64 0,.bool false,undef,undef,undef,.agg #[a,b,c,d,s,u],.int .i64 0,.int .i64 0,.bool false,undef,undef,undef,.int .i64 k,.bool true,.bool false,undef,undef,.pointer (some ⟨w.heap.size,3,none⟩),.agg #[p,q,r],.int .i64 k,.int .i64 AT,.pointer (some ⟨(w.heap.size + 1),0,none⟩),.agg #[a,b,c],.int .i64 k,.int .i64 ON,o 0,o 1,o 2,o 3,o 4,o 5,o 6,o 7,o 8,o 9,o 10,o 11,o 12,o 13,o 14,o 15,o 16,o 17,o 18,o 19,o 20,o 21,o 22,o 23,o 24,o 25,o 26,o 27,o 28,o 29,o 30,undef,undef,undef,undef,undef,undef,undef,undef,undef,undef,undef,undef,undef]) (vals := fun i_ => ([.int .i64 ON,.int .i64 AT,.bool false,.bool false,.int .i64 ON,.int .i64 AT,.int .i64 (ON - AT),.bool false,.bool false,.bool false,.pointer (some ⟨w.heap.size,0,none⟩),.agg #[x,y,z],.int .i64 k,.agg #[m0,m1,m2],.pointer (some ⟨(w.heap.size + 1),0,none⟩),.agg #[a,b,c],.int .i64 k,.agg #[n0,n1,n2],.bool false,.bool false,.bool false,.pointer (some ⟨w.heap.size,3,none⟩),.agg #[p,q,r],.int .i64 k,.agg #[k0,k1,k2],.pointer (some ⟨(w.heap.size + 1),3,none⟩),.agg #[d,s,u],.int .i64 k,.agg #[l0,l1,l2],.bool false,.bool false] : List Value).getD i_ undef) (Kf := fun _ => True) (K := fun kk_ => ([(KL [((w.heap.size + 1 + 1 + 1),27,#[.int .i64 0,.int .i64 0,.int .i64 0]),((w.heap.size + 1 + 1),25,#[.int .i64 0,.int .i64 0,.int .i64 0,.int .i64 0,.int .i64 0,.int .i64 0]),((w.heap.size + 1),25,#[a,b,c,d,s,u]),(w.heap.size,25,#[x,y,z,p,q,r])] w)] : List (World → Prop)).getD kk_ (fun _ => True)) (dep := fun i_ => [[],[],[0,1],[2],[3],[3],[3,4,5],[3,6],[3,7],[8],[9],[9,10],[9],[9,11,12],[9],[9,14],[9],[9,15,16],[9,13,17],[9,18],[19],[20],[20,21],[20],[20,22,23],[20],[20,25],[20],[20,26,27],[20,24,28],[20,29]].getD i_ []) (dv := fun i_ => [[],[],[0,1],[2],[3],[3],[3,4,5],[3,6],[3,7],[8],[9],[9,10],[9],[9,11,12],[9],[9,14],[9],[9,15,16],[9,13,17],[9,18],[19],[20],[20,21],[20],[20,22,23],[20],[20,25],[20],[20,26,27],[20,24,28],[20,29]].getD i_ []) (kd := fun i_ => [0,0,0,0,0,0,0,0,0,0,0,1,0,1,0,1,0,1,0,0,0,0,1,0,1,0,1,0,1,0,0].getD i_ 0) (ss := []) (l := [0,1,2,3,4,5,6,7,8,9,10,11,12,13,14,15,16,17,18,19,20,21,22,23,24,25,26,27,28,29,30]) (f0 := fun _ => undef) (A := ?A9) 31 rfl rfl (by decide +kernel) (by decide +kernel) ?_ ?_ ⟨?_,?_,?_,?_,?_,?_,?_,?_,?_,?_,?_,?_,?_,?_,?_,?_,?_,?_,?_,?_,?_,?_,?_,?_,?_,?_,?_,?_,?_,?_,?_,trivial⟩ ?_ ?_
  rotate_left
  ·exact KL.drew h1
  ·exact fun _ _ _ _ => trivial
  ·intro o W _
   show wpOp _ _ _ 0 _ ⟨#[_,_,_,_,_,_,_,_,_,_,_,_,_,_,_,_,_,_,_,_,_,_,_,_,_,_,_,_,_,_,_,_,_,_,_,_,_,_,_,_,o 0,o 1,o 2,o 3,o 4,o 5,o 6,o 7,o 8,o 9,o 10,o 11,o 12,o 13,o 14,o 15,o 16,o 17,o 18,o 19,o 20,o 21,o 22,o 23,o 24,o 25,o 26,o 27,o 28,o 29,o 30,_,_,_,_,_,_,_,_,_,_,_,_,_],[]⟩ W
   refine wpOp_step rfl fun _ hK => ?_
   go_simp
   exact hK _ _ ⟨rfl,rfl⟩
  ·intro o W _
   show wpOp _ _ _ 1 _ ⟨#[_,_,_,_,_,_,_,_,_,_,_,_,_,_,_,_,_,_,_,_,_,_,_,_,_,_,_,_,_,_,_,_,_,_,_,_,_,_,_,_,o 0,o 1,o 2,o 3,o 4,o 5,o 6,o 7,o 8,o 9,o 10,o 11,o 12,o 13,o 14,o 15,o 16,o 17,o 18,o 19,o 20,o 21,o 22,o 23,o 24,o 25,o 26,o 27,o 28,o 29,o 30,_,_,_,_,_,_,_,_,_,_,_,_,_],[]⟩ W
   refine wpOp_step rfl fun _ hK => ?_
   go_simp
   exact hK _ _ ⟨rfl,rfl⟩
  ·intro o W _
   show wpOp _ _ _ 2 _ ⟨#[_,_,_,_,_,_,_,_,_,_,_,_,_,_,_,_,_,_,_,_,_,_,_,_,_,_,_,_,_,_,_,_,_,_,_,_,_,_,_,_,.int .i64 ON,.int .i64 AT,o 2,o 3,o 4,o 5,o 6,o 7,o 8,o 9,o 10,o 11,o 12,o 13,o 14,o 15,o 16,o 17,o 18,o 19,o 20,o 21,o 22,o 23,o 24,o 25,o 26,o 27,o 28,o 29,o 30,_,_,_,_,_,_,_,_,_,_,_,_,_],[]⟩ W
   refine wpOp_step rfl fun _ hK => ?_
   go_simp
   exact hK _ _ ⟨rfl,rfl⟩
  ·intro o W _
   show wpOp _ _ _ 3 _ ⟨#[_,_,_,_,_,_,_,_,_,_,_,_,_,_,_,_,_,_,_,_,_,_,_,_,_,_,_,_,_,_,_,_,_,_,_,_,_,_,_,_,o 0,o 1,.bool false,o 3,o 4,o 5,o 6,o 7,o 8,o 9,o 10,o 11,o 12,o 13,o 14,o 15,o 16,o 17,o 18,o 19,o 20,o 21,o 22,o 23,o 24,o 25,o 26,o 27,o 28,o 29,o 30,_,_,_,_,_,_,_,_,_,_,_,_,_],[]⟩ W
   refine wpOp_step rfl fun _ hK => ?_
   go_simp
   exact hK _ _ ⟨rfl,rfl⟩
  ·intro o W _
   show wpOp _ _ _ 4 _ ⟨#[_,_,_,_,_,_,_,_,_,_,_,_,_,_,_,_,_,_,_,_,_,_,_,_,_,_,_,_,_,_,_,_,_,_,_,_,_,_,_,_,o 0,o 1,o 2,.bool false,o 4,o 5,o 6,o 7,o 8,o 9,o 10,o 11,o 12,o 13,o 14,o 15,o 16,o 17,o 18,o 19,o 20,o 21,o 22,o 23,o 24,o 25,o 26,o 27,o 28,o 29,o 30,_,_,_,_,_,_,_,_,_,_,_,_,_],[]⟩ W
   refine wpOp_step rfl fun _ hK => ?_
   go_simp
   exact hK _ _ ⟨rfl,rfl⟩
  ·intro o W _
   show wpOp _ _ _ 5 _ ⟨#[_,_,_,_,_,_,_,_,_,_,_,_,_,_,_,_,_,_,_,_,_,_,_,_,_,_,_,_,_,_,_,_,_,_,_,_,_,_,_,_,o 0,o 1,o 2,.bool false,o 4,o 5,o 6,o 7,o 8,o 9,o 10,o 11,o 12,o 13,o 14,o 15,o 16,o 17,o 18,o 19,o 20,o 21,o 22,o 23,o 24,o 25,o 26,o 27,o 28,o 29,o 30,_,_,_,_,_,_,_,_,_,_,_,_,_],[]⟩ W
   refine wpOp_step rfl fun _ hK => ?_
   go_simp
   exact hK _ _ ⟨rfl,rfl⟩
  ·intro o W _
   show wpOp _ _ _ 6 _ ⟨#[_,_,_,_,_,_,_,_,_,_,_,_,_,_,_,_,_,_,_,_,_,_,_,_,_,_,_,_,_,_,_,_,_,_,_,_,_,_,_,_,o 0,o 1,o 2,.bool false,.int .i64 ON,.int .i64 AT,o 6,o 7,o 8,o 9,o 10,o 11,o 12,o 13,o 14,o 15,o 16,o 17,o 18,o 19,o 20,o 21,o 22,o 23,o 24,o 25,o 26,o 27,o 28,o 29,o 30,_,_,_,_,_,_,_,_,_,_,_,_,_],[]⟩ W
   refine wpOp_step rfl fun _ hK => ?_
   go_simp
   exact hK _ _ ⟨rfl,rfl⟩
  ·intro o W _
   show wpOp _ _ _ 7 _ ⟨#[_,_,_,_,_,_,_,_,_,_,_,_,_,_,_,_,_,_,_,_,_,_,_,_,_,_,_,_,_,_,_,_,_,_,_,_,_,_,_,_,o 0,o 1,o 2,.bool false,o 4,o 5,.int .i64 (ON - AT),o 7,o 8,o 9,o 10,o 11,o 12,o 13,o 14,o 15,o 16,o 17,o 18,o 19,o 20,o 21,o 22,o 23,o 24,o 25,o 26,o 27,o 28,o 29,o 30,_,_,_,_,_,_,_,_,_,_,_,_,_],[]⟩ W
   refine wpOp_step rfl fun _ hK => ?_
   go_simp
   exact hK _ _ ⟨rfl,rfl⟩
  ·intro o W _
   show wpOp _ _ _ 8 _ ⟨#[_,_,_,_,_,_,_,_,_,_,_,_,_,_,_,_,_,_,_,_,_,_,_,_,_,_,_,_,_,_,_,_,_,_,_,_,_,_,_,_,o 0,o 1,o 2,.bool false,o 4,o 5,o 6,.bool false,o 8,o 9,o 10,o 11,o 12,o 13,o 14,o 15,o 16,o 17,o 18,o 19,o 20,o 21,o 22,o 23,o 24,o 25,o 26,o 27,o 28,o 29,o 30,_,_,_,_,_,_,_,_,_,_,_,_,_],[]⟩ W
   refine wpOp_step rfl fun _ hK => ?_
   go_simp
   exact hK _ _ ⟨rfl,rfl⟩
  ·intro o W _
   show wpOp _ _ _ 9 _ ⟨#[_,_,_,_,_,_,_,_,_,_,_,_,_,_,_,_,_,_,_,_,_,_,_,_,_,_,_,_,_,_,_,_,_,_,_,_,_,_,_,_,o 0,o 1,o 2,o 3,o 4,o 5,o 6,o 7,.bool false,o 9,o 10,o 11,o 12,o 13,o 14,o 15,o 16,o 17,o 18,o 19,o 20,o 21,o 22,o 23,o 24,o 25,o 26,o 27,o 28,o 29,o 30,_,_,_,_,_,_,_,_,_,_,_,_,_],[]⟩ W
   refine wpOp_step rfl fun _ hK => ?_
   go_simp
   exact hK _ _ ⟨rfl,rfl⟩
  ·intro o W _
   show wpOp _ _ _ 10 _ ⟨#[_,_,_,_,_,_,_,_,_,_,_,_,_,_,_,_,_,_,_,_,_,_,_,_,_,_,_,_,_,_,_,_,_,_,_,_,_,_,_,_,o 0,o 1,o 2,o 3,o 4,o 5,o 6,o 7,o 8,.bool false,o 10,o 11,o 12,o 13,o 14,o 15,o 16,o 17,o 18,o 19,o 20,o 21,o 22,o 23,o 24,o 25,o 26,o 27,o 28,o 29,o 30,_,_,_,_,_,_,_,_,_,_,_,_,_],[]⟩ W
   refine wpOp_step rfl fun _ hK => ?_
   go_simp
   exact hK _ _ ⟨rfl,rfl⟩
  ·intro o W hj
   have hj : KL _ _ W := hj
   obtain ⟨cL,c0,c1,c2,c3,c4,c5⟩ := bl6 (KL.blk hj (.tail _ (.tail _ (.tail _ (.head _)))))
   show wpOp _ _ _ 11 _ ⟨#[_,_,_,_,_,_,_,_,_,_,_,_,_,_,_,_,_,_,_,_,_,_,_,_,_,_,_,_,_,_,_,_,_,_,_,_,_,_,_,_,o 0,o 1,o 2,o 3,o 4,o 5,o 6,o 7,o 8,.bool false,.pointer (some ⟨w.heap.size,0,none⟩),o 11,o 12,o 13,o 14,o 15,o 16,o 17,o 18,o 19,o 20,o 21,o 22,o 23,o 24,o 25,o 26,o 27,o 28,o 29,o 30,_,_,_,_,_,_,_,_,_,_,_,_,_],[]⟩ W
   refine wpOp_step rfl fun _ hK => ?_
   go_simp
   exact hK _ _ ⟨rfl,hj⟩
  ·intro o W _
   show wpOp _ _ _ 12 _ ⟨#[_,_,_,_,_,_,_,_,_,_,_,_,_,_,_,_,_,_,_,_,_,_,_,_,_,_,_,_,_,_,_,_,_,_,_,_,_,_,_,_,o 0,o 1,o 2,o 3,o 4,o 5,o 6,o 7,o 8,.bool false,o 10,o 11,o 12,o 13,o 14,o 15,o 16,o 17,o 18,o 19,o 20,o 21,o 22,o 23,o 24,o 25,o 26,o 27,o 28,o 29,o 30,_,_,_,_,_,_,_,_,_,_,_,_,_],[]⟩ W
   refine wpOp_step rfl fun _ hK => ?_
   go_simp
   exact hK _ _ ⟨rfl,rfl⟩
  ·intro o W hj
   have hj : KL _ _ W := hj
   show wpOp _ _ _ 13 _ ⟨#[_,_,_,_,_,_,_,_,_,_,_,_,_,_,_,_,_,_,_,_,_,_,_,_,_,_,_,_,_,_,_,_,_,_,_,_,_,_,_,_,o 0,o 1,o 2,o 3,o 4,o 5,o 6,o 7,o 8,.bool false,o 10,.agg #[x,y,z],.int .i64 k,o 13,o 14,o 15,o 16,o 17,o 18,o 19,o 20,o 21,o 22,o 23,o 24,o 25,o 26,o 27,o 28,o 29,o 30,_,_,_,_,_,_,_,_,_,_,_,_,_],[]⟩ W
   refine wpOp_step rfl fun _ hK => ?_
   go_simp
   refine (p1_ _).mono ?_
   rintro e W1 ⟨rfl,hb1⟩
   exact hK _ _ ⟨rfl,hj.over hb1⟩
  ·intro o W _
   show wpOp _ _ _ 14 _ ⟨#[_,_,_,_,_,_,_,_,_,_,_,_,_,_,_,_,_,_,_,_,_,_,_,_,_,_,_,_,_,_,_,_,_,_,_,_,_,_,_,_,o 0,o 1,o 2,o 3,o 4,o 5,o 6,o 7,o 8,.bool false,o 10,o 11,o 12,o 13,o 14,o 15,o 16,o 17,o 18,o 19,o 20,o 21,o 22,o 23,o 24,o 25,o 26,o 27,o 28,o 29,o 30,_,_,_,_,_,_,_,_,_,_,_,_,_],[]⟩ W
   refine wpOp_step rfl fun _ hK => ?_
   go_simp
   exact hK _ _ ⟨rfl,rfl⟩
  ·intro o W hj
   have hj : KL _ _ W := hj
   obtain ⟨cL,c0,c1,c2,c3,c4,c5⟩ := bl6 (KL.blk hj (.tail _ (.tail _ (.head _))))
   show wpOp _ _ _ 15 _ ⟨#[_,_,_,_,_,_,_,_,_,_,_,_,_,_,_,_,_,_,_,_,_,_,_,_,_,_,_,_,_,_,_,_,_,_,_,_,_,_,_,_,o 0,o 1,o 2,o 3,o 4,o 5,o 6,o 7,o 8,.bool false,o 10,o 11,o 12,o 13,.pointer (some ⟨(w.heap.size + 1),0,none⟩),o 15,o 16,o 17,o 18,o 19,o 20,o 21,o 22,o 23,o 24,o 25,o 26,o 27,o 28,o 29,o 30,_,_,_,_,_,_,_,_,_,_,_,_,_],[]⟩ W
   refine wpOp_step rfl fun _ hK => ?_
   go_simp
   exact hK _ _ ⟨rfl,hj⟩
  ·intro o W _
   show wpOp _ _ _ 16 _ ⟨#[_,_,_,_,_,_,_,_,_,_,_,_,_,_,_,_,_,_,_,_,_,_,_,_,_,_,_,_,_,_,_,_,_,_,_,_,_,_,_,_,o 0,o 1,o 2,o 3,o 4,o 5,o 6,o 7,o 8,.bool false,o 10,o 11,o 12,o 13,o 14,o 15,o 16,o 17,o 18,o 19,o 20,o 21,o 22,o 23,o 24,o 25,o 26,o 27,o 28,o 29,o 30,_,_,_,_,_,_,_,_,_,_,_,_,_],[]⟩ W
   refine wpOp_step rfl fun _ hK => ?_
   go_simp
   exact hK _ _ ⟨rfl,rfl⟩
  ·intro o W hj
   have hj : KL _ _ W := hj
   show wpOp _ _ _ 17 _ ⟨#[_,_,_,_,_,_,_,_,_,_,_,_,_,_,_,_,_,_,_,_,_,_,_,_,_,_,_,_,_,_,_,_,_,_,_,_,_,_,_,_,o 0,o 1,o 2,o 3,o 4,o 5,o 6,o 7,o 8,.bool false,o 10,o 11,o 12,o 13,o 14,.agg #[a,b,c],.int .i64 k,o 17,o 18,o 19,o 20,o 21,o 22,o 23,o 24,o 25,o 26,o 27,o 28,o 29,o 30,_,_,_,_,_,_,_,_,_,_,_,_,_],[]⟩ W
   refine wpOp_step rfl fun _ hK => ?_
   go_simp
   refine (p2_ _).mono ?_
   rintro e W1 ⟨rfl,hb1⟩
   exact hK _ _ ⟨rfl,hj.over hb1⟩
  ·intro o W _
   show wpOp _ _ _ 18 _ ⟨#[_,_,_,_,_,_,_,_,_,_,_,_,_,_,_,_,_,_,_,_,_,_,_,_,_,_,_,_,_,_,_,_,_,_,_,_,_,_,_,_,o 0,o 1,o 2,o 3,o 4,o 5,o 6,o 7,o 8,.bool false,o 10,o 11,o 12,.agg #[m0,m1,m2],o 14,o 15,o 16,.agg #[n0,n1,n2],o 18,o 19,o 20,o 21,o 22,o 23,o 24,o 25,o 26,o 27,o 28,o 29,o 30,_,_,_,_,_,_,_,_,_,_,_,_,_],[]⟩ W
   refine wpOp_step rfl fun _ hK => ?_
   go_simp
   exact hK _ _ ⟨rfl,rfl⟩
  ·intro o W _
   show wpOp _ _ _ 19 _ ⟨#[_,_,_,_,_,_,_,_,_,_,_,_,_,_,_,_,_,_,_,_,_,_,_,_,_,_,_,_,_,_,_,_,_,_,_,_,_,_,_,_,o 0,o 1,o 2,o 3,o 4,o 5,o 6,o 7,o 8,.bool false,o 10,o 11,o 12,o 13,o 14,o 15,o 16,o 17,.bool false,o 19,o 20,o 21,o 22,o 23,o 24,o 25,o 26,o 27,o 28,o 29,o 30,_,_,_,_,_,_,_,_,_,_,_,_,_],[]⟩ W
   refine wpOp_step rfl fun _ hK => ?_
   go_simp
   exact hK _ _ ⟨rfl,rfl⟩
  ·intro o W _
   show wpOp _ _ _ 20 _ ⟨#[_,_,_,_,_,_,_,_,_,_,_,_,_,_,_,_,_,_,_,_,_,_,_,_,_,_,_,_,_,_,_,_,_,_,_,_,_,_,_,_,o 0,o 1,o 2,o 3,o 4,o 5,o 6,o 7,o 8,o 9,o 10,o 11,o 12,o 13,o 14,o 15,o 16,o 17,o 18,.bool false,o 20,o 21,o 22,o 23,o 24,o 25,o 26,o 27,o 28,o 29,o 30,_,_,_,_,_,_,_,_,_,_,_,_,_],[]⟩ W
   refine wpOp_step rfl fun _ hK => ?_
   go_simp
   exact hK _ _ ⟨rfl,rfl⟩
  ·intro o W _
   show wpOp _ _ _ 21 _ ⟨#[_,_,_,_,_,_,_,_,_,_,_,_,_,_,_,_,_,_,_,_,_,_,_,_,_,_,_,_,_,_,_,_,_,_,_,_,_,_,_,_,o 0,o 1,o 2,o 3,o 4,o 5,o 6,o 7,o 8,o 9,o 10,o 11,o 12,o 13,o 14,o 15,o 16,o 17,o 18,o 19,.bool false,o 21,o 22,o 23,o 24,o 25,o 26,o 27,o 28,o 29,o 30,_,_,_,_,_,_,_,_,_,_,_,_,_],[]⟩ W
   refine wpOp_step rfl fun _ hK => ?_
   go_simp
   exact hK _ _ ⟨rfl,rfl⟩
  ·intro o W hj
   have hj : KL _ _ W := hj
   obtain ⟨cL,c0,c1,c2,c3,c4,c5⟩ := bl6 (KL.blk hj (.tail _ (.tail _ (.tail _ (.head _)))))
   show wpOp _ _ _ 22 _ ⟨#[_,_,_,_,_,_,_,_,_,_,_,_,_,_,_,_,_,_,_,_,_,_,_,_,_,_,_,_,_,_,_,_,_,_,_,_,_,_,_,_,o 0,o 1,o 2,o 3,o 4,o 5,o 6,o 7,o 8,o 9,o 10,o 11,o 12,o 13,o 14,o 15,o 16,o 17,o 18,o 19,.bool false,.pointer (some ⟨w.heap.size,3,none⟩),o 22,o 23,o 24,o 25,o 26,o 27,o 28,o 29,o 30,_,_,_,_,_,_,_,_,_,_,_,_,_],[]⟩ W
   refine wpOp_step rfl fun _ hK => ?_
   go_simp
   exact hK _ _ ⟨rfl,hj⟩
  ·intro o W _
   show wpOp _ _ _ 23 _ ⟨#[_,_,_,_,_,_,_,_,_,_,_,_,_,_,_,_,_,_,_,_,_,_,_,_,_,_,_,_,_,_,_,_,_,_,_,_,_,_,_,_,o 0,o 1,o 2,o 3,o 4,o 5,o 6,o 7,o 8,o 9,o 10,o 11,o 12,o 13,o 14,o 15,o 16,o 17,o 18,o 19,.bool false,o 21,o 22,o 23,o 24,o 25,o 26,o 27,o 28,o 29,o 30,_,_,_,_,_,_,_,_,_,_,_,_,_],[]⟩ W
   refine wpOp_step rfl fun _ hK => ?_
   go_simp
   exact hK _ _ ⟨rfl,rfl⟩
  ·intro o W hj
   have hj : KL _ _ W := hj
   show wpOp _ _ _ 24 _ ⟨#[_,_,_,_,_,_,_,_,_,_,_,_,_,_,_,_,_,_,_,_,_,_,_,_,_,_,_,_,_,_,_,_,_,_,_,_,_,_,_,_,o 0,o 1,o 2,o 3,o 4,o 5,o 6,o 7,o 8,o 9,o 10,o 11,o 12,o 13,o 14,o 15,o 16,o 17,o 18,o 19,.bool false,o 21,.agg #[p,q,r],.int .i64 k,o 24,o 25,o 26,o 27,o 28,o 29,o 30,_,_,_,_,_,_,_,_,_,_,_,_,_],[]⟩ W
   refine wpOp_step rfl fun _ hK => ?_
   go_simp
   refine (p3_ _).mono ?_
   rintro e W1 ⟨rfl,hb1⟩
   exact hK _ _ ⟨rfl,hj.over hb1⟩
  ·intro o W _
   show wpOp _ _ _ 25 _ ⟨#[_,_,_,_,_,_,_,_,_,_,_,_,_,_,_,_,_,_,_,_,_,_,_,_,_,_,_,_,_,_,_,_,_,_,_,_,_,_,_,_,o 0,o 1,o 2,o 3,o 4,o 5,o 6,o 7,o 8,o 9,o 10,o 11,o 12,o 13,o 14,o 15,o 16,o 17,o 18,o 19,.bool false,o 21,o 22,o 23,o 24,o 25,o 26,o 27,o 28,o 29,o 30,_,_,_,_,_,_,_,_,_,_,_,_,_],[]⟩ W
   refine wpOp_step rfl fun _ hK => ?_
   go_simp
   exact hK _ _ ⟨rfl,rfl⟩
  ·intro o W hj
   have hj : KL _ _ W := hj
   obtain ⟨cL,c0,c1,c2,c3,c4,c5⟩ := bl6 (KL.blk hj (.tail _ (.tail _ (.head _))))
   show wpOp _ _ _ 26 _ ⟨#[_,_,_,_,_,_,_,_,_,_,_,_,_,_,_,_,_,_,_,_,_,_,_,_,_,_,_,_,_,_,_,_,_,_,_,_,_,_,_,_,o 0,o 1,o 2,o 3,o 4,o 5,o 6,o 7,o 8,o 9,o 10,o 11,o 12,o 13,o 14,o 15,o 16,o 17,o 18,o 19,.bool false,o 21,o 22,o 23,o 24,.pointer (some ⟨(w.heap.size + 1),3,none⟩),o 26,o 27,o 28,o 29,o 30,_,_,_,_,_,_,_,_,_,_,_,_,_],[]⟩ W
   refine wpOp_step rfl fun _ hK => ?_
   go_simp
   exact hK _ _ ⟨rfl,hj⟩
  ·intro o W _
   show wpOp _ _ _ 27 _ ⟨#[_,_,_,_,_,_,_,_,_,_,_,_,_,_,_,_,_,_,_,_,_,_,_,_,_,_,_,_,_,_,_,_,_,_,_,_,_,_,_,_,o 0,o 1,o 2,o 3,o 4,o 5,o 6,o 7,o 8,o 9,o 10,o 11,o 12,o 13,o 14,o 15,o 16,o 17,o 18,o 19,.bool false,o 21,o 22,o 23,o 24,o 25,o 26,o 27,o 28,o 29,o 30,_,_,_,_,_,_,_,_,_,_,_,_,_],[]⟩ W
   refine wpOp_step rfl fun _ hK => ?_
   go_simp
   exact hK _ _ ⟨rfl,rfl⟩
  ·intro o W hj
   have hj : KL _ _ W := hj
   show wpOp _ _ _ 28 _ ⟨#[_,_,_,_,_,_,_,_,_,_,_,_,_,_,_,_,_,_,_,_,_,_,_,_,_,_,_,_,_,_,_,_,_,_,_,_,_,_,_,_,o 0,o 1,o 2,o 3,o 4,o 5,o 6,o 7,o 8,o 9,o 10,o 11,o 12,o 13,o 14,o 15,o 16,o 17,o 18,o 19,.bool false,o 21,o 22,o 23,o 24,o 25,.agg #[d,s,u],.int .i64 k,o 28,o 29,o 30,_,_,_,_,_,_,_,_,_,_,_,_,_],[]⟩ W
   refine wpOp_step rfl fun _ hK => ?_
   go_simp
   refine (p4_ _).mono ?_
   rintro e W1 ⟨rfl,hb1⟩
   exact hK _ _ ⟨rfl,hj.over hb1⟩
  ·intro o W _
   show wpOp _ _ _ 29 _ ⟨#[_,_,_,_,_,_,_,_,_,_,_,_,_,_,_,_,_,_,_,_,_,_,_,_,_,_,_,_,_,_,_,_,_,_,_,_,_,_,_,_,o 0,o 1,o 2,o 3,o 4,o 5,o 6,o 7,o 8,o 9,o 10,o 11,o 12,o 13,o 14,o 15,o 16,o 17,o 18,o 19,.bool false,o 21,o 22,o 23,.agg #[k0,k1,k2],o 25,o 26,o 27,.agg #[l0,l1,l2],o 29,o 30,_,_,_,_,_,_,_,_,_,_,_,_,_],[]⟩ W
   refine wpOp_step rfl fun _ hK => ?_
   go_simp
   exact hK _ _ ⟨rfl,rfl⟩
  ·intro o W _
   show wpOp _ _ _ 30 _ ⟨#[_,_,_,_,_,_,_,_,_,_,_,_,_,_,_,_,_,_,_,_,_,_,_,_,_,_,_,_,_,_,_,_,_,_,_,_,_,_,_,_,o 0,o 1,o 2,o 3,o 4,o 5,o 6,o 7,o 8,o 9,o 10,o 11,o 12,o 13,o 14,o 15,o 16,o 17,o 18,o 19,.bool false,o 21,o 22,o 23,o 24,o 25,o 26,o 27,o 28,.bool false,o 30,_,_,_,_,_,_,_,_,_,_,_,_,_],[]⟩ W
   refine wpOp_step rfl fun _ hK => ?_
   go_simp
   exact hK _ _ ⟨rfl,rfl⟩
  ·intro o hh_
   have e0 : o 0 = .int .i64 ON := hh_ 0 (by decide)
   have e1 : o 1 = .int .i64 AT := hh_ 1 (by decide)
   have e2 : o 2 = .bool false := hh_ 2 (by decide)
   have e3 : o 3 = .bool false := hh_ 3 (by decide)
   have e4 : o 4 = .int .i64 ON := hh_ 4 (by decide)
   have e5 : o 5 = .int .i64 AT := hh_ 5 (by decide)
   have e6 : o 6 = .int .i64 (ON - AT) := hh_ 6 (by decide)
   have e7 : o 7 = .bool false := hh_ 7 (by decide)
   have e8 : o 8 = .bool false := hh_ 8 (by decide)
   have e9 : o 9 = .bool false := hh_ 9 (by decide)
   have e10 : o 10 = .pointer (some ⟨w.heap.size,0,none⟩) := hh_ 10 (by decide)
   have e11 : o 11 = .agg #[x,y,z] := hh_ 11 (by decide)
   have e12 : o 12 = .int .i64 k := hh_ 12 (by decide)
   have e13 : o 13 = .agg #[m0,m1,m2] := hh_ 13 (by decide)
   have e14 : o 14 = .pointer (some ⟨(w.heap.size + 1),0,none⟩) := hh_ 14 (by decide)
   have e15 : o 15 = .agg #[a,b,c] := hh_ 15 (by decide)
   have e16 : o 16 = .int .i64 k := hh_ 16 (by decide)
   have e17 : o 17 = .agg #[n0,n1,n2] := hh_ 17 (by decide)
   have e18 : o 18 = .bool false := hh_ 18 (by decide)
   have e19 : o 19 = .bool false := hh_ 19 (by decide)
   have e20 : o 20 = .bool false := hh_ 20 (by decide)
   have e21 : o 21 = .pointer (some ⟨w.heap.size,3,none⟩) := hh_ 21 (by decide)
   have e22 : o 22 = .agg #[p,q,r] := hh_ 22 (by decide)
   have e23 : o 23 = .int .i64 k := hh_ 23 (by decide)
   have e24 : o 24 = .agg #[k0,k1,k2] := hh_ 24 (by decide)
   have e25 : o 25 = .pointer (some ⟨(w.heap.size + 1),3,none⟩) := hh_ 25 (by decide)
   have e26 : o 26 = .agg #[d,s,u] := hh_ 26 (by decide)
   have e27 : o 27 = .int .i64 k := hh_ 27 (by decide)
   have e28 : o 28 = .agg #[l0,l1,l2] := hh_ 28 (by decide)
   have e29 : o 29 = .bool false := hh_ 29 (by decide)
   have e30 : o 30 = .bool false := hh_ 30 (by decide)
   rw [e0,e1,e2,e3,e4,e5,e6,e7,e8,e9,e10,e11,e12,e13,e14,e15,e16,e17,e18,e19,e20,e21,e22,e23,e24,e25,e26,e27,e28,e29,e30]
  ·intro W2 h2
   have h2 : KL _ _ W2 := h2
   obtain ⟨bL0,b0_0,b0_1,b0_2⟩ := bl3 (KL.blk h2 (.head _))
   have bF0 := (KL.blk h2 (.head _)).frozen
   obtain ⟨bL1,b1_0,b1_1,b1_2,b1_3,b1_4,b1_5⟩ := bl6 (KL.blk h2 (.tail _ (.head _)))
   have bF1 := (KL.blk h2 (.tail _ (.head _))).frozen
   obtain ⟨bL2,b2_0,b2_1,b2_2,b2_3,b2_4,b2_5⟩ := bl6 (KL.blk h2 (.tail _ (.tail _ (.head _))))
   obtain ⟨bL3,b3_0,b3_1,b3_2,b3_3,b3_4,b3_5⟩ := bl6 (KL.blk h2 (.tail _ (.tail _ (.tail _ (.head _)))))
   have hjb := h2.1
   have hjz := hjb.size
   go_wp2
   have hz : KL [((w.heap.size + 1 + 1 + 1),27,#[k,.int .i64 AT,.int .i64 (ON - AT)]),((w.heap.size + 1 + 1),25,#[x,y,z,d,s,u]),((w.heap.size + 1),25,#[a,b,c,d,s,u]),(w.heap.size,25,#[x,y,z,p,q,r])] w _ := (KL.up3 0 (KL.up6 1 h2 rfl (by omega) (by simp <;> omega)) rfl (by omega) (by simp <;> omega))
   obtain ⟨eL,e0,e1,e2,e3,e4,e5⟩ := bl6 (KL.blk hz (.tail _ (.head _)))
   obtain ⟨iL,i0,i1,i2⟩ := bl3 (KL.blk hz (.head _))
   exact bodyPost_ret (v := .tuple #[.agg #[x,y,z,d,s,u],.agg #[k,.int .i64 AT,.int .i64 (ON - AT)],.int .i64 0]) (by simp [results,Try.results21,go_sem,e0,e1,e2,e3,e4,e5,i0,i1,i2]) rfl ⟨rfl,hz.1⟩
end Go.Proofs.Ytogmgaaejepcbaa
