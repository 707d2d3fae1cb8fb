/- The reference Fits and Spread,one way each. -/
import Derived.Test.YtoenojnfhiimpaaNum
import Derived.WalkSpells
import Derived.WalkLawsBesides
import Derived.Deep.QuietTactic
import Derived.BigQuiet
import Derived.Laws.StructEq
namespace Go.Proofs.Ytoenojnfhiimpaa
open Go.RowKit

set_option maxHeartbeats 8000000 in
set_option maxRecDepth 100000 in
theorem rfits_c (a b c d p q n r x g wd l c0 : Int)  (h0 : (c0 != 0) = true) (hck : ∀ w,Calls Try.prog 13 #[.agg #[a,b,c,d,p,q]] w fun e w' => e = .returned (.int .i64 c0) ∧ Below w.heap.size w w') (w : World) :
  Calls Try.prog 15 #[.agg #[a,b,c,d,p,q],.agg #[n,r,x,g,wd,l]] w fun e w' => e = .returned (.int .i64 c0) ∧ Below w.heap.size w w' := by
 go_enter Try.func15,Try.ntmps15
 go_wp2_with (first
  | (go_at_call 13; (with_reducible refine ((hck _)).mono ?_); rintro e w1 ⟨rfl,hb1⟩; have hj1 : KL [((w.heap.size + 1),27,#[n,r,x,g,wd,l]),(w.heap.size,25,#[a,b,c,d,p,q])] w w1 := KL.over (KL.new (g := (w.heap.size + 1)) (KL.new (g := w.heap.size) (KL.nil w) rfl _ _) (by simp) _ _) hb1; have hz1 := hb1.size; obtain ⟨c1_L0,c1_0_0,c1_0_1,c1_0_2,c1_0_3,c1_0_4,c1_0_5⟩ := bl6 (KL.blk hj1 (.head _)); have c1_F0 := (KL.blk hj1 (.head _)).frozen; obtain ⟨c1_L1,c1_1_0,c1_1_1,c1_1_2,c1_1_3,c1_1_4,c1_1_5⟩ := bl6 (KL.blk hj1 (.tail _ (.head _))); have c1_F1 := (KL.blk hj1 (.tail _ (.head _))).frozen))
 go_ret
 exact ⟨rfl,((show KL [((w.heap.size + 1),27,#[n,r,x,g,wd,l]),(w.heap.size,25,#[a,b,c,d,p,q])] w _ from hj1)).1⟩
set_option maxHeartbeats 8000000 in
set_option maxRecDepth 100000 in
theorem rfits_v (a b c d p q n r x g wd l c0 : Int)  (h0 : (c0 != 0) = false) (hck : ∀ w,Calls Try.prog 13 #[.agg #[a,b,c,d,p,q]] w fun e w' => e = .returned (.int .i64 c0) ∧ Below w.heap.size w w') (hvl : ∀ w,Calls Try.prog 18 #[.agg #[n,r,x,g,wd,l]] w fun e w' => e = .returned (.bool false) ∧ Below w.heap.size w w') (w : World) :
  Calls Try.prog 15 #[.agg #[a,b,c,d,p,q],.agg #[n,r,x,g,wd,l]] w fun e w' => e = .returned (.int .i64 1) ∧ Below w.heap.size w w' := by
 go_enter Try.func15,Try.ntmps15
 go_wp2_with (first
  | (go_at_call 13; (with_reducible refine ((hck _)).mono ?_); rintro e w1 ⟨rfl,hb1⟩; have hj1 : KL [((w.heap.size + 1),27,#[n,r,x,g,wd,l]),(w.heap.size,25,#[a,b,c,d,p,q])] w w1 := KL.over (KL.new (g := (w.heap.size + 1)) (KL.new (g := w.heap.size) (KL.nil w) rfl _ _) (by simp) _ _) hb1; have hz1 := hb1.size; obtain ⟨c1_L0,c1_0_0,c1_0_1,c1_0_2,c1_0_3,c1_0_4,c1_0_5⟩ := bl6 (KL.blk hj1 (.head _)); have c1_F0 := (KL.blk hj1 (.head _)).frozen; obtain ⟨c1_L1,c1_1_0,c1_1_1,c1_1_2,c1_1_3,c1_1_4,c1_1_5⟩ := bl6 (KL.blk hj1 (.tail _ (.head _))); have c1_F1 := (KL.blk hj1 (.tail _ (.head _))).frozen)
  | (go_at_call 18; (with_reducible refine ((hvl _)).mono ?_); rintro e w2 ⟨rfl,hb2⟩; have hj2 : KL [((w.heap.size + 1),27,#[n,r,x,g,wd,l]),(w.heap.size,25,#[a,b,c,d,p,q])] w w2 := KL.over hj1 hb2; have hz2 := hb2.size; obtain ⟨c2_L0,c2_0_0,c2_0_1,c2_0_2,c2_0_3,c2_0_4,c2_0_5⟩ := bl6 (KL.blk hj2 (.head _)); have c2_F0 := (KL.blk hj2 (.head _)).frozen; obtain ⟨c2_L1,c2_1_0,c2_1_1,c2_1_2,c2_1_3,c2_1_4,c2_1_5⟩ := bl6 (KL.blk hj2 (.tail _ (.head _))); have c2_F1 := (KL.blk hj2 (.tail _ (.head _))).frozen))
 go_ret
 exact ⟨rfl,((show KL [((w.heap.size + 1),27,#[n,r,x,g,wd,l]),(w.heap.size,25,#[a,b,c,d,p,q])] w _ from hj2)).1⟩
set_option maxHeartbeats 8000000 in
set_option maxRecDepth 100000 in
theorem rfits_k (a b c d p q n r x g wd l c0 k0 : Int)  (h0 : (c0 != 0) = false) (hck : ∀ w,Calls Try.prog 13 #[.agg #[a,b,c,d,p,q]] w fun e w' => e = .returned (.int .i64 c0) ∧ Below w.heap.size w w') (hvl : ∀ w,Calls Try.prog 18 #[.agg #[n,r,x,g,wd,l]] w fun e w' => e = .returned (.bool true) ∧ Below w.heap.size w w') (hkp : ∀ w,Calls Try.prog 37 #[.agg #[a,b,c,d,p,q],.agg #[n,r,x,g,wd,l]] w fun e w' => e = .returned (.int .i64 k0) ∧ Below w.heap.size w w') (w : World) :
  Calls Try.prog 15 #[.agg #[a,b,c,d,p,q],.agg #[n,r,x,g,wd,l]] w fun e w' => e = .returned (.int .i64 k0) ∧ Below w.heap.size w w' := by
 go_enter Try.func15,Try.ntmps15
 go_wp2_with (first
  | (go_at_call 13; (with_reducible refine ((hck _)).mono ?_); rintro e w1 ⟨rfl,hb1⟩; have hj1 : KL [((w.heap.size + 1),27,#[n,r,x,g,wd,l]),(w.heap.size,25,#[a,b,c,d,p,q])] w w1 := KL.over (KL.new (g := (w.heap.size + 1)) (KL.new (g := w.heap.size) (KL.nil w) rfl _ _) (by simp) _ _) hb1; have hz1 := hb1.size; obtain ⟨c1_L0,c1_0_0,c1_0_1,c1_0_2,c1_0_3,c1_0_4,c1_0_5⟩ := bl6 (KL.blk hj1 (.head _)); have c1_F0 := (KL.blk hj1 (.head _)).frozen; obtain ⟨c1_L1,c1_1_0,c1_1_1,c1_1_2,c1_1_3,c1_1_4,c1_1_5⟩ := bl6 (KL.blk hj1 (.tail _ (.head _))); have c1_F1 := (KL.blk hj1 (.tail _ (.head _))).frozen)
  | (go_at_call 18; (with_reducible refine ((hvl _)).mono ?_); rintro e w2 ⟨rfl,hb2⟩; have hj2 : KL [((w.heap.size + 1),27,#[n,r,x,g,wd,l]),(w.heap.size,25,#[a,b,c,d,p,q])] w w2 := KL.over hj1 hb2; have hz2 := hb2.size; obtain ⟨c2_L0,c2_0_0,c2_0_1,c2_0_2,c2_0_3,c2_0_4,c2_0_5⟩ := bl6 (KL.blk hj2 (.head _)); have c2_F0 := (KL.blk hj2 (.head _)).frozen; obtain ⟨c2_L1,c2_1_0,c2_1_1,c2_1_2,c2_1_3,c2_1_4,c2_1_5⟩ := bl6 (KL.blk hj2 (.tail _ (.head _))); have c2_F1 := (KL.blk hj2 (.tail _ (.head _))).frozen)
  | (go_at_call 37; (with_reducible refine ((hkp _)).mono ?_); rintro e w3 ⟨rfl,hb3⟩; have hj3 : KL [((w.heap.size + 1),27,#[n,r,x,g,wd,l]),(w.heap.size,25,#[a,b,c,d,p,q])] w w3 := KL.over hj2 hb3; have hz3 := hb3.size; obtain ⟨c3_L0,c3_0_0,c3_0_1,c3_0_2,c3_0_3,c3_0_4,c3_0_5⟩ := bl6 (KL.blk hj3 (.head _)); have c3_F0 := (KL.blk hj3 (.head _)).frozen; obtain ⟨c3_L1,c3_1_0,c3_1_1,c3_1_2,c3_1_3,c3_1_4,c3_1_5⟩ := bl6 (KL.blk hj3 (.tail _ (.head _))); have c3_F1 := (KL.blk hj3 (.tail _ (.head _))).frozen))
 go_ret
 exact ⟨rfl,((show KL [((w.heap.size + 1),27,#[n,r,x,g,wd,l]),(w.heap.size,25,#[a,b,c,d,p,q])] w _ from hj3)).1⟩
set_option maxHeartbeats 8000000 in
set_option maxRecDepth 100000 in
theorem rspread_any (n r x g wd l k n1 nk lo hi v : Int)  (e1 : IntKind.i64.wrap (n - 1) = n1) (e2 : IntKind.i64.wrap (n * k) = nk) (e3 : IntKind.i64.wrap (v - nk) = lo) (e4 : IntKind.i64.wrap (v + nk) = hi) (hlv : ∀ w,Calls Try.prog 19 #[.agg #[n,r,x,g,wd,l],.int .i64 n1] w fun e w' => e = .returned (.int .i64 v) ∧ Below w.heap.size w w') (w : World) :
  Calls Try.prog 26 #[.agg #[n,r,x,g,wd,l],.int .i64 k] w fun e w' => e = .returned (.agg #[lo,hi]) ∧ Below w.heap.size w w' := by
 go_enter Try.func26,Try.ntmps26
 go_wp2_with (first
  | (go_at_call 19; (with_reducible refine ((hlv _)).mono ?_); rintro e w1 ⟨rfl,hb1⟩; have hj1 : KL [((w.heap.size + 1),23,#[.int .i64 0,.int .i64 0]),(w.heap.size,27,#[n,r,x,g,wd,l])] w w1 := KL.over (KL.new (g := (w.heap.size + 1)) (KL.new (g := w.heap.size) (KL.nil w) rfl _ _) (by simp) _ _) hb1; have hz1 := hb1.size; obtain ⟨c1_L0,c1_0_0,c1_0_1⟩ := bl2 (KL.blk hj1 (.head _)); have c1_F0 := (KL.blk hj1 (.head _)).frozen; obtain ⟨c1_L1,c1_1_0,c1_1_1,c1_1_2,c1_1_3,c1_1_4,c1_1_5⟩ := bl6 (KL.blk hj1 (.tail _ (.head _))); have c1_F1 := (KL.blk hj1 (.tail _ (.head _))).frozen))
 exact bodyPost_ret (v := .agg #[lo,hi]) (by first | (simp [results,Try.results26,go_sem]; done) | simp [*,results,Try.results26,go_sem]) rfl ⟨rfl,((show KL [((w.heap.size + 1),23,#[lo,hi]),(w.heap.size,27,#[n,r,x,g,wd,l])] w _ from (KL.up2 (Z := [((w.heap.size + 1),23,#[.int .i64 0,.int .i64 0]),(w.heap.size,27,#[n,r,x,g,wd,l])]) 0 hj1 rfl (by omega) (by simp <;> omega)))).1⟩
end Go.Proofs.Ytoenojnfhiimpaa
