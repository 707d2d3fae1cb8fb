/- StairPlans,one way. -/
import Derived.Test.YtoenojnfhiimpaaAwk
import Derived.WalkSpells
import Derived.WalkLawsBesides
import Derived.Deep.QuietTactic
import Derived.BigQuiet
import Derived.Laws.StructEq
namespace Go.Proofs.Ytoenojnfhiimpaa
open Go.RowKit

set_option maxHeartbeats 8000000 in
set_option maxRecDepth 100000 in
theorem plans_way (a b c d p q H L wd0 l0 n r x g wd l E : Int)  (hp : ∀ w,Calls Try.prog 20 #[.agg #[a,b,c,d,p,q],.int .i64 H,.int .i64 L,.int .i64 wd0,.int .i64 l0] w fun e w' => e = .returned (.tuple #[.agg #[n,r,x,g,wd,l],.int .i64 E]) ∧ Below w.heap.size w w') (hq : ∀ w,Calls Try.prog 21 #[.agg #[a,b,c,d,p,q],.int .i64 H,.int .i64 L,.int .i64 wd0,.int .i64 l0] w fun e w' => e = .returned (.tuple #[.agg #[n,r,x,g,wd,l],.int .i64 E]) ∧ Below w.heap.size w w') (hF : ∀ w,Sem.run Try.prog (binOp .eql 27 (.agg #[n,r,x,g,wd,l]) (.agg #[n,r,x,g,wd,l])) w = .ok (.bool true) w) (w : World) :
  Calls Try.prog 4 #[.agg #[a,b,c,d,p,q],.int .i64 H,.int .i64 L,.int .i64 wd0,.int .i64 l0] w fun e w' => e = .returned (.bool true) ∧ Below w.heap.size w w' := by
 go_enter Try.func4,Try.ntmps4
 go_wp2_with (first
  | (go_at_call 11; (with_reducible refine ((awake_any _)).mono ?_); rintro e w1 ⟨rfl,hb1⟩; have hj1 : KL [(w.heap.size,25,#[a,b,c,d,p,q])] w w1 := KL.over (KL.new (g := w.heap.size) (KL.nil w) rfl _ _) hb1; have hz1 := hb1.size; obtain ⟨c1_L0,c1_0_0,c1_0_1,c1_0_2,c1_0_3,c1_0_4,c1_0_5⟩ := bl6 (KL.blk hj1 (.head _)); have c1_F0 := (KL.blk hj1 (.head _)).frozen)
  | (go_at_call 20; (with_reducible refine ((hp _)).mono ?_); rintro e w2 ⟨rfl,hb2⟩; have hj2 : KL [(w.heap.size,25,#[a,b,c,d,p,q])] w w2 := KL.over hj1 hb2; have hz2 := hb2.size; obtain ⟨c2_L0,c2_0_0,c2_0_1,c2_0_2,c2_0_3,c2_0_4,c2_0_5⟩ := bl6 (KL.blk hj2 (.head _)); have c2_F0 := (KL.blk hj2 (.head _)).frozen)
  | (go_at_call 21; (with_reducible refine ((hq _)).mono ?_); rintro e w3 ⟨rfl,hb3⟩; have hj3 : KL [(w2.heap.size,34,#[n,r,x,g,wd,l]),(w.heap.size,25,#[a,b,c,d,p,q])] w w3 := KL.over (KL.new (g := w2.heap.size) hj2 rfl _ _) hb3; have hz3 := hb3.size; obtain ⟨c3_L0,c3_0_0,c3_0_1,c3_0_2,c3_0_3,c3_0_4,c3_0_5⟩ := bl6 (KL.blk hj3 (.head _)); have c3_F0 := (KL.blk hj3 (.head _)).frozen; obtain ⟨c3_L1,c3_1_0,c3_1_1,c3_1_2,c3_1_3,c3_1_4,c3_1_5⟩ := bl6 (KL.blk hj3 (.tail _ (.head _))); have c3_F1 := (KL.blk hj3 (.tail _ (.head _))).frozen))
 go_ret
 exact ⟨rfl,((show KL [(w3.heap.size,27,#[n,r,x,g,wd,l]),(w2.heap.size,34,#[n,r,x,g,wd,l]),(w.heap.size,25,#[a,b,c,d,p,q])] w _ from (KL.new (g := w3.heap.size) hj3 rfl _ _))).1⟩
end Go.Proofs.Ytoenojnfhiimpaa
