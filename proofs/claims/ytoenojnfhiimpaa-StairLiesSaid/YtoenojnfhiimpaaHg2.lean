/- Stones of a flight that is not valid. -/
import Derived.Test.YtoenojnfhiimpaaNum
import Derived.WalkSpells
import Derived.WalkLawsBesides
import Derived.Deep.QuietTactic
import Derived.BigQuiet
import Derived.Laws.StructEq
namespace Go.Proofs.Ytoenojnfhiimpaa
open Go.RowKit

set_option maxHeartbeats 8000000 in
set_option maxRecDepth 100000 in
theorem stones_bad (n r x g wd l : Int)  (hcf : ∀ w,Calls Try.prog 34 #[.agg #[n,r,x,g,wd,l]] w fun e w' => e = .returned (.int .i64 1) ∧ Below w.heap.size w w') (w : World) :
  Calls Try.prog 22 #[.agg #[n,r,x,g,wd,l]] w fun e w' => e = .returned (.tuple #[.slice none 0 0,.int .i64 1]) ∧ Below w.heap.size w w' := by
 go_enter Try.func22,Try.ntmps22
 go_wp2_with (first
  | (go_at_call 34; (with_reducible refine ((hcf _)).mono ?_); rintro e w1 ⟨rfl,hb1⟩; have hj1 : KL [(w.heap.size,34,#[n,r,x,g,wd,l])] w w1 := KL.over (KL.new (g := w.heap.size) (KL.nil w) rfl _ _) hb1; have hz1 := hb1.size; obtain ⟨c1_L0,c1_0_0,c1_0_1,c1_0_2,c1_0_3,c1_0_4,c1_0_5⟩ := bl6 (KL.blk hj1 (.head _)); have c1_F0 := (KL.blk hj1 (.head _)).frozen))
 go_ret2
 exact ⟨rfl,((show KL [(w.heap.size,34,#[n,r,x,g,wd,l])] w _ from hj1)).1⟩
end Go.Proofs.Ytoenojnfhiimpaa
