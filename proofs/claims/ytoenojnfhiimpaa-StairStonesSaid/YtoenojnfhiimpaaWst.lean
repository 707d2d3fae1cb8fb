/- StairStones,one way each. -/
import Derived.Test.YtoenojnfhiimpaaAwk
import Derived.Test.YtoenojnfhiimpaaSam
import Derived.WalkSpells
import Derived.WalkLawsBesides
import Derived.Deep.QuietTactic
import Derived.BigQuiet
import Derived.Laws.StructEq
namespace Go.Proofs.Ytoenojnfhiimpaa
open Go.RowKit

set_option maxHeartbeats 8000000 in
set_option maxRecDepth 100000 in
theorem wst_bad (N r x g wd l t : Int)  (hs1 : ∀ w,Calls Try.prog 22 #[.agg #[.int .i64 N,r,x,g,wd,l]] w fun e w' => e = .returned (.tuple #[.slice none 0 0,.int .i64 1]) ∧ Below w.heap.size w w') (hsp : ∀ w,Calls Try.prog 23 #[.agg #[.int .i64 N,r,x,g,wd,l],.int .i64 t] w fun e w' => e = .returned (.tuple #[.agg #[.int .i64 0,.int .i64 0],.int .i64 1]) ∧ Below w.heap.size w w') (hv : ∀ w,Calls Try.prog 18 #[.agg #[.int .i64 N,r,x,g,wd,l]] w fun e w' => e = .returned (.bool false) ∧ Below w.heap.size w w') (w : World) :
  Calls Try.prog 5 #[.agg #[.int .i64 N,r,x,g,wd,l],.int .i64 t] w fun e w' => e = .returned (.bool true) ∧ Below w.heap.size w w' := by
 have qe0 : ∀ w,Sem.run Try.prog (binOp .eql 23 (.agg #[.int .i64 0,.int .i64 0]) (.agg #[.int .i64 0,.int .i64 0])) w = .ok (.bool true) w := fun w => by kernel_rfl
 go_enter Try.func5,Try.ntmps5
 go_wp2_with (first
  | (go_at_call 11; (with_reducible refine ((awake_any _)).mono ?_); rintro e w1 ⟨rfl,hb1⟩; have hj1 : KL [(w.heap.size,27,#[.int .i64 N,r,x,g,wd,l])] w w1 := KL.over (KL.new (g := w.heap.size) (KL.nil w) rfl _ _) hb1; have hz1 := hb1.size; obtain ⟨c1_L0,c1_0_0,c1_0_1,c1_0_2,c1_0_3,c1_0_4,c1_0_5⟩ := bl6 (KL.blk hj1 (.head _)); have c1_F0 := (KL.blk hj1 (.head _)).frozen)
  | (go_at_call 22; (with_reducible refine ((hs1 _)).mono ?_); rintro e w2 ⟨rfl,hb2⟩; have hj2 : KL [(w.heap.size,27,#[.int .i64 N,r,x,g,wd,l])] w w2 := KL.over hj1 hb2; have hz2 := hb2.size; obtain ⟨c2_L0,c2_0_0,c2_0_1,c2_0_2,c2_0_3,c2_0_4,c2_0_5⟩ := bl6 (KL.blk hj2 (.head _)); have c2_F0 := (KL.blk hj2 (.head _)).frozen)
  | (go_at_call 23; (with_reducible refine ((hsp _)).mono ?_); rintro e w3 ⟨rfl,hb3⟩; have hj3 : KL [(w.heap.size,27,#[.int .i64 N,r,x,g,wd,l])] w w3 := KL.over hj2 hb3; have hz3 := hb3.size; obtain ⟨c3_L0,c3_0_0,c3_0_1,c3_0_2,c3_0_3,c3_0_4,c3_0_5⟩ := bl6 (KL.blk hj3 (.head _)); have c3_F0 := (KL.blk hj3 (.head _)).frozen)
  | (go_at_call 18; (with_reducible refine ((hv _)).mono ?_); rintro e w4 ⟨rfl,hb4⟩; have hj4 : KL [(w3.heap.size,23,#[.int .i64 0,.int .i64 0]),(w.heap.size,27,#[.int .i64 N,r,x,g,wd,l])] w w4 := KL.over (KL.new (g := w3.heap.size) hj3 rfl _ _) hb4; have hz4 := hb4.size; obtain ⟨c4_L0,c4_0_0,c4_0_1⟩ := bl2 (KL.blk hj4 (.head _)); have c4_F0 := (KL.blk hj4 (.head _)).frozen; obtain ⟨c4_L1,c4_1_0,c4_1_1,c4_1_2,c4_1_3,c4_1_4,c4_1_5⟩ := bl6 (KL.blk hj4 (.tail _ (.head _))); have c4_F1 := (KL.blk hj4 (.tail _ (.head _))).frozen))
 go_ret
 exact ⟨rfl,((show KL [(w3.heap.size,23,#[.int .i64 0,.int .i64 0]),(w.heap.size,27,#[.int .i64 N,r,x,g,wd,l])] w _ from hj4)).1⟩
set_option maxHeartbeats 8000000 in
set_option maxRecDepth 100000 in
theorem wst_neg (n : Nat) (N r x g wd l t : Int)  (hs1 : ∀ w,Calls Try.prog 22 #[.agg #[.int .i64 N,r,x,g,wd,l]] w fun e w' => ∃ (k c : Nat) (cur : Array Value),e = .returned (.tuple #[.slice (some ⟨k,0,none⟩) n c,.int .i64 0]) ∧ w.heap.size ≤ k ∧ Blk w' k 66 cur ∧ cur.toList.take (n * 6) = rowTo (stn r x g wd l) n ∧ Below w.heap.size w w') (hs2 : ∀ w,Calls Try.prog 25 #[.agg #[.int .i64 N,r,x,g,wd,l]] w fun e w' => ∃ (k c : Nat) (cur : Array Value),e = .returned (.slice (some ⟨k,0,none⟩) n c) ∧ w.heap.size ≤ k ∧ Blk w' k 66 cur ∧ cur.toList.take (n * 6) = rowTo (stn r x g wd l) n ∧ Below w.heap.size w w') (hn : n ≤ 64) (hsp : ∀ w,Calls Try.prog 23 #[.agg #[.int .i64 N,r,x,g,wd,l],.int .i64 t] w fun e w' => e = .returned (.tuple #[.agg #[.int .i64 0,.int .i64 0],.int .i64 6]) ∧ Below w.heap.size w w') (hv : ∀ w,Calls Try.prog 18 #[.agg #[.int .i64 N,r,x,g,wd,l]] w fun e w' => e = .returned (.bool true) ∧ Below w.heap.size w w') (g1 : decide (t < 0) = true) (w : World) :
  Calls Try.prog 5 #[.agg #[.int .i64 N,r,x,g,wd,l],.int .i64 t] w fun e w' => e = .returned (.bool true) ∧ Below w.heap.size w w' := by
 have qe0 : ∀ w,Sem.run Try.prog (binOp .eql 23 (.agg #[.int .i64 0,.int .i64 0]) (.agg #[.int .i64 0,.int .i64 0])) w = .ok (.bool true) w := fun w => by kernel_rfl
 go_enter Try.func5,Try.ntmps5
 go_wp2_with (first
  | (go_at_call 11; (with_reducible refine ((awake_any _)).mono ?_); rintro e w1 ⟨rfl,hb1⟩; have hj1 : KL [(w.heap.size,27,#[.int .i64 N,r,x,g,wd,l])] w w1 := KL.over (KL.new (g := w.heap.size) (KL.nil w) rfl _ _) hb1; have hz1 := hb1.size; obtain ⟨c1_L0,c1_0_0,c1_0_1,c1_0_2,c1_0_3,c1_0_4,c1_0_5⟩ := bl6 (KL.blk hj1 (.head _)); have c1_F0 := (KL.blk hj1 (.head _)).frozen)
  | (go_at_call 22; (with_reducible refine ((hs1 _)).mono ?_); rintro e w2 ⟨k2,c2,cur2,rfl,hw2,hB2,ht2,hb2⟩; have hj2 : KL [(k2,66,cur2),(w.heap.size,27,#[.int .i64 N,r,x,g,wd,l])] w w2 := KL.cons hB2 (KL.over hj1 hb2); have hz2 := hb2.size; have c2_L0 := (KL.blk hj2 (.head _)).lt; obtain ⟨c2_L1,c2_1_0,c2_1_1,c2_1_2,c2_1_3,c2_1_4,c2_1_5⟩ := bl6 (KL.blk hj2 (.tail _ (.head _))); have c2_F1 := (KL.blk hj2 (.tail _ (.head _))).frozen)
  | (go_at_call 23; (with_reducible refine ((hsp _)).mono ?_); rintro e w3 ⟨rfl,hb3⟩; have hj3 : KL [(k2,66,cur2),(w.heap.size,27,#[.int .i64 N,r,x,g,wd,l])] w w3 := KL.over hj2 hb3; have hz3 := hb3.size; have c3_L0 := (KL.blk hj3 (.head _)).lt; obtain ⟨c3_L1,c3_1_0,c3_1_1,c3_1_2,c3_1_3,c3_1_4,c3_1_5⟩ := bl6 (KL.blk hj3 (.tail _ (.head _))); have c3_F1 := (KL.blk hj3 (.tail _ (.head _))).frozen)
  | (go_at_call 18; (with_reducible refine ((hv _)).mono ?_); rintro e w4 ⟨rfl,hb4⟩; have hj4 : KL [(w3.heap.size,23,#[.int .i64 0,.int .i64 0]),(k2,66,cur2),(w.heap.size,27,#[.int .i64 N,r,x,g,wd,l])] w w4 := KL.over (KL.new (g := w3.heap.size) hj3 rfl _ _) hb4; have hz4 := hb4.size; obtain ⟨c4_L0,c4_0_0,c4_0_1⟩ := bl2 (KL.blk hj4 (.head _)); have c4_F0 := (KL.blk hj4 (.head _)).frozen; have c4_L1 := (KL.blk hj4 (.tail _ (.head _))).lt; obtain ⟨c4_L2,c4_2_0,c4_2_1,c4_2_2,c4_2_3,c4_2_4,c4_2_5⟩ := bl6 (KL.blk hj4 (.tail _ (.tail _ (.head _)))); have c4_F2 := (KL.blk hj4 (.tail _ (.tail _ (.head _)))).frozen)
  | (go_at_call 25; (with_reducible refine ((hs2 _)).mono ?_); rintro e w5 ⟨k5,c5,cur5,rfl,hw5,hB5,ht5,hb5⟩; have hj5 : KL [(k5,66,cur5),(w3.heap.size,23,#[.int .i64 0,.int .i64 0]),(k2,66,cur2),(w.heap.size,27,#[.int .i64 N,r,x,g,wd,l])] w w5 := KL.cons hB5 (KL.over hj4 hb5); have hz5 := hb5.size; have c5_L0 := (KL.blk hj5 (.head _)).lt; obtain ⟨c5_L1,c5_1_0,c5_1_1⟩ := bl2 (KL.blk hj5 (.tail _ (.head _))); have c5_F1 := (KL.blk hj5 (.tail _ (.head _))).frozen; have c5_L2 := (KL.blk hj5 (.tail _ (.tail _ (.head _)))).lt; obtain ⟨c5_L3,c5_3_0,c5_3_1,c5_3_2,c5_3_3,c5_3_4,c5_3_5⟩ := bl6 (KL.blk hj5 (.tail _ (.tail _ (.tail _ (.head _))))); have c5_F3 := (KL.blk hj5 (.tail _ (.tail _ (.tail _ (.head _))))).frozen)
  | (go_at_call 24; (refine ((same_blk (KL.blk (show KL [(k5,66,cur5),(w3.heap.size,23,#[.int .i64 0,.int .i64 0]),(k2,66,cur2),(w.heap.size,27,#[.int .i64 N,r,x,g,wd,l])] w _ from hj5) (.tail _ (.tail _ (.head _)))) ht2 (KL.blk (show KL [(k5,66,cur5),(w3.heap.size,23,#[.int .i64 0,.int .i64 0]),(k2,66,cur2),(w.heap.size,27,#[.int .i64 N,r,x,g,wd,l])] w _ from hj5) (.head _)) ht5 hn)).mono ?_); rintro e w6 ⟨rfl,hb6⟩; have hj6 : KL [(k5,66,cur5),(w3.heap.size,23,#[.int .i64 0,.int .i64 0]),(k2,66,cur2),(w.heap.size,27,#[.int .i64 N,r,x,g,wd,l])] w w6 := KL.over hj5 hb6; have hz6 := hb6.size; have c6_L0 := (KL.blk hj6 (.head _)).lt; obtain ⟨c6_L1,c6_1_0,c6_1_1⟩ := bl2 (KL.blk hj6 (.tail _ (.head _))); have c6_F1 := (KL.blk hj6 (.tail _ (.head _))).frozen; have c6_L2 := (KL.blk hj6 (.tail _ (.tail _ (.head _)))).lt; obtain ⟨c6_L3,c6_3_0,c6_3_1,c6_3_2,c6_3_3,c6_3_4,c6_3_5⟩ := bl6 (KL.blk hj6 (.tail _ (.tail _ (.tail _ (.head _))))); have c6_F3 := (KL.blk hj6 (.tail _ (.tail _ (.tail _ (.head _))))).frozen))
 go_ret
 exact ⟨rfl,((show KL [(k5,66,cur5),(w3.heap.size,23,#[.int .i64 0,.int .i64 0]),(k2,66,cur2),(w.heap.size,27,#[.int .i64 N,r,x,g,wd,l])] w _ from hj6)).1⟩
set_option maxHeartbeats 8000000 in
set_option maxRecDepth 100000 in
theorem wst_far (n : Nat) (N r x g wd l t : Int)  (hs1 : ∀ w,Calls Try.prog 22 #[.agg #[.int .i64 N,r,x,g,wd,l]] w fun e w' => ∃ (k c : Nat) (cur : Array Value),e = .returned (.tuple #[.slice (some ⟨k,0,none⟩) n c,.int .i64 0]) ∧ w.heap.size ≤ k ∧ Blk w' k 66 cur ∧ cur.toList.take (n * 6) = rowTo (stn r x g wd l) n ∧ Below w.heap.size w w') (hs2 : ∀ w,Calls Try.prog 25 #[.agg #[.int .i64 N,r,x,g,wd,l]] w fun e w' => ∃ (k c : Nat) (cur : Array Value),e = .returned (.slice (some ⟨k,0,none⟩) n c) ∧ w.heap.size ≤ k ∧ Blk w' k 66 cur ∧ cur.toList.take (n * 6) = rowTo (stn r x g wd l) n ∧ Below w.heap.size w w') (hn : n ≤ 64) (hsp : ∀ w,Calls Try.prog 23 #[.agg #[.int .i64 N,r,x,g,wd,l],.int .i64 t] w fun e w' => e = .returned (.tuple #[.agg #[.int .i64 0,.int .i64 0],.int .i64 6]) ∧ Below w.heap.size w w') (hv : ∀ w,Calls Try.prog 18 #[.agg #[.int .i64 N,r,x,g,wd,l]] w fun e w' => e = .returned (.bool true) ∧ Below w.heap.size w w') (g1 : decide (t < 0) = false) (g2 : decide (1000 < t) = true) (w : World) :
  Calls Try.prog 5 #[.agg #[.int .i64 N,r,x,g,wd,l],.int .i64 t] w fun e w' => e = .returned (.bool true) ∧ Below w.heap.size w w' := by
 have qe0 : ∀ w,Sem.run Try.prog (binOp .eql 23 (.agg #[.int .i64 0,.int .i64 0]) (.agg #[.int .i64 0,.int .i64 0])) w = .ok (.bool true) w := fun w => by kernel_rfl
 go_enter Try.func5,Try.ntmps5
 go_wp2_with (first
  | (go_at_call 11; (with_reducible refine ((awake_any _)).mono ?_); rintro e w1 ⟨rfl,hb1⟩; have hj1 : KL [(w.heap.size,27,#[.int .i64 N,r,x,g,wd,l])] w w1 := KL.over (KL.new (g := w.heap.size) (KL.nil w) rfl _ _) hb1; have hz1 := hb1.size; obtain ⟨c1_L0,c1_0_0,c1_0_1,c1_0_2,c1_0_3,c1_0_4,c1_0_5⟩ := bl6 (KL.blk hj1 (.head _)); have c1_F0 := (KL.blk hj1 (.head _)).frozen)
  | (go_at_call 22; (with_reducible refine ((hs1 _)).mono ?_); rintro e w2 ⟨k2,c2,cur2,rfl,hw2,hB2,ht2,hb2⟩; have hj2 : KL [(k2,66,cur2),(w.heap.size,27,#[.int .i64 N,r,x,g,wd,l])] w w2 := KL.cons hB2 (KL.over hj1 hb2); have hz2 := hb2.size; have c2_L0 := (KL.blk hj2 (.head _)).lt; obtain ⟨c2_L1,c2_1_0,c2_1_1,c2_1_2,c2_1_3,c2_1_4,c2_1_5⟩ := bl6 (KL.blk hj2 (.tail _ (.head _))); have c2_F1 := (KL.blk hj2 (.tail _ (.head _))).frozen)
  | (go_at_call 23; (with_reducible refine ((hsp _)).mono ?_); rintro e w3 ⟨rfl,hb3⟩; have hj3 : KL [(k2,66,cur2),(w.heap.size,27,#[.int .i64 N,r,x,g,wd,l])] w w3 := KL.over hj2 hb3; have hz3 := hb3.size; have c3_L0 := (KL.blk hj3 (.head _)).lt; obtain ⟨c3_L1,c3_1_0,c3_1_1,c3_1_2,c3_1_3,c3_1_4,c3_1_5⟩ := bl6 (KL.blk hj3 (.tail _ (.head _))); have c3_F1 := (KL.blk hj3 (.tail _ (.head _))).frozen)
  | (go_at_call 18; (with_reducible refine ((hv _)).mono ?_); rintro e w4 ⟨rfl,hb4⟩; have hj4 : KL [(w3.heap.size,23,#[.int .i64 0,.int .i64 0]),(k2,66,cur2),(w.heap.size,27,#[.int .i64 N,r,x,g,wd,l])] w w4 := KL.over (KL.new (g := w3.heap.size) hj3 rfl _ _) hb4; have hz4 := hb4.size; obtain ⟨c4_L0,c4_0_0,c4_0_1⟩ := bl2 (KL.blk hj4 (.head _)); have c4_F0 := (KL.blk hj4 (.head _)).frozen; have c4_L1 := (KL.blk hj4 (.tail _ (.head _))).lt; obtain ⟨c4_L2,c4_2_0,c4_2_1,c4_2_2,c4_2_3,c4_2_4,c4_2_5⟩ := bl6 (KL.blk hj4 (.tail _ (.tail _ (.head _)))); have c4_F2 := (KL.blk hj4 (.tail _ (.tail _ (.head _)))).frozen)
  | (go_at_call 25; (with_reducible refine ((hs2 _)).mono ?_); rintro e w5 ⟨k5,c5,cur5,rfl,hw5,hB5,ht5,hb5⟩; have hj5 : KL [(k5,66,cur5),(w3.heap.size,23,#[.int .i64 0,.int .i64 0]),(k2,66,cur2),(w.heap.size,27,#[.int .i64 N,r,x,g,wd,l])] w w5 := KL.cons hB5 (KL.over hj4 hb5); have hz5 := hb5.size; have c5_L0 := (KL.blk hj5 (.head _)).lt; obtain ⟨c5_L1,c5_1_0,c5_1_1⟩ := bl2 (KL.blk hj5 (.tail _ (.head _))); have c5_F1 := (KL.blk hj5 (.tail _ (.head _))).frozen; have c5_L2 := (KL.blk hj5 (.tail _ (.tail _ (.head _)))).lt; obtain ⟨c5_L3,c5_3_0,c5_3_1,c5_3_2,c5_3_3,c5_3_4,c5_3_5⟩ := bl6 (KL.blk hj5 (.tail _ (.tail _ (.tail _ (.head _))))); have c5_F3 := (KL.blk hj5 (.tail _ (.tail _ (.tail _ (.head _))))).frozen)
  | (go_at_call 24; (refine ((same_blk (KL.blk (show KL [(k5,66,cur5),(w3.heap.size,23,#[.int .i64 0,.int .i64 0]),(k2,66,cur2),(w.heap.size,27,#[.int .i64 N,r,x,g,wd,l])] w _ from hj5) (.tail _ (.tail _ (.head _)))) ht2 (KL.blk (show KL [(k5,66,cur5),(w3.heap.size,23,#[.int .i64 0,.int .i64 0]),(k2,66,cur2),(w.heap.size,27,#[.int .i64 N,r,x,g,wd,l])] w _ from hj5) (.head _)) ht5 hn)).mono ?_); rintro e w6 ⟨rfl,hb6⟩; have hj6 : KL [(k5,66,cur5),(w3.heap.size,23,#[.int .i64 0,.int .i64 0]),(k2,66,cur2),(w.heap.size,27,#[.int .i64 N,r,x,g,wd,l])] w w6 := KL.over hj5 hb6; have hz6 := hb6.size; have c6_L0 := (KL.blk hj6 (.head _)).lt; obtain ⟨c6_L1,c6_1_0,c6_1_1⟩ := bl2 (KL.blk hj6 (.tail _ (.head _))); have c6_F1 := (KL.blk hj6 (.tail _ (.head _))).frozen; have c6_L2 := (KL.blk hj6 (.tail _ (.tail _ (.head _)))).lt; obtain ⟨c6_L3,c6_3_0,c6_3_1,c6_3_2,c6_3_3,c6_3_4,c6_3_5⟩ := bl6 (KL.blk hj6 (.tail _ (.tail _ (.tail _ (.head _))))); have c6_F3 := (KL.blk hj6 (.tail _ (.tail _ (.tail _ (.head _))))).frozen))
 go_ret
 exact ⟨rfl,((show KL [(k5,66,cur5),(w3.heap.size,23,#[.int .i64 0,.int .i64 0]),(k2,66,cur2),(w.heap.size,27,#[.int .i64 N,r,x,g,wd,l])] w _ from hj6)).1⟩
set_option maxHeartbeats 8000000 in
set_option maxRecDepth 100000 in
theorem wst_in (n : Nat) (N r x g wd l t lo hi : Int)  (hs1 : ∀ w,Calls Try.prog 22 #[.agg #[.int .i64 N,r,x,g,wd,l]] w fun e w' => ∃ (k c : Nat) (cur : Array Value),e = .returned (.tuple #[.slice (some ⟨k,0,none⟩) n c,.int .i64 0]) ∧ w.heap.size ≤ k ∧ Blk w' k 66 cur ∧ cur.toList.take (n * 6) = rowTo (stn r x g wd l) n ∧ Below w.heap.size w w') (hs2 : ∀ w,Calls Try.prog 25 #[.agg #[.int .i64 N,r,x,g,wd,l]] w fun e w' => ∃ (k c : Nat) (cur : Array Value),e = .returned (.slice (some ⟨k,0,none⟩) n c) ∧ w.heap.size ≤ k ∧ Blk w' k 66 cur ∧ cur.toList.take (n * 6) = rowTo (stn r x g wd l) n ∧ Below w.heap.size w w') (hn : n ≤ 64) (hsp : ∀ w,Calls Try.prog 23 #[.agg #[.int .i64 N,r,x,g,wd,l],.int .i64 t] w fun e w' => e = .returned (.tuple #[.agg #[lo,hi],.int .i64 0]) ∧ Below w.heap.size w w') (hv : ∀ w,Calls Try.prog 18 #[.agg #[.int .i64 N,r,x,g,wd,l]] w fun e w' => e = .returned (.bool true) ∧ Below w.heap.size w w') (g1 : decide (t < 0) = false) (g2 : decide (1000 < t) = false) (hrs : ∀ w,Calls Try.prog 26 #[.agg #[.int .i64 N,r,x,g,wd,l],.int .i64 t] w fun e w' => e = .returned (.agg #[lo,hi]) ∧ Below w.heap.size w w') (hF : ∀ w,Sem.run Try.prog (binOp .eql 23 (.agg #[lo,hi]) (.agg #[lo,hi])) w = .ok (.bool true) w) (w : World) :
  Calls Try.prog 5 #[.agg #[.int .i64 N,r,x,g,wd,l],.int .i64 t] w fun e w' => e = .returned (.bool true) ∧ Below w.heap.size w w' := by
 go_enter Try.func5,Try.ntmps5
 go_wp2_with (first
  | (go_at_call 11; (with_reducible refine ((awake_any _)).mono ?_); rintro e w1 ⟨rfl,hb1⟩; have hj1 : KL [(w.heap.size,27,#[.int .i64 N,r,x,g,wd,l])] w w1 := KL.over (KL.new (g := w.heap.size) (KL.nil w) rfl _ _) hb1; have hz1 := hb1.size; obtain ⟨c1_L0,c1_0_0,c1_0_1,c1_0_2,c1_0_3,c1_0_4,c1_0_5⟩ := bl6 (KL.blk hj1 (.head _)); have c1_F0 := (KL.blk hj1 (.head _)).frozen)
  | (go_at_call 22; (with_reducible refine ((hs1 _)).mono ?_); rintro e w2 ⟨k2,c2,cur2,rfl,hw2,hB2,ht2,hb2⟩; have hj2 : KL [(k2,66,cur2),(w.heap.size,27,#[.int .i64 N,r,x,g,wd,l])] w w2 := KL.cons hB2 (KL.over hj1 hb2); have hz2 := hb2.size; have c2_L0 := (KL.blk hj2 (.head _)).lt; obtain ⟨c2_L1,c2_1_0,c2_1_1,c2_1_2,c2_1_3,c2_1_4,c2_1_5⟩ := bl6 (KL.blk hj2 (.tail _ (.head _))); have c2_F1 := (KL.blk hj2 (.tail _ (.head _))).frozen)
  | (go_at_call 23; (with_reducible refine ((hsp _)).mono ?_); rintro e w3 ⟨rfl,hb3⟩; have hj3 : KL [(k2,66,cur2),(w.heap.size,27,#[.int .i64 N,r,x,g,wd,l])] w w3 := KL.over hj2 hb3; have hz3 := hb3.size; have c3_L0 := (KL.blk hj3 (.head _)).lt; obtain ⟨c3_L1,c3_1_0,c3_1_1,c3_1_2,c3_1_3,c3_1_4,c3_1_5⟩ := bl6 (KL.blk hj3 (.tail _ (.head _))); have c3_F1 := (KL.blk hj3 (.tail _ (.head _))).frozen)
  | (go_at_call 18; (with_reducible refine ((hv _)).mono ?_); rintro e w4 ⟨rfl,hb4⟩; have hj4 : KL [(w3.heap.size,23,#[lo,hi]),(k2,66,cur2),(w.heap.size,27,#[.int .i64 N,r,x,g,wd,l])] w w4 := KL.over (KL.new (g := w3.heap.size) hj3 rfl _ _) hb4; have hz4 := hb4.size; obtain ⟨c4_L0,c4_0_0,c4_0_1⟩ := bl2 (KL.blk hj4 (.head _)); have c4_F0 := (KL.blk hj4 (.head _)).frozen; have c4_L1 := (KL.blk hj4 (.tail _ (.head _))).lt; obtain ⟨c4_L2,c4_2_0,c4_2_1,c4_2_2,c4_2_3,c4_2_4,c4_2_5⟩ := bl6 (KL.blk hj4 (.tail _ (.tail _ (.head _)))); have c4_F2 := (KL.blk hj4 (.tail _ (.tail _ (.head _)))).frozen)
  | (go_at_call 25; (with_reducible refine ((hs2 _)).mono ?_); rintro e w5 ⟨k5,c5,cur5,rfl,hw5,hB5,ht5,hb5⟩; have hj5 : KL [(k5,66,cur5),(w3.heap.size,23,#[lo,hi]),(k2,66,cur2),(w.heap.size,27,#[.int .i64 N,r,x,g,wd,l])] w w5 := KL.cons hB5 (KL.over hj4 hb5); have hz5 := hb5.size; have c5_L0 := (KL.blk hj5 (.head _)).lt; obtain ⟨c5_L1,c5_1_0,c5_1_1⟩ := bl2 (KL.blk hj5 (.tail _ (.head _))); have c5_F1 := (KL.blk hj5 (.tail _ (.head _))).frozen; have c5_L2 := (KL.blk hj5 (.tail _ (.tail _ (.head _)))).lt; obtain ⟨c5_L3,c5_3_0,c5_3_1,c5_3_2,c5_3_3,c5_3_4,c5_3_5⟩ := bl6 (KL.blk hj5 (.tail _ (.tail _ (.tail _ (.head _))))); have c5_F3 := (KL.blk hj5 (.tail _ (.tail _ (.tail _ (.head _))))).frozen)
  | (go_at_call 24; (refine ((same_blk (KL.blk (show KL [(k5,66,cur5),(w3.heap.size,23,#[lo,hi]),(k2,66,cur2),(w.heap.size,27,#[.int .i64 N,r,x,g,wd,l])] w _ from hj5) (.tail _ (.tail _ (.head _)))) ht2 (KL.blk (show KL [(k5,66,cur5),(w3.heap.size,23,#[lo,hi]),(k2,66,cur2),(w.heap.size,27,#[.int .i64 N,r,x,g,wd,l])] w _ from hj5) (.head _)) ht5 hn)).mono ?_); rintro e w6 ⟨rfl,hb6⟩; have hj6 : KL [(k5,66,cur5),(w3.heap.size,23,#[lo,hi]),(k2,66,cur2),(w.heap.size,27,#[.int .i64 N,r,x,g,wd,l])] w w6 := KL.over hj5 hb6; have hz6 := hb6.size; have c6_L0 := (KL.blk hj6 (.head _)).lt; obtain ⟨c6_L1,c6_1_0,c6_1_1⟩ := bl2 (KL.blk hj6 (.tail _ (.head _))); have c6_F1 := (KL.blk hj6 (.tail _ (.head _))).frozen; have c6_L2 := (KL.blk hj6 (.tail _ (.tail _ (.head _)))).lt; obtain ⟨c6_L3,c6_3_0,c6_3_1,c6_3_2,c6_3_3,c6_3_4,c6_3_5⟩ := bl6 (KL.blk hj6 (.tail _ (.tail _ (.tail _ (.head _))))); have c6_F3 := (KL.blk hj6 (.tail _ (.tail _ (.tail _ (.head _))))).frozen))
 refine wp_region_any (by kernel_rfl) ?_
 try (change wpAny _ _ _ _ _ _ _ (World.drew _))
 refine wpAny_vals (fr := fun o => #[.agg #[.int .i64 N,r,x,g,wd,l],.int .i64 t,.pointer (some ⟨w.heap.size,0,none⟩),undef,o 9,.slice (some ⟨k2,0,none⟩) n c2,.int .i64 0,.pointer (some ⟨w3.heap.size,0,none⟩),.int .i64 0,.bool true,.bool false,.tuple #[.slice (some ⟨k2,0,none⟩) n c2,.int .i64 0],.agg #[.int .i64 N,r,x,g,wd,l],.tuple #[.slice (some ⟨k2,0,none⟩) n c2,.int .i64 0],.slice (some ⟨k2,0,none⟩) n c2,.int .i64 0,.tuple #[.agg #[lo,hi],.int .i64 0],.agg #[.int .i64 N,r,x,g,wd,l],.int .i64 t,.tuple #[.agg #[lo,hi],.int .i64 0],.agg #[lo,hi],.int .i64 0,.agg #[.int .i64 N,r,x,g,wd,l],.bool true,.bool false,undef,undef,undef,undef,undef,undef,undef,undef,undef,undef,undef,undef,undef,undef,undef,undef,undef,.int .i64 0,.bool false,.bool false,.slice (some ⟨k2,0,none⟩) n c2,.agg #[.int .i64 N,r,x,g,wd,l],.slice (some ⟨k5,0,none⟩) n c5,.bool true,.bool false,.bool false,.int .i64 t,.bool false,.bool false,.int .i64 t,.bool false,.bool false,undef,undef,undef,undef,undef,undef,undef,o 0,o 1,o 2,o 3,o 4,o 5,o 6,o 7,o 8]) (vals := fun i_ => ([.int .i64 0,.bool true,.bool true,.agg #[lo,hi],.agg #[.int .i64 N,r,x,g,wd,l],.int .i64 t,.agg #[lo,hi],.bool true,.bool true,.bool true] : List Value).getD i_ undef) (Kf := fun _ => True) (K := fun kk_ => ([(KL [(k5,66,cur5),(w3.heap.size,23,#[lo,hi]),(k2,66,cur2),(w.heap.size,27,#[.int .i64 N,r,x,g,wd,l])] w)] : List (World → Prop)).getD kk_ (fun _ => True)) (dep := fun i_ => [[],[0],[1],[2],[2],[2],[2,4,5],[2,3,6],[2,7],[8]].getD i_ []) (dv := fun i_ => [[],[0],[1],[2],[2],[2],[2,4,5],[2,3,6],[2,7],[8]].getD i_ []) (kd := fun i_ => [0,0,0,1,1,0,1,0,0,0].getD i_ 0) (ss := []) (l := [0,1,2,3,4,5,6,7,8,9]) (f0 := fun i_ => ([undef,undef,undef,undef,undef,undef,undef,undef,undef,.bool false] : List Value).getD i_ undef) (A := ?A1) 10 ?_ ?_ ?_ ?_ ?_ ?_ ⟨?_,?_,?_,?_,?_,?_,?_,?_,?_,?_,trivial⟩ ?_ ?_
 rotate_left
 ·rfl
 ·rfl
 ·decide +kernel
 ·decide +kernel
 ·exact KL.drew hj6
 ·exact fun _ _ _ _ => trivial
 ·intro o W _
  show wpOp _ _ _ 0 _ ⟨#[_,_,_,_,o 9,_,_,_,_,_,_,_,_,_,_,_,_,_,_,_,_,_,_,_,_,_,_,_,_,_,_,_,_,_,_,_,_,_,_,_,_,_,_,_,_,_,_,_,_,_,_,_,_,_,_,_,_,_,_,_,_,_,_,_,o 0,o 1,o 2,o 3,o 4,o 5,o 6,o 7,o 8],[]⟩ W
  refine wpOp_step rfl fun _ hK => ?_
  go_simp
  exact hK _ _ ⟨rfl,rfl⟩
 ·intro o W _
  show wpOp _ _ _ 1 _ ⟨#[_,_,_,_,o 9,_,_,_,_,_,_,_,_,_,_,_,_,_,_,_,_,_,_,_,_,_,_,_,_,_,_,_,_,_,_,_,_,_,_,_,_,_,_,_,_,_,_,_,_,_,_,_,_,_,_,_,_,_,_,_,_,_,_,_,.int .i64 0,o 1,o 2,o 3,o 4,o 5,o 6,o 7,o 8],[]⟩ W
  refine wpOp_step rfl fun _ hK => ?_
  go_simp
  exact hK _ _ ⟨rfl,rfl⟩
 ·intro o W _
  show wpOp _ _ _ 2 _ ⟨#[_,_,_,_,o 9,_,_,_,_,_,_,_,_,_,_,_,_,_,_,_,_,_,_,_,_,_,_,_,_,_,_,_,_,_,_,_,_,_,_,_,_,_,_,_,_,_,_,_,_,_,_,_,_,_,_,_,_,_,_,_,_,_,_,_,o 0,.bool true,o 2,o 3,o 4,o 5,o 6,o 7,o 8],[]⟩ W
  refine wpOp_step rfl fun _ hK => ?_
  go_simp
  exact hK _ _ ⟨rfl,rfl⟩
 ·intro o W hj
  have hj : KL _ _ W := hj
  obtain ⟨cL,c0,c1⟩ := bl2 (KL.blk hj (.tail _ (.head _)))
  show wpOp _ _ _ 3 _ ⟨#[_,_,_,_,o 9,_,_,_,_,_,_,_,_,_,_,_,_,_,_,_,_,_,_,_,_,_,_,_,_,_,_,_,_,_,_,_,_,_,_,_,_,_,_,_,_,_,_,_,_,_,_,_,_,_,_,_,_,_,_,_,_,_,_,_,o 0,o 1,.bool true,o 3,o 4,o 5,o 6,o 7,o 8],[]⟩ W
  refine wpOp_step rfl fun _ hK => ?_
  go_simp
  exact hK _ _ ⟨rfl,hj⟩
 ·intro o W hj
  have hj : KL _ _ W := hj
  obtain ⟨cL,c0,c1,c2,c3,c4,c5⟩ := bl6 (KL.blk hj (.tail _ (.tail _ (.tail _ (.head _)))))
  show wpOp _ _ _ 4 _ ⟨#[_,_,_,_,o 9,_,_,_,_,_,_,_,_,_,_,_,_,_,_,_,_,_,_,_,_,_,_,_,_,_,_,_,_,_,_,_,_,_,_,_,_,_,_,_,_,_,_,_,_,_,_,_,_,_,_,_,_,_,_,_,_,_,_,_,o 0,o 1,.bool true,o 3,o 4,o 5,o 6,o 7,o 8],[]⟩ W
  refine wpOp_step rfl fun _ hK => ?_
  go_simp
  exact hK _ _ ⟨rfl,hj⟩
 ·intro o W _
  show wpOp _ _ _ 5 _ ⟨#[_,_,_,_,o 9,_,_,_,_,_,_,_,_,_,_,_,_,_,_,_,_,_,_,_,_,_,_,_,_,_,_,_,_,_,_,_,_,_,_,_,_,_,_,_,_,_,_,_,_,_,_,_,_,_,_,_,_,_,_,_,_,_,_,_,o 0,o 1,.bool true,o 3,o 4,o 5,o 6,o 7,o 8],[]⟩ W
  refine wpOp_step rfl fun _ hK => ?_
  go_simp
  exact hK _ _ ⟨rfl,rfl⟩
 ·intro o W hj
  have hj : KL _ _ W := hj
  show wpOp _ _ _ 6 _ ⟨#[_,_,_,_,o 9,_,_,_,_,_,_,_,_,_,_,_,_,_,_,_,_,_,_,_,_,_,_,_,_,_,_,_,_,_,_,_,_,_,_,_,_,_,_,_,_,_,_,_,_,_,_,_,_,_,_,_,_,_,_,_,_,_,_,_,o 0,o 1,.bool true,o 3,.agg #[.int .i64 N,r,x,g,wd,l],.int .i64 t,o 6,o 7,o 8],[]⟩ W
  refine wpOp_step rfl fun _ hK => ?_
  go_simp
  refine (hrs _).mono ?_
  rintro e W1 ⟨rfl,hb1⟩
  exact hK _ _ ⟨rfl,hj.over hb1⟩
 ·intro o W _
  show wpOp _ _ _ 7 _ ⟨#[_,_,_,_,o 9,_,_,_,_,_,_,_,_,_,_,_,_,_,_,_,_,_,_,_,_,_,_,_,_,_,_,_,_,_,_,_,_,_,_,_,_,_,_,_,_,_,_,_,_,_,_,_,_,_,_,_,_,_,_,_,_,_,_,_,o 0,o 1,.bool true,.agg #[lo,hi],o 4,o 5,.agg #[lo,hi],o 7,o 8],[]⟩ W
  refine wpOp_step rfl fun _ hK => ?_
  go_simp
  exact hK _ _ ⟨rfl,rfl⟩
 ·intro o W _
  show wpOp _ _ _ 8 _ ⟨#[_,_,_,_,o 9,_,_,_,_,_,_,_,_,_,_,_,_,_,_,_,_,_,_,_,_,_,_,_,_,_,_,_,_,_,_,_,_,_,_,_,_,_,_,_,_,_,_,_,_,_,_,_,_,_,_,_,_,_,_,_,_,_,_,_,o 0,o 1,.bool true,o 3,o 4,o 5,o 6,.bool true,o 8],[]⟩ W
  refine wpOp_step rfl fun _ hK => ?_
  go_simp
  exact hK _ _ ⟨rfl,rfl⟩
 ·intro o W _
  show wpOp _ _ _ 9 _ ⟨#[_,_,_,_,o 9,_,_,_,_,_,_,_,_,_,_,_,_,_,_,_,_,_,_,_,_,_,_,_,_,_,_,_,_,_,_,_,_,_,_,_,_,_,_,_,_,_,_,_,_,_,_,_,_,_,_,_,_,_,_,_,_,_,_,_,o 0,o 1,o 2,o 3,o 4,o 5,o 6,o 7,.bool true],[]⟩ W
  refine wpOp_step rfl fun _ hK => ?_
  go_simp
  exact hK _ _ ⟨rfl,rfl⟩
 ·intro o hh_
  have e0 : o 0 = .int .i64 0 := hh_ 0 (by decide)
  have e1 : o 1 = .bool true := hh_ 1 (by decide)
  have e2 : o 2 = .bool true := hh_ 2 (by decide)
  have e3 : o 3 = .agg #[lo,hi] := hh_ 3 (by decide)
  have e4 : o 4 = .agg #[.int .i64 N,r,x,g,wd,l] := hh_ 4 (by decide)
  have e5 : o 5 = .int .i64 t := hh_ 5 (by decide)
  have e6 : o 6 = .agg #[lo,hi] := hh_ 6 (by decide)
  have e7 : o 7 = .bool true := hh_ 7 (by decide)
  have e8 : o 8 = .bool true := hh_ 8 (by decide)
  have e9 : o 9 = .bool true := hh_ 9 (by decide)
  rw [e0,e1,e2,e3,e4,e5,e6,e7,e8,e9]
 ·intro W7 h7
  have h7 : KL _ _ W7 := h7
  have r7_L0 := (KL.blk h7 (.head _)).lt
  obtain ⟨r7_L1,r7_1_0,r7_1_1⟩ := bl2 (KL.blk h7 (.tail _ (.head _)))
  have r7_F1 := (KL.blk h7 (.tail _ (.head _))).frozen
  have r7_L2 := (KL.blk h7 (.tail _ (.tail _ (.head _)))).lt
  obtain ⟨r7_L3,r7_3_0,r7_3_1,r7_3_2,r7_3_3,r7_3_4,r7_3_5⟩ := bl6 (KL.blk h7 (.tail _ (.tail _ (.tail _ (.head _)))))
  have r7_F3 := (KL.blk h7 (.tail _ (.tail _ (.tail _ (.head _))))).frozen
  have hjb := h7.1
  have hjz := hjb.size
  go_wp2
  go_ret
  exact ⟨rfl,((show KL [(k5,66,cur5),(w3.heap.size,23,#[lo,hi]),(k2,66,cur2),(w.heap.size,27,#[.int .i64 N,r,x,g,wd,l])] w _ from h7)).1⟩
end Go.Proofs.Ytoenojnfhiimpaa
