/- The walk of the law SpanSums: it answers true, whatever the list. -/
import Derived.Test.YtnpdmohclajmjaaAwake
namespace Go.Proofs.Ytnpdmohclajmjaa
open Go.RowKit

theorem eqIv_same (x : Int × Int) (W : World) : Sem.run Try.prog (binOp .eql 23 (.agg #[.int .i64 x.1, .int .i64 x.2]) (.agg #[.int .i64 x.1, .int .i64 x.2])) W = .ok (.bool true) W := by
  rw [eqIv x x W]; simp

set_option maxHeartbeats 1000000 in
theorem spanSums_any (A : Option Addr) (c : Nat) (l : List (Int × Int)) (w : World) (hl : l.length ≤ 9223372036854775807) (hr : Reads w w.heap.size 2 A l.length (encL l)) :
    Calls Try.prog 5 #[.slice A l.length c] w fun e w' => e = .returned (.bool true) ∧ Below w.heap.size w w' := by
  by_cases h30 : 30 < l.length
  · go_enter Try.func5, Try.ntmps5
    go_wp2_with (go_at_call 10; refine (awake_any _).mono ?_; rintro e w1 ⟨rfl, hb1⟩)
    go_ret
    exact ⟨rfl, hb1⟩
  · have heq := eqIv_same (sumS l).1
    have hs1 := fun W (h : Reads W W.heap.size 2 A l.length (encL l)) => sum_any A c l W (by omega) h
    have hs2 := fun W (h : Reads W W.heap.size 2 A l.length (encL l)) => refSum_any A l.length c l W rfl (by omega) h
    generalize sumS l = r at heq hs1 hs2
    go_enter Try.func5, Try.ntmps5
    go_wp2_with (first
      | (go_at_call 10; refine (awake_any _).mono ?_; rintro e w1 ⟨rfl, hb1⟩
         have hr1 : Reads w1 w1.heap.size 2 A l.length (encL l) := (hr.below hb1).more hb1.size)
      | (go_at_call 27; refine (hs1 _ hr1).mono ?_; rintro e w2 ⟨rfl, hb2⟩
         have hB2 := (hb1.trans (bmono hb2 hb1.size)).alloc (Nat.le_trans hb1.size hb2.size) (.cells #[.int .i64 r.1.1, .int .i64 r.1.2] 23)
         have hk2 := Blk.new w2 23 #[.int .i64 r.1.1, .int .i64 r.1.2]
         have hr2 := (hr.below hB2).more hB2.size)
      | (go_at_call 28; refine (hs2 _ hr2).mono ?_; rintro e w3 ⟨rfl, hb3⟩
         have hk3 := hk2.below hb3 hk2.lt
         obtain ⟨f1, f2, _, _⟩ := blk_facts hk3
         have hlt3 := hk3.lt))
    go_ret
    exact ⟨rfl, (hB2.trans (bmono hb3 hB2.size)).alloc (Nat.le_trans hB2.size hb3.size) _⟩
end Go.Proofs.Ytnpdmohclajmjaa
