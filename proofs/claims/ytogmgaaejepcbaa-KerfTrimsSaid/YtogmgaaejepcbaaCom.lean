/- The walk of box's common. -/
import Derived.Test.YtogmgaaejepcbaaEnd
import Derived.Test.YtogmgaaejepcbaaReg
namespace Go.Proofs.Ytogmgaaejepcbaa
open Go.RowKit

set_option maxHeartbeats 4000000 in
theorem common_any (x y z p q r a b c d s u : Int) (w : World) :
    Calls Try.prog 57 #[.agg #[.int .i64 x, .int .i64 y, .int .i64 z, .int .i64 p, .int .i64 q, .int .i64 r], .agg #[.int .i64 a, .int .i64 b, .int .i64 c, .int .i64 d, .int .i64 s, .int .i64 u]] w fun e w' => e = .returned (.agg #[.int .i64 (max x a), .int .i64 (max y b), .int .i64 (max z c), .int .i64 (min p d), .int .i64 (min q s), .int .i64 (min r u)]) ∧ Below w.heap.size w w' := by
  go_enter Try.func57, Try.ntmps57
  go_wp2
  refine wp_region_any (by kernel_rfl) ?_
  try (change wpAny _ _ _ _ _ _ _ (World.drew _))
  refine wpAny_vals (fr := fun ff_ => #[.agg #[.int .i64 x, .int .i64 y, .int .i64 z, .int .i64 p, .int .i64 q, .int .i64 r], .agg #[.int .i64 a, .int .i64 b, .int .i64 c, .int .i64 d, .int .i64 s, .int .i64 u], .pointer (some ⟨w.heap.size, 0, none⟩), .pointer (some ⟨(w.heap.size + 1), 0, none⟩), .pointer (some ⟨(w.heap.size + 1 + 1), 0, none⟩), ff_ 0, ff_ 1, ff_ 2, ff_ 3, ff_ 4, ff_ 5, ff_ 6, ff_ 7, ff_ 8, ff_ 9, ff_ 10]) (vals := fun i_ => ([.pointer (some ⟨w.heap.size, 0, none⟩), .agg #[.int .i64 x, .int .i64 y, .int .i64 z], .pointer (some ⟨(w.heap.size + 1), 0, none⟩), .agg #[.int .i64 a, .int .i64 b, .int .i64 c], .agg #[.int .i64 (max x a), .int .i64 (max y b), .int .i64 (max z c)], .pointer (some ⟨w.heap.size, 3, none⟩), .agg #[.int .i64 p, .int .i64 q, .int .i64 r], .pointer (some ⟨(w.heap.size + 1), 3, none⟩), .agg #[.int .i64 d, .int .i64 s, .int .i64 u], .agg #[.int .i64 (min p d), .int .i64 (min q s), .int .i64 (min r u)], .agg #[.int .i64 (max x a), .int .i64 (max y b), .int .i64 (max z c), .int .i64 (min p d), .int .i64 (min q s), .int .i64 (min r u)], undef] : List Value).getD i_ undef) (Kf := fun _ => True) (K := fun kk_ => ([(KL [((w.heap.size + 1 + 1), 25, #[.int .i64 0, .int .i64 0, .int .i64 0, .int .i64 0, .int .i64 0, .int .i64 0]), ((w.heap.size + 1), 25, #[.int .i64 a, .int .i64 b, .int .i64 c, .int .i64 d, .int .i64 s, .int .i64 u]), (w.heap.size, 25, #[.int .i64 x, .int .i64 y, .int .i64 z, .int .i64 p, .int .i64 q, .int .i64 r])] w), (KL [((w.heap.size + 1 + 1), 25, #[.int .i64 (max x a), .int .i64 (max y b), .int .i64 (max z c), .int .i64 (min p d), .int .i64 (min q s), .int .i64 (min r u)]), ((w.heap.size + 1), 25, #[.int .i64 a, .int .i64 b, .int .i64 c, .int .i64 d, .int .i64 s, .int .i64 u]), (w.heap.size, 25, #[.int .i64 x, .int .i64 y, .int .i64 z, .int .i64 p, .int .i64 q, .int .i64 r])] w)] : List (World → Prop)).getD kk_ (fun _ => True)) (dep := fun i_ => [[], [0], [], [2], [1, 3], [], [5], [], [7], [4, 6, 8], [4, 9], [0, 1, 2, 3, 4, 5, 6, 7, 8, 9, 10]].getD i_ []) (dv := fun i_ => [[], [0], [], [2], [1, 3], [], [5], [], [7], [6, 8], [4, 9], [10]].getD i_ []) (kd := fun i_ => [0, 1, 0, 1, 1, 0, 1, 0, 1, 1, 0, 2].getD i_ 0) (ss := [11]) (l := [0, 1, 2, 3, 4, 5, 6, 7, 8, 9, 10, 11]) (f0 := fun i_ => ([undef, undef, undef, undef, undef, undef, undef, undef, undef, undef, undef, undef] : List Value).getD i_ undef) (A := ⟨#[.agg #[.int .i64 x, .int .i64 y, .int .i64 z, .int .i64 p, .int .i64 q, .int .i64 r], .agg #[.int .i64 a, .int .i64 b, .int .i64 c, .int .i64 d, .int .i64 s, .int .i64 u], .pointer (some ⟨w.heap.size, 0, none⟩), .pointer (some ⟨(w.heap.size + 1), 0, none⟩), .pointer (some ⟨(w.heap.size + 1 + 1), 0, none⟩), .pointer (some ⟨w.heap.size, 0, none⟩), .agg #[.int .i64 x, .int .i64 y, .int .i64 z], .pointer (some ⟨(w.heap.size + 1), 0, none⟩), .agg #[.int .i64 a, .int .i64 b, .int .i64 c], .agg #[.int .i64 (max x a), .int .i64 (max y b), .int .i64 (max z c)], .pointer (some ⟨w.heap.size, 3, none⟩), .agg #[.int .i64 p, .int .i64 q, .int .i64 r], .pointer (some ⟨(w.heap.size + 1), 3, none⟩), .agg #[.int .i64 d, .int .i64 s, .int .i64 u], .agg #[.int .i64 (min p d), .int .i64 (min q s), .int .i64 (min r u)], .agg #[.int .i64 (max x a), .int .i64 (max y b), .int .i64 (max z c), .int .i64 (min p d), .int .i64 (min q s), .int .i64 (min r u)]], []⟩) 12 rfl rfl (by decide +kernel) (by decide +kernel) ?_ ?_ ⟨?_, ?_, ?_, ?_, ?_, ?_, ?_, ?_, ?_, ?_, ?_, ?_, trivial⟩ ?_ ?_
  · exact KL.drew (KL.new (KL.new (KL.new (KL.nil w) rfl _ _) (by simp) _ _) (by simp) _ _)
  · exact fun _ _ _ _ => trivial
  · intro ff_ W _
    show wpOp _ _ _ 0 _ ⟨#[_, _, _, _, _, ff_ 0, ff_ 1, ff_ 2, ff_ 3, ff_ 4, ff_ 5, ff_ 6, ff_ 7, ff_ 8, ff_ 9, ff_ 10], []⟩ W
    refine wpOp_step rfl (fun K' hK => ?_)
    go_simp
    exact hK _ _ ⟨rfl, rfl⟩
  · intro ff_ W hj
    have hj : KL _ _ W := hj
    obtain ⟨cL, c0, c1, c2, c3, c4, c5⟩ := bl6 (KL.blk hj (.tail _ (.tail _ (.head _))))
    show wpOp _ _ _ 1 _ ⟨#[_, _, _, _, _, .pointer (some ⟨w.heap.size, 0, none⟩), ff_ 1, ff_ 2, ff_ 3, ff_ 4, ff_ 5, ff_ 6, ff_ 7, ff_ 8, ff_ 9, ff_ 10], []⟩ W
    refine wpOp_step rfl (fun K' hK => ?_)
    go_simp
    exact hK _ _ ⟨rfl, hj⟩
  · intro ff_ W _
    show wpOp _ _ _ 2 _ ⟨#[_, _, _, _, _, ff_ 0, ff_ 1, ff_ 2, ff_ 3, ff_ 4, ff_ 5, ff_ 6, ff_ 7, ff_ 8, ff_ 9, ff_ 10], []⟩ W
    refine wpOp_step rfl (fun K' hK => ?_)
    go_simp
    exact hK _ _ ⟨rfl, rfl⟩
  · intro ff_ W hj
    have hj : KL _ _ W := hj
    obtain ⟨cL, c0, c1, c2, c3, c4, c5⟩ := bl6 (KL.blk hj (.tail _ (.head _)))
    show wpOp _ _ _ 3 _ ⟨#[_, _, _, _, _, ff_ 0, ff_ 1, .pointer (some ⟨(w.heap.size + 1), 0, none⟩), ff_ 3, ff_ 4, ff_ 5, ff_ 6, ff_ 7, ff_ 8, ff_ 9, ff_ 10], []⟩ W
    refine wpOp_step rfl (fun K' hK => ?_)
    go_simp
    exact hK _ _ ⟨rfl, hj⟩
  · intro ff_ W hj
    have hj : KL _ _ W := hj
    show wpOp _ _ _ 4 _ ⟨#[_, _, _, _, _, ff_ 0, .agg #[.int .i64 x, .int .i64 y, .int .i64 z], ff_ 2, .agg #[.int .i64 a, .int .i64 b, .int .i64 c], ff_ 4, ff_ 5, ff_ 6, ff_ 7, ff_ 8, ff_ 9, ff_ 10], []⟩ W
    refine wpOp_step rfl (fun K' hK => ?_)
    go_simp
    refine (greatest_any _ _ _ _ _ _ _).mono ?_
    rintro e W1 ⟨rfl, hb1⟩
    exact hK _ _ ⟨rfl, hj.over hb1⟩
  · intro ff_ W _
    show wpOp _ _ _ 5 _ ⟨#[_, _, _, _, _, ff_ 0, ff_ 1, ff_ 2, ff_ 3, ff_ 4, ff_ 5, ff_ 6, ff_ 7, ff_ 8, ff_ 9, ff_ 10], []⟩ W
    refine wpOp_step rfl (fun K' hK => ?_)
    go_simp
    exact hK _ _ ⟨rfl, rfl⟩
  · intro ff_ W hj
    have hj : KL _ _ W := hj
    obtain ⟨cL, c0, c1, c2, c3, c4, c5⟩ := bl6 (KL.blk hj (.tail _ (.tail _ (.head _))))
    show wpOp _ _ _ 6 _ ⟨#[_, _, _, _, _, ff_ 0, ff_ 1, ff_ 2, ff_ 3, ff_ 4, .pointer (some ⟨w.heap.size, 3, none⟩), ff_ 6, ff_ 7, ff_ 8, ff_ 9, ff_ 10], []⟩ W
    refine wpOp_step rfl (fun K' hK => ?_)
    go_simp
    exact hK _ _ ⟨rfl, hj⟩
  · intro ff_ W _
    show wpOp _ _ _ 7 _ ⟨#[_, _, _, _, _, ff_ 0, ff_ 1, ff_ 2, ff_ 3, ff_ 4, ff_ 5, ff_ 6, ff_ 7, ff_ 8, ff_ 9, ff_ 10], []⟩ W
    refine wpOp_step rfl (fun K' hK => ?_)
    go_simp
    exact hK _ _ ⟨rfl, rfl⟩
  · intro ff_ W hj
    have hj : KL _ _ W := hj
    obtain ⟨cL, c0, c1, c2, c3, c4, c5⟩ := bl6 (KL.blk hj (.tail _ (.head _)))
    show wpOp _ _ _ 8 _ ⟨#[_, _, _, _, _, ff_ 0, ff_ 1, ff_ 2, ff_ 3, ff_ 4, ff_ 5, ff_ 6, .pointer (some ⟨(w.heap.size + 1), 3, none⟩), ff_ 8, ff_ 9, ff_ 10], []⟩ W
    refine wpOp_step rfl (fun K' hK => ?_)
    go_simp
    exact hK _ _ ⟨rfl, hj⟩
  · intro ff_ W hj
    have hj : KL _ _ W := hj
    show wpOp _ _ _ 9 _ ⟨#[_, _, _, _, _, ff_ 0, ff_ 1, ff_ 2, ff_ 3, ff_ 4, ff_ 5, .agg #[.int .i64 p, .int .i64 q, .int .i64 r], ff_ 7, .agg #[.int .i64 d, .int .i64 s, .int .i64 u], ff_ 9, ff_ 10], []⟩ W
    refine wpOp_step rfl (fun K' hK => ?_)
    go_simp
    refine (least_any _ _ _ _ _ _ _).mono ?_
    rintro e W1 ⟨rfl, hb1⟩
    exact hK _ _ ⟨rfl, hj.over hb1⟩
  · intro ff_ W _
    show wpOp _ _ _ 10 _ ⟨#[_, _, _, _, _, ff_ 0, ff_ 1, ff_ 2, ff_ 3, .agg #[.int .i64 (max x a), .int .i64 (max y b), .int .i64 (max z c)], ff_ 5, ff_ 6, ff_ 7, ff_ 8, .agg #[.int .i64 (min p d), .int .i64 (min q s), .int .i64 (min r u)], ff_ 10], []⟩ W
    refine wpOp_step rfl (fun K' hK => ?_)
    go_simp
    exact hK _ _ ⟨rfl, rfl⟩
  · intro ff_ W hj
    have hj : KL _ _ W := hj
    obtain ⟨cL, c0, c1, c2, c3, c4, c5⟩ := bl6 (KL.blk hj (.head _))
    have cF := (KL.blk hj (.head _)).frozen
    show wpOp _ _ _ 11 _ ⟨#[_, _, _, _, _, ff_ 0, ff_ 1, ff_ 2, ff_ 3, ff_ 4, ff_ 5, ff_ 6, ff_ 7, ff_ 8, ff_ 9, .agg #[.int .i64 (max x a), .int .i64 (max y b), .int .i64 (max z c), .int .i64 (min p d), .int .i64 (min q s), .int .i64 (min r u)]], []⟩ W
    refine wpOp_step rfl (fun K' hK => ?_)
    go_simp
    exact hK _ _ ⟨rfl, (KL.up6 0 hj rfl (by omega) (by simp <;> omega))⟩
  · intro ff_ hh_
    have e0 : ff_ 0 = .pointer (some ⟨w.heap.size, 0, none⟩) := hh_ 0 (by decide)
    have e1 : ff_ 1 = .agg #[.int .i64 x, .int .i64 y, .int .i64 z] := hh_ 1 (by decide)
    have e2 : ff_ 2 = .pointer (some ⟨(w.heap.size + 1), 0, none⟩) := hh_ 2 (by decide)
    have e3 : ff_ 3 = .agg #[.int .i64 a, .int .i64 b, .int .i64 c] := hh_ 3 (by decide)
    have e4 : ff_ 4 = .agg #[.int .i64 (max x a), .int .i64 (max y b), .int .i64 (max z c)] := hh_ 4 (by decide)
    have e5 : ff_ 5 = .pointer (some ⟨w.heap.size, 3, none⟩) := hh_ 5 (by decide)
    have e6 : ff_ 6 = .agg #[.int .i64 p, .int .i64 q, .int .i64 r] := hh_ 6 (by decide)
    have e7 : ff_ 7 = .pointer (some ⟨(w.heap.size + 1), 3, none⟩) := hh_ 7 (by decide)
    have e8 : ff_ 8 = .agg #[.int .i64 d, .int .i64 s, .int .i64 u] := hh_ 8 (by decide)
    have e9 : ff_ 9 = .agg #[.int .i64 (min p d), .int .i64 (min q s), .int .i64 (min r u)] := hh_ 9 (by decide)
    have e10 : ff_ 10 = .agg #[.int .i64 (max x a), .int .i64 (max y b), .int .i64 (max z c), .int .i64 (min p d), .int .i64 (min q s), .int .i64 (min r u)] := hh_ 10 (by decide)
    rw [e0, e1, e2, e3, e4, e5, e6, e7, e8, e9, e10]
  · intro W hj
    have hj : KL _ _ W := hj
    obtain ⟨cL0, c0_0, c0_1, c0_2, c0_3, c0_4, c0_5⟩ := bl6 (KL.blk hj (.head _))
    obtain ⟨cL1, c1_0, c1_1, c1_2, c1_3, c1_4, c1_5⟩ := bl6 (KL.blk hj (.tail _ (.head _)))
    obtain ⟨cL2, c2_0, c2_1, c2_2, c2_3, c2_4, c2_5⟩ := bl6 (KL.blk hj (.tail _ (.tail _ (.head _))))
    have hjb := hj.1
    have hjz := hjb.size
    go_wp2
    exact bodyPost_ret (v := .agg #[.int .i64 (max x a), .int .i64 (max y b), .int .i64 (max z c), .int .i64 (min p d), .int .i64 (min q s), .int .i64 (min r u)]) (by simp [results, Try.results57, go_sem, c0_0, c0_1, c0_2, c0_3, c0_4, c0_5]) rfl ⟨rfl, hjb⟩
end Go.Proofs.Ytogmgaaejepcbaa
