/- The walk of the reference's Keeps. Flights are valid. -/
import Derived.Test.YtoenojnfhiimpaaFit
import Derived.Test.YtoenojnfhiimpaaLv2
namespace Go.Proofs.Ytoenojnfhiimpaa
open Go.RowKit

theorem rs_two {r x : Int} (i : Nat) : rsI r x i = r ∨ rsI r x i = rsI r x 0 := by
  unfold rsI; split <;> split <;> omega
theorem rs_last {r x : Int} {n : Nat} (h : x ≤ (n : Int) - 1) (hn : 1 ≤ n) : rsI r x ((n - 1 : Nat) : Int) = r := by
  unfold rsI; rw [if_neg (by omega)]
theorem keep_bad1 {a b c d p q r x g : Int} {j : Nat} (h : inB (rsI r x j) a b = false) : keepE a b c d p q r x g = 6 := by
  unfold keepE; apply if_pos
  rcases rs_two (r := r) (x := x) j with e | e
  · rw [e] at h; exact .inl h
  · rw [e] at h; exact .inr (.inl h)
theorem keep_bad2 {a b c d p q r x g : Int} (h : inB g c d = false) : keepE a b c d p q r x g = 6 := by
  unfold keepE; exact if_pos (.inr (.inr h))
theorem keep_bad3 {a b c d p q r x g : Int} {j : Nat} (h1 : inB r a b = true) (h2 : inB (rsI r x 0) a b = true) (h3 : inB g c d = true) (h : inB (2 * rsI r x j + g) p q = false) : keepE a b c d p q r x g = 10 := by
  unfold keepE; rw [if_neg (by simp [h1, h2, h3])]; apply if_pos
  rcases rs_two (r := r) (x := x) j with e | e
  · rw [e] at h; exact .inl h
  · rw [e] at h; exact .inr h
theorem keep_ok {a b c d p q r x g : Int} (h1 : inB r a b = true) (h2 : inB (rsI r x 0) a b = true) (h3 : inB g c d = true) (h4 : inB (2 * r + g) p q = true) (h5 : inB (2 * rsI r x 0 + g) p q = true) : keepE a b c d p q r x g = 0 := by
  unfold keepE; simp [h1, h2, h3, h4, h5]
set_option maxHeartbeats 4000000 in
set_option maxRecDepth 100000 in
theorem keeps_any (a b c d p q : Int) (n : Nat) (r x g wd l : Int) (hn : 1 ≤ n) (hn2 : n ≤ 64) (h1 : 1 ≤ r) (h2 : r ≤ 10000) (h3 : 1 ≤ g) (h4 : g ≤ 10000) (hxn : x ≤ (n : Int) - 1) (w : World) :
    Calls Try.prog 37 #[.agg #[.int .i64 a, .int .i64 b, .int .i64 c, .int .i64 d, .int .i64 p, .int .i64 q], .agg #[.int .i64 n, .int .i64 r, .int .i64 x, .int .i64 g, .int .i64 wd, .int .i64 l]] w fun e w' => e = .returned (.int .i64 (keepE a b c d p q r x g)) ∧ Below w.heap.size w w' := by
  have hri := fun i W => rrise_any n r x g wd l i W h1 h2
  have hrb := fun i : Nat => rsI_bd (x := x) (i := i) h1 h2
  have hK0 : KL [(w.heap.size + 1, 27, #[.int .i64 n, .int .i64 r, .int .i64 x, .int .i64 g, .int .i64 wd, .int .i64 l]), (w.heap.size, 25, #[.int .i64 a, .int .i64 b, .int .i64 c, .int .i64 d, .int .i64 p, .int .i64 q])] w ((w.alloc (.cells #[.int .i64 a, .int .i64 b, .int .i64 c, .int .i64 d, .int .i64 p, .int .i64 q] 25)).alloc (.cells #[.int .i64 n, .int .i64 r, .int .i64 x, .int .i64 g, .int .i64 wd, .int .i64 l] 27)) :=
    ((KL.nil w).new rfl 25 _).new (by simp) 27 _
  obtain ⟨E, hE⟩ : ∃ E, E = keepE a b c d p q r x g := ⟨_, rfl⟩
  rw [← hE]
  have HE := Lib.hid hE; clear hE
  have HRB := Lib.hid hrb; clear hrb
  go_enter Try.func37, Try.ntmps37
  go_wp2
  go_loopw [5] (fun i W => ∃ j : Nat, j ≤ n ∧ i = .int .i64 j ∧ (∀ q_ : Nat, q_ < j → inB (rsI r x q_) a b = true) ∧ KL [(w.heap.size + 1, 27, #[.int .i64 n, .int .i64 r, .int .i64 x, .int .i64 g, .int .i64 wd, .int .i64 l]), (w.heap.size, 25, #[.int .i64 a, .int .i64 b, .int .i64 c, .int .i64 d, .int .i64 p, .int .i64 q])] w W) (fun i _ => n - (intOf i).toNat)
  case atStart => exact ⟨0, Nat.zero_le _, rfl, fun q_ hq_ => absurd hq_ (by omega), hK0⟩
  case round =>
    obtain ⟨j, hj, rfl, hall, hK⟩ := hrel
    obtain ⟨z0, z1, z2, z3, z4, z5, z6⟩ := bl6 (KL.blk hK (.head _))
    obtain ⟨y0, y1, y2, y3, y4, y5, y6⟩ := bl6 (KL.blk hK (.tail _ (.head _)))
    have hkz := hK.1.size
    clear hK0
    by_cases hlt : j < n
    · have hle : (j : Int) < (n : Int) := by omega
      have hrk := fun W => hri j W
      obtain ⟨m, hmE⟩ : ∃ m, m = rsI r x j := ⟨_, rfl⟩
      rw [← hmE] at hrk
      have HM := Lib.hid hmE; clear hmE
      have hin := fun W => rin_any m a b W
      clear hj hri
      cases hm : inB m a b
      · rw [hm] at hin
        go_wp2
        go_upto_region 4 with (fail)
        refine wp_region_any (by kernel_rfl) ?_
        try (change wpAny _ _ _ _ _ _ _ (World.drew _))
        refine wpAny_vals (fr := fun o => #[.agg #[.int .i64 a,.int .i64 b,.int .i64 c,.int .i64 d,.int .i64 p,.int .i64 q],.agg #[.int .i64 (↑n),.int .i64 r,.int .i64 x,.int .i64 g,.int .i64 wd,.int .i64 l],.pointer (some ⟨w.heap.size, 0, none⟩),.pointer (some ⟨(w.heap.size + 1), 0, none⟩),u4,.int .i64 (↑j),undef,.int .i64 (↑j),.pointer (some ⟨(w.heap.size + 1), 0, none⟩),.int .i64 (↑n),.bool true,u11,u12,o 0,o 1,o 2,o 3,o 4,o 5,o 6,o 7,o 8,o 9,o 10,undef,undef,undef,undef,undef,undef,undef,undef,undef,undef,undef,undef,undef,undef,undef,undef,undef,undef,undef,undef,undef,undef,undef,undef,undef,undef,undef,undef,undef,undef,undef]) (vals := fun i_ => ([.agg #[.int .i64 (↑n),.int .i64 r,.int .i64 x,.int .i64 g,.int .i64 wd,.int .i64 l],.int .i64 (↑j),.int .i64 m,.pointer (some ⟨w.heap.size, 0, none⟩),.pointer (some ⟨w.heap.size, 0, none⟩),.int .i64 a,.pointer (some ⟨w.heap.size, 0, none⟩),.pointer (some ⟨w.heap.size, 1, none⟩),.int .i64 b,.bool false,.bool true] : List Value).getD i_ undef) (Kf := fun _ => True) (K := fun kk_ => ([(KL [((w.heap.size + 1),27,#[.int .i64 (↑n),.int .i64 r,.int .i64 x,.int .i64 g,.int .i64 wd,.int .i64 l]),(w.heap.size,25,#[.int .i64 a,.int .i64 b,.int .i64 c,.int .i64 d,.int .i64 p,.int .i64 q])] w)] : List (World → Prop)).getD kk_ (fun _ => True)) (dep := fun i_ => [[],[],[0,1],[],[3],[4],[],[6],[7],[2,5,8],[9]].getD i_ []) (dv := fun i_ => [[],[],[0,1],[],[3],[4],[],[6],[7],[2,5,8],[9]].getD i_ []) (kd := fun i_ => [1,0,1,0,0,1,0,0,1,0,0].getD i_ 0) (ss := []) (l := [0,1,2,3,4,5,6,7,8,9,10]) (f0 := fun i_ => ([u13,u14,u15,u16,u17,u18,u19,u20,u21,u22,u23] : List Value).getD i_ undef) (A := ?A1) 11 ?_ ?_ ?_ ?_ ?_ ?_ ⟨?_, ?_, ?_, ?_, ?_, ?_, ?_, ?_, ?_, ?_, ?_, trivial⟩ ?_ ?_
        rotate_left
        · rfl
        · rfl
        · decide +kernel
        · decide +kernel
        · exact KL.drew hK
        · exact fun _ _ _ _ => trivial
        · intro o W hj
          have hj : KL _ _ W := hj
          obtain ⟨cL, c0, c1, c2, c3, c4, c5⟩ := bl6 (KL.blk hj (.head _))
          show wpOp _ _ _ 0 _ ⟨#[_,_,_,_,_,_,_,_,_,_,_,_,_,o 0,o 1,o 2,o 3,o 4,o 5,o 6,o 7,o 8,o 9,o 10,_,_,_,_,_,_,_,_,_,_,_,_,_,_,_,_,_,_,_,_,_,_,_,_,_,_,_,_,_,_,_], []⟩ W
          refine wpOp_step rfl (fun K' hK => ?_)
          go_simp
          exact hK _ _ ⟨rfl, hj⟩
        · intro o W _
          show wpOp _ _ _ 1 _ ⟨#[_,_,_,_,_,_,_,_,_,_,_,_,_,o 0,o 1,o 2,o 3,o 4,o 5,o 6,o 7,o 8,o 9,o 10,_,_,_,_,_,_,_,_,_,_,_,_,_,_,_,_,_,_,_,_,_,_,_,_,_,_,_,_,_,_,_], []⟩ W
          refine wpOp_step rfl (fun K' hK => ?_)
          go_simp
          exact hK _ _ ⟨rfl, rfl⟩
        · intro o W hj
          have hj : KL _ _ W := hj
          show wpOp _ _ _ 2 _ ⟨#[_,_,_,_,_,_,_,_,_,_,_,_,_,.agg #[.int .i64 (↑n),.int .i64 r,.int .i64 x,.int .i64 g,.int .i64 wd,.int .i64 l],.int .i64 (↑j),o 2,o 3,o 4,o 5,o 6,o 7,o 8,o 9,o 10,_,_,_,_,_,_,_,_,_,_,_,_,_,_,_,_,_,_,_,_,_,_,_,_,_,_,_,_,_,_,_], []⟩ W
          refine wpOp_step rfl (fun K' hK => ?_)
          go_simp
          refine (hrk _).mono ?_
          rintro e W1 ⟨rfl, hb1⟩
          exact hK _ _ ⟨rfl, hj.over hb1⟩
        · intro o W _
          show wpOp _ _ _ 3 _ ⟨#[_,_,_,_,_,_,_,_,_,_,_,_,_,o 0,o 1,o 2,o 3,o 4,o 5,o 6,o 7,o 8,o 9,o 10,_,_,_,_,_,_,_,_,_,_,_,_,_,_,_,_,_,_,_,_,_,_,_,_,_,_,_,_,_,_,_], []⟩ W
          refine wpOp_step rfl (fun K' hK => ?_)
          go_simp
          exact hK _ _ ⟨rfl, rfl⟩
        · intro o W _
          show wpOp _ _ _ 4 _ ⟨#[_,_,_,_,_,_,_,_,_,_,_,_,_,o 0,o 1,o 2,.pointer (some ⟨w.heap.size, 0, none⟩),o 4,o 5,o 6,o 7,o 8,o 9,o 10,_,_,_,_,_,_,_,_,_,_,_,_,_,_,_,_,_,_,_,_,_,_,_,_,_,_,_,_,_,_,_], []⟩ W
          refine wpOp_step rfl (fun K' hK => ?_)
          go_simp
          exact hK _ _ ⟨rfl, rfl⟩
        · intro o W hj
          have hj : KL _ _ W := hj
          obtain ⟨cL, c0, c1, c2, c3, c4, c5⟩ := bl6 (KL.blk hj (.tail _ (.head _)))
          show wpOp _ _ _ 5 _ ⟨#[_,_,_,_,_,_,_,_,_,_,_,_,_,o 0,o 1,o 2,o 3,.pointer (some ⟨w.heap.size, 0, none⟩),o 5,o 6,o 7,o 8,o 9,o 10,_,_,_,_,_,_,_,_,_,_,_,_,_,_,_,_,_,_,_,_,_,_,_,_,_,_,_,_,_,_,_], []⟩ W
          refine wpOp_step rfl (fun K' hK => ?_)
          go_simp
          exact hK _ _ ⟨rfl, hj⟩
        · intro o W _
          show wpOp _ _ _ 6 _ ⟨#[_,_,_,_,_,_,_,_,_,_,_,_,_,o 0,o 1,o 2,o 3,o 4,o 5,o 6,o 7,o 8,o 9,o 10,_,_,_,_,_,_,_,_,_,_,_,_,_,_,_,_,_,_,_,_,_,_,_,_,_,_,_,_,_,_,_], []⟩ W
          refine wpOp_step rfl (fun K' hK => ?_)
          go_simp
          exact hK _ _ ⟨rfl, rfl⟩
        · intro o W _
          show wpOp _ _ _ 7 _ ⟨#[_,_,_,_,_,_,_,_,_,_,_,_,_,o 0,o 1,o 2,o 3,o 4,o 5,.pointer (some ⟨w.heap.size, 0, none⟩),o 7,o 8,o 9,o 10,_,_,_,_,_,_,_,_,_,_,_,_,_,_,_,_,_,_,_,_,_,_,_,_,_,_,_,_,_,_,_], []⟩ W
          refine wpOp_step rfl (fun K' hK => ?_)
          go_simp
          exact hK _ _ ⟨rfl, rfl⟩
        · intro o W hj
          have hj : KL _ _ W := hj
          obtain ⟨cL, c0, c1, c2, c3, c4, c5⟩ := bl6 (KL.blk hj (.tail _ (.head _)))
          show wpOp _ _ _ 8 _ ⟨#[_,_,_,_,_,_,_,_,_,_,_,_,_,o 0,o 1,o 2,o 3,o 4,o 5,o 6,.pointer (some ⟨w.heap.size, 1, none⟩),o 8,o 9,o 10,_,_,_,_,_,_,_,_,_,_,_,_,_,_,_,_,_,_,_,_,_,_,_,_,_,_,_,_,_,_,_], []⟩ W
          refine wpOp_step rfl (fun K' hK => ?_)
          go_simp
          exact hK _ _ ⟨rfl, hj⟩
        · intro o W _
          show wpOp _ _ _ 9 _ ⟨#[_,_,_,_,_,_,_,_,_,_,_,_,_,o 0,o 1,.int .i64 m,o 3,o 4,.int .i64 a,o 6,o 7,.int .i64 b,o 9,o 10,_,_,_,_,_,_,_,_,_,_,_,_,_,_,_,_,_,_,_,_,_,_,_,_,_,_,_,_,_,_,_], []⟩ W
          refine wpOp_step rfl (fun K' hK => ?_)
          go_simp
          refine (hin _).mono ?_
          rintro e W1 ⟨rfl, rfl⟩
          exact hK _ _ ⟨rfl, rfl⟩
        · intro o W _
          show wpOp _ _ _ 10 _ ⟨#[_,_,_,_,_,_,_,_,_,_,_,_,_,o 0,o 1,o 2,o 3,o 4,o 5,o 6,o 7,o 8,.bool false,o 10,_,_,_,_,_,_,_,_,_,_,_,_,_,_,_,_,_,_,_,_,_,_,_,_,_,_,_,_,_,_,_], []⟩ W
          refine wpOp_step rfl (fun K' hK => ?_)
          go_simp
          exact hK _ _ ⟨rfl, rfl⟩
        · intro o hh_
          have e0 : o 0 = .agg #[.int .i64 (↑n),.int .i64 r,.int .i64 x,.int .i64 g,.int .i64 wd,.int .i64 l] := hh_ 0 (by decide)
          have e1 : o 1 = .int .i64 (↑j) := hh_ 1 (by decide)
          have e2 : o 2 = .int .i64 m := hh_ 2 (by decide)
          have e3 : o 3 = .pointer (some ⟨w.heap.size, 0, none⟩) := hh_ 3 (by decide)
          have e4 : o 4 = .pointer (some ⟨w.heap.size, 0, none⟩) := hh_ 4 (by decide)
          have e5 : o 5 = .int .i64 a := hh_ 5 (by decide)
          have e6 : o 6 = .pointer (some ⟨w.heap.size, 0, none⟩) := hh_ 6 (by decide)
          have e7 : o 7 = .pointer (some ⟨w.heap.size, 1, none⟩) := hh_ 7 (by decide)
          have e8 : o 8 = .int .i64 b := hh_ 8 (by decide)
          have e9 : o 9 = .bool false := hh_ 9 (by decide)
          have e10 : o 10 = .bool true := hh_ 10 (by decide)
          rw [e0, e1, e2, e3, e4, e5, e6, e7, e8, e9, e10]
        · intro W hj
          have hj : KL _ _ W := hj
          obtain ⟨cL0, c0_0, c0_1, c0_2, c0_3, c0_4, c0_5⟩ := bl6 (KL.blk hj (.head _))
          obtain ⟨cL1, c1_0, c1_1, c1_2, c1_3, c1_4, c1_5⟩ := bl6 (KL.blk hj (.tail _ (.head _)))
          have hjb := hj.1
          have hjz := hjb.size
          have hKx := hj
          clear hrk hin
          go_wp2
          go_ret
          exact ⟨by rw [HE.out]; exact congrArg (fun v => Ending.returned (.int .i64 v)) (keep_bad1 (by rw [← HM.out]; exact hm)).symm, hKx.1⟩
      · rw [hm] at hin
        go_wp2
        go_upto_region 4 with (fail)
        refine wp_region_any (by kernel_rfl) ?_
        try (change wpAny _ _ _ _ _ _ _ (World.drew _))
        refine wpAny_vals (fr := fun o => #[.agg #[.int .i64 a,.int .i64 b,.int .i64 c,.int .i64 d,.int .i64 p,.int .i64 q],.agg #[.int .i64 (↑n),.int .i64 r,.int .i64 x,.int .i64 g,.int .i64 wd,.int .i64 l],.pointer (some ⟨w.heap.size, 0, none⟩),.pointer (some ⟨(w.heap.size + 1), 0, none⟩),u4,.int .i64 (↑j),undef,.int .i64 (↑j),.pointer (some ⟨(w.heap.size + 1), 0, none⟩),.int .i64 (↑n),.bool true,u11,u12,o 0,o 1,o 2,o 3,o 4,o 5,o 6,o 7,o 8,o 9,o 10,undef,undef,undef,undef,undef,undef,undef,undef,undef,undef,undef,undef,undef,undef,undef,undef,undef,undef,undef,undef,undef,undef,undef,undef,undef,undef,undef,undef,undef,undef,undef]) (vals := fun i_ => ([.agg #[.int .i64 (↑n),.int .i64 r,.int .i64 x,.int .i64 g,.int .i64 wd,.int .i64 l],.int .i64 (↑j),.int .i64 m,.pointer (some ⟨w.heap.size, 0, none⟩),.pointer (some ⟨w.heap.size, 0, none⟩),.int .i64 a,.pointer (some ⟨w.heap.size, 0, none⟩),.pointer (some ⟨w.heap.size, 1, none⟩),.int .i64 b,.bool true,.bool false] : List Value).getD i_ undef) (Kf := fun _ => True) (K := fun kk_ => ([(KL [((w.heap.size + 1),27,#[.int .i64 (↑n),.int .i64 r,.int .i64 x,.int .i64 g,.int .i64 wd,.int .i64 l]),(w.heap.size,25,#[.int .i64 a,.int .i64 b,.int .i64 c,.int .i64 d,.int .i64 p,.int .i64 q])] w)] : List (World → Prop)).getD kk_ (fun _ => True)) (dep := fun i_ => [[],[],[0,1],[],[3],[4],[],[6],[7],[2,5,8],[9]].getD i_ []) (dv := fun i_ => [[],[],[0,1],[],[3],[4],[],[6],[7],[2,5,8],[9]].getD i_ []) (kd := fun i_ => [1,0,1,0,0,1,0,0,1,0,0].getD i_ 0) (ss := []) (l := [0,1,2,3,4,5,6,7,8,9,10]) (f0 := fun i_ => ([u13,u14,u15,u16,u17,u18,u19,u20,u21,u22,u23] : List Value).getD i_ undef) (A := ?A2) 11 ?_ ?_ ?_ ?_ ?_ ?_ ⟨?_, ?_, ?_, ?_, ?_, ?_, ?_, ?_, ?_, ?_, ?_, trivial⟩ ?_ ?_
        rotate_left
        · rfl
        · rfl
        · decide +kernel
        · decide +kernel
        · exact KL.drew hK
        · exact fun _ _ _ _ => trivial
        · intro o W hj
          have hj : KL _ _ W := hj
          obtain ⟨cL, c0, c1, c2, c3, c4, c5⟩ := bl6 (KL.blk hj (.head _))
          show wpOp _ _ _ 0 _ ⟨#[_,_,_,_,_,_,_,_,_,_,_,_,_,o 0,o 1,o 2,o 3,o 4,o 5,o 6,o 7,o 8,o 9,o 10,_,_,_,_,_,_,_,_,_,_,_,_,_,_,_,_,_,_,_,_,_,_,_,_,_,_,_,_,_,_,_], []⟩ W
          refine wpOp_step rfl (fun K' hK => ?_)
          go_simp
          exact hK _ _ ⟨rfl, hj⟩
        · intro o W _
          show wpOp _ _ _ 1 _ ⟨#[_,_,_,_,_,_,_,_,_,_,_,_,_,o 0,o 1,o 2,o 3,o 4,o 5,o 6,o 7,o 8,o 9,o 10,_,_,_,_,_,_,_,_,_,_,_,_,_,_,_,_,_,_,_,_,_,_,_,_,_,_,_,_,_,_,_], []⟩ W
          refine wpOp_step rfl (fun K' hK => ?_)
          go_simp
          exact hK _ _ ⟨rfl, rfl⟩
        · intro o W hj
          have hj : KL _ _ W := hj
          show wpOp _ _ _ 2 _ ⟨#[_,_,_,_,_,_,_,_,_,_,_,_,_,.agg #[.int .i64 (↑n),.int .i64 r,.int .i64 x,.int .i64 g,.int .i64 wd,.int .i64 l],.int .i64 (↑j),o 2,o 3,o 4,o 5,o 6,o 7,o 8,o 9,o 10,_,_,_,_,_,_,_,_,_,_,_,_,_,_,_,_,_,_,_,_,_,_,_,_,_,_,_,_,_,_,_], []⟩ W
          refine wpOp_step rfl (fun K' hK => ?_)
          go_simp
          refine (hrk _).mono ?_
          rintro e W1 ⟨rfl, hb1⟩
          exact hK _ _ ⟨rfl, hj.over hb1⟩
        · intro o W _
          show wpOp _ _ _ 3 _ ⟨#[_,_,_,_,_,_,_,_,_,_,_,_,_,o 0,o 1,o 2,o 3,o 4,o 5,o 6,o 7,o 8,o 9,o 10,_,_,_,_,_,_,_,_,_,_,_,_,_,_,_,_,_,_,_,_,_,_,_,_,_,_,_,_,_,_,_], []⟩ W
          refine wpOp_step rfl (fun K' hK => ?_)
          go_simp
          exact hK _ _ ⟨rfl, rfl⟩
        · intro o W _
          show wpOp _ _ _ 4 _ ⟨#[_,_,_,_,_,_,_,_,_,_,_,_,_,o 0,o 1,o 2,.pointer (some ⟨w.heap.size, 0, none⟩),o 4,o 5,o 6,o 7,o 8,o 9,o 10,_,_,_,_,_,_,_,_,_,_,_,_,_,_,_,_,_,_,_,_,_,_,_,_,_,_,_,_,_,_,_], []⟩ W
          refine wpOp_step rfl (fun K' hK => ?_)
          go_simp
          exact hK _ _ ⟨rfl, rfl⟩
        · intro o W hj
          have hj : KL _ _ W := hj
          obtain ⟨cL, c0, c1, c2, c3, c4, c5⟩ := bl6 (KL.blk hj (.tail _ (.head _)))
          show wpOp _ _ _ 5 _ ⟨#[_,_,_,_,_,_,_,_,_,_,_,_,_,o 0,o 1,o 2,o 3,.pointer (some ⟨w.heap.size, 0, none⟩),o 5,o 6,o 7,o 8,o 9,o 10,_,_,_,_,_,_,_,_,_,_,_,_,_,_,_,_,_,_,_,_,_,_,_,_,_,_,_,_,_,_,_], []⟩ W
          refine wpOp_step rfl (fun K' hK => ?_)
          go_simp
          exact hK _ _ ⟨rfl, hj⟩
        · intro o W _
          show wpOp _ _ _ 6 _ ⟨#[_,_,_,_,_,_,_,_,_,_,_,_,_,o 0,o 1,o 2,o 3,o 4,o 5,o 6,o 7,o 8,o 9,o 10,_,_,_,_,_,_,_,_,_,_,_,_,_,_,_,_,_,_,_,_,_,_,_,_,_,_,_,_,_,_,_], []⟩ W
          refine wpOp_step rfl (fun K' hK => ?_)
          go_simp
          exact hK _ _ ⟨rfl, rfl⟩
        · intro o W _
          show wpOp _ _ _ 7 _ ⟨#[_,_,_,_,_,_,_,_,_,_,_,_,_,o 0,o 1,o 2,o 3,o 4,o 5,.pointer (some ⟨w.heap.size, 0, none⟩),o 7,o 8,o 9,o 10,_,_,_,_,_,_,_,_,_,_,_,_,_,_,_,_,_,_,_,_,_,_,_,_,_,_,_,_,_,_,_], []⟩ W
          refine wpOp_step rfl (fun K' hK => ?_)
          go_simp
          exact hK _ _ ⟨rfl, rfl⟩
        · intro o W hj
          have hj : KL _ _ W := hj
          obtain ⟨cL, c0, c1, c2, c3, c4, c5⟩ := bl6 (KL.blk hj (.tail _ (.head _)))
          show wpOp _ _ _ 8 _ ⟨#[_,_,_,_,_,_,_,_,_,_,_,_,_,o 0,o 1,o 2,o 3,o 4,o 5,o 6,.pointer (some ⟨w.heap.size, 1, none⟩),o 8,o 9,o 10,_,_,_,_,_,_,_,_,_,_,_,_,_,_,_,_,_,_,_,_,_,_,_,_,_,_,_,_,_,_,_], []⟩ W
          refine wpOp_step rfl (fun K' hK => ?_)
          go_simp
          exact hK _ _ ⟨rfl, hj⟩
        · intro o W _
          show wpOp _ _ _ 9 _ ⟨#[_,_,_,_,_,_,_,_,_,_,_,_,_,o 0,o 1,.int .i64 m,o 3,o 4,.int .i64 a,o 6,o 7,.int .i64 b,o 9,o 10,_,_,_,_,_,_,_,_,_,_,_,_,_,_,_,_,_,_,_,_,_,_,_,_,_,_,_,_,_,_,_], []⟩ W
          refine wpOp_step rfl (fun K' hK => ?_)
          go_simp
          refine (hin _).mono ?_
          rintro e W1 ⟨rfl, rfl⟩
          exact hK _ _ ⟨rfl, rfl⟩
        · intro o W _
          show wpOp _ _ _ 10 _ ⟨#[_,_,_,_,_,_,_,_,_,_,_,_,_,o 0,o 1,o 2,o 3,o 4,o 5,o 6,o 7,o 8,.bool true,o 10,_,_,_,_,_,_,_,_,_,_,_,_,_,_,_,_,_,_,_,_,_,_,_,_,_,_,_,_,_,_,_], []⟩ W
          refine wpOp_step rfl (fun K' hK => ?_)
          go_simp
          exact hK _ _ ⟨rfl, rfl⟩
        · intro o hh_
          have e0 : o 0 = .agg #[.int .i64 (↑n),.int .i64 r,.int .i64 x,.int .i64 g,.int .i64 wd,.int .i64 l] := hh_ 0 (by decide)
          have e1 : o 1 = .int .i64 (↑j) := hh_ 1 (by decide)
          have e2 : o 2 = .int .i64 m := hh_ 2 (by decide)
          have e3 : o 3 = .pointer (some ⟨w.heap.size, 0, none⟩) := hh_ 3 (by decide)
          have e4 : o 4 = .pointer (some ⟨w.heap.size, 0, none⟩) := hh_ 4 (by decide)
          have e5 : o 5 = .int .i64 a := hh_ 5 (by decide)
          have e6 : o 6 = .pointer (some ⟨w.heap.size, 0, none⟩) := hh_ 6 (by decide)
          have e7 : o 7 = .pointer (some ⟨w.heap.size, 1, none⟩) := hh_ 7 (by decide)
          have e8 : o 8 = .int .i64 b := hh_ 8 (by decide)
          have e9 : o 9 = .bool true := hh_ 9 (by decide)
          have e10 : o 10 = .bool false := hh_ 10 (by decide)
          rw [e0, e1, e2, e3, e4, e5, e6, e7, e8, e9, e10]
        · intro W hj
          have hj : KL _ _ W := hj
          obtain ⟨cL0, c0_0, c0_1, c0_2, c0_3, c0_4, c0_5⟩ := bl6 (KL.blk hj (.head _))
          obtain ⟨cL1, c1_0, c1_1, c1_2, c1_3, c1_4, c1_5⟩ := bl6 (KL.blk hj (.tail _ (.head _)))
          have hjb := hj.1
          have hjz := hjb.size
          have hKx := hj
          clear hrk hin
          go_wp2
          go_roundw
          case rel => exact ⟨j + 1, by omega, by go_num, fun q_ hq_ => by
            rcases Nat.lt_or_ge q_ j with h_ | h_
            · exact hall q_ h_
            · obtain rfl : q_ = j := by omega
              rw [← HM.out]; exact hm, hKx⟩
          case measure => simp [intOf]; omega
    · obtain rfl : j = n := by omega
      have hr0 : inB (rsI r x 0) a b = true := by simpa using hall 0 (by omega)
      have hrr : inB r a b = true := by have := hall (j - 1) (by omega); rwa [rs_last hxn hn] at this
      have HR0 := Lib.hid hr0; have HRR := Lib.hid hrr
      clear hr0 hrr hall hj hlt
      cases hg : inB g c d
      · have hin := fun W => rin_any g c d W
        rw [hg] at hin
        clear hri
        go_wp2_with (go_at_call 32; refine (hin _).mono ?_; rintro e w5 ⟨rfl, rfl⟩)
        go_ret
        exact ⟨by rw [HE.out, keep_bad2 hg]; rfl, hK.1⟩
      · have hin := fun W => rin_any g c d W
        rw [hg] at hin
        go_wp2_with (go_at_call 32; refine (hin _).mono ?_; rintro e w5 ⟨rfl, rfl⟩)
        clear hin
        go_loopw [6] (fun i W => ∃ k : Nat, k ≤ j ∧ i = .int .i64 k ∧ (∀ q_ : Nat, q_ < k → inB (2 * rsI r x q_ + g) p q = true) ∧ KL [(w.heap.size + 1, 27, #[.int .i64 j, .int .i64 r, .int .i64 x, .int .i64 g, .int .i64 wd, .int .i64 l]), (w.heap.size, 25, #[.int .i64 a, .int .i64 b, .int .i64 c, .int .i64 d, .int .i64 p, .int .i64 q])] w W) (fun i _ => j - (intOf i).toNat)
        case atStart => exact ⟨0, Nat.zero_le _, rfl, fun q_ hq_ => absurd hq_ (by omega), hK⟩
        case round =>
          clear hK z0 z1 z2 z3 z4 z5 z6 y0 y1 y2 y3 y4 y5 y6 hkz
          obtain ⟨n, rfl⟩ : ∃ n, n = j := ⟨_, rfl⟩
          obtain ⟨j, hj, rfl, hall, hK⟩ := hrel
          obtain ⟨z0, z1, z2, z3, z4, z5, z6⟩ := bl6 (KL.blk hK (.head _))
          obtain ⟨y0, y1, y2, y3, y4, y5, y6⟩ := bl6 (KL.blk hK (.tail _ (.head _)))
          have hkz := hK.1.size
          by_cases hlt : j < n
          · have hle : (j : Int) < (n : Int) := by omega
            have hrk := fun W => hri j W
            obtain ⟨b1, b2⟩ := HRB.out j
            obtain ⟨m, hm'⟩ : ∃ m', m' = rsI r x j := ⟨_, rfl⟩
            obtain ⟨m2, hm2⟩ : ∃ y, y = 2 * m := ⟨_, rfl⟩
            obtain ⟨m3, hm3⟩ : ∃ y, y = m2 + g := ⟨_, rfl⟩
            rw [← hm'] at hrk b1 b2
            have W1_ : IntKind.i64.wrap (2 * m) = m2 := by rw [← hm2]; exact IntWalk.i64_in _ (by omega)
            have W2_ : IntKind.i64.wrap (m2 + g) = m3 := by rw [← hm3]; exact IntWalk.i64_in _ (by omega)
            have HM : RowKit.Hid (m3 = 2 * rsI r x j + g) := Lib.hid (by rw [hm3, hm2, hm'])
            clear hm2 hm3
            clear hm'
            have hin := fun W => rin_any m3 p q W
            clear hj hri
            cases hm : inB m3 p q
            · rw [hm] at hin
              go_wp2
              go_upto_region 11 with (fail)
              refine wp_region_any (by kernel_rfl) ?_
              try (change wpAny _ _ _ _ _ _ _ (World.drew _))
              refine wpAny_vals (fr := fun o => #[.agg #[.int .i64 a,.int .i64 b,.int .i64 c,.int .i64 d,.int .i64 p,.int .i64 q],.agg #[.int .i64 (↑n),.int .i64 r,.int .i64 x,.int .i64 g,.int .i64 wd,.int .i64 l],.pointer (some ⟨w.heap.size, 0, none⟩),.pointer (some ⟨(w.heap.size + 1), 0, none⟩),u4,.int .i64 (↑n),.int .i64 (↑j),.int .i64 (↑n),.pointer (some ⟨(w.heap.size + 1), 0, none⟩),.int .i64 (↑n),.bool false,u11,u12,u13,u14,u15,u16,u17,u18,u19,u20,u21,u22,u23,.pointer (some ⟨(w.heap.size + 1), 3, none⟩),.int .i64 g,.pointer (some ⟨w.heap.size, 2, none⟩),.pointer (some ⟨w.heap.size, 2, none⟩),.int .i64 c,.pointer (some ⟨w.heap.size, 2, none⟩),.pointer (some ⟨w.heap.size, 3, none⟩),.int .i64 d,.bool true,.bool false,.int .i64 (↑j),.pointer (some ⟨(w.heap.size + 1), 0, none⟩),.int .i64 (↑n),.bool true,u38,u39,o 0,o 1,o 2,o 3,o 4,o 5,o 6,o 7,o 8,o 9,o 10,o 11,o 12,o 13,o 14]) (vals := fun i_ => ([.agg #[.int .i64 (↑n),.int .i64 r,.int .i64 x,.int .i64 g,.int .i64 wd,.int .i64 l],.int .i64 (↑j),.int .i64 m,.int .i64 m2,.pointer (some ⟨(w.heap.size + 1), 3, none⟩),.int .i64 g,.int .i64 m3,.pointer (some ⟨w.heap.size, 4, none⟩),.pointer (some ⟨w.heap.size, 4, none⟩),.int .i64 p,.pointer (some ⟨w.heap.size, 4, none⟩),.pointer (some ⟨w.heap.size, 5, none⟩),.int .i64 q,.bool false,.bool true] : List Value).getD i_ undef) (Kf := fun _ => True) (K := fun kk_ => ([(KL [((w.heap.size + 1),27,#[.int .i64 (↑n),.int .i64 r,.int .i64 x,.int .i64 g,.int .i64 wd,.int .i64 l]),(w.heap.size,25,#[.int .i64 a,.int .i64 b,.int .i64 c,.int .i64 d,.int .i64 p,.int .i64 q])] w)] : List (World → Prop)).getD kk_ (fun _ => True)) (dep := fun i_ => [[],[],[0,1],[2],[],[4],[3,5],[],[7],[8],[],[10],[11],[6,9,12],[13]].getD i_ []) (dv := fun i_ => [[],[],[0,1],[2],[],[4],[3,5],[],[7],[8],[],[10],[11],[6,9,12],[13]].getD i_ []) (kd := fun i_ => [1,0,1,0,0,1,0,0,0,1,0,0,1,0,0].getD i_ 0) (ss := []) (l := [0,1,2,3,4,5,6,7,8,9,10,11,12,13,14]) (f0 := fun i_ => ([u40,u41,u42,u43,u44,u45,u46,u47,u48,u49,u50,u51,u52,u53,u54] : List Value).getD i_ undef) (A := ?A3) 15 ?_ ?_ ?_ ?_ ?_ ?_ ⟨?_, ?_, ?_, ?_, ?_, ?_, ?_, ?_, ?_, ?_, ?_, ?_, ?_, ?_, ?_, trivial⟩ ?_ ?_
              rotate_left
              · rfl
              · rfl
              · decide +kernel
              · decide +kernel
              · exact KL.drew hK
              · exact fun _ _ _ _ => trivial
              · intro o W hj
                have hj : KL _ _ W := hj
                obtain ⟨cL, c0, c1, c2, c3, c4, c5⟩ := bl6 (KL.blk hj (.head _))
                show wpOp _ _ _ 0 _ ⟨#[_,_,_,_,_,_,_,_,_,_,_,_,_,_,_,_,_,_,_,_,_,_,_,_,_,_,_,_,_,_,_,_,_,_,_,_,_,_,_,_,o 0,o 1,o 2,o 3,o 4,o 5,o 6,o 7,o 8,o 9,o 10,o 11,o 12,o 13,o 14], []⟩ W
                refine wpOp_step rfl (fun K' hK => ?_)
                go_simp
                exact hK _ _ ⟨rfl, hj⟩
              · intro o W _
                show wpOp _ _ _ 1 _ ⟨#[_,_,_,_,_,_,_,_,_,_,_,_,_,_,_,_,_,_,_,_,_,_,_,_,_,_,_,_,_,_,_,_,_,_,_,_,_,_,_,_,o 0,o 1,o 2,o 3,o 4,o 5,o 6,o 7,o 8,o 9,o 10,o 11,o 12,o 13,o 14], []⟩ W
                refine wpOp_step rfl (fun K' hK => ?_)
                go_simp
                exact hK _ _ ⟨rfl, rfl⟩
              · intro o W hj
                have hj : KL _ _ W := hj
                show wpOp _ _ _ 2 _ ⟨#[_,_,_,_,_,_,_,_,_,_,_,_,_,_,_,_,_,_,_,_,_,_,_,_,_,_,_,_,_,_,_,_,_,_,_,_,_,_,_,_,.agg #[.int .i64 (↑n),.int .i64 r,.int .i64 x,.int .i64 g,.int .i64 wd,.int .i64 l],.int .i64 (↑j),o 2,o 3,o 4,o 5,o 6,o 7,o 8,o 9,o 10,o 11,o 12,o 13,o 14], []⟩ W
                refine wpOp_step rfl (fun K' hK => ?_)
                go_simp
                refine (hrk _).mono ?_
                rintro e W1 ⟨rfl, hb1⟩
                exact hK _ _ ⟨rfl, hj.over hb1⟩
              · intro o W _
                show wpOp _ _ _ 3 _ ⟨#[_,_,_,_,_,_,_,_,_,_,_,_,_,_,_,_,_,_,_,_,_,_,_,_,_,_,_,_,_,_,_,_,_,_,_,_,_,_,_,_,o 0,o 1,.int .i64 m,o 3,o 4,o 5,o 6,o 7,o 8,o 9,o 10,o 11,o 12,o 13,o 14], []⟩ W
                refine wpOp_step rfl (fun K' hK => ?_)
                go_simp
                exact hK _ _ ⟨rfl, rfl⟩
              · intro o W _
                show wpOp _ _ _ 4 _ ⟨#[_,_,_,_,_,_,_,_,_,_,_,_,_,_,_,_,_,_,_,_,_,_,_,_,_,_,_,_,_,_,_,_,_,_,_,_,_,_,_,_,o 0,o 1,o 2,o 3,o 4,o 5,o 6,o 7,o 8,o 9,o 10,o 11,o 12,o 13,o 14], []⟩ W
                refine wpOp_step rfl (fun K' hK => ?_)
                go_simp
                exact hK _ _ ⟨rfl, rfl⟩
              · intro o W hj
                have hj : KL _ _ W := hj
                obtain ⟨cL, c0, c1, c2, c3, c4, c5⟩ := bl6 (KL.blk hj (.head _))
                show wpOp _ _ _ 5 _ ⟨#[_,_,_,_,_,_,_,_,_,_,_,_,_,_,_,_,_,_,_,_,_,_,_,_,_,_,_,_,_,_,_,_,_,_,_,_,_,_,_,_,o 0,o 1,o 2,o 3,.pointer (some ⟨(w.heap.size + 1), 3, none⟩),o 5,o 6,o 7,o 8,o 9,o 10,o 11,o 12,o 13,o 14], []⟩ W
                refine wpOp_step rfl (fun K' hK => ?_)
                go_simp
                exact hK _ _ ⟨rfl, hj⟩
              · intro o W _
                show wpOp _ _ _ 6 _ ⟨#[_,_,_,_,_,_,_,_,_,_,_,_,_,_,_,_,_,_,_,_,_,_,_,_,_,_,_,_,_,_,_,_,_,_,_,_,_,_,_,_,o 0,o 1,o 2,.int .i64 m2,o 4,.int .i64 g,o 6,o 7,o 8,o 9,o 10,o 11,o 12,o 13,o 14], []⟩ W
                refine wpOp_step rfl (fun K' hK => ?_)
                go_simp
                exact hK _ _ ⟨rfl, rfl⟩
              · intro o W _
                show wpOp _ _ _ 7 _ ⟨#[_,_,_,_,_,_,_,_,_,_,_,_,_,_,_,_,_,_,_,_,_,_,_,_,_,_,_,_,_,_,_,_,_,_,_,_,_,_,_,_,o 0,o 1,o 2,o 3,o 4,o 5,o 6,o 7,o 8,o 9,o 10,o 11,o 12,o 13,o 14], []⟩ W
                refine wpOp_step rfl (fun K' hK => ?_)
                go_simp
                exact hK _ _ ⟨rfl, rfl⟩
              · intro o W _
                show wpOp _ _ _ 8 _ ⟨#[_,_,_,_,_,_,_,_,_,_,_,_,_,_,_,_,_,_,_,_,_,_,_,_,_,_,_,_,_,_,_,_,_,_,_,_,_,_,_,_,o 0,o 1,o 2,o 3,o 4,o 5,o 6,.pointer (some ⟨w.heap.size, 4, none⟩),o 8,o 9,o 10,o 11,o 12,o 13,o 14], []⟩ W
                refine wpOp_step rfl (fun K' hK => ?_)
                go_simp
                exact hK _ _ ⟨rfl, rfl⟩
              · intro o W hj
                have hj : KL _ _ W := hj
                obtain ⟨cL, c0, c1, c2, c3, c4, c5⟩ := bl6 (KL.blk hj (.tail _ (.head _)))
                show wpOp _ _ _ 9 _ ⟨#[_,_,_,_,_,_,_,_,_,_,_,_,_,_,_,_,_,_,_,_,_,_,_,_,_,_,_,_,_,_,_,_,_,_,_,_,_,_,_,_,o 0,o 1,o 2,o 3,o 4,o 5,o 6,o 7,.pointer (some ⟨w.heap.size, 4, none⟩),o 9,o 10,o 11,o 12,o 13,o 14], []⟩ W
                refine wpOp_step rfl (fun K' hK => ?_)
                go_simp
                exact hK _ _ ⟨rfl, hj⟩
              · intro o W _
                show wpOp _ _ _ 10 _ ⟨#[_,_,_,_,_,_,_,_,_,_,_,_,_,_,_,_,_,_,_,_,_,_,_,_,_,_,_,_,_,_,_,_,_,_,_,_,_,_,_,_,o 0,o 1,o 2,o 3,o 4,o 5,o 6,o 7,o 8,o 9,o 10,o 11,o 12,o 13,o 14], []⟩ W
                refine wpOp_step rfl (fun K' hK => ?_)
                go_simp
                exact hK _ _ ⟨rfl, rfl⟩
              · intro o W _
                show wpOp _ _ _ 11 _ ⟨#[_,_,_,_,_,_,_,_,_,_,_,_,_,_,_,_,_,_,_,_,_,_,_,_,_,_,_,_,_,_,_,_,_,_,_,_,_,_,_,_,o 0,o 1,o 2,o 3,o 4,o 5,o 6,o 7,o 8,o 9,.pointer (some ⟨w.heap.size, 4, none⟩),o 11,o 12,o 13,o 14], []⟩ W
                refine wpOp_step rfl (fun K' hK => ?_)
                go_simp
                exact hK _ _ ⟨rfl, rfl⟩
              · intro o W hj
                have hj : KL _ _ W := hj
                obtain ⟨cL, c0, c1, c2, c3, c4, c5⟩ := bl6 (KL.blk hj (.tail _ (.head _)))
                show wpOp _ _ _ 12 _ ⟨#[_,_,_,_,_,_,_,_,_,_,_,_,_,_,_,_,_,_,_,_,_,_,_,_,_,_,_,_,_,_,_,_,_,_,_,_,_,_,_,_,o 0,o 1,o 2,o 3,o 4,o 5,o 6,o 7,o 8,o 9,o 10,.pointer (some ⟨w.heap.size, 5, none⟩),o 12,o 13,o 14], []⟩ W
                refine wpOp_step rfl (fun K' hK => ?_)
                go_simp
                exact hK _ _ ⟨rfl, hj⟩
              · intro o W _
                show wpOp _ _ _ 13 _ ⟨#[_,_,_,_,_,_,_,_,_,_,_,_,_,_,_,_,_,_,_,_,_,_,_,_,_,_,_,_,_,_,_,_,_,_,_,_,_,_,_,_,o 0,o 1,o 2,o 3,o 4,o 5,.int .i64 m3,o 7,o 8,.int .i64 p,o 10,o 11,.int .i64 q,o 13,o 14], []⟩ W
                refine wpOp_step rfl (fun K' hK => ?_)
                go_simp
                refine (hin _).mono ?_
                rintro e W1 ⟨rfl, rfl⟩
                exact hK _ _ ⟨rfl, rfl⟩
              · intro o W _
                show wpOp _ _ _ 14 _ ⟨#[_,_,_,_,_,_,_,_,_,_,_,_,_,_,_,_,_,_,_,_,_,_,_,_,_,_,_,_,_,_,_,_,_,_,_,_,_,_,_,_,o 0,o 1,o 2,o 3,o 4,o 5,o 6,o 7,o 8,o 9,o 10,o 11,o 12,.bool false,o 14], []⟩ W
                refine wpOp_step rfl (fun K' hK => ?_)
                go_simp
                exact hK _ _ ⟨rfl, rfl⟩
              · intro o hh_
                have e0 : o 0 = .agg #[.int .i64 (↑n),.int .i64 r,.int .i64 x,.int .i64 g,.int .i64 wd,.int .i64 l] := hh_ 0 (by decide)
                have e1 : o 1 = .int .i64 (↑j) := hh_ 1 (by decide)
                have e2 : o 2 = .int .i64 m := hh_ 2 (by decide)
                have e3 : o 3 = .int .i64 m2 := hh_ 3 (by decide)
                have e4 : o 4 = .pointer (some ⟨(w.heap.size + 1), 3, none⟩) := hh_ 4 (by decide)
                have e5 : o 5 = .int .i64 g := hh_ 5 (by decide)
                have e6 : o 6 = .int .i64 m3 := hh_ 6 (by decide)
                have e7 : o 7 = .pointer (some ⟨w.heap.size, 4, none⟩) := hh_ 7 (by decide)
                have e8 : o 8 = .pointer (some ⟨w.heap.size, 4, none⟩) := hh_ 8 (by decide)
                have e9 : o 9 = .int .i64 p := hh_ 9 (by decide)
                have e10 : o 10 = .pointer (some ⟨w.heap.size, 4, none⟩) := hh_ 10 (by decide)
                have e11 : o 11 = .pointer (some ⟨w.heap.size, 5, none⟩) := hh_ 11 (by decide)
                have e12 : o 12 = .int .i64 q := hh_ 12 (by decide)
                have e13 : o 13 = .bool false := hh_ 13 (by decide)
                have e14 : o 14 = .bool true := hh_ 14 (by decide)
                rw [e0, e1, e2, e3, e4, e5, e6, e7, e8, e9, e10, e11, e12, e13, e14]
              · intro W hj
                have hj : KL _ _ W := hj
                obtain ⟨cL0, c0_0, c0_1, c0_2, c0_3, c0_4, c0_5⟩ := bl6 (KL.blk hj (.head _))
                obtain ⟨cL1, c1_0, c1_1, c1_2, c1_3, c1_4, c1_5⟩ := bl6 (KL.blk hj (.tail _ (.head _)))
                have hjb := hj.1
                have hjz := hjb.size
                have hKx := hj
                clear hrk hin
                go_wp2
                go_ret
                exact ⟨by rw [HE.out]; exact congrArg (fun v => Ending.returned (.int .i64 v)) (keep_bad3 HRR.out HR0.out hg (by rw [← HM.out]; exact hm)).symm, hKx.1⟩
            · rw [hm] at hin
              go_wp2
              go_upto_region 11 with (fail)
              refine wp_region_any (by kernel_rfl) ?_
              try (change wpAny _ _ _ _ _ _ _ (World.drew _))
              refine wpAny_vals (fr := fun o => #[.agg #[.int .i64 a,.int .i64 b,.int .i64 c,.int .i64 d,.int .i64 p,.int .i64 q],.agg #[.int .i64 (↑n),.int .i64 r,.int .i64 x,.int .i64 g,.int .i64 wd,.int .i64 l],.pointer (some ⟨w.heap.size, 0, none⟩),.pointer (some ⟨(w.heap.size + 1), 0, none⟩),u4,.int .i64 (↑n),.int .i64 (↑j),.int .i64 (↑n),.pointer (some ⟨(w.heap.size + 1), 0, none⟩),.int .i64 (↑n),.bool false,u11,u12,u13,u14,u15,u16,u17,u18,u19,u20,u21,u22,u23,.pointer (some ⟨(w.heap.size + 1), 3, none⟩),.int .i64 g,.pointer (some ⟨w.heap.size, 2, none⟩),.pointer (some ⟨w.heap.size, 2, none⟩),.int .i64 c,.pointer (some ⟨w.heap.size, 2, none⟩),.pointer (some ⟨w.heap.size, 3, none⟩),.int .i64 d,.bool true,.bool false,.int .i64 (↑j),.pointer (some ⟨(w.heap.size + 1), 0, none⟩),.int .i64 (↑n),.bool true,u38,u39,o 0,o 1,o 2,o 3,o 4,o 5,o 6,o 7,o 8,o 9,o 10,o 11,o 12,o 13,o 14]) (vals := fun i_ => ([.agg #[.int .i64 (↑n),.int .i64 r,.int .i64 x,.int .i64 g,.int .i64 wd,.int .i64 l],.int .i64 (↑j),.int .i64 m,.int .i64 m2,.pointer (some ⟨(w.heap.size + 1), 3, none⟩),.int .i64 g,.int .i64 m3,.pointer (some ⟨w.heap.size, 4, none⟩),.pointer (some ⟨w.heap.size, 4, none⟩),.int .i64 p,.pointer (some ⟨w.heap.size, 4, none⟩),.pointer (some ⟨w.heap.size, 5, none⟩),.int .i64 q,.bool true,.bool false] : List Value).getD i_ undef) (Kf := fun _ => True) (K := fun kk_ => ([(KL [((w.heap.size + 1),27,#[.int .i64 (↑n),.int .i64 r,.int .i64 x,.int .i64 g,.int .i64 wd,.int .i64 l]),(w.heap.size,25,#[.int .i64 a,.int .i64 b,.int .i64 c,.int .i64 d,.int .i64 p,.int .i64 q])] w)] : List (World → Prop)).getD kk_ (fun _ => True)) (dep := fun i_ => [[],[],[0,1],[2],[],[4],[3,5],[],[7],[8],[],[10],[11],[6,9,12],[13]].getD i_ []) (dv := fun i_ => [[],[],[0,1],[2],[],[4],[3,5],[],[7],[8],[],[10],[11],[6,9,12],[13]].getD i_ []) (kd := fun i_ => [1,0,1,0,0,1,0,0,0,1,0,0,1,0,0].getD i_ 0) (ss := []) (l := [0,1,2,3,4,5,6,7,8,9,10,11,12,13,14]) (f0 := fun i_ => ([u40,u41,u42,u43,u44,u45,u46,u47,u48,u49,u50,u51,u52,u53,u54] : List Value).getD i_ undef) (A := ?A4) 15 ?_ ?_ ?_ ?_ ?_ ?_ ⟨?_, ?_, ?_, ?_, ?_, ?_, ?_, ?_, ?_, ?_, ?_, ?_, ?_, ?_, ?_, trivial⟩ ?_ ?_
              rotate_left
              · rfl
              · rfl
              · decide +kernel
              · decide +kernel
              · exact KL.drew hK
              · exact fun _ _ _ _ => trivial
              · intro o W hj
                have hj : KL _ _ W := hj
                obtain ⟨cL, c0, c1, c2, c3, c4, c5⟩ := bl6 (KL.blk hj (.head _))
                show wpOp _ _ _ 0 _ ⟨#[_,_,_,_,_,_,_,_,_,_,_,_,_,_,_,_,_,_,_,_,_,_,_,_,_,_,_,_,_,_,_,_,_,_,_,_,_,_,_,_,o 0,o 1,o 2,o 3,o 4,o 5,o 6,o 7,o 8,o 9,o 10,o 11,o 12,o 13,o 14], []⟩ W
                refine wpOp_step rfl (fun K' hK => ?_)
                go_simp
                exact hK _ _ ⟨rfl, hj⟩
              · intro o W _
                show wpOp _ _ _ 1 _ ⟨#[_,_,_,_,_,_,_,_,_,_,_,_,_,_,_,_,_,_,_,_,_,_,_,_,_,_,_,_,_,_,_,_,_,_,_,_,_,_,_,_,o 0,o 1,o 2,o 3,o 4,o 5,o 6,o 7,o 8,o 9,o 10,o 11,o 12,o 13,o 14], []⟩ W
                refine wpOp_step rfl (fun K' hK => ?_)
                go_simp
                exact hK _ _ ⟨rfl, rfl⟩
              · intro o W hj
                have hj : KL _ _ W := hj
                show wpOp _ _ _ 2 _ ⟨#[_,_,_,_,_,_,_,_,_,_,_,_,_,_,_,_,_,_,_,_,_,_,_,_,_,_,_,_,_,_,_,_,_,_,_,_,_,_,_,_,.agg #[.int .i64 (↑n),.int .i64 r,.int .i64 x,.int .i64 g,.int .i64 wd,.int .i64 l],.int .i64 (↑j),o 2,o 3,o 4,o 5,o 6,o 7,o 8,o 9,o 10,o 11,o 12,o 13,o 14], []⟩ W
                refine wpOp_step rfl (fun K' hK => ?_)
                go_simp
                refine (hrk _).mono ?_
                rintro e W1 ⟨rfl, hb1⟩
                exact hK _ _ ⟨rfl, hj.over hb1⟩
              · intro o W _
                show wpOp _ _ _ 3 _ ⟨#[_,_,_,_,_,_,_,_,_,_,_,_,_,_,_,_,_,_,_,_,_,_,_,_,_,_,_,_,_,_,_,_,_,_,_,_,_,_,_,_,o 0,o 1,.int .i64 m,o 3,o 4,o 5,o 6,o 7,o 8,o 9,o 10,o 11,o 12,o 13,o 14], []⟩ W
                refine wpOp_step rfl (fun K' hK => ?_)
                go_simp
                exact hK _ _ ⟨rfl, rfl⟩
              · intro o W _
                show wpOp _ _ _ 4 _ ⟨#[_,_,_,_,_,_,_,_,_,_,_,_,_,_,_,_,_,_,_,_,_,_,_,_,_,_,_,_,_,_,_,_,_,_,_,_,_,_,_,_,o 0,o 1,o 2,o 3,o 4,o 5,o 6,o 7,o 8,o 9,o 10,o 11,o 12,o 13,o 14], []⟩ W
                refine wpOp_step rfl (fun K' hK => ?_)
                go_simp
                exact hK _ _ ⟨rfl, rfl⟩
              · intro o W hj
                have hj : KL _ _ W := hj
                obtain ⟨cL, c0, c1, c2, c3, c4, c5⟩ := bl6 (KL.blk hj (.head _))
                show wpOp _ _ _ 5 _ ⟨#[_,_,_,_,_,_,_,_,_,_,_,_,_,_,_,_,_,_,_,_,_,_,_,_,_,_,_,_,_,_,_,_,_,_,_,_,_,_,_,_,o 0,o 1,o 2,o 3,.pointer (some ⟨(w.heap.size + 1), 3, none⟩),o 5,o 6,o 7,o 8,o 9,o 10,o 11,o 12,o 13,o 14], []⟩ W
                refine wpOp_step rfl (fun K' hK => ?_)
                go_simp
                exact hK _ _ ⟨rfl, hj⟩
              · intro o W _
                show wpOp _ _ _ 6 _ ⟨#[_,_,_,_,_,_,_,_,_,_,_,_,_,_,_,_,_,_,_,_,_,_,_,_,_,_,_,_,_,_,_,_,_,_,_,_,_,_,_,_,o 0,o 1,o 2,.int .i64 m2,o 4,.int .i64 g,o 6,o 7,o 8,o 9,o 10,o 11,o 12,o 13,o 14], []⟩ W
                refine wpOp_step rfl (fun K' hK => ?_)
                go_simp
                exact hK _ _ ⟨rfl, rfl⟩
              · intro o W _
                show wpOp _ _ _ 7 _ ⟨#[_,_,_,_,_,_,_,_,_,_,_,_,_,_,_,_,_,_,_,_,_,_,_,_,_,_,_,_,_,_,_,_,_,_,_,_,_,_,_,_,o 0,o 1,o 2,o 3,o 4,o 5,o 6,o 7,o 8,o 9,o 10,o 11,o 12,o 13,o 14], []⟩ W
                refine wpOp_step rfl (fun K' hK => ?_)
                go_simp
                exact hK _ _ ⟨rfl, rfl⟩
              · intro o W _
                show wpOp _ _ _ 8 _ ⟨#[_,_,_,_,_,_,_,_,_,_,_,_,_,_,_,_,_,_,_,_,_,_,_,_,_,_,_,_,_,_,_,_,_,_,_,_,_,_,_,_,o 0,o 1,o 2,o 3,o 4,o 5,o 6,.pointer (some ⟨w.heap.size, 4, none⟩),o 8,o 9,o 10,o 11,o 12,o 13,o 14], []⟩ W
                refine wpOp_step rfl (fun K' hK => ?_)
                go_simp
                exact hK _ _ ⟨rfl, rfl⟩
              · intro o W hj
                have hj : KL _ _ W := hj
                obtain ⟨cL, c0, c1, c2, c3, c4, c5⟩ := bl6 (KL.blk hj (.tail _ (.head _)))
                show wpOp _ _ _ 9 _ ⟨#[_,_,_,_,_,_,_,_,_,_,_,_,_,_,_,_,_,_,_,_,_,_,_,_,_,_,_,_,_,_,_,_,_,_,_,_,_,_,_,_,o 0,o 1,o 2,o 3,o 4,o 5,o 6,o 7,.pointer (some ⟨w.heap.size, 4, none⟩),o 9,o 10,o 11,o 12,o 13,o 14], []⟩ W
                refine wpOp_step rfl (fun K' hK => ?_)
                go_simp
                exact hK _ _ ⟨rfl, hj⟩
              · intro o W _
                show wpOp _ _ _ 10 _ ⟨#[_,_,_,_,_,_,_,_,_,_,_,_,_,_,_,_,_,_,_,_,_,_,_,_,_,_,_,_,_,_,_,_,_,_,_,_,_,_,_,_,o 0,o 1,o 2,o 3,o 4,o 5,o 6,o 7,o 8,o 9,o 10,o 11,o 12,o 13,o 14], []⟩ W
                refine wpOp_step rfl (fun K' hK => ?_)
                go_simp
                exact hK _ _ ⟨rfl, rfl⟩
              · intro o W _
                show wpOp _ _ _ 11 _ ⟨#[_,_,_,_,_,_,_,_,_,_,_,_,_,_,_,_,_,_,_,_,_,_,_,_,_,_,_,_,_,_,_,_,_,_,_,_,_,_,_,_,o 0,o 1,o 2,o 3,o 4,o 5,o 6,o 7,o 8,o 9,.pointer (some ⟨w.heap.size, 4, none⟩),o 11,o 12,o 13,o 14], []⟩ W
                refine wpOp_step rfl (fun K' hK => ?_)
                go_simp
                exact hK _ _ ⟨rfl, rfl⟩
              · intro o W hj
                have hj : KL _ _ W := hj
                obtain ⟨cL, c0, c1, c2, c3, c4, c5⟩ := bl6 (KL.blk hj (.tail _ (.head _)))
                show wpOp _ _ _ 12 _ ⟨#[_,_,_,_,_,_,_,_,_,_,_,_,_,_,_,_,_,_,_,_,_,_,_,_,_,_,_,_,_,_,_,_,_,_,_,_,_,_,_,_,o 0,o 1,o 2,o 3,o 4,o 5,o 6,o 7,o 8,o 9,o 10,.pointer (some ⟨w.heap.size, 5, none⟩),o 12,o 13,o 14], []⟩ W
                refine wpOp_step rfl (fun K' hK => ?_)
                go_simp
                exact hK _ _ ⟨rfl, hj⟩
              · intro o W _
                show wpOp _ _ _ 13 _ ⟨#[_,_,_,_,_,_,_,_,_,_,_,_,_,_,_,_,_,_,_,_,_,_,_,_,_,_,_,_,_,_,_,_,_,_,_,_,_,_,_,_,o 0,o 1,o 2,o 3,o 4,o 5,.int .i64 m3,o 7,o 8,.int .i64 p,o 10,o 11,.int .i64 q,o 13,o 14], []⟩ W
                refine wpOp_step rfl (fun K' hK => ?_)
                go_simp
                refine (hin _).mono ?_
                rintro e W1 ⟨rfl, rfl⟩
                exact hK _ _ ⟨rfl, rfl⟩
              · intro o W _
                show wpOp _ _ _ 14 _ ⟨#[_,_,_,_,_,_,_,_,_,_,_,_,_,_,_,_,_,_,_,_,_,_,_,_,_,_,_,_,_,_,_,_,_,_,_,_,_,_,_,_,o 0,o 1,o 2,o 3,o 4,o 5,o 6,o 7,o 8,o 9,o 10,o 11,o 12,.bool true,o 14], []⟩ W
                refine wpOp_step rfl (fun K' hK => ?_)
                go_simp
                exact hK _ _ ⟨rfl, rfl⟩
              · intro o hh_
                have e0 : o 0 = .agg #[.int .i64 (↑n),.int .i64 r,.int .i64 x,.int .i64 g,.int .i64 wd,.int .i64 l] := hh_ 0 (by decide)
                have e1 : o 1 = .int .i64 (↑j) := hh_ 1 (by decide)
                have e2 : o 2 = .int .i64 m := hh_ 2 (by decide)
                have e3 : o 3 = .int .i64 m2 := hh_ 3 (by decide)
                have e4 : o 4 = .pointer (some ⟨(w.heap.size + 1), 3, none⟩) := hh_ 4 (by decide)
                have e5 : o 5 = .int .i64 g := hh_ 5 (by decide)
                have e6 : o 6 = .int .i64 m3 := hh_ 6 (by decide)
                have e7 : o 7 = .pointer (some ⟨w.heap.size, 4, none⟩) := hh_ 7 (by decide)
                have e8 : o 8 = .pointer (some ⟨w.heap.size, 4, none⟩) := hh_ 8 (by decide)
                have e9 : o 9 = .int .i64 p := hh_ 9 (by decide)
                have e10 : o 10 = .pointer (some ⟨w.heap.size, 4, none⟩) := hh_ 10 (by decide)
                have e11 : o 11 = .pointer (some ⟨w.heap.size, 5, none⟩) := hh_ 11 (by decide)
                have e12 : o 12 = .int .i64 q := hh_ 12 (by decide)
                have e13 : o 13 = .bool true := hh_ 13 (by decide)
                have e14 : o 14 = .bool false := hh_ 14 (by decide)
                rw [e0, e1, e2, e3, e4, e5, e6, e7, e8, e9, e10, e11, e12, e13, e14]
              · intro W hj
                have hj : KL _ _ W := hj
                obtain ⟨cL0, c0_0, c0_1, c0_2, c0_3, c0_4, c0_5⟩ := bl6 (KL.blk hj (.head _))
                obtain ⟨cL1, c1_0, c1_1, c1_2, c1_3, c1_4, c1_5⟩ := bl6 (KL.blk hj (.tail _ (.head _)))
                have hjb := hj.1
                have hjz := hjb.size
                have hKx := hj
                clear hrk hin
                go_wp2
                go_roundw
                case rel => exact ⟨j + 1, by omega, by go_num, fun q_ hq_ => by
                  rcases Nat.lt_or_ge q_ j with h_ | h_
                  · exact hall q_ h_
                  · obtain rfl : q_ = j := by omega
                    rw [← HM.out]; exact hm, hKx⟩
                case measure => simp [intOf]; omega
          · obtain rfl : j = n := by omega
            have hle : ¬ (j : Int) < (j : Int) := by omega
            have e1 : inB (2 * rsI r x 0 + g) p q = true := by simpa using hall 0 (by omega)
            have e2 : inB (2 * r + g) p q = true := by have := hall (j - 1) (by omega); rwa [rs_last hxn hn] at this
            have hEE : E = 0 := by rw [HE.out]; exact keep_ok HRR.out HR0.out hg e2 e1
            have HEE := Lib.hid hEE
            clear hEE e1 e2 hall hj hlt hri
            go_wp2
            go_ret
            exact ⟨by rw [HEE.out]; rfl, hK.1⟩
end Go.Proofs.Ytoenojnfhiimpaa
