/- The walk of the closure that adds what is lost. -/
import Derived.Test.YtogmgaaejepcbaaVol
import Derived.Test.YtogmgaaejepcbaaReg
import Derived.Test.YtogmgaaejepcbaaRgb
namespace Go.Proofs.Ytogmgaaejepcbaa
open Go.RowKit

theorem kvI_bd (x y z p q r : Int) : 0 ≤ kvI x y z p q r ∧ kvI x y z p q r ≤ 8000000000000000000 := by
  unfold kvI
  by_cases h : eB x y z p q r = 0
  · rw [if_pos h]
    obtain ⟨h1, h2, h3, h4, h5, h6⟩ := eB_hb h
    obtain ⟨m1, m2⟩ := mul_bd h1 h2 h3 h4
    obtain ⟨m3, m4⟩ := mul_bd m1 m2 h5 h6
    unfold volI
    omega
  · rw [if_neg h]; omega
set_option maxHeartbeats 4000000 in
set_option maxRecDepth 100000 in
theorem lose0 (x y z p q r f u m : Int) (gl gb : Nat) (w : World) (hm1 : 0 ≤ m) (hm2 : m + kvI f y z u q r ≤ 9000000000000000000) (hb : Blk w gb 25 #[.int .i64 x, .int .i64 y, .int .i64 z, .int .i64 p, .int .i64 q, .int .i64 r]) (hl : Blk w gl 2 #[.int .i64 m]) :
    Calls Try.prog 53 #[.int .i64 0, .int .i64 f, .int .i64 u, .pointer (some ⟨gl, 0, none⟩), .pointer (some ⟨gb, 0, none⟩)] w fun e w' => e = .returned (.tuple #[]) ∧ ∃ wm, Below w.heap.size w wm ∧ w' = wm.setCell ⟨gl, 0, none⟩ (.int .i64 (m + kvI f y z u q r)) := by
  have hkb := kvI_bd f y z u q r
  obtain ⟨bL, b0, b1, b2, b3, b4, b5⟩ := bl6 hb
  obtain ⟨lL, l0⟩ := bl1 hl
  have lF := hl.frozen
  clear hb hl
  have hw : IntKind.i64.wrap (m + kvI f y z u q r) = m + kvI f y z u q r := IntWalk.i64_in _ (by omega)
  go_enter Try.func53, Try.ntmps53
  refine wp_region_any (by kernel_rfl) ?_
  try (change wpAny _ _ _ _ _ _ _ (World.drew _))
  refine wpAny_vals (fr := fun ff_ => #[.int .i64 0, .int .i64 f, .int .i64 u, .pointer (some ⟨gl, 0, none⟩), .pointer (some ⟨gb, 0, none⟩), undef, undef, undef, ff_ 0, ff_ 1, ff_ 2, ff_ 3, ff_ 4, ff_ 5, ff_ 6, ff_ 7]) (vals := fun i_ => ([.int .i64 m, .agg #[.int .i64 x, .int .i64 y, .int .i64 z, .int .i64 p, .int .i64 q, .int .i64 r], .int .i64 0, .int .i64 f, .int .i64 u, .agg #[.int .i64 f, .int .i64 y, .int .i64 z, .int .i64 u, .int .i64 q, .int .i64 r], .int .i64 (kvI f y z u q r), .int .i64 (m + (kvI f y z u q r)), undef] : List Value).getD i_ undef) (Kf := fun _ => True) (K := fun kk_ => ([(fun W_ => Below w.heap.size w W_), (fun W_ => ∃ wm, Below w.heap.size w wm ∧ W_ = wm.setCell ⟨gl, 0, none⟩ (.int .i64 (m + kvI f y z u q r)))] : List (World → Prop)).getD kk_ (fun _ => True)) (dep := fun i_ => [[], [], [], [], [], [1, 2, 3, 4], [5], [0, 6], [0, 1, 2, 3, 4, 5, 6, 7]].getD i_ []) (dv := fun i_ => [[], [], [], [], [], [1, 2, 3, 4], [5], [0, 6], [7]].getD i_ []) (kd := fun i_ => [1, 1, 0, 0, 0, 1, 1, 0, 2].getD i_ 0) (ss := [8]) (l := [0, 1, 2, 3, 4, 5, 6, 7, 8]) (f0 := fun i_ => ([undef, undef, undef, undef, undef, undef, undef, undef, undef] : List Value).getD i_ undef) (A := ⟨#[.int .i64 0, .int .i64 f, .int .i64 u, .pointer (some ⟨gl, 0, none⟩), .pointer (some ⟨gb, 0, none⟩), undef, undef, undef, .int .i64 m, .agg #[.int .i64 x, .int .i64 y, .int .i64 z, .int .i64 p, .int .i64 q, .int .i64 r], .int .i64 0, .int .i64 f, .int .i64 u, .agg #[.int .i64 f, .int .i64 y, .int .i64 z, .int .i64 u, .int .i64 q, .int .i64 r], .int .i64 (kvI f y z u q r), .int .i64 (m + (kvI f y z u q r))], []⟩) 9 rfl rfl (by decide +kernel) (by decide +kernel) ?_ ?_ ⟨?_, ?_, ?_, ?_, ?_, ?_, ?_, ?_, ?_, trivial⟩ ?_ ?_
  · exact (Below.refl _ _).drew
  · exact fun _ _ _ _ => trivial
  · intro ff_ W hj
    have hj : Below w.heap.size w W := hj
    obtain ⟨hc0, hf0⟩ := bcell hj
    have hs0 := hj.size
    show wpOp _ _ _ 0 _ ⟨#[_, _, _, _, _, _, _, _, ff_ 0, ff_ 1, ff_ 2, ff_ 3, ff_ 4, ff_ 5, ff_ 6, ff_ 7], []⟩ W
    refine wpOp_step rfl (fun K' hK => ?_)
    go_simp
    exact hK _ _ ⟨rfl, hj⟩
  · intro ff_ W hj
    have hj : Below w.heap.size w W := hj
    obtain ⟨hc0, hf0⟩ := bcell hj
    have hs0 := hj.size
    show wpOp _ _ _ 1 _ ⟨#[_, _, _, _, _, _, _, _, ff_ 0, ff_ 1, ff_ 2, ff_ 3, ff_ 4, ff_ 5, ff_ 6, ff_ 7], []⟩ W
    refine wpOp_step rfl (fun K' hK => ?_)
    go_simp
    exact hK _ _ ⟨rfl, hj⟩
  · intro ff_ W _
    show wpOp _ _ _ 2 _ ⟨#[_, _, _, _, _, _, _, _, ff_ 0, ff_ 1, ff_ 2, ff_ 3, ff_ 4, ff_ 5, ff_ 6, ff_ 7], []⟩ W
    refine wpOp_step rfl (fun K' hK => ?_)
    go_simp
    exact hK _ _ ⟨rfl, rfl⟩
  · intro ff_ W _
    show wpOp _ _ _ 3 _ ⟨#[_, _, _, _, _, _, _, _, ff_ 0, ff_ 1, ff_ 2, ff_ 3, ff_ 4, ff_ 5, ff_ 6, ff_ 7], []⟩ W
    refine wpOp_step rfl (fun K' hK => ?_)
    go_simp
    exact hK _ _ ⟨rfl, rfl⟩
  · intro ff_ W _
    show wpOp _ _ _ 4 _ ⟨#[_, _, _, _, _, _, _, _, ff_ 0, ff_ 1, ff_ 2, ff_ 3, ff_ 4, ff_ 5, ff_ 6, ff_ 7], []⟩ W
    refine wpOp_step rfl (fun K' hK => ?_)
    go_simp
    exact hK _ _ ⟨rfl, rfl⟩
  · intro ff_ W hj
    have hj : Below w.heap.size w W := hj
    show wpOp _ _ _ 5 _ ⟨#[_, _, _, _, _, _, _, _, ff_ 0, .agg #[.int .i64 x, .int .i64 y, .int .i64 z, .int .i64 p, .int .i64 q, .int .i64 r], .int .i64 0, .int .i64 f, .int .i64 u, ff_ 5, ff_ 6, ff_ 7], []⟩ W
    refine wpOp_step rfl (fun K' hK => ?_)
    go_simp
    refine (part0 _ _ _ _ _ _ _ _ _).mono ?_
    rintro e W1 ⟨rfl, hb1⟩
    exact hK _ _ ⟨rfl, hj.trans (bmono hb1 hj.size)⟩
  · intro ff_ W hj
    have hj : Below w.heap.size w W := hj
    show wpOp _ _ _ 6 _ ⟨#[_, _, _, _, _, _, _, _, ff_ 0, ff_ 1, ff_ 2, ff_ 3, ff_ 4, .agg #[.int .i64 f, .int .i64 y, .int .i64 z, .int .i64 u, .int .i64 q, .int .i64 r], ff_ 6, ff_ 7], []⟩ W
    refine wpOp_step rfl (fun K' hK => ?_)
    go_simp
    refine (kvol_any _ _ _ _ _ _ _).mono ?_
    rintro e W1 ⟨rfl, hb1⟩
    exact hK _ _ ⟨rfl, hj.trans (bmono hb1 hj.size)⟩
  · intro ff_ W _
    show wpOp _ _ _ 7 _ ⟨#[_, _, _, _, _, _, _, _, .int .i64 m, ff_ 1, ff_ 2, ff_ 3, ff_ 4, ff_ 5, .int .i64 (kvI f y z u q r), ff_ 7], []⟩ W
    refine wpOp_step rfl (fun K' hK => ?_)
    go_simp
    exact hK _ _ ⟨rfl, rfl⟩
  · intro ff_ W hj
    have hj : Below w.heap.size w W := hj
    obtain ⟨hc0, hf0⟩ := bcell hj
    have hs0 := hj.size
    show wpOp _ _ _ 8 _ ⟨#[_, _, _, _, _, _, _, _, ff_ 0, ff_ 1, ff_ 2, ff_ 3, ff_ 4, ff_ 5, ff_ 6, .int .i64 (m + (kvI f y z u q r))], []⟩ W
    refine wpOp_step rfl (fun K' hK => ?_)
    go_simp
    exact hK _ _ ⟨rfl, ⟨W, hj, rfl⟩⟩
  · intro ff_ hh_
    have e0 : ff_ 0 = .int .i64 m := hh_ 0 (by decide)
    have e1 : ff_ 1 = .agg #[.int .i64 x, .int .i64 y, .int .i64 z, .int .i64 p, .int .i64 q, .int .i64 r] := hh_ 1 (by decide)
    have e2 : ff_ 2 = .int .i64 0 := hh_ 2 (by decide)
    have e3 : ff_ 3 = .int .i64 f := hh_ 3 (by decide)
    have e4 : ff_ 4 = .int .i64 u := hh_ 4 (by decide)
    have e5 : ff_ 5 = .agg #[.int .i64 f, .int .i64 y, .int .i64 z, .int .i64 u, .int .i64 q, .int .i64 r] := hh_ 5 (by decide)
    have e6 : ff_ 6 = .int .i64 (kvI f y z u q r) := hh_ 6 (by decide)
    have e7 : ff_ 7 = .int .i64 (m + (kvI f y z u q r)) := hh_ 7 (by decide)
    rw [e0, e1, e2, e3, e4, e5, e6, e7]
  · intro W hj
    obtain ⟨wm, hwm, rfl⟩ := hj
    go_wp2
    go_end0
    exact ⟨rfl, wm, hwm, rfl⟩
set_option maxHeartbeats 4000000 in
set_option maxRecDepth 100000 in
theorem lose1 (x y z p q r f u m : Int) (gl gb : Nat) (w : World) (hm1 : 0 ≤ m) (hm2 : m + kvI x f z p u r ≤ 9000000000000000000) (hb : Blk w gb 25 #[.int .i64 x, .int .i64 y, .int .i64 z, .int .i64 p, .int .i64 q, .int .i64 r]) (hl : Blk w gl 2 #[.int .i64 m]) :
    Calls Try.prog 53 #[.int .i64 1, .int .i64 f, .int .i64 u, .pointer (some ⟨gl, 0, none⟩), .pointer (some ⟨gb, 0, none⟩)] w fun e w' => e = .returned (.tuple #[]) ∧ ∃ wm, Below w.heap.size w wm ∧ w' = wm.setCell ⟨gl, 0, none⟩ (.int .i64 (m + kvI x f z p u r)) := by
  have hkb := kvI_bd x f z p u r
  obtain ⟨bL, b0, b1, b2, b3, b4, b5⟩ := bl6 hb
  obtain ⟨lL, l0⟩ := bl1 hl
  have lF := hl.frozen
  clear hb hl
  have hw : IntKind.i64.wrap (m + kvI x f z p u r) = m + kvI x f z p u r := IntWalk.i64_in _ (by omega)
  go_enter Try.func53, Try.ntmps53
  refine wp_region_any (by kernel_rfl) ?_
  try (change wpAny _ _ _ _ _ _ _ (World.drew _))
  refine wpAny_vals (fr := fun ff_ => #[.int .i64 1, .int .i64 f, .int .i64 u, .pointer (some ⟨gl, 0, none⟩), .pointer (some ⟨gb, 0, none⟩), undef, undef, undef, ff_ 0, ff_ 1, ff_ 2, ff_ 3, ff_ 4, ff_ 5, ff_ 6, ff_ 7]) (vals := fun i_ => ([.int .i64 m, .agg #[.int .i64 x, .int .i64 y, .int .i64 z, .int .i64 p, .int .i64 q, .int .i64 r], .int .i64 1, .int .i64 f, .int .i64 u, .agg #[.int .i64 x, .int .i64 f, .int .i64 z, .int .i64 p, .int .i64 u, .int .i64 r], .int .i64 (kvI x f z p u r), .int .i64 (m + (kvI x f z p u r)), undef] : List Value).getD i_ undef) (Kf := fun _ => True) (K := fun kk_ => ([(fun W_ => Below w.heap.size w W_), (fun W_ => ∃ wm, Below w.heap.size w wm ∧ W_ = wm.setCell ⟨gl, 0, none⟩ (.int .i64 (m + kvI x f z p u r)))] : List (World → Prop)).getD kk_ (fun _ => True)) (dep := fun i_ => [[], [], [], [], [], [1, 2, 3, 4], [5], [0, 6], [0, 1, 2, 3, 4, 5, 6, 7]].getD i_ []) (dv := fun i_ => [[], [], [], [], [], [1, 2, 3, 4], [5], [0, 6], [7]].getD i_ []) (kd := fun i_ => [1, 1, 0, 0, 0, 1, 1, 0, 2].getD i_ 0) (ss := [8]) (l := [0, 1, 2, 3, 4, 5, 6, 7, 8]) (f0 := fun i_ => ([undef, undef, undef, undef, undef, undef, undef, undef, undef] : List Value).getD i_ undef) (A := ⟨#[.int .i64 1, .int .i64 f, .int .i64 u, .pointer (some ⟨gl, 0, none⟩), .pointer (some ⟨gb, 0, none⟩), undef, undef, undef, .int .i64 m, .agg #[.int .i64 x, .int .i64 y, .int .i64 z, .int .i64 p, .int .i64 q, .int .i64 r], .int .i64 1, .int .i64 f, .int .i64 u, .agg #[.int .i64 x, .int .i64 f, .int .i64 z, .int .i64 p, .int .i64 u, .int .i64 r], .int .i64 (kvI x f z p u r), .int .i64 (m + (kvI x f z p u r))], []⟩) 9 rfl rfl (by decide +kernel) (by decide +kernel) ?_ ?_ ⟨?_, ?_, ?_, ?_, ?_, ?_, ?_, ?_, ?_, trivial⟩ ?_ ?_
  · exact (Below.refl _ _).drew
  · exact fun _ _ _ _ => trivial
  · intro ff_ W hj
    have hj : Below w.heap.size w W := hj
    obtain ⟨hc0, hf0⟩ := bcell hj
    have hs0 := hj.size
    show wpOp _ _ _ 0 _ ⟨#[_, _, _, _, _, _, _, _, ff_ 0, ff_ 1, ff_ 2, ff_ 3, ff_ 4, ff_ 5, ff_ 6, ff_ 7], []⟩ W
    refine wpOp_step rfl (fun K' hK => ?_)
    go_simp
    exact hK _ _ ⟨rfl, hj⟩
  · intro ff_ W hj
    have hj : Below w.heap.size w W := hj
    obtain ⟨hc0, hf0⟩ := bcell hj
    have hs0 := hj.size
    show wpOp _ _ _ 1 _ ⟨#[_, _, _, _, _, _, _, _, ff_ 0, ff_ 1, ff_ 2, ff_ 3, ff_ 4, ff_ 5, ff_ 6, ff_ 7], []⟩ W
    refine wpOp_step rfl (fun K' hK => ?_)
    go_simp
    exact hK _ _ ⟨rfl, hj⟩
  · intro ff_ W _
    show wpOp _ _ _ 2 _ ⟨#[_, _, _, _, _, _, _, _, ff_ 0, ff_ 1, ff_ 2, ff_ 3, ff_ 4, ff_ 5, ff_ 6, ff_ 7], []⟩ W
    refine wpOp_step rfl (fun K' hK => ?_)
    go_simp
    exact hK _ _ ⟨rfl, rfl⟩
  · intro ff_ W _
    show wpOp _ _ _ 3 _ ⟨#[_, _, _, _, _, _, _, _, ff_ 0, ff_ 1, ff_ 2, ff_ 3, ff_ 4, ff_ 5, ff_ 6, ff_ 7], []⟩ W
    refine wpOp_step rfl (fun K' hK => ?_)
    go_simp
    exact hK _ _ ⟨rfl, rfl⟩
  · intro ff_ W _
    show wpOp _ _ _ 4 _ ⟨#[_, _, _, _, _, _, _, _, ff_ 0, ff_ 1, ff_ 2, ff_ 3, ff_ 4, ff_ 5, ff_ 6, ff_ 7], []⟩ W
    refine wpOp_step rfl (fun K' hK => ?_)
    go_simp
    exact hK _ _ ⟨rfl, rfl⟩
  · intro ff_ W hj
    have hj : Below w.heap.size w W := hj
    show wpOp _ _ _ 5 _ ⟨#[_, _, _, _, _, _, _, _, ff_ 0, .agg #[.int .i64 x, .int .i64 y, .int .i64 z, .int .i64 p, .int .i64 q, .int .i64 r], .int .i64 1, .int .i64 f, .int .i64 u, ff_ 5, ff_ 6, ff_ 7], []⟩ W
    refine wpOp_step rfl (fun K' hK => ?_)
    go_simp
    refine (part1 _ _ _ _ _ _ _ _ _).mono ?_
    rintro e W1 ⟨rfl, hb1⟩
    exact hK _ _ ⟨rfl, hj.trans (bmono hb1 hj.size)⟩
  · intro ff_ W hj
    have hj : Below w.heap.size w W := hj
    show wpOp _ _ _ 6 _ ⟨#[_, _, _, _, _, _, _, _, ff_ 0, ff_ 1, ff_ 2, ff_ 3, ff_ 4, .agg #[.int .i64 x, .int .i64 f, .int .i64 z, .int .i64 p, .int .i64 u, .int .i64 r], ff_ 6, ff_ 7], []⟩ W
    refine wpOp_step rfl (fun K' hK => ?_)
    go_simp
    refine (kvol_any _ _ _ _ _ _ _).mono ?_
    rintro e W1 ⟨rfl, hb1⟩
    exact hK _ _ ⟨rfl, hj.trans (bmono hb1 hj.size)⟩
  · intro ff_ W _
    show wpOp _ _ _ 7 _ ⟨#[_, _, _, _, _, _, _, _, .int .i64 m, ff_ 1, ff_ 2, ff_ 3, ff_ 4, ff_ 5, .int .i64 (kvI x f z p u r), ff_ 7], []⟩ W
    refine wpOp_step rfl (fun K' hK => ?_)
    go_simp
    exact hK _ _ ⟨rfl, rfl⟩
  · intro ff_ W hj
    have hj : Below w.heap.size w W := hj
    obtain ⟨hc0, hf0⟩ := bcell hj
    have hs0 := hj.size
    show wpOp _ _ _ 8 _ ⟨#[_, _, _, _, _, _, _, _, ff_ 0, ff_ 1, ff_ 2, ff_ 3, ff_ 4, ff_ 5, ff_ 6, .int .i64 (m + (kvI x f z p u r))], []⟩ W
    refine wpOp_step rfl (fun K' hK => ?_)
    go_simp
    exact hK _ _ ⟨rfl, ⟨W, hj, rfl⟩⟩
  · intro ff_ hh_
    have e0 : ff_ 0 = .int .i64 m := hh_ 0 (by decide)
    have e1 : ff_ 1 = .agg #[.int .i64 x, .int .i64 y, .int .i64 z, .int .i64 p, .int .i64 q, .int .i64 r] := hh_ 1 (by decide)
    have e2 : ff_ 2 = .int .i64 1 := hh_ 2 (by decide)
    have e3 : ff_ 3 = .int .i64 f := hh_ 3 (by decide)
    have e4 : ff_ 4 = .int .i64 u := hh_ 4 (by decide)
    have e5 : ff_ 5 = .agg #[.int .i64 x, .int .i64 f, .int .i64 z, .int .i64 p, .int .i64 u, .int .i64 r] := hh_ 5 (by decide)
    have e6 : ff_ 6 = .int .i64 (kvI x f z p u r) := hh_ 6 (by decide)
    have e7 : ff_ 7 = .int .i64 (m + (kvI x f z p u r)) := hh_ 7 (by decide)
    rw [e0, e1, e2, e3, e4, e5, e6, e7]
  · intro W hj
    obtain ⟨wm, hwm, rfl⟩ := hj
    go_wp2
    go_end0
    exact ⟨rfl, wm, hwm, rfl⟩
set_option maxHeartbeats 4000000 in
set_option maxRecDepth 100000 in
theorem lose2 (x y z p q r f u m : Int) (gl gb : Nat) (w : World) (hm1 : 0 ≤ m) (hm2 : m + kvI x y f p q u ≤ 9000000000000000000) (hb : Blk w gb 25 #[.int .i64 x, .int .i64 y, .int .i64 z, .int .i64 p, .int .i64 q, .int .i64 r]) (hl : Blk w gl 2 #[.int .i64 m]) :
    Calls Try.prog 53 #[.int .i64 2, .int .i64 f, .int .i64 u, .pointer (some ⟨gl, 0, none⟩), .pointer (some ⟨gb, 0, none⟩)] w fun e w' => e = .returned (.tuple #[]) ∧ ∃ wm, Below w.heap.size w wm ∧ w' = wm.setCell ⟨gl, 0, none⟩ (.int .i64 (m + kvI x y f p q u)) := by
  have hkb := kvI_bd x y f p q u
  obtain ⟨bL, b0, b1, b2, b3, b4, b5⟩ := bl6 hb
  obtain ⟨lL, l0⟩ := bl1 hl
  have lF := hl.frozen
  clear hb hl
  have hw : IntKind.i64.wrap (m + kvI x y f p q u) = m + kvI x y f p q u := IntWalk.i64_in _ (by omega)
  go_enter Try.func53, Try.ntmps53
  refine wp_region_any (by kernel_rfl) ?_
  try (change wpAny _ _ _ _ _ _ _ (World.drew _))
  refine wpAny_vals (fr := fun ff_ => #[.int .i64 2, .int .i64 f, .int .i64 u, .pointer (some ⟨gl, 0, none⟩), .pointer (some ⟨gb, 0, none⟩), undef, undef, undef, ff_ 0, ff_ 1, ff_ 2, ff_ 3, ff_ 4, ff_ 5, ff_ 6, ff_ 7]) (vals := fun i_ => ([.int .i64 m, .agg #[.int .i64 x, .int .i64 y, .int .i64 z, .int .i64 p, .int .i64 q, .int .i64 r], .int .i64 2, .int .i64 f, .int .i64 u, .agg #[.int .i64 x, .int .i64 y, .int .i64 f, .int .i64 p, .int .i64 q, .int .i64 u], .int .i64 (kvI x y f p q u), .int .i64 (m + (kvI x y f p q u)), undef] : List Value).getD i_ undef) (Kf := fun _ => True) (K := fun kk_ => ([(fun W_ => Below w.heap.size w W_), (fun W_ => ∃ wm, Below w.heap.size w wm ∧ W_ = wm.setCell ⟨gl, 0, none⟩ (.int .i64 (m + kvI x y f p q u)))] : List (World → Prop)).getD kk_ (fun _ => True)) (dep := fun i_ => [[], [], [], [], [], [1, 2, 3, 4], [5], [0, 6], [0, 1, 2, 3, 4, 5, 6, 7]].getD i_ []) (dv := fun i_ => [[], [], [], [], [], [1, 2, 3, 4], [5], [0, 6], [7]].getD i_ []) (kd := fun i_ => [1, 1, 0, 0, 0, 1, 1, 0, 2].getD i_ 0) (ss := [8]) (l := [0, 1, 2, 3, 4, 5, 6, 7, 8]) (f0 := fun i_ => ([undef, undef, undef, undef, undef, undef, undef, undef, undef] : List Value).getD i_ undef) (A := ⟨#[.int .i64 2, .int .i64 f, .int .i64 u, .pointer (some ⟨gl, 0, none⟩), .pointer (some ⟨gb, 0, none⟩), undef, undef, undef, .int .i64 m, .agg #[.int .i64 x, .int .i64 y, .int .i64 z, .int .i64 p, .int .i64 q, .int .i64 r], .int .i64 2, .int .i64 f, .int .i64 u, .agg #[.int .i64 x, .int .i64 y, .int .i64 f, .int .i64 p, .int .i64 q, .int .i64 u], .int .i64 (kvI x y f p q u), .int .i64 (m + (kvI x y f p q u))], []⟩) 9 rfl rfl (by decide +kernel) (by decide +kernel) ?_ ?_ ⟨?_, ?_, ?_, ?_, ?_, ?_, ?_, ?_, ?_, trivial⟩ ?_ ?_
  · exact (Below.refl _ _).drew
  · exact fun _ _ _ _ => trivial
  · intro ff_ W hj
    have hj : Below w.heap.size w W := hj
    obtain ⟨hc0, hf0⟩ := bcell hj
    have hs0 := hj.size
    show wpOp _ _ _ 0 _ ⟨#[_, _, _, _, _, _, _, _, ff_ 0, ff_ 1, ff_ 2, ff_ 3, ff_ 4, ff_ 5, ff_ 6, ff_ 7], []⟩ W
    refine wpOp_step rfl (fun K' hK => ?_)
    go_simp
    exact hK _ _ ⟨rfl, hj⟩
  · intro ff_ W hj
    have hj : Below w.heap.size w W := hj
    obtain ⟨hc0, hf0⟩ := bcell hj
    have hs0 := hj.size
    show wpOp _ _ _ 1 _ ⟨#[_, _, _, _, _, _, _, _, ff_ 0, ff_ 1, ff_ 2, ff_ 3, ff_ 4, ff_ 5, ff_ 6, ff_ 7], []⟩ W
    refine wpOp_step rfl (fun K' hK => ?_)
    go_simp
    exact hK _ _ ⟨rfl, hj⟩
  · intro ff_ W _
    show wpOp _ _ _ 2 _ ⟨#[_, _, _, _, _, _, _, _, ff_ 0, ff_ 1, ff_ 2, ff_ 3, ff_ 4, ff_ 5, ff_ 6, ff_ 7], []⟩ W
    refine wpOp_step rfl (fun K' hK => ?_)
    go_simp
    exact hK _ _ ⟨rfl, rfl⟩
  · intro ff_ W _
    show wpOp _ _ _ 3 _ ⟨#[_, _, _, _, _, _, _, _, ff_ 0, ff_ 1, ff_ 2, ff_ 3, ff_ 4, ff_ 5, ff_ 6, ff_ 7], []⟩ W
    refine wpOp_step rfl (fun K' hK => ?_)
    go_simp
    exact hK _ _ ⟨rfl, rfl⟩
  · intro ff_ W _
    show wpOp _ _ _ 4 _ ⟨#[_, _, _, _, _, _, _, _, ff_ 0, ff_ 1, ff_ 2, ff_ 3, ff_ 4, ff_ 5, ff_ 6, ff_ 7], []⟩ W
    refine wpOp_step rfl (fun K' hK => ?_)
    go_simp
    exact hK _ _ ⟨rfl, rfl⟩
  · intro ff_ W hj
    have hj : Below w.heap.size w W := hj
    show wpOp _ _ _ 5 _ ⟨#[_, _, _, _, _, _, _, _, ff_ 0, .agg #[.int .i64 x, .int .i64 y, .int .i64 z, .int .i64 p, .int .i64 q, .int .i64 r], .int .i64 2, .int .i64 f, .int .i64 u, ff_ 5, ff_ 6, ff_ 7], []⟩ W
    refine wpOp_step rfl (fun K' hK => ?_)
    go_simp
    refine (part2 _ _ _ _ _ _ _ _ _).mono ?_
    rintro e W1 ⟨rfl, hb1⟩
    exact hK _ _ ⟨rfl, hj.trans (bmono hb1 hj.size)⟩
  · intro ff_ W hj
    have hj : Below w.heap.size w W := hj
    show wpOp _ _ _ 6 _ ⟨#[_, _, _, _, _, _, _, _, ff_ 0, ff_ 1, ff_ 2, ff_ 3, ff_ 4, .agg #[.int .i64 x, .int .i64 y, .int .i64 f, .int .i64 p, .int .i64 q, .int .i64 u], ff_ 6, ff_ 7], []⟩ W
    refine wpOp_step rfl (fun K' hK => ?_)
    go_simp
    refine (kvol_any _ _ _ _ _ _ _).mono ?_
    rintro e W1 ⟨rfl, hb1⟩
    exact hK _ _ ⟨rfl, hj.trans (bmono hb1 hj.size)⟩
  · intro ff_ W _
    show wpOp _ _ _ 7 _ ⟨#[_, _, _, _, _, _, _, _, .int .i64 m, ff_ 1, ff_ 2, ff_ 3, ff_ 4, ff_ 5, .int .i64 (kvI x y f p q u), ff_ 7], []⟩ W
    refine wpOp_step rfl (fun K' hK => ?_)
    go_simp
    exact hK _ _ ⟨rfl, rfl⟩
  · intro ff_ W hj
    have hj : Below w.heap.size w W := hj
    obtain ⟨hc0, hf0⟩ := bcell hj
    have hs0 := hj.size
    show wpOp _ _ _ 8 _ ⟨#[_, _, _, _, _, _, _, _, ff_ 0, ff_ 1, ff_ 2, ff_ 3, ff_ 4, ff_ 5, ff_ 6, .int .i64 (m + (kvI x y f p q u))], []⟩ W
    refine wpOp_step rfl (fun K' hK => ?_)
    go_simp
    exact hK _ _ ⟨rfl, ⟨W, hj, rfl⟩⟩
  · intro ff_ hh_
    have e0 : ff_ 0 = .int .i64 m := hh_ 0 (by decide)
    have e1 : ff_ 1 = .agg #[.int .i64 x, .int .i64 y, .int .i64 z, .int .i64 p, .int .i64 q, .int .i64 r] := hh_ 1 (by decide)
    have e2 : ff_ 2 = .int .i64 2 := hh_ 2 (by decide)
    have e3 : ff_ 3 = .int .i64 f := hh_ 3 (by decide)
    have e4 : ff_ 4 = .int .i64 u := hh_ 4 (by decide)
    have e5 : ff_ 5 = .agg #[.int .i64 x, .int .i64 y, .int .i64 f, .int .i64 p, .int .i64 q, .int .i64 u] := hh_ 5 (by decide)
    have e6 : ff_ 6 = .int .i64 (kvI x y f p q u) := hh_ 6 (by decide)
    have e7 : ff_ 7 = .int .i64 (m + (kvI x y f p q u)) := hh_ 7 (by decide)
    rw [e0, e1, e2, e3, e4, e5, e6, e7]
  · intro W hj
    obtain ⟨wm, hwm, rfl⟩ := hj
    go_wp2
    go_end0
    exact ⟨rfl, wm, hwm, rfl⟩
end Go.Proofs.Ytogmgaaejepcbaa
