/- The walks of slices.Compare at two arrays of three and of vector's Compare. No condition. -/
import Derived.Test.YthlidkmalfjmbaaInv
namespace Go.Proofs.Ythlidkmalfjmbaa
open Go.RowKit

/-- the order of two vectors, coordinate by coordinate -/
def cmp3 (x y z a b c : Int) : Int := if x = a then (if y = b then cmpI z c else cmpI y b) else cmpI x a
theorem cmpI_eq {a b : Int} : cmpI a b = 0 ↔ a = b := by unfold cmpI; (repeat' split) <;> omega
set_option maxHeartbeats 2000000 in
theorem slicesCmp_any (g k : Nat) (x y z a b c : Int) (w : World) (hg : Blk w g 61 #[.int .i64 x, .int .i64 y, .int .i64 z]) (hk : Blk w k 61 #[.int .i64 a, .int .i64 b, .int .i64 c]) :
    Calls Try.prog 41 #[.slice (some ⟨g, 0, none⟩) 3 3, .slice (some ⟨k, 0, none⟩) 3 3] w fun e w' => e = .returned (.int .i64 (cmp3 x y z a b c)) ∧ w = w' := by
  obtain ⟨g0, g1, g2⟩ := blk3 hg
  obtain ⟨k0, k1, k2⟩ := blk3 hk
  clear hg hk
  go_enter Try.func41, Try.ntmps41
  go_wp2
  go_loopw [11] (fun i W => (i = .int .i64 0 ∨ i = .int .i64 1 ∧ x = a ∨ i = .int .i64 2 ∧ x = a ∧ y = b ∨ i = .int .i64 3 ∧ x = a ∧ y = b ∧ z = c) ∧ W = w) (fun i _ => 3 - (intOf i).toNat)
  case atStart => exact ⟨.inl rfl, rfl⟩
  case round =>
    obtain ⟨h, rfl⟩ := hrel
    rcases h with rfl | ⟨rfl, rfl⟩ | ⟨rfl, rfl, rfl⟩ | ⟨rfl, rfl, rfl, rfl⟩
    · have hc := cmp_any x a
      by_cases he : x = a
      · rw [cmpI_eq.2 he] at hc
        subst he
        go_wp2_with (go_at_call 53; refine (hc _).mono ?_; rintro e w' ⟨rfl, rfl⟩)
        go_roundw
        case rel => exact ⟨.inr (.inl ⟨by go_num, by first | rfl | trivial⟩), by trivial⟩
        case measure => simp [intOf] <;> omega
      · have hne : ¬ cmpI x a = 0 := fun h => he (cmpI_eq.1 h)
        go_wp2_with (go_at_call 53; refine (hc _).mono ?_; rintro e w' ⟨rfl, rfl⟩)
        go_ret
        exact ⟨ret_int (by unfold cmp3; rw [if_neg he]), rfl⟩
    · have hc := cmp_any y b
      by_cases he : y = b
      · rw [cmpI_eq.2 he] at hc
        subst he
        go_wp2_with (go_at_call 53; refine (hc _).mono ?_; rintro e w' ⟨rfl, rfl⟩)
        go_roundw
        case rel => exact ⟨.inr (.inr (.inl ⟨by go_num, by first | rfl | trivial, by first | rfl | trivial⟩)), by trivial⟩
        case measure => simp [intOf] <;> omega
      · have hne : ¬ cmpI y b = 0 := fun h => he (cmpI_eq.1 h)
        go_wp2_with (go_at_call 53; refine (hc _).mono ?_; rintro e w' ⟨rfl, rfl⟩)
        go_ret
        exact ⟨ret_int (by unfold cmp3; rw [if_pos rfl, if_neg he]), rfl⟩
    · have hc := cmp_any z c
      by_cases he : z = c
      · rw [cmpI_eq.2 he] at hc
        subst he
        go_wp2_with (go_at_call 53; refine (hc _).mono ?_; rintro e w' ⟨rfl, rfl⟩)
        go_roundw
        case rel => exact ⟨.inr (.inr (.inr ⟨by go_num, by first | rfl | trivial, by first | rfl | trivial, by first | rfl | trivial⟩)), by trivial⟩
        case measure => simp [intOf] <;> omega
      · have hne : ¬ cmpI z c = 0 := fun h => he (cmpI_eq.1 h)
        go_wp2_with (go_at_call 53; refine (hc _).mono ?_; rintro e w' ⟨rfl, rfl⟩)
        go_ret
        exact ⟨ret_int (by unfold cmp3; rw [if_pos rfl, if_pos rfl]), rfl⟩
    · go_wp2
      go_ret
      exact ⟨ret_int (by unfold cmp3; rw [if_pos rfl, if_pos rfl, cmpI_eq.2 rfl]), rfl⟩

theorem eqV (x y z a b c : Int) (w : World) : Sem.run Try.prog (binOp .eql 23 (.agg #[.int .i64 x, .int .i64 y, .int .i64 z]) (.agg #[.int .i64 a, .int .i64 b, .int .i64 c])) w = .ok (.bool (x == a && (y == b && z == c))) w := by
  have u3 := Try.underlying3
  have a3 := Try.isAgg3
  have z3 := Try.sizeOf3
  have hS : Try.prog.underlying 23 = some (.struct (Try.prog.fieldsOf 23)) := by kernel_rfl
  have hp : Try.prog.stoodInHeld 23 = false := by kernel_rfl
  rw [run_eql_struct, show (10000 : Nat) = 9999 + 1 from rfl, run_equalIn_agg w 9999 23 _ _ hS hp]
  simp only [Program.fieldsOf, Try.underlying23]
  go_simp
  by_cases h1 : x = a <;> by_cases h2 : y = b <;> by_cases h3 : z = c <;> simp [h1, h2, h3]
theorem cmp3_same {x y z : Int} : cmp3 x y z x y z = 0 := by simp [cmp3, cmpI]

set_option maxHeartbeats 4000000 in
theorem compare_any (x y z a b c : Int) (w : World) :
    Calls Try.prog 17 #[.agg #[.int .i64 x, .int .i64 y, .int .i64 z], .agg #[.int .i64 a, .int .i64 b, .int .i64 c]] w fun e w' => e = .returned (.int .i64 (cmp3 x y z a b c)) ∧ Below w.heap.size w w' := by
  have hq := eqV x y z a b c
  by_cases he : (x == a && (y == b && z == c)) = true
  · rw [he] at hq
    simp only [Bool.and_eq_true, beq_iff_eq] at he
    obtain ⟨rfl, rfl, rfl⟩ := he
    go_enter Try.func17, Try.ntmps17
    go_wp2
    go_ret
    refine ⟨ret_int cmp3_same.symm, ?_⟩
    repeat (first | exact Below.refl _ _ | refine Below.drew ?_ | refine below_drewN ?_ _ | refine Below.setCell ?_ ?_ _ | refine Below.alloc ?_ ?_ _ | (refine Below.trans ?_ (bmono (by assumption) ?_)))
    all_goals (first | omega | (simp <;> omega))
  · rw [Bool.not_eq_true] at he
    rw [he] at hq
    clear he
    go_enter Try.func17, Try.ntmps17
    go_upto_region 3 with (fail)
    go_cut [5, 6] from 10 to 13 (fun s7 s8 wx => Two x y z a b c (w.heap.size + 2) s7 s8 wx ∧ K2 x y z a b c w wx)
    case first =>
      refine wp_region_any (by kernel_rfl) ?_
      try (change wpAny _ _ _ _ _ _ _ (World.drew _))
      refine wpAny_start8 rfl ?_
      refine wpAny_inv8 (I := fun b0 b1 b2 b3 b4 b5 b6 b7 act W => ∃ u7 u8 u10 u11 u12 u13, act = ⟨#[.agg #[.int .i64 x, .int .i64 y, .int .i64 z], .agg #[.int .i64 a, .int .i64 b, .int .i64 c], .pointer (some ⟨w.heap.size, 0, none⟩), .pointer (some ⟨w.heap.size + 1, 0, none⟩), .int .i64 0, u7, u8, .agg #[.int .i64 x, .int .i64 y, .int .i64 z], .agg #[.int .i64 a, .int .i64 b, .int .i64 c], .bool false, u10, u11, u12, u13, undef, undef, undef], []⟩ ∧ J8 (w.heap.size + 2) (K2 x y z a b c w) x y z a b c b0 b1 b2 b3 b4 b5 b6 b7 u7 u8 u10 u11 u12 u13 W) (by unfold ReadyOk8; decide +kernel) ?_ ?_ ?_ ?_ ?_ ?_ ?_ ?_ ?_ 8 _ _ _ _ _ _ _ _ _ _ rfl ?_
      · rintro b1 b2 b3 b4 b5 b6 b7 act W ⟨u7, u8, u10, u11, u12, u13, rfl, hj⟩
        obtain ⟨_, hsz, p1, p2, p3, p4, p5, p6⟩ := hj.hk.all
        refine wpOp_step rfl (fun K' hK => ?_)
        go_simp
        exact hK _ _ ⟨_, _, _, _, _, _, rfl, hj.load0⟩
      · rintro b2 b3 b4 b5 b6 b7 act W ⟨u7, u8, u10, u11, u12, u13, rfl, hj⟩
        obtain rfl := hj.h0 rfl
        refine wpOp_step rfl (fun K' hK => ?_)
        go_simp
        refine (coords_any _ _ _ _).mono ?_
        rintro e W1 ⟨rfl, hb1⟩
        exact hK _ _ ⟨_, _, _, _, _, _, rfl, hj.call1 keep2 hb1⟩
      · rintro b0 b1 b3 b4 b5 b6 b7 act W ⟨u7, u8, u10, u11, u12, u13, rfl, hj⟩
        obtain ⟨_, hsz, p1, p2, p3, p4, p5, p6⟩ := hj.hk.all
        refine wpOp_step rfl (fun K' hK => ?_)
        go_simp
        exact hK _ _ ⟨_, _, _, _, _, _, rfl, hj.load2⟩
      · rintro b0 b4 b5 b6 b7 act W ⟨u7, u8, u10, u11, u12, u13, rfl, hj⟩
        obtain rfl := hj.h2 rfl
        refine wpOp_step rfl (fun K' hK => ?_)
        go_simp
        refine (coords_any _ _ _ _).mono ?_
        rintro e W1 ⟨rfl, hb1⟩
        exact hK _ _ ⟨_, _, _, _, _, _, rfl, hj.call3 keep2 hb1⟩
      · rintro b0 b1 b2 b3 b5 b6 b7 act W ⟨u7, u8, u10, u11, u12, u13, rfl, hj⟩
        refine wpOp_step rfl (fun K' hK => ?_)
        go_simp
        exact hK _ _ ⟨_, _, _, _, _, _, rfl, hj.alloc4 keep2⟩
      · rintro b0 b1 b2 b3 b4 b6 b7 act W ⟨u7, u8, u10, u11, u12, u13, rfl, hj⟩
        refine wpOp_step rfl (fun K' hK => ?_)
        go_simp
        exact hK _ _ ⟨_, _, _, _, _, _, rfl, hj.alloc5 keep2⟩
      · rintro b2 b7 act W ⟨u7, u8, u10, u11, u12, u13, rfl, hj⟩
        obtain rfl := hj.h1 rfl
        obtain ⟨g, rfl, hg, hblk⟩ := hj.h4 rfl
        obtain ⟨f0, f1, f2⟩ := blk3 hblk
        have fz := hblk.frozen
        refine wpOp_step rfl (fun K' hK => ?_)
        go_simp
        exact hK _ _ ⟨_, _, _, _, _, _, rfl, hj.store6 keep2⟩
      · rintro act W ⟨u7, u8, u10, u11, u12, u13, rfl, hj⟩
        obtain rfl := hj.h3 rfl
        obtain ⟨g, rfl, hg, hblk⟩ := hj.h5 rfl
        obtain ⟨f0, f1, f2⟩ := blk3 hblk
        have fz := hblk.frozen
        refine wpOp_step rfl (fun K' hK => ?_)
        go_simp
        exact hK _ _ ⟨_, _, _, _, _, _, rfl, hj.store7 keep2⟩
      · rintro act W ⟨u7, u8, u10, u11, u12, u13, rfl, hj⟩
        have H := hj.two
        go_wp2_with fail
        go_meet
        exact H
      · exact ⟨_, _, _, _, _, _, rfl, J8.begin (by first | exact K3.drew K3.start | exact K2.drew K2.start | exact K3.drew hk1 | exact K2.drew hk1)⟩
    case rest =>
      obtain ⟨⟨g, k, rfl, rfl, hne, hg, hk, hgb, hkb⟩, hK⟩ := hcut
      have hcm := fun W h1 h2 => slicesCmp_any g k x y z a b c W h1 h2
      have hb0 := hK.1
      go_wp2
      go_quiet ((go_at_call 41; exact (hcm _ (hgb.drewN _) (hkb.drewN _)).mono fun _ _ h => ⟨h.1, _, h.2.symm⟩))
      go_wp2
      go_ret
      exact ⟨rfl, below_drewN hb0 _⟩
end Go.Proofs.Ythlidkmalfjmbaa
