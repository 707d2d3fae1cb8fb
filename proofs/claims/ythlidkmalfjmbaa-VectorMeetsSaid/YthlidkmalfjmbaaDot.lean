/- The walk of vector's dot. No condition. -/
import Derived.Test.YthlidkmalfjmbaaInv
namespace Go.Proofs.Ythlidkmalfjmbaa
open Go.RowKit

set_option maxHeartbeats 4000000 in
theorem dot_any (x y z a b c : Int) (w : World) :
    Calls Try.prog 43 #[.agg #[.int .i64 x, .int .i64 y, .int .i64 z], .agg #[.int .i64 a, .int .i64 b, .int .i64 c]] w fun e w' => e = .returned (.int .i64 (wrap64 (wrap64 (wrap64 (wrap64 (x * a)) + wrap64 (y * b)) + wrap64 (z * c)))) ∧ Below w.heap.size w w' := by
  go_enter Try.func43, Try.ntmps43
  go_upto_region 1 with (fail)
  go_cut [5, 6] from 9 to 12 (fun s7 s8 wx => Two x y z a b c (w.heap.size + 2) s7 s8 wx ∧ K2 x y z a b c w wx)
  case first =>
    refine wp_region_any (by kernel_rfl) ?_
    try (change wpAny _ _ _ _ _ _ _ (World.drew _))
    refine wpAny_start8 rfl ?_
    refine wpAny_inv8 (I := fun b0 b1 b2 b3 b4 b5 b6 b7 act W => ∃ u7 u8 u10 u11 u12 u13, act = ⟨#[.agg #[.int .i64 x, .int .i64 y, .int .i64 z], .agg #[.int .i64 a, .int .i64 b, .int .i64 c], .pointer (some ⟨w.heap.size, 0, none⟩), .pointer (some ⟨w.heap.size + 1, 0, none⟩), .int .i64 0, u7, u8, undef, undef, u10, u11, u12, u13, undef, undef, undef, undef, undef, undef, undef, undef, undef, undef, undef, undef, undef, undef], []⟩ ∧ J8 (w.heap.size + 2) (K2 x y z a b c w) x y z a b c b0 b1 b2 b3 b4 b5 b6 b7 u7 u8 u10 u11 u12 u13 W) (by unfold ReadyOk8; decide +kernel) ?_ ?_ ?_ ?_ ?_ ?_ ?_ ?_ ?_ 8 _ _ _ _ _ _ _ _ _ _ rfl ?_
    · rintro b1 b2 b3 b4 b5 b6 b7 act W ⟨u7, u8, u10, u11, u12, u13, rfl, hj⟩
      obtain ⟨_, hsz, p1, p2, p3, p4, p5, p6⟩ := hj.hk.all
      refine wpOp_step rfl (fun K' hK => ?_)
      go_simp
      exact hK _ _ ⟨_, _, _, _, _, _, rfl, hj.load0⟩
    · rintro b2 b3 b4 b5 b6 b7 act W ⟨u7, u8, u10, u11, u12, u13, rfl, hj⟩
      obtain rfl := hj.h0 rfl
      refine wpOp_step rfl (fun K' hK => ?_)
      go_simp
      refine (coords_any _ _ _ _).mono ?_
      rintro e W1 ⟨rfl, hb1⟩
      exact hK _ _ ⟨_, _, _, _, _, _, rfl, hj.call1 keep2 hb1⟩
    · rintro b0 b1 b3 b4 b5 b6 b7 act W ⟨u7, u8, u10, u11, u12, u13, rfl, hj⟩
      obtain ⟨_, hsz, p1, p2, p3, p4, p5, p6⟩ := hj.hk.all
      refine wpOp_step rfl (fun K' hK => ?_)
      go_simp
      exact hK _ _ ⟨_, _, _, _, _, _, rfl, hj.load2⟩
    · rintro b0 b4 b5 b6 b7 act W ⟨u7, u8, u10, u11, u12, u13, rfl, hj⟩
      obtain rfl := hj.h2 rfl
      refine wpOp_step rfl (fun K' hK => ?_)
      go_simp
      refine (coords_any _ _ _ _).mono ?_
      rintro e W1 ⟨rfl, hb1⟩
      exact hK _ _ ⟨_, _, _, _, _, _, rfl, hj.call3 keep2 hb1⟩
    · rintro b0 b1 b2 b3 b5 b6 b7 act W ⟨u7, u8, u10, u11, u12, u13, rfl, hj⟩
      refine wpOp_step rfl (fun K' hK => ?_)
      go_simp
      exact hK _ _ ⟨_, _, _, _, _, _, rfl, hj.alloc4 keep2⟩
    · rintro b0 b1 b2 b3 b4 b6 b7 act W ⟨u7, u8, u10, u11, u12, u13, rfl, hj⟩
      refine wpOp_step rfl (fun K' hK => ?_)
      go_simp
      exact hK _ _ ⟨_, _, _, _, _, _, rfl, hj.alloc5 keep2⟩
    · rintro b2 b7 act W ⟨u7, u8, u10, u11, u12, u13, rfl, hj⟩
      obtain rfl := hj.h1 rfl
      obtain ⟨g, rfl, hg, hblk⟩ := hj.h4 rfl
      obtain ⟨f0, f1, f2⟩ := blk3 hblk
      have fz := hblk.frozen
      refine wpOp_step rfl (fun K' hK => ?_)
      go_simp
      exact hK _ _ ⟨_, _, _, _, _, _, rfl, hj.store6 keep2⟩
    · rintro act W ⟨u7, u8, u10, u11, u12, u13, rfl, hj⟩
      obtain rfl := hj.h3 rfl
      obtain ⟨g, rfl, hg, hblk⟩ := hj.h5 rfl
      obtain ⟨f0, f1, f2⟩ := blk3 hblk
      have fz := hblk.frozen
      refine wpOp_step rfl (fun K' hK => ?_)
      go_simp
      exact hK _ _ ⟨_, _, _, _, _, _, rfl, hj.store7 keep2⟩
    · rintro act W ⟨u7, u8, u10, u11, u12, u13, rfl, hj⟩
      have H := hj.two
      go_wp2_with fail
      go_meet
      exact H
    · exact ⟨_, _, _, _, _, _, rfl, J8.begin (by first | exact K3.drew K3.start | exact K2.drew K2.start | exact START)⟩
  case rest =>
    obtain ⟨⟨g, k, rfl, rfl, hne, hg, hk, hgb, hkb⟩, hK⟩ := hcut
    have hgl := hgb.lt
    have hkl := hkb.lt
    have hbw := hK.1
    obtain ⟨g0, g1, g2⟩ := blk3 hgb
    obtain ⟨k0, k1, k2⟩ := blk3 hkb
    clear hK g0 g1 g2 k0 k1 k2
    go_wp2
    go_loopw [13, 7] (fun i s W => (i = .int .i64 0 ∧ s = .int .i64 0 ∨ i = .int .i64 1 ∧ s = .int .i64 (wrap64 (wrap64 (x * a))) ∨ i = .int .i64 2 ∧ s = .int .i64 (wrap64 (wrap64 (wrap64 (x * a)) + wrap64 (y * b))) ∨ i = .int .i64 3 ∧ s = .int .i64 (wrap64 (wrap64 (wrap64 (wrap64 (x * a)) + wrap64 (y * b)) + wrap64 (z * c)))) ∧ Below wc.heap.size wc W) (fun i _ _ => 3 - (intOf i).toNat)
    case atStart => exact ⟨.inl ⟨rfl, rfl⟩, Below.refl _ _⟩
    case round =>
      obtain ⟨h, hb⟩ := hrel
      obtain ⟨g0, g1, g2⟩ := blk3 (hgb.below hb hgl)
      obtain ⟨k0, k1, k2⟩ := blk3 (hkb.below hb hkl)
      clear hgb hkb
      rcases h with ⟨rfl, rfl⟩ | ⟨rfl, rfl⟩ | ⟨rfl, rfl⟩ | ⟨rfl, rfl⟩
      · go_wp2
        go_quiet (fail)
        go_wp2
        go_roundw
        case rel => exact ⟨.inr (.inl ⟨by go_num, rfl⟩), below_drewN hb _⟩
        case measure => simp [intOf] <;> omega
      · go_wp2
        go_quiet (fail)
        go_wp2
        go_roundw
        case rel => exact ⟨.inr (.inr (.inl ⟨by go_num, rfl⟩)), below_drewN hb _⟩
        case measure => simp [intOf] <;> omega
      · go_wp2
        go_quiet (fail)
        go_wp2
        go_roundw
        case rel => exact ⟨.inr (.inr (.inr ⟨by go_num, rfl⟩)), below_drewN hb _⟩
        case measure => simp [intOf] <;> omega
      · go_wp2
        go_ret
        exact ⟨rfl, hbw.trans (bmono hb hbw.size)⟩
end Go.Proofs.Ythlidkmalfjmbaa
