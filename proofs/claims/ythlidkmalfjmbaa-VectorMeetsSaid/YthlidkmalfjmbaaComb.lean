/- The walk of vector's combined. No condition on the numbers but that the sums are in int's range. -/
import Derived.Test.YthlidkmalfjmbaaInv
namespace Go.Proofs.Ythlidkmalfjmbaa
open Go.RowKit

set_option maxHeartbeats 4000000 in
theorem combined_any (x y z a b c f : Int) (w : World) :
    Calls Try.prog 38 #[.agg #[.int .i64 x, .int .i64 y, .int .i64 z], .agg #[.int .i64 a, .int .i64 b, .int .i64 c], .int .i64 f] w fun e w' => e = .returned (.agg #[.int .i64 (wrap64 (x + wrap64 (f * a))), .int .i64 (wrap64 (y + wrap64 (f * b))), .int .i64 (wrap64 (z + wrap64 (f * c)))]) ∧ Below w.heap.size w w' := by
  go_enter Try.func38, Try.ntmps38
  go_upto_region 1 with (fail)
  go_cut [7, 8] from 10 to 13 (fun s7 s8 wx => Two x y z a b c (w.heap.size + 3) s7 s8 wx ∧ K3 x y z a b c 23 w wx)
  case first =>
    refine wp_region_any (by kernel_rfl) ?_
    try (change wpAny _ _ _ _ _ _ _ (World.drew _))
    refine wpAny_start8 rfl ?_
    refine wpAny_inv8 (I := fun b0 b1 b2 b3 b4 b5 b6 b7 act W => ∃ u7 u8 u10 u11 u12 u13, act = ⟨#[.agg #[.int .i64 x, .int .i64 y, .int .i64 z], .agg #[.int .i64 a, .int .i64 b, .int .i64 c], .int .i64 f, .pointer (some ⟨w.heap.size, 0, none⟩), .pointer (some ⟨w.heap.size + 1, 0, none⟩), undef, .pointer (some ⟨w.heap.size + 1 + 1, 0, none⟩), u7, u8, undef, u10, u11, u12, u13, undef, undef, undef, undef, undef, undef, undef, undef, undef, undef, undef, undef, undef, undef, undef, undef], []⟩ ∧ J8 (w.heap.size + 3) (K3 x y z a b c 23 w) x y z a b c b0 b1 b2 b3 b4 b5 b6 b7 u7 u8 u10 u11 u12 u13 W) (by unfold ReadyOk8; decide +kernel) ?_ ?_ ?_ ?_ ?_ ?_ ?_ ?_ ?_ 8 _ _ _ _ _ _ _ _ _ _ rfl ?_
    · rintro b1 b2 b3 b4 b5 b6 b7 act W ⟨u7, u8, u10, u11, u12, u13, rfl, hj⟩
      obtain ⟨_, hsz, p1, p2, p3, p4, p5, p6⟩ := hj.hk.all
      refine wpOp_step rfl (fun K' hK => ?_)
      go_simp
      exact hK _ _ ⟨_, _, _, _, _, _, rfl, hj.load0⟩
    · rintro b2 b3 b4 b5 b6 b7 act W ⟨u7, u8, u10, u11, u12, u13, rfl, hj⟩
      obtain rfl := hj.h0 rfl
      refine wpOp_step rfl (fun K' hK => ?_)
      go_simp
      refine (coords_any _ _ _ _).mono ?_
      rintro e W1 ⟨rfl, hb1⟩
      exact hK _ _ ⟨_, _, _, _, _, _, rfl, hj.call1 keep3 hb1⟩
    · rintro b0 b1 b3 b4 b5 b6 b7 act W ⟨u7, u8, u10, u11, u12, u13, rfl, hj⟩
      obtain ⟨_, hsz, p1, p2, p3, p4, p5, p6⟩ := hj.hk.all
      refine wpOp_step rfl (fun K' hK => ?_)
      go_simp
      exact hK _ _ ⟨_, _, _, _, _, _, rfl, hj.load2⟩
    · rintro b0 b4 b5 b6 b7 act W ⟨u7, u8, u10, u11, u12, u13, rfl, hj⟩
      obtain rfl := hj.h2 rfl
      refine wpOp_step rfl (fun K' hK => ?_)
      go_simp
      refine (coords_any _ _ _ _).mono ?_
      rintro e W1 ⟨rfl, hb1⟩
      exact hK _ _ ⟨_, _, _, _, _, _, rfl, hj.call3 keep3 hb1⟩
    · rintro b0 b1 b2 b3 b5 b6 b7 act W ⟨u7, u8, u10, u11, u12, u13, rfl, hj⟩
      refine wpOp_step rfl (fun K' hK => ?_)
      go_simp
      exact hK _ _ ⟨_, _, _, _, _, _, rfl, hj.alloc4 keep3⟩
    · rintro b0 b1 b2 b3 b4 b6 b7 act W ⟨u7, u8, u10, u11, u12, u13, rfl, hj⟩
      refine wpOp_step rfl (fun K' hK => ?_)
      go_simp
      exact hK _ _ ⟨_, _, _, _, _, _, rfl, hj.alloc5 keep3⟩
    · rintro b2 b7 act W ⟨u7, u8, u10, u11, u12, u13, rfl, hj⟩
      obtain rfl := hj.h1 rfl
      obtain ⟨g, rfl, hg, hblk⟩ := hj.h4 rfl
      obtain ⟨f0, f1, f2⟩ := blk3 hblk
      have fz := hblk.frozen
      refine wpOp_step rfl (fun K' hK => ?_)
      go_simp
      exact hK _ _ ⟨_, _, _, _, _, _, rfl, hj.store6 keep3⟩
    · rintro act W ⟨u7, u8, u10, u11, u12, u13, rfl, hj⟩
      obtain rfl := hj.h3 rfl
      obtain ⟨g, rfl, hg, hblk⟩ := hj.h5 rfl
      obtain ⟨f0, f1, f2⟩ := blk3 hblk
      have fz := hblk.frozen
      refine wpOp_step rfl (fun K' hK => ?_)
      go_simp
      exact hK _ _ ⟨_, _, _, _, _, _, rfl, hj.store7 keep3⟩
    · rintro act W ⟨u7, u8, u10, u11, u12, u13, rfl, hj⟩
      have H := hj.two
      go_wp2_with fail
      go_meet
      exact H
    · exact ⟨_, _, _, _, _, _, rfl, J8.begin (K3.drew K3.start)⟩
  case rest =>
    obtain ⟨⟨g, k, rfl, rfl, hne, hg, hk, hgb, hkb⟩, hK⟩ := hcut
    obtain ⟨g0, g1, g2⟩ := blk3 hgb
    obtain ⟨k0, k1, k2⟩ := blk3 hkb
    have gf := hgb.frozen
    have hgl := hgb.lt
    have hkl := hkb.lt
    go_wp2
    go_loopw [14] (fun i W => (i = .int .i64 0 ∧ Blk W g 61 #[.int .i64 x, .int .i64 y, .int .i64 z] ∨ i = .int .i64 1 ∧ Blk W g 61 #[.int .i64 (wrap64 (x + wrap64 (f * a))), .int .i64 y, .int .i64 z] ∨
        i = .int .i64 2 ∧ Blk W g 61 #[.int .i64 (wrap64 (x + wrap64 (f * a))), .int .i64 (wrap64 (y + wrap64 (f * b))), .int .i64 z] ∨ i = .int .i64 3 ∧ Blk W g 61 #[.int .i64 (wrap64 (x + wrap64 (f * a))), .int .i64 (wrap64 (y + wrap64 (f * b))), .int .i64 (wrap64 (z + wrap64 (f * c)))]) ∧
        Blk W k 61 #[.int .i64 a, .int .i64 b, .int .i64 c] ∧ K3 x y z a b c 23 w W) (fun i _ => 3 - (intOf i).toNat)
    case atStart => exact ⟨.inl ⟨rfl, hgb⟩, hkb, hK⟩
    case round =>
      clear hgb hkb hK g0 g1 g2 k0 k1 k2 gf
      obtain ⟨h, hkb, hK⟩ := hrel
      obtain ⟨k0, k1, k2⟩ := blk3 hkb
      rcases h with ⟨rfl, hgb⟩ | ⟨rfl, hgb⟩ | ⟨rfl, hgb⟩ | ⟨rfl, hgb⟩
      · obtain ⟨g0, g1, g2⟩ := blk3 hgb
        have gf := hgb.frozen
        go_wp2
        go_region
        go_wp2
        go_roundw
        case rel => exact ⟨.inr (.inl ⟨by go_num, by simpa using (hgb.set_ 0 _).drew⟩), (hkb.far (fun e => hne e.symm) _).drew, (K3.set1 hK hg _).drew⟩
        case measure => simp [intOf] <;> omega
      · obtain ⟨g0, g1, g2⟩ := blk3 hgb
        have gf := hgb.frozen
        go_wp2
        go_region
        go_wp2
        go_roundw
        case rel => exact ⟨.inr (.inr (.inl ⟨by go_num, by simpa using (hgb.set_ 1 _).drew⟩)), (hkb.far (fun e => hne e.symm) _).drew, (K3.set1 hK hg _).drew⟩
        case measure => simp [intOf] <;> omega
      · obtain ⟨g0, g1, g2⟩ := blk3 hgb
        have gf := hgb.frozen
        go_wp2
        go_region
        go_wp2
        go_roundw
        case rel => exact ⟨.inr (.inr (.inr ⟨by go_num, by simpa using (hgb.set_ 2 _).drew⟩)), (hkb.far (fun e => hne e.symm) _).drew, (K3.set1 hK hg _).drew⟩
        case measure => simp [intOf] <;> omega
      · obtain ⟨g0, g1, g2⟩ := blk3 hgb
        obtain ⟨r0, r1, r2, rf⟩ := hK.res
        have hb0 := hK.1
        clear hkb k0 k1 k2
        go_wp2_with (go_at_call 45; refine (vec_any _ _ _ _).mono ?_; rintro e w1 ⟨rfl, hb1⟩; obtain ⟨hc1, hf1⟩ := bcell hb1; have hz1 := hb1.size; have hz2 : w.heap.size + 2 < wr.heap.size := hK.all.2.1; have hz3 : w.heap.size + 1 + 1 < wr.heap.size := hz2; have hz4 : w.heap.size + 1 + 1 < w1.heap.size := (by omega))
        exact bodyPost_ret (v := .agg #[.int .i64 (wrap64 (x + wrap64 (f * a))), .int .i64 (wrap64 (y + wrap64 (f * b))), .int .i64 (wrap64 (z + wrap64 (f * c)))]) (by simp [results, Try.results38, go_sem, hc1, hz3, r0, r1, r2]) rfl ⟨rfl, by
          repeat (first | exact hb0 | exact hb0.trans (bmono hb1 (by omega)) | refine Below.setCell ?_ ?_ _)
          all_goals (first | omega | (simp <;> omega))⟩
end Go.Proofs.Ythlidkmalfjmbaa
