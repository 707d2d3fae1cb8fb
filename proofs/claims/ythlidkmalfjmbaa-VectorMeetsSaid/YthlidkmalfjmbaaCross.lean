/- The walk of vector's Cross. No condition. -/
import Derived.Test.YthlidkmalfjmbaaInv
import Derived.Test.YthlidkmalfjmbaaEach
namespace Go.Proofs.Ythlidkmalfjmbaa
open Go.RowKit

set_option maxHeartbeats 4000000 in
theorem cross_ok (x y z a b c : Int) (h1 : inV x y z = true) (h2 : inV a b c = true) (w : World) :
    Calls Try.prog 23 #[.agg #[.int .i64 x, .int .i64 y, .int .i64 z], .agg #[.int .i64 a, .int .i64 b, .int .i64 c]] w fun e w' => e = .returned (.tuple #[.agg #[.int .i64 (wrap64 (wrap64 (y * c) - wrap64 (z * b))), .int .i64 (wrap64 (wrap64 (z * a) - wrap64 (x * c))), .int .i64 (wrap64 (wrap64 (x * b) - wrap64 (y * a)))], .int .i64 0]) ∧ Below w.heap.size w w' := by
  have hck := fun A cap W (h : Reads W W.heap.size 3 A [(x, y, z), (a, b, c)].length (encTs [(x, y, z), (a, b, c)])) => checkEach_any A cap [(x, y, z), (a, b, c)] W (by simp) h
  rw [show errT [(x, y, z), (a, b, c)] = 0 by simp [errT, inT, h1, h2]] at hck
  clear h1 h2
  go_enter Try.func23, Try.ntmps23
  go_upto_region 4 with (go_at_call 36; refine (hck _ _ _ (readsT_new (by simp) rfl)).mono ?_; rintro e w1 ⟨rfl, hb1⟩; obtain ⟨hc1, hf1⟩ := bcell hb1; have hz1 := hb1.size; (try simp at hz1); (try have y10 : w.heap.size < w1.heap.size := (by omega)); (try have y11 : w.heap.size + 1 < w1.heap.size := (by omega)); (try have y12 : w.heap.size + 1 + 1 < w1.heap.size := (by omega)); (try have y13 : w.heap.size + 1 + 1 + 1 < w1.heap.size := (by omega)); (try have y14 : w.heap.size + 1 + 1 + 1 + 1 < w1.heap.size := (by omega)))
  have hk1 : K3 x y z a b c 36 w w1 := ((K3.start).alloc _).over hb1
  clear hb1 hc1 hf1 hz1 hck
  go_cut [7, 8] from 21 to 24 (fun s7 s8 wx => Two x y z a b c (w.heap.size + 3) s7 s8 wx ∧ K3 x y z a b c 36 w wx)
  case first =>
    refine wp_region_any (by kernel_rfl) ?_
    try (change wpAny _ _ _ _ _ _ _ (World.drew _))
    refine wpAny_start8 rfl ?_
    refine wpAny_inv8 (I := fun b0 b1 b2 b3 b4 b5 b6 b7 act W => ∃ u7 u8 u10 u11 u12 u13, act = ⟨#[.agg #[.int .i64 x, .int .i64 y, .int .i64 z], .agg #[.int .i64 a, .int .i64 b, .int .i64 c], .pointer (some ⟨w.heap.size, 0, none⟩), .pointer (some ⟨w.heap.size + 1, 0, none⟩), .pointer (some ⟨w.heap.size + 1 + 1, 0, none⟩), .int .i64 0, .int .i64 0, u7, u8, undef, undef, undef, undef, .agg #[.int .i64 x, .int .i64 y, .int .i64 z], .agg #[.int .i64 a, .int .i64 b, .int .i64 c], .slice (some ⟨w.heap.size + 1 + 1 + 1, 0, none⟩) 2 2, .int .i64 0, .int .i64 0, .bool false, undef, undef, u10, u11, u12, u13, undef, undef, undef, undef, undef, undef, undef, undef, undef, undef, undef, undef, undef, undef, undef, undef, undef, undef, undef, undef, undef, undef, undef, undef, undef, undef, undef, undef], []⟩ ∧ J8 (w.heap.size + 3) (K3 x y z a b c 36 w) x y z a b c b0 b1 b2 b3 b4 b5 b6 b7 u7 u8 u10 u11 u12 u13 W) (by unfold ReadyOk8; decide +kernel) ?_ ?_ ?_ ?_ ?_ ?_ ?_ ?_ ?_ 8 _ _ _ _ _ _ _ _ _ _ rfl ?_
    · rintro b1 b2 b3 b4 b5 b6 b7 act W ⟨u7, u8, u10, u11, u12, u13, rfl, hj⟩
      obtain ⟨_, hsz, p1, p2, p3, p4, p5, p6⟩ := hj.hk.all
      refine wpOp_step rfl (fun K' hK => ?_)
      go_simp
      exact hK _ _ ⟨_, _, _, _, _, _, rfl, hj.load0⟩
    · rintro b2 b3 b4 b5 b6 b7 act W ⟨u7, u8, u10, u11, u12, u13, rfl, hj⟩
      obtain rfl := hj.h0 rfl
      refine wpOp_step rfl (fun K' hK => ?_)
      go_simp
      refine (coords_any _ _ _ _).mono ?_
      rintro e W1 ⟨rfl, hb1⟩
      exact hK _ _ ⟨_, _, _, _, _, _, rfl, hj.call1 keep3 hb1⟩
    · rintro b0 b1 b3 b4 b5 b6 b7 act W ⟨u7, u8, u10, u11, u12, u13, rfl, hj⟩
      obtain ⟨_, hsz, p1, p2, p3, p4, p5, p6⟩ := hj.hk.all
      refine wpOp_step rfl (fun K' hK => ?_)
      go_simp
      exact hK _ _ ⟨_, _, _, _, _, _, rfl, hj.load2⟩
    · rintro b0 b4 b5 b6 b7 act W ⟨u7, u8, u10, u11, u12, u13, rfl, hj⟩
      obtain rfl := hj.h2 rfl
      refine wpOp_step rfl (fun K' hK => ?_)
      go_simp
      refine (coords_any _ _ _ _).mono ?_
      rintro e W1 ⟨rfl, hb1⟩
      exact hK _ _ ⟨_, _, _, _, _, _, rfl, hj.call3 keep3 hb1⟩
    · rintro b0 b1 b2 b3 b5 b6 b7 act W ⟨u7, u8, u10, u11, u12, u13, rfl, hj⟩
      refine wpOp_step rfl (fun K' hK => ?_)
      go_simp
      exact hK _ _ ⟨_, _, _, _, _, _, rfl, hj.alloc4 keep3⟩
    · rintro b0 b1 b2 b3 b4 b6 b7 act W ⟨u7, u8, u10, u11, u12, u13, rfl, hj⟩
      refine wpOp_step rfl (fun K' hK => ?_)
      go_simp
      exact hK _ _ ⟨_, _, _, _, _, _, rfl, hj.alloc5 keep3⟩
    · rintro b2 b7 act W ⟨u7, u8, u10, u11, u12, u13, rfl, hj⟩
      obtain rfl := hj.h1 rfl
      obtain ⟨g, rfl, hg, hblk⟩ := hj.h4 rfl
      obtain ⟨f0, f1, f2⟩ := blk3 hblk
      have fz := hblk.frozen
      refine wpOp_step rfl (fun K' hK => ?_)
      go_simp
      exact hK _ _ ⟨_, _, _, _, _, _, rfl, hj.store6 keep3⟩
    · rintro act W ⟨u7, u8, u10, u11, u12, u13, rfl, hj⟩
      obtain rfl := hj.h3 rfl
      obtain ⟨g, rfl, hg, hblk⟩ := hj.h5 rfl
      obtain ⟨f0, f1, f2⟩ := blk3 hblk
      have fz := hblk.frozen
      refine wpOp_step rfl (fun K' hK => ?_)
      go_simp
      exact hK _ _ ⟨_, _, _, _, _, _, rfl, hj.store7 keep3⟩
    · rintro act W ⟨u7, u8, u10, u11, u12, u13, rfl, hj⟩
      have H := hj.two
      go_wp2_with fail
      go_meet
      exact H
    · exact ⟨_, _, _, _, _, _, rfl, J8.begin (by first | exact K3.drew K3.start | exact K2.drew K2.start | exact K3.drew hk1 | exact K2.drew hk1)⟩
  case rest =>
    clear hk1
    obtain ⟨⟨g, k, rfl, rfl, hne, hg, hk, hgb, hkb⟩, hK⟩ := hcut
    have hgl := hgb.lt
    have hkl := hkb.lt
    go_wp2
    have hpb := Blk.new wc 36 #[.int .i64 0, .int .i64 0, .int .i64 0]
    have hgb' := hgb.alloc (.cells #[.int .i64 0, .int .i64 0, .int .i64 0] 36)
    have hkb' := hkb.alloc (.cells #[.int .i64 0, .int .i64 0, .int .i64 0] 36)
    have hK' := hK.alloc (.cells #[.int .i64 0, .int .i64 0, .int .i64 0] 36)
    have hpB := hK.all.2.1
    go_loopw [25] (fun i W => (i = .int .i64 0 ∧ Blk W wc.heap.size 36 #[.int .i64 0, .int .i64 0, .int .i64 0] ∨ i = .int .i64 1 ∧ Blk W wc.heap.size 36 #[.int .i64 (wrap64 (wrap64 (y * c) - wrap64 (z * b))), .int .i64 0, .int .i64 0] ∨
        i = .int .i64 2 ∧ Blk W wc.heap.size 36 #[.int .i64 (wrap64 (wrap64 (y * c) - wrap64 (z * b))), .int .i64 (wrap64 (wrap64 (z * a) - wrap64 (x * c))), .int .i64 0] ∨
        i = .int .i64 3 ∧ Blk W wc.heap.size 36 #[.int .i64 (wrap64 (wrap64 (y * c) - wrap64 (z * b))), .int .i64 (wrap64 (wrap64 (z * a) - wrap64 (x * c))), .int .i64 (wrap64 (wrap64 (x * b) - wrap64 (y * a)))]) ∧
        Blk W g 61 #[.int .i64 x, .int .i64 y, .int .i64 z] ∧ Blk W k 61 #[.int .i64 a, .int .i64 b, .int .i64 c] ∧ K3 x y z a b c 36 w W) (fun i _ => 3 - (intOf i).toNat)
    case atStart => exact ⟨.inl ⟨rfl, hpb⟩, hgb', hkb', hK'⟩
    case round =>
      clear hgb hkb hK hpb hgb' hkb' hK'
      obtain ⟨h, hgb, hkb, hK⟩ := hrel
      obtain ⟨g0, g1, g2⟩ := blk3 hgb
      obtain ⟨k0, k1, k2⟩ := blk3 hkb
      have hpg : g ≠ wc.heap.size := by omega
      have hpk : k ≠ wc.heap.size := by omega
      rcases h with ⟨rfl, hpb⟩ | ⟨rfl, hpb⟩ | ⟨rfl, hpb⟩ | ⟨rfl, hpb⟩
      · obtain ⟨p0, p1, p2⟩ := blk3 hpb
        have pf := hpb.frozen
        go_wp2
        go_region
        go_wp2
        go_roundw
        case rel => exact ⟨.inr (.inl ⟨by go_num, by simpa using (hpb.set_ 0 _).drew⟩), (hgb.far hpg _).drew, (hkb.far hpk _).drew, (K3.set1 hK (by omega) _).drew⟩
        case measure => simp [intOf] <;> omega
      · obtain ⟨p0, p1, p2⟩ := blk3 hpb
        have pf := hpb.frozen
        go_wp2
        go_region
        go_wp2
        go_roundw
        case rel => exact ⟨.inr (.inr (.inl ⟨by go_num, by simpa using (hpb.set_ 1 _).drew⟩)), (hgb.far hpg _).drew, (hkb.far hpk _).drew, (K3.set1 hK (by omega) _).drew⟩
        case measure => simp [intOf] <;> omega
      · obtain ⟨p0, p1, p2⟩ := blk3 hpb
        have pf := hpb.frozen
        go_wp2
        go_region
        go_wp2
        go_roundw
        case rel => exact ⟨.inr (.inr (.inr ⟨by go_num, by simpa using (hpb.set_ 2 _).drew⟩)), (hgb.far hpg _).drew, (hkb.far hpk _).drew, (K3.set1 hK (by omega) _).drew⟩
        case measure => simp [intOf] <;> omega
      · obtain ⟨p0, p1, p2⟩ := blk3 hpb
        obtain ⟨r0, r1, r2, rf⟩ := hK.res
        have hb0 := hK.1
        clear hkb k0 k1 k2 hgb g0 g1 g2
        go_wp2
        exact bodyPost_ret (v := .tuple #[.agg #[.int .i64 (wrap64 (wrap64 (y * c) - wrap64 (z * b))), .int .i64 (wrap64 (wrap64 (z * a) - wrap64 (x * c))), .int .i64 (wrap64 (wrap64 (x * b) - wrap64 (y * a)))], .int .i64 0]) (by simp [results, Try.results23, go_sem, r0, r1, r2]) rfl ⟨rfl, by
          repeat (first | exact hb0 | refine Below.setCell ?_ ?_ _)
          all_goals (first | omega | (simp <;> omega))⟩
set_option maxHeartbeats 1000000 in
theorem cross_bad (x y z a b c : Int) (h : (inV x y z && inV a b c) = false) (w : World) :
    Calls Try.prog 23 #[.agg #[.int .i64 x, .int .i64 y, .int .i64 z], .agg #[.int .i64 a, .int .i64 b, .int .i64 c]] w fun e w' => e = .returned (.tuple #[.agg #[.int .i64 0, .int .i64 0, .int .i64 0], .int .i64 6]) ∧ Below w.heap.size w w' := by
  have hck := fun A cap W (h : Reads W W.heap.size 3 A [(x, y, z), (a, b, c)].length (encTs [(x, y, z), (a, b, c)])) => checkEach_any A cap [(x, y, z), (a, b, c)] W (by simp) h
  rw [show errT [(x, y, z), (a, b, c)] = 6 by simp only [errT, inT, List.all_cons, List.all_nil, Bool.and_true, h]; rfl] at hck
  clear h
  go_enter Try.func23, Try.ntmps23
  go_wp2_with (go_at_call 36; refine (hck _ _ _ (readsT_new (by simp) rfl)).mono ?_; rintro e w1 ⟨rfl, hb1⟩; obtain ⟨hc1, hf1⟩ := bcell hb1; have hz1 := hb1.size; (try simp at hz1); (try have y10 : w.heap.size < w1.heap.size := (by omega)); (try have y11 : w.heap.size + 1 < w1.heap.size := (by omega)); (try have y12 : w.heap.size + 1 + 1 < w1.heap.size := (by omega)); (try have y13 : w.heap.size + 1 + 1 + 1 < w1.heap.size := (by omega)); (try have y14 : w.heap.size + 1 + 1 + 1 + 1 < w1.heap.size := (by omega)))
  exact bodyPost_ret (v := .tuple #[.agg #[.int .i64 0, .int .i64 0, .int .i64 0], .int .i64 6]) (by simp [results, Try.results23, go_sem, hc1]) rfl ⟨rfl, by
    repeat (first | exact Below.refl _ _ | refine Below.drew ?_ | refine below_drewN ?_ _ | refine Below.setCell ?_ ?_ _ | refine Below.alloc ?_ ?_ _ | (refine Below.trans ?_ (bmono (by assumption) ?_)))
    all_goals (first | omega | (simp <;> omega))⟩
end Go.Proofs.Ythlidkmalfjmbaa
