/- The walk of the law SpanPairs: it answers true, whatever the two intervals; and the law. -/
import Derived.Test.YtnpdmohclajmjaaSumsW
import Derived.Test.YtnpdmohclajmjaaLift
namespace Go.Proofs.Ytnpdmohclajmjaa
open Go.ChangeShapes Go.WideShapes Go.ChangeAt Go.RowKit

theorem Blk.bel {w w' : World} {g : Nat} {t : TypeId} {cs : Array Value} (h : Blk w g t cs) (hb : Below w.heap.size w w') : Blk w' g t cs := h.below hb h.lt

set_option maxHeartbeats 4000000 in
theorem spanPairs_any (x y : Int × Int) (w : World) :
    Calls Try.prog 4 #[.agg #[.int .i64 x.1, .int .i64 x.2], .agg #[.int .i64 y.1, .int .i64 y.2]] w fun e w' => e = .returned (.bool true) ∧ Below w.heap.size w w' := by
  have q1 := fun W => add_any x y W
  have q2 := fun W => sub_any x y W
  have q3 := fun W => inter_any x y W
  have q4 := fun W => hull_any x y W
  have q5 := fun W => refAdd_any x y W
  have q6 := fun W => refSub_any x y W
  have q7 := fun W => refInter_any x y W
  have q8 := fun W => refHull_any x y W
  generalize addS x y = r1 at q1 q5
  have er1 := eqIv_same r1.1
  generalize subS x y = r2 at q2 q6
  have er2 := eqIv_same r2.1
  generalize intS x y = r3 at q3 q7
  have er3 := eqIv_same r3.1
  generalize hullS x y = r4 at q4 q8
  have er4 := eqIv_same r4.1
  go_enter Try.func4, Try.ntmps4
  go_wp2_with (first
    | (go_at_call 10; refine (awake_any _).mono ?_; rintro e w0 ⟨rfl, hb0⟩
       have kx0 := ((Blk.new w 23 #[.int .i64 x.1, .int .i64 x.2]).alloc _).bel hb0
       have ky0 : Blk w0 (w.heap.size + 1) 23 #[.int .i64 y.1, .int .i64 y.2] := (by have h := (Blk.new (w.alloc (.cells #[.int .i64 x.1, .int .i64 x.2] 23)) 23 #[.int .i64 y.1, .int .i64 y.2]).bel hb0; simpa using h)
       have hB0 : Below w.heap.size w w0 := (((Below.refl _ _).alloc (Nat.le_refl _) _).alloc (by simp) _).trans (bmono hb0 (by simp <;> omega))
       have fx0 := blk_facts kx0
       have fy0 := blk_facts ky0
       have lx0 := kx0.lt
       have ly0 := ky0.lt)
    | (go_at_call 19; refine (q1 _).mono ?_; rintro e w1 ⟨rfl, hb1⟩
       have kx1 := kx0.bel hb1
       have ky1 := ky0.bel hb1
       have hB1 := hB0.trans (bmono hb1 hB0.size)
       clear kx0 ky0 fx0 fy0 lx0 ly0
       have fx1 := blk_facts kx1
       have fy1 := blk_facts ky1
       have lx1 := kx1.lt
       have ly1 := ky1.lt)
    | (go_at_call 20; refine (q2 _).mono ?_; rintro e w2 ⟨rfl, hb2⟩
       have kx2 := (kx1.alloc _).bel hb2
       have ky2 := (ky1.alloc _).bel hb2
       have k1_2 := (Blk.new w1 23 #[.int .i64 r1.1.1, .int .i64 r1.1.2]).bel hb2
       have hB2 := (hB1.alloc hB1.size _).trans (bmono hb2 (Nat.le_trans hB1.size (by simp)))
       clear kx1 ky1 fx1 fy1 lx1 ly1
       have fx2 := blk_facts kx2
       have fy2 := blk_facts ky2
       have lx2 := kx2.lt
       have ly2 := ky2.lt)
    | (go_at_call 21; refine (q3 _).mono ?_; rintro e w3 ⟨rfl, hb3⟩
       have kx3 := (kx2.alloc _).bel hb3
       have ky3 := (ky2.alloc _).bel hb3
       have k2_3 := (Blk.new w2 23 #[.int .i64 r2.1.1, .int .i64 r2.1.2]).bel hb3
       have k1_3 := (k1_2.alloc _).bel hb3
       have hB3 := (hB2.alloc hB2.size _).trans (bmono hb3 (Nat.le_trans hB2.size (by simp)))
       clear kx2 ky2 fx2 fy2 lx2 ly2
       clear k1_2
       have fx3 := blk_facts kx3
       have fy3 := blk_facts ky3
       have lx3 := kx3.lt
       have ly3 := ky3.lt)
    | (go_at_call 22; refine (q4 _).mono ?_; rintro e w4 ⟨rfl, hb4⟩
       have kx4 := (kx3.alloc _).bel hb4
       have ky4 := (ky3.alloc _).bel hb4
       have k3_4 := (Blk.new w3 23 #[.int .i64 r3.1.1, .int .i64 r3.1.2]).bel hb4
       have k1_4 := (k1_3.alloc _).bel hb4
       have k2_4 := (k2_3.alloc _).bel hb4
       have hB4 := (hB3.alloc hB3.size _).trans (bmono hb4 (Nat.le_trans hB3.size (by simp)))
       clear kx3 ky3 fx3 fy3 lx3 ly3
       clear k1_3
       clear k2_3
       have fx4 := blk_facts kx4
       have fy4 := blk_facts ky4
       have lx4 := kx4.lt
       have ly4 := ky4.lt)
    | (go_at_call 23; refine (q5 _).mono ?_; rintro e w5 ⟨rfl, hb5⟩
       have kx5 := (kx4.alloc _).bel hb5
       have ky5 := (ky4.alloc _).bel hb5
       have k4_5 := (Blk.new w4 23 #[.int .i64 r4.1.1, .int .i64 r4.1.2]).bel hb5
       have k1_5 := (k1_4.alloc _).bel hb5
       have k2_5 := (k2_4.alloc _).bel hb5
       have k3_5 := (k3_4.alloc _).bel hb5
       have hB5 := (hB4.alloc hB4.size _).trans (bmono hb5 (Nat.le_trans hB4.size (by simp)))
       clear kx4 ky4 fx4 fy4 lx4 ly4
       clear k1_4
       clear k2_4
       clear k3_4
       have fx5 := blk_facts kx5
       have fy5 := blk_facts ky5
       have lx5 := kx5.lt
       have ly5 := ky5.lt)
    | (go_at_call 24; refine (q6 _).mono ?_; rintro e w6 ⟨rfl, hb6⟩
       have kx6 := (kx5.alloc _).bel hb6
       have ky6 := (ky5.alloc _).bel hb6
       have k5_6 := (Blk.new w5 23 #[.int .i64 r1.1.1, .int .i64 r1.1.2]).bel hb6
       have k1_6 := (k1_5.alloc _).bel hb6
       have k2_6 := (k2_5.alloc _).bel hb6
       have k3_6 := (k3_5.alloc _).bel hb6
       have k4_6 := (k4_5.alloc _).bel hb6
       have hB6 := (hB5.alloc hB5.size _).trans (bmono hb6 (Nat.le_trans hB5.size (by simp)))
       clear kx5 ky5 fx5 fy5 lx5 ly5
       clear k1_5
       clear k2_5
       clear k3_5
       clear k4_5
       have fx6 := blk_facts kx6
       have fy6 := blk_facts ky6
       have lx6 := kx6.lt
       have ly6 := ky6.lt)
    | (go_at_call 25; refine (q7 _).mono ?_; rintro e w7 ⟨rfl, hb7⟩
       have kx7 := (kx6.alloc _).bel hb7
       have ky7 := (ky6.alloc _).bel hb7
       have k6_7 := (Blk.new w6 23 #[.int .i64 r2.1.1, .int .i64 r2.1.2]).bel hb7
       have k1_7 := (k1_6.alloc _).bel hb7
       have k2_7 := (k2_6.alloc _).bel hb7
       have k3_7 := (k3_6.alloc _).bel hb7
       have k4_7 := (k4_6.alloc _).bel hb7
       have k5_7 := (k5_6.alloc _).bel hb7
       have hB7 := (hB6.alloc hB6.size _).trans (bmono hb7 (Nat.le_trans hB6.size (by simp)))
       clear kx6 ky6 fx6 fy6 lx6 ly6
       clear k1_6
       clear k2_6
       clear k3_6
       clear k4_6
       clear k5_6
       have fx7 := blk_facts kx7
       have fy7 := blk_facts ky7
       have lx7 := kx7.lt
       have ly7 := ky7.lt)
    | (go_at_call 26; refine (q8 _).mono ?_; rintro e w8 ⟨rfl, hb8⟩
       have kx8 := (kx7.alloc _).bel hb8
       have ky8 := (ky7.alloc _).bel hb8
       have k7_8 := (Blk.new w7 23 #[.int .i64 r3.1.1, .int .i64 r3.1.2]).bel hb8
       have k1_8 := (k1_7.alloc _).bel hb8
       have k2_8 := (k2_7.alloc _).bel hb8
       have k3_8 := (k3_7.alloc _).bel hb8
       have k4_8 := (k4_7.alloc _).bel hb8
       have k5_8 := (k5_7.alloc _).bel hb8
       have k6_8 := (k6_7.alloc _).bel hb8
       have hB8 := (hB7.alloc hB7.size _).trans (bmono hb8 (Nat.le_trans hB7.size (by simp)))
       clear kx7 ky7 fx7 fy7 lx7 ly7
       clear k1_7
       clear k2_7
       clear k3_7
       clear k4_7
       clear k5_7
       clear k6_7
       have fx8 := blk_facts kx8
       have fy8 := blk_facts ky8
       have lx8 := kx8.lt
       have ly8 := ky8.lt
       have f1 := blk_facts k1_8
       have l1 := k1_8.lt
       have f2 := blk_facts k2_8
       have l2 := k2_8.lt
       have f3 := blk_facts k3_8
       have l3 := k3_8.lt
       have f4 := blk_facts k4_8
       have l4 := k4_8.lt
       have f5 := blk_facts k5_8
       have l5 := k5_8.lt
       have f6 := blk_facts k6_8
       have l6 := k6_8.lt
       have f7 := blk_facts k7_8
       have l7 := k7_8.lt))
  go_ret
  exact ⟨rfl, hB8.alloc hB8.size _⟩

set_option maxHeartbeats 800000 in
set_option maxRecDepth 100000 in
theorem spanPairs_lifted (os : Os) (started : os.Started) (H : Type) (enc : TypeId × Value → H) :
    ReturnsInHanded {} Try.checked os 4 .any (Rows.spanPairsSpec.pre6 enc Try.prog Try.f4 Rows.spanPairsRow.domain false) (Rows.spanPairsSpec.post enc Try.prog Try.f4 false true false false) := by
  refine returnsInHanded_of_change (C := Try.checked) Try.own started (by kernel_rfl) Try.func4
    (ChangeSpec.witness6 (enc := enc) (C := Try.checked) false ⟨#[], #[.agg #[.int .i64 0, .int .i64 0], .agg #[.int .i64 0, .int .i64 0]], []⟩ 8 (by kernel_rfl) (by kernel_rfl) (by kernel_rfl) (by kernel_rfl)) ?_
  intro W base args ds gs before hval0 hW _ _
  have hval : ∀ (j : Nat) t v, Try.f4.params[j]? = some t → args[j]? = some v → Value.okWide Try.prog W .any base t v := hval0
  have hW' := hW
  obtain ⟨p, q, hA0, hV, rfl, _, _⟩ := hW
  have hA : DataW.TrodAll enc Try.prog W 0 (fun _ => true) true Try.f4.params.toList args.toList ds p := hA0
  rw [Try.params4] at hA hval
  obtain ⟨v0, v1, d0, d1, p0, p1, rfl, rfl, rfl, h0, h1⟩ := trodAll_two hA
  obtain ⟨rfl, rfl⟩ := trodVars_none hV
  clear hA0 hval0
  simp only [List.append_nil] at hW'
  have harg0 : ∀ W' : World, Below W.heap.size W W' → DataW.Trod enc Try.prog W' 0 (fun b => decide (b < W.heap.size)) true 23 v0 d0 p0 :=
    fun W' hn => Below.trod Try.laidOut (by kernel_rfl) (of_decide_eq_true (by kernel_rfl)) h0 hn (fun y hy => by simpa using hW'.lt y (by simp [hy]))
  have harg1 : ∀ W' : World, Below W.heap.size W W' → DataW.Trod enc Try.prog W' 0 (fun b => decide (b < W.heap.size)) true 23 v1 d1 p1 :=
    fun W' hn => Below.trod Try.laidOut (by kernel_rfl) (of_decide_eq_true (by kernel_rfl)) h1 hn (fun y hy => by simpa using hW'.lt y (by simp [hy]))
  obtain ⟨x, rfl⟩ := open_iv (hval 0 23 v0 rfl rfl) h0
  obtain ⟨y, rfl⟩ := open_iv (hval 1 23 v1 rfl rfl) h1
  refine (spanPairs_any x y W).mono fun e W' ⟨he, hn⟩ => ?_
  subst he
  exact ⟨_, rfl, _, _, _, [], _, [], hW', trodAll_mk1 (shut_bool Try.underlying4 _), trodAll_mk2 (harg0 _ hn) (harg1 _ hn), (List.append_nil _).symm, hn.frame _, fun h => by cases h⟩

theorem spanPairs_holds : Rows.SpanPairsSaid :=
  OpenClaim.holds_of_wide 4 Try.f4 rfl rfl rfl rfl rfl rfl rfl ⟨rfl, rfl, rfl, rfl, rfl⟩ rfl rfl rfl rfl rfl (by kernel_rfl) Try.func4 (by kernel_rfl)
    (of_decide_eq_true (by kernel_rfl)) (by unfold Func.isWrapper; first | (rw [if_pos (by decide +kernel)]; kernel_rfl) | (rw [if_neg (by decide +kernel)]; exact ⟨rfl, rfl⟩))
    (fun os started H enc _ => spanPairs_lifted os started H enc)
end Go.Proofs.Ytnpdmohclajmjaa
