/- The law VectorSegments: it answers true, whatever the four points; and the claim. -/
import Derived.Test.YthlidkmalfjmbaaSegs
namespace Go.Proofs.Ythlidkmalfjmbaa
open Go.ChangeShapes Go.WideShapes Go.ChangeAt Go.RowKit

set_option maxHeartbeats 8000000 in
set_option maxRecDepth 100000 in
theorem vectorSegments_any (ax ay bx b_y cx cy dx dy : Int) (w : World) :
    Calls Try.prog 11 #[.agg #[.int .i64 ax, .int .i64 ay], .agg #[.int .i64 bx, .int .i64 b_y], .agg #[.int .i64 cx, .int .i64 cy], .agg #[.int .i64 dx, .int .i64 dy]] w fun e w' => e = .returned (.bool true) ∧ Below w.heap.size w w' := by
  have c1 := Turn_all ax ay bx b_y cx cy
  have c2 := Turn_all ax ay cx cy bx b_y
  have c3 := Turn_all bx b_y cx cy ax ay
  have c4 := On_all ax ay bx b_y cx cy
  have c5 := Meet_all ax ay bx b_y cx cy cx cy
  have c6 := Meet_all ax ay bx b_y cx cy dx dy
  have c7 := Meet_all dx dy cx cy ax ay bx b_y
  have c8 := Meet_all bx b_y ax ay dx dy cx cy
  have c9 := Meet_all ax ay bx b_y ax ay bx b_y
  rw [f_flip] at c2
  rw [f_cyc] at c3
  rw [f_on] at c4
  rw [f_m1] at c7
  rw [f_m2] at c8
  have hbd := tn_bd (l := [(ax, ay), (bx, b_y), (cx, cy)]) (ax := ax) (ay := ay) (bx := bx) (b_y := b_y) (cx := cx) (cy := cy)
  have hself := f_self ax ay bx b_y
  have he := eqP ax ay bx b_y
  have hn := neP ax ay bx b_y
  simp only at c2 c4
  generalize (tnR [(ax, ay), (bx, b_y), (cx, cy)] (trn ax ay bx b_y cx cy)).1 = m at c1 c2 c3 hbd
  generalize (tnR [(ax, ay), (bx, b_y), (cx, cy)] (trn ax ay bx b_y cx cy)).2 = em at c1 c2 c3
  generalize (tnR [(ax, ay), (bx, b_y), (cx, cy), (cx, cy)] (meetS ax ay bx b_y cx cy cx cy)).1 = k at c4 c5
  generalize (tnR [(ax, ay), (bx, b_y), (cx, cy), (cx, cy)] (meetS ax ay bx b_y cx cy cx cy)).2 = ek at c4 c5
  rw [show decide (k = 1) = (k == 1) by rw [Bool.eq_iff_iff]; simp] at c4
  generalize (tnR [(ax, ay), (bx, b_y), (cx, cy), (dx, dy)] (meetS ax ay bx b_y cx cy dx dy)).1 = p at c6 c7 c8
  generalize (tnR [(ax, ay), (bx, b_y), (cx, cy), (dx, dy)] (meetS ax ay bx b_y cx cy dx dy)).2 = ep at c6 c7 c8
  obtain ⟨t, u, eq, hs, hq⟩ : ∃ t u : Int, ∃ eq : Bool, tnR [(ax, ay), (bx, b_y), (ax, ay), (bx, b_y)] (meetS ax ay bx b_y ax ay bx b_y) = (t, u) ∧ (ax == bx && ay == b_y) = eq ∧ ((t = 0 ∧ u = 6) ∨ (t = 1 ∧ u = 0 ∧ eq = true) ∨ (t = 2 ∧ u = 0 ∧ eq = false)) := by
    rcases hself with h | ⟨h, h'⟩ | ⟨h, h'⟩
    · exact ⟨_, _, _, h, rfl, .inl ⟨rfl, rfl⟩⟩
    · exact ⟨_, _, _, h, rfl, .inr (.inl ⟨rfl, rfl, h'⟩)⟩
    · exact ⟨_, _, _, h, rfl, .inr (.inr ⟨rfl, rfl, h'⟩)⟩
  rw [hs] at c9
  simp only at c9
  obtain ⟨hs', hq'⟩ := hq
  rw [hs'] at he hn
  clear hself hs hs'
  rcases hq' with ⟨rfl, rfl⟩ | ⟨rfl, rfl, rfl⟩ | ⟨rfl, rfl, rfl⟩
  all_goals
    go_enter Try.func11, Try.ntmps11
    go_wp2_with (first
      | (go_at_call 12; refine (awake_any _).mono ?_; rintro e w0 ⟨rfl, hb0⟩; obtain ⟨hc0, hf0⟩ := bcell hb0; have hz0 := hb0.size; (try simp at hz0); (try have y00 : w.heap.size < w0.heap.size := (by omega)); (try have y01 : w.heap.size + 1 < w0.heap.size := (by omega)); (try have y02 : w.heap.size + 1 + 1 < w0.heap.size := (by omega)); (try have y03 : w.heap.size + 1 + 1 + 1 < w0.heap.size := (by omega)))
      | (revert hb2; intro hb2; go_at_call 29; refine (c3 _).mono ?_; rintro e w3 ⟨rfl, hb3⟩; obtain ⟨hc3, hf3⟩ := bcell hb3; have hz3 := hb3.size; (try simp at hz3); (try have y30 : w.heap.size < w3.heap.size := (by omega)); (try have y31 : w.heap.size + 1 < w3.heap.size := (by omega)); (try have y32 : w.heap.size + 1 + 1 < w3.heap.size := (by omega)); (try have y33 : w.heap.size + 1 + 1 + 1 < w3.heap.size := (by omega)))
      | (revert hb1; intro hb1; go_at_call 29; refine (c2 _).mono ?_; rintro e w2 ⟨rfl, hb2⟩; obtain ⟨hc2, hf2⟩ := bcell hb2; have hz2 := hb2.size; (try simp at hz2); (try have y20 : w.heap.size < w2.heap.size := (by omega)); (try have y21 : w.heap.size + 1 < w2.heap.size := (by omega)); (try have y22 : w.heap.size + 1 + 1 < w2.heap.size := (by omega)); (try have y23 : w.heap.size + 1 + 1 + 1 < w2.heap.size := (by omega)))
      | (go_at_call 29; refine (c1 _).mono ?_; rintro e w1 ⟨rfl, hb1⟩; obtain ⟨hc1, hf1⟩ := bcell hb1; have hz1 := hb1.size; (try simp at hz1); (try have y10 : w.heap.size < w1.heap.size := (by omega)); (try have y11 : w.heap.size + 1 < w1.heap.size := (by omega)); (try have y12 : w.heap.size + 1 + 1 < w1.heap.size := (by omega)); (try have y13 : w.heap.size + 1 + 1 + 1 < w1.heap.size := (by omega)))
      | (go_at_call 30; refine (c4 _).mono ?_; rintro e w4 ⟨rfl, hb4⟩; obtain ⟨hc4, hf4⟩ := bcell hb4; have hz4 := hb4.size; (try simp at hz4); (try have y40 : w.heap.size < w4.heap.size := (by omega)); (try have y41 : w.heap.size + 1 < w4.heap.size := (by omega)); (try have y42 : w.heap.size + 1 + 1 < w4.heap.size := (by omega)); (try have y43 : w.heap.size + 1 + 1 + 1 < w4.heap.size := (by omega)))
      | (revert hb8; intro hb8; go_at_call 34; refine (c9 _).mono ?_; rintro e w9 ⟨rfl, hb9⟩; obtain ⟨hc9, hf9⟩ := bcell hb9; have hz9 := hb9.size; (try simp at hz9); (try have y90 : w.heap.size < w9.heap.size := (by omega)); (try have y91 : w.heap.size + 1 < w9.heap.size := (by omega)); (try have y92 : w.heap.size + 1 + 1 < w9.heap.size := (by omega)); (try have y93 : w.heap.size + 1 + 1 + 1 < w9.heap.size := (by omega)))
      | (revert hb7; intro hb7; go_at_call 34; refine (c8 _).mono ?_; rintro e w8 ⟨rfl, hb8⟩; obtain ⟨hc8, hf8⟩ := bcell hb8; have hz8 := hb8.size; (try simp at hz8); (try have y80 : w.heap.size < w8.heap.size := (by omega)); (try have y81 : w.heap.size + 1 < w8.heap.size := (by omega)); (try have y82 : w.heap.size + 1 + 1 < w8.heap.size := (by omega)); (try have y83 : w.heap.size + 1 + 1 + 1 < w8.heap.size := (by omega)))
      | (revert hb6; intro hb6; go_at_call 34; refine (c7 _).mono ?_; rintro e w7 ⟨rfl, hb7⟩; obtain ⟨hc7, hf7⟩ := bcell hb7; have hz7 := hb7.size; (try simp at hz7); (try have y70 : w.heap.size < w7.heap.size := (by omega)); (try have y71 : w.heap.size + 1 < w7.heap.size := (by omega)); (try have y72 : w.heap.size + 1 + 1 < w7.heap.size := (by omega)); (try have y73 : w.heap.size + 1 + 1 + 1 < w7.heap.size := (by omega)))
      | (revert hb5; intro hb5; go_at_call 34; refine (c6 _).mono ?_; rintro e w6 ⟨rfl, hb6⟩; obtain ⟨hc6, hf6⟩ := bcell hb6; have hz6 := hb6.size; (try simp at hz6); (try have y60 : w.heap.size < w6.heap.size := (by omega)); (try have y61 : w.heap.size + 1 < w6.heap.size := (by omega)); (try have y62 : w.heap.size + 1 + 1 < w6.heap.size := (by omega)); (try have y63 : w.heap.size + 1 + 1 + 1 < w6.heap.size := (by omega)))
      | (go_at_call 34; refine (c5 _).mono ?_; rintro e w5 ⟨rfl, hb5⟩; obtain ⟨hc5, hf5⟩ := bcell hb5; have hz5 := hb5.size; (try simp at hz5); (try have y50 : w.heap.size < w5.heap.size := (by omega)); (try have y51 : w.heap.size + 1 < w5.heap.size := (by omega)); (try have y52 : w.heap.size + 1 + 1 < w5.heap.size := (by omega)); (try have y53 : w.heap.size + 1 + 1 + 1 < w5.heap.size := (by omega))))
  all_goals
    go_ret
    refine ⟨ret_bool (by simp_all), ?_⟩
    repeat (first | exact Below.refl _ _ | refine Below.drew ?_ | refine below_drewN ?_ _ | refine Below.setCell ?_ ?_ _ | refine Below.alloc ?_ ?_ _ | (refine Below.trans ?_ (bmono (by assumption) ?_)))
    all_goals (first | omega | (simp <;> omega))

set_option maxHeartbeats 800000 in
set_option maxRecDepth 100000 in
theorem vectorSegments_lifted (os : Os) (started : os.Started) (H : Type) (enc : TypeId × Value → H) :
    ReturnsInHanded {} Try.checked os 11 .any (Rows.vectorSegmentsSpec.pre6 enc Try.prog Try.f11 Rows.vectorSegmentsRow.domain false) (Rows.vectorSegmentsSpec.post enc Try.prog Try.f11 false true false false) := by
  refine returnsInHanded_of_change (C := Try.checked) Try.own started (by kernel_rfl) Try.func11
    (ChangeSpec.witness6 (enc := enc) (C := Try.checked) false ⟨#[], #[.agg #[.int .i64 0, .int .i64 0], .agg #[.int .i64 0, .int .i64 0], .agg #[.int .i64 0, .int .i64 0], .agg #[.int .i64 0, .int .i64 0]], []⟩ 8 (by kernel_rfl) (by kernel_rfl) (by kernel_rfl) (by kernel_rfl)) ?_
  intro W base args ds gs before hval0 hW _ _
  have hval : ∀ (j : Nat) t v, Try.f11.params[j]? = some t → args[j]? = some v → Value.okWide Try.prog W .any base t v := hval0
  have hW' := hW
  obtain ⟨p, q, hA0, hV, rfl, _, _⟩ := hW
  have hA : DataW.TrodAll enc Try.prog W 0 (fun _ => true) true Try.f11.params.toList args.toList ds p := hA0
  rw [Try.params11] at hA hval
  obtain ⟨v0, v1, v2, v3, d0, d1, d2, d3, p0, p1, p2, p3, rfl, rfl, rfl, h0, h1, h2, h3⟩ := trodAll_four hA
  obtain ⟨rfl, rfl⟩ := trodVars_none hV
  clear hA0 hval0
  simp only [List.append_nil] at hW'
  have harg0 : ∀ W' : World, Below W.heap.size W W' → DataW.Trod enc Try.prog W' 0 (fun b => decide (b < W.heap.size)) true 46 v0 d0 p0 :=
    fun W' hn => Below.trod Try.laidOut (by kernel_rfl) (of_decide_eq_true (by kernel_rfl)) h0 hn (fun y hy => by simpa using hW'.lt y (by simp [hy]))
  have harg1 : ∀ W' : World, Below W.heap.size W W' → DataW.Trod enc Try.prog W' 0 (fun b => decide (b < W.heap.size)) true 46 v1 d1 p1 :=
    fun W' hn => Below.trod Try.laidOut (by kernel_rfl) (of_decide_eq_true (by kernel_rfl)) h1 hn (fun y hy => by simpa using hW'.lt y (by simp [hy]))
  have harg2 : ∀ W' : World, Below W.heap.size W W' → DataW.Trod enc Try.prog W' 0 (fun b => decide (b < W.heap.size)) true 46 v2 d2 p2 :=
    fun W' hn => Below.trod Try.laidOut (by kernel_rfl) (of_decide_eq_true (by kernel_rfl)) h2 hn (fun y hy => by simpa using hW'.lt y (by simp [hy]))
  have harg3 : ∀ W' : World, Below W.heap.size W W' → DataW.Trod enc Try.prog W' 0 (fun b => decide (b < W.heap.size)) true 46 v3 d3 p3 :=
    fun W' hn => Below.trod Try.laidOut (by kernel_rfl) (of_decide_eq_true (by kernel_rfl)) h3 hn (fun y hy => by simpa using hW'.lt y (by simp [hy]))
  obtain ⟨ax, ay, rfl⟩ := open_pt (hval 0 46 v0 rfl rfl) h0
  obtain ⟨bx, b_y, rfl⟩ := open_pt (hval 1 46 v1 rfl rfl) h1
  obtain ⟨cx, cy, rfl⟩ := open_pt (hval 2 46 v2 rfl rfl) h2
  obtain ⟨dx, dy, rfl⟩ := open_pt (hval 3 46 v3 rfl rfl) h3
  refine (vectorSegments_any ax ay bx b_y cx cy dx dy W).mono fun e W' ⟨he, hn⟩ => ?_
  subst he
  exact ⟨_, rfl, _, _, _, [], _, [], hW', trodAll_mk1 (shut_bool Try.underlying4 _), trodAll_mk4 (harg0 _ hn) (harg1 _ hn) (harg2 _ hn) (harg3 _ hn), (List.append_nil _).symm, hn.frame _, fun h => by cases h⟩

theorem vectorSegments_holds : Rows.VectorSegmentsSaid :=
  OpenClaim.holds_of_wide 11 Try.f11 rfl rfl rfl rfl rfl rfl rfl ⟨rfl, rfl, rfl, rfl, rfl⟩ rfl rfl rfl rfl rfl (by kernel_rfl) Try.func11 (by kernel_rfl)
    (of_decide_eq_true (by kernel_rfl)) (by unfold Func.isWrapper; first | (rw [if_pos (by decide +kernel)]; kernel_rfl) | (rw [if_neg (by decide +kernel)]; exact ⟨rfl, rfl⟩))
    (fun os started H enc _ => vectorSegments_lifted os started H enc)
end Go.Proofs.Ythlidkmalfjmbaa
