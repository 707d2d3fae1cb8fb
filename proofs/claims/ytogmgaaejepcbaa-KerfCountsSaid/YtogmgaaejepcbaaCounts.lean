/- KerfCounts: for all numbers Most and Thickest return the specified numbers or errors. No condition. -/
import Derived.Test.YtogmgaaejepcbaaAwk
import Derived.Test.YtogmgaaejepcbaaLfk
namespace Go.Proofs.Ytogmgaaejepcbaa
open Go.ChangeShapes Go.WideShapes Go.ChangeAt Go.RowKit Go.Deep

set_option maxHeartbeats 8000000 in
set_option maxRecDepth 100000 in
theorem kerfCounts_any (l t s k : Int) (w : World) : Calls Try.prog 5 #[.int .i64 l, .int .i64 t, .int .i64 s, .int .i64 k] w fun e w' => e = .returned (.bool true) ∧ Below w.heap.size w w' := by
  cases e1 : rgB 1 2000000 l
  · have hA := awake_any
    have hM := Most_any l t k
    rw [show mostOk l t k = false by simp [mostOk, e1]] at hM
    simp only [Bool.false_eq_true, if_false] at hM
    have hT := Thick_bad l s k (by simp [thOk, e1])
    have g1 := rLen_any l
    rw [e1] at g1
    clear e1
    go_enter Try.func5, Try.ntmps5
    go_wp2_with (first
      | (go_at_call 12; refine (hA _).mono ?_; rintro e w1 ⟨rfl, hb1⟩)
      | (go_at_call 22; refine (hM _).mono ?_; rintro e w' ⟨rfl, rfl⟩)
      | (go_at_call 23; refine (hT _).mono ?_; rintro e w' ⟨rfl, rfl⟩)
      | (go_at_call_of 24 l; refine (g1 _).mono ?_; rintro e w' ⟨rfl, rfl⟩))
    go_ret
    exact ⟨rfl, hb1⟩
  · cases e2 : rgB 1 2000000 t
    · cases e4 : rgB 0 1000 k
      · cases e3 : rgB 1 1000 s
        · have hA := awake_any
          have hM := Most_any l t k
          rw [show mostOk l t k = false by simp [mostOk, e1, e2]] at hM
          simp only [Bool.false_eq_true, if_false] at hM
          have hT := Thick_bad l s k (by simp [thOk, e1, e3])
          have g1 := rLen_any l
          rw [e1] at g1
          have g2 := rLen_any t
          rw [e2] at g2
          have g4 := rKerf_any k
          rw [e4] at g4
          have i3 := rgB_no.1 e3
          clear e1 e2 e3 e4
          rcases i3 with i3 | i3
          all_goals
            go_enter Try.func5, Try.ntmps5
            go_wp2_with (first
              | (go_at_call 12; refine (hA _).mono ?_; rintro e w1 ⟨rfl, hb1⟩)
              | (go_at_call 22; refine (hM _).mono ?_; rintro e w' ⟨rfl, rfl⟩)
              | (go_at_call 23; refine (hT _).mono ?_; rintro e w' ⟨rfl, rfl⟩)
              | (go_at_call_of 24 l; refine (g1 _).mono ?_; rintro e w' ⟨rfl, rfl⟩)
              | (go_at_call_of 24 t; refine (g2 _).mono ?_; rintro e w' ⟨rfl, rfl⟩)
              | (go_at_call 25; refine (g4 _).mono ?_; rintro e w' ⟨rfl, rfl⟩))
            go_ret
            exact ⟨rfl, hb1⟩
        · have hA := awake_any
          have hM := Most_any l t k
          rw [show mostOk l t k = false by simp [mostOk, e1, e2]] at hM
          simp only [Bool.false_eq_true, if_false] at hM
          have hT := Thick_bad l s k (by simp [thOk, e1, e3, e4])
          have g1 := rLen_any l
          rw [e1] at g1
          have g2 := rLen_any t
          rw [e2] at g2
          have g4 := rKerf_any k
          rw [e4] at g4
          have i3 := rgB_iff.1 e3
          clear e1 e2 e3 e4
          obtain ⟨i3, i4⟩ := i3
          go_enter Try.func5, Try.ntmps5
          go_wp2_with (first
            | (go_at_call 12; refine (hA _).mono ?_; rintro e w1 ⟨rfl, hb1⟩)
            | (go_at_call 22; refine (hM _).mono ?_; rintro e w' ⟨rfl, rfl⟩)
            | (go_at_call 23; refine (hT _).mono ?_; rintro e w' ⟨rfl, rfl⟩)
            | (go_at_call_of 24 l; refine (g1 _).mono ?_; rintro e w' ⟨rfl, rfl⟩)
            | (go_at_call_of 24 t; refine (g2 _).mono ?_; rintro e w' ⟨rfl, rfl⟩)
            | (go_at_call 25; refine (g4 _).mono ?_; rintro e w' ⟨rfl, rfl⟩))
          go_ret
          exact ⟨rfl, hb1⟩
      · cases e3 : rgB 1 1000 s
        · have hA := awake_any
          have hM := Most_any l t k
          rw [show mostOk l t k = false by simp [mostOk, e1, e2]] at hM
          simp only [Bool.false_eq_true, if_false] at hM
          have hT := Thick_bad l s k (by simp [thOk, e1, e3])
          have g1 := rLen_any l
          rw [e1] at g1
          have g2 := rLen_any t
          rw [e2] at g2
          have g4 := rKerf_any k
          rw [e4] at g4
          have i3 := rgB_no.1 e3
          clear e1 e2 e3 e4
          rcases i3 with i3 | i3
          all_goals
            go_enter Try.func5, Try.ntmps5
            go_wp2_with (first
              | (go_at_call 12; refine (hA _).mono ?_; rintro e w1 ⟨rfl, hb1⟩)
              | (go_at_call 22; refine (hM _).mono ?_; rintro e w' ⟨rfl, rfl⟩)
              | (go_at_call 23; refine (hT _).mono ?_; rintro e w' ⟨rfl, rfl⟩)
              | (go_at_call_of 24 l; refine (g1 _).mono ?_; rintro e w' ⟨rfl, rfl⟩)
              | (go_at_call_of 24 t; refine (g2 _).mono ?_; rintro e w' ⟨rfl, rfl⟩)
              | (go_at_call 25; refine (g4 _).mono ?_; rintro e w' ⟨rfl, rfl⟩))
            go_ret
            exact ⟨rfl, hb1⟩
        · by_cases hd : thD l s k < 1
          · have hA := awake_any
            have hM := Most_any l t k
            rw [show mostOk l t k = false by simp [mostOk, e1, e2]] at hM
            simp only [Bool.false_eq_true, if_false] at hM
            have hT := Thick_ok l s k (by simp [thOk, e1, e3, e4])
            have hU := fun w => rThick_any l s k (rgB_iff.1 e1) (rgB_iff.1 e3) (rgB_iff.1 e4) w
            rw [if_pos hd, if_pos hd] at hT
            generalize thD l s k = D at hT hU hd
            have g1 := rLen_any l
            rw [e1] at g1
            have g2 := rLen_any t
            rw [e2] at g2
            have g4 := rKerf_any k
            rw [e4] at g4
            have i3 := rgB_iff.1 e3
            clear e1 e2 e3 e4
            obtain ⟨i3, i4⟩ := i3
            go_enter Try.func5, Try.ntmps5
            go_wp2_with (first
              | (go_at_call 12; refine (hA _).mono ?_; rintro e w1 ⟨rfl, hb1⟩)
              | (go_at_call 22; refine (hM _).mono ?_; rintro e w' ⟨rfl, rfl⟩)
              | (go_at_call 23; refine (hT _).mono ?_; rintro e w' ⟨rfl, rfl⟩)
              | (go_at_call_of 24 l; refine (g1 _).mono ?_; rintro e w' ⟨rfl, rfl⟩)
              | (go_at_call_of 24 t; refine (g2 _).mono ?_; rintro e w' ⟨rfl, rfl⟩)
              | (go_at_call 25; refine (g4 _).mono ?_; rintro e w' ⟨rfl, rfl⟩)
              | (go_at_call 27; refine (hU _).mono ?_; rintro e w' ⟨rfl, rfl⟩))
            go_ret
            exact ⟨rfl, hb1⟩
          · have hA := awake_any
            have hM := Most_any l t k
            rw [show mostOk l t k = false by simp [mostOk, e1, e2]] at hM
            simp only [Bool.false_eq_true, if_false] at hM
            have hT := Thick_ok l s k (by simp [thOk, e1, e3, e4])
            have hU := fun w => rThick_any l s k (rgB_iff.1 e1) (rgB_iff.1 e3) (rgB_iff.1 e4) w
            rw [if_neg hd, if_neg hd] at hT
            generalize thD l s k = D at hT hU hd
            have g1 := rLen_any l
            rw [e1] at g1
            have g2 := rLen_any t
            rw [e2] at g2
            have g4 := rKerf_any k
            rw [e4] at g4
            have i3 := rgB_iff.1 e3
            clear e1 e2 e3 e4
            obtain ⟨i3, i4⟩ := i3
            go_enter Try.func5, Try.ntmps5
            go_wp2_with (first
              | (go_at_call 12; refine (hA _).mono ?_; rintro e w1 ⟨rfl, hb1⟩)
              | (go_at_call 22; refine (hM _).mono ?_; rintro e w' ⟨rfl, rfl⟩)
              | (go_at_call 23; refine (hT _).mono ?_; rintro e w' ⟨rfl, rfl⟩)
              | (go_at_call_of 24 l; refine (g1 _).mono ?_; rintro e w' ⟨rfl, rfl⟩)
              | (go_at_call_of 24 t; refine (g2 _).mono ?_; rintro e w' ⟨rfl, rfl⟩)
              | (go_at_call 25; refine (g4 _).mono ?_; rintro e w' ⟨rfl, rfl⟩)
              | (go_at_call 27; refine (hU _).mono ?_; rintro e w' ⟨rfl, rfl⟩))
            go_ret
            exact ⟨rfl, hb1⟩
    · cases e4 : rgB 0 1000 k
      · cases e3 : rgB 1 1000 s
        · have hA := awake_any
          have hM := Most_any l t k
          rw [show mostOk l t k = false by simp [mostOk, e1, e2, e4]] at hM
          simp only [Bool.false_eq_true, if_false] at hM
          have hT := Thick_bad l s k (by simp [thOk, e1, e3])
          have g1 := rLen_any l
          rw [e1] at g1
          have g2 := rLen_any t
          rw [e2] at g2
          have g4 := rKerf_any k
          rw [e4] at g4
          have i3 := rgB_no.1 e3
          clear e1 e2 e3 e4
          rcases i3 with i3 | i3
          all_goals
            go_enter Try.func5, Try.ntmps5
            go_wp2_with (first
              | (go_at_call 12; refine (hA _).mono ?_; rintro e w1 ⟨rfl, hb1⟩)
              | (go_at_call 22; refine (hM _).mono ?_; rintro e w' ⟨rfl, rfl⟩)
              | (go_at_call 23; refine (hT _).mono ?_; rintro e w' ⟨rfl, rfl⟩)
              | (go_at_call_of 24 l; refine (g1 _).mono ?_; rintro e w' ⟨rfl, rfl⟩)
              | (go_at_call_of 24 t; refine (g2 _).mono ?_; rintro e w' ⟨rfl, rfl⟩)
              | (go_at_call 25; refine (g4 _).mono ?_; rintro e w' ⟨rfl, rfl⟩))
            go_ret
            exact ⟨rfl, hb1⟩
        · have hA := awake_any
          have hM := Most_any l t k
          rw [show mostOk l t k = false by simp [mostOk, e1, e2, e4]] at hM
          simp only [Bool.false_eq_true, if_false] at hM
          have hT := Thick_bad l s k (by simp [thOk, e1, e3, e4])
          have g1 := rLen_any l
          rw [e1] at g1
          have g2 := rLen_any t
          rw [e2] at g2
          have g4 := rKerf_any k
          rw [e4] at g4
          have i3 := rgB_iff.1 e3
          clear e1 e2 e3 e4
          obtain ⟨i3, i4⟩ := i3
          go_enter Try.func5, Try.ntmps5
          go_wp2_with (first
            | (go_at_call 12; refine (hA _).mono ?_; rintro e w1 ⟨rfl, hb1⟩)
            | (go_at_call 22; refine (hM _).mono ?_; rintro e w' ⟨rfl, rfl⟩)
            | (go_at_call 23; refine (hT _).mono ?_; rintro e w' ⟨rfl, rfl⟩)
            | (go_at_call_of 24 l; refine (g1 _).mono ?_; rintro e w' ⟨rfl, rfl⟩)
            | (go_at_call_of 24 t; refine (g2 _).mono ?_; rintro e w' ⟨rfl, rfl⟩)
            | (go_at_call 25; refine (g4 _).mono ?_; rintro e w' ⟨rfl, rfl⟩))
          go_ret
          exact ⟨rfl, hb1⟩
      · cases e3 : rgB 1 1000 s
        · have hA := awake_any
          have hM := Most_any l t k
          rw [show mostOk l t k = true by simp [mostOk, e1, e2, e4], if_pos rfl, if_pos rfl] at hM
          have hR := fun w => rMost_any l t k (rgB_iff.1 e1).1 (rgB_iff.1 e1).2 (rgB_iff.1 e2).1 (rgB_iff.1 e2).2 (rgB_iff.1 e4).1 (rgB_iff.1 e4).2 w
          generalize (l + k) / (t + k) = n at hM hR
          have hT := Thick_bad l s k (by simp [thOk, e1, e3])
          have g1 := rLen_any l
          rw [e1] at g1
          have g2 := rLen_any t
          rw [e2] at g2
          have g4 := rKerf_any k
          rw [e4] at g4
          have i3 := rgB_no.1 e3
          clear e1 e2 e3 e4
          rcases i3 with i3 | i3
          all_goals
            go_enter Try.func5, Try.ntmps5
            go_wp2_with (first
              | (go_at_call 12; refine (hA _).mono ?_; rintro e w1 ⟨rfl, hb1⟩)
              | (go_at_call 22; refine (hM _).mono ?_; rintro e w' ⟨rfl, rfl⟩)
              | (go_at_call 23; refine (hT _).mono ?_; rintro e w' ⟨rfl, rfl⟩)
              | (go_at_call_of 24 l; refine (g1 _).mono ?_; rintro e w' ⟨rfl, rfl⟩)
              | (go_at_call_of 24 t; refine (g2 _).mono ?_; rintro e w' ⟨rfl, rfl⟩)
              | (go_at_call 25; refine (g4 _).mono ?_; rintro e w' ⟨rfl, rfl⟩)
              | (go_at_call 26; refine (hR _).mono ?_; rintro e w' ⟨rfl, rfl⟩))
            go_ret
            exact ⟨rfl, hb1⟩
        · by_cases hd : thD l s k < 1
          · have hA := awake_any
            have hM := Most_any l t k
            rw [show mostOk l t k = true by simp [mostOk, e1, e2, e4], if_pos rfl, if_pos rfl] at hM
            have hR := fun w => rMost_any l t k (rgB_iff.1 e1).1 (rgB_iff.1 e1).2 (rgB_iff.1 e2).1 (rgB_iff.1 e2).2 (rgB_iff.1 e4).1 (rgB_iff.1 e4).2 w
            generalize (l + k) / (t + k) = n at hM hR
            have hT := Thick_ok l s k (by simp [thOk, e1, e3, e4])
            have hU := fun w => rThick_any l s k (rgB_iff.1 e1) (rgB_iff.1 e3) (rgB_iff.1 e4) w
            rw [if_pos hd, if_pos hd] at hT
            generalize thD l s k = D at hT hU hd
            have g1 := rLen_any l
            rw [e1] at g1
            have g2 := rLen_any t
            rw [e2] at g2
            have g4 := rKerf_any k
            rw [e4] at g4
            have i3 := rgB_iff.1 e3
            clear e1 e2 e3 e4
            obtain ⟨i3, i4⟩ := i3
            go_enter Try.func5, Try.ntmps5
            go_wp2_with (first
              | (go_at_call 12; refine (hA _).mono ?_; rintro e w1 ⟨rfl, hb1⟩)
              | (go_at_call 22; refine (hM _).mono ?_; rintro e w' ⟨rfl, rfl⟩)
              | (go_at_call 23; refine (hT _).mono ?_; rintro e w' ⟨rfl, rfl⟩)
              | (go_at_call_of 24 l; refine (g1 _).mono ?_; rintro e w' ⟨rfl, rfl⟩)
              | (go_at_call_of 24 t; refine (g2 _).mono ?_; rintro e w' ⟨rfl, rfl⟩)
              | (go_at_call 25; refine (g4 _).mono ?_; rintro e w' ⟨rfl, rfl⟩)
              | (go_at_call 26; refine (hR _).mono ?_; rintro e w' ⟨rfl, rfl⟩)
              | (go_at_call 27; refine (hU _).mono ?_; rintro e w' ⟨rfl, rfl⟩))
            go_ret
            exact ⟨rfl, hb1⟩
          · have hA := awake_any
            have hM := Most_any l t k
            rw [show mostOk l t k = true by simp [mostOk, e1, e2, e4], if_pos rfl, if_pos rfl] at hM
            have hR := fun w => rMost_any l t k (rgB_iff.1 e1).1 (rgB_iff.1 e1).2 (rgB_iff.1 e2).1 (rgB_iff.1 e2).2 (rgB_iff.1 e4).1 (rgB_iff.1 e4).2 w
            generalize (l + k) / (t + k) = n at hM hR
            have hT := Thick_ok l s k (by simp [thOk, e1, e3, e4])
            have hU := fun w => rThick_any l s k (rgB_iff.1 e1) (rgB_iff.1 e3) (rgB_iff.1 e4) w
            rw [if_neg hd, if_neg hd] at hT
            generalize thD l s k = D at hT hU hd
            have g1 := rLen_any l
            rw [e1] at g1
            have g2 := rLen_any t
            rw [e2] at g2
            have g4 := rKerf_any k
            rw [e4] at g4
            have i3 := rgB_iff.1 e3
            clear e1 e2 e3 e4
            obtain ⟨i3, i4⟩ := i3
            go_enter Try.func5, Try.ntmps5
            go_wp2_with (first
              | (go_at_call 12; refine (hA _).mono ?_; rintro e w1 ⟨rfl, hb1⟩)
              | (go_at_call 22; refine (hM _).mono ?_; rintro e w' ⟨rfl, rfl⟩)
              | (go_at_call 23; refine (hT _).mono ?_; rintro e w' ⟨rfl, rfl⟩)
              | (go_at_call_of 24 l; refine (g1 _).mono ?_; rintro e w' ⟨rfl, rfl⟩)
              | (go_at_call_of 24 t; refine (g2 _).mono ?_; rintro e w' ⟨rfl, rfl⟩)
              | (go_at_call 25; refine (g4 _).mono ?_; rintro e w' ⟨rfl, rfl⟩)
              | (go_at_call 26; refine (hR _).mono ?_; rintro e w' ⟨rfl, rfl⟩)
              | (go_at_call 27; refine (hU _).mono ?_; rintro e w' ⟨rfl, rfl⟩))
            go_ret
            exact ⟨rfl, hb1⟩

set_option maxHeartbeats 800000 in
set_option maxRecDepth 100000 in
theorem kerfCounts_lifted (os : Os) (started : os.Started) (H : Type) (enc : TypeId × Value → H) :
    ReturnsInHanded {} Try.checked os 5 .any (Rows.kerfCountsSpec.pre6 enc Try.prog Try.f5 Rows.kerfCountsRow.domain false) (Rows.kerfCountsSpec.post enc Try.prog Try.f5 false true false false) := by
  refine returnsInHanded_of_change (C := Try.checked) Try.own started (by kernel_rfl) Try.func5
    (ChangeSpec.witness6 (enc := enc) (C := Try.checked) false ⟨#[], #[.int .i64 0, .int .i64 0, .int .i64 0, .int .i64 0], []⟩ 8 (by kernel_rfl) (by kernel_rfl) (by kernel_rfl) (by kernel_rfl)) ?_
  intro W base args ds gs before hval0 hW _ _
  have hval : ∀ (j : Nat) t v, Try.f5.params[j]? = some t → args[j]? = some v → Value.okWide Try.prog W .any base t v := hval0
  have hW' := hW
  obtain ⟨p, q, hA0, hV, rfl, _, _⟩ := hW
  have hA : DataW.TrodAll enc Try.prog W 0 (fun _ => true) true Try.f5.params.toList args.toList ds p := hA0
  rw [Try.params5] at hA hval
  obtain ⟨v0, v1, v2, v3, d0, d1, d2, d3, p0, p1, p2, p3, rfl, rfl, rfl, h0, h1, h2, h3⟩ := trodAll_four hA
  obtain ⟨rfl, rfl⟩ := trodVars_none hV
  clear hA0 hval0
  simp only [List.append_nil] at hW'
  have harg0 : ∀ W' : World, Below W.heap.size W W' → DataW.Trod enc Try.prog W' 0 (fun b => decide (b < W.heap.size)) true 3 v0 d0 p0 :=
    fun W' hn => Below.trod Try.laidOut (by kernel_rfl) (of_decide_eq_true (by kernel_rfl)) h0 hn (fun y hy => by simpa using hW'.lt y (by simp [hy]))
  have harg1 : ∀ W' : World, Below W.heap.size W W' → DataW.Trod enc Try.prog W' 0 (fun b => decide (b < W.heap.size)) true 3 v1 d1 p1 :=
    fun W' hn => Below.trod Try.laidOut (by kernel_rfl) (of_decide_eq_true (by kernel_rfl)) h1 hn (fun y hy => by simpa using hW'.lt y (by simp [hy]))
  have harg2 : ∀ W' : World, Below W.heap.size W W' → DataW.Trod enc Try.prog W' 0 (fun b => decide (b < W.heap.size)) true 3 v2 d2 p2 :=
    fun W' hn => Below.trod Try.laidOut (by kernel_rfl) (of_decide_eq_true (by kernel_rfl)) h2 hn (fun y hy => by simpa using hW'.lt y (by simp [hy]))
  have harg3 : ∀ W' : World, Below W.heap.size W W' → DataW.Trod enc Try.prog W' 0 (fun b => decide (b < W.heap.size)) true 3 v3 d3 p3 :=
    fun W' hn => Below.trod Try.laidOut (by kernel_rfl) (of_decide_eq_true (by kernel_rfl)) h3 hn (fun y hy => by simpa using hW'.lt y (by simp [hy]))
  obtain ⟨l, rfl, _, _, _⟩ := open_int Try.underlying3 (hval 0 3 v0 rfl rfl) h0
  obtain ⟨t, rfl, _, _, _⟩ := open_int Try.underlying3 (hval 1 3 v1 rfl rfl) h1
  obtain ⟨s, rfl, _, _, _⟩ := open_int Try.underlying3 (hval 2 3 v2 rfl rfl) h2
  obtain ⟨k, rfl, _, _, _⟩ := open_int Try.underlying3 (hval 3 3 v3 rfl rfl) h3
  refine (kerfCounts_any l t s k W).mono fun e W' ⟨he, hn⟩ => ?_
  subst he
  exact ⟨_, rfl, _, _, _, [], _, [], hW', trodAll_mk1 (shut_bool Try.underlying4 _), trodAll_mk4 (harg0 _ hn) (harg1 _ hn) (harg2 _ hn) (harg3 _ hn), (List.append_nil _).symm, hn.frame _, fun h => by cases h⟩

theorem kerfCounts_holds : Rows.KerfCountsSaid :=
  OpenClaim.holds_of_wide 5 Try.f5 rfl rfl rfl rfl rfl rfl rfl ⟨rfl, rfl, rfl, rfl, rfl⟩ rfl rfl rfl rfl rfl (by kernel_rfl) Try.func5 (by kernel_rfl)
    (of_decide_eq_true (by kernel_rfl)) (by unfold Func.isWrapper; first | (rw [if_pos (by decide +kernel)]; kernel_rfl) | (rw [if_neg (by decide +kernel)]; exact ⟨rfl, rfl⟩))
    (fun os started H enc _ => kerfCounts_lifted os started H enc)
end Go.Proofs.Ytogmgaaejepcbaa
