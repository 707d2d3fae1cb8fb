/- The law StairMeasures holds: for every list of levels and all measures the call answers true and leaves its arguments as they were. -/
import Derived.Test.YtoenojnfhiimpaaLif
import Derived.Test.YtoenojnfhiimpaaEvr
import Derived.Test.YtoenojnfhiimpaaSml
import Derived.Test.YtoenojnfhiimpaaAwk
import Derived.Test.YtoenojnfhiimpaaEqs
namespace Go.Proofs.Ytoenojnfhiimpaa
open Go.ChangeShapes Go.WideShapes Go.ChangeAt Go.RowKit Go.Deep

theorem silV_form (o b d n h : Int) : ∃ x y z e : Int, silV o b d n h = .tuple #[.agg #[.int .i64 x, .int .i64 y, .int .i64 z], .int .i64 e] := by
  unfold silV; split <;> exact ⟨_, _, _, _, rfl⟩
set_option maxHeartbeats 4000000 in
set_option maxRecDepth 100000 in
theorem stairMeasures_any (A : Option Addr) (cp : Nat) (l : List Int) (o b d n h : Int) (w : World) (hr : Reads w w.heap.size 1 A l.length (encI l)) :
    Calls Try.prog 6 #[.slice A l.length cp, .int .i64 o, .int .i64 b, .int .i64 d, .int .i64 n, .int .i64 h] w fun e w' => e = .returned (.bool true) ∧ Below w.heap.size w w' := by
  by_cases h100 : 100 < l.length
  · have h1 : (100 : Int) < (l.length : Int) := by omega
    go_enter Try.func6, Try.ntmps6
    go_wp2_with (go_at_call 11; refine (awake_any _).mono ?_; rintro e w1 ⟨rfl, hb1⟩)
    go_ret
    exact ⟨rfl, hb1⟩
  · have h1 : (l.length : Int) ≤ 100 := by omega
    have hev := fun W (hr : Reads W W.heap.size 1 A l.length (encI l)) => even_any A cp l W (by omega) hr
    have hrv := fun W (hr : Reads W W.heap.size 1 A l.length (encI l)) => reven_any A cp l W (by omega) hr
    have hs := sill_any o b d n h
    have hrs := rsill_any o b d n h
    obtain ⟨x, y, z, e, he⟩ := silV_form o b d n h
    rw [he] at hs hrs
    clear he
    generalize evN l = N at hev hrv
    generalize evE l = E at hev hrv
    have hF : ∀ w, Sem.run Try.prog (binOp .eql 60 (.agg #[.int .i64 x, .int .i64 y, .int .i64 z]) (.agg #[.int .i64 x, .int .i64 y, .int .i64 z])) w = .ok (.bool true) w := fun w => by rw [eqV]; simp
    go_enter Try.func6, Try.ntmps6
    go_wp2_with (first
      | (go_at_call 11; refine (awake_any _).mono ?_; rintro e w1 ⟨rfl, hb1⟩; have hr1 := (hr.below hb1).more hb1.size; have hz1 := hb1.size)
      | (go_at_call 27; refine (hev _ hr1).mono ?_; rintro e w2 ⟨rfl, hb2⟩; have hr2 := (hr1.below hb2).more hb2.size; have hz2 := hb2.size)
      | (go_at_call 28; refine (hrv _ hr2).mono ?_; rintro e w3 ⟨rfl, hb3⟩; have hz3 := hb3.size)
      | (go_at_call 29; refine (hs _).mono ?_; rintro e w4 ⟨rfl, hb4⟩; have hz4 := hb4.size)
      | (go_at_call 30; refine (hrs _).mono ?_; rintro e w5 ⟨rfl, hb5⟩; obtain ⟨hc5, hf5⟩ := bcell hb5; have hz5 := hb5.size; (try simp at hz5); have y5 : w4.heap.size < w5.heap.size := (by omega); (try have y5p : w4.heap.size < w5.heap.size + 1 := (by omega))))
    go_ret
    refine ⟨rfl, ?_⟩
    ((repeat (first | with_reducible exact Below.refl _ _ | with_reducible refine Below.setCell ?_ ?_ _ | with_reducible refine Below.alloc ?_ ?_ _ | with_reducible refine Below.drew ?_ | with_reducible refine below_drewN ?_ _ | (refine Below.trans ?_ (bmono (by assumption) ?_)))); all_goals (first | omega | (simp <;> omega)))

set_option maxHeartbeats 800000 in
set_option maxRecDepth 100000 in
theorem stairMeasures_lifted (os : Os) (started : os.Started) (H : Type) (enc : TypeId × Value → H) :
    ReturnsInHanded {} Try.checked os 6 .any (Rows.stairMeasuresSpec.pre6 enc Try.prog Try.f6 Rows.stairMeasuresRow.domain false) (Rows.stairMeasuresSpec.post enc Try.prog Try.f6 false true false false) := by
  refine returnsInHanded_of_change (C := Try.checked) Try.own started (by kernel_rfl) Try.func6
    (ChangeSpec.witness6 (enc := enc) (C := Try.checked) false ⟨#[], #[.slice none 0 0, .int .i64 0, .int .i64 0, .int .i64 0, .int .i64 0, .int .i64 0], []⟩ 8 (by kernel_rfl) (by kernel_rfl) (by kernel_rfl) (by kernel_rfl)) ?_
  intro W base args ds gs before hval0 hW _ _
  have hval : ∀ (j : Nat) t v, Try.f6.params[j]? = some t → args[j]? = some v → Value.okWide Try.prog W .any base t v := hval0
  have hW' := hW
  obtain ⟨p, q, hA0, hV, rfl, _, _⟩ := hW
  have hA : DataW.TrodAll enc Try.prog W 0 (fun _ => true) true Try.f6.params.toList args.toList ds p := hA0
  rw [Try.params6] at hA hval
  obtain ⟨v0, v1, v2, v3, v4, v5, d0, d1, d2, d3, d4, d5, p0, p1, p2, p3, p4, p5, rfl, rfl, rfl, h0, h1, h2, h3, h4, h5⟩ := trodAll_six hA
  obtain ⟨rfl, rfl⟩ := trodVars_none hV
  clear hA0 hval0
  simp only [List.append_nil] at hW'
  have harg0 : ∀ W' : World, Below W.heap.size W W' → DataW.Trod enc Try.prog W' 0 (fun b => decide (b < W.heap.size)) true 57 v0 d0 p0 :=
    fun W' hn => Below.trod Try.laidOut (by kernel_rfl) (of_decide_eq_true (by kernel_rfl)) h0 hn (fun y hy => by simpa using hW'.lt y (by simp [hy]))
  have harg1 : ∀ W' : World, Below W.heap.size W W' → DataW.Trod enc Try.prog W' 0 (fun b => decide (b < W.heap.size)) true 3 v1 d1 p1 :=
    fun W' hn => Below.trod Try.laidOut (by kernel_rfl) (of_decide_eq_true (by kernel_rfl)) h1 hn (fun y hy => by simpa using hW'.lt y (by simp [hy]))
  have harg2 : ∀ W' : World, Below W.heap.size W W' → DataW.Trod enc Try.prog W' 0 (fun b => decide (b < W.heap.size)) true 3 v2 d2 p2 :=
    fun W' hn => Below.trod Try.laidOut (by kernel_rfl) (of_decide_eq_true (by kernel_rfl)) h2 hn (fun y hy => by simpa using hW'.lt y (by simp [hy]))
  have harg3 : ∀ W' : World, Below W.heap.size W W' → DataW.Trod enc Try.prog W' 0 (fun b => decide (b < W.heap.size)) true 3 v3 d3 p3 :=
    fun W' hn => Below.trod Try.laidOut (by kernel_rfl) (of_decide_eq_true (by kernel_rfl)) h3 hn (fun y hy => by simpa using hW'.lt y (by simp [hy]))
  have harg4 : ∀ W' : World, Below W.heap.size W W' → DataW.Trod enc Try.prog W' 0 (fun b => decide (b < W.heap.size)) true 3 v4 d4 p4 :=
    fun W' hn => Below.trod Try.laidOut (by kernel_rfl) (of_decide_eq_true (by kernel_rfl)) h4 hn (fun y hy => by simpa using hW'.lt y (by simp [hy]))
  have harg5 : ∀ W' : World, Below W.heap.size W W' → DataW.Trod enc Try.prog W' 0 (fun b => decide (b < W.heap.size)) true 3 v5 d5 p5 :=
    fun W' hn => Below.trod Try.laidOut (by kernel_rfl) (of_decide_eq_true (by kernel_rfl)) h5 hn (fun y hy => by simpa using hW'.lt y (by simp [hy]))
  obtain ⟨A, _, cp, lv, rfl, rfl, hmx, hr⟩ := open_lv (hval 0 57 v0 rfl rfl) h0
  obtain ⟨o, rfl, _, _, _⟩ := open_int Try.underlying3 (hval 1 3 v1 rfl rfl) h1
  obtain ⟨b, rfl, _, _, _⟩ := open_int Try.underlying3 (hval 2 3 v2 rfl rfl) h2
  obtain ⟨d, rfl, _, _, _⟩ := open_int Try.underlying3 (hval 3 3 v3 rfl rfl) h3
  obtain ⟨n, rfl, _, _, _⟩ := open_int Try.underlying3 (hval 4 3 v4 rfl rfl) h4
  obtain ⟨h, rfl, _, _, _⟩ := open_int Try.underlying3 (hval 5 3 v5 rfl rfl) h5
  refine (stairMeasures_any A cp lv o b d n h W hr).mono fun e W' ⟨he, hn⟩ => ?_
  subst he
  exact ⟨_, rfl, _, _, _, [], _, [], hW', trodAll_mk1 (shut_bool Try.underlying4 _), trodAll_mk6 (harg0 _ hn) (harg1 _ hn) (harg2 _ hn) (harg3 _ hn) (harg4 _ hn) (harg5 _ hn), (List.append_nil _).symm, hn.frame _, fun h => by cases h⟩

theorem stairMeasures_holds : Rows.StairMeasuresSaid :=
  OpenClaim.holds_of_wide 6 Try.f6 rfl rfl rfl rfl rfl rfl rfl ⟨rfl, rfl, rfl, rfl, rfl⟩ rfl rfl rfl rfl rfl (by kernel_rfl) Try.func6 (by kernel_rfl)
    (of_decide_eq_true (by kernel_rfl)) (by unfold Func.isWrapper; first | (rw [if_pos (by decide +kernel)]; kernel_rfl) | (rw [if_neg (by decide +kernel)]; exact ⟨rfl, rfl⟩))
    (fun os started H enc _ => stairMeasures_lifted os started H enc)
end Go.Proofs.Ytoenojnfhiimpaa
