/- The law StairPlans holds: for every rule and all measures the call answers true and leaves its arguments as they were. -/
import Derived.Test.YtoenojnfhiimpaaLif
import Derived.Test.YtoenojnfhiimpaaWpl
import Derived.Test.YtoenojnfhiimpaaPla
import Derived.Test.YtoenojnfhiimpaaRpl
import Derived.Test.YtoenojnfhiimpaaEqs
namespace Go.Proofs.Ytoenojnfhiimpaa
open Go.ChangeShapes Go.WideShapes Go.ChangeAt Go.RowKit Go.Deep

theorem plnV_form (a b c d p q H L wd l : Int) : ∀ f k : Nat, ∃ n r x g w' l' E : Int, plnV a b c d p q H L wd l f k = .tuple #[.agg #[.int .i64 n, .int .i64 r, .int .i64 x, .int .i64 g, .int .i64 w', .int .i64 l'], .int .i64 E]
  | 0, _ => ⟨0, 0, 0, 0, 0, 0, 9, rfl⟩
  | f + 1, k => by
    unfold plnV
    split
    · exact ⟨_, _, _, _, _, _, _, rfl⟩
    · exact plnV_form a b c d p q H L wd l f (k + 1)
theorem planV_form (a b c d p q H L wd l : Int) : ∃ n r x g w' l' E : Int, planV a b c d p q H L wd l = .tuple #[.agg #[.int .i64 n, .int .i64 r, .int .i64 x, .int .i64 g, .int .i64 w', .int .i64 l'], .int .i64 E] := by
  unfold planV
  split
  · split
    · exact plnV_form a b c d p q H L wd l 64 1
    · exact ⟨_, _, _, _, _, _, _, rfl⟩
  · exact ⟨_, _, _, _, _, _, _, rfl⟩
theorem stairPlans_any (a b c d p q H L wd l : Int) (w : World) : Calls Try.prog 4 #[.agg #[.int .i64 a, .int .i64 b, .int .i64 c, .int .i64 d, .int .i64 p, .int .i64 q], .int .i64 H, .int .i64 L, .int .i64 wd, .int .i64 l] w fun e w' => e = .returned (.bool true) ∧ Below w.heap.size w w' := by
  have h1 := plan_any a b c d p q H L wd l
  have h2 := rplan_any a b c d p q H L wd l
  obtain ⟨n, r, x, g, w', l', E, e⟩ := planV_form a b c d p q H L wd l
  rw [e] at h1 h2
  exact plans_way a b c d p q H L wd l n r x g w' l' E h1 h2 (fun w => by rw [eqG]; simp) w

set_option maxHeartbeats 800000 in
set_option maxRecDepth 100000 in
theorem stairPlans_lifted (os : Os) (started : os.Started) (H : Type) (enc : TypeId × Value → H) :
    ReturnsInHanded {} Try.checked os 4 .any (Rows.stairPlansSpec.pre6 enc Try.prog Try.f4 Rows.stairPlansRow.domain false) (Rows.stairPlansSpec.post enc Try.prog Try.f4 false true false false) := by
  refine returnsInHanded_of_change (C := Try.checked) Try.own started (by kernel_rfl) Try.func4
    (ChangeSpec.witness6 (enc := enc) (C := Try.checked) false ⟨#[], #[.agg #[.int .i64 0, .int .i64 0, .int .i64 0, .int .i64 0, .int .i64 0, .int .i64 0], .int .i64 0, .int .i64 0, .int .i64 0, .int .i64 0], []⟩ 8 (by kernel_rfl) (by kernel_rfl) (by kernel_rfl) (by kernel_rfl)) ?_
  intro W base args ds gs before hval0 hW _ _
  have hval : ∀ (j : Nat) t v, Try.f4.params[j]? = some t → args[j]? = some v → Value.okWide Try.prog W .any base t v := hval0
  have hW' := hW
  obtain ⟨p, q, hA0, hV, rfl, _, _⟩ := hW
  have hA : DataW.TrodAll enc Try.prog W 0 (fun _ => true) true Try.f4.params.toList args.toList ds p := hA0
  rw [Try.params4] at hA hval
  obtain ⟨v0, v1, v2, v3, v4, d0, d1, d2, d3, d4, p0, p1, p2, p3, p4, rfl, rfl, rfl, h0, h1, h2, h3, h4⟩ := trodAll_five hA
  obtain ⟨rfl, rfl⟩ := trodVars_none hV
  clear hA0 hval0
  simp only [List.append_nil] at hW'
  have harg0 : ∀ W' : World, Below W.heap.size W W' → DataW.Trod enc Try.prog W' 0 (fun b => decide (b < W.heap.size)) true 25 v0 d0 p0 :=
    fun W' hn => Below.trod Try.laidOut (by kernel_rfl) (of_decide_eq_true (by kernel_rfl)) h0 hn (fun y hy => by simpa using hW'.lt y (by simp [hy]))
  have harg1 : ∀ W' : World, Below W.heap.size W W' → DataW.Trod enc Try.prog W' 0 (fun b => decide (b < W.heap.size)) true 3 v1 d1 p1 :=
    fun W' hn => Below.trod Try.laidOut (by kernel_rfl) (of_decide_eq_true (by kernel_rfl)) h1 hn (fun y hy => by simpa using hW'.lt y (by simp [hy]))
  have harg2 : ∀ W' : World, Below W.heap.size W W' → DataW.Trod enc Try.prog W' 0 (fun b => decide (b < W.heap.size)) true 3 v2 d2 p2 :=
    fun W' hn => Below.trod Try.laidOut (by kernel_rfl) (of_decide_eq_true (by kernel_rfl)) h2 hn (fun y hy => by simpa using hW'.lt y (by simp [hy]))
  have harg3 : ∀ W' : World, Below W.heap.size W W' → DataW.Trod enc Try.prog W' 0 (fun b => decide (b < W.heap.size)) true 3 v3 d3 p3 :=
    fun W' hn => Below.trod Try.laidOut (by kernel_rfl) (of_decide_eq_true (by kernel_rfl)) h3 hn (fun y hy => by simpa using hW'.lt y (by simp [hy]))
  have harg4 : ∀ W' : World, Below W.heap.size W W' → DataW.Trod enc Try.prog W' 0 (fun b => decide (b < W.heap.size)) true 3 v4 d4 p4 :=
    fun W' hn => Below.trod Try.laidOut (by kernel_rfl) (of_decide_eq_true (by kernel_rfl)) h4 hn (fun y hy => by simpa using hW'.lt y (by simp [hy]))
  obtain ⟨a, b, c, d, p, q, rfl⟩ := open_ru (hval 0 25 v0 rfl rfl) h0
  obtain ⟨H, rfl, _, _, _⟩ := open_int Try.underlying3 (hval 1 3 v1 rfl rfl) h1
  obtain ⟨L, rfl, _, _, _⟩ := open_int Try.underlying3 (hval 2 3 v2 rfl rfl) h2
  obtain ⟨wd, rfl, _, _, _⟩ := open_int Try.underlying3 (hval 3 3 v3 rfl rfl) h3
  obtain ⟨l, rfl, _, _, _⟩ := open_int Try.underlying3 (hval 4 3 v4 rfl rfl) h4
  refine (stairPlans_any a b c d p q H L wd l W).mono fun e W' ⟨he, hn⟩ => ?_
  subst he
  exact ⟨_, rfl, _, _, _, [], _, [], hW', trodAll_mk1 (shut_bool Try.underlying4 _), trodAll_mk5 (harg0 _ hn) (harg1 _ hn) (harg2 _ hn) (harg3 _ hn) (harg4 _ hn), (List.append_nil _).symm, hn.frame _, fun h => by cases h⟩

theorem stairPlans_holds : Rows.StairPlansSaid :=
  OpenClaim.holds_of_wide 4 Try.f4 rfl rfl rfl rfl rfl rfl rfl ⟨rfl, rfl, rfl, rfl, rfl⟩ rfl rfl rfl rfl rfl (by kernel_rfl) Try.func4 (by kernel_rfl)
    (of_decide_eq_true (by kernel_rfl)) (by unfold Func.isWrapper; first | (rw [if_pos (by decide +kernel)]; kernel_rfl) | (rw [if_neg (by decide +kernel)]; exact ⟨rfl, rfl⟩))
    (fun os started H enc _ => stairPlans_lifted os started H enc)
end Go.Proofs.Ytoenojnfhiimpaa
