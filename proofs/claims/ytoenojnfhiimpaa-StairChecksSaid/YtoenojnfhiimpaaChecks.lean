/- The law StairChecks holds: for every rule, every flight and every step the call answers true and leaves its arguments as they were. -/
import Derived.Test.YtoenojnfhiimpaaLif
import Derived.Test.YtoenojnfhiimpaaWck
import Derived.Test.YtoenojnfhiimpaaMea
import Derived.Test.YtoenojnfhiimpaaAwk
namespace Go.Proofs.Ytoenojnfhiimpaa
open Go.ChangeShapes Go.WideShapes Go.ChangeAt Go.RowKit Go.Deep

theorem stairChecks_any (a b c d p q n r x g wd l k : Int) (w : World) : Calls Try.prog 3 #[.agg #[.int .i64 a, .int .i64 b, .int .i64 c, .int .i64 d, .int .i64 p, .int .i64 q], .agg #[.int .i64 n, .int .i64 r, .int .i64 x, .int .i64 g, .int .i64 wd, .int .i64 l], .int .i64 k] w fun e w' => e = .returned (.bool true) ∧ Below w.heap.size w w' := by
  have hc1 := check_any a b c d p q
  have hc2 := rcheck_any a b c d p q
  have hf1 := fits_any a b c d p q n r x g wd l
  have hf2 := rfits_any a b c d p q n r x g wd l
  have hh := height_any n r x g wd l
  have hl := slevel_any n r x g wd l k
  have hv := valid_any n r x g wd l
  unfold hgtV at hh
  unfold levV at hl
  cases hb : vldB n r x g wd l
  · rw [hb] at hv
    rw [if_neg (by simp [hb])] at hh hl
    exact checks_bad a b c d p q n r x g wd l k _ _ hc1 hc2 hf1 hf2 hh hl hv w
  · rw [hb] at hv
    rw [if_pos hb] at hh hl
    have hbb := vldB_iff.1 hb
    have hm := mul_bd (a := n) (b := g) (A := 64) (B := 10000) (by omega) (by omega) (by omega) (by omega)
    have hr1 := rlevel_int n r x g wd l (n - 1) (by omega) (by omega) (by omega) (by omega)
    rw [show n - 1 + 1 = n by omega] at hr1
    have e1 : IntKind.i64.wrap (n - 1) = n - 1 := IntWalk.i64_in _ (by omega)
    have e2 : IntKind.i64.wrap (n * g) = n * g := IntWalk.i64_in _ (by omega)
    by_cases h1 : k < 0
    · rw [if_neg (by rw [inB_iff]; omega)] at hl
      exact checks_neg a b c d p q n r x g wd l k _ _ _ _ _ hc1 hc2 hf1 hf2 hh hl hv e1 e2 hr1 (by simpa using h1) w
    · by_cases h2 : n ≤ k
      · rw [if_neg (by rw [inB_iff]; omega)] at hl
        exact checks_far a b c d p q n r x g wd l k _ _ _ _ _ hc1 hc2 hf1 hf2 hh hl hv e1 e2 hr1 (by simpa using h1) (by simpa using h2) w
      · rw [if_pos (by rw [inB_iff]; omega)] at hl
        have hr2 := rlevel_int n r x g wd l k (by omega) (by omega) (by omega) (by omega)
        exact checks_in a b c d p q n r x g wd l k _ _ _ _ _ _ hc1 hc2 hf1 hf2 hh hl hv e1 e2 hr1 hr2 (by simpa using h1) (by simpa using h2) w

set_option maxHeartbeats 800000 in
set_option maxRecDepth 100000 in
theorem stairChecks_lifted (os : Os) (started : os.Started) (H : Type) (enc : TypeId × Value → H) :
    ReturnsInHanded {} Try.checked os 3 .any (Rows.stairChecksSpec.pre6 enc Try.prog Try.f3 Rows.stairChecksRow.domain false) (Rows.stairChecksSpec.post enc Try.prog Try.f3 false true false false) := by
  refine returnsInHanded_of_change (C := Try.checked) Try.own started (by kernel_rfl) Try.func3
    (ChangeSpec.witness6 (enc := enc) (C := Try.checked) false ⟨#[], #[.agg #[.int .i64 0, .int .i64 0, .int .i64 0, .int .i64 0, .int .i64 0, .int .i64 0], .agg #[.int .i64 0, .int .i64 0, .int .i64 0, .int .i64 0, .int .i64 0, .int .i64 0], .int .i64 0], []⟩ 8 (by kernel_rfl) (by kernel_rfl) (by kernel_rfl) (by kernel_rfl)) ?_
  intro W base args ds gs before hval0 hW _ _
  have hval : ∀ (j : Nat) t v, Try.f3.params[j]? = some t → args[j]? = some v → Value.okWide Try.prog W .any base t v := hval0
  have hW' := hW
  obtain ⟨p, q, hA0, hV, rfl, _, _⟩ := hW
  have hA : DataW.TrodAll enc Try.prog W 0 (fun _ => true) true Try.f3.params.toList args.toList ds p := hA0
  rw [Try.params3] at hA hval
  obtain ⟨v0, v1, v2, d0, d1, d2, p0, p1, p2, rfl, rfl, rfl, h0, h1, h2⟩ := trodAll_three hA
  obtain ⟨rfl, rfl⟩ := trodVars_none hV
  clear hA0 hval0
  simp only [List.append_nil] at hW'
  have harg0 : ∀ W' : World, Below W.heap.size W W' → DataW.Trod enc Try.prog W' 0 (fun b => decide (b < W.heap.size)) true 25 v0 d0 p0 :=
    fun W' hn => Below.trod Try.laidOut (by kernel_rfl) (of_decide_eq_true (by kernel_rfl)) h0 hn (fun y hy => by simpa using hW'.lt y (by simp [hy]))
  have harg1 : ∀ W' : World, Below W.heap.size W W' → DataW.Trod enc Try.prog W' 0 (fun b => decide (b < W.heap.size)) true 27 v1 d1 p1 :=
    fun W' hn => Below.trod Try.laidOut (by kernel_rfl) (of_decide_eq_true (by kernel_rfl)) h1 hn (fun y hy => by simpa using hW'.lt y (by simp [hy]))
  have harg2 : ∀ W' : World, Below W.heap.size W W' → DataW.Trod enc Try.prog W' 0 (fun b => decide (b < W.heap.size)) true 3 v2 d2 p2 :=
    fun W' hn => Below.trod Try.laidOut (by kernel_rfl) (of_decide_eq_true (by kernel_rfl)) h2 hn (fun y hy => by simpa using hW'.lt y (by simp [hy]))
  obtain ⟨a, b, c, d, p, q, rfl⟩ := open_ru (hval 0 25 v0 rfl rfl) h0
  obtain ⟨n, r, x, g, wd, l, rfl⟩ := open_fl (hval 1 27 v1 rfl rfl) h1
  obtain ⟨k, rfl, _, _, _⟩ := open_int Try.underlying3 (hval 2 3 v2 rfl rfl) h2
  refine (stairChecks_any a b c d p q n r x g wd l k W).mono fun e W' ⟨he, hn⟩ => ?_
  subst he
  exact ⟨_, rfl, _, _, _, [], _, [], hW', trodAll_mk1 (shut_bool Try.underlying4 _), trodAll_mk3 (harg0 _ hn) (harg1 _ hn) (harg2 _ hn), (List.append_nil _).symm, hn.frame _, fun h => by cases h⟩

theorem stairChecks_holds : Rows.StairChecksSaid :=
  OpenClaim.holds_of_wide 3 Try.f3 rfl rfl rfl rfl rfl rfl rfl ⟨rfl, rfl, rfl, rfl, rfl⟩ rfl rfl rfl rfl rfl (by kernel_rfl) Try.func3 (by kernel_rfl)
    (of_decide_eq_true (by kernel_rfl)) (by unfold Func.isWrapper; first | (rw [if_pos (by decide +kernel)]; kernel_rfl) | (rw [if_neg (by decide +kernel)]; exact ⟨rfl, rfl⟩))
    (fun os started H enc _ => stairChecks_lifted os started H enc)
end Go.Proofs.Ytoenojnfhiimpaa
