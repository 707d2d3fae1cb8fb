/- The law StairStones holds: for every flight and every tolerance the call answers true and leaves its arguments as they were. -/
import Derived.Test.YtoenojnfhiimpaaLif
import Derived.Test.YtoenojnfhiimpaaWst
import Derived.Test.YtoenojnfhiimpaaSto2
import Derived.Test.YtoenojnfhiimpaaMea
import Derived.Test.YtoenojnfhiimpaaHg2
namespace Go.Proofs.Ytoenojnfhiimpaa
open Go.ChangeShapes Go.WideShapes Go.ChangeAt Go.RowKit Go.Deep

theorem stairStones_any (N r x g wd l t : Int) (w : World) : Calls Try.prog 5 #[.agg #[.int .i64 N, .int .i64 r, .int .i64 x, .int .i64 g, .int .i64 wd, .int .i64 l], .int .i64 t] w fun e w' => e = .returned (.bool true) ∧ Below w.heap.size w w' := by
  have hsp := spread_any N r x g wd l t
  have hv := valid_any N r x g wd l
  unfold sprV at hsp
  cases hb : vldB N r x g wd l
  · rw [hb] at hv
    rw [if_neg (by simp [hb])] at hsp
    have hcf := checkFlight_any N r x g wd l
    rw [flE_bad (by simp [hb])] at hcf
    exact wst_bad N r x g wd l t (stones_bad N r x g wd l hcf) hsp hv w
  · rw [hb] at hv
    rw [if_pos hb] at hsp
    have hbb := vldB_iff.1 hb
    obtain ⟨n, hn⟩ : ∃ n : Nat, N = n := ⟨N.toNat, by omega⟩
    subst hn
    have hs1 : ∀ w, Calls Try.prog 22 #[.agg #[.int .i64 n, .int .i64 r, .int .i64 x, .int .i64 g, .int .i64 wd, .int .i64 l]] w fun e w' => ∃ (k c : Nat) (cur : Array Value), e = .returned (.tuple #[.slice (some ⟨k, 0, none⟩) n c, .int .i64 0]) ∧ w.heap.size ≤ k ∧ Blk w' k 66 cur ∧ cur.toList.take (n * 6) = rowTo (stn r x g wd l) n ∧ Below w.heap.size w w' := fun w => by
      refine (stones_ok n r x g wd l hb w).mono ?_
      rintro e w' ⟨A, c, rfl, ho, hbl⟩
      obtain ⟨k, cur, rfl, h1, h2, h3⟩ := own_blk (by omega) ho
      exact ⟨k, c, cur, rfl, h1, h2, h3, hbl⟩
    have hs2 : ∀ w, Calls Try.prog 25 #[.agg #[.int .i64 n, .int .i64 r, .int .i64 x, .int .i64 g, .int .i64 wd, .int .i64 l]] w fun e w' => ∃ (k c : Nat) (cur : Array Value), e = .returned (.slice (some ⟨k, 0, none⟩) n c) ∧ w.heap.size ≤ k ∧ Blk w' k 66 cur ∧ cur.toList.take (n * 6) = rowTo (stn r x g wd l) n ∧ Below w.heap.size w w' := fun w => by
      refine (rstones_ok n r x g wd l hb w).mono ?_
      rintro e w' ⟨A, c, rfl, ho, hbl⟩
      obtain ⟨k, cur, rfl, h1, h2, h3⟩ := own_blk (by omega) ho
      exact ⟨k, c, cur, rfl, h1, h2, h3, hbl⟩
    by_cases h1 : t < 0
    · rw [if_neg (by rw [inB_iff]; omega)] at hsp
      exact wst_neg n n r x g wd l t hs1 hs2 (by omega) hsp hv (by simpa using h1) w
    · by_cases h2 : 1000 < t
      · rw [if_neg (by rw [inB_iff]; omega)] at hsp
        exact wst_far n n r x g wd l t hs1 hs2 (by omega) hsp hv (by simpa using h1) (by simpa using h2) w
      · rw [if_pos (by rw [inB_iff]; omega)] at hsp
        have hrs := rspread_all n r x g wd l t hb (by omega) (by omega)
        exact wst_in n n r x g wd l t _ _ hs1 hs2 (by omega) hsp hv (by simpa using h1) (by simpa using h2) hrs (fun w => by rw [eqI]; simp) w

set_option maxHeartbeats 800000 in
set_option maxRecDepth 100000 in
theorem stairStones_lifted (os : Os) (started : os.Started) (H : Type) (enc : TypeId × Value → H) :
    ReturnsInHanded {} Try.checked os 5 .any (Rows.stairStonesSpec.pre6 enc Try.prog Try.f5 Rows.stairStonesRow.domain false) (Rows.stairStonesSpec.post enc Try.prog Try.f5 false true false false) := by
  refine returnsInHanded_of_change (C := Try.checked) Try.own started (by kernel_rfl) Try.func5
    (ChangeSpec.witness6 (enc := enc) (C := Try.checked) false ⟨#[], #[.agg #[.int .i64 0, .int .i64 0, .int .i64 0, .int .i64 0, .int .i64 0, .int .i64 0], .int .i64 0], []⟩ 8 (by kernel_rfl) (by kernel_rfl) (by kernel_rfl) (by kernel_rfl)) ?_
  intro W base args ds gs before hval0 hW _ _
  have hval : ∀ (j : Nat) t v, Try.f5.params[j]? = some t → args[j]? = some v → Value.okWide Try.prog W .any base t v := hval0
  have hW' := hW
  obtain ⟨p, q, hA0, hV, rfl, _, _⟩ := hW
  have hA : DataW.TrodAll enc Try.prog W 0 (fun _ => true) true Try.f5.params.toList args.toList ds p := hA0
  rw [Try.params5] at hA hval
  obtain ⟨v0, v1, d0, d1, p0, p1, rfl, rfl, rfl, h0, h1⟩ := trodAll_two hA
  obtain ⟨rfl, rfl⟩ := trodVars_none hV
  clear hA0 hval0
  simp only [List.append_nil] at hW'
  have harg0 : ∀ W' : World, Below W.heap.size W W' → DataW.Trod enc Try.prog W' 0 (fun b => decide (b < W.heap.size)) true 27 v0 d0 p0 :=
    fun W' hn => Below.trod Try.laidOut (by kernel_rfl) (of_decide_eq_true (by kernel_rfl)) h0 hn (fun y hy => by simpa using hW'.lt y (by simp [hy]))
  have harg1 : ∀ W' : World, Below W.heap.size W W' → DataW.Trod enc Try.prog W' 0 (fun b => decide (b < W.heap.size)) true 3 v1 d1 p1 :=
    fun W' hn => Below.trod Try.laidOut (by kernel_rfl) (of_decide_eq_true (by kernel_rfl)) h1 hn (fun y hy => by simpa using hW'.lt y (by simp [hy]))
  obtain ⟨n, r, x, g, wd, l, rfl⟩ := open_fl (hval 0 27 v0 rfl rfl) h0
  obtain ⟨t, rfl, _, _, _⟩ := open_int Try.underlying3 (hval 1 3 v1 rfl rfl) h1
  refine (stairStones_any n r x g wd l t W).mono fun e W' ⟨he, hn⟩ => ?_
  subst he
  exact ⟨_, rfl, _, _, _, [], _, [], hW', trodAll_mk1 (shut_bool Try.underlying4 _), trodAll_mk2 (harg0 _ hn) (harg1 _ hn), (List.append_nil _).symm, hn.frame _, fun h => by cases h⟩

theorem stairStones_holds : Rows.StairStonesSaid :=
  OpenClaim.holds_of_wide 5 Try.f5 rfl rfl rfl rfl rfl rfl rfl ⟨rfl, rfl, rfl, rfl, rfl⟩ rfl rfl rfl rfl rfl (by kernel_rfl) Try.func5 (by kernel_rfl)
    (of_decide_eq_true (by kernel_rfl)) (by unfold Func.isWrapper; first | (rw [if_pos (by decide +kernel)]; kernel_rfl) | (rw [if_neg (by decide +kernel)]; exact ⟨rfl, rfl⟩))
    (fun os started H enc _ => stairStones_lifted os started H enc)
end Go.Proofs.Ytoenojnfhiimpaa
