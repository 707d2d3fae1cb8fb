/- The law PlaneHulls: it answers true, whatever the half-space and the box; and the claim. -/
import Derived.Test.YtoeniaafcnnnoaaAwp
import Derived.Test.YtoeniaafcnnnoaaLif
import Derived.Test.YtoeniaafcnnnoaaRhu
namespace Go.Proofs.Ytoeniaafcnnnoaa
open Go.ChangeShapes Go.WideShapes Go.ChangeAt Go.RowKit

set_option maxHeartbeats 8000000 in
set_option maxRecDepth 100000 in
theorem planeHulls_any (a b c d x y z p q r : Int) (w : World) :
    Calls Try.prog 7 #[.agg #[.int .i64 a, .int .i64 b, .int .i64 c, .int .i64 d], .agg #[.int .i64 x, .int .i64 y, .int .i64 z, .int .i64 p, .int .i64 q, .int .i64 r]] w fun r w' => r = .returned (.bool true) ∧ Below w.heap.size w w' := by
  have h5 := valid_any a b c d x y z p q r
  have e0 : ∀ w, Sem.run Try.prog (binOp .eql 42 (.agg #[.int .i64 0, .int .i64 0, .int .i64 0, .int .i64 0, .int .i64 0, .int .i64 0]) (.agg #[.int .i64 0, .int .i64 0, .int .i64 0, .int .i64 0, .int .i64 0, .int .i64 0])) w = .ok (.bool true) w := fun w => eqB 0 0 0 0 0 0 0 0 0 0 0 0 w
  by_cases hk : eHB a b c d x y z p q r = 0
  · by_cases hs : slk a b c d x y z p q r < 0
    · have h3 := Hull_none a b c d x y z p q r hk hs
      have h6 := rHull_in a b c d x y z p q r hk 0 0 0 0 0 0 false (fun _ => ⟨⟨rfl, rfl, rfl, rfl, rfl, rfl⟩, rfl⟩) (fun h => absurd hs (by omega))
      rw [hk] at h5
      clear hk hs
      go_enter Try.func7, Try.ntmps7
      go_wp2_with (first
      | (go_at_call 17; refine (awake_any _).mono ?_; rintro e w1 ⟨rfl, hb1⟩; obtain ⟨hc1, hf1⟩ := bcell hb1; have hz1 := hb1.size; (try simp at hz1); (try have y10 : w.heap.size < w1.heap.size := (by omega)); (try have y10p : w.heap.size < w1.heap.size + 1 := (by omega)); (try have y11 : w.heap.size + 1 < w1.heap.size := (by omega)); (try have y11p : w.heap.size + 1 < w1.heap.size + 1 := (by omega)); (try have y12 : w.heap.size + 1 + 1 < w1.heap.size := (by omega)); (try have y12p : w.heap.size + 1 + 1 < w1.heap.size + 1 := (by omega)); (try have v0x1 : w0.heap.size < w1.heap.size := (by omega)); (try have v0x1p : w0.heap.size < w1.heap.size + 1 := (by omega)))
      | (go_at_call 33; refine (h3 _).mono ?_; rintro e w2 ⟨rfl, hb2⟩; obtain ⟨hc2, hf2⟩ := bcell hb2; have hz2 := hb2.size; (try simp at hz2); (try have y20 : w.heap.size < w2.heap.size := (by omega)); (try have y20p : w.heap.size < w2.heap.size + 1 := (by omega)); (try have y21 : w.heap.size + 1 < w2.heap.size := (by omega)); (try have y21p : w.heap.size + 1 < w2.heap.size + 1 := (by omega)); (try have y22 : w.heap.size + 1 + 1 < w2.heap.size := (by omega)); (try have y22p : w.heap.size + 1 + 1 < w2.heap.size + 1 := (by omega)); (try have v0x2 : w0.heap.size < w2.heap.size := (by omega)); (try have v0x2p : w0.heap.size < w2.heap.size + 1 := (by omega)); (try have v1x2 : w1.heap.size < w2.heap.size := (by omega)); (try have v1x2p : w1.heap.size < w2.heap.size + 1 := (by omega)))
      | (go_at_call 25; refine (h5 _).mono ?_; rintro e w3 ⟨rfl, hb3⟩; obtain ⟨hc3, hf3⟩ := bcell hb3; have hz3 := hb3.size; (try simp at hz3); (try have y30 : w.heap.size < w3.heap.size := (by omega)); (try have y30p : w.heap.size < w3.heap.size + 1 := (by omega)); (try have y31 : w.heap.size + 1 < w3.heap.size := (by omega)); (try have y31p : w.heap.size + 1 < w3.heap.size + 1 := (by omega)); (try have y32 : w.heap.size + 1 + 1 < w3.heap.size := (by omega)); (try have y32p : w.heap.size + 1 + 1 < w3.heap.size + 1 := (by omega)); (try have v0x3 : w0.heap.size < w3.heap.size := (by omega)); (try have v0x3p : w0.heap.size < w3.heap.size + 1 := (by omega)); (try have v1x3 : w1.heap.size < w3.heap.size := (by omega)); (try have v1x3p : w1.heap.size < w3.heap.size + 1 := (by omega)); (try have v2x3 : w2.heap.size < w3.heap.size := (by omega)); (try have v2x3p : w2.heap.size < w3.heap.size + 1 := (by omega)))
      | (go_at_call 34; refine (h6 _).mono ?_; rintro e w4 ⟨rfl, hb4⟩; obtain ⟨hc4, hf4⟩ := bcell hb4; have hz4 := hb4.size; (try simp at hz4); (try have y40 : w.heap.size < w4.heap.size := (by omega)); (try have y40p : w.heap.size < w4.heap.size + 1 := (by omega)); (try have y41 : w.heap.size + 1 < w4.heap.size := (by omega)); (try have y41p : w.heap.size + 1 < w4.heap.size + 1 := (by omega)); (try have y42 : w.heap.size + 1 + 1 < w4.heap.size := (by omega)); (try have y42p : w.heap.size + 1 + 1 < w4.heap.size + 1 := (by omega)); (try have v0x4 : w0.heap.size < w4.heap.size := (by omega)); (try have v0x4p : w0.heap.size < w4.heap.size + 1 := (by omega)); (try have v1x4 : w1.heap.size < w4.heap.size := (by omega)); (try have v1x4p : w1.heap.size < w4.heap.size + 1 := (by omega)); (try have v2x4 : w2.heap.size < w4.heap.size := (by omega)); (try have v2x4p : w2.heap.size < w4.heap.size + 1 := (by omega)); (try have v3x4 : w3.heap.size < w4.heap.size := (by omega)); (try have v3x4p : w3.heap.size < w4.heap.size + 1 := (by omega))))
      go_ret
      refine ⟨rfl, ?_⟩
      repeat (first | with_reducible exact Below.refl _ _ | with_reducible refine Below.setCell ?_ ?_ _ | with_reducible refine Below.alloc ?_ ?_ _ | with_reducible refine Below.drew ?_ | with_reducible refine below_drewN ?_ _ | (refine Below.trans ?_ (bmono (by assumption) ?_)))
      all_goals (first | omega | (simp <;> omega))
    · have h3 := Hull_ok a b c d x y z p q r hk (by omega)
      have h6 := rHull_in a b c d x y z p q r hk _ _ _ _ _ _ true (fun h => absurd h hs) (fun _ => ⟨⟨rfl, rfl, rfl, rfl, rfl, rfl⟩, rfl⟩)
      rw [hk] at h5
      clear hk hs
      generalize spLo a x p (slk a b c d x y z p q r) = u1 at h3 h6
      generalize spLo b y q (slk a b c d x y z p q r) = u2 at h3 h6
      generalize spLo c z r (slk a b c d x y z p q r) = u3 at h3 h6
      generalize spHi a x p (slk a b c d x y z p q r) = u4 at h3 h6
      generalize spHi b y q (slk a b c d x y z p q r) = u5 at h3 h6
      generalize spHi c z r (slk a b c d x y z p q r) = u6 at h3 h6
      have e1 : ∀ w, Sem.run Try.prog (binOp .eql 42 (.agg #[.int .i64 u1, .int .i64 u2, .int .i64 u3, .int .i64 u4, .int .i64 u5, .int .i64 u6]) (.agg #[.int .i64 u1, .int .i64 u2, .int .i64 u3, .int .i64 u4, .int .i64 u5, .int .i64 u6])) w = .ok (.bool true) w := fun w => by rw [eqB]; simp
      go_enter Try.func7, Try.ntmps7
      go_wp2_with (first
      | (go_at_call 17; refine (awake_any _).mono ?_; rintro e w1 ⟨rfl, hb1⟩; obtain ⟨hc1, hf1⟩ := bcell hb1; have hz1 := hb1.size; (try simp at hz1); (try have y10 : w.heap.size < w1.heap.size := (by omega)); (try have y10p : w.heap.size < w1.heap.size + 1 := (by omega)); (try have y11 : w.heap.size + 1 < w1.heap.size := (by omega)); (try have y11p : w.heap.size + 1 < w1.heap.size + 1 := (by omega)); (try have y12 : w.heap.size + 1 + 1 < w1.heap.size := (by omega)); (try have y12p : w.heap.size + 1 + 1 < w1.heap.size + 1 := (by omega)); (try have v0x1 : w0.heap.size < w1.heap.size := (by omega)); (try have v0x1p : w0.heap.size < w1.heap.size + 1 := (by omega)))
      | (go_at_call 33; refine (h3 _).mono ?_; rintro e w2 ⟨rfl, hb2⟩; obtain ⟨hc2, hf2⟩ := bcell hb2; have hz2 := hb2.size; (try simp at hz2); (try have y20 : w.heap.size < w2.heap.size := (by omega)); (try have y20p : w.heap.size < w2.heap.size + 1 := (by omega)); (try have y21 : w.heap.size + 1 < w2.heap.size := (by omega)); (try have y21p : w.heap.size + 1 < w2.heap.size + 1 := (by omega)); (try have y22 : w.heap.size + 1 + 1 < w2.heap.size := (by omega)); (try have y22p : w.heap.size + 1 + 1 < w2.heap.size + 1 := (by omega)); (try have v0x2 : w0.heap.size < w2.heap.size := (by omega)); (try have v0x2p : w0.heap.size < w2.heap.size + 1 := (by omega)); (try have v1x2 : w1.heap.size < w2.heap.size := (by omega)); (try have v1x2p : w1.heap.size < w2.heap.size + 1 := (by omega)))
      | (go_at_call 25; refine (h5 _).mono ?_; rintro e w3 ⟨rfl, hb3⟩; obtain ⟨hc3, hf3⟩ := bcell hb3; have hz3 := hb3.size; (try simp at hz3); (try have y30 : w.heap.size < w3.heap.size := (by omega)); (try have y30p : w.heap.size < w3.heap.size + 1 := (by omega)); (try have y31 : w.heap.size + 1 < w3.heap.size := (by omega)); (try have y31p : w.heap.size + 1 < w3.heap.size + 1 := (by omega)); (try have y32 : w.heap.size + 1 + 1 < w3.heap.size := (by omega)); (try have y32p : w.heap.size + 1 + 1 < w3.heap.size + 1 := (by omega)); (try have v0x3 : w0.heap.size < w3.heap.size := (by omega)); (try have v0x3p : w0.heap.size < w3.heap.size + 1 := (by omega)); (try have v1x3 : w1.heap.size < w3.heap.size := (by omega)); (try have v1x3p : w1.heap.size < w3.heap.size + 1 := (by omega)); (try have v2x3 : w2.heap.size < w3.heap.size := (by omega)); (try have v2x3p : w2.heap.size < w3.heap.size + 1 := (by omega)))
      | (go_at_call 34; refine (h6 _).mono ?_; rintro e w4 ⟨rfl, hb4⟩; obtain ⟨hc4, hf4⟩ := bcell hb4; have hz4 := hb4.size; (try simp at hz4); (try have y40 : w.heap.size < w4.heap.size := (by omega)); (try have y40p : w.heap.size < w4.heap.size + 1 := (by omega)); (try have y41 : w.heap.size + 1 < w4.heap.size := (by omega)); (try have y41p : w.heap.size + 1 < w4.heap.size + 1 := (by omega)); (try have y42 : w.heap.size + 1 + 1 < w4.heap.size := (by omega)); (try have y42p : w.heap.size + 1 + 1 < w4.heap.size + 1 := (by omega)); (try have v0x4 : w0.heap.size < w4.heap.size := (by omega)); (try have v0x4p : w0.heap.size < w4.heap.size + 1 := (by omega)); (try have v1x4 : w1.heap.size < w4.heap.size := (by omega)); (try have v1x4p : w1.heap.size < w4.heap.size + 1 := (by omega)); (try have v2x4 : w2.heap.size < w4.heap.size := (by omega)); (try have v2x4p : w2.heap.size < w4.heap.size + 1 := (by omega)); (try have v3x4 : w3.heap.size < w4.heap.size := (by omega)); (try have v3x4p : w3.heap.size < w4.heap.size + 1 := (by omega))))
      go_ret
      refine ⟨rfl, ?_⟩
      repeat (first | with_reducible exact Below.refl _ _ | with_reducible refine Below.setCell ?_ ?_ _ | with_reducible refine Below.alloc ?_ ?_ _ | with_reducible refine Below.drew ?_ | with_reducible refine below_drewN ?_ _ | (refine Below.trans ?_ (bmono (by assumption) ?_)))
      all_goals (first | omega | (simp <;> omega))
  · have h3 := Hull_bad a b c d x y z p q r hk
    generalize eHB a b c d x y z p q r = k at h3 h5 hk
    obtain ⟨t1, t2⟩ := ne_tests hk
    clear hk
    go_enter Try.func7, Try.ntmps7
    go_wp2_with (first
      | (go_at_call 17; refine (awake_any _).mono ?_; rintro e w1 ⟨rfl, hb1⟩; obtain ⟨hc1, hf1⟩ := bcell hb1; have hz1 := hb1.size; (try simp at hz1); (try have y10 : w.heap.size < w1.heap.size := (by omega)); (try have y10p : w.heap.size < w1.heap.size + 1 := (by omega)); (try have y11 : w.heap.size + 1 < w1.heap.size := (by omega)); (try have y11p : w.heap.size + 1 < w1.heap.size + 1 := (by omega)); (try have y12 : w.heap.size + 1 + 1 < w1.heap.size := (by omega)); (try have y12p : w.heap.size + 1 + 1 < w1.heap.size + 1 := (by omega)); (try have v0x1 : w0.heap.size < w1.heap.size := (by omega)); (try have v0x1p : w0.heap.size < w1.heap.size + 1 := (by omega)))
      | (go_at_call 33; refine (h3 _).mono ?_; rintro e w2 ⟨rfl, hb2⟩; obtain ⟨hc2, hf2⟩ := bcell hb2; have hz2 := hb2.size; (try simp at hz2); (try have y20 : w.heap.size < w2.heap.size := (by omega)); (try have y20p : w.heap.size < w2.heap.size + 1 := (by omega)); (try have y21 : w.heap.size + 1 < w2.heap.size := (by omega)); (try have y21p : w.heap.size + 1 < w2.heap.size + 1 := (by omega)); (try have y22 : w.heap.size + 1 + 1 < w2.heap.size := (by omega)); (try have y22p : w.heap.size + 1 + 1 < w2.heap.size + 1 := (by omega)); (try have v0x2 : w0.heap.size < w2.heap.size := (by omega)); (try have v0x2p : w0.heap.size < w2.heap.size + 1 := (by omega)); (try have v1x2 : w1.heap.size < w2.heap.size := (by omega)); (try have v1x2p : w1.heap.size < w2.heap.size + 1 := (by omega)))
      | (go_at_call 25; refine (h5 _).mono ?_; rintro e w3 ⟨rfl, hb3⟩; obtain ⟨hc3, hf3⟩ := bcell hb3; have hz3 := hb3.size; (try simp at hz3); (try have y30 : w.heap.size < w3.heap.size := (by omega)); (try have y30p : w.heap.size < w3.heap.size + 1 := (by omega)); (try have y31 : w.heap.size + 1 < w3.heap.size := (by omega)); (try have y31p : w.heap.size + 1 < w3.heap.size + 1 := (by omega)); (try have y32 : w.heap.size + 1 + 1 < w3.heap.size := (by omega)); (try have y32p : w.heap.size + 1 + 1 < w3.heap.size + 1 := (by omega)); (try have v0x3 : w0.heap.size < w3.heap.size := (by omega)); (try have v0x3p : w0.heap.size < w3.heap.size + 1 := (by omega)); (try have v1x3 : w1.heap.size < w3.heap.size := (by omega)); (try have v1x3p : w1.heap.size < w3.heap.size + 1 := (by omega)); (try have v2x3 : w2.heap.size < w3.heap.size := (by omega)); (try have v2x3p : w2.heap.size < w3.heap.size + 1 := (by omega))))
    go_ret
    refine ⟨rfl, ?_⟩
    repeat (first | with_reducible exact Below.refl _ _ | with_reducible refine Below.setCell ?_ ?_ _ | with_reducible refine Below.alloc ?_ ?_ _ | with_reducible refine Below.drew ?_ | with_reducible refine below_drewN ?_ _ | (refine Below.trans ?_ (bmono (by assumption) ?_)))
    all_goals (first | omega | (simp <;> omega))

set_option maxHeartbeats 800000 in
set_option maxRecDepth 100000 in
theorem planeHulls_lifted (os : Os) (started : os.Started) (H : Type) (enc : TypeId × Value → H) :
    ReturnsInHanded {} Try.checked os 7 .any (Rows.planeHullsSpec.pre6 enc Try.prog Try.f7 Rows.planeHullsRow.domain false) (Rows.planeHullsSpec.post enc Try.prog Try.f7 false true false false) := by
  refine returnsInHanded_of_change (C := Try.checked) Try.own started (by kernel_rfl) Try.func7
    (ChangeSpec.witness6 (enc := enc) (C := Try.checked) false ⟨#[], #[.agg #[.int .i64 0, .int .i64 0, .int .i64 0, .int .i64 0], .agg #[.int .i64 0, .int .i64 0, .int .i64 0, .int .i64 0, .int .i64 0, .int .i64 0]], []⟩ 8 (by kernel_rfl) (by kernel_rfl) (by kernel_rfl) (by kernel_rfl)) ?_
  intro W base args ds gs before hval0 hW _ _
  have hval : ∀ (j : Nat) t v, Try.f7.params[j]? = some t → args[j]? = some v → Value.okWide Try.prog W .any base t v := hval0
  have hW' := hW
  obtain ⟨p, q, hA0, hV, rfl, _, _⟩ := hW
  have hA : DataW.TrodAll enc Try.prog W 0 (fun _ => true) true Try.f7.params.toList args.toList ds p := hA0
  rw [Try.params7] at hA hval
  obtain ⟨v0, v1, d0, d1, p0, p1, rfl, rfl, rfl, h0, h1⟩ := trodAll_two hA
  obtain ⟨rfl, rfl⟩ := trodVars_none hV
  clear hA0 hval0
  simp only [List.append_nil] at hW'
  have harg0 : ∀ W' : World, Below W.heap.size W W' → DataW.Trod enc Try.prog W' 0 (fun b => decide (b < W.heap.size)) true 32 v0 d0 p0 :=
    fun W' hn => Below.trod Try.laidOut (by kernel_rfl) (of_decide_eq_true (by kernel_rfl)) h0 hn (fun y hy => by simpa using hW'.lt y (by simp [hy]))
  have harg1 : ∀ W' : World, Below W.heap.size W W' → DataW.Trod enc Try.prog W' 0 (fun b => decide (b < W.heap.size)) true 42 v1 d1 p1 :=
    fun W' hn => Below.trod Try.laidOut (by kernel_rfl) (of_decide_eq_true (by kernel_rfl)) h1 hn (fun y hy => by simpa using hW'.lt y (by simp [hy]))
  obtain ⟨a, b, c, d, rfl⟩ := open_half (hval 0 32 v0 rfl rfl) h0
  obtain ⟨x, y, z, p, q, r, rfl⟩ := open_box (hval 1 42 v1 rfl rfl) h1
  refine (planeHulls_any a b c d x y z p q r W).mono fun e W' ⟨he, hn⟩ => ?_
  subst he
  exact ⟨_, rfl, _, _, _, [], _, [], hW', trodAll_mk1 (shut_bool Try.underlying4 _), trodAll_mk2 (harg0 _ hn) (harg1 _ hn), (List.append_nil _).symm, hn.frame _, fun h => by cases h⟩

theorem planeHulls_holds : Rows.PlaneHullsSaid :=
  OpenClaim.holds_of_wide 7 Try.f7 rfl rfl rfl rfl rfl rfl rfl ⟨rfl, rfl, rfl, rfl, rfl⟩ rfl rfl rfl rfl rfl (by kernel_rfl) Try.func7 (by kernel_rfl)
    (of_decide_eq_true (by kernel_rfl)) (by unfold Func.isWrapper; first | (rw [if_pos (by decide +kernel)]; kernel_rfl) | (rw [if_neg (by decide +kernel)]; exact ⟨rfl, rfl⟩))
    (fun os started H enc _ => planeHulls_lifted os started H enc)
end Go.Proofs.Ytoeniaafcnnnoaa
