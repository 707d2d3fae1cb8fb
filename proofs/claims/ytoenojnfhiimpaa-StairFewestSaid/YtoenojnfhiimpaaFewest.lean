/- The law StairFewest holds: for every rule, all measures and every other flight the call answers true and leaves its arguments as they were. -/
import Derived.Test.YtoenojnfhiimpaaLif
import Derived.Test.YtoenojnfhiimpaaFwa
import Derived.Test.YtoenojnfhiimpaaFwb
import Derived.Test.YtoenojnfhiimpaaFwc
import Derived.Test.YtoenojnfhiimpaaFwd
import Derived.Test.YtoenojnfhiimpaaMea
import Derived.Test.YtoenojnfhiimpaaPlans
import Derived.Test.YtoenojnfhiimpaaRpm
namespace Go.Proofs.Ytoenojnfhiimpaa
open Go.ChangeShapes Go.WideShapes Go.ChangeAt Go.RowKit Go.Deep

theorem plnV_spec (a b c d p q H L wd l : Int) : ∀ f k : Nat, (plnV a b c d p q H L wd l f k = .tuple #[.agg #[.int .i64 0, .int .i64 0, .int .i64 0, .int .i64 0, .int .i64 0, .int .i64 0], .int .i64 9] ∧ ∀ j : Nat, k ≤ j → j < k + f → plOk a b c d p q j (H / j) (H % j) wd l L = false) ∨
    ∃ j : Nat, k ≤ j ∧ j < k + f ∧ plOk a b c d p q j (H / j) (H % j) wd l L = true ∧ plnV a b c d p q H L wd l f k = .tuple #[.agg #[.int .i64 (j : Int), .int .i64 (H / j), .int .i64 (H % j), .int .i64 (plG d q j (H / j) (H % j) L), .int .i64 wd, .int .i64 l], .int .i64 0] ∧
      ∀ i : Nat, k ≤ i → i < j → plOk a b c d p q i (H / i) (H % i) wd l L = false
  | 0, k => .inl ⟨rfl, fun j h1 h2 => absurd h2 (by omega)⟩
  | f + 1, k => by
    unfold plnV
    cases hk : plOk a b c d p q k (H / k) (H % k) wd l L
    · rw [if_neg (by simp)]
      rcases plnV_spec a b c d p q H L wd l f (k + 1) with ⟨h1, h2⟩ | ⟨j, h1, h2, h3, h4, h5⟩
      · refine .inl ⟨h1, fun j hj1 hj2 => ?_⟩
        rcases Nat.lt_or_ge k j with h | h
        · exact h2 j h (by omega)
        · obtain rfl : j = k := by omega
          exact hk
      · refine .inr ⟨j, by omega, by omega, h3, h4, fun i hi1 hi2 => ?_⟩
        rcases Nat.lt_or_ge k i with h | h
        · exact h5 i h hi2
        · obtain rfl : i = k := by omega
          exact hk
    · rw [if_pos rfl]
      exact .inr ⟨k, Nat.le_refl _, by omega, hk, rfl, fun i h1 h2 => absurd h2 (by omega)⟩
theorem fitE_zero {a b c d p q n r x g wd l : Int} (h : fitE a b c d p q n r x g wd l = 0) : chkE a b c d p q = 0 ∧ okG a b c d p q n r x wd l g := by
  unfold fitE at h
  by_cases hc : chkE a b c d p q = 0
  · rw [if_pos hc] at h
    by_cases hf : flE n r x g wd l = 0
    · rw [if_pos hf] at h; exact ⟨hc, flE_ok.1 hf, h⟩
    · rw [if_neg hf] at h; exact absurd h hf
  · rw [if_neg hc] at h; exact absurd h hc
theorem lvl_all {n r x : Int} (h0 : 0 ≤ x) (h1 : x < n) : lvl r x n.toNat = n * r + x := by
  rw [lvl_eq h0, show ((n.toNat : Nat) : Int) = n by omega, if_neg (by omega)]
theorem few_best {a b c d p q m s y u wd l H L : Int} (hf : fitE a b c d p q m s y u wd l = 0) (hh : lvl s y m.toNat = H) (hl : m * u ≤ L) :
    s = H / m ∧ y = H % m ∧ plOk a b c d p q m (H / m) (H % m) wd l L = true ∧ u ≤ plG d q m (H / m) (H % m) L := by
  obtain ⟨hc, hok⟩ := fitE_zero hf
  have hv := vldB_iff.1 hok.1
  have hz := keepE_zero hok.2
  have hcb := chkE_bd hc
  rw [lvl_all (by omega) (by omega)] at hh
  obtain ⟨e1, e2⟩ := (Int.ediv_emod_unique (a := H) (b := m) (r := y) (q := s) (by omega)).2 ⟨by omega, by omega, by omega⟩
  have hu : u ≤ L / m := Int.le_ediv_of_mul_le (by omega) (by rw [Int.mul_comm]; exact hl)
  rw [e1, e2]
  have hm := mn3_le (L / m) d (q - 2 * rsI s y 0)
  have hG : plG d q m s y L = mn3 (L / m) d (q - 2 * rsI s y 0) := rfl
  have hug : u ≤ plG d q m s y L := by
    rw [hG]; rcases hm.2.2 with e | e
    · rw [e]; split <;> omega
    · rw [e]; omega
  refine ⟨rfl, rfl, (plOk_iff hc).2 (okG_more hok hug ?_ (by omega) (by rw [hG]; exact hm.2.1)), hug⟩
  rw [hG]; have := hm.1; split at this <;> omega
theorem few_flight {a b c d p q H L wd l : Int} {j : Nat} (hj : 1 ≤ j) (h : plOk a b c d p q j (H / j) (H % j) wd l L = true) :
    fitE a b c d p q j (H / j) (H % j) (plG d q j (H / j) (H % j) L) wd l = 0 ∧ hgtV j (H / j) (H % j) (plG d q j (H / j) (H % j) L) wd l = .tuple #[.int .i64 H, .int .i64 ((j : Int) * plG d q j (H / j) (H % j) L), .int .i64 0] ∧ (j : Int) * plG d q j (H / j) (H % j) L ≤ L := by
  have hf : fitE a b c d p q j (H / j) (H % j) (plG d q j (H / j) (H % j) L) wd l = 0 := by simpa [plOk] using h
  obtain ⟨hc, hok⟩ := fitE_zero hf
  have hm1 : 0 ≤ H % (j : Int) := Int.emod_nonneg _ (by omega)
  have hm2 : H % (j : Int) < (j : Int) := Int.emod_lt_of_pos _ (by omega)
  refine ⟨hf, ?_, ?_⟩
  · unfold hgtV
    rw [if_pos hok.1, lvl_all hm1 hm2, Int.mul_ediv_add_emod]
  · have hm := (mn3_le (L / (j : Int)) d (q - 2 * rsI (H / (j : Int)) (H % (j : Int)) 0)).1
    have hG : plG d q j (H / j) (H % j) L ≤ L / (j : Int) := Int.le_trans hm (by split <;> omega)
    exact Int.le_trans (Int.mul_le_mul_of_nonneg_left hG (by omega)) (Int.mul_ediv_self_le (by omega))
set_option maxHeartbeats 4000000 in
set_option maxRecDepth 100000 in
theorem stairFewest_any (a b c d p q H L W0 l0 m s y u v z : Int) (w : World) : Calls Try.prog 7 #[.agg #[.int .i64 a, .int .i64 b, .int .i64 c, .int .i64 d, .int .i64 p, .int .i64 q], .int .i64 H, .int .i64 L, .int .i64 W0, .int .i64 l0, .agg #[.int .i64 m, .int .i64 s, .int .i64 y, .int .i64 u, .int .i64 v, .int .i64 z]] w fun e w' => e = .returned (.bool true) ∧ Below w.heap.size w w' := by
  have hp := plan_any a b c d p q H L W0 l0
  have hh2 := height_any m s y u v z
  have hf2 := fits_any a b c d p q m s y u v z
  unfold planV at hp
  unfold agF at hp
  by_cases hc : chkE a b c d p q = 0
  · rw [if_pos hc] at hp
    by_cases hb : plnB H L W0 l0 = true
    · rw [if_pos hb] at hp
      have hbb := plnB_iff.1 hb
      rcases plnV_spec a b c d p q H L W0 l0 64 1 with ⟨e, hn⟩ | ⟨j, j1, j2, j3, e, hn⟩
      · rw [e] at hp
        unfold hgtV at hh2
        by_cases hv : vldB m s y u v z = true
        · rw [if_pos hv] at hh2
          have hvv := vldB_iff.1 hv
          by_cases x1 : lvl s y m.toNat = H
          · by_cases x2 : L < m * u
            · exact few_zc a b c d p q H L W0 l0 m s y u v z _ _ hp hh2 (by simp <;> omega) (by simp <;> omega) w
            · by_cases x3 : v = W0
              · by_cases x4 : z = l0
                · by_cases x5 : fitE a b c d p q m s y u v z = 0
                  · rw [x3, x4] at x5
                    have hB := few_best (L := L) x5 x1 (by omega)
                    have := hn m.toNat (by omega) (by omega)
                    rw [show ((m.toNat : Nat) : Int) = m by omega, hB.2.2.1] at this
                    cases this
                  · exact few_zf a b c d p q H L W0 l0 m s y u v z _ _ _ hp hh2 hf2 (by simp <;> omega) (by simp <;> omega) (by simp <;> omega) (by simp <;> omega) (by simpa using x5) w
                · exact few_ze a b c d p q H L W0 l0 m s y u v z _ _ hp hh2 (by simp <;> omega) (by simp <;> omega) (by simp <;> omega) (by simp <;> omega) w
              · exact few_zd a b c d p q H L W0 l0 m s y u v z _ _ hp hh2 (by simp <;> omega) (by simp <;> omega) (by simp <;> omega) w
          · exact few_zb a b c d p q H L W0 l0 m s y u v z _ _ hp hh2 (by simp <;> omega) w
        · rw [if_neg hv] at hh2
          exact few_za a b c d p q H L W0 l0 m s y u v z hp hh2 w
      · rw [e] at hp
        obtain ⟨f1, f2, f3⟩ := few_flight j1 j3
        have hh1 := height_any j (H / j) (H % j) (plG d q j (H / j) (H % j) L) W0 l0
        have hf1 := fits_any a b c d p q j (H / j) (H % j) (plG d q j (H / j) (H % j) L) W0 l0
        rw [f1] at hf1
        rw [f2] at hh1
        unfold hgtV at hh2
        by_cases hv : vldB m s y u v z = true
        · rw [if_pos hv] at hh2
          have hvv := vldB_iff.1 hv
          by_cases x1 : lvl s y m.toNat = H
          · by_cases x2 : L < m * u
            · exact few_oc a b c d p q H L W0 l0 m s y u v z _ _ _ _ _ _ _ hp hh1 hf1 hh2 (by simp <;> omega) (by simp <;> omega) (by simp <;> omega) w
            · by_cases x3 : v = W0
              · by_cases x4 : z = l0
                · by_cases x5 : fitE a b c d p q m s y u v z = 0
                  · rw [x5] at hf2
                    rw [x3, x4] at x5
                    have hB := few_best (L := L) x5 x1 (by omega)
                    rcases Nat.lt_trichotomy m.toNat j with h1 | h1 | h1
                    · have := hn m.toNat (by omega) h1
                      rw [show ((m.toNat : Nat) : Int) = m by omega, hB.2.2.1] at this
                      cases this
                    · have hmj : m = (j : Int) := by omega
                      have hB4 := hB.2.2.2
                      rw [hmj] at hB4
                      exact few_oh a b c d p q H L W0 l0 m s y u v z _ _ _ _ _ _ _ hp hh1 hf1 hh2 hf2 (by simp <;> omega) (by simp <;> omega) (by simp <;> omega) (by simp <;> omega) (by simp <;> omega) (by simp <;> omega) (by simp <;> omega) (by simp <;> omega) w
                    · exact few_og a b c d p q H L W0 l0 m s y u v z _ _ _ _ _ _ _ hp hh1 hf1 hh2 hf2 (by simp <;> omega) (by simp <;> omega) (by simp <;> omega) (by simp <;> omega) (by simp <;> omega) (by simp <;> omega) w
                  · exact few_of a b c d p q H L W0 l0 m s y u v z _ _ _ _ _ _ _ _ hp hh1 hf1 hh2 hf2 (by simp <;> omega) (by simp <;> omega) (by simp <;> omega) (by simp <;> omega) (by simp <;> omega) (by simpa using x5) w
                · exact few_oe a b c d p q H L W0 l0 m s y u v z _ _ _ _ _ _ _ hp hh1 hf1 hh2 (by simp <;> omega) (by simp <;> omega) (by simp <;> omega) (by simp <;> omega) (by simp <;> omega) w
              · exact few_od a b c d p q H L W0 l0 m s y u v z _ _ _ _ _ _ _ hp hh1 hf1 hh2 (by simp <;> omega) (by simp <;> omega) (by simp <;> omega) (by simp <;> omega) w
          · exact few_ob a b c d p q H L W0 l0 m s y u v z _ _ _ _ _ _ _ hp hh1 hf1 hh2 (by simp <;> omega) (by simp <;> omega) w
        · rw [if_neg hv] at hh2
          exact few_oa a b c d p q H L W0 l0 m s y u v z _ _ _ _ _ hp hh1 hf1 hh2 (by simp <;> omega) w
    · rw [if_neg hb] at hp
      exact few_e a b c d p q H L W0 l0 m s y u v z _ hp (by simp <;> omega) (by simp <;> omega) w
  · rw [if_neg hc] at hp
    have h9 : chkE a b c d p q ≠ 9 := by unfold chkE; split <;> (try split) <;> decide
    exact few_e a b c d p q H L W0 l0 m s y u v z _ hp (by simp <;> omega) (by simp <;> omega) w

set_option maxHeartbeats 800000 in
set_option maxRecDepth 100000 in
theorem stairFewest_lifted (os : Os) (started : os.Started) (H : Type) (enc : TypeId × Value → H) :
    ReturnsInHanded {} Try.checked os 7 .any (Rows.stairFewestSpec.pre6 enc Try.prog Try.f7 Rows.stairFewestRow.domain false) (Rows.stairFewestSpec.post enc Try.prog Try.f7 false true false false) := by
  refine returnsInHanded_of_change (C := Try.checked) Try.own started (by kernel_rfl) Try.func7
    (ChangeSpec.witness6 (enc := enc) (C := Try.checked) false ⟨#[], #[.agg #[.int .i64 0, .int .i64 0, .int .i64 0, .int .i64 0, .int .i64 0, .int .i64 0], .int .i64 0, .int .i64 0, .int .i64 0, .int .i64 0, .agg #[.int .i64 0, .int .i64 0, .int .i64 0, .int .i64 0, .int .i64 0, .int .i64 0]], []⟩ 8 (by kernel_rfl) (by kernel_rfl) (by kernel_rfl) (by kernel_rfl)) ?_
  intro W base args ds gs before hval0 hW _ _
  have hval : ∀ (j : Nat) t v, Try.f7.params[j]? = some t → args[j]? = some v → Value.okWide Try.prog W .any base t v := hval0
  have hW' := hW
  obtain ⟨p, q, hA0, hV, rfl, _, _⟩ := hW
  have hA : DataW.TrodAll enc Try.prog W 0 (fun _ => true) true Try.f7.params.toList args.toList ds p := hA0
  rw [Try.params7] at hA hval
  obtain ⟨v0, v1, v2, v3, v4, v5, d0, d1, d2, d3, d4, d5, p0, p1, p2, p3, p4, p5, rfl, rfl, rfl, h0, h1, h2, h3, h4, h5⟩ := trodAll_six hA
  obtain ⟨rfl, rfl⟩ := trodVars_none hV
  clear hA0 hval0
  simp only [List.append_nil] at hW'
  have harg0 : ∀ W' : World, Below W.heap.size W W' → DataW.Trod enc Try.prog W' 0 (fun b => decide (b < W.heap.size)) true 25 v0 d0 p0 :=
    fun W' hn => Below.trod Try.laidOut (by kernel_rfl) (of_decide_eq_true (by kernel_rfl)) h0 hn (fun y hy => by simpa using hW'.lt y (by simp [hy]))
  have harg1 : ∀ W' : World, Below W.heap.size W W' → DataW.Trod enc Try.prog W' 0 (fun b => decide (b < W.heap.size)) true 3 v1 d1 p1 :=
    fun W' hn => Below.trod Try.laidOut (by kernel_rfl) (of_decide_eq_true (by kernel_rfl)) h1 hn (fun y hy => by simpa using hW'.lt y (by simp [hy]))
  have harg2 : ∀ W' : World, Below W.heap.size W W' → DataW.Trod enc Try.prog W' 0 (fun b => decide (b < W.heap.size)) true 3 v2 d2 p2 :=
    fun W' hn => Below.trod Try.laidOut (by kernel_rfl) (of_decide_eq_true (by kernel_rfl)) h2 hn (fun y hy => by simpa using hW'.lt y (by simp [hy]))
  have harg3 : ∀ W' : World, Below W.heap.size W W' → DataW.Trod enc Try.prog W' 0 (fun b => decide (b < W.heap.size)) true 3 v3 d3 p3 :=
    fun W' hn => Below.trod Try.laidOut (by kernel_rfl) (of_decide_eq_true (by kernel_rfl)) h3 hn (fun y hy => by simpa using hW'.lt y (by simp [hy]))
  have harg4 : ∀ W' : World, Below W.heap.size W W' → DataW.Trod enc Try.prog W' 0 (fun b => decide (b < W.heap.size)) true 3 v4 d4 p4 :=
    fun W' hn => Below.trod Try.laidOut (by kernel_rfl) (of_decide_eq_true (by kernel_rfl)) h4 hn (fun y hy => by simpa using hW'.lt y (by simp [hy]))
  have harg5 : ∀ W' : World, Below W.heap.size W W' → DataW.Trod enc Try.prog W' 0 (fun b => decide (b < W.heap.size)) true 27 v5 d5 p5 :=
    fun W' hn => Below.trod Try.laidOut (by kernel_rfl) (of_decide_eq_true (by kernel_rfl)) h5 hn (fun y hy => by simpa using hW'.lt y (by simp [hy]))
  obtain ⟨a, b, c, d, p, q, rfl⟩ := open_ru (hval 0 25 v0 rfl rfl) h0
  obtain ⟨H, rfl, _, _, _⟩ := open_int Try.underlying3 (hval 1 3 v1 rfl rfl) h1
  obtain ⟨L, rfl, _, _, _⟩ := open_int Try.underlying3 (hval 2 3 v2 rfl rfl) h2
  obtain ⟨W0, rfl, _, _, _⟩ := open_int Try.underlying3 (hval 3 3 v3 rfl rfl) h3
  obtain ⟨l0, rfl, _, _, _⟩ := open_int Try.underlying3 (hval 4 3 v4 rfl rfl) h4
  obtain ⟨m, s, y, u, v, z, rfl⟩ := open_fl (hval 5 27 v5 rfl rfl) h5
  refine (stairFewest_any a b c d p q H L W0 l0 m s y u v z W).mono fun e W' ⟨he, hn⟩ => ?_
  subst he
  exact ⟨_, rfl, _, _, _, [], _, [], hW', trodAll_mk1 (shut_bool Try.underlying4 _), trodAll_mk6 (harg0 _ hn) (harg1 _ hn) (harg2 _ hn) (harg3 _ hn) (harg4 _ hn) (harg5 _ hn), (List.append_nil _).symm, hn.frame _, fun h => by cases h⟩

theorem stairFewest_holds : Rows.StairFewestSaid :=
  OpenClaim.holds_of_wide 7 Try.f7 rfl rfl rfl rfl rfl rfl rfl ⟨rfl, rfl, rfl, rfl, rfl⟩ rfl rfl rfl rfl rfl (by kernel_rfl) Try.func7 (by kernel_rfl)
    (of_decide_eq_true (by kernel_rfl)) (by unfold Func.isWrapper; first | (rw [if_pos (by decide +kernel)]; kernel_rfl) | (rw [if_neg (by decide +kernel)]; exact ⟨rfl, rfl⟩))
    (fun os started H enc _ => stairFewest_lifted os started H enc)
end Go.Proofs.Ytoenojnfhiimpaa
