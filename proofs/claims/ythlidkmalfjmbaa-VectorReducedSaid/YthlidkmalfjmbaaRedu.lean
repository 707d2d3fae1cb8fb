/- The law VectorReduced: it answers true, whatever the vector; and the claim. -/
import Derived.Test.YthlidkmalfjmbaaAwk
import Derived.Test.YthlidkmalfjmbaaPrm
import Derived.Test.YthlidkmalfjmbaaLift
namespace Go.Proofs.Ythlidkmalfjmbaa
open Go.ChangeShapes Go.WideShapes Go.ChangeAt Go.RowKit

theorem tdiv_one (x : Int) : x.tdiv ((1 : Nat) : Int) = x := by simp
set_option maxHeartbeats 4000000 in
set_option maxRecDepth 100000 in
theorem vectorReduced_any (x y z : Int) (w : World) :
    Calls Try.prog 10 #[.agg #[.int .i64 x, .int .i64 y, .int .i64 z]] w fun e w' => e = .returned (.bool true) ∧ Below w.heap.size w w' := by
  cases h : inV x y z
  · have hp := prim_bad x y z h
    have hq := eqV 0 0 0 0 0 0
    rw [show ((0 : Int) == 0 && ((0 : Int) == 0 && (0 : Int) == 0)) = true by decide] at hq
    clear h
    go_enter Try.func10, Try.ntmps10
    go_wp2_with (first
      | (go_at_call 12; refine (awake_any _).mono ?_; rintro e w0 ⟨rfl, hb0⟩; obtain ⟨hc0, hf0⟩ := bcell hb0; have hz0 := hb0.size; (try simp at hz0); (try have y00 : w.heap.size < w0.heap.size := (by omega)); (try have y00p : w.heap.size < w0.heap.size + 1 := (by omega)); (try have y01 : w.heap.size + 1 < w0.heap.size := (by omega)); (try have y01p : w.heap.size + 1 < w0.heap.size + 1 := (by omega)))
      | (go_at_call 27; refine (hp _).mono ?_; rintro e w1 ⟨rfl, hb1⟩; obtain ⟨hc1, hf1⟩ := bcell hb1; have hz1 := hb1.size; (try simp at hz1); (try have y10 : w.heap.size < w1.heap.size := (by omega)); (try have y10p : w.heap.size < w1.heap.size + 1 := (by omega)); (try have y11 : w.heap.size + 1 < w1.heap.size := (by omega)); (try have y11p : w.heap.size + 1 < w1.heap.size + 1 := (by omega)); (try have v0x1 : w0.heap.size < w1.heap.size := (by omega)); (try have v0x1p : w0.heap.size < w1.heap.size + 1 := (by omega))))
    go_ret
    refine ⟨rfl, ?_⟩
    repeat (first | exact Below.refl _ _ | refine Below.drew ?_ | refine below_drewN ?_ _ | refine Below.setCell ?_ ?_ _ | refine Below.alloc ?_ ?_ _ | (refine Below.trans ?_ (bmono (by assumption) ?_)))
    all_goals (first | omega | (simp <;> omega))
  · obtain ⟨hx, hy, hz⟩ := inV_iff.1 h
    clear h
    cases hz0 : (x == 0 && (y == 0 && z == 0))
    · have h0 := gcd3_ne hz0
      obtain ⟨d1, d2, d3⟩ := gcd3_dvd x y z
      have hp := prim_ok x y z hx hy hz h0 hz0
      have hx' : inC (-x) = true := inC_iff.2 (by have := inC_iff.1 hx; omega)
      have hy' : inC (-y) = true := inC_iff.2 (by have := inC_iff.1 hy; omega)
      have hz' : inC (-z) = true := inC_iff.2 (by have := inC_iff.1 hz; omega)
      have hn := prim_ok (-x) (-y) (-z) hx' hy' hz' (by rw [gcd3_neg]; exact h0) (by rw [Bool.eq_false_iff] at hz0 ⊢; simpa using hz0)
      rw [gcd3_neg] at hn
      simp only [Int.neg_tdiv] at hn
      have g1 := gcd3_div (x := x) (y := y) (z := z) rfl h0
      have px := tdiv_in (f := gcd3 x y z) hx
      have py := tdiv_in (f := gcd3 x y z) hy
      have pz := tdiv_in (f := gcd3 x y z) hz
      have mx := tdiv_mul d1
      have my := tdiv_mul d2
      have mz := tdiv_mul d3
      have hf : (1 : Int) ≤ (gcd3 x y z : Nat) := by omega
      generalize gcd3 x y z = f at *
      generalize x.tdiv (f : Int) = p at *
      generalize y.tdiv (f : Int) = q at *
      generalize z.tdiv (f : Int) = r at *
      have hnz : (p == 0 && (q == 0 && r == 0)) = false := by
        rw [Bool.eq_false_iff]
        intro hh
        simp only [Bool.and_eq_true, beq_iff_eq] at hh
        obtain ⟨rfl, rfl, rfl⟩ := hh
        simp at mx my mz
        subst mx; subst my; subst mz
        simp at hz0
      have hr := prim_ok p q r px py pz (by rw [g1]; decide) hnz
      rw [g1, tdiv_one, tdiv_one, tdiv_one] at hr
      have bx := inC_iff.1 hx
      have b_y := inC_iff.1 hy
      have bz := inC_iff.1 hz
      have bp := inC_iff.1 px
      have bq := inC_iff.1 py
      have br := inC_iff.1 pz
      have wx : wrap64 (f * p) = x := by rw [mx]; exact w64 (by omega)
      have wy : wrap64 (f * q) = y := by rw [my]; exact w64 (by omega)
      have wz : wrap64 (f * r) = z := by rw [mz]; exact w64 (by omega)
      have hv := eqV p q r p q r
      rw [show (p == p && (q == q && r == r)) = true by simp] at hv
      have hu := eqV (-p) (-q) (-r) (-p) (-q) (-r)
      rw [show (-p == -p && (-q == -q && -r == -r)) = true by simp] at hu
      clear hnz g1 mx my mz d1 d2 d3 hz0 h0 hx hy hz hx' hy' hz' px py pz
      generalize (f : Int) = F at *
      go_enter Try.func10, Try.ntmps10
      go_wp2_with (first
        | (go_at_call 12; refine (awake_any _).mono ?_; rintro e w0 ⟨rfl, hb0⟩; obtain ⟨hc0, hf0⟩ := bcell hb0; have hz0 := hb0.size; (try simp at hz0); (try have y00 : w.heap.size < w0.heap.size := (by omega)); (try have y00p : w.heap.size < w0.heap.size + 1 := (by omega)); (try have y01 : w.heap.size + 1 < w0.heap.size := (by omega)); (try have y01p : w.heap.size + 1 < w0.heap.size + 1 := (by omega)))
        | (revert hb2; intro hb2; go_at_call 27; refine (hn _).mono ?_; rintro e w3 ⟨rfl, hb3⟩; obtain ⟨hc3, hf3⟩ := bcell hb3; have hz3 := hb3.size; (try simp at hz3); (try have y30 : w.heap.size < w3.heap.size := (by omega)); (try have y30p : w.heap.size < w3.heap.size + 1 := (by omega)); (try have y31 : w.heap.size + 1 < w3.heap.size := (by omega)); (try have y31p : w.heap.size + 1 < w3.heap.size + 1 := (by omega)); (try have v0x3 : w0.heap.size < w3.heap.size := (by omega)); (try have v0x3p : w0.heap.size < w3.heap.size + 1 := (by omega)); (try have v1x3 : w1.heap.size < w3.heap.size := (by omega)); (try have v1x3p : w1.heap.size < w3.heap.size + 1 := (by omega)); (try have v2x3 : w2.heap.size < w3.heap.size := (by omega)); (try have v2x3p : w2.heap.size < w3.heap.size + 1 := (by omega)))
        | (revert hb1; intro hb1; go_at_call 27; refine (hr _).mono ?_; rintro e w2 ⟨rfl, hb2⟩; obtain ⟨hc2, hf2⟩ := bcell hb2; have hz2 := hb2.size; (try simp at hz2); (try have y20 : w.heap.size < w2.heap.size := (by omega)); (try have y20p : w.heap.size < w2.heap.size + 1 := (by omega)); (try have y21 : w.heap.size + 1 < w2.heap.size := (by omega)); (try have y21p : w.heap.size + 1 < w2.heap.size + 1 := (by omega)); (try have v0x2 : w0.heap.size < w2.heap.size := (by omega)); (try have v0x2p : w0.heap.size < w2.heap.size + 1 := (by omega)); (try have v1x2 : w1.heap.size < w2.heap.size := (by omega)); (try have v1x2p : w1.heap.size < w2.heap.size + 1 := (by omega)))
        | (go_at_call 27; refine (hp _).mono ?_; rintro e w1 ⟨rfl, hb1⟩; obtain ⟨hc1, hf1⟩ := bcell hb1; have hz1 := hb1.size; (try simp at hz1); (try have y10 : w.heap.size < w1.heap.size := (by omega)); (try have y10p : w.heap.size < w1.heap.size + 1 := (by omega)); (try have y11 : w.heap.size + 1 < w1.heap.size := (by omega)); (try have y11p : w.heap.size + 1 < w1.heap.size + 1 := (by omega)); (try have v0x1 : w0.heap.size < w1.heap.size := (by omega)); (try have v0x1p : w0.heap.size < w1.heap.size + 1 := (by omega))))
      go_ret
      refine ⟨rfl, ?_⟩
      repeat (first | exact Below.refl _ _ | refine Below.drew ?_ | refine below_drewN ?_ _ | refine Below.setCell ?_ ?_ _ | refine Below.alloc ?_ ?_ _ | (refine Below.trans ?_ (bmono (by assumption) ?_)))
      all_goals (first | omega | (simp <;> omega))
    · simp only [Bool.and_eq_true, beq_iff_eq] at hz0
      obtain ⟨rfl, rfl, rfl⟩ := hz0
      have hp := prim_zero
      have hv := eqV 0 0 0 0 0 0
      rw [show ((0 : Int) == 0 && ((0 : Int) == 0 && (0 : Int) == 0)) = true by decide] at hv
      clear hx hy hz
      go_enter Try.func10, Try.ntmps10
      go_wp2_with (first
        | (go_at_call 12; refine (awake_any _).mono ?_; rintro e w0 ⟨rfl, hb0⟩; obtain ⟨hc0, hf0⟩ := bcell hb0; have hz0 := hb0.size; (try simp at hz0); (try have y00 : w.heap.size < w0.heap.size := (by omega)); (try have y00p : w.heap.size < w0.heap.size + 1 := (by omega)); (try have y01 : w.heap.size + 1 < w0.heap.size := (by omega)); (try have y01p : w.heap.size + 1 < w0.heap.size + 1 := (by omega)))
        | (go_at_call 27; refine (hp _).mono ?_; rintro e w1 ⟨rfl, hb1⟩; obtain ⟨hc1, hf1⟩ := bcell hb1; have hz1 := hb1.size; (try simp at hz1); (try have y10 : w.heap.size < w1.heap.size := (by omega)); (try have y10p : w.heap.size < w1.heap.size + 1 := (by omega)); (try have y11 : w.heap.size + 1 < w1.heap.size := (by omega)); (try have y11p : w.heap.size + 1 < w1.heap.size + 1 := (by omega)); (try have v0x1 : w0.heap.size < w1.heap.size := (by omega)); (try have v0x1p : w0.heap.size < w1.heap.size + 1 := (by omega))))
      go_ret
      refine ⟨rfl, ?_⟩
      repeat (first | exact Below.refl _ _ | refine Below.drew ?_ | refine below_drewN ?_ _ | refine Below.setCell ?_ ?_ _ | refine Below.alloc ?_ ?_ _ | (refine Below.trans ?_ (bmono (by assumption) ?_)))
      all_goals (first | omega | (simp <;> omega))

set_option maxHeartbeats 800000 in
set_option maxRecDepth 100000 in
theorem vectorReduced_lifted (os : Os) (started : os.Started) (H : Type) (enc : TypeId × Value → H) :
    ReturnsInHanded {} Try.checked os 10 .any (Rows.vectorReducedSpec.pre6 enc Try.prog Try.f10 Rows.vectorReducedRow.domain false) (Rows.vectorReducedSpec.post enc Try.prog Try.f10 false true false false) := by
  refine returnsInHanded_of_change (C := Try.checked) Try.own started (by kernel_rfl) Try.func10
    (ChangeSpec.witness6 (enc := enc) (C := Try.checked) false ⟨#[], #[.agg #[.int .i64 0, .int .i64 0, .int .i64 0]], []⟩ 8 (by kernel_rfl) (by kernel_rfl) (by kernel_rfl) (by kernel_rfl)) ?_
  intro W base args ds gs before hval0 hW _ _
  have hval : ∀ (j : Nat) t v, Try.f10.params[j]? = some t → args[j]? = some v → Value.okWide Try.prog W .any base t v := hval0
  have hW' := hW
  obtain ⟨p, q, hA0, hV, rfl, _, _⟩ := hW
  have hA : DataW.TrodAll enc Try.prog W 0 (fun _ => true) true Try.f10.params.toList args.toList ds p := hA0
  rw [Try.params10] at hA hval
  obtain ⟨v0, d0, rfl, rfl, h0⟩ := trodAll_one hA
  obtain ⟨rfl, rfl⟩ := trodVars_none hV
  clear hA0 hval0
  simp only [List.append_nil] at hW'
  have harg0 : ∀ W' : World, Below W.heap.size W W' → DataW.Trod enc Try.prog W' 0 (fun b => decide (b < W.heap.size)) true 23 v0 d0 p :=
    fun W' hn => Below.trod Try.laidOut (by kernel_rfl) (of_decide_eq_true (by kernel_rfl)) h0 hn (fun y hy => by simpa using hW'.lt y (by simp [hy]))
  obtain ⟨x, y, z, rfl⟩ := open_vec (hval 0 23 v0 rfl rfl) h0
  refine (vectorReduced_any x y z W).mono fun e W' ⟨he, hn⟩ => ?_
  subst he
  exact ⟨_, rfl, _, _, _, [], _, [], hW', trodAll_mk1 (shut_bool Try.underlying4 _), trodAll_mk1 (harg0 _ hn), (List.append_nil _).symm, hn.frame _, fun h => by cases h⟩

theorem vectorReduced_holds : Rows.VectorReducedSaid :=
  OpenClaim.holds_of_wide 10 Try.f10 rfl rfl rfl rfl rfl rfl rfl ⟨rfl, rfl, rfl, rfl, rfl⟩ rfl rfl rfl rfl rfl (by kernel_rfl) Try.func10 (by kernel_rfl)
    (of_decide_eq_true (by kernel_rfl)) (by unfold Func.isWrapper; first | (rw [if_pos (by decide +kernel)]; kernel_rfl) | (rw [if_neg (by decide +kernel)]; exact ⟨rfl, rfl⟩))
    (fun os started H enc _ => vectorReduced_lifted os started H enc)
end Go.Proofs.Ythlidkmalfjmbaa
