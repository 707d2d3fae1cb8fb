/- The law PlaneCorners: it answers true, whatever the half-space, the box and the corner; and the claim. -/
import Derived.Test.YtoeniaafcnnnoaaAwp
import Derived.Test.YtoeniaafcnnnoaaLif
namespace Go.Proofs.Ytoeniaafcnnnoaa
open Go.ChangeShapes Go.WideShapes Go.ChangeAt Go.RowKit

theorem lo_lt_hi {a b c d x y z p q r : Int} (h : eHB a b c d x y z p q r = 0) : loS a b c d x y z p q r < hiS a b c d x y z p q r := by
  have v := val_of h
  have key : ∀ f lo hi : Int, lo < hi → loI (f * lo) (f * hi) ≤ hiI (f * lo) (f * hi) ∧ (f ≠ 0 → loI (f * lo) (f * hi) < hiI (f * lo) (f * hi)) := by
    intro f lo hi hl
    refine ⟨by unfold loI hiI; split <;> omega, fun hf => ?_⟩
    have hne : f * lo ≠ f * hi := fun e => by
      have := Int.eq_of_mul_eq_mul_left hf e
      omega
    unfold loI hiI; split <;> omega
  obtain ⟨k1, s1⟩ := key a x p v.lx
  obtain ⟨k2, s2⟩ := key b y q v.ly
  obtain ⟨k3, s3⟩ := key c z r v.lz
  have hz := v.nz
  unfold loS hiS
  by_cases ha : a = 0
  · by_cases hb : b = 0
    · by_cases hc : c = 0
      · subst ha hb hc; simp [zer] at hz
      · have := s3 hc; omega
    · have := s2 hb; omega
  · have := s1 ha; omega
theorem corner_bd {a b c d x y z p q r X Y Z : Int} (hX : X = x ∨ X = p) (hY : Y = y ∨ Y = q) (hZ : Z = z ∨ Z = r) : loS a b c d x y z p q r ≤ valS a b c d X Y Z ∧ valS a b c d X Y Z ≤ hiS a b c d x y z p q r := by
  have key : ∀ f lo hi X : Int, X = lo ∨ X = hi → loI (f * lo) (f * hi) ≤ f * X ∧ f * X ≤ hiI (f * lo) (f * hi) := by
    intro f lo hi X h
    rcases h with rfl | rfl <;> (unfold loI hiI; split <;> omega)
  have k1 := key a x p X hX
  have k2 := key b y q Y hY
  have k3 := key c z r Z hZ
  unfold loS hiS valS
  omega
set_option maxHeartbeats 16000000 in
set_option maxRecDepth 100000 in
theorem planeCorners_gen (a b c d x y z p q r k s t S : Int)
    (h3 : ∀ w, Calls Try.prog 23 #[.agg #[.int .i64 a, .int .i64 b, .int .i64 c, .int .i64 d], .agg #[.int .i64 x, .int .i64 y, .int .i64 z, .int .i64 p, .int .i64 q, .int .i64 r]] w fun e w' => e = .returned (.tuple #[.int .i64 s, .int .i64 t, .int .i64 0]) ∧ Below w.heap.size w w')
    (h4 : ∀ w, Calls Try.prog 24 #[.agg #[.int .i64 a, .int .i64 b, .int .i64 c, .int .i64 d], .agg #[.int .i64 x, .int .i64 y, .int .i64 z, .int .i64 p, .int .i64 q, .int .i64 r]] w fun e w' => e = .returned (.tuple #[.int .i64 S, .int .i64 0]) ∧ Below w.heap.size w w')
    (h5 : ∀ X Y Z : Int, (X = x ∨ X = p) → (Y = y ∨ Y = q) → (Z = z ∨ Z = r) → ∀ w, Calls Try.prog 18 #[.agg #[.int .i64 a, .int .i64 b, .int .i64 c, .int .i64 d], .agg #[.int .i64 X, .int .i64 Y, .int .i64 Z]] w fun e w' => ∃ v, e = .returned (.tuple #[.int .i64 v, .int .i64 0]) ∧ s ≤ v ∧ v ≤ t ∧ Below w.heap.size w w')
    (hst : s < t) (cs : (S = 1 ∧ t ≤ 0 ∧ s < 0) ∨ (S = 2 ∧ 0 < t ∧ 0 ≤ s) ∨ (S = 3 ∧ 0 < t ∧ s < 0)) (w : World) :
    Calls Try.prog 10 #[.agg #[.int .i64 a, .int .i64 b, .int .i64 c, .int .i64 d], .agg #[.int .i64 x, .int .i64 y, .int .i64 z, .int .i64 p, .int .i64 q, .int .i64 r], .int .i64 k] w fun e w' => e = .returned (.bool true) ∧ Below w.heap.size w w' := by
  have H5 := Lib.hid h5
  clear h5
  rcases cs with ⟨rfl, g1, g2⟩ | ⟨rfl, g1, g2⟩ | ⟨rfl, g1, g2⟩
  all_goals
    go_enter Try.func10, Try.ntmps10
    go_wp2_with (first
      | (go_at_call 17; refine (awake_any _).mono ?_; rintro e w1 ⟨rfl, hb1⟩; obtain ⟨hc1, hf1⟩ := bcell hb1; have hz1 := hb1.size; (try simp at hz1); (try have y10 : w.heap.size < w1.heap.size := (by omega)); (try have y10p : w.heap.size < w1.heap.size + 1 := (by omega)); (try have y11 : w.heap.size + 1 < w1.heap.size := (by omega)); (try have y11p : w.heap.size + 1 < w1.heap.size + 1 := (by omega)); (try have y12 : w.heap.size + 1 + 1 < w1.heap.size := (by omega)); (try have y12p : w.heap.size + 1 + 1 < w1.heap.size + 1 := (by omega)); (try have v0x1 : w0.heap.size < w1.heap.size := (by omega)); (try have v0x1p : w0.heap.size < w1.heap.size + 1 := (by omega)))
      | (go_at_call 23; refine (h3 _).mono ?_; rintro e w2 ⟨rfl, hb2⟩; obtain ⟨hc2, hf2⟩ := bcell hb2; have hz2 := hb2.size; (try simp at hz2); (try have y20 : w.heap.size < w2.heap.size := (by omega)); (try have y20p : w.heap.size < w2.heap.size + 1 := (by omega)); (try have y21 : w.heap.size + 1 < w2.heap.size := (by omega)); (try have y21p : w.heap.size + 1 < w2.heap.size + 1 := (by omega)); (try have y22 : w.heap.size + 1 + 1 < w2.heap.size := (by omega)); (try have y22p : w.heap.size + 1 + 1 < w2.heap.size + 1 := (by omega)); (try have v0x2 : w0.heap.size < w2.heap.size := (by omega)); (try have v0x2p : w0.heap.size < w2.heap.size + 1 := (by omega)); (try have v1x2 : w1.heap.size < w2.heap.size := (by omega)); (try have v1x2p : w1.heap.size < w2.heap.size + 1 := (by omega)))
      | (go_at_call 24; refine (h4 _).mono ?_; rintro e w3 ⟨rfl, hb3⟩; obtain ⟨hc3, hf3⟩ := bcell hb3; have hz3 := hb3.size; (try simp at hz3); (try have y30 : w.heap.size < w3.heap.size := (by omega)); (try have y30p : w.heap.size < w3.heap.size + 1 := (by omega)); (try have y31 : w.heap.size + 1 < w3.heap.size := (by omega)); (try have y31p : w.heap.size + 1 < w3.heap.size + 1 := (by omega)); (try have y32 : w.heap.size + 1 + 1 < w3.heap.size := (by omega)); (try have y32p : w.heap.size + 1 + 1 < w3.heap.size + 1 := (by omega)); (try have v0x3 : w0.heap.size < w3.heap.size := (by omega)); (try have v0x3p : w0.heap.size < w3.heap.size + 1 := (by omega)); (try have v1x3 : w1.heap.size < w3.heap.size := (by omega)); (try have v1x3p : w1.heap.size < w3.heap.size + 1 := (by omega)); (try have v2x3 : w2.heap.size < w3.heap.size := (by omega)); (try have v2x3p : w2.heap.size < w3.heap.size + 1 := (by omega)))
      | (go_at_call 18; refine (H5.out _ _ _ (by first | exact .inl rfl | exact .inr rfl) (by first | exact .inl rfl | exact .inr rfl) (by first | exact .inl rfl | exact .inr rfl) _).mono ?_; rintro e w4 ⟨v, rfl, f1, f2, hb4⟩; obtain ⟨hc4, hf4⟩ := bcell hb4; have hz4 := hb4.size; (try simp at hz4)))
    all_goals
      go_ret
      refine ⟨ret_bool (by first | rfl | (simp <;> omega)), ?_⟩
      repeat (first | with_reducible exact Below.refl _ _ | with_reducible refine Below.setCell ?_ ?_ _ | with_reducible refine Below.alloc ?_ ?_ _ | with_reducible refine Below.drew ?_ | with_reducible refine below_drewN ?_ _ | (refine Below.trans ?_ (bmono (by assumption) ?_)))
      all_goals (first | omega | (simp <;> omega))
set_option maxHeartbeats 4000000 in
set_option maxRecDepth 100000 in
theorem planeCorners_any (a b c d x y z p q r k : Int) (w : World) :
    Calls Try.prog 10 #[.agg #[.int .i64 a, .int .i64 b, .int .i64 c, .int .i64 d], .agg #[.int .i64 x, .int .i64 y, .int .i64 z, .int .i64 p, .int .i64 q, .int .i64 r], .int .i64 k] w fun e w' => e = .returned (.bool true) ∧ Below w.heap.size w w' := by
  by_cases hk : eHB a b c d x y z p q r = 0
  · have hlt := lo_lt_hi hk
    have v := val_of hk
    have i1 := v.cx; have i2 := v.cy; have i3 := v.cz; have i4 := v.cp; have i5 := v.cq; have i6 := v.cr
    refine planeCorners_gen a b c d x y z p q r k _ _ _ (Extremes_ok a b c d x y z p q r hk) (Side_ok a b c d x y z p q r hk) (fun X Y Z hX hY hZ w => ?_) hlt ?_ w
    · have hin : inV X Y Z = true := inV_iff.2 ⟨by rcases hX with rfl | rfl <;> assumption, by rcases hY with rfl | rfl <;> assumption, by rcases hZ with rfl | rfl <;> assumption⟩
      obtain ⟨b1, b2⟩ := corner_bd (a := a) (b := b) (c := c) (d := d) hX hY hZ
      exact (value_ok a b c d X Y Z (eHB_zero hk).1 hin w).mono fun e w' ⟨he, hb⟩ => ⟨_, he, b1, b2, hb⟩
    · unfold sideI; (repeat' split) <;> omega
  · have h3 := Extremes_bad a b c d x y z p q r hk
    have h4 := Side_bad a b c d x y z p q r hk
    generalize eHB a b c d x y z p q r = e at h3 h4 hk
    obtain ⟨t1, t2⟩ := ne_tests hk
    clear hk
    go_enter Try.func10, Try.ntmps10
    go_wp2_with (first
      | (go_at_call 17; refine (awake_any _).mono ?_; rintro e w1 ⟨rfl, hb1⟩; obtain ⟨hc1, hf1⟩ := bcell hb1; have hz1 := hb1.size; (try simp at hz1); (try have y10 : w.heap.size < w1.heap.size := (by omega)); (try have y10p : w.heap.size < w1.heap.size + 1 := (by omega)); (try have y11 : w.heap.size + 1 < w1.heap.size := (by omega)); (try have y11p : w.heap.size + 1 < w1.heap.size + 1 := (by omega)); (try have y12 : w.heap.size + 1 + 1 < w1.heap.size := (by omega)); (try have y12p : w.heap.size + 1 + 1 < w1.heap.size + 1 := (by omega)); (try have v0x1 : w0.heap.size < w1.heap.size := (by omega)); (try have v0x1p : w0.heap.size < w1.heap.size + 1 := (by omega)))
      | (go_at_call 23; refine (h3 _).mono ?_; rintro e w2 ⟨rfl, hb2⟩; obtain ⟨hc2, hf2⟩ := bcell hb2; have hz2 := hb2.size; (try simp at hz2); (try have y20 : w.heap.size < w2.heap.size := (by omega)); (try have y20p : w.heap.size < w2.heap.size + 1 := (by omega)); (try have y21 : w.heap.size + 1 < w2.heap.size := (by omega)); (try have y21p : w.heap.size + 1 < w2.heap.size + 1 := (by omega)); (try have y22 : w.heap.size + 1 + 1 < w2.heap.size := (by omega)); (try have y22p : w.heap.size + 1 + 1 < w2.heap.size + 1 := (by omega)); (try have v0x2 : w0.heap.size < w2.heap.size := (by omega)); (try have v0x2p : w0.heap.size < w2.heap.size + 1 := (by omega)); (try have v1x2 : w1.heap.size < w2.heap.size := (by omega)); (try have v1x2p : w1.heap.size < w2.heap.size + 1 := (by omega)))
      | (go_at_call 24; refine (h4 _).mono ?_; rintro e w3 ⟨rfl, hb3⟩; obtain ⟨hc3, hf3⟩ := bcell hb3; have hz3 := hb3.size; (try simp at hz3); (try have y30 : w.heap.size < w3.heap.size := (by omega)); (try have y30p : w.heap.size < w3.heap.size + 1 := (by omega)); (try have y31 : w.heap.size + 1 < w3.heap.size := (by omega)); (try have y31p : w.heap.size + 1 < w3.heap.size + 1 := (by omega)); (try have y32 : w.heap.size + 1 + 1 < w3.heap.size := (by omega)); (try have y32p : w.heap.size + 1 + 1 < w3.heap.size + 1 := (by omega)); (try have v0x3 : w0.heap.size < w3.heap.size := (by omega)); (try have v0x3p : w0.heap.size < w3.heap.size + 1 := (by omega)); (try have v1x3 : w1.heap.size < w3.heap.size := (by omega)); (try have v1x3p : w1.heap.size < w3.heap.size + 1 := (by omega)); (try have v2x3 : w2.heap.size < w3.heap.size := (by omega)); (try have v2x3p : w2.heap.size < w3.heap.size + 1 := (by omega))))
    go_ret
    refine ⟨rfl, ?_⟩
    repeat (first | with_reducible exact Below.refl _ _ | with_reducible refine Below.setCell ?_ ?_ _ | with_reducible refine Below.alloc ?_ ?_ _ | with_reducible refine Below.drew ?_ | with_reducible refine below_drewN ?_ _ | (refine Below.trans ?_ (bmono (by assumption) ?_)))
    all_goals (first | omega | (simp <;> omega))

set_option maxHeartbeats 800000 in
set_option maxRecDepth 100000 in
theorem planeCorners_lifted (os : Os) (started : os.Started) (H : Type) (enc : TypeId × Value → H) :
    ReturnsInHanded {} Try.checked os 10 .any (Rows.planeCornersSpec.pre6 enc Try.prog Try.f10 Rows.planeCornersRow.domain false) (Rows.planeCornersSpec.post enc Try.prog Try.f10 false true false false) := by
  refine returnsInHanded_of_change (C := Try.checked) Try.own started (by kernel_rfl) Try.func10
    (ChangeSpec.witness6 (enc := enc) (C := Try.checked) false ⟨#[], #[.agg #[.int .i64 0, .int .i64 0, .int .i64 0, .int .i64 0], .agg #[.int .i64 0, .int .i64 0, .int .i64 0, .int .i64 0, .int .i64 0, .int .i64 0], .int .i64 0], []⟩ 8 (by kernel_rfl) (by kernel_rfl) (by kernel_rfl) (by kernel_rfl)) ?_
  intro W base args ds gs before hval0 hW _ _
  have hval : ∀ (j : Nat) t v, Try.f10.params[j]? = some t → args[j]? = some v → Value.okWide Try.prog W .any base t v := hval0
  have hW' := hW
  obtain ⟨p, q, hA0, hV, rfl, _, _⟩ := hW
  have hA : DataW.TrodAll enc Try.prog W 0 (fun _ => true) true Try.f10.params.toList args.toList ds p := hA0
  rw [Try.params10] at hA hval
  obtain ⟨v0, v1, v2, d0, d1, d2, p0, p1, p2, rfl, rfl, rfl, h0, h1, h2⟩ := trodAll_three hA
  obtain ⟨rfl, rfl⟩ := trodVars_none hV
  clear hA0 hval0
  simp only [List.append_nil] at hW'
  have harg0 : ∀ W' : World, Below W.heap.size W W' → DataW.Trod enc Try.prog W' 0 (fun b => decide (b < W.heap.size)) true 32 v0 d0 p0 :=
    fun W' hn => Below.trod Try.laidOut (by kernel_rfl) (of_decide_eq_true (by kernel_rfl)) h0 hn (fun y hy => by simpa using hW'.lt y (by simp [hy]))
  have harg1 : ∀ W' : World, Below W.heap.size W W' → DataW.Trod enc Try.prog W' 0 (fun b => decide (b < W.heap.size)) true 42 v1 d1 p1 :=
    fun W' hn => Below.trod Try.laidOut (by kernel_rfl) (of_decide_eq_true (by kernel_rfl)) h1 hn (fun y hy => by simpa using hW'.lt y (by simp [hy]))
  have harg2 : ∀ W' : World, Below W.heap.size W W' → DataW.Trod enc Try.prog W' 0 (fun b => decide (b < W.heap.size)) true 3 v2 d2 p2 :=
    fun W' hn => Below.trod Try.laidOut (by kernel_rfl) (of_decide_eq_true (by kernel_rfl)) h2 hn (fun y hy => by simpa using hW'.lt y (by simp [hy]))
  obtain ⟨a, b, c, d, rfl⟩ := open_half (hval 0 32 v0 rfl rfl) h0
  obtain ⟨x, y, z, p, q, r, rfl⟩ := open_box (hval 1 42 v1 rfl rfl) h1
  obtain ⟨k, rfl, _, _, _⟩ := open_int Try.underlying3 (hval 2 3 v2 rfl rfl) h2
  refine (planeCorners_any a b c d x y z p q r k W).mono fun e W' ⟨he, hn⟩ => ?_
  subst he
  exact ⟨_, rfl, _, _, _, [], _, [], hW', trodAll_mk1 (shut_bool Try.underlying4 _), trodAll_mk3 (harg0 _ hn) (harg1 _ hn) (harg2 _ hn), (List.append_nil _).symm, hn.frame _, fun h => by cases h⟩

theorem planeCorners_holds : Rows.PlaneCornersSaid :=
  OpenClaim.holds_of_wide 10 Try.f10 rfl rfl rfl rfl rfl rfl rfl ⟨rfl, rfl, rfl, rfl, rfl⟩ rfl rfl rfl rfl rfl (by kernel_rfl) Try.func10 (by kernel_rfl)
    (of_decide_eq_true (by kernel_rfl)) (by unfold Func.isWrapper; first | (rw [if_pos (by decide +kernel)]; kernel_rfl) | (rw [if_neg (by decide +kernel)]; exact ⟨rfl, rfl⟩))
    (fun os started H enc _ => planeCorners_lifted os started H enc)
end Go.Proofs.Ytoeniaafcnnnoaa
