/- The law StairLies holds: for every flight the call answers true and leaves its argument as it was. -/
import Derived.Test.YtoenojnfhiimpaaLif
import Derived.Test.YtoenojnfhiimpaaMea
import Derived.Test.YtoenojnfhiimpaaAwk
import Derived.Test.YtoenojnfhiimpaaSam
import Derived.Test.YtoenojnfhiimpaaHg2
namespace Go.Proofs.Ytoenojnfhiimpaa
open Go.ChangeShapes Go.WideShapes Go.ChangeAt Go.RowKit Go.Deep

set_option maxHeartbeats 4000000 in
set_option maxRecDepth 100000 in
theorem lies_bad (n r x g wd l : Int) (hs : ∀ w, Calls Try.prog 22 #[.agg #[.int .i64 n, .int .i64 r, .int .i64 x, .int .i64 g, .int .i64 wd, .int .i64 l]] w fun e w' => e = .returned (.tuple #[.slice none 0 0, .int .i64 1]) ∧ Below w.heap.size w w') (w : World) : Calls Try.prog 8 #[.agg #[.int .i64 n, .int .i64 r, .int .i64 x, .int .i64 g, .int .i64 wd, .int .i64 l]] w fun e w' => e = .returned (.bool true) ∧ Below w.heap.size w w' := by
  go_enter Try.func8, Try.ntmps8
  go_wp2_with (first | (go_at_call 11; refine (awake_any _).mono ?_; rintro e w1 ⟨rfl, hb1⟩; obtain ⟨hc1, hf1⟩ := bcell hb1; have hz1 := hb1.size; (try simp at hz1); (try have y10 : w.heap.size < w1.heap.size := by omega); (try have y11 : w.heap.size + 1 < w1.heap.size := by omega); (try have y12 : w.heap.size + 1 + 1 < w1.heap.size := by omega)) | (go_at_call 22; refine (hs _).mono ?_; rintro e w2 ⟨rfl, hb2⟩; obtain ⟨hc2, hf2⟩ := bcell hb2; have hz2 := hb2.size; (try simp at hz2); (try have y20 : w.heap.size < w2.heap.size := by omega); (try have y21 : w.heap.size + 1 < w2.heap.size := by omega); (try have y22 : w.heap.size + 1 + 1 < w2.heap.size := by omega)))
  go_ret
  refine ⟨rfl, ?_⟩
  ((repeat (first | with_reducible exact Below.refl _ _ | with_reducible refine Below.setCell ?_ ?_ _ | with_reducible refine Below.alloc ?_ ?_ _ | with_reducible refine Below.drew ?_ | with_reducible refine below_drewN ?_ _ | (refine Below.trans ?_ (bmono (by assumption) ?_)))); all_goals (first | omega | (simp <;> omega)))
set_option maxHeartbeats 4000000 in
set_option maxRecDepth 100000 in
theorem lies_ok (n : Nat) (r x g wd l : Int) (hv : vldB n r x g wd l = true) (w : World) : Calls Try.prog 8 #[.agg #[.int .i64 n, .int .i64 r, .int .i64 x, .int .i64 g, .int .i64 wd, .int .i64 l]] w fun e w' => e = .returned (.bool true) ∧ Below w.heap.size w w' := by
  obtain ⟨v1, v2, v3, v4, v5, v6, v7, v8, v9, v10, v11, v12, v13⟩ := vldB_iff.1 hv
  have hh := height_any n r x g wd l
  unfold hgtV at hh
  rw [if_pos hv, Int.toNat_natCast] at hh
  generalize (n : Int) * g = ng at hh
  have hs : ∀ w, Calls Try.prog 22 #[.agg #[.int .i64 n, .int .i64 r, .int .i64 x, .int .i64 g, .int .i64 wd, .int .i64 l]] w fun e w' => ∃ (k c : Nat), e = .returned (.tuple #[.slice (some ⟨k, 0, none⟩) n c, .int .i64 0]) ∧ RowS w' k n r x g wd l ∧ Below w.heap.size w w' := fun w => by
    refine (stones_ok n r x g wd l hv w).mono ?_
    rintro e w' ⟨A, c, rfl, ho, hbl⟩
    obtain ⟨k, rfl, _, h2⟩ := RowS.of_own (by omega) ho
    exact ⟨k, c, rfl, h2, hbl⟩
  have hbd := fun k => lvl_bd (x := x) v3 v4 k
  have hri := fun i : Nat => rsI_bd (x := x) (i := (i : Int)) v3 v4
  have HBD := Lib.hid hbd; have HRI := Lib.hid hri
  obtain ⟨H, hH⟩ : ∃ H, H = lvl r x n := ⟨_, rfl⟩
  rw [← hH] at hh
  have HH := Lib.hid hH
  have hV0 : ∀ w, Sem.run Try.prog (binOp .neq 60 (.agg #[.int .i64 0, .int .i64 0, .int .i64 0]) (.agg #[.int .i64 0, .int .i64 0, .int .i64 0])) w = .ok (.bool false) w := fun w => by rw [neV]; simp
  obtain ⟨I, hI⟩ : ∃ I, I = (n : Int) - 1 := ⟨_, rfl⟩
  have i1 : IntKind.i64.wrap ((n : Int) - 1) = I := by rw [hI]; exact IntWalk.i64_in _ (by omega)
  have i2 : 0 ≤ I := by omega
  have i3 : I < (n : Int) := by omega
  have i4 : I.toNat = n - 1 := by omega
  have hn0 : n ≠ 0 := by omega
  have hn1 : ¬ n = 0 := by omega
  have hn2 : (1 : Int) ≤ (n : Int) := by omega
  clear hbd hri hH hv hI
  go_enter Try.func8, Try.ntmps8
  go_wp2_with (first
    | (go_at_call 11; refine (awake_any _).mono ?_; rintro e w1 ⟨rfl, hb1⟩; obtain ⟨hc1, hf1⟩ := bcell hb1; have hz1 := hb1.size; (try simp at hz1); (try have y10 : w.heap.size < w1.heap.size := by omega); (try have y11 : w.heap.size + 1 < w1.heap.size := by omega); (try have y12 : w.heap.size + 1 + 1 < w1.heap.size := by omega))
    | (go_at_call 22; refine (hs _).mono ?_; rintro e w2 ⟨k2, c2, rfl, hS, hb2⟩; obtain ⟨hc2, hf2⟩ := bcell hb2; have hz2 := hb2.size; have y20 : w.heap.size < w2.heap.size := (by omega))
    | (go_at_call 16; refine (hh _).mono ?_; rintro e w3 ⟨rfl, hb3⟩; obtain ⟨hc3, hf3⟩ := bcell hb3; have hz3 := hb3.size; have y30 : w.heap.size < w3.heap.size := (by omega); have hS3 := hS.over hb3; obtain ⟨q0, q1, q2, q3, q4, q5, q6⟩ := hS3.2 (n - 1) (by omega); obtain ⟨p0, p1, p2, p3, p4, p5, p6⟩ := hS3.2 0 (by omega); simp only [Nat.zero_mul, Nat.zero_add, Int.natCast_zero, Int.zero_mul, lvl] at p1 p2 p3; rw [show n - 1 + 1 = n by omega, ← HH.out] at q6; clear q1 q2 q3 q4 q5 p4 p5 p6))
  have hK3 : KL [(w.heap.size, 27, #[.int .i64 n, .int .i64 r, .int .i64 x, .int .i64 g, .int .i64 wd, .int .i64 l])] w w3 := (((((KL.nil w).new (g := w.heap.size) rfl 27 _).over hb1).over hb2).over hb3)
  clear hs hh hb1 hb2 hb3 hc1 hc2 hc3 hf1 hf2 hf3 hV0 i1 i2 i3 i4 q0 q6 p0 p1 p2 p3 HH
  go_loopw [8] (fun i W => ∃ j : Nat, j ≤ n ∧ i = .int .i64 j ∧ KL [(w.heap.size, 27, #[.int .i64 n, .int .i64 r, .int .i64 x, .int .i64 g, .int .i64 wd, .int .i64 l])] w W ∧ RowS W k2 n r x g wd l) (fun i _ => n - (intOf i).toNat)
  case atStart => exact ⟨0, Nat.zero_le _, rfl, hK3, hS3⟩
  case round =>
    clear hK3 hS3 hS
    obtain ⟨j, hj, rfl, hK, hS⟩ := hrel
    obtain ⟨y0, y1, y2, y3, y4, y5, y6⟩ := bl6 (KL.blk hK (.head _))
    by_cases hlt : j < n
    · obtain ⟨q0, q1, q2, q3, q4, q5, q6⟩ := hS.2 j hlt
      have hmono : lvl r x j < lvl r x (j + 1) := by
        have := HRI.out j
        show lvl r x j < lvl r x j + rsI r x j
        omega
      obtain ⟨b1, b2⟩ := HBD.out j
      obtain ⟨b3, b4⟩ := HBD.out (j + 1)
      have hm1 := mul_bd (a := (j : Int)) (b := g) (A := 64) (B := 10000) (by omega) (by omega) (by omega) (by omega)
      have hd0 : ((j : Int) + 1) * g = (j : Int) * g + g := by rw [Int.add_mul, Int.one_mul]
      rw [hd0] at q4
      rcases j with _ | m
      · generalize ((0 : Nat) : Int) * g = P at q1 q4 hm1
        generalize lvl r x 0 = E2 at *
        generalize lvl r x (0 + 1) = E5 at *
        obtain ⟨Q, hQ⟩ : ∃ Q, Q = P + g + l := ⟨_, rfl⟩
        rw [← hQ] at q4
        have c1 : decide (Q ≤ P) = false := decide_eq_false (by omega)
        have c2 : decide (E5 ≤ E2) = false := decide_eq_false (by omega)
        obtain ⟨I, hI⟩ : ∃ I, I = ((0 : Nat) : Int) := ⟨_, rfl⟩
        rw [← hI]
        have i2 : 0 ≤ I := by omega
        have i3 : I < (n : Int) := by omega
        have i4 : I.toNat = 0 := by omega
        have i5 : decide (0 < I) = false := decide_eq_false (by omega)
        have HI := Lib.hid hI
        clear hI hQ hm1 hd0 hmono hj
        simp only [Nat.zero_mul, Nat.zero_add] at q1 q2 q3 q4 q5 q6
        go_wp2
        go_region
        go_wp2
        go_region
        go_wp2
        have hI := HI.out
        exact ⟨⟨1, by omega, by rw [hI]; rfl, hK.drew.drew, hS.over ((Below.refl _ _).drew.drew)⟩, by simp [intOf]; omega⟩
      · obtain ⟨p0, p1, p2, p3, p4, p5, p6⟩ := hS.2 m (by omega)
        have hd2 : ((m + 1 : Nat) : Int) * g = (m : Int) * g + g := by rw [show ((m + 1 : Nat) : Int) = (m : Int) + 1 by omega, Int.add_mul, Int.one_mul]
        have hd3 : ((m : Int) + 1) * g = (m : Int) * g + g := by rw [Int.add_mul, Int.one_mul]
        rw [hd2] at q1 q4 hm1
        rw [hd3] at p4
        obtain ⟨P0, hP0⟩ : ∃ P0, P0 = (m : Int) * g := ⟨_, rfl⟩
        rw [← hP0] at q1 q4 hm1 p1 p4
        obtain ⟨P, hP⟩ : ∃ P, P = P0 + g := ⟨_, rfl⟩
        rw [← hP] at q1 q4 hm1 p4
        obtain ⟨Q, hQ⟩ : ∃ Q, Q = P + g + l := ⟨_, rfl⟩
        rw [← hQ] at q4
        obtain ⟨Q0, hQ0⟩ : ∃ Q0, Q0 = P + l := ⟨_, rfl⟩
        rw [← hQ0] at p4
        have hmz : 0 ≤ P0 := by rw [hP0]; exact Int.mul_nonneg (by omega) (by omega)
        generalize lvl r x (m + 1 + 1) = E5 at *
        generalize lvl r x (m + 1) = E2 at *
        generalize lvl r x m = E0 at *
        have c1 : decide (Q ≤ P) = false := decide_eq_false (by omega)
        have c2 : decide (E5 ≤ E2) = false := decide_eq_false (by omega)
        have d1 : Q0 - P = l := by omega
        have d2 : P - P0 = g := by omega
        have d3 : IntKind.i64.wrap (Q0 - P) = l := by rw [d1]; exact IntWalk.i64_in _ (by omega)
        have d4 : IntKind.i64.wrap (P - P0) = g := by rw [d2]; exact IntWalk.i64_in _ (by omega)
        obtain ⟨J, hJ⟩ : ∃ J, J = m + 1 := ⟨_, rfl⟩
        rw [← hJ] at q1 q2 q3 q4 q5 q6 hlt
        rw [← hJ]
        obtain ⟨I, hI⟩ : ∃ I, I = (J : Int) := ⟨_, rfl⟩
        rw [← hI]
        have i2 : 0 ≤ I := by omega
        have i3 : I < (n : Int) := by omega
        have i4 : I.toNat = J := by omega
        have i5 : decide (0 < I) = true := decide_eq_true (by omega)
        have i6 : IntKind.i64.wrap (I - 1) = I - 1 := IntWalk.i64_in _ (by omega)
        have i7 : 0 ≤ I - 1 := by omega
        have i8 : I - 1 < (n : Int) := by omega
        have i9 : (I - 1).toNat = m := by omega
        have HI := Lib.hid hI; have HJ := Lib.hid hJ
        clear hI hJ hQ hQ0 hP hP0 hm1 hd0 hd2 hd3 hmono hj hmz b1 b2 b3 b4
        go_wp2
        go_region
        go_wp2
        go_region
        go_wp2
        have hI := HI.out
        exact ⟨⟨J + 1, by omega, by rw [hI]; rfl, hK.drew.drew, hS.over ((Below.refl _ _).drew.drew)⟩, by simp [intOf]; omega⟩
    · obtain rfl : j = n := by omega
      have hle : ¬ (j : Int) < (j : Int) := by omega
      go_wp2
      go_ret
      exact ⟨rfl, hK.1⟩
theorem stairLies_any (n r x g wd l : Int) (w : World) : Calls Try.prog 8 #[.agg #[.int .i64 n, .int .i64 r, .int .i64 x, .int .i64 g, .int .i64 wd, .int .i64 l]] w fun e w' => e = .returned (.bool true) ∧ Below w.heap.size w w' := by
  by_cases hv : vldB n r x g wd l = true
  · have hb := vldB_iff.1 hv
    obtain ⟨k, hk⟩ : ∃ k : Nat, n = k := ⟨n.toNat, by omega⟩
    subst hk
    exact lies_ok k r x g wd l hv w
  · have hcf := checkFlight_any n r x g wd l
    rw [flE_bad hv] at hcf
    exact lies_bad n r x g wd l (stones_bad n r x g wd l hcf) w

set_option maxHeartbeats 800000 in
set_option maxRecDepth 100000 in
theorem stairLies_lifted (os : Os) (started : os.Started) (H : Type) (enc : TypeId × Value → H) :
    ReturnsInHanded {} Try.checked os 8 .any (Rows.stairLiesSpec.pre6 enc Try.prog Try.f8 Rows.stairLiesRow.domain false) (Rows.stairLiesSpec.post enc Try.prog Try.f8 false true false false) := by
  refine returnsInHanded_of_change (C := Try.checked) Try.own started (by kernel_rfl) Try.func8
    (ChangeSpec.witness6 (enc := enc) (C := Try.checked) false ⟨#[], #[.agg #[.int .i64 0, .int .i64 0, .int .i64 0, .int .i64 0, .int .i64 0, .int .i64 0]], []⟩ 8 (by kernel_rfl) (by kernel_rfl) (by kernel_rfl) (by kernel_rfl)) ?_
  intro W base args ds gs before hval0 hW _ _
  have hval : ∀ (j : Nat) t v, Try.f8.params[j]? = some t → args[j]? = some v → Value.okWide Try.prog W .any base t v := hval0
  have hW' := hW
  obtain ⟨p, q, hA0, hV, rfl, _, _⟩ := hW
  have hA : DataW.TrodAll enc Try.prog W 0 (fun _ => true) true Try.f8.params.toList args.toList ds p := hA0
  rw [Try.params8] at hA hval
  obtain ⟨v0, d0, rfl, rfl, h0⟩ := trodAll_one hA
  obtain ⟨rfl, rfl⟩ := trodVars_none hV
  clear hA0 hval0
  simp only [List.append_nil] at hW'
  have harg0 : ∀ W' : World, Below W.heap.size W W' → DataW.Trod enc Try.prog W' 0 (fun b => decide (b < W.heap.size)) true 27 v0 d0 p :=
    fun W' hn => Below.trod Try.laidOut (by kernel_rfl) (of_decide_eq_true (by kernel_rfl)) h0 hn (fun y hy => by simpa using hW'.lt y (by simp [hy]))
  obtain ⟨n, r, x, g, wd, l, rfl⟩ := open_fl (hval 0 27 v0 rfl rfl) h0
  refine (stairLies_any n r x g wd l W).mono fun e W' ⟨he, hn⟩ => ?_
  subst he
  exact ⟨_, rfl, _, _, _, [], _, [], hW', trodAll_mk1 (shut_bool Try.underlying4 _), trodAll_mk1 (harg0 _ hn), (List.append_nil _).symm, hn.frame _, fun h => by cases h⟩

theorem stairLies_holds : Rows.StairLiesSaid :=
  OpenClaim.holds_of_wide 8 Try.f8 rfl rfl rfl rfl rfl rfl rfl ⟨rfl, rfl, rfl, rfl, rfl⟩ rfl rfl rfl rfl rfl (by kernel_rfl) Try.func8 (by kernel_rfl)
    (of_decide_eq_true (by kernel_rfl)) (by unfold Func.isWrapper; first | (rw [if_pos (by decide +kernel)]; kernel_rfl) | (rw [if_neg (by decide +kernel)]; exact ⟨rfl, rfl⟩))
    (fun os started H enc _ => stairLies_lifted os started H enc)
end Go.Proofs.Ytoenojnfhiimpaa
