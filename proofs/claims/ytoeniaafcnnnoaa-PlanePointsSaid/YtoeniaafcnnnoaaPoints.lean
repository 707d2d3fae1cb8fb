/- The law PlanePoints: it answers true, whatever the half-spaces and the point; and the claim. -/
import Derived.Test.YtoeniaafcnnnoaaPta
import Derived.Test.YtoeniaafcnnnoaaPtb
namespace Go.Proofs.Ytoeniaafcnnnoaa
open Go.ChangeShapes Go.WideShapes Go.ChangeAt Go.RowKit

theorem nrm_abs {x : Int} {f : Nat} (h : inF x = true) : inF (x.tdiv f) = true := by
  have h1 := inF_abs h
  have h2 := tdiv_abs x f
  have h3 := Nat.div_le_self x.natAbs f
  exact inF_iff.2 (by omega)
theorem fl_in {d : Int} {f : Nat} (h : inD d = true) (hf : 0 < f) : inD (d / (f : Int)) = true := by
  have h1 := inD_iff.1 h
  have h2 := Int.mul_ediv_add_emod d f
  have h3 := Int.emod_nonneg d (b := (f : Int)) (by omega)
  have h4 := Int.emod_lt_of_pos d (b := (f : Int)) (by omega)
  refine inD_iff.2 ⟨?_, ?_⟩
  · rw [Int.le_ediv_iff_mul_le (by omega)]
    have : (-4000000000 : Int) * (f : Int) ≤ -4000000000 * 1 := Int.mul_le_mul_of_nonpos_left (by omega) (by omega)
    omega
  · apply Int.le_of_lt_add_one
    rw [Int.ediv_lt_iff_lt_mul (by omega)]
    have : (4000000001 : Int) * 1 ≤ (4000000000 + 1) * (f : Int) := Int.mul_le_mul_of_nonneg_left (by omega) (by omega)
    omega
theorem nrm_ok {a b c d : Int} (h : eH a b c d = 0) : eH (a.tdiv (gcd3 a b c)) (b.tdiv (gcd3 a b c)) (c.tdiv (gcd3 a b c)) (d / (gcd3 a b c : Int)) = 0 ∧ gcd3 (a.tdiv (gcd3 a b c)) (b.tdiv (gcd3 a b c)) (c.tdiv (gcd3 a b c)) = 1 := by
  obtain ⟨hok, hz⟩ := eH_zero h
  obtain ⟨h1, h2, h3, h4⟩ := okF_iff.1 hok
  have h0 := zer_no hz
  have hg := gcd3_div (x := a) (y := b) (z := c) rfl h0
  refine ⟨eH_0 (okF_mk (nrm_abs h1) (nrm_abs h2) (nrm_abs h3) (fl_in h4 (by omega))) ?_, hg⟩
  cases hq : zer (a.tdiv (gcd3 a b c)) (b.tdiv (gcd3 a b c)) (c.tdiv (gcd3 a b c)) with
  | false => rfl
  | true =>
    simp only [zer, Bool.and_eq_true, beq_iff_eq] at hq
    obtain ⟨q1, q2, q3⟩ := hq
    rw [q1, q2, q3] at hg
    simp [gcd3] at hg
theorem normal_again {a b c d : Int} (h : eH a b c d = 0) :
    ∀ w, Calls Try.prog 28 #[.agg #[.int .i64 (a.tdiv (gcd3 a b c)), .int .i64 (b.tdiv (gcd3 a b c)), .int .i64 (c.tdiv (gcd3 a b c)), .int .i64 (d / (gcd3 a b c : Int))]] w fun e w' => e = .returned (.tuple #[.agg #[.int .i64 (a.tdiv (gcd3 a b c)), .int .i64 (b.tdiv (gcd3 a b c)), .int .i64 (c.tdiv (gcd3 a b c)), .int .i64 (d / (gcd3 a b c : Int))], .int .i64 0]) ∧ Below w.heap.size w w' := by
  intro w
  obtain ⟨h1, h2⟩ := nrm_ok h
  have := Normal_ok _ _ _ _ h1 w
  rw [h2, show ((1 : Nat) : Int) = 1 from rfl, Int.tdiv_one, Int.tdiv_one, Int.tdiv_one, Int.ediv_one] at this
  exact this
/-- a point lies in a half-space exactly if it lies in its normal form -/
theorem val_nrm {a b c d : Int} (h : eH a b c d = 0) (x y z : Int) : valS a b c d x y z ≤ 0 ↔ valS (a.tdiv (gcd3 a b c)) (b.tdiv (gcd3 a b c)) (c.tdiv (gcd3 a b c)) (d / (gcd3 a b c : Int)) x y z ≤ 0 := by
  obtain ⟨_, hz⟩ := eH_zero h
  have h0 := zer_no hz
  obtain ⟨d1, d2, d3⟩ := gcd3_dvd a b c
  have e1 := tdiv_mul d1
  have e2 := tdiv_mul d2
  have e3 := tdiv_mul d3
  generalize gcd3 a b c = g at *
  generalize a.tdiv g = p at *
  generalize b.tdiv g = q at *
  generalize c.tdiv g = r at *
  have hg : (0 : Int) < g := by omega
  have e : a * x + b * y + c * z = (p * x + q * y + r * z) * (g : Int) := by
    rw [← e1, ← e2, ← e3, Int.add_mul, Int.add_mul]
    simp only [Int.mul_assoc, Int.mul_comm]
  unfold valS
  have key := Int.le_ediv_iff_mul_le (a := p * x + q * y + r * z) (b := d) hg
  omega
theorem wth_eq (p q r s t u v o : Int) : (p == t && (q == u && (r == v && s == o))) = (wthB p q r s t u v o && wthB t u v o p q r s) := by
  rw [Bool.eq_iff_iff]
  simp only [wthB, Bool.and_eq_true, beq_iff_eq, decide_eq_true_eq]
  omega
theorem planePoints_any (a b c d k l m n x y z : Int) (w : World) :
    Calls Try.prog 9 #[.agg #[.int .i64 a, .int .i64 b, .int .i64 c, .int .i64 d], .agg #[.int .i64 k, .int .i64 l, .int .i64 m, .int .i64 n], .agg #[.int .i64 x, .int .i64 y, .int .i64 z]] w fun e w' => e = .returned (.bool true) ∧ Below w.heap.size w w' := by
  by_cases ha : eH a b c d = 0
  · have n1 := normal_in a b c d ha
    obtain ⟨hn, _⟩ := nrm_ok ha
    have h2 := Normal_ok a b c d ha
    have h3 := normal_again ha
    have hvn := val_nrm ha x y z
    have hsg : (valS a b c d x y z ≤ 0 ∧ valS (a.tdiv (gcd3 a b c)) (b.tdiv (gcd3 a b c)) (c.tdiv (gcd3 a b c)) (d / (gcd3 a b c : Int)) x y z ≤ 0) ∨ (0 < valS a b c d x y z ∧ 0 < valS (a.tdiv (gcd3 a b c)) (b.tdiv (gcd3 a b c)) (c.tdiv (gcd3 a b c)) (d / (gcd3 a b c : Int)) x y z) := by omega
    by_cases hb : eH k l m n = 0
    · have n2 := normal_in k l m n hb
      have hck := checkHalves_any a b c d k l m n
      rw [show eHH a b c d k l m n = 0 by simp [eHH, ha, hb]] at hck
      have hck2 := checkHalves_any k l m n a b c d
      rw [show eHH k l m n a b c d = 0 by simp [eHH, ha, hb]] at hck2
      have h6 := Within_gen a b c d k l m n _ _ _ _ _ _ _ _ hck n1 n2
      have h8 := Within_gen k l m n a b c d _ _ _ _ _ _ _ _ hck2 n2 n1
      have h9 := Equal_gen a b c d k l m n _ _ _ _ _ _ _ _ hck n1 n2
      rw [wth_eq] at h9
      cases hv : inV x y z
      · exact pp_out a b c d k l m n x y z _ _ _ _ _ _ _ _ _ _ _ h2 h3 (value_out a b c d x y z ha hv) (value_out _ _ _ _ x y z hn hv) h6 (value_out k l m n x y z hb hv) (.inl ⟨rfl, rfl, rfl⟩) (.inr ⟨rfl, by decide⟩) w
      · refine pp_ok a b c d k l m n x y z _ _ _ _ _ _ _ _ _ h2 h3 (value_ok a b c d x y z ha hv) (value_ok _ _ _ _ x y z hn hv) h6 (value_ok k l m n x y z hb hv) h8 h9 hsg (fun hI hle => ?_) w
        have hw := hvn.1 hle
        refine (val_nrm hb x y z).2 ?_
        simp only [wthB, Bool.and_eq_true, beq_iff_eq, decide_eq_true_eq] at hI
        obtain ⟨⟨i1, i2, i3⟩, i4⟩ := hI
        unfold valS at hw ⊢
        rw [i1, i2, i3] at hw
        omega
    · have h6 := Within_bad a b c d k l m n (by simp [eHH, ha, hb])
      rw [show eHH a b c d k l m n = eH k l m n by simp [eHH, ha]] at h6
      have h7 := value_bad k l m n x y z hb
      cases hv : inV x y z
      · exact pp_out a b c d k l m n x y z _ _ _ _ _ _ _ _ _ _ _ h2 h3 (value_out a b c d x y z ha hv) (value_out _ _ _ _ x y z hn hv) h6 h7 (.inl ⟨rfl, rfl, rfl⟩) (.inl hb) w
      · exact pp_out a b c d k l m n x y z _ _ _ _ _ _ _ _ _ _ _ h2 h3 (value_ok a b c d x y z ha hv) (value_ok _ _ _ _ x y z hn hv) h6 h7
          (hsg.elim (fun h => .inr (.inl ⟨rfl, h⟩)) (fun h => .inr (.inr ⟨rfl, h⟩))) (.inl hb) w
  · exact pp_bad a b c d k l m n x y z _ (Normal_bad a b c d ha) ha w

set_option maxHeartbeats 800000 in
set_option maxRecDepth 100000 in
theorem planePoints_lifted (os : Os) (started : os.Started) (H : Type) (enc : TypeId × Value → H) :
    ReturnsInHanded {} Try.checked os 9 .any (Rows.planePointsSpec.pre6 enc Try.prog Try.f9 Rows.planePointsRow.domain false) (Rows.planePointsSpec.post enc Try.prog Try.f9 false true false false) := by
  refine returnsInHanded_of_change (C := Try.checked) Try.own started (by kernel_rfl) Try.func9
    (ChangeSpec.witness6 (enc := enc) (C := Try.checked) false ⟨#[], #[.agg #[.int .i64 0, .int .i64 0, .int .i64 0, .int .i64 0], .agg #[.int .i64 0, .int .i64 0, .int .i64 0, .int .i64 0], .agg #[.int .i64 0, .int .i64 0, .int .i64 0]], []⟩ 8 (by kernel_rfl) (by kernel_rfl) (by kernel_rfl) (by kernel_rfl)) ?_
  intro W base args ds gs before hval0 hW _ _
  have hval : ∀ (j : Nat) t v, Try.f9.params[j]? = some t → args[j]? = some v → Value.okWide Try.prog W .any base t v := hval0
  have hW' := hW
  obtain ⟨p, q, hA0, hV, rfl, _, _⟩ := hW
  have hA : DataW.TrodAll enc Try.prog W 0 (fun _ => true) true Try.f9.params.toList args.toList ds p := hA0
  rw [Try.params9] at hA hval
  obtain ⟨v0, v1, v2, d0, d1, d2, p0, p1, p2, rfl, rfl, rfl, h0, h1, h2⟩ := trodAll_three hA
  obtain ⟨rfl, rfl⟩ := trodVars_none hV
  clear hA0 hval0
  simp only [List.append_nil] at hW'
  have harg0 : ∀ W' : World, Below W.heap.size W W' → DataW.Trod enc Try.prog W' 0 (fun b => decide (b < W.heap.size)) true 32 v0 d0 p0 :=
    fun W' hn => Below.trod Try.laidOut (by kernel_rfl) (of_decide_eq_true (by kernel_rfl)) h0 hn (fun y hy => by simpa using hW'.lt y (by simp [hy]))
  have harg1 : ∀ W' : World, Below W.heap.size W W' → DataW.Trod enc Try.prog W' 0 (fun b => decide (b < W.heap.size)) true 32 v1 d1 p1 :=
    fun W' hn => Below.trod Try.laidOut (by kernel_rfl) (of_decide_eq_true (by kernel_rfl)) h1 hn (fun y hy => by simpa using hW'.lt y (by simp [hy]))
  have harg2 : ∀ W' : World, Below W.heap.size W W' → DataW.Trod enc Try.prog W' 0 (fun b => decide (b < W.heap.size)) true 34 v2 d2 p2 :=
    fun W' hn => Below.trod Try.laidOut (by kernel_rfl) (of_decide_eq_true (by kernel_rfl)) h2 hn (fun y hy => by simpa using hW'.lt y (by simp [hy]))
  obtain ⟨a, b, c, d, rfl⟩ := open_half (hval 0 32 v0 rfl rfl) h0
  obtain ⟨k, l, m, n, rfl⟩ := open_half (hval 1 32 v1 rfl rfl) h1
  obtain ⟨x, y, z, rfl⟩ := open_vec (hval 2 34 v2 rfl rfl) h2
  refine (planePoints_any a b c d k l m n x y z W).mono fun e W' ⟨he, hn⟩ => ?_
  subst he
  exact ⟨_, rfl, _, _, _, [], _, [], hW', trodAll_mk1 (shut_bool Try.underlying4 _), trodAll_mk3 (harg0 _ hn) (harg1 _ hn) (harg2 _ hn), (List.append_nil _).symm, hn.frame _, fun h => by cases h⟩

theorem planePoints_holds : Rows.PlanePointsSaid :=
  OpenClaim.holds_of_wide 9 Try.f9 rfl rfl rfl rfl rfl rfl rfl ⟨rfl, rfl, rfl, rfl, rfl⟩ rfl rfl rfl rfl rfl (by kernel_rfl) Try.func9 (by kernel_rfl)
    (of_decide_eq_true (by kernel_rfl)) (by unfold Func.isWrapper; first | (rw [if_pos (by decide +kernel)]; kernel_rfl) | (rw [if_neg (by decide +kernel)]; exact ⟨rfl, rfl⟩))
    (fun os started H enc _ => planePoints_lifted os started H enc)
end Go.Proofs.Ytoeniaafcnnnoaa
