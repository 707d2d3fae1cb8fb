/- The walks of plane's Check and of the reference's. No condition. -/
import Derived.Test.YtoeniaafcnnnoaaSma
namespace Go.Proofs.Ytoeniaafcnnnoaa
open Go.RowKit

def inD (n : Int) : Bool := decide (-4000000000 ≤ n) && decide (n ≤ 4000000000)
theorem inD_iff {n : Int} : inD n = true ↔ (-4000000000 ≤ n ∧ n ≤ 4000000000) := by simp [inD]
theorem inD_no {n : Int} : inD n = false ↔ (n < -4000000000 ∨ 4000000000 < n) := by rw [← Bool.not_eq_true, inD_iff]; omega
def okF (a b c d : Int) : Bool := inF a && inF b && inF c && inD d
def zer (a b c : Int) : Bool := a == 0 && (b == 0 && c == 0)
def eH (a b c d : Int) : Int := if okF a b c d then (if zer a b c then 1 else 0) else 6
theorem eH_a {a b c d : Int} (h : inF a = false) : eH a b c d = 6 := by simp [eH, okF, h]
theorem eH_b {a b c d : Int} (h : inF b = false) : eH a b c d = 6 := by simp [eH, okF, h]
theorem eH_c {a b c d : Int} (h : inF c = false) : eH a b c d = 6 := by simp [eH, okF, h]
theorem eH_d {a b c d : Int} (h : inD d = false) : eH a b c d = 6 := by simp [eH, okF, h]
theorem okF_mk {a b c d : Int} (ha : inF a = true) (hb : inF b = true) (hc : inF c = true) (hd : inD d = true) : okF a b c d = true := by simp [okF, ha, hb, hc, hd]
theorem okF_iff {a b c d : Int} : okF a b c d = true ↔ (inF a = true ∧ inF b = true ∧ inF c = true ∧ inD d = true) := by simp [okF, and_assoc]
theorem eH_1 {a b c d : Int} (h : okF a b c d = true) (hz : zer a b c = true) : eH a b c d = 1 := by simp [eH, h, hz]
theorem eH_0 {a b c d : Int} (h : okF a b c d = true) (hz : zer a b c = false) : eH a b c d = 0 := by simp [eH, h, hz]
theorem eH_6 {a b c d : Int} (h : okF a b c d = false) : eH a b c d = 6 := by simp [eH, h]
theorem eH_zero {a b c d : Int} (h : eH a b c d = 0) : okF a b c d = true ∧ zer a b c = false := by
  unfold eH at h
  cases h1 : okF a b c d <;> cases h2 : zer a b c <;> simp [h1, h2] at h ⊢
set_option maxHeartbeats 1000000 in
set_option maxRecDepth 100000 in
theorem eqF3 (a b c p q r : Int) (w : World) : Sem.run Try.prog (binOp .eql 85 (.agg #[.int .i64 a, .int .i64 b, .int .i64 c]) (.agg #[.int .i64 p, .int .i64 q, .int .i64 r])) w =
    .ok (.bool (a == p && (b == q && c == r))) w := by
  have u3 := Try.underlying3
  have a3 := Try.isAgg3
  have z3 := Try.sizeOf3
  have hc : Try.prog.cellsOf 3 = 1 := by kernel_rfl
  rw [run_eql_struct, show (10000 : Nat) = 9998 + 1 + 1 from rfl, run_equalIn_array w 9999 _ _ Try.underlying85 Try.type3, hc]
  simp only [show List.range 3 = [0, 1, 2] from rfl, Op.eqItems]
  go_simp
  by_cases h1 : a = p <;> by_cases h2 : b = q <;> by_cases h3 : c = r <;> simp [h1, h2, h3]

set_option maxHeartbeats 2000000 in
theorem pcheck_any (a b c d : Int) (w : World) :
    Calls Try.prog 19 #[.agg #[.int .i64 a, .int .i64 b, .int .i64 c, .int .i64 d]] w fun e w' => e = .returned (.int .i64 (eH a b c d)) ∧ Below w.heap.size w w' := by
  have hq := eqF3 a b c 0 0 0
  rw [show (a == 0 && (b == 0 && c == 0)) = zer a b c from rfl] at hq
  have i0 : ∀ w, (Instr.index 85 (.agg #[.int .i64 a, .int .i64 b, .int .i64 c]) (.int .i64 0)).run Try.prog w = .ok (.int .i64 a) w := fun _ => by kernel_rfl
  have i1 : ∀ w, (Instr.index 85 (.agg #[.int .i64 a, .int .i64 b, .int .i64 c]) (.int .i64 1)).run Try.prog w = .ok (.int .i64 b) w := fun _ => by kernel_rfl
  have i2 : ∀ w, (Instr.index 85 (.agg #[.int .i64 a, .int .i64 b, .int .i64 c]) (.int .i64 2)).run Try.prog w = .ok (.int .i64 c) w := fun _ => by kernel_rfl
  go_enter Try.func19, Try.ntmps19
  go_wp2_with (go_at_call 52; refine (factors_any _ _ _ _ _).mono ?_; rintro e w1 ⟨rfl, hb1⟩; obtain ⟨hc1, hf1⟩ := bcell hb1; have hz1 := hb1.size; (try simp at hz1); (try have y10 : w.heap.size < w1.heap.size := (by omega)); (try have y10p : w.heap.size < w1.heap.size + 1 := (by omega)); (try have y11 : w.heap.size + 1 < w1.heap.size := (by omega)); (try have y11p : w.heap.size + 1 < w1.heap.size + 1 := (by omega)); (try have v0x1 : w0.heap.size < w1.heap.size := (by omega)); (try have v0x1p : w0.heap.size < w1.heap.size + 1 := (by omega)))
  have hbw : Below w.heap.size w (w1.alloc (.cells #[.int .i64 a, .int .i64 b, .int .i64 c] 85)) := (((Below.refl _ _).alloc (Nat.le_refl _) _).trans (bmono hb1 (by simp))).alloc (by omega) _
  clear hb1
  go_loop [9] (fun i => i = .int .i64 0 ∨ (i = .int .i64 1 ∧ inF a = true) ∨ (i = .int .i64 2 ∧ inF a = true ∧ inF b = true) ∨ (i = .int .i64 3 ∧ inF a = true ∧ inF b = true ∧ inF c = true)) (fun i => 3 - (intOf i).toNat)
  case atStart => exact .inl rfl
  case round =>
    obtain rfl | ⟨rfl, ha⟩ | ⟨rfl, ha, hb⟩ | ⟨rfl, ha, hb, hc⟩ := hrel
    · by_cases h1 : a < -1000
      · go_wp2
        go_ret
        exact ⟨ret_int (eH_a (inF_no.2 (.inl h1))).symm, hbw⟩
      · by_cases h2 : 1000 < a
        · go_wp2
          go_ret
          exact ⟨ret_int (eH_a (inF_no.2 (.inr h2))).symm, hbw⟩
        · go_wp2
          go_round
          case rel => exact .inr (.inl ⟨by go_num, inF_iff.2 (by omega)⟩)
          case measure => simp [intOf] <;> omega
    · by_cases h1 : b < -1000
      · go_wp2
        go_ret
        exact ⟨ret_int (eH_b (inF_no.2 (.inl h1))).symm, hbw⟩
      · by_cases h2 : 1000 < b
        · go_wp2
          go_ret
          exact ⟨ret_int (eH_b (inF_no.2 (.inr h2))).symm, hbw⟩
        · go_wp2
          go_round
          case rel => exact .inr (.inr (.inl ⟨by go_num, ha, inF_iff.2 (by omega)⟩))
          case measure => simp [intOf] <;> omega
    · by_cases h1 : c < -1000
      · go_wp2
        go_ret
        exact ⟨ret_int (eH_c (inF_no.2 (.inl h1))).symm, hbw⟩
      · by_cases h2 : 1000 < c
        · go_wp2
          go_ret
          exact ⟨ret_int (eH_c (inF_no.2 (.inr h2))).symm, hbw⟩
        · go_wp2
          go_round
          case rel => exact .inr (.inr (.inr ⟨by go_num, ha, hb, inF_iff.2 (by omega)⟩))
          case measure => simp [intOf] <;> omega
    · by_cases h1 : d < -4000000000
      · go_wp2
        go_ret
        exact ⟨ret_int (eH_d (inD_no.2 (.inl h1))).symm, hbw⟩
      · by_cases h2 : 4000000000 < d
        · go_wp2
          go_ret
          exact ⟨ret_int (eH_d (inD_no.2 (.inr h2))).symm, hbw⟩
        · have hok : okF a b c d = true := okF_mk ha hb hc (inD_iff.2 (by omega))
          clear ha hb hc
          cases hz : zer a b c
          · rw [hz] at hq
            have E := eH_0 hok hz
            clear hz hok
            have HE := Lib.hid E
            clear E
            go_wp2
            go_ret
            exact ⟨ret_int HE.out.symm, hbw⟩
          · rw [hz] at hq
            have E := eH_1 hok hz
            clear hz hok
            have HE := Lib.hid E
            clear E
            go_wp2
            go_ret
            exact ⟨ret_int HE.out.symm, hbw⟩

set_option maxHeartbeats 2000000 in
theorem rcheck_any (a b c d : Int) (w : World) :
    Calls Try.prog 20 #[.agg #[.int .i64 a, .int .i64 b, .int .i64 c, .int .i64 d]] w fun e w' => e = .returned (.int .i64 (eH a b c d)) ∧ Below w.heap.size w w' := by
  have fa := factor_any a
  have fb := factor_any b
  have fc := factor_any c
  cases ha : inF a
  · rw [ha] at fa
    have HE := Lib.hid (eH_a (b := b) (c := c) (d := d) ha)
    clear ha fb fc
    go_enter Try.func20, Try.ntmps20
    go_wp2_with (go_at_call 53; refine (fa _).mono ?_; rintro e w' ⟨rfl, rfl⟩)
    go_ret
    exact ⟨ret_int HE.out.symm, (Below.refl _ _).alloc (Nat.le_refl _) _⟩
  rw [ha] at fa
  cases hb : inF b
  · rw [hb] at fb
    have HE := Lib.hid (eH_b (a := a) (c := c) (d := d) hb)
    clear ha hb fc
    go_enter Try.func20, Try.ntmps20
    go_wp2_with (first | (go_at_call_of 53 a; refine (fa _).mono ?_; rintro e w' ⟨rfl, rfl⟩) | (go_at_call_of 53 b; refine (fb _).mono ?_; rintro e w' ⟨rfl, rfl⟩))
    go_ret
    exact ⟨ret_int HE.out.symm, (Below.refl _ _).alloc (Nat.le_refl _) _⟩
  rw [hb] at fb
  cases hc : inF c
  · rw [hc] at fc
    have HE := Lib.hid (eH_c (a := a) (b := b) (d := d) hc)
    clear ha hb hc
    go_enter Try.func20, Try.ntmps20
    go_wp2_with (first | (go_at_call_of 53 a; refine (fa _).mono ?_; rintro e w' ⟨rfl, rfl⟩) | (go_at_call_of 53 b; refine (fb _).mono ?_; rintro e w' ⟨rfl, rfl⟩) | (go_at_call_of 53 c; refine (fc _).mono ?_; rintro e w' ⟨rfl, rfl⟩))
    go_ret
    exact ⟨ret_int HE.out.symm, (Below.refl _ _).alloc (Nat.le_refl _) _⟩
  rw [hc] at fc
  have HE : Hid (eH a b c d = if inD d then (if zer a b c then 1 else 0) else 6) := Lib.hid (by simp [eH, okF, ha, hb, hc])
  clear ha hb hc
  go_enter Try.func20, Try.ntmps20
  go_wp2_with (first | (go_at_call_of 53 a; refine (fa _).mono ?_; rintro e w' ⟨rfl, rfl⟩) | (go_at_call_of 53 b; refine (fb _).mono ?_; rintro e w' ⟨rfl, rfl⟩) | (go_at_call_of 53 c; refine (fc _).mono ?_; rintro e w' ⟨rfl, rfl⟩))
  all_goals go_ret
  all_goals refine ⟨ret_int ?_, (Below.refl _ _).alloc (Nat.le_refl _) _⟩
  all_goals rw [HE.out]
  all_goals simp_all [inD, zer]
  all_goals omega
end Go.Proofs.Ytoeniaafcnnnoaa
