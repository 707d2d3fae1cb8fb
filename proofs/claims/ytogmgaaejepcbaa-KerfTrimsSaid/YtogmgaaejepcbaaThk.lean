/- The walks of kerf's and the reference's Thickest. -/
import Derived.Test.YtogmgaaejepcbaaLos
namespace Go.Proofs.Ytogmgaaejepcbaa
open Go.RowKit

def thD (l s k : Int) : Int := if l - (s - 1) * k < 0 then 0 else (l - (s - 1) * k) / s
theorem tdiv_neg_le {n s : Int} (hn : n < 0) (hs : 0 < s) (hb : -2000000 ≤ n) : -2000000 ≤ n.tdiv s ∧ n.tdiv s ≤ 0 := by
  have h1 : (n.tdiv s).natAbs ≤ n.natAbs := by rw [Int.natAbs_tdiv]; exact Nat.div_le_self _ _
  have h2 : n.tdiv s ≤ 0 := by
    have := Int.tdiv_nonneg (a := -n) (b := s) (by omega) (by omega)
    rw [Int.neg_tdiv] at this
    omega
  omega
theorem ediv_bd {n s : Int} (hn : 0 ≤ n) (hs : 0 < s) (hb : n ≤ 2000000) : 0 ≤ n / s ∧ n / s ≤ 2000000 := by
  have h1 := Int.ediv_nonneg hn (by omega : 0 ≤ s)
  have h2 : n / s ≤ n := Int.ediv_le_self _ hn
  omega
set_option maxHeartbeats 2000000 in
theorem rThick_any (l s k : Int) (i1 : 1 ≤ l ∧ l ≤ 2000000) (i2 : 1 ≤ s ∧ s ≤ 1000) (i3 : 0 ≤ k ∧ k ≤ 1000) (w : World) :
    Calls Try.prog 27 #[.int .i64 l, .int .i64 s, .int .i64 k] w fun e w' => e = .returned (.int .i64 (thD l s k)) ∧ w = w' := by
  have hpb := mul_bd (a := s - 1) (b := k) (A := 999) (B := 1000) (by omega) (by omega) i3.1 i3.2
  obtain ⟨P, hP⟩ : ∃ P, (s - 1) * k = P := ⟨_, rfl⟩
  rw [hP] at hpb
  have hs0 : 0 < s := by omega
  have hs1 : s ≠ 0 := by omega
  unfold thD
  rw [hP]
  by_cases h : l - P < 0
  · rw [if_pos h]
    go_enter Try.func27, Try.ntmps27
    go_wp2
    go_ret
    exact ⟨rfl, rfl⟩
  · rw [if_neg h]
    have hd := ediv_bd (n := l - P) (s := s) (by omega) hs0 (by omega)
    have hge : 0 ≤ l - P := by omega
    go_enter Try.func27, Try.ntmps27
    go_wp2
    go_ret
    exact ⟨rfl, rfl⟩
def thOk (l s k : Int) : Bool := rgB 1 2000000 l && (rgB 1 1000 s && rgB 0 1000 k)
set_option maxHeartbeats 2000000 in
theorem Thick_ok (l s k : Int) (ho : thOk l s k = true) (w : World) :
    Calls Try.prog 23 #[.int .i64 l, .int .i64 s, .int .i64 k] w fun e w' => e = .returned (.tuple #[.int .i64 (if thD l s k < 1 then 0 else thD l s k), .int .i64 (if thD l s k < 1 then 9 else 0)]) ∧ w = w' := by
  have h1 := isLen_any l
  have h3 := isKerf_any k
  unfold thOk at ho
  simp only [Bool.and_eq_true] at ho
  obtain ⟨e1, e2, e3⟩ := ho
  have i1 := rgB_iff.1 e1
  have i2 := rgB_iff.1 e2
  have i3 := rgB_iff.1 e3
  rw [e1] at h1
  rw [e3] at h3
  clear e1 e2 e3
  have hpb := mul_bd (a := s - 1) (b := k) (A := 999) (B := 1000) (by omega) (by omega) i3.1 i3.2
  obtain ⟨P, hP⟩ : ∃ P, (s - 1) * k = P := ⟨_, rfl⟩
  rw [hP] at hpb
  have hs0 : 0 < s := by omega
  have hs1 : s ≠ 0 := by omega
  unfold thD
  rw [hP]
  by_cases h : l - P < 0
  · rw [if_pos h]
    have hd := tdiv_neg_le (n := l - P) (s := s) h hs0 (by omega)
    go_enter Try.func23, Try.ntmps23
    go_wp2_with (first | (go_at_call 48; refine (h1 _).mono ?_; rintro e w' ⟨rfl, rfl⟩) | (go_at_call 46; refine (h3 _).mono ?_; rintro e w' ⟨rfl, rfl⟩))
    all_goals (go_ret2; first | exact ⟨rfl, rfl⟩ | (exfalso; omega))
  · rw [if_neg h]
    have hge : 0 ≤ l - P := by omega
    have hd := ediv_bd (n := l - P) (s := s) (by omega) hs0 (by omega)
    by_cases hz : (l - P) / s < 1
    · rw [if_pos hz, if_pos hz]
      go_enter Try.func23, Try.ntmps23
      go_wp2_with (first | (go_at_call 48; refine (h1 _).mono ?_; rintro e w' ⟨rfl, rfl⟩) | (go_at_call 46; refine (h3 _).mono ?_; rintro e w' ⟨rfl, rfl⟩))
      go_ret2
      exact ⟨rfl, rfl⟩
    · rw [if_neg hz, if_neg hz]
      go_enter Try.func23, Try.ntmps23
      go_wp2_with (first | (go_at_call 48; refine (h1 _).mono ?_; rintro e w' ⟨rfl, rfl⟩) | (go_at_call 46; refine (h3 _).mono ?_; rintro e w' ⟨rfl, rfl⟩))
      go_ret2
      exact ⟨rfl, rfl⟩
set_option maxHeartbeats 2000000 in
theorem Thick_bad (l s k : Int) (ho : thOk l s k = false) (w : World) :
    Calls Try.prog 23 #[.int .i64 l, .int .i64 s, .int .i64 k] w fun e w' => e = .returned (.tuple #[.int .i64 0, .int .i64 6]) ∧ w = w' := by
  have h1 := isLen_any l
  have h3 := isKerf_any k
  cases e1 : rgB 1 2000000 l
  · rw [e1] at h1
    clear e1 h3 ho
    go_enter Try.func23, Try.ntmps23
    go_wp2_with (go_at_call 48; refine (h1 _).mono ?_; rintro e w' ⟨rfl, rfl⟩)
    go_ret2
    exact ⟨rfl, rfl⟩
  · cases e2 : rgB 1 1000 s
    · rw [e1] at h1
      have i2 := rgB_no.1 e2
      clear e1 e2 h3 ho
      rcases i2 with i2 | i2
      all_goals
        go_enter Try.func23, Try.ntmps23
        go_wp2_with (go_at_call 48; refine (h1 _).mono ?_; rintro e w' ⟨rfl, rfl⟩)
        go_ret2
        exact ⟨rfl, rfl⟩
    · cases e3 : rgB 0 1000 k
      · rw [e1] at h1
        rw [e3] at h3
        have i2 := rgB_iff.1 e2
        clear e1 e2 e3 ho
        obtain ⟨i2, i3⟩ := i2
        go_enter Try.func23, Try.ntmps23
        go_wp2_with (first | (go_at_call 48; refine (h1 _).mono ?_; rintro e w' ⟨rfl, rfl⟩) | (go_at_call 46; refine (h3 _).mono ?_; rintro e w' ⟨rfl, rfl⟩))
        go_ret2
        exact ⟨rfl, rfl⟩
      · simp [thOk, e1, e2, e3] at ho
end Go.Proofs.Ytogmgaaejepcbaa
