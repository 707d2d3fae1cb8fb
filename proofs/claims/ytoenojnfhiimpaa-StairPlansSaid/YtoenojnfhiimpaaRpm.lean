/- The walk of the reference's Plan. No condition. -/
import Derived.Test.YtoenojnfhiimpaaPla
import Derived.Test.YtoenojnfhiimpaaKep
namespace Go.Proofs.Ytoenojnfhiimpaa
open Go.RowKit

/-- a going with which a flight is valid and keeps the rule -/
def okG (a b c d p q n r x wd l g : Int) : Prop := vldB n r x g wd l = true ∧ keepE a b c d p q r x g = 0
theorem keepE_three (a b c d p q r x g : Int) : keepE a b c d p q r x g = 0 ∨ keepE a b c d p q r x g = 6 ∨ keepE a b c d p q r x g = 10 := by
  unfold keepE; split
  · simp
  · split <;> simp
theorem keepE_zero {a b c d p q r x g : Int} (h : keepE a b c d p q r x g = 0) : a ≤ r ∧ r ≤ b ∧ a ≤ rsI r x 0 ∧ rsI r x 0 ≤ b ∧ c ≤ g ∧ g ≤ d ∧ p ≤ 2 * r + g ∧ 2 * r + g ≤ q ∧ p ≤ 2 * rsI r x 0 + g ∧ 2 * rsI r x 0 + g ≤ q := by
  unfold keepE at h
  split at h
  · cases h
  · rename_i h1
    split at h
    · cases h
    · rename_i h2
      have e1 : inB r a b = true := by revert h1; cases inB r a b <;> simp
      have e2 : inB (rsI r x 0) a b = true := by revert h1; cases inB (rsI r x 0) a b <;> simp
      have e3 : inB g c d = true := by revert h1; cases inB g c d <;> simp
      have e4 : inB (2 * r + g) p q = true := by revert h2; cases inB (2 * r + g) p q <;> simp
      have e5 : inB (2 * rsI r x 0 + g) p q = true := by revert h2; cases inB (2 * rsI r x 0 + g) p q <;> simp
      have := inB_iff.1 e1; have := inB_iff.1 e2; have := inB_iff.1 e3; have := inB_iff.1 e4; have := inB_iff.1 e5
      omega
theorem rs_near (r x : Int) : r ≤ rsI r x 0 ∧ rsI r x 0 ≤ r + 1 := by unfold rsI; split <;> omega
theorem okG_more {a b c d p q n r x wd l g g' : Int} (h : okG a b c d p q n r x wd l g) (h1 : g ≤ g') (h2 : g' ≤ d) (h3 : d ≤ 10000) (h4 : g' ≤ q - 2 * rsI r x 0) : okG a b c d p q n r x wd l g' := by
  obtain ⟨hv, hk⟩ := h
  have := vldB_iff.1 hv
  have := keepE_zero hk
  have := rs_near r x
  exact ⟨vldB_iff.2 (by omega), keep_ok (inB_iff.2 (by omega)) (inB_iff.2 (by omega)) (inB_iff.2 (by omega)) (inB_iff.2 (by omega)) (inB_iff.2 (by omega))⟩
theorem okG_less {a b c d p q n r x wd l g g' : Int} (h : okG a b c d p q n r x wd l g) (h1 : g ≤ g') (h2 : g' ≤ d) (h3 : d ≤ 10000) : vldB n r x g' wd l = true ∧ keepE a b c d p q r x g' ≠ 6 := by
  obtain ⟨hv, hk⟩ := h
  have := vldB_iff.1 hv
  have hz := keepE_zero hk
  refine ⟨vldB_iff.2 (by omega), fun h6 => ?_⟩
  unfold keepE at h6
  split at h6
  · rename_i h
    rcases h with h | h | h <;> (have := inB_no.1 h; omega)
  · split at h6 <;> cases h6
theorem mn3_le (a b c : Int) : mn3 a b c ≤ (if b < a then b else a) ∧ mn3 a b c ≤ c ∧ (mn3 a b c = (if b < a then b else a) ∨ mn3 a b c = c) := by unfold mn3; split <;> split <;> omega
theorem plOk_iff {a b c d p q n r x wd l L : Int} (hc : chkE a b c d p q = 0) : plOk a b c d p q n r x wd l L = true ↔ okG a b c d p q n r x wd l (plG d q n r x L) := by
  unfold plOk okG fitE
  simp only [hc, decide_eq_true_eq, if_true, flE_ok]
  by_cases hv : vldB n r x (plG d q n r x L) wd l = true
  · simp [hv]
  · simp only [hv, if_false, false_and, iff_false, Bool.false_eq_true]
    exact fun h => hv (flE_ok.1 h)
theorem plOk_found {a b c d p q n r x wd l L g : Int} (hc : chkE a b c d p q = 0) (hd : d ≤ 10000) (hg : g ≤ (if d < L / n then d else L / n)) (hn : ∀ g', g < g' → g' ≤ (if d < L / n then d else L / n) → ¬ okG a b c d p q n r x wd l g') (h : okG a b c d p q n r x wd l g) :
    plOk a b c d p q n r x wd l L = true ∧ plG d q n r x L = g := by
  have hm := mn3_le (L / n) d (q - 2 * rsI r x 0)
  have hz := keepE_zero h.2
  have hG : plG d q n r x L = g := by
    show mn3 (L / n) d (q - 2 * rsI r x 0) = g
    rcases Int.lt_trichotomy (mn3 (L / n) d (q - 2 * rsI r x 0)) g with h1 | h1 | h1
    · rcases hm.2.2 with e | e <;> omega
    · exact h1
    · refine absurd (okG_more h (by omega) ?_ hd (by omega)) (hn _ h1 hm.1)
      have := hm.1; split at this <;> omega
  exact ⟨(plOk_iff hc).2 (by rw [hG]; exact h), hG⟩
theorem plOk_none {a b c d p q n r x wd l L : Int} (hc : chkE a b c d p q = 0) (hn : ∀ g', g' ≤ (if d < L / n then d else L / n) → ¬ okG a b c d p q n r x wd l g') : plOk a b c d p q n r x wd l L = false := by
  rw [← Bool.not_eq_true, plOk_iff hc]
  exact hn _ (mn3_le (L / n) d (q - 2 * rsI r x 0)).1
end Go.Proofs.Ytoenojnfhiimpaa
