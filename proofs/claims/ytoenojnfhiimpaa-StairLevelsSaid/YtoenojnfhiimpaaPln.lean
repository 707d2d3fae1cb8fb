/- The walk of stair's planned. The flight's number of rises, its rise and the length are in the range in which Plan calls it. -/
import Derived.Test.YtoenojnfhiimpaaFit
import Derived.Test.YtoenojnfhiimpaaPl1
namespace Go.Proofs.Ytoenojnfhiimpaa
open Go.RowKit

set_option maxHeartbeats 4000000 in
set_option maxRecDepth 100000 in
theorem rise_big (n r x g wd l i : Int) (w : World) (h1 : 0 ≤ r) (h2 : r ≤ 1000000) :
    Calls Try.prog 43 #[.agg #[.int .i64 n, .int .i64 r, .int .i64 x, .int .i64 g, .int .i64 wd, .int .i64 l], .int .i64 i] w fun e w' => e = .returned (.int .i64 (rsI r x i)) ∧ Below w.heap.size w w' := by
  go_enter Try.func43, Try.ntmps43
  go_wp2
  all_goals (go_ret; refine ⟨ret_int (by unfold rsI; simp_all <;> omega), (Below.refl _ _).alloc (Nat.le_refl _) _⟩)
set_option maxHeartbeats 4000000 in
set_option maxRecDepth 100000 in
theorem grise_big (n r x g wd l : Int) (w : World) (h1 : 0 ≤ r) (h2 : r ≤ 1000000) :
    Calls Try.prog 35 #[.agg #[.int .i64 n, .int .i64 r, .int .i64 x, .int .i64 g, .int .i64 wd, .int .i64 l]] w fun e w' => e = .returned (.int .i64 (rsI r x 0)) ∧ Below w.heap.size w w' := by
  go_enter Try.func35, Try.ntmps35
  go_wp2_with (go_at_call 43; refine (rise_big _ _ _ _ _ _ _ _ h1 h2).mono ?_; rintro e w1 ⟨rfl, hb1⟩)
  go_ret
  exact ⟨rfl, ((Below.refl _ _).alloc (Nat.le_refl _) _).trans (bmono hb1 (by simp <;> omega))⟩
def mn3 (a b c : Int) : Int := if c < (if b < a then b else a) then c else (if b < a then b else a)
theorem rsI_big {r x : Int} (h1 : 0 ≤ r) (h2 : r ≤ 1000000) : 0 ≤ rsI r x 0 ∧ rsI r x 0 ≤ 1000001 := by unfold rsI; split <;> omega
/-- the going that planned chooses -/
def plG (d q n r x L : Int) : Int := mn3 (L / n) d (q - 2 * rsI r x 0)
def plOk (a b c d p q n r x wd l L : Int) : Bool := decide (fitE a b c d p q n r x (plG d q n r x L) wd l = 0)
set_option maxHeartbeats 4000000 in
set_option maxRecDepth 100000 in
theorem planned_any (a b c d p q n r x g0 wd l L : Int) (h1 : 0 ≤ r) (h2 : r ≤ 1000000) (hn : 1 ≤ n) (hn2 : n ≤ 64) (hL : 1 ≤ L) (hL2 : L ≤ 640000) (hq : 1 ≤ q) (hq2 : q ≤ 30000) (w : World) :
    Calls Try.prog 41 #[.agg #[.int .i64 a, .int .i64 b, .int .i64 c, .int .i64 d, .int .i64 p, .int .i64 q], .agg #[.int .i64 n, .int .i64 r, .int .i64 x, .int .i64 g0, .int .i64 wd, .int .i64 l], .int .i64 L] w fun e w' => e = .returned (if plOk a b c d p q n r x wd l L = true then .agg #[.int .i64 n, .int .i64 r, .int .i64 x, .int .i64 (plG d q n r x L), .int .i64 wd, .int .i64 l] else .agg #[.int .i64 0, .int .i64 0, .int .i64 0, .int .i64 0, .int .i64 0, .int .i64 0]) ∧ Below w.heap.size w w' := by
  have hgr := fun W => grise_big n r x g0 wd l W h1 h2
  have hrb := rsI_big (x := x) h1 h2
  have hft := fun W => fits_any a b c d p q n r x (plG d q n r x L) wd l W
  have hdv : L.tdiv n = L / n := Int.tdiv_eq_ediv_of_nonneg (by omega)
  have hdl : 0 ≤ L / n := Int.ediv_nonneg (by omega) (by omega)
  have hdu : L / n ≤ L := Int.ediv_le_self _ (by omega)
  have hW : IntKind.i64.wrap (L.tdiv n) = L / n := by rw [hdv]; exact IntWalk.i64_in _ (by omega)
  have hW2 : IntKind.i64.wrap (q - 2 * rsI r x 0) = q - 2 * rsI r x 0 := IntWalk.i64_in _ (by omega)
  have hW3 : IntKind.i64.wrap (2 * rsI r x 0) = 2 * rsI r x 0 := IntWalk.i64_in _ (by omega)
  by_cases h : fitE a b c d p q n r x (plG d q n r x L) wd l = 0
  · rw [if_pos (show plOk a b c d p q n r x wd l L = true by simp [plOk, h])]
    exact planned_ok a b c d p q n r x g0 wd l L _ _ _ _ _ _ (by omega) hW hW3 hW2 rfl (by simpa using h) hgr hft w
  · rw [if_neg (show ¬ plOk a b c d p q n r x wd l L = true by simp [plOk, h])]
    exact planned_bad a b c d p q n r x g0 wd l L _ _ _ _ _ _ (by omega) hW hW3 hW2 rfl (by simpa using h) hgr hft w
end Go.Proofs.Ytoenojnfhiimpaa
