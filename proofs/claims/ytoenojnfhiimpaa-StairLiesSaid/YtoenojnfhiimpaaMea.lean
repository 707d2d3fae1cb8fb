/- Height, Level and Spread of stair, put together. No condition. -/
import Derived.Test.YtoenojnfhiimpaaHgt
import Derived.Test.YtoenojnfhiimpaaLv2
import Derived.Test.YtoenojnfhiimpaaSto
import Derived.Test.YtoenojnfhiimpaaRfs
import Derived.Test.YtoenojnfhiimpaaKep
import Derived.Test.YtoenojnfhiimpaaRcm
namespace Go.Proofs.Ytoenojnfhiimpaa
open Go.RowKit

def hgtV (n r x g wd l : Int) : Value := if vldB n r x g wd l = true then .tuple #[.int .i64 (lvl r x n.toNat), .int .i64 (n * g), .int .i64 0] else .tuple #[.int .i64 0, .int .i64 0, .int .i64 1]
def levV (n r x g wd l k : Int) : Value := if vldB n r x g wd l = true then (if inB k 0 (n - 1) = true then .tuple #[.int .i64 (lvl r x (k + 1).toNat), .int .i64 0] else .tuple #[.int .i64 0, .int .i64 9]) else .tuple #[.int .i64 0, .int .i64 1]
def sprV (n r x g wd l t : Int) : Value := if vldB n r x g wd l = true then (if inB t 0 1000 = true then .tuple #[.agg #[.int .i64 (lvl r x n.toNat - n * t), .int .i64 (lvl r x n.toNat + n * t)], .int .i64 0] else .tuple #[.agg #[.int .i64 0, .int .i64 0], .int .i64 6]) else .tuple #[.agg #[.int .i64 0, .int .i64 0], .int .i64 1]
theorem flE_bad {n r x g w l : Int} (h : ¬ vldB n r x g w l = true) : flE n r x g w l = 1 := if_neg h
theorem level_int (n r x g wd l j : Int) (hj : -1 ≤ j) (hj2 : j ≤ 999) (h1 : 1 ≤ r) (h2 : r ≤ 10000) (w : World) :
    Calls Try.prog 38 #[.agg #[.int .i64 n, .int .i64 r, .int .i64 x, .int .i64 g, .int .i64 wd, .int .i64 l], .int .i64 j] w fun e w' => e = .returned (.int .i64 (lvl r x (j + 1).toNat)) ∧ Below w.heap.size w w' := by
  have h := level_any n r x g wd l (j + 1).toNat (by omega) h1 h2 w
  rwa [show (((j + 1).toNat : Nat) : Int) - 1 = j by omega] at h
theorem rlevel_int (n r x g wd l j : Int) (hj : -1 ≤ j) (hj2 : j ≤ 999) (h1 : 1 ≤ r) (h2 : r ≤ 10000) (w : World) :
    Calls Try.prog 19 #[.agg #[.int .i64 n, .int .i64 r, .int .i64 x, .int .i64 g, .int .i64 wd, .int .i64 l], .int .i64 j] w fun e w' => e = .returned (.int .i64 (lvl r x (j + 1).toNat)) ∧ Below w.heap.size w w' := by
  have h := rlevel_any n r x g wd l (j + 1).toNat (by omega) h1 h2 w
  rwa [show (((j + 1).toNat : Nat) : Int) - 1 = j by omega] at h
theorem height_any (n r x g wd l : Int) (w : World) : Calls Try.prog 16 #[.agg #[.int .i64 n, .int .i64 r, .int .i64 x, .int .i64 g, .int .i64 wd, .int .i64 l]] w fun e w' => e = .returned (hgtV n r x g wd l) ∧ Below w.heap.size w w' := by
  have hcf := checkFlight_any n r x g wd l
  unfold hgtV
  by_cases hv : vldB n r x g wd l = true
  · rw [if_pos hv]
    rw [flE_ok.2 hv] at hcf
    have hb := vldB_iff.1 hv
    have hm := mul_bd (a := n) (b := g) (A := 64) (B := 10000) (by omega) (by omega) (by omega) (by omega)
    have hl := level_int n r x g wd l (n - 1) (by omega) (by omega) (by omega) (by omega)
    rw [show n - 1 + 1 = n by omega] at hl
    exact height_ok n r x g wd l (n - 1) (n * g) (lvl r x n.toNat) (IntWalk.i64_in _ (by omega)) (IntWalk.i64_in _ (by omega)) hcf hl w
  · rw [if_neg hv]
    rw [flE_bad hv] at hcf
    exact height_bad n r x g wd l hcf w
theorem slevel_any (n r x g wd l k : Int) (w : World) : Calls Try.prog 17 #[.agg #[.int .i64 n, .int .i64 r, .int .i64 x, .int .i64 g, .int .i64 wd, .int .i64 l], .int .i64 k] w fun e w' => e = .returned (levV n r x g wd l k) ∧ Below w.heap.size w w' := by
  have hcf := checkFlight_any n r x g wd l
  unfold levV
  by_cases hv : vldB n r x g wd l = true
  · rw [if_pos hv]
    rw [flE_ok.2 hv] at hcf
    have hb := vldB_iff.1 hv
    have his := isIn_any k 0 (n - 1)
    cases hi : inB k 0 (n - 1)
    · rw [hi] at his
      rw [if_neg (by simp)]
      exact slevel_none n r x g wd l k (n - 1) (IntWalk.i64_in _ (by omega)) hcf his w
    · rw [hi] at his
      rw [if_pos rfl]
      have hk := inB_iff.1 hi
      have hl := level_int n r x g wd l k (by omega) (by omega) (by omega) (by omega)
      exact slevel_ok n r x g wd l k (n - 1) (lvl r x (k + 1).toNat) (IntWalk.i64_in _ (by omega)) hcf his hl w
  · rw [if_neg hv]
    rw [flE_bad hv] at hcf
    exact slevel_bad n r x g wd l k hcf w
theorem spread_any (n r x g wd l t : Int) (w : World) : Calls Try.prog 23 #[.agg #[.int .i64 n, .int .i64 r, .int .i64 x, .int .i64 g, .int .i64 wd, .int .i64 l], .int .i64 t] w fun e w' => e = .returned (sprV n r x g wd l t) ∧ Below w.heap.size w w' := by
  have hcf := checkFlight_any n r x g wd l
  unfold sprV
  by_cases hv : vldB n r x g wd l = true
  · rw [if_pos hv]
    rw [flE_ok.2 hv] at hcf
    have hb := vldB_iff.1 hv
    have his := isIn_any t 0 1000
    cases hi : inB t 0 1000
    · rw [hi] at his
      rw [if_neg (by simp)]
      exact spread_rng n r x g wd l t hcf his w
    · rw [hi] at his
      rw [if_pos rfl]
      have hk := inB_iff.1 hi
      have hm := mul_bd (a := n) (b := t) (A := 64) (B := 1000) (by omega) (by omega) (by omega) (by omega)
      have hl := level_int n r x g wd l (n - 1) (by omega) (by omega) (by omega) (by omega)
      rw [show n - 1 + 1 = n by omega] at hl
      have hlb := lvl_bd (x := x) (show 1 ≤ r by omega) (show r ≤ 10000 by omega) n.toNat
      exact spread_ok n r x g wd l t (n - 1) (n * t) (lvl r x n.toNat - n * t) (lvl r x n.toNat + n * t) (lvl r x n.toNat) (IntWalk.i64_in _ (by omega)) (IntWalk.i64_in _ (by omega)) (IntWalk.i64_in _ (by omega)) (IntWalk.i64_in _ (by omega)) hcf his hl w
  · rw [if_neg hv]
    rw [flE_bad hv] at hcf
    exact spread_bad n r x g wd l t hcf w
theorem rspread_all (n r x g wd l t : Int) (hv : vldB n r x g wd l = true) (ht : 0 ≤ t) (ht2 : t ≤ 1000) (w : World) : Calls Try.prog 26 #[.agg #[.int .i64 n, .int .i64 r, .int .i64 x, .int .i64 g, .int .i64 wd, .int .i64 l], .int .i64 t] w fun e w' => e = .returned (.agg #[.int .i64 (lvl r x n.toNat - n * t), .int .i64 (lvl r x n.toNat + n * t)]) ∧ Below w.heap.size w w' := by
  have hb := vldB_iff.1 hv
  have hm := mul_bd (a := n) (b := t) (A := 64) (B := 1000) (by omega) (by omega) (by omega) (by omega)
  have hl := rlevel_int n r x g wd l (n - 1) (by omega) (by omega) (by omega) (by omega)
  rw [show n - 1 + 1 = n by omega] at hl
  have hlb := lvl_bd (x := x) (show 1 ≤ r by omega) (show r ≤ 10000 by omega) n.toNat
  exact rspread_any n r x g wd l t (n - 1) (n * t) (lvl r x n.toNat - n * t) (lvl r x n.toNat + n * t) (lvl r x n.toNat) (IntWalk.i64_in _ (by omega)) (IntWalk.i64_in _ (by omega)) (IntWalk.i64_in _ (by omega)) (IntWalk.i64_in _ (by omega)) hl w
theorem rfits_any (a b c d p q n r x g wd l : Int) (w : World) : Calls Try.prog 15 #[.agg #[.int .i64 a, .int .i64 b, .int .i64 c, .int .i64 d, .int .i64 p, .int .i64 q], .agg #[.int .i64 n, .int .i64 r, .int .i64 x, .int .i64 g, .int .i64 wd, .int .i64 l]] w fun e w' => e = .returned (.int .i64 (fitE a b c d p q n r x g wd l)) ∧ Below w.heap.size w w' := by
  have hck := rcheck_any a b c d p q
  have hvl := valid_any n r x g wd l
  unfold fitE
  by_cases hc : chkE a b c d p q = 0
  · rw [if_pos hc]
    cases hv : vldB n r x g wd l
    · rw [hv] at hvl
      have hf : flE n r x g wd l = 1 := flE_bad (by simp [hv])
      rw [hf, if_neg (by decide)]
      exact rfits_v a b c d p q n r x g wd l _ (by simp [hc]) hck hvl w
    · rw [hv] at hvl
      rw [flE_ok.2 hv, if_pos rfl]
      have hb := vldB_iff.1 hv
      obtain ⟨k, hk⟩ : ∃ k : Nat, n = k := ⟨n.toNat, by omega⟩
      subst hk
      have hkp := keeps_any a b c d p q k r x g wd l (by omega) (by omega) (by omega) (by omega) (by omega) (by omega) (by omega)
      exact rfits_k a b c d p q k r x g wd l _ _ (by simp [hc]) hck hvl hkp w
  · rw [if_neg hc]
    exact rfits_c a b c d p q n r x g wd l _ (by simpa using hc) hck w
end Go.Proofs.Ytoenojnfhiimpaa
