/- The walk of stair's Fits. No condition. -/
import Derived.Test.YtoenojnfhiimpaaChk
import Derived.Test.YtoenojnfhiimpaaFli
import Derived.Test.YtoenojnfhiimpaaHgt
import Derived.Deep.DeepCutAuto
namespace Go.Proofs.Ytoenojnfhiimpaa
open Go.RowKit

def keepE (a b c d p q r x g : Int) : Int :=
  if inB r a b = false ∨ inB (rsI r x 0) a b = false ∨ inB g c d = false then 6 else if inB (2 * r + g) p q = false ∨ inB (2 * rsI r x 0 + g) p q = false then 10 else 0
def fitE (a b c d p q n r x g w l : Int) : Int :=
  if chkE a b c d p q = 0 then (if flE n r x g w l = 0 then keepE a b c d p q r x g else flE n r x g w l) else chkE a b c d p q
theorem flE_ok {n r x g w l : Int} : flE n r x g w l = 0 ↔ vldB n r x g w l = true := by unfold flE; split <;> simp_all
set_option maxHeartbeats 4000000 in
set_option maxRecDepth 100000 in
theorem fits_any (a b c d p q n r x g wd l : Int) (w : World) :
    Calls Try.prog 14 #[.agg #[.int .i64 a, .int .i64 b, .int .i64 c, .int .i64 d, .int .i64 p, .int .i64 q], .agg #[.int .i64 n, .int .i64 r, .int .i64 x, .int .i64 g, .int .i64 wd, .int .i64 l]] w fun e w' => e = .returned (.int .i64 (fitE a b c d p q n r x g wd l)) ∧ Below w.heap.size w w' := by
  have hC := fun w => check_any a b c d p q w
  have hF := fun w => checkFlight_any n r x g wd l w
  obtain ⟨cE, hcE⟩ : ∃ y, y = chkE a b c d p q := ⟨_, rfl⟩
  obtain ⟨fE, hfE⟩ : ∃ y, y = flE n r x g wd l := ⟨_, rfl⟩
  have hgr := fun (h1 : 1 ≤ r) (h2 : r ≤ 10000) W => grise_any n r x g wd l W h1 h2
  rw [← hcE] at hC
  rw [← hfE] at hF
  have hO := fun (g : Nat) (t : TypeId) (W : World) (hb : Blk W g t #[.int .i64 cE, .int .i64 fE]) => cmpOr_any g t cE fE W hb
  have base : KL [(w.heap.size + 1, 34, #[.int .i64 n, .int .i64 r, .int .i64 x, .int .i64 g, .int .i64 wd, .int .i64 l]), (w.heap.size, 31, #[.int .i64 a, .int .i64 b, .int .i64 c, .int .i64 d, .int .i64 p, .int .i64 q])] w ((w.alloc (.cells #[.int .i64 a, .int .i64 b, .int .i64 c, .int .i64 d, .int .i64 p, .int .i64 q] 31)).alloc (.cells #[.int .i64 n, .int .i64 r, .int .i64 x, .int .i64 g, .int .i64 wd, .int .i64 l] 34)).drew :=
    (((KL.nil w).new rfl 31 _).new (by simp) 34 _).drew
  have hpost : fitE a b c d p q n r x g wd l = if cE = 0 then (if fE = 0 then keepE a b c d p q r x g else fE) else cE := by unfold fitE; rw [← hcE, ← hfE]
  rw [hpost]
  obtain ⟨R, hR⟩ : ∃ R, R = (if cE = 0 then (if fE = 0 then keepE a b c d p q r x g else fE) else cE) := ⟨_, rfl⟩
  rw [← hR]
  have hv : fE = 0 → 1 ≤ r ∧ r ≤ 10000 ∧ 1 ≤ g ∧ g ≤ 10000 := fun h => by
    have := vldB_iff.1 (flE_ok.1 (hfE ▸ h)); omega
  have hri : 1 ≤ r → r ≤ 10000 → 1 ≤ rsI r x 0 ∧ rsI r x 0 ≤ 10001 := rsI_bd
  unfold keepE at hR
  generalize rsI r x 0 = m at hgr hri hR
  clear hpost hcE hfE
  go_enter Try.func14, Try.ntmps14
  go_upto_region 1 with (fail)
  go_cut [5] (fun s5 wx => s5 = .int .i64 (orI cE fE) ∧ KL [(w.heap.size + 1, 34, #[.int .i64 n, .int .i64 r, .int .i64 x, .int .i64 g, .int .i64 wd, .int .i64 l]), (w.heap.size, 31, #[.int .i64 a, .int .i64 b, .int .i64 c, .int .i64 d, .int .i64 p, .int .i64 q])] w wx)
  case first =>
    go_region_with (first | (go_at_call 12; refine (hC _).mono ?_; rintro e w1 ⟨rfl, hb1⟩; obtain ⟨hc1, hf1⟩ := bcell hb1; have hz1 := hb1.size; (try simp at hz1); (try have y10 : w.heap.size < w1.heap.size := by omega); (try have y11 : w.heap.size + 1 < w1.heap.size := by omega); (try have y12 : w.heap.size + 1 + 1 < w1.heap.size := by omega)) | (go_at_call 34; refine (hF _).mono ?_; rintro e w2 ⟨rfl, hb2⟩; obtain ⟨hc2, hf2⟩ := bcell hb2; have hz2 := hb2.size; (try simp at hz2); (try have y20 : w.heap.size < w2.heap.size := by omega); (try have y21 : w.heap.size + 1 < w2.heap.size := by omega); (try have y22 : w.heap.size + 1 + 1 < w2.heap.size := by omega)) | (go_at_call 33; refine (hO _ _ _ (Blk.new _ _ _)).mono ?_; rintro e w3 ⟨rfl, rfl⟩))
    all_goals (go_wp2_with fail; go_meet)
    all_goals (refine ⟨rfl, ?_⟩; first | exact ((base.over hb1).over hb2).alloc _ | exact ((base.over hb2).over hb1).alloc _)
  case rest =>
    obtain ⟨rfl, hK⟩ := hcut
    obtain ⟨z0, z1, z2, z3, z4, z5, z6⟩ := bl6 (KL.blk hK (.head _))
    obtain ⟨y0, y1, y2, y3, y4, y5, y6⟩ := bl6 (KL.blk hK (.tail _ (.head _)))
    have hkz := hK.1.size
    have hkb := hK.1
    clear base hK
    by_cases hc : cE = 0
    · rw [if_pos hc] at hR
      rw [orI_z hc]
      by_cases hf : fE = 0
      · rw [if_pos hf] at hR
        obtain ⟨v1, v2, v3, v4⟩ := hv hf
        obtain ⟨v5, v6⟩ := hri v1 v2
        have hgr' := hgr v1 v2
        subst hf
        clear hgr hri hv hC hF hO
        go_upto_region 4 with (fail)
        go_cut [6, 7] (fun s6 s7 wx => s6 = .int .i64 r ∧ s7 = .int .i64 m ∧ Below wc.heap.size wc wx)
        case first =>
          go_region_with (go_at_call 35; refine (hgr' _).mono ?_; rintro e w4 ⟨rfl, hb4⟩; have hb4' : Below wc.heap.size wc w4 := (Below.refl _ wc).drew.trans hb4; obtain ⟨hc4, hf4⟩ := bcell hb4'; have hz4 := hb4'.size; have y40 : w.heap.size < w4.heap.size := (by omega); have y41 : w.heap.size + 1 < w4.heap.size := (by omega))
          all_goals (go_wp2_with fail; go_meet)
          all_goals (refine ⟨rfl, rfl, ?_⟩; exact hb4')
        case rest =>
          obtain ⟨rfl, rfl, hbx⟩ := hcut
          obtain ⟨hcx, hfx⟩ := bcell hbx
          have hzx := hbx.size
          have yx0 : w.heap.size < wc.heap.size := by omega
          have yx1 : w.heap.size + 1 < wc.heap.size := by omega
          clear hgr'
          go_wp2_with (go_at_call 36; refine (within_any _ _ _ _).mono ?_; rintro e w5 ⟨rfl, hb5⟩; obtain ⟨hc5, hf5⟩ := bcell hb5; have hz5 := hb5.size; (try simp at hz5); (try have y50 : w.heap.size < w5.heap.size := by omega); (try have y51 : w.heap.size + 1 < w5.heap.size := by omega); (try have y52 : w.heap.size + 1 + 1 < w5.heap.size := by omega))
          all_goals (
            go_ret
            refine ⟨ret_int ?_, ?_⟩
            · rw [hR]; simp_all
            · ((repeat (first | with_reducible exact Below.refl _ _ | with_reducible refine Below.setCell ?_ ?_ _ | with_reducible refine Below.alloc ?_ ?_ _ | with_reducible refine Below.drew ?_ | with_reducible refine below_drewN ?_ _ | (refine Below.trans ?_ (bmono (by assumption) ?_)))); all_goals (first | omega | (simp <;> omega))))
      · rw [if_neg hf] at hR
        have hf' : (fE == 0) = false := by simpa using hf
        go_wp2
        go_ret
        exact ⟨by rw [hR]; rfl, hkb⟩
    · rw [if_neg hc] at hR
      rw [orI_n hc]
      have hc' : (cE == 0) = false := by simpa using hc
      go_wp2
      go_ret
      exact ⟨by rw [hR]; rfl, hkb⟩
end Go.Proofs.Ytoenojnfhiimpaa
