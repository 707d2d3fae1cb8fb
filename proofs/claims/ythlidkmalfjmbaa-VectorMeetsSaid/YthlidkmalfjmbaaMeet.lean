/- The walk of vector's meet. No condition. -/
import Derived.Test.YthlidkmalfjmbaaMol
import Derived.Test.YthlidkmalfjmbaaEqa
namespace Go.Proofs.Ythlidkmalfjmbaa
open Go.RowKit

theorem zb4 {W : World} {g : Nat} {t : TypeId} {a b c d : Value} (h : Blk W g t #[a, b, c, d]) : (W.cell? ⟨g, 0, none⟩ = some a ∧ W.cell? ⟨g, 1, none⟩ = some b ∧ W.cell? ⟨g, 2, none⟩ = some c ∧ W.cell? ⟨g, 3, none⟩ = some d) ∧ True ∧ (∀ i, W.frozen? ⟨g, i, none⟩ = false) := ⟨⟨h.cell 0, h.cell 1, h.cell 2, h.cell 3⟩, trivial, h.frozen⟩
theorem Blk.set4 {w : World} {g : Nat} {t : TypeId} {p q r s : Value} (h : Blk w g t #[p, q, r, s]) (a b c d : Value) :
    Blk ((((w.setCell ⟨g, 0, none⟩ a).setCell ⟨g, 1, none⟩ b).setCell ⟨g, 2, none⟩ c).setCell ⟨g, 3, none⟩ d) g t #[a, b, c, d] := by
  simpa using (((h.set_ 0 a).set_ 1 b).set_ 2 c).set_ 3 d
def One4 (p q r s : Int) (B : Nat) (v : Value) (W : World) : Prop := ∃ g : Nat, v = .pointer (some ⟨g, 0, none⟩) ∧ B ≤ g ∧ Blk W g 76 #[.int .i64 p, .int .i64 q, .int .i64 r, .int .i64 s]
theorem One4.new {p q r s : Int} {B : Nat} {W : World} (h : B ≤ W.heap.size) : One4 p q r s B (.pointer (some ⟨W.heap.size, 0, none⟩)) (W.alloc (.cells #[.int .i64 p, .int .i64 q, .int .i64 r, .int .i64 s] 76)) := ⟨_, rfl, h, Blk.new2 rfl⟩
theorem One4.set {p q r s : Int} {B g : Nat} {W : World} (hz : Blk W g 76 #[.int .i64 0, .int .i64 0, .int .i64 0, .int .i64 0]) (h : B ≤ g) :
    One4 p q r s B (.pointer (some ⟨g, 0, none⟩)) ((((W.setCell ⟨g, 0, none⟩ (.int .i64 p)).setCell ⟨g, 1, none⟩ (.int .i64 q)).setCell ⟨g, 2, none⟩ (.int .i64 r)).setCell ⟨g, 3, none⟩ (.int .i64 s)) := ⟨_, rfl, h, Blk.set4 hz _ _ _ _⟩
theorem cmpI_bd (a b : Int) : -1 ≤ cmpI a b ∧ cmpI a b ≤ 1 := by unfold cmpI; (repeat' split) <;> omega
theorem mul3 {a b : Int} (ha : -1 ≤ a ∧ a ≤ 1) (hb : -1 ≤ b ∧ b ≤ 1) : -1 ≤ a * b ∧ a * b ≤ 1 := by
  have h1 : a = -1 ∨ a = 0 ∨ a = 1 := by omega
  rcases h1 with rfl | rfl | rfl <;> omega
def trn (ax ay bx b_y cx cy : Int) : Int := cmpI (lft ax ay bx cy) (rgt ax ay b_y cx)
def meetS (ax ay bx b_y cx cy dx dy : Int) : Int :=
  if trn ax ay bx b_y cx cy = 0 ∧ trn ax ay bx b_y dx dy = 0 ∧ trn cx cy dx dy ax ay = 0 ∧ trn cx cy dx dy bx b_y = 0 then molS ax ay bx b_y cx cy dx dy
  else if trn ax ay bx b_y cx cy * trn ax ay bx b_y dx dy ≤ 0 ∧ trn cx cy dx dy ax ay * trn cx cy dx dy bx b_y ≤ 0 then 1 else 0

set_option maxHeartbeats 4000000 in
theorem meet_any (ax ay bx b_y cx cy dx dy : Int) (w : World) :
    Calls Try.prog 50 #[.agg #[.int .i64 ax, .int .i64 ay], .agg #[.int .i64 bx, .int .i64 b_y], .agg #[.int .i64 cx, .int .i64 cy], .agg #[.int .i64 dx, .int .i64 dy]] w fun e w' => e = .returned (.int .i64 (meetS ax ay bx b_y cx cy dx dy)) ∧ Below w.heap.size w w' := by
  obtain ⟨R, hcm⟩ : ∃ r, r = meetS ax ay bx b_y cx cy dx dy := ⟨_, rfl⟩
  rw [← hcm]
  unfold meetS at hcm
  have q1 : ∀ W, KP4 ax ay bx b_y cx cy dx dy w W → Calls Try.prog 49 #[.agg #[.int .i64 ax, .int .i64 ay], .agg #[.int .i64 bx, .int .i64 b_y], .agg #[.int .i64 cx, .int .i64 cy]] W _ := keepsKL (turn_any ax ay bx b_y cx cy)
  have q2 : ∀ W, KP4 ax ay bx b_y cx cy dx dy w W → Calls Try.prog 49 #[.agg #[.int .i64 ax, .int .i64 ay], .agg #[.int .i64 bx, .int .i64 b_y], .agg #[.int .i64 dx, .int .i64 dy]] W _ := keepsKL (turn_any ax ay bx b_y dx dy)
  have q3 : ∀ W, KP4 ax ay bx b_y cx cy dx dy w W → Calls Try.prog 49 #[.agg #[.int .i64 cx, .int .i64 cy], .agg #[.int .i64 dx, .int .i64 dy], .agg #[.int .i64 ax, .int .i64 ay]] W _ := keepsKL (turn_any cx cy dx dy ax ay)
  have q4 : ∀ W, KP4 ax ay bx b_y cx cy dx dy w W → Calls Try.prog 49 #[.agg #[.int .i64 cx, .int .i64 cy], .agg #[.int .i64 dx, .int .i64 dy], .agg #[.int .i64 bx, .int .i64 b_y]] W _ := keepsKL (turn_any cx cy dx dy bx b_y)
  have d1 : -1 ≤ trn ax ay bx b_y cx cy ∧ trn ax ay bx b_y cx cy ≤ 1 := cmpI_bd _ _
  have d2 : -1 ≤ trn ax ay bx b_y dx dy ∧ trn ax ay bx b_y dx dy ≤ 1 := cmpI_bd _ _
  have d3 : -1 ≤ trn cx cy dx dy ax ay ∧ trn cx cy dx dy ax ay ≤ 1 := cmpI_bd _ _
  have d4 : -1 ≤ trn cx cy dx dy bx b_y ∧ trn cx cy dx dy bx b_y ≤ 1 := cmpI_bd _ _
  have fold : ∀ ax ay bx b_y cx cy, cmpI (lft ax ay bx cy) (rgt ax ay b_y cx) = trn ax ay bx b_y cx cy := fun _ _ _ _ _ _ => rfl
  simp only [fold] at q1 q2 q3 q4
  clear fold
  generalize trn ax ay bx b_y cx cy = t1 at q1 d1 hcm
  generalize trn ax ay bx b_y dx dy = t2 at q2 d2 hcm
  generalize trn cx cy dx dy ax ay = t3 at q3 d3 hcm
  generalize trn cx cy dx dy bx b_y = t4 at q4 d4 hcm
  have hml := mol_any ax ay bx b_y cx cy dx dy
  generalize molS ax ay bx b_y cx cy dx dy = M at hml hcm
  go_enter Try.func50, Try.ntmps50
  go_upto_region 1 with (fail)
  go_cut [9] from 10 to 26 (fun s9 wx => One4 t1 t2 t3 t4 (w.heap.size + 4) s9 wx ∧ KP4 ax ay bx b_y cx cy dx dy w wx)
  case first =>
    have hk0 : KP4 ax ay bx b_y cx cy dx dy w _ := KP4.start
    have hka := hk0.all
    go_region_held3 (fun W => KP4 ax ay bx b_y cx cy dx dy w W ∧ w.heap.size + 3 < W.heap.size ∧
        W.cell? ⟨w.heap.size, 0, none⟩ = some (.int .i64 ax) ∧ W.cell? ⟨w.heap.size, 1, none⟩ = some (.int .i64 ay) ∧
        W.cell? ⟨w.heap.size + 1, 0, none⟩ = some (.int .i64 bx) ∧ W.cell? ⟨w.heap.size + 1, 1, none⟩ = some (.int .i64 b_y) ∧
        W.cell? ⟨w.heap.size + 1 + 1, 0, none⟩ = some (.int .i64 cx) ∧ W.cell? ⟨w.heap.size + 1 + 1, 1, none⟩ = some (.int .i64 cy) ∧
        W.cell? ⟨w.heap.size + 1 + 1 + 1, 0, none⟩ = some (.int .i64 dx) ∧ W.cell? ⟨w.heap.size + 1 + 1 + 1, 1, none⟩ = some (.int .i64 dy))
      (first | exact hka | exact KP4.all ‹_› | exact (KP4.alloc ‹_› _).all | exact (KP4.drew ‹_›).all | exact (KP4.drew (KP4.alloc ‹_› _)).all | exact (KP4.set (KP4.set (KP4.set (KP4.set ‹_› (by omega) _) (by omega) _) (by omega) _) (by omega) _).all)
      (first
        | (revert hb3; intro hb3; go_at_call 49; refine (q4 _ ?_).mono ?_; (first | assumption | exact And.left ‹_›); (rintro e w4 ⟨rfl, hk4, hb4⟩; have ys4 := KP4.size hk4; have hq4 : KP4 ax ay bx b_y cx cy dx dy w w4 := hk4; (try (revert z0x3; intro z0x3; have z0x4 : Blk w4 (w.heap.size + 1 + 1 + 1 + 1) 76 #[.int .i64 0, .int .i64 0, .int .i64 0, .int .i64 0] := (by refine Blk.below z0x3 hb4 ?_; exact Blk.lt z0x3))); (try (revert z0x4; intro z0x4; obtain ⟨f0a, f0b, f0c⟩ := zb4 z0x4; have f0d := Blk.lt z0x4)); (try (revert z1x3; intro z1x3; have z1x4 : Blk w4 w1.heap.size 76 #[.int .i64 0, .int .i64 0, .int .i64 0, .int .i64 0] := (by refine Blk.below z1x3 hb4 ?_; exact Blk.lt z1x3))); (try (revert z1x4; intro z1x4; obtain ⟨f1a, f1b, f1c⟩ := zb4 z1x4; have f1d := Blk.lt z1x4)); (try (revert z2x3; intro z2x3; have z2x4 : Blk w4 w2.heap.size 76 #[.int .i64 0, .int .i64 0, .int .i64 0, .int .i64 0] := (by refine Blk.below z2x3 hb4 ?_; exact Blk.lt z2x3))); (try (revert z2x4; intro z2x4; obtain ⟨f2a, f2b, f2c⟩ := zb4 z2x4; have f2d := Blk.lt z2x4)); (try have z3x4 : Blk w4 w3.heap.size 76 #[.int .i64 0, .int .i64 0, .int .i64 0, .int .i64 0] := (by refine Blk.below ?_ hb4 ?_; (first | (refine Blk.drew (Blk.new2 ?_); simp) | (refine Blk.new2 ?_; simp) | (refine Blk.drew (Blk.new2 ?_); rfl) | (refine Blk.new2 ?_; rfl)); simp)); (try (revert z3x4; intro z3x4; obtain ⟨f3a, f3b, f3c⟩ := zb4 z3x4; have f3d := Blk.lt z3x4))))
        | (revert hb2; intro hb2; go_at_call 49; refine (q3 _ ?_).mono ?_; (first | assumption | exact And.left ‹_›); (rintro e w3 ⟨rfl, hk3, hb3⟩; have ys3 := KP4.size hk3; have hq3 : KP4 ax ay bx b_y cx cy dx dy w w3 := hk3; (try (revert z0x2; intro z0x2; have z0x3 : Blk w3 (w.heap.size + 1 + 1 + 1 + 1) 76 #[.int .i64 0, .int .i64 0, .int .i64 0, .int .i64 0] := (by refine Blk.below z0x2 hb3 ?_; exact Blk.lt z0x2))); (try (revert z1x2; intro z1x2; have z1x3 : Blk w3 w1.heap.size 76 #[.int .i64 0, .int .i64 0, .int .i64 0, .int .i64 0] := (by refine Blk.below z1x2 hb3 ?_; exact Blk.lt z1x2))); (try have z2x3 : Blk w3 w2.heap.size 76 #[.int .i64 0, .int .i64 0, .int .i64 0, .int .i64 0] := (by refine Blk.below ?_ hb3 ?_; (first | (refine Blk.drew (Blk.new2 ?_); simp) | (refine Blk.new2 ?_; simp) | (refine Blk.drew (Blk.new2 ?_); rfl) | (refine Blk.new2 ?_; rfl)); simp))))
        | (revert hb1; intro hb1; go_at_call 49; refine (q2 _ ?_).mono ?_; (first | assumption | exact And.left ‹_›); (rintro e w2 ⟨rfl, hk2, hb2⟩; have ys2 := KP4.size hk2; have hq2 : KP4 ax ay bx b_y cx cy dx dy w w2 := hk2; (try (revert z0x1; intro z0x1; have z0x2 : Blk w2 (w.heap.size + 1 + 1 + 1 + 1) 76 #[.int .i64 0, .int .i64 0, .int .i64 0, .int .i64 0] := (by refine Blk.below z0x1 hb2 ?_; exact Blk.lt z0x1))); (try have z1x2 : Blk w2 w1.heap.size 76 #[.int .i64 0, .int .i64 0, .int .i64 0, .int .i64 0] := (by refine Blk.below ?_ hb2 ?_; (first | (refine Blk.drew (Blk.new2 ?_); simp) | (refine Blk.new2 ?_; simp) | (refine Blk.drew (Blk.new2 ?_); rfl) | (refine Blk.new2 ?_; rfl)); simp))))
        | (go_at_call 49; refine (q1 _ ?_).mono ?_; (first | assumption | exact And.left ‹_›); (rintro e w1 ⟨rfl, hk1, hb1⟩; have ys1 := KP4.size hk1; have hq1 : KP4 ax ay bx b_y cx cy dx dy w w1 := hk1; (try have z0x1 : Blk w1 (w.heap.size + 1 + 1 + 1 + 1) 76 #[.int .i64 0, .int .i64 0, .int .i64 0, .int .i64 0] := (by refine Blk.below ?_ hb1 ?_; (first | (refine Blk.drew (Blk.new2 ?_); simp) | (refine Blk.new2 ?_; simp) | (refine Blk.drew (Blk.new2 ?_); rfl) | (refine Blk.new2 ?_; rfl)); simp)))))
    all_goals (go_wp2_with fail; go_meet)
    all_goals first | with_reducible exact ⟨One4.new (by omega), KP4.alloc hq4 _⟩ | with_reducible exact ⟨One4.set (by assumption) (by omega), KP4.set (KP4.set (KP4.set (KP4.set hq4 (by omega) _) (by omega) _) (by omega) _) (by omega) _⟩
  case rest =>
    obtain ⟨⟨g, rfl, hg, hgb⟩, hK⟩ := hcut
    obtain ⟨⟨g0, g1, g2, g3⟩, _, gf⟩ := zb4 hgb
    obtain ⟨_, _, p1, p2, p3, p4, p5, p6, p7, p8⟩ := hK.all
    have hb0 := hK.1
    have m1 := mul3 d1 d2
    have m2 := mul3 d3 d4
    have he := eqA4 t1 t2 t3 t4 0 0 0 0
    clear hgb hK q1 q2 q3 q4
    by_cases h0 : t1 = 0 ∧ t2 = 0 ∧ t3 = 0 ∧ t4 = 0
    · rw [show (t1 == 0 && (t2 == 0 && (t3 == 0 && t4 == 0))) = true by simpa using h0] at he
      rw [if_pos h0] at hcm
      clear h0 m1 m2 d1 d2 d3 d4
      go_wp2_with (go_at_call 55; refine (hml _).mono ?_; rintro e w1 ⟨rfl, hb1⟩)
      go_ret
      exact ⟨ret_int hcm.symm, hb0.trans (bmono hb1 hb0.size)⟩
    · rw [show (t1 == 0 && (t2 == 0 && (t3 == 0 && t4 == 0))) = false by rw [Bool.eq_false_iff]; simpa using h0] at he
      rw [if_neg h0] at hcm
      clear h0
      have w1 : wrap64 (t1 * t2) = t1 * t2 := IntWalk.wrap64_in _ (by omega)
      have w2 : wrap64 (t3 * t4) = t3 * t4 := IntWalk.wrap64_in _ (by omega)
      have HC := Lib.hid hcm
      clear hcm d1 d2 d3 d4 m1 m2
      by_cases k1 : t1 * t2 ≤ 0 <;> by_cases k2 : t3 * t4 ≤ 0
      all_goals
        go_wp2
        go_ret
        refine ⟨ret_int ?_, hb0⟩
        have := HC.out
        rw [this]
        simp [k1, k2]
end Go.Proofs.Ythlidkmalfjmbaa
