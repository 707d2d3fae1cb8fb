/- The law PlaneNormals: it answers true, whatever the half-spaces; and the claim. -/
import Derived.Test.YtoeniaafcnnnoaaAwp
import Derived.Test.YtoeniaafcnnnoaaLif
import Derived.Test.YtoeniaafcnnnoaaRwi
import Derived.Test.YtoeniaafcnnnoaaNes
namespace Go.Proofs.Ytoeniaafcnnnoaa
open Go.ChangeShapes Go.WideShapes Go.ChangeAt Go.RowKit

/-- two boxed half-spaces and a third one -/
def KN (a b c d k l m n p q r s : Int) (g : Nat) (w W : World) : Prop := KL [(w.heap.size, 32, #[.int .i64 a, .int .i64 b, .int .i64 c, .int .i64 d]), (w.heap.size + 1, 32, #[.int .i64 k, .int .i64 l, .int .i64 m, .int .i64 n]), (g, 32, #[.int .i64 p, .int .i64 q, .int .i64 r, .int .i64 s])] w W
theorem KN.alls {a b c d k l m n p q r s : Int} {g : Nat} {w W : World} (h : KN a b c d k l m n p q r s g w W) : KN a b c d k l m n p q r s g w W ∧ (w.heap.size < W.heap.size ∧ w.heap.size + 1 < W.heap.size ∧ g < W.heap.size) ∧
    (W.cell? ⟨w.heap.size, 0, none⟩ = some (.int .i64 a) ∧ W.cell? ⟨w.heap.size, 1, none⟩ = some (.int .i64 b) ∧ W.cell? ⟨w.heap.size, 2, none⟩ = some (.int .i64 c) ∧ W.cell? ⟨w.heap.size, 3, none⟩ = some (.int .i64 d)) ∧
    (W.cell? ⟨w.heap.size + 1, 0, none⟩ = some (.int .i64 k) ∧ W.cell? ⟨w.heap.size + 1, 1, none⟩ = some (.int .i64 l) ∧ W.cell? ⟨w.heap.size + 1, 2, none⟩ = some (.int .i64 m) ∧ W.cell? ⟨w.heap.size + 1, 3, none⟩ = some (.int .i64 n)) ∧
    W.cell? ⟨g, 0, none⟩ = some (.int .i64 p) ∧ W.cell? ⟨g, 1, none⟩ = some (.int .i64 q) ∧ W.cell? ⟨g, 2, none⟩ = some (.int .i64 r) ∧ W.cell? ⟨g, 3, none⟩ = some (.int .i64 s) :=
  ⟨h, ⟨KL.size h (.head _), KL.size h (.tail _ (.head _)), KL.size h (.tail _ (.tail _ (.head _)))⟩, blk4 (KL.blk h (.head _)), blk4 (KL.blk h (.tail _ (.head _))), blk4 (KL.blk h (.tail _ (.tail _ (.head _))))⟩
set_option maxHeartbeats 16000000 in
set_option maxRecDepth 100000 in
theorem planeNormals_ok (a b c d k l m n : Int) (ha : eH a b c d = 0) (hb : eH k l m n = 0) (w : World) :
    Calls Try.prog 6 #[.agg #[.int .i64 a, .int .i64 b, .int .i64 c, .int .i64 d], .agg #[.int .i64 k, .int .i64 l, .int .i64 m, .int .i64 n]] w fun e w' => e = .returned (.bool true) ∧ Below w.heap.size w w' := by
  have c1 := rcheck_any a b c d
  have c2 := rcheck_any k l m n
  have n1 := normal_in a b c d ha
  have r1 := rnormal_in a b c d ha
  have h3 := Normal_ok a b c d ha
  rw [ha] at c1
  have n2 := normal_in k l m n hb
  have r2 := rnormal_in k l m n hb
  have hck := checkHalves_any a b c d k l m n
  rw [show eHH a b c d k l m n = 0 by simp [eHH, ha, hb]] at hck
  have h4 := Equal_gen a b c d k l m n _ _ _ _ _ _ _ _ hck n1 n2
  have h5 := Within_gen a b c d k l m n _ _ _ _ _ _ _ _ hck n1 n2
  have h6 := rWithin_gen a b c d k l m n _ _ _ _ _ _ _ _ r1 r2
  rw [hb] at c2
  clear ha hb n1 n2 hck
  generalize a.tdiv (gcd3 a b c) = p at *
  generalize b.tdiv (gcd3 a b c) = q at *
  generalize c.tdiv (gcd3 a b c) = r at *
  generalize d / (gcd3 a b c : Int) = s at *
  generalize k.tdiv (gcd3 k l m) = t at *
  generalize l.tdiv (gcd3 k l m) = u at *
  generalize m.tdiv (gcd3 k l m) = v at *
  generalize n / (gcd3 k l m : Int) = o at *
  have e1 : ∀ w, Sem.run Try.prog (binOp .neq 32 (.agg #[.int .i64 p, .int .i64 q, .int .i64 r, .int .i64 s]) (.agg #[.int .i64 p, .int .i64 q, .int .i64 r, .int .i64 s])) w = .ok (.bool false) w := fun w => neH p q r s w
  have e2 := eqH p q r s t u v o
  generalize (p == t && (q == u && (r == v && s == o))) = E at h4 e2
  generalize wthB p q r s t u v o = F at h5 h6
  go_enter Try.func6, Try.ntmps6
  go_wp2_with (first
      | (go_at_call 17; refine (awake_any _).mono ?_; rintro e w1 ⟨rfl, hb1⟩; obtain ⟨hc1, hf1⟩ := bcell hb1; have hz1 := hb1.size; (try simp at hz1); (try have y10 : w.heap.size < w1.heap.size := (by omega)); (try have y10p : w.heap.size < w1.heap.size + 1 := (by omega)); (try have y11 : w.heap.size + 1 < w1.heap.size := (by omega)); (try have y11p : w.heap.size + 1 < w1.heap.size + 1 := (by omega)); (try have y12 : w.heap.size + 1 + 1 < w1.heap.size := (by omega)); (try have y12p : w.heap.size + 1 + 1 < w1.heap.size + 1 := (by omega)); (try have v0x1 : w0.heap.size < w1.heap.size := (by omega)); (try have v0x1p : w0.heap.size < w1.heap.size + 1 := (by omega)))
      | (go_at_call 28; refine (h3 _).mono ?_; rintro e w2 ⟨rfl, hb2⟩; obtain ⟨hc2, hf2⟩ := bcell hb2; have hz2 := hb2.size; (try simp at hz2); (try have y20 : w.heap.size < w2.heap.size := (by omega)); (try have y20p : w.heap.size < w2.heap.size + 1 := (by omega)); (try have y21 : w.heap.size + 1 < w2.heap.size := (by omega)); (try have y21p : w.heap.size + 1 < w2.heap.size + 1 := (by omega)); (try have y22 : w.heap.size + 1 + 1 < w2.heap.size := (by omega)); (try have y22p : w.heap.size + 1 + 1 < w2.heap.size + 1 := (by omega)); (try have v0x2 : w0.heap.size < w2.heap.size := (by omega)); (try have v0x2p : w0.heap.size < w2.heap.size + 1 := (by omega)); (try have v1x2 : w1.heap.size < w2.heap.size := (by omega)); (try have v1x2p : w1.heap.size < w2.heap.size + 1 := (by omega)))
      | (go_at_call 29; refine (h4 _).mono ?_; rintro e w3 ⟨rfl, hb3⟩; obtain ⟨hc3, hf3⟩ := bcell hb3; have hz3 := hb3.size; (try simp at hz3); (try have y30 : w.heap.size < w3.heap.size := (by omega)); (try have y30p : w.heap.size < w3.heap.size + 1 := (by omega)); (try have y31 : w.heap.size + 1 < w3.heap.size := (by omega)); (try have y31p : w.heap.size + 1 < w3.heap.size + 1 := (by omega)); (try have y32 : w.heap.size + 1 + 1 < w3.heap.size := (by omega)); (try have y32p : w.heap.size + 1 + 1 < w3.heap.size + 1 := (by omega)); (try have v0x3 : w0.heap.size < w3.heap.size := (by omega)); (try have v0x3p : w0.heap.size < w3.heap.size + 1 := (by omega)); (try have v1x3 : w1.heap.size < w3.heap.size := (by omega)); (try have v1x3p : w1.heap.size < w3.heap.size + 1 := (by omega)); (try have v2x3 : w2.heap.size < w3.heap.size := (by omega)); (try have v2x3p : w2.heap.size < w3.heap.size + 1 := (by omega)))
      | (go_at_call 30; refine (h5 _).mono ?_; rintro e w4 ⟨rfl, hb4⟩; obtain ⟨hc4, hf4⟩ := bcell hb4; have hz4 := hb4.size; (try simp at hz4); (try have y40 : w.heap.size < w4.heap.size := (by omega)); (try have y40p : w.heap.size < w4.heap.size + 1 := (by omega)); (try have y41 : w.heap.size + 1 < w4.heap.size := (by omega)); (try have y41p : w.heap.size + 1 < w4.heap.size + 1 := (by omega)); (try have y42 : w.heap.size + 1 + 1 < w4.heap.size := (by omega)); (try have y42p : w.heap.size + 1 + 1 < w4.heap.size + 1 := (by omega)); (try have v0x4 : w0.heap.size < w4.heap.size := (by omega)); (try have v0x4p : w0.heap.size < w4.heap.size + 1 := (by omega)); (try have v1x4 : w1.heap.size < w4.heap.size := (by omega)); (try have v1x4p : w1.heap.size < w4.heap.size + 1 := (by omega)); (try have v2x4 : w2.heap.size < w4.heap.size := (by omega)); (try have v2x4p : w2.heap.size < w4.heap.size + 1 := (by omega)); (try have v3x4 : w3.heap.size < w4.heap.size := (by omega)); (try have v3x4p : w3.heap.size < w4.heap.size + 1 := (by omega)))
      | (go_at_call 20; refine (c1 _).mono ?_; rintro e w5 ⟨rfl, hb5⟩; obtain ⟨hc5, hf5⟩ := bcell hb5; have hz5 := hb5.size; (try simp at hz5); (try have y50 : w.heap.size < w5.heap.size := (by omega)); (try have y50p : w.heap.size < w5.heap.size + 1 := (by omega)); (try have y51 : w.heap.size + 1 < w5.heap.size := (by omega)); (try have y51p : w.heap.size + 1 < w5.heap.size + 1 := (by omega)); (try have y52 : w.heap.size + 1 + 1 < w5.heap.size := (by omega)); (try have y52p : w.heap.size + 1 + 1 < w5.heap.size + 1 := (by omega)); (try have v0x5 : w0.heap.size < w5.heap.size := (by omega)); (try have v0x5p : w0.heap.size < w5.heap.size + 1 := (by omega)); (try have v1x5 : w1.heap.size < w5.heap.size := (by omega)); (try have v1x5p : w1.heap.size < w5.heap.size + 1 := (by omega)); (try have v2x5 : w2.heap.size < w5.heap.size := (by omega)); (try have v2x5p : w2.heap.size < w5.heap.size + 1 := (by omega)); (try have v3x5 : w3.heap.size < w5.heap.size := (by omega)); (try have v3x5p : w3.heap.size < w5.heap.size + 1 := (by omega)); (try have v4x5 : w4.heap.size < w5.heap.size := (by omega)); (try have v4x5p : w4.heap.size < w5.heap.size + 1 := (by omega))))
  have hk0 : KN a b c d k l m n p q r s w2.heap.size w (w2.alloc (.cells #[.int .i64 p, .int .i64 q, .int .i64 r, .int .i64 s] 32)) := by
    refine ⟨?_, ?_⟩
    · repeat (first | with_reducible exact Below.refl _ _ | with_reducible refine Below.setCell ?_ ?_ _ | with_reducible refine Below.alloc ?_ ?_ _ | with_reducible refine Below.drew ?_ | with_reducible refine below_drewN ?_ _ | (refine Below.trans ?_ (bmono (by assumption) ?_)))
      all_goals (first | omega | (simp <;> omega))
    · intro q hq
      simp only [List.mem_cons, List.not_mem_nil, or_false] at hq
      rcases hq with rfl | rfl | rfl
      · exact Blk.alloc ((((Blk.new2 rfl).alloc _).below hb1 (by first | omega | (simp <;> omega))).below hb2 (by omega)) _
      · exact Blk.alloc (((Blk.new2 (by simp)).below hb1 (by first | omega | (simp <;> omega))).below hb2 (by omega)) _
      · exact Blk.new2 rfl
  have hk5 : KN a b c d k l m n p q r s w2.heap.size w w5 := KL.over (KL.over (KL.over hk0 hb3) hb4) hb5
  have hka := hk5.alls
  clear hk0 hb1 hb2 hb3 hb4 hb5 hc1 hc2 hc3 hc4 hc5 hf1 hf2 hf3 hf4 hf5
  have q1 : ∀ W, KN a b c d k l m n p q r s w2.heap.size w W → Calls Try.prog 31 #[.agg #[.int .i64 a, .int .i64 b, .int .i64 c, .int .i64 d]] W _ := keepsKL r1
  have q2 : ∀ W, KN a b c d k l m n p q r s w2.heap.size w W → Calls Try.prog 31 #[.agg #[.int .i64 k, .int .i64 l, .int .i64 m, .int .i64 n]] W _ := keepsKL r2
  have q3 : ∀ W, KN a b c d k l m n p q r s w2.heap.size w W → Calls Try.prog 32 #[.agg #[.int .i64 a, .int .i64 b, .int .i64 c, .int .i64 d], .agg #[.int .i64 k, .int .i64 l, .int .i64 m, .int .i64 n]] W _ := keepsKL h6
  clear r1 r2 h6 h3 h4 h5
  go_region_held3 (fun W => KN a b c d k l m n p q r s w2.heap.size w W ∧ (w.heap.size < W.heap.size ∧ w.heap.size + 1 < W.heap.size ∧ w2.heap.size < W.heap.size) ∧
          (W.cell? ⟨w.heap.size, 0, none⟩ = some (.int .i64 a) ∧ W.cell? ⟨w.heap.size, 1, none⟩ = some (.int .i64 b) ∧ W.cell? ⟨w.heap.size, 2, none⟩ = some (.int .i64 c) ∧ W.cell? ⟨w.heap.size, 3, none⟩ = some (.int .i64 d)) ∧
          (W.cell? ⟨w.heap.size + 1, 0, none⟩ = some (.int .i64 k) ∧ W.cell? ⟨w.heap.size + 1, 1, none⟩ = some (.int .i64 l) ∧ W.cell? ⟨w.heap.size + 1, 2, none⟩ = some (.int .i64 m) ∧ W.cell? ⟨w.heap.size + 1, 3, none⟩ = some (.int .i64 n)) ∧
          W.cell? ⟨w2.heap.size, 0, none⟩ = some (.int .i64 p) ∧ W.cell? ⟨w2.heap.size, 1, none⟩ = some (.int .i64 q) ∧ W.cell? ⟨w2.heap.size, 2, none⟩ = some (.int .i64 r) ∧ W.cell? ⟨w2.heap.size, 3, none⟩ = some (.int .i64 s))
        (first | exact hka | exact KN.alls ‹_› | exact (KN.alls (KL.drew ‹_›)))
        ((go_at_call 31; refine (q1 _ ?_).mono ?_; (first | assumption | exact And.left ‹_›); rintro e w6 ⟨rfl, hk6, hb6⟩))
  have hk7 : KN a b c d k l m n p q r s w2.heap.size w w6 := hk6
  obtain ⟨_, ⟨s1, s2, s3⟩, ⟨g1, g2, g3, g4⟩, ⟨g5, g6, g7, g8⟩, _⟩ := hk7.alls
  clear hka hk5 hk6
  go_wp2_with (go_at_call 20; refine (c2 _).mono ?_; rintro e w7 ⟨rfl, hb7⟩)
  have hk8 : KN a b c d k l m n p q r s w2.heap.size w w7 := by first | exact KL.over hk7 hb7 | exact KL.over (KL.drew hk7) hb7
  have hka := hk8.alls
  clear g1 g2 g3 g4 g5 g6 g7 g8 s1 s2 s3 hb7 hk7
  go_region_held3 (fun W => KN a b c d k l m n p q r s w2.heap.size w W ∧ (w.heap.size < W.heap.size ∧ w.heap.size + 1 < W.heap.size ∧ w2.heap.size < W.heap.size) ∧
          (W.cell? ⟨w.heap.size, 0, none⟩ = some (.int .i64 a) ∧ W.cell? ⟨w.heap.size, 1, none⟩ = some (.int .i64 b) ∧ W.cell? ⟨w.heap.size, 2, none⟩ = some (.int .i64 c) ∧ W.cell? ⟨w.heap.size, 3, none⟩ = some (.int .i64 d)) ∧
          (W.cell? ⟨w.heap.size + 1, 0, none⟩ = some (.int .i64 k) ∧ W.cell? ⟨w.heap.size + 1, 1, none⟩ = some (.int .i64 l) ∧ W.cell? ⟨w.heap.size + 1, 2, none⟩ = some (.int .i64 m) ∧ W.cell? ⟨w.heap.size + 1, 3, none⟩ = some (.int .i64 n)) ∧
          W.cell? ⟨w2.heap.size, 0, none⟩ = some (.int .i64 p) ∧ W.cell? ⟨w2.heap.size, 1, none⟩ = some (.int .i64 q) ∧ W.cell? ⟨w2.heap.size, 2, none⟩ = some (.int .i64 r) ∧ W.cell? ⟨w2.heap.size, 3, none⟩ = some (.int .i64 s))
        (first | exact hka | exact KN.alls ‹_› | exact (KN.alls (KL.drew ‹_›)))
        (first
          | (go_at_call 32; refine (q3 _ ?_).mono ?_; (first | assumption | exact And.left ‹_›); rintro e w9 ⟨rfl, hk9, hb9⟩)
          | (revert hb6; intro hb6; revert hb8; intro hb8; go_at_call 31; refine (q2 _ ?_).mono ?_; (first | assumption | exact And.left ‹_›); rintro e w9 ⟨rfl, hk9, hb9⟩)
          | (go_at_call 31; refine (q1 _ ?_).mono ?_; (first | assumption | exact And.left ‹_›); rintro e w8 ⟨rfl, hk8', hb8⟩))
  all_goals
    have hk10 := hk9
    go_wp2
    go_ret
    exact ⟨rfl, hk10.1⟩
set_option maxHeartbeats 16000000 in
set_option maxRecDepth 100000 in
theorem planeNormals_any (a b c d k l m n : Int) (w : World) :
    Calls Try.prog 6 #[.agg #[.int .i64 a, .int .i64 b, .int .i64 c, .int .i64 d], .agg #[.int .i64 k, .int .i64 l, .int .i64 m, .int .i64 n]] w fun e w' => e = .returned (.bool true) ∧ Below w.heap.size w w' := by
  by_cases ha : eH a b c d = 0
  · by_cases hb : eH k l m n = 0
    · exact planeNormals_ok a b c d k l m n ha hb w
    · have c1 := rcheck_any a b c d
      have c2 := rcheck_any k l m n
      have r1 := rnormal_in a b c d ha
      have h3 := Normal_ok a b c d ha
      rw [ha] at c1
      have h4 := Equal_bad a b c d k l m n (by simp [eHH, ha, hb])
      have h5 := Within_bad a b c d k l m n (by simp [eHH, ha, hb])
      rw [show eHH a b c d k l m n = eH k l m n by simp [eHH, ha]] at h4 h5
      generalize eH k l m n = K at h4 h5 c2 hb
      obtain ⟨t1, t2⟩ := ne_tests hb
      clear ha hb
      generalize a.tdiv (gcd3 a b c) = p at *
      generalize b.tdiv (gcd3 a b c) = q at *
      generalize c.tdiv (gcd3 a b c) = r at *
      generalize d / (gcd3 a b c : Int) = s at *
      have e1 : ∀ w, Sem.run Try.prog (binOp .neq 32 (.agg #[.int .i64 p, .int .i64 q, .int .i64 r, .int .i64 s]) (.agg #[.int .i64 p, .int .i64 q, .int .i64 r, .int .i64 s])) w = .ok (.bool false) w := fun w => neH p q r s w
      go_enter Try.func6, Try.ntmps6
      go_wp2_with (first
      | (go_at_call 17; refine (awake_any _).mono ?_; rintro e w1 ⟨rfl, hb1⟩; obtain ⟨hc1, hf1⟩ := bcell hb1; have hz1 := hb1.size; (try simp at hz1); (try have y10 : w.heap.size < w1.heap.size := (by omega)); (try have y10p : w.heap.size < w1.heap.size + 1 := (by omega)); (try have y11 : w.heap.size + 1 < w1.heap.size := (by omega)); (try have y11p : w.heap.size + 1 < w1.heap.size + 1 := (by omega)); (try have y12 : w.heap.size + 1 + 1 < w1.heap.size := (by omega)); (try have y12p : w.heap.size + 1 + 1 < w1.heap.size + 1 := (by omega)); (try have v0x1 : w0.heap.size < w1.heap.size := (by omega)); (try have v0x1p : w0.heap.size < w1.heap.size + 1 := (by omega)))
      | (go_at_call 28; refine (h3 _).mono ?_; rintro e w2 ⟨rfl, hb2⟩; obtain ⟨hc2, hf2⟩ := bcell hb2; have hz2 := hb2.size; (try simp at hz2); (try have y20 : w.heap.size < w2.heap.size := (by omega)); (try have y20p : w.heap.size < w2.heap.size + 1 := (by omega)); (try have y21 : w.heap.size + 1 < w2.heap.size := (by omega)); (try have y21p : w.heap.size + 1 < w2.heap.size + 1 := (by omega)); (try have y22 : w.heap.size + 1 + 1 < w2.heap.size := (by omega)); (try have y22p : w.heap.size + 1 + 1 < w2.heap.size + 1 := (by omega)); (try have v0x2 : w0.heap.size < w2.heap.size := (by omega)); (try have v0x2p : w0.heap.size < w2.heap.size + 1 := (by omega)); (try have v1x2 : w1.heap.size < w2.heap.size := (by omega)); (try have v1x2p : w1.heap.size < w2.heap.size + 1 := (by omega)))
      | (go_at_call 29; refine (h4 _).mono ?_; rintro e w3 ⟨rfl, hb3⟩; obtain ⟨hc3, hf3⟩ := bcell hb3; have hz3 := hb3.size; (try simp at hz3); (try have y30 : w.heap.size < w3.heap.size := (by omega)); (try have y30p : w.heap.size < w3.heap.size + 1 := (by omega)); (try have y31 : w.heap.size + 1 < w3.heap.size := (by omega)); (try have y31p : w.heap.size + 1 < w3.heap.size + 1 := (by omega)); (try have y32 : w.heap.size + 1 + 1 < w3.heap.size := (by omega)); (try have y32p : w.heap.size + 1 + 1 < w3.heap.size + 1 := (by omega)); (try have v0x3 : w0.heap.size < w3.heap.size := (by omega)); (try have v0x3p : w0.heap.size < w3.heap.size + 1 := (by omega)); (try have v1x3 : w1.heap.size < w3.heap.size := (by omega)); (try have v1x3p : w1.heap.size < w3.heap.size + 1 := (by omega)); (try have v2x3 : w2.heap.size < w3.heap.size := (by omega)); (try have v2x3p : w2.heap.size < w3.heap.size + 1 := (by omega)))
      | (go_at_call 30; refine (h5 _).mono ?_; rintro e w4 ⟨rfl, hb4⟩; obtain ⟨hc4, hf4⟩ := bcell hb4; have hz4 := hb4.size; (try simp at hz4); (try have y40 : w.heap.size < w4.heap.size := (by omega)); (try have y40p : w.heap.size < w4.heap.size + 1 := (by omega)); (try have y41 : w.heap.size + 1 < w4.heap.size := (by omega)); (try have y41p : w.heap.size + 1 < w4.heap.size + 1 := (by omega)); (try have y42 : w.heap.size + 1 + 1 < w4.heap.size := (by omega)); (try have y42p : w.heap.size + 1 + 1 < w4.heap.size + 1 := (by omega)); (try have v0x4 : w0.heap.size < w4.heap.size := (by omega)); (try have v0x4p : w0.heap.size < w4.heap.size + 1 := (by omega)); (try have v1x4 : w1.heap.size < w4.heap.size := (by omega)); (try have v1x4p : w1.heap.size < w4.heap.size + 1 := (by omega)); (try have v2x4 : w2.heap.size < w4.heap.size := (by omega)); (try have v2x4p : w2.heap.size < w4.heap.size + 1 := (by omega)); (try have v3x4 : w3.heap.size < w4.heap.size := (by omega)); (try have v3x4p : w3.heap.size < w4.heap.size + 1 := (by omega)))
      | (go_at_call 20; refine (c1 _).mono ?_; rintro e w5 ⟨rfl, hb5⟩; obtain ⟨hc5, hf5⟩ := bcell hb5; have hz5 := hb5.size; (try simp at hz5); (try have y50 : w.heap.size < w5.heap.size := (by omega)); (try have y50p : w.heap.size < w5.heap.size + 1 := (by omega)); (try have y51 : w.heap.size + 1 < w5.heap.size := (by omega)); (try have y51p : w.heap.size + 1 < w5.heap.size + 1 := (by omega)); (try have y52 : w.heap.size + 1 + 1 < w5.heap.size := (by omega)); (try have y52p : w.heap.size + 1 + 1 < w5.heap.size + 1 := (by omega)); (try have v0x5 : w0.heap.size < w5.heap.size := (by omega)); (try have v0x5p : w0.heap.size < w5.heap.size + 1 := (by omega)); (try have v1x5 : w1.heap.size < w5.heap.size := (by omega)); (try have v1x5p : w1.heap.size < w5.heap.size + 1 := (by omega)); (try have v2x5 : w2.heap.size < w5.heap.size := (by omega)); (try have v2x5p : w2.heap.size < w5.heap.size + 1 := (by omega)); (try have v3x5 : w3.heap.size < w5.heap.size := (by omega)); (try have v3x5p : w3.heap.size < w5.heap.size + 1 := (by omega)); (try have v4x5 : w4.heap.size < w5.heap.size := (by omega)); (try have v4x5p : w4.heap.size < w5.heap.size + 1 := (by omega))))
      have hk0 : KN a b c d k l m n p q r s w2.heap.size w (w2.alloc (.cells #[.int .i64 p, .int .i64 q, .int .i64 r, .int .i64 s] 32)) := by
        refine ⟨?_, ?_⟩
        · repeat (first | with_reducible exact Below.refl _ _ | with_reducible refine Below.setCell ?_ ?_ _ | with_reducible refine Below.alloc ?_ ?_ _ | with_reducible refine Below.drew ?_ | with_reducible refine below_drewN ?_ _ | (refine Below.trans ?_ (bmono (by assumption) ?_)))
          all_goals (first | omega | (simp <;> omega))
        · intro q hq
          simp only [List.mem_cons, List.not_mem_nil, or_false] at hq
          rcases hq with rfl | rfl | rfl
          · exact Blk.alloc ((((Blk.new2 rfl).alloc _).below hb1 (by first | omega | (simp <;> omega))).below hb2 (by omega)) _
          · exact Blk.alloc (((Blk.new2 (by simp)).below hb1 (by first | omega | (simp <;> omega))).below hb2 (by omega)) _
          · exact Blk.new2 rfl
      have hk5 : KN a b c d k l m n p q r s w2.heap.size w w5 := KL.over (KL.over (KL.over hk0 hb3) hb4) hb5
      have hka := hk5.alls
      clear hk0 hb1 hb2 hb3 hb4 hb5 hc1 hc2 hc3 hc4 hc5 hf1 hf2 hf3 hf4 hf5
      have q1 : ∀ W, KN a b c d k l m n p q r s w2.heap.size w W → Calls Try.prog 31 #[.agg #[.int .i64 a, .int .i64 b, .int .i64 c, .int .i64 d]] W _ := keepsKL r1
      clear r1 h3 h4 h5
      go_region_held3 (fun W => KN a b c d k l m n p q r s w2.heap.size w W ∧ (w.heap.size < W.heap.size ∧ w.heap.size + 1 < W.heap.size ∧ w2.heap.size < W.heap.size) ∧
          (W.cell? ⟨w.heap.size, 0, none⟩ = some (.int .i64 a) ∧ W.cell? ⟨w.heap.size, 1, none⟩ = some (.int .i64 b) ∧ W.cell? ⟨w.heap.size, 2, none⟩ = some (.int .i64 c) ∧ W.cell? ⟨w.heap.size, 3, none⟩ = some (.int .i64 d)) ∧
          (W.cell? ⟨w.heap.size + 1, 0, none⟩ = some (.int .i64 k) ∧ W.cell? ⟨w.heap.size + 1, 1, none⟩ = some (.int .i64 l) ∧ W.cell? ⟨w.heap.size + 1, 2, none⟩ = some (.int .i64 m) ∧ W.cell? ⟨w.heap.size + 1, 3, none⟩ = some (.int .i64 n)) ∧
          W.cell? ⟨w2.heap.size, 0, none⟩ = some (.int .i64 p) ∧ W.cell? ⟨w2.heap.size, 1, none⟩ = some (.int .i64 q) ∧ W.cell? ⟨w2.heap.size, 2, none⟩ = some (.int .i64 r) ∧ W.cell? ⟨w2.heap.size, 3, none⟩ = some (.int .i64 s))
        (first | exact hka | exact KN.alls ‹_› | exact (KN.alls (KL.drew ‹_›)))
        ((go_at_call 31; refine (q1 _ ?_).mono ?_; (first | assumption | exact And.left ‹_›); rintro e w6 ⟨rfl, hk6, hb6⟩))
      have hk7 : KN a b c d k l m n p q r s w2.heap.size w w6 := hk6
      obtain ⟨_, ⟨s1, s2, s3⟩, ⟨g1, g2, g3, g4⟩, ⟨g5, g6, g7, g8⟩, _⟩ := hk7.alls
      clear hka hk5 hk6
      go_wp2_with (go_at_call 20; refine (c2 _).mono ?_; rintro e w7 ⟨rfl, hb7⟩)
      have hk8 : KN a b c d k l m n p q r s w2.heap.size w w7 := by first | exact KL.over hk7 hb7 | exact KL.over (KL.drew hk7) hb7
      go_ret
      exact ⟨rfl, hk8.1⟩
  · have c1 := rcheck_any a b c d
    have h3 := Normal_bad a b c d ha
    have h4 := Equal_bad a b c d k l m n (by simp [eHH, ha])
    have h5 := Within_bad a b c d k l m n (by simp [eHH, ha])
    rw [show eHH a b c d k l m n = eH a b c d by simp [eHH, ha]] at h4 h5
    have e0 : ∀ w, Sem.run Try.prog (binOp .eql 32 (.agg #[.int .i64 0, .int .i64 0, .int .i64 0, .int .i64 0]) (.agg #[.int .i64 0, .int .i64 0, .int .i64 0, .int .i64 0])) w = .ok (.bool true) w := fun w => eqH 0 0 0 0 0 0 0 0 w
    generalize eH a b c d = K at h3 h4 h5 c1 ha
    obtain ⟨t1, t2⟩ := ne_tests ha
    clear ha
    go_enter Try.func6, Try.ntmps6
    go_wp2_with (first
      | (go_at_call 17; refine (awake_any _).mono ?_; rintro e w1 ⟨rfl, hb1⟩; obtain ⟨hc1, hf1⟩ := bcell hb1; have hz1 := hb1.size; (try simp at hz1); (try have y10 : w.heap.size < w1.heap.size := (by omega)); (try have y10p : w.heap.size < w1.heap.size + 1 := (by omega)); (try have y11 : w.heap.size + 1 < w1.heap.size := (by omega)); (try have y11p : w.heap.size + 1 < w1.heap.size + 1 := (by omega)); (try have y12 : w.heap.size + 1 + 1 < w1.heap.size := (by omega)); (try have y12p : w.heap.size + 1 + 1 < w1.heap.size + 1 := (by omega)); (try have v0x1 : w0.heap.size < w1.heap.size := (by omega)); (try have v0x1p : w0.heap.size < w1.heap.size + 1 := (by omega)))
      | (go_at_call 28; refine (h3 _).mono ?_; rintro e w2 ⟨rfl, hb2⟩; obtain ⟨hc2, hf2⟩ := bcell hb2; have hz2 := hb2.size; (try simp at hz2); (try have y20 : w.heap.size < w2.heap.size := (by omega)); (try have y20p : w.heap.size < w2.heap.size + 1 := (by omega)); (try have y21 : w.heap.size + 1 < w2.heap.size := (by omega)); (try have y21p : w.heap.size + 1 < w2.heap.size + 1 := (by omega)); (try have y22 : w.heap.size + 1 + 1 < w2.heap.size := (by omega)); (try have y22p : w.heap.size + 1 + 1 < w2.heap.size + 1 := (by omega)); (try have v0x2 : w0.heap.size < w2.heap.size := (by omega)); (try have v0x2p : w0.heap.size < w2.heap.size + 1 := (by omega)); (try have v1x2 : w1.heap.size < w2.heap.size := (by omega)); (try have v1x2p : w1.heap.size < w2.heap.size + 1 := (by omega)))
      | (go_at_call 29; refine (h4 _).mono ?_; rintro e w3 ⟨rfl, hb3⟩; obtain ⟨hc3, hf3⟩ := bcell hb3; have hz3 := hb3.size; (try simp at hz3); (try have y30 : w.heap.size < w3.heap.size := (by omega)); (try have y30p : w.heap.size < w3.heap.size + 1 := (by omega)); (try have y31 : w.heap.size + 1 < w3.heap.size := (by omega)); (try have y31p : w.heap.size + 1 < w3.heap.size + 1 := (by omega)); (try have y32 : w.heap.size + 1 + 1 < w3.heap.size := (by omega)); (try have y32p : w.heap.size + 1 + 1 < w3.heap.size + 1 := (by omega)); (try have v0x3 : w0.heap.size < w3.heap.size := (by omega)); (try have v0x3p : w0.heap.size < w3.heap.size + 1 := (by omega)); (try have v1x3 : w1.heap.size < w3.heap.size := (by omega)); (try have v1x3p : w1.heap.size < w3.heap.size + 1 := (by omega)); (try have v2x3 : w2.heap.size < w3.heap.size := (by omega)); (try have v2x3p : w2.heap.size < w3.heap.size + 1 := (by omega)))
      | (go_at_call 30; refine (h5 _).mono ?_; rintro e w4 ⟨rfl, hb4⟩; obtain ⟨hc4, hf4⟩ := bcell hb4; have hz4 := hb4.size; (try simp at hz4); (try have y40 : w.heap.size < w4.heap.size := (by omega)); (try have y40p : w.heap.size < w4.heap.size + 1 := (by omega)); (try have y41 : w.heap.size + 1 < w4.heap.size := (by omega)); (try have y41p : w.heap.size + 1 < w4.heap.size + 1 := (by omega)); (try have y42 : w.heap.size + 1 + 1 < w4.heap.size := (by omega)); (try have y42p : w.heap.size + 1 + 1 < w4.heap.size + 1 := (by omega)); (try have v0x4 : w0.heap.size < w4.heap.size := (by omega)); (try have v0x4p : w0.heap.size < w4.heap.size + 1 := (by omega)); (try have v1x4 : w1.heap.size < w4.heap.size := (by omega)); (try have v1x4p : w1.heap.size < w4.heap.size + 1 := (by omega)); (try have v2x4 : w2.heap.size < w4.heap.size := (by omega)); (try have v2x4p : w2.heap.size < w4.heap.size + 1 := (by omega)); (try have v3x4 : w3.heap.size < w4.heap.size := (by omega)); (try have v3x4p : w3.heap.size < w4.heap.size + 1 := (by omega)))
      | (go_at_call 20; refine (c1 _).mono ?_; rintro e w5 ⟨rfl, hb5⟩; obtain ⟨hc5, hf5⟩ := bcell hb5; have hz5 := hb5.size; (try simp at hz5); (try have y50 : w.heap.size < w5.heap.size := (by omega)); (try have y50p : w.heap.size < w5.heap.size + 1 := (by omega)); (try have y51 : w.heap.size + 1 < w5.heap.size := (by omega)); (try have y51p : w.heap.size + 1 < w5.heap.size + 1 := (by omega)); (try have y52 : w.heap.size + 1 + 1 < w5.heap.size := (by omega)); (try have y52p : w.heap.size + 1 + 1 < w5.heap.size + 1 := (by omega)); (try have v0x5 : w0.heap.size < w5.heap.size := (by omega)); (try have v0x5p : w0.heap.size < w5.heap.size + 1 := (by omega)); (try have v1x5 : w1.heap.size < w5.heap.size := (by omega)); (try have v1x5p : w1.heap.size < w5.heap.size + 1 := (by omega)); (try have v2x5 : w2.heap.size < w5.heap.size := (by omega)); (try have v2x5p : w2.heap.size < w5.heap.size + 1 := (by omega)); (try have v3x5 : w3.heap.size < w5.heap.size := (by omega)); (try have v3x5p : w3.heap.size < w5.heap.size + 1 := (by omega)); (try have v4x5 : w4.heap.size < w5.heap.size := (by omega)); (try have v4x5p : w4.heap.size < w5.heap.size + 1 := (by omega))))
    go_ret
    refine ⟨rfl, ?_⟩
    repeat (first | with_reducible exact Below.refl _ _ | with_reducible refine Below.setCell ?_ ?_ _ | with_reducible refine Below.alloc ?_ ?_ _ | with_reducible refine Below.drew ?_ | with_reducible refine below_drewN ?_ _ | (refine Below.trans ?_ (bmono (by assumption) ?_)))
    all_goals (first | omega | (simp <;> omega))

set_option maxHeartbeats 800000 in
set_option maxRecDepth 100000 in
theorem planeNormals_lifted (os : Os) (started : os.Started) (H : Type) (enc : TypeId × Value → H) :
    ReturnsInHanded {} Try.checked os 6 .any (Rows.planeNormalsSpec.pre6 enc Try.prog Try.f6 Rows.planeNormalsRow.domain false) (Rows.planeNormalsSpec.post enc Try.prog Try.f6 false true false false) := by
  refine returnsInHanded_of_change (C := Try.checked) Try.own started (by kernel_rfl) Try.func6
    (ChangeSpec.witness6 (enc := enc) (C := Try.checked) false ⟨#[], #[.agg #[.int .i64 0, .int .i64 0, .int .i64 0, .int .i64 0], .agg #[.int .i64 0, .int .i64 0, .int .i64 0, .int .i64 0]], []⟩ 8 (by kernel_rfl) (by kernel_rfl) (by kernel_rfl) (by kernel_rfl)) ?_
  intro W base args ds gs before hval0 hW _ _
  have hval : ∀ (j : Nat) t v, Try.f6.params[j]? = some t → args[j]? = some v → Value.okWide Try.prog W .any base t v := hval0
  have hW' := hW
  obtain ⟨p, q, hA0, hV, rfl, _, _⟩ := hW
  have hA : DataW.TrodAll enc Try.prog W 0 (fun _ => true) true Try.f6.params.toList args.toList ds p := hA0
  rw [Try.params6] at hA hval
  obtain ⟨v0, v1, d0, d1, p0, p1, rfl, rfl, rfl, h0, h1⟩ := trodAll_two hA
  obtain ⟨rfl, rfl⟩ := trodVars_none hV
  clear hA0 hval0
  simp only [List.append_nil] at hW'
  have harg0 : ∀ W' : World, Below W.heap.size W W' → DataW.Trod enc Try.prog W' 0 (fun b => decide (b < W.heap.size)) true 32 v0 d0 p0 :=
    fun W' hn => Below.trod Try.laidOut (by kernel_rfl) (of_decide_eq_true (by kernel_rfl)) h0 hn (fun y hy => by simpa using hW'.lt y (by simp [hy]))
  have harg1 : ∀ W' : World, Below W.heap.size W W' → DataW.Trod enc Try.prog W' 0 (fun b => decide (b < W.heap.size)) true 32 v1 d1 p1 :=
    fun W' hn => Below.trod Try.laidOut (by kernel_rfl) (of_decide_eq_true (by kernel_rfl)) h1 hn (fun y hy => by simpa using hW'.lt y (by simp [hy]))
  obtain ⟨a, b, c, d, rfl⟩ := open_half (hval 0 32 v0 rfl rfl) h0
  obtain ⟨k, l, m, n, rfl⟩ := open_half (hval 1 32 v1 rfl rfl) h1
  refine (planeNormals_any a b c d k l m n W).mono fun e W' ⟨he, hn⟩ => ?_
  subst he
  exact ⟨_, rfl, _, _, _, [], _, [], hW', trodAll_mk1 (shut_bool Try.underlying4 _), trodAll_mk2 (harg0 _ hn) (harg1 _ hn), (List.append_nil _).symm, hn.frame _, fun h => by cases h⟩

theorem planeNormals_holds : Rows.PlaneNormalsSaid :=
  OpenClaim.holds_of_wide 6 Try.f6 rfl rfl rfl rfl rfl rfl rfl ⟨rfl, rfl, rfl, rfl, rfl⟩ rfl rfl rfl rfl rfl (by kernel_rfl) Try.func6 (by kernel_rfl)
    (of_decide_eq_true (by kernel_rfl)) (by unfold Func.isWrapper; first | (rw [if_pos (by decide +kernel)]; kernel_rfl) | (rw [if_neg (by decide +kernel)]; exact ⟨rfl, rfl⟩))
    (fun os started H enc _ => planeNormals_lifted os started H enc)
end Go.Proofs.Ytoeniaafcnnnoaa
