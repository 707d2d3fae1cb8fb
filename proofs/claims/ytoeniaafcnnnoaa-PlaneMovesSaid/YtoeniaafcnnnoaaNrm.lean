/- The walks of plane's normal and Normal. The half-space is valid. -/
import Derived.Test.YtoeniaafcnnnoaaExt
namespace Go.Proofs.Ytoeniaafcnnnoaa
open Go.RowKit

theorem zer_no {a b c : Int} (h : zer a b c = false) : gcd3 a b c ≠ 0 := gcd3_ne h
theorem gcd3_le3 {a b c : Int} (ha : inF a = true) (hb : inF b = true) (hc : inF c = true) : gcd3 a b c ≤ 1000 := by
  have h1 := inF_abs ha
  have h2 := inF_abs hb
  have h3 := inF_abs hc
  unfold gcd3
  rcases Nat.eq_zero_or_pos c.natAbs with h | h
  · rw [h, Nat.gcd_zero_right]
    rcases Nat.eq_zero_or_pos a.natAbs with h' | h'
    · rw [h', Nat.gcd_zero_left]; omega
    · have := Nat.gcd_le_left b.natAbs h'; omega
  · have := Nat.gcd_le_right (Nat.gcd a.natAbs b.natAbs) h; omega
set_option maxHeartbeats 4000000 in
theorem normal_in (a b c d : Int) (h : eH a b c d = 0) (w : World) :
    Calls Try.prog 58 #[.agg #[.int .i64 a, .int .i64 b, .int .i64 c, .int .i64 d]] w fun e w' => e = .returned (.agg #[.int .i64 (a.tdiv (gcd3 a b c)), .int .i64 (b.tdiv (gcd3 a b c)), .int .i64 (c.tdiv (gcd3 a b c)), .int .i64 (d / (gcd3 a b c))]) ∧ Below w.heap.size w w' := by
  obtain ⟨hok, hz⟩ := eH_zero h
  obtain ⟨h1, h2, h3, h4⟩ := okF_iff.1 hok
  have hg := zer_no hz
  have hp := prim_ok a b c (inF_C h1) (inF_C h2) (inF_C h3) hg hz
  have ho := outward_any a b c d
  have hr := rd_any d (gcd3 a b c) (by have := inD_abs h4; omega) (by omega)
  clear h hok hz h1 h2 h3 h4
  generalize a.tdiv (gcd3 a b c) = p at hp ⊢
  generalize b.tdiv (gcd3 a b c) = q at hp ⊢
  generalize c.tdiv (gcd3 a b c) = r at hp ⊢
  generalize d / (gcd3 a b c : Int) = s at hr ⊢
  generalize ((gcd3 a b c : Nat) : Int) = f at hp hr
  clear hg
  go_enter Try.func58, Try.ntmps58
  go_wp2_with (first
    | (go_at_call 51; refine (ho _).mono ?_; rintro e w1 ⟨rfl, hb1⟩; obtain ⟨hc1, hf1⟩ := bcell hb1; have hz1 := hb1.size; (try simp at hz1); (try have y10 : w.heap.size < w1.heap.size := (by omega)); (try have y10p : w.heap.size < w1.heap.size + 1 := (by omega)); (try have y11 : w.heap.size + 1 < w1.heap.size := (by omega)); (try have y11p : w.heap.size + 1 < w1.heap.size + 1 := (by omega)); (try have y12 : w.heap.size + 1 + 1 < w1.heap.size := (by omega)); (try have y12p : w.heap.size + 1 + 1 < w1.heap.size + 1 := (by omega)); (try have v0x1 : w0.heap.size < w1.heap.size := (by omega)); (try have v0x1p : w0.heap.size < w1.heap.size + 1 := (by omega)))
    | (go_at_call 40; refine (hp _).mono ?_; rintro e w2 ⟨rfl, hb2⟩; obtain ⟨hc2, hf2⟩ := bcell hb2; have hz2 := hb2.size; (try simp at hz2); (try have y20 : w.heap.size < w2.heap.size := (by omega)); (try have y20p : w.heap.size < w2.heap.size + 1 := (by omega)); (try have y21 : w.heap.size + 1 < w2.heap.size := (by omega)); (try have y21p : w.heap.size + 1 < w2.heap.size + 1 := (by omega)); (try have y22 : w.heap.size + 1 + 1 < w2.heap.size := (by omega)); (try have y22p : w.heap.size + 1 + 1 < w2.heap.size + 1 := (by omega)); (try have v0x2 : w0.heap.size < w2.heap.size := (by omega)); (try have v0x2p : w0.heap.size < w2.heap.size + 1 := (by omega)); (try have v1x2 : w1.heap.size < w2.heap.size := (by omega)); (try have v1x2p : w1.heap.size < w2.heap.size + 1 := (by omega))))
  have hB : Below w.heap.size w (w2.alloc (.cells #[.int .i64 p, .int .i64 q, .int .i64 r] 34)) := by
    repeat (first | exact Below.refl _ _ | refine Below.drew ?_ | refine below_drewN ?_ _ | refine Below.setCell ?_ ?_ _ | refine Below.alloc ?_ ?_ _ | (refine Below.trans ?_ (bmono (by assumption) ?_)))
    all_goals (first | omega | (simp <;> omega))
  have hS : (w2.alloc (.cells #[.int .i64 p, .int .i64 q, .int .i64 r] 34)).cell? ⟨w2.heap.size, 0, none⟩ = some (.int .i64 p) ∧ (w2.alloc (.cells #[.int .i64 p, .int .i64 q, .int .i64 r] 34)).cell? ⟨w2.heap.size, 1, none⟩ = some (.int .i64 q) ∧
      (w2.alloc (.cells #[.int .i64 p, .int .i64 q, .int .i64 r] 34)).cell? ⟨w2.heap.size, 2, none⟩ = some (.int .i64 r) ∧ (w2.alloc (.cells #[.int .i64 p, .int .i64 q, .int .i64 r] 34)).cell? ⟨w.heap.size, 3, none⟩ = some (.int .i64 d) := by
    refine ⟨by go_simp, by go_simp, by go_simp, by go_simp⟩
  go_region_held3 (fun W => W.cell? ⟨w2.heap.size, 0, none⟩ = some (.int .i64 p) ∧ W.cell? ⟨w2.heap.size, 1, none⟩ = some (.int .i64 q) ∧ W.cell? ⟨w2.heap.size, 2, none⟩ = some (.int .i64 r) ∧ W.cell? ⟨w.heap.size, 3, none⟩ = some (.int .i64 d))
    (first | exact hS | (refine ⟨?_, ?_, ?_, ?_⟩ <;> go_simp))
    ((go_at_call 79; refine (hr _).mono ?_; rintro e w' ⟨rfl, rfl⟩))
  go_wp2
  exact bodyPost_ret (v := .agg #[.int .i64 p, .int .i64 q, .int .i64 r, .int .i64 s]) (by simp [results, Try.results58, go_sem, hc1, hc2, y11, y21]) rfl ⟨rfl, by
    repeat (first | exact Below.refl _ _ | refine Below.drew ?_ | refine below_drewN ?_ _ | refine Below.setCell ?_ ?_ _ | refine Below.alloc ?_ ?_ _ | (refine Below.trans ?_ (bmono (by assumption) ?_)))
    all_goals (first | omega | (simp <;> omega))⟩
set_option maxHeartbeats 1000000 in
theorem Normal_bad (a b c d : Int) (h : eH a b c d ≠ 0) (w : World) :
    Calls Try.prog 28 #[.agg #[.int .i64 a, .int .i64 b, .int .i64 c, .int .i64 d]] w fun e w' => e = .returned (.tuple #[.agg #[.int .i64 0, .int .i64 0, .int .i64 0, .int .i64 0], .int .i64 (eH a b c d)]) ∧ Below w.heap.size w w' := by
  have h1 := pcheck_any a b c d
  generalize eH a b c d = e1 at h1 h ⊢
  obtain ⟨t1, t2⟩ := ne_tests h
  clear h
  go_enter Try.func28, Try.ntmps28
  go_wp2_with (go_at_call 19; refine (h1 _).mono ?_; rintro e w1 ⟨rfl, hb1⟩; obtain ⟨hc1, hf1⟩ := bcell hb1; have hz1 := hb1.size; (try simp at hz1); (try have y10 : w.heap.size < w1.heap.size := (by omega)); (try have y10p : w.heap.size < w1.heap.size + 1 := (by omega)); (try have y11 : w.heap.size + 1 < w1.heap.size := (by omega)); (try have y11p : w.heap.size + 1 < w1.heap.size + 1 := (by omega)); (try have y12 : w.heap.size + 1 + 1 < w1.heap.size := (by omega)); (try have y12p : w.heap.size + 1 + 1 < w1.heap.size + 1 := (by omega)); (try have v0x1 : w0.heap.size < w1.heap.size := (by omega)); (try have v0x1p : w0.heap.size < w1.heap.size + 1 := (by omega)))
  exact bodyPost_ret (v := .tuple #[.agg #[.int .i64 0, .int .i64 0, .int .i64 0, .int .i64 0], .int .i64 e1]) (by simp [results, Try.results28, go_sem, hc1]) rfl ⟨rfl, by
    repeat (first | exact Below.refl _ _ | refine Below.drew ?_ | refine below_drewN ?_ _ | refine Below.setCell ?_ ?_ _ | refine Below.alloc ?_ ?_ _ | (refine Below.trans ?_ (bmono (by assumption) ?_)))
    all_goals (first | omega | (simp <;> omega))⟩
set_option maxHeartbeats 1000000 in
theorem Normal_ok (a b c d : Int) (h : eH a b c d = 0) (w : World) :
    Calls Try.prog 28 #[.agg #[.int .i64 a, .int .i64 b, .int .i64 c, .int .i64 d]] w fun e w' => e = .returned (.tuple #[.agg #[.int .i64 (a.tdiv (gcd3 a b c)), .int .i64 (b.tdiv (gcd3 a b c)), .int .i64 (c.tdiv (gcd3 a b c)), .int .i64 (d / (gcd3 a b c))], .int .i64 0]) ∧ Below w.heap.size w w' := by
  have h1 := pcheck_any a b c d
  rw [h] at h1
  have h2 := normal_in a b c d h
  clear h
  generalize a.tdiv (gcd3 a b c) = p at h2 ⊢
  generalize b.tdiv (gcd3 a b c) = q at h2 ⊢
  generalize c.tdiv (gcd3 a b c) = r at h2 ⊢
  generalize d / (gcd3 a b c : Int) = s at h2 ⊢
  go_enter Try.func28, Try.ntmps28
  go_wp2_with (first
    | (go_at_call 19; refine (h1 _).mono ?_; rintro e w1 ⟨rfl, hb1⟩; obtain ⟨hc1, hf1⟩ := bcell hb1; have hz1 := hb1.size; (try simp at hz1); (try have y10 : w.heap.size < w1.heap.size := (by omega)); (try have y10p : w.heap.size < w1.heap.size + 1 := (by omega)); (try have y11 : w.heap.size + 1 < w1.heap.size := (by omega)); (try have y11p : w.heap.size + 1 < w1.heap.size + 1 := (by omega)); (try have y12 : w.heap.size + 1 + 1 < w1.heap.size := (by omega)); (try have y12p : w.heap.size + 1 + 1 < w1.heap.size + 1 := (by omega)); (try have v0x1 : w0.heap.size < w1.heap.size := (by omega)); (try have v0x1p : w0.heap.size < w1.heap.size + 1 := (by omega)))
    | (go_at_call 58; refine (h2 _).mono ?_; rintro e w2 ⟨rfl, hb2⟩; obtain ⟨hc2, hf2⟩ := bcell hb2; have hz2 := hb2.size; (try simp at hz2); (try have y20 : w.heap.size < w2.heap.size := (by omega)); (try have y20p : w.heap.size < w2.heap.size + 1 := (by omega)); (try have y21 : w.heap.size + 1 < w2.heap.size := (by omega)); (try have y21p : w.heap.size + 1 < w2.heap.size + 1 := (by omega)); (try have y22 : w.heap.size + 1 + 1 < w2.heap.size := (by omega)); (try have y22p : w.heap.size + 1 + 1 < w2.heap.size + 1 := (by omega)); (try have v0x2 : w0.heap.size < w2.heap.size := (by omega)); (try have v0x2p : w0.heap.size < w2.heap.size + 1 := (by omega)); (try have v1x2 : w1.heap.size < w2.heap.size := (by omega)); (try have v1x2p : w1.heap.size < w2.heap.size + 1 := (by omega))))
  exact bodyPost_ret (v := .tuple #[.agg #[.int .i64 p, .int .i64 q, .int .i64 r, .int .i64 s], .int .i64 0]) (by simp [results, Try.results28, go_sem, hc1, hc2, y11]) rfl ⟨rfl, by
    repeat (first | exact Below.refl _ _ | refine Below.drew ?_ | refine below_drewN ?_ _ | refine Below.setCell ?_ ?_ _ | refine Below.alloc ?_ ?_ _ | (refine Below.trans ?_ (bmono (by assumption) ?_)))
    all_goals (first | omega | (simp <;> omega))⟩
end Go.Proofs.Ytoeniaafcnnnoaa
