/- A block list that is stored into; the walks of kerf's ends and part. -/
import Derived.Test.YtogmgaaejepcbaaSm2
import Derived.Test.YtogmgaaejepcbaaOwn
import Derived.BigRegion
import Derived.RegionTactic
namespace Go.Proofs.Ytogmgaaejepcbaa
open Go.RowKit

theorem KL.st {Z Z' : List (Nat × TypeId × Array Value)} {w W : World} {g : Nat} {t : TypeId} {cs : Array Value} (h : KL Z w W) (hm : (g, t, cs) ∈ Z) (hw : w.heap.size ≤ g) (i : Nat) (u : Value)
    (hZ : ∀ q ∈ Z', q = (g, t, cs.setIfInBounds i u) ∨ (q ∈ Z ∧ q.1 ≠ g)) : KL Z' w (W.setCell ⟨g, i, none⟩ u) :=
  ⟨h.1.setCell hw u, fun q hq => by
    rcases hZ q hq with rfl | ⟨h1, h2⟩
    · exact (h.blk hm).set_ i u
    · exact (h.2 q h1).far h2 u⟩
theorem KL.nil (w : World) : KL [] w w := ⟨Below.refl _ _, fun q hq => by cases hq⟩
theorem KL.new {Z : List (Nat × TypeId × Array Value)} {w W : World} (h : KL Z w W) {g : Nat} (hg : g = W.heap.size) (t : TypeId) (cs : Array Value) : KL ((g, t, cs) :: Z) w (W.alloc (.cells cs t)) :=
  ⟨Below.alloc h.1 h.1.size _, fun q hq => by
    rcases List.mem_cons.1 hq with rfl | hq
    · exact Blk.new2 hg
    · exact (h.2 q hq).alloc _⟩
theorem KL.up {Z : List (Nat × TypeId × Array Value)} {w W W' : World} {g : Nat} {t : TypeId} {cs cs' : Array Value} (i : Nat) (h : KL Z w W) (hi : Z[i]? = some (g, t, cs)) (hne : ∀ q ∈ Z.eraseIdx i, q.1 ≠ g)
    (hb : Below w.heap.size w W') (hs : Blk W g t cs → Blk W' g t cs') (hf : ∀ k ty xs, k ≠ g → Blk W k ty xs → Blk W' k ty xs) : KL (Z.set i (g, t, cs')) w W' := by
  refine ⟨hb, fun q hq => ?_⟩
  have hil : i < Z.length := by
    rcases Nat.lt_or_ge i Z.length with h1 | h1
    · exact h1
    · rw [List.getElem?_eq_none h1] at hi; cases hi
  rw [List.mem_iff_getElem?] at hq
  obtain ⟨j, hj⟩ := hq
  rw [List.getElem?_set] at hj
  by_cases e : i = j
  · subst e
    rw [if_pos rfl, if_pos hil] at hj
    injection hj with hj
    subst hj
    exact hs (h.2 _ (List.mem_iff_getElem?.2 ⟨_, hi⟩))
  · rw [if_neg e] at hj
    have hm : q ∈ Z.eraseIdx i := by
      rw [List.mem_eraseIdx_iff_getElem?]
      exact ⟨j, fun e' => e e'.symm, hj⟩
    exact hf _ _ _ (hne q hm) (h.2 q (List.mem_iff_getElem?.2 ⟨j, hj⟩))
section
variable {Z : List (Nat × TypeId × Array Value)} {w W : World} {g : Nat} {t : TypeId} {a b c d e f a' b' c' d' e' f' : Value}
theorem KL.up1 {cs : Array Value} (i : Nat) (h : KL Z w W) (hi : Z[i]? = some (g, t, cs)) (hw : w.heap.size ≤ g) (hne : ∀ q ∈ Z.eraseIdx i, q.1 ≠ g) (o : Nat) (u : Value) : KL (Z.set i (g, t, cs.setIfInBounds o u)) w (W.setCell ⟨g, o, none⟩ u) :=
  h.up i hi hne (h.1.setCell hw u) (fun hb => hb.set_ o u) fun _ _ _ hk hb => hb.far hk u
theorem KL.up3 (i : Nat) (h : KL Z w W) (hi : Z[i]? = some (g, t, #[a, b, c])) (hw : w.heap.size ≤ g) (hne : ∀ q ∈ Z.eraseIdx i, q.1 ≠ g) :
    KL (Z.set i (g, t, #[a', b', c'])) w (((W.setCell ⟨g, 0, none⟩ a').setCell ⟨g, 1, none⟩ b').setCell ⟨g, 2, none⟩ c') :=
  h.up i hi hne (((h.1.setCell hw _).setCell hw _).setCell hw _) (fun hb => by simpa using ((hb.set_ 0 a').set_ 1 b').set_ 2 c') fun _ _ _ hk hb => ((hb.far hk _).far hk _).far hk _
theorem KL.up6 (i : Nat) (h : KL Z w W) (hi : Z[i]? = some (g, t, #[a, b, c, d, e, f])) (hw : w.heap.size ≤ g) (hne : ∀ q ∈ Z.eraseIdx i, q.1 ≠ g) :
    KL (Z.set i (g, t, #[a', b', c', d', e', f'])) w ((((((W.setCell ⟨g, 0, none⟩ a').setCell ⟨g, 1, none⟩ b').setCell ⟨g, 2, none⟩ c').setCell ⟨g, 3, none⟩ d').setCell ⟨g, 4, none⟩ e').setCell ⟨g, 5, none⟩ f') :=
  h.up i hi hne ((((((h.1.setCell hw _).setCell hw _).setCell hw _).setCell hw _).setCell hw _).setCell hw _) (fun hb => by simpa using (((((hb.set_ 0 a').set_ 1 b').set_ 2 c').set_ 3 d').set_ 4 e').set_ 5 f')
    fun _ _ _ hk hb => (((((hb.far hk _).far hk _).far hk _).far hk _).far hk _).far hk _
theorem KL.upL (i : Nat) (h : KL Z w W) (hi : Z[i]? = some (g, t, #[a, b, c, d, e, f])) (hw : w.heap.size ≤ g) (hne : ∀ q ∈ Z.eraseIdx i, q.1 ≠ g) :
    KL (Z.set i (g, t, #[a', b', c', d, e, f])) w (((W.setCell ⟨g, 0, none⟩ a').setCell ⟨g, 1, none⟩ b').setCell ⟨g, 2, none⟩ c') :=
  h.up i hi hne (((h.1.setCell hw _).setCell hw _).setCell hw _) (fun hb => by simpa using ((hb.set_ 0 a').set_ 1 b').set_ 2 c') fun _ _ _ hk hb => ((hb.far hk _).far hk _).far hk _
theorem KL.upH (i : Nat) (h : KL Z w W) (hi : Z[i]? = some (g, t, #[a, b, c, d, e, f])) (hw : w.heap.size ≤ g) (hne : ∀ q ∈ Z.eraseIdx i, q.1 ≠ g) :
    KL (Z.set i (g, t, #[a, b, c, d', e', f'])) w (((W.setCell ⟨g, 3, none⟩ d').setCell ⟨g, 4, none⟩ e').setCell ⟨g, 5, none⟩ f') :=
  h.up i hi hne (((h.1.setCell hw _).setCell hw _).setCell hw _) (fun hb => by simpa using ((hb.set_ 3 d').set_ 4 e').set_ 5 f') fun _ _ _ hk hb => ((hb.far hk _).far hk _).far hk _
theorem bl1 (h : Blk W g t #[a]) : g < W.heap.size ∧ W.cell? ⟨g, 0, none⟩ = some a := ⟨h.lt, h.cell 0⟩
theorem bl3 (h : Blk W g t #[a, b, c]) : g < W.heap.size ∧ W.cell? ⟨g, 0, none⟩ = some a ∧ W.cell? ⟨g, 1, none⟩ = some b ∧ W.cell? ⟨g, 2, none⟩ = some c := ⟨h.lt, h.cell 0, h.cell 1, h.cell 2⟩
theorem bl6 (h : Blk W g t #[a, b, c, d, e, f]) : g < W.heap.size ∧ W.cell? ⟨g, 0, none⟩ = some a ∧ W.cell? ⟨g, 1, none⟩ = some b ∧ W.cell? ⟨g, 2, none⟩ = some c ∧ W.cell? ⟨g, 3, none⟩ = some d ∧ W.cell? ⟨g, 4, none⟩ = some e ∧ W.cell? ⟨g, 5, none⟩ = some f :=
  ⟨h.lt, h.cell 0, h.cell 1, h.cell 2, h.cell 3, h.cell 4, h.cell 5⟩
end
set_option maxHeartbeats 1000000 in
theorem ends_any (g : Nat) (w : World) :
    Calls Try.prog 42 #[.pointer (some ⟨g, 0, none⟩)] w fun e w' => e = .returned (.tuple #[.agg #[.pointer (some ⟨g, 0, none⟩), .pointer (some ⟨g, 1, none⟩), .pointer (some ⟨g, 2, none⟩)], .agg #[.pointer (some ⟨g, 3, none⟩), .pointer (some ⟨g, 4, none⟩), .pointer (some ⟨g, 5, none⟩)]]) ∧ Below w.heap.size w w' := by
  go_enter Try.func42, Try.ntmps42
  go_wp2
  go_region
  go_wp2
  exact bodyPost_ret (v := .tuple #[.agg #[.pointer (some ⟨g, 0, none⟩), .pointer (some ⟨g, 1, none⟩), .pointer (some ⟨g, 2, none⟩)], .agg #[.pointer (some ⟨g, 3, none⟩), .pointer (some ⟨g, 4, none⟩), .pointer (some ⟨g, 5, none⟩)]]) (by simp [results, Try.results42, go_sem]) rfl ⟨rfl, by
    repeat (first | with_reducible exact Below.refl _ _ | with_reducible refine Below.setCell ?_ ?_ _ | with_reducible refine Below.alloc ?_ ?_ _ | with_reducible refine Below.drew ?_ | with_reducible refine below_drewN ?_ _ | (refine Below.trans ?_ (bmono (by assumption) ?_)))
    all_goals (first | omega | (simp <;> omega))⟩
set_option maxHeartbeats 1000000 in
theorem part0 (x y z p q r f t : Int) (w : World) :
    Calls Try.prog 43 #[.agg #[.int .i64 x, .int .i64 y, .int .i64 z, .int .i64 p, .int .i64 q, .int .i64 r], .int .i64 0, .int .i64 f, .int .i64 t] w fun e w' => e = .returned (.agg #[.int .i64 f, .int .i64 y, .int .i64 z, .int .i64 t, .int .i64 q, .int .i64 r]) ∧ Below w.heap.size w w' := by
  go_enter Try.func43, Try.ntmps43
  go_wp2_with (go_at_call 42; refine (ends_any _ _).mono ?_; rintro e w1 ⟨rfl, hb1⟩; obtain ⟨hc1, hf1⟩ := bcell hb1; have hz1 := hb1.size; (try simp at hz1); (try have y10 : w.heap.size < w1.heap.size := (by omega)); (try have y10p : w.heap.size < w1.heap.size + 1 := (by omega)); (try have y11 : w.heap.size + 1 < w1.heap.size := (by omega)); (try have y11p : w.heap.size + 1 < w1.heap.size + 1 := (by omega)); (try have y12 : w.heap.size + 1 + 1 < w1.heap.size := (by omega)); (try have y12p : w.heap.size + 1 + 1 < w1.heap.size + 1 := (by omega)); (try have y13 : w.heap.size + 1 + 1 + 1 < w1.heap.size := (by omega)); (try have y13p : w.heap.size + 1 + 1 + 1 < w1.heap.size + 1 := (by omega)); (try have y14 : w.heap.size + 1 + 1 + 1 + 1 < w1.heap.size := (by omega)); (try have y14p : w.heap.size + 1 + 1 + 1 + 1 < w1.heap.size + 1 := (by omega)); (try have v0x1 : w0.heap.size < w1.heap.size := (by omega)); (try have v0x1p : w0.heap.size < w1.heap.size + 1 := (by omega)))
  have hB0 : Blk w1 w.heap.size 25 #[.int .i64 x, .int .i64 y, .int .i64 z, .int .i64 p, .int .i64 q, .int .i64 r] := Blk.below (Blk.alloc (Blk.new2 rfl) _) hb1 (by simp <;> omega)
  have hB : Blk ((w1.setCell ⟨w.heap.size, 0, none⟩ (.int .i64 f)).setCell ⟨w.heap.size, 3, none⟩ (.int .i64 t)) w.heap.size 25 #[.int .i64 f, .int .i64 y, .int .i64 z, .int .i64 t, .int .i64 q, .int .i64 r] := by simpa using (hB0.set_ 0 (.int .i64 f)).set_ 3 (.int .i64 t)
  have q0 := hB.cell 0
  have q1 := hB.cell 1
  have q2 := hB.cell 2
  have q3 := hB.cell 3
  have q4 := hB.cell 4
  have q5 := hB.cell 5
  have hR0 : Blk w1 (w.heap.size + 1) 25 #[.int .i64 0, .int .i64 0, .int .i64 0, .int .i64 0, .int .i64 0, .int .i64 0] := Blk.below (Blk.new2 (by simp)) hb1 (by simp)
  have hR : Blk ((((((((w1.setCell ⟨w.heap.size, 0, none⟩ (.int .i64 f)).setCell ⟨w.heap.size, 3, none⟩ (.int .i64 t)).setCell ⟨w.heap.size + 1, 0, none⟩ (.int .i64 f)).setCell ⟨w.heap.size + 1, 1, none⟩ (.int .i64 y)).setCell ⟨w.heap.size + 1, 2, none⟩ (.int .i64 z)).setCell ⟨w.heap.size + 1, 3, none⟩ (.int .i64 t)).setCell ⟨w.heap.size + 1, 4, none⟩ (.int .i64 q)).setCell ⟨w.heap.size + 1, 5, none⟩ (.int .i64 r)) (w.heap.size + 1) 25 #[.int .i64 f, .int .i64 y, .int .i64 z, .int .i64 t, .int .i64 q, .int .i64 r] := by simpa using ((((((((hR0.far (p := ⟨w.heap.size, 0, none⟩) (by simp) (.int .i64 f)).far (p := ⟨w.heap.size, 3, none⟩) (by simp) (.int .i64 t)).set_ 0 (.int .i64 f)).set_ 1 (.int .i64 y)).set_ 2 (.int .i64 z)).set_ 3 (.int .i64 t)).set_ 4 (.int .i64 q)).set_ 5 (.int .i64 r))
  have r0 := hR.cell 0
  have r1 := hR.cell 1
  have r2 := hR.cell 2
  have r3 := hR.cell 3
  have r4 := hR.cell 4
  have r5 := hR.cell 5
  go_region
  go_wp2
  exact bodyPost_ret (v := .agg #[.int .i64 f, .int .i64 y, .int .i64 z, .int .i64 t, .int .i64 q, .int .i64 r]) (by simp [results, Try.results43, go_sem, r0, r1, r2, r3, r4, r5, y11, y11p]) rfl ⟨rfl, by
    repeat (first | with_reducible exact Below.refl _ _ | with_reducible refine Below.setCell ?_ ?_ _ | with_reducible refine Below.alloc ?_ ?_ _ | with_reducible refine Below.drew ?_ | with_reducible refine below_drewN ?_ _ | (refine Below.trans ?_ (bmono (by assumption) ?_)))
    all_goals (first | omega | (simp <;> omega))⟩
set_option maxHeartbeats 1000000 in
theorem part1 (x y z p q r f t : Int) (w : World) :
    Calls Try.prog 43 #[.agg #[.int .i64 x, .int .i64 y, .int .i64 z, .int .i64 p, .int .i64 q, .int .i64 r], .int .i64 1, .int .i64 f, .int .i64 t] w fun e w' => e = .returned (.agg #[.int .i64 x, .int .i64 f, .int .i64 z, .int .i64 p, .int .i64 t, .int .i64 r]) ∧ Below w.heap.size w w' := by
  go_enter Try.func43, Try.ntmps43
  go_wp2_with (go_at_call 42; refine (ends_any _ _).mono ?_; rintro e w1 ⟨rfl, hb1⟩; obtain ⟨hc1, hf1⟩ := bcell hb1; have hz1 := hb1.size; (try simp at hz1); (try have y10 : w.heap.size < w1.heap.size := (by omega)); (try have y10p : w.heap.size < w1.heap.size + 1 := (by omega)); (try have y11 : w.heap.size + 1 < w1.heap.size := (by omega)); (try have y11p : w.heap.size + 1 < w1.heap.size + 1 := (by omega)); (try have y12 : w.heap.size + 1 + 1 < w1.heap.size := (by omega)); (try have y12p : w.heap.size + 1 + 1 < w1.heap.size + 1 := (by omega)); (try have y13 : w.heap.size + 1 + 1 + 1 < w1.heap.size := (by omega)); (try have y13p : w.heap.size + 1 + 1 + 1 < w1.heap.size + 1 := (by omega)); (try have y14 : w.heap.size + 1 + 1 + 1 + 1 < w1.heap.size := (by omega)); (try have y14p : w.heap.size + 1 + 1 + 1 + 1 < w1.heap.size + 1 := (by omega)); (try have v0x1 : w0.heap.size < w1.heap.size := (by omega)); (try have v0x1p : w0.heap.size < w1.heap.size + 1 := (by omega)))
  have hB0 : Blk w1 w.heap.size 25 #[.int .i64 x, .int .i64 y, .int .i64 z, .int .i64 p, .int .i64 q, .int .i64 r] := Blk.below (Blk.alloc (Blk.new2 rfl) _) hb1 (by simp <;> omega)
  have hB : Blk ((w1.setCell ⟨w.heap.size, 1, none⟩ (.int .i64 f)).setCell ⟨w.heap.size, 4, none⟩ (.int .i64 t)) w.heap.size 25 #[.int .i64 x, .int .i64 f, .int .i64 z, .int .i64 p, .int .i64 t, .int .i64 r] := by simpa using (hB0.set_ 1 (.int .i64 f)).set_ 4 (.int .i64 t)
  have q0 := hB.cell 0
  have q1 := hB.cell 1
  have q2 := hB.cell 2
  have q3 := hB.cell 3
  have q4 := hB.cell 4
  have q5 := hB.cell 5
  have hR0 : Blk w1 (w.heap.size + 1) 25 #[.int .i64 0, .int .i64 0, .int .i64 0, .int .i64 0, .int .i64 0, .int .i64 0] := Blk.below (Blk.new2 (by simp)) hb1 (by simp)
  have hR : Blk ((((((((w1.setCell ⟨w.heap.size, 1, none⟩ (.int .i64 f)).setCell ⟨w.heap.size, 4, none⟩ (.int .i64 t)).setCell ⟨w.heap.size + 1, 0, none⟩ (.int .i64 x)).setCell ⟨w.heap.size + 1, 1, none⟩ (.int .i64 f)).setCell ⟨w.heap.size + 1, 2, none⟩ (.int .i64 z)).setCell ⟨w.heap.size + 1, 3, none⟩ (.int .i64 p)).setCell ⟨w.heap.size + 1, 4, none⟩ (.int .i64 t)).setCell ⟨w.heap.size + 1, 5, none⟩ (.int .i64 r)) (w.heap.size + 1) 25 #[.int .i64 x, .int .i64 f, .int .i64 z, .int .i64 p, .int .i64 t, .int .i64 r] := by simpa using ((((((((hR0.far (p := ⟨w.heap.size, 1, none⟩) (by simp) (.int .i64 f)).far (p := ⟨w.heap.size, 4, none⟩) (by simp) (.int .i64 t)).set_ 0 (.int .i64 x)).set_ 1 (.int .i64 f)).set_ 2 (.int .i64 z)).set_ 3 (.int .i64 p)).set_ 4 (.int .i64 t)).set_ 5 (.int .i64 r))
  have r0 := hR.cell 0
  have r1 := hR.cell 1
  have r2 := hR.cell 2
  have r3 := hR.cell 3
  have r4 := hR.cell 4
  have r5 := hR.cell 5
  go_region
  go_wp2
  exact bodyPost_ret (v := .agg #[.int .i64 x, .int .i64 f, .int .i64 z, .int .i64 p, .int .i64 t, .int .i64 r]) (by simp [results, Try.results43, go_sem, r0, r1, r2, r3, r4, r5, y11, y11p]) rfl ⟨rfl, by
    repeat (first | with_reducible exact Below.refl _ _ | with_reducible refine Below.setCell ?_ ?_ _ | with_reducible refine Below.alloc ?_ ?_ _ | with_reducible refine Below.drew ?_ | with_reducible refine below_drewN ?_ _ | (refine Below.trans ?_ (bmono (by assumption) ?_)))
    all_goals (first | omega | (simp <;> omega))⟩
set_option maxHeartbeats 1000000 in
theorem part2 (x y z p q r f t : Int) (w : World) :
    Calls Try.prog 43 #[.agg #[.int .i64 x, .int .i64 y, .int .i64 z, .int .i64 p, .int .i64 q, .int .i64 r], .int .i64 2, .int .i64 f, .int .i64 t] w fun e w' => e = .returned (.agg #[.int .i64 x, .int .i64 y, .int .i64 f, .int .i64 p, .int .i64 q, .int .i64 t]) ∧ Below w.heap.size w w' := by
  go_enter Try.func43, Try.ntmps43
  go_wp2_with (go_at_call 42; refine (ends_any _ _).mono ?_; rintro e w1 ⟨rfl, hb1⟩; obtain ⟨hc1, hf1⟩ := bcell hb1; have hz1 := hb1.size; (try simp at hz1); (try have y10 : w.heap.size < w1.heap.size := (by omega)); (try have y10p : w.heap.size < w1.heap.size + 1 := (by omega)); (try have y11 : w.heap.size + 1 < w1.heap.size := (by omega)); (try have y11p : w.heap.size + 1 < w1.heap.size + 1 := (by omega)); (try have y12 : w.heap.size + 1 + 1 < w1.heap.size := (by omega)); (try have y12p : w.heap.size + 1 + 1 < w1.heap.size + 1 := (by omega)); (try have y13 : w.heap.size + 1 + 1 + 1 < w1.heap.size := (by omega)); (try have y13p : w.heap.size + 1 + 1 + 1 < w1.heap.size + 1 := (by omega)); (try have y14 : w.heap.size + 1 + 1 + 1 + 1 < w1.heap.size := (by omega)); (try have y14p : w.heap.size + 1 + 1 + 1 + 1 < w1.heap.size + 1 := (by omega)); (try have v0x1 : w0.heap.size < w1.heap.size := (by omega)); (try have v0x1p : w0.heap.size < w1.heap.size + 1 := (by omega)))
  have hB0 : Blk w1 w.heap.size 25 #[.int .i64 x, .int .i64 y, .int .i64 z, .int .i64 p, .int .i64 q, .int .i64 r] := Blk.below (Blk.alloc (Blk.new2 rfl) _) hb1 (by simp <;> omega)
  have hB : Blk ((w1.setCell ⟨w.heap.size, 2, none⟩ (.int .i64 f)).setCell ⟨w.heap.size, 5, none⟩ (.int .i64 t)) w.heap.size 25 #[.int .i64 x, .int .i64 y, .int .i64 f, .int .i64 p, .int .i64 q, .int .i64 t] := by simpa using (hB0.set_ 2 (.int .i64 f)).set_ 5 (.int .i64 t)
  have q0 := hB.cell 0
  have q1 := hB.cell 1
  have q2 := hB.cell 2
  have q3 := hB.cell 3
  have q4 := hB.cell 4
  have q5 := hB.cell 5
  have hR0 : Blk w1 (w.heap.size + 1) 25 #[.int .i64 0, .int .i64 0, .int .i64 0, .int .i64 0, .int .i64 0, .int .i64 0] := Blk.below (Blk.new2 (by simp)) hb1 (by simp)
  have hR : Blk ((((((((w1.setCell ⟨w.heap.size, 2, none⟩ (.int .i64 f)).setCell ⟨w.heap.size, 5, none⟩ (.int .i64 t)).setCell ⟨w.heap.size + 1, 0, none⟩ (.int .i64 x)).setCell ⟨w.heap.size + 1, 1, none⟩ (.int .i64 y)).setCell ⟨w.heap.size + 1, 2, none⟩ (.int .i64 f)).setCell ⟨w.heap.size + 1, 3, none⟩ (.int .i64 p)).setCell ⟨w.heap.size + 1, 4, none⟩ (.int .i64 q)).setCell ⟨w.heap.size + 1, 5, none⟩ (.int .i64 t)) (w.heap.size + 1) 25 #[.int .i64 x, .int .i64 y, .int .i64 f, .int .i64 p, .int .i64 q, .int .i64 t] := by simpa using ((((((((hR0.far (p := ⟨w.heap.size, 2, none⟩) (by simp) (.int .i64 f)).far (p := ⟨w.heap.size, 5, none⟩) (by simp) (.int .i64 t)).set_ 0 (.int .i64 x)).set_ 1 (.int .i64 y)).set_ 2 (.int .i64 f)).set_ 3 (.int .i64 p)).set_ 4 (.int .i64 q)).set_ 5 (.int .i64 t))
  have r0 := hR.cell 0
  have r1 := hR.cell 1
  have r2 := hR.cell 2
  have r3 := hR.cell 3
  have r4 := hR.cell 4
  have r5 := hR.cell 5
  go_region
  go_wp2
  exact bodyPost_ret (v := .agg #[.int .i64 x, .int .i64 y, .int .i64 f, .int .i64 p, .int .i64 q, .int .i64 t]) (by simp [results, Try.results43, go_sem, r0, r1, r2, r3, r4, r5, y11, y11p]) rfl ⟨rfl, by
    repeat (first | with_reducible exact Below.refl _ _ | with_reducible refine Below.setCell ?_ ?_ _ | with_reducible refine Below.alloc ?_ ?_ _ | with_reducible refine Below.drew ?_ | with_reducible refine below_drewN ?_ _ | (refine Below.trans ?_ (bmono (by assumption) ?_)))
    all_goals (first | omega | (simp <;> omega))⟩
end Go.Proofs.Ytogmgaaejepcbaa
