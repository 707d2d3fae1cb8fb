/- Lists of known blocks that are stored into; the laws of drawn regions. No condition. -/
import Derived.Test.YthlidkmalfjmbaaRga
import Derived.BigRegion
import Derived.RegionTactic
namespace Go.Proofs.Ythlidkmalfjmbaa
open Go.RowKit

theorem KL.st {Z Z' : List (Nat × TypeId × Array Value)} {w W : World} {g : Nat} {t : TypeId} {cs : Array Value} (h : KL Z w W) (hm : (g, t, cs) ∈ Z) (hw : w.heap.size ≤ g) (i : Nat) (u : Value)
    (hZ : ∀ q ∈ Z', q = (g, t, cs.setIfInBounds i u) ∨ (q ∈ Z ∧ q.1 ≠ g)) : KL Z' w (W.setCell ⟨g, i, none⟩ u) :=
  ⟨h.1.setCell hw u, fun q hq => by
    rcases hZ q hq with rfl | ⟨h1, h2⟩
    · exact (h.blk hm).set_ i u
    · exact (h.2 q h1).far h2 u⟩
theorem KL.nil (w : World) : KL [] w w := ⟨Below.refl _ _, fun q hq => by cases hq⟩
theorem KL.new {Z : List (Nat × TypeId × Array Value)} {w W : World} (h : KL Z w W) {g : Nat} (hg : g = W.heap.size) (t : TypeId) (cs : Array Value) : KL ((g, t, cs) :: Z) w (W.alloc (.cells cs t)) :=
  ⟨Below.alloc h.1 h.1.size _, fun q hq => by
    rcases List.mem_cons.1 hq with rfl | hq
    · exact Blk.new2 hg
    · exact (h.2 q hq).alloc _⟩
theorem KL.up {Z : List (Nat × TypeId × Array Value)} {w W W' : World} {g : Nat} {t : TypeId} {cs cs' : Array Value} (i : Nat) (h : KL Z w W) (hi : Z[i]? = some (g, t, cs)) (hne : ∀ q ∈ Z.eraseIdx i, q.1 ≠ g)
    (hb : Below w.heap.size w W') (hs : Blk W g t cs → Blk W' g t cs') (hf : ∀ k ty xs, k ≠ g → Blk W k ty xs → Blk W' k ty xs) : KL (Z.set i (g, t, cs')) w W' := by
  refine ⟨hb, fun q hq => ?_⟩
  have hil : i < Z.length := by
    rcases Nat.lt_or_ge i Z.length with h1 | h1
    · exact h1
    · rw [List.getElem?_eq_none h1] at hi; cases hi
  rw [List.mem_iff_getElem?] at hq
  obtain ⟨j, hj⟩ := hq
  rw [List.getElem?_set] at hj
  by_cases e : i = j
  · subst e
    rw [if_pos rfl, if_pos hil] at hj
    injection hj with hj
    subst hj
    exact hs (h.2 _ (List.mem_iff_getElem?.2 ⟨_, hi⟩))
  · rw [if_neg e] at hj
    have hm : q ∈ Z.eraseIdx i := by
      rw [List.mem_eraseIdx_iff_getElem?]
      exact ⟨j, fun e' => e e'.symm, hj⟩
    exact hf _ _ _ (hne q hm) (h.2 q (List.mem_iff_getElem?.2 ⟨j, hj⟩))
section
variable {Z : List (Nat × TypeId × Array Value)} {w W : World} {g : Nat} {t : TypeId} {a b c d e f a' b' c' d' e' f' : Value}
theorem KL.up1 {cs : Array Value} (i : Nat) (h : KL Z w W) (hi : Z[i]? = some (g, t, cs)) (hw : w.heap.size ≤ g) (hne : ∀ q ∈ Z.eraseIdx i, q.1 ≠ g) (o : Nat) (u : Value) : KL (Z.set i (g, t, cs.setIfInBounds o u)) w (W.setCell ⟨g, o, none⟩ u) :=
  h.up i hi hne (h.1.setCell hw u) (fun hb => hb.set_ o u) fun _ _ _ hk hb => hb.far hk u
theorem KL.up3 (i : Nat) (h : KL Z w W) (hi : Z[i]? = some (g, t, #[a, b, c])) (hw : w.heap.size ≤ g) (hne : ∀ q ∈ Z.eraseIdx i, q.1 ≠ g) :
    KL (Z.set i (g, t, #[a', b', c'])) w (((W.setCell ⟨g, 0, none⟩ a').setCell ⟨g, 1, none⟩ b').setCell ⟨g, 2, none⟩ c') :=
  h.up i hi hne (((h.1.setCell hw _).setCell hw _).setCell hw _) (fun hb => by simpa using ((hb.set_ 0 a').set_ 1 b').set_ 2 c') fun _ _ _ hk hb => ((hb.far hk _).far hk _).far hk _
theorem KL.up6 (i : Nat) (h : KL Z w W) (hi : Z[i]? = some (g, t, #[a, b, c, d, e, f])) (hw : w.heap.size ≤ g) (hne : ∀ q ∈ Z.eraseIdx i, q.1 ≠ g) :
    KL (Z.set i (g, t, #[a', b', c', d', e', f'])) w ((((((W.setCell ⟨g, 0, none⟩ a').setCell ⟨g, 1, none⟩ b').setCell ⟨g, 2, none⟩ c').setCell ⟨g, 3, none⟩ d').setCell ⟨g, 4, none⟩ e').setCell ⟨g, 5, none⟩ f') :=
  h.up i hi hne ((((((h.1.setCell hw _).setCell hw _).setCell hw _).setCell hw _).setCell hw _).setCell hw _) (fun hb => by simpa using (((((hb.set_ 0 a').set_ 1 b').set_ 2 c').set_ 3 d').set_ 4 e').set_ 5 f')
    fun _ _ _ hk hb => (((((hb.far hk _).far hk _).far hk _).far hk _).far hk _).far hk _
theorem KL.upL (i : Nat) (h : KL Z w W) (hi : Z[i]? = some (g, t, #[a, b, c, d, e, f])) (hw : w.heap.size ≤ g) (hne : ∀ q ∈ Z.eraseIdx i, q.1 ≠ g) :
    KL (Z.set i (g, t, #[a', b', c', d, e, f])) w (((W.setCell ⟨g, 0, none⟩ a').setCell ⟨g, 1, none⟩ b').setCell ⟨g, 2, none⟩ c') :=
  h.up i hi hne (((h.1.setCell hw _).setCell hw _).setCell hw _) (fun hb => by simpa using ((hb.set_ 0 a').set_ 1 b').set_ 2 c') fun _ _ _ hk hb => ((hb.far hk _).far hk _).far hk _
theorem KL.upH (i : Nat) (h : KL Z w W) (hi : Z[i]? = some (g, t, #[a, b, c, d, e, f])) (hw : w.heap.size ≤ g) (hne : ∀ q ∈ Z.eraseIdx i, q.1 ≠ g) :
    KL (Z.set i (g, t, #[a, b, c, d', e', f'])) w (((W.setCell ⟨g, 3, none⟩ d').setCell ⟨g, 4, none⟩ e').setCell ⟨g, 5, none⟩ f') :=
  h.up i hi hne (((h.1.setCell hw _).setCell hw _).setCell hw _) (fun hb => by simpa using ((hb.set_ 3 d').set_ 4 e').set_ 5 f') fun _ _ _ hk hb => ((hb.far hk _).far hk _).far hk _
theorem bl1 (h : Blk W g t #[a]) : g < W.heap.size ∧ W.cell? ⟨g, 0, none⟩ = some a := ⟨h.lt, h.cell 0⟩
theorem bl3 (h : Blk W g t #[a, b, c]) : g < W.heap.size ∧ W.cell? ⟨g, 0, none⟩ = some a ∧ W.cell? ⟨g, 1, none⟩ = some b ∧ W.cell? ⟨g, 2, none⟩ = some c := ⟨h.lt, h.cell 0, h.cell 1, h.cell 2⟩
theorem bl6 (h : Blk W g t #[a, b, c, d, e, f]) : g < W.heap.size ∧ W.cell? ⟨g, 0, none⟩ = some a ∧ W.cell? ⟨g, 1, none⟩ = some b ∧ W.cell? ⟨g, 2, none⟩ = some c ∧ W.cell? ⟨g, 3, none⟩ = some d ∧ W.cell? ⟨g, 4, none⟩ = some e ∧ W.cell? ⟨g, 5, none⟩ = some f :=
  ⟨h.lt, h.cell 0, h.cell 1, h.cell 2, h.cell 3, h.cell 4, h.cell 5⟩
end
section
variable {Z : List (Nat × TypeId × Array Value)} {w W : World} {g : Nat} {t : TypeId} {a b c d e f a' b' c' d' e' f' : Value}
theorem KL.cons {cs : Array Value} (hb : Blk W g t cs) (h : KL Z w W) : KL ((g, t, cs) :: Z) w W := ⟨h.1, fun q hq => by
  rcases List.mem_cons.1 hq with rfl | hq
  · exact hb
  · exact h.2 q hq⟩
theorem st6 (h : KL Z w W) (hw : w.heap.size ≤ g) (hZ : ∀ q ∈ Z, q.1 ≠ g) (hb : Blk W g t #[a, b, c, d, e, f]) :
    KL Z w ((((((W.setCell ⟨g, 0, none⟩ a').setCell ⟨g, 1, none⟩ b').setCell ⟨g, 2, none⟩ c').setCell ⟨g, 3, none⟩ d').setCell ⟨g, 4, none⟩ e').setCell ⟨g, 5, none⟩ f') ∧
    ((((((W.setCell ⟨g, 0, none⟩ a').setCell ⟨g, 1, none⟩ b').setCell ⟨g, 2, none⟩ c').setCell ⟨g, 3, none⟩ d').setCell ⟨g, 4, none⟩ e').setCell ⟨g, 5, none⟩ f').heap.size = W.heap.size ∧
    Blk ((((((W.setCell ⟨g, 0, none⟩ a').setCell ⟨g, 1, none⟩ b').setCell ⟨g, 2, none⟩ c').setCell ⟨g, 3, none⟩ d').setCell ⟨g, 4, none⟩ e').setCell ⟨g, 5, none⟩ f') g t #[a', b', c', d', e', f'] ∧
    ∀ k cs, k ≠ g → Blk W k t cs → Blk ((((((W.setCell ⟨g, 0, none⟩ a').setCell ⟨g, 1, none⟩ b').setCell ⟨g, 2, none⟩ c').setCell ⟨g, 3, none⟩ d').setCell ⟨g, 4, none⟩ e').setCell ⟨g, 5, none⟩ f') k t cs :=
  ⟨(((((h.set (p := ⟨g, 0, none⟩) hw hZ _).set (p := ⟨g, 1, none⟩) hw hZ _).set (p := ⟨g, 2, none⟩) hw hZ _).set (p := ⟨g, 3, none⟩) hw hZ _).set (p := ⟨g, 4, none⟩) hw hZ _).set (p := ⟨g, 5, none⟩) hw hZ _, by simp,
   by simpa using (((((hb.set_ 0 a').set_ 1 b').set_ 2 c').set_ 3 d').set_ 4 e').set_ 5 f', fun _ _ hk hb => (((((hb.far hk _).far hk _).far hk _).far hk _).far hk _).far hk _⟩
theorem st3 (h : KL Z w W) (hw : w.heap.size ≤ g) (hZ : ∀ q ∈ Z, q.1 ≠ g) (hb : Blk W g t #[a, b, c]) :
    KL Z w (((W.setCell ⟨g, 0, none⟩ a').setCell ⟨g, 1, none⟩ b').setCell ⟨g, 2, none⟩ c') ∧ (((W.setCell ⟨g, 0, none⟩ a').setCell ⟨g, 1, none⟩ b').setCell ⟨g, 2, none⟩ c').heap.size = W.heap.size ∧
    Blk (((W.setCell ⟨g, 0, none⟩ a').setCell ⟨g, 1, none⟩ b').setCell ⟨g, 2, none⟩ c') g t #[a', b', c'] ∧
    ∀ k cs, k ≠ g → Blk W k t cs → Blk (((W.setCell ⟨g, 0, none⟩ a').setCell ⟨g, 1, none⟩ b').setCell ⟨g, 2, none⟩ c') k t cs :=
  ⟨((h.set (p := ⟨g, 0, none⟩) hw hZ _).set (p := ⟨g, 1, none⟩) hw hZ _).set (p := ⟨g, 2, none⟩) hw hZ _, by simp, by simpa using ((hb.set_ 0 a').set_ 1 b').set_ 2 c', fun _ _ hk hb => ((hb.far hk _).far hk _).far hk _⟩
end
section
variable {Z : List (Nat × TypeId × Array Value)} {w W : World} {g : Nat} {t : TypeId} {a b a' b' : Value}
theorem KL.base (h : KL Z w W) : KL Z W W := ⟨Below.refl _ _, h.2⟩
theorem KL.up2 (i : Nat) (h : KL Z w W) (hi : Z[i]? = some (g, t, #[a, b])) (hw : w.heap.size ≤ g) (hne : ∀ q ∈ Z.eraseIdx i, q.1 ≠ g) :
    KL (Z.set i (g, t, #[a', b'])) w ((W.setCell ⟨g, 0, none⟩ a').setCell ⟨g, 1, none⟩ b') :=
  h.up i hi hne ((h.1.setCell hw _).setCell hw _) (fun hb => by simpa using (hb.set_ 0 a').set_ 1 b') fun _ _ _ hk hb => (hb.far hk _).far hk _
theorem bl2 (h : Blk W g t #[a, b]) : g < W.heap.size ∧ W.cell? ⟨g, 0, none⟩ = some a ∧ W.cell? ⟨g, 1, none⟩ = some b := ⟨h.lt, h.cell 0, h.cell 1⟩
theorem st2 (h : KL Z w W) (hw : w.heap.size ≤ g) (hZ : ∀ q ∈ Z, q.1 ≠ g) (hb : Blk W g t #[a, b]) :
    KL Z w ((W.setCell ⟨g, 0, none⟩ a').setCell ⟨g, 1, none⟩ b') ∧ ((W.setCell ⟨g, 0, none⟩ a').setCell ⟨g, 1, none⟩ b').heap.size = W.heap.size ∧
    Blk ((W.setCell ⟨g, 0, none⟩ a').setCell ⟨g, 1, none⟩ b') g t #[a', b'] ∧
    ∀ k cs, k ≠ g → Blk W k t cs → Blk ((W.setCell ⟨g, 0, none⟩ a').setCell ⟨g, 1, none⟩ b') k t cs :=
  ⟨(h.set (p := ⟨g, 0, none⟩) hw hZ _).set (p := ⟨g, 1, none⟩) hw hZ _, by simp, by simpa using (hb.set_ 0 a').set_ 1 b', fun _ _ hk hb => (hb.far hk _).far hk _⟩
end
end Go.Proofs.Ythlidkmalfjmbaa
