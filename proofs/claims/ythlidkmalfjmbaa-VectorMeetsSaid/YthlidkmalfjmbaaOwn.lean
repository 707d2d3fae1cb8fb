/- What a region keeps that makes two blocks of its own and stores into them. No condition. -/
import Derived.Test.YthlidkmalfjmbaaIvn
import Derived.Test.YthlidkmalfjmbaaVec
namespace Go.Proofs.Ythlidkmalfjmbaa
open Go.RowKit

structure Kept (B : Nat) (K : World → Prop) : Prop where
  over : ∀ {W W'}, K W → Below W.heap.size W W' → K W'
  alloc : ∀ {W} (o : Obj), K W → K (W.alloc o)
  set : ∀ {W} {p : Addr}, K W → B ≤ p.block → ∀ u, K (W.setCell p u)
  size : ∀ {W}, K W → B ≤ W.heap.size
theorem keptKL {Z : List (Nat × TypeId × Array Value)} {w : World} {B : Nat} (hB : w.heap.size ≤ B) (hZ : ∀ q ∈ Z, q.1 < B) (hs : B = w.heap.size ∨ ∃ q ∈ Z, B = q.1 + 1) : Kept B (KL Z w) :=
  ⟨fun h hb => h.over hb, fun o h => h.alloc o, fun h hp u => h.set (Nat.le_trans hB hp) (fun q hq => by have := hZ q hq; omega) u, fun h => by
    rcases hs with rfl | ⟨q, hq, rfl⟩
    · exact h.1.size
    · exact (h.2 q hq).lt⟩
def OwnB (B : Nat) (T : TypeId) (u : Value) (W : World) (cs : Array Value) : Prop := ∃ g : Nat, u = .pointer (some ⟨g, 0, none⟩) ∧ B ≤ g ∧ Blk W g T cs
structure J2 (B : Nat) (K : World → Prop) (T : TypeId) (z0 cs1 cs2 : Array Value) (m1 m2 s1 s2 : Bool) (u1 u2 : Value) (W : World) : Prop where
  h4 : m1 = true → OwnB B T u1 W (if s1 then cs1 else z0)
  h5 : m2 = true → OwnB B T u2 W (if s2 then cs2 else z0)
  hn : m1 = true → m2 = true → u1 ≠ u2
  h6 : s1 = true → m1 = true
  h7 : s2 = true → m2 = true
  hk : K W
def TwoB (B : Nat) (T : TypeId) (cs1 cs2 : Array Value) (u1 u2 : Value) (W : World) : Prop :=
  ∃ g k : Nat, u1 = .pointer (some ⟨g, 0, none⟩) ∧ u2 = .pointer (some ⟨k, 0, none⟩) ∧ g ≠ k ∧ B ≤ g ∧ B ≤ k ∧ Blk W g T cs1 ∧ Blk W k T cs2
section
variable {B : Nat} {K : World → Prop} {T : TypeId} {z0 cs1 cs2 : Array Value} {m1 m2 s1 s2 : Bool} {u1 u2 : Value} {W W' : World}
theorem OwnB.over {u : Value} {cs : Array Value} (h : OwnB B T u W cs) (hb : Below W.heap.size W W') : OwnB B T u W' cs := by
  obtain ⟨g, e, hg, hB⟩ := h; exact ⟨g, e, hg, hB.below hb hB.lt⟩
theorem OwnB.alloc {u : Value} {cs : Array Value} (h : OwnB B T u W cs) (o : Obj) : OwnB B T u (W.alloc o) cs := by
  obtain ⟨g, e, hg, hB⟩ := h; exact ⟨g, e, hg, hB.alloc o⟩
theorem OwnB.ne {u : Value} {cs : Array Value} (h : OwnB B T u W cs) : u ≠ .pointer (some ⟨W.heap.size, 0, none⟩) := by
  obtain ⟨g, rfl, _, hB⟩ := h
  have := hB.lt
  intro e
  injection e with e; injection e with e; injection e with e
  omega
theorem J2.begin (hk : K W) : J2 B K T z0 cs1 cs2 false false false false u1 u2 W :=
  ⟨fun e => by simp at e, fun e => by simp at e, fun e => by simp at e, fun e => by simp at e, fun e => by simp at e, hk⟩
theorem J2.over (hK : Kept B K) (h : J2 B K T z0 cs1 cs2 m1 m2 s1 s2 u1 u2 W) (hb : Below W.heap.size W W') : J2 B K T z0 cs1 cs2 m1 m2 s1 s2 u1 u2 W' :=
  ⟨fun e => (h.h4 e).over hb, fun e => (h.h5 e).over hb, h.hn, h.h6, h.h7, hK.over h.hk hb⟩
theorem J2.alloc1 (hK : Kept B K) (hm : m1 = false) (h : J2 B K T z0 cs1 cs2 m1 m2 s1 s2 u1 u2 W) :
    J2 B K T z0 cs1 cs2 true m2 s1 s2 (.pointer (some ⟨W.heap.size, 0, none⟩)) u2 (W.alloc (.cells z0 T)) := by
  have h6 : s1 = false := by cases hb : s1 with | false => rfl | true => have := h.h6 hb; simp [hm] at this
  subst h6
  exact ⟨fun _ => ⟨_, rfl, hK.size h.hk, Blk.new2 rfl⟩, fun e => (h.h5 e).alloc _, fun _ e => ((h.h5 e).ne).symm, fun e => by simp at e, h.h7, hK.alloc _ h.hk⟩
theorem J2.alloc2 (hK : Kept B K) (hm : m2 = false) (h : J2 B K T z0 cs1 cs2 m1 m2 s1 s2 u1 u2 W) :
    J2 B K T z0 cs1 cs2 m1 true s1 s2 u1 (.pointer (some ⟨W.heap.size, 0, none⟩)) (W.alloc (.cells z0 T)) := by
  have h7 : s2 = false := by cases hb : s2 with | false => rfl | true => have := h.h7 hb; simp [hm] at this
  subst h7
  exact ⟨fun e => (h.h4 e).alloc _, fun _ => ⟨_, rfl, hK.size h.hk, Blk.new2 rfl⟩, fun e _ => (h.h4 e).ne, h.h6, fun e => by simp at e, hK.alloc _ h.hk⟩
/-- the store into the first block, said by what it does to the blocks -/
theorem J2.store1 {g : Nat} (hm1 : m1 = true) (hm2 : m2 = true) (h : J2 B K T z0 cs1 cs2 m1 m2 s1 s2 (.pointer (some ⟨g, 0, none⟩)) u2 W)
    (hnew : Blk W' g T cs1) (hfar : ∀ (k : Nat) (cs : Array Value), k ≠ g → Blk W k T cs → Blk W' k T cs) (hk' : K W') :
    J2 B K T z0 cs1 cs2 m1 m2 true s2 (.pointer (some ⟨g, 0, none⟩)) u2 W' := by
  obtain ⟨g', e, hB, hblk⟩ := h.h4 hm1
  injection e with e; injection e with e; injection e with e
  subst e
  refine ⟨fun _ => ⟨g, rfl, hB, by simpa using hnew⟩, fun e => ?_, h.hn, fun _ => hm1, h.h7, hk'⟩
  obtain ⟨k, rfl, hk, hkb⟩ := h.h5 hm2
  exact ⟨k, rfl, hk, hfar _ _ (fun e => h.hn hm1 hm2 (by rw [e])) hkb⟩
theorem J2.store2 {g : Nat} (hm1 : m1 = true) (hm2 : m2 = true) (h : J2 B K T z0 cs1 cs2 m1 m2 s1 s2 u1 (.pointer (some ⟨g, 0, none⟩)) W)
    (hnew : Blk W' g T cs2) (hfar : ∀ (k : Nat) (cs : Array Value), k ≠ g → Blk W k T cs → Blk W' k T cs) (hk' : K W') :
    J2 B K T z0 cs1 cs2 m1 m2 s1 true u1 (.pointer (some ⟨g, 0, none⟩)) W' := by
  obtain ⟨g', e, hB, hblk⟩ := h.h5 hm2
  injection e with e; injection e with e; injection e with e
  subst e
  refine ⟨fun e => ?_, fun _ => ⟨g, rfl, hB, by simpa using hnew⟩, h.hn, h.h6, fun _ => hm2, hk'⟩
  obtain ⟨k, rfl, hk, hkb⟩ := h.h4 hm1
  exact ⟨k, rfl, hk, hfar _ _ (fun e => h.hn hm1 hm2 (by rw [e])) hkb⟩
theorem J2.first (hm1 : m1 = true) (hs : s1 = false) (h : J2 B K T z0 cs1 cs2 m1 m2 s1 s2 u1 u2 W) : ∃ g : Nat, u1 = .pointer (some ⟨g, 0, none⟩) ∧ B ≤ g ∧ Blk W g T z0 := by
  obtain ⟨g, e, hg, hb⟩ := h.h4 hm1; exact ⟨g, e, hg, by simpa [hs] using hb⟩
theorem J2.second (hm2 : m2 = true) (hs : s2 = false) (h : J2 B K T z0 cs1 cs2 m1 m2 s1 s2 u1 u2 W) : ∃ g : Nat, u2 = .pointer (some ⟨g, 0, none⟩) ∧ B ≤ g ∧ Blk W g T z0 := by
  obtain ⟨g, e, hg, hb⟩ := h.h5 hm2; exact ⟨g, e, hg, by simpa [hs] using hb⟩
theorem J2.two (hm1 : m1 = true) (hm2 : m2 = true) (hs1 : s1 = true) (hs2 : s2 = true) (h : J2 B K T z0 cs1 cs2 m1 m2 s1 s2 u1 u2 W) : TwoB B T cs1 cs2 u1 u2 W ∧ K W := by
  obtain ⟨g, rfl, hg, hgb⟩ := h.h4 hm1
  obtain ⟨k, rfl, hk, hkb⟩ := h.h5 hm2
  exact ⟨⟨g, k, rfl, rfl, fun e => h.hn hm1 hm2 (by rw [e]), hg, hk, by simpa [hs1] using hgb, by simpa [hs2] using hkb⟩, h.hk⟩
end
theorem Blk.setq {w : World} {g : Nat} {t : TypeId} {p q r s : Value} (h : Blk w g t #[p, q, r, s]) (a b c d : Value) :
    Blk ((((w.setCell ⟨g, 0, none⟩ a).setCell ⟨g, 1, none⟩ b).setCell ⟨g, 2, none⟩ c).setCell ⟨g, 3, none⟩ d) g t #[a, b, c, d] := by
  simpa using (((h.set_ 0 a).set_ 1 b).set_ 2 c).set_ 3 d
theorem Blk.far4 {w : World} {g k : Nat} {t : TypeId} {cs : Array Value} (h : Blk w g t cs) (hk : g ≠ k) (a b c d : Value) :
    Blk ((((w.setCell ⟨k, 0, none⟩ a).setCell ⟨k, 1, none⟩ b).setCell ⟨k, 2, none⟩ c).setCell ⟨k, 3, none⟩ d) g t cs := (((h.far hk a).far hk b).far hk c).far hk d
theorem blk4 {w : World} {g : Nat} {t : TypeId} {a b c d : Value} (h : Blk w g t #[a, b, c, d]) :
    w.cell? ⟨g, 0, none⟩ = some a ∧ w.cell? ⟨g, 1, none⟩ = some b ∧ w.cell? ⟨g, 2, none⟩ = some c ∧ w.cell? ⟨g, 3, none⟩ = some d := ⟨h.cell 0, h.cell 1, h.cell 2, h.cell 3⟩
theorem blk6 {w : World} {g : Nat} {t : TypeId} {a b c d e f : Value} (h : Blk w g t #[a, b, c, d, e, f]) :
    w.cell? ⟨g, 0, none⟩ = some a ∧ w.cell? ⟨g, 1, none⟩ = some b ∧ w.cell? ⟨g, 2, none⟩ = some c ∧ w.cell? ⟨g, 3, none⟩ = some d ∧ w.cell? ⟨g, 4, none⟩ = some e ∧ w.cell? ⟨g, 5, none⟩ = some f := ⟨h.cell 0, h.cell 1, h.cell 2, h.cell 3, h.cell 4, h.cell 5⟩
end Go.Proofs.Ythlidkmalfjmbaa
