/- The walk of vector's combined. No condition on the numbers but that the sums are in int's range. -/
import Derived.Test.YthlidkmalfjmbaaNum
import Derived.Deep.RegionWith
import Derived.Deep.RegionHeld3
import Derived.Deep.DeepCutAuto
namespace Go.Proofs.Ythlidkmalfjmbaa
open Go.RowKit

theorem Blk.set3 {w : World} {g : Nat} {t : TypeId} {p q r : Value} (h : Blk w g t #[p, q, r]) (a b c : Value) :
    Blk (((w.setCell ⟨g, 0, none⟩ a).setCell ⟨g, 1, none⟩ b).setCell ⟨g, 2, none⟩ c) g t #[a, b, c] := by
  simpa using ((h.set_ 0 a).set_ 1 b).set_ 2 c
theorem Blk.far3 {w : World} {g k : Nat} {t : TypeId} {cs : Array Value} (h : Blk w g t cs) (hk : g ≠ k) (a b c : Value) :
    Blk (((w.setCell ⟨k, 0, none⟩ a).setCell ⟨k, 1, none⟩ b).setCell ⟨k, 2, none⟩ c) g t cs := ((h.far hk a).far hk b).far hk c
theorem Blk.new2 {w : World} {g : Nat} {t : TypeId} {cs : Array Value} (hg : g = w.heap.size) : Blk (w.alloc (.cells cs t)) g t cs := by subst hg; exact Blk.new w t cs

/-- what a region keeps: all that lay before the call, and blocks of the call's own -/
def KL (Z : List (Nat × TypeId × Array Value)) (w W : World) : Prop := Below w.heap.size w W ∧ ∀ p ∈ Z, Blk W p.1 p.2.1 p.2.2
section
variable {Z : List (Nat × TypeId × Array Value)} {w W W' : World}
theorem KL.over (h : KL Z w W) (hb : Below W.heap.size W W') : KL Z w W' := ⟨h.1.trans (bmono hb h.1.size), fun p hp => (h.2 p hp).below hb (h.2 p hp).lt⟩
theorem KL.alloc (h : KL Z w W) (o : Obj) : KL Z w (W.alloc o) := ⟨Below.alloc h.1 h.1.size _, fun p hp => Blk.alloc (h.2 p hp) o⟩
theorem KL.drew (h : KL Z w W) : KL Z w W.drew := ⟨h.1.drew, fun p hp => (h.2 p hp).drew⟩
theorem KL.set (h : KL Z w W) {p : Addr} (hw : w.heap.size ≤ p.block) (hp : ∀ q ∈ Z, q.1 ≠ p.block) (u : Value) : KL Z w (W.setCell p u) := ⟨h.1.setCell hw u, fun q hq => (h.2 q hq).far (hp q hq) u⟩
theorem KL.set3 (h : KL Z w W) {g : Nat} (hw : w.heap.size ≤ g) (hp : ∀ q ∈ Z, q.1 ≠ g) (a b c : Value) : KL Z w (((W.setCell ⟨g, 0, none⟩ a).setCell ⟨g, 1, none⟩ b).setCell ⟨g, 2, none⟩ c) :=
  ((h.set (p := ⟨g, 0, none⟩) hw hp a).set (p := ⟨g, 1, none⟩) hw hp b).set (p := ⟨g, 2, none⟩) hw hp c
theorem KL.blk (h : KL Z w W) {g : Nat} {t : TypeId} {cs : Array Value} (hm : (g, t, cs) ∈ Z) : Blk W g t cs := h.2 _ hm
theorem KL.part {Y : List (Nat × TypeId × Array Value)} (h : KL Z w W) (hm : ∀ p ∈ Y, p ∈ Z) : KL Y w W := ⟨h.1, fun p hp => h.2 p (hm p hp)⟩
theorem KL.size (h : KL Z w W) {g : Nat} {t : TypeId} {cs : Array Value} (hm : (g, t, cs) ∈ Z) : g < W.heap.size := (h.blk hm).lt
theorem keepsKL {f : FuncId} {args : Array Value} {v : Value} (h : ∀ W, Calls Try.prog f args W fun e w' => e = .returned v ∧ Below W.heap.size W w') :
    ∀ W, KL Z w W → Calls Try.prog f args W fun e w' => e = .returned v ∧ KL Z w w' ∧ Below W.heap.size W w' :=
  fun W hk => (h W).mono fun _ _ ⟨he, hb⟩ => ⟨he, hk.over hb, hb⟩
end
/-- two boxed vectors and a result's block -/
def K3 (x y z a b c : Int) (t : TypeId) (w W : World) : Prop := KL [(w.heap.size, 23, #[.int .i64 x, .int .i64 y, .int .i64 z]), (w.heap.size + 1, 23, #[.int .i64 a, .int .i64 b, .int .i64 c]), (w.heap.size + 2, t, #[.int .i64 0, .int .i64 0, .int .i64 0])] w W
/-- two boxed vectors -/
def K2 (x y z a b c : Int) (w W : World) : Prop := KL [(w.heap.size, 23, #[.int .i64 x, .int .i64 y, .int .i64 z]), (w.heap.size + 1, 23, #[.int .i64 a, .int .i64 b, .int .i64 c])] w W
section
variable {x y z a b c : Int} {t : TypeId} {w W W' : World}
theorem K3.over (h : K3 x y z a b c t w W) (hb : Below W.heap.size W W') : K3 x y z a b c t w W' := KL.over h hb
theorem K3.alloc (h : K3 x y z a b c t w W) (o : Obj) : K3 x y z a b c t w (W.alloc o) := KL.alloc h o
theorem K3.drew (h : K3 x y z a b c t w W) : K3 x y z a b c t w W.drew := KL.drew h
theorem K3.set3 (h : K3 x y z a b c t w W) {g : Nat} (hg : w.heap.size + 3 ≤ g) (p q r : Value) : K3 x y z a b c t w (((W.setCell ⟨g, 0, none⟩ p).setCell ⟨g, 1, none⟩ q).setCell ⟨g, 2, none⟩ r) :=
  KL.set3 h (by omega) (by simp; omega) p q r
theorem K3.set1 (h : K3 x y z a b c t w W) {g i : Nat} (hg : w.heap.size + 3 ≤ g) (p : Value) : K3 x y z a b c t w (W.setCell ⟨g, i, none⟩ p) :=
  KL.set h (by show w.heap.size ≤ g; omega) (by simp; omega) p
theorem K3.res (h : K3 x y z a b c t w W) : W.cell? ⟨w.heap.size + 1 + 1, 0, none⟩ = some (.int .i64 0) ∧ W.cell? ⟨w.heap.size + 1 + 1, 1, none⟩ = some (.int .i64 0) ∧ W.cell? ⟨w.heap.size + 1 + 1, 2, none⟩ = some (.int .i64 0) ∧ ∀ i, W.frozen? ⟨w.heap.size + 1 + 1, i, none⟩ = false :=
  ⟨(blk3 (KL.blk h (.tail _ (.tail _ (.head _))))).1, (blk3 (KL.blk h (.tail _ (.tail _ (.head _))))).2.1, (blk3 (KL.blk h (.tail _ (.tail _ (.head _))))).2.2, (KL.blk h (.tail _ (.tail _ (.head _)))).frozen⟩
theorem K3.all (h : K3 x y z a b c t w W) : K3 x y z a b c t w W ∧ w.heap.size + 2 < W.heap.size ∧
    W.cell? ⟨w.heap.size, 0, none⟩ = some (.int .i64 x) ∧ W.cell? ⟨w.heap.size, 1, none⟩ = some (.int .i64 y) ∧ W.cell? ⟨w.heap.size, 2, none⟩ = some (.int .i64 z) ∧
    W.cell? ⟨w.heap.size + 1, 0, none⟩ = some (.int .i64 a) ∧ W.cell? ⟨w.heap.size + 1, 1, none⟩ = some (.int .i64 b) ∧ W.cell? ⟨w.heap.size + 1, 2, none⟩ = some (.int .i64 c) := by
  obtain ⟨a1, a2, a3⟩ := blk3 (KL.blk h (.head _))
  obtain ⟨b1, b2, b3⟩ := blk3 (KL.blk h (.tail _ (.head _)))
  exact ⟨h, KL.size h (.tail _ (.tail _ (.head _))), a1, a2, a3, b1, b2, b3⟩
theorem K2.over (h : K2 x y z a b c w W) (hb : Below W.heap.size W W') : K2 x y z a b c w W' := KL.over h hb
theorem K2.alloc (h : K2 x y z a b c w W) (o : Obj) : K2 x y z a b c w (W.alloc o) := KL.alloc h o
theorem K2.drew (h : K2 x y z a b c w W) : K2 x y z a b c w W.drew := KL.drew h
theorem K2.set3 (h : K2 x y z a b c w W) {g : Nat} (hg : w.heap.size + 2 ≤ g) (p q r : Value) : K2 x y z a b c w (((W.setCell ⟨g, 0, none⟩ p).setCell ⟨g, 1, none⟩ q).setCell ⟨g, 2, none⟩ r) :=
  KL.set3 h (by omega) (by simp; omega) p q r
theorem K2.all (h : K2 x y z a b c w W) : K2 x y z a b c w W ∧ w.heap.size + 1 < W.heap.size ∧
    W.cell? ⟨w.heap.size, 0, none⟩ = some (.int .i64 x) ∧ W.cell? ⟨w.heap.size, 1, none⟩ = some (.int .i64 y) ∧ W.cell? ⟨w.heap.size, 2, none⟩ = some (.int .i64 z) ∧
    W.cell? ⟨w.heap.size + 1, 0, none⟩ = some (.int .i64 a) ∧ W.cell? ⟨w.heap.size + 1, 1, none⟩ = some (.int .i64 b) ∧ W.cell? ⟨w.heap.size + 1, 2, none⟩ = some (.int .i64 c) := by
  obtain ⟨a1, a2, a3⟩ := blk3 (KL.blk h (.head _))
  obtain ⟨b1, b2, b3⟩ := blk3 (KL.blk h (.tail _ (.head _)))
  exact ⟨h, KL.size h (.tail _ (.head _)), a1, a2, a3, b1, b2, b3⟩
theorem K2.start : K2 x y z a b c w ((w.alloc (.cells #[.int .i64 x, .int .i64 y, .int .i64 z] 23)).alloc (.cells #[.int .i64 a, .int .i64 b, .int .i64 c] 23)) :=
  ⟨((Below.refl _ _).alloc (Nat.le_refl _) _).alloc (by simp) _, by
    intro p hp
    simp only [List.mem_cons, List.not_mem_nil, or_false] at hp
    rcases hp with rfl | rfl
    · exact (Blk.new2 rfl).alloc _
    · exact Blk.new2 (by simp)⟩
theorem K3.start : K3 x y z a b c t w (((w.alloc (.cells #[.int .i64 x, .int .i64 y, .int .i64 z] 23)).alloc (.cells #[.int .i64 a, .int .i64 b, .int .i64 c] 23)).alloc (.cells #[.int .i64 0, .int .i64 0, .int .i64 0] t)) :=
  ⟨(((Below.refl _ _).alloc (Nat.le_refl _) _).alloc (by simp) _).alloc (by simp <;> omega) _, by
    intro p hp
    simp only [List.mem_cons, List.not_mem_nil, or_false] at hp
    rcases hp with rfl | rfl | rfl
    · exact ((Blk.new2 rfl).alloc _).alloc _
    · exact (Blk.new2 (by simp)).alloc _
    · exact Blk.new2 (by simp)⟩
end
/-- two arrays of the call's own, behind a region -/
def Two (x y z a b c : Int) (B : Nat) (s7 s8 : Value) (W : World) : Prop := ∃ g k : Nat, s7 = .pointer (some ⟨g, 0, none⟩) ∧ s8 = .pointer (some ⟨k, 0, none⟩) ∧ g ≠ k ∧ B ≤ g ∧ B ≤ k ∧ Blk W g 61 #[.int .i64 x, .int .i64 y, .int .i64 z] ∧ Blk W k 61 #[.int .i64 a, .int .i64 b, .int .i64 c]
end Go.Proofs.Ythlidkmalfjmbaa
