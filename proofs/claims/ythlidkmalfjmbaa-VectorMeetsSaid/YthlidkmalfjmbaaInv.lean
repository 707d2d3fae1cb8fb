/- A region of eight operations that draws its order, walked by what holds behind each set of done operations: two loads, two calls, two allocations, two stores (x, y := f(a), f(b) with boxed results). No condition. -/
import Derived.Test.YthlidkmalfjmbaaVec
namespace Go.Proofs.Ythlidkmalfjmbaa
open Go.RowKit

def cond8 (b0 b1 b2 b3 b4 b5 b6 b7 : Bool) (i : Nat) : Bool :=
  match i with
  | 0 => !b0
  | 1 => !b1 && b0
  | 2 => !b2
  | 3 => !b3 && b2 && b1
  | 4 => !b4
  | 5 => !b5
  | 6 => !b6 && b0 && b1 && b3 && b4 && b5
  | 7 => !b7 && b0 && b1 && b2 && b3 && b4 && b5 && b6
  | _ => false
def ReadyOk8 (ops : Array Oper) : Prop := ∀ b0 b1 b2 b3 b4 b5 b6 b7 : Bool,
  ((Region.ready .any ops #[b0, b1, b2, b3, b4, b5, b6, b7]).all (cond8 b0 b1 b2 b3 b4 b5 b6 b7) &&
   (!(Region.ready .any ops #[b0, b1, b2, b3, b4, b5, b6, b7]).isEmpty == !(b0 && b1 && b2 && b3 && b4 && b5 && b6 && b7))) = true

def left1 (b : Bool) : Nat := if b then 0 else 1
section
variable {P : Program} {ops : Array Oper} {Q : Exit → Act → World → Prop} {I : Bool → Bool → Bool → Bool → Bool → Bool → Bool → Bool → Act → World → Prop}
theorem wpAny_inv8 (hr : ReadyOk8 ops)
    (s0 : ∀ b1 b2 b3 b4 b5 b6 b7 a w, I false b1 b2 b3 b4 b5 b6 b7 a w → wpOp P ops Q 0 (I true b1 b2 b3 b4 b5 b6 b7) a w)
    (s1 : ∀ b2 b3 b4 b5 b6 b7 a w, I true false b2 b3 b4 b5 b6 b7 a w → wpOp P ops Q 1 (I true true b2 b3 b4 b5 b6 b7) a w)
    (s2 : ∀ b0 b1 b3 b4 b5 b6 b7 a w, I b0 b1 false b3 b4 b5 b6 b7 a w → wpOp P ops Q 2 (I b0 b1 true b3 b4 b5 b6 b7) a w)
    (s3 : ∀ b0 b4 b5 b6 b7 a w, I b0 true true false b4 b5 b6 b7 a w → wpOp P ops Q 3 (I b0 true true true b4 b5 b6 b7) a w)
    (s4 : ∀ b0 b1 b2 b3 b5 b6 b7 a w, I b0 b1 b2 b3 false b5 b6 b7 a w → wpOp P ops Q 4 (I b0 b1 b2 b3 true b5 b6 b7) a w)
    (s5 : ∀ b0 b1 b2 b3 b4 b6 b7 a w, I b0 b1 b2 b3 b4 false b6 b7 a w → wpOp P ops Q 5 (I b0 b1 b2 b3 b4 true b6 b7) a w)
    (s6 : ∀ b2 b7 a w, I true true b2 true true true false b7 a w → wpOp P ops Q 6 (I true true b2 true true true true b7) a w)
    (s7 : ∀ a w, I true true true true true true true false a w → wpOp P ops Q 7 (I true true true true true true true true) a w)
    (sd : ∀ a w, I true true true true true true true true a w → Q .normal a w) :
    ∀ (n : Nat) (b0 b1 b2 b3 b4 b5 b6 b7 : Bool) (a : Act) (w : World), left1 b0 + left1 b1 + left1 b2 + left1 b3 + left1 b4 + left1 b5 + left1 b6 + left1 b7 = n →
      I b0 b1 b2 b3 b4 b5 b6 b7 a w → wpAny P .any ops Q n #[b0, b1, b2, b3, b4, b5, b6, b7] a w := by
  intro n
  induction n with
  | zero =>
    intro b0 b1 b2 b3 b4 b5 b6 b7 a w hn h
    have all : b0 = true ∧ b1 = true ∧ b2 = true ∧ b3 = true ∧ b4 = true ∧ b5 = true ∧ b6 = true ∧ b7 = true := by
      refine ⟨?_, ?_, ?_, ?_, ?_, ?_, ?_, ?_⟩ <;> (apply Classical.byContradiction; intro hb; simp only [Bool.not_eq_true] at hb; subst hb; simp [left1] at hn)
    obtain ⟨rfl, rfl, rfl, rfl, rfl, rfl, rfl, rfl⟩ := all
    have hh := hr true true true true true true true true
    simp only [Bool.and_eq_true, Bool.and_true, Bool.not_true] at hh
    exact ⟨by simpa using hh.2, sd _ _ h⟩
  | succ n ih =>
    intro b0 b1 b2 b3 b4 b5 b6 b7 a w hn h
    have hh := hr b0 b1 b2 b3 b4 b5 b6 b7
    rw [Bool.and_eq_true] at hh
    obtain ⟨h1, h2⟩ := hh
    refine ⟨fun h0 => ?_, fun i hi => ?_⟩
    · exfalso
      rw [h0] at h2
      have : (b0 && b1 && b2 && b3 && b4 && b5 && b6 && b7) = true := by
        generalize (b0 && b1 && b2 && b3 && b4 && b5 && b6 && b7) = c at h2 ⊢
        cases c <;> simp at h2 ⊢
      simp only [Bool.and_eq_true] at this
      obtain ⟨⟨⟨⟨⟨⟨⟨rfl, rfl⟩, rfl⟩, rfl⟩, rfl⟩, rfl⟩, rfl⟩, rfl⟩ := this
      simp [left1] at hn
    · have hc := List.all_eq_true.1 h1 i hi
      match i with
      | 0 =>
        obtain rfl : b0 = false := by simpa [cond8] using hc
        refine wpOp_mono (fun a w hI => ?_) (s0 _ _ _ _ _ _ _ _ _ h)
        exact ih true b1 b2 b3 b4 b5 b6 b7 a w (by simp [left1] at hn ⊢; omega) hI
      | 1 =>
        obtain ⟨rfl, rfl⟩ : b1 = false ∧ b0 = true := by simpa [cond8] using hc
        refine wpOp_mono (fun a w hI => ?_) (s1 _ _ _ _ _ _ _ _ h)
        exact ih true true b2 b3 b4 b5 b6 b7 a w (by simp [left1] at hn ⊢; omega) hI
      | 2 =>
        obtain rfl : b2 = false := by simpa [cond8] using hc
        refine wpOp_mono (fun a w hI => ?_) (s2 _ _ _ _ _ _ _ _ _ h)
        exact ih b0 b1 true b3 b4 b5 b6 b7 a w (by simp [left1] at hn ⊢; omega) hI
      | 3 =>
        obtain ⟨⟨rfl, rfl⟩, rfl⟩ : (b3 = false ∧ b2 = true) ∧ b1 = true := by simpa [cond8] using hc
        refine wpOp_mono (fun a w hI => ?_) (s3 _ _ _ _ _ _ _ h)
        exact ih b0 true true true b4 b5 b6 b7 a w (by simp [left1] at hn ⊢; omega) hI
      | 4 =>
        obtain rfl : b4 = false := by simpa [cond8] using hc
        refine wpOp_mono (fun a w hI => ?_) (s4 _ _ _ _ _ _ _ _ _ h)
        exact ih b0 b1 b2 b3 true b5 b6 b7 a w (by simp [left1] at hn ⊢; omega) hI
      | 5 =>
        obtain rfl : b5 = false := by simpa [cond8] using hc
        refine wpOp_mono (fun a w hI => ?_) (s5 _ _ _ _ _ _ _ _ _ h)
        exact ih b0 b1 b2 b3 b4 true b6 b7 a w (by simp [left1] at hn ⊢; omega) hI
      | 6 =>
        obtain ⟨⟨⟨⟨⟨rfl, rfl⟩, rfl⟩, rfl⟩, rfl⟩, rfl⟩ : ((((b6 = false ∧ b0 = true) ∧ b1 = true) ∧ b3 = true) ∧ b4 = true) ∧ b5 = true := by
          simp only [cond8, Bool.and_eq_true, Bool.not_eq_true'] at hc; exact hc
        refine wpOp_mono (fun a w hI => ?_) (s6 _ _ _ _ h)
        exact ih true true b2 true true true true b7 a w (by simp [left1] at hn ⊢; omega) hI
      | 7 =>
        obtain ⟨⟨⟨⟨⟨⟨⟨rfl, rfl⟩, rfl⟩, rfl⟩, rfl⟩, rfl⟩, rfl⟩, rfl⟩ : ((((((b7 = false ∧ b0 = true) ∧ b1 = true) ∧ b2 = true) ∧ b3 = true) ∧ b4 = true) ∧ b5 = true) ∧ b6 = true := by
          simp only [cond8, Bool.and_eq_true, Bool.not_eq_true'] at hc; exact hc
        refine wpOp_mono (fun a w hI => ?_) (s7 _ _ h)
        exact ih true true true true true true true true a w (by simp [left1] at hn ⊢; omega) hI
      | i + 8 => simp [cond8] at hc
theorem wpAny_start8 {a : Act} {w : World} (hs : ops.size = 8) (h : wpAny P .any ops Q 8 #[false, false, false, false, false, false, false, false] a w) :
    wpAny P .any ops Q ops.size (Array.replicate ops.size false) a w := by
  rw [hs]; exact h
end

/-- what a region with two boxed results keeps -/
structure Keep (B : Nat) (K : World → Prop) : Prop where
  over : ∀ {W W'}, K W → Below W.heap.size W W' → K W'
  alloc : ∀ {W} (o : Obj), K W → K (W.alloc o)
  set3 : ∀ {W} {g : Nat}, K W → B ≤ g → ∀ a b c, K (((W.setCell ⟨g, 0, none⟩ a).setCell ⟨g, 1, none⟩ b).setCell ⟨g, 2, none⟩ c)
  size : ∀ {W}, K W → B ≤ W.heap.size

def zer3 : Array Value := #[.int .i64 0, .int .i64 0, .int .i64 0]
def Own3 (B : Nat) (u : Value) (W : World) (cs : Array Value) : Prop := ∃ g : Nat, u = .pointer (some ⟨g, 0, none⟩) ∧ B ≤ g ∧ Blk W g 61 cs
structure J8 (B : Nat) (K : World → Prop) (x y z a b c : Int) (b0 b1 b2 b3 b4 b5 b6 b7 : Bool) (u7 u8 u10 u11 u12 u13 : Value) (W : World) : Prop where
  h0 : b0 = true → u10 = .agg #[.int .i64 x, .int .i64 y, .int .i64 z]
  h1 : b1 = true → u11 = .agg #[.int .i64 x, .int .i64 y, .int .i64 z]
  h2 : b2 = true → u12 = .agg #[.int .i64 a, .int .i64 b, .int .i64 c]
  h3 : b3 = true → u13 = .agg #[.int .i64 a, .int .i64 b, .int .i64 c]
  h4 : b4 = true → Own3 B u7 W (if b6 then #[.int .i64 x, .int .i64 y, .int .i64 z] else zer3)
  h5 : b5 = true → Own3 B u8 W (if b7 then #[.int .i64 a, .int .i64 b, .int .i64 c] else zer3)
  hn : b4 = true → b5 = true → u7 ≠ u8
  h6 : b6 = true → b4 = true
  h7 : b7 = true → b5 = true
  hk : K W
section
variable {B : Nat} {K : World → Prop} {x y z a b c : Int} {b0 b1 b2 b3 b4 b5 b6 b7 : Bool} {u7 u8 u10 u11 u12 u13 : Value} {W W' : World}
theorem Own3.over {u : Value} {cs : Array Value} (h : Own3 B u W cs) (hb : Below W.heap.size W W') : Own3 B u W' cs := by
  obtain ⟨g, e, hg, hB⟩ := h; exact ⟨g, e, hg, hB.below hb hB.lt⟩
theorem Own3.alloc {u : Value} {cs : Array Value} (h : Own3 B u W cs) (o : Obj) : Own3 B u (W.alloc o) cs := by
  obtain ⟨g, e, hg, hB⟩ := h; exact ⟨g, e, hg, hB.alloc o⟩
theorem Own3.ne {u : Value} {cs : Array Value} (h : Own3 B u W cs) : u ≠ .pointer (some ⟨W.heap.size, 0, none⟩) := by
  obtain ⟨g, rfl, _, hB⟩ := h
  have := hB.lt
  intro e
  injection e with e; injection e with e; injection e with e
  omega
theorem J8.call1 (hK : Keep B K) (h : J8 B K x y z a b c b0 b1 b2 b3 b4 b5 b6 b7 u7 u8 u10 u11 u12 u13 W) (hb : Below W.heap.size W W') :
    J8 B K x y z a b c b0 true b2 b3 b4 b5 b6 b7 u7 u8 u10 (.agg #[.int .i64 x, .int .i64 y, .int .i64 z]) u12 u13 W' :=
  ⟨h.h0, fun _ => rfl, h.h2, h.h3, fun e => (h.h4 e).over hb, fun e => (h.h5 e).over hb, h.hn, h.h6, h.h7, hK.over h.hk hb⟩
theorem J8.call3 (hK : Keep B K) (h : J8 B K x y z a b c b0 b1 b2 b3 b4 b5 b6 b7 u7 u8 u10 u11 u12 u13 W) (hb : Below W.heap.size W W') :
    J8 B K x y z a b c b0 b1 b2 true b4 b5 b6 b7 u7 u8 u10 u11 u12 (.agg #[.int .i64 a, .int .i64 b, .int .i64 c]) W' :=
  ⟨h.h0, h.h1, h.h2, fun _ => rfl, fun e => (h.h4 e).over hb, fun e => (h.h5 e).over hb, h.hn, h.h6, h.h7, hK.over h.hk hb⟩
theorem J8.load0 (h : J8 B K x y z a b c b0 b1 b2 b3 b4 b5 b6 b7 u7 u8 u10 u11 u12 u13 W) :
    J8 B K x y z a b c true b1 b2 b3 b4 b5 b6 b7 u7 u8 (.agg #[.int .i64 x, .int .i64 y, .int .i64 z]) u11 u12 u13 W :=
  ⟨fun _ => rfl, h.h1, h.h2, h.h3, h.h4, h.h5, h.hn, h.h6, h.h7, h.hk⟩
theorem J8.load2 (h : J8 B K x y z a b c b0 b1 b2 b3 b4 b5 b6 b7 u7 u8 u10 u11 u12 u13 W) :
    J8 B K x y z a b c b0 b1 true b3 b4 b5 b6 b7 u7 u8 u10 u11 (.agg #[.int .i64 a, .int .i64 b, .int .i64 c]) u13 W :=
  ⟨h.h0, h.h1, fun _ => rfl, h.h3, h.h4, h.h5, h.hn, h.h6, h.h7, h.hk⟩
theorem J8.alloc4 (hK : Keep B K) (h : J8 B K x y z a b c b0 b1 b2 b3 false b5 b6 b7 u7 u8 u10 u11 u12 u13 W) :
    J8 B K x y z a b c b0 b1 b2 b3 true b5 b6 b7 (.pointer (some ⟨W.heap.size, 0, none⟩)) u8 u10 u11 u12 u13 (W.alloc (.cells #[.int .i64 0, .int .i64 0, .int .i64 0] 61)) := by
  have h6 : b6 = false := by cases hb : b6 with | false => rfl | true => have := h.h6 hb; simp at this
  subst h6
  exact ⟨h.h0, h.h1, h.h2, h.h3, fun _ => ⟨_, rfl, hK.size h.hk, Blk.new2 rfl⟩, fun e => (h.h5 e).alloc _, fun _ e => ((h.h5 e).ne).symm, fun e => by simp at e, h.h7, hK.alloc _ h.hk⟩
theorem J8.alloc5 (hK : Keep B K) (h : J8 B K x y z a b c b0 b1 b2 b3 b4 false b6 b7 u7 u8 u10 u11 u12 u13 W) :
    J8 B K x y z a b c b0 b1 b2 b3 b4 true b6 b7 u7 (.pointer (some ⟨W.heap.size, 0, none⟩)) u10 u11 u12 u13 (W.alloc (.cells #[.int .i64 0, .int .i64 0, .int .i64 0] 61)) := by
  have h7 : b7 = false := by cases hb : b7 with | false => rfl | true => have := h.h7 hb; simp at this
  subst h7
  exact ⟨h.h0, h.h1, h.h2, h.h3, fun e => (h.h4 e).alloc _, fun _ => ⟨_, rfl, hK.size h.hk, Blk.new2 rfl⟩, fun e _ => (h.h4 e).ne, h.h6, fun e => by simp at e, hK.alloc _ h.hk⟩
theorem J8.store6 (hK : Keep B K) {g : Nat} (h : J8 B K x y z a b c true true b2 true true true false b7 (.pointer (some ⟨g, 0, none⟩)) u8 u10 u11 u12 u13 W) :
    J8 B K x y z a b c true true b2 true true true true b7 (.pointer (some ⟨g, 0, none⟩)) u8 u10 u11 u12 u13 (((W.setCell ⟨g, 0, none⟩ (.int .i64 x)).setCell ⟨g, 1, none⟩ (.int .i64 y)).setCell ⟨g, 2, none⟩ (.int .i64 z)) := by
  obtain ⟨g', e, hB, hblk⟩ := h.h4 rfl
  injection e with e; injection e with e; injection e with e
  subst e
  refine ⟨h.h0, h.h1, h.h2, h.h3, fun _ => ⟨g, rfl, hB, by simpa using Blk.set3 hblk _ _ _⟩, fun e => ?_, h.hn, fun _ => rfl, h.h7, hK.set3 h.hk hB _ _ _⟩
  obtain ⟨k, rfl, hk, hkb⟩ := h.h5 rfl
  exact ⟨k, rfl, hk, hkb.far3 (fun e => h.hn rfl rfl (by rw [e])) _ _ _⟩
theorem J8.store7 (hK : Keep B K) {k : Nat} (h : J8 B K x y z a b c true true true true true true true false u7 (.pointer (some ⟨k, 0, none⟩)) u10 u11 u12 u13 W) :
    J8 B K x y z a b c true true true true true true true true u7 (.pointer (some ⟨k, 0, none⟩)) u10 u11 u12 u13 (((W.setCell ⟨k, 0, none⟩ (.int .i64 a)).setCell ⟨k, 1, none⟩ (.int .i64 b)).setCell ⟨k, 2, none⟩ (.int .i64 c)) := by
  obtain ⟨k', e, hB, hblk⟩ := h.h5 rfl
  injection e with e; injection e with e; injection e with e
  subst e
  refine ⟨h.h0, h.h1, h.h2, h.h3, fun e => ?_, fun _ => ⟨k, rfl, hB, by simpa using Blk.set3 hblk _ _ _⟩, h.hn, h.h6, fun _ => rfl, hK.set3 h.hk hB _ _ _⟩
  obtain ⟨g, rfl, hg, hgb⟩ := h.h4 rfl
  exact ⟨g, rfl, hg, hgb.far3 (fun e => h.hn rfl rfl (by rw [e])) _ _ _⟩
theorem J8.two (h : J8 B K x y z a b c true true true true true true true true u7 u8 u10 u11 u12 u13 W) : Two x y z a b c B u7 u8 W ∧ K W := by
  obtain ⟨g, rfl, hg, hgb⟩ := h.h4 rfl
  obtain ⟨k, rfl, hk, hkb⟩ := h.h5 rfl
  exact ⟨⟨g, k, rfl, rfl, fun e => h.hn rfl rfl (by rw [e]), hg, hk, by simpa using hgb, by simpa using hkb⟩, h.hk⟩
theorem J8.begin (hk : K W) : J8 B K x y z a b c false false false false false false false false u7 u8 u10 u11 u12 u13 W :=
  ⟨fun e => by simp at e, fun e => by simp at e, fun e => by simp at e, fun e => by simp at e, fun e => by simp at e, fun e => by simp at e, fun e => by simp at e, fun e => by simp at e, fun e => by simp at e, hk⟩
theorem keep3 {t : TypeId} {w : World} : Keep (w.heap.size + 3) (K3 x y z a b c t w) :=
  ⟨fun h hb => h.over hb, fun o h => h.alloc o, fun h hg p q r => h.set3 hg p q r, fun h => h.all.2.1⟩
theorem keep2 {w : World} : Keep (w.heap.size + 2) (K2 x y z a b c w) :=
  ⟨fun h hb => h.over hb, fun o h => h.alloc o, fun h hg p q r => h.set3 hg p q r, fun h => h.all.2.1⟩
end
end Go.Proofs.Ythlidkmalfjmbaa
