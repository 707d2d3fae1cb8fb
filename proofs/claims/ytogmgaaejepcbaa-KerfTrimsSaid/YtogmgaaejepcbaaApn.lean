/- Append onto a row of the call's own, with the blocks that are kept; rows that are told piece by piece. -/
import Derived.Test.YtogmgaaejepcbaaCk
namespace Go.Proofs.Ytogmgaaejepcbaa
open Go.RowKit

section
variable {Z : List (Nat × TypeId × Array Value)} {w W W' : World} {base n size : Nat} {e : TypeId} {v : Value} {xs : List Value}
theorem own_below (h : W.ownsRow base e size v n xs) (hb : Below W.heap.size W W') : W'.ownsRow base e size v n xs := by
  refine ⟨h.1, h.2.imp id ?_⟩
  rintro ⟨g, cap, cur, rfl, h1, hh, r⟩
  have hlt : g < W.heap.size := by
    rcases Nat.lt_or_ge g W.heap.size with hlt | hge
    · exact hlt
    · rw [Array.getElem?_eq_none hge] at hh; cases hh
  exact ⟨g, cap, cur, rfl, h1, (hb.block g hlt).trans hh, r⟩
theorem own_slice (h : W.ownsRow base e size v n xs) : ∃ A c, v = .slice A n c ∧ Reads W W.heap.size size A n xs := by
  rcases h.2 with ⟨rfl, rfl⟩ | ⟨g, cap, cur, rfl, _⟩
  · exact ⟨none, 0, rfl, Reads.of_own h⟩
  · exact ⟨_, _, rfl, Reads.of_own h⟩
theorem KL.grown {row : Option Nat} (h : KL Z w W) (hg : W.grownBy W' row) (hr : ∀ g, row = some g → base ≤ g) (hZ : ∀ q ∈ Z, q.1 < base) (hw : w.heap.size ≤ base) : KL Z w W' :=
  ⟨h.1.grown hg h.1.size (fun k hk => Nat.le_trans hw (hr k hk)), fun q hq => (h.2 q hq).grown hg fun e => by have := hr _ e.symm; have := hZ q hq; omega⟩
theorem reads_new {g : Nat} {t : TypeId} {cs : Array Value} {m : Nat} (hb : Blk W g t cs) (hs : cs.size = m * size) {B : Nat} (hB : g < B) : Reads W B size (some ⟨g, 0, none⟩) m cs.toList :=
  ⟨by simpa using hs, fun _ => ⟨_, rfl, hB, fun j u hu => by
    have e : (⟨g, 0, none⟩ : Addr).add j = ⟨g, j, none⟩ := by unfold Addr.add; by_cases hj : j = 0 <;> simp [hj]
    rw [e, hb.cell j]
    simpa using hu⟩⟩
theorem reads_blk {g : Nat} {t : TypeId} {cur : Array Value} {m : Nat} (hb : Blk W g t cur) (hl : xs.length = m * size) (htk : cur.toList.take (m * size) = xs) {B : Nat} (hB : g < B) : Reads W B size (some ⟨g, 0, none⟩) m xs :=
  ⟨hl, fun _ => ⟨_, rfl, hB, fun j u hu => by
    have e : (⟨g, 0, none⟩ : Addr).add j = ⟨g, j, none⟩ := by unfold Addr.add; by_cases hj : j = 0 <;> simp [hj]
    rw [e, hb.cell j]
    rw [← htk, List.getElem?_take] at hu
    split at hu
    · simpa using hu
    · cases hu⟩⟩
end
section
variable {Z : List (Nat × TypeId × Array Value)} {w0 : World}
theorem wpList_append_kl {P : Program} {w : World} {ops : Array Oper} {rest : List Oper} {o : Oper} {a : Act} {Q : Exit → Act → World → Prop} (hgd : o.guard = none) (s x : Operand) (t : TypeId)
    (ho : o.op = .call { callee := .builtin .append, args := #[s, x], argTypes := #[t, t] })
    (base : Nat) (e : TypeId) (i : TypeInfo) (z : Value) (size bytes : Nat) (ht : P.underlying t = some (.slice e)) (hi : P.info? e = some i) (hz : i.zero = some z)
    (hsize : i.size = size) (hby : i.bytes = bytes) (hzs : z.cells.size = size) (hsz : 0 < size)
    (v : Value) (n : Nat) (xs : List Value) (hs : a.eval s = v) (hown : w.ownsRow base e size v n xs)
    (B : Nat) (A : Option Addr) (m c : Nat) (news : List Value) (hx : a.eval x = .slice A m c) (hr : Reads w B size A m news) (h1 : ∀ u ∈ news, u.oneCell' = true)
    (N : Nat) (ys : List Value) (hN : N = n + m) (hys : ys = xs ++ news)
    (h63 : N ≤ maxLen) (hbytes : N * bytes ≤ 140737488355328) (hkl : KL Z w0 w) (hZ : ∀ q ∈ Z, q.1 < base) (hw : w0.heap.size ≤ base) (hbase : base ≤ w.heap.size)
    (h : ∀ A' c' w', w'.ownsRow base e size (.slice A' N c') N ys → KL Z w0 w' → w.heap.size ≤ w'.heap.size → wpList P ops Q rest (a.put o.dst (.slice A' N c')) w') : wpList P ops Q (o :: rest) a w := by
  subst hN hys
  refine wpList_append_any w hgd s x t ho base e i z size bytes ht hi hz hsize hby hzs hsz v n xs hs hown B A m c news hx hr h1 h63 hbytes hbase ?_
  intro v' w' hown' hg _
  obtain ⟨A', c', rfl, hr'⟩ := own_slice hown'
  exact h A' c' w' hown' (hkl.grown hg (fun k hk => (hown.lt k hk).1) hZ hw) hg.size
end
/-- a row of the call's own that begins at the head of a block -/
def RowA (w : World) (size : Nat) (A : Option Addr) (n : Nat) (xs : List Value) : Prop :=
  xs.length = n * size ∧ (0 < n → ∃ g, A = some ⟨g, 0, none⟩ ∧ g < w.heap.size ∧ ∀ j u, xs[j]? = some u → w.cell? ⟨g, j, none⟩ = some u)
theorem add_head (g j : Nat) : (⟨g, 0, none⟩ : Addr).add j = ⟨g, j, none⟩ := by unfold Addr.add; by_cases hj : j = 0 <;> simp [hj]
theorem RowA.of_own {w : World} {base n size c : Nat} {e : TypeId} {A : Option Addr} {xs : List Value} (h : w.ownsRow base e size (.slice A n c) n xs) : RowA w size A n xs :=
  ⟨h.1, fun hn => by
    obtain ⟨g, cap, hv, _, hlt⟩ := h.form hn
    have hA : A = some ⟨g, 0, none⟩ := by injection hv
    subst hA
    refine ⟨g, rfl, hlt, fun j u hu => ?_⟩
    have := h.cells (g := g) rfl j u hu
    rwa [add_head] at this⟩
theorem RowA.of_blk {w : World} {g n size : Nat} {t : TypeId} {cur : Array Value} {xs : List Value} (hb : Blk w g t cur) (hl : xs.length = n * size) (htk : cur.toList.take (n * size) = xs) : RowA w size (some ⟨g, 0, none⟩) n xs :=
  ⟨hl, fun _ => ⟨g, rfl, hb.lt, fun j u hu => by
    rw [hb.cell j]
    rw [← htk, List.getElem?_take] at hu
    split at hu
    · simpa using hu
    · cases hu⟩⟩
theorem RowA.drew {w : World} {size n : Nat} {A : Option Addr} {xs : List Value} (h : RowA w size A n xs) : RowA w.drew size A n xs := h
theorem RowA.below {w w' : World} {size n : Nat} {A : Option Addr} {xs : List Value} (h : RowA w size A n xs) (hb : Below w.heap.size w w') : RowA w' size A n xs :=
  ⟨h.1, fun hn => by
    obtain ⟨g, e, hg, hc⟩ := h.2 hn
    exact ⟨g, e, Nat.lt_of_lt_of_le hg hb.size, fun j u hu => (hb.cell (p := ⟨g, j, none⟩) hg).trans (hc j u hu)⟩⟩
theorem RowA.alloc {w : World} {size n : Nat} {A : Option Addr} {xs : List Value} (h : RowA w size A n xs) (o : Obj) : RowA (w.alloc o) size A n xs := h.below ((Below.refl _ _).alloc (Nat.le_refl _) o)
/-- the first k pieces of a row -/
def rowTo (mk : Nat → List Value) (k : Nat) : List Value := (List.range k).flatMap mk
theorem rowTo_zero (mk : Nat → List Value) : rowTo mk 0 = [] := rfl
theorem rowTo_succ (mk : Nat → List Value) (k : Nat) : rowTo mk (k + 1) = rowTo mk k ++ mk k := by
  unfold rowTo; rw [List.range_succ, List.flatMap_append]; simp
theorem rowTo_len {mk : Nat → List Value} {s : Nat} (h : ∀ i, (mk i).length = s) (k : Nat) : (rowTo mk k).length = k * s := by
  induction k with
  | zero => simp [rowTo_zero]
  | succ k ih => rw [rowTo_succ, List.length_append, ih, h, Nat.succ_mul]
theorem rowTo_at {mk : Nat → List Value} {s : Nat} (h : ∀ i, (mk i).length = s) {k i j : Nat} (hi : i < k) (hj : j < s) : (rowTo mk k)[i * s + j]? = (mk i)[j]? := by
  induction k with
  | zero => omega
  | succ k ih =>
    rw [rowTo_succ]
    by_cases e : i < k
    · have hl : i * s + j < (rowTo mk k).length := by
        rw [rowTo_len h]
        have : (i + 1) * s ≤ k * s := Nat.mul_le_mul_right s e
        rw [Nat.succ_mul] at this
        omega
      rw [List.getElem?_append_left hl, ih e]
    · have e' : i = k := by omega
      subst e'
      rw [List.getElem?_append_right (by rw [rowTo_len h]; omega), rowTo_len h]
      congr 1
      omega
theorem info25 : (Try.prog.info? 25).map (fun i => (i.zero, i.size, i.bytes)) = some (some (.agg #[.int .i64 0, .int .i64 0, .int .i64 0, .int .i64 0, .int .i64 0, .int .i64 0]), 6, 48) := by kernel_rfl
theorem info33 : (Try.prog.info? 33).map (fun i => (i.zero, i.size, i.bytes)) = some (some (.agg #[.int .i64 0, .int .i64 0, .int .i64 0]), 3, 24) := by kernel_rfl
theorem info27 : (Try.prog.info? 27).map (fun i => (i.zero, i.size, i.bytes)) = some (some (.agg #[.int .i64 0, .int .i64 0, .int .i64 0]), 3, 24) := by kernel_rfl
end Go.Proofs.Ytogmgaaejepcbaa
