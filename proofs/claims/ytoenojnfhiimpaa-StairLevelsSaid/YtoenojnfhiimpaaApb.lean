/- append where rows are blocks that are known whole. No condition. -/
import Derived.Test.YtoenojnfhiimpaaBas
namespace Go.Proofs.Ytoenojnfhiimpaa
open Go.RowKit

section
variable {Z : List (Nat × TypeId × Array Value)} {w0 : World}
theorem own_of_blk {w : World} {g cap n size : Nat} {e : TypeId} {cur : Array Value} {xs : List Value} (hb : Blk w g e cur) (hn : n ≤ cap) (hc : cap ≤ maxLen) (hs : cur.size = cap * size) (hl : xs.length = n * size) (ht : cur.toList.take (n * size) = xs) :
    w.ownsRow 0 e size (.slice (some ⟨g, 0, none⟩) n cap) n xs := ⟨hl, .inr ⟨g, cap, cur, rfl, Nat.zero_le _, hb, hn, hc, hs, ht⟩⟩
/-- what append leaves: the row g' of N elements, the blocks of Y as they were -/
def RowAft (Y : List (Nat × TypeId × Array Value)) (w0 : World) (e : TypeId) (size N : Nat) (ys : List Value) (H : Nat) (g' c' : Nat) (cur' : Array Value) (w' : World) : Prop :=
  KL ((g', e, cur') :: Y) w0 w' ∧ N ≤ c' ∧ c' ≤ maxLen ∧ cur'.size = c' * size ∧ cur'.toList.take (N * size) = ys ∧ (∀ q ∈ Y, q.1 ≠ g') ∧ w0.heap.size ≤ g' ∧ H ≤ w'.heap.size
theorem wpList_append_nil0 {P : Program} {w : World} {ops : Array Oper} {rest : List Oper} {o : Oper} {a : Act} {Q : Exit → Act → World → Prop} (hgd : o.guard = none) (s x : Operand) (t : TypeId)
    (ho : o.op = .call { callee := .builtin .append, args := #[s, x], argTypes := #[t, t] })
    (e : TypeId) (i : TypeInfo) (z : Value) (size bytes : Nat) (ht : P.underlying t = some (.slice e)) (hi : P.info? e = some i) (hz : i.zero = some z)
    (hsize : i.size = size) (hby : i.bytes = bytes) (hzs : z.cells.size = size) (hsz : 0 < size)
    (hs : a.eval s = .slice none 0 0)
    (B : Nat) (A : Option Addr) (m c : Nat) (news : List Value) (hx : a.eval x = .slice A m c) (hr : Reads w B size A m news) (h1 : ∀ u ∈ news, u.oneCell' = true)
    (hm : 0 < m) (h63 : m ≤ maxLen) (hbytes : m * bytes ≤ 140737488355328) (hkl : KL Z w0 w)
    (h : ∀ g' c' cur' w', RowAft Z w0 e size m news w.heap.size g' c' cur' w' → wpList P ops Q rest (a.put o.dst (.slice (some ⟨g', 0, none⟩) m c')) w') : wpList P ops Q (o :: rest) a w := by
  refine wpList_append_any w hgd s x t ho 0 e i z size bytes ht hi hz hsize hby hzs hsz _ 0 [] hs (World.ownsRow_nil w 0 e size) B A m c news hx hr h1 (by omega) (by simpa using hbytes) (Nat.zero_le _) ?_
  intro v' w' hown' hg hv
  rcases hown'.2 with ⟨_, h0⟩ | ⟨g', cap, cur, rfl, _, hh, hnc, hcm, hcs, htk⟩
  · omega
  · have hg' : g' = w.heap.size := by
      rcases hv with hv | hv
      · exact absurd hv (by simp [Value.ownBlock])
      · simpa [Value.ownBlock] using hv
    have hk := hkl.grown2 hg (fun k hk => by simp [Value.ownBlock] at hk) (fun q hq hc => by simp [Value.ownBlock] at hc)
    rw [Nat.zero_add] at hnc htk ⊢
    exact h g' cap cur w' ⟨KL.cons hh hk, hnc, hcm, hcs, by simpa using htk, fun q hq => by have := (hkl.2 q hq).lt; omega, by have := hkl.1.size; omega, hg.size⟩
theorem wpList_append_blk {P : Program} {w : World} {ops : Array Oper} {rest : List Oper} {o : Oper} {a : Act} {Q : Exit → Act → World → Prop} (hgd : o.guard = none) (s x : Operand) (t : TypeId)
    (ho : o.op = .call { callee := .builtin .append, args := #[s, x], argTypes := #[t, t] })
    (e : TypeId) (i : TypeInfo) (z : Value) (size bytes : Nat) (ht : P.underlying t = some (.slice e)) (hi : P.info? e = some i) (hz : i.zero = some z)
    (hsize : i.size = size) (hby : i.bytes = bytes) (hzs : z.cells.size = size) (hsz : 0 < size)
    (k g n cap : Nat) (cur : Array Value) (xs : List Value) (hs : a.eval s = .slice (some ⟨g, 0, none⟩) n cap) (hk : Z[k]? = some (g, e, cur)) (hne : ∀ q ∈ Z.eraseIdx k, q.1 ≠ g) (hn : n ≤ cap) (hc : cap ≤ maxLen) (hsc : cur.size = cap * size) (hl : xs.length = n * size) (htk : cur.toList.take (n * size) = xs)
    (B : Nat) (A : Option Addr) (m c : Nat) (news : List Value) (hx : a.eval x = .slice A m c) (hr : Reads w B size A m news) (h1 : ∀ u ∈ news, u.oneCell' = true)
    (N : Nat) (ys : List Value) (hN : N = n + m) (hys : ys = xs ++ news) (hm : 0 < m) (h63 : N ≤ maxLen) (hbytes : N * bytes ≤ 140737488355328) (hkl : KL Z w0 w) (hw : w0.heap.size ≤ g)
    (h : ∀ g' c' cur' w', RowAft (Z.eraseIdx k) w0 e size N ys w.heap.size g' c' cur' w' → wpList P ops Q rest (a.put o.dst (.slice (some ⟨g', 0, none⟩) N c')) w') : wpList P ops Q (o :: rest) a w := by
  subst hN hys
  have hm0 : (g, e, cur) ∈ Z := List.mem_iff_getElem?.2 ⟨_, hk⟩
  refine wpList_append_any w hgd s x t ho 0 e i z size bytes ht hi hz hsize hby hzs hsz _ n xs hs (own_of_blk (hkl.blk hm0) hn hc hsc hl htk) B A m c news hx hr h1 h63 hbytes (Nat.zero_le _) ?_
  intro v' w' hown' hg hv
  rcases hown'.2 with ⟨_, h0⟩ | ⟨g', cap', cur', rfl, _, hh, hnc, hcm, hcs, htk'⟩
  · omega
  · have hpart : KL (Z.eraseIdx k) w0 w := hkl.part fun p hp => List.mem_of_mem_eraseIdx hp
    have hk' := hpart.grown2 hg (fun b hb => by simp [Value.ownBlock] at hb; omega) (fun q hq hc => by
      have := hne q hq
      simp [Value.ownBlock] at hc
      exact this hc)
    refine h g' cap' cur' w' ⟨KL.cons hh hk', hnc, hcm, hcs, htk', fun q hq => ?_, ?_, hg.size⟩
    · rcases hv with hv | hv
      · have e' : g' = g := by simpa [Value.ownBlock] using hv
        rw [e']; exact hne q hq
      · have e' : g' = w.heap.size := by simpa [Value.ownBlock] using hv
        have := (hkl.2 q (List.mem_of_mem_eraseIdx hq)).lt
        omega
    · rcases hv with hv | hv
      · have e' : g' = g := by simpa [Value.ownBlock] using hv
        omega
      · have e' : g' = w.heap.size := by simpa [Value.ownBlock] using hv
        have := hkl.1.size
        omega
end
end Go.Proofs.Ytoenojnfhiimpaa
