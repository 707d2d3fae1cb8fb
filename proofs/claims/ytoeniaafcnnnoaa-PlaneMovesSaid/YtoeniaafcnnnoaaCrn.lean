/- The walk of the reference's Corners. No condition. -/
import Derived.Test.YtoeniaafcnnnoaaDep
import Derived.Deep.Fields
namespace Go.Proofs.Ytoeniaafcnnnoaa
open Go.RowKit

theorem info34 : (Try.prog.info? 34).map (fun i => (i.zero, i.size, i.bytes)) = some (some (.agg #[.int .i64 0, .int .i64 0, .int .i64 0]), 3, 24) := by kernel_rfl
theorem info_bits {P : Program} {t : TypeId} {z : Value} {s b : Nat} (h : (P.info? t).map (fun i => (i.zero, i.size, i.bytes)) = some (some z, s, b)) : ∃ i, P.info? t = some i ∧ i.zero = some z ∧ i.size = s ∧ i.bytes = b := by
  cases hi : P.info? t with
  | none => rw [hi] at h; cases h
  | some i =>
    rw [hi] at h
    simp only [Option.map_some, Option.some.injEq, Prod.mk.injEq] at h
    exact ⟨i, rfl, h.1, h.2.1, h.2.2⟩
theorem encTs_one : ∀ l, ∀ u ∈ encTs l, u.oneCell' = true := by
  intro l u hu
  simp only [encTs, List.mem_flatMap, encT] at hu
  obtain ⟨x, _, hx⟩ := hu
  simp only [List.mem_cons, List.not_mem_nil, or_false] at hx
  rcases hx with rfl | rfl | rfl <;> rfl
theorem own_slice3 {w : World} {base n : Nat} {e : TypeId} {v : Value} {xs : List Value} (h : w.ownsRow base e 3 v n xs) : ∃ A c, v = .slice A n c ∧ Reads w w.heap.size 3 A n xs := by
  rcases h.2 with ⟨rfl, rfl⟩ | ⟨g, cap, cur, rfl, _⟩
  · exact ⟨none, 0, rfl, Reads.of_own h⟩
  · exact ⟨_, _, rfl, Reads.of_own h⟩
/-- append of a slice that reads onto a row of the call's own: what comes out is a slice, named by its parts -/
theorem wpList_append_sl3 {P : Program} {w : World} {ops : Array Oper} {rest : List Oper} {o : Oper} {a : Act} {Q : Exit → Act → World → Prop} (hgd : o.guard = none) (s x : Operand) (t : TypeId)
    (ho : o.op = .call { callee := .builtin .append, args := #[s, x], argTypes := #[t, t] })
    (base : Nat) (e : TypeId) (i : TypeInfo) (z : Value) (bytes : Nat) (ht : P.underlying t = some (.slice e)) (hi : P.info? e = some i) (hz : i.zero = some z)
    (hsize : i.size = 3) (hby : i.bytes = bytes) (hzs : z.cells.size = 3)
    (v : Value) (n : Nat) (xs : List Value) (hs : a.eval s = v) (hown : w.ownsRow base e 3 v n xs)
    (B : Nat) (A : Option Addr) (m c : Nat) (news : List Value) (hx : a.eval x = .slice A m c) (hr : Reads w B 3 A m news) (h1 : ∀ u ∈ news, u.oneCell' = true)
    (N : Nat) (ys : List Value) (hN : N = n + m) (hys : ys = xs ++ news)
    (h63 : N ≤ maxLen) (hbytes : N * bytes ≤ 140737488355328) (w0 : World) (hbw : Below base w0 w) (hbase : base ≤ w.heap.size)
    (h : ∀ A' c' w', w'.ownsRow base e 3 (.slice A' N c') N ys → Reads w' w'.heap.size 3 A' N ys → Below base w0 w' → w.heap.size ≤ w'.heap.size → wpList P ops Q rest (a.put o.dst (.slice A' N c')) w') : wpList P ops Q (o :: rest) a w := by
  subst hN hys
  refine wpList_append_any w hgd s x t ho base e i z 3 bytes ht hi hz hsize hby hzs (by omega) v n xs hs hown B A m c news hx hr h1 h63 hbytes hbase ?_
  intro v' w' hown' hg _
  have hb' : Below base w0 w' := hbw.grown hg hbase (fun k hk => (hown.lt k hk).1)
  obtain ⟨A', c', rfl, hr'⟩ := own_slice3 hown'
  exact h A' c' w' hown' hr' hb' hg.size
theorem own_low {w w' : World} {base e size n : Nat} {v : Value} {xs : List Value} (h : w.ownsRow base e size v n xs) (hb : Below w.heap.size w w') : w'.ownsRow base e size v n xs :=
  h.kept (row := none) ⟨hb.os, hb.tape, hb.output, hb.size, fun k hk _ => hb.block k hk⟩ (Classical.em _)
def cors (x y z p q r : Int) : List (Int × Int × Int) := [(x, y, z), (p, y, z), (x, q, z), (p, q, z), (x, y, r), (p, y, r), (x, q, r), (p, q, r)]
def corTo (x y z p q r : Int) (k : Nat) : List (Int × Int × Int) := (cors x y z p q r).take k
theorem corTo_0 (x y z p q r : Int) : encTs (corTo x y z p q r 1) = encTs (corTo x y z p q r 0) ++ encTs [(x, y, z)] := rfl
theorem corTo_1 (x y z p q r : Int) : encTs (corTo x y z p q r 2) = encTs (corTo x y z p q r 1) ++ encTs [(p, y, z)] := rfl
theorem corTo_2 (x y z p q r : Int) : encTs (corTo x y z p q r 3) = encTs (corTo x y z p q r 2) ++ encTs [(x, q, z)] := rfl
theorem corTo_3 (x y z p q r : Int) : encTs (corTo x y z p q r 4) = encTs (corTo x y z p q r 3) ++ encTs [(p, q, z)] := rfl
theorem corTo_4 (x y z p q r : Int) : encTs (corTo x y z p q r 5) = encTs (corTo x y z p q r 4) ++ encTs [(x, y, r)] := rfl
theorem corTo_5 (x y z p q r : Int) : encTs (corTo x y z p q r 6) = encTs (corTo x y z p q r 5) ++ encTs [(p, y, r)] := rfl
theorem corTo_6 (x y z p q r : Int) : encTs (corTo x y z p q r 7) = encTs (corTo x y z p q r 6) ++ encTs [(x, q, r)] := rfl
theorem corTo_7 (x y z p q r : Int) : encTs (corTo x y z p q r 8) = encTs (corTo x y z p q r 7) ++ encTs [(p, q, r)] := rfl

def CorRel (x y z p q r : Int) (w : World) (i s : Value) (W : World) : Prop :=
  ∃ (k : Nat) (K : Int), k ≤ 8 ∧ K = k ∧ i = .int .i64 K ∧ (∃ A c, s = .slice A k c ∧ W.ownsRow (w.heap.size + 1) 34 3 (.slice A k c) k (encTs (corTo x y z p q r k))) ∧ Below (w.heap.size + 1) (w.alloc (.cells #[.int .i64 x, .int .i64 y, .int .i64 z, .int .i64 p, .int .i64 q, .int .i64 r] 42)) W
theorem nine {k : Nat} (h : k ≤ 8) : k = 0 ∨ k = 1 ∨ k = 2 ∨ k = 3 ∨ k = 4 ∨ k = 5 ∨ k = 6 ∨ k = 7 ∨ k = 8 := by omega
set_option maxHeartbeats 8000000 in
set_option maxRecDepth 100000 in
theorem corners_any (x y z p q r : Int) (w : World) :
    Calls Try.prog 57 #[.agg #[.int .i64 x, .int .i64 y, .int .i64 z, .int .i64 p, .int .i64 q, .int .i64 r]] w fun e w' => ∃ A c, e = .returned (.slice A 8 c) ∧ Reads w' w'.heap.size 3 A 8 (encTs (cors x y z p q r)) ∧ Below w.heap.size w w' := by
  obtain ⟨i0, hi0, hz0, hz1, hz2⟩ := info_bits info34
  go_enter Try.func57, Try.ntmps57
  go_wp2
  go_loopw [4, 3] (fun i s W => CorRel x y z p q r w i s W) (fun i _ _ => 8 - (intOf i).toNat)
  case atStart =>
    exact ⟨0, 0, Nat.zero_le _, rfl, rfl, ⟨some ⟨w.heap.size + 1, 0, none⟩, 0, rfl, by
      rw [show encTs (corTo x y z p q r 0) = [] from rfl]
      have h := World.ownsRow_made (e := 34) (size := 3) (w.alloc (.cells #[.int .i64 x, .int .i64 y, .int .i64 z, .int .i64 p, .int .i64 q, .int .i64 r] 42)) #[] 0 (Nat.le_refl _) (by simp [maxLen]) rfl
      rw [show (w.alloc (.cells #[.int .i64 x, .int .i64 y, .int .i64 z, .int .i64 p, .int .i64 q, .int .i64 r] 42)).heap.size = w.heap.size + 1 by simp] at h
      exact h⟩, Below.alloc (Below.refl _ _) (by first | exact Nat.le_refl _ | simp) _⟩
  case round =>
    obtain ⟨k, K, hk, hK, rfl, ⟨A, c, rfl, hown⟩, hb⟩ := hrel
    have hB : Blk wr w.heap.size 42 #[.int .i64 x, .int .i64 y, .int .i64 z, .int .i64 p, .int .i64 q, .int .i64 r] := Blk.below (Blk.new2 rfl) hb (by omega)
    obtain ⟨p0, p1, p2, p3, p4, p5⟩ := blk6 hB
    have hsz := hB.lt
    have hs1 : w.heap.size + 1 ≤ wr.heap.size := hsz
    clear hB
    have HB := Lib.hid hb
    have HO := Lib.hid hown
    clear hb hown
    rcases nine hk with rfl | rfl | rfl | rfl | rfl | rfl | rfl | rfl | rfl
    · obtain rfl : K = 0 := by omega
      clear hK
      go_wp2_with (at_builtin; refine wpList_append_sl3 rfl (.tmp 35) (.tmp 37) _ rfl (w.heap.size + 1) 34 i0 _ 24 Try.underlying88 hi0 hz0 hz1 hz2 rfl (.slice A 0 c) 0 (encTs (corTo x y z p q r 0)) rfl (own_low HO.out (by (repeat (first | with_reducible exact Below.refl _ _ | with_reducible refine Below.setCell ?_ ?_ _ | with_reducible refine Below.alloc ?_ ?_ _)); all_goals (first | omega | (simp <;> omega)))) _ _ 1 1 (encTs [(x, y, z)]) rfl (readsT_new (l := [(x, y, z)]) (by simp) rfl) (encTs_one _) 1 (encTs (corTo x y z p q r 1)) rfl (corTo_0 x y z p q r) (by simp [maxLen]) (by omega) (w.alloc (.cells #[.int .i64 x, .int .i64 y, .int .i64 z, .int .i64 p, .int .i64 q, .int .i64 r] 42)) (by (repeat (first | exact HB.out | with_reducible refine Below.setCell ?_ ?_ _ | with_reducible refine Below.alloc ?_ ?_ _)); all_goals (first | omega | (simp <;> omega))) (by first | omega | (simp <;> omega)) ?_; intro A1 c1 w1 hown1 hr1 hb1 hs1)
      go_roundw
      case rel => exact ⟨1, 1, by omega, by omega, by go_num, ⟨A1, c1, rfl, hown1⟩, hb1⟩
      case measure => simp [intOf] <;> omega
    · obtain rfl : K = 1 := by omega
      clear hK
      go_wp2_with (at_builtin; refine wpList_append_sl3 rfl (.tmp 35) (.tmp 37) _ rfl (w.heap.size + 1) 34 i0 _ 24 Try.underlying88 hi0 hz0 hz1 hz2 rfl (.slice A 1 c) 1 (encTs (corTo x y z p q r 1)) rfl (own_low HO.out (by (repeat (first | with_reducible exact Below.refl _ _ | with_reducible refine Below.setCell ?_ ?_ _ | with_reducible refine Below.alloc ?_ ?_ _)); all_goals (first | omega | (simp <;> omega)))) _ _ 1 1 (encTs [(p, y, z)]) rfl (readsT_new (l := [(p, y, z)]) (by simp) rfl) (encTs_one _) 2 (encTs (corTo x y z p q r 2)) rfl (corTo_1 x y z p q r) (by simp [maxLen]) (by omega) (w.alloc (.cells #[.int .i64 x, .int .i64 y, .int .i64 z, .int .i64 p, .int .i64 q, .int .i64 r] 42)) (by (repeat (first | exact HB.out | with_reducible refine Below.setCell ?_ ?_ _ | with_reducible refine Below.alloc ?_ ?_ _)); all_goals (first | omega | (simp <;> omega))) (by first | omega | (simp <;> omega)) ?_; intro A1 c1 w1 hown1 hr1 hb1 hs1)
      go_roundw
      case rel => exact ⟨2, 2, by omega, by omega, by go_num, ⟨A1, c1, rfl, hown1⟩, hb1⟩
      case measure => simp [intOf] <;> omega
    · obtain rfl : K = 2 := by omega
      clear hK
      go_wp2_with (at_builtin; refine wpList_append_sl3 rfl (.tmp 35) (.tmp 37) _ rfl (w.heap.size + 1) 34 i0 _ 24 Try.underlying88 hi0 hz0 hz1 hz2 rfl (.slice A 2 c) 2 (encTs (corTo x y z p q r 2)) rfl (own_low HO.out (by (repeat (first | with_reducible exact Below.refl _ _ | with_reducible refine Below.setCell ?_ ?_ _ | with_reducible refine Below.alloc ?_ ?_ _)); all_goals (first | omega | (simp <;> omega)))) _ _ 1 1 (encTs [(x, q, z)]) rfl (readsT_new (l := [(x, q, z)]) (by simp) rfl) (encTs_one _) 3 (encTs (corTo x y z p q r 3)) rfl (corTo_2 x y z p q r) (by simp [maxLen]) (by omega) (w.alloc (.cells #[.int .i64 x, .int .i64 y, .int .i64 z, .int .i64 p, .int .i64 q, .int .i64 r] 42)) (by (repeat (first | exact HB.out | with_reducible refine Below.setCell ?_ ?_ _ | with_reducible refine Below.alloc ?_ ?_ _)); all_goals (first | omega | (simp <;> omega))) (by first | omega | (simp <;> omega)) ?_; intro A1 c1 w1 hown1 hr1 hb1 hs1)
      go_roundw
      case rel => exact ⟨3, 3, by omega, by omega, by go_num, ⟨A1, c1, rfl, hown1⟩, hb1⟩
      case measure => simp [intOf] <;> omega
    · obtain rfl : K = 3 := by omega
      clear hK
      go_wp2_with (at_builtin; refine wpList_append_sl3 rfl (.tmp 35) (.tmp 37) _ rfl (w.heap.size + 1) 34 i0 _ 24 Try.underlying88 hi0 hz0 hz1 hz2 rfl (.slice A 3 c) 3 (encTs (corTo x y z p q r 3)) rfl (own_low HO.out (by (repeat (first | with_reducible exact Below.refl _ _ | with_reducible refine Below.setCell ?_ ?_ _ | with_reducible refine Below.alloc ?_ ?_ _)); all_goals (first | omega | (simp <;> omega)))) _ _ 1 1 (encTs [(p, q, z)]) rfl (readsT_new (l := [(p, q, z)]) (by simp) rfl) (encTs_one _) 4 (encTs (corTo x y z p q r 4)) rfl (corTo_3 x y z p q r) (by simp [maxLen]) (by omega) (w.alloc (.cells #[.int .i64 x, .int .i64 y, .int .i64 z, .int .i64 p, .int .i64 q, .int .i64 r] 42)) (by (repeat (first | exact HB.out | with_reducible refine Below.setCell ?_ ?_ _ | with_reducible refine Below.alloc ?_ ?_ _)); all_goals (first | omega | (simp <;> omega))) (by first | omega | (simp <;> omega)) ?_; intro A1 c1 w1 hown1 hr1 hb1 hs1)
      go_roundw
      case rel => exact ⟨4, 4, by omega, by omega, by go_num, ⟨A1, c1, rfl, hown1⟩, hb1⟩
      case measure => simp [intOf] <;> omega
    · obtain rfl : K = 4 := by omega
      clear hK
      go_wp2_with (at_builtin; refine wpList_append_sl3 rfl (.tmp 35) (.tmp 37) _ rfl (w.heap.size + 1) 34 i0 _ 24 Try.underlying88 hi0 hz0 hz1 hz2 rfl (.slice A 4 c) 4 (encTs (corTo x y z p q r 4)) rfl (own_low HO.out (by (repeat (first | with_reducible exact Below.refl _ _ | with_reducible refine Below.setCell ?_ ?_ _ | with_reducible refine Below.alloc ?_ ?_ _)); all_goals (first | omega | (simp <;> omega)))) _ _ 1 1 (encTs [(x, y, r)]) rfl (readsT_new (l := [(x, y, r)]) (by simp) rfl) (encTs_one _) 5 (encTs (corTo x y z p q r 5)) rfl (corTo_4 x y z p q r) (by simp [maxLen]) (by omega) (w.alloc (.cells #[.int .i64 x, .int .i64 y, .int .i64 z, .int .i64 p, .int .i64 q, .int .i64 r] 42)) (by (repeat (first | exact HB.out | with_reducible refine Below.setCell ?_ ?_ _ | with_reducible refine Below.alloc ?_ ?_ _)); all_goals (first | omega | (simp <;> omega))) (by first | omega | (simp <;> omega)) ?_; intro A1 c1 w1 hown1 hr1 hb1 hs1)
      go_roundw
      case rel => exact ⟨5, 5, by omega, by omega, by go_num, ⟨A1, c1, rfl, hown1⟩, hb1⟩
      case measure => simp [intOf] <;> omega
    · obtain rfl : K = 5 := by omega
      clear hK
      go_wp2_with (at_builtin; refine wpList_append_sl3 rfl (.tmp 35) (.tmp 37) _ rfl (w.heap.size + 1) 34 i0 _ 24 Try.underlying88 hi0 hz0 hz1 hz2 rfl (.slice A 5 c) 5 (encTs (corTo x y z p q r 5)) rfl (own_low HO.out (by (repeat (first | with_reducible exact Below.refl _ _ | with_reducible refine Below.setCell ?_ ?_ _ | with_reducible refine Below.alloc ?_ ?_ _)); all_goals (first | omega | (simp <;> omega)))) _ _ 1 1 (encTs [(p, y, r)]) rfl (readsT_new (l := [(p, y, r)]) (by simp) rfl) (encTs_one _) 6 (encTs (corTo x y z p q r 6)) rfl (corTo_5 x y z p q r) (by simp [maxLen]) (by omega) (w.alloc (.cells #[.int .i64 x, .int .i64 y, .int .i64 z, .int .i64 p, .int .i64 q, .int .i64 r] 42)) (by (repeat (first | exact HB.out | with_reducible refine Below.setCell ?_ ?_ _ | with_reducible refine Below.alloc ?_ ?_ _)); all_goals (first | omega | (simp <;> omega))) (by first | omega | (simp <;> omega)) ?_; intro A1 c1 w1 hown1 hr1 hb1 hs1)
      go_roundw
      case rel => exact ⟨6, 6, by omega, by omega, by go_num, ⟨A1, c1, rfl, hown1⟩, hb1⟩
      case measure => simp [intOf] <;> omega
    · obtain rfl : K = 6 := by omega
      clear hK
      go_wp2_with (at_builtin; refine wpList_append_sl3 rfl (.tmp 35) (.tmp 37) _ rfl (w.heap.size + 1) 34 i0 _ 24 Try.underlying88 hi0 hz0 hz1 hz2 rfl (.slice A 6 c) 6 (encTs (corTo x y z p q r 6)) rfl (own_low HO.out (by (repeat (first | with_reducible exact Below.refl _ _ | with_reducible refine Below.setCell ?_ ?_ _ | with_reducible refine Below.alloc ?_ ?_ _)); all_goals (first | omega | (simp <;> omega)))) _ _ 1 1 (encTs [(x, q, r)]) rfl (readsT_new (l := [(x, q, r)]) (by simp) rfl) (encTs_one _) 7 (encTs (corTo x y z p q r 7)) rfl (corTo_6 x y z p q r) (by simp [maxLen]) (by omega) (w.alloc (.cells #[.int .i64 x, .int .i64 y, .int .i64 z, .int .i64 p, .int .i64 q, .int .i64 r] 42)) (by (repeat (first | exact HB.out | with_reducible refine Below.setCell ?_ ?_ _ | with_reducible refine Below.alloc ?_ ?_ _)); all_goals (first | omega | (simp <;> omega))) (by first | omega | (simp <;> omega)) ?_; intro A1 c1 w1 hown1 hr1 hb1 hs1)
      go_roundw
      case rel => exact ⟨7, 7, by omega, by omega, by go_num, ⟨A1, c1, rfl, hown1⟩, hb1⟩
      case measure => simp [intOf] <;> omega
    · obtain rfl : K = 7 := by omega
      clear hK
      go_wp2_with (at_builtin; refine wpList_append_sl3 rfl (.tmp 35) (.tmp 37) _ rfl (w.heap.size + 1) 34 i0 _ 24 Try.underlying88 hi0 hz0 hz1 hz2 rfl (.slice A 7 c) 7 (encTs (corTo x y z p q r 7)) rfl (own_low HO.out (by (repeat (first | with_reducible exact Below.refl _ _ | with_reducible refine Below.setCell ?_ ?_ _ | with_reducible refine Below.alloc ?_ ?_ _)); all_goals (first | omega | (simp <;> omega)))) _ _ 1 1 (encTs [(p, q, r)]) rfl (readsT_new (l := [(p, q, r)]) (by simp) rfl) (encTs_one _) 8 (encTs (corTo x y z p q r 8)) rfl (corTo_7 x y z p q r) (by simp [maxLen]) (by omega) (w.alloc (.cells #[.int .i64 x, .int .i64 y, .int .i64 z, .int .i64 p, .int .i64 q, .int .i64 r] 42)) (by (repeat (first | exact HB.out | with_reducible refine Below.setCell ?_ ?_ _ | with_reducible refine Below.alloc ?_ ?_ _)); all_goals (first | omega | (simp <;> omega))) (by first | omega | (simp <;> omega)) ?_; intro A1 c1 w1 hown1 hr1 hb1 hs1)
      go_roundw
      case rel => exact ⟨8, 8, by omega, by omega, by go_num, ⟨A1, c1, rfl, hown1⟩, hb1⟩
      case measure => simp [intOf] <;> omega
    · obtain rfl : K = 8 := by omega
      clear hK
      go_wp2
      go_ret
      obtain ⟨A', c', e, hr⟩ := own_slice3 HO.out
      injection e with e1 e2 e3
      subst e1
      exact ⟨_, _, rfl, hr, ((Below.refl _ _).alloc (Nat.le_refl _) _).trans (bmono HB.out (by omega))⟩
end Go.Proofs.Ytoeniaafcnnnoaa
