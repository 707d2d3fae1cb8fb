/- The walks of the functions that join lists of intervals and check them. Lists are of at most a thousand intervals. -/
import Derived.Test.YtnpdmohclajmjaaPairC
import Derived.Test.YtnpdmohclajmjaaShelfA
namespace Go.Proofs.Ytnpdmohclajmjaa
open Go.RowKit

theorem info23 : (Try.prog.info? 23).map (fun i => (i.zero, i.size, i.bytes)) = some (some (.agg #[.int .i64 0, .int .i64 0]), 2, 16) := by kernel_rfl

theorem Reads.of_row {w : World} {base n c : Nat} {e : TypeId} {A : Option Addr} {xs : List Value} (h : w.ownsRow base e 2 (.slice A n c) n xs) : Reads w w.heap.size 2 A n xs := Reads.of_own h

/-- a row of the call's own is a slice that reads -/
theorem own_slice {w : World} {base n : Nat} {e : TypeId} {v : Value} {xs : List Value} (h : w.ownsRow base e 2 v n xs) : ∃ A c, v = .slice A n c ∧ Reads w w.heap.size 2 A n xs := by
  rcases h.2 with ⟨rfl, rfl⟩ | ⟨g, cap, cur, rfl, _⟩
  · exact ⟨none, 0, rfl, Reads.of_own h⟩
  · exact ⟨_, _, rfl, Reads.of_own h⟩

theorem own_base {w : World} {base base' n : Nat} {e : TypeId} {v : Value} {xs : List Value} (h : w.ownsRow base e 2 v n xs) (hb : base' ≤ base) : w.ownsRow base' e 2 v n xs :=
  ⟨h.1, h.2.imp id fun ⟨g, cap, cur, e1, h1, r⟩ => ⟨g, cap, cur, e1, Nat.le_trans hb h1, r⟩⟩

/-- append of a slice that reads onto a row of the call's own: what comes out is a slice, named by its parts -/
theorem wpList_append_sl {P : Program} {w : World} {ops : Array Oper} {rest : List Oper} {o : Oper} {a : Act} {Q : Exit → Act → World → Prop} (hgd : o.guard = none) (s x : Operand) (t : TypeId)
    (ho : o.op = .call { callee := .builtin .append, args := #[s, x], argTypes := #[t, t] })
    (base : Nat) (e : TypeId) (i : TypeInfo) (z : Value) (bytes : Nat) (ht : P.underlying t = some (.slice e)) (hi : P.info? e = some i) (hz : i.zero = some z)
    (hsize : i.size = 2) (hby : i.bytes = bytes) (hzs : z.cells.size = 2)
    (v : Value) (n : Nat) (xs : List Value) (hs : a.eval s = v) (hown : w.ownsRow base e 2 v n xs)
    (B : Nat) (A : Option Addr) (m c : Nat) (news : List Value) (hx : a.eval x = .slice A m c) (hr : Reads w B 2 A m news) (h1 : ∀ u ∈ news, u.oneCell' = true)
    (N : Nat) (ys : List Value) (hN : N = n + m) (hys : ys = xs ++ news)
    (h63 : N ≤ maxLen) (hbytes : N * bytes ≤ 140737488355328) (w0 : World) (hbw : Below base w0 w) (hbase : base ≤ w.heap.size)
    (h : ∀ A' c' w', w'.ownsRow base e 2 (.slice A' N c') N ys → Reads w' w'.heap.size 2 A' N ys → Below base w0 w' → w.heap.size ≤ w'.heap.size → wpList P ops Q rest (a.put o.dst (.slice A' N c')) w') : wpList P ops Q (o :: rest) a w := by
  subst hN hys
  refine wpList_append_any w hgd s x t ho base e i z 2 bytes ht hi hz hsize hby hzs (by omega) v n xs hs hown B A m c news hx hr h1 h63 hbytes hbase ?_
  intro v' w' hown' hg _
  have hb' : Below base w0 w' := hbw.grown hg hbase (fun k hk => (hown.lt k hk).1)
  obtain ⟨A', c', rfl, hr'⟩ := own_slice hown'
  exact h A' c' w' hown' hr' hb' hg.size

theorem checkEach_n (A : Option Addr) (n cap : Nat) (l : List (Int × Int)) (w : World) (hn : n = l.length) (hl : n ≤ 1000000)
    (hr : Reads w w.heap.size 2 A n (encL l)) :
    Calls Try.prog 40 #[.slice A n cap] w fun e w' => e = .returned (.int .i64 (errOf l)) ∧ Below w.heap.size w w' := by
  subst hn; exact checkEach_any A cap l w hl hr
theorem all_n (A : Option Addr) (n cap : Nat) (l : List (Int × Int)) (w : World) (hn : n = l.length) (hl : n ≤ 1000000)
    (hr : Reads w w.heap.size 2 A n (encL l)) :
    Calls Try.prog 41 #[.slice A n cap] w fun e w' => e = .returned (.int .i64 (errOf l)) ∧ Below w.heap.size w w' := by
  subst hn; exact all_any A cap l w hl hr

set_option maxHeartbeats 400000 in
theorem lists_any (A B : Option Addr) (c d : Nat) (l m : List (Int × Int)) (w : World) (hl : l.length ≤ 1000) (hm : m.length ≤ 1000)
    (ha : Reads w w.heap.size 2 A l.length (encL l)) (hb : Reads w w.heap.size 2 B m.length (encL m)) :
    Calls Try.prog 29 #[.slice A l.length c, .slice B m.length d] w fun e w' => e = .returned (.int .i64 (errOf (l ++ m))) ∧ Below w.heap.size w w' := by
  obtain ⟨i0, hi0, hz0, hz1, hz2⟩ := info_parts info23
  have g1 : ¬ 10000 < l.length := by omega
  have g2 : ¬ 10000 < m.length := by omega
  have h0 : (w.alloc (.cells #[] 23)).ownsRow w.heap.size 23 2 (.slice (some ⟨w.heap.size, 0, none⟩) 0 0) 0 [] := World.ownsRow_made w #[] 0 (Nat.le_refl _) (by simp [maxLen]) rfl
  go_enter Try.func29, Try.ntmps29
  go_wp2_with (first
    | (at_builtin
       refine wpList_append_sl rfl (.tmp 13) (.tmp 14) _ rfl w.heap.size 23 i0 _ 16 Try.underlying33 hi0 hz0 hz1 hz2 rfl (.slice (some ⟨w.heap.size, 0, none⟩) 0 0) 0 [] rfl
         h0 w.heap.size A l.length c (encL l) rfl (ha.alloc (Nat.le_refl _) _) (encL_one l) l.length (encL l) (Nat.zero_add _).symm rfl (by simp only [maxLen]; omega) (by omega) w ((Below.refl _ _).alloc (Nat.le_refl _) _) (by simp) ?_
       intro A1 c1 w1 hown1 hr1 hbw1 hs1)
    | (at_builtin
       refine wpList_append_sl rfl (.tmp 15) (.tmp 16) _ rfl w.heap.size 23 i0 _ 16 Try.underlying33 hi0 hz0 hz1 hz2 rfl (.slice A1 l.length c1) l.length (encL l) rfl
         hown1 w.heap.size B m.length d (encL m) rfl (hb.below hbw1) (encL_one m) (l.length + m.length) (encL (l ++ m)) rfl (encL_app l m) (by simp only [maxLen]; omega) (by omega) w hbw1 hbw1.size ?_
       intro A2 c2 w2 hown2 hr2 hbw2 hs2)
    | (go_at_call 41; refine (all_n A2 _ c2 (l ++ m) _ List.length_append.symm (by omega) hr2).mono ?_; rintro e w3 ⟨rfl, hb3⟩))
  go_ret
  exact ⟨rfl, hbw2.trans (bmono hb3 hbw2.size)⟩

/-- all the intervals of the first k lists; the number of them -/
def lsAt (ls : List (List (Int × Int))) (k : Nat) : List (Int × Int) := ls.getD k []
def catTo (ls : List (List (Int × Int))) (k : Nat) : List (Int × Int) := (ls.take k).flatten
def lenTo (ls : List (List (Int × Int))) (k : Nat) : Nat := (catTo ls k).length
theorem catTo_succ {ls : List (List (Int × Int))} {k : Nat} (hk : k < ls.length) : catTo ls (k + 1) = catTo ls k ++ lsAt ls k := by
  unfold catTo
  rw [List.take_succ_eq_append_getElem hk, List.flatten_append, lsAt, List.getD_eq_getElem?_getD, List.getElem?_eq_getElem hk]; simp
theorem lenTo_succ {ls : List (List (Int × Int))} {k : Nat} (hk : k < ls.length) : lenTo ls (k + 1) = lenTo ls k + (lsAt ls k).length := by
  unfold lenTo; rw [catTo_succ hk, List.length_append]
theorem lenTo_mono {ls : List (List (Int × Int))} {k : Nat} (hk : k < ls.length) : lenTo ls k ≤ lenTo ls (k + 1) := by rw [lenTo_succ hk]; omega
theorem lenTo_le (ls : List (List (Int × Int))) : ∀ d k, k + d = ls.length → lenTo ls k ≤ lenTo ls ls.length
  | 0, k, h => by rw [show k = ls.length by omega]; exact Nat.le_refl _
  | d + 1, k, h => Nat.le_trans (lenTo_mono (by omega)) (lenTo_le ls d (k + 1) (by omega))
theorem lenTo_le' {ls : List (List (Int × Int))} {k : Nat} (h : k ≤ ls.length) : lenTo ls k ≤ lenTo ls ls.length := lenTo_le ls (ls.length - k) k (by omega)

/-- a slice of slices of intervals: the k-th is a slice that reads as ls[k] -/
def ReadsLL (w : World) (B : Nat) (b off : Nat) (ls : List (List (Int × Int))) : Prop :=
  b < B ∧ ∀ k, k < ls.length → ∃ A c, w.cell? ⟨b, off + k, none⟩ = some (.slice A (lsAt ls k).length c) ∧ Reads w B 2 A (lsAt ls k).length (encL (lsAt ls k))
theorem ReadsLL.below {w w' : World} {B b off : Nat} {ls : List (List (Int × Int))} (h : ReadsLL w B b off ls) (hb : Below B w w') : ReadsLL w' B b off ls :=
  ⟨h.1, fun k hk => by obtain ⟨A, c, h1, h2⟩ := h.2 k hk; exact ⟨A, c, (hb.cell (p := ⟨b, _, none⟩) h.1).trans h1, h2.below hb⟩⟩

set_option maxHeartbeats 1000000 in
/-- slices.Grow at the nil slice, a positive number -/
theorem grow_pos (n : Nat) (w : World) (h0 : 0 < n) (hn : n ≤ 2000) :
    Calls Try.prog 58 #[.slice none 0 0, .int .i64 n] w fun e w' => ∃ A c, e = .returned (.slice A 0 c) ∧ w'.ownsRow w.heap.size 23 2 (.slice A 0 c) 0 [] ∧ Below w.heap.size w w' := by
  obtain ⟨i0, hi0, hz0, hz1, hz2⟩ := info_parts info23
  refine (Any8.slices_Grow_grow Try.growIv i0 _ hi0 hz0 (by omega) none 0 0 n [] w (Nat.le_refl _) (by omega) (by rw [hz2]; omega) (by omega) (by simp) (fun _ => rfl) (by simp)).mono ?_
  rintro e w' ⟨rfl, rfl⟩
  have hge := grownCap_ge w (0 + n) 0 23
  have hcm : grownCap w (0 + n) 0 23 ≤ maxLen := grownCap_le_maxLen w (0 + n) 0 23 (by simp only [maxLen]; omega)
  refine ⟨_, _, rfl, World.ownsRow_made w.drew _ _ (Nat.le_refl _) hcm ?_, (Below.refl _ _).drew.alloc (by simp) _⟩
  simp only [Array.size_append, size_zeroCells]
  show 0 + (0 + n - 0) * 2 + (grownCap w (0 + n) 0 23 - (0 + n)) * 2 = grownCap w (0 + n) 0 23 * 2
  omega
theorem grow_zero (w : World) :
    Calls Try.prog 58 #[.slice none 0 0, .int .i64 0] w fun e w' => e = .returned (.slice none 0 0) ∧ w' = w :=
  Any8.slices_Grow_room Try.growIv none 0 0 0 w (Nat.le_refl _) (by omega) (by omega) (by omega)
/-- both: a row of the call's own with room, or nil -/
theorem grow_any (n : Nat) (w : World) (hn : n ≤ 2000) :
    Calls Try.prog 58 #[.slice none 0 0, .int .i64 n] w fun e w' => ∃ A c, e = .returned (.slice A 0 c) ∧ w'.ownsRow w.heap.size 23 2 (.slice A 0 c) 0 [] ∧ Below w.heap.size w w' := by
  rcases Nat.eq_zero_or_pos n with rfl | h
  · exact (grow_zero w).mono fun e w' ⟨he, hw⟩ => ⟨none, 0, he, hw ▸ World.ownsRow_nil _ _ _ _, hw ▸ Below.refl _ _⟩
  · exact grow_pos n w h hn

set_option maxHeartbeats 1000000 in
theorem concat_any (b off c : Nat) (ls : List (List (Int × Int))) (w : World) (hl : ls.length ≤ 10) (hf : lenTo ls ls.length ≤ 2000)
    (hr : ReadsLL w w.heap.size b off ls) :
    Calls Try.prog 52 #[.slice (some ⟨b, off, none⟩) ls.length c] w fun e w' => ∃ A' c', e = .returned (.slice A' (lenTo ls ls.length) c') ∧
      w'.ownsRow w.heap.size 23 2 (.slice A' (lenTo ls ls.length) c') (lenTo ls ls.length) (encL (catTo ls ls.length)) ∧ Below w.heap.size w w' := by
  obtain ⟨i0, hi0, hz0, hz1, hz2⟩ := info_parts info23
  go_enter Try.func52, Try.ntmps52
  go_wp2
  go_loopw [3, 11] (fun s i wr => ∃ k : Nat, k ≤ ls.length ∧ i = .int .i64 k ∧ s = .int .i64 (lenTo ls k) ∧ Below w.heap.size w wr) (fun _ i _ => ls.length - (intOf i).toNat)
  case atStart => exact ⟨0, Nat.zero_le _, rfl, rfl, Below.refl _ _⟩
  case round =>
    obtain ⟨k, hk, rfl, rfl, hbw⟩ := hrel
    by_cases hlt : k < ls.length
    · obtain ⟨A, c', hc, hrk⟩ := (hr.below hbw).2 k hlt
      have hle := lenTo_le' (Nat.succ_le_of_lt hlt)
      have hs := lenTo_succ hlt
      have HS := Lib.hid hs
      have hle2 : lenTo ls k + (lsAt ls k).length ≤ 2000 := by simp only [Nat.succ_eq_add_one] at hle; omega
      clear hs hle
      go_wp2
      go_roundw
      case rel => exact ⟨k + 1, by omega, by go_num, by rw [HS.out]; go_num, hbw⟩
      case measure => simp [intOf]; omega
    · obtain rfl : k = ls.length := by omega
      go_wp2_with (go_at_call 58; refine (grow_any _ _ hf).mono ?_; rintro e w1 ⟨A1, c1, rfl, hown1, hb1⟩)
      obtain ⟨wo, rfl⟩ : ∃ wo : World, wo = wr := ⟨_, rfl⟩
      have hbw1 := hbw.trans (bmono hb1 hbw.size)
      have hown1' : w1.ownsRow w.heap.size 23 2 (.slice A1 0 c1) 0 [] := own_base hown1 hbw.size
      go_loopw [6, 27] (fun v i wr => ∃ k A' c', k ≤ ls.length ∧ i = .int .i64 (k : Nat) ∧ v = .slice A' (lenTo ls k) c' ∧ wr.ownsRow w.heap.size 23 2 (.slice A' (lenTo ls k) c') (lenTo ls k) (encL (catTo ls k)) ∧ Below w.heap.size w wr) (fun _ i _ => ls.length - (intOf i).toNat)
      case atStart => exact ⟨0, A1, c1, Nat.zero_le _, rfl, rfl, hown1', hbw1⟩
      case round =>
        clear hbw hbw1 hown1 hown1'
        obtain ⟨k, A2, c2, hk, rfl, rfl, hown, hbw⟩ := hrel
        by_cases hlt : k < ls.length
        · obtain ⟨A, c', hc, hrk⟩ := (hr.below hbw).2 k hlt
          have hle := lenTo_le' (Nat.succ_le_of_lt hlt)
          have hs := lenTo_succ hlt
          have HS := Lib.hid hs
          have hle2 : lenTo ls k + (lsAt ls k).length ≤ 2000 := by simp only [Nat.succ_eq_add_one] at hle; omega
          clear hs hle
          go_wp2_with (at_builtin
                       refine wpList_append_sl rfl (.tmp 31) (.tmp 32) _ rfl w.heap.size 23 i0 _ 16 Try.underlying33 hi0 hz0 hz1 hz2 rfl (.slice A2 (lenTo ls k) c2) (lenTo ls k) (encL (catTo ls k)) rfl
                         hown w.heap.size A (lsAt ls k).length c' (encL (lsAt ls k)) rfl hrk (encL_one _) (lenTo ls (k + 1)) (encL (catTo ls (k + 1))) HS.out (by rw [catTo_succ hlt, encL_app]) (by rw [HS.out]; simp only [maxLen]; omega) (by rw [HS.out]; omega) w hbw hbw.size ?_
                       intro A3 c3 w3 hown3 hr3 hbw3 hs3)
          go_roundw
          case rel => exact ⟨k + 1, A3, c3, by omega, by go_num, rfl, hown3, hbw3⟩
          case measure => simp [intOf]; omega
        · obtain rfl : k = ls.length := by omega
          go_wp2
          go_ret
          exact ⟨A2, c2, rfl, hown, hbw⟩
end Go.Proofs.Ytnpdmohclajmjaa
