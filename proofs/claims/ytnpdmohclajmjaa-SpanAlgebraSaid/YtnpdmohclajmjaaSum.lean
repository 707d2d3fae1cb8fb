/- The walks of the checks of lists of lists, and of Sum, span's and the reference's. Lists are of at most a thousand intervals. -/
import Derived.Test.YtnpdmohclajmjaaList
namespace Go.Proofs.Ytnpdmohclajmjaa
open Go.RowKit

set_option maxHeartbeats 400000 in
theorem checkLists_any (b off c : Nat) (ls : List (List (Int × Int))) (w : World) (hl : ls.length ≤ 10) (hf : lenTo ls ls.length ≤ 2000)
    (hr : ReadsLL w w.heap.size b off ls) :
    Calls Try.prog 45 #[.slice (some ⟨b, off, none⟩) ls.length c] w fun e w' => e = .returned (.int .i64 (errOf (catTo ls ls.length))) ∧ Below w.heap.size w w' := by
  have hcc := fun W (h1 : ReadsLL W W.heap.size b off ls) => concat_any b off c ls W hl hf h1
  go_enter Try.func45, Try.ntmps45
  go_wp2
  go_loopw [7] (fun i wr => ∃ k : Nat, k ≤ ls.length ∧ i = .int .i64 k ∧ Below w.heap.size w wr) (fun i _ => ls.length - (intOf i).toNat)
  case atStart => exact ⟨0, Nat.zero_le _, rfl, Below.refl _ _⟩
  case round =>
    obtain ⟨k, hk, rfl, hbw⟩ := hrel
    by_cases hlt : k < ls.length
    · obtain ⟨A, c', hc, hrk⟩ := (hr.below hbw).2 k hlt
      have hle := lenTo_le' (Nat.succ_le_of_lt hlt)
      have hs := lenTo_succ hlt
      have hle2 : (lsAt ls k).length ≤ 2000 := by simp only [Nat.succ_eq_add_one] at hle; omega
      have hle3 : ¬ 10000 < (lsAt ls k).length := by omega
      clear hs hle
      go_wp2
      go_roundw
      case rel => exact ⟨k + 1, by omega, by go_num, hbw⟩
      case measure => simp [intOf]; omega
    · obtain rfl : k = ls.length := by omega
      have hr' : ReadsLL wr wr.heap.size b off ls := ⟨Nat.lt_of_lt_of_le hr.1 hbw.size, fun k hk => by obtain ⟨A, c, h1, h2⟩ := (hr.below hbw).2 k hk; exact ⟨A, c, h1, h2.more hbw.size⟩⟩
      go_wp2_with (first
        | (go_at_call 52; refine (hcc _ hr').mono ?_; rintro e w1 ⟨A1, c1, rfl, hown1, hb1⟩)
        | (go_at_call 40; refine (checkEach_n A1 (lenTo ls ls.length) c1 (catTo ls ls.length) _ rfl (by omega) (Reads.of_own hown1)).mono ?_; rintro e w2 ⟨rfl, hb2⟩))
      go_ret
      exact ⟨rfl, (hbw.trans (bmono hb1 hbw.size)).trans (bmono hb2 (Nat.le_trans hbw.size hb1.size))⟩

theorem readsLL_one {w : World} {A : Option Addr} {n c g : Nat} {l : List (Int × Int)} (hg : g = w.heap.size) (hn : n = l.length) (h : Reads w w.heap.size 2 A n (encL l)) :
    ReadsLL (w.alloc (.cells #[.slice A n c] 33)) (w.alloc (.cells #[.slice A n c] 33)).heap.size g 0 [l] := by
  subst hg hn
  refine ⟨by simp, fun k hk => ?_⟩
  obtain rfl : k = 0 := by simpa using hk
  exact ⟨A, c, by simp [go_sem, lsAt], (h.alloc (Nat.le_refl _) _).more (by simp)⟩
theorem catTo_one (l : List (Int × Int)) : catTo [l] 1 = l := by simp [catTo]
theorem lenTo_one (l : List (Int × Int)) : lenTo [l] 1 = l.length := by simp [lenTo, catTo]

/-- checkLists at one list -/
theorem checkLists_one (A : Option Addr) (n c g : Nat) (l : List (Int × Int)) (w : World) (hg : g = w.heap.size) (hn : n = l.length) (hl : n ≤ 1000) (h : Reads w w.heap.size 2 A n (encL l)) :
    Calls Try.prog 45 #[.slice (some ⟨g, 0, none⟩) 1 1] (w.alloc (.cells #[.slice A n c] 33)) fun e w' => e = .returned (.int .i64 (errOf l)) ∧ Below (w.alloc (.cells #[.slice A n c] 33)).heap.size (w.alloc (.cells #[.slice A n c] 33)) w' := by
  have h1 := checkLists_any g 0 1 [l] (w.alloc (.cells #[.slice A n c] 33)) (by simp) (by show lenTo [l] 1 ≤ _; rw [lenTo_one, ← hn]; omega) (readsLL_one hg hn h)
  refine h1.mono fun e w' ⟨he, hb⟩ => ⟨?_, hb⟩
  rw [he]; show Ending.returned (.int .i64 (errOf (catTo [l] 1))) = _; rw [catTo_one]

def sumLo (l : List (Int × Int)) (k : Nat) : Int := ((l.take k).map (·.1)).sum
def sumHi (l : List (Int × Int)) (k : Nat) : Int := ((l.take k).map (·.2)).sum
theorem sumLo_succ {l : List (Int × Int)} {k : Nat} (hk : k < l.length) : sumLo l (k + 1) = sumLo l k + (iv l k).1 := by
  unfold sumLo; rw [List.take_succ_eq_append_getElem hk, iv_eq hk, List.map_append, List.sum_append]; simp
theorem sumHi_succ {l : List (Int × Int)} {k : Nat} (hk : k < l.length) : sumHi l (k + 1) = sumHi l k + (iv l k).2 := by
  unfold sumHi; rw [List.take_succ_eq_append_getElem hk, iv_eq hk, List.map_append, List.sum_append]; simp
theorem sums_bd {l : List (Int × Int)} (hr : ∀ x ∈ l, inR x = true) : ∀ k, k ≤ l.length → -1000000000000 * (k : Int) ≤ sumLo l k ∧ sumLo l k ≤ 1000000000000 * (k : Int) ∧ -1000000000000 * (k : Int) ≤ sumHi l k ∧ sumHi l k ≤ 1000000000000 * (k : Int)
  | 0, _ => by simp [sumLo, sumHi]
  | k + 1, h => by
    obtain ⟨a, b, c, d⟩ := sums_bd hr k (by omega)
    have hi := (inR_iff _).1 (hr _ (iv_mem (show k < l.length by omega)))
    rw [sumLo_succ (by omega), sumHi_succ (by omega)]
    omega
theorem errOf_ok {l : List (Int × Int)} (h : errOf l = 0) : (∀ x ∈ l, inR x = true) ∧ ∀ x ∈ l, x.1 ≤ x.2 := by
  unfold errOf at h
  split at h
  · split at h
    · rename_i h1 h2
      exact ⟨List.all_eq_true.1 h1, fun x hx => by simpa using List.all_eq_true.1 h2 x hx⟩
    · cases h
  · cases h
def sumS (l : List (Int × Int)) : (Int × Int) × Int := if errOf l = 0 then bndS (sumLo l l.length, sumHi l l.length) else ((0, 0), errOf l)


theorem blk_facts {w : World} {g : Nat} {a b : Int} (h : Blk w g 23 #[.int .i64 a, .int .i64 b]) :
    w.cell? ⟨g, 0, none⟩ = some (.int .i64 a) ∧ w.cell? ⟨g, 1, none⟩ = some (.int .i64 b) ∧ w.frozen? ⟨g, 0, none⟩ = false ∧ w.frozen? ⟨g, 1, none⟩ = false :=
  ⟨by rw [h.cell 0]; rfl, by rw [h.cell 1]; rfl, h.frozen 0, h.frozen 1⟩
theorem blk_put {w : World} {g : Nat} {a b c d : Int} (h : Blk w g 23 #[.int .i64 a, .int .i64 b]) :
    Blk ((w.setCell ⟨g, 0, none⟩ (.int .i64 c)).setCell ⟨g, 1, none⟩ (.int .i64 d)) g 23 #[.int .i64 c, .int .i64 d] := by
  have := (h.set_ 0 (.int .i64 c)).set_ 1 (.int .i64 d)
  simpa using this

set_option maxHeartbeats 1000000 in
theorem sum_any (A : Option Addr) (c : Nat) (l : List (Int × Int)) (w : World) (hl : l.length ≤ 1000) (hr : Reads w w.heap.size 2 A l.length (encL l)) :
    Calls Try.prog 27 #[.slice A l.length c] w fun e w' => e = .returned (.tuple #[.agg #[.int .i64 (sumS l).1.1, .int .i64 (sumS l).1.2], .int .i64 (sumS l).2]) ∧ Below w.heap.size w w' := by
  have hck := fun W g n (hg : g = W.heap.size) (hn : n = l.length) (h1 : n ≤ 1000) (h : Reads W W.heap.size 2 A n (encL l)) => checkLists_one A n c g l W hg hn h1 h
  have hr0 : Reads (w.alloc (.cells #[.int .i64 0, .int .i64 0] 23)) (w.alloc (.cells #[.int .i64 0, .int .i64 0] 23)).heap.size 2 A l.length (encL l) := (hr.alloc (Nat.le_refl _) _).more (by simp)
  by_cases h0 : errOf l = 0
  · have hok := errOf_ok h0
    have hbd := sums_bd hok.1
    have HBD := Lib.hid hbd; clear hbd hok
    rw [show sumS l = bndS (sumLo l l.length, sumHi l l.length) by unfold sumS; rw [if_pos h0]]
    rw [h0] at hck
    clear h0
    go_enter Try.func27, Try.ntmps27
    go_wp2_with (go_at_call 45; refine (hck _ _ _ (by simp) rfl hl hr0).mono ?_; rintro e w1 ⟨rfl, hb1⟩)
    have hB1 := (((Below.refl w.heap.size w).alloc (Nat.le_refl _) _).alloc (by simp <;> omega) _).trans (bmono hb1 (by simp <;> omega))
    have hz1 : w.heap.size + 1 < w1.heap.size := by have := hb1.size; simp at this; omega
    obtain ⟨g, hg⟩ : ∃ g, g = w1.heap.size := ⟨_, rfl⟩
    have hblk : Blk (w1.alloc (.cells #[.int .i64 0, .int .i64 0] 23)) g 23 #[.int .i64 0, .int .i64 0] := by rw [hg]; exact Blk.new w1 23 _
    rw [← hg]
    have hgw : w.heap.size + 1 < g := by omega
    have hB2 := hB1.alloc (by omega) (.cells #[.int .i64 0, .int .i64 0] 23)
    have hb0 : Blk (w1.alloc (.cells #[.int .i64 0, .int .i64 0] 23)) w.heap.size 23 #[.int .i64 0, .int .i64 0] :=
      (((Blk.new w 23 #[.int .i64 0, .int .i64 0]).alloc _).below hb1 (by simp <;> omega)).alloc _
    have HG := Lib.hid hg; clear hg
    go_loopw [17] (fun i wr => ∃ k : Nat, k ≤ l.length ∧ i = .int .i64 k ∧ Blk wr g 23 #[.int .i64 (sumLo l k), .int .i64 (sumHi l k)] ∧ Blk wr w.heap.size 23 #[.int .i64 0, .int .i64 0] ∧ Below w.heap.size w wr) (fun i _ => l.length - (intOf i).toNat)
    case atStart => exact ⟨0, Nat.zero_le _, rfl, hblk, hb0, hB2⟩
    case round =>
      clear hblk hb0 hB2 hB1 hb1 hz1
      obtain ⟨k, hk, rfl, hblk, hb0, hbw⟩ := hrel
      obtain ⟨bd1, bd2, bd3, bd4⟩ := HBD.out k hk
      have hgl := hblk.lt
      by_cases hlt : k < l.length
      · obtain ⟨ad, rfl, hb, c1, c2⟩ := (hr.below hbw).iv rfl hlt
        obtain ⟨f1, f2, f3, f4⟩ := blk_facts hblk
        obtain ⟨be1, be2, be3, be4⟩ := HBD.out (k + 1) hlt
        have HS1 := Lib.hid (sumLo_succ hlt)
        have HS2 := Lib.hid (sumHi_succ hlt)
        rw [HS1.out] at be1 be2
        rw [HS2.out] at be3 be4
        go_wp2
        go_roundw
        case rel =>
          refine ⟨k + 1, by omega, by go_num, ?_, ((hb0.far (p := ⟨g, 0, none⟩) (by show w.heap.size ≠ g; omega) _).far (p := ⟨g, 1, none⟩) (by show w.heap.size ≠ g; omega) _).alloc _, ((hbw.setCell (p := ⟨g, 0, none⟩) (by show w.heap.size ≤ g; omega) _).setCell (p := ⟨g, 1, none⟩) (by show w.heap.size ≤ g; omega) _).alloc (by simp [World.setCell]; exact hbw.size) _⟩
          rw [HS1.out, HS2.out]
          exact (blk_put hblk).alloc _
        case measure => simp [intOf]; omega
      · obtain rfl : k = l.length := by omega
        obtain ⟨f1, f2, f3, f4⟩ := blk_facts hblk
        go_wp2_with (go_at_call 42; refine (bounded_any (sumLo l l.length, sumHi l l.length) _).mono ?_; rintro e w2 ⟨rfl, hb3⟩; obtain ⟨e1, e2, e3, e4⟩ := blk_facts (hb0.below hb3 hb0.lt))
        exact bodyPost_ret (v := .tuple #[.agg #[.int .i64 (bndS (sumLo l l.length, sumHi l l.length)).1.1, .int .i64 (bndS (sumLo l l.length, sumHi l l.length)).1.2], .int .i64 (bndS (sumLo l l.length, sumHi l l.length)).2]) (by simp [results, Try.results27, go_sem, e1, e2]) rfl ⟨rfl, ((hbw.trans (bmono hb3 hbw.size)).setCell (by simp) _).setCell (by simp) _⟩
  · have hne : (errOf l == 0) = false := by simpa using h0
    have hne' : (errOf l != 0) = true := by simpa using h0
    rw [show sumS l = ((0, 0), errOf l) by unfold sumS; rw [if_neg h0]]
    generalize errOf l = cc at hck hne hne' h0
    go_enter Try.func27, Try.ntmps27
    go_wp2_with (go_at_call 45; refine (hck _ _ _ (by simp) rfl hl hr0).mono ?_; rintro e w1 ⟨rfl, hb1⟩; obtain ⟨hc, hf⟩ := bcell hb1)
    have hB := (((Below.refl w.heap.size w).alloc (Nat.le_refl _) _).alloc (by simp <;> omega) _).trans (bmono hb1 (by simp <;> omega))
    obtain ⟨k1, k2, _, _⟩ := blk_facts (((Blk.new w 23 #[.int .i64 0, .int .i64 0]).alloc (.cells #[.slice A l.length c] 33)).below hb1 (by simp <;> omega))
    exact bodyPost_ret (v := .tuple #[.agg #[.int .i64 0, .int .i64 0], .int .i64 cc]) (by simp [results, Try.results27, go_sem, k1, k2]) rfl ⟨rfl, (hB.setCell (by simp <;> omega) _).setCell (by simp <;> omega) _⟩


theorem lists_nil (A : Option Addr) (n c : Nat) (l : List (Int × Int)) (w : World) (hn : n = l.length) (hl : n ≤ 1000) (ha : Reads w w.heap.size 2 A n (encL l)) :
    Calls Try.prog 29 #[.slice A n c, .slice none 0 0] w fun e w' => e = .returned (.int .i64 (errOf l)) ∧ Below w.heap.size w w' := by
  subst hn
  have h := lists_any A none c 0 l [] w hl (by simp) ha Reads.none_
  simpa using h

set_option maxHeartbeats 1000000 in
theorem refSum_any (A : Option Addr) (n c : Nat) (l : List (Int × Int)) (w : World) (hn : n = l.length) (hl : n ≤ 1000) (hr : Reads w w.heap.size 2 A n (encL l)) :
    Calls Try.prog 28 #[.slice A n c] w fun e w' => e = .returned (.tuple #[.agg #[.int .i64 (sumS l).1.1, .int .i64 (sumS l).1.2], .int .i64 (sumS l).2]) ∧ Below w.heap.size w w' := by
  subst hn
  have hck := fun W n (hn : n = l.length) (h1 : n ≤ 1000) (h : Reads W W.heap.size 2 A n (encL l)) => lists_nil A n c l W hn h1 h
  have hr0 : Reads (w.alloc (.cells #[.int .i64 0, .int .i64 0] 23)) (w.alloc (.cells #[.int .i64 0, .int .i64 0] 23)).heap.size 2 A l.length (encL l) := (hr.alloc (Nat.le_refl _) _).more (by simp)
  by_cases h0 : errOf l = 0
  · have hok := errOf_ok h0
    have hbd := sums_bd hok.1
    have HBD := Lib.hid hbd; clear hbd hok
    rw [show sumS l = bndS (sumLo l l.length, sumHi l l.length) by unfold sumS; rw [if_pos h0]]
    rw [h0] at hck
    clear h0
    go_enter Try.func28, Try.ntmps28
    go_wp2_with (go_at_call 29; refine (hck _ _ rfl hl hr0).mono ?_; rintro e w1 ⟨rfl, hb1⟩)
    have hB1 := ((Below.refl w.heap.size w).alloc (Nat.le_refl _) _).trans (bmono hb1 (by simp <;> omega))
    have hz1 : w.heap.size < w1.heap.size := by have := hb1.size; simp at this; omega
    obtain ⟨g, hg⟩ : ∃ g, g = w1.heap.size := ⟨_, rfl⟩
    have hblk : Blk (w1.alloc (.cells #[.int .i64 0, .int .i64 0] 23)) g 23 #[.int .i64 0, .int .i64 0] := by rw [hg]; exact Blk.new w1 23 _
    rw [← hg]
    have hgw : w.heap.size < g := by omega
    have hB2 := hB1.alloc (by omega) (.cells #[.int .i64 0, .int .i64 0] 23)
    have hb0 : Blk (w1.alloc (.cells #[.int .i64 0, .int .i64 0] 23)) w.heap.size 23 #[.int .i64 0, .int .i64 0] :=
      ((Blk.new w 23 #[.int .i64 0, .int .i64 0]).below hb1 (by simp <;> omega)).alloc _
    have HG := Lib.hid hg; clear hg
    go_loopw [6] (fun i wr => ∃ k : Nat, k ≤ l.length ∧ i = .int .i64 k ∧ Blk wr g 23 #[.int .i64 (sumLo l k), .int .i64 (sumHi l k)] ∧ Blk wr w.heap.size 23 #[.int .i64 0, .int .i64 0] ∧ Below w.heap.size w wr) (fun i _ => l.length - (intOf i).toNat)
    case atStart => exact ⟨0, Nat.zero_le _, rfl, hblk, hb0, hB2⟩
    case round =>
      clear hblk hb0 hB2 hB1 hb1 hz1
      obtain ⟨k, hk, rfl, hblk, hb0, hbw⟩ := hrel
      obtain ⟨bd1, bd2, bd3, bd4⟩ := HBD.out k hk
      have hgl := hblk.lt
      by_cases hlt : k < l.length
      · obtain ⟨ad, rfl, hb, c1, c2⟩ := (hr.below hbw).iv rfl hlt
        obtain ⟨f1, f2, f3, f4⟩ := blk_facts hblk
        obtain ⟨be1, be2, be3, be4⟩ := HBD.out (k + 1) hlt
        have HS1 := Lib.hid (sumLo_succ hlt)
        have HS2 := Lib.hid (sumHi_succ hlt)
        rw [HS1.out] at be1 be2
        rw [HS2.out] at be3 be4
        go_wp2
        go_region
        go_wp2
        go_region
        go_wp2
        go_roundw
        case rel =>
          refine ⟨k + 1, by omega, by go_num, ?_, ((((hb0.far (p := ⟨g, 0, none⟩) (by show w.heap.size ≠ g; omega) _).far (p := ⟨g, 1, none⟩) (by show w.heap.size ≠ g; omega) _).drew).drew), ((((hbw.setCell (p := ⟨g, 0, none⟩) (by show w.heap.size ≤ g; omega) _).setCell (p := ⟨g, 1, none⟩) (by show w.heap.size ≤ g; omega) _).drew).drew)⟩
          rw [HS1.out, HS2.out]
          exact (blk_put hblk).drew.drew
        case measure => simp [intOf]; omega
      · obtain rfl : k = l.length := by omega
        obtain ⟨f1, f2, f3, f4⟩ := blk_facts hblk
        go_wp2_with (go_at_call 44; refine (result_any (sumLo l l.length, sumHi l l.length) _).mono ?_; rintro e w2 ⟨rfl, hb3⟩; obtain ⟨e1, e2, e3, e4⟩ := blk_facts (hb0.below hb3 hb0.lt))
        exact bodyPost_ret (v := .tuple #[.agg #[.int .i64 (bndS (sumLo l l.length, sumHi l l.length)).1.1, .int .i64 (bndS (sumLo l l.length, sumHi l l.length)).1.2], .int .i64 (bndS (sumLo l l.length, sumHi l l.length)).2]) (by simp [results, Try.results28, go_sem, e1, e2]) rfl ⟨rfl, ((hbw.trans (bmono hb3 hbw.size)).setCell (by simp) _).setCell (by simp) _⟩
  · have hne : (errOf l == 0) = false := by simpa using h0
    have hne' : (errOf l != 0) = true := by simpa using h0
    rw [show sumS l = ((0, 0), errOf l) by unfold sumS; rw [if_neg h0]]
    generalize errOf l = cc at hck hne hne' h0
    go_enter Try.func28, Try.ntmps28
    go_wp2_with (go_at_call 29; refine (hck _ _ rfl hl hr0).mono ?_; rintro e w1 ⟨rfl, hb1⟩; obtain ⟨hc, hf⟩ := bcell hb1)
    have hB := ((Below.refl w.heap.size w).alloc (Nat.le_refl _) _).trans (bmono hb1 (by simp <;> omega))
    obtain ⟨k1, k2, _, _⟩ := blk_facts ((Blk.new w 23 #[.int .i64 0, .int .i64 0]).below hb1 (by simp <;> omega))
    exact bodyPost_ret (v := .tuple #[.agg #[.int .i64 0, .int .i64 0], .int .i64 cc]) (by simp [results, Try.results28, go_sem, k1, k2]) rfl ⟨rfl, (hB.setCell (by simp <;> omega) _).setCell (by simp <;> omega) _⟩

theorem sumS_two (x y : Int × Int) : sumS [x, y] = addS x y := by
  unfold sumS addS
  simp [sumLo, sumHi]

set_option maxHeartbeats 400000 in
theorem refAdd_any (x y : Int × Int) (w : World) :
    Calls Try.prog 23 #[.agg #[.int .i64 x.1, .int .i64 x.2], .agg #[.int .i64 y.1, .int .i64 y.2]] w fun e w' => e = .returned (.tuple #[.agg #[.int .i64 (addS x y).1.1, .int .i64 (addS x y).1.2], .int .i64 (addS x y).2]) ∧ Below w.heap.size w w' := by
  have hck := fun A n cap W (hn : n = [x, y].length) (h : Reads W W.heap.size 2 A n (encL [x, y])) => refSum_any A n cap [x, y] W hn (by rw [hn]; simp) h
  rw [sumS_two] at hck
  generalize addS x y = r at hck ⊢
  go_enter Try.func23, Try.ntmps23
  go_wp2_with (go_at_call 28; refine (hck _ _ _ _ rfl (reads_new (by simp) rfl)).mono ?_; rintro e w1 ⟨rfl, hb1⟩; obtain ⟨hc, hf⟩ := bcell hb1)
  have hB := (((((Below.refl w.heap.size w).alloc (Nat.le_refl _) _).alloc (by simp <;> omega) _).alloc (by simp <;> omega) _).alloc (by simp <;> omega) _).trans (bmono hb1 (by simp <;> omega))
  exact bodyPost_ret (v := .tuple #[.agg #[.int .i64 r.1.1, .int .i64 r.1.2], .int .i64 r.2]) (by simp [results, Try.results23, go_sem, hc]) rfl ⟨rfl, (hB.setCell (by simp <;> omega) _).setCell (by simp <;> omega) _⟩

end Go.Proofs.Ytnpdmohclajmjaa
