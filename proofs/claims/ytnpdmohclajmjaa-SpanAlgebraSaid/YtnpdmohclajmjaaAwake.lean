/- The walks of Normalize, Count, Same and of the law's own examples (awake). Lists are of at most a thousand intervals. -/
import Derived.Test.YtnpdmohclajmjaaNormal
namespace Go.Proofs.Ytnpdmohclajmjaa
open Go.RowKit

/-- normal at one list -/
theorem normal_one (A : Option Addr) (n c g : Nat) (l : List (Int × Int)) (w : World) (hg : g = w.heap.size) (hn : n = l.length) (hl : n ≤ 1000) (h : Reads w w.heap.size 2 A n (encL l)) (h0 : errOf l = 0) :
    Calls Try.prog 46 #[.slice (some ⟨g, 0, none⟩) 1 1] (w.alloc (.cells #[.slice A n c] 33)) fun e w' => ∃ A' N' c' R, e = .returned (.slice A' N' c') ∧ N' = R.length ∧ N' ≤ n ∧ N' ≤ c' ∧
      Reads w' w'.heap.size 2 A' N' (encL R) ∧ NF R ∧ (∀ n, Mem n R ↔ Mem n l) ∧ Below (w.alloc (.cells #[.slice A n c] 33)).heap.size (w.alloc (.cells #[.slice A n c] 33)) w' := by
  have h1 := normal_x g 0 1 [l] (w.alloc (.cells #[.slice A n c] 33)) (by simp) (by show lenTo [l] 1 ≤ _; rw [lenTo_one, ← hn]; omega) (readsLL_one hg hn h) (by show errOf (catTo [l] 1) = 0; rw [catTo_one]; exact h0)
  refine h1.mono fun e w' ⟨A', N', c', R, he, hN, hle, hcp, hr, hnf, hm, hb⟩ => ⟨A', N', c', R, he, hN, ?_, hcp, hr, hnf, ?_, hb⟩
  · have : N' ≤ lenTo [l] 1 := hle
    rw [lenTo_one, ← hn] at this; exact this
  · have hm' : ∀ n, Mem n R ↔ Mem n (catTo [l] 1) := hm
    rwa [catTo_one] at hm'

set_option maxHeartbeats 400000 in
/-- Normalize of a valid list -/
theorem normalize_ok (A : Option Addr) (n c : Nat) (l : List (Int × Int)) (w : World) (hn : n = l.length) (hl : n ≤ 1000) (h : Reads w w.heap.size 2 A n (encL l)) (h0 : errOf l = 0) :
    Calls Try.prog 30 #[.slice A n c] w fun e w' => ∃ A' N' c' R, e = .returned (.tuple #[.slice A' N' c', .int .i64 0]) ∧ N' = R.length ∧ N' ≤ n ∧
      Reads w' w'.heap.size 2 A' N' (encL R) ∧ NF R ∧ (∀ n, Mem n R ↔ Mem n l) ∧ Below w.heap.size w w' := by
  have hck := fun W g (hg : g = W.heap.size) (h : Reads W W.heap.size 2 A n (encL l)) => checkLists_one A n c g l W hg hn hl h
  have hno := fun W g (hg : g = W.heap.size) (h : Reads W W.heap.size 2 A n (encL l)) => normal_one A n c g l W hg hn hl h h0
  rw [h0] at hck
  have HN := Lib.hid hn; clear hn
  go_enter Try.func30, Try.ntmps30
  go_wp2_with (first
    | (go_at_call 45; refine (hck _ _ (by simp) h).mono ?_; rintro e w1 ⟨rfl, hb1⟩; have hbw1 : Below w.heap.size w w1 := ((Below.refl _ _).alloc (Nat.le_refl _) _).trans (bmono hb1 (by simp)); have hr1 : Reads w1 w1.heap.size 2 A n (encL l) := (h.below hbw1).more hbw1.size)
    | (go_at_call 46; refine (hno _ _ (by simp) hr1).mono ?_; rintro e w2 ⟨A', N', c', R, rfl, hN, hle, hcp, hr, hnf, hm, hb2⟩; have HNR := Lib.hid hN; clear hN))
  go_ret2
  exact ⟨A', N', c', R, rfl, HNR.out, hle, hr, hnf, hm, (hbw1.alloc hbw1.size _).trans (bmono hb2 (by simp; have := hbw1.size; omega))⟩

set_option maxHeartbeats 400000 in
/-- Normalize of a list that is not valid -/
theorem normalize_bad (A : Option Addr) (n c : Nat) (l : List (Int × Int)) (w : World) (hn : n = l.length) (hl : n ≤ 1000) (h : Reads w w.heap.size 2 A n (encL l)) (h0 : ¬ errOf l = 0) :
    Calls Try.prog 30 #[.slice A n c] w fun e w' => e = .returned (.tuple #[.slice none 0 0, .int .i64 (errOf l)]) ∧ Below w.heap.size w w' := by
  have hck := fun W g (hg : g = W.heap.size) (h : Reads W W.heap.size 2 A n (encL l)) => checkLists_one A n c g l W hg hn hl h
  have hne : (errOf l == 0) = false := by simpa using h0
  have hne' : (errOf l != 0) = true := by simpa using h0
  generalize errOf l = cc at hck hne hne' h0 ⊢
  have HN := Lib.hid hn; clear hn
  go_enter Try.func30, Try.ntmps30
  go_wp2_with (go_at_call 45; refine (hck _ _ (by simp) h).mono ?_; rintro e w1 ⟨rfl, hb1⟩)
  go_ret2
  exact ⟨rfl, ((Below.refl _ _).alloc (Nat.le_refl _) _).trans (bmono hb1 (by simp))⟩

def cntTo (l : List (Int × Int)) (k : Nat) : Int := ((l.take k).map (fun x => x.2 - x.1 + 1)).sum
theorem cntTo_succ {l : List (Int × Int)} {k : Nat} (hk : k < l.length) : cntTo l (k + 1) = cntTo l k + ((iv l k).2 - (iv l k).1 + 1) := by
  unfold cntTo; rw [List.take_succ_eq_append_getElem hk, iv_eq hk, List.map_append, List.sum_append]; simp
theorem nf_bound {R L : List (Int × Int)} (hn : NF R) (hm : ∀ n, Mem n R ↔ Mem n L) (hr : ∀ x ∈ L, inR x = true) : ∀ x ∈ R, -1000000000000 ≤ x.1 ∧ x.1 ≤ x.2 ∧ x.2 ≤ 1000000000000 := by
  intro x hx
  have hh : x.1 ≤ x.2 := by
    clear hm hr
    induction R with
    | nil => cases hx
    | cons y r ih =>
      rcases List.mem_cons.1 hx with rfl | h
      · exact hn.head
      · exact ih hn.tail h
  obtain ⟨y, hy, h1, h2⟩ := (hm x.1).1 ⟨x, hx, Int.le_refl _, hh⟩
  obtain ⟨z, hz, h3, h4⟩ := (hm x.2).1 ⟨x, hx, hh, Int.le_refl _⟩
  have := (inR_iff _).1 (hr y hy)
  have := (inR_iff _).1 (hr z hz)
  omega
theorem cnt_bd {R : List (Int × Int)} (hr : ∀ x ∈ R, -1000000000000 ≤ x.1 ∧ x.1 ≤ x.2 ∧ x.2 ≤ 1000000000000) : ∀ k, k ≤ R.length → 0 ≤ cntTo R k ∧ cntTo R k ≤ 3000000000000 * (k : Int)
  | 0, _ => by simp [cntTo]
  | k + 1, h => by
    obtain ⟨a, b⟩ := cnt_bd hr k (by omega)
    have := hr _ (iv_mem (show k < R.length by omega))
    rw [cntTo_succ (by omega)]
    omega

set_option maxHeartbeats 1000000 in
/-- Count of a valid list -/
theorem count_ok (A : Option Addr) (n c : Nat) (l : List (Int × Int)) (w : World) (hn : n = l.length) (hl : n ≤ 1000) (h : Reads w w.heap.size 2 A n (encL l)) (h0 : errOf l = 0) :
    Calls Try.prog 34 #[.slice A n c] w fun e w' => ∃ R, e = .returned (.tuple #[.int .i64 (cntTo R R.length), .int .i64 0]) ∧ NF R ∧ (∀ n, Mem n R ↔ Mem n l) ∧ R.length ≤ n ∧ Below w.heap.size w w' := by
  have hck := fun W g (hg : g = W.heap.size) (h : Reads W W.heap.size 2 A n (encL l)) => checkLists_one A n c g l W hg hn hl h
  have hno := fun W g (hg : g = W.heap.size) (h : Reads W W.heap.size 2 A n (encL l)) => normal_one A n c g l W hg hn hl h h0
  have OK := Lib.hid (errOf_ok h0)
  rw [h0] at hck
  clear h0
  have HN := Lib.hid hn; clear hn
  go_enter Try.func34, Try.ntmps34
  go_wp2_with (first
    | (go_at_call 45; refine (hck _ _ (by simp) h).mono ?_; rintro e w1 ⟨rfl, hb1⟩; have hbw1 : Below w.heap.size w w1 := ((Below.refl _ _).alloc (Nat.le_refl _) _).trans (bmono hb1 (by simp)); have hr1 : Reads w1 w1.heap.size 2 A n (encL l) := (h.below hbw1).more hbw1.size)
    | (go_at_call 46; refine (hno _ _ (by simp) hr1).mono ?_; rintro e w2 ⟨A', N', c', R, rfl, hN, hle, hcp, hr, hnf, hm, hb2⟩; have HNR := Lib.hid hN; clear hN))
  have hbw2 := (hbw1.alloc hbw1.size (.cells #[.slice A n c] 33)).trans (bmono hb2 (by simp; have := hbw1.size; omega))
  have hcb := cnt_bd (nf_bound hnf hm OK.out.1)
  have hib := nf_bound hnf hm OK.out.1
  have HCB := Lib.hid hcb; have HIB := Lib.hid hib; clear hcb hib
  have HM := Lib.hid hm; clear hm
  go_loopw [5, 18] (fun s i wr => ∃ k : Nat, k ≤ N' ∧ i = .int .i64 k ∧ s = .int .i64 (cntTo R k) ∧ Below w2.heap.size w2 wr) (fun _ i _ => N' - (intOf i).toNat)
  case atStart => exact ⟨0, Nat.zero_le _, rfl, rfl, Below.refl _ _⟩
  case round =>
    obtain ⟨k, hk, rfl, rfl, hbw⟩ := hrel
    have hkR : k ≤ R.length := by rw [← HNR.out]; exact hk
    obtain ⟨cb1, cb2⟩ := HCB.out k hkR
    by_cases hlt : k < N'
    · have hltR : k < R.length := by rw [← HNR.out]; exact hlt
      obtain ⟨ad, rfl, hb, d1, d2⟩ := (hr.below hbw).iv HNR.out hltR
      obtain ⟨ib1, ib2, ib3⟩ := HIB.out _ (iv_mem hltR)
      have HS := Lib.hid (cntTo_succ hltR)
      generalize iv R k = x at d1 d2 ib1 ib2 ib3 HS
      go_wp2
      go_roundw
      case rel => exact ⟨k + 1, by omega, by go_num, by rw [HS.out], hbw.alloc hbw.size _⟩
      case measure => simp [intOf]; omega
    · obtain rfl : k = N' := by omega
      go_wp2
      go_ret2
      exact ⟨R, by rw [← HNR.out]; rfl, hnf, HM.out, (by have := HNR.out; omega), hbw2.trans (bmono hbw hbw2.size)⟩

set_option maxHeartbeats 1000000 in
theorem same_any (A B : Option Addr) (n m c d : Nat) (l s : List (Int × Int)) (w : World) (hn : n = l.length) (hm : m = s.length) (hl : n ≤ 100000) (hs : m ≤ 100000)
    (ha : Reads w w.heap.size 2 A n (encL l)) (hb : Reads w w.heap.size 2 B m (encL s)) :
    Calls Try.prog 36 #[.slice A n c, .slice B m d] w fun e w' => e = .returned (.bool (decide (l = s))) ∧ ∃ q, w' = w.drewN q := by
  by_cases hnm : n = m
  · subst hnm
    have hls : l.length = s.length := by rw [← hn, hm]
    have HN := Lib.hid hn; have HMM := Lib.hid hm; clear hn hm
    go_enter Try.func36, Try.ntmps36
    go_wp2
    go_loopw [5] (fun i wr => ∃ k q : Nat, k ≤ n ∧ i = .int .i64 k ∧ (∀ j, j < k → iv l j = iv s j) ∧ wr = w.drewN q) (fun i _ => n - (intOf i).toNat)
    case atStart => exact ⟨0, 0, Nat.zero_le _, rfl, fun j hj => absurd hj (Nat.not_lt_zero _), rfl⟩
    case round =>
      obtain ⟨k, q, hk, rfl, hj, rfl⟩ := hrel
      have HJ : Hid (∀ j, j < k → iv l j = iv s j) := Lib.hid hj
      clear hj
      by_cases hlt : k < n
      · have hlt1 : k < l.length := by rw [← HN.out]; exact hlt
        have hlt2 : k < s.length := by rw [← HMM.out]; exact hlt
        obtain ⟨a1, rfl, _, c1, c2⟩ := ha.iv HN.out hlt1
        obtain ⟨a2, rfl, _, c3, c4⟩ := hb.iv HMM.out hlt2
        have hneq : ∀ W, Sem.run Try.prog (binOp .neq 23 (.agg #[.int .i64 (iv l k).1, .int .i64 (iv l k).2]) (.agg #[.int .i64 (iv s k).1, .int .i64 (iv s k).2])) W = .ok (.bool (decide (iv l k ≠ iv s k))) W := by
          intro W
          have e := eqIv (iv l k) (iv s k) W
          rw [run_eql_struct] at e
          rw [run_neq_struct]
          generalize Sem.run Try.prog (Op.equalIn 10000 23 (.agg #[.int .i64 (iv l k).1, .int .i64 (iv l k).2]) (.agg #[.int .i64 (iv s k).1, .int .i64 (iv s k).2])) W = r at e ⊢
          cases r with
          | ok b w1 =>
            simp only [Result.andThen_ok, Result.ok.injEq, Value.bool.injEq] at e ⊢
            refine ⟨?_, e.2⟩
            rw [e.1]
            have : (iv l k = iv s k) ↔ ((iv l k).1 = (iv s k).1 ∧ (iv l k).2 = (iv s k).2) := Prod.ext_iff
            by_cases h1 : (iv l k).1 = (iv s k).1 <;> by_cases h2 : (iv l k).2 = (iv s k).2 <;> simp [this, h1, h2]
          | halt h w1 => cases e
        by_cases hq : iv l k = iv s k
        · have HQ := Lib.hid hq
          have hneq2 : ∀ W, Sem.run Try.prog (binOp .neq 23 (.agg #[.int .i64 (iv l k).1, .int .i64 (iv l k).2]) (.agg #[.int .i64 (iv s k).1, .int .i64 (iv s k).2])) W = .ok (.bool false) W := fun W => by rw [hneq W]; simp [hq]
          clear hneq hq
          go_wp2
          go_quiet (fail)
          go_wp2
          go_roundw
          case rel => exact ⟨k + 1, q + nq, by omega, by go_num, fun j hj => by rcases Nat.lt_succ_iff_lt_or_eq.1 hj with h | h; exact HJ.out j h; rw [h]; exact HQ.out, rfl⟩
          case measure => simp [intOf]; omega
        · have hls2 : ¬ l = s := fun h => hq (by rw [h])
          have hneq2 : ∀ W, Sem.run Try.prog (binOp .neq 23 (.agg #[.int .i64 (iv l k).1, .int .i64 (iv l k).2]) (.agg #[.int .i64 (iv s k).1, .int .i64 (iv s k).2])) W = .ok (.bool true) W := fun W => by rw [hneq W]; simp [hq]
          clear hneq hq
          go_wp2
          go_quiet (fail)
          go_wp2
          go_ret
          exact ⟨ret_bool (by simp [hls2]), q + nq, by rw [World.drewN_drewN]⟩
      · obtain rfl : k = n := by omega
        go_wp2
        go_ret
        have : l = s := List.ext_getElem hls fun i h1 h2 => by
          have := HJ.out i (by rw [HN.out]; exact h1)
          rwa [iv_eq h1, iv_eq h2] at this
        exact ⟨ret_bool (by simp [this]), q, rfl⟩
  · have hls : ¬ l = s := fun h => hnm (by rw [hn, hm, h])
    have hnI : ¬ (n : Int) = (m : Int) := by omega
    have hne : ((n : Int) == (m : Int)) = false := by simpa using hnI
    have hne' : ((n : Int) != (m : Int)) = true := by simpa using hnI
    have HN := Lib.hid hn; have HMM := Lib.hid hm; clear hn hm
    go_enter Try.func36, Try.ntmps36
    go_wp2
    go_ret
    exact ⟨ret_bool (by simp [hls]), 0, rfl⟩

/-- what Normalize gives for the example of the chapter -/
theorem norm_example {R : List (Int × Int)} (hn : NF R) (hm : ∀ n, Mem n R ↔ Mem n [(5, 7), (1, 2), (3, 3)]) : R = [(1, 3), (5, 7)] := by
  refine NF.unique hn (by simp [NF]) fun n => ?_
  rw [hm]
  simp only [Mem, List.mem_cons, List.not_mem_nil, or_false, exists_eq_or_imp, exists_eq_left]
  omega
theorem count_example {R : List (Int × Int)} (hn : NF R) (hm : ∀ n, Mem n R ↔ Mem n [(1, 5), (4, 9)]) : R = [(1, 9)] := by
  refine NF.unique hn (by simp [NF]) fun n => ?_
  rw [hm]
  simp only [Mem, List.mem_cons, List.not_mem_nil, or_false, exists_eq_or_imp, exists_eq_left]
  omega
theorem add_example : addS (1, 3) (10, 20) = ((11, 23), 0) := by decide
theorem err_ex1 : errOf [(5, 7), (1, 2), (3, 3)] = 0 := by decide
theorem err_ex2 : errOf [(1, 5), (4, 9)] = 0 := by decide

theorem cnt_example : cntTo [(1, 9)] 1 = 9 := by decide
theorem same_example (A : Option Addr) (c : Nat) (g : Nat) (w : World) (hg : g = w.heap.size) (ha : Reads w w.heap.size 2 A 2 (encL [(1, 3), (5, 7)])) :
    Calls Try.prog 36 #[.slice A 2 c, .slice (some ⟨g, 0, none⟩) 2 2] (w.alloc (.cells #[.int .i64 1, .int .i64 3, .int .i64 5, .int .i64 7] 23)) fun e w' => e = .returned (.bool true) ∧ Below w.heap.size w w' := by
  refine (same_any A (some ⟨g, 0, none⟩) 2 2 c 2 [(1, 3), (5, 7)] [(1, 3), (5, 7)] _ rfl rfl (by omega) (by omega) ((ha.alloc (Nat.le_refl _) _).more (by simp)) (reads_new (l := [(1, 3), (5, 7)]) hg rfl)).mono ?_
  rintro e w' ⟨he, q, rfl⟩
  exact ⟨he.trans (ret_bool (by simp)), below_drewN ((Below.refl _ _).alloc (Nat.le_refl _) _) _⟩

set_option maxHeartbeats 2000000 in
theorem awake_any (w : World) : Calls Try.prog 10 #[] w fun e w' => e = .returned (.bool true) ∧ Below w.heap.size w w' := by
  have hadd := fun W => add_any (1, 3) (10, 20) W
  rw [add_example] at hadd
  have hnorm := fun A n c W (hn : n = 3) (h : Reads W W.heap.size 2 A n (encL [(5, 7), (1, 2), (3, 3)])) =>
    (normalize_ok A n c [(5, 7), (1, 2), (3, 3)] W hn (by omega) h err_ex1).mono (R' := fun e w' => ∃ A' c', e = .returned (.tuple #[.slice A' 2 c', .int .i64 0]) ∧ Reads w' w'.heap.size 2 A' 2 (encL [(1, 3), (5, 7)]) ∧ Below W.heap.size W w')
      fun e w' ⟨A', N', c', R, he, hN, hle, hr, hnf, hm, hb⟩ => by
        have hR := norm_example hnf hm
        subst hR
        have hN2 : N' = 2 := hN
        subst hN2
        exact ⟨A', c', he, hr, hb⟩
  have hcnt := fun A n c W (hn : n = 2) (h : Reads W W.heap.size 2 A n (encL [(1, 5), (4, 9)])) =>
    (count_ok A n c [(1, 5), (4, 9)] W hn (by omega) h err_ex2).mono (R' := fun e w' => e = .returned (.tuple #[.int .i64 9, .int .i64 0]) ∧ Below W.heap.size W w')
      fun e w' ⟨R, he, hnf, hm, _, hb⟩ => by
        have hR := count_example hnf hm
        subst hR
        have : cntTo [(1, 9)] [((1 : Int), (9 : Int))].length = 9 := cnt_example
        rw [this] at he
        exact ⟨he, hb⟩
  go_enter Try.func10, Try.ntmps10
  go_wp2_with (first
    | (go_at_call 19; refine (hadd _).mono ?_; rintro e w1 ⟨rfl, hb1⟩)
    | (go_at_call 30; refine (hnorm _ _ _ _ rfl (reads_new (l := [(5, 7), (1, 2), (3, 3)]) (by simp) rfl)).mono ?_; rintro e w2 ⟨A2, c2, rfl, hr2, hb2⟩
       have hk2 : Blk w2 w1.heap.size 23 #[.int .i64 11, .int .i64 23] := ((Blk.new w1 23 #[.int .i64 11, .int .i64 23]).alloc _).below hb2 (by simp <;> omega)
       have hz2 : w1.heap.size < w2.heap.size := hk2.lt
       have hB2 : Below w.heap.size w w2 := ((hb1.alloc hb1.size _).alloc (by simp <;> have := hb1.size <;> omega) _).trans (bmono hb2 (by simp <;> have := hb1.size <;> omega)))
    | (go_at_call 34; refine (hcnt _ _ _ _ rfl (reads_new (l := [(1, 5), (4, 9)]) (by simp) rfl)).mono ?_; rintro e w3 ⟨rfl, hb3⟩
       have hk3 : Blk w3 w1.heap.size 23 #[.int .i64 11, .int .i64 23] := (hk2.alloc _).below hb3 (by simp <;> omega)
       obtain ⟨f1, f2, _, _⟩ := blk_facts hk3
       have hz3 : w1.heap.size < w3.heap.size := hk3.lt
       have hr3 : Reads w3 w3.heap.size 2 A2 2 (encL [(1, 3), (5, 7)]) := ((hr2.alloc (Nat.le_refl _) _).below (bmono hb3 (by simp))).more (by have := hb3.size; simp at this; omega)
       have hB3 : Below w.heap.size w w3 := (hB2.alloc hB2.size _).trans (bmono hb3 (by simp <;> have := hB2.size <;> omega)))
    | (go_at_call 36; refine (same_example _ _ _ _ (by simp) hr3).mono ?_; rintro e w4 ⟨rfl, hb4⟩))
  go_ret
  exact ⟨rfl, hB3.trans (bmono hb4 hB3.size)⟩
end Go.Proofs.Ytnpdmohclajmjaa
