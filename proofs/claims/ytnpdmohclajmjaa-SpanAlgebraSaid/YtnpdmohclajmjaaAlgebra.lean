/- The walk of the law SpanAlgebra: it answers true, whatever the lists; and the law. -/
import Derived.Test.YtnpdmohclajmjaaSets
import Derived.Test.YtnpdmohclajmjaaCnt
import Derived.Test.YtnpdmohclajmjaaLift
namespace Go.Proofs.Ytnpdmohclajmjaa
open Go.ChangeShapes Go.WideShapes Go.ChangeAt Go.RowKit

theorem rd_over' {W W' : World} {A : Option Addr} {n : Nat} {xs : List Value} (h : Reads W W.heap.size 2 A n xs) (hb : Below W.heap.size W W') : Reads W' W'.heap.size 2 A n xs := (h.below hb).more hb.size
theorem errOf_of {l : List (Int × Int)} (h : ∀ x ∈ l, -1000000000000 ≤ x.1 ∧ x.1 ≤ x.2 ∧ x.2 ≤ 1000000000000) : errOf l = 0 := by
  unfold errOf
  rw [List.all_eq_true.2 fun x hx => (inR_iff x).2 (by have := h x hx; omega), List.all_eq_true.2 fun x hx => decide_eq_true (h x hx).2.1]; rfl
theorem mem_rev (l : List (Int × Int)) (z : Int) : Mem z l.reverse ↔ Mem z l := by simp [Mem]
theorem errOf_rev {l : List (Int × Int)} (h : errOf l = 0) : errOf l.reverse = 0 := by
  obtain ⟨h1, h2⟩ := errOf_ok h
  unfold errOf
  rw [List.all_eq_true.2 fun x hx => h1 x (List.mem_reverse.1 hx), List.all_eq_true.2 fun x hx => decide_eq_true (h2 x (List.mem_reverse.1 hx))]; rfl
theorem rev_step {l : List (Int × Int)} {q : Nat} (h : q < l.length) : (l.drop q).reverse = (l.drop (q + 1)).reverse ++ [iv l q] := by
  rw [iv_eq h, List.drop_eq_getElem_cons h, List.reverse_cons]
/-- Count of a list that is a normal form already, or has the members of one: the count of any normal form with the same members -/
theorem count_of (A : Option Addr) (n c : Nat) (l R : List (Int × Int)) (w : World) (hn : n = l.length) (hl : n ≤ 1000) (h : Reads w w.heap.size 2 A n (encL l)) (h0 : errOf l = 0) (hR : NF R) (hm : ∀ z, Mem z R ↔ Mem z l) :
    Calls Try.prog 34 #[.slice A n c] w fun e w' => e = .returned (.tuple #[.int .i64 (cntTo R R.length), .int .i64 0]) ∧ Below w.heap.size w w' :=
  (count_ok A n c l w hn hl h h0).mono fun e w' ⟨R2, he, h1, h2, _, hb⟩ => by
    have : R2 = R := NF.unique h1 hR fun z => (h2 z).trans (hm z).symm
    subst this
    exact ⟨he, hb⟩
theorem normalize_of (A : Option Addr) (n c : Nat) (l R : List (Int × Int)) (w : World) (hn : n = l.length) (hl : n ≤ 1000) (h : Reads w w.heap.size 2 A n (encL l)) (h0 : errOf l = 0) (hR : NF R) (hm : ∀ z, Mem z R ↔ Mem z l) :
    Calls Try.prog 30 #[.slice A n c] w fun e w' => ∃ A' N' c', e = .returned (.tuple #[.slice A' N' c', .int .i64 0]) ∧ N' = R.length ∧ N' ≤ n ∧ Reads w' w'.heap.size 2 A' N' (encL R) ∧ Below w.heap.size w w' :=
  (normalize_ok A n c l w hn hl h h0).mono fun e w' ⟨A', N', c', R2, he, hN, hle, hr, h1, h2, hb⟩ => by
    have : R2 = R := NF.unique h1 hR fun z => (h2 z).trans (hm z).symm
    subst this
    exact ⟨A', N', c', he, hN, hle, hr, hb⟩
theorem same_true (A B : Option Addr) (n m c d : Nat) (l : List (Int × Int)) (w : World) (hn : n = l.length) (hm : m = l.length) (hl : n ≤ 100000) (hs : m ≤ 100000)
    (ha : Reads w w.heap.size 2 A n (encL l)) (hb : Reads w w.heap.size 2 B m (encL l)) :
    Calls Try.prog 36 #[.slice A n c, .slice B m d] w fun e w' => e = .returned (.bool true) ∧ Below w.heap.size w w' :=
  (same_any A B n m c d l l w hn hm hl hs ha hb).mono fun e w' ⟨he, q, hw⟩ => ⟨he.trans (ret_bool (by simp)), hw ▸ below_drewN (Below.refl _ _) q⟩


set_option maxHeartbeats 400000 in
theorem union_bad2 (A B : Option Addr) (n m c d : Nat) (l s : List (Int × Int)) (w : World) (hn : n = l.length) (hm : m = s.length) (hl : n ≤ 1000) (hs : m ≤ 1000) (h : Reads w w.heap.size 2 A n (encL l)) (h2 : Reads w w.heap.size 2 B m (encL s)) (h0 : ¬ errOf (l ++ s) = 0) :
    Calls Try.prog 31 #[.slice A n c, .slice B m d] w fun e w' => e = .returned (.tuple #[.slice none 0 0, .int .i64 (errOf (l ++ s))]) ∧ Below w.heap.size w w' := by
  have hck := fun W g (hg : g = W.heap.size) (h : Reads W W.heap.size 2 A n (encL l)) (h2 : Reads W W.heap.size 2 B m (encL s)) => checkLists_two A B n m c d g l s W hg hn hm hl hs h h2
  have hne : (errOf (l ++ s) == 0) = false := by simpa using h0
  have hne' : (errOf (l ++ s) != 0) = true := by simpa using h0
  generalize errOf (l ++ s) = cc at hck hne hne' h0 ⊢
  clear hn hm
  go_enter Try.func31, Try.ntmps31
  go_wp2_with (go_at_call 45; refine (hck _ _ (by simp) h h2).mono ?_; rintro e w1 ⟨rfl, hb1⟩)
  go_ret2
  exact ⟨rfl, ((Below.refl _ _).alloc (Nat.le_refl _) _).trans (bmono hb1 (by simp))⟩

set_option maxHeartbeats 400000 in
theorem minus_bad2 (A B : Option Addr) (n m c d : Nat) (l s : List (Int × Int)) (w : World) (hn : n = l.length) (hm : m = s.length) (hl : n ≤ 1000) (hs : m ≤ 1000) (h : Reads w w.heap.size 2 A n (encL l)) (h2 : Reads w w.heap.size 2 B m (encL s)) (h0 : ¬ errOf (l ++ s) = 0) :
    Calls Try.prog 32 #[.slice A n c, .slice B m d] w fun e w' => e = .returned (.tuple #[.slice none 0 0, .int .i64 (errOf (l ++ s))]) ∧ Below w.heap.size w w' := by
  have hck := fun W g (hg : g = W.heap.size) (h : Reads W W.heap.size 2 A n (encL l)) (h2 : Reads W W.heap.size 2 B m (encL s)) => checkLists_two A B n m c d g l s W hg hn hm hl hs h h2
  have hne : (errOf (l ++ s) == 0) = false := by simpa using h0
  have hne' : (errOf (l ++ s) != 0) = true := by simpa using h0
  generalize errOf (l ++ s) = cc at hck hne hne' h0 ⊢
  clear hn hm
  go_enter Try.func32, Try.ntmps32
  go_wp2_with (go_at_call 45; refine (hck _ _ (by simp) h h2).mono ?_; rintro e w1 ⟨rfl, hb1⟩)
  go_ret2
  exact ⟨rfl, ((Below.refl _ _).alloc (Nat.le_refl _) _).trans (bmono hb1 (by simp))⟩

set_option maxHeartbeats 400000 in
theorem common_bad2 (A B : Option Addr) (n m c d : Nat) (l s : List (Int × Int)) (w : World) (hn : n = l.length) (hm : m = s.length) (hl : n ≤ 1000) (hs : m ≤ 1000) (h : Reads w w.heap.size 2 A n (encL l)) (h2 : Reads w w.heap.size 2 B m (encL s)) (h0 : ¬ errOf (l ++ s) = 0) :
    Calls Try.prog 33 #[.slice A n c, .slice B m d] w fun e w' => e = .returned (.tuple #[.slice none 0 0, .int .i64 (errOf (l ++ s))]) ∧ Below w.heap.size w w' := by
  have hck := fun W g (hg : g = W.heap.size) (h : Reads W W.heap.size 2 A n (encL l)) (h2 : Reads W W.heap.size 2 B m (encL s)) => checkLists_two A B n m c d g l s W hg hn hm hl hs h h2
  have hne : (errOf (l ++ s) == 0) = false := by simpa using h0
  have hne' : (errOf (l ++ s) != 0) = true := by simpa using h0
  generalize errOf (l ++ s) = cc at hck hne hne' h0 ⊢
  clear hn hm
  go_enter Try.func33, Try.ntmps33
  go_wp2_with (go_at_call 45; refine (hck _ _ (by simp) h h2).mono ?_; rintro e w1 ⟨rfl, hb1⟩)
  go_ret2
  exact ⟨rfl, ((Below.refl _ _).alloc (Nat.le_refl _) _).trans (bmono hb1 (by simp))⟩

set_option maxRecDepth 100000 in
set_option maxHeartbeats 4000000 in
theorem spanAlgebra_any (A B : Option Addr) (n m c d : Nat) (l s : List (Int × Int)) (w : World) (hn : n = l.length) (hm : m = s.length) (hl : n ≤ 9223372036854775807) (hs : m ≤ 9223372036854775807)
    (h : Reads w w.heap.size 2 A n (encL l)) (h2 : Reads w w.heap.size 2 B m (encL s)) :
    Calls Try.prog 9 #[.slice A n c, .slice B m d] w fun e w' => e = .returned (.bool true) ∧ Below w.heap.size w w' := by
  have HN := Lib.hid hn; have HM := Lib.hid hm; clear hn hm
  by_cases h30 : 30 < n
  · go_enter Try.func9, Try.ntmps9
    go_wp2_with (go_at_call 10; refine (awake_any _).mono ?_; rintro e w1 ⟨rfl, hb1⟩)
    all_goals (go_ret; exact ⟨rfl, hb1⟩)
  by_cases h31 : 30 < m
  · go_enter Try.func9, Try.ntmps9
    go_wp2_with (go_at_call 10; refine (awake_any _).mono ?_; rintro e w1 ⟨rfl, hb1⟩)
    all_goals (go_ret; exact ⟨rfl, hb1⟩)
  by_cases h0 : errOf (l ++ s) = 0
  · obtain ⟨i0, hi0, hz0, hz1, hz2⟩ := info_parts info23
    have hK : n * (m + 1) + (n + m) ≤ 1000 := by have := Nat.mul_le_mul (show n ≤ 30 by omega) (show m + 1 ≤ 31 by omega); omega
    obtain ⟨e1, e2⟩ := errOf_app h0
    have OK1 := Lib.hid (errOf_ok e1); have OK2 := Lib.hid (errOf_ok e2)
    have hA := fun W h => normalize_ok A n c l W HN.out (by omega) h e1
    have hM := fun W h h2 => minus_ok A B n m c d l s W HN.out HM.out (by omega) (by omega) h h2 h0
    have hC := fun W h h2 => common_ok A B n m c d l s W HN.out HM.out (by omega) (by omega) h h2 h0
    have hU := fun W h h2 => union_ok A B n m c d l s W HN.out HM.out (by omega) (by omega) h h2 h0
    have E1 := Lib.hid e1; have E2 := Lib.hid e2
    clear h0 e1 e2
    go_enter Try.func9, Try.ntmps9
    go_wp2_with fail
    refine (awake_any _).mono ?_
    rintro e w1 ⟨rfl, hb1⟩
    have rl1 := rd_over' h hb1
    have rs1 := rd_over' h2 hb1
    go_wp2_with fail
    refine (hA _ rl1).mono ?_
    rintro e w2 ⟨AN, NN, cN, P, rfl, hNN, hleN, rN2, nfP, mP, hb2⟩
    have HNN := Lib.hid hNN; clear hNN
    have rl2 := rd_over' rl1 hb2; have rs2 := rd_over' rs1 hb2
    go_wp2_with fail
    refine (hM _ rl2 rs2).mono ?_
    rintro e w3 ⟨AM, NM, cM, M, rfl, hNM, hleM, rM3, nfM, mM, hb3⟩
    have HNM := Lib.hid hNM; clear hNM
    have rl3 := rd_over' rl2 hb3; have rs3 := rd_over' rs2 hb3; have rN3 := rd_over' rN2 hb3
    go_wp2_with fail
    refine (hC _ rl3 rs3).mono ?_
    rintro e w4 ⟨AC, NC, cC, C, rfl, hNC, hleC, rC4, nfC, mC, hb4⟩
    have HNC := Lib.hid hNC; clear hNC
    have rl4 := rd_over' rl3 hb4; have rs4 := rd_over' rs3 hb4; have rN4 := rd_over' rN3 hb4; have rM4 := rd_over' rM3 hb4
    go_wp2_with fail
    refine (hU _ rl4 rs4).mono ?_
    rintro e w5 ⟨AU, NU, cU, U, rfl, hNU, hleU, rU5, nfU, mU, hb5⟩
    have HNU := Lib.hid hNU; clear hNU
    have rl5 := rd_over' rl4 hb5; have rs5 := rd_over' rs4 hb5; have rN5 := rd_over' rN4 hb5; have rM5 := rd_over' rM4 hb5; have rC5 := rd_over' rC4 hb5
    have t1 := hb1
    have t2 := t1.trans (bmono hb2 t1.size)
    have t3 := t2.trans (bmono hb3 t2.size)
    have t4 := t3.trans (bmono hb4 t3.size)
    have t5 := t4.trans (bmono hb5 t4.size)
    clear hb1 hb2 hb3 hb4 hb5 t1 t2 t3 t4 rl1 rl2 rl3 rl4 rs1 rs2 rs3 rs4 rN2 rN3 rN4 rM3 rM4 rC4 hA hM hC hU
    have bP : ∀ x ∈ P, -1000000000000 ≤ x.1 ∧ x.1 ≤ x.2 ∧ x.2 ≤ 1000000000000 := nf_bound nfP mP OK1.out.1
    have bU : ∀ x ∈ U, -1000000000000 ≤ x.1 ∧ x.1 ≤ x.2 ∧ x.2 ≤ 1000000000000 := nf_bound (L := l ++ s) nfU (fun n => by rw [mU, mem_app]) (fun x hx => by rcases List.mem_append.1 hx with hx | hx; exact OK1.out.1 x hx; exact OK2.out.1 x hx)
    have bM : ∀ x ∈ M, -1000000000000 ≤ x.1 ∧ x.1 ≤ x.2 ∧ x.2 ≤ 1000000000000 := sub_bound nfM (fun n hn => ((mM n).1 hn).1) OK1.out.1
    have bC : ∀ x ∈ C, -1000000000000 ≤ x.1 ∧ x.1 ≤ x.2 ∧ x.2 ≤ 1000000000000 := sub_bound nfC (fun n hn => ((mC n).1 hn).1) OK1.out.1
    have eMC : errOf (M ++ C) = 0 := errOf_of fun x hx => by rcases List.mem_append.1 hx with hx | hx; exact bM x hx; exact bC x hx
    have mMC : ∀ z, Mem z P ↔ Mem z M ∨ Mem z C := fun z => by
      rw [mP, mM, mC]
      by_cases hx : Mem z l <;> by_cases hy : Mem z s <;> simp [hx, hy]
    have hU2 := fun W h h2 => union_ok AM AC NM NC cM cC M C W HNM.out HNC.out (by omega) (by omega) h h2 eMC
    have hN2 := fun W h => normalize_of AN NN cN P P W HNN.out (by omega) h (errOf_of bP) nfP (fun _ => Iff.rfl)
    have hcA := fun W h => count_of A n c l P W HN.out (by omega) h E1.out nfP mP
    have hcC := fun W h => count_of AC NC cC C C W HNC.out (by omega) h (errOf_of bC) nfC (fun _ => Iff.rfl)
    have hcU := fun W h => count_of AU NU cU U U W HNU.out (by omega) h (errOf_of bU) nfU (fun _ => Iff.rfl)
    have HP := Lib.hid (⟨nfP, mP, bP⟩ : NF P ∧ (∀ z, Mem z P ↔ Mem z l) ∧ _); have HU := Lib.hid (⟨nfU, mU, bU⟩ : NF U ∧ (∀ z, Mem z U ↔ (fun z => Mem z l ∨ Mem z s) z) ∧ _); have HC := Lib.hid (⟨nfC, mC, bC⟩ : NF C ∧ (∀ z, Mem z C ↔ (fun z => Mem z l ∧ Mem z s) z) ∧ _); have HMC := Lib.hid mMC
    clear nfP mP bP nfU mU bU nfC mC bC nfM mM bM eMC mMC
    go_wp2_with fail
    refine (hU2 _ rM5 rC5).mono ?_
    rintro e w6 ⟨AB, NB, cB, Bo, rfl, hNB, hleB, rB6, nfB, mB, hb6⟩
    have hBo : Bo = P := NF.unique nfB HP.out.1 fun z => (mB z).trans (HMC.out z).symm
    subst hBo
    have HNB := Lib.hid hNB; clear hNB nfB mB
    have rl6 := rd_over' rl5 hb6; have rs6 := rd_over' rs5 hb6; have rN6 := rd_over' rN5 hb6; have rC6 := rd_over' rC5 hb6; have rU6 := rd_over' rU5 hb6
    go_wp2_with fail
    refine (hN2 _ rN6).mono ?_
    rintro e w7 ⟨AG, NG, cG, rfl, hNG, hleG, rG7, hb7⟩
    have HNG := Lib.hid hNG; clear hNG
    have rl7 := rd_over' rl6 hb7; have rs7 := rd_over' rs6 hb7; have rN7 := rd_over' rN6 hb7; have rC7 := rd_over' rC6 hb7; have rU7 := rd_over' rU6 hb7; have rB7 := rd_over' rB6 hb7
    have t6 := t5.trans (bmono hb6 t5.size)
    have t7 := t6.trans (bmono hb7 t6.size)
    clear hb6 hb7 t5 t6 rl5 rl6 rs5 rs6 rN5 rN6 rC5 rC6 rU5 rU6 rB6 rM5 hU2 hN2
    go_wp2_with fail
    have hown0 : (w7.alloc (.cells #[] 23)).ownsRow w7.heap.size 23 2 (.slice (some ⟨w7.heap.size, 0, none⟩) 0 0) 0 [] := World.ownsRow_made w7 #[] 0 (Nat.le_refl _) (by simp [maxLen]) rfl
    have hb0 := (Below.refl w7.heap.size w7).alloc (Nat.le_refl _) (.cells #[] 23)
    go_loopw [15, 16] (fun vb vi wr => ∃ (j k c' : Nat) (A' : Option Addr), vi = .int .i64 ((j : Int) - 1) ∧ vb = .slice A' k c' ∧ j ≤ n ∧ k + j = n ∧ wr.ownsRow w7.heap.size 23 2 (.slice A' k c') k (encL (l.drop j).reverse) ∧ Below w7.heap.size w7 wr) (fun _ vi _ => (intOf vi + 1).toNat)
    case atStart => exact ⟨n, 0, 0, some ⟨w7.heap.size, 0, none⟩, rfl, rfl, Nat.le_refl _, by omega, by rw [HN.out, List.drop_length]; exact hown0, hb0⟩
    case round =>
      clear hown0 hb0
      obtain ⟨j, k, c', A', rfl, rfl, hj, hkj, hown, hbw⟩ := hrel
      have hz := hbw.size
      rcases Nat.eq_zero_or_pos j with hj0 | hj0
      · subst hj0
        have hkn : k = n := by omega
        subst hkn
        rw [List.drop_zero] at hown
        have hrev : k = l.reverse.length := by rw [List.length_reverse]; exact HN.out
        have HREV := Lib.hid hrev; clear hrev hkj hj
        have rR8 := Reads.of_own hown
        have rl8 := rd_over' rl7 hbw; have rs8 := rd_over' rs7 hbw; have rN8 := rd_over' rN7 hbw; have rC8 := rd_over' rC7 hbw; have rU8 := rd_over' rU7 hbw; have rB8 := rd_over' rB7 hbw; have rG8 := rd_over' rG7 hbw
        have t8 := t7.trans (bmono hbw t7.size)
        have hNR := fun W h => normalize_of A' k c' l.reverse Bo W HREV.out (by omega) h (errOf_rev E1.out) HP.out.1 (fun z => (HP.out.2.1 z).trans (mem_rev l z).symm)
        have hcB := fun W h => count_ok B m d s W HM.out (by omega) h E2.out
        clear rl7 rs7 rN7 rC7 rU7 rB7 rG7 t7 hown hbw
        go_wp2_with fail
        refine (hNR _ rR8).mono ?_
        rintro e w9 ⟨AO, NO, cO, rfl, hNO, hleO, rO9, hb9⟩
        have HNO := Lib.hid hNO; clear hNO
        have rl9 := rd_over' rl8 hb9; have rs9 := rd_over' rs8 hb9; have rN9 := rd_over' rN8 hb9; have rC9 := rd_over' rC8 hb9; have rU9 := rd_over' rU8 hb9; have rB9 := rd_over' rB8 hb9; have rG9 := rd_over' rG8 hb9
        go_wp2_with fail
        refine (hcA _ rl9).mono ?_
        rintro e w10 ⟨rfl, hb10⟩
        have rs10 := rd_over' rs9 hb10; have rN10 := rd_over' rN9 hb10; have rC10 := rd_over' rC9 hb10; have rU10 := rd_over' rU9 hb10; have rB10 := rd_over' rB9 hb10; have rG10 := rd_over' rG9 hb10; have rO10 := rd_over' rO9 hb10
        go_wp2_with fail
        refine (hcB _ rs10).mono ?_
        rintro e w11 ⟨Q, rfl, nfQ, mQ, leQ, hb11⟩
        have rN11 := rd_over' rN10 hb11; have rC11 := rd_over' rC10 hb11; have rU11 := rd_over' rU10 hb11; have rB11 := rd_over' rB10 hb11; have rG11 := rd_over' rG10 hb11; have rO11 := rd_over' rO10 hb11
        have bQ := nf_bound nfQ mQ OK2.out.1
        have HE := cnt_add HP.out.1 nfQ HU.out.1 HC.out.1 HP.out.2.2 bQ HU.out.2.2 HC.out.2.2 HP.out.2.1 mQ HU.out.2.1 HC.out.2.1
        rw [HE] at hcU
        obtain ⟨p1, p2⟩ := cnt_bd HP.out.2.2 Bo.length (Nat.le_refl _)
        obtain ⟨q1, q2⟩ := cnt_bd bQ Q.length (Nat.le_refl _)
        obtain ⟨r1, r2⟩ := cnt_bd HC.out.2.2 C.length (Nat.le_refl _)
        have lP : Bo.length ≤ 1000 := by rw [← HNN.out]; omega
        have lQ : Q.length ≤ 1000 := by omega
        have lC : C.length ≤ 1000 := by rw [← HNC.out]; omega
        have t9 := t8.trans (bmono hb9 t8.size)
        have t10 := t9.trans (bmono hb10 t9.size)
        have t11 := t10.trans (bmono hb11 t10.size)
        have hs1 := fun W h h2 => same_true AB AN NB NN cB cN Bo W HNB.out HNN.out (by rw [HNB.out, ← HNN.out]; omega) (by omega) h h2
        have hs2 := fun W h h2 => same_true AG AN NG NN cG cN Bo W HNG.out HNN.out (by omega) (by omega) h h2
        have hs3 := fun W h h2 => same_true AO AN NO NN cO cN Bo W HNO.out HNN.out (by omega) (by omega) h h2
        clear HE bQ nfQ mQ hb9 hb10 hb11 t8 t9 t10 rl8 rs8 rN8 rC8 rU8 rB8 rG8 rR8 rl9 rs9 rN9 rC9 rU9 rB9 rG9 rO9 rs10 rN10 rC10 rU10 rB10 rG10 rO10 hNR hcB hcA
        generalize cntTo Bo Bo.length = pc at *
        generalize cntTo Q Q.length = qc at *
        generalize cntTo C C.length = rc at *
        have p3 : pc ≤ 3000000000000000 := by omega
        have q3 : qc ≤ 3000000000000000 := by omega
        have r3 : rc ≤ 3000000000000000 := by omega
        clear p2 q2 r2 lP lQ lC
        go_wp2_with fail
        refine (hcC _ rC11).mono ?_
        rintro e w12 ⟨rfl, hb12⟩
        have rN12 := rd_over' rN11 hb12; have rU12 := rd_over' rU11 hb12; have rB12 := rd_over' rB11 hb12; have rG12 := rd_over' rG11 hb12; have rO12 := rd_over' rO11 hb12
        go_wp2_with fail
        refine (hcU _ rU12).mono ?_
        rintro e w13 ⟨rfl, hb13⟩
        have rN13 := rd_over' rN12 hb13; have rB13 := rd_over' rB12 hb13; have rG13 := rd_over' rG12 hb13; have rO13 := rd_over' rO12 hb13
        go_wp2_with fail
        refine (hs1 _ rB13 rN13).mono ?_
        rintro e w14 ⟨rfl, hb14⟩
        have rN14 := rd_over' rN13 hb14; have rG14 := rd_over' rG13 hb14; have rO14 := rd_over' rO13 hb14
        go_wp2_with fail
        refine (hs2 _ rG14 rN14).mono ?_
        rintro e w15 ⟨rfl, hb15⟩
        have rN15 := rd_over' rN14 hb15; have rO15 := rd_over' rO14 hb15
        go_wp2_with fail
        refine (hs3 _ rO15 rN15).mono ?_
        rintro e w16 ⟨rfl, hb16⟩
        go_wp2
        go_ret
        have t12 := t11.trans (bmono hb12 t11.size)
        have t13 := t12.trans (bmono hb13 t12.size)
        have t14 := t13.trans (bmono hb14 t13.size)
        have t15 := t14.trans (bmono hb15 t14.size)
        exact ⟨rfl, t15.trans (bmono hb16 t15.size)⟩
      · obtain ⟨q, rfl⟩ : ∃ q, j = q + 1 := ⟨j - 1, by omega⟩
        have hql : q < l.length := by rw [← HN.out]; omega
        have hrs := rev_step hql
        have HRS := Lib.hid hrs; clear hrs
        obtain ⟨ad, rfl, hba, a1, a2⟩ := (rl7.below hbw).iv HN.out hql
        rw [show (((q + 1 : Nat) : Int) - 1) = (q : Int) by omega]
        generalize iv l q = x at a1 a2 HRS
        have q0 : (0 : Int) ≤ (q : Int) := Int.natCast_nonneg _
        clear hcA hcC hcU HP HU HC HMC rs7 rN7 rC7 rU7 rB7 rG7
        go_wp2_with (at_builtin
                     refine wpList_append_sl rfl (.tmp 91) (.tmp 96) _ rfl w7.heap.size 23 i0 _ 16 Try.underlying33 hi0 hz0 hz1 hz2 rfl (.slice A' k c') k (encL (l.drop (q + 1)).reverse) rfl
                       (hown.alloc _) _ _ 1 1 (encL [x]) rfl (reads_new (w := wr) (l := [x]) rfl rfl) (encL_one _) (k + 1) (encL ((l.drop (q + 1)).reverse ++ [x])) rfl (encL_app _ _) (by simp only [maxLen]; omega) (by omega) w7 (hbw.alloc hz _) (by simp <;> omega) ?_
                     intro A3 c3 w8 hown3 hr3 hbw3 hs3)
        go_roundw
        case rel => exact ⟨q, k + 1, c3, A3, rfl, rfl, by omega, by omega, by rw [HRS.out]; exact hown3, hbw3⟩
        case measure => simp [intOf] <;> omega
  · have hne : (errOf (l ++ s) == 0) = false := by simpa using h0
    have hne' : (errOf (l ++ s) != 0) = true := by simpa using h0
    have hM := fun W h h2 => minus_bad2 A B n m c d l s W HN.out HM.out (by omega) (by omega) h h2 h0
    have hC := fun W h h2 => common_bad2 A B n m c d l s W HN.out HM.out (by omega) (by omega) h h2 h0
    have hU := fun W h h2 => union_bad2 A B n m c d l s W HN.out HM.out (by omega) (by omega) h h2 h0
    generalize errOf (l ++ s) = cc at hM hC hU hne hne' h0
    have hA : ∀ W, Reads W W.heap.size 2 A n (encL l) → Calls Try.prog 30 #[.slice A n c] W fun e w' => ∃ A' N' c' ee, e = .returned (.tuple #[.slice A' N' c', .int .i64 ee]) ∧ Below W.heap.size W w' := by
      intro W hh
      by_cases he : errOf l = 0
      · exact (normalize_ok A n c l W HN.out (by omega) hh he).mono fun e w' ⟨A', N', c', R, h1, _, _, _, _, _, hb⟩ => ⟨A', N', c', 0, h1, hb⟩
      · exact (normalize_bad A n c l W HN.out (by omega) hh he).mono fun e w' ⟨h1, hb⟩ => ⟨none, 0, 0, errOf l, h1, hb⟩
    go_enter Try.func9, Try.ntmps9
    go_wp2_with fail
    refine (awake_any _).mono ?_
    rintro e w1 ⟨rfl, hb1⟩
    have rl1 := rd_over' h hb1
    have rs1 := rd_over' h2 hb1
    go_wp2_with fail
    refine (hA _ rl1).mono ?_
    rintro e w2 ⟨AN, NN, cN, ee, rfl, hb2⟩
    have rl2 := rd_over' rl1 hb2; have rs2 := rd_over' rs1 hb2
    go_wp2_with fail
    refine (hM _ rl2 rs2).mono ?_
    rintro e w3 ⟨rfl, hb3⟩
    have rl3 := rd_over' rl2 hb3; have rs3 := rd_over' rs2 hb3
    go_wp2_with fail
    refine (hC _ rl3 rs3).mono ?_
    rintro e w4 ⟨rfl, hb4⟩
    have rl4 := rd_over' rl3 hb4; have rs4 := rd_over' rs3 hb4
    go_wp2_with fail
    refine (hU _ rl4 rs4).mono ?_
    rintro e w5 ⟨rfl, hb5⟩
    have t1 := hb1
    have t2 := t1.trans (bmono hb2 t1.size)
    have t3 := t2.trans (bmono hb3 t2.size)
    have t4 := t3.trans (bmono hb4 t3.size)
    have t5 := t4.trans (bmono hb5 t4.size)
    by_cases hee : ee = 0
    · subst hee
      go_wp2
      all_goals (go_ret; exact ⟨rfl, t5⟩)
    · have hee1 : (ee == 0) = false := by simpa using hee
      have hee2 : (ee != 0) = true := by simpa using hee
      go_wp2
      all_goals (go_ret; exact ⟨rfl, t5⟩)

set_option maxHeartbeats 800000 in
set_option maxRecDepth 100000 in
theorem spanAlgebra_lifted (os : Os) (started : os.Started) (H : Type) (enc : TypeId × Value → H) :
    ReturnsInHanded {} Try.checked os 9 .any (Rows.spanAlgebraSpec.pre6 enc Try.prog Try.f9 Rows.spanAlgebraRow.domain false) (Rows.spanAlgebraSpec.post enc Try.prog Try.f9 false true false false) := by
  refine returnsInHanded_of_change (C := Try.checked) Try.own started (by kernel_rfl) Try.func9
    (ChangeSpec.witness6 (enc := enc) (C := Try.checked) false ⟨#[], #[.slice none 0 0, .slice none 0 0], []⟩ 8 (by kernel_rfl) (by kernel_rfl) (by kernel_rfl) (by kernel_rfl)) ?_
  intro W base args ds gs before hval0 hW _ _
  have hval : ∀ (j : Nat) t v, Try.f9.params[j]? = some t → args[j]? = some v → Value.okWide Try.prog W .any base t v := hval0
  have hW' := hW
  obtain ⟨p, q, hA0, hV, rfl, _, _⟩ := hW
  have hA : DataW.TrodAll enc Try.prog W 0 (fun _ => true) true Try.f9.params.toList args.toList ds p := hA0
  rw [Try.params9] at hA hval
  obtain ⟨v0, v1, d0, d1, p0, p1, rfl, rfl, rfl, h0, h1⟩ := trodAll_two hA
  obtain ⟨rfl, rfl⟩ := trodVars_none hV
  clear hA0 hval0
  simp only [List.append_nil] at hW'
  have harg0 : ∀ W' : World, Below W.heap.size W W' → DataW.Trod enc Try.prog W' 0 (fun b => decide (b < W.heap.size)) true 33 v0 d0 p0 :=
    fun W' hn => Below.trod Try.laidOut (by kernel_rfl) (of_decide_eq_true (by kernel_rfl)) h0 hn (fun y hy => by simpa using hW'.lt y (by simp [hy]))
  have harg1 : ∀ W' : World, Below W.heap.size W W' → DataW.Trod enc Try.prog W' 0 (fun b => decide (b < W.heap.size)) true 33 v1 d1 p1 :=
    fun W' hn => Below.trod Try.laidOut (by kernel_rfl) (of_decide_eq_true (by kernel_rfl)) h1 hn (fun y hy => by simpa using hW'.lt y (by simp [hy]))
  obtain ⟨A, n, c, l, rfl, hn, hmx, hr⟩ := open_ivs (hval 0 33 v0 rfl rfl) h0
  obtain ⟨B, m, d, s, rfl, hm, hmx2, hr2⟩ := open_ivs (hval 1 33 v1 rfl rfl) h1
  refine (spanAlgebra_any A B n m c d l s W hn hm (by unfold maxLen at hmx; omega) (by unfold maxLen at hmx2; omega) hr hr2).mono fun e W' ⟨he, hn⟩ => ?_
  subst he
  exact ⟨_, rfl, _, _, _, [], _, [], hW', trodAll_mk1 (shut_bool Try.underlying4 _), trodAll_mk2 (harg0 _ hn) (harg1 _ hn), (List.append_nil _).symm, hn.frame _, fun h => by cases h⟩

theorem spanAlgebra_holds : Rows.SpanAlgebraSaid :=
  OpenClaim.holds_of_wide 9 Try.f9 rfl rfl rfl rfl rfl rfl rfl ⟨rfl, rfl, rfl, rfl, rfl⟩ rfl rfl rfl rfl rfl (by kernel_rfl) Try.func9 (by kernel_rfl)
    (of_decide_eq_true (by kernel_rfl)) (by unfold Func.isWrapper; first | (rw [if_pos (by decide +kernel)]; kernel_rfl) | (rw [if_neg (by decide +kernel)]; exact ⟨rfl, rfl⟩))
    (fun os started H enc _ => spanAlgebra_lifted os started H enc)
end Go.Proofs.Ytnpdmohclajmjaa
