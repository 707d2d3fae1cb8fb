/- The walks of Union, Minus and Common, of the reference's In and of the law's normal. Lists are of at most a thousand intervals. -/
import Derived.Test.YtnpdmohclajmjaaDif
import Derived.Test.YtnpdmohclajmjaaCom
namespace Go.Proofs.Ytnpdmohclajmjaa
open Go.RowKit

theorem readsLL_two {w : World} {A B : Option Addr} {n m c d g : Nat} {l s : List (Int × Int)} (hg : g = w.heap.size) (hn : n = l.length) (hm : m = s.length) (h : Reads w w.heap.size 2 A n (encL l)) (h2 : Reads w w.heap.size 2 B m (encL s)) :
    ReadsLL (w.alloc (.cells #[.slice A n c, .slice B m d] 33)) (w.alloc (.cells #[.slice A n c, .slice B m d] 33)).heap.size g 0 [l, s] := by
  subst hg hn hm
  refine ⟨by simp, fun k hk => ?_⟩
  have : k = 0 ∨ k = 1 := by simp at hk; omega
  rcases this with rfl | rfl
  · exact ⟨A, c, by simp [go_sem, lsAt], (h.alloc (Nat.le_refl _) _).more (by simp)⟩
  · exact ⟨B, d, by simp [go_sem, lsAt], (h2.alloc (Nat.le_refl _) _).more (by simp)⟩
theorem catTo_two (l s : List (Int × Int)) : catTo [l, s] 2 = l ++ s := by simp [catTo]
theorem lenTo_two (l s : List (Int × Int)) : lenTo [l, s] 2 = l.length + s.length := by simp [lenTo, catTo]

theorem checkLists_two (A B : Option Addr) (n m c d g : Nat) (l s : List (Int × Int)) (w : World) (hg : g = w.heap.size) (hn : n = l.length) (hm : m = s.length) (hl : n ≤ 1000) (hs : m ≤ 1000) (h : Reads w w.heap.size 2 A n (encL l)) (h2 : Reads w w.heap.size 2 B m (encL s)) :
    Calls Try.prog 45 #[.slice (some ⟨g, 0, none⟩) 2 2] (w.alloc (.cells #[.slice A n c, .slice B m d] 33)) fun e w' => e = .returned (.int .i64 (errOf (l ++ s))) ∧ Below (w.alloc (.cells #[.slice A n c, .slice B m d] 33)).heap.size (w.alloc (.cells #[.slice A n c, .slice B m d] 33)) w' := by
  have h1 := checkLists_any g 0 2 [l, s] (w.alloc (.cells #[.slice A n c, .slice B m d] 33)) (by simp) (by show lenTo [l, s] 2 ≤ _; rw [lenTo_two, ← hn, ← hm]; omega) (readsLL_two hg hn hm h h2)
  refine h1.mono fun e w' ⟨he, hb⟩ => ⟨?_, hb⟩
  rw [he]; show Ending.returned (.int .i64 (errOf (catTo [l, s] 2))) = _; rw [catTo_two]
theorem normal_two (A B : Option Addr) (n m c d g : Nat) (l s : List (Int × Int)) (w : World) (hg : g = w.heap.size) (hn : n = l.length) (hm : m = s.length) (hl : n ≤ 1000) (hs : m ≤ 1000) (h : Reads w w.heap.size 2 A n (encL l)) (h2 : Reads w w.heap.size 2 B m (encL s)) (h0 : errOf (l ++ s) = 0) :
    Calls Try.prog 46 #[.slice (some ⟨g, 0, none⟩) 2 2] (w.alloc (.cells #[.slice A n c, .slice B m d] 33)) fun e w' => ∃ A' N' c' R, e = .returned (.slice A' N' c') ∧ N' = R.length ∧ N' ≤ n + m ∧
      Reads w' w'.heap.size 2 A' N' (encL R) ∧ NF R ∧ (∀ z, Mem z R ↔ Mem z l ∨ Mem z s) ∧ Below (w.alloc (.cells #[.slice A n c, .slice B m d] 33)).heap.size (w.alloc (.cells #[.slice A n c, .slice B m d] 33)) w' := by
  have h1 := normal_x g 0 2 [l, s] (w.alloc (.cells #[.slice A n c, .slice B m d] 33)) (by simp) (by show lenTo [l, s] 2 ≤ _; rw [lenTo_two, ← hn, ← hm]; omega) (readsLL_two hg hn hm h h2) (by show errOf (catTo [l, s] 2) = 0; rw [catTo_two]; exact h0)
  refine h1.mono fun e w' ⟨A', N', c', R, he, hN, hle, _, hr, hnf, hmm, hb⟩ => ⟨A', N', c', R, he, hN, ?_, hr, hnf, ?_, hb⟩
  · have : N' ≤ lenTo [l, s] 2 := hle
    rw [lenTo_two, ← hn, ← hm] at this; exact this
  · have hm' : ∀ n, Mem n R ↔ Mem n (catTo [l, s] 2) := hmm
    intro z
    rw [hm' z, catTo_two, mem_app]
theorem errOf_app {l s : List (Int × Int)} (h : errOf (l ++ s) = 0) : errOf l = 0 ∧ errOf s = 0 := by
  obtain ⟨h1, h2⟩ := errOf_ok h
  constructor
  · unfold errOf
    rw [List.all_eq_true.2 fun x hx => h1 x (List.mem_append_left _ hx)]
    rw [List.all_eq_true.2 fun x hx => decide_eq_true (h2 x (List.mem_append_left _ hx))]; rfl
  · unfold errOf
    rw [List.all_eq_true.2 fun x hx => h1 x (List.mem_append_right _ hx)]
    rw [List.all_eq_true.2 fun x hx => decide_eq_true (h2 x (List.mem_append_right _ hx))]; rfl

theorem sub_bound {R L : List (Int × Int)} (hn : NF R) (hm : ∀ n, Mem n R → Mem n L) (hr : ∀ x ∈ L, inR x = true) : ∀ x ∈ R, -1000000000000 ≤ x.1 ∧ x.1 ≤ x.2 ∧ x.2 ≤ 1000000000000 := by
  intro x hx
  have hh := hn.each x hx
  obtain ⟨y, hy, h1, h2⟩ := hm x.1 ⟨x, hx, Int.le_refl _, hh⟩
  obtain ⟨z, hz, h3, h4⟩ := hm x.2 ⟨x, hx, hh, Int.le_refl _⟩
  have := (inR_iff _).1 (hr y hy)
  have := (inR_iff _).1 (hr z hz)
  omega

/-- what an operation on two lists gives: a slice that reads as a normal form with the members that p says -/
def SetPost (K : Nat) (p : Int → Prop) (w : World) (e : Ending) (w' : World) : Prop := ∃ A' N' c' R, e = .returned (.tuple #[.slice A' N' c', .int .i64 0]) ∧ N' = R.length ∧ N' ≤ K ∧
  Reads w' w'.heap.size 2 A' N' (encL R) ∧ NF R ∧ (∀ z, Mem z R ↔ p z) ∧ Below w.heap.size w w'

set_option maxHeartbeats 400000 in
theorem union_ok (A B : Option Addr) (n m c d : Nat) (l s : List (Int × Int)) (w : World) (hn : n = l.length) (hm : m = s.length) (hl : n ≤ 1000) (hs : m ≤ 1000) (h : Reads w w.heap.size 2 A n (encL l)) (h2 : Reads w w.heap.size 2 B m (encL s)) (h0 : errOf (l ++ s) = 0) :
    Calls Try.prog 31 #[.slice A n c, .slice B m d] w (SetPost (n * (m + 1) + (n + m)) (fun z => Mem z l ∨ Mem z s) w) := by
  have hck := fun W g (hg : g = W.heap.size) (h : Reads W W.heap.size 2 A n (encL l)) (h2 : Reads W W.heap.size 2 B m (encL s)) => checkLists_two A B n m c d g l s W hg hn hm hl hs h h2
  have hno := fun W g (hg : g = W.heap.size) (h : Reads W W.heap.size 2 A n (encL l)) (h2 : Reads W W.heap.size 2 B m (encL s)) => normal_two A B n m c d g l s W hg hn hm hl hs h h2 h0
  rw [h0] at hck
  clear hn hm
  go_enter Try.func31, Try.ntmps31
  go_wp2_with (first
    | (go_at_call 45; refine (hck _ _ (by simp) h h2).mono ?_; rintro e w1 ⟨rfl, hb1⟩; have hbw1 : Below w.heap.size w w1 := ((Below.refl _ _).alloc (Nat.le_refl _) _).trans (bmono hb1 (by simp)); have hr1 : Reads w1 w1.heap.size 2 A n (encL l) := (h.below hbw1).more hbw1.size; have hr2 : Reads w1 w1.heap.size 2 B m (encL s) := (h2.below hbw1).more hbw1.size)
    | (go_at_call 46; refine (hno _ _ (by simp) hr1 hr2).mono ?_; rintro e w2 ⟨A', N', c', R, rfl, hN, hle, hr, hnf, hmm, hb2⟩; have HNR := Lib.hid hN; clear hN))
  go_ret2
  exact ⟨A', N', c', R, rfl, HNR.out, Nat.le_trans hle (Nat.le_add_left _ _), hr, hnf, hmm, (hbw1.alloc hbw1.size _).trans (bmono hb2 (by simp; have := hbw1.size; omega))⟩

set_option maxHeartbeats 1000000 in
theorem minus_ok (A B : Option Addr) (n m c d : Nat) (l s : List (Int × Int)) (w : World) (hn : n = l.length) (hm : m = s.length) (hl : n ≤ 1000) (hs : m ≤ 1000) (h : Reads w w.heap.size 2 A n (encL l)) (h2 : Reads w w.heap.size 2 B m (encL s)) (h0 : errOf (l ++ s) = 0) :
    Calls Try.prog 32 #[.slice A n c, .slice B m d] w (SetPost (n * (m + 1) + (n + m)) (fun z => Mem z l ∧ ¬ Mem z s) w) := by
  obtain ⟨h01, h02⟩ := errOf_app h0
  have hck := fun W g (hg : g = W.heap.size) (h : Reads W W.heap.size 2 A n (encL l)) (h2 : Reads W W.heap.size 2 B m (encL s)) => checkLists_two A B n m c d g l s W hg hn hm hl hs h h2
  have hno := fun W g (hg : g = W.heap.size) (h : Reads W W.heap.size 2 A n (encL l)) => normal_one A n c g l W hg hn hl h h01
  have hno2 := fun W g (hg : g = W.heap.size) (h : Reads W W.heap.size 2 B m (encL s)) => normal_one B m d g s W hg hm hs h h02
  have OK1 := Lib.hid (errOf_ok h01); have OK2 := Lib.hid (errOf_ok h02)
  rw [h0] at hck
  clear hn hm h0 h01 h02
  go_enter Try.func32, Try.ntmps32
  go_wp2_with fail
  refine (hck _ _ (by simp) h h2).mono ?_
  rintro e w1 ⟨rfl, hb1⟩
  have hbw1 : Below w.heap.size w w1 := ((Below.refl _ _).alloc (Nat.le_refl _) _).trans (bmono hb1 (by simp))
  have hr1 : Reads w1 w1.heap.size 2 A n (encL l) := (h.below hbw1).more hbw1.size
  have hr2 : Reads w1 w1.heap.size 2 B m (encL s) := (h2.below hbw1).more hbw1.size
  go_wp2_with fail
  refine (hno _ _ (by simp) hr1).mono ?_
  rintro e w2 ⟨A1, N1, c1, R1, rfl, hN1, hle1, hcp1, hrd1, hnf1, hm1, hb2⟩
  have hbw2 : Below w.heap.size w w2 := (hbw1.alloc hbw1.size _).trans (bmono hb2 (by simp; have := hbw1.size; omega))
  have hr3 : Reads w2 w2.heap.size 2 B m (encL s) := (h2.below hbw2).more hbw2.size
  have HN1 := Lib.hid hN1; clear hN1
  go_wp2_with fail
  refine (hno2 _ _ (by simp) hr3).mono ?_
  rintro e w3 ⟨A2, N2, c2, R2, rfl, hN2, hle2, hcp2, hrd2, hnf2, hm2, hb3⟩
  have hbw3 : Below w.heap.size w w3 := (hbw2.alloc hbw2.size _).trans (bmono hb3 (by simp; have := hbw2.size; omega))
  have HN2 := Lib.hid hN2; clear hN2
  have hrd3 : Reads w3 w3.heap.size 2 A1 N1 (encL R1) := ((hrd1.alloc (Nat.le_refl _) _).below (bmono hb3 (by simp))).more (by have := hb3.size; simp at this; omega)
  have hib1 := nf_bound hnf1 hm1 OK1.out.1
  have hib2 := nf_bound hnf2 hm2 OK2.out.1
  have H1 := Lib.hid hib1; have H2 := Lib.hid hib2; have HM1 := Lib.hid hm1; have HM2 := Lib.hid hm2
  clear hib1 hib2 hm1 hm2
  go_wp2_with fail
  refine (difference_any A1 A2 N1 N2 c1 c2 R1 R2 w3 HN1.out HN2.out hcp2 (by omega) (by omega) H1.out H2.out hrd3 hrd2).mono ?_
  rintro e w4 ⟨A3, N3, c3, R3, rfl, hN3, hR3, hrd4, hb4⟩
  have HN3 := Lib.hid hN3; have HR3 := Lib.hid hR3; clear hN3 hR3
  go_wp2
  go_ret2
  obtain ⟨s1, s2⟩ := dif_spec R1 R2 hnf1 hnf2
  refine ⟨A3, N3, c3, R3, rfl, HN3.out, ?_, hrd4, by rw [HR3.out]; exact s1, fun z => by rw [HR3.out, s2, HM1.out, HM2.out], hbw3.trans (bmono hb4 hbw3.size)⟩
  have h3 := HN3.out
  have h4 := dif_len R1 R2
  rw [← HR3.out, ← h3, ← HN1.out, ← HN2.out] at h4
  exact Nat.le_trans h4 (Nat.le_trans (Nat.mul_le_mul hle1 (Nat.succ_le_succ hle2)) (Nat.le_add_right _ _))

set_option maxHeartbeats 1000000 in
theorem common_ok (A B : Option Addr) (n m c d : Nat) (l s : List (Int × Int)) (w : World) (hn : n = l.length) (hm : m = s.length) (hl : n ≤ 1000) (hs : m ≤ 1000) (h : Reads w w.heap.size 2 A n (encL l)) (h2 : Reads w w.heap.size 2 B m (encL s)) (h0 : errOf (l ++ s) = 0) :
    Calls Try.prog 33 #[.slice A n c, .slice B m d] w (SetPost (n * (m + 1) + (n + m)) (fun z => Mem z l ∧ Mem z s) w) := by
  obtain ⟨h01, h02⟩ := errOf_app h0
  have hck := fun W g (hg : g = W.heap.size) (h : Reads W W.heap.size 2 A n (encL l)) (h2 : Reads W W.heap.size 2 B m (encL s)) => checkLists_two A B n m c d g l s W hg hn hm hl hs h h2
  have hno := fun W g (hg : g = W.heap.size) (h : Reads W W.heap.size 2 A n (encL l)) => normal_one A n c g l W hg hn hl h h01
  have hno2 := fun W g (hg : g = W.heap.size) (h : Reads W W.heap.size 2 B m (encL s)) => normal_one B m d g s W hg hm hs h h02
  have OK1 := Lib.hid (errOf_ok h01); have OK2 := Lib.hid (errOf_ok h02)
  rw [h0] at hck
  clear hn hm h0 h01 h02
  go_enter Try.func33, Try.ntmps33
  go_wp2_with fail
  refine (hck _ _ (by simp) h h2).mono ?_
  rintro e w1 ⟨rfl, hb1⟩
  have hbw1 : Below w.heap.size w w1 := ((Below.refl _ _).alloc (Nat.le_refl _) _).trans (bmono hb1 (by simp))
  have hr1 : Reads w1 w1.heap.size 2 A n (encL l) := (h.below hbw1).more hbw1.size
  have hr2 : Reads w1 w1.heap.size 2 B m (encL s) := (h2.below hbw1).more hbw1.size
  go_wp2_with fail
  refine (hno _ _ (by simp) hr1).mono ?_
  rintro e w2 ⟨A1, N1, c1, R1, rfl, hN1, hle1, hcp1, hrd1, hnf1, hm1, hb2⟩
  have hbw2 : Below w.heap.size w w2 := (hbw1.alloc hbw1.size _).trans (bmono hb2 (by simp; have := hbw1.size; omega))
  have hr3 : Reads w2 w2.heap.size 2 B m (encL s) := (h2.below hbw2).more hbw2.size
  have HN1 := Lib.hid hN1; clear hN1
  go_wp2_with fail
  refine (hno2 _ _ (by simp) hr3).mono ?_
  rintro e w3 ⟨A2, N2, c2, R2, rfl, hN2, hle2, hcp2, hrd2, hnf2, hm2, hb3⟩
  have hbw3 : Below w.heap.size w w3 := (hbw2.alloc hbw2.size _).trans (bmono hb3 (by simp; have := hbw2.size; omega))
  have HN2 := Lib.hid hN2; clear hN2
  have hrd3 : Reads w3 w3.heap.size 2 A1 N1 (encL R1) := ((hrd1.alloc (Nat.le_refl _) _).below (bmono hb3 (by simp))).more (by have := hb3.size; simp at this; omega)
  have hib1 := nf_bound hnf1 hm1 OK1.out.1
  have hib2 := nf_bound hnf2 hm2 OK2.out.1
  have H1 := Lib.hid hib1; have H2 := Lib.hid hib2; have HM1 := Lib.hid hm1; have HM2 := Lib.hid hm2
  clear hib1 hib2 hm1 hm2
  go_wp2_with fail
  refine (common_any A1 A2 N1 N2 c1 c2 R1 R2 w3 HN1.out HN2.out hcp1 hcp2 (by omega) (by omega) hrd3 hrd2).mono ?_
  rintro e w4 ⟨A3, N3, c3, R3, rfl, hN3, hR3, hrd4, hb4⟩
  have HN3 := Lib.hid hN3; have HR3 := Lib.hid hR3; clear hN3 hR3
  go_wp2
  go_ret2
  obtain ⟨s1, s2⟩ := com_spec _ R1 R2 (Nat.le_refl _) hnf1 hnf2
  refine ⟨A3, N3, c3, R3, rfl, HN3.out, ?_, hrd4, by rw [HR3.out]; exact s1, fun z => by rw [HR3.out, s2, HM1.out, HM2.out], hbw3.trans (bmono hb4 hbw3.size)⟩
  have h3 := HN3.out
  have h4 := com_len _ R1 R2 (Nat.le_refl _)
  rw [← HR3.out, ← h3, ← HN1.out, ← HN2.out] at h4
  exact Nat.le_trans h4 (Nat.le_trans (Nat.add_le_add hle1 hle2) (Nat.le_add_left _ _))

set_option maxHeartbeats 1000000 in
theorem in_any (A : Option Addr) (n c : Nat) (l : List (Int × Int)) (z : Int) (w : World) (hn : n = l.length) (hl : n ≤ 10000000) (hr : Reads w w.heap.size 2 A n (encL l)) :
    Calls Try.prog 38 #[.slice A n c, .int .i64 z] w fun e w' => e = .returned (.bool (l.any fun x => contS x z)) ∧ Below w.heap.size w w' := by
  have HN := Lib.hid hn; clear hn
  go_enter Try.func38, Try.ntmps38
  go_wp2
  go_loopw [5] (fun i wr => ∃ k : Nat, k ≤ n ∧ i = .int .i64 k ∧ (∀ j, j < k → contS (iv l j) z = false) ∧ Below w.heap.size w wr) (fun i _ => n - (intOf i).toNat)
  case atStart => exact ⟨0, Nat.zero_le _, rfl, fun j hj => absurd hj (Nat.not_lt_zero _), Below.refl _ _⟩
  case round =>
    obtain ⟨k, hk, rfl, hj, hbw⟩ := hrel
    have HJ : Hid (∀ j, j < k → contS (iv l j) z = false) := Lib.hid hj
    clear hj
    have hz := hbw.size
    by_cases hlt : k < n
    · have hltl : k < l.length := by rw [← HN.out]; exact hlt
      obtain ⟨ad, rfl, hb, c1, c2⟩ := (hr.below hbw).iv HN.out hltl
      have hcon := fun W => refContains_any (iv l k) z W
      by_cases hin : contS (iv l k) z = true
      · rw [hin] at hcon
        have HIN := Lib.hid hin; clear hin
        go_wp2_with (go_at_call 14; refine (hcon _).mono ?_; rintro e w' ⟨rfl, hb2⟩)
        go_ret
        exact ⟨ret_bool (List.any_eq_true.2 ⟨_, iv_mem hltl, HIN.out⟩).symm, hbw.trans (bmono hb2 hz)⟩
      · have hin' : contS (iv l k) z = false := by simpa using hin
        rw [hin'] at hcon
        have HIN := Lib.hid hin'; clear hin hin'
        go_wp2_with (go_at_call 14; refine (hcon _).mono ?_; rintro e w' ⟨rfl, hb2⟩)
        go_roundw
        case rel => exact ⟨k + 1, by omega, by go_num, fun j hj => by rcases Nat.lt_succ_iff_lt_or_eq.1 hj with h | h; exact HJ.out j h; rw [h]; exact HIN.out, hbw.trans (bmono hb2 hz)⟩
        case measure => simp [intOf]; omega
    · obtain rfl : k = n := by omega
      have hany : (l.any fun x => contS x z) = false := by
        rw [List.any_eq_false]
        intro x hx
        obtain ⟨i, hi, rfl⟩ := List.getElem_of_mem hx
        have := HJ.out i (by rw [HN.out]; exact hi)
        rw [iv_eq hi] at this
        simp [this]
      have HA := Lib.hid hany; clear hany
      go_wp2
      go_ret
      exact ⟨ret_bool HA.out.symm, hbw⟩

def nfB (l : List (Int × Int)) : Bool := (List.range l.length).all fun i => decide ((iv l i).1 ≤ (iv l i).2) && (i == 0 || decide ((iv l (i - 1)).2 + 2 ≤ (iv l i).1))
theorem NF.at : ∀ {l : List (Int × Int)}, NF l → ∀ i, i + 1 < l.length → (iv l i).2 + 1 < (iv l (i + 1)).1
  | [], _, i, h => absurd h (by simp)
  | x :: r, hn, 0, h => by
    have h1 : 0 < r.length := by simpa using h
    have := (hn.gap (iv r 0) (iv_mem h1)).1
    simpa [iv] using this
  | x :: r, hn, i + 1, h => by
    have := NF.at hn.tail i (by simpa using h)
    simpa [iv] using this

set_option maxHeartbeats 2000000 in
theorem lawNormal_ok (A : Option Addr) (n c : Nat) (l : List (Int × Int)) (w : World) (hn : n = l.length) (hl : n ≤ 10000000) (hnf : NF l) (hbd : ∀ x ∈ l, -1000000000000 ≤ x.1 ∧ x.1 ≤ x.2 ∧ x.2 ≤ 1000000000000) (hr : Reads w w.heap.size 2 A n (encL l)) :
    Calls Try.prog 39 #[.slice A n c] w fun e w' => e = .returned (.bool true) ∧ Below w.heap.size w w' := by
  have HN := Lib.hid hn; have HB := Lib.hid hbd; have HF := Lib.hid hnf; clear hn hbd hnf
  go_enter Try.func39, Try.ntmps39
  go_wp2
  go_loopw [3] (fun i wr => ∃ k : Nat, k ≤ n ∧ i = .int .i64 k ∧ Below w.heap.size w wr) (fun i _ => n - (intOf i).toNat)
  case atStart => exact ⟨0, Nat.zero_le _, rfl, Below.refl _ _⟩
  case round =>
    obtain ⟨k, hk, rfl, hbw⟩ := hrel
    by_cases hlt : k < n
    · have hltl : k < l.length := by rw [← HN.out]; exact hlt
      obtain ⟨ad, rfl, hb, c1, c2⟩ := (hr.below hbw).iv HN.out hltl
      obtain ⟨b1, b2, b3⟩ := HB.out _ (iv_mem hltl)
      rcases Nat.eq_zero_or_pos k with h0 | h0
      · subst h0
        have g1 : decide ((iv l 0).2 < (iv l 0).1) = false := by simpa using b2
        rw [show 0 * 2 = 0 from rfl, Addr.add_zero'] at c1 c2
        have k1 : (0 : Int) < (n : Int) := by omega
        go_wp2
        go_quiet (fail)
        go_wp2
        go_roundw
        case rel => exact ⟨1, by omega, by go_num, below_drewN hbw _⟩
        case measure => simp [intOf]; omega
      · obtain ⟨q, rfl⟩ : ∃ q, k = q + 1 := ⟨k - 1, by omega⟩
        have hql : q < l.length := by omega
        obtain ⟨_, hA, _, d1, d2⟩ := (hr.below hbw).iv HN.out hql
        injection hA with hA
        subst hA
        have hgap := HF.out.at q hltl
        obtain ⟨e1, e2, e3⟩ := HB.out _ (iv_mem hql)
        generalize iv l (q + 1) = x at c1 c2 b1 b2 b3 hgap
        generalize iv l q = y at d1 d2 hgap e1 e2 e3
        have hq0 : (0 : Int) ≤ (q : Int) := Int.natCast_nonneg _
        have hq1 : (q : Int) < (n : Int) := by omega
        have hq2 : (q : Int) + 1 < (n : Int) := by omega
        have hq3 : (0 : Int) ≤ (q : Int) + 1 := by omega
        have g1 : decide (x.2 < x.1) = false := by simpa using b2
        have g2 : decide ((0 : Int) < (q : Int) + 1) = true := by simp <;> omega
        have g3 : decide (x.1 < y.2 + 2) = false := by simp <;> omega
        go_wp2
        go_quiet (fail)
        go_wp2
        go_roundw
        case rel => exact ⟨q + 1 + 1, by omega, by go_num, below_drewN hbw _⟩
        case measure => simp [intOf]; omega
    · obtain rfl : k = n := by omega
      go_wp2
      go_ret
      exact ⟨rfl, hbw⟩
end Go.Proofs.Ytnpdmohclajmjaa
