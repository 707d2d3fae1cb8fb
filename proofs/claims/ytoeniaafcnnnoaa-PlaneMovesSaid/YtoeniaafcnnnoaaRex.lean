/- The walks of the reference's Extremes, Side and Depth. The half-space and the box are valid. -/
import Derived.Test.YtoeniaafcnnnoaaCrn
namespace Go.Proofs.Ytoeniaafcnnnoaa
open Go.RowKit

def mnV (v : Nat → Int) : Nat → Int
  | 0 => v 0
  | n + 1 => if v (n + 1) < mnV v n then v (n + 1) else mnV v n
def mxV (v : Nat → Int) : Nat → Int
  | 0 => v 0
  | n + 1 => if mxV v n < v (n + 1) then v (n + 1) else mxV v n
theorem mnV_spec (v : Nat → Int) (m : Int) : ∀ n, (∀ j, j ≤ n → m ≤ v j) → (∃ j, j ≤ n ∧ v j = m) → mnV v n = m
  | 0, _, ⟨j, hj, e⟩ => by
    obtain rfl : j = 0 := by omega
    exact e
  | n + 1, h, ⟨j, hj, e⟩ => by
    unfold mnV
    have h1 := h (n + 1) (Nat.le_refl _)
    have lo : ∀ n', (∀ j, j ≤ n' → m ≤ v j) → m ≤ mnV v n' := by
      intro n'
      induction n' with
      | zero => intro hh; exact hh 0 (Nat.le_refl _)
      | succ q ih =>
        intro hh
        have := ih (fun j hj => hh j (by omega))
        have := hh (q + 1) (Nat.le_refl _)
        unfold mnV; split <;> omega
    have h2 := lo n (fun j hj => h j (by omega))
    rcases Nat.lt_or_ge j (n + 1) with hj' | hj'
    · have ih := mnV_spec v m n (fun j hj => h j (by omega)) ⟨j, by omega, e⟩
      rw [ih]; split <;> omega
    · obtain rfl : j = n + 1 := by omega
      split <;> omega
theorem mxV_spec (v : Nat → Int) (m : Int) : ∀ n, (∀ j, j ≤ n → v j ≤ m) → (∃ j, j ≤ n ∧ v j = m) → mxV v n = m
  | 0, _, ⟨j, hj, e⟩ => by
    obtain rfl : j = 0 := by omega
    exact e
  | n + 1, h, ⟨j, hj, e⟩ => by
    unfold mxV
    have h1 := h (n + 1) (Nat.le_refl _)
    have lo : ∀ n', (∀ j, j ≤ n' → v j ≤ m) → mxV v n' ≤ m := by
      intro n'
      induction n' with
      | zero => intro hh; exact hh 0 (Nat.le_refl _)
      | succ q ih =>
        intro hh
        have := ih (fun j hj => hh j (by omega))
        have := hh (q + 1) (Nat.le_refl _)
        unfold mxV; split <;> omega
    have h2 := lo n (fun j hj => h j (by omega))
    rcases Nat.lt_or_ge j (n + 1) with hj' | hj'
    · have ih := mxV_spec v m n (fun j hj => h j (by omega)) ⟨j, by omega, e⟩
      rw [ih]; split <;> omega
    · obtain rfl : j = n + 1 := by omega
      split <;> omega
def cvl (a b c d x y z p q r : Int) (j : Nat) : Int := valS a b c d (tv (cors x y z p q r) j).1 (tv (cors x y z p q r) j).2.1 (tv (cors x y z p q r) j).2.2
theorem seven {j : Nat} (h : j ≤ 7) : j = 0 ∨ j = 1 ∨ j = 2 ∨ j = 3 ∨ j = 4 ∨ j = 5 ∨ j = 6 ∨ j = 7 := by omega
theorem mn_lo (a b c d x y z p q r : Int) : mnV (cvl a b c d x y z p q r) 7 = loS a b c d x y z p q r := by
  refine mnV_spec _ _ 7 (fun j hj => ?_) ?_
  · rcases seven hj with rfl | rfl | rfl | rfl | rfl | rfl | rfl | rfl
    all_goals
      simp only [cvl, tv, cors, valS, loS, List.getD_cons_zero, List.getD_cons_succ]
      generalize a * x = A; generalize a * p = P; generalize b * y = B; generalize b * q = Q; generalize c * z = C; generalize c * r = R
      unfold loI
      (repeat' split) <;> omega
  · have key : ∀ A P B Q C R : Int, (A + B + C - d = -d + loI A P + loI B Q + loI C R) ∨ (P + B + C - d = -d + loI A P + loI B Q + loI C R) ∨ (A + Q + C - d = -d + loI A P + loI B Q + loI C R) ∨ (P + Q + C - d = -d + loI A P + loI B Q + loI C R) ∨
        (A + B + R - d = -d + loI A P + loI B Q + loI C R) ∨ (P + B + R - d = -d + loI A P + loI B Q + loI C R) ∨ (A + Q + R - d = -d + loI A P + loI B Q + loI C R) ∨ (P + Q + R - d = -d + loI A P + loI B Q + loI C R) := by
      intro A P B Q C R
      unfold loI
      (repeat' split) <;> omega
    rcases key (a * x) (a * p) (b * y) (b * q) (c * z) (c * r) with h | h | h | h | h | h | h | h
    · exact ⟨0, by omega, h⟩
    · exact ⟨1, by omega, h⟩
    · exact ⟨2, by omega, h⟩
    · exact ⟨3, by omega, h⟩
    · exact ⟨4, by omega, h⟩
    · exact ⟨5, by omega, h⟩
    · exact ⟨6, by omega, h⟩
    · exact ⟨7, by omega, h⟩
theorem mx_hi (a b c d x y z p q r : Int) : mxV (cvl a b c d x y z p q r) 7 = hiS a b c d x y z p q r := by
  refine mxV_spec _ _ 7 (fun j hj => ?_) ?_
  · rcases seven hj with rfl | rfl | rfl | rfl | rfl | rfl | rfl | rfl
    all_goals
      simp only [cvl, tv, cors, valS, hiS, List.getD_cons_zero, List.getD_cons_succ]
      generalize a * x = A; generalize a * p = P; generalize b * y = B; generalize b * q = Q; generalize c * z = C; generalize c * r = R
      unfold hiI
      (repeat' split) <;> omega
  · have key : ∀ A P B Q C R : Int, (A + B + C - d = -d + hiI A P + hiI B Q + hiI C R) ∨ (P + B + C - d = -d + hiI A P + hiI B Q + hiI C R) ∨ (A + Q + C - d = -d + hiI A P + hiI B Q + hiI C R) ∨ (P + Q + C - d = -d + hiI A P + hiI B Q + hiI C R) ∨
        (A + B + R - d = -d + hiI A P + hiI B Q + hiI C R) ∨ (P + B + R - d = -d + hiI A P + hiI B Q + hiI C R) ∨ (A + Q + R - d = -d + hiI A P + hiI B Q + hiI C R) ∨ (P + Q + R - d = -d + hiI A P + hiI B Q + hiI C R) := by
      intro A P B Q C R
      unfold hiI
      (repeat' split) <;> omega
    rcases key (a * x) (a * p) (b * y) (b * q) (c * z) (c * r) with h | h | h | h | h | h | h | h
    · exact ⟨0, by omega, h⟩
    · exact ⟨1, by omega, h⟩
    · exact ⟨2, by omega, h⟩
    · exact ⟨3, by omega, h⟩
    · exact ⟨4, by omega, h⟩
    · exact ⟨5, by omega, h⟩
    · exact ⟨6, by omega, h⟩
    · exact ⟨7, by omega, h⟩
theorem cors_in {x y z p q r : Int} (hx : inC x = true) (hy : inC y = true) (hz : inC z = true) (hp : inC p = true) (hq : inC q = true) (hr : inC r = true) {j : Nat} (h : j ≤ 7) :
    inV (tv (cors x y z p q r) j).1 (tv (cors x y z p q r) j).2.1 (tv (cors x y z p q r) j).2.2 = true := by
  rcases seven h with rfl | rfl | rfl | rfl | rfl | rfl | rfl | rfl <;> simp [tv, cors, inV, *]
theorem keepsB {wd : World} {f : FuncId} {args : Array Value} {v : Value} (h : ∀ W, Calls Try.prog f args W fun e w' => e = .returned v ∧ Below W.heap.size W w') :
    ∀ W, Below wd.heap.size wd W → Calls Try.prog f args W fun e w' => e = .returned v ∧ Below wd.heap.size wd w' :=
  fun W hk => (h W).mono fun _ _ ⟨he, hb⟩ => ⟨he, hk.trans (bmono hb hk.size)⟩
theorem add0 (a : Addr) : a.add 0 = a := by unfold Addr.add; rfl
theorem cors_len (x y z p q r : Int) : (cors x y z p q r).length = 8 := rfl

set_option maxHeartbeats 8000000 in
set_option maxRecDepth 100000 in
theorem rExtremes_gen (a b c d x y z p q r : Int) (l : List (Int × Int × Int)) (v : Nat → Int) (hl : l.length = 8)
    (hcor : ∀ w, Calls Try.prog 57 #[.agg #[.int .i64 x, .int .i64 y, .int .i64 z, .int .i64 p, .int .i64 q, .int .i64 r]] w fun e w' => ∃ A c, e = .returned (.slice A 8 c) ∧ Reads w' w'.heap.size 3 A 8 (encTs l) ∧ Below w.heap.size w w')
    (hval : ∀ j, j ≤ 7 → ∀ w, Calls Try.prog 22 #[.agg #[.int .i64 a, .int .i64 b, .int .i64 c, .int .i64 d], .agg #[.int .i64 (tv l j).1, .int .i64 (tv l j).2.1, .int .i64 (tv l j).2.2]] w fun e w' => e = .returned (.int .i64 (v j)) ∧ Below w.heap.size w w') (w : World) :
    Calls Try.prog 26 #[.agg #[.int .i64 a, .int .i64 b, .int .i64 c, .int .i64 d], .agg #[.int .i64 x, .int .i64 y, .int .i64 z, .int .i64 p, .int .i64 q, .int .i64 r]] w fun e w' => e = .returned (.tuple #[.int .i64 (mnV v 7), .int .i64 (mxV v 7)]) ∧ Below w.heap.size w w' := by
  have HV := Lib.hid hval
  clear hval
  go_enter Try.func26, Try.ntmps26
  go_wp2_with (go_at_call 57; refine (hcor _).mono ?_; rintro e w1 ⟨A, cp, rfl, hr, hb1⟩; obtain ⟨hc1, hf1⟩ := bcell hb1; have hz1 := hb1.size; (try simp at hz1))
  have HR := Lib.hid hr
  have hall : ∀ W, Below w1.heap.size w1 W → (Below w1.heap.size w1 W ∧ w.heap.size < W.heap.size ∧ W.cell? ⟨w.heap.size, 0, none⟩ = some (.int .i64 a) ∧ W.cell? ⟨w.heap.size, 1, none⟩ = some (.int .i64 b) ∧ W.cell? ⟨w.heap.size, 2, none⟩ = some (.int .i64 c) ∧ W.cell? ⟨w.heap.size, 3, none⟩ = some (.int .i64 d)) := by
    intro W hW
    have hB : Blk w1 w.heap.size 32 #[.int .i64 a, .int .i64 b, .int .i64 c, .int .i64 d] := ((Blk.new2 rfl).alloc _).below hb1 (by simp <;> omega)
    have hs := hW.size
    exact ⟨hW, by omega, blk4 (hB.below hW (by omega))⟩
  have hbw : ∀ W, Below w1.heap.size w1 W → Below w.heap.size w W := by
    intro W hW
    exact ((((Below.refl _ _).alloc (Nat.le_refl _) _).alloc (by simp) _).trans (bmono hb1 (by simp <;> omega))).trans (bmono hW (by omega))
  clear hr hcor hb1 hc1 hf1
  obtain ⟨ad, rfl, hab, _, _, _⟩ := HR.out.tv (k := 0) hl.symm (by omega)
  have q0 : ∀ W, Below w1.heap.size w1 W → Calls Try.prog 22 #[.agg #[.int .i64 a, .int .i64 b, .int .i64 c, .int .i64 d], .agg #[.int .i64 (tv l 0).1, .int .i64 (tv l 0).2.1, .int .i64 (tv l 0).2.2]] W _ := keepsB (HV.out 0 (by omega))
  have hcl : ∀ W, Below w1.heap.size w1 W → (fun W => Below w1.heap.size w1 W ∧ (w.heap.size < W.heap.size ∧ W.cell? ⟨w.heap.size, 0, none⟩ = some (.int .i64 a) ∧ W.cell? ⟨w.heap.size, 1, none⟩ = some (.int .i64 b) ∧ W.cell? ⟨w.heap.size, 2, none⟩ = some (.int .i64 c) ∧ W.cell? ⟨w.heap.size, 3, none⟩ = some (.int .i64 d)) ∧
      W.cell? ad = some (.int .i64 (tv l 0).1) ∧ W.cell? ⟨ad.block, ad.off + 1, none⟩ = some (.int .i64 (tv l 0).2.1) ∧ W.cell? ⟨ad.block, ad.off + 2, none⟩ = some (.int .i64 (tv l 0).2.2)) W := by
    intro W hW
    have h1 := hall W hW
    obtain ⟨ad', e, h2, h3, h4, h5⟩ := (HR.out.below hW).tv (k := 0) hl.symm (by omega)
    injection e with e
    subst e
    rw [Nat.zero_mul, add0] at h3 h4 h5
    exact ⟨hW, h1.2, h3, h4, h5⟩
  have hc0 := hcl w1 (Below.refl _ _)
  go_region_held3 (fun W => Below w1.heap.size w1 W ∧ (w.heap.size < W.heap.size ∧ W.cell? ⟨w.heap.size, 0, none⟩ = some (.int .i64 a) ∧ W.cell? ⟨w.heap.size, 1, none⟩ = some (.int .i64 b) ∧ W.cell? ⟨w.heap.size, 2, none⟩ = some (.int .i64 c) ∧ W.cell? ⟨w.heap.size, 3, none⟩ = some (.int .i64 d)) ∧
      W.cell? ad = some (.int .i64 (tv l 0).1) ∧ W.cell? ⟨ad.block, ad.off + 1, none⟩ = some (.int .i64 (tv l 0).2.1) ∧ W.cell? ⟨ad.block, ad.off + 2, none⟩ = some (.int .i64 (tv l 0).2.2))
    (first | exact hcl _ ‹_› | exact hcl _ (Below.drew ‹_›) | exact hcl _ (Below.drew (Below.refl _ _)) | exact hcl _ (Below.refl _ _))
    ((go_at_call 22; refine (q0 _ ?_).mono ?_; (first | assumption | exact And.left ‹_›); rintro e w2 ⟨rfl, hk2⟩))
  clear q0 hc0
  have hB2 : Below w1.heap.size w1 w2 := hk2
  clear hcl
  go_wp2
  go_loopw [9, 7, 8] (fun i s t W => ∃ k n : Nat, k ≤ 8 ∧ k = n + 1 ∧ i = .int .i64 k ∧ s = .int .i64 (mnV v n) ∧ t = .int .i64 (mxV v n) ∧ Below w1.heap.size w1 W) (fun i _ _ _ => 8 - (intOf i).toNat)
  case atStart => exact ⟨1, 0, by omega, rfl, rfl, rfl, rfl, by first | exact hB2 | exact below_drewN hB2 _ | exact Below.drew hB2⟩
  case round =>
    obtain ⟨k, n, hk, hkn, rfl, rfl, rfl, hb⟩ := hrel
    rcases Nat.lt_or_ge k 8 with hlt | hge
    · have q1 : ∀ W, Below w1.heap.size w1 W → Calls Try.prog 22 #[.agg #[.int .i64 a, .int .i64 b, .int .i64 c, .int .i64 d], .agg #[.int .i64 (tv l k).1, .int .i64 (tv l k).2.1, .int .i64 (tv l k).2.2]] W _ := keepsB (HV.out k (by omega))
      have hcl : ∀ W, Below w1.heap.size w1 W → (fun W => Below w1.heap.size w1 W ∧ (w.heap.size < W.heap.size ∧ W.cell? ⟨w.heap.size, 0, none⟩ = some (.int .i64 a) ∧ W.cell? ⟨w.heap.size, 1, none⟩ = some (.int .i64 b) ∧ W.cell? ⟨w.heap.size, 2, none⟩ = some (.int .i64 c) ∧ W.cell? ⟨w.heap.size, 3, none⟩ = some (.int .i64 d)) ∧ W.cell? (ad.add (k * 3)) = some (.int .i64 (tv l k).1) ∧ W.cell? ⟨(ad.add (k * 3)).block, (ad.add (k * 3)).off + 1, none⟩ = some (.int .i64 (tv l k).2.1) ∧ W.cell? ⟨(ad.add (k * 3)).block, (ad.add (k * 3)).off + 2, none⟩ = some (.int .i64 (tv l k).2.2)) W := by
        intro W hW
        have h1 := hall W hW
        obtain ⟨ad', e, h2, h3, h4, h5⟩ := (HR.out.below hW).tv (k := k) hl.symm (by omega)
        injection e with e
        subst e
        exact ⟨hW, h1.2, h3, h4, h5⟩
      have hc0 := hcl _ hb
      have i1 : (0 : Int) ≤ (k : Int) := by omega
      have i2 : (k : Int) < 8 := by omega
      have HKN := Lib.hid hkn
      clear hkn
      obtain ⟨m1, hm1⟩ : ∃ m, m = mnV v n := ⟨_, rfl⟩
      obtain ⟨m2, hm2⟩ : ∃ m, m = mxV v n := ⟨_, rfl⟩
      obtain ⟨vk, hvk⟩ : ∃ m, m = v k := ⟨_, rfl⟩
      rw [← hvk] at q1
      rw [← hm1, ← hm2]
      have HM1 := Lib.hid hm1
      have HM2 := Lib.hid hm2
      have HVK := Lib.hid hvk
      clear hm1 hm2 hvk hall hbw HR HV
      rcases Int.lt_or_le vk m1 with d1 | d1 <;> rcases Int.lt_or_le m2 vk with d2 | d2
      all_goals
        go_wp2
        go_region_held3 (fun W => Below w1.heap.size w1 W ∧ (w.heap.size < W.heap.size ∧ W.cell? ⟨w.heap.size, 0, none⟩ = some (.int .i64 a) ∧ W.cell? ⟨w.heap.size, 1, none⟩ = some (.int .i64 b) ∧ W.cell? ⟨w.heap.size, 2, none⟩ = some (.int .i64 c) ∧ W.cell? ⟨w.heap.size, 3, none⟩ = some (.int .i64 d)) ∧ W.cell? (ad.add (k * 3)) = some (.int .i64 (tv l k).1) ∧ W.cell? ⟨(ad.add (k * 3)).block, (ad.add (k * 3)).off + 1, none⟩ = some (.int .i64 (tv l k).2.1) ∧ W.cell? ⟨(ad.add (k * 3)).block, (ad.add (k * 3)).off + 2, none⟩ = some (.int .i64 (tv l k).2.2))
          (first | exact hcl _ ‹_› | exact hcl _ (Below.drew ‹_›))
          ((go_at_call 22; refine (q1 _ ?_).mono ?_; (first | assumption | exact And.left ‹_›); rintro e w3 ⟨rfl, hk3⟩))
        all_goals
          have hB3 : Below w1.heap.size w1 w3 := hk3
          clear q1 hc0 hcl
          go_wp2
          all_goals
            go_roundw
            case rel => exact ⟨k + 1, k, by omega, rfl, by go_num, ret_val (by have e1 := HKN.out; have e2 := HVK.out; have e3 := HM1.out; subst e1; simp only [mnV]; first | (rw [← e2, ← e3]; done) | (rw [← e2, ← e3]; split <;> omega)), ret_val (by have e1 := HKN.out; have e2 := HVK.out; have e3 := HM2.out; subst e1; simp only [mxV]; first | (rw [← e2, ← e3]; done) | (rw [← e2, ← e3]; split <;> omega)), by first | exact hB3 | exact Below.drew hB3⟩
            case measure => simp [intOf]; omega
    · obtain rfl : k = 8 := by omega
      obtain rfl : n = 7 := by omega
      have hB := hbw _ hb
      clear hall hbw HR HV
      go_wp2
      go_ret2
      exact ⟨rfl, hB⟩
theorem rExtremes_in (a b c d x y z p q r : Int) (h : eHB a b c d x y z p q r = 0) (w : World) :
    Calls Try.prog 26 #[.agg #[.int .i64 a, .int .i64 b, .int .i64 c, .int .i64 d], .agg #[.int .i64 x, .int .i64 y, .int .i64 z, .int .i64 p, .int .i64 q, .int .i64 r]] w fun e w' => e = .returned (.tuple #[.int .i64 (loS a b c d x y z p q r), .int .i64 (hiS a b c d x y z p q r)]) ∧ Below w.heap.size w w' := by
  have v := val_of h
  have hok := (eH_zero (eHB_zero h).1).1
  have := rExtremes_gen a b c d x y z p q r (cors x y z p q r) (cvl a b c d x y z p q r) rfl (corners_any x y z p q r)
    (fun j hj => rvalue_in a b c d _ _ _ hok (cors_in v.cx v.cy v.cz v.cp v.cq v.cr hj)) w
  rwa [mn_lo, mx_hi] at this
set_option maxHeartbeats 1000000 in
theorem rSide_in (a b c d x y z p q r : Int) (h : eHB a b c d x y z p q r = 0) (w : World) :
    Calls Try.prog 27 #[.agg #[.int .i64 a, .int .i64 b, .int .i64 c, .int .i64 d], .agg #[.int .i64 x, .int .i64 y, .int .i64 z, .int .i64 p, .int .i64 q, .int .i64 r]] w fun e w' => e = .returned (.int .i64 (sideI (loS a b c d x y z p q r) (hiS a b c d x y z p q r))) ∧ Below w.heap.size w w' := by
  have h2 := rExtremes_in a b c d x y z p q r h
  clear h
  generalize loS a b c d x y z p q r = s at h2 ⊢
  generalize hiS a b c d x y z p q r = t at h2 ⊢
  have cases : (t ≤ 0 ∧ sideI s t = 1) ∨ (0 < t ∧ 0 ≤ s ∧ sideI s t = 2) ∨ (0 < t ∧ s < 0 ∧ sideI s t = 3) := by
    unfold sideI; (repeat' split) <;> omega
  rcases cases with ⟨c1, c2⟩ | ⟨c1, c3, c2⟩ | ⟨c1, c3, c2⟩
  all_goals
    rw [c2]
    clear c2
    go_enter Try.func27, Try.ntmps27
    go_wp2_with (go_at_call 26; refine (h2 _).mono ?_; rintro e w1 ⟨rfl, hb1⟩; obtain ⟨hc1, hf1⟩ := bcell hb1; have hz1 := hb1.size; (try simp at hz1); (try have y10 : w.heap.size < w1.heap.size := (by omega)); (try have y10p : w.heap.size < w1.heap.size + 1 := (by omega)); (try have y11 : w.heap.size + 1 < w1.heap.size := (by omega)); (try have y11p : w.heap.size + 1 < w1.heap.size + 1 := (by omega)); (try have y12 : w.heap.size + 1 + 1 < w1.heap.size := (by omega)); (try have y12p : w.heap.size + 1 + 1 < w1.heap.size + 1 := (by omega)); (try have v0x1 : w0.heap.size < w1.heap.size := (by omega)); (try have v0x1p : w0.heap.size < w1.heap.size + 1 := (by omega)))
    go_ret
    refine ⟨rfl, ?_⟩
    repeat (first | with_reducible exact Below.refl _ _ | with_reducible refine Below.setCell ?_ ?_ _ | with_reducible refine Below.alloc ?_ ?_ _ | with_reducible refine Below.drew ?_ | with_reducible refine below_drewN ?_ _ | (refine Below.trans ?_ (bmono (by assumption) ?_)))
    all_goals (first | omega | (simp <;> omega))
set_option maxHeartbeats 2000000 in
theorem rDepth_in (a b c d x y z p q r k m : Int) (h : eHB a b c d x y z p q r = 0) (hk : 0 ≤ k) (hk5 : k ≤ 5) (ht : hiS a b c d x y z p q r ≤ 0) (w : World) :
    Calls Try.prog 36 #[.agg #[.int .i64 a, .int .i64 b, .int .i64 c, .int .i64 d], .agg #[.int .i64 x, .int .i64 y, .int .i64 z, .int .i64 p, .int .i64 q, .int .i64 r], .int .i64 k, .int .i64 m] w fun e w' => e = .returned (.int .i64 (depI m (hiS a b c d x y z p q r) (dirI a b c k))) ∧ Below w.heap.size w w' := by
  have v := val_of h
  have h2 := rExtremes_in a b c d x y z p q r h
  have hs := slope_any a b c d k (inF_iff.1 v.fa) (inF_iff.1 v.fb) (inF_iff.1 v.fc) hk hk5
  have bd := dir_bd (k := k) (inF_iff.1 v.fa) (inF_iff.1 v.fb) (inF_iff.1 v.fc)
  have be := (ext_bd h).2
  clear h v
  generalize loS a b c d x y z p q r = s at h2
  generalize hiS a b c d x y z p q r = t at h2 ht be ⊢
  generalize dirI a b c k = f at hs bd ⊢
  rcases Int.lt_or_le 0 f with hf | hf
  · have HU := Lib.hid (quo_p (a := f) ht be.1 hf)
    obtain ⟨R, hR⟩ : ∃ R, R = depI m t f := ⟨_, rfl⟩
    rw [← hR]
    unfold depI at hR
    rw [if_neg (by omega)] at hR
    have HR := Lib.hid hR
    clear hR
    go_enter Try.func36, Try.ntmps36
    go_wp2_with (first
      | (go_at_call 26; refine (h2 _).mono ?_; rintro e w1 ⟨rfl, hb1⟩; obtain ⟨hc1, hf1⟩ := bcell hb1; have hz1 := hb1.size; (try simp at hz1); (try have y10 : w.heap.size < w1.heap.size := (by omega)); (try have y10p : w.heap.size < w1.heap.size + 1 := (by omega)); (try have y11 : w.heap.size + 1 < w1.heap.size := (by omega)); (try have y11p : w.heap.size + 1 < w1.heap.size + 1 := (by omega)); (try have y12 : w.heap.size + 1 + 1 < w1.heap.size := (by omega)); (try have y12p : w.heap.size + 1 + 1 < w1.heap.size + 1 := (by omega)); (try have v0x1 : w0.heap.size < w1.heap.size := (by omega)); (try have v0x1p : w0.heap.size < w1.heap.size + 1 := (by omega)))
      | (go_at_call 67; refine (hs _).mono ?_; rintro e w2 ⟨rfl, hb2⟩; obtain ⟨hc2, hf2⟩ := bcell hb2; have hz2 := hb2.size; (try simp at hz2); (try have y20 : w.heap.size < w2.heap.size := (by omega)); (try have y20p : w.heap.size < w2.heap.size + 1 := (by omega)); (try have y21 : w.heap.size + 1 < w2.heap.size := (by omega)); (try have y21p : w.heap.size + 1 < w2.heap.size + 1 := (by omega)); (try have y22 : w.heap.size + 1 + 1 < w2.heap.size := (by omega)); (try have y22p : w.heap.size + 1 + 1 < w2.heap.size + 1 := (by omega)); (try have v0x2 : w0.heap.size < w2.heap.size := (by omega)); (try have v0x2p : w0.heap.size < w2.heap.size + 1 := (by omega)); (try have v1x2 : w1.heap.size < w2.heap.size := (by omega)); (try have v1x2p : w1.heap.size < w2.heap.size + 1 := (by omega))))
    all_goals
      go_ret
      refine ⟨ret_int (by have hu := HU.out; have hr := HR.out; rw [hr]; (repeat' split) <;> omega), ?_⟩
      clear HU HR
      repeat (first | with_reducible exact Below.refl _ _ | with_reducible refine Below.setCell ?_ ?_ _ | with_reducible refine Below.alloc ?_ ?_ _ | with_reducible refine Below.drew ?_ | with_reducible refine below_drewN ?_ _ | (refine Below.trans ?_ (bmono (by assumption) ?_)))
      all_goals (first | omega | (simp <;> omega))
  · rw [show depI m t f = m by unfold depI; rw [if_pos hf]]
    go_enter Try.func36, Try.ntmps36
    go_wp2_with (first
      | (go_at_call 26; refine (h2 _).mono ?_; rintro e w1 ⟨rfl, hb1⟩; obtain ⟨hc1, hf1⟩ := bcell hb1; have hz1 := hb1.size; (try simp at hz1); (try have y10 : w.heap.size < w1.heap.size := (by omega)); (try have y10p : w.heap.size < w1.heap.size + 1 := (by omega)); (try have y11 : w.heap.size + 1 < w1.heap.size := (by omega)); (try have y11p : w.heap.size + 1 < w1.heap.size + 1 := (by omega)); (try have y12 : w.heap.size + 1 + 1 < w1.heap.size := (by omega)); (try have y12p : w.heap.size + 1 + 1 < w1.heap.size + 1 := (by omega)); (try have v0x1 : w0.heap.size < w1.heap.size := (by omega)); (try have v0x1p : w0.heap.size < w1.heap.size + 1 := (by omega)))
      | (go_at_call 67; refine (hs _).mono ?_; rintro e w2 ⟨rfl, hb2⟩; obtain ⟨hc2, hf2⟩ := bcell hb2; have hz2 := hb2.size; (try simp at hz2); (try have y20 : w.heap.size < w2.heap.size := (by omega)); (try have y20p : w.heap.size < w2.heap.size + 1 := (by omega)); (try have y21 : w.heap.size + 1 < w2.heap.size := (by omega)); (try have y21p : w.heap.size + 1 < w2.heap.size + 1 := (by omega)); (try have y22 : w.heap.size + 1 + 1 < w2.heap.size := (by omega)); (try have y22p : w.heap.size + 1 + 1 < w2.heap.size + 1 := (by omega)); (try have v0x2 : w0.heap.size < w2.heap.size := (by omega)); (try have v0x2p : w0.heap.size < w2.heap.size + 1 := (by omega)); (try have v1x2 : w1.heap.size < w2.heap.size := (by omega)); (try have v1x2p : w1.heap.size < w2.heap.size + 1 := (by omega))))
    go_ret
    refine ⟨rfl, ?_⟩
    repeat (first | with_reducible exact Below.refl _ _ | with_reducible refine Below.setCell ?_ ?_ _ | with_reducible refine Below.alloc ?_ ?_ _ | with_reducible refine Below.drew ?_ | with_reducible refine below_drewN ?_ _ | (refine Below.trans ?_ (bmono (by assumption) ?_)))
    all_goals (first | omega | (simp <;> omega))
end Go.Proofs.Ytoeniaafcnnnoaa
