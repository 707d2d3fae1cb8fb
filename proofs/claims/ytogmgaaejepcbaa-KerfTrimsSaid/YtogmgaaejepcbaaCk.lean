/- The walks of kerf's checks of lists of one and of two boxes, and of kerf's Check. -/
import Derived.Test.YtogmgaaejepcbaaEnd
import Derived.Test.YtogmgaaejepcbaaBcr
namespace Go.Proofs.Ytogmgaaejepcbaa
open Go.RowKit

def caI (e k : Int) : Int := if e = 0 then (if rgB 0 2 k then 0 else 1) else e
theorem caI_e {e k : Int} (h : e ≠ 0) : caI e k = e := by simp [caI, h]
theorem caI_0 {k : Int} (h : rgB 0 2 k = true) : caI 0 k = 0 := by simp [caI, h]
theorem caI_1 {k : Int} (h : rgB 0 2 k = false) : caI 0 k = 1 := by simp [caI, h]
theorem caI_z {e k : Int} (h : caI e k = 0) : e = 0 ∧ rgB 0 2 k = true := by
  unfold caI at h
  by_cases h1 : e = 0
  · rw [if_pos h1] at h
    cases h2 : rgB 0 2 k <;> simp [h2] at h ⊢
    exact h1
  · rw [if_neg h1] at h; exact absurd h h1
theorem ax3 {k : Int} (h : rgB 0 2 k = true) : k = 0 ∨ k = 1 ∨ k = 2 := by have := rgB_iff.1 h; omega
def e2B (e f : Int) : Int := if e = 0 then f else e
theorem e2B_0 (f : Int) : e2B 0 f = f := by simp [e2B]
theorem e2B_n {e : Int} (f : Int) (h : e ≠ 0) : e2B e f = e := by simp [e2B, h]
theorem ne_tests {k : Int} (h : k ≠ 0) : (k == 0) = false ∧ (k != 0) = true := by constructor <;> simp [h]
set_option maxHeartbeats 1000000 in
theorem chk1 (x y z p q r : Int) (g : Nat) (w : World) {T : TypeId} (hB : Blk w g T #[.int .i64 x, .int .i64 y, .int .i64 z, .int .i64 p, .int .i64 q, .int .i64 r]) :
    Calls Try.prog 51 #[.slice (some ⟨g, 0, none⟩) 1 1] w fun e w' => e = .returned (.int .i64 (eB x y z p q r)) ∧ Below w.heap.size w w' := by
  have c0 := hB.cell 0
  have c1 := hB.cell 1
  have c2 := hB.cell 2
  have c3 := hB.cell 3
  have c4 := hB.cell 4
  have c5 := hB.cell 5
  clear hB
  have hc := bcheck_any x y z p q r
  by_cases h : eB x y z p q r = 0
  · rw [h] at hc ⊢
    clear h
    go_enter Try.func51, Try.ntmps51
    go_wp2
    go_loopw [8] (fun i wr => (i = .int .i64 0 ∧ w = wr) ∨ (i = .int .i64 1 ∧ Below w.heap.size w wr)) (fun i _ => 1 - (intOf i).toNat)
    case atStart => exact .inl ⟨rfl, rfl⟩
    case round =>
      obtain ⟨rfl, rfl⟩ | ⟨rfl, hb⟩ := hrel
      · go_wp2_with (go_at_call 56; refine (hc _).mono ?_; rintro e w1 ⟨rfl, hb1⟩)
        go_roundw
        case rel => exact .inr ⟨by go_num, (((Below.refl _ _).alloc (Nat.le_refl _) _)).trans (bmono hb1 (by simp))⟩
        case measure => simp [intOf] <;> omega
      · go_wp2
        go_ret
        exact ⟨rfl, hb⟩
  · generalize eB x y z p q r = k at h hc ⊢
    obtain ⟨t1, t2⟩ := ne_tests h
    clear h
    go_enter Try.func51, Try.ntmps51
    go_wp2
    go_loopw [8] (fun i wr => (i = .int .i64 0 ∧ w = wr)) (fun i _ => 1 - (intOf i).toNat)
    case atStart => exact ⟨rfl, rfl⟩
    case round =>
      obtain ⟨rfl, rfl⟩ := hrel
      go_wp2_with (go_at_call 56; refine (hc _).mono ?_; rintro e w1 ⟨rfl, hb1⟩)
      go_ret
      exact ⟨rfl, (((Below.refl _ _).alloc (Nat.le_refl _) _)).trans (bmono hb1 (by simp))⟩
set_option maxHeartbeats 1000000 in
theorem chk2 (x y z p q r a b c d s u : Int) (g : Nat) (w : World) {T : TypeId} (hB : Blk w g T #[.int .i64 x, .int .i64 y, .int .i64 z, .int .i64 p, .int .i64 q, .int .i64 r, .int .i64 a, .int .i64 b, .int .i64 c, .int .i64 d, .int .i64 s, .int .i64 u]) :
    Calls Try.prog 51 #[.slice (some ⟨g, 0, none⟩) 2 2] w fun e w' => e = .returned (.int .i64 (e2B (eB x y z p q r) (eB a b c d s u))) ∧ Below w.heap.size w w' := by
  have c0 := hB.cell 0
  have c1 := hB.cell 1
  have c2 := hB.cell 2
  have c3 := hB.cell 3
  have c4 := hB.cell 4
  have c5 := hB.cell 5
  have c6 := hB.cell 6
  have c7 := hB.cell 7
  have c8 := hB.cell 8
  have c9 := hB.cell 9
  have c10 := hB.cell 10
  have c11 := hB.cell 11
  have hl := hB.lt
  clear hB
  have hc := bcheck_any x y z p q r
  have hd := bcheck_any a b c d s u
  by_cases h : eB x y z p q r = 0
  · rw [h] at hc ⊢
    rw [e2B_0]
    clear h
    by_cases h : eB a b c d s u = 0
    · rw [h] at hd ⊢
      clear h
      go_enter Try.func51, Try.ntmps51
      go_wp2
      go_loopw [8] (fun i wr => (i = .int .i64 0 ∧ w = wr) ∨ (i = .int .i64 1 ∧ Below w.heap.size w wr) ∨ (i = .int .i64 2 ∧ Below w.heap.size w wr)) (fun i _ => 2 - (intOf i).toNat)
      case atStart => exact .inl ⟨rfl, rfl⟩
      case round =>
        obtain ⟨rfl, rfl⟩ | ⟨rfl, hb⟩ | ⟨rfl, hb⟩ := hrel
        · go_wp2_with (go_at_call 56; refine (hc _).mono ?_; rintro e w1 ⟨rfl, hb1⟩)
          go_roundw
          case rel => exact .inr (.inl ⟨by go_num, (((Below.refl _ _).alloc (Nat.le_refl _) _)).trans (bmono hb1 (by simp))⟩)
          case measure => simp [intOf] <;> omega
        · obtain ⟨hc0, hf0⟩ := bcell hb
          go_wp2_with (go_at_call 56; refine (hd _).mono ?_; rintro e w1 ⟨rfl, hb1⟩)
          go_roundw
          case rel => exact .inr (.inr ⟨by go_num, hb.trans (bmono ((((Below.refl _ _).alloc (Nat.le_refl _) _)).trans (bmono hb1 (by simp))) hb.size)⟩)
          case measure => simp [intOf] <;> omega
        · go_wp2
          go_ret
          exact ⟨rfl, hb⟩
    · generalize eB a b c d s u = k at h hd ⊢
      obtain ⟨t1, t2⟩ := ne_tests h
      clear h
      go_enter Try.func51, Try.ntmps51
      go_wp2
      go_loopw [8] (fun i wr => (i = .int .i64 0 ∧ w = wr) ∨ (i = .int .i64 1 ∧ Below w.heap.size w wr)) (fun i _ => 2 - (intOf i).toNat)
      case atStart => exact .inl ⟨rfl, rfl⟩
      case round =>
        obtain ⟨rfl, rfl⟩ | ⟨rfl, hb⟩ := hrel
        · go_wp2_with (go_at_call 56; refine (hc _).mono ?_; rintro e w1 ⟨rfl, hb1⟩)
          go_roundw
          case rel => exact .inr ⟨by go_num, (((Below.refl _ _).alloc (Nat.le_refl _) _)).trans (bmono hb1 (by simp))⟩
          case measure => simp [intOf] <;> omega
        · obtain ⟨hc0, hf0⟩ := bcell hb
          go_wp2_with (go_at_call 56; refine (hd _).mono ?_; rintro e w1 ⟨rfl, hb1⟩)
          go_ret
          exact ⟨rfl, hb.trans (bmono ((((Below.refl _ _).alloc (Nat.le_refl _) _)).trans (bmono hb1 (by simp))) hb.size)⟩
  · rw [e2B_n _ h]
    generalize eB x y z p q r = k at h hc ⊢
    obtain ⟨t1, t2⟩ := ne_tests h
    clear h
    go_enter Try.func51, Try.ntmps51
    go_wp2
    go_loopw [8] (fun i wr => (i = .int .i64 0 ∧ w = wr)) (fun i _ => 2 - (intOf i).toNat)
    case atStart => exact ⟨rfl, rfl⟩
    case round =>
      obtain ⟨rfl, rfl⟩ := hrel
      go_wp2_with (go_at_call 56; refine (hc _).mono ?_; rintro e w1 ⟨rfl, hb1⟩)
      go_ret
      exact ⟨rfl, (((Below.refl _ _).alloc (Nat.le_refl _) _)).trans (bmono hb1 (by simp))⟩
set_option maxHeartbeats 1000000 in
theorem cax1 (x y z p q r k : Int) (g : Nat) (w : World) {T : TypeId} (hB : Blk w g T #[.int .i64 x, .int .i64 y, .int .i64 z, .int .i64 p, .int .i64 q, .int .i64 r]) :
    Calls Try.prog 45 #[.int .i64 k, .slice (some ⟨g, 0, none⟩) 1 1] w fun e w' => e = .returned (.int .i64 (caI (eB x y z p q r) k)) ∧ Below w.heap.size w w' := by
  have hc := chk1 x y z p q r g w hB
  clear hB
  by_cases h : eB x y z p q r = 0
  · rw [h] at hc ⊢
    clear h
    cases h : rgB 0 2 k
    · have HE := Lib.hid (caI_1 h)
      have h' := rgB_no.1 h
      clear h
      rcases h' with h | h
      all_goals
        go_enter Try.func45, Try.ntmps45
        go_wp2_with (go_at_call 51; refine hc.mono ?_; rintro e w1 ⟨rfl, hb1⟩)
        go_ret
        exact ⟨ret_int HE.out.symm, hb1⟩
    · have HE := Lib.hid (caI_0 h)
      obtain ⟨h1, h2⟩ := rgB_iff.1 h
      clear h
      go_enter Try.func45, Try.ntmps45
      go_wp2_with (go_at_call 51; refine hc.mono ?_; rintro e w1 ⟨rfl, hb1⟩)
      go_ret
      exact ⟨ret_int HE.out.symm, hb1⟩
  · have HE := Lib.hid (caI_e (k := k) h)
    generalize eB x y z p q r = f at h hc HE ⊢
    obtain ⟨t1, t2⟩ := ne_tests h
    clear h
    go_enter Try.func45, Try.ntmps45
    go_wp2_with (go_at_call 51; refine hc.mono ?_; rintro e w1 ⟨rfl, hb1⟩)
    go_ret
    exact ⟨ret_int HE.out.symm, hb1⟩
set_option maxHeartbeats 1000000 in
theorem cax2 (x y z p q r a b c d s u k : Int) (g : Nat) (w : World) {T : TypeId} (hB : Blk w g T #[.int .i64 x, .int .i64 y, .int .i64 z, .int .i64 p, .int .i64 q, .int .i64 r, .int .i64 a, .int .i64 b, .int .i64 c, .int .i64 d, .int .i64 s, .int .i64 u]) :
    Calls Try.prog 45 #[.int .i64 k, .slice (some ⟨g, 0, none⟩) 2 2] w fun e w' => e = .returned (.int .i64 (caI (e2B (eB x y z p q r) (eB a b c d s u)) k)) ∧ Below w.heap.size w w' := by
  have hc := chk2 x y z p q r a b c d s u g w hB
  clear hB
  by_cases h : e2B (eB x y z p q r) (eB a b c d s u) = 0
  · rw [h] at hc ⊢
    clear h
    cases h : rgB 0 2 k
    · have HE := Lib.hid (caI_1 h)
      have h' := rgB_no.1 h
      clear h
      rcases h' with h | h
      all_goals
        go_enter Try.func45, Try.ntmps45
        go_wp2_with (go_at_call 51; refine hc.mono ?_; rintro e w1 ⟨rfl, hb1⟩)
        go_ret
        exact ⟨ret_int HE.out.symm, hb1⟩
    · have HE := Lib.hid (caI_0 h)
      obtain ⟨h1, h2⟩ := rgB_iff.1 h
      clear h
      go_enter Try.func45, Try.ntmps45
      go_wp2_with (go_at_call 51; refine hc.mono ?_; rintro e w1 ⟨rfl, hb1⟩)
      go_ret
      exact ⟨ret_int HE.out.symm, hb1⟩
  · have HE := Lib.hid (caI_e (k := k) h)
    generalize e2B (eB x y z p q r) (eB a b c d s u) = f at h hc HE ⊢
    obtain ⟨t1, t2⟩ := ne_tests h
    clear h
    go_enter Try.func45, Try.ntmps45
    go_wp2_with (go_at_call 51; refine hc.mono ?_; rintro e w1 ⟨rfl, hb1⟩)
    go_ret
    exact ⟨ret_int HE.out.symm, hb1⟩
def okI (lo hi t k : Int) : Int := if rgB 0 1000 k then (if t ≤ lo ∨ hi - k ≤ t then 12 else 0) else 6
def ckI (x y z p q r a t k : Int) : Int := if caI (eB x y z p q r) a = 0 then (if a = 0 then okI x p t k else if a = 1 then okI y q t k else okI z r t k) else caI (eB x y z p q r) a
theorem okI_6 {lo hi t k : Int} (h : rgB 0 1000 k = false) : okI lo hi t k = 6 := by simp [okI, h]
theorem okI_12 {lo hi t k : Int} (h : rgB 0 1000 k = true) (h2 : t ≤ lo ∨ hi - k ≤ t) : okI lo hi t k = 12 := by simp [okI, h, h2]
theorem okI_0 {lo hi t k : Int} (h : rgB 0 1000 k = true) (h2 : ¬ t ≤ lo) (h3 : ¬ hi - k ≤ t) : okI lo hi t k = 0 := by simp [okI, h, h2, h3]
theorem okI_z {lo hi t k : Int} (h : okI lo hi t k = 0) : rgB 0 1000 k = true ∧ lo < t ∧ t < hi - k := by
  unfold okI at h
  cases h1 : rgB 0 1000 k
  · simp [h1] at h
  · rw [if_pos h1] at h
    by_cases h2 : t ≤ lo ∨ hi - k ≤ t
    · rw [if_pos h2] at h; omega
    · exact ⟨rfl, by omega, by omega⟩
theorem eB_bd {x y z p q r : Int} (h : eB x y z p q r = 0) : (-1000000 ≤ x ∧ x < p ∧ p ≤ 1000000) ∧ (-1000000 ≤ y ∧ y < q ∧ q ≤ 1000000) ∧ (-1000000 ≤ z ∧ z < r ∧ r ≤ 1000000) := by
  obtain ⟨h1, h2, h3, h4, h5⟩ := eB_zero h
  obtain ⟨a1, a2, a3⟩ := inV_iff.1 h1
  obtain ⟨b1, b2, b3⟩ := inV_iff.1 h2
  rw [inC_iff] at a1 a2 a3 b1 b2 b3
  omega
set_option maxHeartbeats 4000000 in
theorem Check_ok0 (x y z p q r t k : Int) (hv : eB x y z p q r = 0) (w : World) :
    Calls Try.prog 17 #[.agg #[.int .i64 x, .int .i64 y, .int .i64 z, .int .i64 p, .int .i64 q, .int .i64 r], .agg #[.int .i64 0, .int .i64 t, .int .i64 k]] w fun e w' => e = .returned (.int .i64 (okI x p t k)) ∧ Below w.heap.size w w' := by
  have hc := @cax1 x y z p q r 0
  rw [hv, caI_0 (by decide)] at hc
  obtain ⟨⟨a1, a2, a3⟩, ⟨a4, a5, a6⟩, ⟨a7, a8, a9⟩⟩ := eB_bd hv
  clear hv
  have hk := isKerf_any k
  cases h : rgB 0 1000 k
  · have HE := Lib.hid (okI_6 (lo := x) (hi := p) (t := t) h)
    rw [h] at hk
    clear h
    go_enter Try.func17, Try.ntmps17
    go_wp2_with (first | (go_at_call 45; refine (hc _ _ (Blk.new2 (by simp))).mono ?_; rintro e w1 ⟨rfl, hb1⟩; obtain ⟨hc1, hf1⟩ := bcell hb1; have hz1 := hb1.size; (try simp at hz1); (try have y10 : w.heap.size < w1.heap.size := (by omega)); (try have y10p : w.heap.size < w1.heap.size + 1 := (by omega)); (try have y11 : w.heap.size + 1 < w1.heap.size := (by omega)); (try have y11p : w.heap.size + 1 < w1.heap.size + 1 := (by omega)); (try have y12 : w.heap.size + 1 + 1 < w1.heap.size := (by omega)); (try have y12p : w.heap.size + 1 + 1 < w1.heap.size + 1 := (by omega)); (try have y13 : w.heap.size + 1 + 1 + 1 < w1.heap.size := (by omega)); (try have y13p : w.heap.size + 1 + 1 + 1 < w1.heap.size + 1 := (by omega)); (try have y14 : w.heap.size + 1 + 1 + 1 + 1 < w1.heap.size := (by omega)); (try have y14p : w.heap.size + 1 + 1 + 1 + 1 < w1.heap.size + 1 := (by omega)); (try have v0x1 : w0.heap.size < w1.heap.size := (by omega)); (try have v0x1p : w0.heap.size < w1.heap.size + 1 := (by omega))) | (go_at_call 46; refine (hk _).mono ?_; rintro e w' ⟨rfl, rfl⟩))
    go_ret
    refine ⟨ret_int HE.out.symm, ?_⟩
    repeat (first | with_reducible exact Below.refl _ _ | with_reducible refine Below.setCell ?_ ?_ _ | with_reducible refine Below.alloc ?_ ?_ _ | with_reducible refine Below.drew ?_ | with_reducible refine below_drewN ?_ _ | (refine Below.trans ?_ (bmono (by assumption) ?_)))
    all_goals (first | omega | (simp <;> omega))
  · rw [h] at hk
    have hkk := rgB_iff.1 h
    by_cases h1 : t ≤ x
    · have HE := Lib.hid (okI_12 (lo := x) (hi := p) h (.inl h1))
      clear h
      have d1 : decide (t ≤ x) = true := by simpa using h1
      go_enter Try.func17, Try.ntmps17
      go_wp2_with (first | (go_at_call 45; refine (hc _ _ (Blk.new2 (by simp))).mono ?_; rintro e w1 ⟨rfl, hb1⟩; obtain ⟨hc1, hf1⟩ := bcell hb1; have hz1 := hb1.size; (try simp at hz1); (try have y10 : w.heap.size < w1.heap.size := (by omega)); (try have y10p : w.heap.size < w1.heap.size + 1 := (by omega)); (try have y11 : w.heap.size + 1 < w1.heap.size := (by omega)); (try have y11p : w.heap.size + 1 < w1.heap.size + 1 := (by omega)); (try have y12 : w.heap.size + 1 + 1 < w1.heap.size := (by omega)); (try have y12p : w.heap.size + 1 + 1 < w1.heap.size + 1 := (by omega)); (try have y13 : w.heap.size + 1 + 1 + 1 < w1.heap.size := (by omega)); (try have y13p : w.heap.size + 1 + 1 + 1 < w1.heap.size + 1 := (by omega)); (try have y14 : w.heap.size + 1 + 1 + 1 + 1 < w1.heap.size := (by omega)); (try have y14p : w.heap.size + 1 + 1 + 1 + 1 < w1.heap.size + 1 := (by omega)); (try have v0x1 : w0.heap.size < w1.heap.size := (by omega)); (try have v0x1p : w0.heap.size < w1.heap.size + 1 := (by omega))) | (go_at_call 46; refine (hk _).mono ?_; rintro e w' ⟨rfl, rfl⟩) | (go_at_call 42; refine (ends_any _ _).mono ?_; rintro e w2 ⟨rfl, hb2⟩; obtain ⟨hc2, hf2⟩ := bcell hb2; have hz2 := hb2.size; (try simp at hz2); (try have y20 : w.heap.size < w2.heap.size := (by omega)); (try have y20p : w.heap.size < w2.heap.size + 1 := (by omega)); (try have y21 : w.heap.size + 1 < w2.heap.size := (by omega)); (try have y21p : w.heap.size + 1 < w2.heap.size + 1 := (by omega)); (try have y22 : w.heap.size + 1 + 1 < w2.heap.size := (by omega)); (try have y22p : w.heap.size + 1 + 1 < w2.heap.size + 1 := (by omega)); (try have y23 : w.heap.size + 1 + 1 + 1 < w2.heap.size := (by omega)); (try have y23p : w.heap.size + 1 + 1 + 1 < w2.heap.size + 1 := (by omega)); (try have y24 : w.heap.size + 1 + 1 + 1 + 1 < w2.heap.size := (by omega)); (try have y24p : w.heap.size + 1 + 1 + 1 + 1 < w2.heap.size + 1 := (by omega)); (try have v0x2 : w0.heap.size < w2.heap.size := (by omega)); (try have v0x2p : w0.heap.size < w2.heap.size + 1 := (by omega)); (try have v1x2 : w1.heap.size < w2.heap.size := (by omega)); (try have v1x2p : w1.heap.size < w2.heap.size + 1 := (by omega))))
      go_region
      go_wp2
      go_ret
      refine ⟨ret_int HE.out.symm, ?_⟩
      repeat (first | with_reducible exact Below.refl _ _ | with_reducible refine Below.setCell ?_ ?_ _ | with_reducible refine Below.alloc ?_ ?_ _ | with_reducible refine Below.drew ?_ | with_reducible refine below_drewN ?_ _ | (refine Below.trans ?_ (bmono (by assumption) ?_)))
      all_goals (first | omega | (simp <;> omega))
    · have d1 : decide (t ≤ x) = false := by simpa using h1
      by_cases h2 : p - k ≤ t
      · have HE := Lib.hid (okI_12 (lo := x) (hi := p) h (.inr h2))
        clear h
        have d2 : decide (p - k ≤ t) = true := by simpa using h2
        go_enter Try.func17, Try.ntmps17
        go_wp2_with (first | (go_at_call 45; refine (hc _ _ (Blk.new2 (by simp))).mono ?_; rintro e w1 ⟨rfl, hb1⟩; obtain ⟨hc1, hf1⟩ := bcell hb1; have hz1 := hb1.size; (try simp at hz1); (try have y10 : w.heap.size < w1.heap.size := (by omega)); (try have y10p : w.heap.size < w1.heap.size + 1 := (by omega)); (try have y11 : w.heap.size + 1 < w1.heap.size := (by omega)); (try have y11p : w.heap.size + 1 < w1.heap.size + 1 := (by omega)); (try have y12 : w.heap.size + 1 + 1 < w1.heap.size := (by omega)); (try have y12p : w.heap.size + 1 + 1 < w1.heap.size + 1 := (by omega)); (try have y13 : w.heap.size + 1 + 1 + 1 < w1.heap.size := (by omega)); (try have y13p : w.heap.size + 1 + 1 + 1 < w1.heap.size + 1 := (by omega)); (try have y14 : w.heap.size + 1 + 1 + 1 + 1 < w1.heap.size := (by omega)); (try have y14p : w.heap.size + 1 + 1 + 1 + 1 < w1.heap.size + 1 := (by omega)); (try have v0x1 : w0.heap.size < w1.heap.size := (by omega)); (try have v0x1p : w0.heap.size < w1.heap.size + 1 := (by omega))) | (go_at_call 46; refine (hk _).mono ?_; rintro e w' ⟨rfl, rfl⟩) | (go_at_call 42; refine (ends_any _ _).mono ?_; rintro e w2 ⟨rfl, hb2⟩; obtain ⟨hc2, hf2⟩ := bcell hb2; have hz2 := hb2.size; (try simp at hz2); (try have y20 : w.heap.size < w2.heap.size := (by omega)); (try have y20p : w.heap.size < w2.heap.size + 1 := (by omega)); (try have y21 : w.heap.size + 1 < w2.heap.size := (by omega)); (try have y21p : w.heap.size + 1 < w2.heap.size + 1 := (by omega)); (try have y22 : w.heap.size + 1 + 1 < w2.heap.size := (by omega)); (try have y22p : w.heap.size + 1 + 1 < w2.heap.size + 1 := (by omega)); (try have y23 : w.heap.size + 1 + 1 + 1 < w2.heap.size := (by omega)); (try have y23p : w.heap.size + 1 + 1 + 1 < w2.heap.size + 1 := (by omega)); (try have y24 : w.heap.size + 1 + 1 + 1 + 1 < w2.heap.size := (by omega)); (try have y24p : w.heap.size + 1 + 1 + 1 + 1 < w2.heap.size + 1 := (by omega)); (try have v0x2 : w0.heap.size < w2.heap.size := (by omega)); (try have v0x2p : w0.heap.size < w2.heap.size + 1 := (by omega)); (try have v1x2 : w1.heap.size < w2.heap.size := (by omega)); (try have v1x2p : w1.heap.size < w2.heap.size + 1 := (by omega))))
        go_region
        go_wp2
        go_ret
        refine ⟨ret_int HE.out.symm, ?_⟩
        repeat (first | with_reducible exact Below.refl _ _ | with_reducible refine Below.setCell ?_ ?_ _ | with_reducible refine Below.alloc ?_ ?_ _ | with_reducible refine Below.drew ?_ | with_reducible refine below_drewN ?_ _ | (refine Below.trans ?_ (bmono (by assumption) ?_)))
        all_goals (first | omega | (simp <;> omega))
      · have HE := Lib.hid (okI_0 (lo := x) (hi := p) h h1 h2)
        clear h
        have d2 : decide (p - k ≤ t) = false := by simpa using h2
        go_enter Try.func17, Try.ntmps17
        go_wp2_with (first | (go_at_call 45; refine (hc _ _ (Blk.new2 (by simp))).mono ?_; rintro e w1 ⟨rfl, hb1⟩; obtain ⟨hc1, hf1⟩ := bcell hb1; have hz1 := hb1.size; (try simp at hz1); (try have y10 : w.heap.size < w1.heap.size := (by omega)); (try have y10p : w.heap.size < w1.heap.size + 1 := (by omega)); (try have y11 : w.heap.size + 1 < w1.heap.size := (by omega)); (try have y11p : w.heap.size + 1 < w1.heap.size + 1 := (by omega)); (try have y12 : w.heap.size + 1 + 1 < w1.heap.size := (by omega)); (try have y12p : w.heap.size + 1 + 1 < w1.heap.size + 1 := (by omega)); (try have y13 : w.heap.size + 1 + 1 + 1 < w1.heap.size := (by omega)); (try have y13p : w.heap.size + 1 + 1 + 1 < w1.heap.size + 1 := (by omega)); (try have y14 : w.heap.size + 1 + 1 + 1 + 1 < w1.heap.size := (by omega)); (try have y14p : w.heap.size + 1 + 1 + 1 + 1 < w1.heap.size + 1 := (by omega)); (try have v0x1 : w0.heap.size < w1.heap.size := (by omega)); (try have v0x1p : w0.heap.size < w1.heap.size + 1 := (by omega))) | (go_at_call 46; refine (hk _).mono ?_; rintro e w' ⟨rfl, rfl⟩) | (go_at_call 42; refine (ends_any _ _).mono ?_; rintro e w2 ⟨rfl, hb2⟩; obtain ⟨hc2, hf2⟩ := bcell hb2; have hz2 := hb2.size; (try simp at hz2); (try have y20 : w.heap.size < w2.heap.size := (by omega)); (try have y20p : w.heap.size < w2.heap.size + 1 := (by omega)); (try have y21 : w.heap.size + 1 < w2.heap.size := (by omega)); (try have y21p : w.heap.size + 1 < w2.heap.size + 1 := (by omega)); (try have y22 : w.heap.size + 1 + 1 < w2.heap.size := (by omega)); (try have y22p : w.heap.size + 1 + 1 < w2.heap.size + 1 := (by omega)); (try have y23 : w.heap.size + 1 + 1 + 1 < w2.heap.size := (by omega)); (try have y23p : w.heap.size + 1 + 1 + 1 < w2.heap.size + 1 := (by omega)); (try have y24 : w.heap.size + 1 + 1 + 1 + 1 < w2.heap.size := (by omega)); (try have y24p : w.heap.size + 1 + 1 + 1 + 1 < w2.heap.size + 1 := (by omega)); (try have v0x2 : w0.heap.size < w2.heap.size := (by omega)); (try have v0x2p : w0.heap.size < w2.heap.size + 1 := (by omega)); (try have v1x2 : w1.heap.size < w2.heap.size := (by omega)); (try have v1x2p : w1.heap.size < w2.heap.size + 1 := (by omega))))
        go_region
        go_wp2
        go_ret
        refine ⟨ret_int HE.out.symm, ?_⟩
        repeat (first | with_reducible exact Below.refl _ _ | with_reducible refine Below.setCell ?_ ?_ _ | with_reducible refine Below.alloc ?_ ?_ _ | with_reducible refine Below.drew ?_ | with_reducible refine below_drewN ?_ _ | (refine Below.trans ?_ (bmono (by assumption) ?_)))
        all_goals (first | omega | (simp <;> omega))
set_option maxHeartbeats 4000000 in
theorem Check_ok1 (x y z p q r t k : Int) (hv : eB x y z p q r = 0) (w : World) :
    Calls Try.prog 17 #[.agg #[.int .i64 x, .int .i64 y, .int .i64 z, .int .i64 p, .int .i64 q, .int .i64 r], .agg #[.int .i64 1, .int .i64 t, .int .i64 k]] w fun e w' => e = .returned (.int .i64 (okI y q t k)) ∧ Below w.heap.size w w' := by
  have hc := @cax1 x y z p q r 1
  rw [hv, caI_0 (by decide)] at hc
  obtain ⟨⟨a1, a2, a3⟩, ⟨a4, a5, a6⟩, ⟨a7, a8, a9⟩⟩ := eB_bd hv
  clear hv
  have hk := isKerf_any k
  cases h : rgB 0 1000 k
  · have HE := Lib.hid (okI_6 (lo := y) (hi := q) (t := t) h)
    rw [h] at hk
    clear h
    go_enter Try.func17, Try.ntmps17
    go_wp2_with (first | (go_at_call 45; refine (hc _ _ (Blk.new2 (by simp))).mono ?_; rintro e w1 ⟨rfl, hb1⟩; obtain ⟨hc1, hf1⟩ := bcell hb1; have hz1 := hb1.size; (try simp at hz1); (try have y10 : w.heap.size < w1.heap.size := (by omega)); (try have y10p : w.heap.size < w1.heap.size + 1 := (by omega)); (try have y11 : w.heap.size + 1 < w1.heap.size := (by omega)); (try have y11p : w.heap.size + 1 < w1.heap.size + 1 := (by omega)); (try have y12 : w.heap.size + 1 + 1 < w1.heap.size := (by omega)); (try have y12p : w.heap.size + 1 + 1 < w1.heap.size + 1 := (by omega)); (try have y13 : w.heap.size + 1 + 1 + 1 < w1.heap.size := (by omega)); (try have y13p : w.heap.size + 1 + 1 + 1 < w1.heap.size + 1 := (by omega)); (try have y14 : w.heap.size + 1 + 1 + 1 + 1 < w1.heap.size := (by omega)); (try have y14p : w.heap.size + 1 + 1 + 1 + 1 < w1.heap.size + 1 := (by omega)); (try have v0x1 : w0.heap.size < w1.heap.size := (by omega)); (try have v0x1p : w0.heap.size < w1.heap.size + 1 := (by omega))) | (go_at_call 46; refine (hk _).mono ?_; rintro e w' ⟨rfl, rfl⟩))
    go_ret
    refine ⟨ret_int HE.out.symm, ?_⟩
    repeat (first | with_reducible exact Below.refl _ _ | with_reducible refine Below.setCell ?_ ?_ _ | with_reducible refine Below.alloc ?_ ?_ _ | with_reducible refine Below.drew ?_ | with_reducible refine below_drewN ?_ _ | (refine Below.trans ?_ (bmono (by assumption) ?_)))
    all_goals (first | omega | (simp <;> omega))
  · rw [h] at hk
    have hkk := rgB_iff.1 h
    by_cases h1 : t ≤ y
    · have HE := Lib.hid (okI_12 (lo := y) (hi := q) h (.inl h1))
      clear h
      have d1 : decide (t ≤ y) = true := by simpa using h1
      go_enter Try.func17, Try.ntmps17
      go_wp2_with (first | (go_at_call 45; refine (hc _ _ (Blk.new2 (by simp))).mono ?_; rintro e w1 ⟨rfl, hb1⟩; obtain ⟨hc1, hf1⟩ := bcell hb1; have hz1 := hb1.size; (try simp at hz1); (try have y10 : w.heap.size < w1.heap.size := (by omega)); (try have y10p : w.heap.size < w1.heap.size + 1 := (by omega)); (try have y11 : w.heap.size + 1 < w1.heap.size := (by omega)); (try have y11p : w.heap.size + 1 < w1.heap.size + 1 := (by omega)); (try have y12 : w.heap.size + 1 + 1 < w1.heap.size := (by omega)); (try have y12p : w.heap.size + 1 + 1 < w1.heap.size + 1 := (by omega)); (try have y13 : w.heap.size + 1 + 1 + 1 < w1.heap.size := (by omega)); (try have y13p : w.heap.size + 1 + 1 + 1 < w1.heap.size + 1 := (by omega)); (try have y14 : w.heap.size + 1 + 1 + 1 + 1 < w1.heap.size := (by omega)); (try have y14p : w.heap.size + 1 + 1 + 1 + 1 < w1.heap.size + 1 := (by omega)); (try have v0x1 : w0.heap.size < w1.heap.size := (by omega)); (try have v0x1p : w0.heap.size < w1.heap.size + 1 := (by omega))) | (go_at_call 46; refine (hk _).mono ?_; rintro e w' ⟨rfl, rfl⟩) | (go_at_call 42; refine (ends_any _ _).mono ?_; rintro e w2 ⟨rfl, hb2⟩; obtain ⟨hc2, hf2⟩ := bcell hb2; have hz2 := hb2.size; (try simp at hz2); (try have y20 : w.heap.size < w2.heap.size := (by omega)); (try have y20p : w.heap.size < w2.heap.size + 1 := (by omega)); (try have y21 : w.heap.size + 1 < w2.heap.size := (by omega)); (try have y21p : w.heap.size + 1 < w2.heap.size + 1 := (by omega)); (try have y22 : w.heap.size + 1 + 1 < w2.heap.size := (by omega)); (try have y22p : w.heap.size + 1 + 1 < w2.heap.size + 1 := (by omega)); (try have y23 : w.heap.size + 1 + 1 + 1 < w2.heap.size := (by omega)); (try have y23p : w.heap.size + 1 + 1 + 1 < w2.heap.size + 1 := (by omega)); (try have y24 : w.heap.size + 1 + 1 + 1 + 1 < w2.heap.size := (by omega)); (try have y24p : w.heap.size + 1 + 1 + 1 + 1 < w2.heap.size + 1 := (by omega)); (try have v0x2 : w0.heap.size < w2.heap.size := (by omega)); (try have v0x2p : w0.heap.size < w2.heap.size + 1 := (by omega)); (try have v1x2 : w1.heap.size < w2.heap.size := (by omega)); (try have v1x2p : w1.heap.size < w2.heap.size + 1 := (by omega))))
      go_region
      go_wp2
      go_ret
      refine ⟨ret_int HE.out.symm, ?_⟩
      repeat (first | with_reducible exact Below.refl _ _ | with_reducible refine Below.setCell ?_ ?_ _ | with_reducible refine Below.alloc ?_ ?_ _ | with_reducible refine Below.drew ?_ | with_reducible refine below_drewN ?_ _ | (refine Below.trans ?_ (bmono (by assumption) ?_)))
      all_goals (first | omega | (simp <;> omega))
    · have d1 : decide (t ≤ y) = false := by simpa using h1
      by_cases h2 : q - k ≤ t
      · have HE := Lib.hid (okI_12 (lo := y) (hi := q) h (.inr h2))
        clear h
        have d2 : decide (q - k ≤ t) = true := by simpa using h2
        go_enter Try.func17, Try.ntmps17
        go_wp2_with (first | (go_at_call 45; refine (hc _ _ (Blk.new2 (by simp))).mono ?_; rintro e w1 ⟨rfl, hb1⟩; obtain ⟨hc1, hf1⟩ := bcell hb1; have hz1 := hb1.size; (try simp at hz1); (try have y10 : w.heap.size < w1.heap.size := (by omega)); (try have y10p : w.heap.size < w1.heap.size + 1 := (by omega)); (try have y11 : w.heap.size + 1 < w1.heap.size := (by omega)); (try have y11p : w.heap.size + 1 < w1.heap.size + 1 := (by omega)); (try have y12 : w.heap.size + 1 + 1 < w1.heap.size := (by omega)); (try have y12p : w.heap.size + 1 + 1 < w1.heap.size + 1 := (by omega)); (try have y13 : w.heap.size + 1 + 1 + 1 < w1.heap.size := (by omega)); (try have y13p : w.heap.size + 1 + 1 + 1 < w1.heap.size + 1 := (by omega)); (try have y14 : w.heap.size + 1 + 1 + 1 + 1 < w1.heap.size := (by omega)); (try have y14p : w.heap.size + 1 + 1 + 1 + 1 < w1.heap.size + 1 := (by omega)); (try have v0x1 : w0.heap.size < w1.heap.size := (by omega)); (try have v0x1p : w0.heap.size < w1.heap.size + 1 := (by omega))) | (go_at_call 46; refine (hk _).mono ?_; rintro e w' ⟨rfl, rfl⟩) | (go_at_call 42; refine (ends_any _ _).mono ?_; rintro e w2 ⟨rfl, hb2⟩; obtain ⟨hc2, hf2⟩ := bcell hb2; have hz2 := hb2.size; (try simp at hz2); (try have y20 : w.heap.size < w2.heap.size := (by omega)); (try have y20p : w.heap.size < w2.heap.size + 1 := (by omega)); (try have y21 : w.heap.size + 1 < w2.heap.size := (by omega)); (try have y21p : w.heap.size + 1 < w2.heap.size + 1 := (by omega)); (try have y22 : w.heap.size + 1 + 1 < w2.heap.size := (by omega)); (try have y22p : w.heap.size + 1 + 1 < w2.heap.size + 1 := (by omega)); (try have y23 : w.heap.size + 1 + 1 + 1 < w2.heap.size := (by omega)); (try have y23p : w.heap.size + 1 + 1 + 1 < w2.heap.size + 1 := (by omega)); (try have y24 : w.heap.size + 1 + 1 + 1 + 1 < w2.heap.size := (by omega)); (try have y24p : w.heap.size + 1 + 1 + 1 + 1 < w2.heap.size + 1 := (by omega)); (try have v0x2 : w0.heap.size < w2.heap.size := (by omega)); (try have v0x2p : w0.heap.size < w2.heap.size + 1 := (by omega)); (try have v1x2 : w1.heap.size < w2.heap.size := (by omega)); (try have v1x2p : w1.heap.size < w2.heap.size + 1 := (by omega))))
        go_region
        go_wp2
        go_ret
        refine ⟨ret_int HE.out.symm, ?_⟩
        repeat (first | with_reducible exact Below.refl _ _ | with_reducible refine Below.setCell ?_ ?_ _ | with_reducible refine Below.alloc ?_ ?_ _ | with_reducible refine Below.drew ?_ | with_reducible refine below_drewN ?_ _ | (refine Below.trans ?_ (bmono (by assumption) ?_)))
        all_goals (first | omega | (simp <;> omega))
      · have HE := Lib.hid (okI_0 (lo := y) (hi := q) h h1 h2)
        clear h
        have d2 : decide (q - k ≤ t) = false := by simpa using h2
        go_enter Try.func17, Try.ntmps17
        go_wp2_with (first | (go_at_call 45; refine (hc _ _ (Blk.new2 (by simp))).mono ?_; rintro e w1 ⟨rfl, hb1⟩; obtain ⟨hc1, hf1⟩ := bcell hb1; have hz1 := hb1.size; (try simp at hz1); (try have y10 : w.heap.size < w1.heap.size := (by omega)); (try have y10p : w.heap.size < w1.heap.size + 1 := (by omega)); (try have y11 : w.heap.size + 1 < w1.heap.size := (by omega)); (try have y11p : w.heap.size + 1 < w1.heap.size + 1 := (by omega)); (try have y12 : w.heap.size + 1 + 1 < w1.heap.size := (by omega)); (try have y12p : w.heap.size + 1 + 1 < w1.heap.size + 1 := (by omega)); (try have y13 : w.heap.size + 1 + 1 + 1 < w1.heap.size := (by omega)); (try have y13p : w.heap.size + 1 + 1 + 1 < w1.heap.size + 1 := (by omega)); (try have y14 : w.heap.size + 1 + 1 + 1 + 1 < w1.heap.size := (by omega)); (try have y14p : w.heap.size + 1 + 1 + 1 + 1 < w1.heap.size + 1 := (by omega)); (try have v0x1 : w0.heap.size < w1.heap.size := (by omega)); (try have v0x1p : w0.heap.size < w1.heap.size + 1 := (by omega))) | (go_at_call 46; refine (hk _).mono ?_; rintro e w' ⟨rfl, rfl⟩) | (go_at_call 42; refine (ends_any _ _).mono ?_; rintro e w2 ⟨rfl, hb2⟩; obtain ⟨hc2, hf2⟩ := bcell hb2; have hz2 := hb2.size; (try simp at hz2); (try have y20 : w.heap.size < w2.heap.size := (by omega)); (try have y20p : w.heap.size < w2.heap.size + 1 := (by omega)); (try have y21 : w.heap.size + 1 < w2.heap.size := (by omega)); (try have y21p : w.heap.size + 1 < w2.heap.size + 1 := (by omega)); (try have y22 : w.heap.size + 1 + 1 < w2.heap.size := (by omega)); (try have y22p : w.heap.size + 1 + 1 < w2.heap.size + 1 := (by omega)); (try have y23 : w.heap.size + 1 + 1 + 1 < w2.heap.size := (by omega)); (try have y23p : w.heap.size + 1 + 1 + 1 < w2.heap.size + 1 := (by omega)); (try have y24 : w.heap.size + 1 + 1 + 1 + 1 < w2.heap.size := (by omega)); (try have y24p : w.heap.size + 1 + 1 + 1 + 1 < w2.heap.size + 1 := (by omega)); (try have v0x2 : w0.heap.size < w2.heap.size := (by omega)); (try have v0x2p : w0.heap.size < w2.heap.size + 1 := (by omega)); (try have v1x2 : w1.heap.size < w2.heap.size := (by omega)); (try have v1x2p : w1.heap.size < w2.heap.size + 1 := (by omega))))
        go_region
        go_wp2
        go_ret
        refine ⟨ret_int HE.out.symm, ?_⟩
        repeat (first | with_reducible exact Below.refl _ _ | with_reducible refine Below.setCell ?_ ?_ _ | with_reducible refine Below.alloc ?_ ?_ _ | with_reducible refine Below.drew ?_ | with_reducible refine below_drewN ?_ _ | (refine Below.trans ?_ (bmono (by assumption) ?_)))
        all_goals (first | omega | (simp <;> omega))
set_option maxHeartbeats 4000000 in
theorem Check_ok2 (x y z p q r t k : Int) (hv : eB x y z p q r = 0) (w : World) :
    Calls Try.prog 17 #[.agg #[.int .i64 x, .int .i64 y, .int .i64 z, .int .i64 p, .int .i64 q, .int .i64 r], .agg #[.int .i64 2, .int .i64 t, .int .i64 k]] w fun e w' => e = .returned (.int .i64 (okI z r t k)) ∧ Below w.heap.size w w' := by
  have hc := @cax1 x y z p q r 2
  rw [hv, caI_0 (by decide)] at hc
  obtain ⟨⟨a1, a2, a3⟩, ⟨a4, a5, a6⟩, ⟨a7, a8, a9⟩⟩ := eB_bd hv
  clear hv
  have hk := isKerf_any k
  cases h : rgB 0 1000 k
  · have HE := Lib.hid (okI_6 (lo := z) (hi := r) (t := t) h)
    rw [h] at hk
    clear h
    go_enter Try.func17, Try.ntmps17
    go_wp2_with (first | (go_at_call 45; refine (hc _ _ (Blk.new2 (by simp))).mono ?_; rintro e w1 ⟨rfl, hb1⟩; obtain ⟨hc1, hf1⟩ := bcell hb1; have hz1 := hb1.size; (try simp at hz1); (try have y10 : w.heap.size < w1.heap.size := (by omega)); (try have y10p : w.heap.size < w1.heap.size + 1 := (by omega)); (try have y11 : w.heap.size + 1 < w1.heap.size := (by omega)); (try have y11p : w.heap.size + 1 < w1.heap.size + 1 := (by omega)); (try have y12 : w.heap.size + 1 + 1 < w1.heap.size := (by omega)); (try have y12p : w.heap.size + 1 + 1 < w1.heap.size + 1 := (by omega)); (try have y13 : w.heap.size + 1 + 1 + 1 < w1.heap.size := (by omega)); (try have y13p : w.heap.size + 1 + 1 + 1 < w1.heap.size + 1 := (by omega)); (try have y14 : w.heap.size + 1 + 1 + 1 + 1 < w1.heap.size := (by omega)); (try have y14p : w.heap.size + 1 + 1 + 1 + 1 < w1.heap.size + 1 := (by omega)); (try have v0x1 : w0.heap.size < w1.heap.size := (by omega)); (try have v0x1p : w0.heap.size < w1.heap.size + 1 := (by omega))) | (go_at_call 46; refine (hk _).mono ?_; rintro e w' ⟨rfl, rfl⟩))
    go_ret
    refine ⟨ret_int HE.out.symm, ?_⟩
    repeat (first | with_reducible exact Below.refl _ _ | with_reducible refine Below.setCell ?_ ?_ _ | with_reducible refine Below.alloc ?_ ?_ _ | with_reducible refine Below.drew ?_ | with_reducible refine below_drewN ?_ _ | (refine Below.trans ?_ (bmono (by assumption) ?_)))
    all_goals (first | omega | (simp <;> omega))
  · rw [h] at hk
    have hkk := rgB_iff.1 h
    by_cases h1 : t ≤ z
    · have HE := Lib.hid (okI_12 (lo := z) (hi := r) h (.inl h1))
      clear h
      have d1 : decide (t ≤ z) = true := by simpa using h1
      go_enter Try.func17, Try.ntmps17
      go_wp2_with (first | (go_at_call 45; refine (hc _ _ (Blk.new2 (by simp))).mono ?_; rintro e w1 ⟨rfl, hb1⟩; obtain ⟨hc1, hf1⟩ := bcell hb1; have hz1 := hb1.size; (try simp at hz1); (try have y10 : w.heap.size < w1.heap.size := (by omega)); (try have y10p : w.heap.size < w1.heap.size + 1 := (by omega)); (try have y11 : w.heap.size + 1 < w1.heap.size := (by omega)); (try have y11p : w.heap.size + 1 < w1.heap.size + 1 := (by omega)); (try have y12 : w.heap.size + 1 + 1 < w1.heap.size := (by omega)); (try have y12p : w.heap.size + 1 + 1 < w1.heap.size + 1 := (by omega)); (try have y13 : w.heap.size + 1 + 1 + 1 < w1.heap.size := (by omega)); (try have y13p : w.heap.size + 1 + 1 + 1 < w1.heap.size + 1 := (by omega)); (try have y14 : w.heap.size + 1 + 1 + 1 + 1 < w1.heap.size := (by omega)); (try have y14p : w.heap.size + 1 + 1 + 1 + 1 < w1.heap.size + 1 := (by omega)); (try have v0x1 : w0.heap.size < w1.heap.size := (by omega)); (try have v0x1p : w0.heap.size < w1.heap.size + 1 := (by omega))) | (go_at_call 46; refine (hk _).mono ?_; rintro e w' ⟨rfl, rfl⟩) | (go_at_call 42; refine (ends_any _ _).mono ?_; rintro e w2 ⟨rfl, hb2⟩; obtain ⟨hc2, hf2⟩ := bcell hb2; have hz2 := hb2.size; (try simp at hz2); (try have y20 : w.heap.size < w2.heap.size := (by omega)); (try have y20p : w.heap.size < w2.heap.size + 1 := (by omega)); (try have y21 : w.heap.size + 1 < w2.heap.size := (by omega)); (try have y21p : w.heap.size + 1 < w2.heap.size + 1 := (by omega)); (try have y22 : w.heap.size + 1 + 1 < w2.heap.size := (by omega)); (try have y22p : w.heap.size + 1 + 1 < w2.heap.size + 1 := (by omega)); (try have y23 : w.heap.size + 1 + 1 + 1 < w2.heap.size := (by omega)); (try have y23p : w.heap.size + 1 + 1 + 1 < w2.heap.size + 1 := (by omega)); (try have y24 : w.heap.size + 1 + 1 + 1 + 1 < w2.heap.size := (by omega)); (try have y24p : w.heap.size + 1 + 1 + 1 + 1 < w2.heap.size + 1 := (by omega)); (try have v0x2 : w0.heap.size < w2.heap.size := (by omega)); (try have v0x2p : w0.heap.size < w2.heap.size + 1 := (by omega)); (try have v1x2 : w1.heap.size < w2.heap.size := (by omega)); (try have v1x2p : w1.heap.size < w2.heap.size + 1 := (by omega))))
      go_region
      go_wp2
      go_ret
      refine ⟨ret_int HE.out.symm, ?_⟩
      repeat (first | with_reducible exact Below.refl _ _ | with_reducible refine Below.setCell ?_ ?_ _ | with_reducible refine Below.alloc ?_ ?_ _ | with_reducible refine Below.drew ?_ | with_reducible refine below_drewN ?_ _ | (refine Below.trans ?_ (bmono (by assumption) ?_)))
      all_goals (first | omega | (simp <;> omega))
    · have d1 : decide (t ≤ z) = false := by simpa using h1
      by_cases h2 : r - k ≤ t
      · have HE := Lib.hid (okI_12 (lo := z) (hi := r) h (.inr h2))
        clear h
        have d2 : decide (r - k ≤ t) = true := by simpa using h2
        go_enter Try.func17, Try.ntmps17
        go_wp2_with (first | (go_at_call 45; refine (hc _ _ (Blk.new2 (by simp))).mono ?_; rintro e w1 ⟨rfl, hb1⟩; obtain ⟨hc1, hf1⟩ := bcell hb1; have hz1 := hb1.size; (try simp at hz1); (try have y10 : w.heap.size < w1.heap.size := (by omega)); (try have y10p : w.heap.size < w1.heap.size + 1 := (by omega)); (try have y11 : w.heap.size + 1 < w1.heap.size := (by omega)); (try have y11p : w.heap.size + 1 < w1.heap.size + 1 := (by omega)); (try have y12 : w.heap.size + 1 + 1 < w1.heap.size := (by omega)); (try have y12p : w.heap.size + 1 + 1 < w1.heap.size + 1 := (by omega)); (try have y13 : w.heap.size + 1 + 1 + 1 < w1.heap.size := (by omega)); (try have y13p : w.heap.size + 1 + 1 + 1 < w1.heap.size + 1 := (by omega)); (try have y14 : w.heap.size + 1 + 1 + 1 + 1 < w1.heap.size := (by omega)); (try have y14p : w.heap.size + 1 + 1 + 1 + 1 < w1.heap.size + 1 := (by omega)); (try have v0x1 : w0.heap.size < w1.heap.size := (by omega)); (try have v0x1p : w0.heap.size < w1.heap.size + 1 := (by omega))) | (go_at_call 46; refine (hk _).mono ?_; rintro e w' ⟨rfl, rfl⟩) | (go_at_call 42; refine (ends_any _ _).mono ?_; rintro e w2 ⟨rfl, hb2⟩; obtain ⟨hc2, hf2⟩ := bcell hb2; have hz2 := hb2.size; (try simp at hz2); (try have y20 : w.heap.size < w2.heap.size := (by omega)); (try have y20p : w.heap.size < w2.heap.size + 1 := (by omega)); (try have y21 : w.heap.size + 1 < w2.heap.size := (by omega)); (try have y21p : w.heap.size + 1 < w2.heap.size + 1 := (by omega)); (try have y22 : w.heap.size + 1 + 1 < w2.heap.size := (by omega)); (try have y22p : w.heap.size + 1 + 1 < w2.heap.size + 1 := (by omega)); (try have y23 : w.heap.size + 1 + 1 + 1 < w2.heap.size := (by omega)); (try have y23p : w.heap.size + 1 + 1 + 1 < w2.heap.size + 1 := (by omega)); (try have y24 : w.heap.size + 1 + 1 + 1 + 1 < w2.heap.size := (by omega)); (try have y24p : w.heap.size + 1 + 1 + 1 + 1 < w2.heap.size + 1 := (by omega)); (try have v0x2 : w0.heap.size < w2.heap.size := (by omega)); (try have v0x2p : w0.heap.size < w2.heap.size + 1 := (by omega)); (try have v1x2 : w1.heap.size < w2.heap.size := (by omega)); (try have v1x2p : w1.heap.size < w2.heap.size + 1 := (by omega))))
        go_region
        go_wp2
        go_ret
        refine ⟨ret_int HE.out.symm, ?_⟩
        repeat (first | with_reducible exact Below.refl _ _ | with_reducible refine Below.setCell ?_ ?_ _ | with_reducible refine Below.alloc ?_ ?_ _ | with_reducible refine Below.drew ?_ | with_reducible refine below_drewN ?_ _ | (refine Below.trans ?_ (bmono (by assumption) ?_)))
        all_goals (first | omega | (simp <;> omega))
      · have HE := Lib.hid (okI_0 (lo := z) (hi := r) h h1 h2)
        clear h
        have d2 : decide (r - k ≤ t) = false := by simpa using h2
        go_enter Try.func17, Try.ntmps17
        go_wp2_with (first | (go_at_call 45; refine (hc _ _ (Blk.new2 (by simp))).mono ?_; rintro e w1 ⟨rfl, hb1⟩; obtain ⟨hc1, hf1⟩ := bcell hb1; have hz1 := hb1.size; (try simp at hz1); (try have y10 : w.heap.size < w1.heap.size := (by omega)); (try have y10p : w.heap.size < w1.heap.size + 1 := (by omega)); (try have y11 : w.heap.size + 1 < w1.heap.size := (by omega)); (try have y11p : w.heap.size + 1 < w1.heap.size + 1 := (by omega)); (try have y12 : w.heap.size + 1 + 1 < w1.heap.size := (by omega)); (try have y12p : w.heap.size + 1 + 1 < w1.heap.size + 1 := (by omega)); (try have y13 : w.heap.size + 1 + 1 + 1 < w1.heap.size := (by omega)); (try have y13p : w.heap.size + 1 + 1 + 1 < w1.heap.size + 1 := (by omega)); (try have y14 : w.heap.size + 1 + 1 + 1 + 1 < w1.heap.size := (by omega)); (try have y14p : w.heap.size + 1 + 1 + 1 + 1 < w1.heap.size + 1 := (by omega)); (try have v0x1 : w0.heap.size < w1.heap.size := (by omega)); (try have v0x1p : w0.heap.size < w1.heap.size + 1 := (by omega))) | (go_at_call 46; refine (hk _).mono ?_; rintro e w' ⟨rfl, rfl⟩) | (go_at_call 42; refine (ends_any _ _).mono ?_; rintro e w2 ⟨rfl, hb2⟩; obtain ⟨hc2, hf2⟩ := bcell hb2; have hz2 := hb2.size; (try simp at hz2); (try have y20 : w.heap.size < w2.heap.size := (by omega)); (try have y20p : w.heap.size < w2.heap.size + 1 := (by omega)); (try have y21 : w.heap.size + 1 < w2.heap.size := (by omega)); (try have y21p : w.heap.size + 1 < w2.heap.size + 1 := (by omega)); (try have y22 : w.heap.size + 1 + 1 < w2.heap.size := (by omega)); (try have y22p : w.heap.size + 1 + 1 < w2.heap.size + 1 := (by omega)); (try have y23 : w.heap.size + 1 + 1 + 1 < w2.heap.size := (by omega)); (try have y23p : w.heap.size + 1 + 1 + 1 < w2.heap.size + 1 := (by omega)); (try have y24 : w.heap.size + 1 + 1 + 1 + 1 < w2.heap.size := (by omega)); (try have y24p : w.heap.size + 1 + 1 + 1 + 1 < w2.heap.size + 1 := (by omega)); (try have v0x2 : w0.heap.size < w2.heap.size := (by omega)); (try have v0x2p : w0.heap.size < w2.heap.size + 1 := (by omega)); (try have v1x2 : w1.heap.size < w2.heap.size := (by omega)); (try have v1x2p : w1.heap.size < w2.heap.size + 1 := (by omega))))
        go_region
        go_wp2
        go_ret
        refine ⟨ret_int HE.out.symm, ?_⟩
        repeat (first | with_reducible exact Below.refl _ _ | with_reducible refine Below.setCell ?_ ?_ _ | with_reducible refine Below.alloc ?_ ?_ _ | with_reducible refine Below.drew ?_ | with_reducible refine below_drewN ?_ _ | (refine Below.trans ?_ (bmono (by assumption) ?_)))
        all_goals (first | omega | (simp <;> omega))
set_option maxHeartbeats 2000000 in
theorem Check_any (x y z p q r a t k : Int) (w : World) :
    Calls Try.prog 17 #[.agg #[.int .i64 x, .int .i64 y, .int .i64 z, .int .i64 p, .int .i64 q, .int .i64 r], .agg #[.int .i64 a, .int .i64 t, .int .i64 k]] w fun e w' => e = .returned (.int .i64 (ckI x y z p q r a t k)) ∧ Below w.heap.size w w' := by
  have hc := @cax1 x y z p q r a
  by_cases h : caI (eB x y z p q r) a = 0
  · obtain ⟨hv, ha⟩ := caI_z h
    have e0 : ckI x y z p q r a t k = if a = 0 then okI x p t k else if a = 1 then okI y q t k else okI z r t k := by rw [ckI, if_pos h]
    rw [e0]
    rcases ax3 ha with rfl | rfl | rfl
    · exact Check_ok0 x y z p q r t k hv w
    · exact Check_ok1 x y z p q r t k hv w
    · exact Check_ok2 x y z p q r t k hv w
  · have HE := Lib.hid (show ckI x y z p q r a t k = caI (eB x y z p q r) a by simp [ckI, h])
    generalize caI (eB x y z p q r) a = f at h hc HE ⊢
    obtain ⟨t1, t2⟩ := ne_tests h
    clear h
    go_enter Try.func17, Try.ntmps17
    go_wp2_with (go_at_call 45; refine (hc _ _ (Blk.new2 (by simp))).mono ?_; rintro e w1 ⟨rfl, hb1⟩; obtain ⟨hc1, hf1⟩ := bcell hb1; have hz1 := hb1.size; (try simp at hz1); (try have y10 : w.heap.size < w1.heap.size := (by omega)); (try have y10p : w.heap.size < w1.heap.size + 1 := (by omega)); (try have y11 : w.heap.size + 1 < w1.heap.size := (by omega)); (try have y11p : w.heap.size + 1 < w1.heap.size + 1 := (by omega)); (try have y12 : w.heap.size + 1 + 1 < w1.heap.size := (by omega)); (try have y12p : w.heap.size + 1 + 1 < w1.heap.size + 1 := (by omega)); (try have y13 : w.heap.size + 1 + 1 + 1 < w1.heap.size := (by omega)); (try have y13p : w.heap.size + 1 + 1 + 1 < w1.heap.size + 1 := (by omega)); (try have y14 : w.heap.size + 1 + 1 + 1 + 1 < w1.heap.size := (by omega)); (try have y14p : w.heap.size + 1 + 1 + 1 + 1 < w1.heap.size + 1 := (by omega)); (try have v0x1 : w0.heap.size < w1.heap.size := (by omega)); (try have v0x1p : w0.heap.size < w1.heap.size + 1 := (by omega)))
    go_ret
    refine ⟨ret_int HE.out.symm, ?_⟩
    repeat (first | with_reducible exact Below.refl _ _ | with_reducible refine Below.setCell ?_ ?_ _ | with_reducible refine Below.alloc ?_ ?_ _ | with_reducible refine Below.drew ?_ | with_reducible refine below_drewN ?_ _ | (refine Below.trans ?_ (bmono (by assumption) ?_)))
    all_goals (first | omega | (simp <;> omega))
end Go.Proofs.Ytogmgaaejepcbaa
