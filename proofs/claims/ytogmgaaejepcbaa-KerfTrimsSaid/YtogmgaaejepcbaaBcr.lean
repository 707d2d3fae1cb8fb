/- The walks of the reference's Check of a box, of plane's checks of two arguments and of the reference's. No condition. -/
import Derived.Test.YtogmgaaejepcbaaBck
namespace Go.Proofs.Ytogmgaaejepcbaa
open Go.RowKit

theorem KB.alls {x y z p q r : Int} {w W : World} (h : KB x y z p q r w W) : KB x y z p q r w W ∧ w.heap.size < W.heap.size ∧
    W.cell? ⟨w.heap.size, 0, none⟩ = some (.int .i64 x) ∧ W.cell? ⟨w.heap.size, 1, none⟩ = some (.int .i64 y) ∧ W.cell? ⟨w.heap.size, 2, none⟩ = some (.int .i64 z) ∧
    W.cell? ⟨w.heap.size, 3, none⟩ = some (.int .i64 p) ∧ W.cell? ⟨w.heap.size, 4, none⟩ = some (.int .i64 q) ∧ W.cell? ⟨w.heap.size, 5, none⟩ = some (.int .i64 r) := ⟨h, h.all⟩
theorem at0 (x y z : Int) (w : World) : Calls Try.prog 54 #[.agg #[.int .i64 x, .int .i64 y, .int .i64 z], .int .i64 0] w fun e w' => e = .returned (.int .i64 x) ∧ Below w.heap.size w w' := at_any x y z 0 w
theorem at1 (x y z : Int) (w : World) : Calls Try.prog 54 #[.agg #[.int .i64 x, .int .i64 y, .int .i64 z], .int .i64 1] w fun e w' => e = .returned (.int .i64 y) ∧ Below w.heap.size w w' := at_any x y z 1 w
theorem at2 (x y z : Int) (w : World) : Calls Try.prog 54 #[.agg #[.int .i64 x, .int .i64 y, .int .i64 z], .int .i64 2] w fun e w' => e = .returned (.int .i64 z) ∧ Below w.heap.size w w' := at_any x y z 2 w
theorem eB_bx {x y z p q r : Int} (h : ¬ (-1000000 ≤ x ∧ x ≤ 1000000 ∧ -1000000 ≤ p ∧ p ≤ 1000000)) : eB x y z p q r = 6 := by
  refine eB_out ?_
  have : inC x = false ∨ inC p = false := by
    by_cases h1 : inC x = true
    · by_cases h2 : inC p = true
      · have := inC_iff.1 h1; have := inC_iff.1 h2; omega
      · right; simpa using h2
    · left; simpa using h1
  rcases this with h | h <;> simp [inV, h]
theorem eB_by {x y z p q r : Int} (h : ¬ (-1000000 ≤ y ∧ y ≤ 1000000 ∧ -1000000 ≤ q ∧ q ≤ 1000000)) : eB x y z p q r = 6 := by
  refine eB_out ?_
  have : inC y = false ∨ inC q = false := by
    by_cases h1 : inC y = true
    · by_cases h2 : inC q = true
      · have := inC_iff.1 h1; have := inC_iff.1 h2; omega
      · right; simpa using h2
    · left; simpa using h1
  rcases this with h | h <;> simp [inV, h]
theorem eB_bz {x y z p q r : Int} (h : ¬ (-1000000 ≤ z ∧ z ≤ 1000000 ∧ -1000000 ≤ r ∧ r ≤ 1000000)) : eB x y z p q r = 6 := by
  refine eB_out ?_
  have : inC z = false ∨ inC r = false := by
    by_cases h1 : inC z = true
    · by_cases h2 : inC r = true
      · have := inC_iff.1 h1; have := inC_iff.1 h2; omega
      · right; simpa using h2
    · left; simpa using h1
  rcases this with h | h <;> simp [inV, h]
theorem KL.drewN' {Z : List (Nat × TypeId × Array Value)} {w W : World} (h : KL Z w W) (n : Nat) : KL Z w (W.drewN n) := ⟨below_drewN h.1 n, fun p hp => Blk.drewN (h.2 p hp) n⟩
set_option maxHeartbeats 8000000 in
theorem rbcheck_any (x y z p q r : Int) (w : World) :
    Calls Try.prog 35 #[.agg #[.int .i64 x, .int .i64 y, .int .i64 z, .int .i64 p, .int .i64 q, .int .i64 r]] w fun e w' => e = .returned (.int .i64 (eB x y z p q r)) ∧ Below w.heap.size w w' := by
  go_enter Try.func35, Try.ntmps35
  go_wp2
  go_loopw [3] (fun i W => (i = .int .i64 0 ∨ (i = .int .i64 1 ∧ inC x = true ∧ inC p = true) ∨ (i = .int .i64 2 ∧ inC x = true ∧ inC p = true ∧ inC y = true ∧ inC q = true) ∨ (i = .int .i64 3 ∧ inC x = true ∧ inC p = true ∧ inC y = true ∧ inC q = true ∧ inC z = true ∧ inC r = true)) ∧ KB x y z p q r w W) (fun i _ => 3 - (intOf i).toNat)
  case atStart => exact ⟨.inl rfl, KB.start⟩
  case round =>
    obtain ⟨rfl | ⟨rfl, hx, hp⟩ | ⟨rfl, hx, hp, hy, hq⟩ | ⟨rfl, hx, hp, hy, hq, hz, hr⟩, hK⟩ := hrel
    · have q1 : ∀ W, KB x y z p q r w W → Calls Try.prog 54 #[.agg #[.int .i64 x, .int .i64 y, .int .i64 z], .int .i64 0] W _ := keepsKL (at0 x y z)
      have q2 : ∀ W, KB x y z p q r w W → Calls Try.prog 54 #[.agg #[.int .i64 p, .int .i64 q, .int .i64 r], .int .i64 0] W _ := keepsKL (at0 p q r)
      have hka := KB.alls hK
      go_wp2
      go_region_held3 (fun W => KB x y z p q r w W ∧ w.heap.size < W.heap.size ∧
        W.cell? ⟨w.heap.size, 0, none⟩ = some (.int .i64 x) ∧ W.cell? ⟨w.heap.size, 1, none⟩ = some (.int .i64 y) ∧ W.cell? ⟨w.heap.size, 2, none⟩ = some (.int .i64 z) ∧
        W.cell? ⟨w.heap.size, 3, none⟩ = some (.int .i64 p) ∧ W.cell? ⟨w.heap.size, 4, none⟩ = some (.int .i64 q) ∧ W.cell? ⟨w.heap.size, 5, none⟩ = some (.int .i64 r))
        (first | exact hka | exact KB.alls ‹_› | exact (KB.alls (KL.drew ‹_›)))
        (first
          | (revert hb1; intro hb1; go_at_call 54; refine (q2 _ ?_).mono ?_; (first | assumption | exact And.left ‹_›); rintro e w2 ⟨rfl, hk2, hb2⟩)
          | (go_at_call 54; refine (q1 _ ?_).mono ?_; (first | assumption | exact And.left ‹_›); rintro e w1 ⟨rfl, hk1, hb1⟩))
      clear q1 q2 hka
      go_wp2
      all_goals (try clear hK)
      all_goals first
        | (go_ret; exact ⟨ret_int (eB_bx (by omega)).symm, (KL.drewN' ‹KB x y z p q r w _› _).1⟩)
        | (go_ret; exact ⟨ret_int (eB_bx (by omega)).symm, (‹KB x y z p q r w _›).1⟩)
        | (go_roundw
           case rel => exact ⟨.inr (.inl ⟨by go_num, inC_iff.2 (by omega), inC_iff.2 (by omega)⟩), by first | assumption | exact KL.drew ‹_› | exact KL.drewN' ‹_› _⟩
           case measure => simp [intOf] <;> omega)
    · have q1 : ∀ W, KB x y z p q r w W → Calls Try.prog 54 #[.agg #[.int .i64 x, .int .i64 y, .int .i64 z], .int .i64 1] W _ := keepsKL (at1 x y z)
      have q2 : ∀ W, KB x y z p q r w W → Calls Try.prog 54 #[.agg #[.int .i64 p, .int .i64 q, .int .i64 r], .int .i64 1] W _ := keepsKL (at1 p q r)
      have hka := KB.alls hK
      go_wp2
      go_region_held3 (fun W => KB x y z p q r w W ∧ w.heap.size < W.heap.size ∧
        W.cell? ⟨w.heap.size, 0, none⟩ = some (.int .i64 x) ∧ W.cell? ⟨w.heap.size, 1, none⟩ = some (.int .i64 y) ∧ W.cell? ⟨w.heap.size, 2, none⟩ = some (.int .i64 z) ∧
        W.cell? ⟨w.heap.size, 3, none⟩ = some (.int .i64 p) ∧ W.cell? ⟨w.heap.size, 4, none⟩ = some (.int .i64 q) ∧ W.cell? ⟨w.heap.size, 5, none⟩ = some (.int .i64 r))
        (first | exact hka | exact KB.alls ‹_› | exact (KB.alls (KL.drew ‹_›)))
        (first
          | (revert hb1; intro hb1; go_at_call 54; refine (q2 _ ?_).mono ?_; (first | assumption | exact And.left ‹_›); rintro e w2 ⟨rfl, hk2, hb2⟩)
          | (go_at_call 54; refine (q1 _ ?_).mono ?_; (first | assumption | exact And.left ‹_›); rintro e w1 ⟨rfl, hk1, hb1⟩))
      clear q1 q2 hka
      go_wp2
      all_goals (try clear hK)
      all_goals first
        | (go_ret; exact ⟨ret_int (eB_by (by omega)).symm, (KL.drewN' ‹KB x y z p q r w _› _).1⟩)
        | (go_ret; exact ⟨ret_int (eB_by (by omega)).symm, (‹KB x y z p q r w _›).1⟩)
        | (go_roundw
           case rel => exact ⟨.inr (.inr (.inl ⟨by go_num, hx, hp, inC_iff.2 (by omega), inC_iff.2 (by omega)⟩)), by first | assumption | exact KL.drew ‹_› | exact KL.drewN' ‹_› _⟩
           case measure => simp [intOf] <;> omega)
    · have q1 : ∀ W, KB x y z p q r w W → Calls Try.prog 54 #[.agg #[.int .i64 x, .int .i64 y, .int .i64 z], .int .i64 2] W _ := keepsKL (at2 x y z)
      have q2 : ∀ W, KB x y z p q r w W → Calls Try.prog 54 #[.agg #[.int .i64 p, .int .i64 q, .int .i64 r], .int .i64 2] W _ := keepsKL (at2 p q r)
      have hka := KB.alls hK
      go_wp2
      go_region_held3 (fun W => KB x y z p q r w W ∧ w.heap.size < W.heap.size ∧
        W.cell? ⟨w.heap.size, 0, none⟩ = some (.int .i64 x) ∧ W.cell? ⟨w.heap.size, 1, none⟩ = some (.int .i64 y) ∧ W.cell? ⟨w.heap.size, 2, none⟩ = some (.int .i64 z) ∧
        W.cell? ⟨w.heap.size, 3, none⟩ = some (.int .i64 p) ∧ W.cell? ⟨w.heap.size, 4, none⟩ = some (.int .i64 q) ∧ W.cell? ⟨w.heap.size, 5, none⟩ = some (.int .i64 r))
        (first | exact hka | exact KB.alls ‹_› | exact (KB.alls (KL.drew ‹_›)))
        (first
          | (revert hb1; intro hb1; go_at_call 54; refine (q2 _ ?_).mono ?_; (first | assumption | exact And.left ‹_›); rintro e w2 ⟨rfl, hk2, hb2⟩)
          | (go_at_call 54; refine (q1 _ ?_).mono ?_; (first | assumption | exact And.left ‹_›); rintro e w1 ⟨rfl, hk1, hb1⟩))
      clear q1 q2 hka
      go_wp2
      all_goals (try clear hK)
      all_goals first
        | (go_ret; exact ⟨ret_int (eB_bz (by omega)).symm, (KL.drewN' ‹KB x y z p q r w _› _).1⟩)
        | (go_ret; exact ⟨ret_int (eB_bz (by omega)).symm, (‹KB x y z p q r w _›).1⟩)
        | (go_roundw
           case rel => exact ⟨.inr (.inr (.inr ⟨by go_num, hx, hp, hy, hq, inC_iff.2 (by omega), inC_iff.2 (by omega)⟩)), by first | assumption | exact KL.drew ‹_› | exact KL.drewN' ‹_› _⟩
           case measure => simp [intOf] <;> omega)
    · have HE := Lib.hid (eB_in hx hy hz hp hq hr)
      clear hx hy hz hp hq hr
      go_wp2
      go_loopw [6] (fun i W => (i = .int .i64 0 ∨ (i = .int .i64 1 ∧ x < p) ∨ (i = .int .i64 2 ∧ x < p ∧ y < q) ∨ (i = .int .i64 3 ∧ x < p ∧ y < q ∧ z < r)) ∧ KB x y z p q r w W) (fun i _ => 3 - (intOf i).toNat)
      case atStart => exact ⟨.inl rfl, hK⟩
      case round =>
        clear hK
        obtain ⟨rfl | ⟨rfl, lx⟩ | ⟨rfl, lx, ly⟩ | ⟨rfl, lx, ly, lz⟩, hK⟩ := hrel
        · have q1 : ∀ W, KB x y z p q r w W → Calls Try.prog 54 #[.agg #[.int .i64 x, .int .i64 y, .int .i64 z], .int .i64 0] W _ := keepsKL (at0 x y z)
          have q2 : ∀ W, KB x y z p q r w W → Calls Try.prog 54 #[.agg #[.int .i64 p, .int .i64 q, .int .i64 r], .int .i64 0] W _ := keepsKL (at0 p q r)
          have hka := KB.alls hK
          go_wp2
          go_region_held3 (fun W => KB x y z p q r w W ∧ w.heap.size < W.heap.size ∧
            W.cell? ⟨w.heap.size, 0, none⟩ = some (.int .i64 x) ∧ W.cell? ⟨w.heap.size, 1, none⟩ = some (.int .i64 y) ∧ W.cell? ⟨w.heap.size, 2, none⟩ = some (.int .i64 z) ∧
            W.cell? ⟨w.heap.size, 3, none⟩ = some (.int .i64 p) ∧ W.cell? ⟨w.heap.size, 4, none⟩ = some (.int .i64 q) ∧ W.cell? ⟨w.heap.size, 5, none⟩ = some (.int .i64 r))
            (first | exact hka | exact KB.alls ‹_› | exact (KB.alls (KL.drew ‹_›)))
            (first
              | (revert hb1; intro hb1; go_at_call 54; refine (q2 _ ?_).mono ?_; (first | assumption | exact And.left ‹_›); rintro e w2 ⟨rfl, hk2, hb2⟩)
              | (go_at_call 54; refine (q1 _ ?_).mono ?_; (first | assumption | exact And.left ‹_›); rintro e w1 ⟨rfl, hk1, hb1⟩))
          clear q1 q2 hka
          go_wp2
          all_goals (try clear hK)
          all_goals first
            | (go_ret; exact ⟨ret_int (by rw [HE.out, if_pos (empB_iff.2 (by omega))]), (KL.drewN' ‹KB x y z p q r w _› _).1⟩)
            | (go_ret; exact ⟨ret_int (by rw [HE.out, if_pos (empB_iff.2 (by omega))]), (‹KB x y z p q r w _›).1⟩)
            | (go_roundw
               case rel => exact ⟨.inr (.inl ⟨by go_num, by omega⟩), by first | assumption | exact KL.drew ‹_› | exact KL.drewN' ‹_› _⟩
               case measure => simp [intOf] <;> omega)
        · have q1 : ∀ W, KB x y z p q r w W → Calls Try.prog 54 #[.agg #[.int .i64 x, .int .i64 y, .int .i64 z], .int .i64 1] W _ := keepsKL (at1 x y z)
          have q2 : ∀ W, KB x y z p q r w W → Calls Try.prog 54 #[.agg #[.int .i64 p, .int .i64 q, .int .i64 r], .int .i64 1] W _ := keepsKL (at1 p q r)
          have hka := KB.alls hK
          go_wp2
          go_region_held3 (fun W => KB x y z p q r w W ∧ w.heap.size < W.heap.size ∧
            W.cell? ⟨w.heap.size, 0, none⟩ = some (.int .i64 x) ∧ W.cell? ⟨w.heap.size, 1, none⟩ = some (.int .i64 y) ∧ W.cell? ⟨w.heap.size, 2, none⟩ = some (.int .i64 z) ∧
            W.cell? ⟨w.heap.size, 3, none⟩ = some (.int .i64 p) ∧ W.cell? ⟨w.heap.size, 4, none⟩ = some (.int .i64 q) ∧ W.cell? ⟨w.heap.size, 5, none⟩ = some (.int .i64 r))
            (first | exact hka | exact KB.alls ‹_› | exact (KB.alls (KL.drew ‹_›)))
            (first
              | (revert hb1; intro hb1; go_at_call 54; refine (q2 _ ?_).mono ?_; (first | assumption | exact And.left ‹_›); rintro e w2 ⟨rfl, hk2, hb2⟩)
              | (go_at_call 54; refine (q1 _ ?_).mono ?_; (first | assumption | exact And.left ‹_›); rintro e w1 ⟨rfl, hk1, hb1⟩))
          clear q1 q2 hka
          go_wp2
          all_goals (try clear hK)
          all_goals first
            | (go_ret; exact ⟨ret_int (by rw [HE.out, if_pos (empB_iff.2 (by omega))]), (KL.drewN' ‹KB x y z p q r w _› _).1⟩)
            | (go_ret; exact ⟨ret_int (by rw [HE.out, if_pos (empB_iff.2 (by omega))]), (‹KB x y z p q r w _›).1⟩)
            | (go_roundw
               case rel => exact ⟨.inr (.inr (.inl ⟨by go_num, lx, by omega⟩)), by first | assumption | exact KL.drew ‹_› | exact KL.drewN' ‹_› _⟩
               case measure => simp [intOf] <;> omega)
        · have q1 : ∀ W, KB x y z p q r w W → Calls Try.prog 54 #[.agg #[.int .i64 x, .int .i64 y, .int .i64 z], .int .i64 2] W _ := keepsKL (at2 x y z)
          have q2 : ∀ W, KB x y z p q r w W → Calls Try.prog 54 #[.agg #[.int .i64 p, .int .i64 q, .int .i64 r], .int .i64 2] W _ := keepsKL (at2 p q r)
          have hka := KB.alls hK
          go_wp2
          go_region_held3 (fun W => KB x y z p q r w W ∧ w.heap.size < W.heap.size ∧
            W.cell? ⟨w.heap.size, 0, none⟩ = some (.int .i64 x) ∧ W.cell? ⟨w.heap.size, 1, none⟩ = some (.int .i64 y) ∧ W.cell? ⟨w.heap.size, 2, none⟩ = some (.int .i64 z) ∧
            W.cell? ⟨w.heap.size, 3, none⟩ = some (.int .i64 p) ∧ W.cell? ⟨w.heap.size, 4, none⟩ = some (.int .i64 q) ∧ W.cell? ⟨w.heap.size, 5, none⟩ = some (.int .i64 r))
            (first | exact hka | exact KB.alls ‹_› | exact (KB.alls (KL.drew ‹_›)))
            (first
              | (revert hb1; intro hb1; go_at_call 54; refine (q2 _ ?_).mono ?_; (first | assumption | exact And.left ‹_›); rintro e w2 ⟨rfl, hk2, hb2⟩)
              | (go_at_call 54; refine (q1 _ ?_).mono ?_; (first | assumption | exact And.left ‹_›); rintro e w1 ⟨rfl, hk1, hb1⟩))
          clear q1 q2 hka
          go_wp2
          all_goals (try clear hK)
          all_goals first
            | (go_ret; exact ⟨ret_int (by rw [HE.out, if_pos (empB_iff.2 (by omega))]), (KL.drewN' ‹KB x y z p q r w _› _).1⟩)
            | (go_ret; exact ⟨ret_int (by rw [HE.out, if_pos (empB_iff.2 (by omega))]), (‹KB x y z p q r w _›).1⟩)
            | (go_roundw
               case rel => exact ⟨.inr (.inr (.inr ⟨by go_num, lx, ly, by omega⟩)), by first | assumption | exact KL.drew ‹_› | exact KL.drewN' ‹_› _⟩
               case measure => simp [intOf] <;> omega)
        · go_wp2
          go_ret
          exact ⟨ret_int (by rw [HE.out, if_neg (by rw [empB_iff]; omega)]), hK.1⟩
end Go.Proofs.Ytogmgaaejepcbaa
