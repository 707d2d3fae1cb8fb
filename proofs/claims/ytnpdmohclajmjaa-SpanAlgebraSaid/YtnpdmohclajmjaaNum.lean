/- The walks of span's and the reference's functions on one or two intervals and of the checks of a list of them. No condition but a length of at most a million. -/
import Derived.Test.YtnpdmohclajmjaaProg
import Derived.Test.YtnpdmohclajmjaaKit
import Derived.WalkKit
import Derived.WalkSpells
import Derived.WalkLawsBesides
import Derived.Deep.QuietTactic
import Derived.BigQuiet
import Derived.Laws.StructEq
import Derived.Lib.Hide
namespace Go.Proofs.Ytnpdmohclajmjaa
open Go.RowKit

def clampI (n : Int) : Int := max (-1000000000000) (min n 1000000000000)
/-- an interval whose ends are in range -/
def inR (x : Int × Int) : Bool := x.1 == clampI x.1 && x.2 == clampI x.2
theorem inR_iff (x : Int × Int) : inR x = true ↔ (-1000000000000 ≤ x.1 ∧ x.1 ≤ 1000000000000 ∧ -1000000000000 ≤ x.2 ∧ x.2 ≤ 1000000000000) := by
  simp only [inR, clampI, Bool.and_eq_true, beq_iff_eq]; omega
def errOf (l : List (Int × Int)) : Int := if l.all inR then (if l.all (fun x => decide (x.1 ≤ x.2)) then 0 else 1) else 6
def bndS (x : Int × Int) : (Int × Int) × Int := if inR x then (x, 0) else ((0, 0), 6)

theorem iv_mem {l : List (Int × Int)} {k : Nat} (h : k < l.length) : iv l k ∈ l := by
  rw [iv_eq h]; exact List.getElem_mem h
theorem all_iv {l : List (Int × Int)} {p : Int × Int → Bool} (h : ∀ j, j < l.length → p (iv l j) = true) : l.all p = true := by
  rw [List.all_eq_true]; intro x hx
  obtain ⟨i, hi, rfl⟩ := List.getElem_of_mem hx
  have := h i hi
  rwa [iv_eq hi] at this
theorem not_all_iv {l : List (Int × Int)} {p : Int × Int → Bool} {k : Nat} (hk : k < l.length) (h : p (iv l k) = false) : l.all p = false := by
  rw [Bool.eq_false_iff]; intro hh
  rw [List.all_eq_true] at hh
  rw [hh _ (iv_mem hk)] at h; cases h
theorem errOf_6 {l : List (Int × Int)} {k : Nat} (hk : k < l.length) (h : inR (iv l k) = false) : errOf l = 6 := by
  unfold errOf; rw [not_all_iv hk h]; rfl
theorem errOf_1 {l : List (Int × Int)} {k : Nat} (ha : ∀ j, j < l.length → inR (iv l j) = true) (hk : k < l.length) (h : (iv l k).2 < (iv l k).1) : errOf l = 1 := by
  unfold errOf; rw [all_iv ha, not_all_iv (p := fun x => decide (x.1 ≤ x.2)) hk (by simp; omega)]; rfl
theorem errOf_0 {l : List (Int × Int)} (ha : ∀ j, j < l.length → inR (iv l j) = true) (h : ∀ j, j < l.length → (iv l j).1 ≤ (iv l j).2) : errOf l = 0 := by
  unfold errOf; rw [all_iv ha, all_iv (p := fun x => decide (x.1 ≤ x.2)) (fun j hj => by simpa using h j hj)]; rfl

set_option maxHeartbeats 400000 in
theorem clamp_any (n : Int) (w : World) :
    Calls Try.prog 57 #[.int .i64 n] w fun e w' => e = .returned (.int .i64 (clampI n)) ∧ w = w' := by
  go_enter Try.func57, Try.ntmps57
  go_wp2
  all_goals (go_ret; exact ⟨ret_int (by unfold clampI; (try split at *) <;> omega), rfl⟩)

theorem eqIv (x y : Int × Int) (w : World) : Sem.run Try.prog (binOp .eql 23 (.agg #[.int .i64 x.1, .int .i64 x.2]) (.agg #[.int .i64 y.1, .int .i64 y.2])) w = .ok (.bool (x.1 == y.1 && x.2 == y.2)) w := by
  have u3 := Try.underlying3
  have a3 := Try.isAgg3
  have z3 := Try.sizeOf3
  have hS : Try.prog.underlying 23 = some (.struct (Try.prog.fieldsOf 23)) := by kernel_rfl
  have hp : Try.prog.stoodInHeld 23 = false := by kernel_rfl
  rw [run_eql_struct, show (10000 : Nat) = 9999 + 1 from rfl, run_equalIn_agg w 9999 23 _ _ hS hp]
  simp only [Program.fieldsOf, Try.underlying23]
  go_simp
  by_cases h1 : x.fst = y.fst <;> by_cases h2 : x.snd = y.snd <;> simp [h1, h2]

set_option maxHeartbeats 400000 in
theorem inRange_any (x : Int × Int) (w : World) :
    Calls Try.prog 50 #[.agg #[.int .i64 x.1, .int .i64 x.2]] w fun e w' => e = .returned (.bool (inR x)) ∧ Below w.heap.size w w' := by
  have he := eqIv x (clampI x.1, clampI x.2)
  simp only at he
  go_enter Try.func50, Try.ntmps50
  go_wp2
  go_quiet ((go_at_call 57; exact Calls.quiet_of_same ((clamp_any _ _).mono fun _ _ h => ⟨h.1, h.2.symm⟩)))
  go_wp2
  go_ret
  exact ⟨rfl, below_drewN ((Below.refl _ _).alloc (Nat.le_refl _) _) _⟩

set_option maxHeartbeats 400000 in
theorem outside_any (x : Int × Int) (w : World) :
    Calls Try.prog 51 #[.agg #[.int .i64 x.1, .int .i64 x.2]] w fun e w' => e = .returned (.bool (!inR x)) ∧ Below w.heap.size w w' := by
  have key : ∀ c : Bool, (c = true ↔ ¬ inR x = true) → (!inR x) = c := by
    intro c h; cases hx : inR x <;> cases c <;> simp_all
  rw [inR_iff] at key
  generalize (!inR x) = r at key ⊢
  go_enter Try.func51, Try.ntmps51
  go_wp2
  all_goals (go_ret; refine ⟨ret_bool (key _ ?_).symm, (Below.refl _ _).alloc (Nat.le_refl _) _⟩; simp; omega)

set_option maxHeartbeats 1000000 in
theorem checkEach_any (A : Option Addr) (cap : Nat) (l : List (Int × Int)) (w : World) (hl : l.length ≤ 1000000)
    (hr : Reads w w.heap.size 2 A l.length (encL l)) :
    Calls Try.prog 40 #[.slice A l.length cap] w fun e w' => e = .returned (.int .i64 (errOf l)) ∧ Below w.heap.size w w' := by
  go_enter Try.func40, Try.ntmps40
  go_wp2
  go_loopw [9] (fun i wr => ∃ k : Nat, k ≤ l.length ∧ i = .int .i64 k ∧ (∀ j, j < k → inR (iv l j) = true) ∧ Below w.heap.size w wr) (fun i _ => l.length - (intOf i).toNat)
  case atStart => exact ⟨0, Nat.zero_le _, rfl, fun j hj => absurd hj (Nat.not_lt_zero _), Below.refl _ _⟩
  case round =>
    obtain ⟨k, hk, rfl, hj, hbw⟩ := hrel
    by_cases hlt : k < l.length
    · obtain ⟨ad, rfl, hb, c1, c2⟩ := (hr.below hbw).iv rfl hlt
      have hz := hbw.size
      by_cases hin : inR (iv l k) = true
      · have HJ : Hid (∀ j, j < k → inR (iv l j) = true) := Lib.hid hj
        clear hj
        go_wp2_with (go_at_call 50; refine (inRange_any _ _).mono ?_; rintro e w' ⟨rfl, hb2⟩)
        go_roundw
        case rel =>
          have hb3 := bmono (B := w.heap.size) hb2 (by simp; omega)
          exact ⟨k + 1, by omega, by go_num, fun j hj => by rcases Nat.lt_succ_iff_lt_or_eq.1 hj with h | h; exact HJ.out j h; rw [h]; exact hin, (hbw.alloc hz _).trans hb3⟩
        case measure => simp [intOf]; omega
      · have hin' : inR (iv l k) = false := by simpa using hin
        clear hin
        go_wp2_with (go_at_call 50; refine (inRange_any _ _).mono ?_; rintro e w' ⟨rfl, hb2⟩)
        go_ret
        have hb3 := bmono (B := w.heap.size) hb2 (by simp; omega)
        exact ⟨ret_int (errOf_6 hlt hin').symm, (hbw.alloc hz _).trans hb3⟩
    · obtain rfl : k = l.length := by omega
      have HJ : Hid (∀ j, j < l.length → inR (iv l j) = true) := Lib.hid hj
      clear hj
      go_wp2
      obtain ⟨wo, rfl⟩ : ∃ wo : World, wo = wr := ⟨_, rfl⟩
      go_loopw [19] (fun i wr => ∃ k : Nat, k ≤ l.length ∧ i = .int .i64 k ∧ (∀ j, j < k → (iv l j).1 ≤ (iv l j).2) ∧ Below w.heap.size w wr) (fun i _ => l.length - (intOf i).toNat)
      case atStart => exact ⟨0, Nat.zero_le _, rfl, fun j hj => absurd hj (Nat.not_lt_zero _), hbw⟩
      case round =>
        obtain ⟨k, hk, rfl, hj, hbw⟩ := hrel
        by_cases hlt : k < l.length
        · obtain ⟨ad, rfl, hb, c1, c2⟩ := (hr.below hbw).iv rfl hlt
          have hz := hbw.size
          have HJ2 : Hid (∀ j, j < k → (iv l j).1 ≤ (iv l j).2) := Lib.hid hj
          clear hj
          by_cases hin : (iv l k).2 < (iv l k).1
          · go_wp2
            go_ret
            exact ⟨ret_int (errOf_1 HJ.out hlt hin).symm, (hbw.alloc hz _)⟩
          · go_wp2
            go_roundw
            case rel =>
              exact ⟨k + 1, by omega, by go_num, fun j hj => by rcases Nat.lt_succ_iff_lt_or_eq.1 hj with h | h; exact HJ2.out j h; rw [h]; omega, (hbw.alloc hz _)⟩
            case measure => simp [intOf]; omega
        · obtain rfl : k = l.length := by omega
          go_wp2
          go_ret
          exact ⟨ret_int (errOf_0 HJ.out hj).symm, hbw⟩

set_option maxHeartbeats 1000000 in
theorem all_any (A : Option Addr) (cap : Nat) (l : List (Int × Int)) (w : World) (hl : l.length ≤ 1000000)
    (hr : Reads w w.heap.size 2 A l.length (encL l)) :
    Calls Try.prog 41 #[.slice A l.length cap] w fun e w' => e = .returned (.int .i64 (errOf l)) ∧ Below w.heap.size w w' := by
  go_enter Try.func41, Try.ntmps41
  go_wp2
  go_loopw [3] (fun i wr => ∃ k : Nat, k ≤ l.length ∧ i = .int .i64 k ∧ (∀ j, j < k → inR (iv l j) = true) ∧ Below w.heap.size w wr) (fun i _ => l.length - (intOf i).toNat)
  case atStart => exact ⟨0, Nat.zero_le _, rfl, fun j hj => absurd hj (Nat.not_lt_zero _), Below.refl _ _⟩
  case round =>
    obtain ⟨k, hk, rfl, hj, hbw⟩ := hrel
    by_cases hlt : k < l.length
    · obtain ⟨ad, rfl, hb, c1, c2⟩ := (hr.below hbw).iv rfl hlt
      have hz := hbw.size
      by_cases hin : inR (iv l k) = true
      · have HJ : Hid (∀ j, j < k → inR (iv l j) = true) := Lib.hid hj
        clear hj
        go_wp2_with (go_at_call 51; refine (outside_any _ _).mono ?_; rintro e w' ⟨rfl, hb2⟩)
        go_roundw
        case rel =>
          have hb3 := bmono (B := w.heap.size) hb2 (by omega)
          exact ⟨k + 1, by omega, by go_num, fun j hj => by rcases Nat.lt_succ_iff_lt_or_eq.1 hj with h | h; exact HJ.out j h; rw [h]; exact hin, hbw.trans hb3⟩
        case measure => simp [intOf]; omega
      · have hin' : inR (iv l k) = false := by simpa using hin
        clear hin
        go_wp2_with (go_at_call 51; refine (outside_any _ _).mono ?_; rintro e w' ⟨rfl, hb2⟩)
        go_ret
        have hb3 := bmono (B := w.heap.size) hb2 (by omega)
        exact ⟨ret_int (errOf_6 hlt hin').symm, hbw.trans hb3⟩
    · obtain rfl : k = l.length := by omega
      have HJ : Hid (∀ j, j < l.length → inR (iv l j) = true) := Lib.hid hj
      clear hj
      go_wp2
      obtain ⟨wo, rfl⟩ : ∃ wo : World, wo = wr := ⟨_, rfl⟩
      go_loopw [4] (fun i wr => ∃ k : Nat, k ≤ l.length ∧ i = .int .i64 k ∧ (∀ j, j < k → (iv l j).1 ≤ (iv l j).2) ∧ Below w.heap.size w wr) (fun i _ => l.length - (intOf i).toNat)
      case atStart => exact ⟨0, Nat.zero_le _, rfl, fun j hj => absurd hj (Nat.not_lt_zero _), hbw⟩
      case round =>
        obtain ⟨k, hk, rfl, hj, hbw⟩ := hrel
        by_cases hlt : k < l.length
        · obtain ⟨ad, rfl, hb, c1, c2⟩ := (hr.below hbw).iv rfl hlt
          have hz := hbw.size
          have HJ2 : Hid (∀ j, j < k → (iv l j).1 ≤ (iv l j).2) := Lib.hid hj
          clear hj
          by_cases hin : (iv l k).2 < (iv l k).1
          · go_wp2
            go_quiet (fail)
            go_wp2
            go_ret
            exact ⟨ret_int (errOf_1 HJ.out hlt hin).symm, below_drewN hbw _⟩
          · go_wp2
            go_quiet (fail)
            go_wp2
            go_roundw
            case rel =>
              exact ⟨k + 1, by omega, by go_num, fun j hj => by rcases Nat.lt_succ_iff_lt_or_eq.1 hj with h | h; exact HJ2.out j h; rw [h]; omega, below_drewN hbw _⟩
            case measure => simp [intOf]; omega
        · obtain rfl : k = l.length := by omega
          go_wp2
          go_ret
          exact ⟨ret_int (errOf_0 HJ.out hj).symm, hbw⟩

end Go.Proofs.Ytnpdmohclajmjaa
