/- The walks of checkEach and checkPoints: a list of vectors, of points, all of them in range or not. The lists are of at most a thousand. -/
import Derived.Test.YthlidkmalfjmbaaVec
namespace Go.Proofs.Ythlidkmalfjmbaa
open Go.RowKit

def encT (x : Int × Int × Int) : List Value := [.int .i64 x.1, .int .i64 x.2.1, .int .i64 x.2.2]
def encTs (l : List (Int × Int × Int)) : List Value := l.flatMap encT
def encP (x : Int × Int) : List Value := [.int .i64 x.1, .int .i64 x.2]
def encPs (l : List (Int × Int)) : List Value := l.flatMap encP
theorem encTs_len (l : List (Int × Int × Int)) : (encTs l).length = l.length * 3 := by
  induction l with
  | nil => rfl
  | cons x r ih => simp only [encTs, List.flatMap_cons, List.length_append, List.length_cons] at *; rw [ih]; simp [encT]; omega
theorem encPs_len (l : List (Int × Int)) : (encPs l).length = l.length * 2 := by
  induction l with
  | nil => rfl
  | cons x r ih => simp only [encPs, List.flatMap_cons, List.length_append, List.length_cons] at *; rw [ih]; simp [encP]; omega
def tv (l : List (Int × Int × Int)) (i : Nat) : Int × Int × Int := l.getD i (0, 0, 0)
def pv (l : List (Int × Int)) (i : Nat) : Int × Int := l.getD i (0, 0)
theorem encTs_get : ∀ (l : List (Int × Int × Int)) (i : Nat), i < l.length → (encTs l)[i * 3]? = some (.int .i64 (tv l i).1) ∧ (encTs l)[i * 3 + 1]? = some (.int .i64 (tv l i).2.1) ∧ (encTs l)[i * 3 + 2]? = some (.int .i64 (tv l i).2.2)
  | [], i, h => absurd h (by simp)
  | x :: r, 0, _ => by simp [encTs, encT, tv]
  | x :: r, i + 1, h => by
    have ih := encTs_get r i (by simpa using h)
    have e : encTs (x :: r) = .int .i64 x.1 :: .int .i64 x.2.1 :: .int .i64 x.2.2 :: encTs r := by simp [encTs, encT]
    have e1 : tv (x :: r) (i + 1) = tv r i := by simp [tv]
    rw [e, e1, show (i + 1) * 3 = i * 3 + 1 + 1 + 1 by omega]
    simpa using ih
theorem encPs_get : ∀ (l : List (Int × Int)) (i : Nat), i < l.length → (encPs l)[i * 2]? = some (.int .i64 (pv l i).1) ∧ (encPs l)[i * 2 + 1]? = some (.int .i64 (pv l i).2)
  | [], i, h => absurd h (by simp)
  | x :: r, 0, _ => by simp [encPs, encP, pv]
  | x :: r, i + 1, h => by
    have ih := encPs_get r i (by simpa using h)
    have e : encPs (x :: r) = .int .i64 x.1 :: .int .i64 x.2 :: encPs r := by simp [encPs, encP]
    have e1 : pv (x :: r) (i + 1) = pv r i := by simp [pv]
    rw [e, e1, show (i + 1) * 2 = i * 2 + 1 + 1 by omega]
    simpa using ih
theorem Reads.tv {w : World} {B n k : Nat} {A : Option Addr} {l : List (Int × Int × Int)} (h : Reads w B 3 A n (encTs l)) (hn : n = l.length) (hk : k < l.length) :
    ∃ ad, A = some ad ∧ ad.block < B ∧ w.cell? (ad.add (k * 3)) = some (.int .i64 (tv l k).1) ∧ w.cell? ⟨(ad.add (k * 3)).block, (ad.add (k * 3)).off + 1, none⟩ = some (.int .i64 (tv l k).2.1) ∧
      w.cell? ⟨(ad.add (k * 3)).block, (ad.add (k * 3)).off + 2, none⟩ = some (.int .i64 (tv l k).2.2) := by
  subst hn
  obtain ⟨ad, e, hb, hc⟩ := h.2 (by omega)
  obtain ⟨h1, h2, h3⟩ := encTs_get l k hk
  refine ⟨ad, e, hb, hc _ _ h1, ?_, ?_⟩
  · rw [← Addr.add_succ' (ad.add (k * 3)) 0, add_of_add]; exact hc _ _ h2
  · rw [← Addr.add_succ' (ad.add (k * 3)) 1, add_of_add]; exact hc _ _ h3
theorem Reads.pv {w : World} {B n k : Nat} {A : Option Addr} {l : List (Int × Int)} (h : Reads w B 2 A n (encPs l)) (hn : n = l.length) (hk : k < l.length) :
    ∃ ad, A = some ad ∧ ad.block < B ∧ w.cell? (ad.add (k * 2)) = some (.int .i64 (pv l k).1) ∧ w.cell? ⟨(ad.add (k * 2)).block, (ad.add (k * 2)).off + 1, none⟩ = some (.int .i64 (pv l k).2) := by
  subst hn
  obtain ⟨ad, e, hb, hc⟩ := h.2 (by omega)
  obtain ⟨h1, h2⟩ := encPs_get l k hk
  exact ⟨ad, e, hb, hc _ _ h1, by rw [← Addr.add_succ' (ad.add (k * 2)) 0, add_of_add]; exact hc _ _ h2⟩
theorem readsT_new {w : World} {l : List (Int × Int × Int)} {cs : Array Value} {g : Nat} (hg : g = w.heap.size) (hcs : cs = (encTs l).toArray) :
    Reads (w.alloc (.cells cs 23)) (w.alloc (.cells cs 23)).heap.size 3 (some ⟨g, 0, none⟩) l.length (encTs l) := by
  subst hg hcs
  refine ⟨encTs_len l, fun _ => ⟨_, rfl, by simp, fun j u hu => ?_⟩⟩
  rw [Addr.add_lit, Nat.zero_add]
  simpa [go_sem] using hu
theorem readsP_new {w : World} {l : List (Int × Int)} {cs : Array Value} {g : Nat} (hg : g = w.heap.size) (hcs : cs = (encPs l).toArray) :
    Reads (w.alloc (.cells cs 46)) (w.alloc (.cells cs 46)).heap.size 2 (some ⟨g, 0, none⟩) l.length (encPs l) := by
  subst hg hcs
  refine ⟨encPs_len l, fun _ => ⟨_, rfl, by simp, fun j u hu => ?_⟩⟩
  rw [Addr.add_lit, Nat.zero_add]
  simpa [go_sem] using hu

def inT (x : Int × Int × Int) : Bool := inV x.1 x.2.1 x.2.2
def inP (x : Int × Int) : Bool := inC x.1 && inC x.2
def errT (l : List (Int × Int × Int)) : Int := if l.all inT then 0 else 6
def errP (l : List (Int × Int)) : Int := if l.all inP then 0 else 6
theorem eV_in {x y z : Int} (h : inV x y z = true) : eV x y z = 0 := by simp [eV, h]
theorem eV_out {x y z : Int} (h : inV x y z = false) : eV x y z = 6 := by simp [eV, h]
theorem tv_eq {l : List (Int × Int × Int)} {k : Nat} (h : k < l.length) : tv l k = l[k] := by
  unfold tv; simp [List.getD_eq_getElem?_getD, List.getElem?_eq_getElem h]
theorem pv_eq {l : List (Int × Int)} {k : Nat} (h : k < l.length) : pv l k = l[k] := by
  unfold pv; simp [List.getD_eq_getElem?_getD, List.getElem?_eq_getElem h]
theorem errT_0 {l : List (Int × Int × Int)} (h : ∀ j, j < l.length → inT (tv l j) = true) : errT l = 0 := by
  unfold errT
  rw [if_pos]
  rw [List.all_eq_true]; intro x hx
  obtain ⟨i, hi, rfl⟩ := List.getElem_of_mem hx
  have := h i hi
  rwa [tv_eq hi] at this
theorem errT_6 {l : List (Int × Int × Int)} {k : Nat} (hk : k < l.length) (h : inT (tv l k) = false) : errT l = 6 := by
  unfold errT
  rw [if_neg]
  intro hh
  rw [List.all_eq_true] at hh
  rw [tv_eq hk] at h
  rw [hh _ (List.getElem_mem hk)] at h; cases h
theorem errP_0 {l : List (Int × Int)} (h : ∀ j, j < l.length → inP (pv l j) = true) : errP l = 0 := by
  unfold errP
  rw [if_pos]
  rw [List.all_eq_true]; intro x hx
  obtain ⟨i, hi, rfl⟩ := List.getElem_of_mem hx
  have := h i hi
  rwa [pv_eq hi] at this
theorem errP_6 {l : List (Int × Int)} {k : Nat} (hk : k < l.length) (h : inP (pv l k) = false) : errP l = 6 := by
  unfold errP
  rw [if_neg]
  intro hh
  rw [List.all_eq_true] at hh
  rw [pv_eq hk] at h
  rw [hh _ (List.getElem_mem hk)] at h; cases h

set_option maxHeartbeats 1000000 in
theorem checkEach_any (A : Option Addr) (cap : Nat) (l : List (Int × Int × Int)) (w : World) (hl : l.length ≤ 1000)
    (hr : Reads w w.heap.size 3 A l.length (encTs l)) :
    Calls Try.prog 36 #[.slice A l.length cap] w fun e w' => e = .returned (.int .i64 (errT l)) ∧ Below w.heap.size w w' := by
  go_enter Try.func36, Try.ntmps36
  go_wp2
  go_loopw [8] (fun i wr => ∃ k : Nat, k ≤ l.length ∧ i = .int .i64 k ∧ (∀ j, j < k → inT (tv l j) = true) ∧ Below w.heap.size w wr) (fun i _ => l.length - (intOf i).toNat)
  case atStart => exact ⟨0, Nat.zero_le _, rfl, fun j hj => absurd hj (Nat.not_lt_zero _), Below.refl _ _⟩
  case round =>
    obtain ⟨k, hk, rfl, hj, hbw⟩ := hrel
    by_cases hlt : k < l.length
    · obtain ⟨ad, rfl, hb, c1, c2, c3⟩ := (hr.below hbw).tv rfl hlt
      have hz := hbw.size
      have hck := check_any (tv l k).1 (tv l k).2.1 (tv l k).2.2
      cases hin : inT (tv l k)
      · rw [eV_out hin] at hck
        go_wp2_with (go_at_call 15; refine (hck _).mono ?_; rintro e w' ⟨rfl, hb2⟩)
        go_ret
        have hb3 := bmono (B := w.heap.size) hb2 (by simp; omega)
        exact ⟨ret_int (errT_6 hlt hin).symm, (hbw.alloc hz _).trans hb3⟩
      · rw [eV_in hin] at hck
        have HJ : Hid (∀ j, j < k → inT (tv l j) = true) := Lib.hid hj
        clear hj
        go_wp2_with (go_at_call 15; refine (hck _).mono ?_; rintro e w' ⟨rfl, hb2⟩)
        go_roundw
        case rel =>
          have hb3 := bmono (B := w.heap.size) hb2 (by simp; omega)
          exact ⟨k + 1, by omega, by go_num, fun j hj => by rcases Nat.lt_succ_iff_lt_or_eq.1 hj with h | h; exact HJ.out j h; rw [h]; exact hin, (hbw.alloc hz _).trans hb3⟩
        case measure => simp [intOf]; omega
    · obtain rfl : k = l.length := by omega
      go_wp2
      go_ret
      exact ⟨ret_int (errT_0 hj).symm, hbw⟩
theorem inV_p {x y : Int} : inV x y 0 = (inC x && inC y) := by simp [inV, show inC 0 = true by decide]
set_option maxHeartbeats 1000000 in
theorem checkPoints_any (A : Option Addr) (cap : Nat) (l : List (Int × Int)) (w : World) (hl : l.length ≤ 1000)
    (hr : Reads w w.heap.size 2 A l.length (encPs l)) :
    Calls Try.prog 48 #[.slice A l.length cap] w fun e w' => e = .returned (.int .i64 (errP l)) ∧ Below w.heap.size w w' := by
  go_enter Try.func48, Try.ntmps48
  go_wp2
  go_loopw [8] (fun i wr => ∃ k : Nat, k ≤ l.length ∧ i = .int .i64 k ∧ (∀ j, j < k → inP (pv l j) = true) ∧ Below w.heap.size w wr) (fun i _ => l.length - (intOf i).toNat)
  case atStart => exact ⟨0, Nat.zero_le _, rfl, fun j hj => absurd hj (Nat.not_lt_zero _), Below.refl _ _⟩
  case round =>
    obtain ⟨k, hk, rfl, hj, hbw⟩ := hrel
    by_cases hlt : k < l.length
    · obtain ⟨ad, rfl, hb, c1, c2⟩ := (hr.below hbw).pv rfl hlt
      have hz := hbw.size
      have hck := check_any (pv l k).1 (pv l k).2 0
      cases hin : inP (pv l k)
      · rw [eV_out (inV_p.trans hin)] at hck
        go_wp2_with (go_at_call 15; refine (hck _).mono ?_; rintro e w' ⟨rfl, hb2⟩)
        go_ret
        have hb3 := bmono (B := w.heap.size) hb2 (by simp; omega)
        exact ⟨ret_int (errP_6 hlt hin).symm, (hbw.alloc hz _).trans hb3⟩
      · rw [eV_in (inV_p.trans hin)] at hck
        have HJ : Hid (∀ j, j < k → inP (pv l j) = true) := Lib.hid hj
        clear hj
        go_wp2_with (go_at_call 15; refine (hck _).mono ?_; rintro e w' ⟨rfl, hb2⟩)
        go_roundw
        case rel =>
          have hb3 := bmono (B := w.heap.size) hb2 (by simp; omega)
          exact ⟨k + 1, by omega, by go_num, fun j hj => by rcases Nat.lt_succ_iff_lt_or_eq.1 hj with h | h; exact HJ.out j h; rw [h]; exact hin, (hbw.alloc hz _).trans hb3⟩
        case measure => simp [intOf]; omega
    · obtain rfl : k = l.length := by omega
      go_wp2
      go_ret
      exact ⟨ret_int (errP_0 hj).symm, hbw⟩
end Go.Proofs.Ythlidkmalfjmbaa
