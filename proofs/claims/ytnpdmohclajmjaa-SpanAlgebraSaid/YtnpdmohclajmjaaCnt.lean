/- Plain mathematics: counts of the numbers of sets of intervals; what is in one or the other, both counted. No program here. -/
import Derived.Test.YtnpdmohclajmjaaAwake
import Derived.Test.YtnpdmohclajmjaaOps
namespace Go.Proofs.Ytnpdmohclajmjaa

theorem countP_or_and {α : Type} (p q u c : α → Bool) (hu : ∀ x, u x = (p x || q x)) (hc : ∀ x, c x = (p x && q x)) :
    ∀ L : List α, L.countP u + L.countP c = L.countP p + L.countP q
  | [] => by simp
  | x :: r => by
    have ih := countP_or_and p q u c hu hc r
    simp only [List.countP_cons, hu x, hc x]
    cases p x <;> cases q x <;> simp <;> omega
theorem countP_range (a b : Nat) (h : a ≤ b) : ∀ K, (List.range K).countP (fun i => decide (a ≤ i) && decide (i ≤ b)) = min K (b + 1) - a
  | 0 => by simp
  | K + 1 => by
    rw [List.range_succ, List.countP_append, countP_range a b h K]
    simp only [List.countP_cons, List.countP_nil, Bool.and_eq_true, decide_eq_true_eq]
    split <;> omega
theorem countP_disj {α : Type} (p q u : α → Bool) (hu : ∀ x, u x = (p x || q x)) (hd : ∀ x, ¬ (p x = true ∧ q x = true)) : ∀ L : List α, L.countP u = L.countP p + L.countP q
  | [] => by simp
  | x :: r => by
    have ih := countP_disj p q u hu hd r
    have h := hd x
    simp only [List.countP_cons, hu x]
    cases hp : p x <;> cases hq : q x <;> simp [hp, hq] at h ⊢ <;> omega

/-- the range in which all numbers lie, as naturals -/
def big : Nat := 2000000000001
def inB (R : List (Int × Int)) (i : Nat) : Bool := R.any fun x => contS x ((i : Int) - 1000000000000)
def tot (R : List (Int × Int)) (k : Nat) : Int := ((R.take k).map (fun x => x.2 - x.1 + 1)).sum
theorem cnt_cons (x : Int × Int) (r : List (Int × Int)) : cntTo (x :: r) (x :: r).length = (x.2 - x.1 + 1) + cntTo r r.length := by
  simp [cntTo]
theorem cnt_card : ∀ (R : List (Int × Int)), NF R → (∀ x ∈ R, -1000000000000 ≤ x.1 ∧ x.1 ≤ x.2 ∧ x.2 ≤ 1000000000000) → cntTo R R.length = ((List.range big).countP (inB R) : Nat)
  | [], _, _ => by
    have : (List.range big).countP (inB []) = 0 := List.countP_eq_zero.2 (fun i _ => by simp [inB])
    rw [this]; simp [cntTo]
  | x :: r, hn, hb => by
    have ih := cnt_card r hn.tail fun y hy => hb y (List.mem_cons_of_mem _ hy)
    obtain ⟨b1, b2, b3⟩ := hb x List.mem_cons_self
    rw [cnt_cons, ih]
    have hdis := countP_disj (fun i : Nat => contS x ((i : Int) - 1000000000000)) (inB r) (inB (x :: r)) (fun i => by simp [inB]) (fun i ⟨h1, h2⟩ => by
      simp only [contS, Bool.and_eq_true, decide_eq_true_eq] at h1
      simp only [inB, List.any_eq_true, contS, Bool.and_eq_true, decide_eq_true_eq] at h2
      obtain ⟨y, hy, h3, h4⟩ := h2
      have := hn.gap y hy
      omega) (List.range big)
    rw [hdis]
    have hone : (List.range big).countP (fun i : Nat => contS x ((i : Int) - 1000000000000)) = (x.2 + 1000000000000).toNat + 1 - (x.1 + 1000000000000).toNat := by
      have h1 := countP_range (x.1 + 1000000000000).toNat (x.2 + 1000000000000).toNat (by omega) big
      have h2 : (fun i : Nat => contS x ((i : Int) - 1000000000000)) = fun i => decide ((x.1 + 1000000000000).toNat ≤ i) && decide (i ≤ (x.2 + 1000000000000).toNat) := by
        funext i
        rw [Bool.eq_iff_iff]
        simp only [contS, Bool.and_eq_true, decide_eq_true_eq]
        omega
      rw [h2, h1]
      unfold big
      omega
    rw [hone]
    omega
/-- counts add up -/
theorem cnt_add {P Q U C l s : List (Int × Int)} (nP : NF P) (nQ : NF Q) (nU : NF U) (nC : NF C)
    (bP : ∀ x ∈ P, -1000000000000 ≤ x.1 ∧ x.1 ≤ x.2 ∧ x.2 ≤ 1000000000000) (bQ : ∀ x ∈ Q, -1000000000000 ≤ x.1 ∧ x.1 ≤ x.2 ∧ x.2 ≤ 1000000000000)
    (bU : ∀ x ∈ U, -1000000000000 ≤ x.1 ∧ x.1 ≤ x.2 ∧ x.2 ≤ 1000000000000) (bC : ∀ x ∈ C, -1000000000000 ≤ x.1 ∧ x.1 ≤ x.2 ∧ x.2 ≤ 1000000000000)
    (mP : ∀ n, Mem n P ↔ Mem n l) (mQ : ∀ n, Mem n Q ↔ Mem n s) (mU : ∀ n, Mem n U ↔ Mem n l ∨ Mem n s) (mC : ∀ n, Mem n C ↔ Mem n l ∧ Mem n s) :
    cntTo U U.length = cntTo P P.length + cntTo Q Q.length - cntTo C C.length := by
  have key : ∀ (R : List (Int × Int)) (i : Nat), inB R i = true ↔ Mem ((i : Int) - 1000000000000) R := by
    intro R i
    simp only [inB, List.any_eq_true, contS, Bool.and_eq_true, decide_eq_true_eq, Mem]
  have h := countP_or_and (inB P) (inB Q) (inB U) (inB C) (fun i => by rw [Bool.eq_iff_iff, Bool.or_eq_true, key, key, key, mU, mP, mQ]) (fun i => by rw [Bool.eq_iff_iff, Bool.and_eq_true, key, key, key, mC, mP, mQ]) (List.range big)
  rw [cnt_card U nU bU, cnt_card P nP bP, cnt_card Q nQ bQ, cnt_card C nC bC]
  omega
end Go.Proofs.Ytnpdmohclajmjaa
