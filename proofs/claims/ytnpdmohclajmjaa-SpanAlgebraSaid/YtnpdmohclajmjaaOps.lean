/- Plain mathematics: what is common to two normal forms, and what the one has and the other has not. No program here. -/
import Derived.Test.YtnpdmohclajmjaaNorm
namespace Go.Proofs.Ytnpdmohclajmjaa

theorem mem_cons (n : Int) (x : Int × Int) (r : List (Int × Int)) : Mem n (x :: r) ↔ (x.1 ≤ n ∧ n ≤ x.2) ∨ Mem n r := by simp [Mem]
theorem mem_nil (n : Int) : ¬ Mem n [] := by simp [Mem]
theorem NF.each {l : List (Int × Int)} (h : NF l) : ∀ x ∈ l, x.1 ≤ x.2 := by
  intro x hx
  induction l with
  | nil => cases hx
  | cons y r ih =>
    rcases List.mem_cons.1 hx with rfl | h1
    · exact h.head
    · exact ih h.tail h1
theorem NF.append : ∀ {p q : List (Int × Int)}, NF p → NF q → (∀ y ∈ p, ∀ z ∈ q, y.2 + 1 < z.1) → NF (p ++ q)
  | [], _, _, hq, _ => hq
  | x :: r, q, hp, hq, h => by
    refine NF.cons hp.head (fun z hz => ?_) (NF.append hp.tail hq fun y hy => h y (List.mem_cons_of_mem _ hy))
    rcases List.mem_append.1 hz with hz | hz
    · exact (hp.gap z hz).1
    · exact h x List.mem_cons_self z hz
theorem NF.beyond {x : Int × Int} {r : List (Int × Int)} (h : NF (x :: r)) {n : Int} (hn : Mem n r) : x.2 + 1 < n := by
  obtain ⟨z, hz, h1, h2⟩ := hn
  have := h.gap z hz; omega

/-- the common part, as the two lists are worn down -/
def com : List (Int × Int) → List (Int × Int) → List (Int × Int)
  | [], _ => []
  | _ :: _, [] => []
  | x :: a, y :: b =>
    (if max x.1 y.1 ≤ min x.2 y.2 then [(max x.1 y.1, min x.2 y.2)] else []) ++ (if x.2 < y.2 then com a (y :: b) else com (x :: a) b)
termination_by a b => a.length + b.length

theorem com_nil_right (a : List (Int × Int)) : com a [] = [] := by cases a <;> simp [com]
theorem com_spec : ∀ (N : Nat) (a b : List (Int × Int)), a.length + b.length ≤ N → NF a → NF b → NF (com a b) ∧ ∀ n, Mem n (com a b) ↔ Mem n a ∧ Mem n b := by
  intro N
  induction N with
  | zero =>
    intro a b h _ _
    have : a = [] := List.eq_nil_of_length_eq_zero (by omega)
    subst this
    simp [com, NF, mem_nil]
  | succ N ih =>
    intro a b h ha hb
    cases a with
    | nil => simp [com, NF, mem_nil]
    | cons x a =>
      cases b with
      | nil => simp [com, NF, mem_nil]
      | cons y b =>
        rw [com]
        have gx : ∀ n, Mem n a → x.2 + 1 < n := fun n => ha.beyond
        have gy : ∀ n, Mem n b → y.2 + 1 < n := fun n => hb.beyond
        have hx := ha.head
        have hy := hb.head
        simp only [List.length_cons] at h
        have key : ∀ (R : List (Int × Int)), NF R → (∀ n, Mem n R → min x.2 y.2 + 1 < n) →
            NF ((if max x.1 y.1 ≤ min x.2 y.2 then [(max x.1 y.1, min x.2 y.2)] else []) ++ R) := by
          intro R hR hlow
          split
          · rename_i hm
            refine NF.cons hm (fun z hz => ?_) hR
            exact hlow z.1 ⟨z, hz, Int.le_refl _, hR.each z hz⟩
          · exact hR
        have km : ∀ (R : List (Int × Int)) n, Mem n ((if max x.1 y.1 ≤ min x.2 y.2 then [(max x.1 y.1, min x.2 y.2)] else []) ++ R) ↔ ((x.1 ≤ n ∧ n ≤ x.2) ∧ (y.1 ≤ n ∧ n ≤ y.2)) ∨ Mem n R := by
          intro R n
          rw [mem_app]
          split
          · rw [mem_one]
            constructor
            · rintro (h | h)
              · simp only at h; exact .inl (by omega)
              · exact .inr h
            · rintro (h | h)
              · exact .inl (by simp only; omega)
              · exact .inr h
          · rename_i hm
            constructor
            · rintro (h | h)
              · exact absurd h (mem_nil n)
              · exact .inr h
            · rintro (h | h)
              · omega
              · exact .inr h
        by_cases hlt : x.2 < y.2
        · rw [if_pos hlt]
          obtain ⟨i1, i2⟩ := ih a (y :: b) (by simp only [List.length_cons]; omega) ha.tail hb
          refine ⟨key _ i1 fun n hn => ?_, fun n => ?_⟩
          · have := gx n ((i2 n).1 hn).1; omega
          · rw [km, i2, mem_cons n x a, mem_cons n y b]
            constructor
            · rintro (⟨h1, h2⟩ | ⟨h1, h2⟩)
              · exact ⟨.inl h1, .inl h2⟩
              · exact ⟨.inr h1, h2⟩
            · rintro ⟨h1 | h1, h2⟩
              · rcases h2 with h2 | h2
                · exact .inl ⟨h1, h2⟩
                · have := gy n h2; omega
              · exact .inr ⟨h1, h2⟩
        · rw [if_neg hlt]
          obtain ⟨i1, i2⟩ := ih (x :: a) b (by simp only [List.length_cons]; omega) ha hb.tail
          refine ⟨key _ i1 fun n hn => ?_, fun n => ?_⟩
          · have := gy n ((i2 n).1 hn).2; omega
          · rw [km, i2, mem_cons n x a, mem_cons n y b]
            constructor
            · rintro (⟨h1, h2⟩ | ⟨h1, h2⟩)
              · exact ⟨.inl h1, .inl h2⟩
              · exact ⟨h1, .inr h2⟩
            · rintro ⟨h1, h2 | h2⟩
              · rcases h1 with h1 | h1
                · exact .inl ⟨h1, h2⟩
                · have := gx n h1; omega
              · exact .inr ⟨h1, h2⟩

/-- what lies in lo .. hi and in none of the intervals, from left to right -/
def inn (lo hi : Int) : List (Int × Int) → List (Int × Int)
  | [] => if lo ≤ hi then [(lo, hi)] else []
  | y :: b => if hi < y.1 then (if lo ≤ hi then [(lo, hi)] else []) else (if lo < y.1 then [(lo, y.1 - 1)] else []) ++ inn (y.2 + 1) hi b

theorem inn_spec : ∀ (b : List (Int × Int)) (lo hi : Int), NF b → (∀ y ∈ b, lo ≤ y.2 + 1) →
    NF (inn lo hi b) ∧ (∀ n, Mem n (inn lo hi b) ↔ (lo ≤ n ∧ n ≤ hi) ∧ ¬ Mem n b) ∧ (∀ z ∈ inn lo hi b, lo ≤ z.1 ∧ z.2 ≤ hi)
  | [], lo, hi, _, _ => by
    unfold inn
    split
    · rename_i h
      exact ⟨h, fun n => by rw [mem_one]; simp [mem_nil], fun z hz => by rw [List.mem_singleton.1 hz]; exact ⟨Int.le_refl _, Int.le_refl _⟩⟩
    · exact ⟨trivial, fun n => by simp only [mem_nil, false_iff]; omega, fun z hz => absurd hz List.not_mem_nil⟩
  | y :: b, lo, hi, hb, hl => by
    have gy : ∀ n, Mem n b → y.2 + 1 < n := fun n => hb.beyond
    have hy := hb.head
    have hly := hl y List.mem_cons_self
    rw [inn]
    by_cases h : hi < y.1
    · rw [if_pos h]
      have out : ∀ n, n ≤ hi → ¬ Mem n (y :: b) := fun n hn hm => by
        rcases (mem_cons n y b).1 hm with h1 | h1
        · omega
        · have := gy n h1; omega
      split
      · rename_i h2
        exact ⟨h2, fun n => by rw [mem_one]; exact ⟨fun h3 => ⟨h3, out n h3.2⟩, fun h3 => h3.1⟩, fun z hz => by rw [List.mem_singleton.1 hz]; exact ⟨Int.le_refl _, Int.le_refl _⟩⟩
      · exact ⟨trivial, fun n => by simp only [mem_nil, false_iff]; omega, fun z hz => absurd hz List.not_mem_nil⟩
    · rw [if_neg h]
      obtain ⟨i1, i2, i3⟩ := inn_spec b (y.2 + 1) hi hb.tail (fun z hz => by have := hb.gap z hz; omega)
      have mid : ∀ n, (lo ≤ n ∧ n ≤ hi) ∧ ¬ Mem n (y :: b) ↔ (lo ≤ n ∧ n ≤ y.1 - 1) ∨ ((y.2 + 1 ≤ n ∧ n ≤ hi) ∧ ¬ Mem n b) := by
        intro n
        rw [mem_cons]
        constructor
        · rintro ⟨h1, h2⟩
          by_cases h3 : n ≤ y.1 - 1
          · exact .inl ⟨h1.1, h3⟩
          · refine .inr ⟨⟨?_, h1.2⟩, fun h4 => h2 (.inr h4)⟩
            by_cases h4 : n ≤ y.2
            · exact absurd (.inl ⟨by omega, h4⟩) h2
            · omega
        · rintro (h1 | ⟨h1, h2⟩)
          · refine ⟨⟨h1.1, by omega⟩, ?_⟩
            rintro (h3 | h3)
            · omega
            · have := gy n h3; omega
          · refine ⟨⟨by omega, h1.2⟩, ?_⟩
            rintro (h3 | h3)
            · omega
            · exact h2 h3
      split
      · rename_i h2
        refine ⟨NF.cons (by show lo ≤ y.1 - 1; omega) (fun z hz => ?_) i1, fun n => ?_, fun z hz => ?_⟩
        · have := i3 z hz; show y.1 - 1 + 1 < z.1; omega
        · rw [mem_app, mem_one, i2, mid]
        · rcases List.mem_append.1 hz with hz | hz
          · rw [List.mem_singleton.1 hz]; exact ⟨Int.le_refl _, by show y.1 - 1 ≤ hi; omega⟩
          · have := i3 z hz; omega
      · rename_i h2
        refine ⟨i1, fun n => ?_, fun z hz => ?_⟩
        · rw [List.nil_append, i2, mid]
          constructor
          · exact .inr
          · rintro (h3 | h3)
            · omega
            · exact h3
        · have := i3 z hz; omega

/-- the intervals that end before x are done with -/
def skip (lo : Int) (b : List (Int × Int)) : List (Int × Int) := b.dropWhile (fun y => decide (y.2 < lo))
theorem skip_spec : ∀ (b : List (Int × Int)) (lo : Int), NF b → NF (skip lo b) ∧ (∀ n, lo ≤ n → (Mem n (skip lo b) ↔ Mem n b)) ∧ (∀ y ∈ skip lo b, lo ≤ y.2)
  | [], lo, _ => by simp [skip, NF]
  | y :: b, lo, hb => by
    unfold skip
    by_cases h : y.2 < lo
    · rw [List.dropWhile_cons_of_pos (by simpa using h)]
      obtain ⟨i1, i2, i3⟩ := skip_spec b lo hb.tail
      refine ⟨i1, fun n hn => ?_, i3⟩
      rw [mem_cons]
      constructor
      · exact fun h1 => .inr ((i2 n hn).1 h1)
      · rintro (h1 | h1)
        · omega
        · exact (i2 n hn).2 h1
    · rw [List.dropWhile_cons_of_neg (by simpa using h)]
      refine ⟨hb, fun n hn => Iff.rfl, fun z hz => ?_⟩
      rcases List.mem_cons.1 hz with rfl | hz
      · omega
      · have := hb.gap z hz; omega
def dif : List (Int × Int) → List (Int × Int) → List (Int × Int)
  | [], _ => []
  | x :: a, b => inn x.1 x.2 (skip x.1 b) ++ dif a (skip x.1 b)

theorem dif_spec : ∀ (a b : List (Int × Int)), NF a → NF b → NF (dif a b) ∧ ∀ n, Mem n (dif a b) ↔ Mem n a ∧ ¬ Mem n b
  | [], b, _, _ => by simp [dif, NF, mem_nil]
  | x :: a, b, ha, hb => by
    obtain ⟨s1, s2, s3⟩ := skip_spec b x.1 hb
    obtain ⟨i1, i2, i3⟩ := inn_spec (skip x.1 b) x.1 x.2 s1 (fun y hy => by have := s3 y hy; omega)
    obtain ⟨d1, d2⟩ := dif_spec a (skip x.1 b) ha.tail s1
    have hx := ha.head
    have gx : ∀ n, Mem n a → x.2 + 1 < n := fun n => ha.beyond
    rw [dif]
    refine ⟨NF.append i1 d1 fun y hy z hz => ?_, fun n => ?_⟩
    · have h1 := (i3 y hy).2
      have h2 := gx z.1 ((d2 z.1).1 ⟨z, hz, Int.le_refl _, d1.each z hz⟩).1
      omega
    · rw [mem_app, i2, d2, mem_cons]
      constructor
      · rintro (⟨h1, h2⟩ | ⟨h1, h2⟩)
        · exact ⟨.inl h1, fun h3 => h2 ((s2 n h1.1).2 h3)⟩
        · have := gx n h1
          exact ⟨.inr h1, fun h3 => h2 ((s2 n (by omega)).2 h3)⟩
      · rintro ⟨h1 | h1, h2⟩
        · exact .inl ⟨h1, fun h3 => h2 ((s2 n h1.1).1 h3)⟩
        · have := gx n h1
          exact .inr ⟨h1, fun h3 => h2 ((s2 n (by omega)).1 h3)⟩

theorem com_len : ∀ (N : Nat) (a b : List (Int × Int)), a.length + b.length ≤ N → (com a b).length ≤ a.length + b.length := by
  intro N
  induction N with
  | zero => intro a b h; have : a = [] := List.eq_nil_of_length_eq_zero (by omega); subst this; simp [com]
  | succ N ih =>
    intro a b h
    cases a with
    | nil => simp [com]
    | cons x a =>
      cases b with
      | nil => simp [com]
      | cons y b =>
        rw [com]
        simp only [List.length_cons, List.length_append] at *
        have h1 := ih a (y :: b) (by simp only [List.length_cons]; omega)
        have h2 := ih (x :: a) b (by simp only [List.length_cons]; omega)
        simp only [List.length_cons] at h1 h2
        split <;> split <;> simp <;> omega
theorem inn_len : ∀ (b : List (Int × Int)) (lo hi : Int), (inn lo hi b).length ≤ b.length + 1
  | [], lo, hi => by unfold inn; split <;> simp
  | y :: b, lo, hi => by
    have := inn_len b (y.2 + 1) hi
    unfold inn
    split
    · split <;> simp
    · split <;> simp <;> omega
theorem skip_len (lo : Int) (b : List (Int × Int)) : (skip lo b).length ≤ b.length := by
  unfold skip
  exact (List.dropWhile_sublist _).length_le
theorem dif_len : ∀ (a b : List (Int × Int)), (dif a b).length ≤ a.length * (b.length + 1)
  | [], b => by simp [dif]
  | x :: a, b => by
    have h1 := inn_len (skip x.1 b) x.1 x.2
    have h2 := dif_len a (skip x.1 b)
    have h3 := skip_len x.1 b
    rw [dif]
    simp only [List.length_append, List.length_cons]
    have h4 : a.length * ((skip x.1 b).length + 1) ≤ a.length * (b.length + 1) := Nat.mul_le_mul_left _ (by omega)
    rw [Nat.add_mul]
    omega
end Go.Proofs.Ytnpdmohclajmjaa
