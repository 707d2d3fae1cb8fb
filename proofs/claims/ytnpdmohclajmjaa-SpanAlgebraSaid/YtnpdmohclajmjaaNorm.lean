/- Plain mathematics of sets of intervals in normal form: no program here. -/
namespace Go.Proofs.Ytnpdmohclajmjaa

/-- n is in one of the intervals -/
def Mem (n : Int) (l : List (Int × Int)) : Prop := ∃ x ∈ l, x.1 ≤ n ∧ n ≤ x.2
/-- increasing, not touching, none empty -/
def NF : List (Int × Int) → Prop
  | [] => True
  | [x] => x.1 ≤ x.2
  | x :: y :: r => x.1 ≤ x.2 ∧ x.2 + 1 < y.1 ∧ NF (y :: r)

theorem NF.tail {x : Int × Int} {r : List (Int × Int)} (h : NF (x :: r)) : NF r := by
  cases r with
  | nil => trivial
  | cons y r => exact h.2.2
theorem NF.head {x : Int × Int} {r : List (Int × Int)} (h : NF (x :: r)) : x.1 ≤ x.2 := by
  cases r with
  | nil => exact h
  | cons y r => exact h.1
/-- all that follows the head lies beyond a gap -/
theorem NF.gap : ∀ {r : List (Int × Int)} {x : Int × Int}, NF (x :: r) → ∀ y ∈ r, x.2 + 1 < y.1 ∧ y.1 ≤ y.2
  | [], x, _, y, hy => absurd hy List.not_mem_nil
  | z :: r, x, h, y, hy => by
    have hz := h.2.2.head
    rcases List.mem_cons.1 hy with rfl | hy
    · exact ⟨h.2.1, hz⟩
    · have := NF.gap h.2.2 y hy
      have h2 := h.2.1
      omega
theorem NF.cons {x : Int × Int} {r : List (Int × Int)} (h1 : x.1 ≤ x.2) (h2 : ∀ y ∈ r, x.2 + 1 < y.1) (h3 : NF r) : NF (x :: r) := by
  cases r with
  | nil => exact h1
  | cons y r => exact ⟨h1, h2 y List.mem_cons_self, h3⟩

/-- a normal form is known by its members -/
theorem NF.unique : ∀ {a b : List (Int × Int)}, NF a → NF b → (∀ n, Mem n a ↔ Mem n b) → a = b
  | [], [], _, _, _ => rfl
  | [], y :: s, _, hb, h => by
    have := (h y.1).2 ⟨y, List.mem_cons_self, Int.le_refl _, hb.head⟩
    obtain ⟨z, hz, _⟩ := this
    exact absurd hz List.not_mem_nil
  | x :: r, [], ha, _, h => by
    have := (h x.1).1 ⟨x, List.mem_cons_self, Int.le_refl _, ha.head⟩
    obtain ⟨z, hz, _⟩ := this
    exact absurd hz List.not_mem_nil
  | x :: r, y :: s, ha, hb, h => by
    have gx := ha.gap
    have gy := hb.gap
    have hx := ha.head
    have hy := hb.head
    have m1 : ∀ n, Mem n (x :: r) ↔ (x.1 ≤ n ∧ n ≤ x.2) ∨ Mem n r := fun n => by simp [Mem]
    have m2 : ∀ n, Mem n (y :: s) ↔ (y.1 ≤ n ∧ n ≤ y.2) ∨ Mem n s := fun n => by simp [Mem]
    have fr : ∀ n, Mem n r → x.2 + 1 < n := fun n ⟨z, hz, h1, h2⟩ => by have := gx z hz; omega
    have fs : ∀ n, Mem n s → y.2 + 1 < n := fun n ⟨z, hz, h1, h2⟩ => by have := gy z hz; omega
    have k : ∀ n, ((x.1 ≤ n ∧ n ≤ x.2) ∨ Mem n r) ↔ ((y.1 ≤ n ∧ n ≤ y.2) ∨ Mem n s) := fun n => by rw [← m1, ← m2]; exact h n
    have e1 : x.1 = y.1 := by
      have a1 := (k x.1).1 (.inl ⟨Int.le_refl _, hx⟩)
      have a2 := (k y.1).2 (.inl ⟨Int.le_refl _, hy⟩)
      rcases a1 with a1 | a1 <;> rcases a2 with a2 | a2
      · omega
      · have := fr _ a2; omega
      · have := fs _ a1; omega
      · have := fs _ a1; have := fr _ a2; omega
    have e2 : x.2 = y.2 := by
      rcases Int.lt_trichotomy x.2 y.2 with hlt | heq | hgt
      · have := (k (x.2 + 1)).2 (.inl (by omega))
        rcases this with a | a
        · omega
        · have := fr _ a; omega
      · exact heq
      · have := (k (y.2 + 1)).1 (.inl (by omega))
        rcases this with a | a
        · omega
        · have := fs _ a; omega
    have e : x = y := Prod.ext e1 e2
    subst e
    congr 1
    refine NF.unique ha.tail hb.tail fun n => ?_
    constructor
    · intro hn
      rcases (k n).1 (.inr hn) with a | a
      · have := fr _ hn; omega
      · exact a
    · intro hn
      rcases (k n).2 (.inr hn) with a | a
      · have := fs _ hn; omega
      · exact a

/-- one step of the join of a sorted list -/
def step (m : List (Int × Int)) (x : Int × Int) : List (Int × Int) :=
  if m = [] then [x] else
    if x.1 ≤ (m.getLastD (0, 0)).2 + 1 then m.dropLast ++ [((m.getLastD (0, 0)).1, max (m.getLastD (0, 0)).2 x.2)] else m ++ [x]

theorem mem_app (n : Int) (a b : List (Int × Int)) : Mem n (a ++ b) ↔ Mem n a ∨ Mem n b := by
  simp only [Mem, List.mem_append]
  constructor
  · rintro ⟨x, hx | hx, h⟩
    · exact .inl ⟨x, hx, h⟩
    · exact .inr ⟨x, hx, h⟩
  · rintro (⟨x, hx, h⟩ | ⟨x, hx, h⟩)
    · exact ⟨x, .inl hx, h⟩
    · exact ⟨x, .inr hx, h⟩
theorem mem_one (n : Int) (x : Int × Int) : Mem n [x] ↔ x.1 ≤ n ∧ n ≤ x.2 := by simp [Mem]

/-- appending beyond a gap keeps the form -/
theorem NF.snoc : ∀ {m : List (Int × Int)} {x : Int × Int}, NF m → x.1 ≤ x.2 → (∀ y ∈ m, y.2 + 1 < x.1) → NF (m ++ [x])
  | [], x, _, hx, _ => hx
  | y :: r, x, h, hx, hg => by
    refine NF.cons h.head ?_ (NF.snoc h.tail hx fun z hz => hg z (List.mem_cons_of_mem _ hz))
    intro z hz
    rcases List.mem_append.1 hz with hz | hz
    · exact (h.gap z hz).1
    · rw [List.mem_singleton.1 hz]; exact hg y List.mem_cons_self
theorem NF.split : ∀ {m : List (Int × Int)} {x : Int × Int}, NF (m ++ [x]) → NF m ∧ x.1 ≤ x.2 ∧ ∀ y ∈ m, y.2 + 1 < x.1
  | [], x, h => ⟨trivial, h, fun y hy => absurd hy List.not_mem_nil⟩
  | y :: r, x, h => by
    have g := h.gap
    have ih := NF.split (m := r) h.tail
    refine ⟨NF.cons h.head (fun z hz => (g z (List.mem_append_left _ hz)).1) ih.1, ih.2.1, fun z hz => ?_⟩
    rcases List.mem_cons.1 hz with rfl | hz
    · exact (g x (List.mem_append_right _ (List.mem_singleton.2 rfl))).1
    · exact ih.2.2 z hz

/-- the step keeps the form and adds the members, when x begins no earlier than all before -/
theorem step_spec {m : List (Int × Int)} {x : Int × Int} (hm : NF m) (hx : x.1 ≤ x.2) (hs : ∀ y ∈ m, y.1 ≤ x.1) :
    NF (step m x) ∧ (∀ n, Mem n (step m x) ↔ Mem n m ∨ (x.1 ≤ n ∧ n ≤ x.2)) ∧ (∀ y ∈ step m x, y.1 ≤ x.1) := by
  unfold step
  by_cases h0 : m = []
  · subst h0
    rw [if_pos rfl]
    refine ⟨hx, fun n => by simp [Mem], fun y hy => by rw [List.mem_singleton.1 hy]; exact Int.le_refl _⟩
  · rw [if_neg h0]
    obtain ⟨p, z, rfl⟩ : ∃ p z, m = p ++ [z] := ⟨m.dropLast, m.getLast h0, (List.dropLast_concat_getLast h0).symm⟩
    have e1 : (p ++ [z]).getLastD (0, 0) = z := by simp
    have e2 : (p ++ [z]).dropLast = p := by simp
    rw [e1, e2]
    obtain ⟨hp, hz, hg⟩ := hm.split
    have hzx := hs z (by simp)
    split
    · rename_i ht
      refine ⟨NF.snoc hp (by show z.1 ≤ max z.2 x.2; omega) hg, fun n => ?_, fun y hy => ?_⟩
      · rw [mem_app, mem_app, mem_one, mem_one]
        constructor
        · rintro (h | h)
          · exact .inl (.inl h)
          · by_cases hn : n ≤ z.2
            · exact .inl (.inr ⟨h.1, hn⟩)
            · exact .inr ⟨by omega, by have := h.2; simp only at this; omega⟩
        · rintro ((h | h) | h)
          · exact .inl h
          · exact .inr ⟨h.1, by show n ≤ max z.2 x.2; omega⟩
          · exact .inr ⟨by show z.1 ≤ n; omega, by show n ≤ max z.2 x.2; omega⟩
      · rcases List.mem_append.1 hy with h | h
        · exact hs y (List.mem_append_left _ h)
        · rw [List.mem_singleton.1 h]; exact hzx
    · rename_i ht
      refine ⟨NF.snoc hm hx fun y hy => ?_, fun n => by rw [mem_app _ (p ++ [z]), mem_one], fun y hy => ?_⟩
      · rcases List.mem_append.1 hy with h | h
        · have := hg y h; omega
        · rw [List.mem_singleton.1 h]; omega
      · rcases List.mem_append.1 hy with h | h
        · exact hs y h
        · rw [List.mem_singleton.1 h]; exact Int.le_refl _
end Go.Proofs.Ytnpdmohclajmjaa
