/- A region that draws its order, of any number of operations: the value of each operation, and what of memory holds between the stores; one step for each operation. No condition. -/
import Derived.Test.YthlidkmalfjmbaaIvn
namespace Go.Proofs.Ythlidkmalfjmbaa
open Go.RowKit

def updF (f : Nat → Value) (i : Nat) (v : Value) : Nat → Value := fun j => if j = i then v else f j
def DepsVal (f vals : Nat → Value) : List Nat → Prop
  | [] => True
  | d :: r => f d = vals d ∧ DepsVal f vals r
theorem depsVal_of {f vals : Nat → Value} : ∀ {l : List Nat}, (∀ d ∈ l, f d = vals d) → DepsVal f vals l
  | [], _ => trivial
  | d :: _, h => ⟨h d (by simp), depsVal_of fun e he => h e (by simp [he])⟩
def subF (f vals : Nat → Value) : List Nat → Nat → Value
  | [] => f
  | d :: r => fun j => if j = d then vals j else subF f vals r j
theorem subF_eq {f vals : Nat → Value} : ∀ {l : List Nat}, DepsVal f vals l → subF f vals l = f
  | [], _ => rfl
  | d :: r, h => by
    funext j
    show (if j = d then vals j else subF f vals r j) = f j
    rw [subF_eq h.2]
    by_cases e : j = d
    · subst e; rw [if_pos rfl]; exact h.1.symm
    · rw [if_neg e]
theorem depsHold_at {L : Nat → Bool} : ∀ {l : List Nat}, DepsHold L l → ∀ d ∈ l, L d = true
  | _ :: _, h, d, hd => by
    rcases List.mem_cons.1 hd with rfl | hd
    · exact h.1
    · exact depsHold_at h.2 d hd
def kdOk (n : Nat) (ss : List Nat) (kd : Nat → Nat) (dep dv : Nat → List Nat) : Bool :=
  ((List.range n).all fun i => (dv i).all fun d => (dep i).contains d) && decide ss.Nodup && (ss.all fun s => decide (s < n)) && ((List.range n).all fun i => match kd i with
    | 0 => !ss.contains i
    | 1 => !ss.contains i && (match ss with | [] => true | s :: _ => (dep s).contains i)
    | t + 2 => decide (t < ss.length) && decide (ss.getD t 0 = i)) && (List.range (ss.length - 1)).all fun t => (dep (ss.getD (t + 1) 0)).contains (ss.getD t 0)
theorem getD_inj {ss : List Nat} (h : ss.Nodup) {p q : Nat} (hp : p < ss.length) (hq : q < ss.length) (e : ss.getD p 0 = ss.getD q 0) : p = q := by
  rw [List.getD_eq_getElem?_getD, List.getD_eq_getElem?_getD, List.getElem?_eq_getElem hp, List.getElem?_eq_getElem hq] at e
  simp only [Option.getD_some] at e
  rcases Nat.lt_trichotomy p q with h1 | h1 | h1
  · exact absurd e (List.pairwise_iff_getElem.1 h p q hp hq h1)
  · exact h1
  · exact absurd e.symm (List.pairwise_iff_getElem.1 h q p hq hp h1)
theorem getD_mem {ss : List Nat} {p : Nat} (hp : p < ss.length) : ss.getD p 0 ∈ ss := by
  rw [List.getD_eq_getElem?_getD, List.getElem?_eq_getElem hp]
  simp

section
variable {P : Program} {ops : Array Oper} {Q : Exit → Act → World → Prop}
/-- one operation: at any stage without a change of memory, with what holds at all of them (0), ahead of the stores (1), or the store number k - 2 -/
def StepG (P : Program) (ops : Array Oper) (Q : Exit → Act → World → Prop) (fr : (Nat → Value) → Array Value) (vals : Nat → Value) (Kf : World → Prop) (K : Nat → World → Prop) (dv : Nat → List Nat) (kd : Nat → Nat) (i : Nat) : Prop :=
  match kd i with
  | 0 => ∀ f W, Kf W → wpOp P ops Q i (fun a w => a = ⟨fr (updF (subF f vals (dv i)) i (vals i)), []⟩ ∧ w = W) ⟨fr (subF f vals (dv i)), []⟩ W
  | 1 => ∀ f W, K 0 W → wpOp P ops Q i (fun a w => a = ⟨fr (updF (subF f vals (dv i)) i (vals i)), []⟩ ∧ K 0 w) ⟨fr (subF f vals (dv i)), []⟩ W
  | t + 2 => ∀ f W, K t W → wpOp P ops Q i (fun a w => a = ⟨fr (updF (subF f vals (dv i)) i (vals i)), []⟩ ∧ K (t + 1) w) ⟨fr (subF f vals (dv i)), []⟩ W
def InvG (fr : (Nat → Value) → Array Value) (vals : Nat → Value) (K : Nat → World → Prop) (dep : Nat → List Nat) (ss : List Nat) (L : Nat → Bool) (a : Act) (W : World) : Prop :=
  (∀ j d, L j = true → d ∈ dep j → L d = true) ∧ ∃ f t, a = ⟨fr f, []⟩ ∧ (∀ j, L j = true → f j = vals j) ∧ (∀ q, q < ss.length → (L (ss.getD q 0) = true ↔ q < t)) ∧ t ≤ ss.length ∧ K t W
theorem upd_true {L : Nat → Bool} {i j : Nat} (h : L j = true) : updL L i j = true := by unfold updL; split <;> simp [h]
theorem upd_self {L : Nat → Bool} {i : Nat} : updL L i i = true := by simp [updL]
theorem upd_ne {L : Nat → Bool} {i j : Nat} (h : j ≠ i) : updL L i j = L j := by simp [updL, h]
theorem updF_self {f : Nat → Value} {i : Nat} {v : Value} : updF f i v i = v := by simp [updF]
theorem updF_ne {f : Nat → Value} {i j : Nat} {v : Value} (h : j ≠ i) : updF f i v j = f j := by simp [updF, h]
theorem closed_upd {dep : Nat → List Nat} {L : Nat → Bool} {i : Nat} (hc : ∀ j d, L j = true → d ∈ dep j → L d = true) (hd : ∀ d ∈ dep i, L d = true) : ∀ j d, updL L i j = true → d ∈ dep j → updL L i d = true := by
  intro j d hj hdj
  by_cases h : j = i
  · subst h; exact upd_true (hd d hdj)
  · rw [upd_ne h] at hj; exact upd_true (hc j d hj hdj)
theorem vals_upd {vals f : Nat → Value} {L : Nat → Bool} {i : Nat} (h : ∀ j, L j = true → f j = vals j) : ∀ j, updL L i j = true → updF f i (vals i) j = vals j := by
  intro j hj
  by_cases e : j = i
  · subst e; exact updF_self
  · rw [upd_ne e] at hj; rw [updF_ne e]; exact h j hj
theorem wpAny_vals {fr : (Nat → Value) → Array Value} {vals : Nat → Value} {Kf : World → Prop} {K : Nat → World → Prop} {dep dv : Nat → List Nat} {kd : Nat → Nat} {ss l : List Nat} {f0 : Nat → Value} {w : World} {A : Act} (n : Nat)
    (hn : ops.size = n) (hl : List.range n = l) (hd : depOk ops dep = true) (hk : kdOk n ss kd dep dv = true) (hK : K 0 w)
    (hKf : ∀ t W, t ≤ ss.length → K t W → Kf W)
    (step : StepsOn (StepG P ops Q fr vals Kf K dv kd) l)
    (hA : ∀ f, (∀ j, j < n → f j = vals j) → (⟨fr f, []⟩ : Act) = A)
    (fin : ∀ W, K ss.length W → Q .normal A W) :
    wpAny P .any ops Q ops.size (Array.replicate ops.size false) ⟨fr f0, []⟩ w := by
  unfold kdOk at hk
  simp only [Bool.and_eq_true, decide_eq_true_eq, List.all_eq_true, List.mem_range, List.contains_iff_mem] at hk
  obtain ⟨⟨⟨⟨hdv0, hnd⟩, hsn⟩, hki⟩, hch⟩ := hk
  refine wpAny_list (I := InvG fr vals K dep ss) (dep := dep) n hn hl hd ?_ ?_ ?_
  · exact ⟨fun j d h => by simp at h, f0, 0, rfl, fun j h => by simp at h, fun q _ => by simp, Nat.zero_le _, hK⟩
  · have all : ∀ i ∈ l, Step1 P ops Q (InvG fr vals K dep ss) dep i := by
      intro i hi
      have hin : i < n := by rw [← hl, List.mem_range] at hi; exact hi
      have hs := stepsOn_at step i hi
      have hki := hki i hin
      unfold StepG at hs
      rintro L a W hLi hdp ⟨hc, f, t, rfl, hv, hq, ht, hKt⟩
      have hdv : DepsVal f vals (dv i) := depsVal_of fun d hd => hv d (depsHold_at hdp d (hdv0 i hin d hd))
      have hsub := subF_eq hdv
      have hcu := closed_upd hc (depsHold_at hdp)
      have hvu := vals_upd (i := i) hv
      split at hs
      · rename_i hkd
        rw [hkd] at hki
        simp only [Bool.not_eq_true', ← Bool.not_eq_true, List.contains_iff_mem] at hki
        refine wpOp_mono (fun a' w' ⟨ha, hw⟩ => ?_) (hsub ▸ hs f W (hKf t W ht hKt))
        subst ha; subst hw
        refine ⟨hcu, _, t, rfl, hvu, fun q hqq => ?_, ht, hKt⟩
        rw [upd_ne (fun e => hki (by rw [← e]; exact getD_mem hqq))]
        exact hq q hqq
      · rename_i hkd
        rw [hkd] at hki
        simp only [Bool.and_eq_true, Bool.not_eq_true', ← Bool.not_eq_true, List.contains_iff_mem] at hki
        have ht0 : t = 0 := by
          rcases Nat.eq_zero_or_pos t with h0 | h0
          · exact h0
          · have hlen : 0 < ss.length := by omega
            have h1 := (hq 0 hlen).2 h0
            match ss, hki.2, hlen, h1 with
            | s :: _, h2, _, h1 =>
              have := hc s i (by simpa using h1) (by simpa using h2)
              rw [hLi] at this; cases this
        subst ht0
        refine wpOp_mono (fun a' w' ⟨ha, hw⟩ => ?_) (hsub ▸ hs f W hKt)
        subst ha
        refine ⟨hcu, _, 0, rfl, hvu, fun q hqq => ?_, Nat.zero_le _, hw⟩
        rw [upd_ne (fun e => hki.1 (by rw [← e]; exact getD_mem hqq))]
        exact hq q hqq
      · rename_i τ hkd
        rw [hkd] at hki
        simp only [Bool.and_eq_true, decide_eq_true_eq] at hki
        obtain ⟨hτ, rfl⟩ := hki
        have h1 : t ≤ τ := by
          rcases Nat.lt_or_ge τ t with h | h
          · have := (hq τ hτ).2 h; rw [hLi] at this; cases this
          · exact h
        have h2 : t = τ := by
          rcases Nat.eq_zero_or_pos τ with h0 | h0
          · omega
          · have hm := hch (τ - 1) (by omega)
            rw [show τ - 1 + 1 = τ by omega] at hm
            have := (hq (τ - 1) (by omega)).1 (depsHold_at hdp _ hm)
            omega
        subst h2
        refine wpOp_mono (fun a' w' ⟨ha, hw⟩ => ?_) (hsub ▸ hs f W hKt)
        subst ha
        refine ⟨hcu, _, t + 1, rfl, hvu, fun q hqq => ?_, by omega, hw⟩
        by_cases e : q = t
        · subst e; simp [upd_self]
        · rw [upd_ne (fun e' => e (getD_inj hnd hqq hτ e')), hq q hqq]
          omega
    clear step
    have go : ∀ (m : List Nat), (∀ i ∈ m, i ∈ l) → StepsOn (Step1 P ops Q (InvG fr vals K dep ss) dep) m := by
      intro m
      induction m with
      | nil => intro _; trivial
      | cons i r ih => intro h; exact ⟨all i (h i (by simp)), ih fun j hj => h j (by simp [hj])⟩
    exact go l fun _ h => h
  · rintro L a W hall ⟨_, f, t, rfl, hv, hq, ht, hKt⟩
    have htl : t = ss.length := by
      rcases Nat.lt_or_ge t ss.length with h | h
      · have h3 := (hq t h).1 (hall _ (hsn _ (getD_mem h)))
        omega
      · omega
    subst htl
    rw [hA f fun j hj => hv j (hall j hj)]
    exact fin W hKt
end
end Go.Proofs.Ythlidkmalfjmbaa
