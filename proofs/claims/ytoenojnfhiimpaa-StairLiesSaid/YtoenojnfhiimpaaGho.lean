/- A region that draws its order and whose operations leave values that are known only then (a block made, a row appended to): what holds at each stage, with a datum that each stage may choose anew. No condition. -/
import Derived.Test.YtoenojnfhiimpaaBas
namespace Go.Proofs.Ytoenojnfhiimpaa
open Go.RowKit

def reachB (dep : Nat → List Nat) : Nat → Nat → Nat → Bool
  | 0, _, _ => false
  | k + 1, s, i => (dep s).contains i || (dep s).any fun d => reachB dep k d i
theorem reach_closed {dep : Nat → List Nat} {L : Nat → Bool} (hc : ∀ j d, L j = true → d ∈ dep j → L d = true) : ∀ (k s i : Nat), reachB dep k s i = true → L s = true → L i = true
  | 0, _, _, h, _ => by simp [reachB] at h
  | k + 1, s, i, h, hs => by
    simp only [reachB, Bool.or_eq_true, List.contains_iff_mem, List.any_eq_true] at h
    rcases h with h | ⟨d, hd, h⟩
    · exact hc s i hs h
    · exact reach_closed hc k d i h (hc s d hs hd)
def kdOkG (n : Nat) (ss : List Nat) (kd : Nat → Nat) (dep dv du : Nat → List Nat) : Bool :=
  ((List.range n).all fun i => ((dv i).all fun d => (dep i).contains d) && (du i).all fun d => (dep d).contains i && decide (d ≠ i)) && decide ss.Nodup && (ss.all fun s => decide (s < n)) && ((List.range n).all fun i => match kd i with
    | 0 => !ss.contains i
    | 1 => !ss.contains i && (match ss with | [] => true | s :: _ => reachB dep 12 s i)
    | t + 2 => decide (t < ss.length) && decide (ss.getD t 0 = i)) && (List.range (ss.length - 1)).all fun t => (dep (ss.getD (t + 1) 0)).contains (ss.getD t 0)
section
variable {P : Program} {ops : Array Oper} {Q : Exit → Act → World → Prop} {Γ : Type}
def StepH (P : Program) (ops : Array Oper) (Q : Exit → Act → World → Prop) (fr : (Nat → Value) → Array Value) (vals : Γ → Nat → Value) (f0 : Nat → Value) (K : Γ → Nat → World → Prop) (dep dv du : Nat → List Nat) (kd : Nat → Nat) (i : Nat) : Prop :=
  match kd i with
  | 0 => ∀ (γ : Γ) f W, wpOp P ops Q i (fun a w => a = ⟨fr (updF (subF (subF f (vals γ) (dv i)) f0 (du i)) i (vals γ i)), []⟩ ∧ w = W) ⟨fr (subF (subF f (vals γ) (dv i)) f0 (du i)), []⟩ W
  | 1 => ∀ (γ : Γ) f W, K γ 0 W → wpOp P ops Q i (fun a w => a = ⟨fr (updF (subF (subF f (vals γ) (dv i)) f0 (du i)) i (vals γ i)), []⟩ ∧ K γ 0 w) ⟨fr (subF (subF f (vals γ) (dv i)) f0 (du i)), []⟩ W
  | t + 2 => ∀ (γ : Γ) f W, K γ t W → wpOp P ops Q i (fun a w => ∃ γ', (∀ j, j ≠ i → (dep j).contains i = false → vals γ' j = vals γ j) ∧ a = ⟨fr (updF (subF (subF f (vals γ) (dv i)) f0 (du i)) i (vals γ' i)), []⟩ ∧ K γ' (t + 1) w) ⟨fr (subF (subF f (vals γ) (dv i)) f0 (du i)), []⟩ W
def InvH (fr : (Nat → Value) → Array Value) (vals : Γ → Nat → Value) (f0 : Nat → Value) (K : Γ → Nat → World → Prop) (dep : Nat → List Nat) (ss : List Nat) (L : Nat → Bool) (a : Act) (W : World) : Prop :=
  (∀ j d, L j = true → d ∈ dep j → L d = true) ∧ ∃ γ f t, a = ⟨fr f, []⟩ ∧ (∀ j, L j = true → f j = vals γ j) ∧ (∀ j, L j = false → f j = f0 j) ∧ (∀ q, q < ss.length → (L (ss.getD q 0) = true ↔ q < t)) ∧ t ≤ ss.length ∧ K γ t W
theorem wpAny_gh {fr : (Nat → Value) → Array Value} {vals : Γ → Nat → Value} {K : Γ → Nat → World → Prop} {dep dv du : Nat → List Nat} {kd : Nat → Nat} {ss l : List Nat} {f0 : Nat → Value} {w : World} {A : Γ → Act} (n : Nat)
    (hn : ops.size = n) (hl : List.range n = l) (hd : depOk ops dep = true) (hk : kdOkG n ss kd dep dv du = true) (γ0 : Γ) (hK : K γ0 0 w)
    (step : StepsOn (StepH P ops Q fr vals f0 K dep dv du kd) l)
    (hA : ∀ γ f, (∀ j, j < n → f j = vals γ j) → (⟨fr f, []⟩ : Act) = A γ)
    (fin : ∀ γ W, K γ ss.length W → Q .normal (A γ) W) :
    wpAny P .any ops Q ops.size (Array.replicate ops.size false) ⟨fr f0, []⟩ w := by
  unfold kdOkG at hk
  simp only [Bool.and_eq_true, decide_eq_true_eq, List.all_eq_true, List.mem_range, List.contains_iff_mem] at hk
  obtain ⟨⟨⟨⟨hdv0, hnd⟩, hsn⟩, hki⟩, hch⟩ := hk
  refine wpAny_list (I := InvH fr vals f0 K dep ss) (dep := dep) n hn hl hd ?_ ?_ ?_
  · exact ⟨fun j d h => by simp at h, γ0, f0, 0, rfl, fun j h => by simp at h, fun _ _ => rfl, fun q _ => by simp, Nat.zero_le _, hK⟩
  · have all : ∀ i ∈ l, Step1 P ops Q (InvH fr vals f0 K dep ss) dep i := by
      intro i hi
      have hin : i < n := by rw [← hl, List.mem_range] at hi; exact hi
      have hs := stepsOn_at step i hi
      have hki := hki i hin
      unfold StepH at hs
      rintro L a W hLi hdp ⟨hc, γ, f, t, rfl, hv, hu, hq, ht, hKt⟩
      have hdv : DepsVal f (vals γ) (dv i) := depsVal_of fun d hd => hv d (depsHold_at hdp d ((hdv0 i hin).1 d hd))
      have hdu : DepsVal f f0 (du i) := depsVal_of fun d hd => hu d (by
        rw [← Bool.not_eq_true]; intro hL
        have := hc d i hL ((hdv0 i hin).2 d hd).1
        rw [hLi] at this; cases this)
      have hsub : subF (subF f (vals γ) (dv i)) f0 (du i) = f := by rw [subF_eq hdv, subF_eq hdu]
      have huu : ∀ v j, updL L i j = false → updF f i v j = f0 j := fun v j hj => by
        by_cases e : j = i
        · subst e; rw [upd_self] at hj; cases hj
        · rw [upd_ne e] at hj; rw [updF_ne e]; exact hu j hj
      have hcu := closed_upd hc (depsHold_at hdp)
      have hvu := vals_upd (i := i) hv
      split at hs
      · rename_i hkd
        rw [hkd] at hki
        simp only [Bool.not_eq_true', ← Bool.not_eq_true, List.contains_iff_mem] at hki
        refine wpOp_mono (fun a' w' ⟨ha, hw⟩ => ?_) (hsub ▸ hs γ f W)
        subst ha; subst hw
        refine ⟨hcu, γ, _, t, rfl, hvu, huu _, fun q hqq => ?_, ht, hKt⟩
        rw [upd_ne (fun e => hki (by rw [← e]; exact getD_mem hqq))]
        exact hq q hqq
      · rename_i hkd
        rw [hkd] at hki
        simp only [Bool.and_eq_true, Bool.not_eq_true', ← Bool.not_eq_true, List.contains_iff_mem] at hki
        have ht0 : t = 0 := by
          rcases Nat.eq_zero_or_pos t with h0 | h0
          · exact h0
          · have hlen : 0 < ss.length := by omega
            have h1 := (hq 0 hlen).2 h0
            match ss, hki.2, hlen, h1 with
            | s :: _, h2, _, h1 =>
              have := reach_closed hc 12 s i (by simpa using h2) (by simpa using h1)
              rw [hLi] at this; cases this
        subst ht0
        refine wpOp_mono (fun a' w' ⟨ha, hw⟩ => ?_) (hsub ▸ hs γ f W hKt)
        subst ha
        refine ⟨hcu, γ, _, 0, rfl, hvu, huu _, fun q hqq => ?_, Nat.zero_le _, hw⟩
        rw [upd_ne (fun e => hki.1 (by rw [← e]; exact getD_mem hqq))]
        exact hq q hqq
      · rename_i τ hkd
        rw [hkd] at hki
        simp only [Bool.and_eq_true, decide_eq_true_eq] at hki
        obtain ⟨hτ, rfl⟩ := hki
        have h1 : t ≤ τ := by
          rcases Nat.lt_or_ge τ t with h | h
          · have := (hq τ hτ).2 h; rw [hLi] at this; cases this
          · exact h
        have h2 : t = τ := by
          rcases Nat.eq_zero_or_pos τ with h0 | h0
          · omega
          · have hm := hch (τ - 1) (by omega)
            rw [show τ - 1 + 1 = τ by omega] at hm
            have := (hq (τ - 1) (by omega)).1 (depsHold_at hdp _ hm)
            omega
        subst h2
        refine wpOp_mono (fun a' w' ⟨γ', hγ, ha, hw⟩ => ?_) (hsub ▸ hs γ f W hKt)
        subst ha
        have hL' : ∀ j, L j = true → vals γ' j = vals γ j := fun j hj => by
          refine hγ j (fun e => by rw [e, hLi] at hj; cases hj) ?_
          rw [← Bool.not_eq_true, List.contains_iff_mem]
          intro hm
          have := hc j _ hj hm
          rw [hLi] at this; cases this
        refine ⟨hcu, γ', _, t + 1, rfl, vals_upd (i := ss.getD t 0) (fun j hj => (hv j hj).trans (hL' j hj).symm), huu _, fun q hqq => ?_, by omega, hw⟩
        by_cases e : q = t
        · subst e; simp [upd_self]
        · rw [upd_ne (fun e' => e (getD_inj hnd hqq hτ e')), hq q hqq]
          omega
    clear step
    have go : ∀ (m : List Nat), (∀ i ∈ m, i ∈ l) → StepsOn (Step1 P ops Q (InvH fr vals f0 K dep ss) dep) m := by
      intro m
      induction m with
      | nil => intro _; trivial
      | cons i r ih => intro h; exact ⟨all i (h i (by simp)), ih fun j hj => h j (by simp [hj])⟩
    exact go l fun _ h => h
  · rintro L a W hall ⟨_, γ, f, t, rfl, hv, _, hq, ht, hKt⟩
    have htl : t = ss.length := by
      rcases Nat.lt_or_ge t ss.length with h | h
      · have h3 := (hq t h).1 (hall _ (hsn _ (getD_mem h)))
        omega
      · omega
    subst htl
    rw [hA γ f fun j hj => hv j (hall j hj)]
    exact fin γ W hKt
end
end Go.Proofs.Ytoenojnfhiimpaa
