/- A region that draws its order and makes blocks of its own, into each of which it then stores: one step for each operation. No condition. -/
import Derived.Test.YthlidkmalfjmbaaReg
import Derived.Test.YthlidkmalfjmbaaOwn
namespace Go.Proofs.Ythlidkmalfjmbaa
open Go.RowKit

def ptrV (g : Nat) : Value := .pointer (some ⟨g, 0, none⟩)
def kdOkA (n : Nat) (ss al : List Nat) (sa : Nat → Nat) (kd : Nat → Nat) (dep dv : Nat → List Nat) : Bool :=
  decide ss.Nodup && (ss.all fun s => decide (s < n)) && (al.all fun a => decide (a < n)) && ((List.range n).all fun i => (dv i).all (fun d => (dep i).contains d && !al.contains d) && match kd i with
    | 0 => !ss.contains i && !al.contains i
    | 1 => !ss.contains i && !al.contains i
    | 2 => !ss.contains i && al.contains i && (match ss with | [] => true | s :: _ => (dep s).contains i)
    | t + 3 => decide (t < ss.length) && decide (ss.getD t 0 = i) && al.contains (sa t) && (dep i).contains (sa t) && !al.contains i) && (List.range (ss.length - 1)).all fun t => (dep (ss.getD (t + 1) 0)).contains (ss.getD t 0)
section
variable {P : Program} {ops : Array Oper} {Q : Exit → Act → World → Prop}
def StepA (P : Program) (ops : Array Oper) (Q : Exit → Act → World → Prop) (fr : (Nat → Value) → Array Value) (vals : Nat → Value) (K : World → Prop) (dv : Nat → List Nat) (kd sa : Nat → Nat) (B : Nat) (T : TypeId) (z : Array Value)
    (cont : Nat → Nat → Array Value) (i : Nat) : Prop :=
  match kd i with
  | 0 => ∀ f W, K W → wpOp P ops Q i (fun a w => a = ⟨fr (updF (subF f vals (dv i)) i (vals i)), []⟩ ∧ w = W) ⟨fr (subF f vals (dv i)), []⟩ W
  | 1 => ∀ f W, K W → wpOp P ops Q i (fun a w => a = ⟨fr (updF (subF f vals (dv i)) i (vals i)), []⟩ ∧ K w ∧ Below W.heap.size W w) ⟨fr (subF f vals (dv i)), []⟩ W
  | 2 => ∀ f W, wpOp P ops Q i (fun a w => a = ⟨fr (updF (subF f vals (dv i)) i (ptrV W.heap.size)), []⟩ ∧ w = W.alloc (.cells z T)) ⟨fr (subF f vals (dv i)), []⟩ W
  | t + 3 => ∀ f W g, K W → B ≤ g → Blk W g T (cont t (sa t)) → wpOp P ops Q i (fun a w => a = ⟨fr (updF (updF (subF f vals (dv i)) (sa t) (ptrV g)) i (vals i)), []⟩ ∧ K w ∧ w.heap.size = W.heap.size ∧ Blk w g T (cont (t + 1) (sa t)) ∧
      ∀ k cs, k ≠ g → Blk W k T cs → Blk w k T cs) ⟨fr (updF (subF f vals (dv i)) (sa t) (ptrV g)), []⟩ W
def InvA (fr : (Nat → Value) → Array Value) (vals : Nat → Value) (K : World → Prop) (dep : Nat → List Nat) (ss al : List Nat) (B : Nat) (T : TypeId) (cont : Nat → Nat → Array Value) (L : Nat → Bool) (a : Act) (W : World) : Prop :=
  (∀ j d, L j = true → d ∈ dep j → L d = true) ∧ ∃ f t, a = ⟨fr f, []⟩ ∧ (∀ j, L j = true → j ∉ al → f j = vals j) ∧ (∀ q, q < ss.length → (L (ss.getD q 0) = true ↔ q < t)) ∧ t ≤ ss.length ∧ K W ∧ B ≤ W.heap.size ∧
    (∀ j ∈ al, L j = true → ∃ g, f j = ptrV g ∧ B ≤ g ∧ Blk W g T (cont t j)) ∧ ∀ j ∈ al, ∀ k ∈ al, j ≠ k → L j = true → L k = true → f j ≠ f k
theorem ptrV_inj {g k : Nat} (h : ptrV g = ptrV k) : g = k := by unfold ptrV at h; injection h with h; injection h with h; injection h
theorem updF_same {f : Nat → Value} {i : Nat} {v : Value} (h : f i = v) : updF f i v = f := by
  funext j; unfold updF; by_cases e : j = i
  · subst e; rw [if_pos rfl]; exact h.symm
  · rw [if_neg e]
theorem wpAny_alloc {fr : (Nat → Value) → Array Value} {vals : Nat → Value} {K : World → Prop} {dep dv : Nat → List Nat} {kd sa : Nat → Nat} {ss al l : List Nat} {f0 : Nat → Value} {w : World} {B : Nat} {T : TypeId} {z : Array Value}
    {cont : Nat → Nat → Array Value} {A : (Nat → Nat) → Act} (n : Nat)
    (hn : ops.size = n) (hl : List.range n = l) (hd : depOk ops dep = true) (hk : kdOkA n ss al sa kd dep dv = true) (hK : K w) (hB : B ≤ w.heap.size)
    (hz : ∀ j ∈ al, cont 0 j = z) (hcs : ∀ t, t < ss.length → ∀ j ∈ al, j ≠ sa t → cont (t + 1) j = cont t j)
    (hKa : ∀ W, K W → K (W.alloc (.cells z T)))
    (step : StepsOn (StepA P ops Q fr vals K dv kd sa B T z cont) l)
    (hA : ∀ f g, (∀ j, j < n → j ∉ al → f j = vals j) → (∀ j ∈ al, f j = ptrV (g j)) → (⟨fr f, []⟩ : Act) = A g)
    (fin : ∀ W g, K W → (∀ j ∈ al, B ≤ g j ∧ Blk W (g j) T (cont ss.length j)) → (∀ j ∈ al, ∀ k ∈ al, j ≠ k → g j ≠ g k) → Q .normal (A g) W) :
    wpAny P .any ops Q ops.size (Array.replicate ops.size false) ⟨fr f0, []⟩ w := by
  unfold kdOkA at hk
  simp only [Bool.and_eq_true, decide_eq_true_eq, List.all_eq_true, List.mem_range, List.contains_iff_mem, Bool.not_eq_true', ← Bool.not_eq_true] at hk
  obtain ⟨⟨⟨⟨hnd, hsn⟩, han⟩, hki⟩, hch⟩ := hk
  refine wpAny_list (I := InvA fr vals K dep ss al B T cont) (dep := dep) n hn hl hd ?_ ?_ ?_
  · exact ⟨fun j d h => by simp at h, f0, 0, rfl, fun j h => by simp at h, fun q _ => by simp, Nat.zero_le _, hK, hB, fun j _ h => by simp at h, fun j _ k _ _ h => by simp at h⟩
  · have all : ∀ i ∈ l, Step1 P ops Q (InvA fr vals K dep ss al B T cont) dep i := by
      intro i hi
      have hin : i < n := by rw [← hl, List.mem_range] at hi; exact hi
      have hs := stepsOn_at step i hi
      obtain ⟨hdv, hki⟩ := hki i hin
      unfold StepA at hs
      rintro L a W hLi hdp ⟨hc, f, t, rfl, hv, hq, ht, hKW, hBW, hown, hdis⟩
      have hsub : subF f vals (dv i) = f := subF_eq (depsVal_of fun d hd => hv d (depsHold_at hdp d (hdv d hd).1) (hdv d hd).2)
      have hcu := closed_upd hc (depsHold_at hdp)
      have hvu : ∀ {v : Value}, (i ∈ al ∨ v = vals i) → ∀ j, updL L i j = true → j ∉ al → updF f i v j = vals j := by
        intro v hv' j hj hja
        by_cases e : j = i
        · subst e
          rcases hv' with h | h
          · exact absurd h hja
          · rw [updF_self, h]
        · rw [upd_ne e] at hj; rw [updF_ne e]; exact hv j hj hja
      have far : ∀ {v : Value}, i ∉ al → (∀ j ∈ al, ∀ k ∈ al, j ≠ k → updL L i j = true → updL L i k = true → updF f i v j ≠ updF f i v k) := by
        intro v hia j hj k hk hjk h1 h2
        have ej : j ≠ i := fun e => hia (e ▸ hj)
        have ek : k ≠ i := fun e => hia (e ▸ hk)
        rw [upd_ne ej] at h1; rw [upd_ne ek] at h2
        rw [updF_ne ej, updF_ne ek]
        exact hdis j hj k hk hjk h1 h2
      split at hs
      · rename_i hkd
        rw [hkd] at hki
        simp only [Bool.and_eq_true, Bool.not_eq_true', ← Bool.not_eq_true, List.contains_iff_mem] at hki
        refine wpOp_mono (fun a' w' ⟨ha, hw⟩ => ?_) (hsub ▸ hs f W hKW)
        subst ha; subst hw
        refine ⟨hcu, _, t, rfl, hvu (.inr rfl), fun q hqq => ?_, ht, hKW, hBW, fun j hj hL => ?_, far hki.2⟩
        · rw [upd_ne (fun e => hki.1 (by rw [← e]; exact getD_mem hqq))]
          exact hq q hqq
        · have ej : j ≠ i := fun e => hki.2 (e ▸ hj)
          rw [upd_ne ej] at hL; rw [updF_ne ej]
          exact hown j hj hL
      · rename_i hkd
        rw [hkd] at hki
        simp only [Bool.and_eq_true, Bool.not_eq_true', ← Bool.not_eq_true, List.contains_iff_mem] at hki
        refine wpOp_mono (fun a' w' ⟨ha, hw, hb⟩ => ?_) (hsub ▸ hs f W hKW)
        subst ha
        refine ⟨hcu, _, t, rfl, hvu (.inr rfl), fun q hqq => ?_, ht, hw, Nat.le_trans hBW hb.size, fun j hj hL => ?_, far hki.2⟩
        · rw [upd_ne (fun e => hki.1 (by rw [← e]; exact getD_mem hqq))]
          exact hq q hqq
        · have ej : j ≠ i := fun e => hki.2 (e ▸ hj)
          rw [upd_ne ej] at hL; rw [updF_ne ej]
          obtain ⟨g, e, hg, hblk⟩ := hown j hj hL
          exact ⟨g, e, hg, hblk.below hb hblk.lt⟩
      · rename_i hkd
        rw [hkd] at hki
        simp only [Bool.and_eq_true, Bool.not_eq_true', ← Bool.not_eq_true, List.contains_iff_mem] at hki
        obtain ⟨⟨his, hia⟩, hfst⟩ := hki
        have ht0 : t = 0 := by
          rcases Nat.eq_zero_or_pos t with h0 | h0
          · exact h0
          · have hlen : 0 < ss.length := by omega
            have h1 := (hq 0 hlen).2 h0
            match ss, hfst, hlen, h1 with
            | s :: _, h2, _, h1 =>
              have := hc s i (by simpa using h1) (by simpa using h2)
              rw [hLi] at this; cases this
        subst ht0
        refine wpOp_mono (fun a' w' ⟨ha, hw⟩ => ?_) (hsub ▸ hs f W)
        subst ha; subst hw
        refine ⟨hcu, _, 0, rfl, hvu (.inl hia), fun q hqq => ?_, ht, hKa W hKW, by simp; omega, fun j hj hL => ?_, fun j hj k hk hjk h1 h2 => ?_⟩
        · rw [upd_ne (fun e => his (by rw [← e]; exact getD_mem hqq))]
          exact hq q hqq
        · by_cases ej : j = i
          · subst ej
            rw [updF_self, hz j hj]
            exact ⟨_, rfl, hBW, Blk.new2 rfl⟩
          · rw [upd_ne ej] at hL; rw [updF_ne ej]
            obtain ⟨g, e, hg, hblk⟩ := hown j hj hL
            exact ⟨g, e, hg, hblk.alloc _⟩
        · by_cases ej : j = i
          · subst ej
            have ek : k ≠ j := fun e => hjk e.symm
            rw [upd_ne ek] at h2; rw [updF_self, updF_ne ek]
            obtain ⟨g, e, hg, hblk⟩ := hown k hk h2
            rw [e]
            intro e'
            have := ptrV_inj e'
            have := hblk.lt
            omega
          · by_cases ek : k = i
            · subst ek
              rw [upd_ne ej] at h1; rw [updF_self, updF_ne ej]
              obtain ⟨g, e, hg, hblk⟩ := hown j hj h1
              rw [e]
              intro e'
              have := ptrV_inj e'
              have := hblk.lt
              omega
            · rw [upd_ne ej] at h1; rw [upd_ne ek] at h2
              rw [updF_ne ej, updF_ne ek]
              exact hdis j hj k hk hjk h1 h2
      · rename_i τ hkd
        rw [hkd] at hki
        simp only [Bool.and_eq_true, decide_eq_true_eq, Bool.not_eq_true', ← Bool.not_eq_true, List.contains_iff_mem] at hki
        obtain ⟨⟨⟨⟨hτ, rfl⟩, hsa⟩, hsd⟩, hia⟩ := hki
        have h1 : t ≤ τ := by
          rcases Nat.lt_or_ge τ t with h | h
          · have := (hq τ hτ).2 h; rw [hLi] at this; cases this
          · exact h
        have h2 : t = τ := by
          rcases Nat.eq_zero_or_pos τ with h0 | h0
          · omega
          · have hm := hch (τ - 1) (by omega)
            rw [show τ - 1 + 1 = τ by omega] at hm
            have := (hq (τ - 1) (by omega)).1 (depsHold_at hdp _ hm)
            omega
        subst h2
        have hLa := depsHold_at hdp _ hsd
        obtain ⟨g, eg, hg, hblk⟩ := hown _ hsa hLa
        have hs' := hs f W g hKW hg hblk
        rw [hsub, updF_same eg] at hs'
        refine wpOp_mono (fun a' w' ⟨ha, hw, hsz, hnew, hfar⟩ => ?_) hs'
        subst ha
        refine ⟨hcu, _, t + 1, rfl, hvu (.inr rfl), fun q hqq => ?_, by omega, hw, by omega, fun j hj hL => ?_, far hia⟩
        · by_cases e : q = t
          · subst e; simp [upd_self]
          · rw [upd_ne (fun e' => e (getD_inj hnd hqq hτ e')), hq q hqq]
            omega
        · have ej : j ≠ ss.getD t 0 := fun e => hia (e ▸ hj)
          rw [upd_ne ej] at hL; rw [updF_ne ej]
          by_cases e : j = sa t
          · subst e; exact ⟨g, eg, hg, hnew⟩
          · obtain ⟨k, e', hk, hkb⟩ := hown j hj hL
            refine ⟨k, e', hk, ?_⟩
            rw [hcs t hτ j hj e]
            refine hfar k _ (fun e'' => ?_) hkb
            subst e''
            exact hdis j hj (sa t) hsa e hL hLa (e'.trans eg.symm)
    clear step
    have go : ∀ (m : List Nat), (∀ i ∈ m, i ∈ l) → StepsOn (Step1 P ops Q (InvA fr vals K dep ss al B T cont) dep) m := by
      intro m
      induction m with
      | nil => intro _; trivial
      | cons i r ih => intro h; exact ⟨all i (h i (by simp)), ih fun j hj => h j (by simp [hj])⟩
    exact go l fun _ h => h
  · rintro L a W hall ⟨_, f, t, rfl, hv, hq, ht, hKW, hBW, hown, hdis⟩
    have htl : t = ss.length := by
      rcases Nat.lt_or_ge t ss.length with h | h
      · have h3 := (hq t h).1 (hall _ (hsn _ (getD_mem h)))
        omega
      · omega
    subst htl
    have hch : ∀ j, ∃ g, j ∈ al → (f j = ptrV g ∧ B ≤ g ∧ Blk W g T (cont ss.length j)) := by
      intro j
      by_cases hj : j ∈ al
      · obtain ⟨g, h⟩ := hown j hj (hall j (han j hj)); exact ⟨g, fun _ => h⟩
      · exact ⟨0, fun h => absurd h hj⟩
    obtain ⟨g, hg⟩ := Classical.axiomOfChoice hch
    rw [hA f g (fun j hj hja => hv j (hall j hj) hja) (fun j hj => (hg j hj).1)]
    refine fin W g hKW (fun j hj => (hg j hj).2) fun j hj k hk hjk e => ?_
    refine hdis j hj k hk hjk (hall j (han j hj)) (hall k (han k hk)) ?_
    rw [(hg j hj).1, (hg k hk).1, e]
end
end Go.Proofs.Ythlidkmalfjmbaa
