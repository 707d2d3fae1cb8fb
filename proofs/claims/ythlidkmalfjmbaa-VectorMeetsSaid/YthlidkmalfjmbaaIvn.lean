/- A region that draws its order, of any number of operations: what holds behind each set of done operations, one step for each operation. No condition. -/
import Derived.Test.YthlidkmalfjmbaaKit
import Derived.WalkKit
namespace Go.Proofs.Ythlidkmalfjmbaa
open Go.RowKit

def updL (L : Nat → Bool) (i : Nat) : Nat → Bool := fun j => if j = i then true else L j
def DepsHold (L : Nat → Bool) : List Nat → Prop
  | [] => True
  | d :: r => L d = true ∧ DepsHold L r
def StepsFrom (S : Nat → Prop) : Nat → Nat → Prop
  | _, 0 => True
  | k, n + 1 => S k ∧ StepsFrom S (k + 1) n
def depOk (ops : Array Oper) (dep : Nat → List Nat) : Bool :=
  (List.range ops.size).all fun i => ((ops[i]?).map fun o => (dep i).all (fun d => o.after.any fun e => Region.binds .any e && e.on == d) && o.after.all (fun e => !Region.binds .any e || decide (e.on < i))).getD true
theorem depsHold_of {L : Nat → Bool} : ∀ {l : List Nat}, (∀ d ∈ l, L d = true) → DepsHold L l
  | [], _ => trivial
  | d :: _, h => ⟨h d (by simp), depsHold_of fun e he => h e (by simp [he])⟩
theorem stepsFrom_at {S : Nat → Prop} : ∀ {n k : Nat}, StepsFrom S k n → ∀ i, i < n → S (k + i)
  | 0, _, _, i, hi => absurd hi (by omega)
  | n + 1, k, h, 0, _ => h.1
  | n + 1, k, h, i + 1, hi => by
    have := stepsFrom_at h.2 i (by omega)
    rwa [show k + 1 + i = k + (i + 1) by omega] at this

section
variable {P : Program} {ops : Array Oper} {Q : Exit → Act → World → Prop}
theorem ready_mem {listed : Array Bool} (hs : listed.size = ops.size) (i : Nat) :
    i ∈ Region.ready .any ops listed ↔ i < ops.size ∧ listed.getD i false = false ∧ ∀ o, ops[i]? = some o → o.after.all (fun e => !Region.binds .any e || listed.getD e.on false) = true := by
  unfold Region.ready
  rw [List.mem_filter, List.mem_range]
  constructor
  · rintro ⟨hi, h⟩
    rw [Bool.and_eq_true] at h
    refine ⟨hi, ?_, fun o ho => ?_⟩
    · have h1 := h.1
      have hl : i < listed.size := by omega
      rw [Array.getD_eq_getD_getElem?, Array.getElem?_eq_getElem hl] at h1 ⊢
      simpa using h1
    · have h2 := h.2
      rw [ho] at h2
      simpa using h2
  · rintro ⟨hi, h1, h2⟩
    refine ⟨hi, ?_⟩
    rw [Bool.and_eq_true]
    constructor
    · have hl : i < listed.size := by omega
      rw [Array.getD_eq_getD_getElem?, Array.getElem?_eq_getElem hl] at h1 ⊢
      simpa using h1
    · have ho : ops[i]? = some ops[i] := Array.getElem?_eq_getElem hi
      have := h2 _ ho
      rw [ho]
      simpa using this
def Step1 (P : Program) (ops : Array Oper) (Q : Exit → Act → World → Prop) (I : (Nat → Bool) → Act → World → Prop) (dep : Nat → List Nat) (i : Nat) : Prop :=
  ∀ L a w, L i = false → DepsHold L (dep i) → I L a w → wpOp P ops Q i (I (updL L i)) a w
theorem wpAny_inv {I : (Nat → Bool) → Act → World → Prop} {dep : Nat → List Nat} (n : Nat) (hn : ops.size = n) (hd : depOk ops dep = true)
    (step : StepsFrom (Step1 P ops Q I dep) 0 n) (fin : ∀ L a w, (∀ i, i < n → L i = true) → I L a w → Q .normal a w) :
    ∀ (k : Nat) (listed : Array Bool) (a : Act) (w : World), listed.size = n → listed.toList.count false = k → I (fun j => listed.getD j false) a w → wpAny P .any ops Q k listed a w := by
  subst hn
  have hdep : ∀ i o, ops[i]? = some o → (∀ d ∈ dep i, ∃ e ∈ o.after, Region.binds .any e = true ∧ e.on = d) ∧ (∀ e ∈ o.after, Region.binds .any e = true → e.on < i) := by
    intro i o ho
    have hi : i < ops.size := (Array.getElem?_eq_some_iff.1 ho).1
    have h := List.all_eq_true.1 hd i (List.mem_range.2 hi)
    rw [ho] at h
    simp only [Option.map_some, Option.getD_some, Bool.and_eq_true, List.all_eq_true, Array.any_eq_true', Array.all_eq_true', Bool.or_eq_true, Bool.not_eq_true', decide_eq_true_eq, beq_iff_eq] at h
    refine ⟨fun d hd => ?_, fun e he hb => ?_⟩
    · obtain ⟨e, he, h1, h2⟩ := h.1 d hd
      exact ⟨e, he, h1, h2⟩
    · rcases h.2 e he with h3 | h3
      · rw [hb] at h3; cases h3
      · exact h3
  intro k
  induction k with
  | zero =>
    intro listed a w hs hc hI
    have all : ∀ i, i < ops.size → listed.getD i false = true := by
      intro i hi
      have hl : i < listed.size := by omega
      rw [Array.getD_eq_getD_getElem?, Array.getElem?_eq_getElem hl]
      simp only [Option.getD_some]
      apply Classical.byContradiction
      intro hb
      have hm : listed[i] ∈ listed.toList := by simp
      rw [Bool.not_eq_true] at hb
      rw [hb] at hm
      have := List.count_pos_iff.2 hm
      omega
    refine ⟨?_, fin _ _ _ all hI⟩
    rw [List.eq_nil_iff_forall_not_mem]
    intro i hi
    obtain ⟨h1, h2, _⟩ := (ready_mem hs i).1 hi
    rw [all i h1] at h2
    cases h2
  | succ k ih =>
    intro listed a w hs hc hI
    refine ⟨fun h0 => ?_, fun i hi => ?_⟩
    · have all : ∀ m i, i < m → i < ops.size → listed.getD i false = true := by
        intro m
        induction m with
        | zero => intro i hi; omega
        | succ m ihm =>
          intro i him hi
          apply Classical.byContradiction
          intro hb
          rw [Bool.not_eq_true] at hb
          have hm : i ∈ Region.ready .any ops listed := by
            refine (ready_mem hs i).2 ⟨hi, hb, fun o ho => ?_⟩
            rw [Array.all_eq_true']
            intro e he
            cases hbe : Region.binds .any e
            · rfl
            · have := (hdep i o ho).2 e he hbe
              simp [ihm e.on (by omega) (by omega)]
          rw [h0] at hm
          cases hm
      exact fin _ _ _ (fun i hi => all (i + 1) i (by omega) hi) hI
    · obtain ⟨h1, h2, h3⟩ := (ready_mem hs i).1 hi
      have hst : Step1 P ops Q I dep (0 + i) := stepsFrom_at step i h1
      rw [Nat.zero_add] at hst
      have hl : i < listed.size := by omega
      refine wpOp_mono (fun a' w' hI' => ?_) (hst _ a w h2 (depsHold_of fun d hd => ?_) hI)
      · refine ih (listed.setIfInBounds i true) a' w' (by simpa using hs) ?_ ?_
        · have hf : listed[i] = false := by
            rw [Array.getD_eq_getD_getElem?, Array.getElem?_eq_getElem hl] at h2
            simpa using h2
          rw [Array.toList_setIfInBounds, List.count_set (by simpa using hl)]
          simp [hf, hc]
        · have e : (fun j => (listed.setIfInBounds i true).getD j false) = updL (fun j => listed.getD j false) i := by
            funext j
            unfold updL
            by_cases hj : j = i
            · subst hj
              rw [if_pos rfl, Array.getD_eq_getD_getElem?, Array.getElem?_setIfInBounds_self]
              simp [hl]
            · rw [if_neg hj, Array.getD_eq_getD_getElem?, Array.getElem?_setIfInBounds_ne (by omega)]
              exact (Array.getD_eq_getD_getElem? ..).symm
          rw [e]
          exact hI'
      · have ho : ops[i]? = some ops[i] := Array.getElem?_eq_getElem h1
        obtain ⟨e, he, hb, rfl⟩ := (hdep i _ ho).1 d hd
        have := Array.all_eq_true'.1 (h3 _ ho) e he
        rw [hb] at this
        simpa using this
theorem wpAny_begin {I : (Nat → Bool) → Act → World → Prop} {dep : Nat → List Nat} {a : Act} {w : World} (n : Nat) (hn : ops.size = n) (hd : depOk ops dep = true)
    (hI : I (fun _ => false) a w) (step : StepsFrom (Step1 P ops Q I dep) 0 n) (fin : ∀ L a w, (∀ i, i < n → L i = true) → I L a w → Q .normal a w) :
    wpAny P .any ops Q ops.size (Array.replicate ops.size false) a w := by
  refine wpAny_inv n hn hd step fin _ _ _ _ (by simp [hn]) (by simp) ?_
  have e : (fun j => (Array.replicate ops.size false).getD j false) = fun _ => false := by
    funext j
    rw [Array.getD_eq_getD_getElem?, Array.getElem?_replicate]
    split <;> rfl
  rw [e]
  exact hI
def StepsOn (S : Nat → Prop) : List Nat → Prop
  | [] => True
  | i :: r => S i ∧ StepsOn S r
theorem stepsOn_at {S : Nat → Prop} : ∀ {l : List Nat}, StepsOn S l → ∀ i ∈ l, S i
  | _ :: _, h, i, hi => by
    rcases List.mem_cons.1 hi with rfl | hi
    · exact h.1
    · exact stepsOn_at h.2 i hi
theorem stepsFrom_of {S : Nat → Prop} : ∀ (n k : Nat), (∀ i, k ≤ i → i < k + n → S i) → StepsFrom S k n
  | 0, _, _ => trivial
  | n + 1, k, h => ⟨h k (Nat.le_refl _) (by omega), stepsFrom_of n (k + 1) fun i h1 h2 => h i (by omega) (by omega)⟩
theorem wpAny_list {I : (Nat → Bool) → Act → World → Prop} {dep : Nat → List Nat} {a : Act} {w : World} {l : List Nat} (n : Nat) (hn : ops.size = n) (hl : List.range n = l) (hd : depOk ops dep = true)
    (hI : I (fun _ => false) a w) (step : StepsOn (Step1 P ops Q I dep) l) (fin : ∀ L a w, (∀ i, i < n → L i = true) → I L a w → Q .normal a w) :
    wpAny P .any ops Q ops.size (Array.replicate ops.size false) a w :=
  wpAny_begin n hn hd hI (stepsFrom_of n 0 fun i _ h => stepsOn_at step i (by rw [← hl, List.mem_range]; omega)) fin
end
end Go.Proofs.Ythlidkmalfjmbaa
