/- Blocks, rows and regions: what every walk of this seat uses. No condition. -/
import Derived.Below
import Derived.Laws.OwnMore
import Derived.Deep.AppendLies
import Derived.Deep.Draws
import Derived.Laws.Rows
import Derived.Maps.AppendAt
import Derived.RegionTactic
import Derived.OwnWalk
import Derived.WalkKit
import Derived.Deep.RegionWith
import Derived.Deep.RegionHeld3
import Derived.Deep.DeepCutAuto
import Derived.BigRegion
namespace Go.Proofs.Ytoenojnfhiimpaa
open Go.RowKit

theorem block_of_add (a : Addr) (n : Nat) : (a.add n).block = a.block := by unfold Addr.add; split <;> rfl
theorem add_of_add (a : Addr) (i j : Nat) : (a.add i).add j = a.add (i + j) := by
  unfold Addr.add
  by_cases hi : i = 0 <;> by_cases hj : j = 0 <;> simp [hi, hj, Nat.add_assoc]

def Reads (w : World) (B size : Nat) (A : Option Addr) (n : Nat) (xs : List Value) : Prop :=
  xs.length = n * size ∧ (0 < n → ∃ ad, A = some ad ∧ ad.block < B ∧ ∀ j u, xs[j]? = some u → w.cell? (ad.add j) = some u)

section
variable {w w' : World} {B B' size n : Nat} {A : Option Addr} {xs : List Value}
theorem Reads.none_ : Reads w B size A 0 [] := ⟨by simp, fun h => absurd h (by omega)⟩
theorem Reads.at_ {k : Nat} (h : Reads w B 1 A n xs) (hk : k < n) : ∃ ad u, A = some ad ∧ ad.block < B ∧ xs[k]? = some u ∧ w.cell? (ad.add k) = some u := by
  obtain ⟨ad, e, hb, hc⟩ := h.2 (by omega)
  have hl : k < xs.length := by have := h.1; omega
  exact ⟨ad, xs[k], e, hb, List.getElem?_eq_getElem hl, hc k _ (List.getElem?_eq_getElem hl)⟩
theorem Reads.keep (h : Reads w B size A n xs) (hk : ∀ p : Addr, p.block < B → w'.cell? p = w.cell? p) : Reads w' B size A n xs :=
  ⟨h.1, fun hn => by
    obtain ⟨ad, e, hb, hc⟩ := h.2 hn
    exact ⟨ad, e, hb, fun j u hu => (hk _ (by rw [block_of_add]; exact hb)).trans (hc j u hu)⟩⟩
theorem Reads.more (h : Reads w B size A n xs) (hB : B ≤ B') : Reads w B' size A n xs :=
  ⟨h.1, fun hn => by
    obtain ⟨ad, e, hb, hc⟩ := h.2 hn
    exact ⟨ad, e, by omega, hc⟩⟩
theorem Reads.below (h : Reads w B size A n xs) (hb : Below B w w') : Reads w' B size A n xs := h.keep fun _ hp => hb.cell hp
theorem Reads.drew (h : Reads w B size A n xs) : Reads w.drew B size A n xs := h
theorem Reads.drewN (h : Reads w B size A n xs) (k : Nat) : Reads (w.drewN k) B size A n xs := h
theorem Reads.alloc (h : Reads w B size A n xs) (hB : B ≤ w.heap.size) (o : Obj) : Reads (w.alloc o) B size A n xs := h.keep fun p hp => World.cell?_alloc_lt w o p (by omega)
theorem Reads.setCell (h : Reads w B size A n xs) {p : Addr} (hB : B ≤ p.block) (u : Value) : Reads (w.setCell p u) B size A n xs :=
  h.keep fun q hq => World.cell?_setCell_other w p q u (fun e => by subst e; omega)
theorem Reads.grown (h : Reads w B size A n xs) {row : Option Nat} (hg : w.grownBy w' row) (hB : B ≤ w.heap.size) (hr : ∀ g, row = some g → B ≤ g) : Reads w' B size A n xs :=
  h.keep fun p hp => World.cell?_of_block (hg.block p.block (by omega) (fun e => by have := hr _ e.symm; omega))
theorem Reads.cut (h : Reads w B size A n xs) {k cap : Nat} (hk : k ≤ n) (hc : n ≤ cap) :
    Reads w B size (if cap = k then A else A.map (·.add (k * size))) (n - k) (xs.drop (k * size)) := by
  refine ⟨by rw [List.length_drop, h.1, Nat.sub_mul], fun hn => ?_⟩
  obtain ⟨ad, rfl, hb, hcell⟩ := h.2 (by omega)
  rw [if_neg (by omega)]
  refine ⟨ad.add (k * size), rfl, by rw [block_of_add]; exact hb, fun j u hu => ?_⟩
  rw [add_of_add]
  exact hcell _ u (by rw [← hu, List.getElem?_drop])
theorem Reads.of_own {base : Nat} {e : TypeId} {c : Nat} (h : w.ownsRow base e size (.slice A n c) n xs) : Reads w w.heap.size size A n xs := by
  refine ⟨h.1, fun hn => ?_⟩
  obtain ⟨g, cap, hv, _, hlt⟩ := h.form hn
  have hA : A = some ⟨g, 0, none⟩ := by injection hv
  subst hA
  exact ⟨_, rfl, hlt, h.cells (g := g) rfl⟩
end

def Blk (w : World) (g : Nat) (t : TypeId) (cs : Array Value) : Prop := w.heap[g]? = some (.cells cs t (0, 0))

section
variable {w w' : World} {g : Nat} {t : TypeId} {cs : Array Value}
theorem Blk.lt (h : Blk w g t cs) : g < w.heap.size := by
  rcases Nat.lt_or_ge g w.heap.size with hlt | hge
  · exact hlt
  · unfold Blk at h; rw [Array.getElem?_eq_none hge] at h; cases h
theorem Blk.cell (h : Blk w g t cs) (i : Nat) : w.cell? ⟨g, i, none⟩ = cs[i]? := cell_of_row w g i cs t (0, 0) h
theorem Blk.frozen (h : Blk w g t cs) (i : Nat) : w.frozen? ⟨g, i, none⟩ = false := by
  unfold Blk at h
  simp [World.frozen?, h]
theorem Blk.new (w : World) (t : TypeId) (cs : Array Value) : Blk (w.alloc (.cells cs t)) w.heap.size t cs := heap_alloc_new w _
theorem Blk.drew (h : Blk w g t cs) : Blk w.drew g t cs := h
theorem Blk.drewN (h : Blk w g t cs) (n : Nat) : Blk (w.drewN n) g t cs := h
theorem Blk.alloc (h : Blk w g t cs) (o : Obj) : Blk (w.alloc o) g t cs := (Below.heap_alloc w o g h.lt).trans h
theorem Blk.set_ (h : Blk w g t cs) (i : Nat) (u : Value) : Blk (w.setCell ⟨g, i, none⟩ u) g t (cs.setIfInBounds i u) := by
  unfold Blk at h ⊢
  simp [World.setCell, Array.getElem?_modify, h]
theorem Blk.far (h : Blk w g t cs) {p : Addr} (hp : g ≠ p.block) (u : Value) : Blk (w.setCell p u) g t cs := (Below.heap_setCell w p u g hp).trans h
theorem Blk.below {B : Nat} (h : Blk w g t cs) (hb : Below B w w') (hg : g < B) : Blk w' g t cs := (hb.block g hg).trans h
theorem Blk.grown {row : Option Nat} (h : Blk w g t cs) (hb : w.grownBy w' row) (hg : some g ≠ row) : Blk w' g t cs := (hb.block g h.lt hg).trans h
theorem Blk.ne_ {g' : Nat} {t' : TypeId} {cs' : Array Value} (h : Blk w g t cs) (h' : Blk w g' t' cs') (hne : t ≠ t') : g ≠ g' := by
  rintro rfl
  unfold Blk at h h'
  rw [h] at h'
  injection h' with h'
  injection h' with _ ht
  exact hne ht
theorem own_blk_ne {base : Nat} {e : TypeId} {size n : Nat} {v : Value} {xs : List Value} (h : w.ownsRow base e size v n xs) (hg : Blk w g t cs) (hne : e ≠ t) : v.ownBlock ≠ some g := by
  rcases h.2 with ⟨rfl, _⟩ | ⟨g', cap, cur, rfl, _, hh, _⟩
  · simp [Value.ownBlock]
  · intro he
    have : g' = g := by simpa [Value.ownBlock] using he
    subst this
    exact Blk.ne_ (t := e) hh hg hne rfl
end

section
variable {P : Program} (w : World)

theorem run_append_of_nil (base : Nat) (t ty e : TypeId) (i : TypeInfo) (size : Nat) (ht : P.underlying t = some (.slice e)) (hi : P.info? e = some i)
    (v : Value) (n : Nat) (xs : List Value) (hown : w.ownsRow base e size v n xs) (c : Nat) : (Builtin.append_ #[t, t] ty #[v, .slice none 0 c]).run P w = .ok v w := by
  rcases hown.2 with ⟨rfl, rfl⟩ | ⟨g, cap, cur, rfl, _, _, hnc, _⟩
  · simp [Builtin.append_, run_underlying ht, sizeOf, typeInfo, hi, Builtin.lenOf, Builtin.firstCells]
  · simp [Builtin.append_, run_underlying ht, sizeOf, typeInfo, hi, Builtin.lenOf, Builtin.firstCells, hnc, storeCells]

theorem run_append_any (base : Nat) (t ty e : TypeId) (i : TypeInfo) (z : Value) (size bytes : Nat) (ht : P.underlying t = some (.slice e)) (hi : P.info? e = some i) (hz : i.zero = some z)
    (hsize : i.size = size) (hby : i.bytes = bytes) (hzs : z.cells.size = size) (hsz : 0 < size)
    (v : Value) (n : Nat) (xs : List Value) (hown : w.ownsRow base e size v n xs)
    (B : Nat) (A : Option Addr) (m c : Nat) (news : List Value) (hr : Reads w B size A m news) (h1 : ∀ u ∈ news, u.oneCell' = true)
    (h63 : n + m ≤ maxLen) (hbytes : (n + m) * bytes ≤ 140737488355328) (hbase : base ≤ w.heap.size) :
    ∃ v' w', (Builtin.append_ #[t, t] ty #[v, .slice A m c]).run P w = .ok v' w' ∧ w'.ownsRow base e size v' (n + m) (xs ++ news) ∧ w.grownBy w' v.ownBlock ∧
      (v'.ownBlock = v.ownBlock ∨ v'.ownBlock = some w.heap.size) := by
  rcases A with _ | ad
  · have hm : m = 0 := by
      rcases Nat.eq_zero_or_pos m with h0 | h0
      · exact h0
      · obtain ⟨ad, h, _⟩ := hr.2 h0
        cases h
    subst hm
    have hn : news = [] := List.eq_nil_of_length_eq_zero (by simpa using hr.1)
    subst hn
    exact ⟨v, w, run_append_of_nil w base t ty e i size ht hi v n xs hown c, by simpa using hown, World.grownBy.refl w _, .inl rfl⟩
  · have hcells : ∀ j u, news[j]? = some u → w.cell? (ad.add j) = some u := by
      intro j u hu
      rcases Nat.eq_zero_or_pos m with h0 | h0
      · subst h0
        have hn : news = [] := List.eq_nil_of_length_eq_zero (by simpa using hr.1)
        subst hn
        simp at hu
      · obtain ⟨ad', h, _, hc⟩ := hr.2 h0
        injection h with h
        subst h
        exact hc j u hu
    obtain ⟨v', w', hrun, h2, h3, _, h5⟩ := run_append_own_at (P := P) w base t ty e i z size bytes ht hi hz hsize hby hzs hsz v n xs hown ad m c news hr.1 hcells h1 h63 hbytes hbase
    exact ⟨v', w', hrun, h2, h3, h5⟩

theorem wp_append_any {o : Oper} {a : Act} {K : Act → World → Prop} {Q : Exit → Act → World → Prop} (s x : Operand) (t : TypeId)
    (ho : o.op = .call { callee := .builtin .append, args := #[s, x], argTypes := #[t, t] })
    (base : Nat) (e : TypeId) (i : TypeInfo) (z : Value) (size bytes : Nat) (ht : P.underlying t = some (.slice e)) (hi : P.info? e = some i) (hz : i.zero = some z)
    (hsize : i.size = size) (hby : i.bytes = bytes) (hzs : z.cells.size = size) (hsz : 0 < size)
    (v : Value) (n : Nat) (xs : List Value) (hs : a.eval s = v) (hown : w.ownsRow base e size v n xs)
    (B : Nat) (A : Option Addr) (m c : Nat) (news : List Value) (hx : a.eval x = .slice A m c) (hr : Reads w B size A m news) (h1 : ∀ u ∈ news, u.oneCell' = true)
    (h63 : n + m ≤ maxLen) (hbytes : (n + m) * bytes ≤ 140737488355328) (hbase : base ≤ w.heap.size)
    (h : ∀ v' w', w'.ownsRow base e size v' (n + m) (xs ++ news) → w.grownBy w' v.ownBlock → (v'.ownBlock = v.ownBlock ∨ v'.ownBlock = some w.heap.size) → K (a.put o.dst v') w') : o.wp P a w K Q := by
  obtain ⟨v', w', hrun, h2, h3, h4⟩ := run_append_any (P := P) w base t o.type e i z size bytes ht hi hz hsize hby hzs hsz v n xs hown B A m c news hr h1 h63 hbytes hbase
  unfold Oper.wp execOp
  simp only [ho, resolve, invoke, builtin, Sem.run_bind, Sem.run_pure, Result.andThen_ok, List.map_toArray, List.map_cons, List.map_nil, hs, hx, hrun]
  exact h v' w' h2 h3 h4

theorem wpList_append_any {ops : Array Oper} {rest : List Oper} {o : Oper} {a : Act} {Q : Exit → Act → World → Prop} (hgd : o.guard = none) (s x : Operand) (t : TypeId)
    (ho : o.op = .call { callee := .builtin .append, args := #[s, x], argTypes := #[t, t] })
    (base : Nat) (e : TypeId) (i : TypeInfo) (z : Value) (size bytes : Nat) (ht : P.underlying t = some (.slice e)) (hi : P.info? e = some i) (hz : i.zero = some z)
    (hsize : i.size = size) (hby : i.bytes = bytes) (hzs : z.cells.size = size) (hsz : 0 < size)
    (v : Value) (n : Nat) (xs : List Value) (hs : a.eval s = v) (hown : w.ownsRow base e size v n xs)
    (B : Nat) (A : Option Addr) (m c : Nat) (news : List Value) (hx : a.eval x = .slice A m c) (hr : Reads w B size A m news) (h1 : ∀ u ∈ news, u.oneCell' = true)
    (h63 : n + m ≤ maxLen) (hbytes : (n + m) * bytes ≤ 140737488355328) (hbase : base ≤ w.heap.size)
    (h : ∀ v' w', w'.ownsRow base e size v' (n + m) (xs ++ news) → w.grownBy w' v.ownBlock → (v'.ownBlock = v.ownBlock ∨ v'.ownBlock = some w.heap.size) → wpList P ops Q rest (a.put o.dst v') w') : wpList P ops Q (o :: rest) a w :=
  wpList_plain hgd fun _ hK => wp_append_any w s x t ho base e i z size bytes ht hi hz hsize hby hzs hsz v n xs hs hown B A m c news hx hr h1 h63 hbytes hbase fun v' w' h2 h3 h4 => hK _ _ (h v' w' h2 h3 h4)

theorem step_append_any {ops : Array Oper} {o : Oper} {a : Act} {K : Act → World → Prop} {Q : Exit → Act → World → Prop} {E : Prop} (hgd : o.guard = none) (s x : Operand) (t : TypeId)
    (ho : o.op = .call { callee := .builtin .append, args := #[s, x], argTypes := #[t, t] })
    (base : Nat) (e : TypeId) (i : TypeInfo) (z : Value) (size bytes : Nat) (ht : P.underlying t = some (.slice e)) (hi : P.info? e = some i) (hz : i.zero = some z)
    (hsize : i.size = size) (hby : i.bytes = bytes) (hzs : z.cells.size = size) (hsz : 0 < size)
    (v : Value) (n : Nat) (xs : List Value) (hs : a.eval s = v) (hown : w.ownsRow base e size v n xs)
    (B : Nat) (A : Option Addr) (m c : Nat) (news : List Value) (hx : a.eval x = .slice A m c) (hr : Reads w B size A m news) (h1 : ∀ u ∈ news, u.oneCell' = true)
    (h63 : n + m ≤ maxLen) (hbytes : (n + m) * bytes ≤ 140737488355328) (hbase : base ≤ w.heap.size)
    (h : ∀ v' w', w'.ownsRow base e size v' (n + m) (xs ++ news) → w.grownBy w' v.ownBlock → (v'.ownBlock = v.ownBlock ∨ v'.ownBlock = some w.heap.size) → K (a.put o.dst v') w') :
    if Region.wanted o (yielded ops a.tmps) = true then Oper.wp P o a w K Q else E := by
  have hw : Region.wanted o (yielded ops a.tmps) = true := by simp [Region.wanted, hgd]
  rw [if_pos hw]
  exact wp_append_any w s x t ho base e i z size bytes ht hi hz hsize hby hzs hsz v n xs hs hown B A m c news hx hr h1 h63 hbytes hbase h
end

theorem below_drewN {B : Nat} {a w : World} (h : Below B a w) (n : Nat) : Below B a (w.drewN n) := ⟨h.os, h.tape, h.output, h.size, h.block⟩
theorem bmono {B C : Nat} {a w : World} (h : Below C a w) (hle : B ≤ C) : Below B a w := h.mono hle
theorem ret_int {k : IntKind} {a b : Int} (h : a = b) : Ending.returned (.int k a) = .returned (.int k b) := by rw [h]

theorem bcell {W w1 : World} (hb : Below W.heap.size W w1) : (∀ b o, b < W.heap.size → w1.cell? ⟨b, o, none⟩ = W.cell? ⟨b, o, none⟩) ∧ (∀ b o, b < W.heap.size → w1.frozen? ⟨b, o, none⟩ = W.frozen? ⟨b, o, none⟩) :=
  ⟨fun b o h => hb.cell (p := ⟨b, o, none⟩) h, fun b o h => hb.frozen (p := ⟨b, o, none⟩) h⟩
theorem ret_bool {a b : Bool} (h : a = b) : Ending.returned (.bool a) = .returned (.bool b) := by rw [h]

theorem blk3 {w : World} {g : Nat} {t : TypeId} {a b c : Value} (h : Blk w g t #[a, b, c]) :
    w.cell? ⟨g, 0, none⟩ = some a ∧ w.cell? ⟨g, 1, none⟩ = some b ∧ w.cell? ⟨g, 2, none⟩ = some c := ⟨h.cell 0, h.cell 1, h.cell 2⟩
theorem blk2 {w : World} {g : Nat} {t : TypeId} {a b : Value} (h : Blk w g t #[a, b]) :
    w.cell? ⟨g, 0, none⟩ = some a ∧ w.cell? ⟨g, 1, none⟩ = some b := ⟨h.cell 0, h.cell 1⟩
end Go.Proofs.Ytoenojnfhiimpaa

namespace Go.Proofs.Ytoenojnfhiimpaa
open Go.RowKit

def updL (L : Nat → Bool) (i : Nat) : Nat → Bool := fun j => if j = i then true else L j
def DepsHold (L : Nat → Bool) : List Nat → Prop
  | [] => True
  | d :: r => L d = true ∧ DepsHold L r
def StepsFrom (S : Nat → Prop) : Nat → Nat → Prop
  | _, 0 => True
  | k, n + 1 => S k ∧ StepsFrom S (k + 1) n
def depOk (ops : Array Oper) (dep : Nat → List Nat) : Bool :=
  (List.range ops.size).all fun i => ((ops[i]?).map fun o => (dep i).all (fun d => o.after.any fun e => Region.binds .any e && e.on == d) && o.after.all (fun e => !Region.binds .any e || decide (e.on < i))).getD true
theorem depsHold_of {L : Nat → Bool} : ∀ {l : List Nat}, (∀ d ∈ l, L d = true) → DepsHold L l
  | [], _ => trivial
  | d :: _, h => ⟨h d (by simp), depsHold_of fun e he => h e (by simp [he])⟩
theorem stepsFrom_at {S : Nat → Prop} : ∀ {n k : Nat}, StepsFrom S k n → ∀ i, i < n → S (k + i)
  | 0, _, _, i, hi => absurd hi (by omega)
  | n + 1, k, h, 0, _ => h.1
  | n + 1, k, h, i + 1, hi => by
    have := stepsFrom_at h.2 i (by omega)
    rwa [show k + 1 + i = k + (i + 1) by omega] at this

section
variable {P : Program} {ops : Array Oper} {Q : Exit → Act → World → Prop}
theorem ready_mem {listed : Array Bool} (hs : listed.size = ops.size) (i : Nat) :
    i ∈ Region.ready .any ops listed ↔ i < ops.size ∧ listed.getD i false = false ∧ ∀ o, ops[i]? = some o → o.after.all (fun e => !Region.binds .any e || listed.getD e.on false) = true := by
  unfold Region.ready
  rw [List.mem_filter, List.mem_range]
  constructor
  · rintro ⟨hi, h⟩
    rw [Bool.and_eq_true] at h
    refine ⟨hi, ?_, fun o ho => ?_⟩
    · have h1 := h.1
      have hl : i < listed.size := by omega
      rw [Array.getD_eq_getD_getElem?, Array.getElem?_eq_getElem hl] at h1 ⊢
      simpa using h1
    · have h2 := h.2
      rw [ho] at h2
      simpa using h2
  · rintro ⟨hi, h1, h2⟩
    refine ⟨hi, ?_⟩
    rw [Bool.and_eq_true]
    constructor
    · have hl : i < listed.size := by omega
      rw [Array.getD_eq_getD_getElem?, Array.getElem?_eq_getElem hl] at h1 ⊢
      simpa using h1
    · have ho : ops[i]? = some ops[i] := Array.getElem?_eq_getElem hi
      have := h2 _ ho
      rw [ho]
      simpa using this
def Step1 (P : Program) (ops : Array Oper) (Q : Exit → Act → World → Prop) (I : (Nat → Bool) → Act → World → Prop) (dep : Nat → List Nat) (i : Nat) : Prop :=
  ∀ L a w, L i = false → DepsHold L (dep i) → I L a w → wpOp P ops Q i (I (updL L i)) a w
theorem wpAny_inv {I : (Nat → Bool) → Act → World → Prop} {dep : Nat → List Nat} (n : Nat) (hn : ops.size = n) (hd : depOk ops dep = true)
    (step : StepsFrom (Step1 P ops Q I dep) 0 n) (fin : ∀ L a w, (∀ i, i < n → L i = true) → I L a w → Q .normal a w) :
    ∀ (k : Nat) (listed : Array Bool) (a : Act) (w : World), listed.size = n → listed.toList.count false = k → I (fun j => listed.getD j false) a w → wpAny P .any ops Q k listed a w := by
  subst hn
  have hdep : ∀ i o, ops[i]? = some o → (∀ d ∈ dep i, ∃ e ∈ o.after, Region.binds .any e = true ∧ e.on = d) ∧ (∀ e ∈ o.after, Region.binds .any e = true → e.on < i) := by
    intro i o ho
    have hi : i < ops.size := (Array.getElem?_eq_some_iff.1 ho).1
    have h := List.all_eq_true.1 hd i (List.mem_range.2 hi)
    rw [ho] at h
    simp only [Option.map_some, Option.getD_some, Bool.and_eq_true, List.all_eq_true, Array.any_eq_true', Array.all_eq_true', Bool.or_eq_true, Bool.not_eq_true', decide_eq_true_eq, beq_iff_eq] at h
    refine ⟨fun d hd => ?_, fun e he hb => ?_⟩
    · obtain ⟨e, he, h1, h2⟩ := h.1 d hd
      exact ⟨e, he, h1, h2⟩
    · rcases h.2 e he with h3 | h3
      · rw [hb] at h3; cases h3
      · exact h3
  intro k
  induction k with
  | zero =>
    intro listed a w hs hc hI
    have all : ∀ i, i < ops.size → listed.getD i false = true := by
      intro i hi
      have hl : i < listed.size := by omega
      rw [Array.getD_eq_getD_getElem?, Array.getElem?_eq_getElem hl]
      simp only [Option.getD_some]
      apply Classical.byContradiction
      intro hb
      have hm : listed[i] ∈ listed.toList := by simp
      rw [Bool.not_eq_true] at hb
      rw [hb] at hm
      have := List.count_pos_iff.2 hm
      omega
    refine ⟨?_, fin _ _ _ all hI⟩
    rw [List.eq_nil_iff_forall_not_mem]
    intro i hi
    obtain ⟨h1, h2, _⟩ := (ready_mem hs i).1 hi
    rw [all i h1] at h2
    cases h2
  | succ k ih =>
    intro listed a w hs hc hI
    refine ⟨fun h0 => ?_, fun i hi => ?_⟩
    · have all : ∀ m i, i < m → i < ops.size → listed.getD i false = true := by
        intro m
        induction m with
        | zero => intro i hi; omega
        | succ m ihm =>
          intro i him hi
          apply Classical.byContradiction
          intro hb
          rw [Bool.not_eq_true] at hb
          have hm : i ∈ Region.ready .any ops listed := by
            refine (ready_mem hs i).2 ⟨hi, hb, fun o ho => ?_⟩
            rw [Array.all_eq_true']
            intro e he
            cases hbe : Region.binds .any e
            · rfl
            · have := (hdep i o ho).2 e he hbe
              simp [ihm e.on (by omega) (by omega)]
          rw [h0] at hm
          cases hm
      exact fin _ _ _ (fun i hi => all (i + 1) i (by omega) hi) hI
    · obtain ⟨h1, h2, h3⟩ := (ready_mem hs i).1 hi
      have hst : Step1 P ops Q I dep (0 + i) := stepsFrom_at step i h1
      rw [Nat.zero_add] at hst
      have hl : i < listed.size := by omega
      refine wpOp_mono (fun a' w' hI' => ?_) (hst _ a w h2 (depsHold_of fun d hd => ?_) hI)
      · refine ih (listed.setIfInBounds i true) a' w' (by simpa using hs) ?_ ?_
        · have hf : listed[i] = false := by
            rw [Array.getD_eq_getD_getElem?, Array.getElem?_eq_getElem hl] at h2
            simpa using h2
          rw [Array.toList_setIfInBounds, List.count_set (by simpa using hl)]
          simp [hf, hc]
        · have e : (fun j => (listed.setIfInBounds i true).getD j false) = updL (fun j => listed.getD j false) i := by
            funext j
            unfold updL
            by_cases hj : j = i
            · subst hj
              rw [if_pos rfl, Array.getD_eq_getD_getElem?, Array.getElem?_setIfInBounds_self]
              simp [hl]
            · rw [if_neg hj, Array.getD_eq_getD_getElem?, Array.getElem?_setIfInBounds_ne (by omega)]
              exact (Array.getD_eq_getD_getElem? ..).symm
          rw [e]
          exact hI'
      · have ho : ops[i]? = some ops[i] := Array.getElem?_eq_getElem h1
        obtain ⟨e, he, hb, rfl⟩ := (hdep i _ ho).1 d hd
        have := Array.all_eq_true'.1 (h3 _ ho) e he
        rw [hb] at this
        simpa using this
theorem wpAny_begin {I : (Nat → Bool) → Act → World → Prop} {dep : Nat → List Nat} {a : Act} {w : World} (n : Nat) (hn : ops.size = n) (hd : depOk ops dep = true)
    (hI : I (fun _ => false) a w) (step : StepsFrom (Step1 P ops Q I dep) 0 n) (fin : ∀ L a w, (∀ i, i < n → L i = true) → I L a w → Q .normal a w) :
    wpAny P .any ops Q ops.size (Array.replicate ops.size false) a w := by
  refine wpAny_inv n hn hd step fin _ _ _ _ (by simp [hn]) (by simp) ?_
  have e : (fun j => (Array.replicate ops.size false).getD j false) = fun _ => false := by
    funext j
    rw [Array.getD_eq_getD_getElem?, Array.getElem?_replicate]
    split <;> rfl
  rw [e]
  exact hI
def StepsOn (S : Nat → Prop) : List Nat → Prop
  | [] => True
  | i :: r => S i ∧ StepsOn S r
theorem stepsOn_at {S : Nat → Prop} : ∀ {l : List Nat}, StepsOn S l → ∀ i ∈ l, S i
  | _ :: _, h, i, hi => by
    rcases List.mem_cons.1 hi with rfl | hi
    · exact h.1
    · exact stepsOn_at h.2 i hi
theorem stepsFrom_of {S : Nat → Prop} : ∀ (n k : Nat), (∀ i, k ≤ i → i < k + n → S i) → StepsFrom S k n
  | 0, _, _ => trivial
  | n + 1, k, h => ⟨h k (Nat.le_refl _) (by omega), stepsFrom_of n (k + 1) fun i h1 h2 => h i (by omega) (by omega)⟩
theorem wpAny_list {I : (Nat → Bool) → Act → World → Prop} {dep : Nat → List Nat} {a : Act} {w : World} {l : List Nat} (n : Nat) (hn : ops.size = n) (hl : List.range n = l) (hd : depOk ops dep = true)
    (hI : I (fun _ => false) a w) (step : StepsOn (Step1 P ops Q I dep) l) (fin : ∀ L a w, (∀ i, i < n → L i = true) → I L a w → Q .normal a w) :
    wpAny P .any ops Q ops.size (Array.replicate ops.size false) a w :=
  wpAny_begin n hn hd hI (stepsFrom_of n 0 fun i _ h => stepsOn_at step i (by rw [← hl, List.mem_range]; omega)) fin
end
end Go.Proofs.Ytoenojnfhiimpaa

namespace Go.Proofs.Ytoenojnfhiimpaa
open Go.RowKit

theorem Blk.set3 {w : World} {g : Nat} {t : TypeId} {p q r : Value} (h : Blk w g t #[p, q, r]) (a b c : Value) :
    Blk (((w.setCell ⟨g, 0, none⟩ a).setCell ⟨g, 1, none⟩ b).setCell ⟨g, 2, none⟩ c) g t #[a, b, c] := by
  simpa using ((h.set_ 0 a).set_ 1 b).set_ 2 c
theorem Blk.far3 {w : World} {g k : Nat} {t : TypeId} {cs : Array Value} (h : Blk w g t cs) (hk : g ≠ k) (a b c : Value) :
    Blk (((w.setCell ⟨k, 0, none⟩ a).setCell ⟨k, 1, none⟩ b).setCell ⟨k, 2, none⟩ c) g t cs := ((h.far hk a).far hk b).far hk c
theorem Blk.new2 {w : World} {g : Nat} {t : TypeId} {cs : Array Value} (hg : g = w.heap.size) : Blk (w.alloc (.cells cs t)) g t cs := by subst hg; exact Blk.new w t cs

/-- what a region keeps: all that lay before the call, and blocks of the call's own -/
def KL (Z : List (Nat × TypeId × Array Value)) (w W : World) : Prop := Below w.heap.size w W ∧ ∀ p ∈ Z, Blk W p.1 p.2.1 p.2.2
section
variable {Z : List (Nat × TypeId × Array Value)} {w W W' : World}
theorem KL.over (h : KL Z w W) (hb : Below W.heap.size W W') : KL Z w W' := ⟨h.1.trans (bmono hb h.1.size), fun p hp => (h.2 p hp).below hb (h.2 p hp).lt⟩
theorem KL.alloc (h : KL Z w W) (o : Obj) : KL Z w (W.alloc o) := ⟨Below.alloc h.1 h.1.size _, fun p hp => Blk.alloc (h.2 p hp) o⟩
theorem KL.drew (h : KL Z w W) : KL Z w W.drew := ⟨h.1.drew, fun p hp => (h.2 p hp).drew⟩
theorem KL.set (h : KL Z w W) {p : Addr} (hw : w.heap.size ≤ p.block) (hp : ∀ q ∈ Z, q.1 ≠ p.block) (u : Value) : KL Z w (W.setCell p u) := ⟨h.1.setCell hw u, fun q hq => (h.2 q hq).far (hp q hq) u⟩
theorem KL.set3 (h : KL Z w W) {g : Nat} (hw : w.heap.size ≤ g) (hp : ∀ q ∈ Z, q.1 ≠ g) (a b c : Value) : KL Z w (((W.setCell ⟨g, 0, none⟩ a).setCell ⟨g, 1, none⟩ b).setCell ⟨g, 2, none⟩ c) :=
  ((h.set (p := ⟨g, 0, none⟩) hw hp a).set (p := ⟨g, 1, none⟩) hw hp b).set (p := ⟨g, 2, none⟩) hw hp c
theorem KL.blk (h : KL Z w W) {g : Nat} {t : TypeId} {cs : Array Value} (hm : (g, t, cs) ∈ Z) : Blk W g t cs := h.2 _ hm
theorem KL.part {Y : List (Nat × TypeId × Array Value)} (h : KL Z w W) (hm : ∀ p ∈ Y, p ∈ Z) : KL Y w W := ⟨h.1, fun p hp => h.2 p (hm p hp)⟩
theorem KL.size (h : KL Z w W) {g : Nat} {t : TypeId} {cs : Array Value} (hm : (g, t, cs) ∈ Z) : g < W.heap.size := (h.blk hm).lt
end
end Go.Proofs.Ytoenojnfhiimpaa

namespace Go.Proofs.Ytoenojnfhiimpaa
open Go.RowKit

structure Kept (B : Nat) (K : World → Prop) : Prop where
  over : ∀ {W W'}, K W → Below W.heap.size W W' → K W'
  alloc : ∀ {W} (o : Obj), K W → K (W.alloc o)
  set : ∀ {W} {p : Addr}, K W → B ≤ p.block → ∀ u, K (W.setCell p u)
  size : ∀ {W}, K W → B ≤ W.heap.size
theorem keptKL {Z : List (Nat × TypeId × Array Value)} {w : World} {B : Nat} (hB : w.heap.size ≤ B) (hZ : ∀ q ∈ Z, q.1 < B) (hs : B = w.heap.size ∨ ∃ q ∈ Z, B = q.1 + 1) : Kept B (KL Z w) :=
  ⟨fun h hb => h.over hb, fun o h => h.alloc o, fun h hp u => h.set (Nat.le_trans hB hp) (fun q hq => by have := hZ q hq; omega) u, fun h => by
    rcases hs with rfl | ⟨q, hq, rfl⟩
    · exact h.1.size
    · exact (h.2 q hq).lt⟩
def OwnB (B : Nat) (T : TypeId) (u : Value) (W : World) (cs : Array Value) : Prop := ∃ g : Nat, u = .pointer (some ⟨g, 0, none⟩) ∧ B ≤ g ∧ Blk W g T cs
structure J2 (B : Nat) (K : World → Prop) (T : TypeId) (z0 cs1 cs2 : Array Value) (m1 m2 s1 s2 : Bool) (u1 u2 : Value) (W : World) : Prop where
  h4 : m1 = true → OwnB B T u1 W (if s1 then cs1 else z0)
  h5 : m2 = true → OwnB B T u2 W (if s2 then cs2 else z0)
  hn : m1 = true → m2 = true → u1 ≠ u2
  h6 : s1 = true → m1 = true
  h7 : s2 = true → m2 = true
  hk : K W
def TwoB (B : Nat) (T : TypeId) (cs1 cs2 : Array Value) (u1 u2 : Value) (W : World) : Prop :=
  ∃ g k : Nat, u1 = .pointer (some ⟨g, 0, none⟩) ∧ u2 = .pointer (some ⟨k, 0, none⟩) ∧ g ≠ k ∧ B ≤ g ∧ B ≤ k ∧ Blk W g T cs1 ∧ Blk W k T cs2
section
variable {B : Nat} {K : World → Prop} {T : TypeId} {z0 cs1 cs2 : Array Value} {m1 m2 s1 s2 : Bool} {u1 u2 : Value} {W W' : World}
theorem OwnB.over {u : Value} {cs : Array Value} (h : OwnB B T u W cs) (hb : Below W.heap.size W W') : OwnB B T u W' cs := by
  obtain ⟨g, e, hg, hB⟩ := h; exact ⟨g, e, hg, hB.below hb hB.lt⟩
theorem OwnB.alloc {u : Value} {cs : Array Value} (h : OwnB B T u W cs) (o : Obj) : OwnB B T u (W.alloc o) cs := by
  obtain ⟨g, e, hg, hB⟩ := h; exact ⟨g, e, hg, hB.alloc o⟩
theorem OwnB.ne {u : Value} {cs : Array Value} (h : OwnB B T u W cs) : u ≠ .pointer (some ⟨W.heap.size, 0, none⟩) := by
  obtain ⟨g, rfl, _, hB⟩ := h
  have := hB.lt
  intro e
  injection e with e; injection e with e; injection e with e
  omega
theorem J2.begin (hk : K W) : J2 B K T z0 cs1 cs2 false false false false u1 u2 W :=
  ⟨fun e => by simp at e, fun e => by simp at e, fun e => by simp at e, fun e => by simp at e, fun e => by simp at e, hk⟩
theorem J2.over (hK : Kept B K) (h : J2 B K T z0 cs1 cs2 m1 m2 s1 s2 u1 u2 W) (hb : Below W.heap.size W W') : J2 B K T z0 cs1 cs2 m1 m2 s1 s2 u1 u2 W' :=
  ⟨fun e => (h.h4 e).over hb, fun e => (h.h5 e).over hb, h.hn, h.h6, h.h7, hK.over h.hk hb⟩
theorem J2.alloc1 (hK : Kept B K) (hm : m1 = false) (h : J2 B K T z0 cs1 cs2 m1 m2 s1 s2 u1 u2 W) :
    J2 B K T z0 cs1 cs2 true m2 s1 s2 (.pointer (some ⟨W.heap.size, 0, none⟩)) u2 (W.alloc (.cells z0 T)) := by
  have h6 : s1 = false := by cases hb : s1 with | false => rfl | true => have := h.h6 hb; simp [hm] at this
  subst h6
  exact ⟨fun _ => ⟨_, rfl, hK.size h.hk, Blk.new2 rfl⟩, fun e => (h.h5 e).alloc _, fun _ e => ((h.h5 e).ne).symm, fun e => by simp at e, h.h7, hK.alloc _ h.hk⟩
theorem J2.alloc2 (hK : Kept B K) (hm : m2 = false) (h : J2 B K T z0 cs1 cs2 m1 m2 s1 s2 u1 u2 W) :
    J2 B K T z0 cs1 cs2 m1 true s1 s2 u1 (.pointer (some ⟨W.heap.size, 0, none⟩)) (W.alloc (.cells z0 T)) := by
  have h7 : s2 = false := by cases hb : s2 with | false => rfl | true => have := h.h7 hb; simp [hm] at this
  subst h7
  exact ⟨fun e => (h.h4 e).alloc _, fun _ => ⟨_, rfl, hK.size h.hk, Blk.new2 rfl⟩, fun e _ => (h.h4 e).ne, h.h6, fun e => by simp at e, hK.alloc _ h.hk⟩
/-- the store into the first block, said by what it does to the blocks -/
theorem J2.store1 {g : Nat} (hm1 : m1 = true) (hm2 : m2 = true) (h : J2 B K T z0 cs1 cs2 m1 m2 s1 s2 (.pointer (some ⟨g, 0, none⟩)) u2 W)
    (hnew : Blk W' g T cs1) (hfar : ∀ (k : Nat) (cs : Array Value), k ≠ g → Blk W k T cs → Blk W' k T cs) (hk' : K W') :
    J2 B K T z0 cs1 cs2 m1 m2 true s2 (.pointer (some ⟨g, 0, none⟩)) u2 W' := by
  obtain ⟨g', e, hB, hblk⟩ := h.h4 hm1
  injection e with e; injection e with e; injection e with e
  subst e
  refine ⟨fun _ => ⟨g, rfl, hB, by simpa using hnew⟩, fun e => ?_, h.hn, fun _ => hm1, h.h7, hk'⟩
  obtain ⟨k, rfl, hk, hkb⟩ := h.h5 hm2
  exact ⟨k, rfl, hk, hfar _ _ (fun e => h.hn hm1 hm2 (by rw [e])) hkb⟩
theorem J2.store2 {g : Nat} (hm1 : m1 = true) (hm2 : m2 = true) (h : J2 B K T z0 cs1 cs2 m1 m2 s1 s2 u1 (.pointer (some ⟨g, 0, none⟩)) W)
    (hnew : Blk W' g T cs2) (hfar : ∀ (k : Nat) (cs : Array Value), k ≠ g → Blk W k T cs → Blk W' k T cs) (hk' : K W') :
    J2 B K T z0 cs1 cs2 m1 m2 s1 true u1 (.pointer (some ⟨g, 0, none⟩)) W' := by
  obtain ⟨g', e, hB, hblk⟩ := h.h5 hm2
  injection e with e; injection e with e; injection e with e
  subst e
  refine ⟨fun e => ?_, fun _ => ⟨g, rfl, hB, by simpa using hnew⟩, h.hn, h.h6, fun _ => hm2, hk'⟩
  obtain ⟨k, rfl, hk, hkb⟩ := h.h4 hm1
  exact ⟨k, rfl, hk, hfar _ _ (fun e => h.hn hm1 hm2 (by rw [e])) hkb⟩
theorem J2.first (hm1 : m1 = true) (hs : s1 = false) (h : J2 B K T z0 cs1 cs2 m1 m2 s1 s2 u1 u2 W) : ∃ g : Nat, u1 = .pointer (some ⟨g, 0, none⟩) ∧ B ≤ g ∧ Blk W g T z0 := by
  obtain ⟨g, e, hg, hb⟩ := h.h4 hm1; exact ⟨g, e, hg, by simpa [hs] using hb⟩
theorem J2.second (hm2 : m2 = true) (hs : s2 = false) (h : J2 B K T z0 cs1 cs2 m1 m2 s1 s2 u1 u2 W) : ∃ g : Nat, u2 = .pointer (some ⟨g, 0, none⟩) ∧ B ≤ g ∧ Blk W g T z0 := by
  obtain ⟨g, e, hg, hb⟩ := h.h5 hm2; exact ⟨g, e, hg, by simpa [hs] using hb⟩
theorem J2.two (hm1 : m1 = true) (hm2 : m2 = true) (hs1 : s1 = true) (hs2 : s2 = true) (h : J2 B K T z0 cs1 cs2 m1 m2 s1 s2 u1 u2 W) : TwoB B T cs1 cs2 u1 u2 W ∧ K W := by
  obtain ⟨g, rfl, hg, hgb⟩ := h.h4 hm1
  obtain ⟨k, rfl, hk, hkb⟩ := h.h5 hm2
  exact ⟨⟨g, k, rfl, rfl, fun e => h.hn hm1 hm2 (by rw [e]), hg, hk, by simpa [hs1] using hgb, by simpa [hs2] using hkb⟩, h.hk⟩
end
theorem Blk.setq {w : World} {g : Nat} {t : TypeId} {p q r s : Value} (h : Blk w g t #[p, q, r, s]) (a b c d : Value) :
    Blk ((((w.setCell ⟨g, 0, none⟩ a).setCell ⟨g, 1, none⟩ b).setCell ⟨g, 2, none⟩ c).setCell ⟨g, 3, none⟩ d) g t #[a, b, c, d] := by
  simpa using (((h.set_ 0 a).set_ 1 b).set_ 2 c).set_ 3 d
theorem Blk.far4 {w : World} {g k : Nat} {t : TypeId} {cs : Array Value} (h : Blk w g t cs) (hk : g ≠ k) (a b c d : Value) :
    Blk ((((w.setCell ⟨k, 0, none⟩ a).setCell ⟨k, 1, none⟩ b).setCell ⟨k, 2, none⟩ c).setCell ⟨k, 3, none⟩ d) g t cs := (((h.far hk a).far hk b).far hk c).far hk d
theorem blk4 {w : World} {g : Nat} {t : TypeId} {a b c d : Value} (h : Blk w g t #[a, b, c, d]) :
    w.cell? ⟨g, 0, none⟩ = some a ∧ w.cell? ⟨g, 1, none⟩ = some b ∧ w.cell? ⟨g, 2, none⟩ = some c ∧ w.cell? ⟨g, 3, none⟩ = some d := ⟨h.cell 0, h.cell 1, h.cell 2, h.cell 3⟩
theorem blk6 {w : World} {g : Nat} {t : TypeId} {a b c d e f : Value} (h : Blk w g t #[a, b, c, d, e, f]) :
    w.cell? ⟨g, 0, none⟩ = some a ∧ w.cell? ⟨g, 1, none⟩ = some b ∧ w.cell? ⟨g, 2, none⟩ = some c ∧ w.cell? ⟨g, 3, none⟩ = some d ∧ w.cell? ⟨g, 4, none⟩ = some e ∧ w.cell? ⟨g, 5, none⟩ = some f := ⟨h.cell 0, h.cell 1, h.cell 2, h.cell 3, h.cell 4, h.cell 5⟩
end Go.Proofs.Ytoenojnfhiimpaa

namespace Go.Proofs.Ytoenojnfhiimpaa
open Go.RowKit

def updF (f : Nat → Value) (i : Nat) (v : Value) : Nat → Value := fun j => if j = i then v else f j
def DepsVal (f vals : Nat → Value) : List Nat → Prop
  | [] => True
  | d :: r => f d = vals d ∧ DepsVal f vals r
theorem depsVal_of {f vals : Nat → Value} : ∀ {l : List Nat}, (∀ d ∈ l, f d = vals d) → DepsVal f vals l
  | [], _ => trivial
  | d :: _, h => ⟨h d (by simp), depsVal_of fun e he => h e (by simp [he])⟩
def subF (f vals : Nat → Value) : List Nat → Nat → Value
  | [] => f
  | d :: r => fun j => if j = d then vals j else subF f vals r j
theorem subF_eq {f vals : Nat → Value} : ∀ {l : List Nat}, DepsVal f vals l → subF f vals l = f
  | [], _ => rfl
  | d :: r, h => by
    funext j
    show (if j = d then vals j else subF f vals r j) = f j
    rw [subF_eq h.2]
    by_cases e : j = d
    · subst e; rw [if_pos rfl]; exact h.1.symm
    · rw [if_neg e]
theorem depsHold_at {L : Nat → Bool} : ∀ {l : List Nat}, DepsHold L l → ∀ d ∈ l, L d = true
  | _ :: _, h, d, hd => by
    rcases List.mem_cons.1 hd with rfl | hd
    · exact h.1
    · exact depsHold_at h.2 d hd
def kdOk (n : Nat) (ss : List Nat) (kd : Nat → Nat) (dep dv : Nat → List Nat) : Bool :=
  ((List.range n).all fun i => (dv i).all fun d => (dep i).contains d) && decide ss.Nodup && (ss.all fun s => decide (s < n)) && ((List.range n).all fun i => match kd i with
    | 0 => !ss.contains i
    | 1 => !ss.contains i && (match ss with | [] => true | s :: _ => (dep s).contains i)
    | t + 2 => decide (t < ss.length) && decide (ss.getD t 0 = i)) && (List.range (ss.length - 1)).all fun t => (dep (ss.getD (t + 1) 0)).contains (ss.getD t 0)
theorem getD_inj {ss : List Nat} (h : ss.Nodup) {p q : Nat} (hp : p < ss.length) (hq : q < ss.length) (e : ss.getD p 0 = ss.getD q 0) : p = q := by
  rw [List.getD_eq_getElem?_getD, List.getD_eq_getElem?_getD, List.getElem?_eq_getElem hp, List.getElem?_eq_getElem hq] at e
  simp only [Option.getD_some] at e
  rcases Nat.lt_trichotomy p q with h1 | h1 | h1
  · exact absurd e (List.pairwise_iff_getElem.1 h p q hp hq h1)
  · exact h1
  · exact absurd e.symm (List.pairwise_iff_getElem.1 h q p hq hp h1)
theorem getD_mem {ss : List Nat} {p : Nat} (hp : p < ss.length) : ss.getD p 0 ∈ ss := by
  rw [List.getD_eq_getElem?_getD, List.getElem?_eq_getElem hp]
  simp

section
variable {P : Program} {ops : Array Oper} {Q : Exit → Act → World → Prop}
/-- one operation: at any stage without a change of memory, with what holds at all of them (0), ahead of the stores (1), or the store number k - 2 -/
def StepG (P : Program) (ops : Array Oper) (Q : Exit → Act → World → Prop) (fr : (Nat → Value) → Array Value) (vals : Nat → Value) (Kf : World → Prop) (K : Nat → World → Prop) (dv : Nat → List Nat) (kd : Nat → Nat) (i : Nat) : Prop :=
  match kd i with
  | 0 => ∀ f W, Kf W → wpOp P ops Q i (fun a w => a = ⟨fr (updF (subF f vals (dv i)) i (vals i)), []⟩ ∧ w = W) ⟨fr (subF f vals (dv i)), []⟩ W
  | 1 => ∀ f W, K 0 W → wpOp P ops Q i (fun a w => a = ⟨fr (updF (subF f vals (dv i)) i (vals i)), []⟩ ∧ K 0 w) ⟨fr (subF f vals (dv i)), []⟩ W
  | t + 2 => ∀ f W, K t W → wpOp P ops Q i (fun a w => a = ⟨fr (updF (subF f vals (dv i)) i (vals i)), []⟩ ∧ K (t + 1) w) ⟨fr (subF f vals (dv i)), []⟩ W
def InvG (fr : (Nat → Value) → Array Value) (vals : Nat → Value) (K : Nat → World → Prop) (dep : Nat → List Nat) (ss : List Nat) (L : Nat → Bool) (a : Act) (W : World) : Prop :=
  (∀ j d, L j = true → d ∈ dep j → L d = true) ∧ ∃ f t, a = ⟨fr f, []⟩ ∧ (∀ j, L j = true → f j = vals j) ∧ (∀ q, q < ss.length → (L (ss.getD q 0) = true ↔ q < t)) ∧ t ≤ ss.length ∧ K t W
theorem upd_true {L : Nat → Bool} {i j : Nat} (h : L j = true) : updL L i j = true := by unfold updL; split <;> simp [h]
theorem upd_self {L : Nat → Bool} {i : Nat} : updL L i i = true := by simp [updL]
theorem upd_ne {L : Nat → Bool} {i j : Nat} (h : j ≠ i) : updL L i j = L j := by simp [updL, h]
theorem updF_self {f : Nat → Value} {i : Nat} {v : Value} : updF f i v i = v := by simp [updF]
theorem updF_ne {f : Nat → Value} {i j : Nat} {v : Value} (h : j ≠ i) : updF f i v j = f j := by simp [updF, h]
theorem closed_upd {dep : Nat → List Nat} {L : Nat → Bool} {i : Nat} (hc : ∀ j d, L j = true → d ∈ dep j → L d = true) (hd : ∀ d ∈ dep i, L d = true) : ∀ j d, updL L i j = true → d ∈ dep j → updL L i d = true := by
  intro j d hj hdj
  by_cases h : j = i
  · subst h; exact upd_true (hd d hdj)
  · rw [upd_ne h] at hj; exact upd_true (hc j d hj hdj)
theorem vals_upd {vals f : Nat → Value} {L : Nat → Bool} {i : Nat} (h : ∀ j, L j = true → f j = vals j) : ∀ j, updL L i j = true → updF f i (vals i) j = vals j := by
  intro j hj
  by_cases e : j = i
  · subst e; exact updF_self
  · rw [upd_ne e] at hj; rw [updF_ne e]; exact h j hj
theorem wpAny_vals {fr : (Nat → Value) → Array Value} {vals : Nat → Value} {Kf : World → Prop} {K : Nat → World → Prop} {dep dv : Nat → List Nat} {kd : Nat → Nat} {ss l : List Nat} {f0 : Nat → Value} {w : World} {A : Act} (n : Nat)
    (hn : ops.size = n) (hl : List.range n = l) (hd : depOk ops dep = true) (hk : kdOk n ss kd dep dv = true) (hK : K 0 w)
    (hKf : ∀ t W, t ≤ ss.length → K t W → Kf W)
    (step : StepsOn (StepG P ops Q fr vals Kf K dv kd) l)
    (hA : ∀ f, (∀ j, j < n → f j = vals j) → (⟨fr f, []⟩ : Act) = A)
    (fin : ∀ W, K ss.length W → Q .normal A W) :
    wpAny P .any ops Q ops.size (Array.replicate ops.size false) ⟨fr f0, []⟩ w := by
  unfold kdOk at hk
  simp only [Bool.and_eq_true, decide_eq_true_eq, List.all_eq_true, List.mem_range, List.contains_iff_mem] at hk
  obtain ⟨⟨⟨⟨hdv0, hnd⟩, hsn⟩, hki⟩, hch⟩ := hk
  refine wpAny_list (I := InvG fr vals K dep ss) (dep := dep) n hn hl hd ?_ ?_ ?_
  · exact ⟨fun j d h => by simp at h, f0, 0, rfl, fun j h => by simp at h, fun q _ => by simp, Nat.zero_le _, hK⟩
  · have all : ∀ i ∈ l, Step1 P ops Q (InvG fr vals K dep ss) dep i := by
      intro i hi
      have hin : i < n := by rw [← hl, List.mem_range] at hi; exact hi
      have hs := stepsOn_at step i hi
      have hki := hki i hin
      unfold StepG at hs
      rintro L a W hLi hdp ⟨hc, f, t, rfl, hv, hq, ht, hKt⟩
      have hdv : DepsVal f vals (dv i) := depsVal_of fun d hd => hv d (depsHold_at hdp d (hdv0 i hin d hd))
      have hsub := subF_eq hdv
      have hcu := closed_upd hc (depsHold_at hdp)
      have hvu := vals_upd (i := i) hv
      split at hs
      · rename_i hkd
        rw [hkd] at hki
        simp only [Bool.not_eq_true', ← Bool.not_eq_true, List.contains_iff_mem] at hki
        refine wpOp_mono (fun a' w' ⟨ha, hw⟩ => ?_) (hsub ▸ hs f W (hKf t W ht hKt))
        subst ha; subst hw
        refine ⟨hcu, _, t, rfl, hvu, fun q hqq => ?_, ht, hKt⟩
        rw [upd_ne (fun e => hki (by rw [← e]; exact getD_mem hqq))]
        exact hq q hqq
      · rename_i hkd
        rw [hkd] at hki
        simp only [Bool.and_eq_true, Bool.not_eq_true', ← Bool.not_eq_true, List.contains_iff_mem] at hki
        have ht0 : t = 0 := by
          rcases Nat.eq_zero_or_pos t with h0 | h0
          · exact h0
          · have hlen : 0 < ss.length := by omega
            have h1 := (hq 0 hlen).2 h0
            match ss, hki.2, hlen, h1 with
            | s :: _, h2, _, h1 =>
              have := hc s i (by simpa using h1) (by simpa using h2)
              rw [hLi] at this; cases this
        subst ht0
        refine wpOp_mono (fun a' w' ⟨ha, hw⟩ => ?_) (hsub ▸ hs f W hKt)
        subst ha
        refine ⟨hcu, _, 0, rfl, hvu, fun q hqq => ?_, Nat.zero_le _, hw⟩
        rw [upd_ne (fun e => hki.1 (by rw [← e]; exact getD_mem hqq))]
        exact hq q hqq
      · rename_i τ hkd
        rw [hkd] at hki
        simp only [Bool.and_eq_true, decide_eq_true_eq] at hki
        obtain ⟨hτ, rfl⟩ := hki
        have h1 : t ≤ τ := by
          rcases Nat.lt_or_ge τ t with h | h
          · have := (hq τ hτ).2 h; rw [hLi] at this; cases this
          · exact h
        have h2 : t = τ := by
          rcases Nat.eq_zero_or_pos τ with h0 | h0
          · omega
          · have hm := hch (τ - 1) (by omega)
            rw [show τ - 1 + 1 = τ by omega] at hm
            have := (hq (τ - 1) (by omega)).1 (depsHold_at hdp _ hm)
            omega
        subst h2
        refine wpOp_mono (fun a' w' ⟨ha, hw⟩ => ?_) (hsub ▸ hs f W hKt)
        subst ha
        refine ⟨hcu, _, t + 1, rfl, hvu, fun q hqq => ?_, by omega, hw⟩
        by_cases e : q = t
        · subst e; simp [upd_self]
        · rw [upd_ne (fun e' => e (getD_inj hnd hqq hτ e')), hq q hqq]
          omega
    clear step
    have go : ∀ (m : List Nat), (∀ i ∈ m, i ∈ l) → StepsOn (Step1 P ops Q (InvG fr vals K dep ss) dep) m := by
      intro m
      induction m with
      | nil => intro _; trivial
      | cons i r ih => intro h; exact ⟨all i (h i (by simp)), ih fun j hj => h j (by simp [hj])⟩
    exact go l fun _ h => h
  · rintro L a W hall ⟨_, f, t, rfl, hv, hq, ht, hKt⟩
    have htl : t = ss.length := by
      rcases Nat.lt_or_ge t ss.length with h | h
      · have h3 := (hq t h).1 (hall _ (hsn _ (getD_mem h)))
        omega
      · omega
    subst htl
    rw [hA f fun j hj => hv j (hall j hj)]
    exact fin W hKt
end
end Go.Proofs.Ytoenojnfhiimpaa

namespace Go.Proofs.Ytoenojnfhiimpaa
open Go.RowKit

def ptrV (g : Nat) : Value := .pointer (some ⟨g, 0, none⟩)
def kdOkA (n : Nat) (ss al : List Nat) (sa : Nat → Nat) (kd : Nat → Nat) (dep dv : Nat → List Nat) : Bool :=
  decide ss.Nodup && (ss.all fun s => decide (s < n)) && (al.all fun a => decide (a < n)) && ((List.range n).all fun i => (dv i).all (fun d => (dep i).contains d && !al.contains d) && match kd i with
    | 0 => !ss.contains i && !al.contains i
    | 1 => !ss.contains i && !al.contains i
    | 2 => !ss.contains i && al.contains i && (match ss with | [] => true | s :: _ => (dep s).contains i)
    | t + 3 => decide (t < ss.length) && decide (ss.getD t 0 = i) && al.contains (sa t) && (dep i).contains (sa t) && !al.contains i) && (List.range (ss.length - 1)).all fun t => (dep (ss.getD (t + 1) 0)).contains (ss.getD t 0)
section
variable {P : Program} {ops : Array Oper} {Q : Exit → Act → World → Prop}
def StepA (P : Program) (ops : Array Oper) (Q : Exit → Act → World → Prop) (fr : (Nat → Value) → Array Value) (vals : Nat → Value) (K : World → Prop) (dv : Nat → List Nat) (kd sa : Nat → Nat) (B : Nat) (T : TypeId) (z : Array Value)
    (cont : Nat → Nat → Array Value) (i : Nat) : Prop :=
  match kd i with
  | 0 => ∀ f W, K W → wpOp P ops Q i (fun a w => a = ⟨fr (updF (subF f vals (dv i)) i (vals i)), []⟩ ∧ w = W) ⟨fr (subF f vals (dv i)), []⟩ W
  | 1 => ∀ f W, K W → wpOp P ops Q i (fun a w => a = ⟨fr (updF (subF f vals (dv i)) i (vals i)), []⟩ ∧ K w ∧ Below W.heap.size W w) ⟨fr (subF f vals (dv i)), []⟩ W
  | 2 => ∀ f W, wpOp P ops Q i (fun a w => a = ⟨fr (updF (subF f vals (dv i)) i (ptrV W.heap.size)), []⟩ ∧ w = W.alloc (.cells z T)) ⟨fr (subF f vals (dv i)), []⟩ W
  | t + 3 => ∀ f W g, K W → B ≤ g → Blk W g T (cont t (sa t)) → wpOp P ops Q i (fun a w => a = ⟨fr (updF (updF (subF f vals (dv i)) (sa t) (ptrV g)) i (vals i)), []⟩ ∧ K w ∧ w.heap.size = W.heap.size ∧ Blk w g T (cont (t + 1) (sa t)) ∧
      ∀ k cs, k ≠ g → Blk W k T cs → Blk w k T cs) ⟨fr (updF (subF f vals (dv i)) (sa t) (ptrV g)), []⟩ W
def InvA (fr : (Nat → Value) → Array Value) (vals : Nat → Value) (K : World → Prop) (dep : Nat → List Nat) (ss al : List Nat) (B : Nat) (T : TypeId) (cont : Nat → Nat → Array Value) (L : Nat → Bool) (a : Act) (W : World) : Prop :=
  (∀ j d, L j = true → d ∈ dep j → L d = true) ∧ ∃ f t, a = ⟨fr f, []⟩ ∧ (∀ j, L j = true → j ∉ al → f j = vals j) ∧ (∀ q, q < ss.length → (L (ss.getD q 0) = true ↔ q < t)) ∧ t ≤ ss.length ∧ K W ∧ B ≤ W.heap.size ∧
    (∀ j ∈ al, L j = true → ∃ g, f j = ptrV g ∧ B ≤ g ∧ Blk W g T (cont t j)) ∧ ∀ j ∈ al, ∀ k ∈ al, j ≠ k → L j = true → L k = true → f j ≠ f k
theorem ptrV_inj {g k : Nat} (h : ptrV g = ptrV k) : g = k := by unfold ptrV at h; injection h with h; injection h with h; injection h
theorem updF_same {f : Nat → Value} {i : Nat} {v : Value} (h : f i = v) : updF f i v = f := by
  funext j; unfold updF; by_cases e : j = i
  · subst e; rw [if_pos rfl]; exact h.symm
  · rw [if_neg e]
theorem wpAny_alloc {fr : (Nat → Value) → Array Value} {vals : Nat → Value} {K : World → Prop} {dep dv : Nat → List Nat} {kd sa : Nat → Nat} {ss al l : List Nat} {f0 : Nat → Value} {w : World} {B : Nat} {T : TypeId} {z : Array Value}
    {cont : Nat → Nat → Array Value} {A : (Nat → Nat) → Act} (n : Nat)
    (hn : ops.size = n) (hl : List.range n = l) (hd : depOk ops dep = true) (hk : kdOkA n ss al sa kd dep dv = true) (hK : K w) (hB : B ≤ w.heap.size)
    (hz : ∀ j ∈ al, cont 0 j = z) (hcs : ∀ t, t < ss.length → ∀ j ∈ al, j ≠ sa t → cont (t + 1) j = cont t j)
    (hKa : ∀ W, K W → K (W.alloc (.cells z T)))
    (step : StepsOn (StepA P ops Q fr vals K dv kd sa B T z cont) l)
    (hA : ∀ f g, (∀ j, j < n → j ∉ al → f j = vals j) → (∀ j ∈ al, f j = ptrV (g j)) → (⟨fr f, []⟩ : Act) = A g)
    (fin : ∀ W g, K W → (∀ j ∈ al, B ≤ g j ∧ Blk W (g j) T (cont ss.length j)) → (∀ j ∈ al, ∀ k ∈ al, j ≠ k → g j ≠ g k) → Q .normal (A g) W) :
    wpAny P .any ops Q ops.size (Array.replicate ops.size false) ⟨fr f0, []⟩ w := by
  unfold kdOkA at hk
  simp only [Bool.and_eq_true, decide_eq_true_eq, List.all_eq_true, List.mem_range, List.contains_iff_mem, Bool.not_eq_true', ← Bool.not_eq_true] at hk
  obtain ⟨⟨⟨⟨hnd, hsn⟩, han⟩, hki⟩, hch⟩ := hk
  refine wpAny_list (I := InvA fr vals K dep ss al B T cont) (dep := dep) n hn hl hd ?_ ?_ ?_
  · exact ⟨fun j d h => by simp at h, f0, 0, rfl, fun j h => by simp at h, fun q _ => by simp, Nat.zero_le _, hK, hB, fun j _ h => by simp at h, fun j _ k _ _ h => by simp at h⟩
  · have all : ∀ i ∈ l, Step1 P ops Q (InvA fr vals K dep ss al B T cont) dep i := by
      intro i hi
      have hin : i < n := by rw [← hl, List.mem_range] at hi; exact hi
      have hs := stepsOn_at step i hi
      obtain ⟨hdv, hki⟩ := hki i hin
      unfold StepA at hs
      rintro L a W hLi hdp ⟨hc, f, t, rfl, hv, hq, ht, hKW, hBW, hown, hdis⟩
      have hsub : subF f vals (dv i) = f := subF_eq (depsVal_of fun d hd => hv d (depsHold_at hdp d (hdv d hd).1) (hdv d hd).2)
      have hcu := closed_upd hc (depsHold_at hdp)
      have hvu : ∀ {v : Value}, (i ∈ al ∨ v = vals i) → ∀ j, updL L i j = true → j ∉ al → updF f i v j = vals j := by
        intro v hv' j hj hja
        by_cases e : j = i
        · subst e
          rcases hv' with h | h
          · exact absurd h hja
          · rw [updF_self, h]
        · rw [upd_ne e] at hj; rw [updF_ne e]; exact hv j hj hja
      have far : ∀ {v : Value}, i ∉ al → (∀ j ∈ al, ∀ k ∈ al, j ≠ k → updL L i j = true → updL L i k = true → updF f i v j ≠ updF f i v k) := by
        intro v hia j hj k hk hjk h1 h2
        have ej : j ≠ i := fun e => hia (e ▸ hj)
        have ek : k ≠ i := fun e => hia (e ▸ hk)
        rw [upd_ne ej] at h1; rw [upd_ne ek] at h2
        rw [updF_ne ej, updF_ne ek]
        exact hdis j hj k hk hjk h1 h2
      split at hs
      · rename_i hkd
        rw [hkd] at hki
        simp only [Bool.and_eq_true, Bool.not_eq_true', ← Bool.not_eq_true, List.contains_iff_mem] at hki
        refine wpOp_mono (fun a' w' ⟨ha, hw⟩ => ?_) (hsub ▸ hs f W hKW)
        subst ha; subst hw
        refine ⟨hcu, _, t, rfl, hvu (.inr rfl), fun q hqq => ?_, ht, hKW, hBW, fun j hj hL => ?_, far hki.2⟩
        · rw [upd_ne (fun e => hki.1 (by rw [← e]; exact getD_mem hqq))]
          exact hq q hqq
        · have ej : j ≠ i := fun e => hki.2 (e ▸ hj)
          rw [upd_ne ej] at hL; rw [updF_ne ej]
          exact hown j hj hL
      · rename_i hkd
        rw [hkd] at hki
        simp only [Bool.and_eq_true, Bool.not_eq_true', ← Bool.not_eq_true, List.contains_iff_mem] at hki
        refine wpOp_mono (fun a' w' ⟨ha, hw, hb⟩ => ?_) (hsub ▸ hs f W hKW)
        subst ha
        refine ⟨hcu, _, t, rfl, hvu (.inr rfl), fun q hqq => ?_, ht, hw, Nat.le_trans hBW hb.size, fun j hj hL => ?_, far hki.2⟩
        · rw [upd_ne (fun e => hki.1 (by rw [← e]; exact getD_mem hqq))]
          exact hq q hqq
        · have ej : j ≠ i := fun e => hki.2 (e ▸ hj)
          rw [upd_ne ej] at hL; rw [updF_ne ej]
          obtain ⟨g, e, hg, hblk⟩ := hown j hj hL
          exact ⟨g, e, hg, hblk.below hb hblk.lt⟩
      · rename_i hkd
        rw [hkd] at hki
        simp only [Bool.and_eq_true, Bool.not_eq_true', ← Bool.not_eq_true, List.contains_iff_mem] at hki
        obtain ⟨⟨his, hia⟩, hfst⟩ := hki
        have ht0 : t = 0 := by
          rcases Nat.eq_zero_or_pos t with h0 | h0
          · exact h0
          · have hlen : 0 < ss.length := by omega
            have h1 := (hq 0 hlen).2 h0
            match ss, hfst, hlen, h1 with
            | s :: _, h2, _, h1 =>
              have := hc s i (by simpa using h1) (by simpa using h2)
              rw [hLi] at this; cases this
        subst ht0
        refine wpOp_mono (fun a' w' ⟨ha, hw⟩ => ?_) (hsub ▸ hs f W)
        subst ha; subst hw
        refine ⟨hcu, _, 0, rfl, hvu (.inl hia), fun q hqq => ?_, ht, hKa W hKW, by simp; omega, fun j hj hL => ?_, fun j hj k hk hjk h1 h2 => ?_⟩
        · rw [upd_ne (fun e => his (by rw [← e]; exact getD_mem hqq))]
          exact hq q hqq
        · by_cases ej : j = i
          · subst ej
            rw [updF_self, hz j hj]
            exact ⟨_, rfl, hBW, Blk.new2 rfl⟩
          · rw [upd_ne ej] at hL; rw [updF_ne ej]
            obtain ⟨g, e, hg, hblk⟩ := hown j hj hL
            exact ⟨g, e, hg, hblk.alloc _⟩
        · by_cases ej : j = i
          · subst ej
            have ek : k ≠ j := fun e => hjk e.symm
            rw [upd_ne ek] at h2; rw [updF_self, updF_ne ek]
            obtain ⟨g, e, hg, hblk⟩ := hown k hk h2
            rw [e]
            intro e'
            have := ptrV_inj e'
            have := hblk.lt
            omega
          · by_cases ek : k = i
            · subst ek
              rw [upd_ne ej] at h1; rw [updF_self, updF_ne ej]
              obtain ⟨g, e, hg, hblk⟩ := hown j hj h1
              rw [e]
              intro e'
              have := ptrV_inj e'
              have := hblk.lt
              omega
            · rw [upd_ne ej] at h1; rw [upd_ne ek] at h2
              rw [updF_ne ej, updF_ne ek]
              exact hdis j hj k hk hjk h1 h2
      · rename_i τ hkd
        rw [hkd] at hki
        simp only [Bool.and_eq_true, decide_eq_true_eq, Bool.not_eq_true', ← Bool.not_eq_true, List.contains_iff_mem] at hki
        obtain ⟨⟨⟨⟨hτ, rfl⟩, hsa⟩, hsd⟩, hia⟩ := hki
        have h1 : t ≤ τ := by
          rcases Nat.lt_or_ge τ t with h | h
          · have := (hq τ hτ).2 h; rw [hLi] at this; cases this
          · exact h
        have h2 : t = τ := by
          rcases Nat.eq_zero_or_pos τ with h0 | h0
          · omega
          · have hm := hch (τ - 1) (by omega)
            rw [show τ - 1 + 1 = τ by omega] at hm
            have := (hq (τ - 1) (by omega)).1 (depsHold_at hdp _ hm)
            omega
        subst h2
        have hLa := depsHold_at hdp _ hsd
        obtain ⟨g, eg, hg, hblk⟩ := hown _ hsa hLa
        have hs' := hs f W g hKW hg hblk
        rw [hsub, updF_same eg] at hs'
        refine wpOp_mono (fun a' w' ⟨ha, hw, hsz, hnew, hfar⟩ => ?_) hs'
        subst ha
        refine ⟨hcu, _, t + 1, rfl, hvu (.inr rfl), fun q hqq => ?_, by omega, hw, by omega, fun j hj hL => ?_, far hia⟩
        · by_cases e : q = t
          · subst e; simp [upd_self]
          · rw [upd_ne (fun e' => e (getD_inj hnd hqq hτ e')), hq q hqq]
            omega
        · have ej : j ≠ ss.getD t 0 := fun e => hia (e ▸ hj)
          rw [upd_ne ej] at hL; rw [updF_ne ej]
          by_cases e : j = sa t
          · subst e; exact ⟨g, eg, hg, hnew⟩
          · obtain ⟨k, e', hk, hkb⟩ := hown j hj hL
            refine ⟨k, e', hk, ?_⟩
            rw [hcs t hτ j hj e]
            refine hfar k _ (fun e'' => ?_) hkb
            subst e''
            exact hdis j hj (sa t) hsa e hL hLa (e'.trans eg.symm)
    clear step
    have go : ∀ (m : List Nat), (∀ i ∈ m, i ∈ l) → StepsOn (Step1 P ops Q (InvA fr vals K dep ss al B T cont) dep) m := by
      intro m
      induction m with
      | nil => intro _; trivial
      | cons i r ih => intro h; exact ⟨all i (h i (by simp)), ih fun j hj => h j (by simp [hj])⟩
    exact go l fun _ h => h
  · rintro L a W hall ⟨_, f, t, rfl, hv, hq, ht, hKW, hBW, hown, hdis⟩
    have htl : t = ss.length := by
      rcases Nat.lt_or_ge t ss.length with h | h
      · have h3 := (hq t h).1 (hall _ (hsn _ (getD_mem h)))
        omega
      · omega
    subst htl
    have hch : ∀ j, ∃ g, j ∈ al → (f j = ptrV g ∧ B ≤ g ∧ Blk W g T (cont ss.length j)) := by
      intro j
      by_cases hj : j ∈ al
      · obtain ⟨g, h⟩ := hown j hj (hall j (han j hj)); exact ⟨g, fun _ => h⟩
      · exact ⟨0, fun h => absurd h hj⟩
    obtain ⟨g, hg⟩ := Classical.axiomOfChoice hch
    rw [hA f g (fun j hj hja => hv j (hall j hj) hja) (fun j hj => (hg j hj).1)]
    refine fin W g hKW (fun j hj => (hg j hj).2) fun j hj k hk hjk e => ?_
    refine hdis j hj k hk hjk (hall j (han j hj)) (hall k (han k hk)) ?_
    rw [(hg j hj).1, (hg k hk).1, e]
end
end Go.Proofs.Ytoenojnfhiimpaa

namespace Go.Proofs.Ytoenojnfhiimpaa
open Go.RowKit

theorem KL.st {Z Z' : List (Nat × TypeId × Array Value)} {w W : World} {g : Nat} {t : TypeId} {cs : Array Value} (h : KL Z w W) (hm : (g, t, cs) ∈ Z) (hw : w.heap.size ≤ g) (i : Nat) (u : Value)
    (hZ : ∀ q ∈ Z', q = (g, t, cs.setIfInBounds i u) ∨ (q ∈ Z ∧ q.1 ≠ g)) : KL Z' w (W.setCell ⟨g, i, none⟩ u) :=
  ⟨h.1.setCell hw u, fun q hq => by
    rcases hZ q hq with rfl | ⟨h1, h2⟩
    · exact (h.blk hm).set_ i u
    · exact (h.2 q h1).far h2 u⟩
theorem KL.nil (w : World) : KL [] w w := ⟨Below.refl _ _, fun q hq => by cases hq⟩
theorem KL.new {Z : List (Nat × TypeId × Array Value)} {w W : World} (h : KL Z w W) {g : Nat} (hg : g = W.heap.size) (t : TypeId) (cs : Array Value) : KL ((g, t, cs) :: Z) w (W.alloc (.cells cs t)) :=
  ⟨Below.alloc h.1 h.1.size _, fun q hq => by
    rcases List.mem_cons.1 hq with rfl | hq
    · exact Blk.new2 hg
    · exact (h.2 q hq).alloc _⟩
theorem KL.up {Z : List (Nat × TypeId × Array Value)} {w W W' : World} {g : Nat} {t : TypeId} {cs cs' : Array Value} (i : Nat) (h : KL Z w W) (hi : Z[i]? = some (g, t, cs)) (hne : ∀ q ∈ Z.eraseIdx i, q.1 ≠ g)
    (hb : Below w.heap.size w W') (hs : Blk W g t cs → Blk W' g t cs') (hf : ∀ k ty xs, k ≠ g → Blk W k ty xs → Blk W' k ty xs) : KL (Z.set i (g, t, cs')) w W' := by
  refine ⟨hb, fun q hq => ?_⟩
  have hil : i < Z.length := by
    rcases Nat.lt_or_ge i Z.length with h1 | h1
    · exact h1
    · rw [List.getElem?_eq_none h1] at hi; cases hi
  rw [List.mem_iff_getElem?] at hq
  obtain ⟨j, hj⟩ := hq
  rw [List.getElem?_set] at hj
  by_cases e : i = j
  · subst e
    rw [if_pos rfl, if_pos hil] at hj
    injection hj with hj
    subst hj
    exact hs (h.2 _ (List.mem_iff_getElem?.2 ⟨_, hi⟩))
  · rw [if_neg e] at hj
    have hm : q ∈ Z.eraseIdx i := by
      rw [List.mem_eraseIdx_iff_getElem?]
      exact ⟨j, fun e' => e e'.symm, hj⟩
    exact hf _ _ _ (hne q hm) (h.2 q (List.mem_iff_getElem?.2 ⟨j, hj⟩))
section
variable {Z : List (Nat × TypeId × Array Value)} {w W : World} {g : Nat} {t : TypeId} {a b c d e f a' b' c' d' e' f' : Value}
theorem KL.up1 {cs : Array Value} (i : Nat) (h : KL Z w W) (hi : Z[i]? = some (g, t, cs)) (hw : w.heap.size ≤ g) (hne : ∀ q ∈ Z.eraseIdx i, q.1 ≠ g) (o : Nat) (u : Value) : KL (Z.set i (g, t, cs.setIfInBounds o u)) w (W.setCell ⟨g, o, none⟩ u) :=
  h.up i hi hne (h.1.setCell hw u) (fun hb => hb.set_ o u) fun _ _ _ hk hb => hb.far hk u
theorem KL.up3 (i : Nat) (h : KL Z w W) (hi : Z[i]? = some (g, t, #[a, b, c])) (hw : w.heap.size ≤ g) (hne : ∀ q ∈ Z.eraseIdx i, q.1 ≠ g) :
    KL (Z.set i (g, t, #[a', b', c'])) w (((W.setCell ⟨g, 0, none⟩ a').setCell ⟨g, 1, none⟩ b').setCell ⟨g, 2, none⟩ c') :=
  h.up i hi hne (((h.1.setCell hw _).setCell hw _).setCell hw _) (fun hb => by simpa using ((hb.set_ 0 a').set_ 1 b').set_ 2 c') fun _ _ _ hk hb => ((hb.far hk _).far hk _).far hk _
theorem KL.up6 (i : Nat) (h : KL Z w W) (hi : Z[i]? = some (g, t, #[a, b, c, d, e, f])) (hw : w.heap.size ≤ g) (hne : ∀ q ∈ Z.eraseIdx i, q.1 ≠ g) :
    KL (Z.set i (g, t, #[a', b', c', d', e', f'])) w ((((((W.setCell ⟨g, 0, none⟩ a').setCell ⟨g, 1, none⟩ b').setCell ⟨g, 2, none⟩ c').setCell ⟨g, 3, none⟩ d').setCell ⟨g, 4, none⟩ e').setCell ⟨g, 5, none⟩ f') :=
  h.up i hi hne ((((((h.1.setCell hw _).setCell hw _).setCell hw _).setCell hw _).setCell hw _).setCell hw _) (fun hb => by simpa using (((((hb.set_ 0 a').set_ 1 b').set_ 2 c').set_ 3 d').set_ 4 e').set_ 5 f')
    fun _ _ _ hk hb => (((((hb.far hk _).far hk _).far hk _).far hk _).far hk _).far hk _
theorem KL.upL (i : Nat) (h : KL Z w W) (hi : Z[i]? = some (g, t, #[a, b, c, d, e, f])) (hw : w.heap.size ≤ g) (hne : ∀ q ∈ Z.eraseIdx i, q.1 ≠ g) :
    KL (Z.set i (g, t, #[a', b', c', d, e, f])) w (((W.setCell ⟨g, 0, none⟩ a').setCell ⟨g, 1, none⟩ b').setCell ⟨g, 2, none⟩ c') :=
  h.up i hi hne (((h.1.setCell hw _).setCell hw _).setCell hw _) (fun hb => by simpa using ((hb.set_ 0 a').set_ 1 b').set_ 2 c') fun _ _ _ hk hb => ((hb.far hk _).far hk _).far hk _
theorem KL.upH (i : Nat) (h : KL Z w W) (hi : Z[i]? = some (g, t, #[a, b, c, d, e, f])) (hw : w.heap.size ≤ g) (hne : ∀ q ∈ Z.eraseIdx i, q.1 ≠ g) :
    KL (Z.set i (g, t, #[a, b, c, d', e', f'])) w (((W.setCell ⟨g, 3, none⟩ d').setCell ⟨g, 4, none⟩ e').setCell ⟨g, 5, none⟩ f') :=
  h.up i hi hne (((h.1.setCell hw _).setCell hw _).setCell hw _) (fun hb => by simpa using ((hb.set_ 3 d').set_ 4 e').set_ 5 f') fun _ _ _ hk hb => ((hb.far hk _).far hk _).far hk _
theorem bl1 (h : Blk W g t #[a]) : g < W.heap.size ∧ W.cell? ⟨g, 0, none⟩ = some a := ⟨h.lt, h.cell 0⟩
theorem bl3 (h : Blk W g t #[a, b, c]) : g < W.heap.size ∧ W.cell? ⟨g, 0, none⟩ = some a ∧ W.cell? ⟨g, 1, none⟩ = some b ∧ W.cell? ⟨g, 2, none⟩ = some c := ⟨h.lt, h.cell 0, h.cell 1, h.cell 2⟩
theorem bl6 (h : Blk W g t #[a, b, c, d, e, f]) : g < W.heap.size ∧ W.cell? ⟨g, 0, none⟩ = some a ∧ W.cell? ⟨g, 1, none⟩ = some b ∧ W.cell? ⟨g, 2, none⟩ = some c ∧ W.cell? ⟨g, 3, none⟩ = some d ∧ W.cell? ⟨g, 4, none⟩ = some e ∧ W.cell? ⟨g, 5, none⟩ = some f :=
  ⟨h.lt, h.cell 0, h.cell 1, h.cell 2, h.cell 3, h.cell 4, h.cell 5⟩
end
end Go.Proofs.Ytoenojnfhiimpaa

namespace Go.Proofs.Ytoenojnfhiimpaa
open Go.RowKit

section
variable {Z : List (Nat × TypeId × Array Value)} {w W : World} {g : Nat} {t : TypeId} {a b c d e f a' b' c' d' e' f' : Value}
theorem KL.cons {cs : Array Value} (hb : Blk W g t cs) (h : KL Z w W) : KL ((g, t, cs) :: Z) w W := ⟨h.1, fun q hq => by
  rcases List.mem_cons.1 hq with rfl | hq
  · exact hb
  · exact h.2 q hq⟩
theorem st6 (h : KL Z w W) (hw : w.heap.size ≤ g) (hZ : ∀ q ∈ Z, q.1 ≠ g) (hb : Blk W g t #[a, b, c, d, e, f]) :
    KL Z w ((((((W.setCell ⟨g, 0, none⟩ a').setCell ⟨g, 1, none⟩ b').setCell ⟨g, 2, none⟩ c').setCell ⟨g, 3, none⟩ d').setCell ⟨g, 4, none⟩ e').setCell ⟨g, 5, none⟩ f') ∧
    ((((((W.setCell ⟨g, 0, none⟩ a').setCell ⟨g, 1, none⟩ b').setCell ⟨g, 2, none⟩ c').setCell ⟨g, 3, none⟩ d').setCell ⟨g, 4, none⟩ e').setCell ⟨g, 5, none⟩ f').heap.size = W.heap.size ∧
    Blk ((((((W.setCell ⟨g, 0, none⟩ a').setCell ⟨g, 1, none⟩ b').setCell ⟨g, 2, none⟩ c').setCell ⟨g, 3, none⟩ d').setCell ⟨g, 4, none⟩ e').setCell ⟨g, 5, none⟩ f') g t #[a', b', c', d', e', f'] ∧
    ∀ k cs, k ≠ g → Blk W k t cs → Blk ((((((W.setCell ⟨g, 0, none⟩ a').setCell ⟨g, 1, none⟩ b').setCell ⟨g, 2, none⟩ c').setCell ⟨g, 3, none⟩ d').setCell ⟨g, 4, none⟩ e').setCell ⟨g, 5, none⟩ f') k t cs :=
  ⟨(((((h.set (p := ⟨g, 0, none⟩) hw hZ _).set (p := ⟨g, 1, none⟩) hw hZ _).set (p := ⟨g, 2, none⟩) hw hZ _).set (p := ⟨g, 3, none⟩) hw hZ _).set (p := ⟨g, 4, none⟩) hw hZ _).set (p := ⟨g, 5, none⟩) hw hZ _, by simp,
   by simpa using (((((hb.set_ 0 a').set_ 1 b').set_ 2 c').set_ 3 d').set_ 4 e').set_ 5 f', fun _ _ hk hb => (((((hb.far hk _).far hk _).far hk _).far hk _).far hk _).far hk _⟩
theorem st3 (h : KL Z w W) (hw : w.heap.size ≤ g) (hZ : ∀ q ∈ Z, q.1 ≠ g) (hb : Blk W g t #[a, b, c]) :
    KL Z w (((W.setCell ⟨g, 0, none⟩ a').setCell ⟨g, 1, none⟩ b').setCell ⟨g, 2, none⟩ c') ∧ (((W.setCell ⟨g, 0, none⟩ a').setCell ⟨g, 1, none⟩ b').setCell ⟨g, 2, none⟩ c').heap.size = W.heap.size ∧
    Blk (((W.setCell ⟨g, 0, none⟩ a').setCell ⟨g, 1, none⟩ b').setCell ⟨g, 2, none⟩ c') g t #[a', b', c'] ∧
    ∀ k cs, k ≠ g → Blk W k t cs → Blk (((W.setCell ⟨g, 0, none⟩ a').setCell ⟨g, 1, none⟩ b').setCell ⟨g, 2, none⟩ c') k t cs :=
  ⟨((h.set (p := ⟨g, 0, none⟩) hw hZ _).set (p := ⟨g, 1, none⟩) hw hZ _).set (p := ⟨g, 2, none⟩) hw hZ _, by simp, by simpa using ((hb.set_ 0 a').set_ 1 b').set_ 2 c', fun _ _ hk hb => ((hb.far hk _).far hk _).far hk _⟩
end
end Go.Proofs.Ytoenojnfhiimpaa

namespace Go.Proofs.Ytoenojnfhiimpaa
open Go.RowKit

section
variable {Z : List (Nat × TypeId × Array Value)} {w W W' : World} {base n size : Nat} {e : TypeId} {v : Value} {xs : List Value}
theorem own_below (h : W.ownsRow base e size v n xs) (hb : Below W.heap.size W W') : W'.ownsRow base e size v n xs := by
  refine ⟨h.1, h.2.imp id ?_⟩
  rintro ⟨g, cap, cur, rfl, h1, hh, r⟩
  have hlt : g < W.heap.size := by
    rcases Nat.lt_or_ge g W.heap.size with hlt | hge
    · exact hlt
    · rw [Array.getElem?_eq_none hge] at hh; cases hh
  exact ⟨g, cap, cur, rfl, h1, (hb.block g hlt).trans hh, r⟩
theorem own_slice (h : W.ownsRow base e size v n xs) : ∃ A c, v = .slice A n c ∧ Reads W W.heap.size size A n xs := by
  rcases h.2 with ⟨rfl, rfl⟩ | ⟨g, cap, cur, rfl, _⟩
  · exact ⟨none, 0, rfl, Reads.of_own h⟩
  · exact ⟨_, _, rfl, Reads.of_own h⟩
theorem KL.grown {row : Option Nat} (h : KL Z w W) (hg : W.grownBy W' row) (hr : ∀ g, row = some g → base ≤ g) (hZ : ∀ q ∈ Z, q.1 < base) (hw : w.heap.size ≤ base) : KL Z w W' :=
  ⟨h.1.grown hg h.1.size (fun k hk => Nat.le_trans hw (hr k hk)), fun q hq => (h.2 q hq).grown hg fun e => by have := hr _ e.symm; have := hZ q hq; omega⟩
theorem reads_new {g : Nat} {t : TypeId} {cs : Array Value} {m : Nat} (hb : Blk W g t cs) (hs : cs.size = m * size) {B : Nat} (hB : g < B) : Reads W B size (some ⟨g, 0, none⟩) m cs.toList :=
  ⟨by simpa using hs, fun _ => ⟨_, rfl, hB, fun j u hu => by
    have e : (⟨g, 0, none⟩ : Addr).add j = ⟨g, j, none⟩ := by unfold Addr.add; by_cases hj : j = 0 <;> simp [hj]
    rw [e, hb.cell j]
    simpa using hu⟩⟩
theorem reads_blk {g : Nat} {t : TypeId} {cur : Array Value} {m : Nat} (hb : Blk W g t cur) (hl : xs.length = m * size) (htk : cur.toList.take (m * size) = xs) {B : Nat} (hB : g < B) : Reads W B size (some ⟨g, 0, none⟩) m xs :=
  ⟨hl, fun _ => ⟨_, rfl, hB, fun j u hu => by
    have e : (⟨g, 0, none⟩ : Addr).add j = ⟨g, j, none⟩ := by unfold Addr.add; by_cases hj : j = 0 <;> simp [hj]
    rw [e, hb.cell j]
    rw [← htk, List.getElem?_take] at hu
    split at hu
    · simpa using hu
    · cases hu⟩⟩
end
section
variable {Z : List (Nat × TypeId × Array Value)} {w0 : World}
theorem wpList_append_kl {P : Program} {w : World} {ops : Array Oper} {rest : List Oper} {o : Oper} {a : Act} {Q : Exit → Act → World → Prop} (hgd : o.guard = none) (s x : Operand) (t : TypeId)
    (ho : o.op = .call { callee := .builtin .append, args := #[s, x], argTypes := #[t, t] })
    (base : Nat) (e : TypeId) (i : TypeInfo) (z : Value) (size bytes : Nat) (ht : P.underlying t = some (.slice e)) (hi : P.info? e = some i) (hz : i.zero = some z)
    (hsize : i.size = size) (hby : i.bytes = bytes) (hzs : z.cells.size = size) (hsz : 0 < size)
    (v : Value) (n : Nat) (xs : List Value) (hs : a.eval s = v) (hown : w.ownsRow base e size v n xs)
    (B : Nat) (A : Option Addr) (m c : Nat) (news : List Value) (hx : a.eval x = .slice A m c) (hr : Reads w B size A m news) (h1 : ∀ u ∈ news, u.oneCell' = true)
    (N : Nat) (ys : List Value) (hN : N = n + m) (hys : ys = xs ++ news)
    (h63 : N ≤ maxLen) (hbytes : N * bytes ≤ 140737488355328) (hkl : KL Z w0 w) (hZ : ∀ q ∈ Z, q.1 < base) (hw : w0.heap.size ≤ base) (hbase : base ≤ w.heap.size)
    (h : ∀ A' c' w', w'.ownsRow base e size (.slice A' N c') N ys → KL Z w0 w' → w.heap.size ≤ w'.heap.size → wpList P ops Q rest (a.put o.dst (.slice A' N c')) w') : wpList P ops Q (o :: rest) a w := by
  subst hN hys
  refine wpList_append_any w hgd s x t ho base e i z size bytes ht hi hz hsize hby hzs hsz v n xs hs hown B A m c news hx hr h1 h63 hbytes hbase ?_
  intro v' w' hown' hg _
  obtain ⟨A', c', rfl, hr'⟩ := own_slice hown'
  exact h A' c' w' hown' (hkl.grown hg (fun k hk => (hown.lt k hk).1) hZ hw) hg.size
end
/-- a row of the call's own that begins at the head of a block -/
def RowA (w : World) (size : Nat) (A : Option Addr) (n : Nat) (xs : List Value) : Prop :=
  xs.length = n * size ∧ (0 < n → ∃ g, A = some ⟨g, 0, none⟩ ∧ g < w.heap.size ∧ ∀ j u, xs[j]? = some u → w.cell? ⟨g, j, none⟩ = some u)
theorem add_head (g j : Nat) : (⟨g, 0, none⟩ : Addr).add j = ⟨g, j, none⟩ := by unfold Addr.add; by_cases hj : j = 0 <;> simp [hj]
theorem RowA.of_own {w : World} {base n size c : Nat} {e : TypeId} {A : Option Addr} {xs : List Value} (h : w.ownsRow base e size (.slice A n c) n xs) : RowA w size A n xs :=
  ⟨h.1, fun hn => by
    obtain ⟨g, cap, hv, _, hlt⟩ := h.form hn
    have hA : A = some ⟨g, 0, none⟩ := by injection hv
    subst hA
    refine ⟨g, rfl, hlt, fun j u hu => ?_⟩
    have := h.cells (g := g) rfl j u hu
    rwa [add_head] at this⟩
theorem RowA.of_blk {w : World} {g n size : Nat} {t : TypeId} {cur : Array Value} {xs : List Value} (hb : Blk w g t cur) (hl : xs.length = n * size) (htk : cur.toList.take (n * size) = xs) : RowA w size (some ⟨g, 0, none⟩) n xs :=
  ⟨hl, fun _ => ⟨g, rfl, hb.lt, fun j u hu => by
    rw [hb.cell j]
    rw [← htk, List.getElem?_take] at hu
    split at hu
    · simpa using hu
    · cases hu⟩⟩
theorem RowA.drew {w : World} {size n : Nat} {A : Option Addr} {xs : List Value} (h : RowA w size A n xs) : RowA w.drew size A n xs := h
theorem RowA.below {w w' : World} {size n : Nat} {A : Option Addr} {xs : List Value} (h : RowA w size A n xs) (hb : Below w.heap.size w w') : RowA w' size A n xs :=
  ⟨h.1, fun hn => by
    obtain ⟨g, e, hg, hc⟩ := h.2 hn
    exact ⟨g, e, Nat.lt_of_lt_of_le hg hb.size, fun j u hu => (hb.cell (p := ⟨g, j, none⟩) hg).trans (hc j u hu)⟩⟩
theorem RowA.alloc {w : World} {size n : Nat} {A : Option Addr} {xs : List Value} (h : RowA w size A n xs) (o : Obj) : RowA (w.alloc o) size A n xs := h.below ((Below.refl _ _).alloc (Nat.le_refl _) o)
/-- the first k pieces of a row -/
def rowTo (mk : Nat → List Value) (k : Nat) : List Value := (List.range k).flatMap mk
theorem rowTo_zero (mk : Nat → List Value) : rowTo mk 0 = [] := rfl
theorem rowTo_succ (mk : Nat → List Value) (k : Nat) : rowTo mk (k + 1) = rowTo mk k ++ mk k := by
  unfold rowTo; rw [List.range_succ, List.flatMap_append]; simp
theorem rowTo_len {mk : Nat → List Value} {s : Nat} (h : ∀ i, (mk i).length = s) (k : Nat) : (rowTo mk k).length = k * s := by
  induction k with
  | zero => simp [rowTo_zero]
  | succ k ih => rw [rowTo_succ, List.length_append, ih, h, Nat.succ_mul]
theorem rowTo_at {mk : Nat → List Value} {s : Nat} (h : ∀ i, (mk i).length = s) {k i j : Nat} (hi : i < k) (hj : j < s) : (rowTo mk k)[i * s + j]? = (mk i)[j]? := by
  induction k with
  | zero => omega
  | succ k ih =>
    rw [rowTo_succ]
    by_cases e : i < k
    · have hl : i * s + j < (rowTo mk k).length := by
        rw [rowTo_len h]
        have : (i + 1) * s ≤ k * s := Nat.mul_le_mul_right s e
        rw [Nat.succ_mul] at this
        omega
      rw [List.getElem?_append_left hl, ih e]
    · have e' : i = k := by omega
      subst e'
      rw [List.getElem?_append_right (by rw [rowTo_len h]; omega), rowTo_len h]
      congr 1
      omega
end Go.Proofs.Ytoenojnfhiimpaa

namespace Go.Proofs.Ytoenojnfhiimpaa
open Go.RowKit
section
variable {Z : List (Nat × TypeId × Array Value)} {w W : World} {g : Nat} {t : TypeId} {a b a' b' : Value}
theorem KL.base (h : KL Z w W) : KL Z W W := ⟨Below.refl _ _, h.2⟩
theorem KL.up2 (i : Nat) (h : KL Z w W) (hi : Z[i]? = some (g, t, #[a, b])) (hw : w.heap.size ≤ g) (hne : ∀ q ∈ Z.eraseIdx i, q.1 ≠ g) :
    KL (Z.set i (g, t, #[a', b'])) w ((W.setCell ⟨g, 0, none⟩ a').setCell ⟨g, 1, none⟩ b') :=
  h.up i hi hne ((h.1.setCell hw _).setCell hw _) (fun hb => by simpa using (hb.set_ 0 a').set_ 1 b') fun _ _ _ hk hb => (hb.far hk _).far hk _
theorem bl2 (h : Blk W g t #[a, b]) : g < W.heap.size ∧ W.cell? ⟨g, 0, none⟩ = some a ∧ W.cell? ⟨g, 1, none⟩ = some b := ⟨h.lt, h.cell 0, h.cell 1⟩
theorem st2 (h : KL Z w W) (hw : w.heap.size ≤ g) (hZ : ∀ q ∈ Z, q.1 ≠ g) (hb : Blk W g t #[a, b]) :
    KL Z w ((W.setCell ⟨g, 0, none⟩ a').setCell ⟨g, 1, none⟩ b') ∧ ((W.setCell ⟨g, 0, none⟩ a').setCell ⟨g, 1, none⟩ b').heap.size = W.heap.size ∧
    Blk ((W.setCell ⟨g, 0, none⟩ a').setCell ⟨g, 1, none⟩ b') g t #[a', b'] ∧
    ∀ k cs, k ≠ g → Blk W k t cs → Blk ((W.setCell ⟨g, 0, none⟩ a').setCell ⟨g, 1, none⟩ b') k t cs :=
  ⟨(h.set (p := ⟨g, 0, none⟩) hw hZ _).set (p := ⟨g, 1, none⟩) hw hZ _, by simp, by simpa using (hb.set_ 0 a').set_ 1 b', fun _ _ hk hb => (hb.far hk _).far hk _⟩
end
section
variable {Z : List (Nat × TypeId × Array Value)} {w0 : World}
theorem KL.grown2 {w W W' : World} {row : Option Nat} (h : KL Z w W) (hg : W.grownBy W' row) (hr : ∀ g,row = some g → w.heap.size ≤ g) (hZ : ∀ q ∈ Z,some q.1 ≠ row) : KL Z w W' :=
 ⟨h.1.grown hg h.1.size (fun k hk => hr k hk),fun q hq => (h.2 q hq).grown hg fun e => hZ q hq e⟩
theorem wpList_append_ke {P : Program} {w : World} {ops : Array Oper} {rest : List Oper} {o : Oper} {a : Act} {Q : Exit → Act → World → Prop} (hgd : o.guard = none) (s x : Operand) (t : TypeId)
  (ho : o.op = .call { callee := .builtin .append,args := #[s,x],argTypes := #[t,t] })
  (base : Nat) (e : TypeId) (i : TypeInfo) (z : Value) (size bytes : Nat) (ht : P.underlying t = some (.slice e)) (hi : P.info? e = some i) (hz : i.zero = some z)
  (hsize : i.size = size) (hby : i.bytes = bytes) (hzs : z.cells.size = size) (hsz : 0 < size)
  (v : Value) (n : Nat) (xs : List Value) (hs : a.eval s = v) (hown : w.ownsRow base e size v n xs)
  (B : Nat) (A : Option Addr) (m c : Nat) (news : List Value) (hx : a.eval x = .slice A m c) (hr : Reads w B size A m news) (h1 : ∀ u ∈ news,u.oneCell' = true)
  (N : Nat) (ys : List Value) (hN : N = n + m) (hys : ys = xs ++ news)
  (h63 : N ≤ maxLen) (hbytes : N * bytes ≤ 140737488355328) (e0 B1 : Nat) (hat : ∀ k,v.ownBlock = some k → k = e0 ∨ B1 ≤ k) (hB1 : B1 ≤ w.heap.size) (hkl : KL Z w0 w) (hZ : ∀ q ∈ Z,q.1 ≠ e0 ∧ q.1 < B1) (hw : w0.heap.size ≤ base) (hbase : base ≤ w.heap.size)
  (h : ∀ A' c' w',w'.ownsRow base e size (.slice A' N c') N ys → (∀ k,(Value.slice A' N c').ownBlock = some k → k = e0 ∨ B1 ≤ k) → KL Z w0 w' → w.heap.size ≤ w'.heap.size → wpList P ops Q rest (a.put o.dst (.slice A' N c')) w') : wpList P ops Q (o :: rest) a w := by
 subst hN hys
 refine wpList_append_any w hgd s x t ho base e i z size bytes ht hi hz hsize hby hzs hsz v n xs hs hown B A m c news hx hr h1 h63 hbytes hbase ?_
 intro v' w' hown' hg hv
 obtain ⟨A',c',rfl,hr'⟩ := own_slice hown'
 refine h A' c' w' hown' (fun k hk => ?_) (hkl.grown2 hg (fun k hk => Nat.le_trans hw (hown.lt k hk).1) fun q hq hc => ?_) hg.size
 ·rcases hv with hv | hv
  ·exact hat k (hv ▸ hk)
  ·rw [hv] at hk; injection hk with hk; subst hk; exact .inr hB1
 ·have h2 := hat _ hc.symm
  have h3 := hZ q hq
  omega
end
theorem cur_at {cur : Array Value} {m : Nat} {xs : List Value} (h : cur.toList.take m = xs) {j : Nat} (hj : j < m) : cur[j]? = xs[j]? := by
 rw [← h,List.getElem?_take,if_pos hj]; simp
structure C3 (W : World) (g o : Nat) (a b c : Int) : Prop where
 mk ::
 lt : g < W.heap.size
 c0 : W.cell? ⟨g,o,none⟩ = some (.int .i64 a)
 c1 : W.cell? ⟨g,o + 1,none⟩ = some (.int .i64 b)
 c2 : W.cell? ⟨g,o + 2,none⟩ = some (.int .i64 c)
theorem C3.over {W W' : World} {g o : Nat} {a b c : Int} (h : C3 W g o a b c) (hb : Below W.heap.size W W') : C3 W' g o a b c := ⟨Nat.lt_of_lt_of_le h.lt hb.size,(hb.cell (p := ⟨g,o,none⟩) h.lt).trans h.c0,(hb.cell (p := ⟨g,o + 1,none⟩) h.lt).trans h.c1,(hb.cell (p := ⟨g,o + 2,none⟩) h.lt).trans h.c2⟩
theorem C3.drew {W : World} {g o : Nat} {a b c : Int} (h : C3 W g o a b c) : C3 W.drew g o a b c := ⟨h.lt,h.c0,h.c1,h.c2⟩
def AllInt (xs : List Value) : Prop := ∀ u ∈ xs,∃ z : Int,u = .int .i64 z
theorem AllInt.at {xs : List Value} (h : AllInt xs) {j : Nat} (hj : j < xs.length) : ∃ z : Int,xs[j]? = some (.int .i64 z) := by
 obtain ⟨z,hz⟩ := h xs[j] (List.getElem_mem hj)
 exact ⟨z,by rw [List.getElem?_eq_getElem hj,hz]⟩
structure C6 (W : World) (g o : Nat) (a b c d e f : Int) : Prop where
 mk ::
 lt : g < W.heap.size
 c0 : W.cell? ⟨g,o,none⟩ = some (.int .i64 a)
 c1 : W.cell? ⟨g,o + 1,none⟩ = some (.int .i64 b)
 c2 : W.cell? ⟨g,o + 2,none⟩ = some (.int .i64 c)
 c3 : W.cell? ⟨g,o + 3,none⟩ = some (.int .i64 d)
 c4 : W.cell? ⟨g,o + 4,none⟩ = some (.int .i64 e)
 c5 : W.cell? ⟨g,o + 5,none⟩ = some (.int .i64 f)
theorem C6.over {W W' : World} {g o : Nat} {a b c d e f : Int} (h : C6 W g o a b c d e f) (hb : Below W.heap.size W W') : C6 W' g o a b c d e f := ⟨Nat.lt_of_lt_of_le h.lt hb.size,(hb.cell (p := ⟨g,o,none⟩) h.lt).trans h.c0,(hb.cell (p := ⟨g,o + 1,none⟩) h.lt).trans h.c1,(hb.cell (p := ⟨g,o + 2,none⟩) h.lt).trans h.c2,(hb.cell (p := ⟨g,o + 3,none⟩) h.lt).trans h.c3,(hb.cell (p := ⟨g,o + 4,none⟩) h.lt).trans h.c4,(hb.cell (p := ⟨g,o + 5,none⟩) h.lt).trans h.c5⟩
theorem C6.drew {W : World} {g o : Nat} {a b c d e f : Int} (h : C6 W g o a b c d e f) : C6 W.drew g o a b c d e f := ⟨h.lt,h.c0,h.c1,h.c2,h.c3,h.c4,h.c5⟩
theorem allInt_rowTo {mk : Nat → List Value} (h : ∀ i,AllInt (mk i)) (n : Nat) : AllInt (rowTo mk n) := by
 intro u hu
 unfold rowTo at hu
 obtain ⟨i,_,hi⟩ := List.mem_flatMap.1 hu
 exact h i u hi
end Go.Proofs.Ytoenojnfhiimpaa
namespace Go.Proofs.Ytoenojnfhiimpaa
instance intVal : Coe Int Value := ⟨fun x => .int .i64 x⟩
end Go.Proofs.Ytoenojnfhiimpaa
