/- The law's comparison of two lists of cuts. -/
import Derived.Test.YtogmgaaejepcbaaCor
import Derived.Test.YtogmgaaejepcbaaApn
import Derived.Test.YtogmgaaejepcbaaReg
import Derived.Test.YtogmgaaejepcbaaSm2
import Derived.Test.YtogmgaaejepcbaaEqc
import Derived.Test.YtogmgaaejepcbaaSlm
namespace Go.Proofs.Ytogmgaaejepcbaa
open Go.RowKit

structure C3 (W : World) (g o : Nat) (a b c : Int) : Prop where
 mk ::
 lt : g < W.heap.size
 c0 : W.cell? ⟨g,o,none⟩ = some (.int .i64 a)
 c1 : W.cell? ⟨g,o + 1,none⟩ = some (.int .i64 b)
 c2 : W.cell? ⟨g,o + 2,none⟩ = some (.int .i64 c)
theorem C3.over {W W' : World} {g o : Nat} {a b c : Int} (h : C3 W g o a b c) (hb : Below W.heap.size W W') : C3 W' g o a b c := ⟨Nat.lt_of_lt_of_le h.lt hb.size,(hb.cell (p := ⟨g,o,none⟩) h.lt).trans h.c0,(hb.cell (p := ⟨g,o + 1,none⟩) h.lt).trans h.c1,(hb.cell (p := ⟨g,o + 2,none⟩) h.lt).trans h.c2⟩
theorem C3.drew {W : World} {g o : Nat} {a b c : Int} (h : C3 W g o a b c) : C3 W.drew g o a b c := ⟨h.lt,h.c0,h.c1,h.c2⟩
def AllInt (xs : List Value) : Prop := ∀ u ∈ xs,∃ z : Int,u = .int .i64 z
theorem AllInt.at {xs : List Value} (h : AllInt xs) {j : Nat} (hj : j < xs.length) : ∃ z : Int,xs[j]? = some (.int .i64 z) := by
 obtain ⟨z,hz⟩ := h xs[j] (List.getElem_mem hj)
 exact ⟨z,by rw [List.getElem?_eq_getElem hj,hz]⟩
set_option maxHeartbeats 8000000 in
set_option maxRecDepth 100000 in
theorem same_pos (n gA gB c1 c2 : Nat) (xs : List Value) (hn : 0 < n) (hn2 : n ≤ 1000000) (hl : xs.length = n * 3) (hi : AllInt xs) (w : World) (hgA : gA < w.heap.size) (hgB : gB < w.heap.size) (hA : ∀ j u,xs[j]? = some u → w.cell? ⟨gA,j,none⟩ = some u) (hB : ∀ j u,xs[j]? = some u → w.cell? ⟨gB,j,none⟩ = some u) :
  Calls Try.prog 32 #[.slice (some ⟨gA,0,none⟩) n c1,.slice (some ⟨gB,0,none⟩) n c2] w fun e w' => e = .returned (.bool true) ∧ Below w.heap.size w w' := by
 go_enter Try.func32,Try.ntmps32
 go_wp2
 go_loopw [5] (fun i wr => ∃ m : Nat,i = .int .i64 (m : Int) ∧ m ≤ n ∧ Below w.heap.size w wr) (fun i _ => n - (intOf i).toNat)
 case atStart => exact ⟨0,rfl,by omega,Below.refl _ _⟩
 case round =>
  obtain ⟨m,rfl,hm,hb⟩ := hrel
  by_cases h : m < n
  ·obtain ⟨a0,e0⟩ := hi.at (j := m * 3) (by omega)
   obtain ⟨a1,e1⟩ := hi.at (j := m * 3 + 1) (by omega)
   obtain ⟨a2,e2⟩ := hi.at (j := m * 3 + 2) (by omega)
   have hcA := (C3.mk hgA (hA _ _ e0) (hA _ _ e1) (hA _ _ e2)).over hb
   have hcB := (C3.mk hgB (hB _ _ e0) (hB _ _ e1) (hB _ _ e2)).over hb
   have d1 : decide ((m : Int) < (n : Int)) = true := by simp <;> omega
   have q1 : ∀ w,Sem.run Try.prog (binOp .neq 33 (.agg #[a0,a1,a2]) (.agg #[a0,a1,a2])) w = .ok (.bool false) w := fun w => by rw [neC_run]; simp
   have x1 : IntKind.i64.wrap ((m : Int) + 1) = (m : Int) + 1 := IntWalk.i64_in _ (by omega)
   clear e0 e1 e2 hA hB hi hl
   go_wp2
   refine wp_region_any (by kernel_rfl) ?_
   try (change wpAny _ _ _ _ _ _ _ (World.drew _))
   refine wpAny_vals (fr := fun o => #[.slice (some ⟨gA,0,none⟩) n c1,.slice (some ⟨gB,0,none⟩) n c2,undef,undef,u4,.int .i64 (m : Int),.slice (some ⟨gA,0,none⟩) n c1,.int .i64 (n : Int),.slice (some ⟨gB,0,none⟩) n c2,.int .i64 (n : Int),.bool false,.int .i64 (m : Int),.slice (some ⟨gA,0,none⟩) n c1,.int .i64 (n : Int),.bool true,u15,u16,o 0,o 1,o 2,o 3,o 4,o 5,o 6,o 7,o 8,o 9]) (vals := fun i_ => ([.slice (some ⟨gA,0,none⟩) n c1,.int .i64 (m : Int),.pointer (some ⟨gA,m * 3,none⟩),.agg #[a0,a1,a2],.slice (some ⟨gB,0,none⟩) n c2,.int .i64 (m : Int),.pointer (some ⟨gB,m * 3,none⟩),.agg #[a0,a1,a2],.agg #[a0,a1,a2],.bool false] : List Value).getD i_ undef) (Kf := fun _ => True) (K := fun kk_ => ([(fun W_ => (Below w.heap.size w W_ ∧ C3 W_ gA (m * 3) a0 a1 a2 ∧ C3 W_ gB (m * 3) a0 a1 a2))] : List (World → Prop)).getD kk_ (fun _ => True)) (dep := fun i_ => [[],[],[0,1],[2],[],[],[4,5],[6],[7],[3,8]].getD i_ []) (dv := fun i_ => [[],[],[0,1],[2],[],[],[4,5],[6],[7],[3,8]].getD i_ []) (kd := fun i_ => [0,0,0,1,0,0,0,1,1,0].getD i_ 0) (ss := []) (l := [0,1,2,3,4,5,6,7,8,9]) (f0 := fun i_ => ([u17,u18,u19,u20,u21,u22,u23,u24,u25,u26] : List Value).getD i_ undef) (A := ?A1) 10 rfl rfl (by decide +kernel) (by decide +kernel) ?_ ?_ ⟨?_,?_,?_,?_,?_,?_,?_,?_,?_,?_,trivial⟩ ?_ ?_
   rotate_left
   ·exact ⟨hb.drew,hcA.drew,hcB.drew⟩
   ·exact fun _ _ _ _ => trivial
   ·intro o W _
    show wpOp _ _ _ 0 _ ⟨#[_,_,_,_,_,_,_,_,_,_,_,_,_,_,_,_,_,o 0,o 1,o 2,o 3,o 4,o 5,o 6,o 7,o 8,o 9],[]⟩ W
    refine wpOp_step rfl fun _ hK => ?_
    go_simp
    exact hK _ _ ⟨rfl,rfl⟩
   ·intro o W _
    show wpOp _ _ _ 1 _ ⟨#[_,_,_,_,_,_,_,_,_,_,_,_,_,_,_,_,_,o 0,o 1,o 2,o 3,o 4,o 5,o 6,o 7,o 8,o 9],[]⟩ W
    refine wpOp_step rfl fun _ hK => ?_
    go_simp
    exact hK _ _ ⟨rfl,rfl⟩
   ·intro o W _
    show wpOp _ _ _ 2 _ ⟨#[_,_,_,_,_,_,_,_,_,_,_,_,_,_,_,_,_,.slice (some ⟨gA,0,none⟩) n c1,.int .i64 (m : Int),o 2,o 3,o 4,o 5,o 6,o 7,o 8,o 9],[]⟩ W
    refine wpOp_step rfl fun _ hK => ?_
    go_simp
    exact hK _ _ ⟨rfl,rfl⟩
   ·intro o W hj
    have hj : (Below w.heap.size w W ∧ C3 W gA (m * 3) a0 a1 a2 ∧ C3 W gB (m * 3) a0 a1 a2) := hj
    obtain ⟨hjb,hjA,hjB⟩ := hj
    obtain ⟨cL,c0,c1,c2⟩ := hjA
    show wpOp _ _ _ 3 _ ⟨#[_,_,_,_,_,_,_,_,_,_,_,_,_,_,_,_,_,o 0,o 1,.pointer (some ⟨gA,m * 3,none⟩),o 3,o 4,o 5,o 6,o 7,o 8,o 9],[]⟩ W
    refine wpOp_step rfl fun _ hK => ?_
    go_simp
    exact hK _ _ ⟨rfl,hj⟩
   ·intro o W _
    show wpOp _ _ _ 4 _ ⟨#[_,_,_,_,_,_,_,_,_,_,_,_,_,_,_,_,_,o 0,o 1,o 2,o 3,o 4,o 5,o 6,o 7,o 8,o 9],[]⟩ W
    refine wpOp_step rfl fun _ hK => ?_
    go_simp
    exact hK _ _ ⟨rfl,rfl⟩
   ·intro o W _
    show wpOp _ _ _ 5 _ ⟨#[_,_,_,_,_,_,_,_,_,_,_,_,_,_,_,_,_,o 0,o 1,o 2,o 3,o 4,o 5,o 6,o 7,o 8,o 9],[]⟩ W
    refine wpOp_step rfl fun _ hK => ?_
    go_simp
    exact hK _ _ ⟨rfl,rfl⟩
   ·intro o W _
    show wpOp _ _ _ 6 _ ⟨#[_,_,_,_,_,_,_,_,_,_,_,_,_,_,_,_,_,o 0,o 1,o 2,o 3,.slice (some ⟨gB,0,none⟩) n c2,.int .i64 (m : Int),o 6,o 7,o 8,o 9],[]⟩ W
    refine wpOp_step rfl fun _ hK => ?_
    go_simp
    exact hK _ _ ⟨rfl,rfl⟩
   ·intro o W hj
    have hj : (Below w.heap.size w W ∧ C3 W gA (m * 3) a0 a1 a2 ∧ C3 W gB (m * 3) a0 a1 a2) := hj
    obtain ⟨hjb,hjA,hjB⟩ := hj
    obtain ⟨cL,c0,c1,c2⟩ := hjB
    show wpOp _ _ _ 7 _ ⟨#[_,_,_,_,_,_,_,_,_,_,_,_,_,_,_,_,_,o 0,o 1,o 2,o 3,o 4,o 5,.pointer (some ⟨gB,m * 3,none⟩),o 7,o 8,o 9],[]⟩ W
    refine wpOp_step rfl fun _ hK => ?_
    go_simp
    exact hK _ _ ⟨rfl,hj⟩
   ·intro o W hj
    have hj : (Below w.heap.size w W ∧ C3 W gA (m * 3) a0 a1 a2 ∧ C3 W gB (m * 3) a0 a1 a2) := hj
    show wpOp _ _ _ 8 _ ⟨#[_,_,_,_,_,_,_,_,_,_,_,_,_,_,_,_,_,o 0,o 1,o 2,o 3,o 4,o 5,o 6,.agg #[a0,a1,a2],o 8,o 9],[]⟩ W
    refine wpOp_step rfl fun _ hK => ?_
    go_simp
    refine (ours_any _ _ _ _).mono ?_
    rintro e W1 ⟨rfl,hb1⟩
    exact hK _ _ ⟨rfl,⟨hj.1.trans (bmono hb1 hj.1.size),hj.2.1.over hb1,hj.2.2.over hb1⟩⟩
   ·intro o W _
    show wpOp _ _ _ 9 _ ⟨#[_,_,_,_,_,_,_,_,_,_,_,_,_,_,_,_,_,o 0,o 1,o 2,.agg #[a0,a1,a2],o 4,o 5,o 6,o 7,.agg #[a0,a1,a2],o 9],[]⟩ W
    refine wpOp_step rfl fun _ hK => ?_
    go_simp
    exact hK _ _ ⟨rfl,rfl⟩
   ·intro o hh_
    have e0 : o 0 = .slice (some ⟨gA,0,none⟩) n c1 := hh_ 0 (by decide)
    have e1 : o 1 = .int .i64 (m : Int) := hh_ 1 (by decide)
    have e2 : o 2 = .pointer (some ⟨gA,m * 3,none⟩) := hh_ 2 (by decide)
    have e3 : o 3 = .agg #[a0,a1,a2] := hh_ 3 (by decide)
    have e4 : o 4 = .slice (some ⟨gB,0,none⟩) n c2 := hh_ 4 (by decide)
    have e5 : o 5 = .int .i64 (m : Int) := hh_ 5 (by decide)
    have e6 : o 6 = .pointer (some ⟨gB,m * 3,none⟩) := hh_ 6 (by decide)
    have e7 : o 7 = .agg #[a0,a1,a2] := hh_ 7 (by decide)
    have e8 : o 8 = .agg #[a0,a1,a2] := hh_ 8 (by decide)
    have e9 : o 9 = .bool false := hh_ 9 (by decide)
    rw [e0,e1,e2,e3,e4,e5,e6,e7,e8,e9]
   ·intro W hj
    obtain ⟨hjb,-,-⟩ := hj
    go_wp2
    go_roundw
    case rel => exact ⟨m + 1,by go_num,by omega,hjb⟩
    case measure => simp [intOf] <;> omega
  ·have e : m = n := by omega
   subst e
   go_wp2
   go_ret
   exact ⟨rfl,hb⟩
set_option maxHeartbeats 8000000 in
set_option maxRecDepth 100000 in
theorem same_zero (A B : Option Addr) (c1 c2 : Nat) (w : World) :
  Calls Try.prog 32 #[.slice A 0 c1,.slice B 0 c2] w fun e w' => e = .returned (.bool true) ∧ Below w.heap.size w w' := by
 go_enter Try.func32,Try.ntmps32
 go_wp2
 go_loopw [5] (fun i wr => i = .int .i64 0 ∧ Below w.heap.size w wr) (fun _ _ => 0)
 case atStart => exact ⟨rfl,Below.refl _ _⟩
 case round =>
  obtain ⟨rfl,hb⟩ := hrel
  go_wp2
  go_ret
  exact ⟨rfl,hb⟩
theorem same_any (n c1 c2 : Nat) (A B : Option Addr) (xs : List Value) (hn2 : n ≤ 1000000) (hi : AllInt xs) (w : World) (hA : RowA w 3 A n xs) (hB : RowA w 3 B n xs) :
  Calls Try.prog 32 #[.slice A n c1,.slice B n c2] w fun e w' => e = .returned (.bool true) ∧ Below w.heap.size w w' := by
 by_cases hn : 0 < n
 ·obtain ⟨gA,rfl,hgA,hcA⟩ := hA.2 hn
  obtain ⟨gB,rfl,hgB,hcB⟩ := hB.2 hn
  exact same_pos n gA gB c1 c2 xs hn hn2 hA.1 hi w hgA hgB hcA hcB
 ·have : n = 0 := by omega
  subst this
  exact same_zero A B c1 c2 w
end Go.Proofs.Ytogmgaaejepcbaa
