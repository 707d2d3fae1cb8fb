/- KerfSlices: for all boxes,axes and thicknesses Slices and Cuts return the specified boxes and cuts,or the errors. No condition. -/
import Derived.Test.YtogmgaaejepcbaaCor
import Derived.Test.YtogmgaaejepcbaaSam
import Derived.Test.YtogmgaaejepcbaaSle
import Derived.Test.YtogmgaaejepcbaaRcu
import Derived.Test.YtogmgaaejepcbaaNes
import Derived.Test.YtogmgaaejepcbaaEqs
import Derived.Test.YtogmgaaejepcbaaSli0
import Derived.Test.YtogmgaaejepcbaaSli1
import Derived.Test.YtogmgaaejepcbaaSli2
import Derived.Test.YtogmgaaejepcbaaCut0
import Derived.Test.YtogmgaaejepcbaaCut1
import Derived.Test.YtogmgaaejepcbaaCut2
import Derived.Test.YtogmgaaejepcbaaAwk
import Derived.Test.YtogmgaaejepcbaaLfk
namespace Go.Proofs.Ytogmgaaejepcbaa
open Go.RowKit

structure C6 (W : World) (g o : Nat) (a b c d e f : Int) : Prop where
 mk ::
 lt : g < W.heap.size
 c0 : W.cell? ⟨g,o,none⟩ = some (.int .i64 a)
 c1 : W.cell? ⟨g,o + 1,none⟩ = some (.int .i64 b)
 c2 : W.cell? ⟨g,o + 2,none⟩ = some (.int .i64 c)
 c3 : W.cell? ⟨g,o + 3,none⟩ = some (.int .i64 d)
 c4 : W.cell? ⟨g,o + 4,none⟩ = some (.int .i64 e)
 c5 : W.cell? ⟨g,o + 5,none⟩ = some (.int .i64 f)
theorem C6.over {W W' : World} {g o : Nat} {a b c d e f : Int} (h : C6 W g o a b c d e f) (hb : Below W.heap.size W W') : C6 W' g o a b c d e f := ⟨Nat.lt_of_lt_of_le h.lt hb.size,(hb.cell (p := ⟨g,o,none⟩) h.lt).trans h.c0,(hb.cell (p := ⟨g,o + 1,none⟩) h.lt).trans h.c1,(hb.cell (p := ⟨g,o + 2,none⟩) h.lt).trans h.c2,(hb.cell (p := ⟨g,o + 3,none⟩) h.lt).trans h.c3,(hb.cell (p := ⟨g,o + 4,none⟩) h.lt).trans h.c4,(hb.cell (p := ⟨g,o + 5,none⟩) h.lt).trans h.c5⟩
theorem C6.drew {W : World} {g o : Nat} {a b c d e f : Int} (h : C6 W g o a b c d e f) : C6 W.drew g o a b c d e f := ⟨h.lt,h.c0,h.c1,h.c2,h.c3,h.c4,h.c5⟩
set_option maxHeartbeats 16000000 in
set_option maxRecDepth 100000 in
theorem slices_pos (x y z p q r a t k : Int) (r0 r1 r2 r3 r4 r5 : Int) (N M : Nat) (xs ys : List Value) (hN0 : 0 < N) (hN : N ≤ 1000) (hM : M ≤ 1000) (hix : AllInt xs) (hiy : AllInt ys) (hlx : xs.length = N * 6)
  (hS : ∀ w,Calls Try.prog 28 #[.agg #[x,y,z,p,q,r],.int .i64 a,.int .i64 t,.int .i64 k] w fun e w' => ∃ A c,e = .returned (.tuple #[.slice A N c,.agg #[r0,r1,r2,r3,r4,r5],.int .i64 0]) ∧ RowA w' 6 A N xs ∧ Below w.heap.size w w')
  (hC : ∀ w,Calls Try.prog 29 #[.agg #[x,y,z,p,q,r],.int .i64 a,.int .i64 t,.int .i64 k] w fun e w' => ∃ A c,e = .returned (.tuple #[.slice A M c,.int .i64 0]) ∧ RowA w' 3 A M ys ∧ Below w.heap.size w w')
  (hG : ∀ w,Calls Try.prog 30 #[.agg #[x,y,z,p,q,r],.int .i64 a,.int .i64 t,.int .i64 k] w fun e w' => e = .returned (.int .i64 0) ∧ Below w.heap.size w w')
  (hT : ∀ w,Calls Try.prog 31 #[.agg #[x,y,z,p,q,r],.int .i64 a,.int .i64 t,.int .i64 k] w fun e w' => ∃ A c,e = .returned (.tuple #[.slice A N c,.agg #[r0,r1,r2,r3,r4,r5]]) ∧ RowA w' 6 A N xs ∧ Below w.heap.size w w')
  (hD : ∀ w,Calls Try.prog 33 #[.agg #[x,y,z,p,q,r],.int .i64 a,.int .i64 t,.int .i64 k] w fun e w' => ∃ A c,e = .returned (.slice A M c) ∧ RowA w' 3 A M ys ∧ Below w.heap.size w w')
  (hA : ∀ w,Calls Try.prog 12 #[] w fun e w' => e = .returned (.bool true) ∧ Below w.heap.size w w') (w : World) :
  Calls Try.prog 6 #[.agg #[x,y,z,p,q,r],.int .i64 a,.int .i64 t,.int .i64 k] w fun e w' => e = .returned (.bool true) ∧ Below w.heap.size w w' := by
 have q2 : ∀ w,Sem.run Try.prog (binOp .neq 25 (.agg #[r0,r1,r2,r3,r4,r5]) (.agg #[r0,r1,r2,r3,r4,r5])) w = .ok (.bool false) w := fun w => by rw [neB_run]; simp
 have hixH := Lib.hid hix
 have hiyH := Lib.hid hiy
 have hlxH := Lib.hid hlx
 clear hix hiy hlx
 go_enter Try.func6,Try.ntmps6
 go_wp2_with (first
  | (go_at_call 12; refine (hA _).mono ?_; rintro e w1 ⟨rfl,hb1⟩; obtain ⟨hc1,hf1⟩ := bcell hb1; have hz1 := hb1.size; (try simp at hz1); (try have y10 : w.heap.size < w1.heap.size := (by omega)); (try have y10p : w.heap.size < w1.heap.size + 1 := (by omega)); (try have y11 : w.heap.size + 1 < w1.heap.size := (by omega)); (try have y11p : w.heap.size + 1 < w1.heap.size + 1 := (by omega)); (try have y12 : w.heap.size + 1 + 1 < w1.heap.size := (by omega)); (try have y12p : w.heap.size + 1 + 1 < w1.heap.size + 1 := (by omega)); (try have y13 : w.heap.size + 1 + 1 + 1 < w1.heap.size := (by omega)); (try have y13p : w.heap.size + 1 + 1 + 1 < w1.heap.size + 1 := (by omega)); (try have y14 : w.heap.size + 1 + 1 + 1 + 1 < w1.heap.size := (by omega)); (try have y14p : w.heap.size + 1 + 1 + 1 + 1 < w1.heap.size + 1 := (by omega)); (try have v0x1 : w0.heap.size < w1.heap.size := (by omega)); (try have v0x1p : w0.heap.size < w1.heap.size + 1 := (by omega)))
  | (go_at_call 28; refine (hS _).mono ?_; rintro e w2 ⟨A1_,c1,rfl,hr1_,hb2⟩; obtain ⟨hc2,hf2⟩ := bcell hb2; have hz2 := hb2.size; (try simp at hz2); (try have y20 : w.heap.size < w2.heap.size := (by omega)); (try have y20p : w.heap.size < w2.heap.size + 1 := (by omega)); (try have y21 : w.heap.size + 1 < w2.heap.size := (by omega)); (try have y21p : w.heap.size + 1 < w2.heap.size + 1 := (by omega)); (try have y22 : w.heap.size + 1 + 1 < w2.heap.size := (by omega)); (try have y22p : w.heap.size + 1 + 1 < w2.heap.size + 1 := (by omega)); (try have y23 : w.heap.size + 1 + 1 + 1 < w2.heap.size := (by omega)); (try have y23p : w.heap.size + 1 + 1 + 1 < w2.heap.size + 1 := (by omega)); (try have y24 : w.heap.size + 1 + 1 + 1 + 1 < w2.heap.size := (by omega)); (try have y24p : w.heap.size + 1 + 1 + 1 + 1 < w2.heap.size + 1 := (by omega)); (try have v0x2 : w0.heap.size < w2.heap.size := (by omega)); (try have v0x2p : w0.heap.size < w2.heap.size + 1 := (by omega)); (try have v1x2 : w1.heap.size < w2.heap.size := (by omega)); (try have v1x2p : w1.heap.size < w2.heap.size + 1 := (by omega)); obtain ⟨gA,rfl,hgA,hcA_⟩ := hr1_.2 hN0; have hr1 := Lib.hid hr1_; have hcA0 := Lib.hid hcA_; clear hr1_ hcA_)
  | (go_at_call 29; refine (hC _).mono ?_; rintro e w3 ⟨A2,c2,rfl,hr2_,hb3⟩; obtain ⟨hc3,hf3⟩ := bcell hb3; have hz3 := hb3.size; (try simp at hz3); (try have y30 : w.heap.size < w3.heap.size := (by omega)); (try have y30p : w.heap.size < w3.heap.size + 1 := (by omega)); (try have y31 : w.heap.size + 1 < w3.heap.size := (by omega)); (try have y31p : w.heap.size + 1 < w3.heap.size + 1 := (by omega)); (try have y32 : w.heap.size + 1 + 1 < w3.heap.size := (by omega)); (try have y32p : w.heap.size + 1 + 1 < w3.heap.size + 1 := (by omega)); (try have y33 : w.heap.size + 1 + 1 + 1 < w3.heap.size := (by omega)); (try have y33p : w.heap.size + 1 + 1 + 1 < w3.heap.size + 1 := (by omega)); (try have y34 : w.heap.size + 1 + 1 + 1 + 1 < w3.heap.size := (by omega)); (try have y34p : w.heap.size + 1 + 1 + 1 + 1 < w3.heap.size + 1 := (by omega)); (try have v0x3 : w0.heap.size < w3.heap.size := (by omega)); (try have v0x3p : w0.heap.size < w3.heap.size + 1 := (by omega)); (try have v1x3 : w1.heap.size < w3.heap.size := (by omega)); (try have v1x3p : w1.heap.size < w3.heap.size + 1 := (by omega)); (try have v2x3 : w2.heap.size < w3.heap.size := (by omega)); (try have v2x3p : w2.heap.size < w3.heap.size + 1 := (by omega)); have hr2 := Lib.hid hr2_; clear hr2_)
  | (go_at_call 30; refine (hG _).mono ?_; rintro e w4 ⟨rfl,hb4⟩; obtain ⟨hc4,hf4⟩ := bcell hb4; have hz4 := hb4.size; (try simp at hz4); (try have y40 : w.heap.size < w4.heap.size := (by omega)); (try have y40p : w.heap.size < w4.heap.size + 1 := (by omega)); (try have y41 : w.heap.size + 1 < w4.heap.size := (by omega)); (try have y41p : w.heap.size + 1 < w4.heap.size + 1 := (by omega)); (try have y42 : w.heap.size + 1 + 1 < w4.heap.size := (by omega)); (try have y42p : w.heap.size + 1 + 1 < w4.heap.size + 1 := (by omega)); (try have y43 : w.heap.size + 1 + 1 + 1 < w4.heap.size := (by omega)); (try have y43p : w.heap.size + 1 + 1 + 1 < w4.heap.size + 1 := (by omega)); (try have y44 : w.heap.size + 1 + 1 + 1 + 1 < w4.heap.size := (by omega)); (try have y44p : w.heap.size + 1 + 1 + 1 + 1 < w4.heap.size + 1 := (by omega)); (try have v0x4 : w0.heap.size < w4.heap.size := (by omega)); (try have v0x4p : w0.heap.size < w4.heap.size + 1 := (by omega)); (try have v1x4 : w1.heap.size < w4.heap.size := (by omega)); (try have v1x4p : w1.heap.size < w4.heap.size + 1 := (by omega)); (try have v2x4 : w2.heap.size < w4.heap.size := (by omega)); (try have v2x4p : w2.heap.size < w4.heap.size + 1 := (by omega)); (try have v3x4 : w3.heap.size < w4.heap.size := (by omega)); (try have v3x4p : w3.heap.size < w4.heap.size + 1 := (by omega)))
  | (go_at_call 31; refine (hT _).mono ?_; rintro e w5 ⟨A3_,c3,rfl,hr3_,hb5⟩; obtain ⟨hc5,hf5⟩ := bcell hb5; have hz5 := hb5.size; (try simp at hz5); (try have y50 : w.heap.size < w5.heap.size := (by omega)); (try have y50p : w.heap.size < w5.heap.size + 1 := (by omega)); (try have y51 : w.heap.size + 1 < w5.heap.size := (by omega)); (try have y51p : w.heap.size + 1 < w5.heap.size + 1 := (by omega)); (try have y52 : w.heap.size + 1 + 1 < w5.heap.size := (by omega)); (try have y52p : w.heap.size + 1 + 1 < w5.heap.size + 1 := (by omega)); (try have y53 : w.heap.size + 1 + 1 + 1 < w5.heap.size := (by omega)); (try have y53p : w.heap.size + 1 + 1 + 1 < w5.heap.size + 1 := (by omega)); (try have y54 : w.heap.size + 1 + 1 + 1 + 1 < w5.heap.size := (by omega)); (try have y54p : w.heap.size + 1 + 1 + 1 + 1 < w5.heap.size + 1 := (by omega)); (try have v0x5 : w0.heap.size < w5.heap.size := (by omega)); (try have v0x5p : w0.heap.size < w5.heap.size + 1 := (by omega)); (try have v1x5 : w1.heap.size < w5.heap.size := (by omega)); (try have v1x5p : w1.heap.size < w5.heap.size + 1 := (by omega)); (try have v2x5 : w2.heap.size < w5.heap.size := (by omega)); (try have v2x5p : w2.heap.size < w5.heap.size + 1 := (by omega)); (try have v3x5 : w3.heap.size < w5.heap.size := (by omega)); (try have v3x5p : w3.heap.size < w5.heap.size + 1 := (by omega)); (try have v4x5 : w4.heap.size < w5.heap.size := (by omega)); (try have v4x5p : w4.heap.size < w5.heap.size + 1 := (by omega)); obtain ⟨gB,rfl,hgB,hcB_⟩ := hr3_.2 hN0; have hcB0 := Lib.hid hcB_; clear hcB_ hr3_)
  | (go_at_call 33; refine (hD _).mono ?_; rintro e w6 ⟨A4,c4,rfl,hr4_,hb6⟩; obtain ⟨hc6,hf6⟩ := bcell hb6; have hz6 := hb6.size; (try simp at hz6); (try have y60 : w.heap.size < w6.heap.size := (by omega)); (try have y60p : w.heap.size < w6.heap.size + 1 := (by omega)); (try have y61 : w.heap.size + 1 < w6.heap.size := (by omega)); (try have y61p : w.heap.size + 1 < w6.heap.size + 1 := (by omega)); (try have y62 : w.heap.size + 1 + 1 < w6.heap.size := (by omega)); (try have y62p : w.heap.size + 1 + 1 < w6.heap.size + 1 := (by omega)); (try have y63 : w.heap.size + 1 + 1 + 1 < w6.heap.size := (by omega)); (try have y63p : w.heap.size + 1 + 1 + 1 < w6.heap.size + 1 := (by omega)); (try have y64 : w.heap.size + 1 + 1 + 1 + 1 < w6.heap.size := (by omega)); (try have y64p : w.heap.size + 1 + 1 + 1 + 1 < w6.heap.size + 1 := (by omega)); (try have v0x6 : w0.heap.size < w6.heap.size := (by omega)); (try have v0x6p : w0.heap.size < w6.heap.size + 1 := (by omega)); (try have v1x6 : w1.heap.size < w6.heap.size := (by omega)); (try have v1x6p : w1.heap.size < w6.heap.size + 1 := (by omega)); (try have v2x6 : w2.heap.size < w6.heap.size := (by omega)); (try have v2x6p : w2.heap.size < w6.heap.size + 1 := (by omega)); (try have v3x6 : w3.heap.size < w6.heap.size := (by omega)); (try have v3x6p : w3.heap.size < w6.heap.size + 1 := (by omega)); (try have v4x6 : w4.heap.size < w6.heap.size := (by omega)); (try have v4x6p : w4.heap.size < w6.heap.size + 1 := (by omega)); (try have v5x6 : w5.heap.size < w6.heap.size := (by omega)); (try have v5x6p : w5.heap.size < w6.heap.size + 1 := (by omega)); have hr4 := Lib.hid hr4_; clear hr4_)
  | (go_at_call 32; refine (same_any M _ _ _ _ ys (by omega) hiyH.out _ (RowA.below hr2.out (by (repeat (first | with_reducible exact Below.refl _ _ | with_reducible refine Below.setCell ?_ ?_ _ | with_reducible refine Below.alloc ?_ ?_ _ | with_reducible refine Below.drew ?_ | with_reducible refine below_drewN ?_ _ | (refine Below.trans ?_ (bmono (by assumption) ?_)))); all_goals (first | omega | (simp <;> omega)))) (RowA.below hr4.out (by (repeat (first | with_reducible exact Below.refl _ _ | with_reducible refine Below.setCell ?_ ?_ _ | with_reducible refine Below.alloc ?_ ?_ _ | with_reducible refine Below.drew ?_ | with_reducible refine below_drewN ?_ _ | (refine Below.trans ?_ (bmono (by assumption) ?_)))); all_goals (first | omega | (simp <;> omega))))).mono ?_; rintro e w7 ⟨rfl,hb7⟩; obtain ⟨hc7,hf7⟩ := bcell hb7; have hz7 := hb7.size; (try simp at hz7); (try have y70 : w.heap.size < w7.heap.size := (by omega)); (try have y70p : w.heap.size < w7.heap.size + 1 := (by omega)); (try have y71 : w.heap.size + 1 < w7.heap.size := (by omega)); (try have y71p : w.heap.size + 1 < w7.heap.size + 1 := (by omega)); (try have y72 : w.heap.size + 1 + 1 < w7.heap.size := (by omega)); (try have y72p : w.heap.size + 1 + 1 < w7.heap.size + 1 := (by omega)); (try have y73 : w.heap.size + 1 + 1 + 1 < w7.heap.size := (by omega)); (try have y73p : w.heap.size + 1 + 1 + 1 < w7.heap.size + 1 := (by omega)); (try have y74 : w.heap.size + 1 + 1 + 1 + 1 < w7.heap.size := (by omega)); (try have y74p : w.heap.size + 1 + 1 + 1 + 1 < w7.heap.size + 1 := (by omega)); (try have v0x7 : w0.heap.size < w7.heap.size := (by omega)); (try have v0x7p : w0.heap.size < w7.heap.size + 1 := (by omega)); (try have v1x7 : w1.heap.size < w7.heap.size := (by omega)); (try have v1x7p : w1.heap.size < w7.heap.size + 1 := (by omega)); (try have v2x7 : w2.heap.size < w7.heap.size := (by omega)); (try have v2x7p : w2.heap.size < w7.heap.size + 1 := (by omega)); (try have v3x7 : w3.heap.size < w7.heap.size := (by omega)); (try have v3x7p : w3.heap.size < w7.heap.size + 1 := (by omega)); (try have v4x7 : w4.heap.size < w7.heap.size := (by omega)); (try have v4x7p : w4.heap.size < w7.heap.size + 1 := (by omega)); (try have v5x7 : w5.heap.size < w7.heap.size := (by omega)); (try have v5x7p : w5.heap.size < w7.heap.size + 1 := (by omega)); (try have v6x7 : w6.heap.size < w7.heap.size := (by omega)); (try have v6x7p : w6.heap.size < w7.heap.size + 1 := (by omega))))
 have B5 : Below w5.heap.size w5 w7 := (by (repeat (first | with_reducible exact Below.refl _ _ | with_reducible refine Below.setCell ?_ ?_ _ | with_reducible refine Below.alloc ?_ ?_ _ | with_reducible refine Below.drew ?_ | with_reducible refine below_drewN ?_ _ | (refine Below.trans ?_ (bmono (by assumption) ?_)))); all_goals (first | omega | (simp <;> omega)))
 have B2 : Below w2.heap.size w2 w7 := (by (repeat (first | with_reducible exact Below.refl _ _ | with_reducible refine Below.setCell ?_ ?_ _ | with_reducible refine Below.alloc ?_ ?_ _ | with_reducible refine Below.drew ?_ | with_reducible refine below_drewN ?_ _ | (refine Below.trans ?_ (bmono (by assumption) ?_)))); all_goals (first | omega | (simp <;> omega)))
 have B0 : Below w.heap.size w w7 := (by (repeat (first | with_reducible exact Below.refl _ _ | with_reducible refine Below.setCell ?_ ?_ _ | with_reducible refine Below.alloc ?_ ?_ _ | with_reducible refine Below.drew ?_ | with_reducible refine below_drewN ?_ _ | (refine Below.trans ?_ (bmono (by assumption) ?_)))); all_goals (first | omega | (simp <;> omega)))
 go_loopw [17] (fun i wr => ∃ m : Nat,i = .int .i64 (m : Int) ∧ m ≤ N ∧ Below w7.heap.size w7 wr) (fun i _ => N - (intOf i).toNat)
 case atStart => exact ⟨0,rfl,by omega,Below.refl _ _⟩
 case round =>
  obtain ⟨m,rfl,hm,hb⟩ := hrel
  by_cases h : m < N
  ·have hlx' := hlxH.out
   obtain ⟨a0,e0⟩ := hixH.out.at (j := m * 6) (by omega)
   obtain ⟨a1,e1⟩ := hixH.out.at (j := m * 6 + 1) (by omega)
   obtain ⟨a2,e2⟩ := hixH.out.at (j := m * 6 + 2) (by omega)
   obtain ⟨a3,e3⟩ := hixH.out.at (j := m * 6 + 3) (by omega)
   obtain ⟨a4,e4⟩ := hixH.out.at (j := m * 6 + 4) (by omega)
   obtain ⟨a5,e5⟩ := hixH.out.at (j := m * 6 + 5) (by omega)
   have hcA := ((C6.mk hgA (hcA0.out _ _ e0) (hcA0.out _ _ e1) (hcA0.out _ _ e2) (hcA0.out _ _ e3) (hcA0.out _ _ e4) (hcA0.out _ _ e5)).over B2).over hb
   have hcB := ((C6.mk hgB (hcB0.out _ _ e0) (hcB0.out _ _ e1) (hcB0.out _ _ e2) (hcB0.out _ _ e3) (hcB0.out _ _ e4) (hcB0.out _ _ e5)).over B5).over hb
   have d1 : decide ((m : Int) < (N : Int)) = true := by simp <;> omega
   have q1 : ∀ w,Sem.run Try.prog (binOp .neq 25 (.agg #[a0,a1,a2,a3,a4,a5]) (.agg #[a0,a1,a2,a3,a4,a5])) w = .ok (.bool false) w := fun w => by rw [neB_run]; simp
   have x1 : IntKind.i64.wrap ((m : Int) + 1) = (m : Int) + 1 := IntWalk.i64_in _ (by omega)
   clear e0 e1 e2 e3 e4 e5 hlx' B2 B5 B0
   go_wp2
   refine wp_region_any (by kernel_rfl) ?_
   try (change wpAny _ _ _ _ _ _ _ (World.drew _))
   refine wpAny_vals (fr := fun o => #[.agg #[x,y,z,p,q,r],.int .i64 a,.int .i64 t,.int .i64 k,.pointer (some ⟨w.heap.size,0,none⟩),undef,undef,undef,u8,.slice (some ⟨gA,0,none⟩) N c1,.pointer (some ⟨w2.heap.size,0,none⟩),.int .i64 0,.slice A2 M c2,.int .i64 0,.int .i64 0,.slice (some ⟨gB,0,none⟩) N c3,.pointer (some ⟨w5.heap.size,0,none⟩),.int .i64 ((m : Int)),.bool true,.bool false,.tuple #[.slice (some ⟨gA,0,none⟩) N c1,.agg #[r0,r1,r2,r3,r4,r5],.int .i64 0],.agg #[x,y,z,p,q,r],.int .i64 a,.int .i64 t,.int .i64 k,.tuple #[.slice (some ⟨gA,0,none⟩) N c1,.agg #[r0,r1,r2,r3,r4,r5],.int .i64 0],.slice (some ⟨gA,0,none⟩) N c1,.agg #[r0,r1,r2,r3,r4,r5],.int .i64 0,.tuple #[.slice A2 M c2,.int .i64 0],.agg #[x,y,z,p,q,r],.int .i64 a,.int .i64 t,.int .i64 k,.tuple #[.slice A2 M c2,.int .i64 0],.slice A2 M c2,.int .i64 0,.agg #[x,y,z,p,q,r],.int .i64 a,.int .i64 t,.int .i64 k,.int .i64 0,.int .i64 0,.bool false,undef,undef,undef,undef,undef,undef,undef,undef,undef,undef,undef,undef,undef,undef,undef,undef,undef,undef,undef,undef,undef,undef,undef,.tuple #[.slice (some ⟨gB,0,none⟩) N c3,.agg #[r0,r1,r2,r3,r4,r5]],.agg #[x,y,z,p,q,r],.int .i64 a,.int .i64 t,.int .i64 k,.tuple #[.slice (some ⟨gB,0,none⟩) N c3,.agg #[r0,r1,r2,r3,r4,r5]],.slice (some ⟨gB,0,none⟩) N c3,.agg #[r0,r1,r2,r3,r4,r5],.int .i64 0,.bool false,.bool false,.int .i64 0,.bool false,.bool false,.bool false,.slice (some ⟨gA,0,none⟩) N c1,.int .i64 ((N : Int)),.slice (some ⟨gB,0,none⟩) N c3,.int .i64 ((N : Int)),.bool false,.bool false,.bool false,.agg #[r0,r1,r2,r3,r4,r5],.agg #[r0,r1,r2,r3,r4,r5],.bool false,.bool false,.bool false,.slice A2 M c2,.agg #[x,y,z,p,q,r],.int .i64 a,.int .i64 t,.int .i64 k,.slice A4 M c4,.bool true,.bool false,.bool false,.int .i64 ((m : Int)),.slice (some ⟨gA,0,none⟩) N c1,.int .i64 ((N : Int)),.bool true,u107,u108,o 0,o 1,o 2,o 3,o 4,o 5,o 6,o 7,o 8]) (vals := fun i_ => ([.slice (some ⟨gA,0,none⟩) N c1,.int .i64 ((m : Int)),.pointer (some ⟨gA,m * 6,none⟩),.agg #[a0,a1,a2,a3,a4,a5],.slice (some ⟨gB,0,none⟩) N c3,.int .i64 ((m : Int)),.pointer (some ⟨gB,m * 6,none⟩),.agg #[a0,a1,a2,a3,a4,a5],.bool false] : List Value).getD i_ undef) (Kf := fun _ => True) (K := fun kk_ => ([(fun W_ => (Below w7.heap.size w7 W_ ∧ C6 W_ gA (m * 6) a0 a1 a2 a3 a4 a5 ∧ C6 W_ gB (m * 6) a0 a1 a2 a3 a4 a5))] : List (World → Prop)).getD kk_ (fun _ => True)) (dep := fun i_ => [[],[],[0,1],[2],[],[],[4,5],[6],[3,7]].getD i_ []) (dv := fun i_ => [[],[],[0,1],[2],[],[],[4,5],[6],[3,7]].getD i_ []) (kd := fun i_ => [0,0,0,1,0,0,0,1,0].getD i_ 0) (ss := []) (l := [0,1,2,3,4,5,6,7,8]) (f0 := fun i_ => ([u109,u110,u111,u112,u113,u114,u115,u116,u117] : List Value).getD i_ undef) (A := ?A1) 9 rfl rfl (by decide +kernel) (by decide +kernel) ?_ ?_ ⟨?_,?_,?_,?_,?_,?_,?_,?_,?_,trivial⟩ ?_ ?_
   rotate_left
   ·exact ⟨hb.drew,hcA.drew,hcB.drew⟩
   ·exact fun _ _ _ _ => trivial
   ·intro o W _
    show wpOp _ _ _ 0 _ ⟨#[_,_,_,_,_,_,_,_,_,_,_,_,_,_,_,_,_,_,_,_,_,_,_,_,_,_,_,_,_,_,_,_,_,_,_,_,_,_,_,_,_,_,_,_,_,_,_,_,_,_,_,_,_,_,_,_,_,_,_,_,_,_,_,_,_,_,_,_,_,_,_,_,_,_,_,_,_,_,_,_,_,_,_,_,_,_,_,_,_,_,_,_,_,_,_,_,_,_,_,_,_,_,_,_,_,_,_,_,_,o 0,o 1,o 2,o 3,o 4,o 5,o 6,o 7,o 8],[]⟩ W
    refine wpOp_step rfl fun _ hK => ?_
    go_simp
    exact hK _ _ ⟨rfl,rfl⟩
   ·intro o W _
    show wpOp _ _ _ 1 _ ⟨#[_,_,_,_,_,_,_,_,_,_,_,_,_,_,_,_,_,_,_,_,_,_,_,_,_,_,_,_,_,_,_,_,_,_,_,_,_,_,_,_,_,_,_,_,_,_,_,_,_,_,_,_,_,_,_,_,_,_,_,_,_,_,_,_,_,_,_,_,_,_,_,_,_,_,_,_,_,_,_,_,_,_,_,_,_,_,_,_,_,_,_,_,_,_,_,_,_,_,_,_,_,_,_,_,_,_,_,_,_,o 0,o 1,o 2,o 3,o 4,o 5,o 6,o 7,o 8],[]⟩ W
    refine wpOp_step rfl fun _ hK => ?_
    go_simp
    exact hK _ _ ⟨rfl,rfl⟩
   ·intro o W _
    show wpOp _ _ _ 2 _ ⟨#[_,_,_,_,_,_,_,_,_,_,_,_,_,_,_,_,_,_,_,_,_,_,_,_,_,_,_,_,_,_,_,_,_,_,_,_,_,_,_,_,_,_,_,_,_,_,_,_,_,_,_,_,_,_,_,_,_,_,_,_,_,_,_,_,_,_,_,_,_,_,_,_,_,_,_,_,_,_,_,_,_,_,_,_,_,_,_,_,_,_,_,_,_,_,_,_,_,_,_,_,_,_,_,_,_,_,_,_,_,.slice (some ⟨gA,0,none⟩) N c1,.int .i64 ((m : Int)),o 2,o 3,o 4,o 5,o 6,o 7,o 8],[]⟩ W
    refine wpOp_step rfl fun _ hK => ?_
    go_simp
    exact hK _ _ ⟨rfl,rfl⟩
   ·intro o W hj
    have hj : (Below w7.heap.size w7 W ∧ C6 W gA (m * 6) a0 a1 a2 a3 a4 a5 ∧ C6 W gB (m * 6) a0 a1 a2 a3 a4 a5) := hj
    obtain ⟨hjb,hjA,hjB⟩ := hj
    obtain ⟨cL,c0,c1_,c2_,c3_,c4_,c5⟩ := hjA
    show wpOp _ _ _ 3 _ ⟨#[_,_,_,_,_,_,_,_,_,_,_,_,_,_,_,_,_,_,_,_,_,_,_,_,_,_,_,_,_,_,_,_,_,_,_,_,_,_,_,_,_,_,_,_,_,_,_,_,_,_,_,_,_,_,_,_,_,_,_,_,_,_,_,_,_,_,_,_,_,_,_,_,_,_,_,_,_,_,_,_,_,_,_,_,_,_,_,_,_,_,_,_,_,_,_,_,_,_,_,_,_,_,_,_,_,_,_,_,_,o 0,o 1,.pointer (some ⟨gA,m * 6,none⟩),o 3,o 4,o 5,o 6,o 7,o 8],[]⟩ W
    refine wpOp_step rfl fun _ hK => ?_
    go_simp
    exact hK _ _ ⟨rfl,hj⟩
   ·intro o W _
    show wpOp _ _ _ 4 _ ⟨#[_,_,_,_,_,_,_,_,_,_,_,_,_,_,_,_,_,_,_,_,_,_,_,_,_,_,_,_,_,_,_,_,_,_,_,_,_,_,_,_,_,_,_,_,_,_,_,_,_,_,_,_,_,_,_,_,_,_,_,_,_,_,_,_,_,_,_,_,_,_,_,_,_,_,_,_,_,_,_,_,_,_,_,_,_,_,_,_,_,_,_,_,_,_,_,_,_,_,_,_,_,_,_,_,_,_,_,_,_,o 0,o 1,o 2,o 3,o 4,o 5,o 6,o 7,o 8],[]⟩ W
    refine wpOp_step rfl fun _ hK => ?_
    go_simp
    exact hK _ _ ⟨rfl,rfl⟩
   ·intro o W _
    show wpOp _ _ _ 5 _ ⟨#[_,_,_,_,_,_,_,_,_,_,_,_,_,_,_,_,_,_,_,_,_,_,_,_,_,_,_,_,_,_,_,_,_,_,_,_,_,_,_,_,_,_,_,_,_,_,_,_,_,_,_,_,_,_,_,_,_,_,_,_,_,_,_,_,_,_,_,_,_,_,_,_,_,_,_,_,_,_,_,_,_,_,_,_,_,_,_,_,_,_,_,_,_,_,_,_,_,_,_,_,_,_,_,_,_,_,_,_,_,o 0,o 1,o 2,o 3,o 4,o 5,o 6,o 7,o 8],[]⟩ W
    refine wpOp_step rfl fun _ hK => ?_
    go_simp
    exact hK _ _ ⟨rfl,rfl⟩
   ·intro o W _
    show wpOp _ _ _ 6 _ ⟨#[_,_,_,_,_,_,_,_,_,_,_,_,_,_,_,_,_,_,_,_,_,_,_,_,_,_,_,_,_,_,_,_,_,_,_,_,_,_,_,_,_,_,_,_,_,_,_,_,_,_,_,_,_,_,_,_,_,_,_,_,_,_,_,_,_,_,_,_,_,_,_,_,_,_,_,_,_,_,_,_,_,_,_,_,_,_,_,_,_,_,_,_,_,_,_,_,_,_,_,_,_,_,_,_,_,_,_,_,_,o 0,o 1,o 2,o 3,.slice (some ⟨gB,0,none⟩) N c3,.int .i64 ((m : Int)),o 6,o 7,o 8],[]⟩ W
    refine wpOp_step rfl fun _ hK => ?_
    go_simp
    exact hK _ _ ⟨rfl,rfl⟩
   ·intro o W hj
    have hj : (Below w7.heap.size w7 W ∧ C6 W gA (m * 6) a0 a1 a2 a3 a4 a5 ∧ C6 W gB (m * 6) a0 a1 a2 a3 a4 a5) := hj
    obtain ⟨hjb,hjA,hjB⟩ := hj
    obtain ⟨cL,c0,c1_,c2_,c3_,c4_,c5⟩ := hjB
    show wpOp _ _ _ 7 _ ⟨#[_,_,_,_,_,_,_,_,_,_,_,_,_,_,_,_,_,_,_,_,_,_,_,_,_,_,_,_,_,_,_,_,_,_,_,_,_,_,_,_,_,_,_,_,_,_,_,_,_,_,_,_,_,_,_,_,_,_,_,_,_,_,_,_,_,_,_,_,_,_,_,_,_,_,_,_,_,_,_,_,_,_,_,_,_,_,_,_,_,_,_,_,_,_,_,_,_,_,_,_,_,_,_,_,_,_,_,_,_,o 0,o 1,o 2,o 3,o 4,o 5,.pointer (some ⟨gB,m * 6,none⟩),o 7,o 8],[]⟩ W
    refine wpOp_step rfl fun _ hK => ?_
    go_simp
    exact hK _ _ ⟨rfl,hj⟩
   ·intro o W _
    show wpOp _ _ _ 8 _ ⟨#[_,_,_,_,_,_,_,_,_,_,_,_,_,_,_,_,_,_,_,_,_,_,_,_,_,_,_,_,_,_,_,_,_,_,_,_,_,_,_,_,_,_,_,_,_,_,_,_,_,_,_,_,_,_,_,_,_,_,_,_,_,_,_,_,_,_,_,_,_,_,_,_,_,_,_,_,_,_,_,_,_,_,_,_,_,_,_,_,_,_,_,_,_,_,_,_,_,_,_,_,_,_,_,_,_,_,_,_,_,o 0,o 1,o 2,.agg #[a0,a1,a2,a3,a4,a5],o 4,o 5,o 6,.agg #[a0,a1,a2,a3,a4,a5],o 8],[]⟩ W
    refine wpOp_step rfl fun _ hK => ?_
    go_simp
    exact hK _ _ ⟨rfl,rfl⟩
   ·intro o hh_
    have e0 : o 0 = .slice (some ⟨gA,0,none⟩) N c1 := hh_ 0 (by decide)
    have e1 : o 1 = .int .i64 ((m : Int)) := hh_ 1 (by decide)
    have e2 : o 2 = .pointer (some ⟨gA,m * 6,none⟩) := hh_ 2 (by decide)
    have e3 : o 3 = .agg #[a0,a1,a2,a3,a4,a5] := hh_ 3 (by decide)
    have e4 : o 4 = .slice (some ⟨gB,0,none⟩) N c3 := hh_ 4 (by decide)
    have e5 : o 5 = .int .i64 ((m : Int)) := hh_ 5 (by decide)
    have e6 : o 6 = .pointer (some ⟨gB,m * 6,none⟩) := hh_ 6 (by decide)
    have e7 : o 7 = .agg #[a0,a1,a2,a3,a4,a5] := hh_ 7 (by decide)
    have e8 : o 8 = .bool false := hh_ 8 (by decide)
    rw [e0,e1,e2,e3,e4,e5,e6,e7,e8]
   ·intro W hj
    obtain ⟨hjb,-,-⟩ := hj
    go_wp2
    go_roundw
    case rel => exact ⟨m + 1,by go_num,by omega,hjb⟩
    case measure => simp [intOf] <;> omega
  ·have e : m = N := by omega
   subst e
   go_wp2
   go_ret
   exact ⟨rfl,B0.trans (bmono hb B0.size)⟩
set_option maxHeartbeats 16000000 in
set_option maxRecDepth 100000 in
theorem slices_no (x y z p q r a t k : Int) (f : Int) (hf : slE x y z p q r a t k = f) (hn : f ≠ 0) (hA : ∀ w,Calls Try.prog 12 #[] w fun e w' => e = .returned (.bool true) ∧ Below w.heap.size w w') (w : World) :
  Calls Try.prog 6 #[.agg #[x,y,z,p,q,r],.int .i64 a,.int .i64 t,.int .i64 k] w fun e w' => e = .returned (.bool true) ∧ Below w.heap.size w w' := by
 have hS := Slices_bad x y z p q r a t k f hf hn
 have hC := Cuts_bad x y z p q r a t k f hf hn
 have hG := rSlicing_any x y z p q r a t k
 rw [hf] at hG
 obtain ⟨t1,t2⟩ := ne_tests hn
 have q1 : ∀ w,Sem.run Try.prog (binOp .eql 25 (.agg #[.int .i64 0,.int .i64 0,.int .i64 0,.int .i64 0,.int .i64 0,.int .i64 0]) (.agg #[.int .i64 0,.int .i64 0,.int .i64 0,.int .i64 0,.int .i64 0,.int .i64 0])) w = .ok (.bool true) w := fun w => by rw [eqB]; simp
 clear hf hn
 go_enter Try.func6,Try.ntmps6
 go_wp2_with (first
  | (go_at_call 12; refine (hA _).mono ?_; rintro e w1 ⟨rfl,hb1⟩; obtain ⟨hc1,hf1⟩ := bcell hb1; have hz1 := hb1.size; (try simp at hz1); (try have y10 : w.heap.size < w1.heap.size := (by omega)); (try have y10p : w.heap.size < w1.heap.size + 1 := (by omega)); (try have y11 : w.heap.size + 1 < w1.heap.size := (by omega)); (try have y11p : w.heap.size + 1 < w1.heap.size + 1 := (by omega)); (try have y12 : w.heap.size + 1 + 1 < w1.heap.size := (by omega)); (try have y12p : w.heap.size + 1 + 1 < w1.heap.size + 1 := (by omega)); (try have y13 : w.heap.size + 1 + 1 + 1 < w1.heap.size := (by omega)); (try have y13p : w.heap.size + 1 + 1 + 1 < w1.heap.size + 1 := (by omega)); (try have y14 : w.heap.size + 1 + 1 + 1 + 1 < w1.heap.size := (by omega)); (try have y14p : w.heap.size + 1 + 1 + 1 + 1 < w1.heap.size + 1 := (by omega)); (try have v0x1 : w0.heap.size < w1.heap.size := (by omega)); (try have v0x1p : w0.heap.size < w1.heap.size + 1 := (by omega)))
  | (go_at_call 28; refine (hS _).mono ?_; rintro e w2 ⟨rfl,hb2⟩; obtain ⟨hc2,hf2⟩ := bcell hb2; have hz2 := hb2.size; (try simp at hz2); (try have y20 : w.heap.size < w2.heap.size := (by omega)); (try have y20p : w.heap.size < w2.heap.size + 1 := (by omega)); (try have y21 : w.heap.size + 1 < w2.heap.size := (by omega)); (try have y21p : w.heap.size + 1 < w2.heap.size + 1 := (by omega)); (try have y22 : w.heap.size + 1 + 1 < w2.heap.size := (by omega)); (try have y22p : w.heap.size + 1 + 1 < w2.heap.size + 1 := (by omega)); (try have y23 : w.heap.size + 1 + 1 + 1 < w2.heap.size := (by omega)); (try have y23p : w.heap.size + 1 + 1 + 1 < w2.heap.size + 1 := (by omega)); (try have y24 : w.heap.size + 1 + 1 + 1 + 1 < w2.heap.size := (by omega)); (try have y24p : w.heap.size + 1 + 1 + 1 + 1 < w2.heap.size + 1 := (by omega)); (try have v0x2 : w0.heap.size < w2.heap.size := (by omega)); (try have v0x2p : w0.heap.size < w2.heap.size + 1 := (by omega)); (try have v1x2 : w1.heap.size < w2.heap.size := (by omega)); (try have v1x2p : w1.heap.size < w2.heap.size + 1 := (by omega)))
  | (go_at_call 29; refine (hC _).mono ?_; rintro e w3 ⟨rfl,hb3⟩; obtain ⟨hc3,hf3⟩ := bcell hb3; have hz3 := hb3.size; (try simp at hz3); (try have y30 : w.heap.size < w3.heap.size := (by omega)); (try have y30p : w.heap.size < w3.heap.size + 1 := (by omega)); (try have y31 : w.heap.size + 1 < w3.heap.size := (by omega)); (try have y31p : w.heap.size + 1 < w3.heap.size + 1 := (by omega)); (try have y32 : w.heap.size + 1 + 1 < w3.heap.size := (by omega)); (try have y32p : w.heap.size + 1 + 1 < w3.heap.size + 1 := (by omega)); (try have y33 : w.heap.size + 1 + 1 + 1 < w3.heap.size := (by omega)); (try have y33p : w.heap.size + 1 + 1 + 1 < w3.heap.size + 1 := (by omega)); (try have y34 : w.heap.size + 1 + 1 + 1 + 1 < w3.heap.size := (by omega)); (try have y34p : w.heap.size + 1 + 1 + 1 + 1 < w3.heap.size + 1 := (by omega)); (try have v0x3 : w0.heap.size < w3.heap.size := (by omega)); (try have v0x3p : w0.heap.size < w3.heap.size + 1 := (by omega)); (try have v1x3 : w1.heap.size < w3.heap.size := (by omega)); (try have v1x3p : w1.heap.size < w3.heap.size + 1 := (by omega)); (try have v2x3 : w2.heap.size < w3.heap.size := (by omega)); (try have v2x3p : w2.heap.size < w3.heap.size + 1 := (by omega)))
  | (go_at_call 30; refine (hG _).mono ?_; rintro e w4 ⟨rfl,hb4⟩; obtain ⟨hc4,hf4⟩ := bcell hb4; have hz4 := hb4.size; (try simp at hz4); (try have y40 : w.heap.size < w4.heap.size := (by omega)); (try have y40p : w.heap.size < w4.heap.size + 1 := (by omega)); (try have y41 : w.heap.size + 1 < w4.heap.size := (by omega)); (try have y41p : w.heap.size + 1 < w4.heap.size + 1 := (by omega)); (try have y42 : w.heap.size + 1 + 1 < w4.heap.size := (by omega)); (try have y42p : w.heap.size + 1 + 1 < w4.heap.size + 1 := (by omega)); (try have y43 : w.heap.size + 1 + 1 + 1 < w4.heap.size := (by omega)); (try have y43p : w.heap.size + 1 + 1 + 1 < w4.heap.size + 1 := (by omega)); (try have y44 : w.heap.size + 1 + 1 + 1 + 1 < w4.heap.size := (by omega)); (try have y44p : w.heap.size + 1 + 1 + 1 + 1 < w4.heap.size + 1 := (by omega)); (try have v0x4 : w0.heap.size < w4.heap.size := (by omega)); (try have v0x4p : w0.heap.size < w4.heap.size + 1 := (by omega)); (try have v1x4 : w1.heap.size < w4.heap.size := (by omega)); (try have v1x4p : w1.heap.size < w4.heap.size + 1 := (by omega)); (try have v2x4 : w2.heap.size < w4.heap.size := (by omega)); (try have v2x4p : w2.heap.size < w4.heap.size + 1 := (by omega)); (try have v3x4 : w3.heap.size < w4.heap.size := (by omega)); (try have v3x4p : w3.heap.size < w4.heap.size + 1 := (by omega))))
 go_ret
 refine ⟨rfl,?_⟩
 repeat (first | with_reducible exact Below.refl _ _ | with_reducible refine Below.setCell ?_ ?_ _ | with_reducible refine Below.alloc ?_ ?_ _ | with_reducible refine Below.drew ?_ | with_reducible refine below_drewN ?_ _ | (refine Below.trans ?_ (bmono (by assumption) ?_)))
 all_goals (first | omega | (simp <;> omega))
end Go.Proofs.Ytogmgaaejepcbaa

namespace Go.Proofs.Ytogmgaaejepcbaa
open Go.RowKit

theorem allInt_rowTo {mk : Nat → List Value} (h : ∀ i,AllInt (mk i)) (n : Nat) : AllInt (rowTo mk n) := by
 intro u hu
 unfold rowTo at hu
 obtain ⟨i,_,hi⟩ := List.mem_flatMap.1 hu
 exact h i u hi
theorem cM_cutN (hi f : Int) (N n : Nat) : cM (decide (hi ≤ f)) N n = cutN hi f N n := by simp [cM,cutN]
theorem cutN_le (hi f : Int) (N : Nat) : cutN hi f N N ≤ N := by unfold cutN; split <;> omega
theorem slV0_int (x y z p q r t k : Int) (i : Nat) : AllInt (slV0 x y z p q r t k i) := by
 intro u hu; simp only [slV0,List.mem_cons,List.not_mem_nil,or_false] at hu; rcases hu with rfl | rfl | rfl | rfl | rfl | rfl <;> exact ⟨_,rfl⟩
theorem cuV0_int (lo t k : Int) (i : Nat) : AllInt (cuV0 lo t k i) := by
 intro u hu; simp only [cuV0,List.mem_cons,List.not_mem_nil,or_false] at hu; rcases hu with rfl | rfl | rfl <;> exact ⟨_,rfl⟩
theorem rsR_0 (x y z p q r t k : Int) (N : Nat) : rsR x y z p q r 0 t k N = slRest0 x y z p q r t k N := by simp [rsR,slRest0,pt,gt3]
theorem rcV_0 (lo t k : Int) : rcV 0 lo t k = cuV0 lo t k := rfl
set_option maxHeartbeats 2000000 in
theorem slices_ax0 (x y z p q r t k : Int) (N : Nat) (hE : slE x y z p q r 0 t k = 0) (hv : eB x y z p q r = 0) (ht : rgB 1 2000000 t = true) (hk : rgB 0 1000 k = true) (hn : (p - x + k) / (t + k) = (N : Int)) (hN0 : 0 < N) (hN : N ≤ 1000) (hA : (∀ w,Calls Try.prog 12 #[] w fun e w' => e = .returned (.bool true) ∧ Below w.heap.size w w')) (w : World) :
  Calls Try.prog 6 #[.agg #[x,y,z,p,q,r],.int .i64 0,.int .i64 t,.int .i64 k] w fun e w' => e = .returned (.bool true) ∧ Below w.heap.size w w' := by
 have hG := rSlicing_any x y z p q r 0 t k
 rw [hE] at hG
 have bd := eB_bd hv
 have hT1 : ∀ w,Calls Try.prog 31 #[.agg #[x,y,z,p,q,r],.int .i64 0,.int .i64 t,.int .i64 k] w fun e w' => ∃ g c cur,e = .returned (.tuple #[.slice (some ⟨g,0,none⟩) N c,.agg (slRest0 x y z p q r t k N).toArray]) ∧ w.heap.size ≤ g ∧ (rowTo (rsV x y z p q r 0 t k) N).length = N * 6 ∧ Blk w' g 25 cur ∧ cur.toList.take (N * 6) = rowTo (rsV x y z p q r 0 t k) N ∧ Below w.heap.size w w' := fun w => (rSlices_ok x y z p q r 0 t k N hv (by decide) ht hk hn hN0 hN w).mono fun e w' he => by
  unfold RsRes at he
  rwa [rsR_0] at he
 by_cases hz : p ≤ frm x (t + k) N
 ·have HR : slRest0 x y z p q r t k N = [.int .i64 0,.int .i64 0,.int .i64 0,.int .i64 0,.int .i64 0,.int .i64 0] := by unfold slRest0; rw [if_pos hz]
  rw [HR] at hT1
  have hT2 : ∀ w,Calls Try.prog 31 #[.agg #[x,y,z,p,q,r],.int .i64 0,.int .i64 t,.int .i64 k] w fun e w' => ∃ g c cur,e = .returned (.tuple #[.slice (some ⟨g,0,none⟩) N c,.agg #[.int .i64 0,.int .i64 0,.int .i64 0,.int .i64 0,.int .i64 0,.int .i64 0]]) ∧ w.heap.size ≤ g ∧ (rowTo (rsV x y z p q r 0 t k) N).length = N * 6 ∧ Blk w' g 25 cur ∧ cur.toList.take (N * 6) = rowTo (rsV x y z p q r 0 t k) N ∧ Below w.heap.size w w' := hT1
  have hD0 := fun w => rCuts_gen x y z p q r 0 t k (0) (0) (0) (0) (0) (0) true N (by decide) ht hk (by simp only [gt3]; simp only [reduceIte,Int.reduceEq]; omega) hN0 hN hT2 (fun w => by rw [neB_run]; simp) w
  have hD : ∀ w,Calls Try.prog 33 #[.agg #[x,y,z,p,q,r],.int .i64 0,.int .i64 t,.int .i64 k] w fun e w' => ∃ A c,e = .returned (.slice A (cutN p (frm x (t + k) N) N N) c) ∧ RowA w' 3 A (cutN p (frm x (t + k) N) N N) (rowTo (cuV0 x t k) (cutN p (frm x (t + k) N) N N)) ∧ Below w.heap.size w w' := fun w => (hD0 w).mono fun e w' he => by
   obtain ⟨A,c,h1,h2,h3⟩ := he
   rw [show cM true N N = (cutN p (frm x (t + k) N) N N) by rw [← cM_cutN]; simp [hz]] at h1 h2
   exact ⟨A,c,h1,h2,h3⟩
  exact slices_pos x y z p q r 0 t k (0) (0) (0) (0) (0) (0) N (cutN p (frm x (t + k) N) N N) _ _ hN0 hN (Nat.le_trans (cutN_le _ _ _) hN) (allInt_rowTo (slV0_int _ _ _ _ _ _ _ _) N) (allInt_rowTo (cuV0_int _ _ _) _) (rowTo_len (slV0_len _ _ _ _ _ _ _ _) N)
   (fun w => (Slices0 x y z p q r t k N hv ht hk hn hN0 hN w).mono fun e w' he => by
    obtain ⟨A,c,h1,h2,h3⟩ := he
    rw [HR] at h1
    exact ⟨A,c,h1,h2,h3⟩)
   (fun w => (Cuts0 x y z p q r t k N hv ht hk hn hN0 hN w).mono fun e w' he => he)
   hG
   (fun w => (hT2 w).mono fun e w' he => by
    obtain ⟨g,c,cur,h1,_,h3,h4,h5,h6⟩ := he
    rw [rsV_0] at h3 h5
    exact ⟨_,c,h1,RowA.of_blk h4 h3 h5,h6⟩)
   hD hA w
 ·have HR : slRest0 x y z p q r t k N = [.int .i64 (frm x (t + k) N),.int .i64 y,.int .i64 z,.int .i64 p,.int .i64 q,.int .i64 r] := by unfold slRest0; rw [if_neg hz]
  rw [HR] at hT1
  have hT2 : ∀ w,Calls Try.prog 31 #[.agg #[x,y,z,p,q,r],.int .i64 0,.int .i64 t,.int .i64 k] w fun e w' => ∃ g c cur,e = .returned (.tuple #[.slice (some ⟨g,0,none⟩) N c,.agg #[.int .i64 (frm x (t + k) N),.int .i64 y,.int .i64 z,.int .i64 p,.int .i64 q,.int .i64 r]]) ∧ w.heap.size ≤ g ∧ (rowTo (rsV x y z p q r 0 t k) N).length = N * 6 ∧ Blk w' g 25 cur ∧ cur.toList.take (N * 6) = rowTo (rsV x y z p q r 0 t k) N ∧ Below w.heap.size w w' := hT1
  have hD0 := fun w => rCuts_gen x y z p q r 0 t k (frm x (t + k) N) (y) (z) (p) (q) (r) false N (by decide) ht hk (by simp only [gt3]; simp only [reduceIte,Int.reduceEq]; omega) hN0 hN hT2 (fun w => by rw [neB_run]; simp; omega) w
  have hD : ∀ w,Calls Try.prog 33 #[.agg #[x,y,z,p,q,r],.int .i64 0,.int .i64 t,.int .i64 k] w fun e w' => ∃ A c,e = .returned (.slice A (cutN p (frm x (t + k) N) N N) c) ∧ RowA w' 3 A (cutN p (frm x (t + k) N) N N) (rowTo (cuV0 x t k) (cutN p (frm x (t + k) N) N N)) ∧ Below w.heap.size w w' := fun w => (hD0 w).mono fun e w' he => by
   obtain ⟨A,c,h1,h2,h3⟩ := he
   rw [show cM false N N = (cutN p (frm x (t + k) N) N N) by rw [← cM_cutN]; simp [hz]] at h1 h2
   exact ⟨A,c,h1,h2,h3⟩
  exact slices_pos x y z p q r 0 t k (frm x (t + k) N) (y) (z) (p) (q) (r) N (cutN p (frm x (t + k) N) N N) _ _ hN0 hN (Nat.le_trans (cutN_le _ _ _) hN) (allInt_rowTo (slV0_int _ _ _ _ _ _ _ _) N) (allInt_rowTo (cuV0_int _ _ _) _) (rowTo_len (slV0_len _ _ _ _ _ _ _ _) N)
   (fun w => (Slices0 x y z p q r t k N hv ht hk hn hN0 hN w).mono fun e w' he => by
    obtain ⟨A,c,h1,h2,h3⟩ := he
    rw [HR] at h1
    exact ⟨A,c,h1,h2,h3⟩)
   (fun w => (Cuts0 x y z p q r t k N hv ht hk hn hN0 hN w).mono fun e w' he => he)
   hG
   (fun w => (hT2 w).mono fun e w' he => by
    obtain ⟨g,c,cur,h1,_,h3,h4,h5,h6⟩ := he
    rw [rsV_0] at h3 h5
    exact ⟨_,c,h1,RowA.of_blk h4 h3 h5,h6⟩)
   hD hA w
theorem slV1_int (x y z p q r t k : Int) (i : Nat) : AllInt (slV1 x y z p q r t k i) := by
 intro u hu; simp only [slV1,List.mem_cons,List.not_mem_nil,or_false] at hu; rcases hu with rfl | rfl | rfl | rfl | rfl | rfl <;> exact ⟨_,rfl⟩
theorem cuV1_int (lo t k : Int) (i : Nat) : AllInt (cuV1 lo t k i) := by
 intro u hu; simp only [cuV1,List.mem_cons,List.not_mem_nil,or_false] at hu; rcases hu with rfl | rfl | rfl <;> exact ⟨_,rfl⟩
theorem rsR_1 (x y z p q r t k : Int) (N : Nat) : rsR x y z p q r 1 t k N = slRest1 x y z p q r t k N := by simp [rsR,slRest1,pt,gt3]
theorem rcV_1 (lo t k : Int) : rcV 1 lo t k = cuV1 lo t k := rfl
set_option maxHeartbeats 2000000 in
theorem slices_ax1 (x y z p q r t k : Int) (N : Nat) (hE : slE x y z p q r 1 t k = 0) (hv : eB x y z p q r = 0) (ht : rgB 1 2000000 t = true) (hk : rgB 0 1000 k = true) (hn : (q - y + k) / (t + k) = (N : Int)) (hN0 : 0 < N) (hN : N ≤ 1000) (hA : (∀ w,Calls Try.prog 12 #[] w fun e w' => e = .returned (.bool true) ∧ Below w.heap.size w w')) (w : World) :
  Calls Try.prog 6 #[.agg #[x,y,z,p,q,r],.int .i64 1,.int .i64 t,.int .i64 k] w fun e w' => e = .returned (.bool true) ∧ Below w.heap.size w w' := by
 have hG := rSlicing_any x y z p q r 1 t k
 rw [hE] at hG
 have bd := eB_bd hv
 have hT1 : ∀ w,Calls Try.prog 31 #[.agg #[x,y,z,p,q,r],.int .i64 1,.int .i64 t,.int .i64 k] w fun e w' => ∃ g c cur,e = .returned (.tuple #[.slice (some ⟨g,0,none⟩) N c,.agg (slRest1 x y z p q r t k N).toArray]) ∧ w.heap.size ≤ g ∧ (rowTo (rsV x y z p q r 1 t k) N).length = N * 6 ∧ Blk w' g 25 cur ∧ cur.toList.take (N * 6) = rowTo (rsV x y z p q r 1 t k) N ∧ Below w.heap.size w w' := fun w => (rSlices_ok x y z p q r 1 t k N hv (by decide) ht hk hn hN0 hN w).mono fun e w' he => by
  unfold RsRes at he
  rwa [rsR_1] at he
 by_cases hz : q ≤ frm y (t + k) N
 ·have HR : slRest1 x y z p q r t k N = [.int .i64 0,.int .i64 0,.int .i64 0,.int .i64 0,.int .i64 0,.int .i64 0] := by unfold slRest1; rw [if_pos hz]
  rw [HR] at hT1
  have hT2 : ∀ w,Calls Try.prog 31 #[.agg #[x,y,z,p,q,r],.int .i64 1,.int .i64 t,.int .i64 k] w fun e w' => ∃ g c cur,e = .returned (.tuple #[.slice (some ⟨g,0,none⟩) N c,.agg #[.int .i64 0,.int .i64 0,.int .i64 0,.int .i64 0,.int .i64 0,.int .i64 0]]) ∧ w.heap.size ≤ g ∧ (rowTo (rsV x y z p q r 1 t k) N).length = N * 6 ∧ Blk w' g 25 cur ∧ cur.toList.take (N * 6) = rowTo (rsV x y z p q r 1 t k) N ∧ Below w.heap.size w w' := hT1
  have hD0 := fun w => rCuts_gen x y z p q r 1 t k (0) (0) (0) (0) (0) (0) true N (by decide) ht hk (by simp only [gt3]; simp only [reduceIte,Int.reduceEq]; omega) hN0 hN hT2 (fun w => by rw [neB_run]; simp) w
  have hD : ∀ w,Calls Try.prog 33 #[.agg #[x,y,z,p,q,r],.int .i64 1,.int .i64 t,.int .i64 k] w fun e w' => ∃ A c,e = .returned (.slice A (cutN q (frm y (t + k) N) N N) c) ∧ RowA w' 3 A (cutN q (frm y (t + k) N) N N) (rowTo (cuV1 y t k) (cutN q (frm y (t + k) N) N N)) ∧ Below w.heap.size w w' := fun w => (hD0 w).mono fun e w' he => by
   obtain ⟨A,c,h1,h2,h3⟩ := he
   rw [show cM true N N = (cutN q (frm y (t + k) N) N N) by rw [← cM_cutN]; simp [hz]] at h1 h2
   exact ⟨A,c,h1,h2,h3⟩
  exact slices_pos x y z p q r 1 t k (0) (0) (0) (0) (0) (0) N (cutN q (frm y (t + k) N) N N) _ _ hN0 hN (Nat.le_trans (cutN_le _ _ _) hN) (allInt_rowTo (slV1_int _ _ _ _ _ _ _ _) N) (allInt_rowTo (cuV1_int _ _ _) _) (rowTo_len (slV1_len _ _ _ _ _ _ _ _) N)
   (fun w => (Slices1 x y z p q r t k N hv ht hk hn hN0 hN w).mono fun e w' he => by
    obtain ⟨A,c,h1,h2,h3⟩ := he
    rw [HR] at h1
    exact ⟨A,c,h1,h2,h3⟩)
   (fun w => (Cuts1 x y z p q r t k N hv ht hk hn hN0 hN w).mono fun e w' he => he)
   hG
   (fun w => (hT2 w).mono fun e w' he => by
    obtain ⟨g,c,cur,h1,_,h3,h4,h5,h6⟩ := he
    rw [rsV_1] at h3 h5
    exact ⟨_,c,h1,RowA.of_blk h4 h3 h5,h6⟩)
   hD hA w
 ·have HR : slRest1 x y z p q r t k N = [.int .i64 x,.int .i64 (frm y (t + k) N),.int .i64 z,.int .i64 p,.int .i64 q,.int .i64 r] := by unfold slRest1; rw [if_neg hz]
  rw [HR] at hT1
  have hT2 : ∀ w,Calls Try.prog 31 #[.agg #[x,y,z,p,q,r],.int .i64 1,.int .i64 t,.int .i64 k] w fun e w' => ∃ g c cur,e = .returned (.tuple #[.slice (some ⟨g,0,none⟩) N c,.agg #[.int .i64 x,.int .i64 (frm y (t + k) N),.int .i64 z,.int .i64 p,.int .i64 q,.int .i64 r]]) ∧ w.heap.size ≤ g ∧ (rowTo (rsV x y z p q r 1 t k) N).length = N * 6 ∧ Blk w' g 25 cur ∧ cur.toList.take (N * 6) = rowTo (rsV x y z p q r 1 t k) N ∧ Below w.heap.size w w' := hT1
  have hD0 := fun w => rCuts_gen x y z p q r 1 t k (x) (frm y (t + k) N) (z) (p) (q) (r) false N (by decide) ht hk (by simp only [gt3]; simp only [reduceIte,Int.reduceEq]; omega) hN0 hN hT2 (fun w => by rw [neB_run]; simp; omega) w
  have hD : ∀ w,Calls Try.prog 33 #[.agg #[x,y,z,p,q,r],.int .i64 1,.int .i64 t,.int .i64 k] w fun e w' => ∃ A c,e = .returned (.slice A (cutN q (frm y (t + k) N) N N) c) ∧ RowA w' 3 A (cutN q (frm y (t + k) N) N N) (rowTo (cuV1 y t k) (cutN q (frm y (t + k) N) N N)) ∧ Below w.heap.size w w' := fun w => (hD0 w).mono fun e w' he => by
   obtain ⟨A,c,h1,h2,h3⟩ := he
   rw [show cM false N N = (cutN q (frm y (t + k) N) N N) by rw [← cM_cutN]; simp [hz]] at h1 h2
   exact ⟨A,c,h1,h2,h3⟩
  exact slices_pos x y z p q r 1 t k (x) (frm y (t + k) N) (z) (p) (q) (r) N (cutN q (frm y (t + k) N) N N) _ _ hN0 hN (Nat.le_trans (cutN_le _ _ _) hN) (allInt_rowTo (slV1_int _ _ _ _ _ _ _ _) N) (allInt_rowTo (cuV1_int _ _ _) _) (rowTo_len (slV1_len _ _ _ _ _ _ _ _) N)
   (fun w => (Slices1 x y z p q r t k N hv ht hk hn hN0 hN w).mono fun e w' he => by
    obtain ⟨A,c,h1,h2,h3⟩ := he
    rw [HR] at h1
    exact ⟨A,c,h1,h2,h3⟩)
   (fun w => (Cuts1 x y z p q r t k N hv ht hk hn hN0 hN w).mono fun e w' he => he)
   hG
   (fun w => (hT2 w).mono fun e w' he => by
    obtain ⟨g,c,cur,h1,_,h3,h4,h5,h6⟩ := he
    rw [rsV_1] at h3 h5
    exact ⟨_,c,h1,RowA.of_blk h4 h3 h5,h6⟩)
   hD hA w
theorem slV2_int (x y z p q r t k : Int) (i : Nat) : AllInt (slV2 x y z p q r t k i) := by
 intro u hu; simp only [slV2,List.mem_cons,List.not_mem_nil,or_false] at hu; rcases hu with rfl | rfl | rfl | rfl | rfl | rfl <;> exact ⟨_,rfl⟩
theorem cuV2_int (lo t k : Int) (i : Nat) : AllInt (cuV2 lo t k i) := by
 intro u hu; simp only [cuV2,List.mem_cons,List.not_mem_nil,or_false] at hu; rcases hu with rfl | rfl | rfl <;> exact ⟨_,rfl⟩
theorem rsR_2 (x y z p q r t k : Int) (N : Nat) : rsR x y z p q r 2 t k N = slRest2 x y z p q r t k N := by simp [rsR,slRest2,pt,gt3]
theorem rcV_2 (lo t k : Int) : rcV 2 lo t k = cuV2 lo t k := rfl
set_option maxHeartbeats 2000000 in
theorem slices_ax2 (x y z p q r t k : Int) (N : Nat) (hE : slE x y z p q r 2 t k = 0) (hv : eB x y z p q r = 0) (ht : rgB 1 2000000 t = true) (hk : rgB 0 1000 k = true) (hn : (r - z + k) / (t + k) = (N : Int)) (hN0 : 0 < N) (hN : N ≤ 1000) (hA : (∀ w,Calls Try.prog 12 #[] w fun e w' => e = .returned (.bool true) ∧ Below w.heap.size w w')) (w : World) :
  Calls Try.prog 6 #[.agg #[x,y,z,p,q,r],.int .i64 2,.int .i64 t,.int .i64 k] w fun e w' => e = .returned (.bool true) ∧ Below w.heap.size w w' := by
 have hG := rSlicing_any x y z p q r 2 t k
 rw [hE] at hG
 have bd := eB_bd hv
 have hT1 : ∀ w,Calls Try.prog 31 #[.agg #[x,y,z,p,q,r],.int .i64 2,.int .i64 t,.int .i64 k] w fun e w' => ∃ g c cur,e = .returned (.tuple #[.slice (some ⟨g,0,none⟩) N c,.agg (slRest2 x y z p q r t k N).toArray]) ∧ w.heap.size ≤ g ∧ (rowTo (rsV x y z p q r 2 t k) N).length = N * 6 ∧ Blk w' g 25 cur ∧ cur.toList.take (N * 6) = rowTo (rsV x y z p q r 2 t k) N ∧ Below w.heap.size w w' := fun w => (rSlices_ok x y z p q r 2 t k N hv (by decide) ht hk hn hN0 hN w).mono fun e w' he => by
  unfold RsRes at he
  rwa [rsR_2] at he
 by_cases hz : r ≤ frm z (t + k) N
 ·have HR : slRest2 x y z p q r t k N = [.int .i64 0,.int .i64 0,.int .i64 0,.int .i64 0,.int .i64 0,.int .i64 0] := by unfold slRest2; rw [if_pos hz]
  rw [HR] at hT1
  have hT2 : ∀ w,Calls Try.prog 31 #[.agg #[x,y,z,p,q,r],.int .i64 2,.int .i64 t,.int .i64 k] w fun e w' => ∃ g c cur,e = .returned (.tuple #[.slice (some ⟨g,0,none⟩) N c,.agg #[.int .i64 0,.int .i64 0,.int .i64 0,.int .i64 0,.int .i64 0,.int .i64 0]]) ∧ w.heap.size ≤ g ∧ (rowTo (rsV x y z p q r 2 t k) N).length = N * 6 ∧ Blk w' g 25 cur ∧ cur.toList.take (N * 6) = rowTo (rsV x y z p q r 2 t k) N ∧ Below w.heap.size w w' := hT1
  have hD0 := fun w => rCuts_gen x y z p q r 2 t k (0) (0) (0) (0) (0) (0) true N (by decide) ht hk (by simp only [gt3]; simp only [reduceIte,Int.reduceEq]; omega) hN0 hN hT2 (fun w => by rw [neB_run]; simp) w
  have hD : ∀ w,Calls Try.prog 33 #[.agg #[x,y,z,p,q,r],.int .i64 2,.int .i64 t,.int .i64 k] w fun e w' => ∃ A c,e = .returned (.slice A (cutN r (frm z (t + k) N) N N) c) ∧ RowA w' 3 A (cutN r (frm z (t + k) N) N N) (rowTo (cuV2 z t k) (cutN r (frm z (t + k) N) N N)) ∧ Below w.heap.size w w' := fun w => (hD0 w).mono fun e w' he => by
   obtain ⟨A,c,h1,h2,h3⟩ := he
   rw [show cM true N N = (cutN r (frm z (t + k) N) N N) by rw [← cM_cutN]; simp [hz]] at h1 h2
   exact ⟨A,c,h1,h2,h3⟩
  exact slices_pos x y z p q r 2 t k (0) (0) (0) (0) (0) (0) N (cutN r (frm z (t + k) N) N N) _ _ hN0 hN (Nat.le_trans (cutN_le _ _ _) hN) (allInt_rowTo (slV2_int _ _ _ _ _ _ _ _) N) (allInt_rowTo (cuV2_int _ _ _) _) (rowTo_len (slV2_len _ _ _ _ _ _ _ _) N)
   (fun w => (Slices2 x y z p q r t k N hv ht hk hn hN0 hN w).mono fun e w' he => by
    obtain ⟨A,c,h1,h2,h3⟩ := he
    rw [HR] at h1
    exact ⟨A,c,h1,h2,h3⟩)
   (fun w => (Cuts2 x y z p q r t k N hv ht hk hn hN0 hN w).mono fun e w' he => he)
   hG
   (fun w => (hT2 w).mono fun e w' he => by
    obtain ⟨g,c,cur,h1,_,h3,h4,h5,h6⟩ := he
    rw [rsV_2] at h3 h5
    exact ⟨_,c,h1,RowA.of_blk h4 h3 h5,h6⟩)
   hD hA w
 ·have HR : slRest2 x y z p q r t k N = [.int .i64 x,.int .i64 y,.int .i64 (frm z (t + k) N),.int .i64 p,.int .i64 q,.int .i64 r] := by unfold slRest2; rw [if_neg hz]
  rw [HR] at hT1
  have hT2 : ∀ w,Calls Try.prog 31 #[.agg #[x,y,z,p,q,r],.int .i64 2,.int .i64 t,.int .i64 k] w fun e w' => ∃ g c cur,e = .returned (.tuple #[.slice (some ⟨g,0,none⟩) N c,.agg #[.int .i64 x,.int .i64 y,.int .i64 (frm z (t + k) N),.int .i64 p,.int .i64 q,.int .i64 r]]) ∧ w.heap.size ≤ g ∧ (rowTo (rsV x y z p q r 2 t k) N).length = N * 6 ∧ Blk w' g 25 cur ∧ cur.toList.take (N * 6) = rowTo (rsV x y z p q r 2 t k) N ∧ Below w.heap.size w w' := hT1
  have hD0 := fun w => rCuts_gen x y z p q r 2 t k (x) (y) (frm z (t + k) N) (p) (q) (r) false N (by decide) ht hk (by simp only [gt3]; simp only [reduceIte,Int.reduceEq]; omega) hN0 hN hT2 (fun w => by rw [neB_run]; simp; omega) w
  have hD : ∀ w,Calls Try.prog 33 #[.agg #[x,y,z,p,q,r],.int .i64 2,.int .i64 t,.int .i64 k] w fun e w' => ∃ A c,e = .returned (.slice A (cutN r (frm z (t + k) N) N N) c) ∧ RowA w' 3 A (cutN r (frm z (t + k) N) N N) (rowTo (cuV2 z t k) (cutN r (frm z (t + k) N) N N)) ∧ Below w.heap.size w w' := fun w => (hD0 w).mono fun e w' he => by
   obtain ⟨A,c,h1,h2,h3⟩ := he
   rw [show cM false N N = (cutN r (frm z (t + k) N) N N) by rw [← cM_cutN]; simp [hz]] at h1 h2
   exact ⟨A,c,h1,h2,h3⟩
  exact slices_pos x y z p q r 2 t k (x) (y) (frm z (t + k) N) (p) (q) (r) N (cutN r (frm z (t + k) N) N N) _ _ hN0 hN (Nat.le_trans (cutN_le _ _ _) hN) (allInt_rowTo (slV2_int _ _ _ _ _ _ _ _) N) (allInt_rowTo (cuV2_int _ _ _) _) (rowTo_len (slV2_len _ _ _ _ _ _ _ _) N)
   (fun w => (Slices2 x y z p q r t k N hv ht hk hn hN0 hN w).mono fun e w' he => by
    obtain ⟨A,c,h1,h2,h3⟩ := he
    rw [HR] at h1
    exact ⟨A,c,h1,h2,h3⟩)
   (fun w => (Cuts2 x y z p q r t k N hv ht hk hn hN0 hN w).mono fun e w' he => he)
   hG
   (fun w => (hT2 w).mono fun e w' he => by
    obtain ⟨g,c,cur,h1,_,h3,h4,h5,h6⟩ := he
    rw [rsV_2] at h3 h5
    exact ⟨_,c,h1,RowA.of_blk h4 h3 h5,h6⟩)
   hD hA w
theorem slices_all (x y z p q r a t k : Int) (hA : (∀ w,Calls Try.prog 12 #[] w fun e w' => e = .returned (.bool true) ∧ Below w.heap.size w w')) (w : World) : Calls Try.prog 6 #[.agg #[x,y,z,p,q,r],.int .i64 a,.int .i64 t,.int .i64 k] w fun e w' => e = .returned (.bool true) ∧ Below w.heap.size w w' := by
 by_cases h : slE x y z p q r a t k = 0
 ·obtain ⟨hv,ha,ht,hk,hc⟩ := slE_z h
  obtain ⟨⟨a1,a2,a3⟩,⟨a4,a5,a6⟩,⟨a7,a8,a9⟩⟩ := eB_bd hv
  have i2 := rgB_iff.1 ht
  have i3 := rgB_iff.1 hk
  rcases ax3 ha with rfl | rfl | rfl
  ·have hc' : csE ((p - x + k) / (t + k)) = 0 := hc
   have hb := most_bd (l := p - x) (t := t) (k := k) (by omega) (by omega) i2.1 i3.1 i3.2
   obtain ⟨h0,h1⟩ := csE_z hc' hb.1
   exact slices_ax0 x y z p q r t k ((p - x + k) / (t + k)).toNat h hv ht hk (by omega) (by omega) (by omega) hA w
  ·have hc' : csE ((q - y + k) / (t + k)) = 0 := hc
   have hb := most_bd (l := q - y) (t := t) (k := k) (by omega) (by omega) i2.1 i3.1 i3.2
   obtain ⟨h0,h1⟩ := csE_z hc' hb.1
   exact slices_ax1 x y z p q r t k ((q - y + k) / (t + k)).toNat h hv ht hk (by omega) (by omega) (by omega) hA w
  ·have hc' : csE ((r - z + k) / (t + k)) = 0 := hc
   have hb := most_bd (l := r - z) (t := t) (k := k) (by omega) (by omega) i2.1 i3.1 i3.2
   obtain ⟨h0,h1⟩ := csE_z hc' hb.1
   exact slices_ax2 x y z p q r t k ((r - z + k) / (t + k)).toNat h hv ht hk (by omega) (by omega) (by omega) hA w
 ·exact slices_no x y z p q r a t k _ rfl h hA w
end Go.Proofs.Ytogmgaaejepcbaa

namespace Go.Proofs.Ytogmgaaejepcbaa
open Go.ChangeShapes Go.WideShapes Go.ChangeAt Go.RowKit Go.Deep

theorem kerfSlices_any (x y z p q r a t k : Int) (w : World) : Calls Try.prog 6 #[.agg #[x,y,z,p,q,r],.int .i64 a,.int .i64 t,.int .i64 k] w fun e w' => e = .returned (.bool true) ∧ Below w.heap.size w w' := slices_all x y z p q r a t k awake_any w

set_option maxHeartbeats 800000 in
set_option maxRecDepth 100000 in
theorem kerfSlices_lifted (os : Os) (started : os.Started) (H : Type) (enc : TypeId × Value → H) :
  ReturnsInHanded {} Try.checked os 6 .any (Rows.kerfSlicesSpec.pre6 enc Try.prog Try.f6 Rows.kerfSlicesRow.domain false) (Rows.kerfSlicesSpec.post enc Try.prog Try.f6 false true false false) := by
 refine returnsInHanded_of_change (C := Try.checked) Try.own started (by kernel_rfl) Try.func6
  (ChangeSpec.witness6 (enc := enc) (C := Try.checked) false ⟨#[],#[.agg #[.int .i64 0,.int .i64 0,.int .i64 0,.int .i64 0,.int .i64 0,.int .i64 0],.int .i64 0,.int .i64 0,.int .i64 0],[]⟩ 8 (by kernel_rfl) (by kernel_rfl) (by kernel_rfl) (by kernel_rfl)) ?_
 intro W base args ds gs before hval0 hW _ _
 have hval : ∀ (j : Nat) t v,Try.f6.params[j]? = some t → args[j]? = some v → Value.okWide Try.prog W .any base t v := hval0
 have hW' := hW
 obtain ⟨p,q,hA0,hV,rfl,_,_⟩ := hW
 have hA : DataW.TrodAll enc Try.prog W 0 (fun _ => true) true Try.f6.params.toList args.toList ds p := hA0
 rw [Try.params6] at hA hval
 obtain ⟨v0,v1,v2,v3,d0,d1,d2,d3,p0,p1,p2,p3,rfl,rfl,rfl,h0,h1,h2,h3⟩ := trodAll_four hA
 obtain ⟨rfl,rfl⟩ := trodVars_none hV
 clear hA0 hval0
 simp only [List.append_nil] at hW'
 have harg0 : ∀ W' : World,Below W.heap.size W W' → DataW.Trod enc Try.prog W' 0 (fun b => decide (b < W.heap.size)) true 25 v0 d0 p0 :=
  fun W' hn => Below.trod Try.laidOut (by kernel_rfl) (of_decide_eq_true (by kernel_rfl)) h0 hn (fun y hy => by simpa using hW'.lt y (by simp [hy]))
 have harg1 : ∀ W' : World,Below W.heap.size W W' → DataW.Trod enc Try.prog W' 0 (fun b => decide (b < W.heap.size)) true 3 v1 d1 p1 :=
  fun W' hn => Below.trod Try.laidOut (by kernel_rfl) (of_decide_eq_true (by kernel_rfl)) h1 hn (fun y hy => by simpa using hW'.lt y (by simp [hy]))
 have harg2 : ∀ W' : World,Below W.heap.size W W' → DataW.Trod enc Try.prog W' 0 (fun b => decide (b < W.heap.size)) true 3 v2 d2 p2 :=
  fun W' hn => Below.trod Try.laidOut (by kernel_rfl) (of_decide_eq_true (by kernel_rfl)) h2 hn (fun y hy => by simpa using hW'.lt y (by simp [hy]))
 have harg3 : ∀ W' : World,Below W.heap.size W W' → DataW.Trod enc Try.prog W' 0 (fun b => decide (b < W.heap.size)) true 3 v3 d3 p3 :=
  fun W' hn => Below.trod Try.laidOut (by kernel_rfl) (of_decide_eq_true (by kernel_rfl)) h3 hn (fun y hy => by simpa using hW'.lt y (by simp [hy]))
 obtain ⟨x,y,z,p,q,r,rfl⟩ := open_box (hval 0 25 v0 rfl rfl) h0
 obtain ⟨a,rfl,_,_,_⟩ := open_int Try.underlying3 (hval 1 3 v1 rfl rfl) h1
 obtain ⟨t,rfl,_,_,_⟩ := open_int Try.underlying3 (hval 2 3 v2 rfl rfl) h2
 obtain ⟨k,rfl,_,_,_⟩ := open_int Try.underlying3 (hval 3 3 v3 rfl rfl) h3
 refine (kerfSlices_any x y z p q r a t k W).mono fun e W' ⟨he,hn⟩ => ?_
 subst he
 exact ⟨_,rfl,_,_,_,[],_,[],hW',trodAll_mk1 (shut_bool Try.underlying4 _),trodAll_mk4 (harg0 _ hn) (harg1 _ hn) (harg2 _ hn) (harg3 _ hn),(List.append_nil _).symm,hn.frame _,fun h => by cases h⟩

theorem kerfSlices_holds : Rows.KerfSlicesSaid :=
 OpenClaim.holds_of_wide 6 Try.f6 rfl rfl rfl rfl rfl rfl rfl ⟨rfl,rfl,rfl,rfl,rfl⟩ rfl rfl rfl rfl rfl (by kernel_rfl) Try.func6 (by kernel_rfl)
  (of_decide_eq_true (by kernel_rfl)) (by unfold Func.isWrapper; first | (rw [if_pos (by decide +kernel)]; kernel_rfl) | (rw [if_neg (by decide +kernel)]; exact ⟨rfl,rfl⟩))
  (fun os started H enc _ => kerfSlices_lifted os started H enc)
end Go.Proofs.Ytogmgaaejepcbaa
