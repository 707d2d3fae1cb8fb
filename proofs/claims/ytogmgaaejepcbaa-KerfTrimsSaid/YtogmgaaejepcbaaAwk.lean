/- The walk of the law's own examples (awake): it answers true. -/
import Derived.Test.YtogmgaaejepcbaaCor
import Derived.Test.YtogmgaaejepcbaaJoi0ok
import Derived.Test.YtogmgaaejepcbaaLos
import Derived.Test.YtogmgaaejepcbaaThk
import Derived.Test.YtogmgaaejepcbaaSli0
import Derived.Test.YtogmgaaejepcbaaCut0
import Derived.Test.YtogmgaaejepcbaaTrw
import Derived.Test.YtogmgaaejepcbaaEqc
namespace Go.Proofs.Ytogmgaaejepcbaa
open Go.RowKit

theorem barE : eB 0 0 0 100 10 10 = 0 := by decide
theorem ex_split (w : World) : Calls Try.prog 14 #[.agg #[.int .i64 0,.int .i64 0,.int .i64 0,.int .i64 100,.int .i64 10,.int .i64 10],.agg #[.int .i64 0,.int .i64 40,.int .i64 8]] w fun e w' => e = .returned (.tuple #[.agg #[.int .i64 0,.int .i64 0,.int .i64 0,.int .i64 40,.int .i64 10,.int .i64 10],.agg #[.int .i64 40,.int .i64 0,.int .i64 0,.int .i64 48,.int .i64 10,.int .i64 10],.agg #[.int .i64 48,.int .i64 0,.int .i64 0,.int .i64 100,.int .i64 10,.int .i64 10],.int .i64 0]) ∧ Below w.heap.size w w' := by
 exact Split0p 0 0 0 100 10 10 40 8 barE (by decide) (by decide) w
theorem ex_loss (w : World) : Calls Try.prog 16 #[.agg #[.int .i64 0,.int .i64 0,.int .i64 0,.int .i64 100,.int .i64 10,.int .i64 10],.agg #[.int .i64 0,.int .i64 40,.int .i64 8]] w fun e w' => e = .returned (.tuple #[.int .i64 800,.int .i64 0]) ∧ Below w.heap.size w w' := by
 exact Loss0p 0 0 0 100 10 10 40 8 barE (by decide) (by decide) w
theorem ex_most (w : World) : Calls Try.prog 22 #[.int .i64 100,.int .i64 20,.int .i64 5] w fun e w' => e = .returned (.tuple #[.int .i64 4,.int .i64 0]) ∧ w = w' := Most_any 100 20 5 w
theorem ex_thick (w : World) : Calls Try.prog 23 #[.int .i64 100,.int .i64 4,.int .i64 5] w fun e w' => e = .returned (.tuple #[.int .i64 21,.int .i64 0]) ∧ w = w' := Thick_ok 100 4 5 (by decide) w
theorem ex_slices (w : World) : Calls Try.prog 28 #[.agg #[.int .i64 0,.int .i64 0,.int .i64 0,.int .i64 100,.int .i64 10,.int .i64 10],.int .i64 0,.int .i64 20,.int .i64 4] w fun e w' => ∃ g c,e = .returned (.tuple #[.slice (some ⟨g,0,none⟩) 4 c,.agg #[.int .i64 96,.int .i64 0,.int .i64 0,.int .i64 100,.int .i64 10,.int .i64 10],.int .i64 0]) ∧ g < w'.heap.size ∧ w'.cell? ⟨g,21,none⟩ = some (.int .i64 92) ∧ Below w.heap.size w w' := by
 refine (Slices0 0 0 0 100 10 10 20 4 4 barE (by decide) (by decide) (by decide) (by decide) (by decide) w).mono ?_
 rintro e w' ⟨A,c,rfl,hr,hb⟩
 obtain ⟨g,rfl,hg,hc⟩ := hr.2 (by decide)
 exact ⟨g,c,rfl,hg,hc 21 _ (by rfl),hb⟩
theorem ex_cuts (w : World) : Calls Try.prog 29 #[.agg #[.int .i64 0,.int .i64 0,.int .i64 0,.int .i64 100,.int .i64 10,.int .i64 10],.int .i64 0,.int .i64 30,.int .i64 4] w fun e w' => ∃ g c,e = .returned (.tuple #[.slice (some ⟨g,0,none⟩) 2 c,.int .i64 0]) ∧ g < w'.heap.size ∧ w'.cell? ⟨g,4,none⟩ = some (.int .i64 64) ∧ Below w.heap.size w w' := by
 refine (Cuts0 0 0 0 100 10 10 30 4 3 barE (by decide) (by decide) (by decide) (by decide) (by decide) w).mono ?_
 rintro e w' ⟨A,c,rfl,hr,hb⟩
 obtain ⟨g,rfl,hg,hc⟩ := hr.2 (by decide)
 exact ⟨g,c,rfl,hg,hc 4 _ (by rfl),hb⟩
theorem ex_trim (w : World) : Calls Try.prog 34 #[.agg #[.int .i64 0,.int .i64 0,.int .i64 0,.int .i64 100,.int .i64 10,.int .i64 10],.agg #[.int .i64 10,.int .i64 0,.int .i64 0,.int .i64 90,.int .i64 10,.int .i64 8],.int .i64 4] w fun e w' => ∃ g c,e = .returned (.tuple #[.slice (some ⟨g,0,none⟩) 2 c,.int .i64 2400,.int .i64 0]) ∧ g < w'.heap.size ∧ w'.cell? ⟨g,1,none⟩ = some (.int .i64 6) ∧ w'.cell? ⟨g,4,none⟩ = some (.int .i64 90) ∧ Below w.heap.size w w' := by
 refine (Trim_ok 0 0 0 100 10 10 10 0 0 90 10 8 4 barE (by decide) (by decide) (by decide) w).mono ?_
 rintro e w' ⟨A,c,rfl,hr,hb⟩
 obtain ⟨g,rfl,hg,hc⟩ := hr.2 (by decide)
 exact ⟨g,c,rfl,hg,hc 1 _ (by rfl),hc 4 _ (by rfl),hb⟩
theorem ex_join (w : World) : Calls Try.prog 20 #[.agg #[.int .i64 0,.int .i64 0,.int .i64 0,.int .i64 40,.int .i64 10,.int .i64 10],.agg #[.int .i64 48,.int .i64 0,.int .i64 0,.int .i64 100,.int .i64 10,.int .i64 10],.int .i64 0] w fun e w' => e = .returned (.tuple #[.agg #[.int .i64 0,.int .i64 0,.int .i64 0,.int .i64 100,.int .i64 10,.int .i64 10],.agg #[.int .i64 0,.int .i64 40,.int .i64 8],.int .i64 0]) ∧ Below w.heap.size w w' := by
 exact Join0ok 0 0 0 40 10 10 48 0 0 100 10 10 (by decide) (by decide) (by decide) (by decide) w
def awVals (w2 w6 _w11 : World) (g6 g8 g10 cp6 cp8 cp10 : Nat) : Nat → Value := fun i_ => ([.int .i64 0,.bool true,.bool true,.pointer (some ⟨w2.heap.size,3,none⟩),.pointer (some ⟨w2.heap.size,3,none⟩),.int .i64 40,.bool true,.bool true,.bool true,.pointer (some ⟨(w2.heap.size + 1),0,none⟩),.pointer (some ⟨(w2.heap.size + 1),0,none⟩),.int .i64 40,.bool true,.bool true,.bool true,.pointer (some ⟨(w2.heap.size + 1),3,none⟩),.pointer (some ⟨(w2.heap.size + 1),3,none⟩),.int .i64 48,.bool true,.bool true,.bool true,.pointer (some ⟨(w2.heap.size + 1 + 1),0,none⟩),.pointer (some ⟨(w2.heap.size + 1 + 1),0,none⟩),.int .i64 48,.bool true,.bool true,.bool true,.int .i64 0,.bool true,.bool true,.bool true,.int .i64 800,.bool true,.bool true,.bool true,.int .i64 0,.bool true,.bool true,.bool true,.int .i64 4,.bool true,.bool true,.bool true,.int .i64 0,.bool true,.bool true,.bool true,.int .i64 21,.bool true,.bool true,.bool true,.int .i64 0,.bool true,.bool true,.bool true,.slice (some ⟨g6,0,none⟩) 4 cp6,.int .i64 4,.bool true,.bool true,.bool true,.slice (some ⟨g6,0,none⟩) 4 cp6,.pointer (some ⟨g6,18,none⟩),.pointer (some ⟨g6,21,none⟩),.pointer (some ⟨g6,21,none⟩),.int .i64 92,.bool true,.bool true,.bool true,.pointer (some ⟨w6.heap.size,0,none⟩),.pointer (some ⟨w6.heap.size,0,none⟩),.int .i64 96,.bool true,.bool true,.bool true,.int .i64 0,.bool true,.bool true,.bool true,.slice (some ⟨g8,0,none⟩) 2 cp8,.int .i64 2,.bool true,.bool true,.bool true,.slice (some ⟨g8,0,none⟩) 2 cp8,.pointer (some ⟨g8,3,none⟩),.pointer (some ⟨g8,4,none⟩),.int .i64 64,.bool true,.bool true,.bool true,.int .i64 0,.bool true,.bool true,.bool true,.slice (some ⟨g10,0,none⟩) 2 cp10,.int .i64 2,.bool true,.bool true,.bool true,.slice (some ⟨g10,0,none⟩) 2 cp10,.pointer (some ⟨g10,0,none⟩),.pointer (some ⟨g10,1,none⟩),.int .i64 6,.bool true,.bool true,.bool true,.slice (some ⟨g10,0,none⟩) 2 cp10,.pointer (some ⟨g10,3,none⟩),.pointer (some ⟨g10,4,none⟩),.int .i64 90,.bool true,.bool true,.bool true,.int .i64 2400,.bool true,.bool true,.bool true,.int .i64 0,.bool true,.bool true,.bool true,.agg #[.int .i64 0,.int .i64 0,.int .i64 0,.int .i64 100,.int .i64 10,.int .i64 10],.agg #[.int .i64 0,.int .i64 0,.int .i64 0,.int .i64 100,.int .i64 10,.int .i64 10],.bool true,.bool true,.bool true,.agg #[.int .i64 0,.int .i64 40,.int .i64 8],.agg #[.int .i64 0,.int .i64 40,.int .i64 8],.bool true,.bool true,.bool true] : List Value).getD i_ undef
def awDv : Nat → List Nat := fun i_ => [[],[0],[1],[2],[2,3],[2,4],[2,5],[2,6],[7],[8],[8,9],[8,10],[8,11],[8,12],[13],[14],[14,15],[14,16],[14,17],[14,18],[19],[20],[20,21],[20,22],[20,23],[20,24],[25],[26],[26,27],[26,28],[29],[30],[30,31],[30,32],[33],[34],[34,35],[34,36],[37],[38],[38,39],[38,40],[41],[42],[42,43],[42,44],[45],[46],[46,47],[46,48],[49],[50],[50,51],[50,52],[53],[54],[54,55],[54,56],[54,57],[58],[59],[59,60],[59,61],[59,62],[59,63],[59,64],[59,65],[66],[67],[67,68],[67,69],[67,70],[67,71],[72],[73],[73,74],[73,75],[76],[77],[77,78],[77,79],[77,80],[81],[82],[82,83],[82,84],[82,85],[82,86],[82,87],[88],[89],[89,90],[89,91],[92],[93],[93,94],[93,95],[93,96],[97],[98],[98,99],[98,100],[98,101],[98,102],[98,103],[104],[105],[105,106],[105,107],[105,108],[105,109],[105,110],[111],[112],[112,113],[112,114],[115],[116],[116,117],[116,118],[119],[120],[120],[120,121,122],[120,123],[124],[125],[125],[125,126,127],[125,128],[129]].getD i_ []
structure CellK (W : World) (g o : Nat) (v : Value) : Prop where
 mk ::
 lt : g < W.heap.size
 cell : W.cell? ⟨g,o,none⟩ = some v
theorem CellK.over {W W' : World} {g o : Nat} {v : Value} (h : CellK W g o v) (hb : Below W.heap.size W W') : CellK W' g o v := ⟨Nat.lt_of_lt_of_le h.lt hb.size,(hb.cell (p := ⟨g,o,none⟩) h.lt).trans h.cell⟩
theorem CellK.alloc {W : World} {g o : Nat} {v : Value} (h : CellK W g o v) (x : Obj) : CellK (W.alloc x) g o v := h.over ((Below.refl _ _).alloc (Nat.le_refl _) x)
theorem CellK.drew {W : World} {g o : Nat} {v : Value} (h : CellK W g o v) : CellK W.drew g o v := ⟨h.lt,h.cell⟩
set_option maxHeartbeats 16000000 in
set_option maxRecDepth 100000 in
theorem awake_any (w : World) : Calls Try.prog 12 #[] w fun e w' => e = .returned (.bool true) ∧ Below w.heap.size w w' := by
 have q1 : ∀ w,Sem.run Try.prog (binOp .eql 25 (.agg #[.int .i64 0,.int .i64 0,.int .i64 0,.int .i64 100,.int .i64 10,.int .i64 10]) (.agg #[.int .i64 0,.int .i64 0,.int .i64 0,.int .i64 100,.int .i64 10,.int .i64 10])) w = .ok (.bool true) w := fun w => eqB _ _ _ _ _ _ _ _ _ _ _ _ w
 have q2 : ∀ w,Sem.run Try.prog (binOp .eql 33 (.agg #[.int .i64 0,.int .i64 40,.int .i64 8]) (.agg #[.int .i64 0,.int .i64 40,.int .i64 8])) w = .ok (.bool true) w := fun w => eqC _ _ _ _ _ _ w
 go_enter Try.func12,Try.ntmps12
 go_wp2_with (first
  | (revert hb11; intro hb11; go_at_call 39; refine (bar_any _).mono ?_; rintro e w12 ⟨rfl,hb12⟩; obtain ⟨hc12,hf12⟩ := bcell hb12; have hz12 := hb12.size; (try simp at hz12); have z0x12 : w2.heap.size < w12.heap.size := (by omega); have z1x12 : w2.heap.size + 1 < w12.heap.size := (by omega); have z2x12 : w2.heap.size + 1 + 1 < w12.heap.size := (by omega); (try have p0x12 : w2.heap.size < w12.heap.size + 1 := (by omega)); (try have p1x12 : w2.heap.size + 1 < w12.heap.size + 1 := (by omega)); (try have p2x12 : w2.heap.size + 1 + 1 < w12.heap.size + 1 := (by omega)))
  | (revert hb10; intro hb10; go_at_call 20; refine (ex_join _).mono ?_; rintro e w11 ⟨rfl,hb11⟩; obtain ⟨hc11,hf11⟩ := bcell hb11; have hz11 := hb11.size; (try simp at hz11); have z0x11 : w2.heap.size < w11.heap.size := (by omega); have z1x11 : w2.heap.size + 1 < w11.heap.size := (by omega); have z2x11 : w2.heap.size + 1 + 1 < w11.heap.size := (by omega); (try have p0x11 : w2.heap.size < w11.heap.size + 1 := (by omega)); (try have p1x11 : w2.heap.size + 1 < w11.heap.size + 1 := (by omega)); (try have p2x11 : w2.heap.size + 1 + 1 < w11.heap.size + 1 := (by omega)))
  | (revert hb9; intro hb9; go_at_call 34; refine (ex_trim _).mono ?_; rintro e w10 ⟨g10,cp10,rfl,hg10,k10a,k10b,hb10⟩; obtain ⟨hc10,hf10⟩ := bcell hb10; have hz10 := hb10.size; (try simp at hz10); have z0x10 : w2.heap.size < w10.heap.size := (by omega); have z1x10 : w2.heap.size + 1 < w10.heap.size := (by omega); have z2x10 : w2.heap.size + 1 + 1 < w10.heap.size := (by omega); (try have p0x10 : w2.heap.size < w10.heap.size + 1 := (by omega)); (try have p1x10 : w2.heap.size + 1 < w10.heap.size + 1 := (by omega)); (try have p2x10 : w2.heap.size + 1 + 1 < w10.heap.size + 1 := (by omega)))
  | (revert hb8; intro hb8; go_at_call 39; refine (bar_any _).mono ?_; rintro e w9 ⟨rfl,hb9⟩; obtain ⟨hc9,hf9⟩ := bcell hb9; have hz9 := hb9.size; (try simp at hz9); have z0x9 : w2.heap.size < w9.heap.size := (by omega); have z1x9 : w2.heap.size + 1 < w9.heap.size := (by omega); have z2x9 : w2.heap.size + 1 + 1 < w9.heap.size := (by omega); (try have p0x9 : w2.heap.size < w9.heap.size + 1 := (by omega)); (try have p1x9 : w2.heap.size + 1 < w9.heap.size + 1 := (by omega)); (try have p2x9 : w2.heap.size + 1 + 1 < w9.heap.size + 1 := (by omega)))
  | (revert hb7; intro hb7; go_at_call 29; refine (ex_cuts _).mono ?_; rintro e w8 ⟨g8,cp8,rfl,hg8,k8a,hb8⟩; obtain ⟨hc8,hf8⟩ := bcell hb8; have hz8 := hb8.size; (try simp at hz8); have z0x8 : w2.heap.size < w8.heap.size := (by omega); have z1x8 : w2.heap.size + 1 < w8.heap.size := (by omega); have z2x8 : w2.heap.size + 1 + 1 < w8.heap.size := (by omega); (try have p0x8 : w2.heap.size < w8.heap.size + 1 := (by omega)); (try have p1x8 : w2.heap.size + 1 < w8.heap.size + 1 := (by omega)); (try have p2x8 : w2.heap.size + 1 + 1 < w8.heap.size + 1 := (by omega)))
  | (revert hb6; intro hb6; go_at_call 39; refine (bar_any _).mono ?_; rintro e w7 ⟨rfl,hb7⟩; obtain ⟨hc7,hf7⟩ := bcell hb7; have hz7 := hb7.size; (try simp at hz7); have z0x7 : w2.heap.size < w7.heap.size := (by omega); have z1x7 : w2.heap.size + 1 < w7.heap.size := (by omega); have z2x7 : w2.heap.size + 1 + 1 < w7.heap.size := (by omega); (try have p0x7 : w2.heap.size < w7.heap.size + 1 := (by omega)); (try have p1x7 : w2.heap.size + 1 < w7.heap.size + 1 := (by omega)); (try have p2x7 : w2.heap.size + 1 + 1 < w7.heap.size + 1 := (by omega)))
  | (revert hb5; intro hb5; go_at_call 28; refine (ex_slices _).mono ?_; rintro e w6 ⟨g6,cp6,rfl,hg6,k6a,hb6⟩; obtain ⟨hc6,hf6⟩ := bcell hb6; have hz6 := hb6.size; (try simp at hz6); have z0x6 : w2.heap.size < w6.heap.size := (by omega); have z1x6 : w2.heap.size + 1 < w6.heap.size := (by omega); have z2x6 : w2.heap.size + 1 + 1 < w6.heap.size := (by omega); (try have p0x6 : w2.heap.size < w6.heap.size + 1 := (by omega)); (try have p1x6 : w2.heap.size + 1 < w6.heap.size + 1 := (by omega)); (try have p2x6 : w2.heap.size + 1 + 1 < w6.heap.size + 1 := (by omega)))
  | (revert hb4; intro hb4; go_at_call 39; refine (bar_any _).mono ?_; rintro e w5 ⟨rfl,hb5⟩; obtain ⟨hc5,hf5⟩ := bcell hb5; have hz5 := hb5.size; (try simp at hz5); have z0x5 : w2.heap.size < w5.heap.size := (by omega); have z1x5 : w2.heap.size + 1 < w5.heap.size := (by omega); have z2x5 : w2.heap.size + 1 + 1 < w5.heap.size := (by omega); (try have p0x5 : w2.heap.size < w5.heap.size + 1 := (by omega)); (try have p1x5 : w2.heap.size + 1 < w5.heap.size + 1 := (by omega)); (try have p2x5 : w2.heap.size + 1 + 1 < w5.heap.size + 1 := (by omega)))
  | (revert hb3; intro hb3; go_at_call 16; refine (ex_loss _).mono ?_; rintro e w4 ⟨rfl,hb4⟩; obtain ⟨hc4,hf4⟩ := bcell hb4; have hz4 := hb4.size; (try simp at hz4); have z0x4 : w2.heap.size < w4.heap.size := (by omega); have z1x4 : w2.heap.size + 1 < w4.heap.size := (by omega); have z2x4 : w2.heap.size + 1 + 1 < w4.heap.size := (by omega); (try have p0x4 : w2.heap.size < w4.heap.size + 1 := (by omega)); (try have p1x4 : w2.heap.size + 1 < w4.heap.size + 1 := (by omega)); (try have p2x4 : w2.heap.size + 1 + 1 < w4.heap.size + 1 := (by omega)))
  | (revert hb2; intro hb2; go_at_call 39; refine (bar_any _).mono ?_; rintro e w3 ⟨rfl,hb3⟩; obtain ⟨hc3,hf3⟩ := bcell hb3; have hz3 := hb3.size; (try simp at hz3); have z0x3 : w2.heap.size < w3.heap.size := (by omega); have z1x3 : w2.heap.size + 1 < w3.heap.size := (by omega); have z2x3 : w2.heap.size + 1 + 1 < w3.heap.size := (by omega); (try have p0x3 : w2.heap.size < w3.heap.size + 1 := (by omega)); (try have p1x3 : w2.heap.size + 1 < w3.heap.size + 1 := (by omega)); (try have p2x3 : w2.heap.size + 1 + 1 < w3.heap.size + 1 := (by omega)))
  | (revert hb1; intro hb1; go_at_call 14; refine (ex_split _).mono ?_; rintro e w2 ⟨rfl,hb2⟩; obtain ⟨hc2,hf2⟩ := bcell hb2; have hz2 := hb2.size; (try simp at hz2))
  | (go_at_call 39; refine (bar_any _).mono ?_; rintro e w1 ⟨rfl,hb1⟩; obtain ⟨hc1,hf1⟩ := bcell hb1; have hz1 := hb1.size; (try simp at hz1))
  | (go_at_call 22; refine (ex_most _).mono ?_; rintro e w' ⟨rfl,rfl⟩)
  | (go_at_call 23; refine (ex_thick _).mono ?_; rintro e w' ⟨rfl,rfl⟩))
 have CK6 : CellK _ g6 21 (.int .i64 92) := (CellK.over (CellK.over (CellK.over (CellK.over (CellK.over (CellK.alloc (CellK.mk hg6 k6a) _) hb7) hb8) hb9) hb10) hb11)
 have CK8 : CellK _ g8 4 (.int .i64 64) := (CellK.over (CellK.over (CellK.over (CellK.mk hg8 k8a) hb9) hb10) hb11)
 have CK10 : CellK _ g10 1 (.int .i64 6) := (CellK.over (CellK.mk hg10 k10a) hb11)
 have CK11 : CellK _ g10 4 (.int .i64 90) := (CellK.over (CellK.mk hg10 k10b) hb11)
 refine wp_region_any (by kernel_rfl) ?_
 try (change wpAny _ _ _ _ _ _ _ (World.drew _))
 refine wpAny_vals (fr := fun o => #[o 130,.pointer (some ⟨w2.heap.size,0,none⟩),.pointer (some ⟨(w2.heap.size + 1),0,none⟩),.pointer (some ⟨(w2.heap.size + 1 + 1),0,none⟩),.int .i64 0,.int .i64 800,.int .i64 0,.int .i64 4,.int .i64 0,.int .i64 21,.int .i64 0,.slice (some ⟨g6,0,none⟩) 4 cp6,.pointer (some ⟨w6.heap.size,0,none⟩),.int .i64 0,.slice (some ⟨g8,0,none⟩) 2 cp8,.int .i64 0,.slice (some ⟨g10,0,none⟩) 2 cp10,.int .i64 2400,.int .i64 0,.pointer (some ⟨w11.heap.size,0,none⟩),.pointer (some ⟨(w11.heap.size + 1),0,none⟩),.int .i64 0,.tuple #[.agg #[.int .i64 0,.int .i64 0,.int .i64 0,.int .i64 40,.int .i64 10,.int .i64 10],.agg #[.int .i64 40,.int .i64 0,.int .i64 0,.int .i64 48,.int .i64 10,.int .i64 10],.agg #[.int .i64 48,.int .i64 0,.int .i64 0,.int .i64 100,.int .i64 10,.int .i64 10],.int .i64 0],.agg #[.int .i64 0,.int .i64 0,.int .i64 0,.int .i64 100,.int .i64 10,.int .i64 10],.agg #[.int .i64 0,.int .i64 40,.int .i64 8],.tuple #[.agg #[.int .i64 0,.int .i64 0,.int .i64 0,.int .i64 40,.int .i64 10,.int .i64 10],.agg #[.int .i64 40,.int .i64 0,.int .i64 0,.int .i64 48,.int .i64 10,.int .i64 10],.agg #[.int .i64 48,.int .i64 0,.int .i64 0,.int .i64 100,.int .i64 10,.int .i64 10],.int .i64 0],.agg #[.int .i64 0,.int .i64 0,.int .i64 0,.int .i64 40,.int .i64 10,.int .i64 10],.agg #[.int .i64 40,.int .i64 0,.int .i64 0,.int .i64 48,.int .i64 10,.int .i64 10],.agg #[.int .i64 48,.int .i64 0,.int .i64 0,.int .i64 100,.int .i64 10,.int .i64 10],.int .i64 0,.tuple #[.int .i64 800,.int .i64 0],.agg #[.int .i64 0,.int .i64 0,.int .i64 0,.int .i64 100,.int .i64 10,.int .i64 10],.agg #[.int .i64 0,.int .i64 40,.int .i64 8],.tuple #[.int .i64 800,.int .i64 0],.int .i64 800,.int .i64 0,.tuple #[.int .i64 4,.int .i64 0],.tuple #[.int .i64 4,.int .i64 0],.int .i64 4,.int .i64 0,.tuple #[.int .i64 21,.int .i64 0],.tuple #[.int .i64 21,.int .i64 0],.int .i64 21,.int .i64 0,.tuple #[.slice (some ⟨g6,0,none⟩) 4 cp6,.agg #[.int .i64 96,.int .i64 0,.int .i64 0,.int .i64 100,.int .i64 10,.int .i64 10],.int .i64 0],.agg #[.int .i64 0,.int .i64 0,.int .i64 0,.int .i64 100,.int .i64 10,.int .i64 10],.tuple #[.slice (some ⟨g6,0,none⟩) 4 cp6,.agg #[.int .i64 96,.int .i64 0,.int .i64 0,.int .i64 100,.int .i64 10,.int .i64 10],.int .i64 0],.slice (some ⟨g6,0,none⟩) 4 cp6,.agg #[.int .i64 96,.int .i64 0,.int .i64 0,.int .i64 100,.int .i64 10,.int .i64 10],.int .i64 0,.tuple #[.slice (some ⟨g8,0,none⟩) 2 cp8,.int .i64 0],.agg #[.int .i64 0,.int .i64 0,.int .i64 0,.int .i64 100,.int .i64 10,.int .i64 10],.tuple #[.slice (some ⟨g8,0,none⟩) 2 cp8,.int .i64 0],.slice (some ⟨g8,0,none⟩) 2 cp8,.int .i64 0,.tuple #[.slice (some ⟨g10,0,none⟩) 2 cp10,.int .i64 2400,.int .i64 0],.agg #[.int .i64 0,.int .i64 0,.int .i64 0,.int .i64 100,.int .i64 10,.int .i64 10],.agg #[.int .i64 10,.int .i64 0,.int .i64 0],.agg #[.int .i64 90,.int .i64 10,.int .i64 8],.agg #[.int .i64 10,.int .i64 0,.int .i64 0,.int .i64 90,.int .i64 10,.int .i64 8],.tuple #[.slice (some ⟨g10,0,none⟩) 2 cp10,.int .i64 2400,.int .i64 0],.slice (some ⟨g10,0,none⟩) 2 cp10,.int .i64 2400,.int .i64 0,.tuple #[.agg #[.int .i64 0,.int .i64 0,.int .i64 0,.int .i64 100,.int .i64 10,.int .i64 10],.agg #[.int .i64 0,.int .i64 40,.int .i64 8],.int .i64 0],.agg #[.int .i64 0,.int .i64 0,.int .i64 0,.int .i64 40,.int .i64 10,.int .i64 10],.agg #[.int .i64 48,.int .i64 0,.int .i64 0,.int .i64 100,.int .i64 10,.int .i64 10],.tuple #[.agg #[.int .i64 0,.int .i64 0,.int .i64 0,.int .i64 100,.int .i64 10,.int .i64 10],.agg #[.int .i64 0,.int .i64 40,.int .i64 8],.int .i64 0],.agg #[.int .i64 0,.int .i64 0,.int .i64 0,.int .i64 100,.int .i64 10,.int .i64 10],.agg #[.int .i64 0,.int .i64 40,.int .i64 8],.int .i64 0,o 0,o 1,o 2,o 3,o 4,o 5,o 6,o 7,o 8,o 9,o 10,o 11,o 12,o 13,o 14,o 15,o 16,o 17,o 18,o 19,o 20,o 21,o 22,o 23,o 24,o 25,o 26,o 27,o 28,o 29,o 30,o 31,o 32,o 33,o 34,o 35,o 36,o 37,o 38,o 39,o 40,o 41,o 42,o 43,o 44,o 45,o 46,o 47,o 48,o 49,o 50,o 51,o 52,o 53,o 54,o 55,o 56,o 57,o 58,o 59,o 60,o 61,o 62,o 63,o 64,o 65,o 66,o 67,o 68,o 69,o 70,o 71,o 72,o 73,o 74,o 75,o 76,o 77,o 78,o 79,o 80,o 81,o 82,o 83,o 84,o 85,o 86,o 87,o 88,o 89,o 90,o 91,o 92,o 93,o 94,o 95,o 96,o 97,o 98,o 99,o 100,o 101,o 102,o 103,o 104,o 105,o 106,o 107,o 108,o 109,o 110,o 111,o 112,o 113,o 114,o 115,o 116,o 117,o 118,o 119,o 120,o 121,o 122,o 123,o 124,o 125,o 126,o 127,o 128,o 129]) (vals := awVals w2 w6 w11 g6 g8 g10 cp6 cp8 cp10) (Kf := fun _ => True) (K := fun kk_ => ([(fun W_ => (KL [((w11.heap.size + 1),33,#[.int .i64 0,.int .i64 40,.int .i64 8]),(w11.heap.size,25,#[.int .i64 0,.int .i64 0,.int .i64 0,.int .i64 100,.int .i64 10,.int .i64 10]),(w6.heap.size,25,#[.int .i64 96,.int .i64 0,.int .i64 0,.int .i64 100,.int .i64 10,.int .i64 10]),((w2.heap.size + 1 + 1),25,#[.int .i64 48,.int .i64 0,.int .i64 0,.int .i64 100,.int .i64 10,.int .i64 10]),((w2.heap.size + 1),25,#[.int .i64 40,.int .i64 0,.int .i64 0,.int .i64 48,.int .i64 10,.int .i64 10]),(w2.heap.size,25,#[.int .i64 0,.int .i64 0,.int .i64 0,.int .i64 40,.int .i64 10,.int .i64 10])] w W_ ∧ CellK W_ g6 21 (.int .i64 92) ∧ CellK W_ g8 4 (.int .i64 64) ∧ CellK W_ g10 1 (.int .i64 6) ∧ CellK W_ g10 4 (.int .i64 90)))] : List (World → Prop)).getD kk_ (fun _ => True)) (dep := fun i_ => [[],[0],[1],[2],[2,3],[2,4],[2,5],[2,6],[7],[8],[8,9],[8,10],[8,11],[8,12],[13],[14],[14,15],[14,16],[14,17],[14,18],[19],[20],[20,21],[20,22],[20,23],[20,24],[25],[26],[26,27],[26,28],[29],[30],[30,31],[30,32],[33],[34],[34,35],[34,36],[37],[38],[38,39],[38,40],[41],[42],[42,43],[42,44],[45],[46],[46,47],[46,48],[49],[50],[50,51],[50,52],[53],[54],[54,55],[54,56],[54,57],[58],[59],[59,60],[59,61],[59,62],[59,63],[59,64],[59,65],[66],[67],[67,68],[67,69],[67,70],[67,71],[72],[73],[73,74],[73,75],[76],[77],[77,78],[77,79],[77,80],[81],[82],[82,83],[82,84],[82,85],[82,86],[82,87],[88],[89],[89,90],[89,91],[92],[93],[93,94],[93,95],[93,96],[97],[98],[98,99],[98,100],[98,101],[98,102],[98,103],[104],[105],[105,106],[105,107],[105,108],[105,109],[105,110],[111],[112],[112,113],[112,114],[115],[116],[116,117],[116,118],[119],[120],[120],[120,121,122],[120,123],[124],[125],[125],[125,126,127],[125,128],[129]].getD i_ []) (dv := awDv) (kd := fun i_ => [0,0,0,0,0,1,0,0,0,0,0,1,0,0,0,0,0,1,0,0,0,0,0,1,0,0,0,0,0,0,0,0,0,0,0,0,0,0,0,0,0,0,0,0,0,0,0,0,0,0,0,0,0,0,0,0,0,0,0,0,0,0,0,0,1,0,0,0,0,0,1,0,0,0,0,0,0,0,0,0,0,0,0,0,0,0,1,0,0,0,0,0,0,0,0,0,0,0,0,0,0,0,1,0,0,0,0,0,0,1,0,0,0,0,0,0,0,0,0,0,0,1,1,0,0,0,1,0,0,0,0].getD i_ 0) (ss := []) (l := [0,1,2,3,4,5,6,7,8,9,10,11,12,13,14,15,16,17,18,19,20,21,22,23,24,25,26,27,28,29,30,31,32,33,34,35,36,37,38,39,40,41,42,43,44,45,46,47,48,49,50,51,52,53,54,55,56,57,58,59,60,61,62,63,64,65,66,67,68,69,70,71,72,73,74,75,76,77,78,79,80,81,82,83,84,85,86,87,88,89,90,91,92,93,94,95,96,97,98,99,100,101,102,103,104,105,106,107,108,109,110,111,112,113,114,115,116,117,118,119,120,121,122,123,124,125,126,127,128,129,130]) (f0 := fun i_ => ([undef,undef,undef,undef,undef,undef,undef,undef,undef,undef,undef,undef,undef,undef,undef,undef,undef,undef,undef,undef,undef,undef,undef,undef,undef,undef,undef,undef,undef,undef,undef,undef,undef,undef,undef,undef,undef,undef,undef,undef,undef,undef,undef,undef,undef,undef,undef,undef,undef,undef,undef,undef,undef,undef,undef,undef,undef,undef,undef,undef,undef,undef,undef,undef,undef,undef,undef,undef,undef,undef,undef,undef,undef,undef,undef,undef,undef,undef,undef,undef,undef,undef,undef,undef,undef,undef,undef,undef,undef,undef,undef,undef,undef,undef,undef,undef,undef,undef,undef,undef,undef,undef,undef,undef,undef,undef,undef,undef,undef,undef,undef,undef,undef,undef,undef,undef,undef,undef,undef,undef,undef,undef,undef,undef,undef,undef,undef,undef,undef,undef,.bool false] : List Value).getD i_ undef) (A := ?A1) 131 rfl rfl (by decide +kernel) (by decide +kernel) ?_ ?_ ⟨?_,?_,?_,?_,?_,?_,?_,?_,?_,?_,?_,?_,?_,?_,?_,?_,?_,?_,?_,?_,?_,?_,?_,?_,?_,?_,?_,?_,?_,?_,?_,?_,?_,?_,?_,?_,?_,?_,?_,?_,?_,?_,?_,?_,?_,?_,?_,?_,?_,?_,?_,?_,?_,?_,?_,?_,?_,?_,?_,?_,?_,?_,?_,?_,?_,?_,?_,?_,?_,?_,?_,?_,?_,?_,?_,?_,?_,?_,?_,?_,?_,?_,?_,?_,?_,?_,?_,?_,?_,?_,?_,?_,?_,?_,?_,?_,?_,?_,?_,?_,?_,?_,?_,?_,?_,?_,?_,?_,?_,?_,?_,?_,?_,?_,?_,?_,?_,?_,?_,?_,?_,?_,?_,?_,?_,?_,?_,?_,?_,?_,?_,trivial⟩ ?_ ?_
 rotate_left
 ·exact ⟨KL.drew (KL.new (g := (w11.heap.size + 1)) (KL.new (g := w11.heap.size) (KL.over (KL.over (KL.over (KL.over (KL.over (KL.new (g := w6.heap.size) (KL.over (KL.over (KL.over (KL.over (KL.new (g := (w2.heap.size + 1 + 1)) (KL.new (g := (w2.heap.size + 1)) (KL.new (g := w2.heap.size) (KL.over (KL.over (KL.nil w) hb1) hb2) rfl _ _) (by simp) _ _) (by simp) _ _) hb3) hb4) hb5) hb6) (by simp) _ _) hb7) hb8) hb9) hb10) hb11) (by simp) _ _) (by simp) _ _),((CK6.alloc _).alloc _).drew,((CK8.alloc _).alloc _).drew,((CK10.alloc _).alloc _).drew,((CK11.alloc _).alloc _).drew⟩
 ·exact fun _ _ _ _ => trivial
 ·intro o W _
  show wpOp _ _ _ 0 _ ⟨⟨_⟩,[]⟩ W
  refine wpOp_step rfl fun _ hK => ?_
  go_simp
  exact hK _ _ ⟨rfl,rfl⟩
 ·intro o W _
  show wpOp _ _ _ 1 _ ⟨⟨_::_::_::_::_::_::_::_::_::_::_::_::_::_::_::_::_::_::_::_::_::_::_::_::_::_::_::_::_::_::_::_::_::_::_::_::_::_::_::_::_::_::_::_::_::_::_::_::_::_::_::_::_::_::_::_::_::_::_::_::_::_::_::_::_::_::_::_::_::_::_::.int .i64 0::_⟩,[]⟩ W
  refine wpOp_step rfl fun _ hK => ?_
  go_simp
  exact hK _ _ ⟨rfl,rfl⟩
 ·intro o W _
  show wpOp _ _ _ 2 _ ⟨⟨_::_::_::_::_::_::_::_::_::_::_::_::_::_::_::_::_::_::_::_::_::_::_::_::_::_::_::_::_::_::_::_::_::_::_::_::_::_::_::_::_::_::_::_::_::_::_::_::_::_::_::_::_::_::_::_::_::_::_::_::_::_::_::_::_::_::_::_::_::_::_::_::.bool true::_⟩,[]⟩ W
  refine wpOp_step rfl fun _ hK => ?_
  go_simp
  exact hK _ _ ⟨rfl,rfl⟩
 ·intro o W _
  show wpOp _ _ _ 3 _ ⟨⟨_::_::_::_::_::_::_::_::_::_::_::_::_::_::_::_::_::_::_::_::_::_::_::_::_::_::_::_::_::_::_::_::_::_::_::_::_::_::_::_::_::_::_::_::_::_::_::_::_::_::_::_::_::_::_::_::_::_::_::_::_::_::_::_::_::_::_::_::_::_::_::_::_::.bool true::_⟩,[]⟩ W
  refine wpOp_step rfl fun _ hK => ?_
  go_simp
  exact hK _ _ ⟨rfl,rfl⟩
 ·intro o W _
  show wpOp _ _ _ 4 _ ⟨⟨_::_::_::_::_::_::_::_::_::_::_::_::_::_::_::_::_::_::_::_::_::_::_::_::_::_::_::_::_::_::_::_::_::_::_::_::_::_::_::_::_::_::_::_::_::_::_::_::_::_::_::_::_::_::_::_::_::_::_::_::_::_::_::_::_::_::_::_::_::_::_::_::_::.bool true::.pointer (some ⟨w2.heap.size,3,none⟩)::_⟩,[]⟩ W
  refine wpOp_step rfl fun _ hK => ?_
  go_simp
  exact hK _ _ ⟨rfl,rfl⟩
 ·intro o W hj
  have hj : (KL [((w11.heap.size + 1),33,#[.int .i64 0,.int .i64 40,.int .i64 8]),(w11.heap.size,25,#[.int .i64 0,.int .i64 0,.int .i64 0,.int .i64 100,.int .i64 10,.int .i64 10]),(w6.heap.size,25,#[.int .i64 96,.int .i64 0,.int .i64 0,.int .i64 100,.int .i64 10,.int .i64 10]),((w2.heap.size + 1 + 1),25,#[.int .i64 48,.int .i64 0,.int .i64 0,.int .i64 100,.int .i64 10,.int .i64 10]),((w2.heap.size + 1),25,#[.int .i64 40,.int .i64 0,.int .i64 0,.int .i64 48,.int .i64 10,.int .i64 10]),(w2.heap.size,25,#[.int .i64 0,.int .i64 0,.int .i64 0,.int .i64 40,.int .i64 10,.int .i64 10])] w W ∧ CellK W g6 21 (.int .i64 92) ∧ CellK W g8 4 (.int .i64 64) ∧ CellK W g10 1 (.int .i64 6) ∧ CellK W g10 4 (.int .i64 90)) := hj
  obtain ⟨hjk,kk1,kk2,kk3,kk4⟩ := hj
  obtain ⟨cL,c0,c1,c2,c3,c4,c5⟩ := bl6 (KL.blk hjk (.tail _ (.tail _ (.tail _ (.tail _ (.tail _ (.head _)))))))
  show wpOp _ _ _ 5 _ ⟨⟨_::_::_::_::_::_::_::_::_::_::_::_::_::_::_::_::_::_::_::_::_::_::_::_::_::_::_::_::_::_::_::_::_::_::_::_::_::_::_::_::_::_::_::_::_::_::_::_::_::_::_::_::_::_::_::_::_::_::_::_::_::_::_::_::_::_::_::_::_::_::_::_::_::.bool true::_::.pointer (some ⟨w2.heap.size,3,none⟩)::_⟩,[]⟩ W
  refine wpOp_step rfl fun _ hK => ?_
  go_simp
  exact hK _ _ ⟨rfl,hj⟩
 ·intro o W _
  show wpOp _ _ _ 6 _ ⟨⟨_::_::_::_::_::_::_::_::_::_::_::_::_::_::_::_::_::_::_::_::_::_::_::_::_::_::_::_::_::_::_::_::_::_::_::_::_::_::_::_::_::_::_::_::_::_::_::_::_::_::_::_::_::_::_::_::_::_::_::_::_::_::_::_::_::_::_::_::_::_::_::_::_::.bool true::_::_::.int .i64 40::_⟩,[]⟩ W
  refine wpOp_step rfl fun _ hK => ?_
  go_simp
  exact hK _ _ ⟨rfl,rfl⟩
 ·intro o W _
  show wpOp _ _ _ 7 _ ⟨⟨_::_::_::_::_::_::_::_::_::_::_::_::_::_::_::_::_::_::_::_::_::_::_::_::_::_::_::_::_::_::_::_::_::_::_::_::_::_::_::_::_::_::_::_::_::_::_::_::_::_::_::_::_::_::_::_::_::_::_::_::_::_::_::_::_::_::_::_::_::_::_::_::_::.bool true::_::_::_::.bool true::_⟩,[]⟩ W
  refine wpOp_step rfl fun _ hK => ?_
  go_simp
  exact hK _ _ ⟨rfl,rfl⟩
 ·intro o W _
  show wpOp _ _ _ 8 _ ⟨⟨_::_::_::_::_::_::_::_::_::_::_::_::_::_::_::_::_::_::_::_::_::_::_::_::_::_::_::_::_::_::_::_::_::_::_::_::_::_::_::_::_::_::_::_::_::_::_::_::_::_::_::_::_::_::_::_::_::_::_::_::_::_::_::_::_::_::_::_::_::_::_::_::_::_::_::_::_::_::.bool true::_⟩,[]⟩ W
  refine wpOp_step rfl fun _ hK => ?_
  go_simp
  exact hK _ _ ⟨rfl,rfl⟩
 ·intro o W _
  show wpOp _ _ _ 9 _ ⟨⟨_::_::_::_::_::_::_::_::_::_::_::_::_::_::_::_::_::_::_::_::_::_::_::_::_::_::_::_::_::_::_::_::_::_::_::_::_::_::_::_::_::_::_::_::_::_::_::_::_::_::_::_::_::_::_::_::_::_::_::_::_::_::_::_::_::_::_::_::_::_::_::_::_::_::_::_::_::_::_::.bool true::_⟩,[]⟩ W
  refine wpOp_step rfl fun _ hK => ?_
  go_simp
  exact hK _ _ ⟨rfl,rfl⟩
 ·intro o W _
  show wpOp _ _ _ 10 _ ⟨⟨_::_::_::_::_::_::_::_::_::_::_::_::_::_::_::_::_::_::_::_::_::_::_::_::_::_::_::_::_::_::_::_::_::_::_::_::_::_::_::_::_::_::_::_::_::_::_::_::_::_::_::_::_::_::_::_::_::_::_::_::_::_::_::_::_::_::_::_::_::_::_::_::_::_::_::_::_::_::_::.bool true::.pointer (some ⟨(w2.heap.size + 1),0,none⟩)::_⟩,[]⟩ W
  refine wpOp_step rfl fun _ hK => ?_
  go_simp
  exact hK _ _ ⟨rfl,rfl⟩
 ·intro o W hj
  have hj : (KL [((w11.heap.size + 1),33,#[.int .i64 0,.int .i64 40,.int .i64 8]),(w11.heap.size,25,#[.int .i64 0,.int .i64 0,.int .i64 0,.int .i64 100,.int .i64 10,.int .i64 10]),(w6.heap.size,25,#[.int .i64 96,.int .i64 0,.int .i64 0,.int .i64 100,.int .i64 10,.int .i64 10]),((w2.heap.size + 1 + 1),25,#[.int .i64 48,.int .i64 0,.int .i64 0,.int .i64 100,.int .i64 10,.int .i64 10]),((w2.heap.size + 1),25,#[.int .i64 40,.int .i64 0,.int .i64 0,.int .i64 48,.int .i64 10,.int .i64 10]),(w2.heap.size,25,#[.int .i64 0,.int .i64 0,.int .i64 0,.int .i64 40,.int .i64 10,.int .i64 10])] w W ∧ CellK W g6 21 (.int .i64 92) ∧ CellK W g8 4 (.int .i64 64) ∧ CellK W g10 1 (.int .i64 6) ∧ CellK W g10 4 (.int .i64 90)) := hj
  obtain ⟨hjk,kk1,kk2,kk3,kk4⟩ := hj
  obtain ⟨cL,c0,c1,c2,c3,c4,c5⟩ := bl6 (KL.blk hjk (.tail _ (.tail _ (.tail _ (.tail _ (.head _))))))
  show wpOp _ _ _ 11 _ ⟨⟨_::_::_::_::_::_::_::_::_::_::_::_::_::_::_::_::_::_::_::_::_::_::_::_::_::_::_::_::_::_::_::_::_::_::_::_::_::_::_::_::_::_::_::_::_::_::_::_::_::_::_::_::_::_::_::_::_::_::_::_::_::_::_::_::_::_::_::_::_::_::_::_::_::_::_::_::_::_::_::.bool true::_::.pointer (some ⟨(w2.heap.size + 1),0,none⟩)::_⟩,[]⟩ W
  refine wpOp_step rfl fun _ hK => ?_
  go_simp
  exact hK _ _ ⟨rfl,hj⟩
 ·intro o W _
  show wpOp _ _ _ 12 _ ⟨⟨_::_::_::_::_::_::_::_::_::_::_::_::_::_::_::_::_::_::_::_::_::_::_::_::_::_::_::_::_::_::_::_::_::_::_::_::_::_::_::_::_::_::_::_::_::_::_::_::_::_::_::_::_::_::_::_::_::_::_::_::_::_::_::_::_::_::_::_::_::_::_::_::_::_::_::_::_::_::_::.bool true::_::_::.int .i64 40::_⟩,[]⟩ W
  refine wpOp_step rfl fun _ hK => ?_
  go_simp
  exact hK _ _ ⟨rfl,rfl⟩
 ·intro o W _
  show wpOp _ _ _ 13 _ ⟨⟨_::_::_::_::_::_::_::_::_::_::_::_::_::_::_::_::_::_::_::_::_::_::_::_::_::_::_::_::_::_::_::_::_::_::_::_::_::_::_::_::_::_::_::_::_::_::_::_::_::_::_::_::_::_::_::_::_::_::_::_::_::_::_::_::_::_::_::_::_::_::_::_::_::_::_::_::_::_::_::.bool true::_::_::_::.bool true::_⟩,[]⟩ W
  refine wpOp_step rfl fun _ hK => ?_
  go_simp
  exact hK _ _ ⟨rfl,rfl⟩
 ·intro o W _
  show wpOp _ _ _ 14 _ ⟨⟨_::_::_::_::_::_::_::_::_::_::_::_::_::_::_::_::_::_::_::_::_::_::_::_::_::_::_::_::_::_::_::_::_::_::_::_::_::_::_::_::_::_::_::_::_::_::_::_::_::_::_::_::_::_::_::_::_::_::_::_::_::_::_::_::_::_::_::_::_::_::_::_::_::_::_::_::_::_::_::_::_::_::_::_::.bool true::_⟩,[]⟩ W
  refine wpOp_step rfl fun _ hK => ?_
  go_simp
  exact hK _ _ ⟨rfl,rfl⟩
 ·intro o W _
  show wpOp _ _ _ 15 _ ⟨⟨_::_::_::_::_::_::_::_::_::_::_::_::_::_::_::_::_::_::_::_::_::_::_::_::_::_::_::_::_::_::_::_::_::_::_::_::_::_::_::_::_::_::_::_::_::_::_::_::_::_::_::_::_::_::_::_::_::_::_::_::_::_::_::_::_::_::_::_::_::_::_::_::_::_::_::_::_::_::_::_::_::_::_::_::_::.bool true::_⟩,[]⟩ W
  refine wpOp_step rfl fun _ hK => ?_
  go_simp
  exact hK _ _ ⟨rfl,rfl⟩
 ·intro o W _
  show wpOp _ _ _ 16 _ ⟨⟨_::_::_::_::_::_::_::_::_::_::_::_::_::_::_::_::_::_::_::_::_::_::_::_::_::_::_::_::_::_::_::_::_::_::_::_::_::_::_::_::_::_::_::_::_::_::_::_::_::_::_::_::_::_::_::_::_::_::_::_::_::_::_::_::_::_::_::_::_::_::_::_::_::_::_::_::_::_::_::_::_::_::_::_::_::.bool true::.pointer (some ⟨(w2.heap.size + 1),3,none⟩)::_⟩,[]⟩ W
  refine wpOp_step rfl fun _ hK => ?_
  go_simp
  exact hK _ _ ⟨rfl,rfl⟩
 ·intro o W hj
  have hj : (KL [((w11.heap.size + 1),33,#[.int .i64 0,.int .i64 40,.int .i64 8]),(w11.heap.size,25,#[.int .i64 0,.int .i64 0,.int .i64 0,.int .i64 100,.int .i64 10,.int .i64 10]),(w6.heap.size,25,#[.int .i64 96,.int .i64 0,.int .i64 0,.int .i64 100,.int .i64 10,.int .i64 10]),((w2.heap.size + 1 + 1),25,#[.int .i64 48,.int .i64 0,.int .i64 0,.int .i64 100,.int .i64 10,.int .i64 10]),((w2.heap.size + 1),25,#[.int .i64 40,.int .i64 0,.int .i64 0,.int .i64 48,.int .i64 10,.int .i64 10]),(w2.heap.size,25,#[.int .i64 0,.int .i64 0,.int .i64 0,.int .i64 40,.int .i64 10,.int .i64 10])] w W ∧ CellK W g6 21 (.int .i64 92) ∧ CellK W g8 4 (.int .i64 64) ∧ CellK W g10 1 (.int .i64 6) ∧ CellK W g10 4 (.int .i64 90)) := hj
  obtain ⟨hjk,kk1,kk2,kk3,kk4⟩ := hj
  obtain ⟨cL,c0,c1,c2,c3,c4,c5⟩ := bl6 (KL.blk hjk (.tail _ (.tail _ (.tail _ (.tail _ (.head _))))))
  show wpOp _ _ _ 17 _ ⟨⟨_::_::_::_::_::_::_::_::_::_::_::_::_::_::_::_::_::_::_::_::_::_::_::_::_::_::_::_::_::_::_::_::_::_::_::_::_::_::_::_::_::_::_::_::_::_::_::_::_::_::_::_::_::_::_::_::_::_::_::_::_::_::_::_::_::_::_::_::_::_::_::_::_::_::_::_::_::_::_::_::_::_::_::_::_::.bool true::_::.pointer (some ⟨(w2.heap.size + 1),3,none⟩)::_⟩,[]⟩ W
  refine wpOp_step rfl fun _ hK => ?_
  go_simp
  exact hK _ _ ⟨rfl,hj⟩
 ·intro o W _
  show wpOp _ _ _ 18 _ ⟨⟨_::_::_::_::_::_::_::_::_::_::_::_::_::_::_::_::_::_::_::_::_::_::_::_::_::_::_::_::_::_::_::_::_::_::_::_::_::_::_::_::_::_::_::_::_::_::_::_::_::_::_::_::_::_::_::_::_::_::_::_::_::_::_::_::_::_::_::_::_::_::_::_::_::_::_::_::_::_::_::_::_::_::_::_::_::.bool true::_::_::.int .i64 48::_⟩,[]⟩ W
  refine wpOp_step rfl fun _ hK => ?_
  go_simp
  exact hK _ _ ⟨rfl,rfl⟩
 ·intro o W _
  show wpOp _ _ _ 19 _ ⟨⟨_::_::_::_::_::_::_::_::_::_::_::_::_::_::_::_::_::_::_::_::_::_::_::_::_::_::_::_::_::_::_::_::_::_::_::_::_::_::_::_::_::_::_::_::_::_::_::_::_::_::_::_::_::_::_::_::_::_::_::_::_::_::_::_::_::_::_::_::_::_::_::_::_::_::_::_::_::_::_::_::_::_::_::_::_::.bool true::_::_::_::.bool true::_⟩,[]⟩ W
  refine wpOp_step rfl fun _ hK => ?_
  go_simp
  exact hK _ _ ⟨rfl,rfl⟩
 ·intro o W _
  show wpOp _ _ _ 20 _ ⟨⟨_::_::_::_::_::_::_::_::_::_::_::_::_::_::_::_::_::_::_::_::_::_::_::_::_::_::_::_::_::_::_::_::_::_::_::_::_::_::_::_::_::_::_::_::_::_::_::_::_::_::_::_::_::_::_::_::_::_::_::_::_::_::_::_::_::_::_::_::_::_::_::_::_::_::_::_::_::_::_::_::_::_::_::_::_::_::_::_::_::_::.bool true::_⟩,[]⟩ W
  refine wpOp_step rfl fun _ hK => ?_
  go_simp
  exact hK _ _ ⟨rfl,rfl⟩
 ·intro o W _
  show wpOp _ _ _ 21 _ ⟨⟨_::_::_::_::_::_::_::_::_::_::_::_::_::_::_::_::_::_::_::_::_::_::_::_::_::_::_::_::_::_::_::_::_::_::_::_::_::_::_::_::_::_::_::_::_::_::_::_::_::_::_::_::_::_::_::_::_::_::_::_::_::_::_::_::_::_::_::_::_::_::_::_::_::_::_::_::_::_::_::_::_::_::_::_::_::_::_::_::_::_::_::.bool true::_⟩,[]⟩ W
  refine wpOp_step rfl fun _ hK => ?_
  go_simp
  exact hK _ _ ⟨rfl,rfl⟩
 ·intro o W _
  show wpOp _ _ _ 22 _ ⟨⟨_::_::_::_::_::_::_::_::_::_::_::_::_::_::_::_::_::_::_::_::_::_::_::_::_::_::_::_::_::_::_::_::_::_::_::_::_::_::_::_::_::_::_::_::_::_::_::_::_::_::_::_::_::_::_::_::_::_::_::_::_::_::_::_::_::_::_::_::_::_::_::_::_::_::_::_::_::_::_::_::_::_::_::_::_::_::_::_::_::_::_::.bool true::.pointer (some ⟨(w2.heap.size + 1 + 1),0,none⟩)::_⟩,[]⟩ W
  refine wpOp_step rfl fun _ hK => ?_
  go_simp
  exact hK _ _ ⟨rfl,rfl⟩
 ·intro o W hj
  have hj : (KL [((w11.heap.size + 1),33,#[.int .i64 0,.int .i64 40,.int .i64 8]),(w11.heap.size,25,#[.int .i64 0,.int .i64 0,.int .i64 0,.int .i64 100,.int .i64 10,.int .i64 10]),(w6.heap.size,25,#[.int .i64 96,.int .i64 0,.int .i64 0,.int .i64 100,.int .i64 10,.int .i64 10]),((w2.heap.size + 1 + 1),25,#[.int .i64 48,.int .i64 0,.int .i64 0,.int .i64 100,.int .i64 10,.int .i64 10]),((w2.heap.size + 1),25,#[.int .i64 40,.int .i64 0,.int .i64 0,.int .i64 48,.int .i64 10,.int .i64 10]),(w2.heap.size,25,#[.int .i64 0,.int .i64 0,.int .i64 0,.int .i64 40,.int .i64 10,.int .i64 10])] w W ∧ CellK W g6 21 (.int .i64 92) ∧ CellK W g8 4 (.int .i64 64) ∧ CellK W g10 1 (.int .i64 6) ∧ CellK W g10 4 (.int .i64 90)) := hj
  obtain ⟨hjk,kk1,kk2,kk3,kk4⟩ := hj
  obtain ⟨cL,c0,c1,c2,c3,c4,c5⟩ := bl6 (KL.blk hjk (.tail _ (.tail _ (.tail _ (.head _)))))
  show wpOp _ _ _ 23 _ ⟨⟨_::_::_::_::_::_::_::_::_::_::_::_::_::_::_::_::_::_::_::_::_::_::_::_::_::_::_::_::_::_::_::_::_::_::_::_::_::_::_::_::_::_::_::_::_::_::_::_::_::_::_::_::_::_::_::_::_::_::_::_::_::_::_::_::_::_::_::_::_::_::_::_::_::_::_::_::_::_::_::_::_::_::_::_::_::_::_::_::_::_::_::.bool true::_::.pointer (some ⟨(w2.heap.size + 1 + 1),0,none⟩)::_⟩,[]⟩ W
  refine wpOp_step rfl fun _ hK => ?_
  go_simp
  exact hK _ _ ⟨rfl,hj⟩
 ·intro o W _
  show wpOp _ _ _ 24 _ ⟨⟨_::_::_::_::_::_::_::_::_::_::_::_::_::_::_::_::_::_::_::_::_::_::_::_::_::_::_::_::_::_::_::_::_::_::_::_::_::_::_::_::_::_::_::_::_::_::_::_::_::_::_::_::_::_::_::_::_::_::_::_::_::_::_::_::_::_::_::_::_::_::_::_::_::_::_::_::_::_::_::_::_::_::_::_::_::_::_::_::_::_::_::.bool true::_::_::.int .i64 48::_⟩,[]⟩ W
  refine wpOp_step rfl fun _ hK => ?_
  go_simp
  exact hK _ _ ⟨rfl,rfl⟩
 ·intro o W _
  show wpOp _ _ _ 25 _ ⟨⟨_::_::_::_::_::_::_::_::_::_::_::_::_::_::_::_::_::_::_::_::_::_::_::_::_::_::_::_::_::_::_::_::_::_::_::_::_::_::_::_::_::_::_::_::_::_::_::_::_::_::_::_::_::_::_::_::_::_::_::_::_::_::_::_::_::_::_::_::_::_::_::_::_::_::_::_::_::_::_::_::_::_::_::_::_::_::_::_::_::_::_::.bool true::_::_::_::.bool true::_⟩,[]⟩ W
  refine wpOp_step rfl fun _ hK => ?_
  go_simp
  exact hK _ _ ⟨rfl,rfl⟩
 ·intro o W _
  show wpOp _ _ _ 26 _ ⟨⟨_::_::_::_::_::_::_::_::_::_::_::_::_::_::_::_::_::_::_::_::_::_::_::_::_::_::_::_::_::_::_::_::_::_::_::_::_::_::_::_::_::_::_::_::_::_::_::_::_::_::_::_::_::_::_::_::_::_::_::_::_::_::_::_::_::_::_::_::_::_::_::_::_::_::_::_::_::_::_::_::_::_::_::_::_::_::_::_::_::_::_::_::_::_::_::_::.bool true::_⟩,[]⟩ W
  refine wpOp_step rfl fun _ hK => ?_
  go_simp
  exact hK _ _ ⟨rfl,rfl⟩
 ·intro o W _
  show wpOp _ _ _ 27 _ ⟨⟨_::_::_::_::_::_::_::_::_::_::_::_::_::_::_::_::_::_::_::_::_::_::_::_::_::_::_::_::_::_::_::_::_::_::_::_::_::_::_::_::_::_::_::_::_::_::_::_::_::_::_::_::_::_::_::_::_::_::_::_::_::_::_::_::_::_::_::_::_::_::_::_::_::_::_::_::_::_::_::_::_::_::_::_::_::_::_::_::_::_::_::_::_::_::_::_::_::.bool true::_⟩,[]⟩ W
  refine wpOp_step rfl fun _ hK => ?_
  go_simp
  exact hK _ _ ⟨rfl,rfl⟩
 ·intro o W _
  show wpOp _ _ _ 28 _ ⟨⟨_::_::_::_::_::_::_::_::_::_::_::_::_::_::_::_::_::_::_::_::_::_::_::_::_::_::_::_::_::_::_::_::_::_::_::_::_::_::_::_::_::_::_::_::_::_::_::_::_::_::_::_::_::_::_::_::_::_::_::_::_::_::_::_::_::_::_::_::_::_::_::_::_::_::_::_::_::_::_::_::_::_::_::_::_::_::_::_::_::_::_::_::_::_::_::_::_::.bool true::.int .i64 0::_⟩,[]⟩ W
  refine wpOp_step rfl fun _ hK => ?_
  go_simp
  exact hK _ _ ⟨rfl,rfl⟩
 ·intro o W _
  show wpOp _ _ _ 29 _ ⟨⟨_::_::_::_::_::_::_::_::_::_::_::_::_::_::_::_::_::_::_::_::_::_::_::_::_::_::_::_::_::_::_::_::_::_::_::_::_::_::_::_::_::_::_::_::_::_::_::_::_::_::_::_::_::_::_::_::_::_::_::_::_::_::_::_::_::_::_::_::_::_::_::_::_::_::_::_::_::_::_::_::_::_::_::_::_::_::_::_::_::_::_::_::_::_::_::_::_::.bool true::_::.bool true::_⟩,[]⟩ W
  refine wpOp_step rfl fun _ hK => ?_
  go_simp
  exact hK _ _ ⟨rfl,rfl⟩
 ·intro o W _
  show wpOp _ _ _ 30 _ ⟨⟨_::_::_::_::_::_::_::_::_::_::_::_::_::_::_::_::_::_::_::_::_::_::_::_::_::_::_::_::_::_::_::_::_::_::_::_::_::_::_::_::_::_::_::_::_::_::_::_::_::_::_::_::_::_::_::_::_::_::_::_::_::_::_::_::_::_::_::_::_::_::_::_::_::_::_::_::_::_::_::_::_::_::_::_::_::_::_::_::_::_::_::_::_::_::_::_::_::_::_::_::.bool true::_⟩,[]⟩ W
  refine wpOp_step rfl fun _ hK => ?_
  go_simp
  exact hK _ _ ⟨rfl,rfl⟩
 ·intro o W _
  show wpOp _ _ _ 31 _ ⟨⟨_::_::_::_::_::_::_::_::_::_::_::_::_::_::_::_::_::_::_::_::_::_::_::_::_::_::_::_::_::_::_::_::_::_::_::_::_::_::_::_::_::_::_::_::_::_::_::_::_::_::_::_::_::_::_::_::_::_::_::_::_::_::_::_::_::_::_::_::_::_::_::_::_::_::_::_::_::_::_::_::_::_::_::_::_::_::_::_::_::_::_::_::_::_::_::_::_::_::_::_::_::.bool true::_⟩,[]⟩ W
  refine wpOp_step rfl fun _ hK => ?_
  go_simp
  exact hK _ _ ⟨rfl,rfl⟩
 ·intro o W _
  show wpOp _ _ _ 32 _ ⟨⟨_::_::_::_::_::_::_::_::_::_::_::_::_::_::_::_::_::_::_::_::_::_::_::_::_::_::_::_::_::_::_::_::_::_::_::_::_::_::_::_::_::_::_::_::_::_::_::_::_::_::_::_::_::_::_::_::_::_::_::_::_::_::_::_::_::_::_::_::_::_::_::_::_::_::_::_::_::_::_::_::_::_::_::_::_::_::_::_::_::_::_::_::_::_::_::_::_::_::_::_::_::.bool true::.int .i64 800::_⟩,[]⟩ W
  refine wpOp_step rfl fun _ hK => ?_
  go_simp
  exact hK _ _ ⟨rfl,rfl⟩
 ·intro o W _
  show wpOp _ _ _ 33 _ ⟨⟨_::_::_::_::_::_::_::_::_::_::_::_::_::_::_::_::_::_::_::_::_::_::_::_::_::_::_::_::_::_::_::_::_::_::_::_::_::_::_::_::_::_::_::_::_::_::_::_::_::_::_::_::_::_::_::_::_::_::_::_::_::_::_::_::_::_::_::_::_::_::_::_::_::_::_::_::_::_::_::_::_::_::_::_::_::_::_::_::_::_::_::_::_::_::_::_::_::_::_::_::_::.bool true::_::.bool true::_⟩,[]⟩ W
  refine wpOp_step rfl fun _ hK => ?_
  go_simp
  exact hK _ _ ⟨rfl,rfl⟩
 ·intro o W _
  show wpOp _ _ _ 34 _ ⟨⟨_::_::_::_::_::_::_::_::_::_::_::_::_::_::_::_::_::_::_::_::_::_::_::_::_::_::_::_::_::_::_::_::_::_::_::_::_::_::_::_::_::_::_::_::_::_::_::_::_::_::_::_::_::_::_::_::_::_::_::_::_::_::_::_::_::_::_::_::_::_::_::_::_::_::_::_::_::_::_::_::_::_::_::_::_::_::_::_::_::_::_::_::_::_::_::_::_::_::_::_::_::_::_::_::.bool true::_⟩,[]⟩ W
  refine wpOp_step rfl fun _ hK => ?_
  go_simp
  exact hK _ _ ⟨rfl,rfl⟩
 ·intro o W _
  show wpOp _ _ _ 35 _ ⟨⟨_::_::_::_::_::_::_::_::_::_::_::_::_::_::_::_::_::_::_::_::_::_::_::_::_::_::_::_::_::_::_::_::_::_::_::_::_::_::_::_::_::_::_::_::_::_::_::_::_::_::_::_::_::_::_::_::_::_::_::_::_::_::_::_::_::_::_::_::_::_::_::_::_::_::_::_::_::_::_::_::_::_::_::_::_::_::_::_::_::_::_::_::_::_::_::_::_::_::_::_::_::_::_::_::_::.bool true::_⟩,[]⟩ W
  refine wpOp_step rfl fun _ hK => ?_
  go_simp
  exact hK _ _ ⟨rfl,rfl⟩
 ·intro o W _
  show wpOp _ _ _ 36 _ ⟨⟨_::_::_::_::_::_::_::_::_::_::_::_::_::_::_::_::_::_::_::_::_::_::_::_::_::_::_::_::_::_::_::_::_::_::_::_::_::_::_::_::_::_::_::_::_::_::_::_::_::_::_::_::_::_::_::_::_::_::_::_::_::_::_::_::_::_::_::_::_::_::_::_::_::_::_::_::_::_::_::_::_::_::_::_::_::_::_::_::_::_::_::_::_::_::_::_::_::_::_::_::_::_::_::_::_::.bool true::.int .i64 0::_⟩,[]⟩ W
  refine wpOp_step rfl fun _ hK => ?_
  go_simp
  exact hK _ _ ⟨rfl,rfl⟩
 ·intro o W _
  show wpOp _ _ _ 37 _ ⟨⟨_::_::_::_::_::_::_::_::_::_::_::_::_::_::_::_::_::_::_::_::_::_::_::_::_::_::_::_::_::_::_::_::_::_::_::_::_::_::_::_::_::_::_::_::_::_::_::_::_::_::_::_::_::_::_::_::_::_::_::_::_::_::_::_::_::_::_::_::_::_::_::_::_::_::_::_::_::_::_::_::_::_::_::_::_::_::_::_::_::_::_::_::_::_::_::_::_::_::_::_::_::_::_::_::_::.bool true::_::.bool true::_⟩,[]⟩ W
  refine wpOp_step rfl fun _ hK => ?_
  go_simp
  exact hK _ _ ⟨rfl,rfl⟩
 ·intro o W _
  show wpOp _ _ _ 38 _ ⟨⟨_::_::_::_::_::_::_::_::_::_::_::_::_::_::_::_::_::_::_::_::_::_::_::_::_::_::_::_::_::_::_::_::_::_::_::_::_::_::_::_::_::_::_::_::_::_::_::_::_::_::_::_::_::_::_::_::_::_::_::_::_::_::_::_::_::_::_::_::_::_::_::_::_::_::_::_::_::_::_::_::_::_::_::_::_::_::_::_::_::_::_::_::_::_::_::_::_::_::_::_::_::_::_::_::_::_::_::_::.bool true::_⟩,[]⟩ W
  refine wpOp_step rfl fun _ hK => ?_
  go_simp
  exact hK _ _ ⟨rfl,rfl⟩
 ·intro o W _
  show wpOp _ _ _ 39 _ ⟨⟨_::_::_::_::_::_::_::_::_::_::_::_::_::_::_::_::_::_::_::_::_::_::_::_::_::_::_::_::_::_::_::_::_::_::_::_::_::_::_::_::_::_::_::_::_::_::_::_::_::_::_::_::_::_::_::_::_::_::_::_::_::_::_::_::_::_::_::_::_::_::_::_::_::_::_::_::_::_::_::_::_::_::_::_::_::_::_::_::_::_::_::_::_::_::_::_::_::_::_::_::_::_::_::_::_::_::_::_::_::.bool true::_⟩,[]⟩ W
  refine wpOp_step rfl fun _ hK => ?_
  go_simp
  exact hK _ _ ⟨rfl,rfl⟩
 ·intro o W _
  show wpOp _ _ _ 40 _ ⟨⟨_::_::_::_::_::_::_::_::_::_::_::_::_::_::_::_::_::_::_::_::_::_::_::_::_::_::_::_::_::_::_::_::_::_::_::_::_::_::_::_::_::_::_::_::_::_::_::_::_::_::_::_::_::_::_::_::_::_::_::_::_::_::_::_::_::_::_::_::_::_::_::_::_::_::_::_::_::_::_::_::_::_::_::_::_::_::_::_::_::_::_::_::_::_::_::_::_::_::_::_::_::_::_::_::_::_::_::_::_::.bool true::.int .i64 4::_⟩,[]⟩ W
  refine wpOp_step rfl fun _ hK => ?_
  go_simp
  exact hK _ _ ⟨rfl,rfl⟩
 ·intro o W _
  show wpOp _ _ _ 41 _ ⟨⟨_::_::_::_::_::_::_::_::_::_::_::_::_::_::_::_::_::_::_::_::_::_::_::_::_::_::_::_::_::_::_::_::_::_::_::_::_::_::_::_::_::_::_::_::_::_::_::_::_::_::_::_::_::_::_::_::_::_::_::_::_::_::_::_::_::_::_::_::_::_::_::_::_::_::_::_::_::_::_::_::_::_::_::_::_::_::_::_::_::_::_::_::_::_::_::_::_::_::_::_::_::_::_::_::_::_::_::_::_::.bool true::_::.bool true::_⟩,[]⟩ W
  refine wpOp_step rfl fun _ hK => ?_
  go_simp
  exact hK _ _ ⟨rfl,rfl⟩
 ·intro o W _
  show wpOp _ _ _ 42 _ ⟨⟨_::_::_::_::_::_::_::_::_::_::_::_::_::_::_::_::_::_::_::_::_::_::_::_::_::_::_::_::_::_::_::_::_::_::_::_::_::_::_::_::_::_::_::_::_::_::_::_::_::_::_::_::_::_::_::_::_::_::_::_::_::_::_::_::_::_::_::_::_::_::_::_::_::_::_::_::_::_::_::_::_::_::_::_::_::_::_::_::_::_::_::_::_::_::_::_::_::_::_::_::_::_::_::_::_::_::_::_::_::_::_::_::.bool true::_⟩,[]⟩ W
  refine wpOp_step rfl fun _ hK => ?_
  go_simp
  exact hK _ _ ⟨rfl,rfl⟩
 ·intro o W _
  show wpOp _ _ _ 43 _ ⟨⟨_::_::_::_::_::_::_::_::_::_::_::_::_::_::_::_::_::_::_::_::_::_::_::_::_::_::_::_::_::_::_::_::_::_::_::_::_::_::_::_::_::_::_::_::_::_::_::_::_::_::_::_::_::_::_::_::_::_::_::_::_::_::_::_::_::_::_::_::_::_::_::_::_::_::_::_::_::_::_::_::_::_::_::_::_::_::_::_::_::_::_::_::_::_::_::_::_::_::_::_::_::_::_::_::_::_::_::_::_::_::_::_::_::.bool true::_⟩,[]⟩ W
  refine wpOp_step rfl fun _ hK => ?_
  go_simp
  exact hK _ _ ⟨rfl,rfl⟩
 ·intro o W _
  show wpOp _ _ _ 44 _ ⟨⟨_::_::_::_::_::_::_::_::_::_::_::_::_::_::_::_::_::_::_::_::_::_::_::_::_::_::_::_::_::_::_::_::_::_::_::_::_::_::_::_::_::_::_::_::_::_::_::_::_::_::_::_::_::_::_::_::_::_::_::_::_::_::_::_::_::_::_::_::_::_::_::_::_::_::_::_::_::_::_::_::_::_::_::_::_::_::_::_::_::_::_::_::_::_::_::_::_::_::_::_::_::_::_::_::_::_::_::_::_::_::_::_::_::.bool true::.int .i64 0::_⟩,[]⟩ W
  refine wpOp_step rfl fun _ hK => ?_
  go_simp
  exact hK _ _ ⟨rfl,rfl⟩
 ·intro o W _
  show wpOp _ _ _ 45 _ ⟨⟨_::_::_::_::_::_::_::_::_::_::_::_::_::_::_::_::_::_::_::_::_::_::_::_::_::_::_::_::_::_::_::_::_::_::_::_::_::_::_::_::_::_::_::_::_::_::_::_::_::_::_::_::_::_::_::_::_::_::_::_::_::_::_::_::_::_::_::_::_::_::_::_::_::_::_::_::_::_::_::_::_::_::_::_::_::_::_::_::_::_::_::_::_::_::_::_::_::_::_::_::_::_::_::_::_::_::_::_::_::_::_::_::_::.bool true::_::.bool true::_⟩,[]⟩ W
  refine wpOp_step rfl fun _ hK => ?_
  go_simp
  exact hK _ _ ⟨rfl,rfl⟩
 ·intro o W _
  show wpOp _ _ _ 46 _ ⟨⟨_::_::_::_::_::_::_::_::_::_::_::_::_::_::_::_::_::_::_::_::_::_::_::_::_::_::_::_::_::_::_::_::_::_::_::_::_::_::_::_::_::_::_::_::_::_::_::_::_::_::_::_::_::_::_::_::_::_::_::_::_::_::_::_::_::_::_::_::_::_::_::_::_::_::_::_::_::_::_::_::_::_::_::_::_::_::_::_::_::_::_::_::_::_::_::_::_::_::_::_::_::_::_::_::_::_::_::_::_::_::_::_::_::_::_::_::.bool true::_⟩,[]⟩ W
  refine wpOp_step rfl fun _ hK => ?_
  go_simp
  exact hK _ _ ⟨rfl,rfl⟩
 ·intro o W _
  show wpOp _ _ _ 47 _ ⟨⟨_::_::_::_::_::_::_::_::_::_::_::_::_::_::_::_::_::_::_::_::_::_::_::_::_::_::_::_::_::_::_::_::_::_::_::_::_::_::_::_::_::_::_::_::_::_::_::_::_::_::_::_::_::_::_::_::_::_::_::_::_::_::_::_::_::_::_::_::_::_::_::_::_::_::_::_::_::_::_::_::_::_::_::_::_::_::_::_::_::_::_::_::_::_::_::_::_::_::_::_::_::_::_::_::_::_::_::_::_::_::_::_::_::_::_::_::_::.bool true::_⟩,[]⟩ W
  refine wpOp_step rfl fun _ hK => ?_
  go_simp
  exact hK _ _ ⟨rfl,rfl⟩
 ·intro o W _
  show wpOp _ _ _ 48 _ ⟨⟨_::_::_::_::_::_::_::_::_::_::_::_::_::_::_::_::_::_::_::_::_::_::_::_::_::_::_::_::_::_::_::_::_::_::_::_::_::_::_::_::_::_::_::_::_::_::_::_::_::_::_::_::_::_::_::_::_::_::_::_::_::_::_::_::_::_::_::_::_::_::_::_::_::_::_::_::_::_::_::_::_::_::_::_::_::_::_::_::_::_::_::_::_::_::_::_::_::_::_::_::_::_::_::_::_::_::_::_::_::_::_::_::_::_::_::_::_::.bool true::.int .i64 21::_⟩,[]⟩ W
  refine wpOp_step rfl fun _ hK => ?_
  go_simp
  exact hK _ _ ⟨rfl,rfl⟩
 ·intro o W _
  show wpOp _ _ _ 49 _ ⟨⟨_::_::_::_::_::_::_::_::_::_::_::_::_::_::_::_::_::_::_::_::_::_::_::_::_::_::_::_::_::_::_::_::_::_::_::_::_::_::_::_::_::_::_::_::_::_::_::_::_::_::_::_::_::_::_::_::_::_::_::_::_::_::_::_::_::_::_::_::_::_::_::_::_::_::_::_::_::_::_::_::_::_::_::_::_::_::_::_::_::_::_::_::_::_::_::_::_::_::_::_::_::_::_::_::_::_::_::_::_::_::_::_::_::_::_::_::_::.bool true::_::.bool true::_⟩,[]⟩ W
  refine wpOp_step rfl fun _ hK => ?_
  go_simp
  exact hK _ _ ⟨rfl,rfl⟩
 ·intro o W _
  show wpOp _ _ _ 50 _ ⟨⟨_::_::_::_::_::_::_::_::_::_::_::_::_::_::_::_::_::_::_::_::_::_::_::_::_::_::_::_::_::_::_::_::_::_::_::_::_::_::_::_::_::_::_::_::_::_::_::_::_::_::_::_::_::_::_::_::_::_::_::_::_::_::_::_::_::_::_::_::_::_::_::_::_::_::_::_::_::_::_::_::_::_::_::_::_::_::_::_::_::_::_::_::_::_::_::_::_::_::_::_::_::_::_::_::_::_::_::_::_::_::_::_::_::_::_::_::_::_::_::_::.bool true::_⟩,[]⟩ W
  refine wpOp_step rfl fun _ hK => ?_
  go_simp
  exact hK _ _ ⟨rfl,rfl⟩
 ·intro o W _
  show wpOp _ _ _ 51 _ ⟨⟨_::_::_::_::_::_::_::_::_::_::_::_::_::_::_::_::_::_::_::_::_::_::_::_::_::_::_::_::_::_::_::_::_::_::_::_::_::_::_::_::_::_::_::_::_::_::_::_::_::_::_::_::_::_::_::_::_::_::_::_::_::_::_::_::_::_::_::_::_::_::_::_::_::_::_::_::_::_::_::_::_::_::_::_::_::_::_::_::_::_::_::_::_::_::_::_::_::_::_::_::_::_::_::_::_::_::_::_::_::_::_::_::_::_::_::_::_::_::_::_::_::.bool true::_⟩,[]⟩ W
  refine wpOp_step rfl fun _ hK => ?_
  go_simp
  exact hK _ _ ⟨rfl,rfl⟩
 ·intro o W _
  show wpOp _ _ _ 52 _ ⟨⟨_::_::_::_::_::_::_::_::_::_::_::_::_::_::_::_::_::_::_::_::_::_::_::_::_::_::_::_::_::_::_::_::_::_::_::_::_::_::_::_::_::_::_::_::_::_::_::_::_::_::_::_::_::_::_::_::_::_::_::_::_::_::_::_::_::_::_::_::_::_::_::_::_::_::_::_::_::_::_::_::_::_::_::_::_::_::_::_::_::_::_::_::_::_::_::_::_::_::_::_::_::_::_::_::_::_::_::_::_::_::_::_::_::_::_::_::_::_::_::_::_::.bool true::.int .i64 0::_⟩,[]⟩ W
  refine wpOp_step rfl fun _ hK => ?_
  go_simp
  exact hK _ _ ⟨rfl,rfl⟩
 ·intro o W _
  show wpOp _ _ _ 53 _ ⟨⟨_::_::_::_::_::_::_::_::_::_::_::_::_::_::_::_::_::_::_::_::_::_::_::_::_::_::_::_::_::_::_::_::_::_::_::_::_::_::_::_::_::_::_::_::_::_::_::_::_::_::_::_::_::_::_::_::_::_::_::_::_::_::_::_::_::_::_::_::_::_::_::_::_::_::_::_::_::_::_::_::_::_::_::_::_::_::_::_::_::_::_::_::_::_::_::_::_::_::_::_::_::_::_::_::_::_::_::_::_::_::_::_::_::_::_::_::_::_::_::_::_::.bool true::_::.bool true::_⟩,[]⟩ W
  refine wpOp_step rfl fun _ hK => ?_
  go_simp
  exact hK _ _ ⟨rfl,rfl⟩
 ·intro o W _
  show wpOp _ _ _ 54 _ ⟨⟨_::_::_::_::_::_::_::_::_::_::_::_::_::_::_::_::_::_::_::_::_::_::_::_::_::_::_::_::_::_::_::_::_::_::_::_::_::_::_::_::_::_::_::_::_::_::_::_::_::_::_::_::_::_::_::_::_::_::_::_::_::_::_::_::_::_::_::_::_::_::_::_::_::_::_::_::_::_::_::_::_::_::_::_::_::_::_::_::_::_::_::_::_::_::_::_::_::_::_::_::_::_::_::_::_::_::_::_::_::_::_::_::_::_::_::_::_::_::_::_::_::_::_::_::.bool true::_⟩,[]⟩ W
  refine wpOp_step rfl fun _ hK => ?_
  go_simp
  exact hK _ _ ⟨rfl,rfl⟩
 ·intro o W _
  show wpOp _ _ _ 55 _ ⟨⟨_::_::_::_::_::_::_::_::_::_::_::_::_::_::_::_::_::_::_::_::_::_::_::_::_::_::_::_::_::_::_::_::_::_::_::_::_::_::_::_::_::_::_::_::_::_::_::_::_::_::_::_::_::_::_::_::_::_::_::_::_::_::_::_::_::_::_::_::_::_::_::_::_::_::_::_::_::_::_::_::_::_::_::_::_::_::_::_::_::_::_::_::_::_::_::_::_::_::_::_::_::_::_::_::_::_::_::_::_::_::_::_::_::_::_::_::_::_::_::_::_::_::_::_::_::.bool true::_⟩,[]⟩ W
  refine wpOp_step rfl fun _ hK => ?_
  go_simp
  exact hK _ _ ⟨rfl,rfl⟩
 ·intro o W _
  show wpOp _ _ _ 56 _ ⟨⟨_::_::_::_::_::_::_::_::_::_::_::_::_::_::_::_::_::_::_::_::_::_::_::_::_::_::_::_::_::_::_::_::_::_::_::_::_::_::_::_::_::_::_::_::_::_::_::_::_::_::_::_::_::_::_::_::_::_::_::_::_::_::_::_::_::_::_::_::_::_::_::_::_::_::_::_::_::_::_::_::_::_::_::_::_::_::_::_::_::_::_::_::_::_::_::_::_::_::_::_::_::_::_::_::_::_::_::_::_::_::_::_::_::_::_::_::_::_::_::_::_::_::_::_::_::.bool true::.slice (some ⟨g6,0,none⟩) 4 cp6::_⟩,[]⟩ W
  refine wpOp_step rfl fun _ hK => ?_
  go_simp
  exact hK _ _ ⟨rfl,rfl⟩
 ·intro o W _
  show wpOp _ _ _ 57 _ ⟨⟨_::_::_::_::_::_::_::_::_::_::_::_::_::_::_::_::_::_::_::_::_::_::_::_::_::_::_::_::_::_::_::_::_::_::_::_::_::_::_::_::_::_::_::_::_::_::_::_::_::_::_::_::_::_::_::_::_::_::_::_::_::_::_::_::_::_::_::_::_::_::_::_::_::_::_::_::_::_::_::_::_::_::_::_::_::_::_::_::_::_::_::_::_::_::_::_::_::_::_::_::_::_::_::_::_::_::_::_::_::_::_::_::_::_::_::_::_::_::_::_::_::_::_::_::_::.bool true::_::.int .i64 4::_⟩,[]⟩ W
  refine wpOp_step rfl fun _ hK => ?_
  go_simp
  exact hK _ _ ⟨rfl,rfl⟩
 ·intro o W _
  show wpOp _ _ _ 58 _ ⟨⟨_::_::_::_::_::_::_::_::_::_::_::_::_::_::_::_::_::_::_::_::_::_::_::_::_::_::_::_::_::_::_::_::_::_::_::_::_::_::_::_::_::_::_::_::_::_::_::_::_::_::_::_::_::_::_::_::_::_::_::_::_::_::_::_::_::_::_::_::_::_::_::_::_::_::_::_::_::_::_::_::_::_::_::_::_::_::_::_::_::_::_::_::_::_::_::_::_::_::_::_::_::_::_::_::_::_::_::_::_::_::_::_::_::_::_::_::_::_::_::_::_::_::_::_::_::.bool true::_::_::.bool true::_⟩,[]⟩ W
  refine wpOp_step rfl fun _ hK => ?_
  go_simp
  exact hK _ _ ⟨rfl,rfl⟩
 ·intro o W _
  show wpOp _ _ _ 59 _ ⟨⟨_::_::_::_::_::_::_::_::_::_::_::_::_::_::_::_::_::_::_::_::_::_::_::_::_::_::_::_::_::_::_::_::_::_::_::_::_::_::_::_::_::_::_::_::_::_::_::_::_::_::_::_::_::_::_::_::_::_::_::_::_::_::_::_::_::_::_::_::_::_::_::_::_::_::_::_::_::_::_::_::_::_::_::_::_::_::_::_::_::_::_::_::_::_::_::_::_::_::_::_::_::_::_::_::_::_::_::_::_::_::_::_::_::_::_::_::_::_::_::_::_::_::_::_::_::_::_::_::_::.bool true::_⟩,[]⟩ W
  refine wpOp_step rfl fun _ hK => ?_
  go_simp
  exact hK _ _ ⟨rfl,rfl⟩
 ·intro o W _
  show wpOp _ _ _ 60 _ ⟨⟨_::_::_::_::_::_::_::_::_::_::_::_::_::_::_::_::_::_::_::_::_::_::_::_::_::_::_::_::_::_::_::_::_::_::_::_::_::_::_::_::_::_::_::_::_::_::_::_::_::_::_::_::_::_::_::_::_::_::_::_::_::_::_::_::_::_::_::_::_::_::_::_::_::_::_::_::_::_::_::_::_::_::_::_::_::_::_::_::_::_::_::_::_::_::_::_::_::_::_::_::_::_::_::_::_::_::_::_::_::_::_::_::_::_::_::_::_::_::_::_::_::_::_::_::_::_::_::_::_::_::.bool true::_⟩,[]⟩ W
  refine wpOp_step rfl fun _ hK => ?_
  go_simp
  exact hK _ _ ⟨rfl,rfl⟩
 ·intro o W _
  show wpOp _ _ _ 61 _ ⟨#[_,_,_,_,_,_,_,_,_,_,_,_,_,_,_,_,_,_,_,_,_,_,_,_,_,_,_,_,_,_,_,_,_,_,_,_,_,_,_,_,_,_,_,_,_,_,_,_,_,_,_,_,_,_,_,_,_,_,_,_,_,_,_,_,_,_,_,_,_,_,_,_,_,_,_,_,_,_,_,_,_,_,_,_,_,_,_,_,_,_,_,_,_,_,_,_,_,_,_,_,_,_,_,_,_,_,_,_,_,_,_,_,_,_,_,_,_,_,_,_,_,_,_,_,_,_,_,_,_,_,.bool true,.slice (some ⟨g6,0,none⟩) 4 cp6,_,_,_,_,_,_,_,_,_,_,_,_,_,_,_,_,_,_,_,_,_,_,_,_,_,_,_,_,_,_,_,_,_,_,_,_,_,_,_,_,_,_,_,_,_,_,_,_,_,_,_,_,_,_,_,_,_,_,_,_,_,_,_,_,_,_,_,_,_],[]⟩ W
  refine wpOp_step rfl fun _ hK => ?_
  go_simp
  exact hK _ _ ⟨rfl,rfl⟩
 ·intro o W _
  show wpOp _ _ _ 62 _ ⟨#[_,_,_,_,_,_,_,_,_,_,_,_,_,_,_,_,_,_,_,_,_,_,_,_,_,_,_,_,_,_,_,_,_,_,_,_,_,_,_,_,_,_,_,_,_,_,_,_,_,_,_,_,_,_,_,_,_,_,_,_,_,_,_,_,_,_,_,_,_,_,_,_,_,_,_,_,_,_,_,_,_,_,_,_,_,_,_,_,_,_,_,_,_,_,_,_,_,_,_,_,_,_,_,_,_,_,_,_,_,_,_,_,_,_,_,_,_,_,_,_,_,_,_,_,_,_,_,_,_,_,.bool true,_,.pointer (some ⟨g6,18,none⟩),_,_,_,_,_,_,_,_,_,_,_,_,_,_,_,_,_,_,_,_,_,_,_,_,_,_,_,_,_,_,_,_,_,_,_,_,_,_,_,_,_,_,_,_,_,_,_,_,_,_,_,_,_,_,_,_,_,_,_,_,_,_,_,_,_,_,_,_],[]⟩ W
  refine wpOp_step rfl fun _ hK => ?_
  go_simp
  exact hK _ _ ⟨rfl,rfl⟩
 ·intro o W _
  show wpOp _ _ _ 63 _ ⟨#[_,_,_,_,_,_,_,_,_,_,_,_,_,_,_,_,_,_,_,_,_,_,_,_,_,_,_,_,_,_,_,_,_,_,_,_,_,_,_,_,_,_,_,_,_,_,_,_,_,_,_,_,_,_,_,_,_,_,_,_,_,_,_,_,_,_,_,_,_,_,_,_,_,_,_,_,_,_,_,_,_,_,_,_,_,_,_,_,_,_,_,_,_,_,_,_,_,_,_,_,_,_,_,_,_,_,_,_,_,_,_,_,_,_,_,_,_,_,_,_,_,_,_,_,_,_,_,_,_,_,.bool true,_,_,.pointer (some ⟨g6,21,none⟩),_,_,_,_,_,_,_,_,_,_,_,_,_,_,_,_,_,_,_,_,_,_,_,_,_,_,_,_,_,_,_,_,_,_,_,_,_,_,_,_,_,_,_,_,_,_,_,_,_,_,_,_,_,_,_,_,_,_,_,_,_,_,_,_,_,_,_],[]⟩ W
  refine wpOp_step rfl fun _ hK => ?_
  go_simp
  exact hK _ _ ⟨rfl,rfl⟩
 ·intro o W hj
  have hj : (KL [((w11.heap.size + 1),33,#[.int .i64 0,.int .i64 40,.int .i64 8]),(w11.heap.size,25,#[.int .i64 0,.int .i64 0,.int .i64 0,.int .i64 100,.int .i64 10,.int .i64 10]),(w6.heap.size,25,#[.int .i64 96,.int .i64 0,.int .i64 0,.int .i64 100,.int .i64 10,.int .i64 10]),((w2.heap.size + 1 + 1),25,#[.int .i64 48,.int .i64 0,.int .i64 0,.int .i64 100,.int .i64 10,.int .i64 10]),((w2.heap.size + 1),25,#[.int .i64 40,.int .i64 0,.int .i64 0,.int .i64 48,.int .i64 10,.int .i64 10]),(w2.heap.size,25,#[.int .i64 0,.int .i64 0,.int .i64 0,.int .i64 40,.int .i64 10,.int .i64 10])] w W ∧ CellK W g6 21 (.int .i64 92) ∧ CellK W g8 4 (.int .i64 64) ∧ CellK W g10 1 (.int .i64 6) ∧ CellK W g10 4 (.int .i64 90)) := hj
  obtain ⟨hjk,kk1,kk2,kk3,kk4⟩ := hj
  obtain ⟨cL,c0⟩ := kk1
  show wpOp _ _ _ 64 _ ⟨#[_,_,_,_,_,_,_,_,_,_,_,_,_,_,_,_,_,_,_,_,_,_,_,_,_,_,_,_,_,_,_,_,_,_,_,_,_,_,_,_,_,_,_,_,_,_,_,_,_,_,_,_,_,_,_,_,_,_,_,_,_,_,_,_,_,_,_,_,_,_,_,_,_,_,_,_,_,_,_,_,_,_,_,_,_,_,_,_,_,_,_,_,_,_,_,_,_,_,_,_,_,_,_,_,_,_,_,_,_,_,_,_,_,_,_,_,_,_,_,_,_,_,_,_,_,_,_,_,_,_,.bool true,_,_,_,.pointer (some ⟨g6,21,none⟩),_,_,_,_,_,_,_,_,_,_,_,_,_,_,_,_,_,_,_,_,_,_,_,_,_,_,_,_,_,_,_,_,_,_,_,_,_,_,_,_,_,_,_,_,_,_,_,_,_,_,_,_,_,_,_,_,_,_,_,_,_,_,_,_,_,_],[]⟩ W
  refine wpOp_step rfl fun _ hK => ?_
  go_simp
  exact hK _ _ ⟨rfl,hj⟩
 ·intro o W _
  show wpOp _ _ _ 65 _ ⟨#[_,_,_,_,_,_,_,_,_,_,_,_,_,_,_,_,_,_,_,_,_,_,_,_,_,_,_,_,_,_,_,_,_,_,_,_,_,_,_,_,_,_,_,_,_,_,_,_,_,_,_,_,_,_,_,_,_,_,_,_,_,_,_,_,_,_,_,_,_,_,_,_,_,_,_,_,_,_,_,_,_,_,_,_,_,_,_,_,_,_,_,_,_,_,_,_,_,_,_,_,_,_,_,_,_,_,_,_,_,_,_,_,_,_,_,_,_,_,_,_,_,_,_,_,_,_,_,_,_,_,.bool true,_,_,_,_,.int .i64 92,_,_,_,_,_,_,_,_,_,_,_,_,_,_,_,_,_,_,_,_,_,_,_,_,_,_,_,_,_,_,_,_,_,_,_,_,_,_,_,_,_,_,_,_,_,_,_,_,_,_,_,_,_,_,_,_,_,_,_,_,_,_,_,_,_],[]⟩ W
  refine wpOp_step rfl fun _ hK => ?_
  go_simp
  exact hK _ _ ⟨rfl,rfl⟩
 ·intro o W _
  show wpOp _ _ _ 66 _ ⟨#[_,_,_,_,_,_,_,_,_,_,_,_,_,_,_,_,_,_,_,_,_,_,_,_,_,_,_,_,_,_,_,_,_,_,_,_,_,_,_,_,_,_,_,_,_,_,_,_,_,_,_,_,_,_,_,_,_,_,_,_,_,_,_,_,_,_,_,_,_,_,_,_,_,_,_,_,_,_,_,_,_,_,_,_,_,_,_,_,_,_,_,_,_,_,_,_,_,_,_,_,_,_,_,_,_,_,_,_,_,_,_,_,_,_,_,_,_,_,_,_,_,_,_,_,_,_,_,_,_,_,.bool true,_,_,_,_,_,.bool true,_,_,_,_,_,_,_,_,_,_,_,_,_,_,_,_,_,_,_,_,_,_,_,_,_,_,_,_,_,_,_,_,_,_,_,_,_,_,_,_,_,_,_,_,_,_,_,_,_,_,_,_,_,_,_,_,_,_,_,_,_,_,_,_],[]⟩ W
  refine wpOp_step rfl fun _ hK => ?_
  go_simp
  exact hK _ _ ⟨rfl,rfl⟩
 ·intro o W _
  show wpOp _ _ _ 67 _ ⟨#[_,_,_,_,_,_,_,_,_,_,_,_,_,_,_,_,_,_,_,_,_,_,_,_,_,_,_,_,_,_,_,_,_,_,_,_,_,_,_,_,_,_,_,_,_,_,_,_,_,_,_,_,_,_,_,_,_,_,_,_,_,_,_,_,_,_,_,_,_,_,_,_,_,_,_,_,_,_,_,_,_,_,_,_,_,_,_,_,_,_,_,_,_,_,_,_,_,_,_,_,_,_,_,_,_,_,_,_,_,_,_,_,_,_,_,_,_,_,_,_,_,_,_,_,_,_,_,_,_,_,_,_,_,_,_,_,_,.bool true,_,_,_,_,_,_,_,_,_,_,_,_,_,_,_,_,_,_,_,_,_,_,_,_,_,_,_,_,_,_,_,_,_,_,_,_,_,_,_,_,_,_,_,_,_,_,_,_,_,_,_,_,_,_,_,_,_,_,_,_,_,_,_],[]⟩ W
  refine wpOp_step rfl fun _ hK => ?_
  go_simp
  exact hK _ _ ⟨rfl,rfl⟩
 ·intro o W _
  show wpOp _ _ _ 68 _ ⟨#[_,_,_,_,_,_,_,_,_,_,_,_,_,_,_,_,_,_,_,_,_,_,_,_,_,_,_,_,_,_,_,_,_,_,_,_,_,_,_,_,_,_,_,_,_,_,_,_,_,_,_,_,_,_,_,_,_,_,_,_,_,_,_,_,_,_,_,_,_,_,_,_,_,_,_,_,_,_,_,_,_,_,_,_,_,_,_,_,_,_,_,_,_,_,_,_,_,_,_,_,_,_,_,_,_,_,_,_,_,_,_,_,_,_,_,_,_,_,_,_,_,_,_,_,_,_,_,_,_,_,_,_,_,_,_,_,_,_,.bool true,_,_,_,_,_,_,_,_,_,_,_,_,_,_,_,_,_,_,_,_,_,_,_,_,_,_,_,_,_,_,_,_,_,_,_,_,_,_,_,_,_,_,_,_,_,_,_,_,_,_,_,_,_,_,_,_,_,_,_,_,_,_],[]⟩ W
  refine wpOp_step rfl fun _ hK => ?_
  go_simp
  exact hK _ _ ⟨rfl,rfl⟩
 ·intro o W _
  show wpOp _ _ _ 69 _ ⟨#[_,_,_,_,_,_,_,_,_,_,_,_,_,_,_,_,_,_,_,_,_,_,_,_,_,_,_,_,_,_,_,_,_,_,_,_,_,_,_,_,_,_,_,_,_,_,_,_,_,_,_,_,_,_,_,_,_,_,_,_,_,_,_,_,_,_,_,_,_,_,_,_,_,_,_,_,_,_,_,_,_,_,_,_,_,_,_,_,_,_,_,_,_,_,_,_,_,_,_,_,_,_,_,_,_,_,_,_,_,_,_,_,_,_,_,_,_,_,_,_,_,_,_,_,_,_,_,_,_,_,_,_,_,_,_,_,_,_,.bool true,.pointer (some ⟨w6.heap.size,0,none⟩),_,_,_,_,_,_,_,_,_,_,_,_,_,_,_,_,_,_,_,_,_,_,_,_,_,_,_,_,_,_,_,_,_,_,_,_,_,_,_,_,_,_,_,_,_,_,_,_,_,_,_,_,_,_,_,_,_,_,_,_,_],[]⟩ W
  refine wpOp_step rfl fun _ hK => ?_
  go_simp
  exact hK _ _ ⟨rfl,rfl⟩
 ·intro o W hj
  have hj : (KL [((w11.heap.size + 1),33,#[.int .i64 0,.int .i64 40,.int .i64 8]),(w11.heap.size,25,#[.int .i64 0,.int .i64 0,.int .i64 0,.int .i64 100,.int .i64 10,.int .i64 10]),(w6.heap.size,25,#[.int .i64 96,.int .i64 0,.int .i64 0,.int .i64 100,.int .i64 10,.int .i64 10]),((w2.heap.size + 1 + 1),25,#[.int .i64 48,.int .i64 0,.int .i64 0,.int .i64 100,.int .i64 10,.int .i64 10]),((w2.heap.size + 1),25,#[.int .i64 40,.int .i64 0,.int .i64 0,.int .i64 48,.int .i64 10,.int .i64 10]),(w2.heap.size,25,#[.int .i64 0,.int .i64 0,.int .i64 0,.int .i64 40,.int .i64 10,.int .i64 10])] w W ∧ CellK W g6 21 (.int .i64 92) ∧ CellK W g8 4 (.int .i64 64) ∧ CellK W g10 1 (.int .i64 6) ∧ CellK W g10 4 (.int .i64 90)) := hj
  obtain ⟨hjk,kk1,kk2,kk3,kk4⟩ := hj
  obtain ⟨cL,c0,c1,c2,c3,c4,c5⟩ := bl6 (KL.blk hjk (.tail _ (.tail _ (.head _))))
  show wpOp _ _ _ 70 _ ⟨#[_,_,_,_,_,_,_,_,_,_,_,_,_,_,_,_,_,_,_,_,_,_,_,_,_,_,_,_,_,_,_,_,_,_,_,_,_,_,_,_,_,_,_,_,_,_,_,_,_,_,_,_,_,_,_,_,_,_,_,_,_,_,_,_,_,_,_,_,_,_,_,_,_,_,_,_,_,_,_,_,_,_,_,_,_,_,_,_,_,_,_,_,_,_,_,_,_,_,_,_,_,_,_,_,_,_,_,_,_,_,_,_,_,_,_,_,_,_,_,_,_,_,_,_,_,_,_,_,_,_,_,_,_,_,_,_,_,_,.bool true,_,.pointer (some ⟨w6.heap.size,0,none⟩),_,_,_,_,_,_,_,_,_,_,_,_,_,_,_,_,_,_,_,_,_,_,_,_,_,_,_,_,_,_,_,_,_,_,_,_,_,_,_,_,_,_,_,_,_,_,_,_,_,_,_,_,_,_,_,_,_,_,_,_],[]⟩ W
  refine wpOp_step rfl fun _ hK => ?_
  go_simp
  exact hK _ _ ⟨rfl,hj⟩
 ·intro o W _
  show wpOp _ _ _ 71 _ ⟨#[_,_,_,_,_,_,_,_,_,_,_,_,_,_,_,_,_,_,_,_,_,_,_,_,_,_,_,_,_,_,_,_,_,_,_,_,_,_,_,_,_,_,_,_,_,_,_,_,_,_,_,_,_,_,_,_,_,_,_,_,_,_,_,_,_,_,_,_,_,_,_,_,_,_,_,_,_,_,_,_,_,_,_,_,_,_,_,_,_,_,_,_,_,_,_,_,_,_,_,_,_,_,_,_,_,_,_,_,_,_,_,_,_,_,_,_,_,_,_,_,_,_,_,_,_,_,_,_,_,_,_,_,_,_,_,_,_,_,.bool true,_,_,.int .i64 96,_,_,_,_,_,_,_,_,_,_,_,_,_,_,_,_,_,_,_,_,_,_,_,_,_,_,_,_,_,_,_,_,_,_,_,_,_,_,_,_,_,_,_,_,_,_,_,_,_,_,_,_,_,_,_,_,_,_,_],[]⟩ W
  refine wpOp_step rfl fun _ hK => ?_
  go_simp
  exact hK _ _ ⟨rfl,rfl⟩
 ·intro o W _
  show wpOp _ _ _ 72 _ ⟨#[_,_,_,_,_,_,_,_,_,_,_,_,_,_,_,_,_,_,_,_,_,_,_,_,_,_,_,_,_,_,_,_,_,_,_,_,_,_,_,_,_,_,_,_,_,_,_,_,_,_,_,_,_,_,_,_,_,_,_,_,_,_,_,_,_,_,_,_,_,_,_,_,_,_,_,_,_,_,_,_,_,_,_,_,_,_,_,_,_,_,_,_,_,_,_,_,_,_,_,_,_,_,_,_,_,_,_,_,_,_,_,_,_,_,_,_,_,_,_,_,_,_,_,_,_,_,_,_,_,_,_,_,_,_,_,_,_,_,.bool true,_,_,_,.bool true,_,_,_,_,_,_,_,_,_,_,_,_,_,_,_,_,_,_,_,_,_,_,_,_,_,_,_,_,_,_,_,_,_,_,_,_,_,_,_,_,_,_,_,_,_,_,_,_,_,_,_,_,_,_,_,_,_,_],[]⟩ W
  refine wpOp_step rfl fun _ hK => ?_
  go_simp
  exact hK _ _ ⟨rfl,rfl⟩
 ·intro o W _
  show wpOp _ _ _ 73 _ ⟨#[_,_,_,_,_,_,_,_,_,_,_,_,_,_,_,_,_,_,_,_,_,_,_,_,_,_,_,_,_,_,_,_,_,_,_,_,_,_,_,_,_,_,_,_,_,_,_,_,_,_,_,_,_,_,_,_,_,_,_,_,_,_,_,_,_,_,_,_,_,_,_,_,_,_,_,_,_,_,_,_,_,_,_,_,_,_,_,_,_,_,_,_,_,_,_,_,_,_,_,_,_,_,_,_,_,_,_,_,_,_,_,_,_,_,_,_,_,_,_,_,_,_,_,_,_,_,_,_,_,_,_,_,_,_,_,_,_,_,_,_,_,_,_,.bool true,_,_,_,_,_,_,_,_,_,_,_,_,_,_,_,_,_,_,_,_,_,_,_,_,_,_,_,_,_,_,_,_,_,_,_,_,_,_,_,_,_,_,_,_,_,_,_,_,_,_,_,_,_,_,_,_,_],[]⟩ W
  refine wpOp_step rfl fun _ hK => ?_
  go_simp
  exact hK _ _ ⟨rfl,rfl⟩
 ·intro o W _
  show wpOp _ _ _ 74 _ ⟨#[_,_,_,_,_,_,_,_,_,_,_,_,_,_,_,_,_,_,_,_,_,_,_,_,_,_,_,_,_,_,_,_,_,_,_,_,_,_,_,_,_,_,_,_,_,_,_,_,_,_,_,_,_,_,_,_,_,_,_,_,_,_,_,_,_,_,_,_,_,_,_,_,_,_,_,_,_,_,_,_,_,_,_,_,_,_,_,_,_,_,_,_,_,_,_,_,_,_,_,_,_,_,_,_,_,_,_,_,_,_,_,_,_,_,_,_,_,_,_,_,_,_,_,_,_,_,_,_,_,_,_,_,_,_,_,_,_,_,_,_,_,_,_,_,.bool true,_,_,_,_,_,_,_,_,_,_,_,_,_,_,_,_,_,_,_,_,_,_,_,_,_,_,_,_,_,_,_,_,_,_,_,_,_,_,_,_,_,_,_,_,_,_,_,_,_,_,_,_,_,_,_,_],[]⟩ W
  refine wpOp_step rfl fun _ hK => ?_
  go_simp
  exact hK _ _ ⟨rfl,rfl⟩
 ·intro o W _
  show wpOp _ _ _ 75 _ ⟨#[_,_,_,_,_,_,_,_,_,_,_,_,_,_,_,_,_,_,_,_,_,_,_,_,_,_,_,_,_,_,_,_,_,_,_,_,_,_,_,_,_,_,_,_,_,_,_,_,_,_,_,_,_,_,_,_,_,_,_,_,_,_,_,_,_,_,_,_,_,_,_,_,_,_,_,_,_,_,_,_,_,_,_,_,_,_,_,_,_,_,_,_,_,_,_,_,_,_,_,_,_,_,_,_,_,_,_,_,_,_,_,_,_,_,_,_,_,_,_,_,_,_,_,_,_,_,_,_,_,_,_,_,_,_,_,_,_,_,_,_,_,_,_,_,.bool true,.int .i64 0,_,_,_,_,_,_,_,_,_,_,_,_,_,_,_,_,_,_,_,_,_,_,_,_,_,_,_,_,_,_,_,_,_,_,_,_,_,_,_,_,_,_,_,_,_,_,_,_,_,_,_,_,_,_,_],[]⟩ W
  refine wpOp_step rfl fun _ hK => ?_
  go_simp
  exact hK _ _ ⟨rfl,rfl⟩
 ·intro o W _
  show wpOp _ _ _ 76 _ ⟨#[_,_,_,_,_,_,_,_,_,_,_,_,_,_,_,_,_,_,_,_,_,_,_,_,_,_,_,_,_,_,_,_,_,_,_,_,_,_,_,_,_,_,_,_,_,_,_,_,_,_,_,_,_,_,_,_,_,_,_,_,_,_,_,_,_,_,_,_,_,_,_,_,_,_,_,_,_,_,_,_,_,_,_,_,_,_,_,_,_,_,_,_,_,_,_,_,_,_,_,_,_,_,_,_,_,_,_,_,_,_,_,_,_,_,_,_,_,_,_,_,_,_,_,_,_,_,_,_,_,_,_,_,_,_,_,_,_,_,_,_,_,_,_,_,.bool true,_,.bool true,_,_,_,_,_,_,_,_,_,_,_,_,_,_,_,_,_,_,_,_,_,_,_,_,_,_,_,_,_,_,_,_,_,_,_,_,_,_,_,_,_,_,_,_,_,_,_,_,_,_,_,_,_,_],[]⟩ W
  refine wpOp_step rfl fun _ hK => ?_
  go_simp
  exact hK _ _ ⟨rfl,rfl⟩
 ·intro o W _
  show wpOp _ _ _ 77 _ ⟨#[_,_,_,_,_,_,_,_,_,_,_,_,_,_,_,_,_,_,_,_,_,_,_,_,_,_,_,_,_,_,_,_,_,_,_,_,_,_,_,_,_,_,_,_,_,_,_,_,_,_,_,_,_,_,_,_,_,_,_,_,_,_,_,_,_,_,_,_,_,_,_,_,_,_,_,_,_,_,_,_,_,_,_,_,_,_,_,_,_,_,_,_,_,_,_,_,_,_,_,_,_,_,_,_,_,_,_,_,_,_,_,_,_,_,_,_,_,_,_,_,_,_,_,_,_,_,_,_,_,_,_,_,_,_,_,_,_,_,_,_,_,_,_,_,_,_,_,.bool true,_,_,_,_,_,_,_,_,_,_,_,_,_,_,_,_,_,_,_,_,_,_,_,_,_,_,_,_,_,_,_,_,_,_,_,_,_,_,_,_,_,_,_,_,_,_,_,_,_,_,_,_,_],[]⟩ W
  refine wpOp_step rfl fun _ hK => ?_
  go_simp
  exact hK _ _ ⟨rfl,rfl⟩
 ·intro o W _
  show wpOp _ _ _ 78 _ ⟨#[_,_,_,_,_,_,_,_,_,_,_,_,_,_,_,_,_,_,_,_,_,_,_,_,_,_,_,_,_,_,_,_,_,_,_,_,_,_,_,_,_,_,_,_,_,_,_,_,_,_,_,_,_,_,_,_,_,_,_,_,_,_,_,_,_,_,_,_,_,_,_,_,_,_,_,_,_,_,_,_,_,_,_,_,_,_,_,_,_,_,_,_,_,_,_,_,_,_,_,_,_,_,_,_,_,_,_,_,_,_,_,_,_,_,_,_,_,_,_,_,_,_,_,_,_,_,_,_,_,_,_,_,_,_,_,_,_,_,_,_,_,_,_,_,_,_,_,_,.bool true,_,_,_,_,_,_,_,_,_,_,_,_,_,_,_,_,_,_,_,_,_,_,_,_,_,_,_,_,_,_,_,_,_,_,_,_,_,_,_,_,_,_,_,_,_,_,_,_,_,_,_,_],[]⟩ W
  refine wpOp_step rfl fun _ hK => ?_
  go_simp
  exact hK _ _ ⟨rfl,rfl⟩
 ·intro o W _
  show wpOp _ _ _ 79 _ ⟨#[_,_,_,_,_,_,_,_,_,_,_,_,_,_,_,_,_,_,_,_,_,_,_,_,_,_,_,_,_,_,_,_,_,_,_,_,_,_,_,_,_,_,_,_,_,_,_,_,_,_,_,_,_,_,_,_,_,_,_,_,_,_,_,_,_,_,_,_,_,_,_,_,_,_,_,_,_,_,_,_,_,_,_,_,_,_,_,_,_,_,_,_,_,_,_,_,_,_,_,_,_,_,_,_,_,_,_,_,_,_,_,_,_,_,_,_,_,_,_,_,_,_,_,_,_,_,_,_,_,_,_,_,_,_,_,_,_,_,_,_,_,_,_,_,_,_,_,_,.bool true,.slice (some ⟨g8,0,none⟩) 2 cp8,_,_,_,_,_,_,_,_,_,_,_,_,_,_,_,_,_,_,_,_,_,_,_,_,_,_,_,_,_,_,_,_,_,_,_,_,_,_,_,_,_,_,_,_,_,_,_,_,_,_,_],[]⟩ W
  refine wpOp_step rfl fun _ hK => ?_
  go_simp
  exact hK _ _ ⟨rfl,rfl⟩
 ·intro o W _
  show wpOp _ _ _ 80 _ ⟨#[_,_,_,_,_,_,_,_,_,_,_,_,_,_,_,_,_,_,_,_,_,_,_,_,_,_,_,_,_,_,_,_,_,_,_,_,_,_,_,_,_,_,_,_,_,_,_,_,_,_,_,_,_,_,_,_,_,_,_,_,_,_,_,_,_,_,_,_,_,_,_,_,_,_,_,_,_,_,_,_,_,_,_,_,_,_,_,_,_,_,_,_,_,_,_,_,_,_,_,_,_,_,_,_,_,_,_,_,_,_,_,_,_,_,_,_,_,_,_,_,_,_,_,_,_,_,_,_,_,_,_,_,_,_,_,_,_,_,_,_,_,_,_,_,_,_,_,_,.bool true,_,.int .i64 2,_,_,_,_,_,_,_,_,_,_,_,_,_,_,_,_,_,_,_,_,_,_,_,_,_,_,_,_,_,_,_,_,_,_,_,_,_,_,_,_,_,_,_,_,_,_,_,_,_,_],[]⟩ W
  refine wpOp_step rfl fun _ hK => ?_
  go_simp
  exact hK _ _ ⟨rfl,rfl⟩
 ·intro o W _
  show wpOp _ _ _ 81 _ ⟨#[_,_,_,_,_,_,_,_,_,_,_,_,_,_,_,_,_,_,_,_,_,_,_,_,_,_,_,_,_,_,_,_,_,_,_,_,_,_,_,_,_,_,_,_,_,_,_,_,_,_,_,_,_,_,_,_,_,_,_,_,_,_,_,_,_,_,_,_,_,_,_,_,_,_,_,_,_,_,_,_,_,_,_,_,_,_,_,_,_,_,_,_,_,_,_,_,_,_,_,_,_,_,_,_,_,_,_,_,_,_,_,_,_,_,_,_,_,_,_,_,_,_,_,_,_,_,_,_,_,_,_,_,_,_,_,_,_,_,_,_,_,_,_,_,_,_,_,_,.bool true,_,_,.bool true,_,_,_,_,_,_,_,_,_,_,_,_,_,_,_,_,_,_,_,_,_,_,_,_,_,_,_,_,_,_,_,_,_,_,_,_,_,_,_,_,_,_,_,_,_,_,_,_,_],[]⟩ W
  refine wpOp_step rfl fun _ hK => ?_
  go_simp
  exact hK _ _ ⟨rfl,rfl⟩
 ·intro o W _
  show wpOp _ _ _ 82 _ ⟨#[_,_,_,_,_,_,_,_,_,_,_,_,_,_,_,_,_,_,_,_,_,_,_,_,_,_,_,_,_,_,_,_,_,_,_,_,_,_,_,_,_,_,_,_,_,_,_,_,_,_,_,_,_,_,_,_,_,_,_,_,_,_,_,_,_,_,_,_,_,_,_,_,_,_,_,_,_,_,_,_,_,_,_,_,_,_,_,_,_,_,_,_,_,_,_,_,_,_,_,_,_,_,_,_,_,_,_,_,_,_,_,_,_,_,_,_,_,_,_,_,_,_,_,_,_,_,_,_,_,_,_,_,_,_,_,_,_,_,_,_,_,_,_,_,_,_,_,_,_,_,_,_,.bool true,_,_,_,_,_,_,_,_,_,_,_,_,_,_,_,_,_,_,_,_,_,_,_,_,_,_,_,_,_,_,_,_,_,_,_,_,_,_,_,_,_,_,_,_,_,_,_,_],[]⟩ W
  refine wpOp_step rfl fun _ hK => ?_
  go_simp
  exact hK _ _ ⟨rfl,rfl⟩
 ·intro o W _
  show wpOp _ _ _ 83 _ ⟨#[_,_,_,_,_,_,_,_,_,_,_,_,_,_,_,_,_,_,_,_,_,_,_,_,_,_,_,_,_,_,_,_,_,_,_,_,_,_,_,_,_,_,_,_,_,_,_,_,_,_,_,_,_,_,_,_,_,_,_,_,_,_,_,_,_,_,_,_,_,_,_,_,_,_,_,_,_,_,_,_,_,_,_,_,_,_,_,_,_,_,_,_,_,_,_,_,_,_,_,_,_,_,_,_,_,_,_,_,_,_,_,_,_,_,_,_,_,_,_,_,_,_,_,_,_,_,_,_,_,_,_,_,_,_,_,_,_,_,_,_,_,_,_,_,_,_,_,_,_,_,_,_,_,.bool true,_,_,_,_,_,_,_,_,_,_,_,_,_,_,_,_,_,_,_,_,_,_,_,_,_,_,_,_,_,_,_,_,_,_,_,_,_,_,_,_,_,_,_,_,_,_,_],[]⟩ W
  refine wpOp_step rfl fun _ hK => ?_
  go_simp
  exact hK _ _ ⟨rfl,rfl⟩
 ·intro o W _
  show wpOp _ _ _ 84 _ ⟨#[_,_,_,_,_,_,_,_,_,_,_,_,_,_,_,_,_,_,_,_,_,_,_,_,_,_,_,_,_,_,_,_,_,_,_,_,_,_,_,_,_,_,_,_,_,_,_,_,_,_,_,_,_,_,_,_,_,_,_,_,_,_,_,_,_,_,_,_,_,_,_,_,_,_,_,_,_,_,_,_,_,_,_,_,_,_,_,_,_,_,_,_,_,_,_,_,_,_,_,_,_,_,_,_,_,_,_,_,_,_,_,_,_,_,_,_,_,_,_,_,_,_,_,_,_,_,_,_,_,_,_,_,_,_,_,_,_,_,_,_,_,_,_,_,_,_,_,_,_,_,_,_,_,.bool true,.slice (some ⟨g8,0,none⟩) 2 cp8,_,_,_,_,_,_,_,_,_,_,_,_,_,_,_,_,_,_,_,_,_,_,_,_,_,_,_,_,_,_,_,_,_,_,_,_,_,_,_,_,_,_,_,_,_,_],[]⟩ W
  refine wpOp_step rfl fun _ hK => ?_
  go_simp
  exact hK _ _ ⟨rfl,rfl⟩
 ·intro o W _
  show wpOp _ _ _ 85 _ ⟨#[_,_,_,_,_,_,_,_,_,_,_,_,_,_,_,_,_,_,_,_,_,_,_,_,_,_,_,_,_,_,_,_,_,_,_,_,_,_,_,_,_,_,_,_,_,_,_,_,_,_,_,_,_,_,_,_,_,_,_,_,_,_,_,_,_,_,_,_,_,_,_,_,_,_,_,_,_,_,_,_,_,_,_,_,_,_,_,_,_,_,_,_,_,_,_,_,_,_,_,_,_,_,_,_,_,_,_,_,_,_,_,_,_,_,_,_,_,_,_,_,_,_,_,_,_,_,_,_,_,_,_,_,_,_,_,_,_,_,_,_,_,_,_,_,_,_,_,_,_,_,_,_,_,.bool true,_,.pointer (some ⟨g8,3,none⟩),_,_,_,_,_,_,_,_,_,_,_,_,_,_,_,_,_,_,_,_,_,_,_,_,_,_,_,_,_,_,_,_,_,_,_,_,_,_,_,_,_,_,_,_,_],[]⟩ W
  refine wpOp_step rfl fun _ hK => ?_
  go_simp
  exact hK _ _ ⟨rfl,rfl⟩
 ·intro o W hj
  have hj : (KL [((w11.heap.size + 1),33,#[.int .i64 0,.int .i64 40,.int .i64 8]),(w11.heap.size,25,#[.int .i64 0,.int .i64 0,.int .i64 0,.int .i64 100,.int .i64 10,.int .i64 10]),(w6.heap.size,25,#[.int .i64 96,.int .i64 0,.int .i64 0,.int .i64 100,.int .i64 10,.int .i64 10]),((w2.heap.size + 1 + 1),25,#[.int .i64 48,.int .i64 0,.int .i64 0,.int .i64 100,.int .i64 10,.int .i64 10]),((w2.heap.size + 1),25,#[.int .i64 40,.int .i64 0,.int .i64 0,.int .i64 48,.int .i64 10,.int .i64 10]),(w2.heap.size,25,#[.int .i64 0,.int .i64 0,.int .i64 0,.int .i64 40,.int .i64 10,.int .i64 10])] w W ∧ CellK W g6 21 (.int .i64 92) ∧ CellK W g8 4 (.int .i64 64) ∧ CellK W g10 1 (.int .i64 6) ∧ CellK W g10 4 (.int .i64 90)) := hj
  obtain ⟨hjk,kk1,kk2,kk3,kk4⟩ := hj
  obtain ⟨cL,c0⟩ := kk2
  show wpOp _ _ _ 86 _ ⟨#[_,_,_,_,_,_,_,_,_,_,_,_,_,_,_,_,_,_,_,_,_,_,_,_,_,_,_,_,_,_,_,_,_,_,_,_,_,_,_,_,_,_,_,_,_,_,_,_,_,_,_,_,_,_,_,_,_,_,_,_,_,_,_,_,_,_,_,_,_,_,_,_,_,_,_,_,_,_,_,_,_,_,_,_,_,_,_,_,_,_,_,_,_,_,_,_,_,_,_,_,_,_,_,_,_,_,_,_,_,_,_,_,_,_,_,_,_,_,_,_,_,_,_,_,_,_,_,_,_,_,_,_,_,_,_,_,_,_,_,_,_,_,_,_,_,_,_,_,_,_,_,_,_,.bool true,_,_,.pointer (some ⟨g8,4,none⟩),_,_,_,_,_,_,_,_,_,_,_,_,_,_,_,_,_,_,_,_,_,_,_,_,_,_,_,_,_,_,_,_,_,_,_,_,_,_,_,_,_,_,_,_],[]⟩ W
  refine wpOp_step rfl fun _ hK => ?_
  go_simp
  exact hK _ _ ⟨rfl,hj⟩
 ·intro o W _
  show wpOp _ _ _ 87 _ ⟨#[_,_,_,_,_,_,_,_,_,_,_,_,_,_,_,_,_,_,_,_,_,_,_,_,_,_,_,_,_,_,_,_,_,_,_,_,_,_,_,_,_,_,_,_,_,_,_,_,_,_,_,_,_,_,_,_,_,_,_,_,_,_,_,_,_,_,_,_,_,_,_,_,_,_,_,_,_,_,_,_,_,_,_,_,_,_,_,_,_,_,_,_,_,_,_,_,_,_,_,_,_,_,_,_,_,_,_,_,_,_,_,_,_,_,_,_,_,_,_,_,_,_,_,_,_,_,_,_,_,_,_,_,_,_,_,_,_,_,_,_,_,_,_,_,_,_,_,_,_,_,_,_,_,.bool true,_,_,_,.int .i64 64,_,_,_,_,_,_,_,_,_,_,_,_,_,_,_,_,_,_,_,_,_,_,_,_,_,_,_,_,_,_,_,_,_,_,_,_,_,_,_,_,_,_,_],[]⟩ W
  refine wpOp_step rfl fun _ hK => ?_
  go_simp
  exact hK _ _ ⟨rfl,rfl⟩
 ·intro o W _
  show wpOp _ _ _ 88 _ ⟨#[_,_,_,_,_,_,_,_,_,_,_,_,_,_,_,_,_,_,_,_,_,_,_,_,_,_,_,_,_,_,_,_,_,_,_,_,_,_,_,_,_,_,_,_,_,_,_,_,_,_,_,_,_,_,_,_,_,_,_,_,_,_,_,_,_,_,_,_,_,_,_,_,_,_,_,_,_,_,_,_,_,_,_,_,_,_,_,_,_,_,_,_,_,_,_,_,_,_,_,_,_,_,_,_,_,_,_,_,_,_,_,_,_,_,_,_,_,_,_,_,_,_,_,_,_,_,_,_,_,_,_,_,_,_,_,_,_,_,_,_,_,_,_,_,_,_,_,_,_,_,_,_,_,.bool true,_,_,_,_,.bool true,_,_,_,_,_,_,_,_,_,_,_,_,_,_,_,_,_,_,_,_,_,_,_,_,_,_,_,_,_,_,_,_,_,_,_,_,_,_,_,_,_,_],[]⟩ W
  refine wpOp_step rfl fun _ hK => ?_
  go_simp
  exact hK _ _ ⟨rfl,rfl⟩
 ·intro o W _
  show wpOp _ _ _ 89 _ ⟨#[_,_,_,_,_,_,_,_,_,_,_,_,_,_,_,_,_,_,_,_,_,_,_,_,_,_,_,_,_,_,_,_,_,_,_,_,_,_,_,_,_,_,_,_,_,_,_,_,_,_,_,_,_,_,_,_,_,_,_,_,_,_,_,_,_,_,_,_,_,_,_,_,_,_,_,_,_,_,_,_,_,_,_,_,_,_,_,_,_,_,_,_,_,_,_,_,_,_,_,_,_,_,_,_,_,_,_,_,_,_,_,_,_,_,_,_,_,_,_,_,_,_,_,_,_,_,_,_,_,_,_,_,_,_,_,_,_,_,_,_,_,_,_,_,_,_,_,_,_,_,_,_,_,_,_,_,_,_,_,.bool true,_,_,_,_,_,_,_,_,_,_,_,_,_,_,_,_,_,_,_,_,_,_,_,_,_,_,_,_,_,_,_,_,_,_,_,_,_,_,_,_,_],[]⟩ W
  refine wpOp_step rfl fun _ hK => ?_
  go_simp
  exact hK _ _ ⟨rfl,rfl⟩
 ·intro o W _
  show wpOp _ _ _ 90 _ ⟨#[_,_,_,_,_,_,_,_,_,_,_,_,_,_,_,_,_,_,_,_,_,_,_,_,_,_,_,_,_,_,_,_,_,_,_,_,_,_,_,_,_,_,_,_,_,_,_,_,_,_,_,_,_,_,_,_,_,_,_,_,_,_,_,_,_,_,_,_,_,_,_,_,_,_,_,_,_,_,_,_,_,_,_,_,_,_,_,_,_,_,_,_,_,_,_,_,_,_,_,_,_,_,_,_,_,_,_,_,_,_,_,_,_,_,_,_,_,_,_,_,_,_,_,_,_,_,_,_,_,_,_,_,_,_,_,_,_,_,_,_,_,_,_,_,_,_,_,_,_,_,_,_,_,_,_,_,_,_,_,_,.bool true,_,_,_,_,_,_,_,_,_,_,_,_,_,_,_,_,_,_,_,_,_,_,_,_,_,_,_,_,_,_,_,_,_,_,_,_,_,_,_,_],[]⟩ W
  refine wpOp_step rfl fun _ hK => ?_
  go_simp
  exact hK _ _ ⟨rfl,rfl⟩
 ·intro o W _
  show wpOp _ _ _ 91 _ ⟨#[_,_,_,_,_,_,_,_,_,_,_,_,_,_,_,_,_,_,_,_,_,_,_,_,_,_,_,_,_,_,_,_,_,_,_,_,_,_,_,_,_,_,_,_,_,_,_,_,_,_,_,_,_,_,_,_,_,_,_,_,_,_,_,_,_,_,_,_,_,_,_,_,_,_,_,_,_,_,_,_,_,_,_,_,_,_,_,_,_,_,_,_,_,_,_,_,_,_,_,_,_,_,_,_,_,_,_,_,_,_,_,_,_,_,_,_,_,_,_,_,_,_,_,_,_,_,_,_,_,_,_,_,_,_,_,_,_,_,_,_,_,_,_,_,_,_,_,_,_,_,_,_,_,_,_,_,_,_,_,_,.bool true,.int .i64 0,_,_,_,_,_,_,_,_,_,_,_,_,_,_,_,_,_,_,_,_,_,_,_,_,_,_,_,_,_,_,_,_,_,_,_,_,_,_,_],[]⟩ W
  refine wpOp_step rfl fun _ hK => ?_
  go_simp
  exact hK _ _ ⟨rfl,rfl⟩
 ·intro o W _
  show wpOp _ _ _ 92 _ ⟨#[_,_,_,_,_,_,_,_,_,_,_,_,_,_,_,_,_,_,_,_,_,_,_,_,_,_,_,_,_,_,_,_,_,_,_,_,_,_,_,_,_,_,_,_,_,_,_,_,_,_,_,_,_,_,_,_,_,_,_,_,_,_,_,_,_,_,_,_,_,_,_,_,_,_,_,_,_,_,_,_,_,_,_,_,_,_,_,_,_,_,_,_,_,_,_,_,_,_,_,_,_,_,_,_,_,_,_,_,_,_,_,_,_,_,_,_,_,_,_,_,_,_,_,_,_,_,_,_,_,_,_,_,_,_,_,_,_,_,_,_,_,_,_,_,_,_,_,_,_,_,_,_,_,_,_,_,_,_,_,_,.bool true,_,.bool true,_,_,_,_,_,_,_,_,_,_,_,_,_,_,_,_,_,_,_,_,_,_,_,_,_,_,_,_,_,_,_,_,_,_,_,_,_,_],[]⟩ W
  refine wpOp_step rfl fun _ hK => ?_
  go_simp
  exact hK _ _ ⟨rfl,rfl⟩
 ·intro o W _
  show wpOp _ _ _ 93 _ ⟨#[_,_,_,_,_,_,_,_,_,_,_,_,_,_,_,_,_,_,_,_,_,_,_,_,_,_,_,_,_,_,_,_,_,_,_,_,_,_,_,_,_,_,_,_,_,_,_,_,_,_,_,_,_,_,_,_,_,_,_,_,_,_,_,_,_,_,_,_,_,_,_,_,_,_,_,_,_,_,_,_,_,_,_,_,_,_,_,_,_,_,_,_,_,_,_,_,_,_,_,_,_,_,_,_,_,_,_,_,_,_,_,_,_,_,_,_,_,_,_,_,_,_,_,_,_,_,_,_,_,_,_,_,_,_,_,_,_,_,_,_,_,_,_,_,_,_,_,_,_,_,_,_,_,_,_,_,_,_,_,_,_,_,_,.bool true,_,_,_,_,_,_,_,_,_,_,_,_,_,_,_,_,_,_,_,_,_,_,_,_,_,_,_,_,_,_,_,_,_,_,_,_,_],[]⟩ W
  refine wpOp_step rfl fun _ hK => ?_
  go_simp
  exact hK _ _ ⟨rfl,rfl⟩
 ·intro o W _
  show wpOp _ _ _ 94 _ ⟨#[_,_,_,_,_,_,_,_,_,_,_,_,_,_,_,_,_,_,_,_,_,_,_,_,_,_,_,_,_,_,_,_,_,_,_,_,_,_,_,_,_,_,_,_,_,_,_,_,_,_,_,_,_,_,_,_,_,_,_,_,_,_,_,_,_,_,_,_,_,_,_,_,_,_,_,_,_,_,_,_,_,_,_,_,_,_,_,_,_,_,_,_,_,_,_,_,_,_,_,_,_,_,_,_,_,_,_,_,_,_,_,_,_,_,_,_,_,_,_,_,_,_,_,_,_,_,_,_,_,_,_,_,_,_,_,_,_,_,_,_,_,_,_,_,_,_,_,_,_,_,_,_,_,_,_,_,_,_,_,_,_,_,_,_,.bool true,_,_,_,_,_,_,_,_,_,_,_,_,_,_,_,_,_,_,_,_,_,_,_,_,_,_,_,_,_,_,_,_,_,_,_,_],[]⟩ W
  refine wpOp_step rfl fun _ hK => ?_
  go_simp
  exact hK _ _ ⟨rfl,rfl⟩
 ·intro o W _
  show wpOp _ _ _ 95 _ ⟨#[_,_,_,_,_,_,_,_,_,_,_,_,_,_,_,_,_,_,_,_,_,_,_,_,_,_,_,_,_,_,_,_,_,_,_,_,_,_,_,_,_,_,_,_,_,_,_,_,_,_,_,_,_,_,_,_,_,_,_,_,_,_,_,_,_,_,_,_,_,_,_,_,_,_,_,_,_,_,_,_,_,_,_,_,_,_,_,_,_,_,_,_,_,_,_,_,_,_,_,_,_,_,_,_,_,_,_,_,_,_,_,_,_,_,_,_,_,_,_,_,_,_,_,_,_,_,_,_,_,_,_,_,_,_,_,_,_,_,_,_,_,_,_,_,_,_,_,_,_,_,_,_,_,_,_,_,_,_,_,_,_,_,_,_,.bool true,.slice (some ⟨g10,0,none⟩) 2 cp10,_,_,_,_,_,_,_,_,_,_,_,_,_,_,_,_,_,_,_,_,_,_,_,_,_,_,_,_,_,_,_,_,_,_,_],[]⟩ W
  refine wpOp_step rfl fun _ hK => ?_
  go_simp
  exact hK _ _ ⟨rfl,rfl⟩
 ·intro o W _
  show wpOp _ _ _ 96 _ ⟨#[_,_,_,_,_,_,_,_,_,_,_,_,_,_,_,_,_,_,_,_,_,_,_,_,_,_,_,_,_,_,_,_,_,_,_,_,_,_,_,_,_,_,_,_,_,_,_,_,_,_,_,_,_,_,_,_,_,_,_,_,_,_,_,_,_,_,_,_,_,_,_,_,_,_,_,_,_,_,_,_,_,_,_,_,_,_,_,_,_,_,_,_,_,_,_,_,_,_,_,_,_,_,_,_,_,_,_,_,_,_,_,_,_,_,_,_,_,_,_,_,_,_,_,_,_,_,_,_,_,_,_,_,_,_,_,_,_,_,_,_,_,_,_,_,_,_,_,_,_,_,_,_,_,_,_,_,_,_,_,_,_,_,_,_,.bool true,_,.int .i64 2,_,_,_,_,_,_,_,_,_,_,_,_,_,_,_,_,_,_,_,_,_,_,_,_,_,_,_,_,_,_,_,_,_,_],[]⟩ W
  refine wpOp_step rfl fun _ hK => ?_
  go_simp
  exact hK _ _ ⟨rfl,rfl⟩
 ·intro o W _
  show wpOp _ _ _ 97 _ ⟨#[_,_,_,_,_,_,_,_,_,_,_,_,_,_,_,_,_,_,_,_,_,_,_,_,_,_,_,_,_,_,_,_,_,_,_,_,_,_,_,_,_,_,_,_,_,_,_,_,_,_,_,_,_,_,_,_,_,_,_,_,_,_,_,_,_,_,_,_,_,_,_,_,_,_,_,_,_,_,_,_,_,_,_,_,_,_,_,_,_,_,_,_,_,_,_,_,_,_,_,_,_,_,_,_,_,_,_,_,_,_,_,_,_,_,_,_,_,_,_,_,_,_,_,_,_,_,_,_,_,_,_,_,_,_,_,_,_,_,_,_,_,_,_,_,_,_,_,_,_,_,_,_,_,_,_,_,_,_,_,_,_,_,_,_,.bool true,_,_,.bool true,_,_,_,_,_,_,_,_,_,_,_,_,_,_,_,_,_,_,_,_,_,_,_,_,_,_,_,_,_,_,_,_,_],[]⟩ W
  refine wpOp_step rfl fun _ hK => ?_
  go_simp
  exact hK _ _ ⟨rfl,rfl⟩
 ·intro o W _
  show wpOp _ _ _ 98 _ ⟨#[_,_,_,_,_,_,_,_,_,_,_,_,_,_,_,_,_,_,_,_,_,_,_,_,_,_,_,_,_,_,_,_,_,_,_,_,_,_,_,_,_,_,_,_,_,_,_,_,_,_,_,_,_,_,_,_,_,_,_,_,_,_,_,_,_,_,_,_,_,_,_,_,_,_,_,_,_,_,_,_,_,_,_,_,_,_,_,_,_,_,_,_,_,_,_,_,_,_,_,_,_,_,_,_,_,_,_,_,_,_,_,_,_,_,_,_,_,_,_,_,_,_,_,_,_,_,_,_,_,_,_,_,_,_,_,_,_,_,_,_,_,_,_,_,_,_,_,_,_,_,_,_,_,_,_,_,_,_,_,_,_,_,_,_,_,_,_,_,.bool true,_,_,_,_,_,_,_,_,_,_,_,_,_,_,_,_,_,_,_,_,_,_,_,_,_,_,_,_,_,_,_,_],[]⟩ W
  refine wpOp_step rfl fun _ hK => ?_
  go_simp
  exact hK _ _ ⟨rfl,rfl⟩
 ·intro o W _
  show wpOp _ _ _ 99 _ ⟨#[_,_,_,_,_,_,_,_,_,_,_,_,_,_,_,_,_,_,_,_,_,_,_,_,_,_,_,_,_,_,_,_,_,_,_,_,_,_,_,_,_,_,_,_,_,_,_,_,_,_,_,_,_,_,_,_,_,_,_,_,_,_,_,_,_,_,_,_,_,_,_,_,_,_,_,_,_,_,_,_,_,_,_,_,_,_,_,_,_,_,_,_,_,_,_,_,_,_,_,_,_,_,_,_,_,_,_,_,_,_,_,_,_,_,_,_,_,_,_,_,_,_,_,_,_,_,_,_,_,_,_,_,_,_,_,_,_,_,_,_,_,_,_,_,_,_,_,_,_,_,_,_,_,_,_,_,_,_,_,_,_,_,_,_,_,_,_,_,_,.bool true,_,_,_,_,_,_,_,_,_,_,_,_,_,_,_,_,_,_,_,_,_,_,_,_,_,_,_,_,_,_,_],[]⟩ W
  refine wpOp_step rfl fun _ hK => ?_
  go_simp
  exact hK _ _ ⟨rfl,rfl⟩
 ·intro o W _
  show wpOp _ _ _ 100 _ ⟨#[_,_,_,_,_,_,_,_,_,_,_,_,_,_,_,_,_,_,_,_,_,_,_,_,_,_,_,_,_,_,_,_,_,_,_,_,_,_,_,_,_,_,_,_,_,_,_,_,_,_,_,_,_,_,_,_,_,_,_,_,_,_,_,_,_,_,_,_,_,_,_,_,_,_,_,_,_,_,_,_,_,_,_,_,_,_,_,_,_,_,_,_,_,_,_,_,_,_,_,_,_,_,_,_,_,_,_,_,_,_,_,_,_,_,_,_,_,_,_,_,_,_,_,_,_,_,_,_,_,_,_,_,_,_,_,_,_,_,_,_,_,_,_,_,_,_,_,_,_,_,_,_,_,_,_,_,_,_,_,_,_,_,_,_,_,_,_,_,_,.bool true,.slice (some ⟨g10,0,none⟩) 2 cp10,_,_,_,_,_,_,_,_,_,_,_,_,_,_,_,_,_,_,_,_,_,_,_,_,_,_,_,_,_,_],[]⟩ W
  refine wpOp_step rfl fun _ hK => ?_
  go_simp
  exact hK _ _ ⟨rfl,rfl⟩
 ·intro o W _
  show wpOp _ _ _ 101 _ ⟨#[_,_,_,_,_,_,_,_,_,_,_,_,_,_,_,_,_,_,_,_,_,_,_,_,_,_,_,_,_,_,_,_,_,_,_,_,_,_,_,_,_,_,_,_,_,_,_,_,_,_,_,_,_,_,_,_,_,_,_,_,_,_,_,_,_,_,_,_,_,_,_,_,_,_,_,_,_,_,_,_,_,_,_,_,_,_,_,_,_,_,_,_,_,_,_,_,_,_,_,_,_,_,_,_,_,_,_,_,_,_,_,_,_,_,_,_,_,_,_,_,_,_,_,_,_,_,_,_,_,_,_,_,_,_,_,_,_,_,_,_,_,_,_,_,_,_,_,_,_,_,_,_,_,_,_,_,_,_,_,_,_,_,_,_,_,_,_,_,_,.bool true,_,.pointer (some ⟨g10,0,none⟩),_,_,_,_,_,_,_,_,_,_,_,_,_,_,_,_,_,_,_,_,_,_,_,_,_,_,_,_,_],[]⟩ W
  refine wpOp_step rfl fun _ hK => ?_
  go_simp
  exact hK _ _ ⟨rfl,rfl⟩
 ·intro o W hj
  have hj : (KL [((w11.heap.size + 1),33,#[.int .i64 0,.int .i64 40,.int .i64 8]),(w11.heap.size,25,#[.int .i64 0,.int .i64 0,.int .i64 0,.int .i64 100,.int .i64 10,.int .i64 10]),(w6.heap.size,25,#[.int .i64 96,.int .i64 0,.int .i64 0,.int .i64 100,.int .i64 10,.int .i64 10]),((w2.heap.size + 1 + 1),25,#[.int .i64 48,.int .i64 0,.int .i64 0,.int .i64 100,.int .i64 10,.int .i64 10]),((w2.heap.size + 1),25,#[.int .i64 40,.int .i64 0,.int .i64 0,.int .i64 48,.int .i64 10,.int .i64 10]),(w2.heap.size,25,#[.int .i64 0,.int .i64 0,.int .i64 0,.int .i64 40,.int .i64 10,.int .i64 10])] w W ∧ CellK W g6 21 (.int .i64 92) ∧ CellK W g8 4 (.int .i64 64) ∧ CellK W g10 1 (.int .i64 6) ∧ CellK W g10 4 (.int .i64 90)) := hj
  obtain ⟨hjk,kk1,kk2,kk3,kk4⟩ := hj
  obtain ⟨cL,c0⟩ := kk3
  show wpOp _ _ _ 102 _ ⟨#[_,_,_,_,_,_,_,_,_,_,_,_,_,_,_,_,_,_,_,_,_,_,_,_,_,_,_,_,_,_,_,_,_,_,_,_,_,_,_,_,_,_,_,_,_,_,_,_,_,_,_,_,_,_,_,_,_,_,_,_,_,_,_,_,_,_,_,_,_,_,_,_,_,_,_,_,_,_,_,_,_,_,_,_,_,_,_,_,_,_,_,_,_,_,_,_,_,_,_,_,_,_,_,_,_,_,_,_,_,_,_,_,_,_,_,_,_,_,_,_,_,_,_,_,_,_,_,_,_,_,_,_,_,_,_,_,_,_,_,_,_,_,_,_,_,_,_,_,_,_,_,_,_,_,_,_,_,_,_,_,_,_,_,_,_,_,_,_,_,.bool true,_,_,.pointer (some ⟨g10,1,none⟩),_,_,_,_,_,_,_,_,_,_,_,_,_,_,_,_,_,_,_,_,_,_,_,_,_,_,_,_],[]⟩ W
  refine wpOp_step rfl fun _ hK => ?_
  go_simp
  exact hK _ _ ⟨rfl,hj⟩
 ·intro o W _
  show wpOp _ _ _ 103 _ ⟨#[_,_,_,_,_,_,_,_,_,_,_,_,_,_,_,_,_,_,_,_,_,_,_,_,_,_,_,_,_,_,_,_,_,_,_,_,_,_,_,_,_,_,_,_,_,_,_,_,_,_,_,_,_,_,_,_,_,_,_,_,_,_,_,_,_,_,_,_,_,_,_,_,_,_,_,_,_,_,_,_,_,_,_,_,_,_,_,_,_,_,_,_,_,_,_,_,_,_,_,_,_,_,_,_,_,_,_,_,_,_,_,_,_,_,_,_,_,_,_,_,_,_,_,_,_,_,_,_,_,_,_,_,_,_,_,_,_,_,_,_,_,_,_,_,_,_,_,_,_,_,_,_,_,_,_,_,_,_,_,_,_,_,_,_,_,_,_,_,_,.bool true,_,_,_,.int .i64 6,_,_,_,_,_,_,_,_,_,_,_,_,_,_,_,_,_,_,_,_,_,_,_,_,_,_,_],[]⟩ W
  refine wpOp_step rfl fun _ hK => ?_
  go_simp
  exact hK _ _ ⟨rfl,rfl⟩
 ·intro o W _
  show wpOp _ _ _ 104 _ ⟨#[_,_,_,_,_,_,_,_,_,_,_,_,_,_,_,_,_,_,_,_,_,_,_,_,_,_,_,_,_,_,_,_,_,_,_,_,_,_,_,_,_,_,_,_,_,_,_,_,_,_,_,_,_,_,_,_,_,_,_,_,_,_,_,_,_,_,_,_,_,_,_,_,_,_,_,_,_,_,_,_,_,_,_,_,_,_,_,_,_,_,_,_,_,_,_,_,_,_,_,_,_,_,_,_,_,_,_,_,_,_,_,_,_,_,_,_,_,_,_,_,_,_,_,_,_,_,_,_,_,_,_,_,_,_,_,_,_,_,_,_,_,_,_,_,_,_,_,_,_,_,_,_,_,_,_,_,_,_,_,_,_,_,_,_,_,_,_,_,_,.bool true,_,_,_,_,.bool true,_,_,_,_,_,_,_,_,_,_,_,_,_,_,_,_,_,_,_,_,_,_,_,_,_,_],[]⟩ W
  refine wpOp_step rfl fun _ hK => ?_
  go_simp
  exact hK _ _ ⟨rfl,rfl⟩
 ·intro o W _
  show wpOp _ _ _ 105 _ ⟨#[_,_,_,_,_,_,_,_,_,_,_,_,_,_,_,_,_,_,_,_,_,_,_,_,_,_,_,_,_,_,_,_,_,_,_,_,_,_,_,_,_,_,_,_,_,_,_,_,_,_,_,_,_,_,_,_,_,_,_,_,_,_,_,_,_,_,_,_,_,_,_,_,_,_,_,_,_,_,_,_,_,_,_,_,_,_,_,_,_,_,_,_,_,_,_,_,_,_,_,_,_,_,_,_,_,_,_,_,_,_,_,_,_,_,_,_,_,_,_,_,_,_,_,_,_,_,_,_,_,_,_,_,_,_,_,_,_,_,_,_,_,_,_,_,_,_,_,_,_,_,_,_,_,_,_,_,_,_,_,_,_,_,_,_,_,_,_,_,_,_,_,_,_,_,_,.bool true,_,_,_,_,_,_,_,_,_,_,_,_,_,_,_,_,_,_,_,_,_,_,_,_,_],[]⟩ W
  refine wpOp_step rfl fun _ hK => ?_
  go_simp
  exact hK _ _ ⟨rfl,rfl⟩
 ·intro o W _
  show wpOp _ _ _ 106 _ ⟨#[_,_,_,_,_,_,_,_,_,_,_,_,_,_,_,_,_,_,_,_,_,_,_,_,_,_,_,_,_,_,_,_,_,_,_,_,_,_,_,_,_,_,_,_,_,_,_,_,_,_,_,_,_,_,_,_,_,_,_,_,_,_,_,_,_,_,_,_,_,_,_,_,_,_,_,_,_,_,_,_,_,_,_,_,_,_,_,_,_,_,_,_,_,_,_,_,_,_,_,_,_,_,_,_,_,_,_,_,_,_,_,_,_,_,_,_,_,_,_,_,_,_,_,_,_,_,_,_,_,_,_,_,_,_,_,_,_,_,_,_,_,_,_,_,_,_,_,_,_,_,_,_,_,_,_,_,_,_,_,_,_,_,_,_,_,_,_,_,_,_,_,_,_,_,_,_,.bool true,_,_,_,_,_,_,_,_,_,_,_,_,_,_,_,_,_,_,_,_,_,_,_,_],[]⟩ W
  refine wpOp_step rfl fun _ hK => ?_
  go_simp
  exact hK _ _ ⟨rfl,rfl⟩
 ·intro o W _
  show wpOp _ _ _ 107 _ ⟨#[_,_,_,_,_,_,_,_,_,_,_,_,_,_,_,_,_,_,_,_,_,_,_,_,_,_,_,_,_,_,_,_,_,_,_,_,_,_,_,_,_,_,_,_,_,_,_,_,_,_,_,_,_,_,_,_,_,_,_,_,_,_,_,_,_,_,_,_,_,_,_,_,_,_,_,_,_,_,_,_,_,_,_,_,_,_,_,_,_,_,_,_,_,_,_,_,_,_,_,_,_,_,_,_,_,_,_,_,_,_,_,_,_,_,_,_,_,_,_,_,_,_,_,_,_,_,_,_,_,_,_,_,_,_,_,_,_,_,_,_,_,_,_,_,_,_,_,_,_,_,_,_,_,_,_,_,_,_,_,_,_,_,_,_,_,_,_,_,_,_,_,_,_,_,_,_,.bool true,.slice (some ⟨g10,0,none⟩) 2 cp10,_,_,_,_,_,_,_,_,_,_,_,_,_,_,_,_,_,_,_,_,_,_,_],[]⟩ W
  refine wpOp_step rfl fun _ hK => ?_
  go_simp
  exact hK _ _ ⟨rfl,rfl⟩
 ·intro o W _
  show wpOp _ _ _ 108 _ ⟨#[_,_,_,_,_,_,_,_,_,_,_,_,_,_,_,_,_,_,_,_,_,_,_,_,_,_,_,_,_,_,_,_,_,_,_,_,_,_,_,_,_,_,_,_,_,_,_,_,_,_,_,_,_,_,_,_,_,_,_,_,_,_,_,_,_,_,_,_,_,_,_,_,_,_,_,_,_,_,_,_,_,_,_,_,_,_,_,_,_,_,_,_,_,_,_,_,_,_,_,_,_,_,_,_,_,_,_,_,_,_,_,_,_,_,_,_,_,_,_,_,_,_,_,_,_,_,_,_,_,_,_,_,_,_,_,_,_,_,_,_,_,_,_,_,_,_,_,_,_,_,_,_,_,_,_,_,_,_,_,_,_,_,_,_,_,_,_,_,_,_,_,_,_,_,_,_,.bool true,_,.pointer (some ⟨g10,3,none⟩),_,_,_,_,_,_,_,_,_,_,_,_,_,_,_,_,_,_,_,_,_,_],[]⟩ W
  refine wpOp_step rfl fun _ hK => ?_
  go_simp
  exact hK _ _ ⟨rfl,rfl⟩
 ·intro o W hj
  have hj : (KL [((w11.heap.size + 1),33,#[.int .i64 0,.int .i64 40,.int .i64 8]),(w11.heap.size,25,#[.int .i64 0,.int .i64 0,.int .i64 0,.int .i64 100,.int .i64 10,.int .i64 10]),(w6.heap.size,25,#[.int .i64 96,.int .i64 0,.int .i64 0,.int .i64 100,.int .i64 10,.int .i64 10]),((w2.heap.size + 1 + 1),25,#[.int .i64 48,.int .i64 0,.int .i64 0,.int .i64 100,.int .i64 10,.int .i64 10]),((w2.heap.size + 1),25,#[.int .i64 40,.int .i64 0,.int .i64 0,.int .i64 48,.int .i64 10,.int .i64 10]),(w2.heap.size,25,#[.int .i64 0,.int .i64 0,.int .i64 0,.int .i64 40,.int .i64 10,.int .i64 10])] w W ∧ CellK W g6 21 (.int .i64 92) ∧ CellK W g8 4 (.int .i64 64) ∧ CellK W g10 1 (.int .i64 6) ∧ CellK W g10 4 (.int .i64 90)) := hj
  obtain ⟨hjk,kk1,kk2,kk3,kk4⟩ := hj
  obtain ⟨cL,c0⟩ := kk4
  show wpOp _ _ _ 109 _ ⟨#[_,_,_,_,_,_,_,_,_,_,_,_,_,_,_,_,_,_,_,_,_,_,_,_,_,_,_,_,_,_,_,_,_,_,_,_,_,_,_,_,_,_,_,_,_,_,_,_,_,_,_,_,_,_,_,_,_,_,_,_,_,_,_,_,_,_,_,_,_,_,_,_,_,_,_,_,_,_,_,_,_,_,_,_,_,_,_,_,_,_,_,_,_,_,_,_,_,_,_,_,_,_,_,_,_,_,_,_,_,_,_,_,_,_,_,_,_,_,_,_,_,_,_,_,_,_,_,_,_,_,_,_,_,_,_,_,_,_,_,_,_,_,_,_,_,_,_,_,_,_,_,_,_,_,_,_,_,_,_,_,_,_,_,_,_,_,_,_,_,_,_,_,_,_,_,_,.bool true,_,_,.pointer (some ⟨g10,4,none⟩),_,_,_,_,_,_,_,_,_,_,_,_,_,_,_,_,_,_,_,_,_],[]⟩ W
  refine wpOp_step rfl fun _ hK => ?_
  go_simp
  exact hK _ _ ⟨rfl,hj⟩
 ·intro o W _
  show wpOp _ _ _ 110 _ ⟨#[_,_,_,_,_,_,_,_,_,_,_,_,_,_,_,_,_,_,_,_,_,_,_,_,_,_,_,_,_,_,_,_,_,_,_,_,_,_,_,_,_,_,_,_,_,_,_,_,_,_,_,_,_,_,_,_,_,_,_,_,_,_,_,_,_,_,_,_,_,_,_,_,_,_,_,_,_,_,_,_,_,_,_,_,_,_,_,_,_,_,_,_,_,_,_,_,_,_,_,_,_,_,_,_,_,_,_,_,_,_,_,_,_,_,_,_,_,_,_,_,_,_,_,_,_,_,_,_,_,_,_,_,_,_,_,_,_,_,_,_,_,_,_,_,_,_,_,_,_,_,_,_,_,_,_,_,_,_,_,_,_,_,_,_,_,_,_,_,_,_,_,_,_,_,_,_,.bool true,_,_,_,.int .i64 90,_,_,_,_,_,_,_,_,_,_,_,_,_,_,_,_,_,_,_,_],[]⟩ W
  refine wpOp_step rfl fun _ hK => ?_
  go_simp
  exact hK _ _ ⟨rfl,rfl⟩
 ·intro o W _
  show wpOp _ _ _ 111 _ ⟨#[_,_,_,_,_,_,_,_,_,_,_,_,_,_,_,_,_,_,_,_,_,_,_,_,_,_,_,_,_,_,_,_,_,_,_,_,_,_,_,_,_,_,_,_,_,_,_,_,_,_,_,_,_,_,_,_,_,_,_,_,_,_,_,_,_,_,_,_,_,_,_,_,_,_,_,_,_,_,_,_,_,_,_,_,_,_,_,_,_,_,_,_,_,_,_,_,_,_,_,_,_,_,_,_,_,_,_,_,_,_,_,_,_,_,_,_,_,_,_,_,_,_,_,_,_,_,_,_,_,_,_,_,_,_,_,_,_,_,_,_,_,_,_,_,_,_,_,_,_,_,_,_,_,_,_,_,_,_,_,_,_,_,_,_,_,_,_,_,_,_,_,_,_,_,_,_,.bool true,_,_,_,_,.bool true,_,_,_,_,_,_,_,_,_,_,_,_,_,_,_,_,_,_,_],[]⟩ W
  refine wpOp_step rfl fun _ hK => ?_
  go_simp
  exact hK _ _ ⟨rfl,rfl⟩
 ·intro o W _
  show wpOp _ _ _ 112 _ ⟨#[_,_,_,_,_,_,_,_,_,_,_,_,_,_,_,_,_,_,_,_,_,_,_,_,_,_,_,_,_,_,_,_,_,_,_,_,_,_,_,_,_,_,_,_,_,_,_,_,_,_,_,_,_,_,_,_,_,_,_,_,_,_,_,_,_,_,_,_,_,_,_,_,_,_,_,_,_,_,_,_,_,_,_,_,_,_,_,_,_,_,_,_,_,_,_,_,_,_,_,_,_,_,_,_,_,_,_,_,_,_,_,_,_,_,_,_,_,_,_,_,_,_,_,_,_,_,_,_,_,_,_,_,_,_,_,_,_,_,_,_,_,_,_,_,_,_,_,_,_,_,_,_,_,_,_,_,_,_,_,_,_,_,_,_,_,_,_,_,_,_,_,_,_,_,_,_,_,_,_,_,_,_,.bool true,_,_,_,_,_,_,_,_,_,_,_,_,_,_,_,_,_,_],[]⟩ W
  refine wpOp_step rfl fun _ hK => ?_
  go_simp
  exact hK _ _ ⟨rfl,rfl⟩
 ·intro o W _
  show wpOp _ _ _ 113 _ ⟨#[_,_,_,_,_,_,_,_,_,_,_,_,_,_,_,_,_,_,_,_,_,_,_,_,_,_,_,_,_,_,_,_,_,_,_,_,_,_,_,_,_,_,_,_,_,_,_,_,_,_,_,_,_,_,_,_,_,_,_,_,_,_,_,_,_,_,_,_,_,_,_,_,_,_,_,_,_,_,_,_,_,_,_,_,_,_,_,_,_,_,_,_,_,_,_,_,_,_,_,_,_,_,_,_,_,_,_,_,_,_,_,_,_,_,_,_,_,_,_,_,_,_,_,_,_,_,_,_,_,_,_,_,_,_,_,_,_,_,_,_,_,_,_,_,_,_,_,_,_,_,_,_,_,_,_,_,_,_,_,_,_,_,_,_,_,_,_,_,_,_,_,_,_,_,_,_,_,_,_,_,_,_,_,.bool true,_,_,_,_,_,_,_,_,_,_,_,_,_,_,_,_,_],[]⟩ W
  refine wpOp_step rfl fun _ hK => ?_
  go_simp
  exact hK _ _ ⟨rfl,rfl⟩
 ·intro o W _
  show wpOp _ _ _ 114 _ ⟨#[_,_,_,_,_,_,_,_,_,_,_,_,_,_,_,_,_,_,_,_,_,_,_,_,_,_,_,_,_,_,_,_,_,_,_,_,_,_,_,_,_,_,_,_,_,_,_,_,_,_,_,_,_,_,_,_,_,_,_,_,_,_,_,_,_,_,_,_,_,_,_,_,_,_,_,_,_,_,_,_,_,_,_,_,_,_,_,_,_,_,_,_,_,_,_,_,_,_,_,_,_,_,_,_,_,_,_,_,_,_,_,_,_,_,_,_,_,_,_,_,_,_,_,_,_,_,_,_,_,_,_,_,_,_,_,_,_,_,_,_,_,_,_,_,_,_,_,_,_,_,_,_,_,_,_,_,_,_,_,_,_,_,_,_,_,_,_,_,_,_,_,_,_,_,_,_,_,_,_,_,_,_,_,.bool true,.int .i64 2400,_,_,_,_,_,_,_,_,_,_,_,_,_,_,_,_],[]⟩ W
  refine wpOp_step rfl fun _ hK => ?_
  go_simp
  exact hK _ _ ⟨rfl,rfl⟩
 ·intro o W _
  show wpOp _ _ _ 115 _ ⟨#[_,_,_,_,_,_,_,_,_,_,_,_,_,_,_,_,_,_,_,_,_,_,_,_,_,_,_,_,_,_,_,_,_,_,_,_,_,_,_,_,_,_,_,_,_,_,_,_,_,_,_,_,_,_,_,_,_,_,_,_,_,_,_,_,_,_,_,_,_,_,_,_,_,_,_,_,_,_,_,_,_,_,_,_,_,_,_,_,_,_,_,_,_,_,_,_,_,_,_,_,_,_,_,_,_,_,_,_,_,_,_,_,_,_,_,_,_,_,_,_,_,_,_,_,_,_,_,_,_,_,_,_,_,_,_,_,_,_,_,_,_,_,_,_,_,_,_,_,_,_,_,_,_,_,_,_,_,_,_,_,_,_,_,_,_,_,_,_,_,_,_,_,_,_,_,_,_,_,_,_,_,_,_,.bool true,_,.bool true,_,_,_,_,_,_,_,_,_,_,_,_,_,_,_],[]⟩ W
  refine wpOp_step rfl fun _ hK => ?_
  go_simp
  exact hK _ _ ⟨rfl,rfl⟩
 ·intro o W _
  show wpOp _ _ _ 116 _ ⟨#[_,_,_,_,_,_,_,_,_,_,_,_,_,_,_,_,_,_,_,_,_,_,_,_,_,_,_,_,_,_,_,_,_,_,_,_,_,_,_,_,_,_,_,_,_,_,_,_,_,_,_,_,_,_,_,_,_,_,_,_,_,_,_,_,_,_,_,_,_,_,_,_,_,_,_,_,_,_,_,_,_,_,_,_,_,_,_,_,_,_,_,_,_,_,_,_,_,_,_,_,_,_,_,_,_,_,_,_,_,_,_,_,_,_,_,_,_,_,_,_,_,_,_,_,_,_,_,_,_,_,_,_,_,_,_,_,_,_,_,_,_,_,_,_,_,_,_,_,_,_,_,_,_,_,_,_,_,_,_,_,_,_,_,_,_,_,_,_,_,_,_,_,_,_,_,_,_,_,_,_,_,_,_,_,_,_,.bool true,_,_,_,_,_,_,_,_,_,_,_,_,_,_],[]⟩ W
  refine wpOp_step rfl fun _ hK => ?_
  go_simp
  exact hK _ _ ⟨rfl,rfl⟩
 ·intro o W _
  show wpOp _ _ _ 117 _ ⟨#[_,_,_,_,_,_,_,_,_,_,_,_,_,_,_,_,_,_,_,_,_,_,_,_,_,_,_,_,_,_,_,_,_,_,_,_,_,_,_,_,_,_,_,_,_,_,_,_,_,_,_,_,_,_,_,_,_,_,_,_,_,_,_,_,_,_,_,_,_,_,_,_,_,_,_,_,_,_,_,_,_,_,_,_,_,_,_,_,_,_,_,_,_,_,_,_,_,_,_,_,_,_,_,_,_,_,_,_,_,_,_,_,_,_,_,_,_,_,_,_,_,_,_,_,_,_,_,_,_,_,_,_,_,_,_,_,_,_,_,_,_,_,_,_,_,_,_,_,_,_,_,_,_,_,_,_,_,_,_,_,_,_,_,_,_,_,_,_,_,_,_,_,_,_,_,_,_,_,_,_,_,_,_,_,_,_,_,.bool true,_,_,_,_,_,_,_,_,_,_,_,_,_],[]⟩ W
  refine wpOp_step rfl fun _ hK => ?_
  go_simp
  exact hK _ _ ⟨rfl,rfl⟩
 ·intro o W _
  show wpOp _ _ _ 118 _ ⟨#[_,_,_,_,_,_,_,_,_,_,_,_,_,_,_,_,_,_,_,_,_,_,_,_,_,_,_,_,_,_,_,_,_,_,_,_,_,_,_,_,_,_,_,_,_,_,_,_,_,_,_,_,_,_,_,_,_,_,_,_,_,_,_,_,_,_,_,_,_,_,_,_,_,_,_,_,_,_,_,_,_,_,_,_,_,_,_,_,_,_,_,_,_,_,_,_,_,_,_,_,_,_,_,_,_,_,_,_,_,_,_,_,_,_,_,_,_,_,_,_,_,_,_,_,_,_,_,_,_,_,_,_,_,_,_,_,_,_,_,_,_,_,_,_,_,_,_,_,_,_,_,_,_,_,_,_,_,_,_,_,_,_,_,_,_,_,_,_,_,_,_,_,_,_,_,_,_,_,_,_,_,_,_,_,_,_,_,.bool true,.int .i64 0,_,_,_,_,_,_,_,_,_,_,_,_],[]⟩ W
  refine wpOp_step rfl fun _ hK => ?_
  go_simp
  exact hK _ _ ⟨rfl,rfl⟩
 ·intro o W _
  show wpOp _ _ _ 119 _ ⟨#[_,_,_,_,_,_,_,_,_,_,_,_,_,_,_,_,_,_,_,_,_,_,_,_,_,_,_,_,_,_,_,_,_,_,_,_,_,_,_,_,_,_,_,_,_,_,_,_,_,_,_,_,_,_,_,_,_,_,_,_,_,_,_,_,_,_,_,_,_,_,_,_,_,_,_,_,_,_,_,_,_,_,_,_,_,_,_,_,_,_,_,_,_,_,_,_,_,_,_,_,_,_,_,_,_,_,_,_,_,_,_,_,_,_,_,_,_,_,_,_,_,_,_,_,_,_,_,_,_,_,_,_,_,_,_,_,_,_,_,_,_,_,_,_,_,_,_,_,_,_,_,_,_,_,_,_,_,_,_,_,_,_,_,_,_,_,_,_,_,_,_,_,_,_,_,_,_,_,_,_,_,_,_,_,_,_,_,.bool true,_,.bool true,_,_,_,_,_,_,_,_,_,_,_],[]⟩ W
  refine wpOp_step rfl fun _ hK => ?_
  go_simp
  exact hK _ _ ⟨rfl,rfl⟩
 ·intro o W _
  show wpOp _ _ _ 120 _ ⟨#[_,_,_,_,_,_,_,_,_,_,_,_,_,_,_,_,_,_,_,_,_,_,_,_,_,_,_,_,_,_,_,_,_,_,_,_,_,_,_,_,_,_,_,_,_,_,_,_,_,_,_,_,_,_,_,_,_,_,_,_,_,_,_,_,_,_,_,_,_,_,_,_,_,_,_,_,_,_,_,_,_,_,_,_,_,_,_,_,_,_,_,_,_,_,_,_,_,_,_,_,_,_,_,_,_,_,_,_,_,_,_,_,_,_,_,_,_,_,_,_,_,_,_,_,_,_,_,_,_,_,_,_,_,_,_,_,_,_,_,_,_,_,_,_,_,_,_,_,_,_,_,_,_,_,_,_,_,_,_,_,_,_,_,_,_,_,_,_,_,_,_,_,_,_,_,_,_,_,_,_,_,_,_,_,_,_,_,_,_,_,.bool true,_,_,_,_,_,_,_,_,_,_],[]⟩ W
  refine wpOp_step rfl fun _ hK => ?_
  go_simp
  exact hK _ _ ⟨rfl,rfl⟩
 ·intro o W hj
  have hj : (KL [((w11.heap.size + 1),33,#[.int .i64 0,.int .i64 40,.int .i64 8]),(w11.heap.size,25,#[.int .i64 0,.int .i64 0,.int .i64 0,.int .i64 100,.int .i64 10,.int .i64 10]),(w6.heap.size,25,#[.int .i64 96,.int .i64 0,.int .i64 0,.int .i64 100,.int .i64 10,.int .i64 10]),((w2.heap.size + 1 + 1),25,#[.int .i64 48,.int .i64 0,.int .i64 0,.int .i64 100,.int .i64 10,.int .i64 10]),((w2.heap.size + 1),25,#[.int .i64 40,.int .i64 0,.int .i64 0,.int .i64 48,.int .i64 10,.int .i64 10]),(w2.heap.size,25,#[.int .i64 0,.int .i64 0,.int .i64 0,.int .i64 40,.int .i64 10,.int .i64 10])] w W ∧ CellK W g6 21 (.int .i64 92) ∧ CellK W g8 4 (.int .i64 64) ∧ CellK W g10 1 (.int .i64 6) ∧ CellK W g10 4 (.int .i64 90)) := hj
  obtain ⟨hjk,kk1,kk2,kk3,kk4⟩ := hj
  obtain ⟨cL,c0,c1,c2,c3,c4,c5⟩ := bl6 (KL.blk hjk (.tail _ (.head _)))
  show wpOp _ _ _ 121 _ ⟨#[_,_,_,_,_,_,_,_,_,_,_,_,_,_,_,_,_,_,_,_,_,_,_,_,_,_,_,_,_,_,_,_,_,_,_,_,_,_,_,_,_,_,_,_,_,_,_,_,_,_,_,_,_,_,_,_,_,_,_,_,_,_,_,_,_,_,_,_,_,_,_,_,_,_,_,_,_,_,_,_,_,_,_,_,_,_,_,_,_,_,_,_,_,_,_,_,_,_,_,_,_,_,_,_,_,_,_,_,_,_,_,_,_,_,_,_,_,_,_,_,_,_,_,_,_,_,_,_,_,_,_,_,_,_,_,_,_,_,_,_,_,_,_,_,_,_,_,_,_,_,_,_,_,_,_,_,_,_,_,_,_,_,_,_,_,_,_,_,_,_,_,_,_,_,_,_,_,_,_,_,_,_,_,_,_,_,_,_,_,_,_,.bool true,_,_,_,_,_,_,_,_,_],[]⟩ W
  refine wpOp_step rfl fun _ hK => ?_
  go_simp
  exact hK _ _ ⟨rfl,hj⟩
 ·intro o W hj
  have hj : (KL [((w11.heap.size + 1),33,#[.int .i64 0,.int .i64 40,.int .i64 8]),(w11.heap.size,25,#[.int .i64 0,.int .i64 0,.int .i64 0,.int .i64 100,.int .i64 10,.int .i64 10]),(w6.heap.size,25,#[.int .i64 96,.int .i64 0,.int .i64 0,.int .i64 100,.int .i64 10,.int .i64 10]),((w2.heap.size + 1 + 1),25,#[.int .i64 48,.int .i64 0,.int .i64 0,.int .i64 100,.int .i64 10,.int .i64 10]),((w2.heap.size + 1),25,#[.int .i64 40,.int .i64 0,.int .i64 0,.int .i64 48,.int .i64 10,.int .i64 10]),(w2.heap.size,25,#[.int .i64 0,.int .i64 0,.int .i64 0,.int .i64 40,.int .i64 10,.int .i64 10])] w W ∧ CellK W g6 21 (.int .i64 92) ∧ CellK W g8 4 (.int .i64 64) ∧ CellK W g10 1 (.int .i64 6) ∧ CellK W g10 4 (.int .i64 90)) := hj
  show wpOp _ _ _ 122 _ ⟨#[_,_,_,_,_,_,_,_,_,_,_,_,_,_,_,_,_,_,_,_,_,_,_,_,_,_,_,_,_,_,_,_,_,_,_,_,_,_,_,_,_,_,_,_,_,_,_,_,_,_,_,_,_,_,_,_,_,_,_,_,_,_,_,_,_,_,_,_,_,_,_,_,_,_,_,_,_,_,_,_,_,_,_,_,_,_,_,_,_,_,_,_,_,_,_,_,_,_,_,_,_,_,_,_,_,_,_,_,_,_,_,_,_,_,_,_,_,_,_,_,_,_,_,_,_,_,_,_,_,_,_,_,_,_,_,_,_,_,_,_,_,_,_,_,_,_,_,_,_,_,_,_,_,_,_,_,_,_,_,_,_,_,_,_,_,_,_,_,_,_,_,_,_,_,_,_,_,_,_,_,_,_,_,_,_,_,_,_,_,_,_,.bool true,_,_,_,_,_,_,_,_,_],[]⟩ W
  refine wpOp_step rfl fun _ hK => ?_
  go_simp
  refine (bar_any _).mono ?_
  rintro e W1 ⟨rfl,hb1⟩
  exact hK _ _ ⟨rfl,⟨hj.1.over hb1,hj.2.1.over hb1,hj.2.2.1.over hb1,hj.2.2.2.1.over hb1,hj.2.2.2.2.over hb1⟩⟩
 ·intro o W _
  show wpOp _ _ _ 123 _ ⟨#[_,_,_,_,_,_,_,_,_,_,_,_,_,_,_,_,_,_,_,_,_,_,_,_,_,_,_,_,_,_,_,_,_,_,_,_,_,_,_,_,_,_,_,_,_,_,_,_,_,_,_,_,_,_,_,_,_,_,_,_,_,_,_,_,_,_,_,_,_,_,_,_,_,_,_,_,_,_,_,_,_,_,_,_,_,_,_,_,_,_,_,_,_,_,_,_,_,_,_,_,_,_,_,_,_,_,_,_,_,_,_,_,_,_,_,_,_,_,_,_,_,_,_,_,_,_,_,_,_,_,_,_,_,_,_,_,_,_,_,_,_,_,_,_,_,_,_,_,_,_,_,_,_,_,_,_,_,_,_,_,_,_,_,_,_,_,_,_,_,_,_,_,_,_,_,_,_,_,_,_,_,_,_,_,_,_,_,_,_,_,_,.bool true,.agg #[.int .i64 0,.int .i64 0,.int .i64 0,.int .i64 100,.int .i64 10,.int .i64 10],.agg #[.int .i64 0,.int .i64 0,.int .i64 0,.int .i64 100,.int .i64 10,.int .i64 10],_,_,_,_,_,_,_],[]⟩ W
  refine wpOp_step rfl fun _ hK => ?_
  go_simp
  exact hK _ _ ⟨rfl,rfl⟩
 ·intro o W _
  show wpOp _ _ _ 124 _ ⟨#[_,_,_,_,_,_,_,_,_,_,_,_,_,_,_,_,_,_,_,_,_,_,_,_,_,_,_,_,_,_,_,_,_,_,_,_,_,_,_,_,_,_,_,_,_,_,_,_,_,_,_,_,_,_,_,_,_,_,_,_,_,_,_,_,_,_,_,_,_,_,_,_,_,_,_,_,_,_,_,_,_,_,_,_,_,_,_,_,_,_,_,_,_,_,_,_,_,_,_,_,_,_,_,_,_,_,_,_,_,_,_,_,_,_,_,_,_,_,_,_,_,_,_,_,_,_,_,_,_,_,_,_,_,_,_,_,_,_,_,_,_,_,_,_,_,_,_,_,_,_,_,_,_,_,_,_,_,_,_,_,_,_,_,_,_,_,_,_,_,_,_,_,_,_,_,_,_,_,_,_,_,_,_,_,_,_,_,_,_,_,_,.bool true,_,_,.bool true,_,_,_,_,_,_],[]⟩ W
  refine wpOp_step rfl fun _ hK => ?_
  go_simp
  exact hK _ _ ⟨rfl,rfl⟩
 ·intro o W _
  show wpOp _ _ _ 125 _ ⟨#[_,_,_,_,_,_,_,_,_,_,_,_,_,_,_,_,_,_,_,_,_,_,_,_,_,_,_,_,_,_,_,_,_,_,_,_,_,_,_,_,_,_,_,_,_,_,_,_,_,_,_,_,_,_,_,_,_,_,_,_,_,_,_,_,_,_,_,_,_,_,_,_,_,_,_,_,_,_,_,_,_,_,_,_,_,_,_,_,_,_,_,_,_,_,_,_,_,_,_,_,_,_,_,_,_,_,_,_,_,_,_,_,_,_,_,_,_,_,_,_,_,_,_,_,_,_,_,_,_,_,_,_,_,_,_,_,_,_,_,_,_,_,_,_,_,_,_,_,_,_,_,_,_,_,_,_,_,_,_,_,_,_,_,_,_,_,_,_,_,_,_,_,_,_,_,_,_,_,_,_,_,_,_,_,_,_,_,_,_,_,_,_,_,_,_,.bool true,_,_,_,_,_],[]⟩ W
  refine wpOp_step rfl fun _ hK => ?_
  go_simp
  exact hK _ _ ⟨rfl,rfl⟩
 ·intro o W hj
  have hj : (KL [((w11.heap.size + 1),33,#[.int .i64 0,.int .i64 40,.int .i64 8]),(w11.heap.size,25,#[.int .i64 0,.int .i64 0,.int .i64 0,.int .i64 100,.int .i64 10,.int .i64 10]),(w6.heap.size,25,#[.int .i64 96,.int .i64 0,.int .i64 0,.int .i64 100,.int .i64 10,.int .i64 10]),((w2.heap.size + 1 + 1),25,#[.int .i64 48,.int .i64 0,.int .i64 0,.int .i64 100,.int .i64 10,.int .i64 10]),((w2.heap.size + 1),25,#[.int .i64 40,.int .i64 0,.int .i64 0,.int .i64 48,.int .i64 10,.int .i64 10]),(w2.heap.size,25,#[.int .i64 0,.int .i64 0,.int .i64 0,.int .i64 40,.int .i64 10,.int .i64 10])] w W ∧ CellK W g6 21 (.int .i64 92) ∧ CellK W g8 4 (.int .i64 64) ∧ CellK W g10 1 (.int .i64 6) ∧ CellK W g10 4 (.int .i64 90)) := hj
  obtain ⟨hjk,kk1,kk2,kk3,kk4⟩ := hj
  obtain ⟨cL,c0,c1,c2⟩ := bl3 (KL.blk hjk (.head _))
  show wpOp _ _ _ 126 _ ⟨#[_,_,_,_,_,_,_,_,_,_,_,_,_,_,_,_,_,_,_,_,_,_,_,_,_,_,_,_,_,_,_,_,_,_,_,_,_,_,_,_,_,_,_,_,_,_,_,_,_,_,_,_,_,_,_,_,_,_,_,_,_,_,_,_,_,_,_,_,_,_,_,_,_,_,_,_,_,_,_,_,_,_,_,_,_,_,_,_,_,_,_,_,_,_,_,_,_,_,_,_,_,_,_,_,_,_,_,_,_,_,_,_,_,_,_,_,_,_,_,_,_,_,_,_,_,_,_,_,_,_,_,_,_,_,_,_,_,_,_,_,_,_,_,_,_,_,_,_,_,_,_,_,_,_,_,_,_,_,_,_,_,_,_,_,_,_,_,_,_,_,_,_,_,_,_,_,_,_,_,_,_,_,_,_,_,_,_,_,_,_,_,_,_,_,_,_,.bool true,_,_,_,_],[]⟩ W
  refine wpOp_step rfl fun _ hK => ?_
  go_simp
  exact hK _ _ ⟨rfl,hj⟩
 ·intro o W _
  show wpOp _ _ _ 127 _ ⟨#[_,_,_,_,_,_,_,_,_,_,_,_,_,_,_,_,_,_,_,_,_,_,_,_,_,_,_,_,_,_,_,_,_,_,_,_,_,_,_,_,_,_,_,_,_,_,_,_,_,_,_,_,_,_,_,_,_,_,_,_,_,_,_,_,_,_,_,_,_,_,_,_,_,_,_,_,_,_,_,_,_,_,_,_,_,_,_,_,_,_,_,_,_,_,_,_,_,_,_,_,_,_,_,_,_,_,_,_,_,_,_,_,_,_,_,_,_,_,_,_,_,_,_,_,_,_,_,_,_,_,_,_,_,_,_,_,_,_,_,_,_,_,_,_,_,_,_,_,_,_,_,_,_,_,_,_,_,_,_,_,_,_,_,_,_,_,_,_,_,_,_,_,_,_,_,_,_,_,_,_,_,_,_,_,_,_,_,_,_,_,_,_,_,_,_,_,.bool true,_,_,_,_],[]⟩ W
  refine wpOp_step rfl fun _ hK => ?_
  go_simp
  exact hK _ _ ⟨rfl,rfl⟩
 ·intro o W _
  show wpOp _ _ _ 128 _ ⟨#[_,_,_,_,_,_,_,_,_,_,_,_,_,_,_,_,_,_,_,_,_,_,_,_,_,_,_,_,_,_,_,_,_,_,_,_,_,_,_,_,_,_,_,_,_,_,_,_,_,_,_,_,_,_,_,_,_,_,_,_,_,_,_,_,_,_,_,_,_,_,_,_,_,_,_,_,_,_,_,_,_,_,_,_,_,_,_,_,_,_,_,_,_,_,_,_,_,_,_,_,_,_,_,_,_,_,_,_,_,_,_,_,_,_,_,_,_,_,_,_,_,_,_,_,_,_,_,_,_,_,_,_,_,_,_,_,_,_,_,_,_,_,_,_,_,_,_,_,_,_,_,_,_,_,_,_,_,_,_,_,_,_,_,_,_,_,_,_,_,_,_,_,_,_,_,_,_,_,_,_,_,_,_,_,_,_,_,_,_,_,_,_,_,_,_,_,.bool true,.agg #[.int .i64 0,.int .i64 40,.int .i64 8],.agg #[.int .i64 0,.int .i64 40,.int .i64 8],_,_],[]⟩ W
  refine wpOp_step rfl fun _ hK => ?_
  go_simp
  exact hK _ _ ⟨rfl,rfl⟩
 ·intro o W _
  show wpOp _ _ _ 129 _ ⟨#[_,_,_,_,_,_,_,_,_,_,_,_,_,_,_,_,_,_,_,_,_,_,_,_,_,_,_,_,_,_,_,_,_,_,_,_,_,_,_,_,_,_,_,_,_,_,_,_,_,_,_,_,_,_,_,_,_,_,_,_,_,_,_,_,_,_,_,_,_,_,_,_,_,_,_,_,_,_,_,_,_,_,_,_,_,_,_,_,_,_,_,_,_,_,_,_,_,_,_,_,_,_,_,_,_,_,_,_,_,_,_,_,_,_,_,_,_,_,_,_,_,_,_,_,_,_,_,_,_,_,_,_,_,_,_,_,_,_,_,_,_,_,_,_,_,_,_,_,_,_,_,_,_,_,_,_,_,_,_,_,_,_,_,_,_,_,_,_,_,_,_,_,_,_,_,_,_,_,_,_,_,_,_,_,_,_,_,_,_,_,_,_,_,_,_,_,.bool true,_,_,.bool true,_],[]⟩ W
  refine wpOp_step rfl fun _ hK => ?_
  go_simp
  exact hK _ _ ⟨rfl,rfl⟩
 ·intro o W _
  show wpOp _ _ _ 130 _ ⟨#[_,_,_,_,_,_,_,_,_,_,_,_,_,_,_,_,_,_,_,_,_,_,_,_,_,_,_,_,_,_,_,_,_,_,_,_,_,_,_,_,_,_,_,_,_,_,_,_,_,_,_,_,_,_,_,_,_,_,_,_,_,_,_,_,_,_,_,_,_,_,_,_,_,_,_,_,_,_,_,_,_,_,_,_,_,_,_,_,_,_,_,_,_,_,_,_,_,_,_,_,_,_,_,_,_,_,_,_,_,_,_,_,_,_,_,_,_,_,_,_,_,_,_,_,_,_,_,_,_,_,_,_,_,_,_,_,_,_,_,_,_,_,_,_,_,_,_,_,_,_,_,_,_,_,_,_,_,_,_,_,_,_,_,_,_,_,_,_,_,_,_,_,_,_,_,_,_,_,_,_,_,_,_,_,_,_,_,_,_,_,_,_,_,_,_,_,_,_,_,_,.bool true],[]⟩ W
  refine wpOp_step rfl fun _ hK => ?_
  go_simp
  exact hK _ _ ⟨rfl,rfl⟩
 ·intro o hh_
  have e0 : o 0 = .int .i64 0 := hh_ 0 (by decide)
  have e1 : o 1 = .bool true := hh_ 1 (by decide)
  have e2 : o 2 = .bool true := hh_ 2 (by decide)
  have e3 : o 3 = .pointer (some ⟨w2.heap.size,3,none⟩) := hh_ 3 (by decide)
  have e4 : o 4 = .pointer (some ⟨w2.heap.size,3,none⟩) := hh_ 4 (by decide)
  have e5 : o 5 = .int .i64 40 := hh_ 5 (by decide)
  have e6 : o 6 = .bool true := hh_ 6 (by decide)
  have e7 : o 7 = .bool true := hh_ 7 (by decide)
  have e8 : o 8 = .bool true := hh_ 8 (by decide)
  have e9 : o 9 = .pointer (some ⟨(w2.heap.size + 1),0,none⟩) := hh_ 9 (by decide)
  have e10 : o 10 = .pointer (some ⟨(w2.heap.size + 1),0,none⟩) := hh_ 10 (by decide)
  have e11 : o 11 = .int .i64 40 := hh_ 11 (by decide)
  have e12 : o 12 = .bool true := hh_ 12 (by decide)
  have e13 : o 13 = .bool true := hh_ 13 (by decide)
  have e14 : o 14 = .bool true := hh_ 14 (by decide)
  have e15 : o 15 = .pointer (some ⟨(w2.heap.size + 1),3,none⟩) := hh_ 15 (by decide)
  have e16 : o 16 = .pointer (some ⟨(w2.heap.size + 1),3,none⟩) := hh_ 16 (by decide)
  have e17 : o 17 = .int .i64 48 := hh_ 17 (by decide)
  have e18 : o 18 = .bool true := hh_ 18 (by decide)
  have e19 : o 19 = .bool true := hh_ 19 (by decide)
  have e20 : o 20 = .bool true := hh_ 20 (by decide)
  have e21 : o 21 = .pointer (some ⟨(w2.heap.size + 1 + 1),0,none⟩) := hh_ 21 (by decide)
  have e22 : o 22 = .pointer (some ⟨(w2.heap.size + 1 + 1),0,none⟩) := hh_ 22 (by decide)
  have e23 : o 23 = .int .i64 48 := hh_ 23 (by decide)
  have e24 : o 24 = .bool true := hh_ 24 (by decide)
  have e25 : o 25 = .bool true := hh_ 25 (by decide)
  have e26 : o 26 = .bool true := hh_ 26 (by decide)
  have e27 : o 27 = .int .i64 0 := hh_ 27 (by decide)
  have e28 : o 28 = .bool true := hh_ 28 (by decide)
  have e29 : o 29 = .bool true := hh_ 29 (by decide)
  have e30 : o 30 = .bool true := hh_ 30 (by decide)
  have e31 : o 31 = .int .i64 800 := hh_ 31 (by decide)
  have e32 : o 32 = .bool true := hh_ 32 (by decide)
  have e33 : o 33 = .bool true := hh_ 33 (by decide)
  have e34 : o 34 = .bool true := hh_ 34 (by decide)
  have e35 : o 35 = .int .i64 0 := hh_ 35 (by decide)
  have e36 : o 36 = .bool true := hh_ 36 (by decide)
  have e37 : o 37 = .bool true := hh_ 37 (by decide)
  have e38 : o 38 = .bool true := hh_ 38 (by decide)
  have e39 : o 39 = .int .i64 4 := hh_ 39 (by decide)
  have e40 : o 40 = .bool true := hh_ 40 (by decide)
  have e41 : o 41 = .bool true := hh_ 41 (by decide)
  have e42 : o 42 = .bool true := hh_ 42 (by decide)
  have e43 : o 43 = .int .i64 0 := hh_ 43 (by decide)
  have e44 : o 44 = .bool true := hh_ 44 (by decide)
  have e45 : o 45 = .bool true := hh_ 45 (by decide)
  have e46 : o 46 = .bool true := hh_ 46 (by decide)
  have e47 : o 47 = .int .i64 21 := hh_ 47 (by decide)
  have e48 : o 48 = .bool true := hh_ 48 (by decide)
  have e49 : o 49 = .bool true := hh_ 49 (by decide)
  have e50 : o 50 = .bool true := hh_ 50 (by decide)
  have e51 : o 51 = .int .i64 0 := hh_ 51 (by decide)
  have e52 : o 52 = .bool true := hh_ 52 (by decide)
  have e53 : o 53 = .bool true := hh_ 53 (by decide)
  have e54 : o 54 = .bool true := hh_ 54 (by decide)
  have e55 : o 55 = .slice (some ⟨g6,0,none⟩) 4 cp6 := hh_ 55 (by decide)
  have e56 : o 56 = .int .i64 4 := hh_ 56 (by decide)
  have e57 : o 57 = .bool true := hh_ 57 (by decide)
  have e58 : o 58 = .bool true := hh_ 58 (by decide)
  have e59 : o 59 = .bool true := hh_ 59 (by decide)
  have e60 : o 60 = .slice (some ⟨g6,0,none⟩) 4 cp6 := hh_ 60 (by decide)
  have e61 : o 61 = .pointer (some ⟨g6,18,none⟩) := hh_ 61 (by decide)
  have e62 : o 62 = .pointer (some ⟨g6,21,none⟩) := hh_ 62 (by decide)
  have e63 : o 63 = .pointer (some ⟨g6,21,none⟩) := hh_ 63 (by decide)
  have e64 : o 64 = .int .i64 92 := hh_ 64 (by decide)
  have e65 : o 65 = .bool true := hh_ 65 (by decide)
  have e66 : o 66 = .bool true := hh_ 66 (by decide)
  have e67 : o 67 = .bool true := hh_ 67 (by decide)
  have e68 : o 68 = .pointer (some ⟨w6.heap.size,0,none⟩) := hh_ 68 (by decide)
  have e69 : o 69 = .pointer (some ⟨w6.heap.size,0,none⟩) := hh_ 69 (by decide)
  have e70 : o 70 = .int .i64 96 := hh_ 70 (by decide)
  have e71 : o 71 = .bool true := hh_ 71 (by decide)
  have e72 : o 72 = .bool true := hh_ 72 (by decide)
  have e73 : o 73 = .bool true := hh_ 73 (by decide)
  have e74 : o 74 = .int .i64 0 := hh_ 74 (by decide)
  have e75 : o 75 = .bool true := hh_ 75 (by decide)
  have e76 : o 76 = .bool true := hh_ 76 (by decide)
  have e77 : o 77 = .bool true := hh_ 77 (by decide)
  have e78 : o 78 = .slice (some ⟨g8,0,none⟩) 2 cp8 := hh_ 78 (by decide)
  have e79 : o 79 = .int .i64 2 := hh_ 79 (by decide)
  have e80 : o 80 = .bool true := hh_ 80 (by decide)
  have e81 : o 81 = .bool true := hh_ 81 (by decide)
  have e82 : o 82 = .bool true := hh_ 82 (by decide)
  have e83 : o 83 = .slice (some ⟨g8,0,none⟩) 2 cp8 := hh_ 83 (by decide)
  have e84 : o 84 = .pointer (some ⟨g8,3,none⟩) := hh_ 84 (by decide)
  have e85 : o 85 = .pointer (some ⟨g8,4,none⟩) := hh_ 85 (by decide)
  have e86 : o 86 = .int .i64 64 := hh_ 86 (by decide)
  have e87 : o 87 = .bool true := hh_ 87 (by decide)
  have e88 : o 88 = .bool true := hh_ 88 (by decide)
  have e89 : o 89 = .bool true := hh_ 89 (by decide)
  have e90 : o 90 = .int .i64 0 := hh_ 90 (by decide)
  have e91 : o 91 = .bool true := hh_ 91 (by decide)
  have e92 : o 92 = .bool true := hh_ 92 (by decide)
  have e93 : o 93 = .bool true := hh_ 93 (by decide)
  have e94 : o 94 = .slice (some ⟨g10,0,none⟩) 2 cp10 := hh_ 94 (by decide)
  have e95 : o 95 = .int .i64 2 := hh_ 95 (by decide)
  have e96 : o 96 = .bool true := hh_ 96 (by decide)
  have e97 : o 97 = .bool true := hh_ 97 (by decide)
  have e98 : o 98 = .bool true := hh_ 98 (by decide)
  have e99 : o 99 = .slice (some ⟨g10,0,none⟩) 2 cp10 := hh_ 99 (by decide)
  have e100 : o 100 = .pointer (some ⟨g10,0,none⟩) := hh_ 100 (by decide)
  have e101 : o 101 = .pointer (some ⟨g10,1,none⟩) := hh_ 101 (by decide)
  have e102 : o 102 = .int .i64 6 := hh_ 102 (by decide)
  have e103 : o 103 = .bool true := hh_ 103 (by decide)
  have e104 : o 104 = .bool true := hh_ 104 (by decide)
  have e105 : o 105 = .bool true := hh_ 105 (by decide)
  have e106 : o 106 = .slice (some ⟨g10,0,none⟩) 2 cp10 := hh_ 106 (by decide)
  have e107 : o 107 = .pointer (some ⟨g10,3,none⟩) := hh_ 107 (by decide)
  have e108 : o 108 = .pointer (some ⟨g10,4,none⟩) := hh_ 108 (by decide)
  have e109 : o 109 = .int .i64 90 := hh_ 109 (by decide)
  have e110 : o 110 = .bool true := hh_ 110 (by decide)
  have e111 : o 111 = .bool true := hh_ 111 (by decide)
  have e112 : o 112 = .bool true := hh_ 112 (by decide)
  have e113 : o 113 = .int .i64 2400 := hh_ 113 (by decide)
  have e114 : o 114 = .bool true := hh_ 114 (by decide)
  have e115 : o 115 = .bool true := hh_ 115 (by decide)
  have e116 : o 116 = .bool true := hh_ 116 (by decide)
  have e117 : o 117 = .int .i64 0 := hh_ 117 (by decide)
  have e118 : o 118 = .bool true := hh_ 118 (by decide)
  have e119 : o 119 = .bool true := hh_ 119 (by decide)
  have e120 : o 120 = .bool true := hh_ 120 (by decide)
  have e121 : o 121 = .agg #[.int .i64 0,.int .i64 0,.int .i64 0,.int .i64 100,.int .i64 10,.int .i64 10] := hh_ 121 (by decide)
  have e122 : o 122 = .agg #[.int .i64 0,.int .i64 0,.int .i64 0,.int .i64 100,.int .i64 10,.int .i64 10] := hh_ 122 (by decide)
  have e123 : o 123 = .bool true := hh_ 123 (by decide)
  have e124 : o 124 = .bool true := hh_ 124 (by decide)
  have e125 : o 125 = .bool true := hh_ 125 (by decide)
  have e126 : o 126 = .agg #[.int .i64 0,.int .i64 40,.int .i64 8] := hh_ 126 (by decide)
  have e127 : o 127 = .agg #[.int .i64 0,.int .i64 40,.int .i64 8] := hh_ 127 (by decide)
  have e128 : o 128 = .bool true := hh_ 128 (by decide)
  have e129 : o 129 = .bool true := hh_ 129 (by decide)
  have e130 : o 130 = .bool true := hh_ 130 (by decide)
  rw [e0,e1,e2,e3,e4,e5,e6,e7,e8,e9,e10,e11,e12,e13,e14,e15,e16,e17,e18,e19,e20,e21,e22,e23,e24,e25,e26,e27,e28,e29,e30,e31,e32,e33,e34,e35,e36,e37,e38,e39,e40,e41,e42,e43,e44,e45,e46,e47,e48,e49,e50,e51,e52,e53,e54,e55,e56,e57,e58,e59,e60,e61,e62,e63,e64,e65,e66,e67,e68,e69,e70,e71,e72,e73,e74,e75,e76,e77,e78,e79,e80,e81,e82,e83,e84,e85,e86,e87,e88,e89,e90,e91,e92,e93,e94,e95,e96,e97,e98,e99,e100,e101,e102,e103,e104,e105,e106,e107,e108,e109,e110,e111,e112,e113,e114,e115,e116,e117,e118,e119,e120,e121,e122,e123,e124,e125,e126,e127,e128,e129,e130]
 ·intro W hj
  have hjb := hj.1.1
  go_wp2
  go_ret
  exact ⟨rfl,hjb⟩
end Go.Proofs.Ytogmgaaejepcbaa
