/- The walks of kerf's Loss,Most and Thickest. -/
import Derived.Test.YtogmgaaejepcbaaCor
import Derived.Test.YtogmgaaejepcbaaSpl
namespace Go.Proofs.Ytogmgaaejepcbaa
open Go.RowKit

theorem kvI_bad {x y z p q r : Int} (h : eB x y z p q r ≠ 0) : kvI x y z p q r = 0 := by simp [kvI,h]
theorem kvI_ok {x y z p q r : Int} (h : eB x y z p q r = 0) : kvI x y z p q r = volI x y z p q r := by simp [kvI,h]
theorem eB_mk {x y z p q r : Int} (h1 : -1000000 ≤ x) (h2 : x < p) (h3 : p ≤ 1000000) (h4 : -1000000 ≤ y) (h5 : y < q) (h6 : q ≤ 1000000) (h7 : -1000000 ≤ z) (h8 : z < r) (h9 : r ≤ 1000000) : eB x y z p q r = 0 := by
 have e : empB x y z p q r = false := empB_no.2 ⟨h2,h5,h8⟩
 rw [eB_in (inC_iff.2 (by omega)) (inC_iff.2 (by omega)) (inC_iff.2 (by omega)) (inC_iff.2 (by omega)) (inC_iff.2 (by omega)) (inC_iff.2 (by omega)),e]
 rfl
theorem eB_zz : eB 0 0 0 0 0 0 ≠ 0 := by decide
set_option maxHeartbeats 2000000 in
set_option maxRecDepth 100000 in
theorem Loss0z (x y z p q r t k : Int) (hv : eB x y z p q r = 0) (ho : okI x p t k = 0) (hkp : k = 0) (w : World) :
  Calls Try.prog 16 #[.agg #[x,y,z,p,q,r],.agg #[.int .i64 0,t,k]] w fun e w' => e = .returned (.tuple #[.int .i64 0,.int .i64 0]) ∧ Below w.heap.size w w' := by
 have hs := Split0z x y z p q r t k hv ho hkp
 obtain ⟨⟨a1,a2,a3⟩,⟨a4,a5,a6⟩,⟨a7,a8,a9⟩⟩ := eB_bd hv
 obtain ⟨b1,b2,b3⟩ := okI_z ho
 obtain ⟨b4,b5⟩ := rgB_iff.1 b1
 have hm := kvol_any 0 0 0 0 0 0
 rw [kvI_bad eB_zz] at hm
 clear hv ho b1 a1 a2 a3 a4 a5 a6 a7 a8 a9 b2 b3 b4 b5 hkp
 
 go_enter Try.func16,Try.ntmps16
 go_wp2_with (first | (go_at_call 14; refine (hs _).mono ?_; rintro e w1 ⟨rfl,hb1⟩; obtain ⟨hc1,hf1⟩ := bcell hb1; have hz1 := hb1.size; (try simp at hz1); (try have y10 : w.heap.size < w1.heap.size := (by omega)); (try have y10p : w.heap.size < w1.heap.size + 1 := (by omega)); (try have y11 : w.heap.size + 1 < w1.heap.size := (by omega)); (try have y11p : w.heap.size + 1 < w1.heap.size + 1 := (by omega)); (try have y12 : w.heap.size + 1 + 1 < w1.heap.size := (by omega)); (try have y12p : w.heap.size + 1 + 1 < w1.heap.size + 1 := (by omega)); (try have y13 : w.heap.size + 1 + 1 + 1 < w1.heap.size := (by omega)); (try have y13p : w.heap.size + 1 + 1 + 1 < w1.heap.size + 1 := (by omega)); (try have y14 : w.heap.size + 1 + 1 + 1 + 1 < w1.heap.size := (by omega)); (try have y14p : w.heap.size + 1 + 1 + 1 + 1 < w1.heap.size + 1 := (by omega)); (try have v0x1 : w0.heap.size < w1.heap.size := (by omega)); (try have v0x1p : w0.heap.size < w1.heap.size + 1 := (by omega))) | (go_at_call 44; refine (hm _).mono ?_; rintro e w2 ⟨rfl,hb2⟩; obtain ⟨hc2,hf2⟩ := bcell hb2; have hz2 := hb2.size; (try simp at hz2); (try have y20 : w.heap.size < w2.heap.size := (by omega)); (try have y20p : w.heap.size < w2.heap.size + 1 := (by omega)); (try have y21 : w.heap.size + 1 < w2.heap.size := (by omega)); (try have y21p : w.heap.size + 1 < w2.heap.size + 1 := (by omega)); (try have y22 : w.heap.size + 1 + 1 < w2.heap.size := (by omega)); (try have y22p : w.heap.size + 1 + 1 < w2.heap.size + 1 := (by omega)); (try have y23 : w.heap.size + 1 + 1 + 1 < w2.heap.size := (by omega)); (try have y23p : w.heap.size + 1 + 1 + 1 < w2.heap.size + 1 := (by omega)); (try have y24 : w.heap.size + 1 + 1 + 1 + 1 < w2.heap.size := (by omega)); (try have y24p : w.heap.size + 1 + 1 + 1 + 1 < w2.heap.size + 1 := (by omega)); (try have v0x2 : w0.heap.size < w2.heap.size := (by omega)); (try have v0x2p : w0.heap.size < w2.heap.size + 1 := (by omega)); (try have v1x2 : w1.heap.size < w2.heap.size := (by omega)); (try have v1x2p : w1.heap.size < w2.heap.size + 1 := (by omega))))
 go_ret2
 refine ⟨rfl,?_⟩
 repeat (first | with_reducible exact Below.refl _ _ | with_reducible refine Below.setCell ?_ ?_ _ | with_reducible refine Below.alloc ?_ ?_ _ | with_reducible refine Below.drew ?_ | with_reducible refine below_drewN ?_ _ | (refine Below.trans ?_ (bmono (by assumption) ?_)))
 all_goals (first | omega | (simp <;> omega))
set_option maxHeartbeats 2000000 in
set_option maxRecDepth 100000 in
theorem Loss0p (x y z p q r t k : Int) (hv : eB x y z p q r = 0) (ho : okI x p t k = 0) (hkp : 0 < k) (w : World) :
  Calls Try.prog 16 #[.agg #[x,y,z,p,q,r],.agg #[.int .i64 0,t,k]] w fun e w' => e = .returned (.tuple #[.int .i64 (volI t y z (t + k) q r),.int .i64 0]) ∧ Below w.heap.size w w' := by
 have hs := Split0p x y z p q r t k hv ho hkp
 obtain ⟨⟨a1,a2,a3⟩,⟨a4,a5,a6⟩,⟨a7,a8,a9⟩⟩ := eB_bd hv
 obtain ⟨b1,b2,b3⟩ := okI_z ho
 obtain ⟨b4,b5⟩ := rgB_iff.1 b1
 have hm := kvol_any t y z (t + k) q r
 rw [kvI_ok (eB_mk (by omega) (by omega) (by omega) (by omega) (by omega) (by omega) (by omega) (by omega) (by omega))] at hm
 clear hv ho b1 a1 a2 a3 a4 a5 a6 a7 a8 a9 b2 b3 b4 b5 hkp
 generalize volI t y z (t + k) q r = v at hm ⊢
 go_enter Try.func16,Try.ntmps16
 go_wp2_with (first | (go_at_call 14; refine (hs _).mono ?_; rintro e w1 ⟨rfl,hb1⟩; obtain ⟨hc1,hf1⟩ := bcell hb1; have hz1 := hb1.size; (try simp at hz1); (try have y10 : w.heap.size < w1.heap.size := (by omega)); (try have y10p : w.heap.size < w1.heap.size + 1 := (by omega)); (try have y11 : w.heap.size + 1 < w1.heap.size := (by omega)); (try have y11p : w.heap.size + 1 < w1.heap.size + 1 := (by omega)); (try have y12 : w.heap.size + 1 + 1 < w1.heap.size := (by omega)); (try have y12p : w.heap.size + 1 + 1 < w1.heap.size + 1 := (by omega)); (try have y13 : w.heap.size + 1 + 1 + 1 < w1.heap.size := (by omega)); (try have y13p : w.heap.size + 1 + 1 + 1 < w1.heap.size + 1 := (by omega)); (try have y14 : w.heap.size + 1 + 1 + 1 + 1 < w1.heap.size := (by omega)); (try have y14p : w.heap.size + 1 + 1 + 1 + 1 < w1.heap.size + 1 := (by omega)); (try have v0x1 : w0.heap.size < w1.heap.size := (by omega)); (try have v0x1p : w0.heap.size < w1.heap.size + 1 := (by omega))) | (go_at_call 44; refine (hm _).mono ?_; rintro e w2 ⟨rfl,hb2⟩; obtain ⟨hc2,hf2⟩ := bcell hb2; have hz2 := hb2.size; (try simp at hz2); (try have y20 : w.heap.size < w2.heap.size := (by omega)); (try have y20p : w.heap.size < w2.heap.size + 1 := (by omega)); (try have y21 : w.heap.size + 1 < w2.heap.size := (by omega)); (try have y21p : w.heap.size + 1 < w2.heap.size + 1 := (by omega)); (try have y22 : w.heap.size + 1 + 1 < w2.heap.size := (by omega)); (try have y22p : w.heap.size + 1 + 1 < w2.heap.size + 1 := (by omega)); (try have y23 : w.heap.size + 1 + 1 + 1 < w2.heap.size := (by omega)); (try have y23p : w.heap.size + 1 + 1 + 1 < w2.heap.size + 1 := (by omega)); (try have y24 : w.heap.size + 1 + 1 + 1 + 1 < w2.heap.size := (by omega)); (try have y24p : w.heap.size + 1 + 1 + 1 + 1 < w2.heap.size + 1 := (by omega)); (try have v0x2 : w0.heap.size < w2.heap.size := (by omega)); (try have v0x2p : w0.heap.size < w2.heap.size + 1 := (by omega)); (try have v1x2 : w1.heap.size < w2.heap.size := (by omega)); (try have v1x2p : w1.heap.size < w2.heap.size + 1 := (by omega))))
 go_ret2
 refine ⟨rfl,?_⟩
 repeat (first | with_reducible exact Below.refl _ _ | with_reducible refine Below.setCell ?_ ?_ _ | with_reducible refine Below.alloc ?_ ?_ _ | with_reducible refine Below.drew ?_ | with_reducible refine below_drewN ?_ _ | (refine Below.trans ?_ (bmono (by assumption) ?_)))
 all_goals (first | omega | (simp <;> omega))
set_option maxHeartbeats 2000000 in
set_option maxRecDepth 100000 in
theorem Loss1z (x y z p q r t k : Int) (hv : eB x y z p q r = 0) (ho : okI y q t k = 0) (hkp : k = 0) (w : World) :
  Calls Try.prog 16 #[.agg #[x,y,z,p,q,r],.agg #[.int .i64 1,t,k]] w fun e w' => e = .returned (.tuple #[.int .i64 0,.int .i64 0]) ∧ Below w.heap.size w w' := by
 have hs := Split1z x y z p q r t k hv ho hkp
 obtain ⟨⟨a1,a2,a3⟩,⟨a4,a5,a6⟩,⟨a7,a8,a9⟩⟩ := eB_bd hv
 obtain ⟨b1,b2,b3⟩ := okI_z ho
 obtain ⟨b4,b5⟩ := rgB_iff.1 b1
 have hm := kvol_any 0 0 0 0 0 0
 rw [kvI_bad eB_zz] at hm
 clear hv ho b1 a1 a2 a3 a4 a5 a6 a7 a8 a9 b2 b3 b4 b5 hkp
 
 go_enter Try.func16,Try.ntmps16
 go_wp2_with (first | (go_at_call 14; refine (hs _).mono ?_; rintro e w1 ⟨rfl,hb1⟩; obtain ⟨hc1,hf1⟩ := bcell hb1; have hz1 := hb1.size; (try simp at hz1); (try have y10 : w.heap.size < w1.heap.size := (by omega)); (try have y10p : w.heap.size < w1.heap.size + 1 := (by omega)); (try have y11 : w.heap.size + 1 < w1.heap.size := (by omega)); (try have y11p : w.heap.size + 1 < w1.heap.size + 1 := (by omega)); (try have y12 : w.heap.size + 1 + 1 < w1.heap.size := (by omega)); (try have y12p : w.heap.size + 1 + 1 < w1.heap.size + 1 := (by omega)); (try have y13 : w.heap.size + 1 + 1 + 1 < w1.heap.size := (by omega)); (try have y13p : w.heap.size + 1 + 1 + 1 < w1.heap.size + 1 := (by omega)); (try have y14 : w.heap.size + 1 + 1 + 1 + 1 < w1.heap.size := (by omega)); (try have y14p : w.heap.size + 1 + 1 + 1 + 1 < w1.heap.size + 1 := (by omega)); (try have v0x1 : w0.heap.size < w1.heap.size := (by omega)); (try have v0x1p : w0.heap.size < w1.heap.size + 1 := (by omega))) | (go_at_call 44; refine (hm _).mono ?_; rintro e w2 ⟨rfl,hb2⟩; obtain ⟨hc2,hf2⟩ := bcell hb2; have hz2 := hb2.size; (try simp at hz2); (try have y20 : w.heap.size < w2.heap.size := (by omega)); (try have y20p : w.heap.size < w2.heap.size + 1 := (by omega)); (try have y21 : w.heap.size + 1 < w2.heap.size := (by omega)); (try have y21p : w.heap.size + 1 < w2.heap.size + 1 := (by omega)); (try have y22 : w.heap.size + 1 + 1 < w2.heap.size := (by omega)); (try have y22p : w.heap.size + 1 + 1 < w2.heap.size + 1 := (by omega)); (try have y23 : w.heap.size + 1 + 1 + 1 < w2.heap.size := (by omega)); (try have y23p : w.heap.size + 1 + 1 + 1 < w2.heap.size + 1 := (by omega)); (try have y24 : w.heap.size + 1 + 1 + 1 + 1 < w2.heap.size := (by omega)); (try have y24p : w.heap.size + 1 + 1 + 1 + 1 < w2.heap.size + 1 := (by omega)); (try have v0x2 : w0.heap.size < w2.heap.size := (by omega)); (try have v0x2p : w0.heap.size < w2.heap.size + 1 := (by omega)); (try have v1x2 : w1.heap.size < w2.heap.size := (by omega)); (try have v1x2p : w1.heap.size < w2.heap.size + 1 := (by omega))))
 go_ret2
 refine ⟨rfl,?_⟩
 repeat (first | with_reducible exact Below.refl _ _ | with_reducible refine Below.setCell ?_ ?_ _ | with_reducible refine Below.alloc ?_ ?_ _ | with_reducible refine Below.drew ?_ | with_reducible refine below_drewN ?_ _ | (refine Below.trans ?_ (bmono (by assumption) ?_)))
 all_goals (first | omega | (simp <;> omega))
set_option maxHeartbeats 2000000 in
set_option maxRecDepth 100000 in
theorem Loss1p (x y z p q r t k : Int) (hv : eB x y z p q r = 0) (ho : okI y q t k = 0) (hkp : 0 < k) (w : World) :
  Calls Try.prog 16 #[.agg #[x,y,z,p,q,r],.agg #[.int .i64 1,t,k]] w fun e w' => e = .returned (.tuple #[.int .i64 (volI x t z p (t + k) r),.int .i64 0]) ∧ Below w.heap.size w w' := by
 have hs := Split1p x y z p q r t k hv ho hkp
 obtain ⟨⟨a1,a2,a3⟩,⟨a4,a5,a6⟩,⟨a7,a8,a9⟩⟩ := eB_bd hv
 obtain ⟨b1,b2,b3⟩ := okI_z ho
 obtain ⟨b4,b5⟩ := rgB_iff.1 b1
 have hm := kvol_any x t z p (t + k) r
 rw [kvI_ok (eB_mk (by omega) (by omega) (by omega) (by omega) (by omega) (by omega) (by omega) (by omega) (by omega))] at hm
 clear hv ho b1 a1 a2 a3 a4 a5 a6 a7 a8 a9 b2 b3 b4 b5 hkp
 generalize volI x t z p (t + k) r = v at hm ⊢
 go_enter Try.func16,Try.ntmps16
 go_wp2_with (first | (go_at_call 14; refine (hs _).mono ?_; rintro e w1 ⟨rfl,hb1⟩; obtain ⟨hc1,hf1⟩ := bcell hb1; have hz1 := hb1.size; (try simp at hz1); (try have y10 : w.heap.size < w1.heap.size := (by omega)); (try have y10p : w.heap.size < w1.heap.size + 1 := (by omega)); (try have y11 : w.heap.size + 1 < w1.heap.size := (by omega)); (try have y11p : w.heap.size + 1 < w1.heap.size + 1 := (by omega)); (try have y12 : w.heap.size + 1 + 1 < w1.heap.size := (by omega)); (try have y12p : w.heap.size + 1 + 1 < w1.heap.size + 1 := (by omega)); (try have y13 : w.heap.size + 1 + 1 + 1 < w1.heap.size := (by omega)); (try have y13p : w.heap.size + 1 + 1 + 1 < w1.heap.size + 1 := (by omega)); (try have y14 : w.heap.size + 1 + 1 + 1 + 1 < w1.heap.size := (by omega)); (try have y14p : w.heap.size + 1 + 1 + 1 + 1 < w1.heap.size + 1 := (by omega)); (try have v0x1 : w0.heap.size < w1.heap.size := (by omega)); (try have v0x1p : w0.heap.size < w1.heap.size + 1 := (by omega))) | (go_at_call 44; refine (hm _).mono ?_; rintro e w2 ⟨rfl,hb2⟩; obtain ⟨hc2,hf2⟩ := bcell hb2; have hz2 := hb2.size; (try simp at hz2); (try have y20 : w.heap.size < w2.heap.size := (by omega)); (try have y20p : w.heap.size < w2.heap.size + 1 := (by omega)); (try have y21 : w.heap.size + 1 < w2.heap.size := (by omega)); (try have y21p : w.heap.size + 1 < w2.heap.size + 1 := (by omega)); (try have y22 : w.heap.size + 1 + 1 < w2.heap.size := (by omega)); (try have y22p : w.heap.size + 1 + 1 < w2.heap.size + 1 := (by omega)); (try have y23 : w.heap.size + 1 + 1 + 1 < w2.heap.size := (by omega)); (try have y23p : w.heap.size + 1 + 1 + 1 < w2.heap.size + 1 := (by omega)); (try have y24 : w.heap.size + 1 + 1 + 1 + 1 < w2.heap.size := (by omega)); (try have y24p : w.heap.size + 1 + 1 + 1 + 1 < w2.heap.size + 1 := (by omega)); (try have v0x2 : w0.heap.size < w2.heap.size := (by omega)); (try have v0x2p : w0.heap.size < w2.heap.size + 1 := (by omega)); (try have v1x2 : w1.heap.size < w2.heap.size := (by omega)); (try have v1x2p : w1.heap.size < w2.heap.size + 1 := (by omega))))
 go_ret2
 refine ⟨rfl,?_⟩
 repeat (first | with_reducible exact Below.refl _ _ | with_reducible refine Below.setCell ?_ ?_ _ | with_reducible refine Below.alloc ?_ ?_ _ | with_reducible refine Below.drew ?_ | with_reducible refine below_drewN ?_ _ | (refine Below.trans ?_ (bmono (by assumption) ?_)))
 all_goals (first | omega | (simp <;> omega))
set_option maxHeartbeats 2000000 in
set_option maxRecDepth 100000 in
theorem Loss2z (x y z p q r t k : Int) (hv : eB x y z p q r = 0) (ho : okI z r t k = 0) (hkp : k = 0) (w : World) :
  Calls Try.prog 16 #[.agg #[x,y,z,p,q,r],.agg #[.int .i64 2,t,k]] w fun e w' => e = .returned (.tuple #[.int .i64 0,.int .i64 0]) ∧ Below w.heap.size w w' := by
 have hs := Split2z x y z p q r t k hv ho hkp
 obtain ⟨⟨a1,a2,a3⟩,⟨a4,a5,a6⟩,⟨a7,a8,a9⟩⟩ := eB_bd hv
 obtain ⟨b1,b2,b3⟩ := okI_z ho
 obtain ⟨b4,b5⟩ := rgB_iff.1 b1
 have hm := kvol_any 0 0 0 0 0 0
 rw [kvI_bad eB_zz] at hm
 clear hv ho b1 a1 a2 a3 a4 a5 a6 a7 a8 a9 b2 b3 b4 b5 hkp
 
 go_enter Try.func16,Try.ntmps16
 go_wp2_with (first | (go_at_call 14; refine (hs _).mono ?_; rintro e w1 ⟨rfl,hb1⟩; obtain ⟨hc1,hf1⟩ := bcell hb1; have hz1 := hb1.size; (try simp at hz1); (try have y10 : w.heap.size < w1.heap.size := (by omega)); (try have y10p : w.heap.size < w1.heap.size + 1 := (by omega)); (try have y11 : w.heap.size + 1 < w1.heap.size := (by omega)); (try have y11p : w.heap.size + 1 < w1.heap.size + 1 := (by omega)); (try have y12 : w.heap.size + 1 + 1 < w1.heap.size := (by omega)); (try have y12p : w.heap.size + 1 + 1 < w1.heap.size + 1 := (by omega)); (try have y13 : w.heap.size + 1 + 1 + 1 < w1.heap.size := (by omega)); (try have y13p : w.heap.size + 1 + 1 + 1 < w1.heap.size + 1 := (by omega)); (try have y14 : w.heap.size + 1 + 1 + 1 + 1 < w1.heap.size := (by omega)); (try have y14p : w.heap.size + 1 + 1 + 1 + 1 < w1.heap.size + 1 := (by omega)); (try have v0x1 : w0.heap.size < w1.heap.size := (by omega)); (try have v0x1p : w0.heap.size < w1.heap.size + 1 := (by omega))) | (go_at_call 44; refine (hm _).mono ?_; rintro e w2 ⟨rfl,hb2⟩; obtain ⟨hc2,hf2⟩ := bcell hb2; have hz2 := hb2.size; (try simp at hz2); (try have y20 : w.heap.size < w2.heap.size := (by omega)); (try have y20p : w.heap.size < w2.heap.size + 1 := (by omega)); (try have y21 : w.heap.size + 1 < w2.heap.size := (by omega)); (try have y21p : w.heap.size + 1 < w2.heap.size + 1 := (by omega)); (try have y22 : w.heap.size + 1 + 1 < w2.heap.size := (by omega)); (try have y22p : w.heap.size + 1 + 1 < w2.heap.size + 1 := (by omega)); (try have y23 : w.heap.size + 1 + 1 + 1 < w2.heap.size := (by omega)); (try have y23p : w.heap.size + 1 + 1 + 1 < w2.heap.size + 1 := (by omega)); (try have y24 : w.heap.size + 1 + 1 + 1 + 1 < w2.heap.size := (by omega)); (try have y24p : w.heap.size + 1 + 1 + 1 + 1 < w2.heap.size + 1 := (by omega)); (try have v0x2 : w0.heap.size < w2.heap.size := (by omega)); (try have v0x2p : w0.heap.size < w2.heap.size + 1 := (by omega)); (try have v1x2 : w1.heap.size < w2.heap.size := (by omega)); (try have v1x2p : w1.heap.size < w2.heap.size + 1 := (by omega))))
 go_ret2
 refine ⟨rfl,?_⟩
 repeat (first | with_reducible exact Below.refl _ _ | with_reducible refine Below.setCell ?_ ?_ _ | with_reducible refine Below.alloc ?_ ?_ _ | with_reducible refine Below.drew ?_ | with_reducible refine below_drewN ?_ _ | (refine Below.trans ?_ (bmono (by assumption) ?_)))
 all_goals (first | omega | (simp <;> omega))
set_option maxHeartbeats 2000000 in
set_option maxRecDepth 100000 in
theorem Loss2p (x y z p q r t k : Int) (hv : eB x y z p q r = 0) (ho : okI z r t k = 0) (hkp : 0 < k) (w : World) :
  Calls Try.prog 16 #[.agg #[x,y,z,p,q,r],.agg #[.int .i64 2,t,k]] w fun e w' => e = .returned (.tuple #[.int .i64 (volI x y t p q (t + k)),.int .i64 0]) ∧ Below w.heap.size w w' := by
 have hs := Split2p x y z p q r t k hv ho hkp
 obtain ⟨⟨a1,a2,a3⟩,⟨a4,a5,a6⟩,⟨a7,a8,a9⟩⟩ := eB_bd hv
 obtain ⟨b1,b2,b3⟩ := okI_z ho
 obtain ⟨b4,b5⟩ := rgB_iff.1 b1
 have hm := kvol_any x y t p q (t + k)
 rw [kvI_ok (eB_mk (by omega) (by omega) (by omega) (by omega) (by omega) (by omega) (by omega) (by omega) (by omega))] at hm
 clear hv ho b1 a1 a2 a3 a4 a5 a6 a7 a8 a9 b2 b3 b4 b5 hkp
 generalize volI x y t p q (t + k) = v at hm ⊢
 go_enter Try.func16,Try.ntmps16
 go_wp2_with (first | (go_at_call 14; refine (hs _).mono ?_; rintro e w1 ⟨rfl,hb1⟩; obtain ⟨hc1,hf1⟩ := bcell hb1; have hz1 := hb1.size; (try simp at hz1); (try have y10 : w.heap.size < w1.heap.size := (by omega)); (try have y10p : w.heap.size < w1.heap.size + 1 := (by omega)); (try have y11 : w.heap.size + 1 < w1.heap.size := (by omega)); (try have y11p : w.heap.size + 1 < w1.heap.size + 1 := (by omega)); (try have y12 : w.heap.size + 1 + 1 < w1.heap.size := (by omega)); (try have y12p : w.heap.size + 1 + 1 < w1.heap.size + 1 := (by omega)); (try have y13 : w.heap.size + 1 + 1 + 1 < w1.heap.size := (by omega)); (try have y13p : w.heap.size + 1 + 1 + 1 < w1.heap.size + 1 := (by omega)); (try have y14 : w.heap.size + 1 + 1 + 1 + 1 < w1.heap.size := (by omega)); (try have y14p : w.heap.size + 1 + 1 + 1 + 1 < w1.heap.size + 1 := (by omega)); (try have v0x1 : w0.heap.size < w1.heap.size := (by omega)); (try have v0x1p : w0.heap.size < w1.heap.size + 1 := (by omega))) | (go_at_call 44; refine (hm _).mono ?_; rintro e w2 ⟨rfl,hb2⟩; obtain ⟨hc2,hf2⟩ := bcell hb2; have hz2 := hb2.size; (try simp at hz2); (try have y20 : w.heap.size < w2.heap.size := (by omega)); (try have y20p : w.heap.size < w2.heap.size + 1 := (by omega)); (try have y21 : w.heap.size + 1 < w2.heap.size := (by omega)); (try have y21p : w.heap.size + 1 < w2.heap.size + 1 := (by omega)); (try have y22 : w.heap.size + 1 + 1 < w2.heap.size := (by omega)); (try have y22p : w.heap.size + 1 + 1 < w2.heap.size + 1 := (by omega)); (try have y23 : w.heap.size + 1 + 1 + 1 < w2.heap.size := (by omega)); (try have y23p : w.heap.size + 1 + 1 + 1 < w2.heap.size + 1 := (by omega)); (try have y24 : w.heap.size + 1 + 1 + 1 + 1 < w2.heap.size := (by omega)); (try have y24p : w.heap.size + 1 + 1 + 1 + 1 < w2.heap.size + 1 := (by omega)); (try have v0x2 : w0.heap.size < w2.heap.size := (by omega)); (try have v0x2p : w0.heap.size < w2.heap.size + 1 := (by omega)); (try have v1x2 : w1.heap.size < w2.heap.size := (by omega)); (try have v1x2p : w1.heap.size < w2.heap.size + 1 := (by omega))))
 go_ret2
 refine ⟨rfl,?_⟩
 repeat (first | with_reducible exact Below.refl _ _ | with_reducible refine Below.setCell ?_ ?_ _ | with_reducible refine Below.alloc ?_ ?_ _ | with_reducible refine Below.drew ?_ | with_reducible refine below_drewN ?_ _ | (refine Below.trans ?_ (bmono (by assumption) ?_)))
 all_goals (first | omega | (simp <;> omega))
set_option maxHeartbeats 2000000 in
theorem Loss_bad (x y z p q r a t k f : Int) (hf : ckI x y z p q r a t k = f) (hn : f ≠ 0) (w : World) :
  Calls Try.prog 16 #[.agg #[x,y,z,p,q,r],.agg #[a,t,k]] w fun e w' => e = .returned (.tuple #[.int .i64 0,f]) ∧ Below w.heap.size w w' := by
 have hs := Split_bad x y z p q r a t k f hf hn
 have hm := kvol_any 0 0 0 0 0 0
 rw [kvI_bad eB_zz] at hm
 clear hf hn
 go_enter Try.func16,Try.ntmps16
 go_wp2_with (first | (go_at_call 14; refine (hs _).mono ?_; rintro e w1 ⟨rfl,hb1⟩; obtain ⟨hc1,hf1⟩ := bcell hb1; have hz1 := hb1.size; (try simp at hz1); (try have y10 : w.heap.size < w1.heap.size := (by omega)); (try have y10p : w.heap.size < w1.heap.size + 1 := (by omega)); (try have y11 : w.heap.size + 1 < w1.heap.size := (by omega)); (try have y11p : w.heap.size + 1 < w1.heap.size + 1 := (by omega)); (try have y12 : w.heap.size + 1 + 1 < w1.heap.size := (by omega)); (try have y12p : w.heap.size + 1 + 1 < w1.heap.size + 1 := (by omega)); (try have y13 : w.heap.size + 1 + 1 + 1 < w1.heap.size := (by omega)); (try have y13p : w.heap.size + 1 + 1 + 1 < w1.heap.size + 1 := (by omega)); (try have y14 : w.heap.size + 1 + 1 + 1 + 1 < w1.heap.size := (by omega)); (try have y14p : w.heap.size + 1 + 1 + 1 + 1 < w1.heap.size + 1 := (by omega)); (try have v0x1 : w0.heap.size < w1.heap.size := (by omega)); (try have v0x1p : w0.heap.size < w1.heap.size + 1 := (by omega))) | (go_at_call 44; refine (hm _).mono ?_; rintro e w2 ⟨rfl,hb2⟩; obtain ⟨hc2,hf2⟩ := bcell hb2; have hz2 := hb2.size; (try simp at hz2); (try have y20 : w.heap.size < w2.heap.size := (by omega)); (try have y20p : w.heap.size < w2.heap.size + 1 := (by omega)); (try have y21 : w.heap.size + 1 < w2.heap.size := (by omega)); (try have y21p : w.heap.size + 1 < w2.heap.size + 1 := (by omega)); (try have y22 : w.heap.size + 1 + 1 < w2.heap.size := (by omega)); (try have y22p : w.heap.size + 1 + 1 < w2.heap.size + 1 := (by omega)); (try have y23 : w.heap.size + 1 + 1 + 1 < w2.heap.size := (by omega)); (try have y23p : w.heap.size + 1 + 1 + 1 < w2.heap.size + 1 := (by omega)); (try have y24 : w.heap.size + 1 + 1 + 1 + 1 < w2.heap.size := (by omega)); (try have y24p : w.heap.size + 1 + 1 + 1 + 1 < w2.heap.size + 1 := (by omega)); (try have v0x2 : w0.heap.size < w2.heap.size := (by omega)); (try have v0x2p : w0.heap.size < w2.heap.size + 1 := (by omega)); (try have v1x2 : w1.heap.size < w2.heap.size := (by omega)); (try have v1x2p : w1.heap.size < w2.heap.size + 1 := (by omega))))
 go_ret2
 refine ⟨rfl,?_⟩
 repeat (first | with_reducible exact Below.refl _ _ | with_reducible refine Below.setCell ?_ ?_ _ | with_reducible refine Below.alloc ?_ ?_ _ | with_reducible refine Below.drew ?_ | with_reducible refine below_drewN ?_ _ | (refine Below.trans ?_ (bmono (by assumption) ?_)))
 all_goals (first | omega | (simp <;> omega))
def mostOk (l t k : Int) : Bool := rgB 1 2000000 l && (rgB 1 2000000 t && rgB 0 1000 k)
set_option maxHeartbeats 2000000 in
theorem Most_any (l t k : Int) (w : World) :
  Calls Try.prog 22 #[l,t,k] w fun e w' => e = .returned (.tuple #[.int .i64 (if mostOk l t k then (l + k) / (t + k) else 0),.int .i64 (if mostOk l t k then 0 else 6)]) ∧ w = w' := by
 have h1 := isLen_any l
 have h2 := isLen_any t
 have h3 := isKerf_any k
 cases e1 : rgB 1 2000000 l
 ·rw [show mostOk l t k = false by simp [mostOk,e1]]
  rw [e1] at h1
  clear e1 h2 h3
  go_enter Try.func22,Try.ntmps22
  go_wp2_with (go_at_call 48; refine (h1 _).mono ?_; rintro e w' ⟨rfl,rfl⟩)
  go_ret2
  exact ⟨rfl,rfl⟩
 ·cases e2 : rgB 1 2000000 t
  ·rw [show mostOk l t k = false by simp [mostOk,e1,e2]]
   rw [e1] at h1
   rw [e2] at h2
   clear e1 e2 h3
   go_enter Try.func22,Try.ntmps22
   go_wp2_with (first | (go_at_call_of 48 l; refine (h1 _).mono ?_; rintro e w' ⟨rfl,rfl⟩) | (go_at_call_of 48 t; refine (h2 _).mono ?_; rintro e w' ⟨rfl,rfl⟩))
   go_ret2
   exact ⟨rfl,rfl⟩
  ·cases e3 : rgB 0 1000 k
   ·rw [show mostOk l t k = false by simp [mostOk,e1,e2,e3]]
    rw [e1] at h1
    rw [e2] at h2
    rw [e3] at h3
    clear e1 e2 e3
    go_enter Try.func22,Try.ntmps22
    go_wp2_with (first | (go_at_call_of 48 l; refine (h1 _).mono ?_; rintro e w' ⟨rfl,rfl⟩) | (go_at_call_of 48 t; refine (h2 _).mono ?_; rintro e w' ⟨rfl,rfl⟩) | (go_at_call 46; refine (h3 _).mono ?_; rintro e w' ⟨rfl,rfl⟩))
    go_ret2
    exact ⟨rfl,rfl⟩
   ·rw [show mostOk l t k = true by simp [mostOk,e1,e2,e3]]
    have i1 := rgB_iff.1 e1
    have i2 := rgB_iff.1 e2
    have i3 := rgB_iff.1 e3
    have hm := fun w => most_any l t k i1.1 i1.2 i2.1 i2.2 i3.1 i3.2 w
    rw [e1] at h1
    rw [e2] at h2
    rw [e3] at h3
    clear e1 e2 e3 i1 i2 i3
    generalize (l + k) / (t + k) = m at hm ⊢
    go_enter Try.func22,Try.ntmps22
    go_wp2_with (first | (go_at_call_of 48 l; refine (h1 _).mono ?_; rintro e w' ⟨rfl,rfl⟩) | (go_at_call_of 48 t; refine (h2 _).mono ?_; rintro e w' ⟨rfl,rfl⟩) | (go_at_call 46; refine (h3 _).mono ?_; rintro e w' ⟨rfl,rfl⟩) | (go_at_call 49; refine (hm _).mono ?_; rintro e w' ⟨rfl,rfl⟩))
    go_ret2
    exact ⟨rfl,rfl⟩
end Go.Proofs.Ytogmgaaejepcbaa
