/- KerfWhole, one axis. -/
import Derived.Test.YtogmgaaejepcbaaAwk
import Derived.Test.YtogmgaaejepcbaaVpo
import Derived.Test.YtogmgaaejepcbaaEqc
import Derived.Test.YtogmgaaejepcbaaReg
import Derived.Test.YtogmgaaejepcbaaJoi0ok
namespace Go.Proofs.Ytogmgaaejepcbaa
open Go.RowKit

set_option maxHeartbeats 16000000 in
set_option maxRecDepth 100000 in
theorem whole_0p (x y z p q r t k : Int) (hv : eB x y z p q r = 0) (ho : okI x p t k = 0) (hkp : 0 < k) (w : World) : Calls Try.prog 8 #[.agg #[.int .i64 x, .int .i64 y, .int .i64 z, .int .i64 p, .int .i64 q, .int .i64 r], .agg #[.int .i64 0, .int .i64 t, .int .i64 k]] w fun e w' => e = .returned (.bool true) ∧ Below w.heap.size w w' := by
  have hA := awake_any
  have hs := Split0p x y z p q r t k hv ho hkp
  have hl := Loss0p x y z p q r t k hv ho hkp
  obtain ⟨⟨a1, a2, a3⟩, ⟨a4, a5, a6⟩, ⟨a7, a8, a9⟩⟩ := eB_bd hv
  obtain ⟨b1, b2, b3⟩ := okI_z ho
  obtain ⟨b4, b5⟩ := rgB_iff.1 b1
  have ef : eB x y z t q r = 0 := eB_mk (by omega) (by omega) (by omega) (by omega) (by omega) (by omega) (by omega) (by omega) (by omega)
  have es : eB (t + k) y z p q r = 0 := eB_mk (by omega) (by omega) (by omega) (by omega) (by omega) (by omega) (by omega) (by omega) (by omega)
  have hjn := Join0ok x y z t q r (t + k) y z p q r ef es (by simp [jnB0]) (rgB_iff.2 (by omega))
  have hv1 := fun w => lvol_any x y z t q r (by omega) (by omega) (by omega) (by omega) (by omega) (by omega) w
  have hv2 := fun w => lvol_any (t + k) y z p q r (by omega) (by omega) (by omega) (by omega) (by omega) (by omega) w
  have hvb := fun w => lvol_any x y z p q r (by omega) (by omega) (by omega) (by omega) (by omega) (by omega) w
  have hvm := fun w => lvol_any t y z (t + k) q r (by omega) (by omega) (by omega) (by omega) (by omega) (by omega) w
  have p1 := vol_pos x y z t q r (by omega) (by omega) (by omega)
  have p2 := vol_pos (t + k) y z p q r (by omega) (by omega) (by omega)
  have hsum : volI x y z t q r + volI t y z (t + k) q r + volI (t + k) y z p q r = volI x y z p q r := by
    unfold volI
    
    grind
  have hbv := vol_bd x y z p q r (by omega) (by omega) (by omega) (by omega) (by omega) (by omega)
  have hvm0 : 0 ≤ volI t y z (t + k) q r := vol_nn t y z (t + k) q r (by omega) (by omega) (by omega)
  generalize volI t y z (t + k) q r = V at *
  generalize volI x y z t q r = V1 at *
  generalize volI (t + k) y z p q r = V2 at *
  generalize volI x y z p q r = VB at *
  have x1 : IntKind.i64.wrap (V1 + V) = (V1 + V) := IntWalk.i64_in _ (by omega)
  have x2 : IntKind.i64.wrap (V1 + V + V2) = V1 + V + V2 := IntWalk.i64_in _ (by omega)
  have x3 : (V1 + V + V2 == VB) = true := by rw [beq_iff_eq]; omega
  have x4 : decide (0 < V1) = true := by simpa using p1
  have x5 : decide (0 < V2) = true := by simpa using p2
  have q1 : ∀ w, Sem.run Try.prog (binOp .eql 25 (.agg #[.int .i64 x, .int .i64 y, .int .i64 z, .int .i64 p, .int .i64 q, .int .i64 r]) (.agg #[.int .i64 x, .int .i64 y, .int .i64 z, .int .i64 p, .int .i64 q, .int .i64 r])) w = .ok (.bool true) w := fun w => by rw [eqB]; simp
  have q2 : ∀ w, Sem.run Try.prog (binOp .eql 33 (.agg #[.int .i64 0, .int .i64 t, .int .i64 (t + k - t)]) (.agg #[.int .i64 0, .int .i64 t, .int .i64 k])) w = .ok (.bool true) w := fun w => by rw [eqC]; simp; omega
  clear hv ho b1 a1 a2 a3 a4 a5 a6 a7 a8 a9 b2 b3 b4 b5 hkp ef es hsum hbv hvm0 p1 p2
  go_enter Try.func8, Try.ntmps8
  go_wp2_with (first | (go_at_call 12; refine (hA _).mono ?_; rintro e w1 ⟨rfl, hb1⟩; obtain ⟨hc1, hf1⟩ := bcell hb1; have hz1 := hb1.size; (try simp at hz1); (try have y10 : w.heap.size < w1.heap.size := (by omega)); (try have y10p : w.heap.size < w1.heap.size + 1 := (by omega)); (try have y11 : w.heap.size + 1 < w1.heap.size := (by omega)); (try have y11p : w.heap.size + 1 < w1.heap.size + 1 := (by omega)); (try have y12 : w.heap.size + 1 + 1 < w1.heap.size := (by omega)); (try have y12p : w.heap.size + 1 + 1 < w1.heap.size + 1 := (by omega)); (try have y13 : w.heap.size + 1 + 1 + 1 < w1.heap.size := (by omega)); (try have y13p : w.heap.size + 1 + 1 + 1 < w1.heap.size + 1 := (by omega)); (try have y14 : w.heap.size + 1 + 1 + 1 + 1 < w1.heap.size := (by omega)); (try have y14p : w.heap.size + 1 + 1 + 1 + 1 < w1.heap.size + 1 := (by omega)); (try have v0x1 : w0.heap.size < w1.heap.size := (by omega)); (try have v0x1p : w0.heap.size < w1.heap.size + 1 := (by omega))) | (go_at_call 14; refine (hs _).mono ?_; rintro e w2 ⟨rfl, hb2⟩; obtain ⟨hc2, hf2⟩ := bcell hb2; have hz2 := hb2.size; (try simp at hz2); (try have y20 : w.heap.size < w2.heap.size := (by omega)); (try have y20p : w.heap.size < w2.heap.size + 1 := (by omega)); (try have y21 : w.heap.size + 1 < w2.heap.size := (by omega)); (try have y21p : w.heap.size + 1 < w2.heap.size + 1 := (by omega)); (try have y22 : w.heap.size + 1 + 1 < w2.heap.size := (by omega)); (try have y22p : w.heap.size + 1 + 1 < w2.heap.size + 1 := (by omega)); (try have y23 : w.heap.size + 1 + 1 + 1 < w2.heap.size := (by omega)); (try have y23p : w.heap.size + 1 + 1 + 1 < w2.heap.size + 1 := (by omega)); (try have y24 : w.heap.size + 1 + 1 + 1 + 1 < w2.heap.size := (by omega)); (try have y24p : w.heap.size + 1 + 1 + 1 + 1 < w2.heap.size + 1 := (by omega)); (try have v0x2 : w0.heap.size < w2.heap.size := (by omega)); (try have v0x2p : w0.heap.size < w2.heap.size + 1 := (by omega)); (try have v1x2 : w1.heap.size < w2.heap.size := (by omega)); (try have v1x2p : w1.heap.size < w2.heap.size + 1 := (by omega))) | (go_at_call 16; refine (hl _).mono ?_; rintro e w3 ⟨rfl, hb3⟩; obtain ⟨hc3, hf3⟩ := bcell hb3; have hz3 := hb3.size; (try simp at hz3); (try have y30 : w.heap.size < w3.heap.size := (by omega)); (try have y30p : w.heap.size < w3.heap.size + 1 := (by omega)); (try have y31 : w.heap.size + 1 < w3.heap.size := (by omega)); (try have y31p : w.heap.size + 1 < w3.heap.size + 1 := (by omega)); (try have y32 : w.heap.size + 1 + 1 < w3.heap.size := (by omega)); (try have y32p : w.heap.size + 1 + 1 < w3.heap.size + 1 := (by omega)); (try have y33 : w.heap.size + 1 + 1 + 1 < w3.heap.size := (by omega)); (try have y33p : w.heap.size + 1 + 1 + 1 < w3.heap.size + 1 := (by omega)); (try have y34 : w.heap.size + 1 + 1 + 1 + 1 < w3.heap.size := (by omega)); (try have y34p : w.heap.size + 1 + 1 + 1 + 1 < w3.heap.size + 1 := (by omega)); (try have v0x3 : w0.heap.size < w3.heap.size := (by omega)); (try have v0x3p : w0.heap.size < w3.heap.size + 1 := (by omega)); (try have v1x3 : w1.heap.size < w3.heap.size := (by omega)); (try have v1x3p : w1.heap.size < w3.heap.size + 1 := (by omega)); (try have v2x3 : w2.heap.size < w3.heap.size := (by omega)); (try have v2x3p : w2.heap.size < w3.heap.size + 1 := (by omega)); have mw3_0_0 : w2.heap.size < w3.heap.size := (by omega); have mw3_0_1 : w2.heap.size < w3.heap.size + 1 := (by omega); have mw3_0_2 : w2.heap.size < w3.heap.size + 1 + 1 := (by omega); have mw3_1_0 : (w2.heap.size + 1) < w3.heap.size := (by omega); have mw3_1_1 : (w2.heap.size + 1) < w3.heap.size + 1 := (by omega); have mw3_1_2 : (w2.heap.size + 1) < w3.heap.size + 1 + 1 := (by omega); have mw3_2_0 : (w2.heap.size + 1 + 1) < w3.heap.size := (by omega); have mw3_2_1 : (w2.heap.size + 1 + 1) < w3.heap.size + 1 := (by omega); have mw3_2_2 : (w2.heap.size + 1 + 1) < w3.heap.size + 1 + 1 := (by omega)) | (go_at_call 20; refine (hjn _).mono ?_; rintro e w4 ⟨rfl, hb4⟩; obtain ⟨hc4, hf4⟩ := bcell hb4; have hz4 := hb4.size; (try simp at hz4); (try have y40 : w.heap.size < w4.heap.size := (by omega)); (try have y40p : w.heap.size < w4.heap.size + 1 := (by omega)); (try have y41 : w.heap.size + 1 < w4.heap.size := (by omega)); (try have y41p : w.heap.size + 1 < w4.heap.size + 1 := (by omega)); (try have y42 : w.heap.size + 1 + 1 < w4.heap.size := (by omega)); (try have y42p : w.heap.size + 1 + 1 < w4.heap.size + 1 := (by omega)); (try have y43 : w.heap.size + 1 + 1 + 1 < w4.heap.size := (by omega)); (try have y43p : w.heap.size + 1 + 1 + 1 < w4.heap.size + 1 := (by omega)); (try have y44 : w.heap.size + 1 + 1 + 1 + 1 < w4.heap.size := (by omega)); (try have y44p : w.heap.size + 1 + 1 + 1 + 1 < w4.heap.size + 1 := (by omega)); (try have v0x4 : w0.heap.size < w4.heap.size := (by omega)); (try have v0x4p : w0.heap.size < w4.heap.size + 1 := (by omega)); (try have v1x4 : w1.heap.size < w4.heap.size := (by omega)); (try have v1x4p : w1.heap.size < w4.heap.size + 1 := (by omega)); (try have v2x4 : w2.heap.size < w4.heap.size := (by omega)); (try have v2x4p : w2.heap.size < w4.heap.size + 1 := (by omega)); (try have v3x4 : w3.heap.size < w4.heap.size := (by omega)); (try have v3x4p : w3.heap.size < w4.heap.size + 1 := (by omega)); have mw4_0_0 : w2.heap.size < w4.heap.size := (by omega); have mw4_0_1 : w2.heap.size < w4.heap.size + 1 := (by omega); have mw4_0_2 : w2.heap.size < w4.heap.size + 1 + 1 := (by omega); have mw4_1_0 : (w2.heap.size + 1) < w4.heap.size := (by omega); have mw4_1_1 : (w2.heap.size + 1) < w4.heap.size + 1 := (by omega); have mw4_1_2 : (w2.heap.size + 1) < w4.heap.size + 1 + 1 := (by omega); have mw4_2_0 : (w2.heap.size + 1 + 1) < w4.heap.size := (by omega); have mw4_2_1 : (w2.heap.size + 1 + 1) < w4.heap.size + 1 := (by omega); have mw4_2_2 : (w2.heap.size + 1 + 1) < w4.heap.size + 1 + 1 := (by omega)))
  refine wp_region_any (by kernel_rfl) ?_
  try (change wpAny _ _ _ _ _ _ _ (World.drew _))
  refine wpAny_vals (fr := fun o => #[.agg #[.int .i64 x,.int .i64 y,.int .i64 z,.int .i64 p,.int .i64 q,.int .i64 r],.agg #[.int .i64 0,.int .i64 t,.int .i64 k],.pointer (some ⟨w.heap.size, 0, none⟩),.pointer (some ⟨(w.heap.size + 1), 0, none⟩),o 44,.pointer (some ⟨w2.heap.size, 0, none⟩),.pointer (some ⟨(w2.heap.size + 1), 0, none⟩),.pointer (some ⟨(w2.heap.size + 1 + 1), 0, none⟩),.int .i64 0,.int .i64 V,.int .i64 0,.pointer (some ⟨w4.heap.size, 0, none⟩),.pointer (some ⟨(w4.heap.size + 1), 0, none⟩),.int .i64 0,.bool true,.bool false,.tuple #[.agg #[.int .i64 x,.int .i64 y,.int .i64 z,.int .i64 t,.int .i64 q,.int .i64 r],.agg #[.int .i64 t,.int .i64 y,.int .i64 z,.int .i64 (t + k),.int .i64 q,.int .i64 r],.agg #[.int .i64 (t + k),.int .i64 y,.int .i64 z,.int .i64 p,.int .i64 q,.int .i64 r],.int .i64 0],.agg #[.int .i64 x,.int .i64 y,.int .i64 z,.int .i64 p,.int .i64 q,.int .i64 r],.agg #[.int .i64 0,.int .i64 t,.int .i64 k],.tuple #[.agg #[.int .i64 x,.int .i64 y,.int .i64 z,.int .i64 t,.int .i64 q,.int .i64 r],.agg #[.int .i64 t,.int .i64 y,.int .i64 z,.int .i64 (t + k),.int .i64 q,.int .i64 r],.agg #[.int .i64 (t + k),.int .i64 y,.int .i64 z,.int .i64 p,.int .i64 q,.int .i64 r],.int .i64 0],.agg #[.int .i64 x,.int .i64 y,.int .i64 z,.int .i64 t,.int .i64 q,.int .i64 r],.agg #[.int .i64 t,.int .i64 y,.int .i64 z,.int .i64 (t + k),.int .i64 q,.int .i64 r],.agg #[.int .i64 (t + k),.int .i64 y,.int .i64 z,.int .i64 p,.int .i64 q,.int .i64 r],.int .i64 0,.int .i64 0,.bool false,undef,undef,undef,undef,undef,undef,undef,undef,undef,undef,undef,undef,undef,.tuple #[.int .i64 V,.int .i64 0],.agg #[.int .i64 x,.int .i64 y,.int .i64 z,.int .i64 p,.int .i64 q,.int .i64 r],.agg #[.int .i64 0,.int .i64 t,.int .i64 k],.tuple #[.int .i64 V,.int .i64 0],.int .i64 V,.int .i64 0,.tuple #[.agg #[.int .i64 x,.int .i64 y,.int .i64 z,.int .i64 p,.int .i64 q,.int .i64 r],.agg #[.int .i64 0,.int .i64 t,.int .i64 (t + k - t)],.int .i64 0],.agg #[.int .i64 x,.int .i64 y,.int .i64 z,.int .i64 t,.int .i64 q,.int .i64 r],.agg #[.int .i64 (t + k),.int .i64 y,.int .i64 z,.int .i64 p,.int .i64 q,.int .i64 r],.pointer (some ⟨(w.heap.size + 1), 0, none⟩),.int .i64 0,.tuple #[.agg #[.int .i64 x,.int .i64 y,.int .i64 z,.int .i64 p,.int .i64 q,.int .i64 r],.agg #[.int .i64 0,.int .i64 t,.int .i64 (t + k - t)],.int .i64 0],.agg #[.int .i64 x,.int .i64 y,.int .i64 z,.int .i64 p,.int .i64 q,.int .i64 r],.agg #[.int .i64 0,.int .i64 t,.int .i64 (t + k - t)],.int .i64 0,o 0,o 1,o 2,o 3,o 4,o 5,o 6,o 7,o 8,o 9,o 10,o 11,o 12,o 13,o 14,o 15,o 16,o 17,o 18,o 19,o 20,o 21,o 22,o 23,o 24,o 25,o 26,o 27,o 28,o 29,o 30,o 31,o 32,o 33,o 34,o 35,o 36,o 37,o 38,o 39,o 40,o 41,o 42,o 43]) (vals := fun i_ => ([.int .i64 0,.bool true,.bool true,.agg #[.int .i64 x,.int .i64 y,.int .i64 z,.int .i64 t,.int .i64 q,.int .i64 r],.int .i64 V1,.int .i64 V,.int .i64 (V1 + V),.agg #[.int .i64 (t + k),.int .i64 y,.int .i64 z,.int .i64 p,.int .i64 q,.int .i64 r],.int .i64 V2,.int .i64 ((V1 + V) + V2),.agg #[.int .i64 x,.int .i64 y,.int .i64 z,.int .i64 p,.int .i64 q,.int .i64 r],.int .i64 VB,.bool true,.bool true,.bool true,.agg #[.int .i64 t,.int .i64 y,.int .i64 z,.int .i64 (t + k),.int .i64 q,.int .i64 r],.int .i64 V,.int .i64 V,.bool true,.bool true,.bool true,.agg #[.int .i64 x,.int .i64 y,.int .i64 z,.int .i64 t,.int .i64 q,.int .i64 r],.int .i64 V1,.bool true,.bool true,.bool true,.agg #[.int .i64 (t + k),.int .i64 y,.int .i64 z,.int .i64 p,.int .i64 q,.int .i64 r],.int .i64 V2,.bool true,.bool true,.bool true,.int .i64 0,.bool true,.bool true,.bool true,.agg #[.int .i64 x,.int .i64 y,.int .i64 z,.int .i64 p,.int .i64 q,.int .i64 r],.agg #[.int .i64 x,.int .i64 y,.int .i64 z,.int .i64 p,.int .i64 q,.int .i64 r],.bool true,.bool true,.bool true,.agg #[.int .i64 0,.int .i64 t,.int .i64 (t + k - t)],.agg #[.int .i64 0,.int .i64 t,.int .i64 k],.bool true,.bool true,.bool true] : List Value).getD i_ undef) (Kf := fun _ => True) (K := fun kk_ => ([(KL [((w4.heap.size + 1),33,#[.int .i64 0,.int .i64 t,.int .i64 (t + k - t)]),(w4.heap.size,25,#[.int .i64 x,.int .i64 y,.int .i64 z,.int .i64 p,.int .i64 q,.int .i64 r]),((w2.heap.size + 1 + 1),25,#[.int .i64 (t + k),.int .i64 y,.int .i64 z,.int .i64 p,.int .i64 q,.int .i64 r]),((w2.heap.size + 1),25,#[.int .i64 t,.int .i64 y,.int .i64 z,.int .i64 (t + k),.int .i64 q,.int .i64 r]),(w2.heap.size,25,#[.int .i64 x,.int .i64 y,.int .i64 z,.int .i64 t,.int .i64 q,.int .i64 r]),((w.heap.size + 1),33,#[.int .i64 0,.int .i64 t,.int .i64 k]),(w.heap.size,25,#[.int .i64 x,.int .i64 y,.int .i64 z,.int .i64 p,.int .i64 q,.int .i64 r])] w)] : List (World → Prop)).getD kk_ (fun _ => True)) (dep := fun i_ => [[],[0],[1],[2],[2,3],[2],[2,4,5],[2],[2,7],[2,6,8],[2],[2,10],[2,9,11],[2,12],[13],[14],[14,15],[14],[14,16,17],[14,18],[19],[20],[20,21],[20,22],[20,23],[24],[25],[25,26],[25,27],[25,28],[29],[30],[30,31],[30,32],[33],[34],[34],[34,35,36],[34,37],[38],[39],[39],[39,40,41],[39,42],[43]].getD i_ []) (dv := fun i_ => [[],[0],[1],[2],[2,3],[2],[2,4,5],[2],[2,7],[2,6,8],[2],[2,10],[2,9,11],[2,12],[13],[14],[14,15],[14],[14,16,17],[14,18],[19],[20],[20,21],[20,22],[20,23],[24],[25],[25,26],[25,27],[25,28],[29],[30],[30,31],[30,32],[33],[34],[34],[34,35,36],[34,37],[38],[39],[39],[39,40,41],[39,42],[43]].getD i_ []) (kd := fun i_ => [0,0,0,1,1,0,0,1,1,0,1,1,0,0,0,1,1,0,0,0,0,1,1,0,0,0,1,1,0,0,0,0,0,0,0,1,1,0,0,0,1,1,0,0,0].getD i_ 0) (ss := []) (l := [0,1,2,3,4,5,6,7,8,9,10,11,12,13,14,15,16,17,18,19,20,21,22,23,24,25,26,27,28,29,30,31,32,33,34,35,36,37,38,39,40,41,42,43,44]) (f0 := fun i_ => ([undef,undef,undef,undef,undef,undef,undef,undef,undef,undef,undef,undef,undef,undef,undef,undef,undef,undef,undef,undef,undef,undef,undef,undef,undef,undef,undef,undef,undef,undef,undef,undef,undef,undef,undef,undef,undef,undef,undef,undef,undef,undef,undef,undef,.bool false] : List Value).getD i_ undef) (A := ?A1) 45 rfl rfl (by decide +kernel) (by decide +kernel) ?_ ?_ ⟨?_, ?_, ?_, ?_, ?_, ?_, ?_, ?_, ?_, ?_, ?_, ?_, ?_, ?_, ?_, ?_, ?_, ?_, ?_, ?_, ?_, ?_, ?_, ?_, ?_, ?_, ?_, ?_, ?_, ?_, ?_, ?_, ?_, ?_, ?_, ?_, ?_, ?_, ?_, ?_, ?_, ?_, ?_, ?_, ?_, trivial⟩ ?_ ?_
  rotate_left
  · exact KL.drew (KL.new (g := (w4.heap.size + 1)) (KL.new (g := w4.heap.size) (KL.over (KL.over (KL.new (g := (w2.heap.size + 1 + 1)) (KL.new (g := (w2.heap.size + 1)) (KL.new (g := w2.heap.size) (KL.over (KL.over (KL.new (g := (w.heap.size + 1)) (KL.new (g := w.heap.size) (KL.nil w) rfl _ _) (by simp) _ _) hb1) hb2) (by simp) _ _) (by simp) _ _) (by simp) _ _) hb3) hb4) (by simp) _ _) (by simp) _ _)
  · exact fun _ _ _ _ => trivial
  · intro o W _
    show wpOp _ _ _ 0 _ ⟨#[_,_,_,_,o 44,_,_,_,_,_,_,_,_,_,_,_,_,_,_,_,_,_,_,_,_,_,_,_,_,_,_,_,_,_,_,_,_,_,_,_,_,_,_,_,_,_,_,_,_,_,_,_,_,_,o 0,o 1,o 2,o 3,o 4,o 5,o 6,o 7,o 8,o 9,o 10,o 11,o 12,o 13,o 14,o 15,o 16,o 17,o 18,o 19,o 20,o 21,o 22,o 23,o 24,o 25,o 26,o 27,o 28,o 29,o 30,o 31,o 32,o 33,o 34,o 35,o 36,o 37,o 38,o 39,o 40,o 41,o 42,o 43], []⟩ W
    refine wpOp_step rfl (fun K' hK => ?_)
    go_simp
    exact hK _ _ ⟨rfl, rfl⟩
  · intro o W _
    show wpOp _ _ _ 1 _ ⟨#[_,_,_,_,o 44,_,_,_,_,_,_,_,_,_,_,_,_,_,_,_,_,_,_,_,_,_,_,_,_,_,_,_,_,_,_,_,_,_,_,_,_,_,_,_,_,_,_,_,_,_,_,_,_,_,.int .i64 0,o 1,o 2,o 3,o 4,o 5,o 6,o 7,o 8,o 9,o 10,o 11,o 12,o 13,o 14,o 15,o 16,o 17,o 18,o 19,o 20,o 21,o 22,o 23,o 24,o 25,o 26,o 27,o 28,o 29,o 30,o 31,o 32,o 33,o 34,o 35,o 36,o 37,o 38,o 39,o 40,o 41,o 42,o 43], []⟩ W
    refine wpOp_step rfl (fun K' hK => ?_)
    go_simp
    exact hK _ _ ⟨rfl, rfl⟩
  · intro o W _
    show wpOp _ _ _ 2 _ ⟨#[_,_,_,_,o 44,_,_,_,_,_,_,_,_,_,_,_,_,_,_,_,_,_,_,_,_,_,_,_,_,_,_,_,_,_,_,_,_,_,_,_,_,_,_,_,_,_,_,_,_,_,_,_,_,_,o 0,.bool true,o 2,o 3,o 4,o 5,o 6,o 7,o 8,o 9,o 10,o 11,o 12,o 13,o 14,o 15,o 16,o 17,o 18,o 19,o 20,o 21,o 22,o 23,o 24,o 25,o 26,o 27,o 28,o 29,o 30,o 31,o 32,o 33,o 34,o 35,o 36,o 37,o 38,o 39,o 40,o 41,o 42,o 43], []⟩ W
    refine wpOp_step rfl (fun K' hK => ?_)
    go_simp
    exact hK _ _ ⟨rfl, rfl⟩
  · intro o W hj
    have hj : KL _ _ W := hj
    obtain ⟨cL, c0, c1, c2, c3, c4, c5⟩ := bl6 (KL.blk hj (.tail _ (.tail _ (.tail _ (.tail _ (.head _))))))
    show wpOp _ _ _ 3 _ ⟨#[_,_,_,_,o 44,_,_,_,_,_,_,_,_,_,_,_,_,_,_,_,_,_,_,_,_,_,_,_,_,_,_,_,_,_,_,_,_,_,_,_,_,_,_,_,_,_,_,_,_,_,_,_,_,_,o 0,o 1,.bool true,o 3,o 4,o 5,o 6,o 7,o 8,o 9,o 10,o 11,o 12,o 13,o 14,o 15,o 16,o 17,o 18,o 19,o 20,o 21,o 22,o 23,o 24,o 25,o 26,o 27,o 28,o 29,o 30,o 31,o 32,o 33,o 34,o 35,o 36,o 37,o 38,o 39,o 40,o 41,o 42,o 43], []⟩ W
    refine wpOp_step rfl (fun K' hK => ?_)
    go_simp
    exact hK _ _ ⟨rfl, hj⟩
  · intro o W hj
    have hj : KL _ _ W := hj
    show wpOp _ _ _ 4 _ ⟨#[_,_,_,_,o 44,_,_,_,_,_,_,_,_,_,_,_,_,_,_,_,_,_,_,_,_,_,_,_,_,_,_,_,_,_,_,_,_,_,_,_,_,_,_,_,_,_,_,_,_,_,_,_,_,_,o 0,o 1,.bool true,.agg #[.int .i64 x,.int .i64 y,.int .i64 z,.int .i64 t,.int .i64 q,.int .i64 r],o 4,o 5,o 6,o 7,o 8,o 9,o 10,o 11,o 12,o 13,o 14,o 15,o 16,o 17,o 18,o 19,o 20,o 21,o 22,o 23,o 24,o 25,o 26,o 27,o 28,o 29,o 30,o 31,o 32,o 33,o 34,o 35,o 36,o 37,o 38,o 39,o 40,o 41,o 42,o 43], []⟩ W
    refine wpOp_step rfl (fun K' hK => ?_)
    go_simp
    refine (hv1 _).mono ?_
    rintro e W1 ⟨rfl, hb1⟩
    exact hK _ _ ⟨rfl, hj.over hb1⟩
  · intro o W _
    show wpOp _ _ _ 5 _ ⟨#[_,_,_,_,o 44,_,_,_,_,_,_,_,_,_,_,_,_,_,_,_,_,_,_,_,_,_,_,_,_,_,_,_,_,_,_,_,_,_,_,_,_,_,_,_,_,_,_,_,_,_,_,_,_,_,o 0,o 1,.bool true,o 3,o 4,o 5,o 6,o 7,o 8,o 9,o 10,o 11,o 12,o 13,o 14,o 15,o 16,o 17,o 18,o 19,o 20,o 21,o 22,o 23,o 24,o 25,o 26,o 27,o 28,o 29,o 30,o 31,o 32,o 33,o 34,o 35,o 36,o 37,o 38,o 39,o 40,o 41,o 42,o 43], []⟩ W
    refine wpOp_step rfl (fun K' hK => ?_)
    go_simp
    exact hK _ _ ⟨rfl, rfl⟩
  · intro o W _
    show wpOp _ _ _ 6 _ ⟨#[_,_,_,_,o 44,_,_,_,_,_,_,_,_,_,_,_,_,_,_,_,_,_,_,_,_,_,_,_,_,_,_,_,_,_,_,_,_,_,_,_,_,_,_,_,_,_,_,_,_,_,_,_,_,_,o 0,o 1,.bool true,o 3,.int .i64 V1,.int .i64 V,o 6,o 7,o 8,o 9,o 10,o 11,o 12,o 13,o 14,o 15,o 16,o 17,o 18,o 19,o 20,o 21,o 22,o 23,o 24,o 25,o 26,o 27,o 28,o 29,o 30,o 31,o 32,o 33,o 34,o 35,o 36,o 37,o 38,o 39,o 40,o 41,o 42,o 43], []⟩ W
    refine wpOp_step rfl (fun K' hK => ?_)
    go_simp
    exact hK _ _ ⟨rfl, rfl⟩
  · intro o W hj
    have hj : KL _ _ W := hj
    obtain ⟨cL, c0, c1, c2, c3, c4, c5⟩ := bl6 (KL.blk hj (.tail _ (.tail _ (.head _))))
    show wpOp _ _ _ 7 _ ⟨#[_,_,_,_,o 44,_,_,_,_,_,_,_,_,_,_,_,_,_,_,_,_,_,_,_,_,_,_,_,_,_,_,_,_,_,_,_,_,_,_,_,_,_,_,_,_,_,_,_,_,_,_,_,_,_,o 0,o 1,.bool true,o 3,o 4,o 5,o 6,o 7,o 8,o 9,o 10,o 11,o 12,o 13,o 14,o 15,o 16,o 17,o 18,o 19,o 20,o 21,o 22,o 23,o 24,o 25,o 26,o 27,o 28,o 29,o 30,o 31,o 32,o 33,o 34,o 35,o 36,o 37,o 38,o 39,o 40,o 41,o 42,o 43], []⟩ W
    refine wpOp_step rfl (fun K' hK => ?_)
    go_simp
    exact hK _ _ ⟨rfl, hj⟩
  · intro o W hj
    have hj : KL _ _ W := hj
    show wpOp _ _ _ 8 _ ⟨#[_,_,_,_,o 44,_,_,_,_,_,_,_,_,_,_,_,_,_,_,_,_,_,_,_,_,_,_,_,_,_,_,_,_,_,_,_,_,_,_,_,_,_,_,_,_,_,_,_,_,_,_,_,_,_,o 0,o 1,.bool true,o 3,o 4,o 5,o 6,.agg #[.int .i64 (t + k),.int .i64 y,.int .i64 z,.int .i64 p,.int .i64 q,.int .i64 r],o 8,o 9,o 10,o 11,o 12,o 13,o 14,o 15,o 16,o 17,o 18,o 19,o 20,o 21,o 22,o 23,o 24,o 25,o 26,o 27,o 28,o 29,o 30,o 31,o 32,o 33,o 34,o 35,o 36,o 37,o 38,o 39,o 40,o 41,o 42,o 43], []⟩ W
    refine wpOp_step rfl (fun K' hK => ?_)
    go_simp
    refine (hv2 _).mono ?_
    rintro e W1 ⟨rfl, hb1⟩
    exact hK _ _ ⟨rfl, hj.over hb1⟩
  · intro o W _
    show wpOp _ _ _ 9 _ ⟨#[_,_,_,_,o 44,_,_,_,_,_,_,_,_,_,_,_,_,_,_,_,_,_,_,_,_,_,_,_,_,_,_,_,_,_,_,_,_,_,_,_,_,_,_,_,_,_,_,_,_,_,_,_,_,_,o 0,o 1,.bool true,o 3,o 4,o 5,.int .i64 (V1 + V),o 7,.int .i64 V2,o 9,o 10,o 11,o 12,o 13,o 14,o 15,o 16,o 17,o 18,o 19,o 20,o 21,o 22,o 23,o 24,o 25,o 26,o 27,o 28,o 29,o 30,o 31,o 32,o 33,o 34,o 35,o 36,o 37,o 38,o 39,o 40,o 41,o 42,o 43], []⟩ W
    refine wpOp_step rfl (fun K' hK => ?_)
    go_simp
    exact hK _ _ ⟨rfl, rfl⟩
  · intro o W hj
    have hj : KL _ _ W := hj
    obtain ⟨cL, c0, c1, c2, c3, c4, c5⟩ := bl6 (KL.blk hj (.tail _ (.tail _ (.tail _ (.tail _ (.tail _ (.tail _ (.head _))))))))
    show wpOp _ _ _ 10 _ ⟨#[_,_,_,_,o 44,_,_,_,_,_,_,_,_,_,_,_,_,_,_,_,_,_,_,_,_,_,_,_,_,_,_,_,_,_,_,_,_,_,_,_,_,_,_,_,_,_,_,_,_,_,_,_,_,_,o 0,o 1,.bool true,o 3,o 4,o 5,o 6,o 7,o 8,o 9,o 10,o 11,o 12,o 13,o 14,o 15,o 16,o 17,o 18,o 19,o 20,o 21,o 22,o 23,o 24,o 25,o 26,o 27,o 28,o 29,o 30,o 31,o 32,o 33,o 34,o 35,o 36,o 37,o 38,o 39,o 40,o 41,o 42,o 43], []⟩ W
    refine wpOp_step rfl (fun K' hK => ?_)
    go_simp
    exact hK _ _ ⟨rfl, hj⟩
  · intro o W hj
    have hj : KL _ _ W := hj
    show wpOp _ _ _ 11 _ ⟨#[_,_,_,_,o 44,_,_,_,_,_,_,_,_,_,_,_,_,_,_,_,_,_,_,_,_,_,_,_,_,_,_,_,_,_,_,_,_,_,_,_,_,_,_,_,_,_,_,_,_,_,_,_,_,_,o 0,o 1,.bool true,o 3,o 4,o 5,o 6,o 7,o 8,o 9,.agg #[.int .i64 x,.int .i64 y,.int .i64 z,.int .i64 p,.int .i64 q,.int .i64 r],o 11,o 12,o 13,o 14,o 15,o 16,o 17,o 18,o 19,o 20,o 21,o 22,o 23,o 24,o 25,o 26,o 27,o 28,o 29,o 30,o 31,o 32,o 33,o 34,o 35,o 36,o 37,o 38,o 39,o 40,o 41,o 42,o 43], []⟩ W
    refine wpOp_step rfl (fun K' hK => ?_)
    go_simp
    refine (hvb _).mono ?_
    rintro e W1 ⟨rfl, hb1⟩
    exact hK _ _ ⟨rfl, hj.over hb1⟩
  · intro o W _
    show wpOp _ _ _ 12 _ ⟨#[_,_,_,_,o 44,_,_,_,_,_,_,_,_,_,_,_,_,_,_,_,_,_,_,_,_,_,_,_,_,_,_,_,_,_,_,_,_,_,_,_,_,_,_,_,_,_,_,_,_,_,_,_,_,_,o 0,o 1,.bool true,o 3,o 4,o 5,o 6,o 7,o 8,.int .i64 ((V1 + V) + V2),o 10,.int .i64 VB,o 12,o 13,o 14,o 15,o 16,o 17,o 18,o 19,o 20,o 21,o 22,o 23,o 24,o 25,o 26,o 27,o 28,o 29,o 30,o 31,o 32,o 33,o 34,o 35,o 36,o 37,o 38,o 39,o 40,o 41,o 42,o 43], []⟩ W
    refine wpOp_step rfl (fun K' hK => ?_)
    go_simp
    exact hK _ _ ⟨rfl, rfl⟩
  · intro o W _
    show wpOp _ _ _ 13 _ ⟨#[_,_,_,_,o 44,_,_,_,_,_,_,_,_,_,_,_,_,_,_,_,_,_,_,_,_,_,_,_,_,_,_,_,_,_,_,_,_,_,_,_,_,_,_,_,_,_,_,_,_,_,_,_,_,_,o 0,o 1,.bool true,o 3,o 4,o 5,o 6,o 7,o 8,o 9,o 10,o 11,.bool true,o 13,o 14,o 15,o 16,o 17,o 18,o 19,o 20,o 21,o 22,o 23,o 24,o 25,o 26,o 27,o 28,o 29,o 30,o 31,o 32,o 33,o 34,o 35,o 36,o 37,o 38,o 39,o 40,o 41,o 42,o 43], []⟩ W
    refine wpOp_step rfl (fun K' hK => ?_)
    go_simp
    exact hK _ _ ⟨rfl, rfl⟩
  · intro o W _
    show wpOp _ _ _ 14 _ ⟨#[_,_,_,_,o 44,_,_,_,_,_,_,_,_,_,_,_,_,_,_,_,_,_,_,_,_,_,_,_,_,_,_,_,_,_,_,_,_,_,_,_,_,_,_,_,_,_,_,_,_,_,_,_,_,_,o 0,o 1,o 2,o 3,o 4,o 5,o 6,o 7,o 8,o 9,o 10,o 11,o 12,.bool true,o 14,o 15,o 16,o 17,o 18,o 19,o 20,o 21,o 22,o 23,o 24,o 25,o 26,o 27,o 28,o 29,o 30,o 31,o 32,o 33,o 34,o 35,o 36,o 37,o 38,o 39,o 40,o 41,o 42,o 43], []⟩ W
    refine wpOp_step rfl (fun K' hK => ?_)
    go_simp
    exact hK _ _ ⟨rfl, rfl⟩
  · intro o W hj
    have hj : KL _ _ W := hj
    obtain ⟨cL, c0, c1, c2, c3, c4, c5⟩ := bl6 (KL.blk hj (.tail _ (.tail _ (.tail _ (.head _)))))
    show wpOp _ _ _ 15 _ ⟨#[_,_,_,_,o 44,_,_,_,_,_,_,_,_,_,_,_,_,_,_,_,_,_,_,_,_,_,_,_,_,_,_,_,_,_,_,_,_,_,_,_,_,_,_,_,_,_,_,_,_,_,_,_,_,_,o 0,o 1,o 2,o 3,o 4,o 5,o 6,o 7,o 8,o 9,o 10,o 11,o 12,o 13,.bool true,o 15,o 16,o 17,o 18,o 19,o 20,o 21,o 22,o 23,o 24,o 25,o 26,o 27,o 28,o 29,o 30,o 31,o 32,o 33,o 34,o 35,o 36,o 37,o 38,o 39,o 40,o 41,o 42,o 43], []⟩ W
    refine wpOp_step rfl (fun K' hK => ?_)
    go_simp
    exact hK _ _ ⟨rfl, hj⟩
  · intro o W hj
    have hj : KL _ _ W := hj
    show wpOp _ _ _ 16 _ ⟨#[_,_,_,_,o 44,_,_,_,_,_,_,_,_,_,_,_,_,_,_,_,_,_,_,_,_,_,_,_,_,_,_,_,_,_,_,_,_,_,_,_,_,_,_,_,_,_,_,_,_,_,_,_,_,_,o 0,o 1,o 2,o 3,o 4,o 5,o 6,o 7,o 8,o 9,o 10,o 11,o 12,o 13,.bool true,.agg #[.int .i64 t,.int .i64 y,.int .i64 z,.int .i64 (t + k),.int .i64 q,.int .i64 r],o 16,o 17,o 18,o 19,o 20,o 21,o 22,o 23,o 24,o 25,o 26,o 27,o 28,o 29,o 30,o 31,o 32,o 33,o 34,o 35,o 36,o 37,o 38,o 39,o 40,o 41,o 42,o 43], []⟩ W
    refine wpOp_step rfl (fun K' hK => ?_)
    go_simp
    refine (hvm _).mono ?_
    rintro e W1 ⟨rfl, hb1⟩
    exact hK _ _ ⟨rfl, hj.over hb1⟩
  · intro o W _
    show wpOp _ _ _ 17 _ ⟨#[_,_,_,_,o 44,_,_,_,_,_,_,_,_,_,_,_,_,_,_,_,_,_,_,_,_,_,_,_,_,_,_,_,_,_,_,_,_,_,_,_,_,_,_,_,_,_,_,_,_,_,_,_,_,_,o 0,o 1,o 2,o 3,o 4,o 5,o 6,o 7,o 8,o 9,o 10,o 11,o 12,o 13,.bool true,o 15,o 16,o 17,o 18,o 19,o 20,o 21,o 22,o 23,o 24,o 25,o 26,o 27,o 28,o 29,o 30,o 31,o 32,o 33,o 34,o 35,o 36,o 37,o 38,o 39,o 40,o 41,o 42,o 43], []⟩ W
    refine wpOp_step rfl (fun K' hK => ?_)
    go_simp
    exact hK _ _ ⟨rfl, rfl⟩
  · intro o W _
    show wpOp _ _ _ 18 _ ⟨#[_,_,_,_,o 44,_,_,_,_,_,_,_,_,_,_,_,_,_,_,_,_,_,_,_,_,_,_,_,_,_,_,_,_,_,_,_,_,_,_,_,_,_,_,_,_,_,_,_,_,_,_,_,_,_,o 0,o 1,o 2,o 3,o 4,o 5,o 6,o 7,o 8,o 9,o 10,o 11,o 12,o 13,.bool true,o 15,.int .i64 V,.int .i64 V,o 18,o 19,o 20,o 21,o 22,o 23,o 24,o 25,o 26,o 27,o 28,o 29,o 30,o 31,o 32,o 33,o 34,o 35,o 36,o 37,o 38,o 39,o 40,o 41,o 42,o 43], []⟩ W
    refine wpOp_step rfl (fun K' hK => ?_)
    go_simp
    exact hK _ _ ⟨rfl, rfl⟩
  · intro o W _
    show wpOp _ _ _ 19 _ ⟨#[_,_,_,_,o 44,_,_,_,_,_,_,_,_,_,_,_,_,_,_,_,_,_,_,_,_,_,_,_,_,_,_,_,_,_,_,_,_,_,_,_,_,_,_,_,_,_,_,_,_,_,_,_,_,_,o 0,o 1,o 2,o 3,o 4,o 5,o 6,o 7,o 8,o 9,o 10,o 11,o 12,o 13,.bool true,o 15,o 16,o 17,.bool true,o 19,o 20,o 21,o 22,o 23,o 24,o 25,o 26,o 27,o 28,o 29,o 30,o 31,o 32,o 33,o 34,o 35,o 36,o 37,o 38,o 39,o 40,o 41,o 42,o 43], []⟩ W
    refine wpOp_step rfl (fun K' hK => ?_)
    go_simp
    exact hK _ _ ⟨rfl, rfl⟩
  · intro o W _
    show wpOp _ _ _ 20 _ ⟨#[_,_,_,_,o 44,_,_,_,_,_,_,_,_,_,_,_,_,_,_,_,_,_,_,_,_,_,_,_,_,_,_,_,_,_,_,_,_,_,_,_,_,_,_,_,_,_,_,_,_,_,_,_,_,_,o 0,o 1,o 2,o 3,o 4,o 5,o 6,o 7,o 8,o 9,o 10,o 11,o 12,o 13,o 14,o 15,o 16,o 17,o 18,.bool true,o 20,o 21,o 22,o 23,o 24,o 25,o 26,o 27,o 28,o 29,o 30,o 31,o 32,o 33,o 34,o 35,o 36,o 37,o 38,o 39,o 40,o 41,o 42,o 43], []⟩ W
    refine wpOp_step rfl (fun K' hK => ?_)
    go_simp
    exact hK _ _ ⟨rfl, rfl⟩
  · intro o W hj
    have hj : KL _ _ W := hj
    obtain ⟨cL, c0, c1, c2, c3, c4, c5⟩ := bl6 (KL.blk hj (.tail _ (.tail _ (.tail _ (.tail _ (.head _))))))
    show wpOp _ _ _ 21 _ ⟨#[_,_,_,_,o 44,_,_,_,_,_,_,_,_,_,_,_,_,_,_,_,_,_,_,_,_,_,_,_,_,_,_,_,_,_,_,_,_,_,_,_,_,_,_,_,_,_,_,_,_,_,_,_,_,_,o 0,o 1,o 2,o 3,o 4,o 5,o 6,o 7,o 8,o 9,o 10,o 11,o 12,o 13,o 14,o 15,o 16,o 17,o 18,o 19,.bool true,o 21,o 22,o 23,o 24,o 25,o 26,o 27,o 28,o 29,o 30,o 31,o 32,o 33,o 34,o 35,o 36,o 37,o 38,o 39,o 40,o 41,o 42,o 43], []⟩ W
    refine wpOp_step rfl (fun K' hK => ?_)
    go_simp
    exact hK _ _ ⟨rfl, hj⟩
  · intro o W hj
    have hj : KL _ _ W := hj
    show wpOp _ _ _ 22 _ ⟨#[_,_,_,_,o 44,_,_,_,_,_,_,_,_,_,_,_,_,_,_,_,_,_,_,_,_,_,_,_,_,_,_,_,_,_,_,_,_,_,_,_,_,_,_,_,_,_,_,_,_,_,_,_,_,_,o 0,o 1,o 2,o 3,o 4,o 5,o 6,o 7,o 8,o 9,o 10,o 11,o 12,o 13,o 14,o 15,o 16,o 17,o 18,o 19,.bool true,.agg #[.int .i64 x,.int .i64 y,.int .i64 z,.int .i64 t,.int .i64 q,.int .i64 r],o 22,o 23,o 24,o 25,o 26,o 27,o 28,o 29,o 30,o 31,o 32,o 33,o 34,o 35,o 36,o 37,o 38,o 39,o 40,o 41,o 42,o 43], []⟩ W
    refine wpOp_step rfl (fun K' hK => ?_)
    go_simp
    refine (hv1 _).mono ?_
    rintro e W1 ⟨rfl, hb1⟩
    exact hK _ _ ⟨rfl, hj.over hb1⟩
  · intro o W _
    show wpOp _ _ _ 23 _ ⟨#[_,_,_,_,o 44,_,_,_,_,_,_,_,_,_,_,_,_,_,_,_,_,_,_,_,_,_,_,_,_,_,_,_,_,_,_,_,_,_,_,_,_,_,_,_,_,_,_,_,_,_,_,_,_,_,o 0,o 1,o 2,o 3,o 4,o 5,o 6,o 7,o 8,o 9,o 10,o 11,o 12,o 13,o 14,o 15,o 16,o 17,o 18,o 19,.bool true,o 21,.int .i64 V1,o 23,o 24,o 25,o 26,o 27,o 28,o 29,o 30,o 31,o 32,o 33,o 34,o 35,o 36,o 37,o 38,o 39,o 40,o 41,o 42,o 43], []⟩ W
    refine wpOp_step rfl (fun K' hK => ?_)
    go_simp
    exact hK _ _ ⟨rfl, rfl⟩
  · intro o W _
    show wpOp _ _ _ 24 _ ⟨#[_,_,_,_,o 44,_,_,_,_,_,_,_,_,_,_,_,_,_,_,_,_,_,_,_,_,_,_,_,_,_,_,_,_,_,_,_,_,_,_,_,_,_,_,_,_,_,_,_,_,_,_,_,_,_,o 0,o 1,o 2,o 3,o 4,o 5,o 6,o 7,o 8,o 9,o 10,o 11,o 12,o 13,o 14,o 15,o 16,o 17,o 18,o 19,.bool true,o 21,o 22,.bool true,o 24,o 25,o 26,o 27,o 28,o 29,o 30,o 31,o 32,o 33,o 34,o 35,o 36,o 37,o 38,o 39,o 40,o 41,o 42,o 43], []⟩ W
    refine wpOp_step rfl (fun K' hK => ?_)
    go_simp
    exact hK _ _ ⟨rfl, rfl⟩
  · intro o W _
    show wpOp _ _ _ 25 _ ⟨#[_,_,_,_,o 44,_,_,_,_,_,_,_,_,_,_,_,_,_,_,_,_,_,_,_,_,_,_,_,_,_,_,_,_,_,_,_,_,_,_,_,_,_,_,_,_,_,_,_,_,_,_,_,_,_,o 0,o 1,o 2,o 3,o 4,o 5,o 6,o 7,o 8,o 9,o 10,o 11,o 12,o 13,o 14,o 15,o 16,o 17,o 18,o 19,o 20,o 21,o 22,o 23,.bool true,o 25,o 26,o 27,o 28,o 29,o 30,o 31,o 32,o 33,o 34,o 35,o 36,o 37,o 38,o 39,o 40,o 41,o 42,o 43], []⟩ W
    refine wpOp_step rfl (fun K' hK => ?_)
    go_simp
    exact hK _ _ ⟨rfl, rfl⟩
  · intro o W hj
    have hj : KL _ _ W := hj
    obtain ⟨cL, c0, c1, c2, c3, c4, c5⟩ := bl6 (KL.blk hj (.tail _ (.tail _ (.head _))))
    show wpOp _ _ _ 26 _ ⟨#[_,_,_,_,o 44,_,_,_,_,_,_,_,_,_,_,_,_,_,_,_,_,_,_,_,_,_,_,_,_,_,_,_,_,_,_,_,_,_,_,_,_,_,_,_,_,_,_,_,_,_,_,_,_,_,o 0,o 1,o 2,o 3,o 4,o 5,o 6,o 7,o 8,o 9,o 10,o 11,o 12,o 13,o 14,o 15,o 16,o 17,o 18,o 19,o 20,o 21,o 22,o 23,o 24,.bool true,o 26,o 27,o 28,o 29,o 30,o 31,o 32,o 33,o 34,o 35,o 36,o 37,o 38,o 39,o 40,o 41,o 42,o 43], []⟩ W
    refine wpOp_step rfl (fun K' hK => ?_)
    go_simp
    exact hK _ _ ⟨rfl, hj⟩
  · intro o W hj
    have hj : KL _ _ W := hj
    show wpOp _ _ _ 27 _ ⟨#[_,_,_,_,o 44,_,_,_,_,_,_,_,_,_,_,_,_,_,_,_,_,_,_,_,_,_,_,_,_,_,_,_,_,_,_,_,_,_,_,_,_,_,_,_,_,_,_,_,_,_,_,_,_,_,o 0,o 1,o 2,o 3,o 4,o 5,o 6,o 7,o 8,o 9,o 10,o 11,o 12,o 13,o 14,o 15,o 16,o 17,o 18,o 19,o 20,o 21,o 22,o 23,o 24,.bool true,.agg #[.int .i64 (t + k),.int .i64 y,.int .i64 z,.int .i64 p,.int .i64 q,.int .i64 r],o 27,o 28,o 29,o 30,o 31,o 32,o 33,o 34,o 35,o 36,o 37,o 38,o 39,o 40,o 41,o 42,o 43], []⟩ W
    refine wpOp_step rfl (fun K' hK => ?_)
    go_simp
    refine (hv2 _).mono ?_
    rintro e W1 ⟨rfl, hb1⟩
    exact hK _ _ ⟨rfl, hj.over hb1⟩
  · intro o W _
    show wpOp _ _ _ 28 _ ⟨#[_,_,_,_,o 44,_,_,_,_,_,_,_,_,_,_,_,_,_,_,_,_,_,_,_,_,_,_,_,_,_,_,_,_,_,_,_,_,_,_,_,_,_,_,_,_,_,_,_,_,_,_,_,_,_,o 0,o 1,o 2,o 3,o 4,o 5,o 6,o 7,o 8,o 9,o 10,o 11,o 12,o 13,o 14,o 15,o 16,o 17,o 18,o 19,o 20,o 21,o 22,o 23,o 24,.bool true,o 26,.int .i64 V2,o 28,o 29,o 30,o 31,o 32,o 33,o 34,o 35,o 36,o 37,o 38,o 39,o 40,o 41,o 42,o 43], []⟩ W
    refine wpOp_step rfl (fun K' hK => ?_)
    go_simp
    exact hK _ _ ⟨rfl, rfl⟩
  · intro o W _
    show wpOp _ _ _ 29 _ ⟨#[_,_,_,_,o 44,_,_,_,_,_,_,_,_,_,_,_,_,_,_,_,_,_,_,_,_,_,_,_,_,_,_,_,_,_,_,_,_,_,_,_,_,_,_,_,_,_,_,_,_,_,_,_,_,_,o 0,o 1,o 2,o 3,o 4,o 5,o 6,o 7,o 8,o 9,o 10,o 11,o 12,o 13,o 14,o 15,o 16,o 17,o 18,o 19,o 20,o 21,o 22,o 23,o 24,.bool true,o 26,o 27,.bool true,o 29,o 30,o 31,o 32,o 33,o 34,o 35,o 36,o 37,o 38,o 39,o 40,o 41,o 42,o 43], []⟩ W
    refine wpOp_step rfl (fun K' hK => ?_)
    go_simp
    exact hK _ _ ⟨rfl, rfl⟩
  · intro o W _
    show wpOp _ _ _ 30 _ ⟨#[_,_,_,_,o 44,_,_,_,_,_,_,_,_,_,_,_,_,_,_,_,_,_,_,_,_,_,_,_,_,_,_,_,_,_,_,_,_,_,_,_,_,_,_,_,_,_,_,_,_,_,_,_,_,_,o 0,o 1,o 2,o 3,o 4,o 5,o 6,o 7,o 8,o 9,o 10,o 11,o 12,o 13,o 14,o 15,o 16,o 17,o 18,o 19,o 20,o 21,o 22,o 23,o 24,o 25,o 26,o 27,o 28,.bool true,o 30,o 31,o 32,o 33,o 34,o 35,o 36,o 37,o 38,o 39,o 40,o 41,o 42,o 43], []⟩ W
    refine wpOp_step rfl (fun K' hK => ?_)
    go_simp
    exact hK _ _ ⟨rfl, rfl⟩
  · intro o W _
    show wpOp _ _ _ 31 _ ⟨#[_,_,_,_,o 44,_,_,_,_,_,_,_,_,_,_,_,_,_,_,_,_,_,_,_,_,_,_,_,_,_,_,_,_,_,_,_,_,_,_,_,_,_,_,_,_,_,_,_,_,_,_,_,_,_,o 0,o 1,o 2,o 3,o 4,o 5,o 6,o 7,o 8,o 9,o 10,o 11,o 12,o 13,o 14,o 15,o 16,o 17,o 18,o 19,o 20,o 21,o 22,o 23,o 24,o 25,o 26,o 27,o 28,o 29,.bool true,o 31,o 32,o 33,o 34,o 35,o 36,o 37,o 38,o 39,o 40,o 41,o 42,o 43], []⟩ W
    refine wpOp_step rfl (fun K' hK => ?_)
    go_simp
    exact hK _ _ ⟨rfl, rfl⟩
  · intro o W _
    show wpOp _ _ _ 32 _ ⟨#[_,_,_,_,o 44,_,_,_,_,_,_,_,_,_,_,_,_,_,_,_,_,_,_,_,_,_,_,_,_,_,_,_,_,_,_,_,_,_,_,_,_,_,_,_,_,_,_,_,_,_,_,_,_,_,o 0,o 1,o 2,o 3,o 4,o 5,o 6,o 7,o 8,o 9,o 10,o 11,o 12,o 13,o 14,o 15,o 16,o 17,o 18,o 19,o 20,o 21,o 22,o 23,o 24,o 25,o 26,o 27,o 28,o 29,.bool true,.int .i64 0,o 32,o 33,o 34,o 35,o 36,o 37,o 38,o 39,o 40,o 41,o 42,o 43], []⟩ W
    refine wpOp_step rfl (fun K' hK => ?_)
    go_simp
    exact hK _ _ ⟨rfl, rfl⟩
  · intro o W _
    show wpOp _ _ _ 33 _ ⟨#[_,_,_,_,o 44,_,_,_,_,_,_,_,_,_,_,_,_,_,_,_,_,_,_,_,_,_,_,_,_,_,_,_,_,_,_,_,_,_,_,_,_,_,_,_,_,_,_,_,_,_,_,_,_,_,o 0,o 1,o 2,o 3,o 4,o 5,o 6,o 7,o 8,o 9,o 10,o 11,o 12,o 13,o 14,o 15,o 16,o 17,o 18,o 19,o 20,o 21,o 22,o 23,o 24,o 25,o 26,o 27,o 28,o 29,.bool true,o 31,.bool true,o 33,o 34,o 35,o 36,o 37,o 38,o 39,o 40,o 41,o 42,o 43], []⟩ W
    refine wpOp_step rfl (fun K' hK => ?_)
    go_simp
    exact hK _ _ ⟨rfl, rfl⟩
  · intro o W _
    show wpOp _ _ _ 34 _ ⟨#[_,_,_,_,o 44,_,_,_,_,_,_,_,_,_,_,_,_,_,_,_,_,_,_,_,_,_,_,_,_,_,_,_,_,_,_,_,_,_,_,_,_,_,_,_,_,_,_,_,_,_,_,_,_,_,o 0,o 1,o 2,o 3,o 4,o 5,o 6,o 7,o 8,o 9,o 10,o 11,o 12,o 13,o 14,o 15,o 16,o 17,o 18,o 19,o 20,o 21,o 22,o 23,o 24,o 25,o 26,o 27,o 28,o 29,o 30,o 31,o 32,.bool true,o 34,o 35,o 36,o 37,o 38,o 39,o 40,o 41,o 42,o 43], []⟩ W
    refine wpOp_step rfl (fun K' hK => ?_)
    go_simp
    exact hK _ _ ⟨rfl, rfl⟩
  · intro o W hj
    have hj : KL _ _ W := hj
    obtain ⟨cL, c0, c1, c2, c3, c4, c5⟩ := bl6 (KL.blk hj (.tail _ (.head _)))
    show wpOp _ _ _ 35 _ ⟨#[_,_,_,_,o 44,_,_,_,_,_,_,_,_,_,_,_,_,_,_,_,_,_,_,_,_,_,_,_,_,_,_,_,_,_,_,_,_,_,_,_,_,_,_,_,_,_,_,_,_,_,_,_,_,_,o 0,o 1,o 2,o 3,o 4,o 5,o 6,o 7,o 8,o 9,o 10,o 11,o 12,o 13,o 14,o 15,o 16,o 17,o 18,o 19,o 20,o 21,o 22,o 23,o 24,o 25,o 26,o 27,o 28,o 29,o 30,o 31,o 32,o 33,.bool true,o 35,o 36,o 37,o 38,o 39,o 40,o 41,o 42,o 43], []⟩ W
    refine wpOp_step rfl (fun K' hK => ?_)
    go_simp
    exact hK _ _ ⟨rfl, hj⟩
  · intro o W hj
    have hj : KL _ _ W := hj
    obtain ⟨cL, c0, c1, c2, c3, c4, c5⟩ := bl6 (KL.blk hj (.tail _ (.tail _ (.tail _ (.tail _ (.tail _ (.tail _ (.head _))))))))
    show wpOp _ _ _ 36 _ ⟨#[_,_,_,_,o 44,_,_,_,_,_,_,_,_,_,_,_,_,_,_,_,_,_,_,_,_,_,_,_,_,_,_,_,_,_,_,_,_,_,_,_,_,_,_,_,_,_,_,_,_,_,_,_,_,_,o 0,o 1,o 2,o 3,o 4,o 5,o 6,o 7,o 8,o 9,o 10,o 11,o 12,o 13,o 14,o 15,o 16,o 17,o 18,o 19,o 20,o 21,o 22,o 23,o 24,o 25,o 26,o 27,o 28,o 29,o 30,o 31,o 32,o 33,.bool true,o 35,o 36,o 37,o 38,o 39,o 40,o 41,o 42,o 43], []⟩ W
    refine wpOp_step rfl (fun K' hK => ?_)
    go_simp
    exact hK _ _ ⟨rfl, hj⟩
  · intro o W _
    show wpOp _ _ _ 37 _ ⟨#[_,_,_,_,o 44,_,_,_,_,_,_,_,_,_,_,_,_,_,_,_,_,_,_,_,_,_,_,_,_,_,_,_,_,_,_,_,_,_,_,_,_,_,_,_,_,_,_,_,_,_,_,_,_,_,o 0,o 1,o 2,o 3,o 4,o 5,o 6,o 7,o 8,o 9,o 10,o 11,o 12,o 13,o 14,o 15,o 16,o 17,o 18,o 19,o 20,o 21,o 22,o 23,o 24,o 25,o 26,o 27,o 28,o 29,o 30,o 31,o 32,o 33,.bool true,.agg #[.int .i64 x,.int .i64 y,.int .i64 z,.int .i64 p,.int .i64 q,.int .i64 r],.agg #[.int .i64 x,.int .i64 y,.int .i64 z,.int .i64 p,.int .i64 q,.int .i64 r],o 37,o 38,o 39,o 40,o 41,o 42,o 43], []⟩ W
    refine wpOp_step rfl (fun K' hK => ?_)
    go_simp
    exact hK _ _ ⟨rfl, rfl⟩
  · intro o W _
    show wpOp _ _ _ 38 _ ⟨#[_,_,_,_,o 44,_,_,_,_,_,_,_,_,_,_,_,_,_,_,_,_,_,_,_,_,_,_,_,_,_,_,_,_,_,_,_,_,_,_,_,_,_,_,_,_,_,_,_,_,_,_,_,_,_,o 0,o 1,o 2,o 3,o 4,o 5,o 6,o 7,o 8,o 9,o 10,o 11,o 12,o 13,o 14,o 15,o 16,o 17,o 18,o 19,o 20,o 21,o 22,o 23,o 24,o 25,o 26,o 27,o 28,o 29,o 30,o 31,o 32,o 33,.bool true,o 35,o 36,.bool true,o 38,o 39,o 40,o 41,o 42,o 43], []⟩ W
    refine wpOp_step rfl (fun K' hK => ?_)
    go_simp
    exact hK _ _ ⟨rfl, rfl⟩
  · intro o W _
    show wpOp _ _ _ 39 _ ⟨#[_,_,_,_,o 44,_,_,_,_,_,_,_,_,_,_,_,_,_,_,_,_,_,_,_,_,_,_,_,_,_,_,_,_,_,_,_,_,_,_,_,_,_,_,_,_,_,_,_,_,_,_,_,_,_,o 0,o 1,o 2,o 3,o 4,o 5,o 6,o 7,o 8,o 9,o 10,o 11,o 12,o 13,o 14,o 15,o 16,o 17,o 18,o 19,o 20,o 21,o 22,o 23,o 24,o 25,o 26,o 27,o 28,o 29,o 30,o 31,o 32,o 33,o 34,o 35,o 36,o 37,.bool true,o 39,o 40,o 41,o 42,o 43], []⟩ W
    refine wpOp_step rfl (fun K' hK => ?_)
    go_simp
    exact hK _ _ ⟨rfl, rfl⟩
  · intro o W hj
    have hj : KL _ _ W := hj
    obtain ⟨cL, c0, c1, c2⟩ := bl3 (KL.blk hj (.head _))
    show wpOp _ _ _ 40 _ ⟨#[_,_,_,_,o 44,_,_,_,_,_,_,_,_,_,_,_,_,_,_,_,_,_,_,_,_,_,_,_,_,_,_,_,_,_,_,_,_,_,_,_,_,_,_,_,_,_,_,_,_,_,_,_,_,_,o 0,o 1,o 2,o 3,o 4,o 5,o 6,o 7,o 8,o 9,o 10,o 11,o 12,o 13,o 14,o 15,o 16,o 17,o 18,o 19,o 20,o 21,o 22,o 23,o 24,o 25,o 26,o 27,o 28,o 29,o 30,o 31,o 32,o 33,o 34,o 35,o 36,o 37,o 38,.bool true,o 40,o 41,o 42,o 43], []⟩ W
    refine wpOp_step rfl (fun K' hK => ?_)
    go_simp
    exact hK _ _ ⟨rfl, hj⟩
  · intro o W hj
    have hj : KL _ _ W := hj
    obtain ⟨cL, c0, c1, c2⟩ := bl3 (KL.blk hj (.tail _ (.tail _ (.tail _ (.tail _ (.tail _ (.head _)))))))
    show wpOp _ _ _ 41 _ ⟨#[_,_,_,_,o 44,_,_,_,_,_,_,_,_,_,_,_,_,_,_,_,_,_,_,_,_,_,_,_,_,_,_,_,_,_,_,_,_,_,_,_,_,_,_,_,_,_,_,_,_,_,_,_,_,_,o 0,o 1,o 2,o 3,o 4,o 5,o 6,o 7,o 8,o 9,o 10,o 11,o 12,o 13,o 14,o 15,o 16,o 17,o 18,o 19,o 20,o 21,o 22,o 23,o 24,o 25,o 26,o 27,o 28,o 29,o 30,o 31,o 32,o 33,o 34,o 35,o 36,o 37,o 38,.bool true,o 40,o 41,o 42,o 43], []⟩ W
    refine wpOp_step rfl (fun K' hK => ?_)
    go_simp
    exact hK _ _ ⟨rfl, hj⟩
  · intro o W _
    show wpOp _ _ _ 42 _ ⟨#[_,_,_,_,o 44,_,_,_,_,_,_,_,_,_,_,_,_,_,_,_,_,_,_,_,_,_,_,_,_,_,_,_,_,_,_,_,_,_,_,_,_,_,_,_,_,_,_,_,_,_,_,_,_,_,o 0,o 1,o 2,o 3,o 4,o 5,o 6,o 7,o 8,o 9,o 10,o 11,o 12,o 13,o 14,o 15,o 16,o 17,o 18,o 19,o 20,o 21,o 22,o 23,o 24,o 25,o 26,o 27,o 28,o 29,o 30,o 31,o 32,o 33,o 34,o 35,o 36,o 37,o 38,.bool true,.agg #[.int .i64 0,.int .i64 t,.int .i64 (t + k - t)],.agg #[.int .i64 0,.int .i64 t,.int .i64 k],o 42,o 43], []⟩ W
    refine wpOp_step rfl (fun K' hK => ?_)
    go_simp
    exact hK _ _ ⟨rfl, rfl⟩
  · intro o W _
    show wpOp _ _ _ 43 _ ⟨#[_,_,_,_,o 44,_,_,_,_,_,_,_,_,_,_,_,_,_,_,_,_,_,_,_,_,_,_,_,_,_,_,_,_,_,_,_,_,_,_,_,_,_,_,_,_,_,_,_,_,_,_,_,_,_,o 0,o 1,o 2,o 3,o 4,o 5,o 6,o 7,o 8,o 9,o 10,o 11,o 12,o 13,o 14,o 15,o 16,o 17,o 18,o 19,o 20,o 21,o 22,o 23,o 24,o 25,o 26,o 27,o 28,o 29,o 30,o 31,o 32,o 33,o 34,o 35,o 36,o 37,o 38,.bool true,o 40,o 41,.bool true,o 43], []⟩ W
    refine wpOp_step rfl (fun K' hK => ?_)
    go_simp
    exact hK _ _ ⟨rfl, rfl⟩
  · intro o W _
    show wpOp _ _ _ 44 _ ⟨#[_,_,_,_,o 44,_,_,_,_,_,_,_,_,_,_,_,_,_,_,_,_,_,_,_,_,_,_,_,_,_,_,_,_,_,_,_,_,_,_,_,_,_,_,_,_,_,_,_,_,_,_,_,_,_,o 0,o 1,o 2,o 3,o 4,o 5,o 6,o 7,o 8,o 9,o 10,o 11,o 12,o 13,o 14,o 15,o 16,o 17,o 18,o 19,o 20,o 21,o 22,o 23,o 24,o 25,o 26,o 27,o 28,o 29,o 30,o 31,o 32,o 33,o 34,o 35,o 36,o 37,o 38,o 39,o 40,o 41,o 42,.bool true], []⟩ W
    refine wpOp_step rfl (fun K' hK => ?_)
    go_simp
    exact hK _ _ ⟨rfl, rfl⟩
  · intro o hh_
    have e0 : o 0 = .int .i64 0 := hh_ 0 (by decide)
    have e1 : o 1 = .bool true := hh_ 1 (by decide)
    have e2 : o 2 = .bool true := hh_ 2 (by decide)
    have e3 : o 3 = .agg #[.int .i64 x,.int .i64 y,.int .i64 z,.int .i64 t,.int .i64 q,.int .i64 r] := hh_ 3 (by decide)
    have e4 : o 4 = .int .i64 V1 := hh_ 4 (by decide)
    have e5 : o 5 = .int .i64 V := hh_ 5 (by decide)
    have e6 : o 6 = .int .i64 (V1 + V) := hh_ 6 (by decide)
    have e7 : o 7 = .agg #[.int .i64 (t + k),.int .i64 y,.int .i64 z,.int .i64 p,.int .i64 q,.int .i64 r] := hh_ 7 (by decide)
    have e8 : o 8 = .int .i64 V2 := hh_ 8 (by decide)
    have e9 : o 9 = .int .i64 ((V1 + V) + V2) := hh_ 9 (by decide)
    have e10 : o 10 = .agg #[.int .i64 x,.int .i64 y,.int .i64 z,.int .i64 p,.int .i64 q,.int .i64 r] := hh_ 10 (by decide)
    have e11 : o 11 = .int .i64 VB := hh_ 11 (by decide)
    have e12 : o 12 = .bool true := hh_ 12 (by decide)
    have e13 : o 13 = .bool true := hh_ 13 (by decide)
    have e14 : o 14 = .bool true := hh_ 14 (by decide)
    have e15 : o 15 = .agg #[.int .i64 t,.int .i64 y,.int .i64 z,.int .i64 (t + k),.int .i64 q,.int .i64 r] := hh_ 15 (by decide)
    have e16 : o 16 = .int .i64 V := hh_ 16 (by decide)
    have e17 : o 17 = .int .i64 V := hh_ 17 (by decide)
    have e18 : o 18 = .bool true := hh_ 18 (by decide)
    have e19 : o 19 = .bool true := hh_ 19 (by decide)
    have e20 : o 20 = .bool true := hh_ 20 (by decide)
    have e21 : o 21 = .agg #[.int .i64 x,.int .i64 y,.int .i64 z,.int .i64 t,.int .i64 q,.int .i64 r] := hh_ 21 (by decide)
    have e22 : o 22 = .int .i64 V1 := hh_ 22 (by decide)
    have e23 : o 23 = .bool true := hh_ 23 (by decide)
    have e24 : o 24 = .bool true := hh_ 24 (by decide)
    have e25 : o 25 = .bool true := hh_ 25 (by decide)
    have e26 : o 26 = .agg #[.int .i64 (t + k),.int .i64 y,.int .i64 z,.int .i64 p,.int .i64 q,.int .i64 r] := hh_ 26 (by decide)
    have e27 : o 27 = .int .i64 V2 := hh_ 27 (by decide)
    have e28 : o 28 = .bool true := hh_ 28 (by decide)
    have e29 : o 29 = .bool true := hh_ 29 (by decide)
    have e30 : o 30 = .bool true := hh_ 30 (by decide)
    have e31 : o 31 = .int .i64 0 := hh_ 31 (by decide)
    have e32 : o 32 = .bool true := hh_ 32 (by decide)
    have e33 : o 33 = .bool true := hh_ 33 (by decide)
    have e34 : o 34 = .bool true := hh_ 34 (by decide)
    have e35 : o 35 = .agg #[.int .i64 x,.int .i64 y,.int .i64 z,.int .i64 p,.int .i64 q,.int .i64 r] := hh_ 35 (by decide)
    have e36 : o 36 = .agg #[.int .i64 x,.int .i64 y,.int .i64 z,.int .i64 p,.int .i64 q,.int .i64 r] := hh_ 36 (by decide)
    have e37 : o 37 = .bool true := hh_ 37 (by decide)
    have e38 : o 38 = .bool true := hh_ 38 (by decide)
    have e39 : o 39 = .bool true := hh_ 39 (by decide)
    have e40 : o 40 = .agg #[.int .i64 0,.int .i64 t,.int .i64 (t + k - t)] := hh_ 40 (by decide)
    have e41 : o 41 = .agg #[.int .i64 0,.int .i64 t,.int .i64 k] := hh_ 41 (by decide)
    have e42 : o 42 = .bool true := hh_ 42 (by decide)
    have e43 : o 43 = .bool true := hh_ 43 (by decide)
    have e44 : o 44 = .bool true := hh_ 44 (by decide)
    rw [e0, e1, e2, e3, e4, e5, e6, e7, e8, e9, e10, e11, e12, e13, e14, e15, e16, e17, e18, e19, e20, e21, e22, e23, e24, e25, e26, e27, e28, e29, e30, e31, e32, e33, e34, e35, e36, e37, e38, e39, e40, e41, e42, e43, e44]
  · intro W hj
    have hj : KL _ _ W := hj
    obtain ⟨cL0, c0_0, c0_1, c0_2⟩ := bl3 (KL.blk hj (.head _))
    obtain ⟨cL1, c1_0, c1_1, c1_2, c1_3, c1_4, c1_5⟩ := bl6 (KL.blk hj (.tail _ (.head _)))
    obtain ⟨cL2, c2_0, c2_1, c2_2, c2_3, c2_4, c2_5⟩ := bl6 (KL.blk hj (.tail _ (.tail _ (.head _))))
    obtain ⟨cL3, c3_0, c3_1, c3_2, c3_3, c3_4, c3_5⟩ := bl6 (KL.blk hj (.tail _ (.tail _ (.tail _ (.head _)))))
    obtain ⟨cL4, c4_0, c4_1, c4_2, c4_3, c4_4, c4_5⟩ := bl6 (KL.blk hj (.tail _ (.tail _ (.tail _ (.tail _ (.head _))))))
    obtain ⟨cL5, c5_0, c5_1, c5_2⟩ := bl3 (KL.blk hj (.tail _ (.tail _ (.tail _ (.tail _ (.tail _ (.head _)))))))
    obtain ⟨cL6, c6_0, c6_1, c6_2, c6_3, c6_4, c6_5⟩ := bl6 (KL.blk hj (.tail _ (.tail _ (.tail _ (.tail _ (.tail _ (.tail _ (.head _))))))))
    have hjb := hj.1
    have hjz := hjb.size
    go_wp2
    go_ret
    exact ⟨rfl, hjb⟩
set_option maxHeartbeats 16000000 in
set_option maxRecDepth 100000 in
theorem whole_0z (x y z p q r t k : Int) (hv : eB x y z p q r = 0) (ho : okI x p t k = 0) (hkp : k = 0) (w : World) : Calls Try.prog 8 #[.agg #[.int .i64 x, .int .i64 y, .int .i64 z, .int .i64 p, .int .i64 q, .int .i64 r], .agg #[.int .i64 0, .int .i64 t, .int .i64 k]] w fun e w' => e = .returned (.bool true) ∧ Below w.heap.size w w' := by
  have hA := awake_any
  have hs := Split0z x y z p q r t k hv ho hkp
  have hl := Loss0z x y z p q r t k hv ho hkp
  obtain ⟨⟨a1, a2, a3⟩, ⟨a4, a5, a6⟩, ⟨a7, a8, a9⟩⟩ := eB_bd hv
  obtain ⟨b1, b2, b3⟩ := okI_z ho
  obtain ⟨b4, b5⟩ := rgB_iff.1 b1
  have ef : eB x y z t q r = 0 := eB_mk (by omega) (by omega) (by omega) (by omega) (by omega) (by omega) (by omega) (by omega) (by omega)
  have es : eB (t + k) y z p q r = 0 := eB_mk (by omega) (by omega) (by omega) (by omega) (by omega) (by omega) (by omega) (by omega) (by omega)
  have hjn := Join0ok x y z t q r (t + k) y z p q r ef es (by simp [jnB0]) (rgB_iff.2 (by omega))
  have hv1 := fun w => lvol_any x y z t q r (by omega) (by omega) (by omega) (by omega) (by omega) (by omega) w
  have hv2 := fun w => lvol_any (t + k) y z p q r (by omega) (by omega) (by omega) (by omega) (by omega) (by omega) w
  have hvb := fun w => lvol_any x y z p q r (by omega) (by omega) (by omega) (by omega) (by omega) (by omega) w
  have hvm := fun w => lvol_any 0 0 0 0 0 0 (by omega) (by omega) (by omega) (by omega) (by omega) (by omega) w
  have p1 := vol_pos x y z t q r (by omega) (by omega) (by omega)
  have p2 := vol_pos (t + k) y z p q r (by omega) (by omega) (by omega)
  have hsum : volI x y z t q r + 0 + volI (t + k) y z p q r = volI x y z p q r := by
    unfold volI
    subst hkp
    grind
  have hbv := vol_bd x y z p q r (by omega) (by omega) (by omega) (by omega) (by omega) (by omega)
  have hvm0 : 0 ≤ (0 : Int) := Int.le_refl 0
  rw [show volI 0 0 0 0 0 0 = 0 by decide] at hvm
  generalize volI x y z t q r = V1 at *
  generalize volI (t + k) y z p q r = V2 at *
  generalize volI x y z p q r = VB at *
  have x1 : IntKind.i64.wrap V1 = V1 := IntWalk.i64_in _ (by omega)
  have x2 : IntKind.i64.wrap (V1 + V2) = V1 + V2 := IntWalk.i64_in _ (by omega)
  have x3 : (V1 + V2 == VB) = true := by rw [beq_iff_eq]; omega
  have x4 : decide (0 < V1) = true := by simpa using p1
  have x5 : decide (0 < V2) = true := by simpa using p2
  have q1 : ∀ w, Sem.run Try.prog (binOp .eql 25 (.agg #[.int .i64 x, .int .i64 y, .int .i64 z, .int .i64 p, .int .i64 q, .int .i64 r]) (.agg #[.int .i64 x, .int .i64 y, .int .i64 z, .int .i64 p, .int .i64 q, .int .i64 r])) w = .ok (.bool true) w := fun w => by rw [eqB]; simp
  have q2 : ∀ w, Sem.run Try.prog (binOp .eql 33 (.agg #[.int .i64 0, .int .i64 t, .int .i64 (t + k - t)]) (.agg #[.int .i64 0, .int .i64 t, .int .i64 k])) w = .ok (.bool true) w := fun w => by rw [eqC]; simp; omega
  clear hv ho b1 a1 a2 a3 a4 a5 a6 a7 a8 a9 b2 b3 b4 b5 hkp ef es hsum hbv hvm0 p1 p2
  go_enter Try.func8, Try.ntmps8
  go_wp2_with (first | (go_at_call 12; refine (hA _).mono ?_; rintro e w1 ⟨rfl, hb1⟩; obtain ⟨hc1, hf1⟩ := bcell hb1; have hz1 := hb1.size; (try simp at hz1); (try have y10 : w.heap.size < w1.heap.size := (by omega)); (try have y10p : w.heap.size < w1.heap.size + 1 := (by omega)); (try have y11 : w.heap.size + 1 < w1.heap.size := (by omega)); (try have y11p : w.heap.size + 1 < w1.heap.size + 1 := (by omega)); (try have y12 : w.heap.size + 1 + 1 < w1.heap.size := (by omega)); (try have y12p : w.heap.size + 1 + 1 < w1.heap.size + 1 := (by omega)); (try have y13 : w.heap.size + 1 + 1 + 1 < w1.heap.size := (by omega)); (try have y13p : w.heap.size + 1 + 1 + 1 < w1.heap.size + 1 := (by omega)); (try have y14 : w.heap.size + 1 + 1 + 1 + 1 < w1.heap.size := (by omega)); (try have y14p : w.heap.size + 1 + 1 + 1 + 1 < w1.heap.size + 1 := (by omega)); (try have v0x1 : w0.heap.size < w1.heap.size := (by omega)); (try have v0x1p : w0.heap.size < w1.heap.size + 1 := (by omega))) | (go_at_call 14; refine (hs _).mono ?_; rintro e w2 ⟨rfl, hb2⟩; obtain ⟨hc2, hf2⟩ := bcell hb2; have hz2 := hb2.size; (try simp at hz2); (try have y20 : w.heap.size < w2.heap.size := (by omega)); (try have y20p : w.heap.size < w2.heap.size + 1 := (by omega)); (try have y21 : w.heap.size + 1 < w2.heap.size := (by omega)); (try have y21p : w.heap.size + 1 < w2.heap.size + 1 := (by omega)); (try have y22 : w.heap.size + 1 + 1 < w2.heap.size := (by omega)); (try have y22p : w.heap.size + 1 + 1 < w2.heap.size + 1 := (by omega)); (try have y23 : w.heap.size + 1 + 1 + 1 < w2.heap.size := (by omega)); (try have y23p : w.heap.size + 1 + 1 + 1 < w2.heap.size + 1 := (by omega)); (try have y24 : w.heap.size + 1 + 1 + 1 + 1 < w2.heap.size := (by omega)); (try have y24p : w.heap.size + 1 + 1 + 1 + 1 < w2.heap.size + 1 := (by omega)); (try have v0x2 : w0.heap.size < w2.heap.size := (by omega)); (try have v0x2p : w0.heap.size < w2.heap.size + 1 := (by omega)); (try have v1x2 : w1.heap.size < w2.heap.size := (by omega)); (try have v1x2p : w1.heap.size < w2.heap.size + 1 := (by omega))) | (go_at_call 16; refine (hl _).mono ?_; rintro e w3 ⟨rfl, hb3⟩; obtain ⟨hc3, hf3⟩ := bcell hb3; have hz3 := hb3.size; (try simp at hz3); (try have y30 : w.heap.size < w3.heap.size := (by omega)); (try have y30p : w.heap.size < w3.heap.size + 1 := (by omega)); (try have y31 : w.heap.size + 1 < w3.heap.size := (by omega)); (try have y31p : w.heap.size + 1 < w3.heap.size + 1 := (by omega)); (try have y32 : w.heap.size + 1 + 1 < w3.heap.size := (by omega)); (try have y32p : w.heap.size + 1 + 1 < w3.heap.size + 1 := (by omega)); (try have y33 : w.heap.size + 1 + 1 + 1 < w3.heap.size := (by omega)); (try have y33p : w.heap.size + 1 + 1 + 1 < w3.heap.size + 1 := (by omega)); (try have y34 : w.heap.size + 1 + 1 + 1 + 1 < w3.heap.size := (by omega)); (try have y34p : w.heap.size + 1 + 1 + 1 + 1 < w3.heap.size + 1 := (by omega)); (try have v0x3 : w0.heap.size < w3.heap.size := (by omega)); (try have v0x3p : w0.heap.size < w3.heap.size + 1 := (by omega)); (try have v1x3 : w1.heap.size < w3.heap.size := (by omega)); (try have v1x3p : w1.heap.size < w3.heap.size + 1 := (by omega)); (try have v2x3 : w2.heap.size < w3.heap.size := (by omega)); (try have v2x3p : w2.heap.size < w3.heap.size + 1 := (by omega)); have mw3_0_0 : w2.heap.size < w3.heap.size := (by omega); have mw3_0_1 : w2.heap.size < w3.heap.size + 1 := (by omega); have mw3_0_2 : w2.heap.size < w3.heap.size + 1 + 1 := (by omega); have mw3_1_0 : (w2.heap.size + 1) < w3.heap.size := (by omega); have mw3_1_1 : (w2.heap.size + 1) < w3.heap.size + 1 := (by omega); have mw3_1_2 : (w2.heap.size + 1) < w3.heap.size + 1 + 1 := (by omega); have mw3_2_0 : (w2.heap.size + 1 + 1) < w3.heap.size := (by omega); have mw3_2_1 : (w2.heap.size + 1 + 1) < w3.heap.size + 1 := (by omega); have mw3_2_2 : (w2.heap.size + 1 + 1) < w3.heap.size + 1 + 1 := (by omega)) | (go_at_call 20; refine (hjn _).mono ?_; rintro e w4 ⟨rfl, hb4⟩; obtain ⟨hc4, hf4⟩ := bcell hb4; have hz4 := hb4.size; (try simp at hz4); (try have y40 : w.heap.size < w4.heap.size := (by omega)); (try have y40p : w.heap.size < w4.heap.size + 1 := (by omega)); (try have y41 : w.heap.size + 1 < w4.heap.size := (by omega)); (try have y41p : w.heap.size + 1 < w4.heap.size + 1 := (by omega)); (try have y42 : w.heap.size + 1 + 1 < w4.heap.size := (by omega)); (try have y42p : w.heap.size + 1 + 1 < w4.heap.size + 1 := (by omega)); (try have y43 : w.heap.size + 1 + 1 + 1 < w4.heap.size := (by omega)); (try have y43p : w.heap.size + 1 + 1 + 1 < w4.heap.size + 1 := (by omega)); (try have y44 : w.heap.size + 1 + 1 + 1 + 1 < w4.heap.size := (by omega)); (try have y44p : w.heap.size + 1 + 1 + 1 + 1 < w4.heap.size + 1 := (by omega)); (try have v0x4 : w0.heap.size < w4.heap.size := (by omega)); (try have v0x4p : w0.heap.size < w4.heap.size + 1 := (by omega)); (try have v1x4 : w1.heap.size < w4.heap.size := (by omega)); (try have v1x4p : w1.heap.size < w4.heap.size + 1 := (by omega)); (try have v2x4 : w2.heap.size < w4.heap.size := (by omega)); (try have v2x4p : w2.heap.size < w4.heap.size + 1 := (by omega)); (try have v3x4 : w3.heap.size < w4.heap.size := (by omega)); (try have v3x4p : w3.heap.size < w4.heap.size + 1 := (by omega)); have mw4_0_0 : w2.heap.size < w4.heap.size := (by omega); have mw4_0_1 : w2.heap.size < w4.heap.size + 1 := (by omega); have mw4_0_2 : w2.heap.size < w4.heap.size + 1 + 1 := (by omega); have mw4_1_0 : (w2.heap.size + 1) < w4.heap.size := (by omega); have mw4_1_1 : (w2.heap.size + 1) < w4.heap.size + 1 := (by omega); have mw4_1_2 : (w2.heap.size + 1) < w4.heap.size + 1 + 1 := (by omega); have mw4_2_0 : (w2.heap.size + 1 + 1) < w4.heap.size := (by omega); have mw4_2_1 : (w2.heap.size + 1 + 1) < w4.heap.size + 1 := (by omega); have mw4_2_2 : (w2.heap.size + 1 + 1) < w4.heap.size + 1 + 1 := (by omega)))
  refine wp_region_any (by kernel_rfl) ?_
  try (change wpAny _ _ _ _ _ _ _ (World.drew _))
  refine wpAny_vals (fr := fun o => #[.agg #[.int .i64 x,.int .i64 y,.int .i64 z,.int .i64 p,.int .i64 q,.int .i64 r],.agg #[.int .i64 0,.int .i64 t,.int .i64 k],.pointer (some ⟨w.heap.size, 0, none⟩),.pointer (some ⟨(w.heap.size + 1), 0, none⟩),o 44,.pointer (some ⟨w2.heap.size, 0, none⟩),.pointer (some ⟨(w2.heap.size + 1), 0, none⟩),.pointer (some ⟨(w2.heap.size + 1 + 1), 0, none⟩),.int .i64 0,.int .i64 0,.int .i64 0,.pointer (some ⟨w4.heap.size, 0, none⟩),.pointer (some ⟨(w4.heap.size + 1), 0, none⟩),.int .i64 0,.bool true,.bool false,.tuple #[.agg #[.int .i64 x,.int .i64 y,.int .i64 z,.int .i64 t,.int .i64 q,.int .i64 r],.agg #[.int .i64 0,.int .i64 0,.int .i64 0,.int .i64 0,.int .i64 0,.int .i64 0],.agg #[.int .i64 (t + k),.int .i64 y,.int .i64 z,.int .i64 p,.int .i64 q,.int .i64 r],.int .i64 0],.agg #[.int .i64 x,.int .i64 y,.int .i64 z,.int .i64 p,.int .i64 q,.int .i64 r],.agg #[.int .i64 0,.int .i64 t,.int .i64 k],.tuple #[.agg #[.int .i64 x,.int .i64 y,.int .i64 z,.int .i64 t,.int .i64 q,.int .i64 r],.agg #[.int .i64 0,.int .i64 0,.int .i64 0,.int .i64 0,.int .i64 0,.int .i64 0],.agg #[.int .i64 (t + k),.int .i64 y,.int .i64 z,.int .i64 p,.int .i64 q,.int .i64 r],.int .i64 0],.agg #[.int .i64 x,.int .i64 y,.int .i64 z,.int .i64 t,.int .i64 q,.int .i64 r],.agg #[.int .i64 0,.int .i64 0,.int .i64 0,.int .i64 0,.int .i64 0,.int .i64 0],.agg #[.int .i64 (t + k),.int .i64 y,.int .i64 z,.int .i64 p,.int .i64 q,.int .i64 r],.int .i64 0,.int .i64 0,.bool false,undef,undef,undef,undef,undef,undef,undef,undef,undef,undef,undef,undef,undef,.tuple #[.int .i64 0,.int .i64 0],.agg #[.int .i64 x,.int .i64 y,.int .i64 z,.int .i64 p,.int .i64 q,.int .i64 r],.agg #[.int .i64 0,.int .i64 t,.int .i64 k],.tuple #[.int .i64 0,.int .i64 0],.int .i64 0,.int .i64 0,.tuple #[.agg #[.int .i64 x,.int .i64 y,.int .i64 z,.int .i64 p,.int .i64 q,.int .i64 r],.agg #[.int .i64 0,.int .i64 t,.int .i64 (t + k - t)],.int .i64 0],.agg #[.int .i64 x,.int .i64 y,.int .i64 z,.int .i64 t,.int .i64 q,.int .i64 r],.agg #[.int .i64 (t + k),.int .i64 y,.int .i64 z,.int .i64 p,.int .i64 q,.int .i64 r],.pointer (some ⟨(w.heap.size + 1), 0, none⟩),.int .i64 0,.tuple #[.agg #[.int .i64 x,.int .i64 y,.int .i64 z,.int .i64 p,.int .i64 q,.int .i64 r],.agg #[.int .i64 0,.int .i64 t,.int .i64 (t + k - t)],.int .i64 0],.agg #[.int .i64 x,.int .i64 y,.int .i64 z,.int .i64 p,.int .i64 q,.int .i64 r],.agg #[.int .i64 0,.int .i64 t,.int .i64 (t + k - t)],.int .i64 0,o 0,o 1,o 2,o 3,o 4,o 5,o 6,o 7,o 8,o 9,o 10,o 11,o 12,o 13,o 14,o 15,o 16,o 17,o 18,o 19,o 20,o 21,o 22,o 23,o 24,o 25,o 26,o 27,o 28,o 29,o 30,o 31,o 32,o 33,o 34,o 35,o 36,o 37,o 38,o 39,o 40,o 41,o 42,o 43]) (vals := fun i_ => ([.int .i64 0,.bool true,.bool true,.agg #[.int .i64 x,.int .i64 y,.int .i64 z,.int .i64 t,.int .i64 q,.int .i64 r],.int .i64 V1,.int .i64 0,.int .i64 V1,.agg #[.int .i64 (t + k),.int .i64 y,.int .i64 z,.int .i64 p,.int .i64 q,.int .i64 r],.int .i64 V2,.int .i64 (V1 + V2),.agg #[.int .i64 x,.int .i64 y,.int .i64 z,.int .i64 p,.int .i64 q,.int .i64 r],.int .i64 VB,.bool true,.bool true,.bool true,.agg #[.int .i64 0,.int .i64 0,.int .i64 0,.int .i64 0,.int .i64 0,.int .i64 0],.int .i64 0,.int .i64 0,.bool true,.bool true,.bool true,.agg #[.int .i64 x,.int .i64 y,.int .i64 z,.int .i64 t,.int .i64 q,.int .i64 r],.int .i64 V1,.bool true,.bool true,.bool true,.agg #[.int .i64 (t + k),.int .i64 y,.int .i64 z,.int .i64 p,.int .i64 q,.int .i64 r],.int .i64 V2,.bool true,.bool true,.bool true,.int .i64 0,.bool true,.bool true,.bool true,.agg #[.int .i64 x,.int .i64 y,.int .i64 z,.int .i64 p,.int .i64 q,.int .i64 r],.agg #[.int .i64 x,.int .i64 y,.int .i64 z,.int .i64 p,.int .i64 q,.int .i64 r],.bool true,.bool true,.bool true,.agg #[.int .i64 0,.int .i64 t,.int .i64 (t + k - t)],.agg #[.int .i64 0,.int .i64 t,.int .i64 k],.bool true,.bool true,.bool true] : List Value).getD i_ undef) (Kf := fun _ => True) (K := fun kk_ => ([(KL [((w4.heap.size + 1),33,#[.int .i64 0,.int .i64 t,.int .i64 (t + k - t)]),(w4.heap.size,25,#[.int .i64 x,.int .i64 y,.int .i64 z,.int .i64 p,.int .i64 q,.int .i64 r]),((w2.heap.size + 1 + 1),25,#[.int .i64 (t + k),.int .i64 y,.int .i64 z,.int .i64 p,.int .i64 q,.int .i64 r]),((w2.heap.size + 1),25,#[.int .i64 0,.int .i64 0,.int .i64 0,.int .i64 0,.int .i64 0,.int .i64 0]),(w2.heap.size,25,#[.int .i64 x,.int .i64 y,.int .i64 z,.int .i64 t,.int .i64 q,.int .i64 r]),((w.heap.size + 1),33,#[.int .i64 0,.int .i64 t,.int .i64 k]),(w.heap.size,25,#[.int .i64 x,.int .i64 y,.int .i64 z,.int .i64 p,.int .i64 q,.int .i64 r])] w)] : List (World → Prop)).getD kk_ (fun _ => True)) (dep := fun i_ => [[],[0],[1],[2],[2,3],[2],[2,4,5],[2],[2,7],[2,6,8],[2],[2,10],[2,9,11],[2,12],[13],[14],[14,15],[14],[14,16,17],[14,18],[19],[20],[20,21],[20,22],[20,23],[24],[25],[25,26],[25,27],[25,28],[29],[30],[30,31],[30,32],[33],[34],[34],[34,35,36],[34,37],[38],[39],[39],[39,40,41],[39,42],[43]].getD i_ []) (dv := fun i_ => [[],[0],[1],[2],[2,3],[2],[2,4,5],[2],[2,7],[2,6,8],[2],[2,10],[2,9,11],[2,12],[13],[14],[14,15],[14],[14,16,17],[14,18],[19],[20],[20,21],[20,22],[20,23],[24],[25],[25,26],[25,27],[25,28],[29],[30],[30,31],[30,32],[33],[34],[34],[34,35,36],[34,37],[38],[39],[39],[39,40,41],[39,42],[43]].getD i_ []) (kd := fun i_ => [0,0,0,1,1,0,0,1,1,0,1,1,0,0,0,1,1,0,0,0,0,1,1,0,0,0,1,1,0,0,0,0,0,0,0,1,1,0,0,0,1,1,0,0,0].getD i_ 0) (ss := []) (l := [0,1,2,3,4,5,6,7,8,9,10,11,12,13,14,15,16,17,18,19,20,21,22,23,24,25,26,27,28,29,30,31,32,33,34,35,36,37,38,39,40,41,42,43,44]) (f0 := fun i_ => ([undef,undef,undef,undef,undef,undef,undef,undef,undef,undef,undef,undef,undef,undef,undef,undef,undef,undef,undef,undef,undef,undef,undef,undef,undef,undef,undef,undef,undef,undef,undef,undef,undef,undef,undef,undef,undef,undef,undef,undef,undef,undef,undef,undef,.bool false] : List Value).getD i_ undef) (A := ?A2) 45 rfl rfl (by decide +kernel) (by decide +kernel) ?_ ?_ ⟨?_, ?_, ?_, ?_, ?_, ?_, ?_, ?_, ?_, ?_, ?_, ?_, ?_, ?_, ?_, ?_, ?_, ?_, ?_, ?_, ?_, ?_, ?_, ?_, ?_, ?_, ?_, ?_, ?_, ?_, ?_, ?_, ?_, ?_, ?_, ?_, ?_, ?_, ?_, ?_, ?_, ?_, ?_, ?_, ?_, trivial⟩ ?_ ?_
  rotate_left
  · exact KL.drew (KL.new (g := (w4.heap.size + 1)) (KL.new (g := w4.heap.size) (KL.over (KL.over (KL.new (g := (w2.heap.size + 1 + 1)) (KL.new (g := (w2.heap.size + 1)) (KL.new (g := w2.heap.size) (KL.over (KL.over (KL.new (g := (w.heap.size + 1)) (KL.new (g := w.heap.size) (KL.nil w) rfl _ _) (by simp) _ _) hb1) hb2) (by simp) _ _) (by simp) _ _) (by simp) _ _) hb3) hb4) (by simp) _ _) (by simp) _ _)
  · exact fun _ _ _ _ => trivial
  · intro o W _
    show wpOp _ _ _ 0 _ ⟨#[_,_,_,_,o 44,_,_,_,_,_,_,_,_,_,_,_,_,_,_,_,_,_,_,_,_,_,_,_,_,_,_,_,_,_,_,_,_,_,_,_,_,_,_,_,_,_,_,_,_,_,_,_,_,_,o 0,o 1,o 2,o 3,o 4,o 5,o 6,o 7,o 8,o 9,o 10,o 11,o 12,o 13,o 14,o 15,o 16,o 17,o 18,o 19,o 20,o 21,o 22,o 23,o 24,o 25,o 26,o 27,o 28,o 29,o 30,o 31,o 32,o 33,o 34,o 35,o 36,o 37,o 38,o 39,o 40,o 41,o 42,o 43], []⟩ W
    refine wpOp_step rfl (fun K' hK => ?_)
    go_simp
    exact hK _ _ ⟨rfl, rfl⟩
  · intro o W _
    show wpOp _ _ _ 1 _ ⟨#[_,_,_,_,o 44,_,_,_,_,_,_,_,_,_,_,_,_,_,_,_,_,_,_,_,_,_,_,_,_,_,_,_,_,_,_,_,_,_,_,_,_,_,_,_,_,_,_,_,_,_,_,_,_,_,.int .i64 0,o 1,o 2,o 3,o 4,o 5,o 6,o 7,o 8,o 9,o 10,o 11,o 12,o 13,o 14,o 15,o 16,o 17,o 18,o 19,o 20,o 21,o 22,o 23,o 24,o 25,o 26,o 27,o 28,o 29,o 30,o 31,o 32,o 33,o 34,o 35,o 36,o 37,o 38,o 39,o 40,o 41,o 42,o 43], []⟩ W
    refine wpOp_step rfl (fun K' hK => ?_)
    go_simp
    exact hK _ _ ⟨rfl, rfl⟩
  · intro o W _
    show wpOp _ _ _ 2 _ ⟨#[_,_,_,_,o 44,_,_,_,_,_,_,_,_,_,_,_,_,_,_,_,_,_,_,_,_,_,_,_,_,_,_,_,_,_,_,_,_,_,_,_,_,_,_,_,_,_,_,_,_,_,_,_,_,_,o 0,.bool true,o 2,o 3,o 4,o 5,o 6,o 7,o 8,o 9,o 10,o 11,o 12,o 13,o 14,o 15,o 16,o 17,o 18,o 19,o 20,o 21,o 22,o 23,o 24,o 25,o 26,o 27,o 28,o 29,o 30,o 31,o 32,o 33,o 34,o 35,o 36,o 37,o 38,o 39,o 40,o 41,o 42,o 43], []⟩ W
    refine wpOp_step rfl (fun K' hK => ?_)
    go_simp
    exact hK _ _ ⟨rfl, rfl⟩
  · intro o W hj
    have hj : KL _ _ W := hj
    obtain ⟨cL, c0, c1, c2, c3, c4, c5⟩ := bl6 (KL.blk hj (.tail _ (.tail _ (.tail _ (.tail _ (.head _))))))
    show wpOp _ _ _ 3 _ ⟨#[_,_,_,_,o 44,_,_,_,_,_,_,_,_,_,_,_,_,_,_,_,_,_,_,_,_,_,_,_,_,_,_,_,_,_,_,_,_,_,_,_,_,_,_,_,_,_,_,_,_,_,_,_,_,_,o 0,o 1,.bool true,o 3,o 4,o 5,o 6,o 7,o 8,o 9,o 10,o 11,o 12,o 13,o 14,o 15,o 16,o 17,o 18,o 19,o 20,o 21,o 22,o 23,o 24,o 25,o 26,o 27,o 28,o 29,o 30,o 31,o 32,o 33,o 34,o 35,o 36,o 37,o 38,o 39,o 40,o 41,o 42,o 43], []⟩ W
    refine wpOp_step rfl (fun K' hK => ?_)
    go_simp
    exact hK _ _ ⟨rfl, hj⟩
  · intro o W hj
    have hj : KL _ _ W := hj
    show wpOp _ _ _ 4 _ ⟨#[_,_,_,_,o 44,_,_,_,_,_,_,_,_,_,_,_,_,_,_,_,_,_,_,_,_,_,_,_,_,_,_,_,_,_,_,_,_,_,_,_,_,_,_,_,_,_,_,_,_,_,_,_,_,_,o 0,o 1,.bool true,.agg #[.int .i64 x,.int .i64 y,.int .i64 z,.int .i64 t,.int .i64 q,.int .i64 r],o 4,o 5,o 6,o 7,o 8,o 9,o 10,o 11,o 12,o 13,o 14,o 15,o 16,o 17,o 18,o 19,o 20,o 21,o 22,o 23,o 24,o 25,o 26,o 27,o 28,o 29,o 30,o 31,o 32,o 33,o 34,o 35,o 36,o 37,o 38,o 39,o 40,o 41,o 42,o 43], []⟩ W
    refine wpOp_step rfl (fun K' hK => ?_)
    go_simp
    refine (hv1 _).mono ?_
    rintro e W1 ⟨rfl, hb1⟩
    exact hK _ _ ⟨rfl, hj.over hb1⟩
  · intro o W _
    show wpOp _ _ _ 5 _ ⟨#[_,_,_,_,o 44,_,_,_,_,_,_,_,_,_,_,_,_,_,_,_,_,_,_,_,_,_,_,_,_,_,_,_,_,_,_,_,_,_,_,_,_,_,_,_,_,_,_,_,_,_,_,_,_,_,o 0,o 1,.bool true,o 3,o 4,o 5,o 6,o 7,o 8,o 9,o 10,o 11,o 12,o 13,o 14,o 15,o 16,o 17,o 18,o 19,o 20,o 21,o 22,o 23,o 24,o 25,o 26,o 27,o 28,o 29,o 30,o 31,o 32,o 33,o 34,o 35,o 36,o 37,o 38,o 39,o 40,o 41,o 42,o 43], []⟩ W
    refine wpOp_step rfl (fun K' hK => ?_)
    go_simp
    exact hK _ _ ⟨rfl, rfl⟩
  · intro o W _
    show wpOp _ _ _ 6 _ ⟨#[_,_,_,_,o 44,_,_,_,_,_,_,_,_,_,_,_,_,_,_,_,_,_,_,_,_,_,_,_,_,_,_,_,_,_,_,_,_,_,_,_,_,_,_,_,_,_,_,_,_,_,_,_,_,_,o 0,o 1,.bool true,o 3,.int .i64 V1,.int .i64 0,o 6,o 7,o 8,o 9,o 10,o 11,o 12,o 13,o 14,o 15,o 16,o 17,o 18,o 19,o 20,o 21,o 22,o 23,o 24,o 25,o 26,o 27,o 28,o 29,o 30,o 31,o 32,o 33,o 34,o 35,o 36,o 37,o 38,o 39,o 40,o 41,o 42,o 43], []⟩ W
    refine wpOp_step rfl (fun K' hK => ?_)
    go_simp
    exact hK _ _ ⟨rfl, rfl⟩
  · intro o W hj
    have hj : KL _ _ W := hj
    obtain ⟨cL, c0, c1, c2, c3, c4, c5⟩ := bl6 (KL.blk hj (.tail _ (.tail _ (.head _))))
    show wpOp _ _ _ 7 _ ⟨#[_,_,_,_,o 44,_,_,_,_,_,_,_,_,_,_,_,_,_,_,_,_,_,_,_,_,_,_,_,_,_,_,_,_,_,_,_,_,_,_,_,_,_,_,_,_,_,_,_,_,_,_,_,_,_,o 0,o 1,.bool true,o 3,o 4,o 5,o 6,o 7,o 8,o 9,o 10,o 11,o 12,o 13,o 14,o 15,o 16,o 17,o 18,o 19,o 20,o 21,o 22,o 23,o 24,o 25,o 26,o 27,o 28,o 29,o 30,o 31,o 32,o 33,o 34,o 35,o 36,o 37,o 38,o 39,o 40,o 41,o 42,o 43], []⟩ W
    refine wpOp_step rfl (fun K' hK => ?_)
    go_simp
    exact hK _ _ ⟨rfl, hj⟩
  · intro o W hj
    have hj : KL _ _ W := hj
    show wpOp _ _ _ 8 _ ⟨#[_,_,_,_,o 44,_,_,_,_,_,_,_,_,_,_,_,_,_,_,_,_,_,_,_,_,_,_,_,_,_,_,_,_,_,_,_,_,_,_,_,_,_,_,_,_,_,_,_,_,_,_,_,_,_,o 0,o 1,.bool true,o 3,o 4,o 5,o 6,.agg #[.int .i64 (t + k),.int .i64 y,.int .i64 z,.int .i64 p,.int .i64 q,.int .i64 r],o 8,o 9,o 10,o 11,o 12,o 13,o 14,o 15,o 16,o 17,o 18,o 19,o 20,o 21,o 22,o 23,o 24,o 25,o 26,o 27,o 28,o 29,o 30,o 31,o 32,o 33,o 34,o 35,o 36,o 37,o 38,o 39,o 40,o 41,o 42,o 43], []⟩ W
    refine wpOp_step rfl (fun K' hK => ?_)
    go_simp
    refine (hv2 _).mono ?_
    rintro e W1 ⟨rfl, hb1⟩
    exact hK _ _ ⟨rfl, hj.over hb1⟩
  · intro o W _
    show wpOp _ _ _ 9 _ ⟨#[_,_,_,_,o 44,_,_,_,_,_,_,_,_,_,_,_,_,_,_,_,_,_,_,_,_,_,_,_,_,_,_,_,_,_,_,_,_,_,_,_,_,_,_,_,_,_,_,_,_,_,_,_,_,_,o 0,o 1,.bool true,o 3,o 4,o 5,.int .i64 V1,o 7,.int .i64 V2,o 9,o 10,o 11,o 12,o 13,o 14,o 15,o 16,o 17,o 18,o 19,o 20,o 21,o 22,o 23,o 24,o 25,o 26,o 27,o 28,o 29,o 30,o 31,o 32,o 33,o 34,o 35,o 36,o 37,o 38,o 39,o 40,o 41,o 42,o 43], []⟩ W
    refine wpOp_step rfl (fun K' hK => ?_)
    go_simp
    exact hK _ _ ⟨rfl, rfl⟩
  · intro o W hj
    have hj : KL _ _ W := hj
    obtain ⟨cL, c0, c1, c2, c3, c4, c5⟩ := bl6 (KL.blk hj (.tail _ (.tail _ (.tail _ (.tail _ (.tail _ (.tail _ (.head _))))))))
    show wpOp _ _ _ 10 _ ⟨#[_,_,_,_,o 44,_,_,_,_,_,_,_,_,_,_,_,_,_,_,_,_,_,_,_,_,_,_,_,_,_,_,_,_,_,_,_,_,_,_,_,_,_,_,_,_,_,_,_,_,_,_,_,_,_,o 0,o 1,.bool true,o 3,o 4,o 5,o 6,o 7,o 8,o 9,o 10,o 11,o 12,o 13,o 14,o 15,o 16,o 17,o 18,o 19,o 20,o 21,o 22,o 23,o 24,o 25,o 26,o 27,o 28,o 29,o 30,o 31,o 32,o 33,o 34,o 35,o 36,o 37,o 38,o 39,o 40,o 41,o 42,o 43], []⟩ W
    refine wpOp_step rfl (fun K' hK => ?_)
    go_simp
    exact hK _ _ ⟨rfl, hj⟩
  · intro o W hj
    have hj : KL _ _ W := hj
    show wpOp _ _ _ 11 _ ⟨#[_,_,_,_,o 44,_,_,_,_,_,_,_,_,_,_,_,_,_,_,_,_,_,_,_,_,_,_,_,_,_,_,_,_,_,_,_,_,_,_,_,_,_,_,_,_,_,_,_,_,_,_,_,_,_,o 0,o 1,.bool true,o 3,o 4,o 5,o 6,o 7,o 8,o 9,.agg #[.int .i64 x,.int .i64 y,.int .i64 z,.int .i64 p,.int .i64 q,.int .i64 r],o 11,o 12,o 13,o 14,o 15,o 16,o 17,o 18,o 19,o 20,o 21,o 22,o 23,o 24,o 25,o 26,o 27,o 28,o 29,o 30,o 31,o 32,o 33,o 34,o 35,o 36,o 37,o 38,o 39,o 40,o 41,o 42,o 43], []⟩ W
    refine wpOp_step rfl (fun K' hK => ?_)
    go_simp
    refine (hvb _).mono ?_
    rintro e W1 ⟨rfl, hb1⟩
    exact hK _ _ ⟨rfl, hj.over hb1⟩
  · intro o W _
    show wpOp _ _ _ 12 _ ⟨#[_,_,_,_,o 44,_,_,_,_,_,_,_,_,_,_,_,_,_,_,_,_,_,_,_,_,_,_,_,_,_,_,_,_,_,_,_,_,_,_,_,_,_,_,_,_,_,_,_,_,_,_,_,_,_,o 0,o 1,.bool true,o 3,o 4,o 5,o 6,o 7,o 8,.int .i64 (V1 + V2),o 10,.int .i64 VB,o 12,o 13,o 14,o 15,o 16,o 17,o 18,o 19,o 20,o 21,o 22,o 23,o 24,o 25,o 26,o 27,o 28,o 29,o 30,o 31,o 32,o 33,o 34,o 35,o 36,o 37,o 38,o 39,o 40,o 41,o 42,o 43], []⟩ W
    refine wpOp_step rfl (fun K' hK => ?_)
    go_simp
    exact hK _ _ ⟨rfl, rfl⟩
  · intro o W _
    show wpOp _ _ _ 13 _ ⟨#[_,_,_,_,o 44,_,_,_,_,_,_,_,_,_,_,_,_,_,_,_,_,_,_,_,_,_,_,_,_,_,_,_,_,_,_,_,_,_,_,_,_,_,_,_,_,_,_,_,_,_,_,_,_,_,o 0,o 1,.bool true,o 3,o 4,o 5,o 6,o 7,o 8,o 9,o 10,o 11,.bool true,o 13,o 14,o 15,o 16,o 17,o 18,o 19,o 20,o 21,o 22,o 23,o 24,o 25,o 26,o 27,o 28,o 29,o 30,o 31,o 32,o 33,o 34,o 35,o 36,o 37,o 38,o 39,o 40,o 41,o 42,o 43], []⟩ W
    refine wpOp_step rfl (fun K' hK => ?_)
    go_simp
    exact hK _ _ ⟨rfl, rfl⟩
  · intro o W _
    show wpOp _ _ _ 14 _ ⟨#[_,_,_,_,o 44,_,_,_,_,_,_,_,_,_,_,_,_,_,_,_,_,_,_,_,_,_,_,_,_,_,_,_,_,_,_,_,_,_,_,_,_,_,_,_,_,_,_,_,_,_,_,_,_,_,o 0,o 1,o 2,o 3,o 4,o 5,o 6,o 7,o 8,o 9,o 10,o 11,o 12,.bool true,o 14,o 15,o 16,o 17,o 18,o 19,o 20,o 21,o 22,o 23,o 24,o 25,o 26,o 27,o 28,o 29,o 30,o 31,o 32,o 33,o 34,o 35,o 36,o 37,o 38,o 39,o 40,o 41,o 42,o 43], []⟩ W
    refine wpOp_step rfl (fun K' hK => ?_)
    go_simp
    exact hK _ _ ⟨rfl, rfl⟩
  · intro o W hj
    have hj : KL _ _ W := hj
    obtain ⟨cL, c0, c1, c2, c3, c4, c5⟩ := bl6 (KL.blk hj (.tail _ (.tail _ (.tail _ (.head _)))))
    show wpOp _ _ _ 15 _ ⟨#[_,_,_,_,o 44,_,_,_,_,_,_,_,_,_,_,_,_,_,_,_,_,_,_,_,_,_,_,_,_,_,_,_,_,_,_,_,_,_,_,_,_,_,_,_,_,_,_,_,_,_,_,_,_,_,o 0,o 1,o 2,o 3,o 4,o 5,o 6,o 7,o 8,o 9,o 10,o 11,o 12,o 13,.bool true,o 15,o 16,o 17,o 18,o 19,o 20,o 21,o 22,o 23,o 24,o 25,o 26,o 27,o 28,o 29,o 30,o 31,o 32,o 33,o 34,o 35,o 36,o 37,o 38,o 39,o 40,o 41,o 42,o 43], []⟩ W
    refine wpOp_step rfl (fun K' hK => ?_)
    go_simp
    exact hK _ _ ⟨rfl, hj⟩
  · intro o W hj
    have hj : KL _ _ W := hj
    show wpOp _ _ _ 16 _ ⟨#[_,_,_,_,o 44,_,_,_,_,_,_,_,_,_,_,_,_,_,_,_,_,_,_,_,_,_,_,_,_,_,_,_,_,_,_,_,_,_,_,_,_,_,_,_,_,_,_,_,_,_,_,_,_,_,o 0,o 1,o 2,o 3,o 4,o 5,o 6,o 7,o 8,o 9,o 10,o 11,o 12,o 13,.bool true,.agg #[.int .i64 0,.int .i64 0,.int .i64 0,.int .i64 0,.int .i64 0,.int .i64 0],o 16,o 17,o 18,o 19,o 20,o 21,o 22,o 23,o 24,o 25,o 26,o 27,o 28,o 29,o 30,o 31,o 32,o 33,o 34,o 35,o 36,o 37,o 38,o 39,o 40,o 41,o 42,o 43], []⟩ W
    refine wpOp_step rfl (fun K' hK => ?_)
    go_simp
    refine (hvm _).mono ?_
    rintro e W1 ⟨rfl, hb1⟩
    exact hK _ _ ⟨rfl, hj.over hb1⟩
  · intro o W _
    show wpOp _ _ _ 17 _ ⟨#[_,_,_,_,o 44,_,_,_,_,_,_,_,_,_,_,_,_,_,_,_,_,_,_,_,_,_,_,_,_,_,_,_,_,_,_,_,_,_,_,_,_,_,_,_,_,_,_,_,_,_,_,_,_,_,o 0,o 1,o 2,o 3,o 4,o 5,o 6,o 7,o 8,o 9,o 10,o 11,o 12,o 13,.bool true,o 15,o 16,o 17,o 18,o 19,o 20,o 21,o 22,o 23,o 24,o 25,o 26,o 27,o 28,o 29,o 30,o 31,o 32,o 33,o 34,o 35,o 36,o 37,o 38,o 39,o 40,o 41,o 42,o 43], []⟩ W
    refine wpOp_step rfl (fun K' hK => ?_)
    go_simp
    exact hK _ _ ⟨rfl, rfl⟩
  · intro o W _
    show wpOp _ _ _ 18 _ ⟨#[_,_,_,_,o 44,_,_,_,_,_,_,_,_,_,_,_,_,_,_,_,_,_,_,_,_,_,_,_,_,_,_,_,_,_,_,_,_,_,_,_,_,_,_,_,_,_,_,_,_,_,_,_,_,_,o 0,o 1,o 2,o 3,o 4,o 5,o 6,o 7,o 8,o 9,o 10,o 11,o 12,o 13,.bool true,o 15,.int .i64 0,.int .i64 0,o 18,o 19,o 20,o 21,o 22,o 23,o 24,o 25,o 26,o 27,o 28,o 29,o 30,o 31,o 32,o 33,o 34,o 35,o 36,o 37,o 38,o 39,o 40,o 41,o 42,o 43], []⟩ W
    refine wpOp_step rfl (fun K' hK => ?_)
    go_simp
    exact hK _ _ ⟨rfl, rfl⟩
  · intro o W _
    show wpOp _ _ _ 19 _ ⟨#[_,_,_,_,o 44,_,_,_,_,_,_,_,_,_,_,_,_,_,_,_,_,_,_,_,_,_,_,_,_,_,_,_,_,_,_,_,_,_,_,_,_,_,_,_,_,_,_,_,_,_,_,_,_,_,o 0,o 1,o 2,o 3,o 4,o 5,o 6,o 7,o 8,o 9,o 10,o 11,o 12,o 13,.bool true,o 15,o 16,o 17,.bool true,o 19,o 20,o 21,o 22,o 23,o 24,o 25,o 26,o 27,o 28,o 29,o 30,o 31,o 32,o 33,o 34,o 35,o 36,o 37,o 38,o 39,o 40,o 41,o 42,o 43], []⟩ W
    refine wpOp_step rfl (fun K' hK => ?_)
    go_simp
    exact hK _ _ ⟨rfl, rfl⟩
  · intro o W _
    show wpOp _ _ _ 20 _ ⟨#[_,_,_,_,o 44,_,_,_,_,_,_,_,_,_,_,_,_,_,_,_,_,_,_,_,_,_,_,_,_,_,_,_,_,_,_,_,_,_,_,_,_,_,_,_,_,_,_,_,_,_,_,_,_,_,o 0,o 1,o 2,o 3,o 4,o 5,o 6,o 7,o 8,o 9,o 10,o 11,o 12,o 13,o 14,o 15,o 16,o 17,o 18,.bool true,o 20,o 21,o 22,o 23,o 24,o 25,o 26,o 27,o 28,o 29,o 30,o 31,o 32,o 33,o 34,o 35,o 36,o 37,o 38,o 39,o 40,o 41,o 42,o 43], []⟩ W
    refine wpOp_step rfl (fun K' hK => ?_)
    go_simp
    exact hK _ _ ⟨rfl, rfl⟩
  · intro o W hj
    have hj : KL _ _ W := hj
    obtain ⟨cL, c0, c1, c2, c3, c4, c5⟩ := bl6 (KL.blk hj (.tail _ (.tail _ (.tail _ (.tail _ (.head _))))))
    show wpOp _ _ _ 21 _ ⟨#[_,_,_,_,o 44,_,_,_,_,_,_,_,_,_,_,_,_,_,_,_,_,_,_,_,_,_,_,_,_,_,_,_,_,_,_,_,_,_,_,_,_,_,_,_,_,_,_,_,_,_,_,_,_,_,o 0,o 1,o 2,o 3,o 4,o 5,o 6,o 7,o 8,o 9,o 10,o 11,o 12,o 13,o 14,o 15,o 16,o 17,o 18,o 19,.bool true,o 21,o 22,o 23,o 24,o 25,o 26,o 27,o 28,o 29,o 30,o 31,o 32,o 33,o 34,o 35,o 36,o 37,o 38,o 39,o 40,o 41,o 42,o 43], []⟩ W
    refine wpOp_step rfl (fun K' hK => ?_)
    go_simp
    exact hK _ _ ⟨rfl, hj⟩
  · intro o W hj
    have hj : KL _ _ W := hj
    show wpOp _ _ _ 22 _ ⟨#[_,_,_,_,o 44,_,_,_,_,_,_,_,_,_,_,_,_,_,_,_,_,_,_,_,_,_,_,_,_,_,_,_,_,_,_,_,_,_,_,_,_,_,_,_,_,_,_,_,_,_,_,_,_,_,o 0,o 1,o 2,o 3,o 4,o 5,o 6,o 7,o 8,o 9,o 10,o 11,o 12,o 13,o 14,o 15,o 16,o 17,o 18,o 19,.bool true,.agg #[.int .i64 x,.int .i64 y,.int .i64 z,.int .i64 t,.int .i64 q,.int .i64 r],o 22,o 23,o 24,o 25,o 26,o 27,o 28,o 29,o 30,o 31,o 32,o 33,o 34,o 35,o 36,o 37,o 38,o 39,o 40,o 41,o 42,o 43], []⟩ W
    refine wpOp_step rfl (fun K' hK => ?_)
    go_simp
    refine (hv1 _).mono ?_
    rintro e W1 ⟨rfl, hb1⟩
    exact hK _ _ ⟨rfl, hj.over hb1⟩
  · intro o W _
    show wpOp _ _ _ 23 _ ⟨#[_,_,_,_,o 44,_,_,_,_,_,_,_,_,_,_,_,_,_,_,_,_,_,_,_,_,_,_,_,_,_,_,_,_,_,_,_,_,_,_,_,_,_,_,_,_,_,_,_,_,_,_,_,_,_,o 0,o 1,o 2,o 3,o 4,o 5,o 6,o 7,o 8,o 9,o 10,o 11,o 12,o 13,o 14,o 15,o 16,o 17,o 18,o 19,.bool true,o 21,.int .i64 V1,o 23,o 24,o 25,o 26,o 27,o 28,o 29,o 30,o 31,o 32,o 33,o 34,o 35,o 36,o 37,o 38,o 39,o 40,o 41,o 42,o 43], []⟩ W
    refine wpOp_step rfl (fun K' hK => ?_)
    go_simp
    exact hK _ _ ⟨rfl, rfl⟩
  · intro o W _
    show wpOp _ _ _ 24 _ ⟨#[_,_,_,_,o 44,_,_,_,_,_,_,_,_,_,_,_,_,_,_,_,_,_,_,_,_,_,_,_,_,_,_,_,_,_,_,_,_,_,_,_,_,_,_,_,_,_,_,_,_,_,_,_,_,_,o 0,o 1,o 2,o 3,o 4,o 5,o 6,o 7,o 8,o 9,o 10,o 11,o 12,o 13,o 14,o 15,o 16,o 17,o 18,o 19,.bool true,o 21,o 22,.bool true,o 24,o 25,o 26,o 27,o 28,o 29,o 30,o 31,o 32,o 33,o 34,o 35,o 36,o 37,o 38,o 39,o 40,o 41,o 42,o 43], []⟩ W
    refine wpOp_step rfl (fun K' hK => ?_)
    go_simp
    exact hK _ _ ⟨rfl, rfl⟩
  · intro o W _
    show wpOp _ _ _ 25 _ ⟨#[_,_,_,_,o 44,_,_,_,_,_,_,_,_,_,_,_,_,_,_,_,_,_,_,_,_,_,_,_,_,_,_,_,_,_,_,_,_,_,_,_,_,_,_,_,_,_,_,_,_,_,_,_,_,_,o 0,o 1,o 2,o 3,o 4,o 5,o 6,o 7,o 8,o 9,o 10,o 11,o 12,o 13,o 14,o 15,o 16,o 17,o 18,o 19,o 20,o 21,o 22,o 23,.bool true,o 25,o 26,o 27,o 28,o 29,o 30,o 31,o 32,o 33,o 34,o 35,o 36,o 37,o 38,o 39,o 40,o 41,o 42,o 43], []⟩ W
    refine wpOp_step rfl (fun K' hK => ?_)
    go_simp
    exact hK _ _ ⟨rfl, rfl⟩
  · intro o W hj
    have hj : KL _ _ W := hj
    obtain ⟨cL, c0, c1, c2, c3, c4, c5⟩ := bl6 (KL.blk hj (.tail _ (.tail _ (.head _))))
    show wpOp _ _ _ 26 _ ⟨#[_,_,_,_,o 44,_,_,_,_,_,_,_,_,_,_,_,_,_,_,_,_,_,_,_,_,_,_,_,_,_,_,_,_,_,_,_,_,_,_,_,_,_,_,_,_,_,_,_,_,_,_,_,_,_,o 0,o 1,o 2,o 3,o 4,o 5,o 6,o 7,o 8,o 9,o 10,o 11,o 12,o 13,o 14,o 15,o 16,o 17,o 18,o 19,o 20,o 21,o 22,o 23,o 24,.bool true,o 26,o 27,o 28,o 29,o 30,o 31,o 32,o 33,o 34,o 35,o 36,o 37,o 38,o 39,o 40,o 41,o 42,o 43], []⟩ W
    refine wpOp_step rfl (fun K' hK => ?_)
    go_simp
    exact hK _ _ ⟨rfl, hj⟩
  · intro o W hj
    have hj : KL _ _ W := hj
    show wpOp _ _ _ 27 _ ⟨#[_,_,_,_,o 44,_,_,_,_,_,_,_,_,_,_,_,_,_,_,_,_,_,_,_,_,_,_,_,_,_,_,_,_,_,_,_,_,_,_,_,_,_,_,_,_,_,_,_,_,_,_,_,_,_,o 0,o 1,o 2,o 3,o 4,o 5,o 6,o 7,o 8,o 9,o 10,o 11,o 12,o 13,o 14,o 15,o 16,o 17,o 18,o 19,o 20,o 21,o 22,o 23,o 24,.bool true,.agg #[.int .i64 (t + k),.int .i64 y,.int .i64 z,.int .i64 p,.int .i64 q,.int .i64 r],o 27,o 28,o 29,o 30,o 31,o 32,o 33,o 34,o 35,o 36,o 37,o 38,o 39,o 40,o 41,o 42,o 43], []⟩ W
    refine wpOp_step rfl (fun K' hK => ?_)
    go_simp
    refine (hv2 _).mono ?_
    rintro e W1 ⟨rfl, hb1⟩
    exact hK _ _ ⟨rfl, hj.over hb1⟩
  · intro o W _
    show wpOp _ _ _ 28 _ ⟨#[_,_,_,_,o 44,_,_,_,_,_,_,_,_,_,_,_,_,_,_,_,_,_,_,_,_,_,_,_,_,_,_,_,_,_,_,_,_,_,_,_,_,_,_,_,_,_,_,_,_,_,_,_,_,_,o 0,o 1,o 2,o 3,o 4,o 5,o 6,o 7,o 8,o 9,o 10,o 11,o 12,o 13,o 14,o 15,o 16,o 17,o 18,o 19,o 20,o 21,o 22,o 23,o 24,.bool true,o 26,.int .i64 V2,o 28,o 29,o 30,o 31,o 32,o 33,o 34,o 35,o 36,o 37,o 38,o 39,o 40,o 41,o 42,o 43], []⟩ W
    refine wpOp_step rfl (fun K' hK => ?_)
    go_simp
    exact hK _ _ ⟨rfl, rfl⟩
  · intro o W _
    show wpOp _ _ _ 29 _ ⟨#[_,_,_,_,o 44,_,_,_,_,_,_,_,_,_,_,_,_,_,_,_,_,_,_,_,_,_,_,_,_,_,_,_,_,_,_,_,_,_,_,_,_,_,_,_,_,_,_,_,_,_,_,_,_,_,o 0,o 1,o 2,o 3,o 4,o 5,o 6,o 7,o 8,o 9,o 10,o 11,o 12,o 13,o 14,o 15,o 16,o 17,o 18,o 19,o 20,o 21,o 22,o 23,o 24,.bool true,o 26,o 27,.bool true,o 29,o 30,o 31,o 32,o 33,o 34,o 35,o 36,o 37,o 38,o 39,o 40,o 41,o 42,o 43], []⟩ W
    refine wpOp_step rfl (fun K' hK => ?_)
    go_simp
    exact hK _ _ ⟨rfl, rfl⟩
  · intro o W _
    show wpOp _ _ _ 30 _ ⟨#[_,_,_,_,o 44,_,_,_,_,_,_,_,_,_,_,_,_,_,_,_,_,_,_,_,_,_,_,_,_,_,_,_,_,_,_,_,_,_,_,_,_,_,_,_,_,_,_,_,_,_,_,_,_,_,o 0,o 1,o 2,o 3,o 4,o 5,o 6,o 7,o 8,o 9,o 10,o 11,o 12,o 13,o 14,o 15,o 16,o 17,o 18,o 19,o 20,o 21,o 22,o 23,o 24,o 25,o 26,o 27,o 28,.bool true,o 30,o 31,o 32,o 33,o 34,o 35,o 36,o 37,o 38,o 39,o 40,o 41,o 42,o 43], []⟩ W
    refine wpOp_step rfl (fun K' hK => ?_)
    go_simp
    exact hK _ _ ⟨rfl, rfl⟩
  · intro o W _
    show wpOp _ _ _ 31 _ ⟨#[_,_,_,_,o 44,_,_,_,_,_,_,_,_,_,_,_,_,_,_,_,_,_,_,_,_,_,_,_,_,_,_,_,_,_,_,_,_,_,_,_,_,_,_,_,_,_,_,_,_,_,_,_,_,_,o 0,o 1,o 2,o 3,o 4,o 5,o 6,o 7,o 8,o 9,o 10,o 11,o 12,o 13,o 14,o 15,o 16,o 17,o 18,o 19,o 20,o 21,o 22,o 23,o 24,o 25,o 26,o 27,o 28,o 29,.bool true,o 31,o 32,o 33,o 34,o 35,o 36,o 37,o 38,o 39,o 40,o 41,o 42,o 43], []⟩ W
    refine wpOp_step rfl (fun K' hK => ?_)
    go_simp
    exact hK _ _ ⟨rfl, rfl⟩
  · intro o W _
    show wpOp _ _ _ 32 _ ⟨#[_,_,_,_,o 44,_,_,_,_,_,_,_,_,_,_,_,_,_,_,_,_,_,_,_,_,_,_,_,_,_,_,_,_,_,_,_,_,_,_,_,_,_,_,_,_,_,_,_,_,_,_,_,_,_,o 0,o 1,o 2,o 3,o 4,o 5,o 6,o 7,o 8,o 9,o 10,o 11,o 12,o 13,o 14,o 15,o 16,o 17,o 18,o 19,o 20,o 21,o 22,o 23,o 24,o 25,o 26,o 27,o 28,o 29,.bool true,.int .i64 0,o 32,o 33,o 34,o 35,o 36,o 37,o 38,o 39,o 40,o 41,o 42,o 43], []⟩ W
    refine wpOp_step rfl (fun K' hK => ?_)
    go_simp
    exact hK _ _ ⟨rfl, rfl⟩
  · intro o W _
    show wpOp _ _ _ 33 _ ⟨#[_,_,_,_,o 44,_,_,_,_,_,_,_,_,_,_,_,_,_,_,_,_,_,_,_,_,_,_,_,_,_,_,_,_,_,_,_,_,_,_,_,_,_,_,_,_,_,_,_,_,_,_,_,_,_,o 0,o 1,o 2,o 3,o 4,o 5,o 6,o 7,o 8,o 9,o 10,o 11,o 12,o 13,o 14,o 15,o 16,o 17,o 18,o 19,o 20,o 21,o 22,o 23,o 24,o 25,o 26,o 27,o 28,o 29,.bool true,o 31,.bool true,o 33,o 34,o 35,o 36,o 37,o 38,o 39,o 40,o 41,o 42,o 43], []⟩ W
    refine wpOp_step rfl (fun K' hK => ?_)
    go_simp
    exact hK _ _ ⟨rfl, rfl⟩
  · intro o W _
    show wpOp _ _ _ 34 _ ⟨#[_,_,_,_,o 44,_,_,_,_,_,_,_,_,_,_,_,_,_,_,_,_,_,_,_,_,_,_,_,_,_,_,_,_,_,_,_,_,_,_,_,_,_,_,_,_,_,_,_,_,_,_,_,_,_,o 0,o 1,o 2,o 3,o 4,o 5,o 6,o 7,o 8,o 9,o 10,o 11,o 12,o 13,o 14,o 15,o 16,o 17,o 18,o 19,o 20,o 21,o 22,o 23,o 24,o 25,o 26,o 27,o 28,o 29,o 30,o 31,o 32,.bool true,o 34,o 35,o 36,o 37,o 38,o 39,o 40,o 41,o 42,o 43], []⟩ W
    refine wpOp_step rfl (fun K' hK => ?_)
    go_simp
    exact hK _ _ ⟨rfl, rfl⟩
  · intro o W hj
    have hj : KL _ _ W := hj
    obtain ⟨cL, c0, c1, c2, c3, c4, c5⟩ := bl6 (KL.blk hj (.tail _ (.head _)))
    show wpOp _ _ _ 35 _ ⟨#[_,_,_,_,o 44,_,_,_,_,_,_,_,_,_,_,_,_,_,_,_,_,_,_,_,_,_,_,_,_,_,_,_,_,_,_,_,_,_,_,_,_,_,_,_,_,_,_,_,_,_,_,_,_,_,o 0,o 1,o 2,o 3,o 4,o 5,o 6,o 7,o 8,o 9,o 10,o 11,o 12,o 13,o 14,o 15,o 16,o 17,o 18,o 19,o 20,o 21,o 22,o 23,o 24,o 25,o 26,o 27,o 28,o 29,o 30,o 31,o 32,o 33,.bool true,o 35,o 36,o 37,o 38,o 39,o 40,o 41,o 42,o 43], []⟩ W
    refine wpOp_step rfl (fun K' hK => ?_)
    go_simp
    exact hK _ _ ⟨rfl, hj⟩
  · intro o W hj
    have hj : KL _ _ W := hj
    obtain ⟨cL, c0, c1, c2, c3, c4, c5⟩ := bl6 (KL.blk hj (.tail _ (.tail _ (.tail _ (.tail _ (.tail _ (.tail _ (.head _))))))))
    show wpOp _ _ _ 36 _ ⟨#[_,_,_,_,o 44,_,_,_,_,_,_,_,_,_,_,_,_,_,_,_,_,_,_,_,_,_,_,_,_,_,_,_,_,_,_,_,_,_,_,_,_,_,_,_,_,_,_,_,_,_,_,_,_,_,o 0,o 1,o 2,o 3,o 4,o 5,o 6,o 7,o 8,o 9,o 10,o 11,o 12,o 13,o 14,o 15,o 16,o 17,o 18,o 19,o 20,o 21,o 22,o 23,o 24,o 25,o 26,o 27,o 28,o 29,o 30,o 31,o 32,o 33,.bool true,o 35,o 36,o 37,o 38,o 39,o 40,o 41,o 42,o 43], []⟩ W
    refine wpOp_step rfl (fun K' hK => ?_)
    go_simp
    exact hK _ _ ⟨rfl, hj⟩
  · intro o W _
    show wpOp _ _ _ 37 _ ⟨#[_,_,_,_,o 44,_,_,_,_,_,_,_,_,_,_,_,_,_,_,_,_,_,_,_,_,_,_,_,_,_,_,_,_,_,_,_,_,_,_,_,_,_,_,_,_,_,_,_,_,_,_,_,_,_,o 0,o 1,o 2,o 3,o 4,o 5,o 6,o 7,o 8,o 9,o 10,o 11,o 12,o 13,o 14,o 15,o 16,o 17,o 18,o 19,o 20,o 21,o 22,o 23,o 24,o 25,o 26,o 27,o 28,o 29,o 30,o 31,o 32,o 33,.bool true,.agg #[.int .i64 x,.int .i64 y,.int .i64 z,.int .i64 p,.int .i64 q,.int .i64 r],.agg #[.int .i64 x,.int .i64 y,.int .i64 z,.int .i64 p,.int .i64 q,.int .i64 r],o 37,o 38,o 39,o 40,o 41,o 42,o 43], []⟩ W
    refine wpOp_step rfl (fun K' hK => ?_)
    go_simp
    exact hK _ _ ⟨rfl, rfl⟩
  · intro o W _
    show wpOp _ _ _ 38 _ ⟨#[_,_,_,_,o 44,_,_,_,_,_,_,_,_,_,_,_,_,_,_,_,_,_,_,_,_,_,_,_,_,_,_,_,_,_,_,_,_,_,_,_,_,_,_,_,_,_,_,_,_,_,_,_,_,_,o 0,o 1,o 2,o 3,o 4,o 5,o 6,o 7,o 8,o 9,o 10,o 11,o 12,o 13,o 14,o 15,o 16,o 17,o 18,o 19,o 20,o 21,o 22,o 23,o 24,o 25,o 26,o 27,o 28,o 29,o 30,o 31,o 32,o 33,.bool true,o 35,o 36,.bool true,o 38,o 39,o 40,o 41,o 42,o 43], []⟩ W
    refine wpOp_step rfl (fun K' hK => ?_)
    go_simp
    exact hK _ _ ⟨rfl, rfl⟩
  · intro o W _
    show wpOp _ _ _ 39 _ ⟨#[_,_,_,_,o 44,_,_,_,_,_,_,_,_,_,_,_,_,_,_,_,_,_,_,_,_,_,_,_,_,_,_,_,_,_,_,_,_,_,_,_,_,_,_,_,_,_,_,_,_,_,_,_,_,_,o 0,o 1,o 2,o 3,o 4,o 5,o 6,o 7,o 8,o 9,o 10,o 11,o 12,o 13,o 14,o 15,o 16,o 17,o 18,o 19,o 20,o 21,o 22,o 23,o 24,o 25,o 26,o 27,o 28,o 29,o 30,o 31,o 32,o 33,o 34,o 35,o 36,o 37,.bool true,o 39,o 40,o 41,o 42,o 43], []⟩ W
    refine wpOp_step rfl (fun K' hK => ?_)
    go_simp
    exact hK _ _ ⟨rfl, rfl⟩
  · intro o W hj
    have hj : KL _ _ W := hj
    obtain ⟨cL, c0, c1, c2⟩ := bl3 (KL.blk hj (.head _))
    show wpOp _ _ _ 40 _ ⟨#[_,_,_,_,o 44,_,_,_,_,_,_,_,_,_,_,_,_,_,_,_,_,_,_,_,_,_,_,_,_,_,_,_,_,_,_,_,_,_,_,_,_,_,_,_,_,_,_,_,_,_,_,_,_,_,o 0,o 1,o 2,o 3,o 4,o 5,o 6,o 7,o 8,o 9,o 10,o 11,o 12,o 13,o 14,o 15,o 16,o 17,o 18,o 19,o 20,o 21,o 22,o 23,o 24,o 25,o 26,o 27,o 28,o 29,o 30,o 31,o 32,o 33,o 34,o 35,o 36,o 37,o 38,.bool true,o 40,o 41,o 42,o 43], []⟩ W
    refine wpOp_step rfl (fun K' hK => ?_)
    go_simp
    exact hK _ _ ⟨rfl, hj⟩
  · intro o W hj
    have hj : KL _ _ W := hj
    obtain ⟨cL, c0, c1, c2⟩ := bl3 (KL.blk hj (.tail _ (.tail _ (.tail _ (.tail _ (.tail _ (.head _)))))))
    show wpOp _ _ _ 41 _ ⟨#[_,_,_,_,o 44,_,_,_,_,_,_,_,_,_,_,_,_,_,_,_,_,_,_,_,_,_,_,_,_,_,_,_,_,_,_,_,_,_,_,_,_,_,_,_,_,_,_,_,_,_,_,_,_,_,o 0,o 1,o 2,o 3,o 4,o 5,o 6,o 7,o 8,o 9,o 10,o 11,o 12,o 13,o 14,o 15,o 16,o 17,o 18,o 19,o 20,o 21,o 22,o 23,o 24,o 25,o 26,o 27,o 28,o 29,o 30,o 31,o 32,o 33,o 34,o 35,o 36,o 37,o 38,.bool true,o 40,o 41,o 42,o 43], []⟩ W
    refine wpOp_step rfl (fun K' hK => ?_)
    go_simp
    exact hK _ _ ⟨rfl, hj⟩
  · intro o W _
    show wpOp _ _ _ 42 _ ⟨#[_,_,_,_,o 44,_,_,_,_,_,_,_,_,_,_,_,_,_,_,_,_,_,_,_,_,_,_,_,_,_,_,_,_,_,_,_,_,_,_,_,_,_,_,_,_,_,_,_,_,_,_,_,_,_,o 0,o 1,o 2,o 3,o 4,o 5,o 6,o 7,o 8,o 9,o 10,o 11,o 12,o 13,o 14,o 15,o 16,o 17,o 18,o 19,o 20,o 21,o 22,o 23,o 24,o 25,o 26,o 27,o 28,o 29,o 30,o 31,o 32,o 33,o 34,o 35,o 36,o 37,o 38,.bool true,.agg #[.int .i64 0,.int .i64 t,.int .i64 (t + k - t)],.agg #[.int .i64 0,.int .i64 t,.int .i64 k],o 42,o 43], []⟩ W
    refine wpOp_step rfl (fun K' hK => ?_)
    go_simp
    exact hK _ _ ⟨rfl, rfl⟩
  · intro o W _
    show wpOp _ _ _ 43 _ ⟨#[_,_,_,_,o 44,_,_,_,_,_,_,_,_,_,_,_,_,_,_,_,_,_,_,_,_,_,_,_,_,_,_,_,_,_,_,_,_,_,_,_,_,_,_,_,_,_,_,_,_,_,_,_,_,_,o 0,o 1,o 2,o 3,o 4,o 5,o 6,o 7,o 8,o 9,o 10,o 11,o 12,o 13,o 14,o 15,o 16,o 17,o 18,o 19,o 20,o 21,o 22,o 23,o 24,o 25,o 26,o 27,o 28,o 29,o 30,o 31,o 32,o 33,o 34,o 35,o 36,o 37,o 38,.bool true,o 40,o 41,.bool true,o 43], []⟩ W
    refine wpOp_step rfl (fun K' hK => ?_)
    go_simp
    exact hK _ _ ⟨rfl, rfl⟩
  · intro o W _
    show wpOp _ _ _ 44 _ ⟨#[_,_,_,_,o 44,_,_,_,_,_,_,_,_,_,_,_,_,_,_,_,_,_,_,_,_,_,_,_,_,_,_,_,_,_,_,_,_,_,_,_,_,_,_,_,_,_,_,_,_,_,_,_,_,_,o 0,o 1,o 2,o 3,o 4,o 5,o 6,o 7,o 8,o 9,o 10,o 11,o 12,o 13,o 14,o 15,o 16,o 17,o 18,o 19,o 20,o 21,o 22,o 23,o 24,o 25,o 26,o 27,o 28,o 29,o 30,o 31,o 32,o 33,o 34,o 35,o 36,o 37,o 38,o 39,o 40,o 41,o 42,.bool true], []⟩ W
    refine wpOp_step rfl (fun K' hK => ?_)
    go_simp
    exact hK _ _ ⟨rfl, rfl⟩
  · intro o hh_
    have e0 : o 0 = .int .i64 0 := hh_ 0 (by decide)
    have e1 : o 1 = .bool true := hh_ 1 (by decide)
    have e2 : o 2 = .bool true := hh_ 2 (by decide)
    have e3 : o 3 = .agg #[.int .i64 x,.int .i64 y,.int .i64 z,.int .i64 t,.int .i64 q,.int .i64 r] := hh_ 3 (by decide)
    have e4 : o 4 = .int .i64 V1 := hh_ 4 (by decide)
    have e5 : o 5 = .int .i64 0 := hh_ 5 (by decide)
    have e6 : o 6 = .int .i64 V1 := hh_ 6 (by decide)
    have e7 : o 7 = .agg #[.int .i64 (t + k),.int .i64 y,.int .i64 z,.int .i64 p,.int .i64 q,.int .i64 r] := hh_ 7 (by decide)
    have e8 : o 8 = .int .i64 V2 := hh_ 8 (by decide)
    have e9 : o 9 = .int .i64 (V1 + V2) := hh_ 9 (by decide)
    have e10 : o 10 = .agg #[.int .i64 x,.int .i64 y,.int .i64 z,.int .i64 p,.int .i64 q,.int .i64 r] := hh_ 10 (by decide)
    have e11 : o 11 = .int .i64 VB := hh_ 11 (by decide)
    have e12 : o 12 = .bool true := hh_ 12 (by decide)
    have e13 : o 13 = .bool true := hh_ 13 (by decide)
    have e14 : o 14 = .bool true := hh_ 14 (by decide)
    have e15 : o 15 = .agg #[.int .i64 0,.int .i64 0,.int .i64 0,.int .i64 0,.int .i64 0,.int .i64 0] := hh_ 15 (by decide)
    have e16 : o 16 = .int .i64 0 := hh_ 16 (by decide)
    have e17 : o 17 = .int .i64 0 := hh_ 17 (by decide)
    have e18 : o 18 = .bool true := hh_ 18 (by decide)
    have e19 : o 19 = .bool true := hh_ 19 (by decide)
    have e20 : o 20 = .bool true := hh_ 20 (by decide)
    have e21 : o 21 = .agg #[.int .i64 x,.int .i64 y,.int .i64 z,.int .i64 t,.int .i64 q,.int .i64 r] := hh_ 21 (by decide)
    have e22 : o 22 = .int .i64 V1 := hh_ 22 (by decide)
    have e23 : o 23 = .bool true := hh_ 23 (by decide)
    have e24 : o 24 = .bool true := hh_ 24 (by decide)
    have e25 : o 25 = .bool true := hh_ 25 (by decide)
    have e26 : o 26 = .agg #[.int .i64 (t + k),.int .i64 y,.int .i64 z,.int .i64 p,.int .i64 q,.int .i64 r] := hh_ 26 (by decide)
    have e27 : o 27 = .int .i64 V2 := hh_ 27 (by decide)
    have e28 : o 28 = .bool true := hh_ 28 (by decide)
    have e29 : o 29 = .bool true := hh_ 29 (by decide)
    have e30 : o 30 = .bool true := hh_ 30 (by decide)
    have e31 : o 31 = .int .i64 0 := hh_ 31 (by decide)
    have e32 : o 32 = .bool true := hh_ 32 (by decide)
    have e33 : o 33 = .bool true := hh_ 33 (by decide)
    have e34 : o 34 = .bool true := hh_ 34 (by decide)
    have e35 : o 35 = .agg #[.int .i64 x,.int .i64 y,.int .i64 z,.int .i64 p,.int .i64 q,.int .i64 r] := hh_ 35 (by decide)
    have e36 : o 36 = .agg #[.int .i64 x,.int .i64 y,.int .i64 z,.int .i64 p,.int .i64 q,.int .i64 r] := hh_ 36 (by decide)
    have e37 : o 37 = .bool true := hh_ 37 (by decide)
    have e38 : o 38 = .bool true := hh_ 38 (by decide)
    have e39 : o 39 = .bool true := hh_ 39 (by decide)
    have e40 : o 40 = .agg #[.int .i64 0,.int .i64 t,.int .i64 (t + k - t)] := hh_ 40 (by decide)
    have e41 : o 41 = .agg #[.int .i64 0,.int .i64 t,.int .i64 k] := hh_ 41 (by decide)
    have e42 : o 42 = .bool true := hh_ 42 (by decide)
    have e43 : o 43 = .bool true := hh_ 43 (by decide)
    have e44 : o 44 = .bool true := hh_ 44 (by decide)
    rw [e0, e1, e2, e3, e4, e5, e6, e7, e8, e9, e10, e11, e12, e13, e14, e15, e16, e17, e18, e19, e20, e21, e22, e23, e24, e25, e26, e27, e28, e29, e30, e31, e32, e33, e34, e35, e36, e37, e38, e39, e40, e41, e42, e43, e44]
  · intro W hj
    have hj : KL _ _ W := hj
    obtain ⟨cL0, c0_0, c0_1, c0_2⟩ := bl3 (KL.blk hj (.head _))
    obtain ⟨cL1, c1_0, c1_1, c1_2, c1_3, c1_4, c1_5⟩ := bl6 (KL.blk hj (.tail _ (.head _)))
    obtain ⟨cL2, c2_0, c2_1, c2_2, c2_3, c2_4, c2_5⟩ := bl6 (KL.blk hj (.tail _ (.tail _ (.head _))))
    obtain ⟨cL3, c3_0, c3_1, c3_2, c3_3, c3_4, c3_5⟩ := bl6 (KL.blk hj (.tail _ (.tail _ (.tail _ (.head _)))))
    obtain ⟨cL4, c4_0, c4_1, c4_2, c4_3, c4_4, c4_5⟩ := bl6 (KL.blk hj (.tail _ (.tail _ (.tail _ (.tail _ (.head _))))))
    obtain ⟨cL5, c5_0, c5_1, c5_2⟩ := bl3 (KL.blk hj (.tail _ (.tail _ (.tail _ (.tail _ (.tail _ (.head _)))))))
    obtain ⟨cL6, c6_0, c6_1, c6_2, c6_3, c6_4, c6_5⟩ := bl6 (KL.blk hj (.tail _ (.tail _ (.tail _ (.tail _ (.tail _ (.tail _ (.head _))))))))
    have hjb := hj.1
    have hjz := hjb.size
    go_wp2
    go_ret
    exact ⟨rfl, hjb⟩
end Go.Proofs.Ytogmgaaejepcbaa
