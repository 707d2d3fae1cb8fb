/- The walk of the reference's Plan. No condition. -/
import Derived.Test.YtoenojnfhiimpaaRpm
import Derived.Test.YtoenojnfhiimpaaRcm
import Derived.Test.YtoenojnfhiimpaaPlc
namespace Go.Proofs.Ytoenojnfhiimpaa
open Go.RowKit

set_option maxHeartbeats 4000000 in
set_option maxRecDepth 100000 in
theorem rplan_l (a b c d p q H L wd l : Int) (w : World) (h : chkE a b c d p q = 0) (h2 : plnB H L wd l = true) :
    Calls Try.prog 21 #[.agg #[.int .i64 a, .int .i64 b, .int .i64 c, .int .i64 d, .int .i64 p, .int .i64 q], .int .i64 H, .int .i64 L, .int .i64 wd, .int .i64 l] w fun e w' => e = .returned (plnV a b c d p q H L wd l 64 1) ∧ Below w.heap.size w w' := by
  have hck := rcheck_any a b c d p q
  rw [h] at hck
  obtain ⟨c1, c2, c3, c4, c5, c6, c7, c8, c9⟩ := chkE_bd h
  obtain ⟨d1, d2, d3, d4, d5, d6, d7, d8⟩ := plnB_iff.1 h2
  have a1 : inB H 1 640000 = true := inB_iff.2 ⟨d1, d2⟩
  have a2 : inB L 1 640000 = true := inB_iff.2 ⟨d3, d4⟩
  have a3 : inB wd 1 10000 = true := inB_iff.2 ⟨d5, d6⟩
  have a4 : inB l 0 1000 = true := inB_iff.2 ⟨d7, d8⟩
  obtain ⟨R, hR⟩ : ∃ R, R = plnV a b c d p q H L wd l 64 1 := ⟨_, rfl⟩
  rw [← hR]
  have HC := Lib.hid h
  clear h h2
  have HR := Lib.hid hR; clear hR
  go_enter Try.func21, Try.ntmps21
  go_wp2_with (first | (go_at_call 13; refine (hck _).mono ?_; rintro e w1 ⟨rfl, hb1⟩; obtain ⟨hc1, hf1⟩ := bcell hb1; have hz1 := hb1.size; (try simp at hz1); (try have y10 : w.heap.size < w1.heap.size := by omega); (try have y11 : w.heap.size + 1 < w1.heap.size := by omega); (try have y12 : w.heap.size + 1 + 1 < w1.heap.size := by omega)) | (go_at_call 32; refine (rin_any _ _ _ _).mono ?_; rintro e w1 ⟨rfl, rfl⟩))
  have hK1 : KL [(w.heap.size, 25, #[.int .i64 a, .int .i64 b, .int .i64 c, .int .i64 d, .int .i64 p, .int .i64 q]), (w.heap.size + 1, 27, #[.int .i64 0, .int .i64 0, .int .i64 0, .int .i64 0, .int .i64 0, .int .i64 0])] w w1 := by
    refine KL.over (W := (w.alloc (.cells #[.int .i64 a, .int .i64 b, .int .i64 c, .int .i64 d, .int .i64 p, .int .i64 q] 25)).alloc (.cells #[.int .i64 0, .int .i64 0, .int .i64 0, .int .i64 0, .int .i64 0, .int .i64 0] 27)) ?_ hb1
    exact KL.part (((KL.nil w).new (g := w.heap.size) rfl 25 _).new (g := w.heap.size + 1) (by simp) 27 _) (fun p_ hp_ => by simp only [List.mem_cons, List.not_mem_nil, or_false] at hp_ ⊢; exact hp_.symm)
  clear hck hb1 hc1 hf1 a1 a2 a3 a4
  go_loopw [13] (fun i W => ∃ (k f : Nat), k + f = 65 ∧ 1 ≤ k ∧ i = .int .i64 k ∧ R = plnV a b c d p q H L wd l f k ∧ KL [(w.heap.size, 25, #[.int .i64 a, .int .i64 b, .int .i64 c, .int .i64 d, .int .i64 p, .int .i64 q]), (w.heap.size + 1, 27, #[.int .i64 0, .int .i64 0, .int .i64 0, .int .i64 0, .int .i64 0, .int .i64 0])] w W) (fun i _ => 65 - (intOf i).toNat)
  case atStart => exact ⟨1, 64, rfl, Nat.le_refl _, rfl, HR.out, hK1⟩
  case round =>
    clear hK1 HR
    obtain ⟨k, f, hkf, hk1, rfl, hR, hK⟩ := hrel
    have HR := Lib.hid hR; clear hR
    obtain ⟨y0, y1, y2, y3, y4, y5, y6⟩ := bl6 (KL.blk hK (.head _))
    obtain ⟨z0, z1, z2, z3, z4, z5, z6⟩ := bl6 (KL.blk hK (.tail _ (.head _)))
    have zF := (KL.blk hK (.tail _ (.head _))).frozen
    have hkz := hK.1.size
    rcases f with _ | f
    · obtain rfl : k = 65 := by omega
      have hRR : R = .tuple #[agF 0 0 0 0 0 0, .int .i64 9] := HR.out
      unfold agF at hRR
      subst hRR
      go_wp2
      have hzz : KL [(w.heap.size, 25, #[.int .i64 a, .int .i64 b, .int .i64 c, .int .i64 d, .int .i64 p, .int .i64 q]), (w.heap.size + 1, 27, #[.int .i64 0, .int .i64 0, .int .i64 0, .int .i64 0, .int .i64 0, .int .i64 0])] w _ := KL.up6 1 hK rfl (by omega) (fun q_ hq_ => by simp only [List.eraseIdx_cons_succ, List.eraseIdx_cons_zero, List.mem_cons, List.not_mem_nil, or_false] at hq_; subst hq_; simp)
      obtain ⟨x0, x1, x2, x3, x4, x5, x6⟩ := bl6 (KL.blk hzz (.tail _ (.head _)))
      exact bodyPost_ret (v := .tuple #[.agg #[.int .i64 0, .int .i64 0, .int .i64 0, .int .i64 0, .int .i64 0, .int .i64 0], .int .i64 9]) (by simp [results, Try.results21, go_sem, x1, x2, x3, x4, x5, x6]) rfl ⟨rfl, hzz.1⟩
    · have hle : (k : Int) ≤ 64 := by omega
      obtain ⟨u, hu⟩ : ∃ u, u = H / (k : Int) := ⟨_, rfl⟩
      obtain ⟨v, hv⟩ : ∃ v, v = H % (k : Int) := ⟨_, rfl⟩
      obtain ⟨q0, hq0⟩ : ∃ q0, q0 = L / (k : Int) := ⟨_, rfl⟩
      obtain ⟨g0, hg0⟩ : ∃ g0, g0 = (if d < q0 then d else q0) := ⟨_, rfl⟩
      have hu0 : 0 ≤ u := by rw [hu]; exact Int.ediv_nonneg (by omega) (by omega)
      have hu1 : u ≤ H := by rw [hu]; exact Int.ediv_le_self _ (by omega)
      have hq1 : 0 ≤ q0 := by rw [hq0]; exact Int.ediv_nonneg (by omega) (by omega)
      have hq2 : q0 ≤ L := by rw [hq0]; exact Int.ediv_le_self _ (by omega)
      have hv0 : 0 ≤ v := by rw [hv]; exact Int.emod_nonneg _ (by omega)
      have hv1 : v < (k : Int) := by rw [hv]; exact Int.emod_lt_of_pos _ (by omega)
      have hW : IntKind.i64.wrap (H.tdiv (k : Int)) = u := by rw [Int.tdiv_eq_ediv_of_nonneg (by omega), ← hu]; exact IntWalk.i64_in _ (by omega)
      have hWL : IntKind.i64.wrap (L.tdiv (k : Int)) = q0 := by rw [Int.tdiv_eq_ediv_of_nonneg (by omega), ← hq0]; exact IntWalk.i64_in _ (by omega)
      have hV' : H.tmod (k : Int) = v := by rw [Int.tmod_eq_emod_of_nonneg (by omega), ← hv]
      have hk0 : (k : Int) ≠ 0 := by omega
      have hk00 : k ≠ 0 := by omega
      have hk01 : ¬ k = 0 := by omega
      have hRR : R = if plOk a b c d p q k u v wd l L = true then .tuple #[agF k u v (plG d q k u v L) wd l, .int .i64 0] else plnV a b c d p q H L wd l f (k + 1) := by rw [hu, hv]; exact HR.out
      have hfo := fun g hg hn h => plOk_found (p := p) (q := q) (n := k) (r := u) (x := v) (wd := wd) (l := l) (L := L) (g := g) HC.out c6 hg hn h
      have hno := fun hn => plOk_none (p := p) (q := q) (n := k) (r := u) (x := v) (wd := wd) (l := l) (L := L) HC.out hn
      rw [← hq0, ← hg0] at hfo hno
      have hgd : g0 ≤ d := by rw [hg0]; split <;> omega
      have hgz : 0 ≤ g0 := by rw [hg0]; split <;> omega
      have HRR := Lib.hid hRR; have HFO := Lib.hid hfo; have HNO := Lib.hid hno
      have hG : (if d < q0 then d else q0) = g0 := hg0.symm
      clear hu hv hq0 hg0 HR hRR hfo hno
      go_wp2
      go_upto_region 9 with (fail)
      refine wp_region_any (by kernel_rfl) ?_
      try (change wpAny _ _ _ _ _ _ _ (World.drew _))
      refine wpAny_vals (fr := fun o => #[.agg #[.int .i64 a,.int .i64 b,.int .i64 c,.int .i64 d,.int .i64 p,.int .i64 q],.int .i64 H,.int .i64 L,.int .i64 wd,.int .i64 l,.pointer (some ⟨w.heap.size, 0, none⟩),undef,undef,undef,undef,.pointer (some ⟨(w.heap.size + 1), 0, none⟩),u11,.int .i64 0,.int .i64 (↑k),o 7,u15,.agg #[.int .i64 a,.int .i64 b,.int .i64 c,.int .i64 d,.int .i64 p,.int .i64 q],.int .i64 0,.int .i64 0,.bool false,undef,undef,.int .i64 H,.bool true,.bool false,.bool false,.int .i64 L,.bool true,.bool false,.bool false,.bool false,.int .i64 wd,.bool true,.bool false,.bool false,.bool false,.int .i64 l,.bool true,.bool false,.bool false,undef,.int .i64 (↑k),.bool true,u43,u44,o 0,o 1,o 2,o 3,o 4,o 5,o 6,u52,u53,u54,u55,u56,u57,u58,u59,u60,u61,u62,u63,u64,u65,u66,u67,u68,u69,u70,u71,u72,u73,u74,u75,u76,u77,u78,u79,u80,u81,u82,u83,u84,u85,u86,u87,undef]) (vals := fun i_ => ([.int .i64 L,.int .i64 (↑k),.int .i64 q0,.pointer (some ⟨w.heap.size, 2, none⟩),.pointer (some ⟨w.heap.size, 3, none⟩),.int .i64 d,.int .i64 g0,.int .i64 g0] : List Value).getD i_ undef) (Kf := fun _ => True) (K := fun kk_ => ([(KL [(w.heap.size,25,#[.int .i64 a,.int .i64 b,.int .i64 c,.int .i64 d,.int .i64 p,.int .i64 q]),((w.heap.size + 1),27,#[.int .i64 0,.int .i64 0,.int .i64 0,.int .i64 0,.int .i64 0,.int .i64 0])] w)] : List (World → Prop)).getD kk_ (fun _ => True)) (dep := fun i_ => [[],[],[0,1],[],[3],[4],[2,5],[6]].getD i_ []) (dv := fun i_ => [[],[],[0,1],[],[3],[4],[2,5],[6]].getD i_ []) (kd := fun i_ => [0,0,0,0,0,1,0,0].getD i_ 0) (ss := []) (l := [0,1,2,3,4,5,6,7]) (f0 := fun i_ => ([u45,u46,u47,u48,u49,u50,u51,u14] : List Value).getD i_ undef) (A := ?A1) 8 ?_ ?_ ?_ ?_ ?_ ?_ ⟨?_, ?_, ?_, ?_, ?_, ?_, ?_, ?_, trivial⟩ ?_ ?_
      rotate_left
      · rfl
      · rfl
      · decide +kernel
      · decide +kernel
      · exact KL.drew hK
      · exact fun _ _ _ _ => trivial
      · intro o W _
        show wpOp _ _ _ 0 _ ⟨#[_,_,_,_,_,_,_,_,_,_,_,_,_,_,o 7,_,_,_,_,_,_,_,_,_,_,_,_,_,_,_,_,_,_,_,_,_,_,_,_,_,_,_,_,_,_,o 0,o 1,o 2,o 3,o 4,o 5,o 6,_,_,_,_,_,_,_,_,_,_,_,_,_,_,_,_,_,_,_,_,_,_,_,_,_,_,_,_,_,_,_,_,_,_,_,_,_], []⟩ W
        refine wpOp_step rfl (fun K' hK => ?_)
        go_simp
        exact hK _ _ ⟨rfl, rfl⟩
      · intro o W _
        show wpOp _ _ _ 1 _ ⟨#[_,_,_,_,_,_,_,_,_,_,_,_,_,_,o 7,_,_,_,_,_,_,_,_,_,_,_,_,_,_,_,_,_,_,_,_,_,_,_,_,_,_,_,_,_,_,o 0,o 1,o 2,o 3,o 4,o 5,o 6,_,_,_,_,_,_,_,_,_,_,_,_,_,_,_,_,_,_,_,_,_,_,_,_,_,_,_,_,_,_,_,_,_,_,_,_,_], []⟩ W
        refine wpOp_step rfl (fun K' hK => ?_)
        go_simp
        exact hK _ _ ⟨rfl, rfl⟩
      · intro o W _
        show wpOp _ _ _ 2 _ ⟨#[_,_,_,_,_,_,_,_,_,_,_,_,_,_,o 7,_,_,_,_,_,_,_,_,_,_,_,_,_,_,_,_,_,_,_,_,_,_,_,_,_,_,_,_,_,_,.int .i64 L,.int .i64 (↑k),o 2,o 3,o 4,o 5,o 6,_,_,_,_,_,_,_,_,_,_,_,_,_,_,_,_,_,_,_,_,_,_,_,_,_,_,_,_,_,_,_,_,_,_,_,_,_], []⟩ W
        refine wpOp_step rfl (fun K' hK => ?_)
        go_simp
        exact hK _ _ ⟨rfl, rfl⟩
      · intro o W _
        show wpOp _ _ _ 3 _ ⟨#[_,_,_,_,_,_,_,_,_,_,_,_,_,_,o 7,_,_,_,_,_,_,_,_,_,_,_,_,_,_,_,_,_,_,_,_,_,_,_,_,_,_,_,_,_,_,o 0,o 1,o 2,o 3,o 4,o 5,o 6,_,_,_,_,_,_,_,_,_,_,_,_,_,_,_,_,_,_,_,_,_,_,_,_,_,_,_,_,_,_,_,_,_,_,_,_,_], []⟩ W
        refine wpOp_step rfl (fun K' hK => ?_)
        go_simp
        exact hK _ _ ⟨rfl, rfl⟩
      · intro o W _
        show wpOp _ _ _ 4 _ ⟨#[_,_,_,_,_,_,_,_,_,_,_,_,_,_,o 7,_,_,_,_,_,_,_,_,_,_,_,_,_,_,_,_,_,_,_,_,_,_,_,_,_,_,_,_,_,_,o 0,o 1,o 2,.pointer (some ⟨w.heap.size, 2, none⟩),o 4,o 5,o 6,_,_,_,_,_,_,_,_,_,_,_,_,_,_,_,_,_,_,_,_,_,_,_,_,_,_,_,_,_,_,_,_,_,_,_,_,_], []⟩ W
        refine wpOp_step rfl (fun K' hK => ?_)
        go_simp
        exact hK _ _ ⟨rfl, rfl⟩
      · intro o W hj
        have hj : KL _ _ W := hj
        obtain ⟨cL, c0, c1, c2, c3, c4, c5⟩ := bl6 (KL.blk hj (.head _))
        show wpOp _ _ _ 5 _ ⟨#[_,_,_,_,_,_,_,_,_,_,_,_,_,_,o 7,_,_,_,_,_,_,_,_,_,_,_,_,_,_,_,_,_,_,_,_,_,_,_,_,_,_,_,_,_,_,o 0,o 1,o 2,o 3,.pointer (some ⟨w.heap.size, 3, none⟩),o 5,o 6,_,_,_,_,_,_,_,_,_,_,_,_,_,_,_,_,_,_,_,_,_,_,_,_,_,_,_,_,_,_,_,_,_,_,_,_,_], []⟩ W
        refine wpOp_step rfl (fun K' hK => ?_)
        go_simp
        exact hK _ _ ⟨rfl, hj⟩
      · intro o W _
        show wpOp _ _ _ 6 _ ⟨#[_,_,_,_,_,_,_,_,_,_,_,_,_,_,o 7,_,_,_,_,_,_,_,_,_,_,_,_,_,_,_,_,_,_,_,_,_,_,_,_,_,_,_,_,_,_,o 0,o 1,.int .i64 q0,o 3,o 4,.int .i64 d,o 6,_,_,_,_,_,_,_,_,_,_,_,_,_,_,_,_,_,_,_,_,_,_,_,_,_,_,_,_,_,_,_,_,_,_,_,_,_], []⟩ W
        refine wpOp_step rfl (fun K' hK => ?_)
        go_simp
        exact hK _ _ ⟨rfl, rfl⟩
      · intro o W _
        show wpOp _ _ _ 7 _ ⟨#[_,_,_,_,_,_,_,_,_,_,_,_,_,_,o 7,_,_,_,_,_,_,_,_,_,_,_,_,_,_,_,_,_,_,_,_,_,_,_,_,_,_,_,_,_,_,o 0,o 1,o 2,o 3,o 4,o 5,.int .i64 g0,_,_,_,_,_,_,_,_,_,_,_,_,_,_,_,_,_,_,_,_,_,_,_,_,_,_,_,_,_,_,_,_,_,_,_,_,_], []⟩ W
        refine wpOp_step rfl (fun K' hK => ?_)
        go_simp
        exact hK _ _ ⟨rfl, rfl⟩
      · intro o hh_
        have e0 : o 0 = .int .i64 L := hh_ 0 (by decide)
        have e1 : o 1 = .int .i64 (↑k) := hh_ 1 (by decide)
        have e2 : o 2 = .int .i64 q0 := hh_ 2 (by decide)
        have e3 : o 3 = .pointer (some ⟨w.heap.size, 2, none⟩) := hh_ 3 (by decide)
        have e4 : o 4 = .pointer (some ⟨w.heap.size, 3, none⟩) := hh_ 4 (by decide)
        have e5 : o 5 = .int .i64 d := hh_ 5 (by decide)
        have e6 : o 6 = .int .i64 g0 := hh_ 6 (by decide)
        have e7 : o 7 = .int .i64 g0 := hh_ 7 (by decide)
        rw [e0, e1, e2, e3, e4, e5, e6, e7]
      · intro WW hj
        have hj : KL _ _ WW := hj
        obtain ⟨cL0, c0_0, c0_1, c0_2, c0_3, c0_4, c0_5⟩ := bl6 (KL.blk hj (.head _))
        obtain ⟨cL1, c1_0, c1_1, c1_2, c1_3, c1_4, c1_5⟩ := bl6 (KL.blk hj (.tail _ (.head _)))
        have hjb := hj.1
        have hjz := hjb.size
        clear hG hWL
        go_wp2
        obtain ⟨w0, hw0⟩ : ∃ w0, w0 = WW := ⟨_, rfl⟩
        subst hw0
        go_loopw [14] (fun i W => ∃ g : Int, i = .int .i64 g ∧ -1 ≤ g ∧ g ≤ g0 ∧ (∀ g', g < g' → g' ≤ g0 → ¬ okG a b c d p q k u v wd l g') ∧ KL [(w.heap.size, 25, #[.int .i64 a, .int .i64 b, .int .i64 c, .int .i64 d, .int .i64 p, .int .i64 q]), (w.heap.size + 1, 27, #[.int .i64 0, .int .i64 0, .int .i64 0, .int .i64 0, .int .i64 0, .int .i64 0])] w W) (fun i _ => (intOf i + 1).toNat)
        case atStart => exact ⟨g0, rfl, by omega, Int.le_refl _, fun g' h1 h2 => absurd h1 (by omega), hj⟩
        case round =>
          obtain ⟨g, rfl, hg1, hg2, hnone, hKi⟩ := hrel
          have HN := Lib.hid hnone; clear hnone
          obtain ⟨y0, y1, y2, y3, y4, y5, y6⟩ := bl6 (KL.blk hKi (.head _))
          obtain ⟨z0, z1, z2, z3, z4, z5, z6⟩ := bl6 (KL.blk hKi (.tail _ (.head _)))
          have zF := (KL.blk hKi (.tail _ (.head _))).frozen
          have hkz := hKi.1.size
          by_cases hgc : c ≤ g
          · go_wp2
            go_upto_region 12 with (fail)
            refine wp_region_any (by kernel_rfl) ?_
            try (change wpAny _ _ _ _ _ _ _ (World.drew _))
            refine wpAny_alloc (fr := fun o => #[.agg #[.int .i64 a,.int .i64 b,.int .i64 c,.int .i64 d,.int .i64 p,.int .i64 q], .int .i64 H, .int .i64 L, .int .i64 wd, .int .i64 l, .pointer (some ⟨w.heap.size, 0, none⟩), undef, undef, undef, undef, .pointer (some ⟨(w.heap.size + 1), 0, none⟩), u11, .int .i64 0, .int .i64 (↑k), .int .i64 g, o 11, .agg #[.int .i64 a,.int .i64 b,.int .i64 c,.int .i64 d,.int .i64 p,.int .i64 q], .int .i64 0, .int .i64 0, .bool false, undef, undef, .int .i64 H, .bool true, .bool false, .bool false, .int .i64 L, .bool true, .bool false, .bool false, .bool false, .int .i64 wd, .bool true, .bool false, .bool false, .bool false, .int .i64 l, .bool true, .bool false, .bool false, undef, .int .i64 (↑k), .bool true, u43, u44, .int .i64 L, .int .i64 (↑k), .int .i64 q0, .pointer (some ⟨w.heap.size, 2, none⟩), .pointer (some ⟨w.heap.size, 3, none⟩), .int .i64 d, .int .i64 g0, .int .i64 g, .pointer (some ⟨w.heap.size, 2, none⟩), .pointer (some ⟨w.heap.size, 2, none⟩), .int .i64 c, .bool true, u57, u58, o 0, o 1, o 2, o 3, o 4, o 5, o 6, o 7, o 8, o 9, o 10, u70, u71, u72, u73, u74, u75, u76, u77, u78, u79, u80, u81, u82, u83, u84, u85, u86, u87, undef]) (vals := fun i_ => ([.int .i64 (↑k), .int .i64 H, .int .i64 (↑k), .int .i64 u, .int .i64 H, .int .i64 (↑k), .int .i64 v, .int .i64 g, .int .i64 wd, .int .i64 l, .agg #[.int .i64 (↑k),.int .i64 u,.int .i64 v,.int .i64 g,.int .i64 wd,.int .i64 l], undef, undef] : List Value).getD i_ undef) (K := fun W_ => KL [(w.heap.size,25,#[.int .i64 a,.int .i64 b,.int .i64 c,.int .i64 d,.int .i64 p,.int .i64 q]),((w.heap.size + 1),27,#[.int .i64 0,.int .i64 0,.int .i64 0,.int .i64 0,.int .i64 0,.int .i64 0])] w W_) (dep := fun i_ => [[], [], [], [1, 2], [], [], [4, 5], [], [], [], [0, 3, 6, 7, 8, 9], [], [0, 1, 2, 3, 4, 5, 6, 7, 8, 9, 10, 11]].getD i_ []) (dv := fun i_ => [[], [], [], [1, 2], [], [], [4, 5], [], [], [], [0, 3, 6, 7, 8, 9], [], [10]].getD i_ []) (kd := fun i_ => [0, 0, 0, 0, 0, 0, 0, 0, 0, 0, 0, 2, 3].getD i_ 0) (sa := fun i_ => [11].getD i_ 0) (ss := [12]) (al := [11]) (l := [0, 1, 2, 3, 4, 5, 6, 7, 8, 9, 10, 11, 12]) (f0 := fun i_ => ([u59,u60,u61,u62,u63,u64,u65,u66,u67,u68,u69,u15,undef] : List Value).getD i_ undef) (B := wr.heap.size) (T := 27) (z := #[.int .i64 0, .int .i64 0, .int .i64 0, .int .i64 0, .int .i64 0, .int .i64 0]) (cont := fun t_ j_ => if j_ = 11 then (if 0 < t_ then #[.int .i64 (↑k), .int .i64 u, .int .i64 v, .int .i64 g, .int .i64 wd, .int .i64 l] else #[.int .i64 0, .int .i64 0, .int .i64 0, .int .i64 0, .int .i64 0, .int .i64 0]) else #[.int .i64 0, .int .i64 0, .int .i64 0, .int .i64 0, .int .i64 0, .int .i64 0]) (A := fun g_ => ⟨#[.agg #[.int .i64 a,.int .i64 b,.int .i64 c,.int .i64 d,.int .i64 p,.int .i64 q], .int .i64 H, .int .i64 L, .int .i64 wd, .int .i64 l, .pointer (some ⟨w.heap.size, 0, none⟩), undef, undef, undef, undef, .pointer (some ⟨(w.heap.size + 1), 0, none⟩), u11, .int .i64 0, .int .i64 (↑k), .int .i64 g, ptrV (g_ 11), .agg #[.int .i64 a,.int .i64 b,.int .i64 c,.int .i64 d,.int .i64 p,.int .i64 q], .int .i64 0, .int .i64 0, .bool false, undef, undef, .int .i64 H, .bool true, .bool false, .bool false, .int .i64 L, .bool true, .bool false, .bool false, .bool false, .int .i64 wd, .bool true, .bool false, .bool false, .bool false, .int .i64 l, .bool true, .bool false, .bool false, undef, .int .i64 (↑k), .bool true, u43, u44, .int .i64 L, .int .i64 (↑k), .int .i64 q0, .pointer (some ⟨w.heap.size, 2, none⟩), .pointer (some ⟨w.heap.size, 3, none⟩), .int .i64 d, .int .i64 g0, .int .i64 g, .pointer (some ⟨w.heap.size, 2, none⟩), .pointer (some ⟨w.heap.size, 2, none⟩), .int .i64 c, .bool true, u57, u58, .int .i64 (↑k), .int .i64 H, .int .i64 (↑k), .int .i64 u, .int .i64 H, .int .i64 (↑k), .int .i64 v, .int .i64 g, .int .i64 wd, .int .i64 l, .agg #[.int .i64 (↑k),.int .i64 u,.int .i64 v,.int .i64 g,.int .i64 wd,.int .i64 l], u70, u71, u72, u73, u74, u75, u76, u77, u78, u79, u80, u81, u82, u83, u84, u85, u86, u87, undef], []⟩) 13 rfl rfl (by decide +kernel) (by decide +kernel) ?_ ?_ ?_ ?_ (fun _ h_ => KL.alloc h_ _) ⟨?_, ?_, ?_, ?_, ?_, ?_, ?_, ?_, ?_, ?_, ?_, ?_, ?_, trivial⟩ ?_ ?_
            · exact KL.drew hKi
            · first | exact Nat.le_refl _ | (simp; done) | (simp <;> omega) | (show _ ≤ World.heap.size _; omega) | omega
            · intro j_ hj_; simp only [List.mem_cons, List.not_mem_nil, or_false] at hj_; rcases hj_ with rfl <;> rfl
            · intro t_ ht_ j_ hj_ hn_; simp only [List.mem_cons, List.not_mem_nil, or_false] at hj_; rcases hj_ with rfl <;> rcases t_ with _ | _ <;> first | rfl | exact absurd rfl hn_ | exact absurd ht_ (by simp)
            · intro o W _
              show wpOp _ _ _ 0 _ ⟨#[_,_,_,_,_,_,_,_,_,_,_,_,_,_,_,o 11,_,_,_,_,_,_,_,_,_,_,_,_,_,_,_,_,_,_,_,_,_,_,_,_,_,_,_,_,_,_,_,_,_,_,_,_,_,_,_,_,_,_,_,o 0,o 1,o 2,o 3,o 4,o 5,o 6,o 7,o 8,o 9,o 10,_,_,_,_,_,_,_,_,_,_,_,_,_,_,_,_,_,_,_], []⟩ W
              refine wpOp_step rfl (fun K' hK => ?_)
              go_simp
              exact hK _ _ ⟨rfl, rfl⟩
            · intro o W _
              show wpOp _ _ _ 1 _ ⟨#[_,_,_,_,_,_,_,_,_,_,_,_,_,_,_,o 11,_,_,_,_,_,_,_,_,_,_,_,_,_,_,_,_,_,_,_,_,_,_,_,_,_,_,_,_,_,_,_,_,_,_,_,_,_,_,_,_,_,_,_,o 0,o 1,o 2,o 3,o 4,o 5,o 6,o 7,o 8,o 9,o 10,_,_,_,_,_,_,_,_,_,_,_,_,_,_,_,_,_,_,_], []⟩ W
              refine wpOp_step rfl (fun K' hK => ?_)
              go_simp
              exact hK _ _ ⟨rfl, rfl⟩
            · intro o W _
              show wpOp _ _ _ 2 _ ⟨#[_,_,_,_,_,_,_,_,_,_,_,_,_,_,_,o 11,_,_,_,_,_,_,_,_,_,_,_,_,_,_,_,_,_,_,_,_,_,_,_,_,_,_,_,_,_,_,_,_,_,_,_,_,_,_,_,_,_,_,_,o 0,o 1,o 2,o 3,o 4,o 5,o 6,o 7,o 8,o 9,o 10,_,_,_,_,_,_,_,_,_,_,_,_,_,_,_,_,_,_,_], []⟩ W
              refine wpOp_step rfl (fun K' hK => ?_)
              go_simp
              exact hK _ _ ⟨rfl, rfl⟩
            · intro o W _
              show wpOp _ _ _ 3 _ ⟨#[_,_,_,_,_,_,_,_,_,_,_,_,_,_,_,o 11,_,_,_,_,_,_,_,_,_,_,_,_,_,_,_,_,_,_,_,_,_,_,_,_,_,_,_,_,_,_,_,_,_,_,_,_,_,_,_,_,_,_,_,o 0,.int .i64 H,.int .i64 (↑k),o 3,o 4,o 5,o 6,o 7,o 8,o 9,o 10,_,_,_,_,_,_,_,_,_,_,_,_,_,_,_,_,_,_,_], []⟩ W
              refine wpOp_step rfl (fun K' hK => ?_)
              go_simp
              exact hK _ _ ⟨rfl, rfl⟩
            · intro o W _
              show wpOp _ _ _ 4 _ ⟨#[_,_,_,_,_,_,_,_,_,_,_,_,_,_,_,o 11,_,_,_,_,_,_,_,_,_,_,_,_,_,_,_,_,_,_,_,_,_,_,_,_,_,_,_,_,_,_,_,_,_,_,_,_,_,_,_,_,_,_,_,o 0,o 1,o 2,o 3,o 4,o 5,o 6,o 7,o 8,o 9,o 10,_,_,_,_,_,_,_,_,_,_,_,_,_,_,_,_,_,_,_], []⟩ W
              refine wpOp_step rfl (fun K' hK => ?_)
              go_simp
              exact hK _ _ ⟨rfl, rfl⟩
            · intro o W _
              show wpOp _ _ _ 5 _ ⟨#[_,_,_,_,_,_,_,_,_,_,_,_,_,_,_,o 11,_,_,_,_,_,_,_,_,_,_,_,_,_,_,_,_,_,_,_,_,_,_,_,_,_,_,_,_,_,_,_,_,_,_,_,_,_,_,_,_,_,_,_,o 0,o 1,o 2,o 3,o 4,o 5,o 6,o 7,o 8,o 9,o 10,_,_,_,_,_,_,_,_,_,_,_,_,_,_,_,_,_,_,_], []⟩ W
              refine wpOp_step rfl (fun K' hK => ?_)
              go_simp
              exact hK _ _ ⟨rfl, rfl⟩
            · intro o W _
              show wpOp _ _ _ 6 _ ⟨#[_,_,_,_,_,_,_,_,_,_,_,_,_,_,_,o 11,_,_,_,_,_,_,_,_,_,_,_,_,_,_,_,_,_,_,_,_,_,_,_,_,_,_,_,_,_,_,_,_,_,_,_,_,_,_,_,_,_,_,_,o 0,o 1,o 2,o 3,.int .i64 H,.int .i64 (↑k),o 6,o 7,o 8,o 9,o 10,_,_,_,_,_,_,_,_,_,_,_,_,_,_,_,_,_,_,_], []⟩ W
              refine wpOp_step rfl (fun K' hK => ?_)
              go_simp
              exact hK _ _ ⟨rfl, rfl⟩
            · intro o W _
              show wpOp _ _ _ 7 _ ⟨#[_,_,_,_,_,_,_,_,_,_,_,_,_,_,_,o 11,_,_,_,_,_,_,_,_,_,_,_,_,_,_,_,_,_,_,_,_,_,_,_,_,_,_,_,_,_,_,_,_,_,_,_,_,_,_,_,_,_,_,_,o 0,o 1,o 2,o 3,o 4,o 5,o 6,o 7,o 8,o 9,o 10,_,_,_,_,_,_,_,_,_,_,_,_,_,_,_,_,_,_,_], []⟩ W
              refine wpOp_step rfl (fun K' hK => ?_)
              go_simp
              exact hK _ _ ⟨rfl, rfl⟩
            · intro o W _
              show wpOp _ _ _ 8 _ ⟨#[_,_,_,_,_,_,_,_,_,_,_,_,_,_,_,o 11,_,_,_,_,_,_,_,_,_,_,_,_,_,_,_,_,_,_,_,_,_,_,_,_,_,_,_,_,_,_,_,_,_,_,_,_,_,_,_,_,_,_,_,o 0,o 1,o 2,o 3,o 4,o 5,o 6,o 7,o 8,o 9,o 10,_,_,_,_,_,_,_,_,_,_,_,_,_,_,_,_,_,_,_], []⟩ W
              refine wpOp_step rfl (fun K' hK => ?_)
              go_simp
              exact hK _ _ ⟨rfl, rfl⟩
            · intro o W _
              show wpOp _ _ _ 9 _ ⟨#[_,_,_,_,_,_,_,_,_,_,_,_,_,_,_,o 11,_,_,_,_,_,_,_,_,_,_,_,_,_,_,_,_,_,_,_,_,_,_,_,_,_,_,_,_,_,_,_,_,_,_,_,_,_,_,_,_,_,_,_,o 0,o 1,o 2,o 3,o 4,o 5,o 6,o 7,o 8,o 9,o 10,_,_,_,_,_,_,_,_,_,_,_,_,_,_,_,_,_,_,_], []⟩ W
              refine wpOp_step rfl (fun K' hK => ?_)
              go_simp
              exact hK _ _ ⟨rfl, rfl⟩
            · intro o W _
              show wpOp _ _ _ 10 _ ⟨#[_,_,_,_,_,_,_,_,_,_,_,_,_,_,_,o 11,_,_,_,_,_,_,_,_,_,_,_,_,_,_,_,_,_,_,_,_,_,_,_,_,_,_,_,_,_,_,_,_,_,_,_,_,_,_,_,_,_,_,_,.int .i64 (↑k),o 1,o 2,.int .i64 u,o 4,o 5,.int .i64 v,.int .i64 g,.int .i64 wd,.int .i64 l,o 10,_,_,_,_,_,_,_,_,_,_,_,_,_,_,_,_,_,_,_], []⟩ W
              refine wpOp_step rfl (fun K' hK => ?_)
              go_simp
              exact hK _ _ ⟨rfl, rfl⟩
            · intro o W
              show wpOp _ _ _ 11 _ ⟨#[_,_,_,_,_,_,_,_,_,_,_,_,_,_,_,o 11,_,_,_,_,_,_,_,_,_,_,_,_,_,_,_,_,_,_,_,_,_,_,_,_,_,_,_,_,_,_,_,_,_,_,_,_,_,_,_,_,_,_,_,o 0,o 1,o 2,o 3,o 4,o 5,o 6,o 7,o 8,o 9,o 10,_,_,_,_,_,_,_,_,_,_,_,_,_,_,_,_,_,_,_], []⟩ W
              refine wpOp_step rfl (fun K' hK => ?_)
              go_simp
              exact hK _ _ ⟨rfl, rfl⟩
            · intro o W g_ hj hg_ hb_
              have hj : KL _ _ W := hj
              have hb_ : Blk W g_ 27 #[.int .i64 0, .int .i64 0, .int .i64 0, .int .i64 0, .int .i64 0, .int .i64 0] := hb_
              obtain ⟨cL, c0, c1, c2, c3, c4, c5⟩ := bl6 hb_
              have cF := hb_.frozen
              show wpOp _ _ _ 12 _ ⟨#[_,_,_,_,_,_,_,_,_,_,_,_,_,_,_,.pointer (some ⟨g_, 0, none⟩),_,_,_,_,_,_,_,_,_,_,_,_,_,_,_,_,_,_,_,_,_,_,_,_,_,_,_,_,_,_,_,_,_,_,_,_,_,_,_,_,_,_,_,o 0,o 1,o 2,o 3,o 4,o 5,o 6,o 7,o 8,o 9,.agg #[.int .i64 (↑k),.int .i64 u,.int .i64 v,.int .i64 g,.int .i64 wd,.int .i64 l],_,_,_,_,_,_,_,_,_,_,_,_,_,_,_,_,_,_,_], []⟩ W
              refine wpOp_step rfl (fun K' hK => ?_)
              go_simp
              exact hK _ _ ⟨rfl, st6 hj (by omega) (by simp <;> omega) hb_⟩
            · intro o g_ hh_ hp_
              have e0 : o 0 = .int .i64 (↑k) := hh_ 0 (by decide) (by simp)
              have e1 : o 1 = .int .i64 H := hh_ 1 (by decide) (by simp)
              have e2 : o 2 = .int .i64 (↑k) := hh_ 2 (by decide) (by simp)
              have e3 : o 3 = .int .i64 u := hh_ 3 (by decide) (by simp)
              have e4 : o 4 = .int .i64 H := hh_ 4 (by decide) (by simp)
              have e5 : o 5 = .int .i64 (↑k) := hh_ 5 (by decide) (by simp)
              have e6 : o 6 = .int .i64 v := hh_ 6 (by decide) (by simp)
              have e7 : o 7 = .int .i64 g := hh_ 7 (by decide) (by simp)
              have e8 : o 8 = .int .i64 wd := hh_ 8 (by decide) (by simp)
              have e9 : o 9 = .int .i64 l := hh_ 9 (by decide) (by simp)
              have e10 : o 10 = .agg #[.int .i64 (↑k),.int .i64 u,.int .i64 v,.int .i64 g,.int .i64 wd,.int .i64 l] := hh_ 10 (by decide) (by simp)
              have e11 : o 11 = ptrV (g_ 11) := hp_ 11 (by simp)
              rw [e0, e1, e2, e3, e4, e5, e6, e7, e8, e9, e10, e11]
            · intro WN g_ hj ho_ hn_
              have hj : KL _ _ WN := hj
              obtain ⟨bgn11, Bgn11⟩ := ho_ 11 (by simp)
              have Bgn11 : Blk WN (g_ 11) 27 #[.int .i64 (↑k), .int .i64 u, .int .i64 v, .int .i64 g, .int .i64 wd, .int .i64 l] := Bgn11
              clear ho_ hn_
              dsimp only [ptrV]
              generalize g_ 11 = gn11 at *
              have hj := KL.cons Bgn11 hj
              clear Bgn11
              obtain ⟨cL0, c0_0, c0_1, c0_2, c0_3, c0_4, c0_5⟩ := bl6 (KL.blk hj (.head _))
              obtain ⟨cL1, c1_0, c1_1, c1_2, c1_3, c1_4, c1_5⟩ := bl6 (KL.blk hj (.tail _ (.head _)))
              obtain ⟨cL2, c2_0, c2_1, c2_2, c2_3, c2_4, c2_5⟩ := bl6 (KL.blk hj (.tail _ (.tail _ (.head _))))
              have hjb := hj.1
              have hjz := hjb.size
              have hzw := hj.1.size
              have hva := valid_any k u v g wd l
              have fF := (KL.blk hj (.tail _ (.tail _ (.head _)))).frozen
              have hK2 : KL [(w.heap.size, 25, #[.int .i64 a, .int .i64 b, .int .i64 c, .int .i64 d, .int .i64 p, .int .i64 q]), (w.heap.size + 1, 27, #[.int .i64 0, .int .i64 0, .int .i64 0, .int .i64 0, .int .i64 0, .int .i64 0])] w WN := KL.part hj (fun q_ hq_ => .tail _ hq_)
              cases hv : vldB k u v g wd l
              · rw [hv] at hva
                have hR2 : R = plnV a b c d p q H L wd l f (k + 1) := by
                  have := HNO.out (fun g' hg' ho => by
                    rcases Classical.em (g < g') with h1 | h1
                    · exact HN.out g' h1 hg' ho
                    · have := okG_less ho (show g' ≤ g by omega) (by omega) (by omega); rw [hv] at this; exact absurd this.1 (by simp))
                  have h3 := HRR.out
                  rw [this] at h3
                  exact h3
                have HR2 := Lib.hid hR2
                clear hR2
                clear hv
                go_wp2_with (first | (go_at_call 18; refine (hva _).mono ?_; rintro e w5 ⟨rfl, hb5⟩; obtain ⟨hc5, hf5⟩ := bcell hb5; have hz5 := hb5.size; have yn5 : gn11 < w5.heap.size := (by omega); have y50 : w.heap.size < w5.heap.size := (by omega); have y51 : w.heap.size + 1 < w5.heap.size := (by omega)) )
                go_roundw
                case rel => exact ⟨k + 1, f, by omega, by omega, by go_num, HR2.out, KL.over hK2 (by ((repeat (first | with_reducible exact Below.refl _ _ | with_reducible refine Below.setCell ?_ ?_ _ | with_reducible refine Below.alloc ?_ ?_ _ | with_reducible refine Below.drew ?_ | with_reducible refine below_drewN ?_ _ | (refine Below.trans ?_ (bmono (by assumption) ?_)))); all_goals (first | omega | (simp <;> omega))))⟩
                case measure => simp [intOf]; omega
              · rw [hv] at hva
                obtain ⟨v1, v2, v3, v4, v5, v6, v7, v8, v9, v10, v11, v12, v13⟩ := vldB_iff.1 hv
                have hke := keeps_any a b c d p q k u v g wd l hk1 (by omega) v3 v4 v5 v6 (by omega)
                rcases keepE_three a b c d p q u v g with hk3 | hk3 | hk3
                · rw [hk3] at hke
                  obtain ⟨f1, f2⟩ := HFO.out g hg2 HN.out ⟨hv, hk3⟩
                  have hR2 : R = .tuple #[agF k u v g wd l, .int .i64 0] := by have h3 := HRR.out; rw [f1, if_pos rfl, f2] at h3; exact h3
                  have HR2 := Lib.hid hR2
                  clear hR2 f1 f2 hv hk3
                  go_wp2_with (first | (go_at_call 18; refine (hva _).mono ?_; rintro e w5 ⟨rfl, hb5⟩; obtain ⟨hc5, hf5⟩ := bcell hb5; have hz5 := hb5.size; have yn5 : gn11 < w5.heap.size := (by omega); have y50 : w.heap.size < w5.heap.size := (by omega); have y51 : w.heap.size + 1 < w5.heap.size := (by omega)) | (go_at_call 37; refine (hke _).mono ?_; rintro e w6 ⟨rfl, hb6⟩; obtain ⟨hc6, hf6⟩ := bcell hb6; have hz6 := hb6.size; have yn6 : gn11 < w6.heap.size := (by omega); have y60 : w.heap.size < w6.heap.size := (by omega); have y61 : w.heap.size + 1 < w6.heap.size := (by omega)))
                  have hzz : KL [(gn11, 27, #[.int .i64 ↑k, .int .i64 u, .int .i64 v, .int .i64 g, .int .i64 wd, .int .i64 l]), (w.heap.size, 25, #[.int .i64 a, .int .i64 b, .int .i64 c, .int .i64 d, .int .i64 p, .int .i64 q]), (w.heap.size + 1, 27, #[.int .i64 ↑k, .int .i64 u, .int .i64 v, .int .i64 g, .int .i64 wd, .int .i64 l])] w _ := KL.up6 2 ((hj.over hb5).over hb6) rfl (by omega) (fun q_ hq_ => by simp only [List.eraseIdx_cons_succ, List.eraseIdx_cons_zero, List.mem_cons, List.not_mem_nil, or_false] at hq_; rcases hq_ with rfl | rfl <;> simp <;> omega)
                  obtain ⟨x0, x1, x2, x3, x4, x5, x6⟩ := bl6 (KL.blk hzz (.tail _ (.tail _ (.head _))))
                  exact bodyPost_ret (v := .tuple #[.agg #[.int .i64 ↑k, .int .i64 u, .int .i64 v, .int .i64 g, .int .i64 wd, .int .i64 l], .int .i64 0]) (by simp [results, Try.results21, go_sem, x1, x2, x3, x4, x5, x6]) rfl ⟨by rw [HR2.out]; rfl, hzz.1⟩
                · rw [hk3] at hke
                  have hR2 : R = plnV a b c d p q H L wd l f (k + 1) := by
                    have := HNO.out (fun g' hg' ho => by
                      rcases Classical.em (g < g') with h1 | h1
                      · exact HN.out g' h1 hg' ho
                      · have := okG_less ho (show g' ≤ g by omega) (by omega) (by omega); exact this.2 hk3)
                    have h3 := HRR.out
                    rw [this] at h3
                    exact h3
                  have HR2 := Lib.hid hR2
                  clear hR2
                  clear hv hk3
                  go_wp2_with (first | (go_at_call 18; refine (hva _).mono ?_; rintro e w5 ⟨rfl, hb5⟩; obtain ⟨hc5, hf5⟩ := bcell hb5; have hz5 := hb5.size; have yn5 : gn11 < w5.heap.size := (by omega); have y50 : w.heap.size < w5.heap.size := (by omega); have y51 : w.heap.size + 1 < w5.heap.size := (by omega)) | (go_at_call 37; refine (hke _).mono ?_; rintro e w6 ⟨rfl, hb6⟩; obtain ⟨hc6, hf6⟩ := bcell hb6; have hz6 := hb6.size; have yn6 : gn11 < w6.heap.size := (by omega); have y60 : w.heap.size < w6.heap.size := (by omega); have y61 : w.heap.size + 1 < w6.heap.size := (by omega)))
                  go_roundw
                  case rel => exact ⟨k + 1, f, by omega, by omega, by go_num, HR2.out, KL.over hK2 (by ((repeat (first | with_reducible exact Below.refl _ _ | with_reducible refine Below.setCell ?_ ?_ _ | with_reducible refine Below.alloc ?_ ?_ _ | with_reducible refine Below.drew ?_ | with_reducible refine below_drewN ?_ _ | (refine Below.trans ?_ (bmono (by assumption) ?_)))); all_goals (first | omega | (simp <;> omega))))⟩
                  case measure => simp [intOf]; omega
                · rw [hk3] at hke
                  have HN2 : RowKit.Hid (∀ g', g - 1 < g' → g' ≤ g0 → ¬ okG a b c d p q k u v wd l g') := Lib.hid (fun g' h1 h2 ho => by
                    rcases Classical.em (g < g') with h3 | h3
                    · exact HN.out g' h3 h2 ho
                    · obtain rfl : g' = g := by omega
                      have := ho.2; omega)
                  clear hv hk3
                  go_wp2_with (first | (go_at_call 18; refine (hva _).mono ?_; rintro e w5 ⟨rfl, hb5⟩; obtain ⟨hc5, hf5⟩ := bcell hb5; have hz5 := hb5.size; have yn5 : gn11 < w5.heap.size := (by omega); have y50 : w.heap.size < w5.heap.size := (by omega); have y51 : w.heap.size + 1 < w5.heap.size := (by omega)) | (go_at_call 37; refine (hke _).mono ?_; rintro e w6 ⟨rfl, hb6⟩; obtain ⟨hc6, hf6⟩ := bcell hb6; have hz6 := hb6.size; have yn6 : gn11 < w6.heap.size := (by omega); have y60 : w.heap.size < w6.heap.size := (by omega); have y61 : w.heap.size + 1 < w6.heap.size := (by omega)))
                  go_roundw
                  case rel => exact ⟨g - 1, rfl, by omega, by omega, HN2.out, KL.over hK2 (by ((repeat (first | with_reducible exact Below.refl _ _ | with_reducible refine Below.setCell ?_ ?_ _ | with_reducible refine Below.alloc ?_ ?_ _ | with_reducible refine Below.drew ?_ | with_reducible refine below_drewN ?_ _ | (refine Below.trans ?_ (bmono (by assumption) ?_)))); all_goals (first | omega | (simp <;> omega))))⟩
                  case measure => simp [intOf]; omega
          · have hR2 : R = plnV a b c d p q H L wd l f (k + 1) := by
              have := HNO.out (fun g' hg' ho => by
                rcases Classical.em (g < g') with h1 | h1
                · exact HN.out g' h1 hg' ho
                · have := keepE_zero ho.2; omega)
              have h3 := HRR.out
              rw [this] at h3
              exact h3
            have HR2 := Lib.hid hR2
            clear hR2
            go_wp2
            go_roundw
            case rel => exact ⟨k + 1, f, by omega, by omega, by go_num, HR2.out, hKi⟩
            case measure => simp [intOf]; omega
theorem rplan_any (a b c d p q H L wd l : Int) (w : World) : Calls Try.prog 21 #[.agg #[.int .i64 a, .int .i64 b, .int .i64 c, .int .i64 d, .int .i64 p, .int .i64 q], .int .i64 H, .int .i64 L, .int .i64 wd, .int .i64 l] w fun e w' => e = .returned (planV a b c d p q H L wd l) ∧ Below w.heap.size w w' := by
  have hck := rcheck_any a b c d p q
  unfold planV
  by_cases h : chkE a b c d p q = 0
  · rw [if_pos h]
    cases h2 : plnB H L wd l
    · rw [if_neg (by simp)]
      rw [h] at hck
      have hi1 := rin_any H 1 640000
      have hi2 := rin_any L 1 640000
      have hi3 := rin_any wd 1 10000
      have hi4 := rin_any l 0 1000
      unfold plnB at h2
      cases e1 : inB H 1 640000
      · rw [e1] at hi1; exact rplan_r0 a b c d p q H L wd l hck hi1 w
      · rw [e1] at hi1
        cases e2 : inB L 1 640000
        · rw [e2] at hi2; exact rplan_r1 a b c d p q H L wd l hck hi1 hi2 w
        · rw [e2] at hi2
          cases e3 : inB wd 1 10000
          · rw [e3] at hi3; exact rplan_r2 a b c d p q H L wd l hck hi1 hi2 hi3 w
          · rw [e3] at hi3
            cases e4 : inB l 0 1000
            · rw [e4] at hi4; exact rplan_r3 a b c d p q H L wd l hck hi1 hi2 hi3 hi4 w
            · simp [e1, e2, e3, e4] at h2
    · rw [if_pos rfl]
      exact rplan_l a b c d p q H L wd l w h h2
  · rw [if_neg h]
    exact rplan_c a b c d p q H L wd l _ (by simpa using h) hck w
end Go.Proofs.Ytoenojnfhiimpaa
