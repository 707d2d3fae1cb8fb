/- The walk of stair's Plan. No condition. -/
import Derived.Test.YtoenojnfhiimpaaPln
import Derived.Test.YtoenojnfhiimpaaEqs
import Derived.Test.YtoenojnfhiimpaaPlc
namespace Go.Proofs.Ytoenojnfhiimpaa
open Go.RowKit

def agF (n r x g w l : Int) : Value := .agg #[.int .i64 n, .int .i64 r, .int .i64 x, .int .i64 g, .int .i64 w, .int .i64 l]
/-- the flight of a number of rises, or the next one's -/
def plnV (a b c d p q H L wd l : Int) : Nat → Nat → Value
  | 0, _ => .tuple #[agF 0 0 0 0 0 0, .int .i64 9]
  | f + 1, k => if plOk a b c d p q k (H / k) (H % k) wd l L = true then .tuple #[agF k (H / k) (H % k) (plG d q k (H / k) (H % k) L) wd l, .int .i64 0] else plnV a b c d p q H L wd l f (k + 1)
def plnB (H L wd l : Int) : Bool := inB H 1 640000 && (inB L 1 640000 && (inB wd 1 10000 && inB l 0 1000))
theorem plnB_iff {H L wd l : Int} : plnB H L wd l = true ↔ (1 ≤ H ∧ H ≤ 640000 ∧ 1 ≤ L ∧ L ≤ 640000 ∧ 1 ≤ wd ∧ wd ≤ 10000 ∧ 0 ≤ l ∧ l ≤ 1000) := by simp [plnB, inB]; omega
def planV (a b c d p q H L wd l : Int) : Value :=
  if chkE a b c d p q = 0 then (if plnB H L wd l = true then plnV a b c d p q H L wd l 64 1 else .tuple #[agF 0 0 0 0 0 0, .int .i64 6]) else .tuple #[agF 0 0 0 0 0 0, .int .i64 (chkE a b c d p q)]
theorem chkE_bd {a b c d p q : Int} (h : chkE a b c d p q = 0) : 1 ≤ a ∧ a ≤ b ∧ b ≤ 10000 ∧ 1 ≤ c ∧ c ≤ d ∧ d ≤ 10000 ∧ 1 ≤ p ∧ p ≤ q ∧ q ≤ 30000 := by
  unfold chkE at h
  split at h
  · cases h
  · rename_i h1
    split at h
    · cases h
    · rename_i h2
      have e1 : outB a b 10000 = false := by revert h1; cases outB a b 10000 <;> simp
      have e2 : outB c d 10000 = false := by revert h1; cases outB c d 10000 <;> simp
      have e3 : outB p q 30000 = false := by revert h1; cases outB p q 30000 <;> simp
      have := outB_no.1 e1; have := outB_no.1 e2; have := outB_no.1 e3
      omega
set_option maxHeartbeats 4000000 in
set_option maxRecDepth 100000 in
theorem plan_l (a b c d p q H L wd l : Int) (w : World) (h : chkE a b c d p q = 0) (h2 : plnB H L wd l = true) :
    Calls Try.prog 20 #[.agg #[.int .i64 a, .int .i64 b, .int .i64 c, .int .i64 d, .int .i64 p, .int .i64 q], .int .i64 H, .int .i64 L, .int .i64 wd, .int .i64 l] w fun e w' => e = .returned (plnV a b c d p q H L wd l 64 1) ∧ Below w.heap.size w w' := by
  have hck := check_any a b c d p q
  rw [h] at hck
  obtain ⟨c1, c2, c3, c4, c5, c6, c7, c8, c9⟩ := chkE_bd h
  obtain ⟨d1, d2, d3, d4, d5, d6, d7, d8⟩ := plnB_iff.1 h2
  have a1 : inB H 1 640000 = true := inB_iff.2 ⟨d1, d2⟩
  have a2 : inB L 1 640000 = true := inB_iff.2 ⟨d3, d4⟩
  have a3 : inB wd 1 10000 = true := inB_iff.2 ⟨d5, d6⟩
  have a4 : inB l 0 1000 = true := inB_iff.2 ⟨d7, d8⟩
  obtain ⟨R, hR⟩ : ∃ R, R = plnV a b c d p q H L wd l 64 1 := ⟨_, rfl⟩
  rw [← hR]
  clear h h2
  have HR := Lib.hid hR; clear hR
  go_enter Try.func20, Try.ntmps20
  go_wp2_with (first | (go_at_call 12; refine (hck _).mono ?_; rintro e w1 ⟨rfl, hb1⟩; obtain ⟨hc1, hf1⟩ := bcell hb1; have hz1 := hb1.size; (try simp at hz1); (try have y10 : w.heap.size < w1.heap.size := by omega); (try have y11 : w.heap.size + 1 < w1.heap.size := by omega); (try have y12 : w.heap.size + 1 + 1 < w1.heap.size := by omega)) | (go_at_call 39; refine (isIn_any _ _ _ _).mono ?_; rintro e w1 ⟨rfl, rfl⟩))
  have hK1 : KL [(w.heap.size, 31, #[.int .i64 a, .int .i64 b, .int .i64 c, .int .i64 d, .int .i64 p, .int .i64 q]), (w.heap.size + 1, 34, #[.int .i64 0, .int .i64 0, .int .i64 0, .int .i64 0, .int .i64 0, .int .i64 0])] w w1 := by
    refine KL.over (W := (w.alloc (.cells #[.int .i64 a, .int .i64 b, .int .i64 c, .int .i64 d, .int .i64 p, .int .i64 q] 31)).alloc (.cells #[.int .i64 0, .int .i64 0, .int .i64 0, .int .i64 0, .int .i64 0, .int .i64 0] 34)) ?_ hb1
    exact KL.part (((KL.nil w).new (g := w.heap.size) rfl 31 _).new (g := w.heap.size + 1) (by simp) 34 _) (fun p_ hp_ => by simp only [List.mem_cons, List.not_mem_nil, or_false] at hp_ ⊢; exact hp_.symm)
  clear hck hb1 hc1 hf1 a1 a2 a3 a4
  go_loopw [13] (fun i W => ∃ (k f : Nat), k + f = 65 ∧ 1 ≤ k ∧ i = .int .i64 k ∧ R = plnV a b c d p q H L wd l f k ∧ KL [(w.heap.size, 31, #[.int .i64 a, .int .i64 b, .int .i64 c, .int .i64 d, .int .i64 p, .int .i64 q]), (w.heap.size + 1, 34, #[.int .i64 0, .int .i64 0, .int .i64 0, .int .i64 0, .int .i64 0, .int .i64 0])] w W) (fun i _ => 65 - (intOf i).toNat)
  case atStart => exact ⟨1, 64, rfl, Nat.le_refl _, rfl, HR.out, hK1⟩
  case round =>
    clear hK1 HR
    obtain ⟨k, f, hkf, hk1, rfl, hR, hK⟩ := hrel
    have HR := Lib.hid hR; clear hR
    obtain ⟨y0, y1, y2, y3, y4, y5, y6⟩ := bl6 (KL.blk hK (.head _))
    obtain ⟨z0, z1, z2, z3, z4, z5, z6⟩ := bl6 (KL.blk hK (.tail _ (.head _)))
    have zF := (KL.blk hK (.tail _ (.head _))).frozen
    have hkz := hK.1.size
    rcases f with _ | f
    · obtain rfl : k = 65 := by omega
      have hRR : R = .tuple #[agF 0 0 0 0 0 0, .int .i64 9] := HR.out
      unfold agF at hRR
      subst hRR
      go_wp2
      have hzz : KL [(w.heap.size, 31, #[.int .i64 a, .int .i64 b, .int .i64 c, .int .i64 d, .int .i64 p, .int .i64 q]), (w.heap.size + 1, 34, #[.int .i64 0, .int .i64 0, .int .i64 0, .int .i64 0, .int .i64 0, .int .i64 0])] w _ := KL.up6 1 hK rfl (by omega) (fun q_ hq_ => by simp only [List.eraseIdx_cons_succ, List.eraseIdx_cons_zero, List.mem_cons, List.not_mem_nil, or_false] at hq_; subst hq_; simp)
      obtain ⟨x0, x1, x2, x3, x4, x5, x6⟩ := bl6 (KL.blk hzz (.tail _ (.head _)))
      exact bodyPost_ret (v := .tuple #[.agg #[.int .i64 0, .int .i64 0, .int .i64 0, .int .i64 0, .int .i64 0, .int .i64 0], .int .i64 9]) (by simp [results, Try.results20, go_sem, x1, x2, x3, x4, x5, x6]) rfl ⟨rfl, hzz.1⟩
    · have hle : (k : Int) ≤ 64 := by omega
      go_wp2
      go_upto_region 9 with (fail)
      obtain ⟨u, hu⟩ : ∃ u, u = H / (k : Int) := ⟨_, rfl⟩
      obtain ⟨v, hv⟩ : ∃ v, v = H % (k : Int) := ⟨_, rfl⟩
      have hu0 : 0 ≤ u := by rw [hu]; exact Int.ediv_nonneg (by omega) (by omega)
      have hu1 : u ≤ H := by rw [hu]; exact Int.ediv_le_self _ (by omega)
      have hv0 : 0 ≤ v := by rw [hv]; exact Int.emod_nonneg _ (by omega)
      have hv1 : v < (k : Int) := by rw [hv]; exact Int.emod_lt_of_pos _ (by omega)
      have hpl := planned_any a b c d p q k u v 0 wd l L hu0 (by omega) (by omega) hle d3 d4 (by omega) c9
      have hW : IntKind.i64.wrap (H.tdiv (k : Int)) = u := by rw [Int.tdiv_eq_ediv_of_nonneg (by omega), ← hu]; exact IntWalk.i64_in _ (by omega)
      have hV : IntKind.i64.wrap (H.tmod (k : Int)) = v := by rw [Int.tmod_eq_emod_of_nonneg (by omega), ← hv]; exact IntWalk.i64_in _ (by omega)
      have hV' : H.tmod (k : Int) = v := by rw [Int.tmod_eq_emod_of_nonneg (by omega), ← hv]
      have hk0 : (k : Int) ≠ 0 := by omega
      have hk00 : k ≠ 0 := by omega
      have hk01 : ¬ k = 0 := by omega
      have hRR : R = if plOk a b c d p q k u v wd l L = true then .tuple #[agF k u v (plG d q k u v L) wd l, .int .i64 0] else plnV a b c d p q H L wd l f (k + 1) := by rw [hu, hv]; exact HR.out
      obtain ⟨G, hG⟩ : ∃ G, G = plG d q k u v L := ⟨_, rfl⟩
      rw [← hG] at hRR hpl
      clear hu hv hG HR
      by_cases hok : plOk a b c d p q k u v wd l L = true
      · rw [if_pos hok] at hRR hpl
        have HRR := Lib.hid hRR
        have e1 : ∀ w, Sem.run Try.prog (binOp .neq 34 (.agg #[.int .i64 (k : Int), .int .i64 u, .int .i64 v, .int .i64 G, .int .i64 wd, .int .i64 l]) (.agg #[.int .i64 0, .int .i64 0, .int .i64 0, .int .i64 0, .int .i64 0, .int .i64 0])) w = .ok (.bool true) w := fun w => by rw [neF]; simp <;> omega
        clear hRR hok
        refine wp_region_any (by kernel_rfl) ?_
        try (change wpAny _ _ _ _ _ _ _ (World.drew _))
        refine wpAny_alloc (fr := fun o => #[.agg #[.int .i64 a,.int .i64 b,.int .i64 c,.int .i64 d,.int .i64 p,.int .i64 q], .int .i64 H, .int .i64 L, .int .i64 wd, .int .i64 l, .pointer (some ⟨w.heap.size, 0, none⟩), undef, undef, undef, undef, .pointer (some ⟨(w.heap.size + 1), 0, none⟩), u11, .int .i64 0, .int .i64 (↑k), o 13, .agg #[.int .i64 a,.int .i64 b,.int .i64 c,.int .i64 d,.int .i64 p,.int .i64 q], .int .i64 0, .int .i64 0, .bool false, undef, undef, .int .i64 H, .bool true, .bool false, .bool false, .int .i64 L, .bool true, .bool false, .bool false, .bool false, .int .i64 wd, .bool true, .bool false, .bool false, .bool false, .int .i64 l, .bool true, .bool false, .bool false, undef, .int .i64 (↑k), .bool true, u42, u43, o 0, o 1, o 2, o 3, o 4, o 5, o 6, o 7, o 8, o 9, o 10, o 11, o 12, u57, u58, u59, u60, undef]) (vals := fun i_ => ([.agg #[.int .i64 a,.int .i64 b,.int .i64 c,.int .i64 d,.int .i64 p,.int .i64 q], .int .i64 (↑k), .int .i64 H, .int .i64 (↑k), .int .i64 u, .int .i64 H, .int .i64 (↑k), .int .i64 v, .int .i64 wd, .int .i64 l, .agg #[.int .i64 (↑k),.int .i64 u,.int .i64 v,.int .i64 0,.int .i64 wd,.int .i64 l], .int .i64 L, .agg #[.int .i64 (↑k),.int .i64 u,.int .i64 v,.int .i64 G,.int .i64 wd,.int .i64 l], undef, undef] : List Value).getD i_ undef) (K := fun W_ => KL [(w.heap.size,31,#[.int .i64 a,.int .i64 b,.int .i64 c,.int .i64 d,.int .i64 p,.int .i64 q]),((w.heap.size + 1),34,#[.int .i64 0,.int .i64 0,.int .i64 0,.int .i64 0,.int .i64 0,.int .i64 0])] w W_) (dep := fun i_ => [[], [], [], [], [2, 3], [], [], [5, 6], [], [], [1, 4, 7, 8, 9], [], [0, 10, 11], [], [0, 1, 2, 3, 4, 5, 6, 7, 8, 9, 10, 11, 12, 13]].getD i_ []) (dv := fun i_ => [[], [], [], [], [2, 3], [], [], [5, 6], [], [], [1, 4, 7, 8, 9], [], [0, 10, 11], [], [12]].getD i_ []) (kd := fun i_ => [1, 0, 0, 0, 0, 0, 0, 0, 0, 0, 0, 0, 1, 2, 3].getD i_ 0) (sa := fun i_ => [13].getD i_ 0) (ss := [14]) (al := [13]) (l := [0, 1, 2, 3, 4, 5, 6, 7, 8, 9, 10, 11, 12, 13, 14]) (f0 := fun i_ => ([u44,u45,u46,u47,u48,u49,u50,u51,u52,u53,u54,u55,u56,u14,undef] : List Value).getD i_ undef) (B := wr.heap.size) (T := 34) (z := #[.int .i64 0, .int .i64 0, .int .i64 0, .int .i64 0, .int .i64 0, .int .i64 0]) (cont := fun t_ j_ => if j_ = 13 then (if 0 < t_ then #[.int .i64 (↑k), .int .i64 u, .int .i64 v, .int .i64 G, .int .i64 wd, .int .i64 l] else #[.int .i64 0, .int .i64 0, .int .i64 0, .int .i64 0, .int .i64 0, .int .i64 0]) else #[.int .i64 0, .int .i64 0, .int .i64 0, .int .i64 0, .int .i64 0, .int .i64 0]) (A := fun g_ => ⟨#[.agg #[.int .i64 a,.int .i64 b,.int .i64 c,.int .i64 d,.int .i64 p,.int .i64 q], .int .i64 H, .int .i64 L, .int .i64 wd, .int .i64 l, .pointer (some ⟨w.heap.size, 0, none⟩), undef, undef, undef, undef, .pointer (some ⟨(w.heap.size + 1), 0, none⟩), u11, .int .i64 0, .int .i64 (↑k), ptrV (g_ 13), .agg #[.int .i64 a,.int .i64 b,.int .i64 c,.int .i64 d,.int .i64 p,.int .i64 q], .int .i64 0, .int .i64 0, .bool false, undef, undef, .int .i64 H, .bool true, .bool false, .bool false, .int .i64 L, .bool true, .bool false, .bool false, .bool false, .int .i64 wd, .bool true, .bool false, .bool false, .bool false, .int .i64 l, .bool true, .bool false, .bool false, undef, .int .i64 (↑k), .bool true, u42, u43, .agg #[.int .i64 a,.int .i64 b,.int .i64 c,.int .i64 d,.int .i64 p,.int .i64 q], .int .i64 (↑k), .int .i64 H, .int .i64 (↑k), .int .i64 u, .int .i64 H, .int .i64 (↑k), .int .i64 v, .int .i64 wd, .int .i64 l, .agg #[.int .i64 (↑k),.int .i64 u,.int .i64 v,.int .i64 0,.int .i64 wd,.int .i64 l], .int .i64 L, .agg #[.int .i64 (↑k),.int .i64 u,.int .i64 v,.int .i64 G,.int .i64 wd,.int .i64 l], u57, u58, u59, u60, undef], []⟩) 15 rfl rfl (by decide +kernel) (by decide +kernel) ?_ ?_ ?_ ?_ (fun _ h_ => KL.alloc h_ _) ⟨?_, ?_, ?_, ?_, ?_, ?_, ?_, ?_, ?_, ?_, ?_, ?_, ?_, ?_, ?_, trivial⟩ ?_ ?_
        · exact KL.drew hK
        · first | exact Nat.le_refl _ | (simp; done) | (simp <;> omega) | (show _ ≤ World.heap.size _; omega) | omega
        · intro j_ hj_; simp only [List.mem_cons, List.not_mem_nil, or_false] at hj_; rcases hj_ with rfl <;> rfl
        · intro t_ ht_ j_ hj_ hn_; simp only [List.mem_cons, List.not_mem_nil, or_false] at hj_; rcases hj_ with rfl <;> rcases t_ with _ | _ <;> first | rfl | exact absurd rfl hn_ | exact absurd ht_ (by simp)
        · intro o W hj
          have hj : KL _ _ W := hj
          obtain ⟨cL, c0, c1, c2, c3, c4, c5⟩ := bl6 (KL.blk hj (.head _))
          show wpOp _ _ _ 0 _ ⟨#[_,_,_,_,_,_,_,_,_,_,_,_,_,_,o 13,_,_,_,_,_,_,_,_,_,_,_,_,_,_,_,_,_,_,_,_,_,_,_,_,_,_,_,_,_,o 0,o 1,o 2,o 3,o 4,o 5,o 6,o 7,o 8,o 9,o 10,o 11,o 12,_,_,_,_,_], []⟩ W
          refine wpOp_step rfl (fun K' hK => ?_)
          go_simp
          exact hK _ _ ⟨rfl, hj, Below.refl _ _⟩
        · intro o W _
          show wpOp _ _ _ 1 _ ⟨#[_,_,_,_,_,_,_,_,_,_,_,_,_,_,o 13,_,_,_,_,_,_,_,_,_,_,_,_,_,_,_,_,_,_,_,_,_,_,_,_,_,_,_,_,_,o 0,o 1,o 2,o 3,o 4,o 5,o 6,o 7,o 8,o 9,o 10,o 11,o 12,_,_,_,_,_], []⟩ W
          refine wpOp_step rfl (fun K' hK => ?_)
          go_simp
          exact hK _ _ ⟨rfl, rfl⟩
        · intro o W _
          show wpOp _ _ _ 2 _ ⟨#[_,_,_,_,_,_,_,_,_,_,_,_,_,_,o 13,_,_,_,_,_,_,_,_,_,_,_,_,_,_,_,_,_,_,_,_,_,_,_,_,_,_,_,_,_,o 0,o 1,o 2,o 3,o 4,o 5,o 6,o 7,o 8,o 9,o 10,o 11,o 12,_,_,_,_,_], []⟩ W
          refine wpOp_step rfl (fun K' hK => ?_)
          go_simp
          exact hK _ _ ⟨rfl, rfl⟩
        · intro o W _
          show wpOp _ _ _ 3 _ ⟨#[_,_,_,_,_,_,_,_,_,_,_,_,_,_,o 13,_,_,_,_,_,_,_,_,_,_,_,_,_,_,_,_,_,_,_,_,_,_,_,_,_,_,_,_,_,o 0,o 1,o 2,o 3,o 4,o 5,o 6,o 7,o 8,o 9,o 10,o 11,o 12,_,_,_,_,_], []⟩ W
          refine wpOp_step rfl (fun K' hK => ?_)
          go_simp
          exact hK _ _ ⟨rfl, rfl⟩
        · intro o W _
          show wpOp _ _ _ 4 _ ⟨#[_,_,_,_,_,_,_,_,_,_,_,_,_,_,o 13,_,_,_,_,_,_,_,_,_,_,_,_,_,_,_,_,_,_,_,_,_,_,_,_,_,_,_,_,_,o 0,o 1,.int .i64 H,.int .i64 (↑k),o 4,o 5,o 6,o 7,o 8,o 9,o 10,o 11,o 12,_,_,_,_,_], []⟩ W
          refine wpOp_step rfl (fun K' hK => ?_)
          go_simp
          exact hK _ _ ⟨rfl, rfl⟩
        · intro o W _
          show wpOp _ _ _ 5 _ ⟨#[_,_,_,_,_,_,_,_,_,_,_,_,_,_,o 13,_,_,_,_,_,_,_,_,_,_,_,_,_,_,_,_,_,_,_,_,_,_,_,_,_,_,_,_,_,o 0,o 1,o 2,o 3,o 4,o 5,o 6,o 7,o 8,o 9,o 10,o 11,o 12,_,_,_,_,_], []⟩ W
          refine wpOp_step rfl (fun K' hK => ?_)
          go_simp
          exact hK _ _ ⟨rfl, rfl⟩
        · intro o W _
          show wpOp _ _ _ 6 _ ⟨#[_,_,_,_,_,_,_,_,_,_,_,_,_,_,o 13,_,_,_,_,_,_,_,_,_,_,_,_,_,_,_,_,_,_,_,_,_,_,_,_,_,_,_,_,_,o 0,o 1,o 2,o 3,o 4,o 5,o 6,o 7,o 8,o 9,o 10,o 11,o 12,_,_,_,_,_], []⟩ W
          refine wpOp_step rfl (fun K' hK => ?_)
          go_simp
          exact hK _ _ ⟨rfl, rfl⟩
        · intro o W _
          show wpOp _ _ _ 7 _ ⟨#[_,_,_,_,_,_,_,_,_,_,_,_,_,_,o 13,_,_,_,_,_,_,_,_,_,_,_,_,_,_,_,_,_,_,_,_,_,_,_,_,_,_,_,_,_,o 0,o 1,o 2,o 3,o 4,.int .i64 H,.int .i64 (↑k),o 7,o 8,o 9,o 10,o 11,o 12,_,_,_,_,_], []⟩ W
          refine wpOp_step rfl (fun K' hK => ?_)
          go_simp
          exact hK _ _ ⟨rfl, rfl⟩
        · intro o W _
          show wpOp _ _ _ 8 _ ⟨#[_,_,_,_,_,_,_,_,_,_,_,_,_,_,o 13,_,_,_,_,_,_,_,_,_,_,_,_,_,_,_,_,_,_,_,_,_,_,_,_,_,_,_,_,_,o 0,o 1,o 2,o 3,o 4,o 5,o 6,o 7,o 8,o 9,o 10,o 11,o 12,_,_,_,_,_], []⟩ W
          refine wpOp_step rfl (fun K' hK => ?_)
          go_simp
          exact hK _ _ ⟨rfl, rfl⟩
        · intro o W _
          show wpOp _ _ _ 9 _ ⟨#[_,_,_,_,_,_,_,_,_,_,_,_,_,_,o 13,_,_,_,_,_,_,_,_,_,_,_,_,_,_,_,_,_,_,_,_,_,_,_,_,_,_,_,_,_,o 0,o 1,o 2,o 3,o 4,o 5,o 6,o 7,o 8,o 9,o 10,o 11,o 12,_,_,_,_,_], []⟩ W
          refine wpOp_step rfl (fun K' hK => ?_)
          go_simp
          exact hK _ _ ⟨rfl, rfl⟩
        · intro o W _
          show wpOp _ _ _ 10 _ ⟨#[_,_,_,_,_,_,_,_,_,_,_,_,_,_,o 13,_,_,_,_,_,_,_,_,_,_,_,_,_,_,_,_,_,_,_,_,_,_,_,_,_,_,_,_,_,o 0,.int .i64 (↑k),o 2,o 3,.int .i64 u,o 5,o 6,.int .i64 v,.int .i64 wd,.int .i64 l,o 10,o 11,o 12,_,_,_,_,_], []⟩ W
          refine wpOp_step rfl (fun K' hK => ?_)
          go_simp
          exact hK _ _ ⟨rfl, rfl⟩
        · intro o W _
          show wpOp _ _ _ 11 _ ⟨#[_,_,_,_,_,_,_,_,_,_,_,_,_,_,o 13,_,_,_,_,_,_,_,_,_,_,_,_,_,_,_,_,_,_,_,_,_,_,_,_,_,_,_,_,_,o 0,o 1,o 2,o 3,o 4,o 5,o 6,o 7,o 8,o 9,o 10,o 11,o 12,_,_,_,_,_], []⟩ W
          refine wpOp_step rfl (fun K' hK => ?_)
          go_simp
          exact hK _ _ ⟨rfl, rfl⟩
        · intro o W hj
          have hj : KL _ _ W := hj
          show wpOp _ _ _ 12 _ ⟨#[_,_,_,_,_,_,_,_,_,_,_,_,_,_,o 13,_,_,_,_,_,_,_,_,_,_,_,_,_,_,_,_,_,_,_,_,_,_,_,_,_,_,_,_,_,.agg #[.int .i64 a,.int .i64 b,.int .i64 c,.int .i64 d,.int .i64 p,.int .i64 q],o 1,o 2,o 3,o 4,o 5,o 6,o 7,o 8,o 9,.agg #[.int .i64 (↑k),.int .i64 u,.int .i64 v,.int .i64 0,.int .i64 wd,.int .i64 l],.int .i64 L,o 12,_,_,_,_,_], []⟩ W
          refine wpOp_step rfl (fun K' hK => ?_)
          go_simp
          refine (hpl _).mono ?_
          rintro e W1 ⟨rfl, hb1⟩
          exact hK _ _ ⟨rfl, hj.over hb1, hb1⟩
        · intro o W
          show wpOp _ _ _ 13 _ ⟨#[_,_,_,_,_,_,_,_,_,_,_,_,_,_,o 13,_,_,_,_,_,_,_,_,_,_,_,_,_,_,_,_,_,_,_,_,_,_,_,_,_,_,_,_,_,o 0,o 1,o 2,o 3,o 4,o 5,o 6,o 7,o 8,o 9,o 10,o 11,o 12,_,_,_,_,_], []⟩ W
          refine wpOp_step rfl (fun K' hK => ?_)
          go_simp
          exact hK _ _ ⟨rfl, rfl⟩
        · intro o W g_ hj hg_ hb_
          have hj : KL _ _ W := hj
          have hb_ : Blk W g_ 34 #[.int .i64 0, .int .i64 0, .int .i64 0, .int .i64 0, .int .i64 0, .int .i64 0] := hb_
          obtain ⟨cL, c0, c1, c2, c3, c4, c5⟩ := bl6 hb_
          have cF := hb_.frozen
          show wpOp _ _ _ 14 _ ⟨#[_,_,_,_,_,_,_,_,_,_,_,_,_,_,.pointer (some ⟨g_, 0, none⟩),_,_,_,_,_,_,_,_,_,_,_,_,_,_,_,_,_,_,_,_,_,_,_,_,_,_,_,_,_,o 0,o 1,o 2,o 3,o 4,o 5,o 6,o 7,o 8,o 9,o 10,o 11,.agg #[.int .i64 (↑k),.int .i64 u,.int .i64 v,.int .i64 G,.int .i64 wd,.int .i64 l],_,_,_,_,_], []⟩ W
          refine wpOp_step rfl (fun K' hK => ?_)
          go_simp
          exact hK _ _ ⟨rfl, st6 hj (by omega) (by simp <;> omega) hb_⟩
        · intro o g_ hh_ hp_
          have e0 : o 0 = .agg #[.int .i64 a,.int .i64 b,.int .i64 c,.int .i64 d,.int .i64 p,.int .i64 q] := hh_ 0 (by decide) (by simp)
          have e1 : o 1 = .int .i64 (↑k) := hh_ 1 (by decide) (by simp)
          have e2 : o 2 = .int .i64 H := hh_ 2 (by decide) (by simp)
          have e3 : o 3 = .int .i64 (↑k) := hh_ 3 (by decide) (by simp)
          have e4 : o 4 = .int .i64 u := hh_ 4 (by decide) (by simp)
          have e5 : o 5 = .int .i64 H := hh_ 5 (by decide) (by simp)
          have e6 : o 6 = .int .i64 (↑k) := hh_ 6 (by decide) (by simp)
          have e7 : o 7 = .int .i64 v := hh_ 7 (by decide) (by simp)
          have e8 : o 8 = .int .i64 wd := hh_ 8 (by decide) (by simp)
          have e9 : o 9 = .int .i64 l := hh_ 9 (by decide) (by simp)
          have e10 : o 10 = .agg #[.int .i64 (↑k),.int .i64 u,.int .i64 v,.int .i64 0,.int .i64 wd,.int .i64 l] := hh_ 10 (by decide) (by simp)
          have e11 : o 11 = .int .i64 L := hh_ 11 (by decide) (by simp)
          have e12 : o 12 = .agg #[.int .i64 (↑k),.int .i64 u,.int .i64 v,.int .i64 G,.int .i64 wd,.int .i64 l] := hh_ 12 (by decide) (by simp)
          have e13 : o 13 = ptrV (g_ 13) := hp_ 13 (by simp)
          rw [e0, e1, e2, e3, e4, e5, e6, e7, e8, e9, e10, e11, e12, e13]
        · intro W g_ hj ho_ hn_
          have hj : KL _ _ W := hj
          obtain ⟨bgn13, Bgn13⟩ := ho_ 13 (by simp)
          have Bgn13 : Blk W (g_ 13) 34 #[.int .i64 (↑k), .int .i64 u, .int .i64 v, .int .i64 G, .int .i64 wd, .int .i64 l] := Bgn13
          clear ho_ hn_
          dsimp only [ptrV]
          generalize g_ 13 = gn13 at *
          have hj := KL.cons Bgn13 hj
          clear Bgn13
          obtain ⟨cL0, c0_0, c0_1, c0_2, c0_3, c0_4, c0_5⟩ := bl6 (KL.blk hj (.head _))
          obtain ⟨cL1, c1_0, c1_1, c1_2, c1_3, c1_4, c1_5⟩ := bl6 (KL.blk hj (.tail _ (.head _)))
          obtain ⟨cL2, c2_0, c2_1, c2_2, c2_3, c2_4, c2_5⟩ := bl6 (KL.blk hj (.tail _ (.tail _ (.head _))))
          have hjb := hj.1
          have hjz := hjb.size
          clear hpl
          have zF2 := (KL.blk hj (.tail _ (.tail _ (.head _)))).frozen
          go_wp2
          have hzz : KL [(gn13, 34, #[.int .i64 ↑k, .int .i64 u, .int .i64 v, .int .i64 G, .int .i64 wd, .int .i64 l]), (w.heap.size, 31, #[.int .i64 a, .int .i64 b, .int .i64 c, .int .i64 d, .int .i64 p, .int .i64 q]), (w.heap.size + 1, 34, #[.int .i64 ↑k, .int .i64 u, .int .i64 v, .int .i64 G, .int .i64 wd, .int .i64 l])] w _ := KL.up6 2 hj rfl (by omega) (fun q_ hq_ => by simp only [List.eraseIdx_cons_succ, List.eraseIdx_cons_zero, List.mem_cons, List.not_mem_nil, or_false] at hq_; rcases hq_ with rfl | rfl <;> simp <;> omega)
          obtain ⟨x0, x1, x2, x3, x4, x5, x6⟩ := bl6 (KL.blk hzz (.tail _ (.tail _ (.head _))))
          exact bodyPost_ret (v := .tuple #[.agg #[.int .i64 ↑k, .int .i64 u, .int .i64 v, .int .i64 G, .int .i64 wd, .int .i64 l], .int .i64 0]) (by simp [results, Try.results20, go_sem, x1, x2, x3, x4, x5, x6]) rfl ⟨by rw [HRR.out]; rfl, hzz.1⟩
      · rw [if_neg hok] at hRR hpl
        have HRR := Lib.hid hRR
        have e1 : ∀ w, Sem.run Try.prog (binOp .neq 34 (.agg #[.int .i64 0, .int .i64 0, .int .i64 0, .int .i64 0, .int .i64 0, .int .i64 0]) (.agg #[.int .i64 0, .int .i64 0, .int .i64 0, .int .i64 0, .int .i64 0, .int .i64 0])) w = .ok (.bool false) w := fun w => by rw [neF]; simp
        clear hRR hok
        refine wp_region_any (by kernel_rfl) ?_
        try (change wpAny _ _ _ _ _ _ _ (World.drew _))
        refine wpAny_alloc (fr := fun o => #[.agg #[.int .i64 a,.int .i64 b,.int .i64 c,.int .i64 d,.int .i64 p,.int .i64 q], .int .i64 H, .int .i64 L, .int .i64 wd, .int .i64 l, .pointer (some ⟨w.heap.size, 0, none⟩), undef, undef, undef, undef, .pointer (some ⟨(w.heap.size + 1), 0, none⟩), u11, .int .i64 0, .int .i64 (↑k), o 13, .agg #[.int .i64 a,.int .i64 b,.int .i64 c,.int .i64 d,.int .i64 p,.int .i64 q], .int .i64 0, .int .i64 0, .bool false, undef, undef, .int .i64 H, .bool true, .bool false, .bool false, .int .i64 L, .bool true, .bool false, .bool false, .bool false, .int .i64 wd, .bool true, .bool false, .bool false, .bool false, .int .i64 l, .bool true, .bool false, .bool false, undef, .int .i64 (↑k), .bool true, u42, u43, o 0, o 1, o 2, o 3, o 4, o 5, o 6, o 7, o 8, o 9, o 10, o 11, o 12, u57, u58, u59, u60, undef]) (vals := fun i_ => ([.agg #[.int .i64 a,.int .i64 b,.int .i64 c,.int .i64 d,.int .i64 p,.int .i64 q], .int .i64 (↑k), .int .i64 H, .int .i64 (↑k), .int .i64 u, .int .i64 H, .int .i64 (↑k), .int .i64 v, .int .i64 wd, .int .i64 l, .agg #[.int .i64 (↑k),.int .i64 u,.int .i64 v,.int .i64 0,.int .i64 wd,.int .i64 l], .int .i64 L, .agg #[.int .i64 0,.int .i64 0,.int .i64 0,.int .i64 0,.int .i64 0,.int .i64 0], undef, undef] : List Value).getD i_ undef) (K := fun W_ => KL [(w.heap.size,31,#[.int .i64 a,.int .i64 b,.int .i64 c,.int .i64 d,.int .i64 p,.int .i64 q]),((w.heap.size + 1),34,#[.int .i64 0,.int .i64 0,.int .i64 0,.int .i64 0,.int .i64 0,.int .i64 0])] w W_) (dep := fun i_ => [[], [], [], [], [2, 3], [], [], [5, 6], [], [], [1, 4, 7, 8, 9], [], [0, 10, 11], [], [0, 1, 2, 3, 4, 5, 6, 7, 8, 9, 10, 11, 12, 13]].getD i_ []) (dv := fun i_ => [[], [], [], [], [2, 3], [], [], [5, 6], [], [], [1, 4, 7, 8, 9], [], [0, 10, 11], [], [12]].getD i_ []) (kd := fun i_ => [1, 0, 0, 0, 0, 0, 0, 0, 0, 0, 0, 0, 1, 2, 3].getD i_ 0) (sa := fun i_ => [13].getD i_ 0) (ss := [14]) (al := [13]) (l := [0, 1, 2, 3, 4, 5, 6, 7, 8, 9, 10, 11, 12, 13, 14]) (f0 := fun i_ => ([u44,u45,u46,u47,u48,u49,u50,u51,u52,u53,u54,u55,u56,u14,undef] : List Value).getD i_ undef) (B := wr.heap.size) (T := 34) (z := #[.int .i64 0, .int .i64 0, .int .i64 0, .int .i64 0, .int .i64 0, .int .i64 0]) (cont := fun t_ j_ => if j_ = 13 then (if 0 < t_ then #[.int .i64 0, .int .i64 0, .int .i64 0, .int .i64 0, .int .i64 0, .int .i64 0] else #[.int .i64 0, .int .i64 0, .int .i64 0, .int .i64 0, .int .i64 0, .int .i64 0]) else #[.int .i64 0, .int .i64 0, .int .i64 0, .int .i64 0, .int .i64 0, .int .i64 0]) (A := fun g_ => ⟨#[.agg #[.int .i64 a,.int .i64 b,.int .i64 c,.int .i64 d,.int .i64 p,.int .i64 q], .int .i64 H, .int .i64 L, .int .i64 wd, .int .i64 l, .pointer (some ⟨w.heap.size, 0, none⟩), undef, undef, undef, undef, .pointer (some ⟨(w.heap.size + 1), 0, none⟩), u11, .int .i64 0, .int .i64 (↑k), ptrV (g_ 13), .agg #[.int .i64 a,.int .i64 b,.int .i64 c,.int .i64 d,.int .i64 p,.int .i64 q], .int .i64 0, .int .i64 0, .bool false, undef, undef, .int .i64 H, .bool true, .bool false, .bool false, .int .i64 L, .bool true, .bool false, .bool false, .bool false, .int .i64 wd, .bool true, .bool false, .bool false, .bool false, .int .i64 l, .bool true, .bool false, .bool false, undef, .int .i64 (↑k), .bool true, u42, u43, .agg #[.int .i64 a,.int .i64 b,.int .i64 c,.int .i64 d,.int .i64 p,.int .i64 q], .int .i64 (↑k), .int .i64 H, .int .i64 (↑k), .int .i64 u, .int .i64 H, .int .i64 (↑k), .int .i64 v, .int .i64 wd, .int .i64 l, .agg #[.int .i64 (↑k),.int .i64 u,.int .i64 v,.int .i64 0,.int .i64 wd,.int .i64 l], .int .i64 L, .agg #[.int .i64 0,.int .i64 0,.int .i64 0,.int .i64 0,.int .i64 0,.int .i64 0], u57, u58, u59, u60, undef], []⟩) 15 rfl rfl (by decide +kernel) (by decide +kernel) ?_ ?_ ?_ ?_ (fun _ h_ => KL.alloc h_ _) ⟨?_, ?_, ?_, ?_, ?_, ?_, ?_, ?_, ?_, ?_, ?_, ?_, ?_, ?_, ?_, trivial⟩ ?_ ?_
        · exact KL.drew hK
        · first | exact Nat.le_refl _ | (simp; done) | (simp <;> omega) | (show _ ≤ World.heap.size _; omega) | omega
        · intro j_ hj_; simp only [List.mem_cons, List.not_mem_nil, or_false] at hj_; rcases hj_ with rfl <;> rfl
        · intro t_ ht_ j_ hj_ hn_; simp only [List.mem_cons, List.not_mem_nil, or_false] at hj_; rcases hj_ with rfl <;> rcases t_ with _ | _ <;> first | rfl | exact absurd rfl hn_ | exact absurd ht_ (by simp)
        · intro o W hj
          have hj : KL _ _ W := hj
          obtain ⟨cL, c0, c1, c2, c3, c4, c5⟩ := bl6 (KL.blk hj (.head _))
          show wpOp _ _ _ 0 _ ⟨#[_,_,_,_,_,_,_,_,_,_,_,_,_,_,o 13,_,_,_,_,_,_,_,_,_,_,_,_,_,_,_,_,_,_,_,_,_,_,_,_,_,_,_,_,_,o 0,o 1,o 2,o 3,o 4,o 5,o 6,o 7,o 8,o 9,o 10,o 11,o 12,_,_,_,_,_], []⟩ W
          refine wpOp_step rfl (fun K' hK => ?_)
          go_simp
          exact hK _ _ ⟨rfl, hj, Below.refl _ _⟩
        · intro o W _
          show wpOp _ _ _ 1 _ ⟨#[_,_,_,_,_,_,_,_,_,_,_,_,_,_,o 13,_,_,_,_,_,_,_,_,_,_,_,_,_,_,_,_,_,_,_,_,_,_,_,_,_,_,_,_,_,o 0,o 1,o 2,o 3,o 4,o 5,o 6,o 7,o 8,o 9,o 10,o 11,o 12,_,_,_,_,_], []⟩ W
          refine wpOp_step rfl (fun K' hK => ?_)
          go_simp
          exact hK _ _ ⟨rfl, rfl⟩
        · intro o W _
          show wpOp _ _ _ 2 _ ⟨#[_,_,_,_,_,_,_,_,_,_,_,_,_,_,o 13,_,_,_,_,_,_,_,_,_,_,_,_,_,_,_,_,_,_,_,_,_,_,_,_,_,_,_,_,_,o 0,o 1,o 2,o 3,o 4,o 5,o 6,o 7,o 8,o 9,o 10,o 11,o 12,_,_,_,_,_], []⟩ W
          refine wpOp_step rfl (fun K' hK => ?_)
          go_simp
          exact hK _ _ ⟨rfl, rfl⟩
        · intro o W _
          show wpOp _ _ _ 3 _ ⟨#[_,_,_,_,_,_,_,_,_,_,_,_,_,_,o 13,_,_,_,_,_,_,_,_,_,_,_,_,_,_,_,_,_,_,_,_,_,_,_,_,_,_,_,_,_,o 0,o 1,o 2,o 3,o 4,o 5,o 6,o 7,o 8,o 9,o 10,o 11,o 12,_,_,_,_,_], []⟩ W
          refine wpOp_step rfl (fun K' hK => ?_)
          go_simp
          exact hK _ _ ⟨rfl, rfl⟩
        · intro o W _
          show wpOp _ _ _ 4 _ ⟨#[_,_,_,_,_,_,_,_,_,_,_,_,_,_,o 13,_,_,_,_,_,_,_,_,_,_,_,_,_,_,_,_,_,_,_,_,_,_,_,_,_,_,_,_,_,o 0,o 1,.int .i64 H,.int .i64 (↑k),o 4,o 5,o 6,o 7,o 8,o 9,o 10,o 11,o 12,_,_,_,_,_], []⟩ W
          refine wpOp_step rfl (fun K' hK => ?_)
          go_simp
          exact hK _ _ ⟨rfl, rfl⟩
        · intro o W _
          show wpOp _ _ _ 5 _ ⟨#[_,_,_,_,_,_,_,_,_,_,_,_,_,_,o 13,_,_,_,_,_,_,_,_,_,_,_,_,_,_,_,_,_,_,_,_,_,_,_,_,_,_,_,_,_,o 0,o 1,o 2,o 3,o 4,o 5,o 6,o 7,o 8,o 9,o 10,o 11,o 12,_,_,_,_,_], []⟩ W
          refine wpOp_step rfl (fun K' hK => ?_)
          go_simp
          exact hK _ _ ⟨rfl, rfl⟩
        · intro o W _
          show wpOp _ _ _ 6 _ ⟨#[_,_,_,_,_,_,_,_,_,_,_,_,_,_,o 13,_,_,_,_,_,_,_,_,_,_,_,_,_,_,_,_,_,_,_,_,_,_,_,_,_,_,_,_,_,o 0,o 1,o 2,o 3,o 4,o 5,o 6,o 7,o 8,o 9,o 10,o 11,o 12,_,_,_,_,_], []⟩ W
          refine wpOp_step rfl (fun K' hK => ?_)
          go_simp
          exact hK _ _ ⟨rfl, rfl⟩
        · intro o W _
          show wpOp _ _ _ 7 _ ⟨#[_,_,_,_,_,_,_,_,_,_,_,_,_,_,o 13,_,_,_,_,_,_,_,_,_,_,_,_,_,_,_,_,_,_,_,_,_,_,_,_,_,_,_,_,_,o 0,o 1,o 2,o 3,o 4,.int .i64 H,.int .i64 (↑k),o 7,o 8,o 9,o 10,o 11,o 12,_,_,_,_,_], []⟩ W
          refine wpOp_step rfl (fun K' hK => ?_)
          go_simp
          exact hK _ _ ⟨rfl, rfl⟩
        · intro o W _
          show wpOp _ _ _ 8 _ ⟨#[_,_,_,_,_,_,_,_,_,_,_,_,_,_,o 13,_,_,_,_,_,_,_,_,_,_,_,_,_,_,_,_,_,_,_,_,_,_,_,_,_,_,_,_,_,o 0,o 1,o 2,o 3,o 4,o 5,o 6,o 7,o 8,o 9,o 10,o 11,o 12,_,_,_,_,_], []⟩ W
          refine wpOp_step rfl (fun K' hK => ?_)
          go_simp
          exact hK _ _ ⟨rfl, rfl⟩
        · intro o W _
          show wpOp _ _ _ 9 _ ⟨#[_,_,_,_,_,_,_,_,_,_,_,_,_,_,o 13,_,_,_,_,_,_,_,_,_,_,_,_,_,_,_,_,_,_,_,_,_,_,_,_,_,_,_,_,_,o 0,o 1,o 2,o 3,o 4,o 5,o 6,o 7,o 8,o 9,o 10,o 11,o 12,_,_,_,_,_], []⟩ W
          refine wpOp_step rfl (fun K' hK => ?_)
          go_simp
          exact hK _ _ ⟨rfl, rfl⟩
        · intro o W _
          show wpOp _ _ _ 10 _ ⟨#[_,_,_,_,_,_,_,_,_,_,_,_,_,_,o 13,_,_,_,_,_,_,_,_,_,_,_,_,_,_,_,_,_,_,_,_,_,_,_,_,_,_,_,_,_,o 0,.int .i64 (↑k),o 2,o 3,.int .i64 u,o 5,o 6,.int .i64 v,.int .i64 wd,.int .i64 l,o 10,o 11,o 12,_,_,_,_,_], []⟩ W
          refine wpOp_step rfl (fun K' hK => ?_)
          go_simp
          exact hK _ _ ⟨rfl, rfl⟩
        · intro o W _
          show wpOp _ _ _ 11 _ ⟨#[_,_,_,_,_,_,_,_,_,_,_,_,_,_,o 13,_,_,_,_,_,_,_,_,_,_,_,_,_,_,_,_,_,_,_,_,_,_,_,_,_,_,_,_,_,o 0,o 1,o 2,o 3,o 4,o 5,o 6,o 7,o 8,o 9,o 10,o 11,o 12,_,_,_,_,_], []⟩ W
          refine wpOp_step rfl (fun K' hK => ?_)
          go_simp
          exact hK _ _ ⟨rfl, rfl⟩
        · intro o W hj
          have hj : KL _ _ W := hj
          show wpOp _ _ _ 12 _ ⟨#[_,_,_,_,_,_,_,_,_,_,_,_,_,_,o 13,_,_,_,_,_,_,_,_,_,_,_,_,_,_,_,_,_,_,_,_,_,_,_,_,_,_,_,_,_,.agg #[.int .i64 a,.int .i64 b,.int .i64 c,.int .i64 d,.int .i64 p,.int .i64 q],o 1,o 2,o 3,o 4,o 5,o 6,o 7,o 8,o 9,.agg #[.int .i64 (↑k),.int .i64 u,.int .i64 v,.int .i64 0,.int .i64 wd,.int .i64 l],.int .i64 L,o 12,_,_,_,_,_], []⟩ W
          refine wpOp_step rfl (fun K' hK => ?_)
          go_simp
          refine (hpl _).mono ?_
          rintro e W1 ⟨rfl, hb1⟩
          exact hK _ _ ⟨rfl, hj.over hb1, hb1⟩
        · intro o W
          show wpOp _ _ _ 13 _ ⟨#[_,_,_,_,_,_,_,_,_,_,_,_,_,_,o 13,_,_,_,_,_,_,_,_,_,_,_,_,_,_,_,_,_,_,_,_,_,_,_,_,_,_,_,_,_,o 0,o 1,o 2,o 3,o 4,o 5,o 6,o 7,o 8,o 9,o 10,o 11,o 12,_,_,_,_,_], []⟩ W
          refine wpOp_step rfl (fun K' hK => ?_)
          go_simp
          exact hK _ _ ⟨rfl, rfl⟩
        · intro o W g_ hj hg_ hb_
          have hj : KL _ _ W := hj
          have hb_ : Blk W g_ 34 #[.int .i64 0, .int .i64 0, .int .i64 0, .int .i64 0, .int .i64 0, .int .i64 0] := hb_
          obtain ⟨cL, c0, c1, c2, c3, c4, c5⟩ := bl6 hb_
          have cF := hb_.frozen
          show wpOp _ _ _ 14 _ ⟨#[_,_,_,_,_,_,_,_,_,_,_,_,_,_,.pointer (some ⟨g_, 0, none⟩),_,_,_,_,_,_,_,_,_,_,_,_,_,_,_,_,_,_,_,_,_,_,_,_,_,_,_,_,_,o 0,o 1,o 2,o 3,o 4,o 5,o 6,o 7,o 8,o 9,o 10,o 11,.agg #[.int .i64 0,.int .i64 0,.int .i64 0,.int .i64 0,.int .i64 0,.int .i64 0],_,_,_,_,_], []⟩ W
          refine wpOp_step rfl (fun K' hK => ?_)
          go_simp
          exact hK _ _ ⟨rfl, st6 hj (by omega) (by simp <;> omega) hb_⟩
        · intro o g_ hh_ hp_
          have e0 : o 0 = .agg #[.int .i64 a,.int .i64 b,.int .i64 c,.int .i64 d,.int .i64 p,.int .i64 q] := hh_ 0 (by decide) (by simp)
          have e1 : o 1 = .int .i64 (↑k) := hh_ 1 (by decide) (by simp)
          have e2 : o 2 = .int .i64 H := hh_ 2 (by decide) (by simp)
          have e3 : o 3 = .int .i64 (↑k) := hh_ 3 (by decide) (by simp)
          have e4 : o 4 = .int .i64 u := hh_ 4 (by decide) (by simp)
          have e5 : o 5 = .int .i64 H := hh_ 5 (by decide) (by simp)
          have e6 : o 6 = .int .i64 (↑k) := hh_ 6 (by decide) (by simp)
          have e7 : o 7 = .int .i64 v := hh_ 7 (by decide) (by simp)
          have e8 : o 8 = .int .i64 wd := hh_ 8 (by decide) (by simp)
          have e9 : o 9 = .int .i64 l := hh_ 9 (by decide) (by simp)
          have e10 : o 10 = .agg #[.int .i64 (↑k),.int .i64 u,.int .i64 v,.int .i64 0,.int .i64 wd,.int .i64 l] := hh_ 10 (by decide) (by simp)
          have e11 : o 11 = .int .i64 L := hh_ 11 (by decide) (by simp)
          have e12 : o 12 = .agg #[.int .i64 0,.int .i64 0,.int .i64 0,.int .i64 0,.int .i64 0,.int .i64 0] := hh_ 12 (by decide) (by simp)
          have e13 : o 13 = ptrV (g_ 13) := hp_ 13 (by simp)
          rw [e0, e1, e2, e3, e4, e5, e6, e7, e8, e9, e10, e11, e12, e13]
        · intro W g_ hj ho_ hn_
          have hj : KL _ _ W := hj
          obtain ⟨bgn13, Bgn13⟩ := ho_ 13 (by simp)
          have Bgn13 : Blk W (g_ 13) 34 #[.int .i64 0, .int .i64 0, .int .i64 0, .int .i64 0, .int .i64 0, .int .i64 0] := Bgn13
          clear ho_ hn_
          dsimp only [ptrV]
          generalize g_ 13 = gn13 at *
          have hj := KL.cons Bgn13 hj
          clear Bgn13
          obtain ⟨cL0, c0_0, c0_1, c0_2, c0_3, c0_4, c0_5⟩ := bl6 (KL.blk hj (.head _))
          obtain ⟨cL1, c1_0, c1_1, c1_2, c1_3, c1_4, c1_5⟩ := bl6 (KL.blk hj (.tail _ (.head _)))
          obtain ⟨cL2, c2_0, c2_1, c2_2, c2_3, c2_4, c2_5⟩ := bl6 (KL.blk hj (.tail _ (.tail _ (.head _))))
          have hjb := hj.1
          have hjz := hjb.size
          clear hpl
          have hK2 : KL [(w.heap.size, 31, #[.int .i64 a, .int .i64 b, .int .i64 c, .int .i64 d, .int .i64 p, .int .i64 q]), (w.heap.size + 1, 34, #[.int .i64 0, .int .i64 0, .int .i64 0, .int .i64 0, .int .i64 0, .int .i64 0])] w _ := KL.part hj (fun q_ hq_ => .tail _ hq_)
          go_wp2
          go_roundw
          case rel => exact ⟨k + 1, f, by omega, by omega, by go_num, HRR.out, hK2⟩
          case measure => simp [intOf]; omega
theorem plan_any (a b c d p q H L wd l : Int) (w : World) : Calls Try.prog 20 #[.agg #[.int .i64 a, .int .i64 b, .int .i64 c, .int .i64 d, .int .i64 p, .int .i64 q], .int .i64 H, .int .i64 L, .int .i64 wd, .int .i64 l] w fun e w' => e = .returned (planV a b c d p q H L wd l) ∧ Below w.heap.size w w' := by
  have hck := check_any a b c d p q
  unfold planV
  by_cases h : chkE a b c d p q = 0
  · rw [if_pos h]
    cases h2 : plnB H L wd l
    · rw [if_neg (by simp)]
      rw [h] at hck
      have hi1 := isIn_any H 1 640000
      have hi2 := isIn_any L 1 640000
      have hi3 := isIn_any wd 1 10000
      have hi4 := isIn_any l 0 1000
      unfold plnB at h2
      cases e1 : inB H 1 640000
      · rw [e1] at hi1; exact plan_r0 a b c d p q H L wd l hck hi1 w
      · rw [e1] at hi1
        cases e2 : inB L 1 640000
        · rw [e2] at hi2; exact plan_r1 a b c d p q H L wd l hck hi1 hi2 w
        · rw [e2] at hi2
          cases e3 : inB wd 1 10000
          · rw [e3] at hi3; exact plan_r2 a b c d p q H L wd l hck hi1 hi2 hi3 w
          · rw [e3] at hi3
            cases e4 : inB l 0 1000
            · rw [e4] at hi4; exact plan_r3 a b c d p q H L wd l hck hi1 hi2 hi3 hi4 w
            · simp [e1, e2, e3, e4] at h2
    · rw [if_pos rfl]
      exact plan_l a b c d p q H L wd l w h h2
  · rw [if_neg h]
    exact plan_c a b c d p q H L wd l _ (by simpa using h) hck w
end Go.Proofs.Ytoenojnfhiimpaa
