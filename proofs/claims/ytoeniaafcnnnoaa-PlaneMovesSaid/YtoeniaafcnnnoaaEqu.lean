/- The walks of plane's Equal and Within. The half-spaces are valid, or the first error is handed back. -/
import Derived.Test.YtoeniaafcnnnoaaNrm
import Derived.Test.YtoeniaafcnnnoaaEqs
namespace Go.Proofs.Ytoeniaafcnnnoaa
open Go.RowKit

/-- two boxed half-spaces -/
def KHH (a b c d k l m n : Int) (w W : World) : Prop := KL [(w.heap.size, 32, #[.int .i64 a, .int .i64 b, .int .i64 c, .int .i64 d]), (w.heap.size + 1, 32, #[.int .i64 k, .int .i64 l, .int .i64 m, .int .i64 n])] w W
theorem KHH.alls {a b c d k l m n : Int} {w W : World} (h : KHH a b c d k l m n w W) : KHH a b c d k l m n w W ∧ w.heap.size + 1 < W.heap.size ∧
    (W.cell? ⟨w.heap.size, 0, none⟩ = some (.int .i64 a) ∧ W.cell? ⟨w.heap.size, 1, none⟩ = some (.int .i64 b) ∧ W.cell? ⟨w.heap.size, 2, none⟩ = some (.int .i64 c) ∧ W.cell? ⟨w.heap.size, 3, none⟩ = some (.int .i64 d)) ∧
    W.cell? ⟨w.heap.size + 1, 0, none⟩ = some (.int .i64 k) ∧ W.cell? ⟨w.heap.size + 1, 1, none⟩ = some (.int .i64 l) ∧ W.cell? ⟨w.heap.size + 1, 2, none⟩ = some (.int .i64 m) ∧ W.cell? ⟨w.heap.size + 1, 3, none⟩ = some (.int .i64 n) :=
  ⟨h, KL.size h (.tail _ (.head _)), blk4 (KL.blk h (.head _)), blk4 (KL.blk h (.tail _ (.head _)))⟩
theorem KHH.start {a b c d k l m n : Int} {w : World} : KHH a b c d k l m n w ((w.alloc (.cells #[.int .i64 a, .int .i64 b, .int .i64 c, .int .i64 d] 32)).alloc (.cells #[.int .i64 k, .int .i64 l, .int .i64 m, .int .i64 n] 32)) :=
  ⟨((Below.refl _ _).alloc (Nat.le_refl _) _).alloc (by simp) _, by
    intro q hq
    simp only [List.mem_cons, List.not_mem_nil, or_false] at hq
    rcases hq with rfl | rfl
    · exact (Blk.new2 rfl).alloc _
    · exact Blk.new2 (by simp)⟩
theorem keptHH {a b c d k l m n : Int} {w : World} : Kept (w.heap.size + 2) (KHH a b c d k l m n w) :=
  keptKL (by omega) (by simp) (.inr ⟨_, .tail _ (.head _), rfl⟩)
set_option maxHeartbeats 1000000 in
theorem Equal_bad (a b c d k l m n : Int) (h : eHH a b c d k l m n ≠ 0) (w : World) :
    Calls Try.prog 29 #[.agg #[.int .i64 a, .int .i64 b, .int .i64 c, .int .i64 d], .agg #[.int .i64 k, .int .i64 l, .int .i64 m, .int .i64 n]] w fun e w' => e = .returned (.tuple #[.bool false, .int .i64 (eHH a b c d k l m n)]) ∧ Below w.heap.size w w' := by
  have h1 := checkHalves_any a b c d k l m n
  generalize eHH a b c d k l m n = e1 at h1 h ⊢
  obtain ⟨t1, t2⟩ := ne_tests h
  clear h
  go_enter Try.func29, Try.ntmps29
  go_wp2_with (go_at_call 59; refine (h1 _).mono ?_; rintro e w1 ⟨rfl, hb1⟩; obtain ⟨hc1, hf1⟩ := bcell hb1; have hz1 := hb1.size; (try simp at hz1); (try have y10 : w.heap.size < w1.heap.size := (by omega)); (try have y10p : w.heap.size < w1.heap.size + 1 := (by omega)); (try have y11 : w.heap.size + 1 < w1.heap.size := (by omega)); (try have y11p : w.heap.size + 1 < w1.heap.size + 1 := (by omega)); (try have y12 : w.heap.size + 1 + 1 < w1.heap.size := (by omega)); (try have y12p : w.heap.size + 1 + 1 < w1.heap.size + 1 := (by omega)); (try have v0x1 : w0.heap.size < w1.heap.size := (by omega)); (try have v0x1p : w0.heap.size < w1.heap.size + 1 := (by omega)))
  go_ret2
  refine ⟨rfl, ?_⟩
  repeat (first | exact Below.refl _ _ | refine Below.drew ?_ | refine below_drewN ?_ _ | refine Below.setCell ?_ ?_ _ | refine Below.alloc ?_ ?_ _ | (refine Below.trans ?_ (bmono (by assumption) ?_)))
  all_goals (first | omega | (simp <;> omega))
set_option maxHeartbeats 1000000 in
theorem Within_bad (a b c d k l m n : Int) (h : eHH a b c d k l m n ≠ 0) (w : World) :
    Calls Try.prog 30 #[.agg #[.int .i64 a, .int .i64 b, .int .i64 c, .int .i64 d], .agg #[.int .i64 k, .int .i64 l, .int .i64 m, .int .i64 n]] w fun e w' => e = .returned (.tuple #[.bool false, .int .i64 (eHH a b c d k l m n)]) ∧ Below w.heap.size w w' := by
  have h1 := checkHalves_any a b c d k l m n
  generalize eHH a b c d k l m n = e1 at h1 h ⊢
  obtain ⟨t1, t2⟩ := ne_tests h
  clear h
  go_enter Try.func30, Try.ntmps30
  go_wp2_with (go_at_call 59; refine (h1 _).mono ?_; rintro e w1 ⟨rfl, hb1⟩; obtain ⟨hc1, hf1⟩ := bcell hb1; have hz1 := hb1.size; (try simp at hz1); (try have y10 : w.heap.size < w1.heap.size := (by omega)); (try have y10p : w.heap.size < w1.heap.size + 1 := (by omega)); (try have y11 : w.heap.size + 1 < w1.heap.size := (by omega)); (try have y11p : w.heap.size + 1 < w1.heap.size + 1 := (by omega)); (try have y12 : w.heap.size + 1 + 1 < w1.heap.size := (by omega)); (try have y12p : w.heap.size + 1 + 1 < w1.heap.size + 1 := (by omega)); (try have v0x1 : w0.heap.size < w1.heap.size := (by omega)); (try have v0x1p : w0.heap.size < w1.heap.size + 1 := (by omega)))
  go_ret2
  refine ⟨rfl, ?_⟩
  repeat (first | exact Below.refl _ _ | refine Below.drew ?_ | refine below_drewN ?_ _ | refine Below.setCell ?_ ?_ _ | refine Below.alloc ?_ ?_ _ | (refine Below.trans ?_ (bmono (by assumption) ?_)))
  all_goals (first | omega | (simp <;> omega))
set_option maxHeartbeats 4000000 in
theorem Equal_gen (a b c d k l m n p q r s t u v o : Int) (hck : ∀ w, Calls Try.prog 59 #[.agg #[.int .i64 a, .int .i64 b, .int .i64 c, .int .i64 d], .agg #[.int .i64 k, .int .i64 l, .int .i64 m, .int .i64 n]] w fun e w' => e = .returned (.int .i64 0) ∧ Below w.heap.size w w')
    (hn1 : ∀ w, Calls Try.prog 58 #[.agg #[.int .i64 a, .int .i64 b, .int .i64 c, .int .i64 d]] w fun e w' => e = .returned (.agg #[.int .i64 p, .int .i64 q, .int .i64 r, .int .i64 s]) ∧ Below w.heap.size w w') (hn2 : ∀ w, Calls Try.prog 58 #[.agg #[.int .i64 k, .int .i64 l, .int .i64 m, .int .i64 n]] w fun e w' => e = .returned (.agg #[.int .i64 t, .int .i64 u, .int .i64 v, .int .i64 o]) ∧ Below w.heap.size w w') (w : World) :
    Calls Try.prog 29 #[.agg #[.int .i64 a, .int .i64 b, .int .i64 c, .int .i64 d], .agg #[.int .i64 k, .int .i64 l, .int .i64 m, .int .i64 n]] w fun e w' => e = .returned (.tuple #[.bool (p == t && (q == u && (r == v && s == o))), .int .i64 0]) ∧ Below w.heap.size w w' := by
  have q1 : ∀ W, KHH a b c d k l m n w W → Calls Try.prog 58 #[.agg #[.int .i64 a, .int .i64 b, .int .i64 c, .int .i64 d]] W _ := keepsKL hn1
  have q2 : ∀ W, KHH a b c d k l m n w W → Calls Try.prog 58 #[.agg #[.int .i64 k, .int .i64 l, .int .i64 m, .int .i64 n]] W _ := keepsKL hn2
  have hq := eqH p q r s t u v o
  generalize (p == t && (q == u && (r == v && s == o))) = B at hq ⊢
  clear hn1 hn2
  go_enter Try.func29, Try.ntmps29
  go_wp2_with (go_at_call 59; refine (hck _).mono ?_; rintro e w1 ⟨rfl, hb1⟩; obtain ⟨hc1, hf1⟩ := bcell hb1; have hz1 := hb1.size; (try simp at hz1); (try have y10 : w.heap.size < w1.heap.size := (by omega)); (try have y10p : w.heap.size < w1.heap.size + 1 := (by omega)); (try have y11 : w.heap.size + 1 < w1.heap.size := (by omega)); (try have y11p : w.heap.size + 1 < w1.heap.size + 1 := (by omega)); (try have y12 : w.heap.size + 1 + 1 < w1.heap.size := (by omega)); (try have y12p : w.heap.size + 1 + 1 < w1.heap.size + 1 := (by omega)); (try have v0x1 : w0.heap.size < w1.heap.size := (by omega)); (try have v0x1p : w0.heap.size < w1.heap.size + 1 := (by omega)))
  have hk1 : KHH a b c d k l m n w w1 := KL.over KHH.start hb1
  have hka := KHH.alls hk1
  clear hb1 hc1 hf1 hck
  go_region_held3 (fun W => KHH a b c d k l m n w W ∧ w.heap.size + 1 < W.heap.size ∧
        (W.cell? ⟨w.heap.size, 0, none⟩ = some (.int .i64 a) ∧ W.cell? ⟨w.heap.size, 1, none⟩ = some (.int .i64 b) ∧ W.cell? ⟨w.heap.size, 2, none⟩ = some (.int .i64 c) ∧ W.cell? ⟨w.heap.size, 3, none⟩ = some (.int .i64 d)) ∧
        W.cell? ⟨w.heap.size + 1, 0, none⟩ = some (.int .i64 k) ∧ W.cell? ⟨w.heap.size + 1, 1, none⟩ = some (.int .i64 l) ∧ W.cell? ⟨w.heap.size + 1, 2, none⟩ = some (.int .i64 m) ∧ W.cell? ⟨w.heap.size + 1, 3, none⟩ = some (.int .i64 n))
      (first | exact hka | exact KHH.alls ‹_› | exact (KHH.alls (KL.drew ‹_›)))
      (first
        | (revert hb2; intro hb2; go_at_call 58; refine (q2 _ ?_).mono ?_; (first | assumption | exact And.left ‹_›); rintro e w3 ⟨rfl, hk3, hb3⟩)
        | (go_at_call 58; refine (q1 _ ?_).mono ?_; (first | assumption | exact And.left ‹_›); rintro e w2 ⟨rfl, hk2, hb2⟩))
  have hk4 := ‹KHH a b c d k l m n w w3›
  go_wp2
  go_ret2
  exact ⟨rfl, hk4.1⟩
def wthB (p q r s t u v o : Int) : Bool := (p == t && (q == u && r == v)) && decide (s ≤ o)
set_option maxHeartbeats 4000000 in
theorem Within_gen (a b c d k l m n p q r s t u v o : Int) (hck : ∀ w, Calls Try.prog 59 #[.agg #[.int .i64 a, .int .i64 b, .int .i64 c, .int .i64 d], .agg #[.int .i64 k, .int .i64 l, .int .i64 m, .int .i64 n]] w fun e w' => e = .returned (.int .i64 0) ∧ Below w.heap.size w w')
    (hn1 : ∀ w, Calls Try.prog 58 #[.agg #[.int .i64 a, .int .i64 b, .int .i64 c, .int .i64 d]] w fun e w' => e = .returned (.agg #[.int .i64 p, .int .i64 q, .int .i64 r, .int .i64 s]) ∧ Below w.heap.size w w') (hn2 : ∀ w, Calls Try.prog 58 #[.agg #[.int .i64 k, .int .i64 l, .int .i64 m, .int .i64 n]] w fun e w' => e = .returned (.agg #[.int .i64 t, .int .i64 u, .int .i64 v, .int .i64 o]) ∧ Below w.heap.size w w') (w : World) :
    Calls Try.prog 30 #[.agg #[.int .i64 a, .int .i64 b, .int .i64 c, .int .i64 d], .agg #[.int .i64 k, .int .i64 l, .int .i64 m, .int .i64 n]] w fun e w' => e = .returned (.tuple #[.bool (wthB p q r s t u v o), .int .i64 0]) ∧ Below w.heap.size w w' := by
  have hq := eqV p q r t u v
  have ho1 := outward_any p q r s
  have ho2 := outward_any t u v o
  obtain ⟨X, HX⟩ : ∃ X, X = wthB p q r s t u v o := ⟨_, rfl⟩
  rw [← HX]
  go_enter Try.func30, Try.ntmps30
  go_wp2_with (go_at_call 59; refine (hck _).mono ?_; rintro e w1 ⟨rfl, hb1⟩; obtain ⟨hc1, hf1⟩ := bcell hb1; have hz1 := hb1.size; (try simp at hz1); (try have y10 : w.heap.size < w1.heap.size := (by omega)); (try have y10p : w.heap.size < w1.heap.size + 1 := (by omega)); (try have y11 : w.heap.size + 1 < w1.heap.size := (by omega)); (try have y11p : w.heap.size + 1 < w1.heap.size + 1 := (by omega)); (try have y12 : w.heap.size + 1 + 1 < w1.heap.size := (by omega)); (try have y12p : w.heap.size + 1 + 1 < w1.heap.size + 1 := (by omega)); (try have v0x1 : w0.heap.size < w1.heap.size := (by omega)); (try have v0x1p : w0.heap.size < w1.heap.size + 1 := (by omega)))
  have hk1 : KHH a b c d k l m n w w1 := KL.over KHH.start hb1
  clear hb1 hc1 hf1 hck
  go_cut [7, 8] from 15 to 18 (fun s3 s4 wx => TwoB (w.heap.size + 2) 32 #[.int .i64 p, .int .i64 q, .int .i64 r, .int .i64 s] #[.int .i64 t, .int .i64 u, .int .i64 v, .int .i64 o] s3 s4 wx ∧ KHH a b c d k l m n w wx)
  case first =>
    refine wp_region_any (by kernel_rfl) ?_
    try (change wpAny _ _ _ _ _ _ _ (World.drew _))
    refine wpAny_begin (I := (fun L act W => ∃ u15 u16 u17 u18 u7 u8, act = ⟨#[.agg #[.int .i64 a, .int .i64 b, .int .i64 c, .int .i64 d], .agg #[.int .i64 k, .int .i64 l, .int .i64 m, .int .i64 n], .pointer (some ⟨w.heap.size, 0, none⟩), .pointer (some ⟨w.heap.size + 1, 0, none⟩), .bool false, .int .i64 0, .int .i64 0, u7, u8, .agg #[.int .i64 a, .int .i64 b, .int .i64 c, .int .i64 d], .agg #[.int .i64 k, .int .i64 l, .int .i64 m, .int .i64 n], .int .i64 0, .int .i64 0, .bool false, undef, u15, u16, u17, u18, undef, undef, undef, undef, undef, undef, undef, undef, undef, undef, undef, undef], []⟩ ∧ (L 0 = true → u15 = .agg #[.int .i64 a, .int .i64 b, .int .i64 c, .int .i64 d]) ∧ (L 1 = true → u16 = .agg #[.int .i64 p, .int .i64 q, .int .i64 r, .int .i64 s]) ∧ (L 2 = true → u17 = .agg #[.int .i64 k, .int .i64 l, .int .i64 m, .int .i64 n]) ∧ (L 3 = true → u18 = .agg #[.int .i64 t, .int .i64 u, .int .i64 v, .int .i64 o]) ∧ J2 (w.heap.size + 2) (KHH a b c d k l m n w) 32 #[.int .i64 0, .int .i64 0, .int .i64 0, .int .i64 0] #[.int .i64 p, .int .i64 q, .int .i64 r, .int .i64 s] #[.int .i64 t, .int .i64 u, .int .i64 v, .int .i64 o] (L 4) (L 5) (L 6) (L 7) u7 u8 W)) (dep := fun i => [[], [0], [], [1, 2], [], [], [0, 1, 3, 4, 5], [0, 1, 2, 3, 4, 5, 6]].getD i []) 8 rfl (by decide +kernel) ?_ ⟨?_, ?_, ?_, ?_, ?_, ?_, ?_, ?_, trivial⟩ ?_
    · exact ⟨_, _, _, _, _, _, rfl, (fun e => nomatch (show false = true from e)), (fun e => nomatch (show false = true from e)), (fun e => nomatch (show false = true from e)), (fun e => nomatch (show false = true from e)), J2.begin (KL.drew hk1)⟩
    · rintro L act W hi ⟨_⟩ ⟨u15, u16, u17, u18, u7, u8, rfl, h0, h1, h2, h3, hj⟩
      obtain ⟨_, hsz, ⟨p1, p2, p3, p4⟩, p5, p6, p7, p8⟩ := hj.hk.alls
      refine wpOp_step rfl (fun K' hK => ?_)
      go_simp
      exact hK _ _ ⟨_, _, _, _, _, _, rfl, (fun _ => rfl), h1, h2, h3, hj⟩
    · rintro L act W hi ⟨d0, _⟩ ⟨u15, u16, u17, u18, u7, u8, rfl, h0, h1, h2, h3, hj⟩
      obtain rfl := h0 d0
      refine wpOp_step rfl (fun K' hK => ?_)
      go_simp
      refine (hn1 _).mono ?_
      rintro e W1 ⟨rfl, hb1⟩
      exact hK _ _ ⟨_, _, _, _, _, _, rfl, h0, (fun _ => rfl), h2, h3, hj.over keptHH hb1⟩
    · rintro L act W hi ⟨_⟩ ⟨u15, u16, u17, u18, u7, u8, rfl, h0, h1, h2, h3, hj⟩
      obtain ⟨_, hsz, ⟨p1, p2, p3, p4⟩, p5, p6, p7, p8⟩ := hj.hk.alls
      refine wpOp_step rfl (fun K' hK => ?_)
      go_simp
      exact hK _ _ ⟨_, _, _, _, _, _, rfl, h0, h1, (fun _ => rfl), h3, hj⟩
    · rintro L act W hi ⟨d1, d2, _⟩ ⟨u15, u16, u17, u18, u7, u8, rfl, h0, h1, h2, h3, hj⟩
      obtain rfl := h1 d1
      obtain rfl := h2 d2
      refine wpOp_step rfl (fun K' hK => ?_)
      go_simp
      refine (hn2 _).mono ?_
      rintro e W1 ⟨rfl, hb1⟩
      exact hK _ _ ⟨_, _, _, _, _, _, rfl, h0, h1, h2, (fun _ => rfl), hj.over keptHH hb1⟩
    · rintro L act W hi ⟨_⟩ ⟨u15, u16, u17, u18, u7, u8, rfl, h0, h1, h2, h3, hj⟩
      refine wpOp_step rfl (fun K' hK => ?_)
      go_simp
      exact hK _ _ ⟨_, _, _, _, _, _, rfl, h0, h1, h2, h3, hj.alloc1 keptHH hi⟩
    · rintro L act W hi ⟨_⟩ ⟨u15, u16, u17, u18, u7, u8, rfl, h0, h1, h2, h3, hj⟩
      refine wpOp_step rfl (fun K' hK => ?_)
      go_simp
      exact hK _ _ ⟨_, _, _, _, _, _, rfl, h0, h1, h2, h3, hj.alloc2 keptHH hi⟩
    · rintro L act W hi ⟨d0, d1, d3, d4, d5, _⟩ ⟨u15, u16, u17, u18, u7, u8, rfl, h0, h1, h2, h3, hj⟩
      obtain rfl := h0 d0
      obtain rfl := h1 d1
      obtain rfl := h3 d3
      have hj0 := hj
      obtain ⟨g, rfl, hg, hblk⟩ := hj.first d4 hi
      obtain ⟨f0, f1, f2, f3⟩ := blk4 hblk
      have fz := hblk.frozen
      refine wpOp_step rfl (fun K' hK => ?_)
      go_simp
      exact hK _ _ ⟨_, _, _, _, _, _, rfl, h0, h1, h2, h3, hj.store1 d4 d5 (Blk.setq hblk _ _ _ _) (fun k cs hk hb => Blk.far4 hb hk _ _ _ _) ((Kept.set keptHH (Kept.set keptHH (Kept.set keptHH (Kept.set keptHH hj0.hk hg _) hg _) hg _) hg _))⟩
    · rintro L act W hi ⟨d0, d1, d2, d3, d4, d5, d6, _⟩ ⟨u15, u16, u17, u18, u7, u8, rfl, h0, h1, h2, h3, hj⟩
      obtain rfl := h0 d0
      obtain rfl := h1 d1
      obtain rfl := h2 d2
      obtain rfl := h3 d3
      have hj0 := hj
      obtain ⟨g, rfl, hg, hblk⟩ := hj.second d5 hi
      obtain ⟨f0, f1, f2, f3⟩ := blk4 hblk
      have fz := hblk.frozen
      refine wpOp_step rfl (fun K' hK => ?_)
      go_simp
      exact hK _ _ ⟨_, _, _, _, _, _, rfl, h0, h1, h2, h3, hj.store2 d4 d5 (Blk.setq hblk _ _ _ _) (fun k cs hk hb => Blk.far4 hb hk _ _ _ _) ((Kept.set keptHH (Kept.set keptHH (Kept.set keptHH (Kept.set keptHH hj0.hk hg _) hg _) hg _) hg _))⟩
    · rintro L act W hall ⟨u15, u16, u17, u18, u7, u8, rfl, h0, h1, h2, h3, hj⟩
      obtain rfl := h0 (hall 0 (by omega))
      obtain rfl := h1 (hall 1 (by omega))
      obtain rfl := h2 (hall 2 (by omega))
      obtain rfl := h3 (hall 3 (by omega))
      have H := hj.two (hall 4 (by omega)) (hall 5 (by omega)) (hall 6 (by omega)) (hall 7 (by omega))
      go_wp2_with fail
      go_meet
      exact H
  case rest =>
    obtain ⟨⟨g, j, rfl, rfl, hne, hg, hk, hgb, hkb⟩, hK⟩ := hcut
    clear hne hn1 hn2
    have hbw := hK.1
    clear hK
    have hL : KL [(g, 32, #[.int .i64 p, .int .i64 q, .int .i64 r, .int .i64 s]), (j, 32, #[.int .i64 t, .int .i64 u, .int .i64 v, .int .i64 o])] wc wc := ⟨Below.refl _ _, by
      intro q hq
      simp only [List.mem_cons, List.not_mem_nil, or_false] at hq
      rcases hq with rfl | rfl
      · exact hgb
      · exact hkb⟩
    have hbb : ∀ W, KL [(g, 32, #[.int .i64 p, .int .i64 q, .int .i64 r, .int .i64 s]), (j, 32, #[.int .i64 t, .int .i64 u, .int .i64 v, .int .i64 o])] wc W → Below w.heap.size w W := fun W h => hbw.trans (bmono h.1 hbw.size)
    clear hgb hkb hbw
    obtain ⟨KG, hKG⟩ : ∃ K : World → Prop, K = KL [(g, 32, #[.int .i64 p, .int .i64 q, .int .i64 r, .int .i64 s]), (j, 32, #[.int .i64 t, .int .i64 u, .int .i64 v, .int .i64 o])] wc := ⟨_, rfl⟩
    rw [← hKG] at hL hbb
    have hcl : ∀ W, KG W → g < W.heap.size ∧ j < W.heap.size ∧ (W.cell? ⟨g, 0, none⟩ = some (.int .i64 p) ∧ W.cell? ⟨g, 1, none⟩ = some (.int .i64 q) ∧ W.cell? ⟨g, 2, none⟩ = some (.int .i64 r) ∧ W.cell? ⟨g, 3, none⟩ = some (.int .i64 s)) ∧
        W.cell? ⟨j, 0, none⟩ = some (.int .i64 t) ∧ W.cell? ⟨j, 1, none⟩ = some (.int .i64 u) ∧ W.cell? ⟨j, 2, none⟩ = some (.int .i64 v) ∧ W.cell? ⟨j, 3, none⟩ = some (.int .i64 o) := by
      intro W h
      rw [hKG] at h
      exact ⟨KL.size h (.head _), KL.size h (.tail _ (.head _)), blk4 (KL.blk h (.head _)), blk4 (KL.blk h (.tail _ (.head _)))⟩
    have hov : ∀ W W', KG W → Below W.heap.size W W' → KG W' := fun W W' h hb => by rw [hKG] at h ⊢; exact KL.over h hb
    have hdr : ∀ W, KG W → KG W.drew := fun W h => by rw [hKG] at h ⊢; exact KL.drew h
    clear hKG
    cases hE : (p == t && (q == u && r == v))
    · rw [hE] at hq
      rw [show wthB p q r s t u v o = false by simp only [wthB, hE, Bool.false_and]] at HX
      clear hE
      have HY := Lib.hid HX
      clear HX
      go_wp2_with fail
      refine wp_region_any (by kernel_rfl) ?_
      try (change wpAny _ _ _ _ _ _ _ (World.drew _))
      refine wpAny_begin (I := (fun L act W => ∃ u19 u20 u21 u22 u23 u24 u25 u26 u27 u28 u29 u30 u4 u5, act = ⟨#[.agg #[.int .i64 a, .int .i64 b, .int .i64 c, .int .i64 d], .agg #[.int .i64 k, .int .i64 l, .int .i64 m, .int .i64 n], .pointer (some ⟨w.heap.size, 0, none⟩), .pointer (some ⟨w.heap.size + 1, 0, none⟩), u4, u5, .int .i64 0, .pointer (some ⟨g, 0, none⟩), .pointer (some ⟨j, 0, none⟩), .agg #[.int .i64 a, .int .i64 b, .int .i64 c, .int .i64 d], .agg #[.int .i64 k, .int .i64 l, .int .i64 m, .int .i64 n], .int .i64 0, .int .i64 0, .bool false, undef, u15, u16, u17, u18, u19, u20, u21, u22, u23, u24, u25, u26, u27, u28, u29, u30], []⟩ ∧ (L 0 = true → u19 = .agg #[.int .i64 p, .int .i64 q, .int .i64 r, .int .i64 s]) ∧ (L 1 = true → u20 = .agg #[.int .i64 p, .int .i64 q, .int .i64 r]) ∧ (L 2 = true → u21 = .agg #[.int .i64 t, .int .i64 u, .int .i64 v, .int .i64 o]) ∧ (L 3 = true → u22 = .agg #[.int .i64 t, .int .i64 u, .int .i64 v]) ∧ (L 4 = true → u23 = .bool false) ∧ (L 5 = true → u24 = .bool false) ∧ (L 6 = true → u25 = undef) ∧ (L 7 = true → u26 = undef) ∧ (L 8 = true → u27 = undef) ∧ (L 9 = true → u28 = undef) ∧ (L 10 = true → u29 = undef) ∧ (L 11 = true → u30 = .bool false) ∧ (L 12 = true → u4 = .bool false) ∧ (L 13 = true → u5 = .int .i64 0) ∧ (KG) W)) (dep := fun i => [[], [0], [], [1, 2], [1, 3], [3, 4], [5], [5, 6], [5], [5, 8], [5, 7, 9], [5, 10], [0, 1, 2, 3, 4, 5, 6, 7, 8, 9, 10, 11], [0, 1, 2, 3, 4, 5, 6, 7, 8, 9, 10, 11, 12]].getD i []) 14 rfl (by decide +kernel) ?_ ⟨?_, ?_, ?_, ?_, ?_, ?_, ?_, ?_, ?_, ?_, ?_, ?_, ?_, ?_, trivial⟩ ?_
      · exact ⟨_, _, _, _, _, _, _, _, _, _, _, _, _, _, rfl, (fun e => nomatch (show false = true from e)), (fun e => nomatch (show false = true from e)), (fun e => nomatch (show false = true from e)), (fun e => nomatch (show false = true from e)), (fun e => nomatch (show false = true from e)), (fun e => nomatch (show false = true from e)), (fun e => nomatch (show false = true from e)), (fun e => nomatch (show false = true from e)), (fun e => nomatch (show false = true from e)), (fun e => nomatch (show false = true from e)), (fun e => nomatch (show false = true from e)), (fun e => nomatch (show false = true from e)), (fun e => nomatch (show false = true from e)), (fun e => nomatch (show false = true from e)), hdr _ hL⟩
      · rintro L act W hi ⟨_⟩ ⟨u19, u20, u21, u22, u23, u24, u25, u26, u27, u28, u29, u30, u4, u5, rfl, h0, h1, h2, h3, h4, h5, h6, h7, h8, h9, h10, h11, h12, h13, hj⟩
        obtain ⟨hg1, hj1, ⟨c1, c2, c3, c4⟩, c5, c6, c7, c8⟩ := hcl _ hj
        refine wpOp_step rfl (fun K' hK => ?_)
        go_simp
        exact hK _ _ ⟨_, _, _, _, _, _, _, _, _, _, _, _, _, _, rfl, (fun _ => rfl), h1, h2, h3, h4, h5, h6, h7, h8, h9, h10, h11, h12, h13, hj⟩
      · rintro L act W hi ⟨d0, _⟩ ⟨u19, u20, u21, u22, u23, u24, u25, u26, u27, u28, u29, u30, u4, u5, rfl, h0, h1, h2, h3, h4, h5, h6, h7, h8, h9, h10, h11, h12, h13, hj⟩
        obtain rfl := h0 d0
        refine wpOp_step rfl (fun K' hK => ?_)
        go_simp
        refine (ho1 _).mono ?_
        rintro e W1 ⟨rfl, hb1⟩
        exact hK _ _ ⟨_, _, _, _, _, _, _, _, _, _, _, _, _, _, rfl, h0, (fun _ => rfl), h2, h3, h4, h5, h6, h7, h8, h9, h10, h11, h12, h13, hov _ _ hj hb1⟩
      · rintro L act W hi ⟨_⟩ ⟨u19, u20, u21, u22, u23, u24, u25, u26, u27, u28, u29, u30, u4, u5, rfl, h0, h1, h2, h3, h4, h5, h6, h7, h8, h9, h10, h11, h12, h13, hj⟩
        obtain ⟨hg1, hj1, ⟨c1, c2, c3, c4⟩, c5, c6, c7, c8⟩ := hcl _ hj
        refine wpOp_step rfl (fun K' hK => ?_)
        go_simp
        exact hK _ _ ⟨_, _, _, _, _, _, _, _, _, _, _, _, _, _, rfl, h0, h1, (fun _ => rfl), h3, h4, h5, h6, h7, h8, h9, h10, h11, h12, h13, hj⟩
      · rintro L act W hi ⟨d1, d2, _⟩ ⟨u19, u20, u21, u22, u23, u24, u25, u26, u27, u28, u29, u30, u4, u5, rfl, h0, h1, h2, h3, h4, h5, h6, h7, h8, h9, h10, h11, h12, h13, hj⟩
        obtain rfl := h1 d1
        obtain rfl := h2 d2
        refine wpOp_step rfl (fun K' hK => ?_)
        go_simp
        refine (ho2 _).mono ?_
        rintro e W1 ⟨rfl, hb1⟩
        exact hK _ _ ⟨_, _, _, _, _, _, _, _, _, _, _, _, _, _, rfl, h0, h1, h2, (fun _ => rfl), h4, h5, h6, h7, h8, h9, h10, h11, h12, h13, hov _ _ hj hb1⟩
      · rintro L act W hi ⟨d1, d3, _⟩ ⟨u19, u20, u21, u22, u23, u24, u25, u26, u27, u28, u29, u30, u4, u5, rfl, h0, h1, h2, h3, h4, h5, h6, h7, h8, h9, h10, h11, h12, h13, hj⟩
        obtain rfl := h1 d1
        obtain rfl := h3 d3
        refine wpOp_step rfl (fun K' hK => ?_)
        go_simp
        exact hK _ _ ⟨_, _, _, _, _, _, _, _, _, _, _, _, _, _, rfl, h0, h1, h2, h3, (fun _ => rfl), h5, h6, h7, h8, h9, h10, h11, h12, h13, hj⟩
      · rintro L act W hi ⟨d3, d4, _⟩ ⟨u19, u20, u21, u22, u23, u24, u25, u26, u27, u28, u29, u30, u4, u5, rfl, h0, h1, h2, h3, h4, h5, h6, h7, h8, h9, h10, h11, h12, h13, hj⟩
        obtain rfl := h3 d3
        obtain rfl := h4 d4
        refine wpOp_step rfl (fun K' hK => ?_)
        go_simp
        exact hK _ _ ⟨_, _, _, _, _, _, _, _, _, _, _, _, _, _, rfl, h0, h1, h2, h3, h4, (fun _ => rfl), h6, h7, h8, h9, h10, h11, h12, h13, hj⟩
      · rintro L act W hi ⟨d5, _⟩ ⟨u19, u20, u21, u22, u23, u24, u25, u26, u27, u28, u29, u30, u4, u5, rfl, h0, h1, h2, h3, h4, h5, h6, h7, h8, h9, h10, h11, h12, h13, hj⟩
        obtain rfl := h5 d5
        refine wpOp_step rfl (fun K' hK => ?_)
        go_simp
        exact hK _ _ ⟨_, _, _, _, _, _, _, _, _, _, _, _, _, _, rfl, h0, h1, h2, h3, h4, h5, (fun _ => rfl), h7, h8, h9, h10, h11, h12, h13, hj⟩
      · rintro L act W hi ⟨d5, d6, _⟩ ⟨u19, u20, u21, u22, u23, u24, u25, u26, u27, u28, u29, u30, u4, u5, rfl, h0, h1, h2, h3, h4, h5, h6, h7, h8, h9, h10, h11, h12, h13, hj⟩
        obtain rfl := h5 d5
        obtain rfl := h6 d6
        obtain ⟨hg1, hj1, ⟨c1, c2, c3, c4⟩, c5, c6, c7, c8⟩ := hcl _ hj
        refine wpOp_step rfl (fun K' hK => ?_)
        go_simp
        exact hK _ _ ⟨_, _, _, _, _, _, _, _, _, _, _, _, _, _, rfl, h0, h1, h2, h3, h4, h5, h6, (fun _ => rfl), h8, h9, h10, h11, h12, h13, hj⟩
      · rintro L act W hi ⟨d5, _⟩ ⟨u19, u20, u21, u22, u23, u24, u25, u26, u27, u28, u29, u30, u4, u5, rfl, h0, h1, h2, h3, h4, h5, h6, h7, h8, h9, h10, h11, h12, h13, hj⟩
        obtain rfl := h5 d5
        refine wpOp_step rfl (fun K' hK => ?_)
        go_simp
        exact hK _ _ ⟨_, _, _, _, _, _, _, _, _, _, _, _, _, _, rfl, h0, h1, h2, h3, h4, h5, h6, h7, (fun _ => rfl), h9, h10, h11, h12, h13, hj⟩
      · rintro L act W hi ⟨d5, d8, _⟩ ⟨u19, u20, u21, u22, u23, u24, u25, u26, u27, u28, u29, u30, u4, u5, rfl, h0, h1, h2, h3, h4, h5, h6, h7, h8, h9, h10, h11, h12, h13, hj⟩
        obtain rfl := h5 d5
        obtain rfl := h8 d8
        obtain ⟨hg1, hj1, ⟨c1, c2, c3, c4⟩, c5, c6, c7, c8⟩ := hcl _ hj
        refine wpOp_step rfl (fun K' hK => ?_)
        go_simp
        exact hK _ _ ⟨_, _, _, _, _, _, _, _, _, _, _, _, _, _, rfl, h0, h1, h2, h3, h4, h5, h6, h7, h8, (fun _ => rfl), h10, h11, h12, h13, hj⟩
      · rintro L act W hi ⟨d5, d7, d9, _⟩ ⟨u19, u20, u21, u22, u23, u24, u25, u26, u27, u28, u29, u30, u4, u5, rfl, h0, h1, h2, h3, h4, h5, h6, h7, h8, h9, h10, h11, h12, h13, hj⟩
        obtain rfl := h5 d5
        obtain rfl := h7 d7
        obtain rfl := h9 d9
        refine wpOp_step rfl (fun K' hK => ?_)
        go_simp
        exact hK _ _ ⟨_, _, _, _, _, _, _, _, _, _, _, _, _, _, rfl, h0, h1, h2, h3, h4, h5, h6, h7, h8, h9, (fun _ => rfl), h11, h12, h13, hj⟩
      · rintro L act W hi ⟨d5, d10, _⟩ ⟨u19, u20, u21, u22, u23, u24, u25, u26, u27, u28, u29, u30, u4, u5, rfl, h0, h1, h2, h3, h4, h5, h6, h7, h8, h9, h10, h11, h12, h13, hj⟩
        obtain rfl := h5 d5
        obtain rfl := h10 d10
        refine wpOp_step rfl (fun K' hK => ?_)
        go_simp
        exact hK _ _ ⟨_, _, _, _, _, _, _, _, _, _, _, _, _, _, rfl, h0, h1, h2, h3, h4, h5, h6, h7, h8, h9, h10, (fun _ => rfl), h12, h13, hj⟩
      · rintro L act W hi ⟨d0, d1, d2, d3, d4, d5, d6, d7, d8, d9, d10, d11, _⟩ ⟨u19, u20, u21, u22, u23, u24, u25, u26, u27, u28, u29, u30, u4, u5, rfl, h0, h1, h2, h3, h4, h5, h6, h7, h8, h9, h10, h11, h12, h13, hj⟩
        obtain rfl := h0 d0
        obtain rfl := h1 d1
        obtain rfl := h2 d2
        obtain rfl := h3 d3
        obtain rfl := h4 d4
        obtain rfl := h5 d5
        obtain rfl := h6 d6
        obtain rfl := h7 d7
        obtain rfl := h8 d8
        obtain rfl := h9 d9
        obtain rfl := h10 d10
        obtain rfl := h11 d11
        refine wpOp_step rfl (fun K' hK => ?_)
        go_simp
        exact hK _ _ ⟨_, _, _, _, _, _, _, _, _, _, _, _, _, _, rfl, h0, h1, h2, h3, h4, h5, h6, h7, h8, h9, h10, h11, (fun _ => rfl), h13, hj⟩
      · rintro L act W hi ⟨d0, d1, d2, d3, d4, d5, d6, d7, d8, d9, d10, d11, d12, _⟩ ⟨u19, u20, u21, u22, u23, u24, u25, u26, u27, u28, u29, u30, u4, u5, rfl, h0, h1, h2, h3, h4, h5, h6, h7, h8, h9, h10, h11, h12, h13, hj⟩
        obtain rfl := h0 d0
        obtain rfl := h1 d1
        obtain rfl := h2 d2
        obtain rfl := h3 d3
        obtain rfl := h4 d4
        obtain rfl := h5 d5
        obtain rfl := h6 d6
        obtain rfl := h7 d7
        obtain rfl := h8 d8
        obtain rfl := h9 d9
        obtain rfl := h10 d10
        obtain rfl := h11 d11
        obtain rfl := h12 d12
        refine wpOp_step rfl (fun K' hK => ?_)
        go_simp
        exact hK _ _ ⟨_, _, _, _, _, _, _, _, _, _, _, _, _, _, rfl, h0, h1, h2, h3, h4, h5, h6, h7, h8, h9, h10, h11, h12, (fun _ => rfl), hj⟩
      · rintro L act W hall ⟨u19, u20, u21, u22, u23, u24, u25, u26, u27, u28, u29, u30, u4, u5, rfl, h0, h1, h2, h3, h4, h5, h6, h7, h8, h9, h10, h11, h12, h13, hj⟩
        obtain rfl := h0 (hall 0 (by omega))
        obtain rfl := h1 (hall 1 (by omega))
        obtain rfl := h2 (hall 2 (by omega))
        obtain rfl := h3 (hall 3 (by omega))
        obtain rfl := h4 (hall 4 (by omega))
        obtain rfl := h5 (hall 5 (by omega))
        obtain rfl := h6 (hall 6 (by omega))
        obtain rfl := h7 (hall 7 (by omega))
        obtain rfl := h8 (hall 8 (by omega))
        obtain rfl := h9 (hall 9 (by omega))
        obtain rfl := h10 (hall 10 (by omega))
        obtain rfl := h11 (hall 11 (by omega))
        obtain rfl := h12 (hall 12 (by omega))
        obtain rfl := h13 (hall 13 (by omega))
        have hb9 := hbb _ hj
        go_wp2
        go_ret2
        exact ⟨by rw [HY.out]; rfl, hb9⟩
    · rw [hE] at hq
      rw [show wthB p q r s t u v o = decide (s ≤ o) by simp only [wthB, hE, Bool.true_and]] at HX
      clear hE
      have HY := Lib.hid HX
      clear HX
      go_wp2_with fail
      refine wp_region_any (by kernel_rfl) ?_
      try (change wpAny _ _ _ _ _ _ _ (World.drew _))
      refine wpAny_begin (I := (fun L act W => ∃ u19 u20 u21 u22 u23 u24 u25 u26 u27 u28 u29 u30 u4 u5, act = ⟨#[.agg #[.int .i64 a, .int .i64 b, .int .i64 c, .int .i64 d], .agg #[.int .i64 k, .int .i64 l, .int .i64 m, .int .i64 n], .pointer (some ⟨w.heap.size, 0, none⟩), .pointer (some ⟨w.heap.size + 1, 0, none⟩), u4, u5, .int .i64 0, .pointer (some ⟨g, 0, none⟩), .pointer (some ⟨j, 0, none⟩), .agg #[.int .i64 a, .int .i64 b, .int .i64 c, .int .i64 d], .agg #[.int .i64 k, .int .i64 l, .int .i64 m, .int .i64 n], .int .i64 0, .int .i64 0, .bool false, undef, u15, u16, u17, u18, u19, u20, u21, u22, u23, u24, u25, u26, u27, u28, u29, u30], []⟩ ∧ (L 0 = true → u19 = .agg #[.int .i64 p, .int .i64 q, .int .i64 r, .int .i64 s]) ∧ (L 1 = true → u20 = .agg #[.int .i64 p, .int .i64 q, .int .i64 r]) ∧ (L 2 = true → u21 = .agg #[.int .i64 t, .int .i64 u, .int .i64 v, .int .i64 o]) ∧ (L 3 = true → u22 = .agg #[.int .i64 t, .int .i64 u, .int .i64 v]) ∧ (L 4 = true → u23 = .bool true) ∧ (L 5 = true → u24 = .bool true) ∧ (L 6 = true → u25 = .pointer (some ⟨g, 3, none⟩)) ∧ (L 7 = true → u26 = .int .i64 s) ∧ (L 8 = true → u27 = .pointer (some ⟨j, 3, none⟩)) ∧ (L 9 = true → u28 = .int .i64 o) ∧ (L 10 = true → u29 = .bool (decide (s ≤ o))) ∧ (L 11 = true → u30 = .bool (decide (s ≤ o))) ∧ (L 12 = true → u4 = .bool (decide (s ≤ o))) ∧ (L 13 = true → u5 = .int .i64 0) ∧ (KG) W)) (dep := fun i => [[], [0], [], [1, 2], [1, 3], [3, 4], [5], [5, 6], [5], [5, 8], [5, 7, 9], [5, 10], [0, 1, 2, 3, 4, 5, 6, 7, 8, 9, 10, 11], [0, 1, 2, 3, 4, 5, 6, 7, 8, 9, 10, 11, 12]].getD i []) 14 rfl (by decide +kernel) ?_ ⟨?_, ?_, ?_, ?_, ?_, ?_, ?_, ?_, ?_, ?_, ?_, ?_, ?_, ?_, trivial⟩ ?_
      · exact ⟨_, _, _, _, _, _, _, _, _, _, _, _, _, _, rfl, (fun e => nomatch (show false = true from e)), (fun e => nomatch (show false = true from e)), (fun e => nomatch (show false = true from e)), (fun e => nomatch (show false = true from e)), (fun e => nomatch (show false = true from e)), (fun e => nomatch (show false = true from e)), (fun e => nomatch (show false = true from e)), (fun e => nomatch (show false = true from e)), (fun e => nomatch (show false = true from e)), (fun e => nomatch (show false = true from e)), (fun e => nomatch (show false = true from e)), (fun e => nomatch (show false = true from e)), (fun e => nomatch (show false = true from e)), (fun e => nomatch (show false = true from e)), hdr _ hL⟩
      · rintro L act W hi ⟨_⟩ ⟨u19, u20, u21, u22, u23, u24, u25, u26, u27, u28, u29, u30, u4, u5, rfl, h0, h1, h2, h3, h4, h5, h6, h7, h8, h9, h10, h11, h12, h13, hj⟩
        obtain ⟨hg1, hj1, ⟨c1, c2, c3, c4⟩, c5, c6, c7, c8⟩ := hcl _ hj
        refine wpOp_step rfl (fun K' hK => ?_)
        go_simp
        exact hK _ _ ⟨_, _, _, _, _, _, _, _, _, _, _, _, _, _, rfl, (fun _ => rfl), h1, h2, h3, h4, h5, h6, h7, h8, h9, h10, h11, h12, h13, hj⟩
      · rintro L act W hi ⟨d0, _⟩ ⟨u19, u20, u21, u22, u23, u24, u25, u26, u27, u28, u29, u30, u4, u5, rfl, h0, h1, h2, h3, h4, h5, h6, h7, h8, h9, h10, h11, h12, h13, hj⟩
        obtain rfl := h0 d0
        refine wpOp_step rfl (fun K' hK => ?_)
        go_simp
        refine (ho1 _).mono ?_
        rintro e W1 ⟨rfl, hb1⟩
        exact hK _ _ ⟨_, _, _, _, _, _, _, _, _, _, _, _, _, _, rfl, h0, (fun _ => rfl), h2, h3, h4, h5, h6, h7, h8, h9, h10, h11, h12, h13, hov _ _ hj hb1⟩
      · rintro L act W hi ⟨_⟩ ⟨u19, u20, u21, u22, u23, u24, u25, u26, u27, u28, u29, u30, u4, u5, rfl, h0, h1, h2, h3, h4, h5, h6, h7, h8, h9, h10, h11, h12, h13, hj⟩
        obtain ⟨hg1, hj1, ⟨c1, c2, c3, c4⟩, c5, c6, c7, c8⟩ := hcl _ hj
        refine wpOp_step rfl (fun K' hK => ?_)
        go_simp
        exact hK _ _ ⟨_, _, _, _, _, _, _, _, _, _, _, _, _, _, rfl, h0, h1, (fun _ => rfl), h3, h4, h5, h6, h7, h8, h9, h10, h11, h12, h13, hj⟩
      · rintro L act W hi ⟨d1, d2, _⟩ ⟨u19, u20, u21, u22, u23, u24, u25, u26, u27, u28, u29, u30, u4, u5, rfl, h0, h1, h2, h3, h4, h5, h6, h7, h8, h9, h10, h11, h12, h13, hj⟩
        obtain rfl := h1 d1
        obtain rfl := h2 d2
        refine wpOp_step rfl (fun K' hK => ?_)
        go_simp
        refine (ho2 _).mono ?_
        rintro e W1 ⟨rfl, hb1⟩
        exact hK _ _ ⟨_, _, _, _, _, _, _, _, _, _, _, _, _, _, rfl, h0, h1, h2, (fun _ => rfl), h4, h5, h6, h7, h8, h9, h10, h11, h12, h13, hov _ _ hj hb1⟩
      · rintro L act W hi ⟨d1, d3, _⟩ ⟨u19, u20, u21, u22, u23, u24, u25, u26, u27, u28, u29, u30, u4, u5, rfl, h0, h1, h2, h3, h4, h5, h6, h7, h8, h9, h10, h11, h12, h13, hj⟩
        obtain rfl := h1 d1
        obtain rfl := h3 d3
        refine wpOp_step rfl (fun K' hK => ?_)
        go_simp
        exact hK _ _ ⟨_, _, _, _, _, _, _, _, _, _, _, _, _, _, rfl, h0, h1, h2, h3, (fun _ => rfl), h5, h6, h7, h8, h9, h10, h11, h12, h13, hj⟩
      · rintro L act W hi ⟨d3, d4, _⟩ ⟨u19, u20, u21, u22, u23, u24, u25, u26, u27, u28, u29, u30, u4, u5, rfl, h0, h1, h2, h3, h4, h5, h6, h7, h8, h9, h10, h11, h12, h13, hj⟩
        obtain rfl := h3 d3
        obtain rfl := h4 d4
        refine wpOp_step rfl (fun K' hK => ?_)
        go_simp
        exact hK _ _ ⟨_, _, _, _, _, _, _, _, _, _, _, _, _, _, rfl, h0, h1, h2, h3, h4, (fun _ => rfl), h6, h7, h8, h9, h10, h11, h12, h13, hj⟩
      · rintro L act W hi ⟨d5, _⟩ ⟨u19, u20, u21, u22, u23, u24, u25, u26, u27, u28, u29, u30, u4, u5, rfl, h0, h1, h2, h3, h4, h5, h6, h7, h8, h9, h10, h11, h12, h13, hj⟩
        obtain rfl := h5 d5
        refine wpOp_step rfl (fun K' hK => ?_)
        go_simp
        exact hK _ _ ⟨_, _, _, _, _, _, _, _, _, _, _, _, _, _, rfl, h0, h1, h2, h3, h4, h5, (fun _ => rfl), h7, h8, h9, h10, h11, h12, h13, hj⟩
      · rintro L act W hi ⟨d5, d6, _⟩ ⟨u19, u20, u21, u22, u23, u24, u25, u26, u27, u28, u29, u30, u4, u5, rfl, h0, h1, h2, h3, h4, h5, h6, h7, h8, h9, h10, h11, h12, h13, hj⟩
        obtain rfl := h5 d5
        obtain rfl := h6 d6
        obtain ⟨hg1, hj1, ⟨c1, c2, c3, c4⟩, c5, c6, c7, c8⟩ := hcl _ hj
        refine wpOp_step rfl (fun K' hK => ?_)
        go_simp
        exact hK _ _ ⟨_, _, _, _, _, _, _, _, _, _, _, _, _, _, rfl, h0, h1, h2, h3, h4, h5, h6, (fun _ => rfl), h8, h9, h10, h11, h12, h13, hj⟩
      · rintro L act W hi ⟨d5, _⟩ ⟨u19, u20, u21, u22, u23, u24, u25, u26, u27, u28, u29, u30, u4, u5, rfl, h0, h1, h2, h3, h4, h5, h6, h7, h8, h9, h10, h11, h12, h13, hj⟩
        obtain rfl := h5 d5
        refine wpOp_step rfl (fun K' hK => ?_)
        go_simp
        exact hK _ _ ⟨_, _, _, _, _, _, _, _, _, _, _, _, _, _, rfl, h0, h1, h2, h3, h4, h5, h6, h7, (fun _ => rfl), h9, h10, h11, h12, h13, hj⟩
      · rintro L act W hi ⟨d5, d8, _⟩ ⟨u19, u20, u21, u22, u23, u24, u25, u26, u27, u28, u29, u30, u4, u5, rfl, h0, h1, h2, h3, h4, h5, h6, h7, h8, h9, h10, h11, h12, h13, hj⟩
        obtain rfl := h5 d5
        obtain rfl := h8 d8
        obtain ⟨hg1, hj1, ⟨c1, c2, c3, c4⟩, c5, c6, c7, c8⟩ := hcl _ hj
        refine wpOp_step rfl (fun K' hK => ?_)
        go_simp
        exact hK _ _ ⟨_, _, _, _, _, _, _, _, _, _, _, _, _, _, rfl, h0, h1, h2, h3, h4, h5, h6, h7, h8, (fun _ => rfl), h10, h11, h12, h13, hj⟩
      · rintro L act W hi ⟨d5, d7, d9, _⟩ ⟨u19, u20, u21, u22, u23, u24, u25, u26, u27, u28, u29, u30, u4, u5, rfl, h0, h1, h2, h3, h4, h5, h6, h7, h8, h9, h10, h11, h12, h13, hj⟩
        obtain rfl := h5 d5
        obtain rfl := h7 d7
        obtain rfl := h9 d9
        refine wpOp_step rfl (fun K' hK => ?_)
        go_simp
        exact hK _ _ ⟨_, _, _, _, _, _, _, _, _, _, _, _, _, _, rfl, h0, h1, h2, h3, h4, h5, h6, h7, h8, h9, (fun _ => rfl), h11, h12, h13, hj⟩
      · rintro L act W hi ⟨d5, d10, _⟩ ⟨u19, u20, u21, u22, u23, u24, u25, u26, u27, u28, u29, u30, u4, u5, rfl, h0, h1, h2, h3, h4, h5, h6, h7, h8, h9, h10, h11, h12, h13, hj⟩
        obtain rfl := h5 d5
        obtain rfl := h10 d10
        refine wpOp_step rfl (fun K' hK => ?_)
        go_simp
        exact hK _ _ ⟨_, _, _, _, _, _, _, _, _, _, _, _, _, _, rfl, h0, h1, h2, h3, h4, h5, h6, h7, h8, h9, h10, (fun _ => rfl), h12, h13, hj⟩
      · rintro L act W hi ⟨d0, d1, d2, d3, d4, d5, d6, d7, d8, d9, d10, d11, _⟩ ⟨u19, u20, u21, u22, u23, u24, u25, u26, u27, u28, u29, u30, u4, u5, rfl, h0, h1, h2, h3, h4, h5, h6, h7, h8, h9, h10, h11, h12, h13, hj⟩
        obtain rfl := h0 d0
        obtain rfl := h1 d1
        obtain rfl := h2 d2
        obtain rfl := h3 d3
        obtain rfl := h4 d4
        obtain rfl := h5 d5
        obtain rfl := h6 d6
        obtain rfl := h7 d7
        obtain rfl := h8 d8
        obtain rfl := h9 d9
        obtain rfl := h10 d10
        obtain rfl := h11 d11
        refine wpOp_step rfl (fun K' hK => ?_)
        go_simp
        exact hK _ _ ⟨_, _, _, _, _, _, _, _, _, _, _, _, _, _, rfl, h0, h1, h2, h3, h4, h5, h6, h7, h8, h9, h10, h11, (fun _ => rfl), h13, hj⟩
      · rintro L act W hi ⟨d0, d1, d2, d3, d4, d5, d6, d7, d8, d9, d10, d11, d12, _⟩ ⟨u19, u20, u21, u22, u23, u24, u25, u26, u27, u28, u29, u30, u4, u5, rfl, h0, h1, h2, h3, h4, h5, h6, h7, h8, h9, h10, h11, h12, h13, hj⟩
        obtain rfl := h0 d0
        obtain rfl := h1 d1
        obtain rfl := h2 d2
        obtain rfl := h3 d3
        obtain rfl := h4 d4
        obtain rfl := h5 d5
        obtain rfl := h6 d6
        obtain rfl := h7 d7
        obtain rfl := h8 d8
        obtain rfl := h9 d9
        obtain rfl := h10 d10
        obtain rfl := h11 d11
        obtain rfl := h12 d12
        refine wpOp_step rfl (fun K' hK => ?_)
        go_simp
        exact hK _ _ ⟨_, _, _, _, _, _, _, _, _, _, _, _, _, _, rfl, h0, h1, h2, h3, h4, h5, h6, h7, h8, h9, h10, h11, h12, (fun _ => rfl), hj⟩
      · rintro L act W hall ⟨u19, u20, u21, u22, u23, u24, u25, u26, u27, u28, u29, u30, u4, u5, rfl, h0, h1, h2, h3, h4, h5, h6, h7, h8, h9, h10, h11, h12, h13, hj⟩
        obtain rfl := h0 (hall 0 (by omega))
        obtain rfl := h1 (hall 1 (by omega))
        obtain rfl := h2 (hall 2 (by omega))
        obtain rfl := h3 (hall 3 (by omega))
        obtain rfl := h4 (hall 4 (by omega))
        obtain rfl := h5 (hall 5 (by omega))
        obtain rfl := h6 (hall 6 (by omega))
        obtain rfl := h7 (hall 7 (by omega))
        obtain rfl := h8 (hall 8 (by omega))
        obtain rfl := h9 (hall 9 (by omega))
        obtain rfl := h10 (hall 10 (by omega))
        obtain rfl := h11 (hall 11 (by omega))
        obtain rfl := h12 (hall 12 (by omega))
        obtain rfl := h13 (hall 13 (by omega))
        have hb9 := hbb _ hj
        go_wp2
        go_ret2
        exact ⟨by rw [HY.out]; rfl, hb9⟩
end Go.Proofs.Ytoeniaafcnnnoaa
