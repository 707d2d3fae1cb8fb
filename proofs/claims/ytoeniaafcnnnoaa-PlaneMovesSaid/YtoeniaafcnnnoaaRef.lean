/- The walks of the reference's Normal and Within. The half-spaces are valid. -/
import Derived.Test.YtoeniaafcnnnoaaEqu
namespace Go.Proofs.Ytoeniaafcnnnoaa
open Go.RowKit

set_option maxHeartbeats 4000000 in
theorem rnormal_in (a b c d : Int) (h : eH a b c d = 0) (w : World) :
    Calls Try.prog 31 #[.agg #[.int .i64 a, .int .i64 b, .int .i64 c, .int .i64 d]] w fun e w' => e = .returned (.agg #[.int .i64 (a.tdiv (gcd3 a b c)), .int .i64 (b.tdiv (gcd3 a b c)), .int .i64 (c.tdiv (gcd3 a b c)), .int .i64 (d / (gcd3 a b c))]) ∧ Below w.heap.size w w' := by
  obtain ⟨hok, hz⟩ := eH_zero h
  obtain ⟨h1, h2, h3, h4⟩ := okF_iff.1 hok
  have h0 := zer_no hz
  have hx := inF_C h1
  have hy := inF_C h2
  have hzz := inF_C h3
  have a1 := rabs_any a hx
  have a2 := rabs_any b hy
  have a3 := rabs_any c hzz
  have g1 := refDivisor_any a.natAbs b.natAbs (by have := inC_abs hx; omega) (by have := inC_abs hy; omega)
  have g2 := refDivisor_any (Nat.gcd a.natAbs b.natAbs) c.natAbs (by have := gcd3_le hx hy; omega) (by have := inC_abs hzz; omega)
  have e3 : Nat.gcd (Nat.gcd a.natAbs b.natAbs) c.natAbs = gcd3 a b c := rfl
  rw [e3] at g2
  clear e3
  have hr := floor_any d (gcd3 a b c) (by have := inD_abs h4; omega) (by omega)
  have w1 : IntKind.i64.wrap (a.tdiv (gcd3 a b c)) = a.tdiv (gcd3 a b c) := IntWalk.i64_in _ (by have := tdiv_bd (gcd3 a b c) (inF_abs h1); omega)
  have w2 : IntKind.i64.wrap (b.tdiv (gcd3 a b c)) = b.tdiv (gcd3 a b c) := IntWalk.i64_in _ (by have := tdiv_bd (gcd3 a b c) (inF_abs h2); omega)
  have w3 : IntKind.i64.wrap (c.tdiv (gcd3 a b c)) = c.tdiv (gcd3 a b c) := IntWalk.i64_in _ (by have := tdiv_bd (gcd3 a b c) (inF_abs h3); omega)
  have W1 := Lib.hid w1
  have W2 := Lib.hid w2
  have W3 := Lib.hid w3
  clear w1 w2 w3 h hok hz h1 h2 h3 h4 hx hy hzz
  generalize d / (gcd3 a b c : Int) = s at hr ⊢
  generalize gcd3 a b c = f at g2 h0 hr W1 W2 W3 ⊢
  generalize Nat.gcd a.natAbs b.natAbs = e at g1 g2
  generalize a.natAbs = p at a1 g1
  generalize b.natAbs = q at a2 g1
  generalize c.natAbs = r at a3 g2
  have h0' : (f : Int) ≠ 0 := by omega
  go_enter Try.func31, Try.ntmps31
  go_wp2
  go_quiet ((first
    | (go_at_call_of 61 a; exact (a1 _).mono fun _ _ h => ⟨h.1, _, h.2.symm⟩)
    | (go_at_call_of 61 b; exact (a2 _).mono fun _ _ h => ⟨h.1, _, h.2.symm⟩)
    | (go_at_call_of 61 c; exact (a3 _).mono fun _ _ h => ⟨h.1, _, h.2.symm⟩)
    | (go_at_call_of 60 q; exact (g1 _).mono fun _ _ ⟨n, h, hn⟩ => ⟨h, _, hn.trans (drewN_drewN _ _ _)⟩)
    | (go_at_call_of 60 e; exact (g2 _).mono fun _ _ ⟨n, h, hn⟩ => ⟨h, _, hn.trans (drewN_drewN _ _ _)⟩)))
  clear a1 a2 a3 g1 g2
  go_wp2
  have hKR : (KL [(w.heap.size, 32, #[.int .i64 a, .int .i64 b, .int .i64 c, .int .i64 d]), (w.heap.size + 1, 32, #[.int .i64 0, .int .i64 0, .int .i64 0, .int .i64 0])] w) (World.drew (World.drewN ((w.alloc (.cells #[.int .i64 a, .int .i64 b, .int .i64 c, .int .i64 d] 32)).alloc (.cells #[.int .i64 0, .int .i64 0, .int .i64 0, .int .i64 0] 32)) nq)) :=
    KL.drew ⟨below_drewN (((Below.refl _ _).alloc (Nat.le_refl _) _).alloc (by simp) _) nq, by
      intro q hq
      simp only [List.mem_cons, List.not_mem_nil, or_false] at hq
      rcases hq with rfl | rfl
      · exact ((Blk.new2 rfl).alloc _).drewN nq
      · exact (Blk.new2 (by simp)).drewN nq⟩
  refine wp_region_any (by kernel_rfl) ?_
  try (change wpAny _ _ _ _ _ _ _ (World.drew _))
  refine wpAny_begin (I := (fun L act W => ∃ u15 u16 u17 u18 u19 u20 u21 u22 u23 u24 u25 u26 u27 u28 u29 u30 u31, act = ⟨#[.agg #[.int .i64 a, .int .i64 b, .int .i64 c, .int .i64 d], .pointer (some ⟨w.heap.size, 0, none⟩), .pointer (some ⟨w.heap.size + 1, 0, none⟩), .int .i64 (f : Int), .pointer (some ⟨w.heap.size, 0, none⟩), .int .i64 a, .int .i64 (p : Int), .pointer (some ⟨w.heap.size, 1, none⟩), .int .i64 b, .int .i64 (q : Int), .int .i64 (e : Int), .pointer (some ⟨w.heap.size, 2, none⟩), .int .i64 c, .int .i64 (r : Int), .int .i64 (f : Int), u15, u16, u17, u18, u19, u20, u21, u22, u23, u24, u25, u26, u27, u28, u29, u30, u31], []⟩ ∧ (L 0 = true → u15 = .pointer (some ⟨w.heap.size, 0, none⟩)) ∧ (L 1 = true → u16 = .int .i64 a) ∧ (L 2 = true → u17 = .int .i64 (f : Int)) ∧ (L 3 = true → u18 = .int .i64 (IntKind.i64.wrap (a.tdiv (f : Int)))) ∧ (L 4 = true → u19 = .pointer (some ⟨w.heap.size, 1, none⟩)) ∧ (L 5 = true → u20 = .int .i64 b) ∧ (L 6 = true → u21 = .int .i64 (f : Int)) ∧ (L 7 = true → u22 = .int .i64 (IntKind.i64.wrap (b.tdiv (f : Int)))) ∧ (L 8 = true → u23 = .pointer (some ⟨w.heap.size, 2, none⟩)) ∧ (L 9 = true → u24 = .int .i64 c) ∧ (L 10 = true → u25 = .int .i64 (f : Int)) ∧ (L 11 = true → u26 = .int .i64 (IntKind.i64.wrap (c.tdiv (f : Int)))) ∧ (L 12 = true → u27 = .pointer (some ⟨w.heap.size, 3, none⟩)) ∧ (L 13 = true → u28 = .int .i64 d) ∧ (L 14 = true → u29 = .int .i64 (f : Int)) ∧ (L 15 = true → u30 = .int .i64 s) ∧ (L 16 = true → u31 = .agg #[.int .i64 (IntKind.i64.wrap (a.tdiv (f : Int))), .int .i64 (IntKind.i64.wrap (b.tdiv (f : Int))), .int .i64 (IntKind.i64.wrap (c.tdiv (f : Int))), .int .i64 s]) ∧ (L 17 = false → (KL [(w.heap.size, 32, #[.int .i64 a, .int .i64 b, .int .i64 c, .int .i64 d]), (w.heap.size + 1, 32, #[.int .i64 0, .int .i64 0, .int .i64 0, .int .i64 0])] w) W) ∧ (L 17 = true → (fun W => Below w.heap.size w W ∧ Blk W (w.heap.size + 1) 32 #[.int .i64 (IntKind.i64.wrap (a.tdiv (f : Int))), .int .i64 (IntKind.i64.wrap (b.tdiv (f : Int))), .int .i64 (IntKind.i64.wrap (c.tdiv (f : Int))), .int .i64 s]) W ∧ L 0 = true ∧ L 1 = true ∧ L 2 = true ∧ L 3 = true ∧ L 4 = true ∧ L 5 = true ∧ L 6 = true ∧ L 7 = true ∧ L 8 = true ∧ L 9 = true ∧ L 10 = true ∧ L 11 = true ∧ L 12 = true ∧ L 13 = true ∧ L 14 = true ∧ L 15 = true ∧ L 16 = true))) (dep := fun i => [[], [0], [], [1, 2], [], [4], [], [5, 6], [], [8], [], [9, 10], [], [12], [], [13, 14], [3, 7, 11, 15], [0, 1, 2, 3, 4, 5, 6, 7, 8, 9, 10, 11, 12, 13, 14, 15, 16]].getD i []) 18 rfl (by decide +kernel) ?_ ⟨?_, ?_, ?_, ?_, ?_, ?_, ?_, ?_, ?_, ?_, ?_, ?_, ?_, ?_, ?_, ?_, ?_, ?_, trivial⟩ ?_
  · exact ⟨_, _, _, _, _, _, _, _, _, _, _, _, _, _, _, _, _, rfl, (fun e => nomatch (show false = true from e)), (fun e => nomatch (show false = true from e)), (fun e => nomatch (show false = true from e)), (fun e => nomatch (show false = true from e)), (fun e => nomatch (show false = true from e)), (fun e => nomatch (show false = true from e)), (fun e => nomatch (show false = true from e)), (fun e => nomatch (show false = true from e)), (fun e => nomatch (show false = true from e)), (fun e => nomatch (show false = true from e)), (fun e => nomatch (show false = true from e)), (fun e => nomatch (show false = true from e)), (fun e => nomatch (show false = true from e)), (fun e => nomatch (show false = true from e)), (fun e => nomatch (show false = true from e)), (fun e => nomatch (show false = true from e)), (fun e => nomatch (show false = true from e)), (fun _ => hKR), (fun e => nomatch (show false = true from e))⟩
  · rintro L act W hi ⟨_⟩ ⟨u15, u16, u17, u18, u19, u20, u21, u22, u23, u24, u25, u26, u27, u28, u29, u30, u31, rfl, h0, h1, h2, h3, h4, h5, h6, h7, h8, h9, h10, h11, h12, h13, h14, h15, h16, hF, hT⟩
    have hlf : L 17 = false := by
      cases hq : L 17 with
      | false => rfl
      | true => exact nomatch (hi.symm.trans (hT hq).2.1)
    have hj := hF hlf
    refine wpOp_step rfl (fun K' hK => ?_)
    go_simp
    exact hK _ _ ⟨_, _, _, _, _, _, _, _, _, _, _, _, _, _, _, _, _, rfl, (fun _ => rfl), h1, h2, h3, h4, h5, h6, h7, h8, h9, h10, h11, h12, h13, h14, h15, h16, (fun _ => hj), (fun e => nomatch (hlf.symm.trans e))⟩
  · rintro L act W hi ⟨d0, _⟩ ⟨u15, u16, u17, u18, u19, u20, u21, u22, u23, u24, u25, u26, u27, u28, u29, u30, u31, rfl, h0, h1, h2, h3, h4, h5, h6, h7, h8, h9, h10, h11, h12, h13, h14, h15, h16, hF, hT⟩
    obtain rfl := h0 d0
    have hlf : L 17 = false := by
      cases hq : L 17 with
      | false => rfl
      | true => exact nomatch (hi.symm.trans (hT hq).2.2.1)
    have hj := hF hlf
    obtain ⟨c1, c2, c3, c4⟩ := blk4 (KL.blk hj (.head _))
    refine wpOp_step rfl (fun K' hK => ?_)
    go_simp
    exact hK _ _ ⟨_, _, _, _, _, _, _, _, _, _, _, _, _, _, _, _, _, rfl, h0, (fun _ => rfl), h2, h3, h4, h5, h6, h7, h8, h9, h10, h11, h12, h13, h14, h15, h16, (fun _ => hj), (fun e => nomatch (hlf.symm.trans e))⟩
  · rintro L act W hi ⟨_⟩ ⟨u15, u16, u17, u18, u19, u20, u21, u22, u23, u24, u25, u26, u27, u28, u29, u30, u31, rfl, h0, h1, h2, h3, h4, h5, h6, h7, h8, h9, h10, h11, h12, h13, h14, h15, h16, hF, hT⟩
    have hlf : L 17 = false := by
      cases hq : L 17 with
      | false => rfl
      | true => exact nomatch (hi.symm.trans (hT hq).2.2.2.1)
    have hj := hF hlf
    refine wpOp_step rfl (fun K' hK => ?_)
    go_simp
    exact hK _ _ ⟨_, _, _, _, _, _, _, _, _, _, _, _, _, _, _, _, _, rfl, h0, h1, (fun _ => rfl), h3, h4, h5, h6, h7, h8, h9, h10, h11, h12, h13, h14, h15, h16, (fun _ => hj), (fun e => nomatch (hlf.symm.trans e))⟩
  · rintro L act W hi ⟨d1, d2, _⟩ ⟨u15, u16, u17, u18, u19, u20, u21, u22, u23, u24, u25, u26, u27, u28, u29, u30, u31, rfl, h0, h1, h2, h3, h4, h5, h6, h7, h8, h9, h10, h11, h12, h13, h14, h15, h16, hF, hT⟩
    obtain rfl := h1 d1
    obtain rfl := h2 d2
    have hlf : L 17 = false := by
      cases hq : L 17 with
      | false => rfl
      | true => exact nomatch (hi.symm.trans (hT hq).2.2.2.2.1)
    have hj := hF hlf
    refine wpOp_step rfl (fun K' hK => ?_)
    go_simp
    exact hK _ _ ⟨_, _, _, _, _, _, _, _, _, _, _, _, _, _, _, _, _, rfl, h0, h1, h2, (fun _ => rfl), h4, h5, h6, h7, h8, h9, h10, h11, h12, h13, h14, h15, h16, (fun _ => hj), (fun e => nomatch (hlf.symm.trans e))⟩
  · rintro L act W hi ⟨_⟩ ⟨u15, u16, u17, u18, u19, u20, u21, u22, u23, u24, u25, u26, u27, u28, u29, u30, u31, rfl, h0, h1, h2, h3, h4, h5, h6, h7, h8, h9, h10, h11, h12, h13, h14, h15, h16, hF, hT⟩
    have hlf : L 17 = false := by
      cases hq : L 17 with
      | false => rfl
      | true => exact nomatch (hi.symm.trans (hT hq).2.2.2.2.2.1)
    have hj := hF hlf
    refine wpOp_step rfl (fun K' hK => ?_)
    go_simp
    exact hK _ _ ⟨_, _, _, _, _, _, _, _, _, _, _, _, _, _, _, _, _, rfl, h0, h1, h2, h3, (fun _ => rfl), h5, h6, h7, h8, h9, h10, h11, h12, h13, h14, h15, h16, (fun _ => hj), (fun e => nomatch (hlf.symm.trans e))⟩
  · rintro L act W hi ⟨d4, _⟩ ⟨u15, u16, u17, u18, u19, u20, u21, u22, u23, u24, u25, u26, u27, u28, u29, u30, u31, rfl, h0, h1, h2, h3, h4, h5, h6, h7, h8, h9, h10, h11, h12, h13, h14, h15, h16, hF, hT⟩
    obtain rfl := h4 d4
    have hlf : L 17 = false := by
      cases hq : L 17 with
      | false => rfl
      | true => exact nomatch (hi.symm.trans (hT hq).2.2.2.2.2.2.1)
    have hj := hF hlf
    obtain ⟨c1, c2, c3, c4⟩ := blk4 (KL.blk hj (.head _))
    refine wpOp_step rfl (fun K' hK => ?_)
    go_simp
    exact hK _ _ ⟨_, _, _, _, _, _, _, _, _, _, _, _, _, _, _, _, _, rfl, h0, h1, h2, h3, h4, (fun _ => rfl), h6, h7, h8, h9, h10, h11, h12, h13, h14, h15, h16, (fun _ => hj), (fun e => nomatch (hlf.symm.trans e))⟩
  · rintro L act W hi ⟨_⟩ ⟨u15, u16, u17, u18, u19, u20, u21, u22, u23, u24, u25, u26, u27, u28, u29, u30, u31, rfl, h0, h1, h2, h3, h4, h5, h6, h7, h8, h9, h10, h11, h12, h13, h14, h15, h16, hF, hT⟩
    have hlf : L 17 = false := by
      cases hq : L 17 with
      | false => rfl
      | true => exact nomatch (hi.symm.trans (hT hq).2.2.2.2.2.2.2.1)
    have hj := hF hlf
    refine wpOp_step rfl (fun K' hK => ?_)
    go_simp
    exact hK _ _ ⟨_, _, _, _, _, _, _, _, _, _, _, _, _, _, _, _, _, rfl, h0, h1, h2, h3, h4, h5, (fun _ => rfl), h7, h8, h9, h10, h11, h12, h13, h14, h15, h16, (fun _ => hj), (fun e => nomatch (hlf.symm.trans e))⟩
  · rintro L act W hi ⟨d5, d6, _⟩ ⟨u15, u16, u17, u18, u19, u20, u21, u22, u23, u24, u25, u26, u27, u28, u29, u30, u31, rfl, h0, h1, h2, h3, h4, h5, h6, h7, h8, h9, h10, h11, h12, h13, h14, h15, h16, hF, hT⟩
    obtain rfl := h5 d5
    obtain rfl := h6 d6
    have hlf : L 17 = false := by
      cases hq : L 17 with
      | false => rfl
      | true => exact nomatch (hi.symm.trans (hT hq).2.2.2.2.2.2.2.2.1)
    have hj := hF hlf
    refine wpOp_step rfl (fun K' hK => ?_)
    go_simp
    exact hK _ _ ⟨_, _, _, _, _, _, _, _, _, _, _, _, _, _, _, _, _, rfl, h0, h1, h2, h3, h4, h5, h6, (fun _ => rfl), h8, h9, h10, h11, h12, h13, h14, h15, h16, (fun _ => hj), (fun e => nomatch (hlf.symm.trans e))⟩
  · rintro L act W hi ⟨_⟩ ⟨u15, u16, u17, u18, u19, u20, u21, u22, u23, u24, u25, u26, u27, u28, u29, u30, u31, rfl, h0, h1, h2, h3, h4, h5, h6, h7, h8, h9, h10, h11, h12, h13, h14, h15, h16, hF, hT⟩
    have hlf : L 17 = false := by
      cases hq : L 17 with
      | false => rfl
      | true => exact nomatch (hi.symm.trans (hT hq).2.2.2.2.2.2.2.2.2.1)
    have hj := hF hlf
    refine wpOp_step rfl (fun K' hK => ?_)
    go_simp
    exact hK _ _ ⟨_, _, _, _, _, _, _, _, _, _, _, _, _, _, _, _, _, rfl, h0, h1, h2, h3, h4, h5, h6, h7, (fun _ => rfl), h9, h10, h11, h12, h13, h14, h15, h16, (fun _ => hj), (fun e => nomatch (hlf.symm.trans e))⟩
  · rintro L act W hi ⟨d8, _⟩ ⟨u15, u16, u17, u18, u19, u20, u21, u22, u23, u24, u25, u26, u27, u28, u29, u30, u31, rfl, h0, h1, h2, h3, h4, h5, h6, h7, h8, h9, h10, h11, h12, h13, h14, h15, h16, hF, hT⟩
    obtain rfl := h8 d8
    have hlf : L 17 = false := by
      cases hq : L 17 with
      | false => rfl
      | true => exact nomatch (hi.symm.trans (hT hq).2.2.2.2.2.2.2.2.2.2.1)
    have hj := hF hlf
    obtain ⟨c1, c2, c3, c4⟩ := blk4 (KL.blk hj (.head _))
    refine wpOp_step rfl (fun K' hK => ?_)
    go_simp
    exact hK _ _ ⟨_, _, _, _, _, _, _, _, _, _, _, _, _, _, _, _, _, rfl, h0, h1, h2, h3, h4, h5, h6, h7, h8, (fun _ => rfl), h10, h11, h12, h13, h14, h15, h16, (fun _ => hj), (fun e => nomatch (hlf.symm.trans e))⟩
  · rintro L act W hi ⟨_⟩ ⟨u15, u16, u17, u18, u19, u20, u21, u22, u23, u24, u25, u26, u27, u28, u29, u30, u31, rfl, h0, h1, h2, h3, h4, h5, h6, h7, h8, h9, h10, h11, h12, h13, h14, h15, h16, hF, hT⟩
    have hlf : L 17 = false := by
      cases hq : L 17 with
      | false => rfl
      | true => exact nomatch (hi.symm.trans (hT hq).2.2.2.2.2.2.2.2.2.2.2.1)
    have hj := hF hlf
    refine wpOp_step rfl (fun K' hK => ?_)
    go_simp
    exact hK _ _ ⟨_, _, _, _, _, _, _, _, _, _, _, _, _, _, _, _, _, rfl, h0, h1, h2, h3, h4, h5, h6, h7, h8, h9, (fun _ => rfl), h11, h12, h13, h14, h15, h16, (fun _ => hj), (fun e => nomatch (hlf.symm.trans e))⟩
  · rintro L act W hi ⟨d9, d10, _⟩ ⟨u15, u16, u17, u18, u19, u20, u21, u22, u23, u24, u25, u26, u27, u28, u29, u30, u31, rfl, h0, h1, h2, h3, h4, h5, h6, h7, h8, h9, h10, h11, h12, h13, h14, h15, h16, hF, hT⟩
    obtain rfl := h9 d9
    obtain rfl := h10 d10
    have hlf : L 17 = false := by
      cases hq : L 17 with
      | false => rfl
      | true => exact nomatch (hi.symm.trans (hT hq).2.2.2.2.2.2.2.2.2.2.2.2.1)
    have hj := hF hlf
    refine wpOp_step rfl (fun K' hK => ?_)
    go_simp
    exact hK _ _ ⟨_, _, _, _, _, _, _, _, _, _, _, _, _, _, _, _, _, rfl, h0, h1, h2, h3, h4, h5, h6, h7, h8, h9, h10, (fun _ => rfl), h12, h13, h14, h15, h16, (fun _ => hj), (fun e => nomatch (hlf.symm.trans e))⟩
  · rintro L act W hi ⟨_⟩ ⟨u15, u16, u17, u18, u19, u20, u21, u22, u23, u24, u25, u26, u27, u28, u29, u30, u31, rfl, h0, h1, h2, h3, h4, h5, h6, h7, h8, h9, h10, h11, h12, h13, h14, h15, h16, hF, hT⟩
    have hlf : L 17 = false := by
      cases hq : L 17 with
      | false => rfl
      | true => exact nomatch (hi.symm.trans (hT hq).2.2.2.2.2.2.2.2.2.2.2.2.2.1)
    have hj := hF hlf
    refine wpOp_step rfl (fun K' hK => ?_)
    go_simp
    exact hK _ _ ⟨_, _, _, _, _, _, _, _, _, _, _, _, _, _, _, _, _, rfl, h0, h1, h2, h3, h4, h5, h6, h7, h8, h9, h10, h11, (fun _ => rfl), h13, h14, h15, h16, (fun _ => hj), (fun e => nomatch (hlf.symm.trans e))⟩
  · rintro L act W hi ⟨d12, _⟩ ⟨u15, u16, u17, u18, u19, u20, u21, u22, u23, u24, u25, u26, u27, u28, u29, u30, u31, rfl, h0, h1, h2, h3, h4, h5, h6, h7, h8, h9, h10, h11, h12, h13, h14, h15, h16, hF, hT⟩
    obtain rfl := h12 d12
    have hlf : L 17 = false := by
      cases hq : L 17 with
      | false => rfl
      | true => exact nomatch (hi.symm.trans (hT hq).2.2.2.2.2.2.2.2.2.2.2.2.2.2.1)
    have hj := hF hlf
    obtain ⟨c1, c2, c3, c4⟩ := blk4 (KL.blk hj (.head _))
    refine wpOp_step rfl (fun K' hK => ?_)
    go_simp
    exact hK _ _ ⟨_, _, _, _, _, _, _, _, _, _, _, _, _, _, _, _, _, rfl, h0, h1, h2, h3, h4, h5, h6, h7, h8, h9, h10, h11, h12, (fun _ => rfl), h14, h15, h16, (fun _ => hj), (fun e => nomatch (hlf.symm.trans e))⟩
  · rintro L act W hi ⟨_⟩ ⟨u15, u16, u17, u18, u19, u20, u21, u22, u23, u24, u25, u26, u27, u28, u29, u30, u31, rfl, h0, h1, h2, h3, h4, h5, h6, h7, h8, h9, h10, h11, h12, h13, h14, h15, h16, hF, hT⟩
    have hlf : L 17 = false := by
      cases hq : L 17 with
      | false => rfl
      | true => exact nomatch (hi.symm.trans (hT hq).2.2.2.2.2.2.2.2.2.2.2.2.2.2.2.1)
    have hj := hF hlf
    refine wpOp_step rfl (fun K' hK => ?_)
    go_simp
    exact hK _ _ ⟨_, _, _, _, _, _, _, _, _, _, _, _, _, _, _, _, _, rfl, h0, h1, h2, h3, h4, h5, h6, h7, h8, h9, h10, h11, h12, h13, (fun _ => rfl), h15, h16, (fun _ => hj), (fun e => nomatch (hlf.symm.trans e))⟩
  · rintro L act W hi ⟨d13, d14, _⟩ ⟨u15, u16, u17, u18, u19, u20, u21, u22, u23, u24, u25, u26, u27, u28, u29, u30, u31, rfl, h0, h1, h2, h3, h4, h5, h6, h7, h8, h9, h10, h11, h12, h13, h14, h15, h16, hF, hT⟩
    obtain rfl := h13 d13
    obtain rfl := h14 d14
    have hlf : L 17 = false := by
      cases hq : L 17 with
      | false => rfl
      | true => exact nomatch (hi.symm.trans (hT hq).2.2.2.2.2.2.2.2.2.2.2.2.2.2.2.2.1)
    have hj := hF hlf
    refine wpOp_step rfl (fun K' hK => ?_)
    go_simp
    refine (hr _).mono ?_
    rintro e W1 ⟨rfl, rfl⟩
    exact hK _ _ ⟨_, _, _, _, _, _, _, _, _, _, _, _, _, _, _, _, _, rfl, h0, h1, h2, h3, h4, h5, h6, h7, h8, h9, h10, h11, h12, h13, h14, (fun _ => rfl), h16, (fun _ => hj), (fun e => nomatch (hlf.symm.trans e))⟩
  · rintro L act W hi ⟨d3, d7, d11, d15, _⟩ ⟨u15, u16, u17, u18, u19, u20, u21, u22, u23, u24, u25, u26, u27, u28, u29, u30, u31, rfl, h0, h1, h2, h3, h4, h5, h6, h7, h8, h9, h10, h11, h12, h13, h14, h15, h16, hF, hT⟩
    obtain rfl := h3 d3
    obtain rfl := h7 d7
    obtain rfl := h11 d11
    obtain rfl := h15 d15
    have hlf : L 17 = false := by
      cases hq : L 17 with
      | false => rfl
      | true => exact nomatch (hi.symm.trans (hT hq).2.2.2.2.2.2.2.2.2.2.2.2.2.2.2.2.2)
    have hj := hF hlf
    refine wpOp_step rfl (fun K' hK => ?_)
    go_simp
    exact hK _ _ ⟨_, _, _, _, _, _, _, _, _, _, _, _, _, _, _, _, _, rfl, h0, h1, h2, h3, h4, h5, h6, h7, h8, h9, h10, h11, h12, h13, h14, h15, (fun _ => rfl), (fun _ => hj), (fun e => nomatch (hlf.symm.trans e))⟩
  · rintro L act W hi ⟨d0, d1, d2, d3, d4, d5, d6, d7, d8, d9, d10, d11, d12, d13, d14, d15, d16, _⟩ ⟨u15, u16, u17, u18, u19, u20, u21, u22, u23, u24, u25, u26, u27, u28, u29, u30, u31, rfl, h0, h1, h2, h3, h4, h5, h6, h7, h8, h9, h10, h11, h12, h13, h14, h15, h16, hF, hT⟩
    obtain rfl := h0 d0
    obtain rfl := h1 d1
    obtain rfl := h2 d2
    obtain rfl := h3 d3
    obtain rfl := h4 d4
    obtain rfl := h5 d5
    obtain rfl := h6 d6
    obtain rfl := h7 d7
    obtain rfl := h8 d8
    obtain rfl := h9 d9
    obtain rfl := h10 d10
    obtain rfl := h11 d11
    obtain rfl := h12 d12
    obtain rfl := h13 d13
    obtain rfl := h14 d14
    obtain rfl := h15 d15
    obtain rfl := h16 d16
    have hj := hF hi
    obtain ⟨s1, s2, s3, s4⟩ := blk4 (KL.blk hj (.tail _ (.head _))); have sf := (KL.blk hj (.tail _ (.head _))).frozen
    refine wpOp_step rfl (fun K' hK => ?_)
    go_simp
    exact hK _ _ ⟨_, _, _, _, _, _, _, _, _, _, _, _, _, _, _, _, _, rfl, h0, h1, h2, h3, h4, h5, h6, h7, h8, h9, h10, h11, h12, h13, h14, h15, h16, (fun e => nomatch (show true = false from e)), (fun _ => ⟨⟨Below.setCell (Below.setCell (Below.setCell (Below.setCell hj.1 (by simp) _) (by simp) _) (by simp) _) (by simp) _, Blk.setq (KL.blk hj (.tail _ (.head _))) _ _ _ _⟩, d0, d1, d2, d3, d4, d5, d6, d7, d8, d9, d10, d11, d12, d13, d14, d15, d16⟩)⟩
  · rintro L act W hall ⟨u15, u16, u17, u18, u19, u20, u21, u22, u23, u24, u25, u26, u27, u28, u29, u30, u31, rfl, h0, h1, h2, h3, h4, h5, h6, h7, h8, h9, h10, h11, h12, h13, h14, h15, h16, hF, hT⟩
    obtain rfl := h0 (hall 0 (by omega))
    obtain rfl := h1 (hall 1 (by omega))
    obtain rfl := h2 (hall 2 (by omega))
    obtain rfl := h3 (hall 3 (by omega))
    obtain rfl := h4 (hall 4 (by omega))
    obtain rfl := h5 (hall 5 (by omega))
    obtain rfl := h6 (hall 6 (by omega))
    obtain rfl := h7 (hall 7 (by omega))
    obtain rfl := h8 (hall 8 (by omega))
    obtain rfl := h9 (hall 9 (by omega))
    obtain rfl := h10 (hall 10 (by omega))
    obtain rfl := h11 (hall 11 (by omega))
    obtain rfl := h12 (hall 12 (by omega))
    obtain rfl := h13 (hall 13 (by omega))
    obtain rfl := h14 (hall 14 (by omega))
    obtain rfl := h15 (hall 15 (by omega))
    obtain rfl := h16 (hall 16 (by omega))
    have hj := (hT (hall 17 (by omega))).1
    go_wp2
    have hz := hj.1
    obtain ⟨r1, r2, r3, r4⟩ := blk4 hj.2
    exact bodyPost_ret (v := .agg #[.int .i64 (IntKind.i64.wrap (a.tdiv (f : Int))), .int .i64 (IntKind.i64.wrap (b.tdiv (f : Int))), .int .i64 (IntKind.i64.wrap (c.tdiv (f : Int))), .int .i64 s]) (by simp [results, Try.results31, go_sem, r1, r2, r3, r4]) rfl ⟨by rw [W1.out, W2.out, W3.out], hz⟩
end Go.Proofs.Ytoeniaafcnnnoaa
