/- The walks of box's Check and of its reference's, of plane's checks of two arguments and of the reference's. No condition. -/
import Derived.Test.YtogmgaaejepcbaaSma
import Derived.Test.YtogmgaaejepcbaaOwn
namespace Go.Proofs.Ytogmgaaejepcbaa
open Go.RowKit

/-- a boxed box -/
def KB (x y z p q r : Int) (w W : World) : Prop := KL [(w.heap.size, 25, #[.int .i64 x, .int .i64 y, .int .i64 z, .int .i64 p, .int .i64 q, .int .i64 r])] w W
theorem KB.all {x y z p q r : Int} {w W : World} (h : KB x y z p q r w W) : w.heap.size < W.heap.size ∧
    W.cell? ⟨w.heap.size, 0, none⟩ = some (.int .i64 x) ∧ W.cell? ⟨w.heap.size, 1, none⟩ = some (.int .i64 y) ∧ W.cell? ⟨w.heap.size, 2, none⟩ = some (.int .i64 z) ∧
    W.cell? ⟨w.heap.size, 3, none⟩ = some (.int .i64 p) ∧ W.cell? ⟨w.heap.size, 4, none⟩ = some (.int .i64 q) ∧ W.cell? ⟨w.heap.size, 5, none⟩ = some (.int .i64 r) :=
  ⟨KL.size h (.head _), blk6 (KL.blk h (.head _))⟩
theorem KB.start {x y z p q r : Int} {w : World} : KB x y z p q r w (w.alloc (.cells #[.int .i64 x, .int .i64 y, .int .i64 z, .int .i64 p, .int .i64 q, .int .i64 r] 25)) :=
  ⟨(Below.refl _ _).alloc (Nat.le_refl _) _, by
    intro q hq
    simp only [List.mem_cons, List.not_mem_nil, or_false] at hq
    subst hq
    exact Blk.new2 rfl⟩
theorem keptB {x y z p q r : Int} {w : World} : Kept (w.heap.size + 1) (KB x y z p q r w) :=
  keptKL (by omega) (by simp) (.inr ⟨_, .head _, rfl⟩)
def eB (x y z p q r : Int) : Int := if inV x y z && inV p q r then (if empB x y z p q r then 1 else 0) else 6
theorem eB_out {x y z p q r : Int} (h : (inV x y z && inV p q r) = false) : eB x y z p q r = 6 := by simp [eB, h]
theorem eB_in {x y z p q r : Int} (hx : inC x = true) (hy : inC y = true) (hz : inC z = true) (hp : inC p = true) (hq : inC q = true) (hr : inC r = true) : eB x y z p q r = if empB x y z p q r then 1 else 0 := by simp [eB, inV, *]
theorem eB_zero {x y z p q r : Int} (h : eB x y z p q r = 0) : inV x y z = true ∧ inV p q r = true ∧ x < p ∧ y < q ∧ z < r := by
  unfold eB at h
  cases h1 : inV x y z <;> cases h2 : inV p q r <;> cases h3 : empB x y z p q r <;> simp [h1, h2, h3] at h ⊢
  exact empB_no.1 h3
theorem below_of {a b c : World} (h : Below a.heap.size a b) (h' : b = c) : Below a.heap.size a c := h' ▸ h
set_option maxHeartbeats 4000000 in
theorem bcheck_any (x y z p q r : Int) (w : World) :
    Calls Try.prog 56 #[.agg #[.int .i64 x, .int .i64 y, .int .i64 z, .int .i64 p, .int .i64 q, .int .i64 r]] w fun e w' => e = .returned (.int .i64 (eB x y z p q r)) ∧ Below w.heap.size w w' := by
  go_enter Try.func56, Try.ntmps56
  go_upto_region 1 with (fail)
  go_cut [3, 4] from 6 to 11 (fun s3 s4 wx => TwoB (w.heap.size + 1) 88 #[.int .i64 x, .int .i64 y, .int .i64 z] #[.int .i64 p, .int .i64 q, .int .i64 r] s3 s4 wx ∧ KB x y z p q r w wx)
  case first =>
    refine wp_region_any (by kernel_rfl) ?_
    try (change wpAny _ _ _ _ _ _ _ (World.drew _))
    refine wpAny_begin (I := (fun L a W => ∃ u6 u7 u8 u9 u10 u11 u3 u4, a = ⟨#[.agg #[.int .i64 x, .int .i64 y, .int .i64 z, .int .i64 p, .int .i64 q, .int .i64 r], .pointer (some ⟨w.heap.size, 0, none⟩), .int .i64 0, u3, u4, undef, u6, u7, u8, u9, u10, u11, undef, undef, undef, undef, undef, undef, undef, undef, undef, undef, undef, undef, undef, undef, undef, undef, undef, undef], []⟩ ∧ (L 0 = true → u6 = .pointer (some ⟨w.heap.size, 0, none⟩)) ∧ (L 1 = true → u7 = .agg #[.int .i64 x, .int .i64 y, .int .i64 z]) ∧ (L 2 = true → u8 = .agg #[.int .i64 x, .int .i64 y, .int .i64 z]) ∧ (L 3 = true → u9 = .pointer (some ⟨w.heap.size, 3, none⟩)) ∧ (L 4 = true → u10 = .agg #[.int .i64 p, .int .i64 q, .int .i64 r]) ∧ (L 5 = true → u11 = .agg #[.int .i64 p, .int .i64 q, .int .i64 r]) ∧ J2 (w.heap.size + 1) (KB x y z p q r w) 88 #[.int .i64 0, .int .i64 0, .int .i64 0] #[.int .i64 x, .int .i64 y, .int .i64 z] #[.int .i64 p, .int .i64 q, .int .i64 r] (L 6) (L 7) (L 8) (L 9) u3 u4 W)) (dep := fun i => [[], [0], [1], [], [3], [2, 4], [], [], [0, 1, 2, 5, 6, 7], [0, 1, 2, 3, 4, 5, 6, 7, 8]].getD i []) 10 rfl (by decide +kernel) ?_ ⟨?_, ?_, ?_, ?_, ?_, ?_, ?_, ?_, ?_, ?_, trivial⟩ ?_
    · exact ⟨_, _, _, _, _, _, _, _, rfl, (fun e => nomatch (show false = true from e)), (fun e => nomatch (show false = true from e)), (fun e => nomatch (show false = true from e)), (fun e => nomatch (show false = true from e)), (fun e => nomatch (show false = true from e)), (fun e => nomatch (show false = true from e)), J2.begin (KL.drew KB.start)⟩
    · rintro L a W hi ⟨_⟩ ⟨u6, u7, u8, u9, u10, u11, u3, u4, rfl, h0, h1, h2, h3, h4, h5, hj⟩
      refine wpOp_step rfl (fun K' hK => ?_)
      go_simp
      exact hK _ _ ⟨_, _, _, _, _, _, _, _, rfl, (fun _ => rfl), h1, h2, h3, h4, h5, hj⟩
    · rintro L a W hi ⟨d0, _⟩ ⟨u6, u7, u8, u9, u10, u11, u3, u4, rfl, h0, h1, h2, h3, h4, h5, hj⟩
      obtain rfl := h0 d0
      obtain ⟨hsz, p1, p2, p3, p4, p5, p6⟩ := hj.hk.all
      refine wpOp_step rfl (fun K' hK => ?_)
      go_simp
      exact hK _ _ ⟨_, _, _, _, _, _, _, _, rfl, h0, (fun _ => rfl), h2, h3, h4, h5, hj⟩
    · rintro L a W hi ⟨d1, _⟩ ⟨u6, u7, u8, u9, u10, u11, u3, u4, rfl, h0, h1, h2, h3, h4, h5, hj⟩
      obtain rfl := h1 d1
      refine wpOp_step rfl (fun K' hK => ?_)
      go_simp
      refine (bcoords_any _ _ _ _).mono ?_
      rintro e W1 ⟨rfl, hb1⟩
      exact hK _ _ ⟨_, _, _, _, _, _, _, _, rfl, h0, h1, (fun _ => rfl), h3, h4, h5, hj.over keptB hb1⟩
    · rintro L a W hi ⟨_⟩ ⟨u6, u7, u8, u9, u10, u11, u3, u4, rfl, h0, h1, h2, h3, h4, h5, hj⟩
      refine wpOp_step rfl (fun K' hK => ?_)
      go_simp
      exact hK _ _ ⟨_, _, _, _, _, _, _, _, rfl, h0, h1, h2, (fun _ => rfl), h4, h5, hj⟩
    · rintro L a W hi ⟨d3, _⟩ ⟨u6, u7, u8, u9, u10, u11, u3, u4, rfl, h0, h1, h2, h3, h4, h5, hj⟩
      obtain rfl := h3 d3
      obtain ⟨hsz, p1, p2, p3, p4, p5, p6⟩ := hj.hk.all
      refine wpOp_step rfl (fun K' hK => ?_)
      go_simp
      exact hK _ _ ⟨_, _, _, _, _, _, _, _, rfl, h0, h1, h2, h3, (fun _ => rfl), h5, hj⟩
    · rintro L a W hi ⟨d2, d4, _⟩ ⟨u6, u7, u8, u9, u10, u11, u3, u4, rfl, h0, h1, h2, h3, h4, h5, hj⟩
      obtain rfl := h2 d2
      obtain rfl := h4 d4
      refine wpOp_step rfl (fun K' hK => ?_)
      go_simp
      refine (bcoords_any _ _ _ _).mono ?_
      rintro e W1 ⟨rfl, hb1⟩
      exact hK _ _ ⟨_, _, _, _, _, _, _, _, rfl, h0, h1, h2, h3, h4, (fun _ => rfl), hj.over keptB hb1⟩
    · rintro L a W hi ⟨_⟩ ⟨u6, u7, u8, u9, u10, u11, u3, u4, rfl, h0, h1, h2, h3, h4, h5, hj⟩
      refine wpOp_step rfl (fun K' hK => ?_)
      go_simp
      exact hK _ _ ⟨_, _, _, _, _, _, _, _, rfl, h0, h1, h2, h3, h4, h5, hj.alloc1 keptB hi⟩
    · rintro L a W hi ⟨_⟩ ⟨u6, u7, u8, u9, u10, u11, u3, u4, rfl, h0, h1, h2, h3, h4, h5, hj⟩
      refine wpOp_step rfl (fun K' hK => ?_)
      go_simp
      exact hK _ _ ⟨_, _, _, _, _, _, _, _, rfl, h0, h1, h2, h3, h4, h5, hj.alloc2 keptB hi⟩
    · rintro L a W hi ⟨d0, d1, d2, d5, d6, d7, _⟩ ⟨u6, u7, u8, u9, u10, u11, u3, u4, rfl, h0, h1, h2, h3, h4, h5, hj⟩
      obtain rfl := h0 d0
      obtain rfl := h1 d1
      obtain rfl := h2 d2
      obtain rfl := h5 d5
      have hj0 := hj
      obtain ⟨g, rfl, hg, hblk⟩ := hj.first d6 hi
      obtain ⟨f0, f1, f2⟩ := blk3 hblk
      have fz := hblk.frozen
      refine wpOp_step rfl (fun K' hK => ?_)
      go_simp
      exact hK _ _ ⟨_, _, _, _, _, _, _, _, rfl, h0, h1, h2, h3, h4, h5, hj.store1 d6 d7 (Blk.set3 hblk _ _ _) (fun k cs hk hb => Blk.far3 hb hk _ _ _) ((Kept.set keptB (Kept.set keptB (Kept.set keptB hj0.hk hg _) hg _) hg _))⟩
    · rintro L a W hi ⟨d0, d1, d2, d3, d4, d5, d6, d7, d8, _⟩ ⟨u6, u7, u8, u9, u10, u11, u3, u4, rfl, h0, h1, h2, h3, h4, h5, hj⟩
      obtain rfl := h0 d0
      obtain rfl := h1 d1
      obtain rfl := h2 d2
      obtain rfl := h3 d3
      obtain rfl := h4 d4
      obtain rfl := h5 d5
      have hj0 := hj
      obtain ⟨g, rfl, hg, hblk⟩ := hj.second d7 hi
      obtain ⟨f0, f1, f2⟩ := blk3 hblk
      have fz := hblk.frozen
      refine wpOp_step rfl (fun K' hK => ?_)
      go_simp
      exact hK _ _ ⟨_, _, _, _, _, _, _, _, rfl, h0, h1, h2, h3, h4, h5, hj.store2 d6 d7 (Blk.set3 hblk _ _ _) (fun k cs hk hb => Blk.far3 hb hk _ _ _) ((Kept.set keptB (Kept.set keptB (Kept.set keptB hj0.hk hg _) hg _) hg _))⟩
    · rintro L a W hall ⟨u6, u7, u8, u9, u10, u11, u3, u4, rfl, h0, h1, h2, h3, h4, h5, hj⟩
      obtain rfl := h0 (hall 0 (by omega))
      obtain rfl := h1 (hall 1 (by omega))
      obtain rfl := h2 (hall 2 (by omega))
      obtain rfl := h3 (hall 3 (by omega))
      obtain rfl := h4 (hall 4 (by omega))
      obtain rfl := h5 (hall 5 (by omega))
      have H := hj.two (hall 6 (by omega)) (hall 7 (by omega)) (hall 8 (by omega)) (hall 9 (by omega))
      go_wp2_with fail
      go_meet
      exact H
  case rest =>
    obtain ⟨⟨g, k, rfl, rfl, hne, hg, hk, hgb, hkb⟩, hK⟩ := hcut
    have hgl := hgb.lt
    have hkl := hkb.lt
    have hbw := hK.1
    obtain ⟨g0, g1, g2⟩ := blk3 hgb
    obtain ⟨k0, k1, k2⟩ := blk3 hkb
    obtain ⟨hsz, p1, p2, p3, p4, p5, p6⟩ := hK.all
    clear hK hgb hkb
    clear hne
    go_wp2
    go_loop [12] (fun i => i = .int .i64 0 ∨ (i = .int .i64 1 ∧ inC x = true ∧ inC p = true) ∨ (i = .int .i64 2 ∧ inC x = true ∧ inC p = true ∧ inC y = true ∧ inC q = true) ∨ (i = .int .i64 3 ∧ inC x = true ∧ inC p = true ∧ inC y = true ∧ inC q = true ∧ inC z = true ∧ inC r = true)) (fun i => 3 - (intOf i).toNat)
    case atStart => exact .inl rfl
    case round =>
      obtain rfl | ⟨rfl, hx, hp⟩ | ⟨rfl, hx, hp, hy, hq⟩ | ⟨rfl, hx, hp, hy, hq, hz, hr⟩ := hrel
      · have i1 := inr_any x
        have i2 := inr_any p
        cases e1 : inC x
        · rw [e1] at i1
          have HE := Lib.hid (eB_out (x := x) (y := y) (z := z) (p := p) (q := q) (r := r) (by simp [inV, e1]))
          clear e1
          go_wp2_with (go_at_call 60; refine (i1 _).mono ?_; rintro e w' ⟨rfl, rfl⟩)
          go_ret
          exact ⟨ret_int HE.out.symm, hbw⟩
        · rw [e1] at i1
          cases e2 : inC p
          · rw [e2] at i2
            have HE := Lib.hid (eB_out (x := x) (y := y) (z := z) (p := p) (q := q) (r := r) (by simp [inV, e2]))
            have E1 := Lib.hid e1
            clear e1 e2
            go_wp2_with (first | (go_at_call_of 60 x; refine (i1 _).mono ?_; rintro e w' ⟨rfl, rfl⟩) | (go_at_call_of 60 p; refine (i2 _).mono ?_; rintro e w' ⟨rfl, rfl⟩))
            go_ret
            exact ⟨ret_int HE.out.symm, hbw⟩
          · rw [e2] at i2
            have E1 := Lib.hid e1
            have E2 := Lib.hid e2
            clear e1 e2
            go_wp2_with (first | (go_at_call_of 60 x; refine (i1 _).mono ?_; rintro e w' ⟨rfl, rfl⟩) | (go_at_call_of 60 p; refine (i2 _).mono ?_; rintro e w' ⟨rfl, rfl⟩))
            go_round
            case rel =>
              have e1 := E1.out
              have e2 := E2.out
              exact .inr (.inl ⟨by go_num, (by first | exact e1 | trivial), (by first | exact e2 | trivial)⟩)
            case measure => simp [intOf] <;> omega
      · have i1 := inr_any y
        have i2 := inr_any q
        cases e1 : inC y
        · rw [e1] at i1
          have HE := Lib.hid (eB_out (x := x) (y := y) (z := z) (p := p) (q := q) (r := r) (by simp [inV, e1]))
          clear e1
          go_wp2_with (go_at_call 60; refine (i1 _).mono ?_; rintro e w' ⟨rfl, rfl⟩)
          go_ret
          exact ⟨ret_int HE.out.symm, hbw⟩
        · rw [e1] at i1
          cases e2 : inC q
          · rw [e2] at i2
            have HE := Lib.hid (eB_out (x := x) (y := y) (z := z) (p := p) (q := q) (r := r) (by simp [inV, e2]))
            have E1 := Lib.hid e1
            clear e1 e2
            go_wp2_with (first | (go_at_call_of 60 y; refine (i1 _).mono ?_; rintro e w' ⟨rfl, rfl⟩) | (go_at_call_of 60 q; refine (i2 _).mono ?_; rintro e w' ⟨rfl, rfl⟩))
            go_ret
            exact ⟨ret_int HE.out.symm, hbw⟩
          · rw [e2] at i2
            have E1 := Lib.hid e1
            have E2 := Lib.hid e2
            clear e1 e2
            go_wp2_with (first | (go_at_call_of 60 y; refine (i1 _).mono ?_; rintro e w' ⟨rfl, rfl⟩) | (go_at_call_of 60 q; refine (i2 _).mono ?_; rintro e w' ⟨rfl, rfl⟩))
            go_round
            case rel =>
              have e1 := E1.out
              have e2 := E2.out
              exact .inr (.inr (.inl ⟨by go_num, hx, hp, (by first | exact e1 | trivial), (by first | exact e2 | trivial)⟩))
            case measure => simp [intOf] <;> omega
      · have i1 := inr_any z
        have i2 := inr_any r
        cases e1 : inC z
        · rw [e1] at i1
          have HE := Lib.hid (eB_out (x := x) (y := y) (z := z) (p := p) (q := q) (r := r) (by simp [inV, e1]))
          clear e1
          go_wp2_with (go_at_call 60; refine (i1 _).mono ?_; rintro e w' ⟨rfl, rfl⟩)
          go_ret
          exact ⟨ret_int HE.out.symm, hbw⟩
        · rw [e1] at i1
          cases e2 : inC r
          · rw [e2] at i2
            have HE := Lib.hid (eB_out (x := x) (y := y) (z := z) (p := p) (q := q) (r := r) (by simp [inV, e2]))
            have E1 := Lib.hid e1
            clear e1 e2
            go_wp2_with (first | (go_at_call_of 60 z; refine (i1 _).mono ?_; rintro e w' ⟨rfl, rfl⟩) | (go_at_call_of 60 r; refine (i2 _).mono ?_; rintro e w' ⟨rfl, rfl⟩))
            go_ret
            exact ⟨ret_int HE.out.symm, hbw⟩
          · rw [e2] at i2
            have E1 := Lib.hid e1
            have E2 := Lib.hid e2
            clear e1 e2
            go_wp2_with (first | (go_at_call_of 60 z; refine (i1 _).mono ?_; rintro e w' ⟨rfl, rfl⟩) | (go_at_call_of 60 r; refine (i2 _).mono ?_; rintro e w' ⟨rfl, rfl⟩))
            go_round
            case rel =>
              have e1 := E1.out
              have e2 := E2.out
              exact .inr (.inr (.inr ⟨by go_num, hx, hp, hy, hq, (by first | exact e1 | trivial), (by first | exact e2 | trivial)⟩))
            case measure => simp [intOf] <;> omega
      · have em := empty_any x y z p q r
        have HE := Lib.hid (eB_in hx hy hz hp hq hr)
        clear hx hy hz hp hq hr
        cases h : empB x y z p q r
        · rw [h] at em
          have HH := Lib.hid h
          clear h
          go_wp2_with (go_at_call 61; refine (em _).mono ?_; rintro e w1 ⟨rfl, hb1⟩)
          go_ret
          exact ⟨ret_int (by rw [HE.out, HH.out]; rfl), hbw.trans (bmono hb1 hbw.size)⟩
        · rw [h] at em
          have HH := Lib.hid h
          clear h
          go_wp2_with (go_at_call 61; refine (em _).mono ?_; rintro e w1 ⟨rfl, hb1⟩)
          go_ret
          exact ⟨ret_int (by rw [HE.out, HH.out]; rfl), hbw.trans (bmono hb1 hbw.size)⟩
end Go.Proofs.Ytogmgaaejepcbaa
