/- The walks of plane's extremes, Extremes and Side. No condition. -/
import Derived.Test.YtoeniaafcnnnoaaVal
namespace Go.Proofs.Ytoeniaafcnnnoaa
open Go.RowKit

/-- a boxed half-space and a boxed box -/
def KHB (a b c d x y z p q r : Int) (w W : World) : Prop := KL [(w.heap.size, 32, #[.int .i64 a, .int .i64 b, .int .i64 c, .int .i64 d]), (w.heap.size + 1, 42, #[.int .i64 x, .int .i64 y, .int .i64 z, .int .i64 p, .int .i64 q, .int .i64 r])] w W
theorem KHB.alls {a b c d x y z p q r : Int} {w W : World} (h : KHB a b c d x y z p q r w W) : KHB a b c d x y z p q r w W ∧ w.heap.size + 1 < W.heap.size ∧
    (W.cell? ⟨w.heap.size, 0, none⟩ = some (.int .i64 a) ∧ W.cell? ⟨w.heap.size, 1, none⟩ = some (.int .i64 b) ∧ W.cell? ⟨w.heap.size, 2, none⟩ = some (.int .i64 c) ∧ W.cell? ⟨w.heap.size, 3, none⟩ = some (.int .i64 d)) ∧
    W.cell? ⟨w.heap.size + 1, 0, none⟩ = some (.int .i64 x) ∧ W.cell? ⟨w.heap.size + 1, 1, none⟩ = some (.int .i64 y) ∧ W.cell? ⟨w.heap.size + 1, 2, none⟩ = some (.int .i64 z) ∧
    W.cell? ⟨w.heap.size + 1, 3, none⟩ = some (.int .i64 p) ∧ W.cell? ⟨w.heap.size + 1, 4, none⟩ = some (.int .i64 q) ∧ W.cell? ⟨w.heap.size + 1, 5, none⟩ = some (.int .i64 r) :=
  ⟨h, KL.size h (.tail _ (.head _)), blk4 (KL.blk h (.head _)), blk6 (KL.blk h (.tail _ (.head _)))⟩
theorem KHB.start {a b c d x y z p q r : Int} {w : World} : KHB a b c d x y z p q r w ((w.alloc (.cells #[.int .i64 a, .int .i64 b, .int .i64 c, .int .i64 d] 32)).alloc (.cells #[.int .i64 x, .int .i64 y, .int .i64 z, .int .i64 p, .int .i64 q, .int .i64 r] 42)) :=
  ⟨((Below.refl _ _).alloc (Nat.le_refl _) _).alloc (by simp) _, by
    intro q hq
    simp only [List.mem_cons, List.not_mem_nil, or_false] at hq
    rcases hq with rfl | rfl
    · exact (Blk.new2 rfl).alloc _
    · exact Blk.new2 (by simp)⟩
theorem keptHB {a b c d x y z p q r : Int} {w : World} : Kept (w.heap.size + 2) (KHB a b c d x y z p q r w) :=
  keptKL (by omega) (by simp) (.inr ⟨_, .tail _ (.head _), rfl⟩)
theorem eHB_zero {a b c d x y z p q r : Int} (h : eHB a b c d x y z p q r = 0) : eH a b c d = 0 ∧ eB x y z p q r = 0 := by
  unfold eHB at h
  split at h
  · exact ⟨‹_›, h⟩
  · exact absurd h ‹_›
def loI (m n : Int) : Int := if m ≤ n then m else n
def hiI (m n : Int) : Int := if m ≤ n then n else m
def loS (a b c d x y z p q r : Int) : Int := -d + loI (a * x) (a * p) + loI (b * y) (b * q) + loI (c * z) (c * r)
def hiS (a b c d x y z p q r : Int) : Int := -d + hiI (a * x) (a * p) + hiI (b * y) (b * q) + hiI (c * z) (c * r)
theorem ret_val {m n : Int} (h : m = n) : Value.int .i64 m = .int .i64 n := by rw [h]
set_option maxHeartbeats 8000000 in
theorem extremes_gen (a b c d x y z p q r A P B Q C R : Int) (eA : a * x = A) (eP : a * p = P) (eB : b * y = B) (eQ : b * q = Q) (eC : c * z = C) (eR : c * r = R)
    (bd : -4000000000 ≤ d ∧ d ≤ 4000000000) (bA : -1000000000 ≤ A ∧ A ≤ 1000000000) (bP : -1000000000 ≤ P ∧ P ≤ 1000000000) (bB : -1000000000 ≤ B ∧ B ≤ 1000000000) (bQ : -1000000000 ≤ Q ∧ Q ≤ 1000000000) (bC : -1000000000 ≤ C ∧ C ≤ 1000000000) (bR : -1000000000 ≤ R ∧ R ≤ 1000000000) (w : World) :
    Calls Try.prog 55 #[.agg #[.int .i64 a, .int .i64 b, .int .i64 c, .int .i64 d], .agg #[.int .i64 x, .int .i64 y, .int .i64 z, .int .i64 p, .int .i64 q, .int .i64 r]] w fun e w' => e = .returned (.tuple #[.int .i64 (-d + loI A P + loI B Q + loI C R), .int .i64 (-d + hiI A P + hiI B Q + hiI C R)]) ∧ Below w.heap.size w w' := by
  have i0 : ∀ w, (Instr.index 85 (.agg #[.int .i64 a, .int .i64 b, .int .i64 c]) (.int .i64 0)).run Try.prog w = .ok (.int .i64 a) w := fun _ => by kernel_rfl
  have i1 : ∀ w, (Instr.index 85 (.agg #[.int .i64 a, .int .i64 b, .int .i64 c]) (.int .i64 1)).run Try.prog w = .ok (.int .i64 b) w := fun _ => by kernel_rfl
  have i2 : ∀ w, (Instr.index 85 (.agg #[.int .i64 a, .int .i64 b, .int .i64 c]) (.int .i64 2)).run Try.prog w = .ok (.int .i64 c) w := fun _ => by kernel_rfl
  have HA := Lib.hid eA
  have HP := Lib.hid eP
  have HB := Lib.hid eB
  have HQ := Lib.hid eQ
  have HC := Lib.hid eC
  have HR := Lib.hid eR
  clear eA eP eB eQ eC eR
  go_enter Try.func55, Try.ntmps55
  go_upto_region 1 with (fail)
  go_cut [6, 7] from 14 to 19 (fun s3 s4 wx => TwoB (w.heap.size + 2) 85 #[.int .i64 x, .int .i64 y, .int .i64 z] #[.int .i64 p, .int .i64 q, .int .i64 r] s3 s4 wx ∧ KHB a b c d x y z p q r w wx)
  case first =>
    refine wp_region_any (by kernel_rfl) ?_
    try (change wpAny _ _ _ _ _ _ _ (World.drew _))
    refine wpAny_begin (I := (fun L act W => ∃ u14 u15 u16 u17 u18 u19 u6 u7, act = ⟨#[.agg #[.int .i64 a, .int .i64 b, .int .i64 c, .int .i64 d], .agg #[.int .i64 x, .int .i64 y, .int .i64 z, .int .i64 p, .int .i64 q, .int .i64 r], .pointer (some ⟨w.heap.size, 0, none⟩), .pointer (some ⟨w.heap.size + 1, 0, none⟩), .int .i64 0, .int .i64 0, u6, u7, undef, undef, undef, undef, undef, undef, u14, u15, u16, u17, u18, u19, undef, undef, undef, undef, undef, undef, undef, undef, undef, undef, undef, undef, undef, undef, undef, undef, undef, undef, undef, undef, undef, undef, undef, undef, undef, undef, undef, undef, undef, undef, undef, undef, undef, undef, undef], []⟩ ∧ (L 0 = true → u14 = .pointer (some ⟨w.heap.size + 1, 0, none⟩)) ∧ (L 1 = true → u15 = .agg #[.int .i64 x, .int .i64 y, .int .i64 z]) ∧ (L 2 = true → u16 = .agg #[.int .i64 x, .int .i64 y, .int .i64 z]) ∧ (L 3 = true → u17 = .pointer (some ⟨w.heap.size + 1, 3, none⟩)) ∧ (L 4 = true → u18 = .agg #[.int .i64 p, .int .i64 q, .int .i64 r]) ∧ (L 5 = true → u19 = .agg #[.int .i64 p, .int .i64 q, .int .i64 r]) ∧ J2 (w.heap.size + 2) (KHB a b c d x y z p q r w) 85 #[.int .i64 0, .int .i64 0, .int .i64 0] #[.int .i64 x, .int .i64 y, .int .i64 z] #[.int .i64 p, .int .i64 q, .int .i64 r] (L 6) (L 7) (L 8) (L 9) u6 u7 W)) (dep := fun i => [[], [0], [1], [], [3], [2, 4], [], [], [0, 1, 2, 5, 6, 7], [0, 1, 2, 3, 4, 5, 6, 7, 8]].getD i []) 10 rfl (by decide +kernel) ?_ ⟨?_, ?_, ?_, ?_, ?_, ?_, ?_, ?_, ?_, ?_, trivial⟩ ?_
    · exact ⟨_, _, _, _, _, _, _, _, rfl, (fun e => nomatch (show false = true from e)), (fun e => nomatch (show false = true from e)), (fun e => nomatch (show false = true from e)), (fun e => nomatch (show false = true from e)), (fun e => nomatch (show false = true from e)), (fun e => nomatch (show false = true from e)), J2.begin (KL.drew KHB.start)⟩
    · rintro L act W hi ⟨_⟩ ⟨u14, u15, u16, u17, u18, u19, u6, u7, rfl, h0, h1, h2, h3, h4, h5, hj⟩
      refine wpOp_step rfl (fun K' hK => ?_)
      go_simp
      exact hK _ _ ⟨_, _, _, _, _, _, _, _, rfl, (fun _ => rfl), h1, h2, h3, h4, h5, hj⟩
    · rintro L act W hi ⟨d0, _⟩ ⟨u14, u15, u16, u17, u18, u19, u6, u7, rfl, h0, h1, h2, h3, h4, h5, hj⟩
      obtain rfl := h0 d0
      obtain ⟨_, hsz, _, p1, p2, p3, p4, p5, p6⟩ := hj.hk.alls
      refine wpOp_step rfl (fun K' hK => ?_)
      go_simp
      exact hK _ _ ⟨_, _, _, _, _, _, _, _, rfl, h0, (fun _ => rfl), h2, h3, h4, h5, hj⟩
    · rintro L act W hi ⟨d1, _⟩ ⟨u14, u15, u16, u17, u18, u19, u6, u7, rfl, h0, h1, h2, h3, h4, h5, hj⟩
      obtain rfl := h1 d1
      refine wpOp_step rfl (fun K' hK => ?_)
      go_simp
      refine (pcoords_any _ _ _ _).mono ?_
      rintro e W1 ⟨rfl, hb1⟩
      exact hK _ _ ⟨_, _, _, _, _, _, _, _, rfl, h0, h1, (fun _ => rfl), h3, h4, h5, hj.over keptHB hb1⟩
    · rintro L act W hi ⟨_⟩ ⟨u14, u15, u16, u17, u18, u19, u6, u7, rfl, h0, h1, h2, h3, h4, h5, hj⟩
      refine wpOp_step rfl (fun K' hK => ?_)
      go_simp
      exact hK _ _ ⟨_, _, _, _, _, _, _, _, rfl, h0, h1, h2, (fun _ => rfl), h4, h5, hj⟩
    · rintro L act W hi ⟨d3, _⟩ ⟨u14, u15, u16, u17, u18, u19, u6, u7, rfl, h0, h1, h2, h3, h4, h5, hj⟩
      obtain rfl := h3 d3
      obtain ⟨_, hsz, _, p1, p2, p3, p4, p5, p6⟩ := hj.hk.alls
      refine wpOp_step rfl (fun K' hK => ?_)
      go_simp
      exact hK _ _ ⟨_, _, _, _, _, _, _, _, rfl, h0, h1, h2, h3, (fun _ => rfl), h5, hj⟩
    · rintro L act W hi ⟨d2, d4, _⟩ ⟨u14, u15, u16, u17, u18, u19, u6, u7, rfl, h0, h1, h2, h3, h4, h5, hj⟩
      obtain rfl := h2 d2
      obtain rfl := h4 d4
      refine wpOp_step rfl (fun K' hK => ?_)
      go_simp
      refine (pcoords_any _ _ _ _).mono ?_
      rintro e W1 ⟨rfl, hb1⟩
      exact hK _ _ ⟨_, _, _, _, _, _, _, _, rfl, h0, h1, h2, h3, h4, (fun _ => rfl), hj.over keptHB hb1⟩
    · rintro L act W hi ⟨_⟩ ⟨u14, u15, u16, u17, u18, u19, u6, u7, rfl, h0, h1, h2, h3, h4, h5, hj⟩
      refine wpOp_step rfl (fun K' hK => ?_)
      go_simp
      exact hK _ _ ⟨_, _, _, _, _, _, _, _, rfl, h0, h1, h2, h3, h4, h5, hj.alloc1 keptHB hi⟩
    · rintro L act W hi ⟨_⟩ ⟨u14, u15, u16, u17, u18, u19, u6, u7, rfl, h0, h1, h2, h3, h4, h5, hj⟩
      refine wpOp_step rfl (fun K' hK => ?_)
      go_simp
      exact hK _ _ ⟨_, _, _, _, _, _, _, _, rfl, h0, h1, h2, h3, h4, h5, hj.alloc2 keptHB hi⟩
    · rintro L act W hi ⟨d0, d1, d2, d5, d6, d7, _⟩ ⟨u14, u15, u16, u17, u18, u19, u6, u7, rfl, h0, h1, h2, h3, h4, h5, hj⟩
      obtain rfl := h0 d0
      obtain rfl := h1 d1
      obtain rfl := h2 d2
      obtain rfl := h5 d5
      have hj0 := hj
      obtain ⟨g, rfl, hg, hblk⟩ := hj.first d6 hi
      obtain ⟨f0, f1, f2⟩ := blk3 hblk
      have fz := hblk.frozen
      refine wpOp_step rfl (fun K' hK => ?_)
      go_simp
      exact hK _ _ ⟨_, _, _, _, _, _, _, _, rfl, h0, h1, h2, h3, h4, h5, hj.store1 d6 d7 (Blk.set3 hblk _ _ _) (fun k cs hk hb => Blk.far3 hb hk _ _ _) ((Kept.set keptHB (Kept.set keptHB (Kept.set keptHB hj0.hk hg _) hg _) hg _))⟩
    · rintro L act W hi ⟨d0, d1, d2, d3, d4, d5, d6, d7, d8, _⟩ ⟨u14, u15, u16, u17, u18, u19, u6, u7, rfl, h0, h1, h2, h3, h4, h5, hj⟩
      obtain rfl := h0 d0
      obtain rfl := h1 d1
      obtain rfl := h2 d2
      obtain rfl := h3 d3
      obtain rfl := h4 d4
      obtain rfl := h5 d5
      have hj0 := hj
      obtain ⟨g, rfl, hg, hblk⟩ := hj.second d7 hi
      obtain ⟨f0, f1, f2⟩ := blk3 hblk
      have fz := hblk.frozen
      refine wpOp_step rfl (fun K' hK => ?_)
      go_simp
      exact hK _ _ ⟨_, _, _, _, _, _, _, _, rfl, h0, h1, h2, h3, h4, h5, hj.store2 d6 d7 (Blk.set3 hblk _ _ _) (fun k cs hk hb => Blk.far3 hb hk _ _ _) ((Kept.set keptHB (Kept.set keptHB (Kept.set keptHB hj0.hk hg _) hg _) hg _))⟩
    · rintro L act W hall ⟨u14, u15, u16, u17, u18, u19, u6, u7, rfl, h0, h1, h2, h3, h4, h5, hj⟩
      obtain rfl := h0 (hall 0 (by omega))
      obtain rfl := h1 (hall 1 (by omega))
      obtain rfl := h2 (hall 2 (by omega))
      obtain rfl := h3 (hall 3 (by omega))
      obtain rfl := h4 (hall 4 (by omega))
      obtain rfl := h5 (hall 5 (by omega))
      have H := hj.two (hall 6 (by omega)) (hall 7 (by omega)) (hall 8 (by omega)) (hall 9 (by omega))
      go_wp2_with fail
      go_meet
      exact H
  case rest =>
    obtain ⟨⟨g, k, rfl, rfl, hne, hg, hk, hgb, hkb⟩, hK⟩ := hcut
    clear hne
    have hgl := hgb.lt
    have hkl := hkb.lt
    obtain ⟨g0, g1, g2⟩ := blk3 hgb
    obtain ⟨k0, k1, k2⟩ := blk3 hkb
    obtain ⟨_, hsz, ⟨p1, p2, p3, p4⟩, _⟩ := hK.alls
    have hbw := hK.1
    clear hK
    go_wp2
    go_quiet (fail)
    go_wp2_with (go_at_call 52; refine (factors_any _ _ _ _ _).mono ?_; rintro e w1 ⟨rfl, hb1⟩)
    have hb0 : Below wc.heap.size wc w1 := by
      repeat (first | exact Below.refl _ _ | refine below_drewN ?_ _ | refine Below.drew ?_ | (refine Below.trans ?_ (bmono (by assumption) ?_)))
      all_goals (first | omega | (simp <;> omega))
    clear hb1 g0 g1 g2 k0 k1 k2
    go_loopw [28, 8, 9] (fun i s t W => (i = .int .i64 0 ∧ s = .int .i64 (-d) ∧ t = .int .i64 (-d) ∨ i = .int .i64 1 ∧ s = .int .i64 (-d + loI A P) ∧ t = .int .i64 (-d + hiI A P) ∨ i = .int .i64 2 ∧ s = .int .i64 (-d + loI A P + loI B Q) ∧ t = .int .i64 (-d + hiI A P + hiI B Q) ∨
        i = .int .i64 3 ∧ s = .int .i64 (-d + loI A P + loI B Q + loI C R) ∧ t = .int .i64 (-d + hiI A P + hiI B Q + hiI C R)) ∧ Below wc.heap.size wc W) (fun i _ _ _ => 3 - (intOf i).toNat)
    case atStart => exact ⟨.inl ⟨rfl, rfl, rfl⟩, hb0⟩
    case round =>
      clear hb0
      obtain ⟨h, hb⟩ := hrel
      obtain ⟨g0, g1, g2⟩ := blk3 (hgb.below hb hgl)
      obtain ⟨k0, k1, k2⟩ := blk3 (hkb.below hb hkl)
      clear hgb hkb
      rcases h with ⟨rfl, rfl, rfl⟩ | ⟨rfl, rfl, rfl⟩ | ⟨rfl, rfl, rfl⟩ | ⟨rfl, rfl, rfl⟩
      · have e1 := Hid.out HA
        have e2 := Hid.out HP
        obtain ⟨l, HL0⟩ : ∃ l, l = -d := ⟨_, rfl⟩
        obtain ⟨t, HG0⟩ : ∃ t, t = -d := ⟨_, rfl⟩
        have bl : -7000000000 ≤ l ∧ l ≤ 7000000000 := by rw [HL0]; (try unfold loI); (repeat' split) <;> omega
        have bt : -7000000000 ≤ t ∧ t ≤ 7000000000 := by rw [HG0]; (try unfold hiI); (repeat' split) <;> omega
        skip
        have HL := Lib.hid HL0
        have HG := Lib.hid HG0
        clear HL0 HG0
        rcases Int.lt_or_le P A with hlt | hlt
        · have LO : loI A P = P := by unfold loI; rw [if_neg (by omega)]
          have HI : hiI A P = A := by unfold hiI; rw [if_neg (by omega)]
          have LO := Lib.hid LO
          have HI := Lib.hid HI
          go_wp2
          go_quiet (fail)
          go_wp2
          go_roundw
          case rel => exact ⟨.inr (.inl ⟨by go_num, ret_val (by have h9 := LO.out; (repeat' split) <;> omega), ret_val (by have h9 := HI.out; (repeat' split) <;> omega)⟩), below_drewN hb _⟩
          case measure => simp [intOf] <;> omega
        · have LO : loI A P = A := by unfold loI; rw [if_pos (by omega)]
          have HI : hiI A P = P := by unfold hiI; rw [if_pos (by omega)]
          have LO := Lib.hid LO
          have HI := Lib.hid HI
          go_wp2
          go_quiet (fail)
          go_wp2
          go_roundw
          case rel => exact ⟨.inr (.inl ⟨by go_num, ret_val (by have h9 := LO.out; (repeat' split) <;> omega), ret_val (by have h9 := HI.out; (repeat' split) <;> omega)⟩), below_drewN hb _⟩
          case measure => simp [intOf] <;> omega
      · have e1 := Hid.out HB
        have e2 := Hid.out HQ
        obtain ⟨l, HL0⟩ : ∃ l, l = -d + loI A P := ⟨_, rfl⟩
        obtain ⟨t, HG0⟩ : ∃ t, t = -d + hiI A P := ⟨_, rfl⟩
        have bl : -7000000000 ≤ l ∧ l ≤ 7000000000 := by rw [HL0]; (try unfold loI); (repeat' split) <;> omega
        have bt : -7000000000 ≤ t ∧ t ≤ 7000000000 := by rw [HG0]; (try unfold hiI); (repeat' split) <;> omega
        rw [← HL0, ← HG0]
        have HL := Lib.hid HL0
        have HG := Lib.hid HG0
        clear HL0 HG0
        rcases Int.lt_or_le Q B with hlt | hlt
        · have LO : loI B Q = Q := by unfold loI; rw [if_neg (by omega)]
          have HI : hiI B Q = B := by unfold hiI; rw [if_neg (by omega)]
          have LO := Lib.hid LO
          have HI := Lib.hid HI
          go_wp2
          go_quiet (fail)
          go_wp2
          go_roundw
          case rel => exact ⟨.inr (.inr (.inl ⟨by go_num, ret_val (by have h9 := LO.out; (repeat' split) <;> omega), ret_val (by have h9 := HI.out; (repeat' split) <;> omega)⟩)), below_drewN hb _⟩
          case measure => simp [intOf] <;> omega
        · have LO : loI B Q = B := by unfold loI; rw [if_pos (by omega)]
          have HI : hiI B Q = Q := by unfold hiI; rw [if_pos (by omega)]
          have LO := Lib.hid LO
          have HI := Lib.hid HI
          go_wp2
          go_quiet (fail)
          go_wp2
          go_roundw
          case rel => exact ⟨.inr (.inr (.inl ⟨by go_num, ret_val (by have h9 := LO.out; (repeat' split) <;> omega), ret_val (by have h9 := HI.out; (repeat' split) <;> omega)⟩)), below_drewN hb _⟩
          case measure => simp [intOf] <;> omega
      · have e1 := Hid.out HC
        have e2 := Hid.out HR
        obtain ⟨l, HL0⟩ : ∃ l, l = -d + loI A P + loI B Q := ⟨_, rfl⟩
        obtain ⟨t, HG0⟩ : ∃ t, t = -d + hiI A P + hiI B Q := ⟨_, rfl⟩
        have bl : -7000000000 ≤ l ∧ l ≤ 7000000000 := by rw [HL0]; (try unfold loI); (repeat' split) <;> omega
        have bt : -7000000000 ≤ t ∧ t ≤ 7000000000 := by rw [HG0]; (try unfold hiI); (repeat' split) <;> omega
        rw [← HL0, ← HG0]
        have HL := Lib.hid HL0
        have HG := Lib.hid HG0
        clear HL0 HG0
        rcases Int.lt_or_le R C with hlt | hlt
        · have LO : loI C R = R := by unfold loI; rw [if_neg (by omega)]
          have HI : hiI C R = C := by unfold hiI; rw [if_neg (by omega)]
          have LO := Lib.hid LO
          have HI := Lib.hid HI
          go_wp2
          go_quiet (fail)
          go_wp2
          go_roundw
          case rel => exact ⟨.inr (.inr (.inr ⟨by go_num, ret_val (by have h9 := LO.out; (repeat' split) <;> omega), ret_val (by have h9 := HI.out; (repeat' split) <;> omega)⟩)), below_drewN hb _⟩
          case measure => simp [intOf] <;> omega
        · have LO : loI C R = C := by unfold loI; rw [if_pos (by omega)]
          have HI : hiI C R = R := by unfold hiI; rw [if_pos (by omega)]
          have LO := Lib.hid LO
          have HI := Lib.hid HI
          go_wp2
          go_quiet (fail)
          go_wp2
          go_roundw
          case rel => exact ⟨.inr (.inr (.inr ⟨by go_num, ret_val (by have h9 := LO.out; (repeat' split) <;> omega), ret_val (by have h9 := HI.out; (repeat' split) <;> omega)⟩)), below_drewN hb _⟩
          case measure => simp [intOf] <;> omega
      · go_wp2
        go_ret2
        exact ⟨rfl, hbw.trans (bmono hb hbw.size)⟩
theorem extremes_in (a b c d x y z p q r : Int) (h : eHB a b c d x y z p q r = 0) (w : World) :
    Calls Try.prog 55 #[.agg #[.int .i64 a, .int .i64 b, .int .i64 c, .int .i64 d], .agg #[.int .i64 x, .int .i64 y, .int .i64 z, .int .i64 p, .int .i64 q, .int .i64 r]] w fun e w' => e = .returned (.tuple #[.int .i64 (loS a b c d x y z p q r), .int .i64 (hiS a b c d x y z p q r)]) ∧ Below w.heap.size w w' := by
  obtain ⟨ha, hb⟩ := eHB_zero h
  obtain ⟨hok, _⟩ := eH_zero ha
  obtain ⟨hv1, hv2, _⟩ := eB_zero hb
  obtain ⟨h1, h2, h3, h4⟩ := okF_iff.1 hok
  obtain ⟨b1, b2, b3⟩ := val_bd h1 h2 h3 hv1
  obtain ⟨c1, c2, c3⟩ := val_bd h1 h2 h3 hv2
  have b4 := inD_iff.1 h4
  exact extremes_gen a b c d x y z p q r _ _ _ _ _ _ rfl rfl rfl rfl rfl rfl b4 (by omega) (by omega) (by omega) (by omega) (by omega) (by omega) w
theorem ext_bd {a b c d x y z p q r : Int} (h : eHB a b c d x y z p q r = 0) : (-7000000000 ≤ loS a b c d x y z p q r ∧ loS a b c d x y z p q r ≤ 7000000000) ∧ (-7000000000 ≤ hiS a b c d x y z p q r ∧ hiS a b c d x y z p q r ≤ 7000000000) := by
  obtain ⟨ha, hb⟩ := eHB_zero h
  obtain ⟨hok, _⟩ := eH_zero ha
  obtain ⟨hv1, hv2, _⟩ := eB_zero hb
  obtain ⟨h1, h2, h3, h4⟩ := okF_iff.1 hok
  obtain ⟨b1, b2, b3⟩ := val_bd h1 h2 h3 hv1
  obtain ⟨c1, c2, c3⟩ := val_bd h1 h2 h3 hv2
  have b4 := inD_iff.1 h4
  unfold loS hiS loI hiI
  (repeat' split) <;> omega

set_option maxHeartbeats 1000000 in
theorem Extremes_bad (a b c d x y z p q r : Int) (h : eHB a b c d x y z p q r ≠ 0) (w : World) :
    Calls Try.prog 23 #[.agg #[.int .i64 a, .int .i64 b, .int .i64 c, .int .i64 d], .agg #[.int .i64 x, .int .i64 y, .int .i64 z, .int .i64 p, .int .i64 q, .int .i64 r]] w fun e w' => e = .returned (.tuple #[.int .i64 0, .int .i64 0, .int .i64 (eHB a b c d x y z p q r)]) ∧ Below w.heap.size w w' := by
  have h1 := checkBoth_any a b c d x y z p q r
  generalize eHB a b c d x y z p q r = e1 at h1 h ⊢
  obtain ⟨t1, t2⟩ := ne_tests h
  clear h
  go_enter Try.func23, Try.ntmps23
  go_wp2_with (go_at_call 54; refine (h1 _).mono ?_; rintro e w1 ⟨rfl, hb1⟩; obtain ⟨hc1, hf1⟩ := bcell hb1; have hz1 := hb1.size; (try simp at hz1); (try have y10 : w.heap.size < w1.heap.size := (by omega)); (try have y10p : w.heap.size < w1.heap.size + 1 := (by omega)); (try have y11 : w.heap.size + 1 < w1.heap.size := (by omega)); (try have y11p : w.heap.size + 1 < w1.heap.size + 1 := (by omega)); (try have y12 : w.heap.size + 1 + 1 < w1.heap.size := (by omega)); (try have y12p : w.heap.size + 1 + 1 < w1.heap.size + 1 := (by omega)); (try have v0x1 : w0.heap.size < w1.heap.size := (by omega)); (try have v0x1p : w0.heap.size < w1.heap.size + 1 := (by omega)))
  go_ret3
  refine ⟨rfl, ?_⟩
  repeat (first | exact Below.refl _ _ | refine Below.drew ?_ | refine below_drewN ?_ _ | refine Below.setCell ?_ ?_ _ | refine Below.alloc ?_ ?_ _ | (refine Below.trans ?_ (bmono (by assumption) ?_)))
  all_goals (first | omega | (simp <;> omega))
set_option maxHeartbeats 1000000 in
theorem Extremes_ok (a b c d x y z p q r : Int) (h : eHB a b c d x y z p q r = 0) (w : World) :
    Calls Try.prog 23 #[.agg #[.int .i64 a, .int .i64 b, .int .i64 c, .int .i64 d], .agg #[.int .i64 x, .int .i64 y, .int .i64 z, .int .i64 p, .int .i64 q, .int .i64 r]] w fun e w' => e = .returned (.tuple #[.int .i64 (loS a b c d x y z p q r), .int .i64 (hiS a b c d x y z p q r), .int .i64 0]) ∧ Below w.heap.size w w' := by
  have h1 := checkBoth_any a b c d x y z p q r
  rw [h] at h1
  have h2 := extremes_in a b c d x y z p q r h
  clear h
  generalize loS a b c d x y z p q r = s at h2 ⊢
  generalize hiS a b c d x y z p q r = t at h2 ⊢
  go_enter Try.func23, Try.ntmps23
  go_wp2_with (first
    | (go_at_call 54; refine (h1 _).mono ?_; rintro e w1 ⟨rfl, hb1⟩; obtain ⟨hc1, hf1⟩ := bcell hb1; have hz1 := hb1.size; (try simp at hz1); (try have y10 : w.heap.size < w1.heap.size := (by omega)); (try have y10p : w.heap.size < w1.heap.size + 1 := (by omega)); (try have y11 : w.heap.size + 1 < w1.heap.size := (by omega)); (try have y11p : w.heap.size + 1 < w1.heap.size + 1 := (by omega)); (try have y12 : w.heap.size + 1 + 1 < w1.heap.size := (by omega)); (try have y12p : w.heap.size + 1 + 1 < w1.heap.size + 1 := (by omega)); (try have v0x1 : w0.heap.size < w1.heap.size := (by omega)); (try have v0x1p : w0.heap.size < w1.heap.size + 1 := (by omega)))
    | (go_at_call 55; refine (h2 _).mono ?_; rintro e w2 ⟨rfl, hb2⟩; obtain ⟨hc2, hf2⟩ := bcell hb2; have hz2 := hb2.size; (try simp at hz2); (try have y20 : w.heap.size < w2.heap.size := (by omega)); (try have y20p : w.heap.size < w2.heap.size + 1 := (by omega)); (try have y21 : w.heap.size + 1 < w2.heap.size := (by omega)); (try have y21p : w.heap.size + 1 < w2.heap.size + 1 := (by omega)); (try have y22 : w.heap.size + 1 + 1 < w2.heap.size := (by omega)); (try have y22p : w.heap.size + 1 + 1 < w2.heap.size + 1 := (by omega)); (try have v0x2 : w0.heap.size < w2.heap.size := (by omega)); (try have v0x2p : w0.heap.size < w2.heap.size + 1 := (by omega)); (try have v1x2 : w1.heap.size < w2.heap.size := (by omega)); (try have v1x2p : w1.heap.size < w2.heap.size + 1 := (by omega))))
  go_ret3
  refine ⟨rfl, ?_⟩
  repeat (first | exact Below.refl _ _ | refine Below.drew ?_ | refine below_drewN ?_ _ | refine Below.setCell ?_ ?_ _ | refine Below.alloc ?_ ?_ _ | (refine Below.trans ?_ (bmono (by assumption) ?_)))
  all_goals (first | omega | (simp <;> omega))
set_option maxHeartbeats 1000000 in
theorem Side_bad (a b c d x y z p q r : Int) (h : eHB a b c d x y z p q r ≠ 0) (w : World) :
    Calls Try.prog 24 #[.agg #[.int .i64 a, .int .i64 b, .int .i64 c, .int .i64 d], .agg #[.int .i64 x, .int .i64 y, .int .i64 z, .int .i64 p, .int .i64 q, .int .i64 r]] w fun e w' => e = .returned (.tuple #[.int .i64 0, .int .i64 (eHB a b c d x y z p q r)]) ∧ Below w.heap.size w w' := by
  have h1 := checkBoth_any a b c d x y z p q r
  generalize eHB a b c d x y z p q r = e1 at h1 h ⊢
  obtain ⟨t1, t2⟩ := ne_tests h
  clear h
  go_enter Try.func24, Try.ntmps24
  go_wp2_with (go_at_call 54; refine (h1 _).mono ?_; rintro e w1 ⟨rfl, hb1⟩; obtain ⟨hc1, hf1⟩ := bcell hb1; have hz1 := hb1.size; (try simp at hz1); (try have y10 : w.heap.size < w1.heap.size := (by omega)); (try have y10p : w.heap.size < w1.heap.size + 1 := (by omega)); (try have y11 : w.heap.size + 1 < w1.heap.size := (by omega)); (try have y11p : w.heap.size + 1 < w1.heap.size + 1 := (by omega)); (try have y12 : w.heap.size + 1 + 1 < w1.heap.size := (by omega)); (try have y12p : w.heap.size + 1 + 1 < w1.heap.size + 1 := (by omega)); (try have v0x1 : w0.heap.size < w1.heap.size := (by omega)); (try have v0x1p : w0.heap.size < w1.heap.size + 1 := (by omega)))
  go_ret2
  refine ⟨rfl, ?_⟩
  repeat (first | exact Below.refl _ _ | refine Below.drew ?_ | refine below_drewN ?_ _ | refine Below.setCell ?_ ?_ _ | refine Below.alloc ?_ ?_ _ | (refine Below.trans ?_ (bmono (by assumption) ?_)))
  all_goals (first | omega | (simp <;> omega))
def sideI (s t : Int) : Int := if t ≤ 0 then 1 else if 0 ≤ s then 2 else 3
set_option maxHeartbeats 1000000 in
theorem Side_ok (a b c d x y z p q r : Int) (h : eHB a b c d x y z p q r = 0) (w : World) :
    Calls Try.prog 24 #[.agg #[.int .i64 a, .int .i64 b, .int .i64 c, .int .i64 d], .agg #[.int .i64 x, .int .i64 y, .int .i64 z, .int .i64 p, .int .i64 q, .int .i64 r]] w fun e w' => e = .returned (.tuple #[.int .i64 (sideI (loS a b c d x y z p q r) (hiS a b c d x y z p q r)), .int .i64 0]) ∧ Below w.heap.size w w' := by
  have h1 := checkBoth_any a b c d x y z p q r
  rw [h] at h1
  have h2 := extremes_in a b c d x y z p q r h
  clear h
  generalize loS a b c d x y z p q r = s at h2 ⊢
  generalize hiS a b c d x y z p q r = t at h2 ⊢
  have cases : (t ≤ 0 ∧ sideI s t = 1) ∨ (0 < t ∧ 0 ≤ s ∧ sideI s t = 2) ∨ (0 < t ∧ s < 0 ∧ sideI s t = 3) := by
    unfold sideI; (repeat' split) <;> omega
  rcases cases with ⟨c1, c2⟩ | ⟨c1, c3, c2⟩ | ⟨c1, c3, c2⟩
  all_goals
    rw [c2]
    clear c2
    go_enter Try.func24, Try.ntmps24
    go_wp2_with (first
      | (go_at_call 54; refine (h1 _).mono ?_; rintro e w1 ⟨rfl, hb1⟩; obtain ⟨hc1, hf1⟩ := bcell hb1; have hz1 := hb1.size; (try simp at hz1); (try have y10 : w.heap.size < w1.heap.size := (by omega)); (try have y10p : w.heap.size < w1.heap.size + 1 := (by omega)); (try have y11 : w.heap.size + 1 < w1.heap.size := (by omega)); (try have y11p : w.heap.size + 1 < w1.heap.size + 1 := (by omega)); (try have y12 : w.heap.size + 1 + 1 < w1.heap.size := (by omega)); (try have y12p : w.heap.size + 1 + 1 < w1.heap.size + 1 := (by omega)); (try have v0x1 : w0.heap.size < w1.heap.size := (by omega)); (try have v0x1p : w0.heap.size < w1.heap.size + 1 := (by omega)))
      | (go_at_call 55; refine (h2 _).mono ?_; rintro e w2 ⟨rfl, hb2⟩; obtain ⟨hc2, hf2⟩ := bcell hb2; have hz2 := hb2.size; (try simp at hz2); (try have y20 : w.heap.size < w2.heap.size := (by omega)); (try have y20p : w.heap.size < w2.heap.size + 1 := (by omega)); (try have y21 : w.heap.size + 1 < w2.heap.size := (by omega)); (try have y21p : w.heap.size + 1 < w2.heap.size + 1 := (by omega)); (try have y22 : w.heap.size + 1 + 1 < w2.heap.size := (by omega)); (try have y22p : w.heap.size + 1 + 1 < w2.heap.size + 1 := (by omega)); (try have v0x2 : w0.heap.size < w2.heap.size := (by omega)); (try have v0x2p : w0.heap.size < w2.heap.size + 1 := (by omega)); (try have v1x2 : w1.heap.size < w2.heap.size := (by omega)); (try have v1x2p : w1.heap.size < w2.heap.size + 1 := (by omega))))
    go_ret2
    refine ⟨rfl, ?_⟩
    repeat (first | exact Below.refl _ _ | refine Below.drew ?_ | refine below_drewN ?_ _ | refine Below.setCell ?_ ?_ _ | refine Below.alloc ?_ ?_ _ | (refine Below.trans ?_ (bmono (by assumption) ?_)))
    all_goals (first | omega | (simp <;> omega))
end Go.Proofs.Ytoeniaafcnnnoaa
