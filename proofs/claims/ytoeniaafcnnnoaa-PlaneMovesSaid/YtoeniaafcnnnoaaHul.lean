/- The walk of plane's Hull. The half-space and the box are valid, or the first error is handed back. -/
import Derived.Test.YtoeniaafcnnnoaaExt
namespace Go.Proofs.Ytoeniaafcnnnoaa
open Go.RowKit

def lsI (f lo hi : Int) : Int := if 0 < f then f * (lo + 1) else f * (hi - 1)
def spLo (f lo hi sl : Int) : Int := if f < 0 then (if lo ≤ hi - 1 - sl / (-f) then hi - 1 - sl / (-f) else lo) else lo
def spHi (f lo hi sl : Int) : Int := if 0 < f then (if lo + 1 + sl / f ≤ hi then lo + 1 + sl / f else hi) else hi
theorem blk_eq3 {w : World} {g : Nat} {t : TypeId} {a b c a' b' c' : Int} (h : Blk w g t #[.int .i64 a, .int .i64 b, .int .i64 c]) (ha : a = a') (hb : b = b') (hc : c = c') : Blk w g t #[.int .i64 a', .int .i64 b', .int .i64 c'] := by
  subst ha hb hc; exact h
theorem ls_neg {f lo hi A : Int} (hf : f ≤ 0) (e : lsI f lo hi = A) : (if f < 0 then f else 0) * (hi - 1) = A := by
  rw [← e]
  unfold lsI
  rw [if_neg (show ¬ 0 < f by omega)]
  split
  · rfl
  · rw [show f = 0 by omega, Int.zero_mul]
theorem blk_set0 {w : World} {g : Nat} {t : TypeId} {a b c v a' : Int} (h : Blk w g t #[.int .i64 a, .int .i64 b, .int .i64 c]) (e : v = a') : Blk (w.setCell ⟨g, 0, none⟩ (.int .i64 v)) g t #[.int .i64 a', .int .i64 b, .int .i64 c] := by
  subst e; simpa using h.set_ 0 (.int .i64 v)
theorem blk_set1 {w : World} {g : Nat} {t : TypeId} {a b c v a' : Int} (h : Blk w g t #[.int .i64 a, .int .i64 b, .int .i64 c]) (e : v = a') : Blk (w.setCell ⟨g, 1, none⟩ (.int .i64 v)) g t #[.int .i64 a, .int .i64 a', .int .i64 c] := by
  subst e; simpa using h.set_ 1 (.int .i64 v)
theorem blk_set2 {w : World} {g : Nat} {t : TypeId} {a b c v a' : Int} (h : Blk w g t #[.int .i64 a, .int .i64 b, .int .i64 c]) (e : v = a') : Blk (w.setCell ⟨g, 2, none⟩ (.int .i64 v)) g t #[.int .i64 a, .int .i64 b, .int .i64 a'] := by
  subst e; simpa using h.set_ 2 (.int .i64 v)
theorem Blk.set6 {w : World} {g : Nat} {t : TypeId} {p q r s x y : Value} (h : Blk w g t #[p, q, r, s, x, y]) (a b c d e f : Value) :
    Blk ((((((w.setCell ⟨g, 0, none⟩ a).setCell ⟨g, 1, none⟩ b).setCell ⟨g, 2, none⟩ c).setCell ⟨g, 3, none⟩ d).setCell ⟨g, 4, none⟩ e).setCell ⟨g, 5, none⟩ f) g t #[a, b, c, d, e, f] := by
  simpa using (((((h.set_ 0 a).set_ 1 b).set_ 2 c).set_ 3 d).set_ 4 e).set_ 5 f
theorem div_bd {n f : Int} (hn : 0 ≤ n) (hf : 0 < f) : 0 ≤ n / f ∧ n / f ≤ n := ⟨Int.ediv_nonneg hn (by omega), Int.ediv_le_self _ hn⟩
theorem spHi_pos {f lo hi sl v : Int} (hs : 0 ≤ sl) (hb : sl ≤ 20000000000) (hf : 0 < f) (hl : -1000000 ≤ lo ∧ lo ≤ 1000000) (e : spHi f lo hi sl = v) :
    (if wrap64 (lo + 1 + sl / f) < hi then wrap64 (lo + 1 + sl / f) else hi) = v := by
  have := div_bd hs hf
  rw [w64 (n := lo + 1 + sl / f) (by omega), ← e, spHi, if_pos hf]
  (repeat' split) <;> omega
theorem spLo_neg {f lo hi sl v : Int} (hs : 0 ≤ sl) (hb : sl ≤ 20000000000) (hf : f < 0) (hh : -1000000 ≤ hi ∧ hi ≤ 1000000) (e : spLo f lo hi sl = v) :
    (if lo < wrap64 (hi - 1 - wrap64 (-(sl.tdiv f))) then wrap64 (hi - 1 - wrap64 (-(sl.tdiv f))) else lo) = v := by
  have := div_bd hs (f := -f) (by omega)
  have h1 : -(sl.tdiv f) = sl / (-f) := by rw [← Int.tdiv_neg, Int.tdiv_eq_ediv_of_nonneg hs]
  rw [h1, w64 (n := sl / (-f)) (by omega), w64 (n := hi - 1 - sl / (-f)) (by omega), ← e, spLo, if_pos hf]
  (repeat' split) <;> omega
theorem spHi_no {f lo hi sl v : Int} (hf : f ≤ 0) (e : spHi f lo hi sl = v) : hi = v := by rw [← e, spHi, if_neg (by omega)]
theorem spLo_no {f lo hi sl v : Int} (hf : 0 ≤ f) (e : spLo f lo hi sl = v) : lo = v := by rw [← e, spLo, if_neg (by omega)]
set_option maxHeartbeats 1000000 in
theorem Hull_bad (a b c d x y z p q r : Int) (h : eHB a b c d x y z p q r ≠ 0) (w : World) :
    Calls Try.prog 33 #[.agg #[.int .i64 a, .int .i64 b, .int .i64 c, .int .i64 d], .agg #[.int .i64 x, .int .i64 y, .int .i64 z, .int .i64 p, .int .i64 q, .int .i64 r]] w fun e w' => e = .returned (.tuple #[.agg #[.int .i64 0, .int .i64 0, .int .i64 0, .int .i64 0, .int .i64 0, .int .i64 0], .int .i64 (eHB a b c d x y z p q r)]) ∧ Below w.heap.size w w' := by
  have h1 := checkBoth_any a b c d x y z p q r
  generalize eHB a b c d x y z p q r = e1 at h1 h ⊢
  obtain ⟨t1, t2⟩ := ne_tests h
  clear h
  go_enter Try.func33, Try.ntmps33
  go_wp2_with (go_at_call 54; refine (h1 _).mono ?_; rintro e w1 ⟨rfl, hb1⟩; obtain ⟨hc1, hf1⟩ := bcell hb1; have hz1 := hb1.size; (try simp at hz1); (try have y10 : w.heap.size < w1.heap.size := (by omega)); (try have y10p : w.heap.size < w1.heap.size + 1 := (by omega)); (try have y11 : w.heap.size + 1 < w1.heap.size := (by omega)); (try have y11p : w.heap.size + 1 < w1.heap.size + 1 := (by omega)); (try have y12 : w.heap.size + 1 + 1 < w1.heap.size := (by omega)); (try have y12p : w.heap.size + 1 + 1 < w1.heap.size + 1 := (by omega)); (try have v0x1 : w0.heap.size < w1.heap.size := (by omega)); (try have v0x1p : w0.heap.size < w1.heap.size + 1 := (by omega)))
  exact bodyPost_ret (v := .tuple #[.agg #[.int .i64 0, .int .i64 0, .int .i64 0, .int .i64 0, .int .i64 0, .int .i64 0], .int .i64 e1]) (by simp [results, Try.results33, go_sem, hc1]) rfl ⟨rfl, by
    repeat (first | with_reducible exact Below.refl _ _ | with_reducible refine Below.setCell ?_ ?_ _ | with_reducible refine Below.alloc ?_ ?_ _ | with_reducible refine Below.drew ?_ | with_reducible refine below_drewN ?_ _ | (refine Below.trans ?_ (bmono (by assumption) ?_)))
    all_goals (first | omega | (simp <;> omega))⟩
set_option maxHeartbeats 8000000 in
theorem Hull_gen (a b c d x y z p q r A B C sl lx ly lz hx hy hz R1 R2 R3 R4 R5 R6 E : Int) (h : eHB a b c d x y z p q r = 0) (eA : lsI a x p = A) (eB' : lsI b y q = B) (eC : lsI c z r = C) (esl : d - A - B - C = sl)
    (hneg : sl < 0 → (R1 = 0 ∧ R2 = 0 ∧ R3 = 0 ∧ R4 = 0 ∧ R5 = 0 ∧ R6 = 0) ∧ E = 9) (hpos : 0 ≤ sl → (R1 = lx ∧ R2 = ly ∧ R3 = lz ∧ R4 = hx ∧ R5 = hy ∧ R6 = hz) ∧ E = 0)
    (elx : spLo a x p sl = lx) (ely : spLo b y q sl = ly) (elz : spLo c z r sl = lz) (ehx : spHi a x p sl = hx) (ehy : spHi b y q sl = hy) (ehz : spHi c z r sl = hz)
    (bx : -1000000 ≤ x ∧ x < p ∧ p ≤ 1000000) (b_y : -1000000 ≤ y ∧ y < q ∧ q ≤ 1000000) (bz : -1000000 ≤ z ∧ z < r ∧ r ≤ 1000000)
    (ba : -1000 ≤ a ∧ a ≤ 1000) (bb : -1000 ≤ b ∧ b ≤ 1000) (bc : -1000 ≤ c ∧ c ≤ 1000)
    (bd : -4000000000 ≤ d ∧ d ≤ 4000000000) (bA : -2000000000 ≤ A ∧ A ≤ 2000000000) (bB : -2000000000 ≤ B ∧ B ≤ 2000000000) (bC : -2000000000 ≤ C ∧ C ≤ 2000000000) (w : World) :
    Calls Try.prog 33 #[.agg #[.int .i64 a, .int .i64 b, .int .i64 c, .int .i64 d], .agg #[.int .i64 x, .int .i64 y, .int .i64 z, .int .i64 p, .int .i64 q, .int .i64 r]] w fun e w' => e = .returned (.tuple #[.agg #[.int .i64 R1, .int .i64 R2, .int .i64 R3, .int .i64 R4, .int .i64 R5, .int .i64 R6], .int .i64 E]) ∧ Below w.heap.size w w' := by
  have h1 := checkBoth_any a b c d x y z p q r
  rw [h] at h1
  clear h
  have bsl : -20000000000 ≤ sl ∧ sl ≤ 20000000000 := by omega
  have HA := Lib.hid eA
  have HB := Lib.hid eB'
  have HC := Lib.hid eC
  have HSL := Lib.hid esl
  have HN := Lib.hid hneg
  have HP := Lib.hid hpos
  have HLX := Lib.hid elx
  have HLY := Lib.hid ely
  have HLZ := Lib.hid elz
  have HHX := Lib.hid ehx
  have HHY := Lib.hid ehy
  have HHZ := Lib.hid ehz
  clear eA eB' eC esl hneg hpos elx ely elz ehx ehy ehz
  have i0 : ∀ w, (Instr.index 85 (.agg #[.int .i64 a, .int .i64 b, .int .i64 c]) (.int .i64 0)).run Try.prog w = .ok (.int .i64 a) w := fun _ => by kernel_rfl
  have i1 : ∀ w, (Instr.index 85 (.agg #[.int .i64 a, .int .i64 b, .int .i64 c]) (.int .i64 1)).run Try.prog w = .ok (.int .i64 b) w := fun _ => by kernel_rfl
  have i2 : ∀ w, (Instr.index 85 (.agg #[.int .i64 a, .int .i64 b, .int .i64 c]) (.int .i64 2)).run Try.prog w = .ok (.int .i64 c) w := fun _ => by kernel_rfl
  go_enter Try.func33, Try.ntmps33
  go_wp2_with (first
    | (go_at_call 54; refine (h1 _).mono ?_; rintro e w1 ⟨rfl, hb1⟩; obtain ⟨hc1, hf1⟩ := bcell hb1; have hz1 := hb1.size; (try simp at hz1); (try have y10 : w.heap.size < w1.heap.size := (by omega)); (try have y10p : w.heap.size < w1.heap.size + 1 := (by omega)); (try have y11 : w.heap.size + 1 < w1.heap.size := (by omega)); (try have y11p : w.heap.size + 1 < w1.heap.size + 1 := (by omega)); (try have y12 : w.heap.size + 1 + 1 < w1.heap.size := (by omega)); (try have y12p : w.heap.size + 1 + 1 < w1.heap.size + 1 := (by omega)); (try have v0x1 : w0.heap.size < w1.heap.size := (by omega)); (try have v0x1p : w0.heap.size < w1.heap.size + 1 := (by omega)))
    | (go_at_call 52; refine (factors_any _ _ _ _ _).mono ?_; rintro e w2 ⟨rfl, hb2⟩; obtain ⟨hc2, hf2⟩ := bcell hb2; have hz2 := hb2.size; (try simp at hz2); (try have y20 : w.heap.size < w2.heap.size := (by omega)); (try have y20p : w.heap.size < w2.heap.size + 1 := (by omega)); (try have y21 : w.heap.size + 1 < w2.heap.size := (by omega)); (try have y21p : w.heap.size + 1 < w2.heap.size + 1 := (by omega)); (try have y22 : w.heap.size + 1 + 1 < w2.heap.size := (by omega)); (try have y22p : w.heap.size + 1 + 1 < w2.heap.size + 1 := (by omega)); (try have v0x2 : w0.heap.size < w2.heap.size := (by omega)); (try have v0x2p : w0.heap.size < w2.heap.size + 1 := (by omega)); (try have v1x2 : w1.heap.size < w2.heap.size := (by omega)); (try have v1x2p : w1.heap.size < w2.heap.size + 1 := (by omega))))
  have hk0 : (KL [(w.heap.size, 32, #[.int .i64 a, .int .i64 b, .int .i64 c, .int .i64 d]), (w.heap.size + 1, 42, #[.int .i64 x, .int .i64 y, .int .i64 z, .int .i64 p, .int .i64 q, .int .i64 r]), (w.heap.size + 2, 42, #[.int .i64 0, .int .i64 0, .int .i64 0, .int .i64 0, .int .i64 0, .int .i64 0]), (w2.heap.size, 85, #[.int .i64 a, .int .i64 b, .int .i64 c])] w) (w2.alloc (.cells #[.int .i64 a, .int .i64 b, .int .i64 c] 85)) := by
    refine ⟨?_, ?_⟩
    · repeat (first | exact Below.refl _ _ | refine Below.drew ?_ | refine below_drewN ?_ _ | refine Below.setCell ?_ ?_ _ | refine Below.alloc ?_ ?_ _ | (refine Below.trans ?_ (bmono (by assumption) ?_)))
      all_goals (first | omega | (simp <;> omega))
    · intro q hq
      simp only [List.mem_cons, List.not_mem_nil, or_false] at hq
      rcases hq with rfl | rfl | rfl | rfl
      · exact Blk.alloc (((((Blk.new2 rfl).alloc _).alloc _).below hb1 (by first | omega | (simp <;> omega))).below hb2 (by omega)) _
      · exact Blk.alloc ((((Blk.new2 (by simp)).alloc _).below hb1 (by first | omega | (simp <;> omega))).below hb2 (by omega)) _
      · exact Blk.alloc (((Blk.new2 (by simp)).below hb1 (by first | omega | (simp <;> omega))).below hb2 (by omega)) _
      · exact Blk.new2 rfl
  have hkept : Kept (w2.heap.size + 1) (KL [(w.heap.size, 32, #[.int .i64 a, .int .i64 b, .int .i64 c, .int .i64 d]), (w.heap.size + 1, 42, #[.int .i64 x, .int .i64 y, .int .i64 z, .int .i64 p, .int .i64 q, .int .i64 r]), (w.heap.size + 2, 42, #[.int .i64 0, .int .i64 0, .int .i64 0, .int .i64 0, .int .i64 0, .int .i64 0]), (w2.heap.size, 85, #[.int .i64 a, .int .i64 b, .int .i64 c])] w) := keptKL (by omega) (by intro q hq; simp only [List.mem_cons, List.not_mem_nil, or_false] at hq; rcases hq with rfl | rfl | rfl | rfl <;> (dsimp only; omega)) (.inr ⟨_, .tail _ (.tail _ (.tail _ (.head _))), rfl⟩)
  clear hb1 hb2 hc1 hc2 hf1 hf2 h1
  go_cut [8, 9] from 24 to 29 (fun s3 s4 wx => TwoB (w2.heap.size + 1) 85 #[.int .i64 x, .int .i64 y, .int .i64 z] #[.int .i64 p, .int .i64 q, .int .i64 r] s3 s4 wx ∧ (KL [(w.heap.size, 32, #[.int .i64 a, .int .i64 b, .int .i64 c, .int .i64 d]), (w.heap.size + 1, 42, #[.int .i64 x, .int .i64 y, .int .i64 z, .int .i64 p, .int .i64 q, .int .i64 r]), (w.heap.size + 2, 42, #[.int .i64 0, .int .i64 0, .int .i64 0, .int .i64 0, .int .i64 0, .int .i64 0]), (w2.heap.size, 85, #[.int .i64 a, .int .i64 b, .int .i64 c])] w) wx)
  case first =>
    refine wp_region_any (by kernel_rfl) ?_
    try (change wpAny _ _ _ _ _ _ _ (World.drew _))
    refine wpAny_begin (I := (fun L act W => ∃ u24 u25 u26 u27 u28 u29 u8 u9, act = ⟨#[.agg #[.int .i64 a, .int .i64 b, .int .i64 c, .int .i64 d], .agg #[.int .i64 x, .int .i64 y, .int .i64 z, .int .i64 p, .int .i64 q, .int .i64 r], .pointer (some ⟨w.heap.size, 0, none⟩), .pointer (some ⟨w.heap.size + 1, 0, none⟩), .pointer (some ⟨w.heap.size + 1 + 1, 0, none⟩), .int .i64 0, .int .i64 0, .pointer (some ⟨w2.heap.size, 0, none⟩), u8, u9, undef, undef, undef, undef, undef, .agg #[.int .i64 a, .int .i64 b, .int .i64 c, .int .i64 d], .agg #[.int .i64 x, .int .i64 y, .int .i64 z, .int .i64 p, .int .i64 q, .int .i64 r], .int .i64 0, .int .i64 0, .bool false, undef, undef, .agg #[.int .i64 a, .int .i64 b, .int .i64 c, .int .i64 d], .agg #[.int .i64 a, .int .i64 b, .int .i64 c], u24, u25, u26, u27, u28, u29, undef, undef, undef, undef, undef, undef, undef, undef, undef, undef, undef, undef, undef, undef, undef, undef, undef, undef, undef, undef, undef, undef, undef, undef, undef, undef, undef, undef, undef, undef, undef, undef, undef, undef, undef, undef, undef, undef, undef, undef, undef, undef, undef, undef, undef, undef, undef, undef, undef, undef, undef, undef, undef, undef, undef, undef, undef, undef, undef, undef, undef, undef, undef, undef, undef, undef, undef, undef, undef, undef, undef, undef, undef, undef], []⟩ ∧ (L 0 = true → u24 = .pointer (some ⟨w.heap.size + 1, 0, none⟩)) ∧ (L 1 = true → u25 = .agg #[.int .i64 x, .int .i64 y, .int .i64 z]) ∧ (L 2 = true → u26 = .agg #[.int .i64 x, .int .i64 y, .int .i64 z]) ∧ (L 3 = true → u27 = .pointer (some ⟨w.heap.size + 1, 3, none⟩)) ∧ (L 4 = true → u28 = .agg #[.int .i64 p, .int .i64 q, .int .i64 r]) ∧ (L 5 = true → u29 = .agg #[.int .i64 p, .int .i64 q, .int .i64 r]) ∧ J2 (w2.heap.size + 1) (KL [(w.heap.size, 32, #[.int .i64 a, .int .i64 b, .int .i64 c, .int .i64 d]), (w.heap.size + 1, 42, #[.int .i64 x, .int .i64 y, .int .i64 z, .int .i64 p, .int .i64 q, .int .i64 r]), (w.heap.size + 2, 42, #[.int .i64 0, .int .i64 0, .int .i64 0, .int .i64 0, .int .i64 0, .int .i64 0]), (w2.heap.size, 85, #[.int .i64 a, .int .i64 b, .int .i64 c])] w) 85 #[.int .i64 0, .int .i64 0, .int .i64 0] #[.int .i64 x, .int .i64 y, .int .i64 z] #[.int .i64 p, .int .i64 q, .int .i64 r] (L 6) (L 7) (L 8) (L 9) u8 u9 W)) (dep := fun i => [[], [0], [1], [], [3], [2, 4], [], [], [0, 1, 2, 5, 6, 7], [0, 1, 2, 3, 4, 5, 6, 7, 8]].getD i []) 10 rfl (by decide +kernel) ?_ ⟨?_, ?_, ?_, ?_, ?_, ?_, ?_, ?_, ?_, ?_, trivial⟩ ?_
    · exact ⟨_, _, _, _, _, _, _, _, rfl, (fun e => nomatch (show false = true from e)), (fun e => nomatch (show false = true from e)), (fun e => nomatch (show false = true from e)), (fun e => nomatch (show false = true from e)), (fun e => nomatch (show false = true from e)), (fun e => nomatch (show false = true from e)), J2.begin (KL.drew hk0)⟩
    · rintro L act W hi ⟨_⟩ ⟨u24, u25, u26, u27, u28, u29, u8, u9, rfl, h0, h1, h2, h3, h4, h5, hj⟩
      refine wpOp_step rfl (fun K' hK => ?_)
      go_simp
      exact hK _ _ ⟨_, _, _, _, _, _, _, _, rfl, (fun _ => rfl), h1, h2, h3, h4, h5, hj⟩
    · rintro L act W hi ⟨d0, _⟩ ⟨u24, u25, u26, u27, u28, u29, u8, u9, rfl, h0, h1, h2, h3, h4, h5, hj⟩
      obtain rfl := h0 d0
      obtain ⟨p1, p2, p3, p4, p5, p6⟩ := blk6 (KL.blk hj.hk (.tail _ (.head _)))
      refine wpOp_step rfl (fun K' hK => ?_)
      go_simp
      exact hK _ _ ⟨_, _, _, _, _, _, _, _, rfl, h0, (fun _ => rfl), h2, h3, h4, h5, hj⟩
    · rintro L act W hi ⟨d1, _⟩ ⟨u24, u25, u26, u27, u28, u29, u8, u9, rfl, h0, h1, h2, h3, h4, h5, hj⟩
      obtain rfl := h1 d1
      refine wpOp_step rfl (fun K' hK => ?_)
      go_simp
      refine (pcoords_any _ _ _ _).mono ?_
      rintro e W1 ⟨rfl, hb1⟩
      exact hK _ _ ⟨_, _, _, _, _, _, _, _, rfl, h0, h1, (fun _ => rfl), h3, h4, h5, hj.over hkept hb1⟩
    · rintro L act W hi ⟨_⟩ ⟨u24, u25, u26, u27, u28, u29, u8, u9, rfl, h0, h1, h2, h3, h4, h5, hj⟩
      refine wpOp_step rfl (fun K' hK => ?_)
      go_simp
      exact hK _ _ ⟨_, _, _, _, _, _, _, _, rfl, h0, h1, h2, (fun _ => rfl), h4, h5, hj⟩
    · rintro L act W hi ⟨d3, _⟩ ⟨u24, u25, u26, u27, u28, u29, u8, u9, rfl, h0, h1, h2, h3, h4, h5, hj⟩
      obtain rfl := h3 d3
      obtain ⟨p1, p2, p3, p4, p5, p6⟩ := blk6 (KL.blk hj.hk (.tail _ (.head _)))
      refine wpOp_step rfl (fun K' hK => ?_)
      go_simp
      exact hK _ _ ⟨_, _, _, _, _, _, _, _, rfl, h0, h1, h2, h3, (fun _ => rfl), h5, hj⟩
    · rintro L act W hi ⟨d2, d4, _⟩ ⟨u24, u25, u26, u27, u28, u29, u8, u9, rfl, h0, h1, h2, h3, h4, h5, hj⟩
      obtain rfl := h2 d2
      obtain rfl := h4 d4
      refine wpOp_step rfl (fun K' hK => ?_)
      go_simp
      refine (pcoords_any _ _ _ _).mono ?_
      rintro e W1 ⟨rfl, hb1⟩
      exact hK _ _ ⟨_, _, _, _, _, _, _, _, rfl, h0, h1, h2, h3, h4, (fun _ => rfl), hj.over hkept hb1⟩
    · rintro L act W hi ⟨_⟩ ⟨u24, u25, u26, u27, u28, u29, u8, u9, rfl, h0, h1, h2, h3, h4, h5, hj⟩
      refine wpOp_step rfl (fun K' hK => ?_)
      go_simp
      exact hK _ _ ⟨_, _, _, _, _, _, _, _, rfl, h0, h1, h2, h3, h4, h5, hj.alloc1 hkept hi⟩
    · rintro L act W hi ⟨_⟩ ⟨u24, u25, u26, u27, u28, u29, u8, u9, rfl, h0, h1, h2, h3, h4, h5, hj⟩
      refine wpOp_step rfl (fun K' hK => ?_)
      go_simp
      exact hK _ _ ⟨_, _, _, _, _, _, _, _, rfl, h0, h1, h2, h3, h4, h5, hj.alloc2 hkept hi⟩
    · rintro L act W hi ⟨d0, d1, d2, d5, d6, d7, _⟩ ⟨u24, u25, u26, u27, u28, u29, u8, u9, rfl, h0, h1, h2, h3, h4, h5, hj⟩
      obtain rfl := h0 d0
      obtain rfl := h1 d1
      obtain rfl := h2 d2
      obtain rfl := h5 d5
      have hj0 := hj
      obtain ⟨g, rfl, hg, hblk⟩ := hj.first d6 hi
      obtain ⟨f0, f1, f2⟩ := blk3 hblk
      have fz := hblk.frozen
      refine wpOp_step rfl (fun K' hK => ?_)
      go_simp
      exact hK _ _ ⟨_, _, _, _, _, _, _, _, rfl, h0, h1, h2, h3, h4, h5, hj.store1 d6 d7 (Blk.set3 hblk _ _ _) (fun k cs hk hb => Blk.far3 hb hk _ _ _) ((Kept.set hkept (Kept.set hkept (Kept.set hkept hj0.hk hg _) hg _) hg _))⟩
    · rintro L act W hi ⟨d0, d1, d2, d3, d4, d5, d6, d7, d8, _⟩ ⟨u24, u25, u26, u27, u28, u29, u8, u9, rfl, h0, h1, h2, h3, h4, h5, hj⟩
      obtain rfl := h0 d0
      obtain rfl := h1 d1
      obtain rfl := h2 d2
      obtain rfl := h3 d3
      obtain rfl := h4 d4
      obtain rfl := h5 d5
      have hj0 := hj
      obtain ⟨g, rfl, hg, hblk⟩ := hj.second d7 hi
      obtain ⟨f0, f1, f2⟩ := blk3 hblk
      have fz := hblk.frozen
      refine wpOp_step rfl (fun K' hK => ?_)
      go_simp
      exact hK _ _ ⟨_, _, _, _, _, _, _, _, rfl, h0, h1, h2, h3, h4, h5, hj.store2 d6 d7 (Blk.set3 hblk _ _ _) (fun k cs hk hb => Blk.far3 hb hk _ _ _) ((Kept.set hkept (Kept.set hkept (Kept.set hkept hj0.hk hg _) hg _) hg _))⟩
    · rintro L act W hall ⟨u24, u25, u26, u27, u28, u29, u8, u9, rfl, h0, h1, h2, h3, h4, h5, hj⟩
      obtain rfl := h0 (hall 0 (by omega))
      obtain rfl := h1 (hall 1 (by omega))
      obtain rfl := h2 (hall 2 (by omega))
      obtain rfl := h3 (hall 3 (by omega))
      obtain rfl := h4 (hall 4 (by omega))
      obtain rfl := h5 (hall 5 (by omega))
      have H := hj.two (hall 6 (by omega)) (hall 7 (by omega)) (hall 8 (by omega)) (hall 9 (by omega))
      go_wp2_with fail
      go_meet
      exact H
  case rest =>
    obtain ⟨⟨g, k, rfl, rfl, hne, hg, hk, hgb, hkb⟩, hK⟩ := hcut
    have hgl := hgb.lt
    have hkl := hkb.lt
    obtain ⟨g0, g1, g2⟩ := blk3 hgb
    obtain ⟨k0, k1, k2⟩ := blk3 hkb
    obtain ⟨p1, p2, p3, p4⟩ := blk4 (KL.blk hK (.head _))
    obtain ⟨f0, f1, f2⟩ := blk3 (KL.blk hK (.tail _ (.tail _ (.tail _ (.head _)))))
    go_wp2
    go_loopw [33, 10] (fun i s W => (i = .int .i64 0 ∧ s = .int .i64 d ∨ i = .int .i64 1 ∧ s = .int .i64 (d - A) ∨ i = .int .i64 2 ∧ s = .int .i64 (d - A - B) ∨ i = .int .i64 3 ∧ s = .int .i64 sl) ∧ Below wc.heap.size wc W) (fun i _ _ => 3 - (intOf i).toNat)
    case atStart => exact ⟨.inl ⟨rfl, rfl⟩, Below.refl _ _⟩
    case round =>
      clear g0 g1 g2 k0 k1 k2
      obtain ⟨h, hb⟩ := hrel
      obtain ⟨g0, g1, g2⟩ := blk3 (hgb.below hb hgl)
      obtain ⟨k0, k1, k2⟩ := blk3 (hkb.below hb hkl)
      rcases h with ⟨rfl, rfl⟩ | ⟨rfl, rfl⟩ | ⟨rfl, rfl⟩ | ⟨rfl, rfl⟩
      · rcases Int.lt_or_le 0 a with hf | hf
        · have e1 : a * (x + 1) = A := by rw [← HA.out, lsI, if_pos hf]
          go_wp2
          go_quiet (fail)
          clear e1
          go_wp2
          go_roundw
          case rel => exact ⟨.inr (.inl ⟨by go_num, by trivial⟩), below_drewN hb _⟩
          case measure => simp [intOf] <;> omega
        · have e1 : (if a < 0 then a else 0) * (p - 1) = A := ls_neg hf HA.out
          go_wp2
          go_quiet (fail)
          clear e1
          go_wp2
          go_roundw
          case rel => exact ⟨.inr (.inl ⟨by go_num, by trivial⟩), below_drewN hb _⟩
          case measure => simp [intOf] <;> omega
      · rcases Int.lt_or_le 0 b with hf | hf
        · have e1 : b * (y + 1) = B := by rw [← HB.out, lsI, if_pos hf]
          go_wp2
          go_quiet (fail)
          clear e1
          go_wp2
          go_roundw
          case rel => exact ⟨.inr (.inr (.inl ⟨by go_num, by trivial⟩)), below_drewN hb _⟩
          case measure => simp [intOf] <;> omega
        · have e1 : (if b < 0 then b else 0) * (q - 1) = B := ls_neg hf HB.out
          go_wp2
          go_quiet (fail)
          clear e1
          go_wp2
          go_roundw
          case rel => exact ⟨.inr (.inr (.inl ⟨by go_num, by trivial⟩)), below_drewN hb _⟩
          case measure => simp [intOf] <;> omega
      · rcases Int.lt_or_le 0 c with hf | hf
        · have e1 : c * (z + 1) = C := by rw [← HC.out, lsI, if_pos hf]
          go_wp2
          go_quiet (fail)
          clear e1
          go_wp2
          go_roundw
          case rel => exact ⟨.inr (.inr (.inr ⟨by go_num, ret_val HSL.out⟩)), below_drewN hb _⟩
          case measure => simp [intOf] <;> omega
        · have e1 : (if c < 0 then c else 0) * (r - 1) = C := ls_neg hf HC.out
          go_wp2
          go_quiet (fail)
          clear e1
          go_wp2
          go_roundw
          case rel => exact ⟨.inr (.inr (.inr ⟨by go_num, ret_val HSL.out⟩)), below_drewN hb _⟩
          case measure => simp [intOf] <;> omega
      · have hK' := KL.over hK hb
        have hgb' := hgb.below hb hgl
        have hkb' := hkb.below hb hkl
        clear hK hb hgb hkb hk0 p1 p2 p3 p4 f0 f1 f2 g0 g1 g2 k0 k1 k2
        obtain ⟨f0, f1, f2⟩ := blk3 (KL.blk hK' (.tail _ (.tail _ (.tail _ (.head _)))))
        obtain ⟨q0, q1, q2, q3, q4, q5⟩ := blk6 (KL.blk hK' (.tail _ (.tail _ (.head _))))
        have qf := (KL.blk hK' (.tail _ (.tail _ (.head _)))).frozen
        have ql := (KL.blk hK' (.tail _ (.tail _ (.head _)))).lt
        have hbw := hK'.1
        have hne9 := hne
        rcases Int.lt_or_le sl 0 with hs | hs
        · obtain ⟨⟨rfl, rfl, rfl, rfl, rfl, rfl⟩, rfl⟩ := HN.out hs
          go_wp2
          exact bodyPost_ret (v := .tuple #[.agg #[.int .i64 0, .int .i64 0, .int .i64 0, .int .i64 0, .int .i64 0, .int .i64 0], .int .i64 9]) (by simp [results, Try.results33, go_sem, q0, q1, q2, q3, q4, q5]) rfl ⟨rfl, by
            repeat (first | exact hbw | with_reducible refine Below.setCell ?_ ?_ _)
            all_goals (first | omega | (simp <;> omega))⟩
        · obtain ⟨⟨rfl, rfl, rfl, rfl, rfl, rfl⟩, rfl⟩ := HP.out hs
          clear HN HP q0 q1 q2 q3 q4 q5 qf ql
          go_wp2
          go_loopw [59] (fun i W => (i = .int .i64 0 ∧ Blk W g 85 #[.int .i64 x, .int .i64 y, .int .i64 z] ∧ Blk W k 85 #[.int .i64 p, .int .i64 q, .int .i64 r] ∨
              i = .int .i64 1 ∧ Blk W g 85 #[.int .i64 R1, .int .i64 y, .int .i64 z] ∧ Blk W k 85 #[.int .i64 R4, .int .i64 q, .int .i64 r] ∨
              i = .int .i64 2 ∧ Blk W g 85 #[.int .i64 R1, .int .i64 R2, .int .i64 z] ∧ Blk W k 85 #[.int .i64 R4, .int .i64 R5, .int .i64 r] ∨
              i = .int .i64 3 ∧ Blk W g 85 #[.int .i64 R1, .int .i64 R2, .int .i64 R3] ∧ Blk W k 85 #[.int .i64 R4, .int .i64 R5, .int .i64 R6]) ∧ (KL [(w.heap.size, 32, #[.int .i64 a, .int .i64 b, .int .i64 c, .int .i64 d]), (w.heap.size + 1, 42, #[.int .i64 x, .int .i64 y, .int .i64 z, .int .i64 p, .int .i64 q, .int .i64 r]), (w.heap.size + 2, 42, #[.int .i64 0, .int .i64 0, .int .i64 0, .int .i64 0, .int .i64 0, .int .i64 0]), (w2.heap.size, 85, #[.int .i64 a, .int .i64 b, .int .i64 c])] w) W) (fun i _ => 3 - (intOf i).toNat)
          case atStart => exact ⟨.inl ⟨rfl, hgb', hkb'⟩, hK'⟩
          case round =>
            clear hgb' hkb' hK' f0 f1 f2 hbw
            obtain ⟨h, hK⟩ := hrel
            rcases h with ⟨rfl, hgb, hkb⟩ | ⟨rfl, hgb, hkb⟩ | ⟨rfl, hgb, hkb⟩ | ⟨rfl, hgb, hkb⟩
            · obtain ⟨g0, g1, g2⟩ := blk3 hgb
              obtain ⟨k0, k1, k2⟩ := blk3 hkb
              have gf := hgb.frozen
              have kf := hkb.frozen
              obtain ⟨f0, f1, f2⟩ := blk3 (KL.blk hK (.tail _ (.tail _ (.tail _ (.head _)))))
              rcases Int.lt_trichotomy a 0 with hf | hf | hf
              · go_wp2
                go_region
                go_wp2
                go_roundw
                case rel => exact ⟨.inr (.inl ⟨by go_num, (blk_set0 hgb (spLo_neg hs (by omega) hf (by omega) HLX.out)).drew, blk_eq3 (hkb.far (Ne.symm hne) _ |>.drew) (spHi_no (by omega) HHX.out) rfl rfl⟩), KL.drew (hkept.set hK hg _)⟩
                case measure => simp [intOf] <;> omega
              · subst hf
                go_wp2
                go_roundw
                case rel => exact ⟨.inr (.inl ⟨by go_num, blk_eq3 (hgb) (spLo_no (by omega) HLX.out) rfl rfl, blk_eq3 (hkb) (spHi_no (by omega) HHX.out) rfl rfl⟩), hK⟩
                case measure => simp [intOf] <;> omega
              · go_wp2
                go_region
                go_wp2
                go_roundw
                case rel => exact ⟨.inr (.inl ⟨by go_num, blk_eq3 (hgb.far hne _ |>.drew) (spLo_no (by omega) HLX.out) rfl rfl, (blk_set0 hkb (spHi_pos hs (by omega) hf (by omega) HHX.out)).drew⟩), KL.drew (hkept.set hK hk _)⟩
                case measure => simp [intOf] <;> omega
            · obtain ⟨g0, g1, g2⟩ := blk3 hgb
              obtain ⟨k0, k1, k2⟩ := blk3 hkb
              have gf := hgb.frozen
              have kf := hkb.frozen
              obtain ⟨f0, f1, f2⟩ := blk3 (KL.blk hK (.tail _ (.tail _ (.tail _ (.head _)))))
              rcases Int.lt_trichotomy b 0 with hf | hf | hf
              · go_wp2
                go_region
                go_wp2
                go_roundw
                case rel => exact ⟨.inr (.inr (.inl ⟨by go_num, (blk_set1 hgb (spLo_neg hs (by omega) hf (by omega) HLY.out)).drew, blk_eq3 (hkb.far (Ne.symm hne) _ |>.drew) rfl (spHi_no (by omega) HHY.out) rfl⟩)), KL.drew (hkept.set hK hg _)⟩
                case measure => simp [intOf] <;> omega
              · subst hf
                go_wp2
                go_roundw
                case rel => exact ⟨.inr (.inr (.inl ⟨by go_num, blk_eq3 (hgb) rfl (spLo_no (by omega) HLY.out) rfl, blk_eq3 (hkb) rfl (spHi_no (by omega) HHY.out) rfl⟩)), hK⟩
                case measure => simp [intOf] <;> omega
              · go_wp2
                go_region
                go_wp2
                go_roundw
                case rel => exact ⟨.inr (.inr (.inl ⟨by go_num, blk_eq3 (hgb.far hne _ |>.drew) rfl (spLo_no (by omega) HLY.out) rfl, (blk_set1 hkb (spHi_pos hs (by omega) hf (by omega) HHY.out)).drew⟩)), KL.drew (hkept.set hK hk _)⟩
                case measure => simp [intOf] <;> omega
            · obtain ⟨g0, g1, g2⟩ := blk3 hgb
              obtain ⟨k0, k1, k2⟩ := blk3 hkb
              have gf := hgb.frozen
              have kf := hkb.frozen
              obtain ⟨f0, f1, f2⟩ := blk3 (KL.blk hK (.tail _ (.tail _ (.tail _ (.head _)))))
              rcases Int.lt_trichotomy c 0 with hf | hf | hf
              · go_wp2
                go_region
                go_wp2
                go_roundw
                case rel => exact ⟨.inr (.inr (.inr ⟨by go_num, (blk_set2 hgb (spLo_neg hs (by omega) hf (by omega) HLZ.out)).drew, blk_eq3 (hkb.far (Ne.symm hne) _ |>.drew) rfl rfl (spHi_no (by omega) HHZ.out)⟩)), KL.drew (hkept.set hK hg _)⟩
                case measure => simp [intOf] <;> omega
              · subst hf
                go_wp2
                go_roundw
                case rel => exact ⟨.inr (.inr (.inr ⟨by go_num, blk_eq3 (hgb) rfl rfl (spLo_no (by omega) HLZ.out), blk_eq3 (hkb) rfl rfl (spHi_no (by omega) HHZ.out)⟩)), hK⟩
                case measure => simp [intOf] <;> omega
              · go_wp2
                go_region
                go_wp2
                go_roundw
                case rel => exact ⟨.inr (.inr (.inr ⟨by go_num, blk_eq3 (hgb.far hne _ |>.drew) rfl rfl (spLo_no (by omega) HLZ.out), (blk_set2 hkb (spHi_pos hs (by omega) hf (by omega) HHZ.out)).drew⟩)), KL.drew (hkept.set hK hk _)⟩
                case measure => simp [intOf] <;> omega
            · have hk9 : (KL [(g, 85, #[.int .i64 R1, .int .i64 R2, .int .i64 R3]), (k, 85, #[.int .i64 R4, .int .i64 R5, .int .i64 R6]), (w.heap.size + 2, 42, #[.int .i64 0, .int .i64 0, .int .i64 0, .int .i64 0, .int .i64 0, .int .i64 0])] w) wr := ⟨hK.1, by
                intro q hq
                simp only [List.mem_cons, List.not_mem_nil, or_false] at hq
                rcases hq with rfl | rfl | rfl
                · exact hgb
                · exact hkb
                · exact KL.blk hK (.tail _ (.tail _ (.head _)))⟩
              have hz2 : w.heap.size ≤ w.heap.size + 2 := by omega
              clear hgb hkb hK hkept
              go_wp2
              refine wp_region_any (by kernel_rfl) ?_
              try (change wpAny _ _ _ _ _ _ _ (World.drew _))
              refine wpAny_begin (I := (fun L act W => ∃ u99 u100 u101 u102 u103 u5, act = ⟨#[.agg #[.int .i64 a, .int .i64 b, .int .i64 c, .int .i64 d], .agg #[.int .i64 x, .int .i64 y, .int .i64 z, .int .i64 p, .int .i64 q, .int .i64 r], .pointer (some ⟨w.heap.size, 0, none⟩), .pointer (some ⟨w.heap.size + 1, 0, none⟩), .pointer (some ⟨w.heap.size + 1 + 1, 0, none⟩), u5, .int .i64 0, .pointer (some ⟨w2.heap.size, 0, none⟩), .pointer (some ⟨g, 0, none⟩), .pointer (some ⟨k, 0, none⟩), .int .i64 sl, u11, u12, u13, u14, .agg #[.int .i64 a, .int .i64 b, .int .i64 c, .int .i64 d], .agg #[.int .i64 x, .int .i64 y, .int .i64 z, .int .i64 p, .int .i64 q, .int .i64 r], .int .i64 0, .int .i64 0, .bool false, undef, undef, .agg #[.int .i64 a, .int .i64 b, .int .i64 c, .int .i64 d], .agg #[.int .i64 a, .int .i64 b, .int .i64 c], u24, u25, u26, u27, u28, u29, .pointer (some ⟨w.heap.size, 3, none⟩), .int .i64 d, .agg #[.int .i64 a, .int .i64 b, .int .i64 c], .int .i64 3, .bool false, u35, u36, u37, u38, u39, u40, u41, u42, u43, u44, u45, u46, u47, u48, u49, u50, u51, u52, u53, u54, .int .i64 sl, .bool (decide (sl < 0)), undef, .agg #[.int .i64 a, .int .i64 b, .int .i64 c], .int .i64 3, .bool false, u61, u62, u63, u64, u65, u66, u67, u68, u69, u70, u71, u72, u73, u74, u75, u76, u77, u78, u79, u80, u81, u82, u83, u84, u85, u86, u87, u88, u89, u90, u91, u92, u93, u94, u95, u96, u97, u98, u99, u100, u101, u102, u103], []⟩ ∧ (L 0 = true → u99 = .agg #[.int .i64 R1, .int .i64 R2, .int .i64 R3]) ∧ (L 1 = true → u100 = .agg #[.int .i64 R1, .int .i64 R2, .int .i64 R3]) ∧ (L 2 = true → u101 = .agg #[.int .i64 R4, .int .i64 R5, .int .i64 R6]) ∧ (L 3 = true → u102 = .agg #[.int .i64 R4, .int .i64 R5, .int .i64 R6]) ∧ (L 4 = true → u103 = .agg #[.int .i64 R1, .int .i64 R2, .int .i64 R3, .int .i64 R4, .int .i64 R5, .int .i64 R6]) ∧ (L 6 = true → u5 = .int .i64 0) ∧ (L 5 = false → (KL [(g, 85, #[.int .i64 R1, .int .i64 R2, .int .i64 R3]), (k, 85, #[.int .i64 R4, .int .i64 R5, .int .i64 R6]), (w.heap.size + 2, 42, #[.int .i64 0, .int .i64 0, .int .i64 0, .int .i64 0, .int .i64 0, .int .i64 0])] w) W) ∧ (L 5 = true → (fun W => Below w.heap.size w W ∧ Blk W (w.heap.size + 2) 42 #[.int .i64 R1, .int .i64 R2, .int .i64 R3, .int .i64 R4, .int .i64 R5, .int .i64 R6]) W ∧ L 0 = true ∧ L 1 = true ∧ L 2 = true ∧ L 3 = true ∧ L 4 = true))) (dep := fun i => [[], [0], [], [1, 2], [1, 3], [0, 1, 2, 3, 4], [0, 1, 2, 3, 4, 5]].getD i []) 7 rfl (by decide +kernel) ?_ ⟨?_, ?_, ?_, ?_, ?_, ?_, ?_, trivial⟩ ?_
              · exact ⟨_, _, _, _, _, _, rfl, (fun e => nomatch (show false = true from e)), (fun e => nomatch (show false = true from e)), (fun e => nomatch (show false = true from e)), (fun e => nomatch (show false = true from e)), (fun e => nomatch (show false = true from e)), (fun e => nomatch (show false = true from e)), (fun _ => KL.drew hk9), (fun e => nomatch (show false = true from e))⟩
              · rintro L act W hi ⟨_⟩ ⟨u99, u100, u101, u102, u103, u5, rfl, h0, h1, h2, h3, h4, h6, hF, hT⟩
                have hlf : L 5 = false := by
                  cases hq : L 5 with
                  | false => rfl
                  | true => exact nomatch (hi.symm.trans (hT hq).2.1)
                have hj := hF hlf
                obtain ⟨g0, g1, g2⟩ := blk3 (KL.blk hj (.head _)); obtain ⟨k0, k1, k2⟩ := blk3 (KL.blk hj (.tail _ (.head _)))
                refine wpOp_step rfl (fun K' hK => ?_)
                go_simp
                exact hK _ _ ⟨_, _, _, _, _, _, rfl, (fun _ => rfl), h1, h2, h3, h4, h6, (fun _ => hj), (fun e => nomatch (hlf.symm.trans e))⟩
              · rintro L act W hi ⟨d0, _⟩ ⟨u99, u100, u101, u102, u103, u5, rfl, h0, h1, h2, h3, h4, h6, hF, hT⟩
                obtain rfl := h0 d0
                have hlf : L 5 = false := by
                  cases hq : L 5 with
                  | false => rfl
                  | true => exact nomatch (hi.symm.trans (hT hq).2.2.1)
                have hj := hF hlf
                refine wpOp_step rfl (fun K' hK => ?_)
                go_simp
                refine (pvec_any _ _ _ _).mono ?_
                rintro e W1 ⟨rfl, hb1⟩
                exact hK _ _ ⟨_, _, _, _, _, _, rfl, h0, (fun _ => rfl), h2, h3, h4, h6, (fun _ => KL.over hj hb1), (fun e => nomatch (hlf.symm.trans e))⟩
              · rintro L act W hi ⟨_⟩ ⟨u99, u100, u101, u102, u103, u5, rfl, h0, h1, h2, h3, h4, h6, hF, hT⟩
                have hlf : L 5 = false := by
                  cases hq : L 5 with
                  | false => rfl
                  | true => exact nomatch (hi.symm.trans (hT hq).2.2.2.1)
                have hj := hF hlf
                obtain ⟨g0, g1, g2⟩ := blk3 (KL.blk hj (.head _)); obtain ⟨k0, k1, k2⟩ := blk3 (KL.blk hj (.tail _ (.head _)))
                refine wpOp_step rfl (fun K' hK => ?_)
                go_simp
                exact hK _ _ ⟨_, _, _, _, _, _, rfl, h0, h1, (fun _ => rfl), h3, h4, h6, (fun _ => hj), (fun e => nomatch (hlf.symm.trans e))⟩
              · rintro L act W hi ⟨d1, d2, _⟩ ⟨u99, u100, u101, u102, u103, u5, rfl, h0, h1, h2, h3, h4, h6, hF, hT⟩
                obtain rfl := h1 d1
                obtain rfl := h2 d2
                have hlf : L 5 = false := by
                  cases hq : L 5 with
                  | false => rfl
                  | true => exact nomatch (hi.symm.trans (hT hq).2.2.2.2.1)
                have hj := hF hlf
                refine wpOp_step rfl (fun K' hK => ?_)
                go_simp
                refine (pvec_any _ _ _ _).mono ?_
                rintro e W1 ⟨rfl, hb1⟩
                exact hK _ _ ⟨_, _, _, _, _, _, rfl, h0, h1, h2, (fun _ => rfl), h4, h6, (fun _ => KL.over hj hb1), (fun e => nomatch (hlf.symm.trans e))⟩
              · rintro L act W hi ⟨d1, d3, _⟩ ⟨u99, u100, u101, u102, u103, u5, rfl, h0, h1, h2, h3, h4, h6, hF, hT⟩
                obtain rfl := h1 d1
                obtain rfl := h3 d3
                have hlf : L 5 = false := by
                  cases hq : L 5 with
                  | false => rfl
                  | true => exact nomatch (hi.symm.trans (hT hq).2.2.2.2.2)
                have hj := hF hlf
                refine wpOp_step rfl (fun K' hK => ?_)
                go_simp
                exact hK _ _ ⟨_, _, _, _, _, _, rfl, h0, h1, h2, h3, (fun _ => rfl), h6, (fun _ => hj), (fun e => nomatch (hlf.symm.trans e))⟩
              · rintro L act W hi ⟨d0, d1, d2, d3, d4, _⟩ ⟨u99, u100, u101, u102, u103, u5, rfl, h0, h1, h2, h3, h4, h6, hF, hT⟩
                obtain rfl := h0 d0
                obtain rfl := h1 d1
                obtain rfl := h2 d2
                obtain rfl := h3 d3
                obtain rfl := h4 d4
                have hj := hF hi
                obtain ⟨s1, s2, s3, s4, s5, s6⟩ := blk6 (KL.blk hj (.tail _ (.tail _ (.head _)))); have sf := (KL.blk hj (.tail _ (.tail _ (.head _)))).frozen
                refine wpOp_step rfl (fun K' hK => ?_)
                go_simp
                exact hK _ _ ⟨_, _, _, _, _, _, rfl, h0, h1, h2, h3, h4, h6, (fun e => nomatch (show true = false from e)), (fun _ => ⟨⟨Below.setCell (Below.setCell (Below.setCell (Below.setCell (Below.setCell (Below.setCell hj.1 hz2 _) hz2 _) hz2 _) hz2 _) hz2 _) hz2 _, Blk.set6 (KL.blk hj (.tail _ (.tail _ (.head _)))) _ _ _ _ _ _⟩, d0, d1, d2, d3, d4⟩)⟩
              · rintro L act W hi ⟨d0, d1, d2, d3, d4, d5, _⟩ ⟨u99, u100, u101, u102, u103, u5, rfl, h0, h1, h2, h3, h4, h6, hF, hT⟩
                obtain rfl := h0 d0
                obtain rfl := h1 d1
                obtain rfl := h2 d2
                obtain rfl := h3 d3
                obtain rfl := h4 d4
                refine wpOp_step rfl (fun K' hK => ?_)
                go_simp
                exact hK _ _ ⟨_, _, _, _, _, _, rfl, h0, h1, h2, h3, h4, (fun _ => rfl), (fun e => nomatch (d5.symm.trans e)), hT⟩
              · rintro L act W hall ⟨u99, u100, u101, u102, u103, u5, rfl, h0, h1, h2, h3, h4, h6, hF, hT⟩
                obtain rfl := h0 (hall 0 (by omega))
                obtain rfl := h1 (hall 1 (by omega))
                obtain rfl := h2 (hall 2 (by omega))
                obtain rfl := h3 (hall 3 (by omega))
                obtain rfl := h4 (hall 4 (by omega))
                obtain rfl := h6 (hall 6 (by omega))
                have hj := (hT (hall 5 (by omega))).1
                go_wp2
                have hz := hj.1
                obtain ⟨r1, r2, r3, r4, r5, r6⟩ := blk6 hj.2
                exact bodyPost_ret (v := .tuple #[.agg #[.int .i64 R1, .int .i64 R2, .int .i64 R3, .int .i64 R4, .int .i64 R5, .int .i64 R6], .int .i64 0]) (by simp [results, Try.results33, go_sem, r1, r2, r3, r4, r5, r6]) rfl ⟨rfl, hz⟩
end Go.Proofs.Ytoeniaafcnnnoaa
