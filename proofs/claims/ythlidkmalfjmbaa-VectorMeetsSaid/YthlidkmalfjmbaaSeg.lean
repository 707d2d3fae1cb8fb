/- The walks of turn, compare, earlier, later and of the reference's Turn, before, sorted, InPoint. No condition. -/
import Derived.Test.YthlidkmalfjmbaaInv
import Derived.Test.YthlidkmalfjmbaaEach
namespace Go.Proofs.Ythlidkmalfjmbaa
open Go.RowKit

set_option maxHeartbeats 400000 in
theorem inPoint_any (x y : Int) (w : World) :
    Calls Try.prog 31 #[.agg #[.int .i64 x, .int .i64 y]] w fun e w' => e = .returned (.bool (inC x && inC y)) ∧ Below w.heap.size w w' := by
  go_enter Try.func31, Try.ntmps31
  go_wp2_with (go_at_call 40; refine (in_any _ _).mono ?_; rintro e w' ⟨rfl, rfl⟩)
  all_goals (go_ret; exact ⟨ret_bool (by simp_all), (Below.refl _ _).alloc (Nat.le_refl _) _⟩)

def lft (ax ay bx cy : Int) : Int := wrap64 (wrap64 (bx - ax) * wrap64 (cy - ay))
def rgt (ax ay b_y cx : Int) : Int := wrap64 (wrap64 (b_y - ay) * wrap64 (cx - ax))
set_option maxHeartbeats 1000000 in
theorem turn_any (ax ay bx b_y cx cy : Int) (w : World) :
    Calls Try.prog 49 #[.agg #[.int .i64 ax, .int .i64 ay], .agg #[.int .i64 bx, .int .i64 b_y], .agg #[.int .i64 cx, .int .i64 cy]] w fun e w' => e = .returned (.int .i64 (cmpI (lft ax ay bx cy) (rgt ax ay b_y cx))) ∧ Below w.heap.size w w' := by
  go_enter Try.func49, Try.ntmps49
  go_wp2_with (go_at_call 54; refine (cmp2_any _ _ _).mono ?_; rintro e w' ⟨rfl, rfl⟩)
  go_ret
  refine ⟨rfl, ?_⟩
  repeat (first | exact Below.refl _ _ | refine Below.drew ?_ | refine below_drewN ?_ _ | refine Below.setCell ?_ ?_ _ | refine Below.alloc ?_ ?_ _ | (refine Below.trans ?_ (bmono (by assumption) ?_)))
  all_goals (first | omega | (simp <;> omega))

def sgnI (n : Int) : Int := if n > 0 then 1 else if n < 0 then -1 else 0
set_option maxHeartbeats 1000000 in
theorem refTurn_any (ax ay bx b_y cx cy : Int) (w : World) :
    Calls Try.prog 32 #[.agg #[.int .i64 ax, .int .i64 ay], .agg #[.int .i64 bx, .int .i64 b_y], .agg #[.int .i64 cx, .int .i64 cy]] w fun e w' => e = .returned (.int .i64 (sgnI (wrap64 (lft ax ay bx cy - rgt ax ay b_y cx)))) ∧ Below w.heap.size w w' := by
  have hs : sgnI (wrap64 (lft ax ay bx cy - rgt ax ay b_y cx)) = if wrap64 (lft ax ay bx cy - rgt ax ay b_y cx) > 0 then 1 else if wrap64 (lft ax ay bx cy - rgt ax ay b_y cx) < 0 then -1 else 0 := rfl
  unfold lft rgt at hs
  have HS := Lib.hid hs
  clear hs
  go_enter Try.func32, Try.ntmps32
  go_wp2
  all_goals
    go_ret
    refine ⟨ret_int ?_, ?_⟩
    · have := HS.out
      unfold lft rgt
      rw [this]
      (repeat' split) <;> omega
    · repeat (first | exact Below.refl _ _ | refine Below.drew ?_ | refine below_drewN ?_ _ | refine Below.setCell ?_ ?_ _ | refine Below.alloc ?_ ?_ _ | (refine Below.trans ?_ (bmono (by assumption) ?_)))
      all_goals (first | omega | (simp <;> omega))

def orS (p q : Int) : Int := if p = 0 then q else p
set_option maxHeartbeats 1000000 in
theorem or_any (g : Nat) (p q : Int) (w : World) (hb : Blk w g 3 #[.int .i64 p, .int .i64 q]) :
    Calls Try.prog 61 #[.slice (some ⟨g, 0, none⟩) 2 2] w fun e w' => e = .returned (.int .i64 (orS p q)) ∧ w = w' := by
  obtain ⟨g0, g1⟩ := blk2 hb
  clear hb
  go_enter Try.func61, Try.ntmps61
  go_wp2
  go_loopw [8] (fun i W => (i = .int .i64 0 ∨ i = .int .i64 1 ∧ p = 0 ∨ i = .int .i64 2 ∧ p = 0 ∧ q = 0) ∧ W = w) (fun i _ => 2 - (intOf i).toNat)
  case atStart => exact ⟨.inl rfl, rfl⟩
  case round =>
    obtain ⟨h, rfl⟩ := hrel
    rcases h with rfl | ⟨rfl, rfl⟩ | ⟨rfl, rfl, rfl⟩
    · by_cases he : p = 0
      · subst he
        go_wp2
        go_roundw
        case rel => exact ⟨.inr (.inl ⟨by go_num, by first | rfl | trivial⟩), by trivial⟩
        case measure => simp [intOf] <;> omega
      · go_wp2
        go_ret
        exact ⟨ret_int (by unfold orS; rw [if_neg he]), rfl⟩
    · by_cases he : q = 0
      · subst he
        go_wp2
        go_roundw
        case rel => exact ⟨.inr (.inr ⟨by go_num, by first | rfl | trivial, by first | rfl | trivial⟩), by trivial⟩
        case measure => simp [intOf] <;> omega
      · go_wp2
        go_ret
        exact ⟨ret_int (by unfold orS; rw [if_pos rfl]), rfl⟩
    · go_wp2
      go_ret
      exact ⟨ret_int (by unfold orS; rw [if_pos rfl]), rfl⟩

/-- two boxed points -/
def KP2 (x y a b : Int) (w W : World) : Prop := KL [(w.heap.size, 46, #[.int .i64 x, .int .i64 y]), (w.heap.size + 1, 46, #[.int .i64 a, .int .i64 b])] w W
section
variable {x y a b : Int} {w W : World}
theorem KP2.all (h : KP2 x y a b w W) : KP2 x y a b w W ∧ w.heap.size + 1 < W.heap.size ∧
    W.cell? ⟨w.heap.size, 0, none⟩ = some (.int .i64 x) ∧ W.cell? ⟨w.heap.size, 1, none⟩ = some (.int .i64 y) ∧
    W.cell? ⟨w.heap.size + 1, 0, none⟩ = some (.int .i64 a) ∧ W.cell? ⟨w.heap.size + 1, 1, none⟩ = some (.int .i64 b) := by
  obtain ⟨a1, a2⟩ := blk2 (KL.blk h (.head _))
  obtain ⟨b1, b2⟩ := blk2 (KL.blk h (.tail _ (.head _)))
  exact ⟨h, KL.size h (.tail _ (.head _)), a1, a2, b1, b2⟩
theorem KP2.alloc (h : KP2 x y a b w W) (o : Obj) : KP2 x y a b w (W.alloc o) := KL.alloc h o
theorem KP2.drew (h : KP2 x y a b w W) : KP2 x y a b w W.drew := KL.drew h
theorem KP2.start : KP2 x y a b w ((w.alloc (.cells #[.int .i64 x, .int .i64 y] 46)).alloc (.cells #[.int .i64 a, .int .i64 b] 46)) :=
  ⟨((Below.refl _ _).alloc (Nat.le_refl _) _).alloc (by simp) _, by
    intro p hp
    simp only [List.mem_cons, List.not_mem_nil, or_false] at hp
    rcases hp with rfl | rfl
    · exact (Blk.new2 rfl).alloc _
    · exact Blk.new2 (by simp)⟩
end
def cmpP (x y a b : Int) : Int := orS (cmpI x a) (cmpI y b)
set_option maxHeartbeats 4000000 in
theorem cmpP_any (x y a b : Int) (w : World) :
    Calls Try.prog 60 #[.agg #[.int .i64 x, .int .i64 y], .agg #[.int .i64 a, .int .i64 b]] w fun e w' => e = .returned (.int .i64 (cmpP x y a b)) ∧ Below w.heap.size w w' := by
  go_enter Try.func60, Try.ntmps60
  go_upto_region 1 with (fail)
  have hk0 : KP2 x y a b w _ := KP2.start
  have hka := hk0.all
  go_region_held3 (fun W => KP2 x y a b w W ∧ w.heap.size + 1 < W.heap.size ∧
    W.cell? ⟨w.heap.size, 0, none⟩ = some (.int .i64 x) ∧ W.cell? ⟨w.heap.size, 1, none⟩ = some (.int .i64 y) ∧
    W.cell? ⟨w.heap.size + 1, 0, none⟩ = some (.int .i64 a) ∧ W.cell? ⟨w.heap.size + 1, 1, none⟩ = some (.int .i64 b))
    (first | exact hka | exact KP2.all ‹_› | exact (KP2.alloc ‹_› _).all | exact (KP2.drew ‹_›).all | exact (KP2.alloc (KP2.drew ‹_›) _).all | exact (KP2.drew (KP2.alloc ‹_› _)).all)
    (first
      | (go_at_call 53; refine (cmp_any _ _ _).mono ?_; rintro e w' ⟨rfl, rfl⟩)
      | (go_at_call 61; refine (or_any _ (cmpI x a) (cmpI y b) _ ?_).mono ?_; refine Blk.drew (Blk.new2 ?_); simp; rintro e w' ⟨rfl, rfl⟩))
  go_wp2
  go_ret
  refine ⟨rfl, ?_⟩
  repeat (first | exact Below.refl _ _ | refine Below.drew ?_ | refine below_drewN ?_ _ | refine Below.setCell ?_ ?_ _ | refine Below.alloc ?_ ?_ _ | (refine Below.trans ?_ (bmono (by assumption) ?_)))
  all_goals (first | omega | (simp <;> omega))

def erl (x y a b : Int) : Int × Int := if cmpP a b x y < 0 then (a, b) else (x, y)
def ltr (x y a b : Int) : Int × Int := if cmpP a b x y > 0 then (a, b) else (x, y)
set_option maxHeartbeats 1000000 in
theorem erl_any (x y a b : Int) (w : World) :
    Calls Try.prog 59 #[.agg #[.int .i64 x, .int .i64 y], .agg #[.int .i64 a, .int .i64 b]] w fun e w' => e = .returned (.agg #[.int .i64 (erl x y a b).1, .int .i64 (erl x y a b).2]) ∧ Below w.heap.size w w' := by
  have hc := cmpP_any a b x y
  by_cases h : cmpP a b x y < 0
  · rw [show erl x y a b = (a, b) by simp [erl, h]]
    generalize cmpP a b x y = r at hc h
    go_enter Try.func59, Try.ntmps59
    go_wp2_with (go_at_call 60; refine (hc _).mono ?_; rintro e w1 ⟨rfl, hb1⟩; obtain ⟨hc1, hf1⟩ := bcell hb1; have hz1 := hb1.size; (try simp at hz1); (try have y10 : w.heap.size < w1.heap.size := (by omega)); (try have y11 : w.heap.size + 1 < w1.heap.size := (by omega)); (try have y12 : w.heap.size + 1 + 1 < w1.heap.size := (by omega)); (try have y13 : w.heap.size + 1 + 1 + 1 < w1.heap.size := (by omega)); (try have y14 : w.heap.size + 1 + 1 + 1 + 1 < w1.heap.size := (by omega)))
    exact bodyPost_ret (v := .agg #[.int .i64 a, .int .i64 b]) (by simp [results, Try.results59, go_sem, hc1]) rfl ⟨rfl, by
      repeat (first | exact Below.refl _ _ | refine Below.drew ?_ | refine below_drewN ?_ _ | refine Below.setCell ?_ ?_ _ | refine Below.alloc ?_ ?_ _ | (refine Below.trans ?_ (bmono (by assumption) ?_)))
      all_goals (first | omega | (simp <;> omega))⟩
  · rw [show erl x y a b = (x, y) by simp [erl, h]]
    generalize cmpP a b x y = r at hc h
    go_enter Try.func59, Try.ntmps59
    go_wp2_with (go_at_call 60; refine (hc _).mono ?_; rintro e w1 ⟨rfl, hb1⟩; obtain ⟨hc1, hf1⟩ := bcell hb1; have hz1 := hb1.size; (try simp at hz1); (try have y10 : w.heap.size < w1.heap.size := (by omega)); (try have y11 : w.heap.size + 1 < w1.heap.size := (by omega)); (try have y12 : w.heap.size + 1 + 1 < w1.heap.size := (by omega)); (try have y13 : w.heap.size + 1 + 1 + 1 < w1.heap.size := (by omega)); (try have y14 : w.heap.size + 1 + 1 + 1 + 1 < w1.heap.size := (by omega)))
    exact bodyPost_ret (v := .agg #[.int .i64 x, .int .i64 y]) (by simp [results, Try.results59, go_sem, hc1]) rfl ⟨rfl, by
      repeat (first | exact Below.refl _ _ | refine Below.drew ?_ | refine below_drewN ?_ _ | refine Below.setCell ?_ ?_ _ | refine Below.alloc ?_ ?_ _ | (refine Below.trans ?_ (bmono (by assumption) ?_)))
      all_goals (first | omega | (simp <;> omega))⟩
set_option maxHeartbeats 1000000 in
theorem ltr_any (x y a b : Int) (w : World) :
    Calls Try.prog 58 #[.agg #[.int .i64 x, .int .i64 y], .agg #[.int .i64 a, .int .i64 b]] w fun e w' => e = .returned (.agg #[.int .i64 (ltr x y a b).1, .int .i64 (ltr x y a b).2]) ∧ Below w.heap.size w w' := by
  have hc := cmpP_any a b x y
  by_cases h : cmpP a b x y > 0
  · rw [show ltr x y a b = (a, b) by simp [ltr, h]]
    generalize cmpP a b x y = r at hc h
    go_enter Try.func58, Try.ntmps58
    go_wp2_with (go_at_call 60; refine (hc _).mono ?_; rintro e w1 ⟨rfl, hb1⟩; obtain ⟨hc1, hf1⟩ := bcell hb1; have hz1 := hb1.size; (try simp at hz1); (try have y10 : w.heap.size < w1.heap.size := (by omega)); (try have y11 : w.heap.size + 1 < w1.heap.size := (by omega)); (try have y12 : w.heap.size + 1 + 1 < w1.heap.size := (by omega)); (try have y13 : w.heap.size + 1 + 1 + 1 < w1.heap.size := (by omega)); (try have y14 : w.heap.size + 1 + 1 + 1 + 1 < w1.heap.size := (by omega)))
    exact bodyPost_ret (v := .agg #[.int .i64 a, .int .i64 b]) (by simp [results, Try.results58, go_sem, hc1]) rfl ⟨rfl, by
      repeat (first | exact Below.refl _ _ | refine Below.drew ?_ | refine below_drewN ?_ _ | refine Below.setCell ?_ ?_ _ | refine Below.alloc ?_ ?_ _ | (refine Below.trans ?_ (bmono (by assumption) ?_)))
      all_goals (first | omega | (simp <;> omega))⟩
  · rw [show ltr x y a b = (x, y) by simp [ltr, h]]
    generalize cmpP a b x y = r at hc h
    go_enter Try.func58, Try.ntmps58
    go_wp2_with (go_at_call 60; refine (hc _).mono ?_; rintro e w1 ⟨rfl, hb1⟩; obtain ⟨hc1, hf1⟩ := bcell hb1; have hz1 := hb1.size; (try simp at hz1); (try have y10 : w.heap.size < w1.heap.size := (by omega)); (try have y11 : w.heap.size + 1 < w1.heap.size := (by omega)); (try have y12 : w.heap.size + 1 + 1 < w1.heap.size := (by omega)); (try have y13 : w.heap.size + 1 + 1 + 1 < w1.heap.size := (by omega)); (try have y14 : w.heap.size + 1 + 1 + 1 + 1 < w1.heap.size := (by omega)))
    exact bodyPost_ret (v := .agg #[.int .i64 x, .int .i64 y]) (by simp [results, Try.results58, go_sem, hc1]) rfl ⟨rfl, by
      repeat (first | exact Below.refl _ _ | refine Below.drew ?_ | refine below_drewN ?_ _ | refine Below.setCell ?_ ?_ _ | refine Below.alloc ?_ ?_ _ | (refine Below.trans ?_ (bmono (by assumption) ?_)))
      all_goals (first | omega | (simp <;> omega))⟩
end Go.Proofs.Ythlidkmalfjmbaa
