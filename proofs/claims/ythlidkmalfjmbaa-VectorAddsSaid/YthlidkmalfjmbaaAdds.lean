/- The law VectorAdds: it answers true, whatever the two vectors; and the claim. -/
import Derived.Test.YthlidkmalfjmbaaProds
namespace Go.Proofs.Ythlidkmalfjmbaa
open Go.ChangeShapes Go.WideShapes Go.ChangeAt Go.RowKit

theorem cmpV_eq (x y z a b c : Int) : cmpV x y z a b c = cmp3 x y z a b c := by
  unfold cmpV cmp3 lessV cmpI
  by_cases h1 : x = a
  · subst h1
    by_cases h2 : y = b
    · subst h2
      by_cases h3 : z < c <;> by_cases h4 : c < z <;> simp [h3, h4]
    · have h2' : ¬ b = y := fun h => h2 h.symm
      by_cases h3 : y < b <;> by_cases h4 : b < y <;> simp [h2, h2', h3, h4]
  · have h1' : ¬ a = x := fun h => h1 h.symm
    by_cases h3 : x < a <;> by_cases h4 : a < x <;> simp [h1, h1', h3, h4]
set_option maxHeartbeats 1000000 in
theorem sum_bnd (x y z : Int) (w : World) :
    Calls Try.prog 19 #[.agg #[.int .i64 x, .int .i64 y, .int .i64 z], .agg #[.int .i64 (bndV x y z).1.1, .int .i64 (bndV x y z).1.2.1, .int .i64 (bndV x y z).1.2.2], .int .i64 (bndV x y z).2] w fun e w' => e = .returned (.bool true) ∧ Below w.heap.size w w' := by
  have hin := refIn_any x y z
  cases h : inV x y z
  · rw [h] at hin
    rw [show bndV x y z = ((0, 0, 0), 6) by simp [bndV, h]]
    have hq := eqV 0 0 0 0 0 0
    rw [show ((0 : Int) == 0 && ((0 : Int) == 0 && (0 : Int) == 0)) = true by decide] at hq
    simp only
    clear h
    go_enter Try.func19, Try.ntmps19
    go_wp2_with (go_at_call 16; refine (hin _).mono ?_; rintro e w1 ⟨rfl, hb1⟩; obtain ⟨hc1, hf1⟩ := bcell hb1; have hz1 := hb1.size; (try simp at hz1); (try have y10 : w.heap.size < w1.heap.size := (by omega)); (try have y10p : w.heap.size < w1.heap.size + 1 := (by omega)); (try have y11 : w.heap.size + 1 < w1.heap.size := (by omega)); (try have y11p : w.heap.size + 1 < w1.heap.size + 1 := (by omega)); (try have v0x1 : w0.heap.size < w1.heap.size := (by omega)); (try have v0x1p : w0.heap.size < w1.heap.size + 1 := (by omega)))
    go_ret
    refine ⟨rfl, ?_⟩
    repeat (first | exact Below.refl _ _ | refine Below.drew ?_ | refine below_drewN ?_ _ | refine Below.setCell ?_ ?_ _ | refine Below.alloc ?_ ?_ _ | (refine Below.trans ?_ (bmono (by assumption) ?_)))
    all_goals (first | omega | (simp <;> omega))
  · rw [h] at hin
    rw [show bndV x y z = ((x, y, z), 0) by simp [bndV, h]]
    have hq := eqV x y z x y z
    rw [show (x == x && (y == y && z == z)) = true by simp] at hq
    simp only
    clear h
    go_enter Try.func19, Try.ntmps19
    go_wp2_with (go_at_call 16; refine (hin _).mono ?_; rintro e w1 ⟨rfl, hb1⟩; obtain ⟨hc1, hf1⟩ := bcell hb1; have hz1 := hb1.size; (try simp at hz1); (try have y10 : w.heap.size < w1.heap.size := (by omega)); (try have y10p : w.heap.size < w1.heap.size + 1 := (by omega)); (try have y11 : w.heap.size + 1 < w1.heap.size := (by omega)); (try have y11p : w.heap.size + 1 < w1.heap.size + 1 := (by omega)); (try have v0x1 : w0.heap.size < w1.heap.size := (by omega)); (try have v0x1p : w0.heap.size < w1.heap.size + 1 := (by omega)))
    go_ret
    refine ⟨rfl, ?_⟩
    repeat (first | exact Below.refl _ _ | refine Below.drew ?_ | refine below_drewN ?_ _ | refine Below.setCell ?_ ?_ _ | refine Below.alloc ?_ ?_ _ | (refine Below.trans ?_ (bmono (by assumption) ?_)))
    all_goals (first | omega | (simp <;> omega))

set_option maxHeartbeats 8000000 in
set_option maxRecDepth 100000 in
theorem adds_ok (x y z a b c : Int) (h1 : inV x y z = true) (h2 : inV a b c = true) (w : World) :
    Calls Try.prog 3 #[.agg #[.int .i64 x, .int .i64 y, .int .i64 z], .agg #[.int .i64 a, .int .i64 b, .int .i64 c]] w fun e w' => e = .returned (.bool true) ∧ Below w.heap.size w w' := by
  obtain ⟨b1, b2, b3⟩ := inV_abs h1
  obtain ⟨b4, b5, b6⟩ := inV_abs h2
  have c1 := add_any x y z a b c
  rw [show sumV 1 x y z a b c = bndV (x + 1 * a) (y + 1 * b) (z + 1 * c) by simp only [sumV, h1, h2, Bool.and_self, if_true]] at c1
  have c2 := sub_any x y z a b c
  rw [show sumV (-1) x y z a b c = bndV (x + -1 * a) (y + -1 * b) (z + -1 * c) by simp only [sumV, h1, h2, Bool.and_self, if_true]] at c2
  have i1 := refIn_any x y z
  have i2 := refIn_any a b c
  rw [h1] at i1
  rw [h2] at i2
  have ck := check_any x y z
  rw [eV_in h1] at ck
  have q1 := compare_any x y z a b c
  have q2 := refCmp_any x y z a b c
  rw [cmpV_eq] at q2
  have t1 := refAdd_any x y z a b c
  rw [w64 (n := x + a) (by omega), w64 (n := y + b) (by omega), w64 (n := z + c) (by omega), show x + a = x + 1 * a by omega, show y + b = y + 1 * b by omega, show z + c = z + 1 * c by omega] at t1
  have t2 := refSub_any x y z a b c
  rw [w64 (n := x - a) (by omega), w64 (n := y - b) (by omega), w64 (n := z - c) (by omega), show x - a = x + -1 * a by omega, show y - b = y + -1 * b by omega, show z - c = z + -1 * c by omega] at t2
  have u1 := sum_bnd (x + 1 * a) (y + 1 * b) (z + 1 * c)
  have u2 := sum_bnd (x + -1 * a) (y + -1 * b) (z + -1 * c)
  clear h1 h2 b1 b2 b3 b4 b5 b6
  generalize x + 1 * a = m1 at c1 t1 u1
  generalize y + 1 * b = m2 at c1 t1 u1
  generalize z + 1 * c = m3 at c1 t1 u1
  generalize x + -1 * a = n1 at c2 t2 u2
  generalize y + -1 * b = n2 at c2 t2 u2
  generalize z + -1 * c = n3 at c2 t2 u2
  generalize bndV m1 m2 m3 = RA at c1 u1
  generalize bndV n1 n2 n3 = RB at c2 u2
  obtain ⟨⟨s1, s2, s3⟩, ea⟩ := RA
  obtain ⟨⟨d1, d2, d3⟩, eb⟩ := RB
  simp only at c1 c2 u1 u2
  generalize cmp3 x y z a b c = cc at q1 q2
  go_enter Try.func3, Try.ntmps3
  go_upto_region 5 with (first
    | (go_at_call 12; refine (awake_any _).mono ?_; rintro e w0 ⟨rfl, hb0⟩; obtain ⟨hc0, hf0⟩ := bcell hb0; have hz0 := hb0.size; (try simp at hz0); (try have y00 : w.heap.size < w0.heap.size := (by omega)); (try have y00p : w.heap.size < w0.heap.size + 1 := (by omega)); (try have y01 : w.heap.size + 1 < w0.heap.size := (by omega)); (try have y01p : w.heap.size + 1 < w0.heap.size + 1 := (by omega)))
    | (go_at_call 13; refine (c1 _).mono ?_; rintro e w1 ⟨rfl, hb1⟩; obtain ⟨hc1, hf1⟩ := bcell hb1; have hz1 := hb1.size; (try simp at hz1); (try have y10 : w.heap.size < w1.heap.size := (by omega)); (try have y10p : w.heap.size < w1.heap.size + 1 := (by omega)); (try have y11 : w.heap.size + 1 < w1.heap.size := (by omega)); (try have y11p : w.heap.size + 1 < w1.heap.size + 1 := (by omega)); (try have v0x1 : w0.heap.size < w1.heap.size := (by omega)); (try have v0x1p : w0.heap.size < w1.heap.size + 1 := (by omega)))
    | (go_at_call 14; refine (c2 _).mono ?_; rintro e w2 ⟨rfl, hb2⟩; obtain ⟨hc2, hf2⟩ := bcell hb2; have hz2 := hb2.size; (try simp at hz2); (try have y20 : w.heap.size < w2.heap.size := (by omega)); (try have y20p : w.heap.size < w2.heap.size + 1 := (by omega)); (try have y21 : w.heap.size + 1 < w2.heap.size := (by omega)); (try have y21p : w.heap.size + 1 < w2.heap.size + 1 := (by omega)); (try have v0x2 : w0.heap.size < w2.heap.size := (by omega)); (try have v0x2p : w0.heap.size < w2.heap.size + 1 := (by omega)); (try have v1x2 : w1.heap.size < w2.heap.size := (by omega)); (try have v1x2p : w1.heap.size < w2.heap.size + 1 := (by omega))))
  have hk1 : K2 x y z a b c w w1 := ((K2.start.over hb0).over hb1)
  have hk2 := (hk1.alloc (.cells #[.int .i64 s1, .int .i64 s2, .int .i64 s3] 23)).over hb2
  have hk3 := hk2.alloc (.cells #[.int .i64 d1, .int .i64 d2, .int .i64 d3] 23)
  have hB := ((Blk.new w1 23 #[.int .i64 s1, .int .i64 s2, .int .i64 s3]).below hb2 (by simp)).alloc (.cells #[.int .i64 d1, .int .i64 d2, .int .i64 d3] 23)
  have hS : Blk (w2.alloc (.cells #[.int .i64 d1, .int .i64 d2, .int .i64 d3] 23)) w2.heap.size 23 #[.int .i64 d1, .int .i64 d2, .int .i64 d3] := Blk.new _ _ _
  have hall : ∀ W, Below (w2.alloc (.cells #[.int .i64 d1, .int .i64 d2, .int .i64 d3] 23)).heap.size (w2.alloc (.cells #[.int .i64 d1, .int .i64 d2, .int .i64 d3] 23)) W →
      Below (w2.alloc (.cells #[.int .i64 d1, .int .i64 d2, .int .i64 d3] 23)).heap.size (w2.alloc (.cells #[.int .i64 d1, .int .i64 d2, .int .i64 d3] 23)) W ∧ w.heap.size + 1 < W.heap.size ∧
      (W.cell? ⟨w.heap.size, 0, none⟩ = some (.int .i64 x) ∧ W.cell? ⟨w.heap.size, 1, none⟩ = some (.int .i64 y) ∧ W.cell? ⟨w.heap.size, 2, none⟩ = some (.int .i64 z) ∧
      W.cell? ⟨w.heap.size + 1, 0, none⟩ = some (.int .i64 a) ∧ W.cell? ⟨w.heap.size + 1, 1, none⟩ = some (.int .i64 b) ∧ W.cell? ⟨w.heap.size + 1, 2, none⟩ = some (.int .i64 c)) ∧
      (W.cell? ⟨w1.heap.size, 0, none⟩ = some (.int .i64 s1) ∧ W.cell? ⟨w1.heap.size, 1, none⟩ = some (.int .i64 s2) ∧ W.cell? ⟨w1.heap.size, 2, none⟩ = some (.int .i64 s3)) ∧
      W.cell? ⟨w2.heap.size, 0, none⟩ = some (.int .i64 d1) ∧ W.cell? ⟨w2.heap.size, 1, none⟩ = some (.int .i64 d2) ∧ W.cell? ⟨w2.heap.size, 2, none⟩ = some (.int .i64 d3) :=
    fun W hb => ⟨hb, (hk3.over hb).all.2.1, (hk3.over hb).all.2.2, blk3 (hB.below hb hB.lt), blk3 (hS.below hb hS.lt)⟩
  have hb9 := hk3.1
  clear hk1 hk2 hk3 hB hS hb0 hb1 hb2 hc0 hc1 hc2 hf0 hf1 hf2
  obtain ⟨wd, hwd⟩ : ∃ wd, wd = w2.alloc (.cells #[.int .i64 d1, .int .i64 d2, .int .i64 d3] 23) := ⟨_, rfl⟩
  rw [← hwd] at hall hb9 ⊢
  clear hwd
  have g1 := keepsB3 (wc := wd) ck
  have g2 := keepsB3 (wc := wd) i1
  have g3 := keepsB3 (wc := wd) q1
  have g4 := keepsB3 (wc := wd) q2
  have hka := hall wd (Below.refl _ _)
  refine wp_region_held_drew (S := (fun W => Below wd.heap.size wd W ∧ w.heap.size + 1 < W.heap.size ∧ (W.cell? ⟨w.heap.size, 0, none⟩ = some (.int .i64 x) ∧ W.cell? ⟨w.heap.size, 1, none⟩ = some (.int .i64 y) ∧ W.cell? ⟨w.heap.size, 2, none⟩ = some (.int .i64 z) ∧ W.cell? ⟨w.heap.size + 1, 0, none⟩ = some (.int .i64 a) ∧ W.cell? ⟨w.heap.size + 1, 1, none⟩ = some (.int .i64 b) ∧ W.cell? ⟨w.heap.size + 1, 2, none⟩ = some (.int .i64 c)) ∧ (W.cell? ⟨w1.heap.size, 0, none⟩ = some (.int .i64 s1) ∧ W.cell? ⟨w1.heap.size, 1, none⟩ = some (.int .i64 s2) ∧ W.cell? ⟨w1.heap.size, 2, none⟩ = some (.int .i64 s3)) ∧ W.cell? ⟨w2.heap.size, 0, none⟩ = some (.int .i64 d1) ∧ W.cell? ⟨w2.heap.size, 1, none⟩ = some (.int .i64 d2) ∧ W.cell? ⟨w2.heap.size, 2, none⟩ = some (.int .i64 d3))) (by kernel_rfl) (hall _ (Below.drew (Below.refl _ _))) ?_
  intro hHeld
  refine wpAnyH_take (i := 0) (oi := { dst := some 23, op := Go.Op.load 23 (Go.Operand.tmp 2), type := 23, pos := "law.go:28", after := #[], guard := none }) (v := ?v0) rfl (by kernel_rfl) (by kernel_rfl) (by kernel_rfl) (fun _ _ _ h => h) (Or.inl ⟨by rfl, ?hy0⟩) hHeld ?rest0
  case hy0 => (intro W hSw; (try dsimp only at hSw); obtain ⟨_, l0, ⟨l1, l2, l3, l4, l5, l6⟩, ⟨l7, l8, l9⟩, l10, l11, l12⟩ := hSw; go_simp <;> with_reducible rfl)
  try simp only [Act.put, List.setIfInBounds_toArray, List.set_cons_zero, List.set_cons_succ]
  refine wpAnyH_take (i := 3) (oi := { dst := some 26, op := Go.Op.load 23 (Go.Operand.tmp 2), type := 23, pos := "law.go:28", after := #[], guard := none }) (v := ?v3) rfl (by kernel_rfl) (by kernel_rfl) (by kernel_rfl) (fun _ _ _ h => h) (Or.inl ⟨by rfl, ?hy3⟩) hHeld ?rest3
  case hy3 => (intro W hSw; (try dsimp only at hSw); obtain ⟨_, l0, ⟨l1, l2, l3, l4, l5, l6⟩, ⟨l7, l8, l9⟩, l10, l11, l12⟩ := hSw; go_simp <;> with_reducible rfl)
  try simp only [Act.put, List.setIfInBounds_toArray, List.set_cons_zero, List.set_cons_succ]
  refine wpAnyH_ready (rs := [1]) (by kernel_rfl) (by simp) ?_
  refine AllReadyH.cons (o := { dst := some 24, op := Go.Op.call { callee := Go.Callee.value (Go.Operand.func 15), args := #[Go.Operand.tmp 23], argTypes := #[23] }, type := 25, pos := "law.go:28", after := #[{ on := 0, ground := Go.Ground.data }], guard := none }) rfl (fun K hK => ?_) AllReadyH.nil
  have HK := Lib.hid hK
  clear hK
  go_simp
  (refine (g1 _ (And.left hHeld)).mono ?_; rintro e W1 ⟨rfl, hk1⟩)
  refine HK.out _ _ ?hS1 (fun hHeld2 => ?rest1)
  case hS1 => exact hall _ (by assumption)
  clear HK hHeld
  have hHeld := hHeld2
  clear hHeld2
  try simp only [Act.put, List.setIfInBounds_toArray, List.set_cons_zero, List.set_cons_succ]
  refine wpAnyH_take (i := 2) (oi := { dst := some 25, op := Go.Op.binOp Go.BinOp.eql 25 (Go.Operand.tmp 24) (Go.Operand.const (Go.Value.int Go.IntKind.i64 0)) 25, type := 4, pos := "law.go:28", after := #[{ on := 1, ground := Go.Ground.data }], guard := none }) (v := ?v2) rfl (by kernel_rfl) (by kernel_rfl) (by kernel_rfl) (fun _ _ _ h => h) (Or.inl ⟨by rfl, ?hy2⟩) hHeld ?rest2
  case hy2 => (intro W hSw; (try dsimp only at hSw); obtain ⟨_, l0, ⟨l1, l2, l3, l4, l5, l6⟩, ⟨l7, l8, l9⟩, l10, l11, l12⟩ := hSw; go_simp <;> with_reducible rfl)
  try simp only [Act.put, List.setIfInBounds_toArray, List.set_cons_zero, List.set_cons_succ]
  refine wpAnyH_ready (rs := [4]) (by kernel_rfl) (by simp) ?_
  refine AllReadyH.cons (o := { dst := some 27, op := Go.Op.call { callee := Go.Callee.value (Go.Operand.func 16), args := #[Go.Operand.tmp 26], argTypes := #[23] }, type := 4, pos := "law.go:28", after := #[{ on := 3, ground := Go.Ground.data }, { on := 1, ground := Go.Ground.chain }], guard := none }) rfl (fun K hK => ?_) AllReadyH.nil
  have HK := Lib.hid hK
  clear hK
  go_simp
  (refine (g2 _ (And.left hHeld)).mono ?_; rintro e W2 ⟨rfl, hk2⟩)
  refine HK.out _ _ ?hS4 (fun hHeld2 => ?rest4)
  case hS4 => exact hall _ (by assumption)
  clear HK hHeld
  have hHeld := hHeld2
  clear hHeld2
  try simp only [Act.put, List.setIfInBounds_toArray, List.set_cons_zero, List.set_cons_succ]
  refine wpAnyH_take (i := 5) (oi := { dst := some 28, op := Go.Op.binOp Go.BinOp.neq 4 (Go.Operand.tmp 25) (Go.Operand.tmp 27) 4, type := 4, pos := "law.go:28", after := #[{ on := 2, ground := Go.Ground.data }, { on := 4, ground := Go.Ground.data }], guard := none }) (v := ?v5) rfl (by kernel_rfl) (by kernel_rfl) (by kernel_rfl) (fun _ _ _ h => h) (Or.inl ⟨by rfl, ?hy5⟩) hHeld ?rest5
  case hy5 => (intro W hSw; (try dsimp only at hSw); obtain ⟨_, l0, ⟨l1, l2, l3, l4, l5, l6⟩, ⟨l7, l8, l9⟩, l10, l11, l12⟩ := hSw; go_simp <;> with_reducible rfl)
  try simp only [Act.put, List.setIfInBounds_toArray, List.set_cons_zero, List.set_cons_succ]
  refine wpAnyH_take (i := 6) (oi := { dst := some 29, op := Go.Op.move (Go.Operand.tmp 28), type := 4, pos := "law.go:28", after := #[{ on := 5, ground := Go.Ground.data }, { on := 4, ground := Go.Ground.chain }], guard := none }) (v := ?v6) rfl (by kernel_rfl) (by kernel_rfl) (by kernel_rfl) (fun _ _ _ h => h) (Or.inl ⟨by rfl, ?hy6⟩) hHeld ?rest6
  case hy6 => (intro W hSw; (try dsimp only at hSw); obtain ⟨_, l0, ⟨l1, l2, l3, l4, l5, l6⟩, ⟨l7, l8, l9⟩, l10, l11, l12⟩ := hSw; go_simp <;> with_reducible rfl)
  try simp only [Act.put, List.setIfInBounds_toArray, List.set_cons_zero, List.set_cons_succ]
  refine wpAnyH_take (i := 7) (oi := { dst := some 30, op := Go.Op.load 23 (Go.Operand.tmp 2), type := 23, pos := "law.go:28", after := #[{ on := 6, ground := Go.Ground.guard }], guard := some (6, false) }) (v := ?v7) rfl (by kernel_rfl) (by kernel_rfl) (by kernel_rfl) (fun _ _ _ h => h) (Or.inl ⟨by rfl, ?hy7⟩) hHeld ?rest7
  case hy7 => (intro W hSw; (try dsimp only at hSw); obtain ⟨_, l0, ⟨l1, l2, l3, l4, l5, l6⟩, ⟨l7, l8, l9⟩, l10, l11, l12⟩ := hSw; go_simp <;> with_reducible rfl)
  try simp only [Act.put, List.setIfInBounds_toArray, List.set_cons_zero, List.set_cons_succ]
  refine wpAnyH_ready (rs := [8]) (by kernel_rfl) (by simp) ?_
  refine AllReadyH.cons (o := { dst := some 31, op := Go.Op.call { callee := Go.Callee.value (Go.Operand.func 15), args := #[Go.Operand.tmp 30], argTypes := #[23] }, type := 25, pos := "law.go:28", after := #[{ on := 7, ground := Go.Ground.data }, { on := 6, ground := Go.Ground.chain }, { on := 6, ground := Go.Ground.guard }], guard := some (6, false) }) rfl (fun K hK => ?_) AllReadyH.nil
  have HK := Lib.hid hK
  clear hK
  go_simp
  (refine (g1 _ (And.left hHeld)).mono ?_; rintro e W1 ⟨rfl, hk1⟩)
  refine HK.out _ _ ?hS8 (fun hHeld2 => ?rest8)
  case hS8 => exact hall _ (by assumption)
  clear HK hHeld
  have hHeld := hHeld2
  clear hHeld2
  try simp only [Act.put, List.setIfInBounds_toArray, List.set_cons_zero, List.set_cons_succ]
  refine wpAnyH_take (i := 9) (oi := { dst := some 32, op := Go.Op.binOp Go.BinOp.neq 25 (Go.Operand.tmp 31) (Go.Operand.const (Go.Value.int Go.IntKind.i64 0)) 25, type := 4, pos := "law.go:28", after := #[{ on := 8, ground := Go.Ground.data }, { on := 6, ground := Go.Ground.guard }], guard := some (6, false) }) (v := ?v9) rfl (by kernel_rfl) (by kernel_rfl) (by kernel_rfl) (fun _ _ _ h => h) (Or.inl ⟨by rfl, ?hy9⟩) hHeld ?rest9
  case hy9 => (intro W hSw; (try dsimp only at hSw); obtain ⟨_, l0, ⟨l1, l2, l3, l4, l5, l6⟩, ⟨l7, l8, l9⟩, l10, l11, l12⟩ := hSw; go_simp <;> with_reducible rfl)
  try simp only [Act.put, List.setIfInBounds_toArray, List.set_cons_zero, List.set_cons_succ]
  refine wpAnyH_take (i := 10) (oi := { dst := some 33, op := Go.Op.move (Go.Operand.tmp 32), type := 4, pos := "law.go:28", after := #[{ on := 9, ground := Go.Ground.data }, { on := 8, ground := Go.Ground.chain }, { on := 6, ground := Go.Ground.guard }], guard := some (6, false) }) (v := ?v10) rfl (by kernel_rfl) (by kernel_rfl) (by kernel_rfl) (fun _ _ _ h => h) (Or.inl ⟨by rfl, ?hy10⟩) hHeld ?rest10
  case hy10 => (intro W hSw; (try dsimp only at hSw); obtain ⟨_, l0, ⟨l1, l2, l3, l4, l5, l6⟩, ⟨l7, l8, l9⟩, l10, l11, l12⟩ := hSw; go_simp <;> with_reducible rfl)
  try simp only [Act.put, List.setIfInBounds_toArray, List.set_cons_zero, List.set_cons_succ]
  refine wpAnyH_take (i := 11) (oi := { dst := some 34, op := Go.Op.load 23 (Go.Operand.tmp 2), type := 23, pos := "law.go:28", after := #[{ on := 10, ground := Go.Ground.guard }], guard := some (10, true) }) (v := undef) rfl (by kernel_rfl) (by kernel_rfl) (by kernel_rfl) (fun _ _ _ h => h) (Or.inr ⟨by rfl, rfl⟩) hHeld ?_
  try simp only [Act.put, List.setIfInBounds_toArray, List.set_cons_zero, List.set_cons_succ]
  refine wpAnyH_take (i := 12) (oi := { dst := some 35, op := Go.Op.call { callee := Go.Callee.value (Go.Operand.func 15), args := #[Go.Operand.tmp 34], argTypes := #[23] }, type := 25, pos := "law.go:28", after := #[{ on := 11, ground := Go.Ground.data }, { on := 10, ground := Go.Ground.chain }, { on := 10, ground := Go.Ground.guard }], guard := some (10, true) }) (v := undef) rfl (by kernel_rfl) (by kernel_rfl) (by kernel_rfl) (fun _ _ _ h => h) (Or.inr ⟨by rfl, rfl⟩) hHeld ?_
  try simp only [Act.put, List.setIfInBounds_toArray, List.set_cons_zero, List.set_cons_succ]
  refine wpAnyH_take (i := 13) (oi := { dst := some 36, op := Go.Op.binOp Go.BinOp.neq 25 (Go.Operand.tmp 35) (Go.Operand.const (Go.Value.int Go.IntKind.i64 6)) 25, type := 4, pos := "law.go:28", after := #[{ on := 12, ground := Go.Ground.data }, { on := 10, ground := Go.Ground.guard }], guard := some (10, true) }) (v := undef) rfl (by kernel_rfl) (by kernel_rfl) (by kernel_rfl) (fun _ _ _ h => h) (Or.inr ⟨by rfl, rfl⟩) hHeld ?_
  try simp only [Act.put, List.setIfInBounds_toArray, List.set_cons_zero, List.set_cons_succ]
  refine wpAnyH_take (i := 14) (oi := { dst := some 37, op := Go.Op.pick (Go.Operand.tmp 33) (Go.Operand.tmp 36) (Go.Operand.const (Go.Value.bool false)), type := 4, pos := "law.go:28", after := #[{ on := 10, ground := Go.Ground.data }, { on := 13, ground := Go.Ground.data }, { on := 6, ground := Go.Ground.guard }], guard := some (6, false) }) (v := ?v14) rfl (by kernel_rfl) (by kernel_rfl) (by kernel_rfl) (fun _ _ _ h => h) (Or.inl ⟨by rfl, ?hy14⟩) hHeld ?rest14
  case hy14 => (intro W hSw; (try dsimp only at hSw); obtain ⟨_, l0, ⟨l1, l2, l3, l4, l5, l6⟩, ⟨l7, l8, l9⟩, l10, l11, l12⟩ := hSw; go_simp <;> with_reducible rfl)
  try simp only [Act.put, List.setIfInBounds_toArray, List.set_cons_zero, List.set_cons_succ]
  refine wpAnyH_take (i := 15) (oi := { dst := some 38, op := Go.Op.pick (Go.Operand.tmp 29) (Go.Operand.const (Go.Value.bool true)) (Go.Operand.tmp 37), type := 4, pos := "law.go:28", after := #[{ on := 6, ground := Go.Ground.data }, { on := 14, ground := Go.Ground.data }], guard := none }) (v := ?v15) rfl (by kernel_rfl) (by kernel_rfl) (by kernel_rfl) (fun _ _ _ h => h) (Or.inl ⟨by rfl, ?hy15⟩) hHeld ?rest15
  case hy15 => (intro W hSw; (try dsimp only at hSw); obtain ⟨_, l0, ⟨l1, l2, l3, l4, l5, l6⟩, ⟨l7, l8, l9⟩, l10, l11, l12⟩ := hSw; go_simp <;> with_reducible rfl)
  try simp only [Act.put, List.setIfInBounds_toArray, List.set_cons_zero, List.set_cons_succ]
  refine wpAnyH_take (i := 16) (oi := { dst := some 39, op := Go.Op.move (Go.Operand.tmp 38), type := 4, pos := "law.go:28", after := #[{ on := 15, ground := Go.Ground.data }, { on := 12, ground := Go.Ground.chain }], guard := none }) (v := ?v16) rfl (by kernel_rfl) (by kernel_rfl) (by kernel_rfl) (fun _ _ _ h => h) (Or.inl ⟨by rfl, ?hy16⟩) hHeld ?rest16
  case hy16 => (intro W hSw; (try dsimp only at hSw); obtain ⟨_, l0, ⟨l1, l2, l3, l4, l5, l6⟩, ⟨l7, l8, l9⟩, l10, l11, l12⟩ := hSw; go_simp <;> with_reducible rfl)
  try simp only [Act.put, List.setIfInBounds_toArray, List.set_cons_zero, List.set_cons_succ]
  refine wpAnyH_take (i := 17) (oi := { dst := some 40, op := Go.Op.load 23 (Go.Operand.tmp 2), type := 23, pos := "law.go:28", after := #[{ on := 16, ground := Go.Ground.guard }], guard := some (16, false) }) (v := ?v17) rfl (by kernel_rfl) (by kernel_rfl) (by kernel_rfl) (fun _ _ _ h => h) (Or.inl ⟨by rfl, ?hy17⟩) hHeld ?rest17
  case hy17 => (intro W hSw; (try dsimp only at hSw); obtain ⟨_, l0, ⟨l1, l2, l3, l4, l5, l6⟩, ⟨l7, l8, l9⟩, l10, l11, l12⟩ := hSw; go_simp <;> with_reducible rfl)
  try simp only [Act.put, List.setIfInBounds_toArray, List.set_cons_zero, List.set_cons_succ]
  refine wpAnyH_take (i := 18) (oi := { dst := some 41, op := Go.Op.load 23 (Go.Operand.tmp 3), type := 23, pos := "law.go:28", after := #[{ on := 16, ground := Go.Ground.guard }], guard := some (16, false) }) (v := ?v18) rfl (by kernel_rfl) (by kernel_rfl) (by kernel_rfl) (fun _ _ _ h => h) (Or.inl ⟨by rfl, ?hy18⟩) hHeld ?rest18
  case hy18 => (intro W hSw; (try dsimp only at hSw); obtain ⟨_, l0, ⟨l1, l2, l3, l4, l5, l6⟩, ⟨l7, l8, l9⟩, l10, l11, l12⟩ := hSw; go_simp <;> with_reducible rfl)
  try simp only [Act.put, List.setIfInBounds_toArray, List.set_cons_zero, List.set_cons_succ]
  refine wpAnyH_take (i := 20) (oi := { dst := some 43, op := Go.Op.load 23 (Go.Operand.tmp 2), type := 23, pos := "law.go:28", after := #[{ on := 16, ground := Go.Ground.guard }], guard := some (16, false) }) (v := ?v20) rfl (by kernel_rfl) (by kernel_rfl) (by kernel_rfl) (fun _ _ _ h => h) (Or.inl ⟨by rfl, ?hy20⟩) hHeld ?rest20
  case hy20 => (intro W hSw; (try dsimp only at hSw); obtain ⟨_, l0, ⟨l1, l2, l3, l4, l5, l6⟩, ⟨l7, l8, l9⟩, l10, l11, l12⟩ := hSw; go_simp <;> with_reducible rfl)
  try simp only [Act.put, List.setIfInBounds_toArray, List.set_cons_zero, List.set_cons_succ]
  refine wpAnyH_take (i := 21) (oi := { dst := some 44, op := Go.Op.load 23 (Go.Operand.tmp 3), type := 23, pos := "law.go:28", after := #[{ on := 16, ground := Go.Ground.guard }], guard := some (16, false) }) (v := ?v21) rfl (by kernel_rfl) (by kernel_rfl) (by kernel_rfl) (fun _ _ _ h => h) (Or.inl ⟨by rfl, ?hy21⟩) hHeld ?rest21
  case hy21 => (intro W hSw; (try dsimp only at hSw); obtain ⟨_, l0, ⟨l1, l2, l3, l4, l5, l6⟩, ⟨l7, l8, l9⟩, l10, l11, l12⟩ := hSw; go_simp <;> with_reducible rfl)
  try simp only [Act.put, List.setIfInBounds_toArray, List.set_cons_zero, List.set_cons_succ]
  refine wpAnyH_ready (rs := [19]) (by kernel_rfl) (by simp) ?_
  refine AllReadyH.cons (o := { dst := some 42, op := Go.Op.call { callee := Go.Callee.value (Go.Operand.func 17), args := #[Go.Operand.tmp 40, Go.Operand.tmp 41], argTypes := #[23, 23] }, type := 3, pos := "law.go:28", after := #[{ on := 17, ground := Go.Ground.data }, { on := 18, ground := Go.Ground.data }, { on := 16, ground := Go.Ground.chain }, { on := 16, ground := Go.Ground.guard }], guard := some (16, false) }) rfl (fun K hK => ?_) AllReadyH.nil
  have HK := Lib.hid hK
  clear hK
  go_simp
  (refine (g3 _ (And.left hHeld)).mono ?_; rintro e W3 ⟨rfl, hk3⟩)
  refine HK.out _ _ ?hS19 (fun hHeld2 => ?rest19)
  case hS19 => exact hall _ (by assumption)
  clear HK hHeld
  have hHeld := hHeld2
  clear hHeld2
  try simp only [Act.put, List.setIfInBounds_toArray, List.set_cons_zero, List.set_cons_succ]
  refine wpAnyH_ready (rs := [22]) (by kernel_rfl) (by simp) ?_
  refine AllReadyH.cons (o := { dst := some 45, op := Go.Op.call { callee := Go.Callee.value (Go.Operand.func 18), args := #[Go.Operand.tmp 43, Go.Operand.tmp 44], argTypes := #[23, 23] }, type := 3, pos := "law.go:28", after := #[{ on := 20, ground := Go.Ground.data }, { on := 21, ground := Go.Ground.data }, { on := 19, ground := Go.Ground.chain }, { on := 16, ground := Go.Ground.guard }], guard := some (16, false) }) rfl (fun K hK => ?_) AllReadyH.nil
  have HK := Lib.hid hK
  clear hK
  go_simp
  (refine (g4 _ (And.left hHeld)).mono ?_; rintro e W4 ⟨rfl, hk4⟩)
  refine HK.out _ _ ?hS22 (fun hHeld2 => ?rest22)
  case hS22 => exact hall _ (by assumption)
  clear HK hHeld
  have hHeld := hHeld2
  clear hHeld2
  try simp only [Act.put, List.setIfInBounds_toArray, List.set_cons_zero, List.set_cons_succ]
  refine wpAnyH_take (i := 23) (oi := { dst := some 46, op := Go.Op.binOp Go.BinOp.neq 3 (Go.Operand.tmp 42) (Go.Operand.tmp 45) 3, type := 4, pos := "law.go:28", after := #[{ on := 19, ground := Go.Ground.data }, { on := 22, ground := Go.Ground.data }, { on := 16, ground := Go.Ground.guard }], guard := some (16, false) }) (v := ?v23) rfl (by kernel_rfl) (by kernel_rfl) (by kernel_rfl) (fun _ _ _ h => h) (Or.inl ⟨by rfl, ?hy23⟩) hHeld ?rest23
  case hy23 => (intro W hSw; (try dsimp only at hSw); obtain ⟨_, l0, ⟨l1, l2, l3, l4, l5, l6⟩, ⟨l7, l8, l9⟩, l10, l11, l12⟩ := hSw; go_simp <;> with_reducible rfl)
  try simp only [Act.put, List.setIfInBounds_toArray, List.set_cons_zero, List.set_cons_succ]
  refine wpAnyH_take (i := 24) (oi := { dst := some 47, op := Go.Op.pick (Go.Operand.tmp 39) (Go.Operand.const (Go.Value.bool true)) (Go.Operand.tmp 46), type := 4, pos := "law.go:28", after := #[{ on := 16, ground := Go.Ground.data }, { on := 23, ground := Go.Ground.data }], guard := none }) (v := ?v24) rfl (by kernel_rfl) (by kernel_rfl) (by kernel_rfl) (fun _ _ _ h => h) (Or.inl ⟨by rfl, ?hy24⟩) hHeld ?rest24
  case hy24 => (intro W hSw; (try dsimp only at hSw); obtain ⟨_, l0, ⟨l1, l2, l3, l4, l5, l6⟩, ⟨l7, l8, l9⟩, l10, l11, l12⟩ := hSw; go_simp <;> with_reducible rfl)
  try simp only [Act.put, List.setIfInBounds_toArray, List.set_cons_zero, List.set_cons_succ]
  refine wpAnyH_done (by kernel_rfl) ?_ _
  have g5 := keepsB3 (wc := wd) i2
  have g6 := keepsB3 (wc := wd) t1
  have g7 := keepsB3 (wc := wd) t2
  have g8 := keepsB3 (wc := wd) u1
  have g9 := keepsB3 (wc := wd) u2
  all_goals
    obtain ⟨_, _, ⟨p1, p2, p3, p4, p5, p6⟩, _⟩ := hall _ hk4
    go_upto_region 9 with (first
      | (revert hk5; intro hk5; go_at_call 16; refine (g5 _ hk5).mono ?_; rintro e W6 ⟨rfl, hk6⟩)
      | (go_at_call 16; refine (g2 _ hk4).mono ?_; rintro e W5 ⟨rfl, hk5⟩; obtain ⟨_, _, ⟨r1, r2, r3, r4, r5, r6⟩, _⟩ := hall _ hk5))
    have hkb := hall _ hk6
    first
    | (go_region_held3 (fun W => Below wd.heap.size wd W ∧ w.heap.size + 1 < W.heap.size ∧
         (W.cell? ⟨w.heap.size, 0, none⟩ = some (.int .i64 x) ∧ W.cell? ⟨w.heap.size, 1, none⟩ = some (.int .i64 y) ∧ W.cell? ⟨w.heap.size, 2, none⟩ = some (.int .i64 z) ∧
         W.cell? ⟨w.heap.size + 1, 0, none⟩ = some (.int .i64 a) ∧ W.cell? ⟨w.heap.size + 1, 1, none⟩ = some (.int .i64 b) ∧ W.cell? ⟨w.heap.size + 1, 2, none⟩ = some (.int .i64 c)) ∧
         (W.cell? ⟨w1.heap.size, 0, none⟩ = some (.int .i64 s1) ∧ W.cell? ⟨w1.heap.size, 1, none⟩ = some (.int .i64 s2) ∧ W.cell? ⟨w1.heap.size, 2, none⟩ = some (.int .i64 s3)) ∧
         W.cell? ⟨w2.heap.size, 0, none⟩ = some (.int .i64 d1) ∧ W.cell? ⟨w2.heap.size, 1, none⟩ = some (.int .i64 d2) ∧ W.cell? ⟨w2.heap.size, 2, none⟩ = some (.int .i64 d3))
         (first | exact hkb | exact hall _ ‹_› | exact hall _ (Below.drew ‹_›) | exact hall _ (Below.drew (Below.refl _ _)))
         (first
           | (go_at_call 20; refine (g6 _ ?_).mono ?_; (first | assumption | exact And.left ‹_›); rintro e W7 ⟨rfl, hk7⟩)
           | (go_at_call 21; refine (g7 _ ?_).mono ?_; (first | assumption | exact And.left ‹_›); rintro e W9 ⟨rfl, hk9⟩)
           | (go_at_call_of 19 m1; refine (g8 _ ?_).mono ?_; (first | assumption | exact And.left ‹_›); rintro e W8 ⟨rfl, hk8⟩)
           | (go_at_call_of 19 n1; refine (g9 _ ?_).mono ?_; (first | assumption | exact And.left ‹_›); rintro e W10 ⟨rfl, hk10⟩)))
    | fail
    all_goals
      go_wp2
      go_ret
      refine ⟨rfl, hb9.trans (bmono hk10 (by have := hb9.size; omega))⟩

set_option maxHeartbeats 8000000 in
set_option maxRecDepth 100000 in
theorem adds_bad (x y z a b c : Int) (h : (inV x y z && inV a b c) = false) (w : World) :
    Calls Try.prog 3 #[.agg #[.int .i64 x, .int .i64 y, .int .i64 z], .agg #[.int .i64 a, .int .i64 b, .int .i64 c]] w fun e w' => e = .returned (.bool true) ∧ Below w.heap.size w w' := by
  have c1 := add_any x y z a b c
  rw [show sumV 1 x y z a b c = ((0, 0, 0), 6) by simp only [sumV, h, Bool.false_eq_true, if_false]] at c1
  have c2 := sub_any x y z a b c
  rw [show sumV (-1) x y z a b c = ((0, 0, 0), 6) by simp only [sumV, h, Bool.false_eq_true, if_false]] at c2
  have i1 := refIn_any x y z
  have i2 := refIn_any a b c
  have ck := check_any x y z
  unfold eV at ck
  have q1 := compare_any x y z a b c
  have q2 := refCmp_any x y z a b c
  rw [cmpV_eq] at q2
  have hq := eqV 0 0 0 0 0 0
  rw [show ((0 : Int) == 0 && ((0 : Int) == 0 && (0 : Int) == 0)) = true by decide] at hq
  generalize inV x y z = p at h i1 ck
  generalize inV a b c = q at h i2
  have hh : p = false ∨ (p = true ∧ q = false) := by cases p <;> cases q <;> simp_all
  clear h
  simp only at c1 c2
  generalize cmp3 x y z a b c = cc at q1 q2
  rcases hh with rfl | ⟨rfl, rfl⟩
  · simp only [Bool.false_eq_true, if_false] at ck
    go_enter Try.func3, Try.ntmps3
    go_upto_region 5 with (first
      | (go_at_call 12; refine (awake_any _).mono ?_; rintro e w0 ⟨rfl, hb0⟩; obtain ⟨hc0, hf0⟩ := bcell hb0; have hz0 := hb0.size; (try simp at hz0); (try have y00 : w.heap.size < w0.heap.size := (by omega)); (try have y00p : w.heap.size < w0.heap.size + 1 := (by omega)); (try have y01 : w.heap.size + 1 < w0.heap.size := (by omega)); (try have y01p : w.heap.size + 1 < w0.heap.size + 1 := (by omega)))
      | (go_at_call 13; refine (c1 _).mono ?_; rintro e w1 ⟨rfl, hb1⟩; obtain ⟨hc1, hf1⟩ := bcell hb1; have hz1 := hb1.size; (try simp at hz1); (try have y10 : w.heap.size < w1.heap.size := (by omega)); (try have y10p : w.heap.size < w1.heap.size + 1 := (by omega)); (try have y11 : w.heap.size + 1 < w1.heap.size := (by omega)); (try have y11p : w.heap.size + 1 < w1.heap.size + 1 := (by omega)); (try have v0x1 : w0.heap.size < w1.heap.size := (by omega)); (try have v0x1p : w0.heap.size < w1.heap.size + 1 := (by omega)))
      | (go_at_call 14; refine (c2 _).mono ?_; rintro e w2 ⟨rfl, hb2⟩; obtain ⟨hc2, hf2⟩ := bcell hb2; have hz2 := hb2.size; (try simp at hz2); (try have y20 : w.heap.size < w2.heap.size := (by omega)); (try have y20p : w.heap.size < w2.heap.size + 1 := (by omega)); (try have y21 : w.heap.size + 1 < w2.heap.size := (by omega)); (try have y21p : w.heap.size + 1 < w2.heap.size + 1 := (by omega)); (try have v0x2 : w0.heap.size < w2.heap.size := (by omega)); (try have v0x2p : w0.heap.size < w2.heap.size + 1 := (by omega)); (try have v1x2 : w1.heap.size < w2.heap.size := (by omega)); (try have v1x2p : w1.heap.size < w2.heap.size + 1 := (by omega))))
    have hk1 : K2 x y z a b c w w1 := ((K2.start.over hb0).over hb1)
    have hk2 := (hk1.alloc (.cells #[.int .i64 0, .int .i64 0, .int .i64 0] 23)).over hb2
    have hk3 := hk2.alloc (.cells #[.int .i64 0, .int .i64 0, .int .i64 0] 23)
    have hB := ((Blk.new w1 23 #[.int .i64 0, .int .i64 0, .int .i64 0]).below hb2 (by simp)).alloc (.cells #[.int .i64 0, .int .i64 0, .int .i64 0] 23)
    have hS : Blk (w2.alloc (.cells #[.int .i64 0, .int .i64 0, .int .i64 0] 23)) w2.heap.size 23 #[.int .i64 0, .int .i64 0, .int .i64 0] := Blk.new _ _ _
    have hall : ∀ W, Below (w2.alloc (.cells #[.int .i64 0, .int .i64 0, .int .i64 0] 23)).heap.size (w2.alloc (.cells #[.int .i64 0, .int .i64 0, .int .i64 0] 23)) W →
        Below (w2.alloc (.cells #[.int .i64 0, .int .i64 0, .int .i64 0] 23)).heap.size (w2.alloc (.cells #[.int .i64 0, .int .i64 0, .int .i64 0] 23)) W ∧ w.heap.size + 1 < W.heap.size ∧
        (W.cell? ⟨w.heap.size, 0, none⟩ = some (.int .i64 x) ∧ W.cell? ⟨w.heap.size, 1, none⟩ = some (.int .i64 y) ∧ W.cell? ⟨w.heap.size, 2, none⟩ = some (.int .i64 z) ∧
        W.cell? ⟨w.heap.size + 1, 0, none⟩ = some (.int .i64 a) ∧ W.cell? ⟨w.heap.size + 1, 1, none⟩ = some (.int .i64 b) ∧ W.cell? ⟨w.heap.size + 1, 2, none⟩ = some (.int .i64 c)) ∧
        (W.cell? ⟨w1.heap.size, 0, none⟩ = some (.int .i64 0) ∧ W.cell? ⟨w1.heap.size, 1, none⟩ = some (.int .i64 0) ∧ W.cell? ⟨w1.heap.size, 2, none⟩ = some (.int .i64 0)) ∧
        W.cell? ⟨w2.heap.size, 0, none⟩ = some (.int .i64 0) ∧ W.cell? ⟨w2.heap.size, 1, none⟩ = some (.int .i64 0) ∧ W.cell? ⟨w2.heap.size, 2, none⟩ = some (.int .i64 0) :=
      fun W hb => ⟨hb, (hk3.over hb).all.2.1, (hk3.over hb).all.2.2, blk3 (hB.below hb hB.lt), blk3 (hS.below hb hS.lt)⟩
    have hb9 := hk3.1
    clear hk1 hk2 hk3 hB hS hb0 hb1 hb2 hc0 hc1 hc2 hf0 hf1 hf2
    obtain ⟨wd, hwd⟩ : ∃ wd, wd = w2.alloc (.cells #[.int .i64 0, .int .i64 0, .int .i64 0] 23) := ⟨_, rfl⟩
    rw [← hwd] at hall hb9 ⊢
    clear hwd
    have g1 := keepsB3 (wc := wd) ck
    have g2 := keepsB3 (wc := wd) i1
    have g3 := keepsB3 (wc := wd) q1
    have g4 := keepsB3 (wc := wd) q2
    have hka := hall wd (Below.refl _ _)
    first
    | (go_region_held3 (fun W => Below wd.heap.size wd W ∧ w.heap.size + 1 < W.heap.size ∧
           (W.cell? ⟨w.heap.size, 0, none⟩ = some (.int .i64 x) ∧ W.cell? ⟨w.heap.size, 1, none⟩ = some (.int .i64 y) ∧ W.cell? ⟨w.heap.size, 2, none⟩ = some (.int .i64 z) ∧
           W.cell? ⟨w.heap.size + 1, 0, none⟩ = some (.int .i64 a) ∧ W.cell? ⟨w.heap.size + 1, 1, none⟩ = some (.int .i64 b) ∧ W.cell? ⟨w.heap.size + 1, 2, none⟩ = some (.int .i64 c)) ∧
           (W.cell? ⟨w1.heap.size, 0, none⟩ = some (.int .i64 0) ∧ W.cell? ⟨w1.heap.size, 1, none⟩ = some (.int .i64 0) ∧ W.cell? ⟨w1.heap.size, 2, none⟩ = some (.int .i64 0)) ∧
           W.cell? ⟨w2.heap.size, 0, none⟩ = some (.int .i64 0) ∧ W.cell? ⟨w2.heap.size, 1, none⟩ = some (.int .i64 0) ∧ W.cell? ⟨w2.heap.size, 2, none⟩ = some (.int .i64 0))
         (first | exact hka | exact hall _ ‹_› | exact hall _ (Below.drew ‹_›) | exact hall _ (Below.drew (Below.refl _ _)))
         (first
           | (go_at_call 15; refine (g1 _ ?_).mono ?_; (first | assumption | exact And.left ‹_›); rintro e W1 ⟨rfl, hk1⟩)
           | (go_at_call 16; refine (g2 _ ?_).mono ?_; (first | assumption | exact And.left ‹_›); rintro e W2 ⟨rfl, hk2⟩)
           | (go_at_call 17; refine (g3 _ ?_).mono ?_; (first | assumption | exact And.left ‹_›); rintro e W3 ⟨rfl, hk3⟩)
           | (go_at_call 18; refine (g4 _ ?_).mono ?_; (first | assumption | exact And.left ‹_›); rintro e W4 ⟨rfl, hk4⟩)))
    | fail
    have g5 := keepsB3 (wc := wd) i2
    all_goals
      obtain ⟨_, _, ⟨p1, p2, p3, p4, p5, p6⟩, ⟨p7, p8, p9⟩, p10, p11, p12⟩ := hall _ hk4
      go_wp2_with (first
        | (revert hk5; intro hk5; go_at_call 16; refine (g5 _ hk5).mono ?_; rintro e W6 ⟨rfl, hk6⟩; obtain ⟨_, _, ⟨r1, r2, r3, r4, r5, r6⟩, ⟨r7, r8, r9⟩, r10, r11, r12⟩ := hall _ hk6)
        | (go_at_call 16; refine (g2 _ hk4).mono ?_; rintro e W5 ⟨rfl, hk5⟩; obtain ⟨_, _, ⟨r1, r2, r3, r4, r5, r6⟩, ⟨r7, r8, r9⟩, r10, r11, r12⟩ := hall _ hk5))
      go_ret
      first
      | exact ⟨rfl, hb9.trans (bmono hk6 (by have := hb9.size; omega))⟩
      | exact ⟨rfl, hb9.trans (bmono hk5 (by have := hb9.size; omega))⟩

  · simp only [if_true] at ck
    go_enter Try.func3, Try.ntmps3
    go_upto_region 5 with (first
      | (go_at_call 12; refine (awake_any _).mono ?_; rintro e w0 ⟨rfl, hb0⟩; obtain ⟨hc0, hf0⟩ := bcell hb0; have hz0 := hb0.size; (try simp at hz0); (try have y00 : w.heap.size < w0.heap.size := (by omega)); (try have y00p : w.heap.size < w0.heap.size + 1 := (by omega)); (try have y01 : w.heap.size + 1 < w0.heap.size := (by omega)); (try have y01p : w.heap.size + 1 < w0.heap.size + 1 := (by omega)))
      | (go_at_call 13; refine (c1 _).mono ?_; rintro e w1 ⟨rfl, hb1⟩; obtain ⟨hc1, hf1⟩ := bcell hb1; have hz1 := hb1.size; (try simp at hz1); (try have y10 : w.heap.size < w1.heap.size := (by omega)); (try have y10p : w.heap.size < w1.heap.size + 1 := (by omega)); (try have y11 : w.heap.size + 1 < w1.heap.size := (by omega)); (try have y11p : w.heap.size + 1 < w1.heap.size + 1 := (by omega)); (try have v0x1 : w0.heap.size < w1.heap.size := (by omega)); (try have v0x1p : w0.heap.size < w1.heap.size + 1 := (by omega)))
      | (go_at_call 14; refine (c2 _).mono ?_; rintro e w2 ⟨rfl, hb2⟩; obtain ⟨hc2, hf2⟩ := bcell hb2; have hz2 := hb2.size; (try simp at hz2); (try have y20 : w.heap.size < w2.heap.size := (by omega)); (try have y20p : w.heap.size < w2.heap.size + 1 := (by omega)); (try have y21 : w.heap.size + 1 < w2.heap.size := (by omega)); (try have y21p : w.heap.size + 1 < w2.heap.size + 1 := (by omega)); (try have v0x2 : w0.heap.size < w2.heap.size := (by omega)); (try have v0x2p : w0.heap.size < w2.heap.size + 1 := (by omega)); (try have v1x2 : w1.heap.size < w2.heap.size := (by omega)); (try have v1x2p : w1.heap.size < w2.heap.size + 1 := (by omega))))
    have hk1 : K2 x y z a b c w w1 := ((K2.start.over hb0).over hb1)
    have hk2 := (hk1.alloc (.cells #[.int .i64 0, .int .i64 0, .int .i64 0] 23)).over hb2
    have hk3 := hk2.alloc (.cells #[.int .i64 0, .int .i64 0, .int .i64 0] 23)
    have hB := ((Blk.new w1 23 #[.int .i64 0, .int .i64 0, .int .i64 0]).below hb2 (by simp)).alloc (.cells #[.int .i64 0, .int .i64 0, .int .i64 0] 23)
    have hS : Blk (w2.alloc (.cells #[.int .i64 0, .int .i64 0, .int .i64 0] 23)) w2.heap.size 23 #[.int .i64 0, .int .i64 0, .int .i64 0] := Blk.new _ _ _
    have hall : ∀ W, Below (w2.alloc (.cells #[.int .i64 0, .int .i64 0, .int .i64 0] 23)).heap.size (w2.alloc (.cells #[.int .i64 0, .int .i64 0, .int .i64 0] 23)) W →
        Below (w2.alloc (.cells #[.int .i64 0, .int .i64 0, .int .i64 0] 23)).heap.size (w2.alloc (.cells #[.int .i64 0, .int .i64 0, .int .i64 0] 23)) W ∧ w.heap.size + 1 < W.heap.size ∧
        (W.cell? ⟨w.heap.size, 0, none⟩ = some (.int .i64 x) ∧ W.cell? ⟨w.heap.size, 1, none⟩ = some (.int .i64 y) ∧ W.cell? ⟨w.heap.size, 2, none⟩ = some (.int .i64 z) ∧
        W.cell? ⟨w.heap.size + 1, 0, none⟩ = some (.int .i64 a) ∧ W.cell? ⟨w.heap.size + 1, 1, none⟩ = some (.int .i64 b) ∧ W.cell? ⟨w.heap.size + 1, 2, none⟩ = some (.int .i64 c)) ∧
        (W.cell? ⟨w1.heap.size, 0, none⟩ = some (.int .i64 0) ∧ W.cell? ⟨w1.heap.size, 1, none⟩ = some (.int .i64 0) ∧ W.cell? ⟨w1.heap.size, 2, none⟩ = some (.int .i64 0)) ∧
        W.cell? ⟨w2.heap.size, 0, none⟩ = some (.int .i64 0) ∧ W.cell? ⟨w2.heap.size, 1, none⟩ = some (.int .i64 0) ∧ W.cell? ⟨w2.heap.size, 2, none⟩ = some (.int .i64 0) :=
      fun W hb => ⟨hb, (hk3.over hb).all.2.1, (hk3.over hb).all.2.2, blk3 (hB.below hb hB.lt), blk3 (hS.below hb hS.lt)⟩
    have hb9 := hk3.1
    clear hk1 hk2 hk3 hB hS hb0 hb1 hb2 hc0 hc1 hc2 hf0 hf1 hf2
    obtain ⟨wd, hwd⟩ : ∃ wd, wd = w2.alloc (.cells #[.int .i64 0, .int .i64 0, .int .i64 0] 23) := ⟨_, rfl⟩
    rw [← hwd] at hall hb9 ⊢
    clear hwd
    have g1 := keepsB3 (wc := wd) ck
    have g2 := keepsB3 (wc := wd) i1
    have g3 := keepsB3 (wc := wd) q1
    have g4 := keepsB3 (wc := wd) q2
    have hka := hall wd (Below.refl _ _)
    refine wp_region_held_drew (S := (fun W => Below wd.heap.size wd W ∧ w.heap.size + 1 < W.heap.size ∧ (W.cell? ⟨w.heap.size, 0, none⟩ = some (.int .i64 x) ∧ W.cell? ⟨w.heap.size, 1, none⟩ = some (.int .i64 y) ∧ W.cell? ⟨w.heap.size, 2, none⟩ = some (.int .i64 z) ∧ W.cell? ⟨w.heap.size + 1, 0, none⟩ = some (.int .i64 a) ∧ W.cell? ⟨w.heap.size + 1, 1, none⟩ = some (.int .i64 b) ∧ W.cell? ⟨w.heap.size + 1, 2, none⟩ = some (.int .i64 c)) ∧ (W.cell? ⟨w1.heap.size, 0, none⟩ = some (.int .i64 0) ∧ W.cell? ⟨w1.heap.size, 1, none⟩ = some (.int .i64 0) ∧ W.cell? ⟨w1.heap.size, 2, none⟩ = some (.int .i64 0)) ∧ W.cell? ⟨w2.heap.size, 0, none⟩ = some (.int .i64 0) ∧ W.cell? ⟨w2.heap.size, 1, none⟩ = some (.int .i64 0) ∧ W.cell? ⟨w2.heap.size, 2, none⟩ = some (.int .i64 0))) (by kernel_rfl) (hall _ (Below.drew (Below.refl _ _))) ?_
    intro hHeld
    refine wpAnyH_take (i := 0) (oi := { dst := some 23, op := Go.Op.load 23 (Go.Operand.tmp 2), type := 23, pos := "law.go:28", after := #[], guard := none }) (v := ?v0) rfl (by kernel_rfl) (by kernel_rfl) (by kernel_rfl) (fun _ _ _ h => h) (Or.inl ⟨by rfl, ?hy0⟩) hHeld ?rest0
    case hy0 => (intro W hSw; (try dsimp only at hSw); obtain ⟨_, l0, ⟨l1, l2, l3, l4, l5, l6⟩, ⟨l7, l8, l9⟩, l10, l11, l12⟩ := hSw; go_simp <;> with_reducible rfl)
    try simp only [Act.put, List.setIfInBounds_toArray, List.set_cons_zero, List.set_cons_succ]
    refine wpAnyH_take (i := 3) (oi := { dst := some 26, op := Go.Op.load 23 (Go.Operand.tmp 2), type := 23, pos := "law.go:28", after := #[], guard := none }) (v := ?v3) rfl (by kernel_rfl) (by kernel_rfl) (by kernel_rfl) (fun _ _ _ h => h) (Or.inl ⟨by rfl, ?hy3⟩) hHeld ?rest3
    case hy3 => (intro W hSw; (try dsimp only at hSw); obtain ⟨_, l0, ⟨l1, l2, l3, l4, l5, l6⟩, ⟨l7, l8, l9⟩, l10, l11, l12⟩ := hSw; go_simp <;> with_reducible rfl)
    try simp only [Act.put, List.setIfInBounds_toArray, List.set_cons_zero, List.set_cons_succ]
    refine wpAnyH_ready (rs := [1]) (by kernel_rfl) (by simp) ?_
    refine AllReadyH.cons (o := { dst := some 24, op := Go.Op.call { callee := Go.Callee.value (Go.Operand.func 15), args := #[Go.Operand.tmp 23], argTypes := #[23] }, type := 25, pos := "law.go:28", after := #[{ on := 0, ground := Go.Ground.data }], guard := none }) rfl (fun K hK => ?_) AllReadyH.nil
    have HK := Lib.hid hK
    clear hK
    go_simp
    (refine (g1 _ (And.left hHeld)).mono ?_; rintro e W1 ⟨rfl, hk1⟩)
    refine HK.out _ _ ?hS1 (fun hHeld2 => ?rest1)
    case hS1 => exact hall _ (by assumption)
    clear HK hHeld
    have hHeld := hHeld2
    clear hHeld2
    try simp only [Act.put, List.setIfInBounds_toArray, List.set_cons_zero, List.set_cons_succ]
    refine wpAnyH_take (i := 2) (oi := { dst := some 25, op := Go.Op.binOp Go.BinOp.eql 25 (Go.Operand.tmp 24) (Go.Operand.const (Go.Value.int Go.IntKind.i64 0)) 25, type := 4, pos := "law.go:28", after := #[{ on := 1, ground := Go.Ground.data }], guard := none }) (v := ?v2) rfl (by kernel_rfl) (by kernel_rfl) (by kernel_rfl) (fun _ _ _ h => h) (Or.inl ⟨by rfl, ?hy2⟩) hHeld ?rest2
    case hy2 => (intro W hSw; (try dsimp only at hSw); obtain ⟨_, l0, ⟨l1, l2, l3, l4, l5, l6⟩, ⟨l7, l8, l9⟩, l10, l11, l12⟩ := hSw; go_simp <;> with_reducible rfl)
    try simp only [Act.put, List.setIfInBounds_toArray, List.set_cons_zero, List.set_cons_succ]
    refine wpAnyH_ready (rs := [4]) (by kernel_rfl) (by simp) ?_
    refine AllReadyH.cons (o := { dst := some 27, op := Go.Op.call { callee := Go.Callee.value (Go.Operand.func 16), args := #[Go.Operand.tmp 26], argTypes := #[23] }, type := 4, pos := "law.go:28", after := #[{ on := 3, ground := Go.Ground.data }, { on := 1, ground := Go.Ground.chain }], guard := none }) rfl (fun K hK => ?_) AllReadyH.nil
    have HK := Lib.hid hK
    clear hK
    go_simp
    (refine (g2 _ (And.left hHeld)).mono ?_; rintro e W2 ⟨rfl, hk2⟩)
    refine HK.out _ _ ?hS4 (fun hHeld2 => ?rest4)
    case hS4 => exact hall _ (by assumption)
    clear HK hHeld
    have hHeld := hHeld2
    clear hHeld2
    try simp only [Act.put, List.setIfInBounds_toArray, List.set_cons_zero, List.set_cons_succ]
    refine wpAnyH_take (i := 5) (oi := { dst := some 28, op := Go.Op.binOp Go.BinOp.neq 4 (Go.Operand.tmp 25) (Go.Operand.tmp 27) 4, type := 4, pos := "law.go:28", after := #[{ on := 2, ground := Go.Ground.data }, { on := 4, ground := Go.Ground.data }], guard := none }) (v := ?v5) rfl (by kernel_rfl) (by kernel_rfl) (by kernel_rfl) (fun _ _ _ h => h) (Or.inl ⟨by rfl, ?hy5⟩) hHeld ?rest5
    case hy5 => (intro W hSw; (try dsimp only at hSw); obtain ⟨_, l0, ⟨l1, l2, l3, l4, l5, l6⟩, ⟨l7, l8, l9⟩, l10, l11, l12⟩ := hSw; go_simp <;> with_reducible rfl)
    try simp only [Act.put, List.setIfInBounds_toArray, List.set_cons_zero, List.set_cons_succ]
    refine wpAnyH_take (i := 6) (oi := { dst := some 29, op := Go.Op.move (Go.Operand.tmp 28), type := 4, pos := "law.go:28", after := #[{ on := 5, ground := Go.Ground.data }, { on := 4, ground := Go.Ground.chain }], guard := none }) (v := ?v6) rfl (by kernel_rfl) (by kernel_rfl) (by kernel_rfl) (fun _ _ _ h => h) (Or.inl ⟨by rfl, ?hy6⟩) hHeld ?rest6
    case hy6 => (intro W hSw; (try dsimp only at hSw); obtain ⟨_, l0, ⟨l1, l2, l3, l4, l5, l6⟩, ⟨l7, l8, l9⟩, l10, l11, l12⟩ := hSw; go_simp <;> with_reducible rfl)
    try simp only [Act.put, List.setIfInBounds_toArray, List.set_cons_zero, List.set_cons_succ]
    refine wpAnyH_take (i := 7) (oi := { dst := some 30, op := Go.Op.load 23 (Go.Operand.tmp 2), type := 23, pos := "law.go:28", after := #[{ on := 6, ground := Go.Ground.guard }], guard := some (6, false) }) (v := ?v7) rfl (by kernel_rfl) (by kernel_rfl) (by kernel_rfl) (fun _ _ _ h => h) (Or.inl ⟨by rfl, ?hy7⟩) hHeld ?rest7
    case hy7 => (intro W hSw; (try dsimp only at hSw); obtain ⟨_, l0, ⟨l1, l2, l3, l4, l5, l6⟩, ⟨l7, l8, l9⟩, l10, l11, l12⟩ := hSw; go_simp <;> with_reducible rfl)
    try simp only [Act.put, List.setIfInBounds_toArray, List.set_cons_zero, List.set_cons_succ]
    refine wpAnyH_ready (rs := [8]) (by kernel_rfl) (by simp) ?_
    refine AllReadyH.cons (o := { dst := some 31, op := Go.Op.call { callee := Go.Callee.value (Go.Operand.func 15), args := #[Go.Operand.tmp 30], argTypes := #[23] }, type := 25, pos := "law.go:28", after := #[{ on := 7, ground := Go.Ground.data }, { on := 6, ground := Go.Ground.chain }, { on := 6, ground := Go.Ground.guard }], guard := some (6, false) }) rfl (fun K hK => ?_) AllReadyH.nil
    have HK := Lib.hid hK
    clear hK
    go_simp
    (refine (g1 _ (And.left hHeld)).mono ?_; rintro e W1 ⟨rfl, hk1⟩)
    refine HK.out _ _ ?hS8 (fun hHeld2 => ?rest8)
    case hS8 => exact hall _ (by assumption)
    clear HK hHeld
    have hHeld := hHeld2
    clear hHeld2
    try simp only [Act.put, List.setIfInBounds_toArray, List.set_cons_zero, List.set_cons_succ]
    refine wpAnyH_take (i := 9) (oi := { dst := some 32, op := Go.Op.binOp Go.BinOp.neq 25 (Go.Operand.tmp 31) (Go.Operand.const (Go.Value.int Go.IntKind.i64 0)) 25, type := 4, pos := "law.go:28", after := #[{ on := 8, ground := Go.Ground.data }, { on := 6, ground := Go.Ground.guard }], guard := some (6, false) }) (v := ?v9) rfl (by kernel_rfl) (by kernel_rfl) (by kernel_rfl) (fun _ _ _ h => h) (Or.inl ⟨by rfl, ?hy9⟩) hHeld ?rest9
    case hy9 => (intro W hSw; (try dsimp only at hSw); obtain ⟨_, l0, ⟨l1, l2, l3, l4, l5, l6⟩, ⟨l7, l8, l9⟩, l10, l11, l12⟩ := hSw; go_simp <;> with_reducible rfl)
    try simp only [Act.put, List.setIfInBounds_toArray, List.set_cons_zero, List.set_cons_succ]
    refine wpAnyH_take (i := 10) (oi := { dst := some 33, op := Go.Op.move (Go.Operand.tmp 32), type := 4, pos := "law.go:28", after := #[{ on := 9, ground := Go.Ground.data }, { on := 8, ground := Go.Ground.chain }, { on := 6, ground := Go.Ground.guard }], guard := some (6, false) }) (v := ?v10) rfl (by kernel_rfl) (by kernel_rfl) (by kernel_rfl) (fun _ _ _ h => h) (Or.inl ⟨by rfl, ?hy10⟩) hHeld ?rest10
    case hy10 => (intro W hSw; (try dsimp only at hSw); obtain ⟨_, l0, ⟨l1, l2, l3, l4, l5, l6⟩, ⟨l7, l8, l9⟩, l10, l11, l12⟩ := hSw; go_simp <;> with_reducible rfl)
    try simp only [Act.put, List.setIfInBounds_toArray, List.set_cons_zero, List.set_cons_succ]
    refine wpAnyH_take (i := 11) (oi := { dst := some 34, op := Go.Op.load 23 (Go.Operand.tmp 2), type := 23, pos := "law.go:28", after := #[{ on := 10, ground := Go.Ground.guard }], guard := some (10, true) }) (v := undef) rfl (by kernel_rfl) (by kernel_rfl) (by kernel_rfl) (fun _ _ _ h => h) (Or.inr ⟨by rfl, rfl⟩) hHeld ?_
    try simp only [Act.put, List.setIfInBounds_toArray, List.set_cons_zero, List.set_cons_succ]
    refine wpAnyH_take (i := 12) (oi := { dst := some 35, op := Go.Op.call { callee := Go.Callee.value (Go.Operand.func 15), args := #[Go.Operand.tmp 34], argTypes := #[23] }, type := 25, pos := "law.go:28", after := #[{ on := 11, ground := Go.Ground.data }, { on := 10, ground := Go.Ground.chain }, { on := 10, ground := Go.Ground.guard }], guard := some (10, true) }) (v := undef) rfl (by kernel_rfl) (by kernel_rfl) (by kernel_rfl) (fun _ _ _ h => h) (Or.inr ⟨by rfl, rfl⟩) hHeld ?_
    try simp only [Act.put, List.setIfInBounds_toArray, List.set_cons_zero, List.set_cons_succ]
    refine wpAnyH_take (i := 13) (oi := { dst := some 36, op := Go.Op.binOp Go.BinOp.neq 25 (Go.Operand.tmp 35) (Go.Operand.const (Go.Value.int Go.IntKind.i64 6)) 25, type := 4, pos := "law.go:28", after := #[{ on := 12, ground := Go.Ground.data }, { on := 10, ground := Go.Ground.guard }], guard := some (10, true) }) (v := undef) rfl (by kernel_rfl) (by kernel_rfl) (by kernel_rfl) (fun _ _ _ h => h) (Or.inr ⟨by rfl, rfl⟩) hHeld ?_
    try simp only [Act.put, List.setIfInBounds_toArray, List.set_cons_zero, List.set_cons_succ]
    refine wpAnyH_take (i := 14) (oi := { dst := some 37, op := Go.Op.pick (Go.Operand.tmp 33) (Go.Operand.tmp 36) (Go.Operand.const (Go.Value.bool false)), type := 4, pos := "law.go:28", after := #[{ on := 10, ground := Go.Ground.data }, { on := 13, ground := Go.Ground.data }, { on := 6, ground := Go.Ground.guard }], guard := some (6, false) }) (v := ?v14) rfl (by kernel_rfl) (by kernel_rfl) (by kernel_rfl) (fun _ _ _ h => h) (Or.inl ⟨by rfl, ?hy14⟩) hHeld ?rest14
    case hy14 => (intro W hSw; (try dsimp only at hSw); obtain ⟨_, l0, ⟨l1, l2, l3, l4, l5, l6⟩, ⟨l7, l8, l9⟩, l10, l11, l12⟩ := hSw; go_simp <;> with_reducible rfl)
    try simp only [Act.put, List.setIfInBounds_toArray, List.set_cons_zero, List.set_cons_succ]
    refine wpAnyH_take (i := 15) (oi := { dst := some 38, op := Go.Op.pick (Go.Operand.tmp 29) (Go.Operand.const (Go.Value.bool true)) (Go.Operand.tmp 37), type := 4, pos := "law.go:28", after := #[{ on := 6, ground := Go.Ground.data }, { on := 14, ground := Go.Ground.data }], guard := none }) (v := ?v15) rfl (by kernel_rfl) (by kernel_rfl) (by kernel_rfl) (fun _ _ _ h => h) (Or.inl ⟨by rfl, ?hy15⟩) hHeld ?rest15
    case hy15 => (intro W hSw; (try dsimp only at hSw); obtain ⟨_, l0, ⟨l1, l2, l3, l4, l5, l6⟩, ⟨l7, l8, l9⟩, l10, l11, l12⟩ := hSw; go_simp <;> with_reducible rfl)
    try simp only [Act.put, List.setIfInBounds_toArray, List.set_cons_zero, List.set_cons_succ]
    refine wpAnyH_take (i := 16) (oi := { dst := some 39, op := Go.Op.move (Go.Operand.tmp 38), type := 4, pos := "law.go:28", after := #[{ on := 15, ground := Go.Ground.data }, { on := 12, ground := Go.Ground.chain }], guard := none }) (v := ?v16) rfl (by kernel_rfl) (by kernel_rfl) (by kernel_rfl) (fun _ _ _ h => h) (Or.inl ⟨by rfl, ?hy16⟩) hHeld ?rest16
    case hy16 => (intro W hSw; (try dsimp only at hSw); obtain ⟨_, l0, ⟨l1, l2, l3, l4, l5, l6⟩, ⟨l7, l8, l9⟩, l10, l11, l12⟩ := hSw; go_simp <;> with_reducible rfl)
    try simp only [Act.put, List.setIfInBounds_toArray, List.set_cons_zero, List.set_cons_succ]
    refine wpAnyH_take (i := 17) (oi := { dst := some 40, op := Go.Op.load 23 (Go.Operand.tmp 2), type := 23, pos := "law.go:28", after := #[{ on := 16, ground := Go.Ground.guard }], guard := some (16, false) }) (v := ?v17) rfl (by kernel_rfl) (by kernel_rfl) (by kernel_rfl) (fun _ _ _ h => h) (Or.inl ⟨by rfl, ?hy17⟩) hHeld ?rest17
    case hy17 => (intro W hSw; (try dsimp only at hSw); obtain ⟨_, l0, ⟨l1, l2, l3, l4, l5, l6⟩, ⟨l7, l8, l9⟩, l10, l11, l12⟩ := hSw; go_simp <;> with_reducible rfl)
    try simp only [Act.put, List.setIfInBounds_toArray, List.set_cons_zero, List.set_cons_succ]
    refine wpAnyH_take (i := 18) (oi := { dst := some 41, op := Go.Op.load 23 (Go.Operand.tmp 3), type := 23, pos := "law.go:28", after := #[{ on := 16, ground := Go.Ground.guard }], guard := some (16, false) }) (v := ?v18) rfl (by kernel_rfl) (by kernel_rfl) (by kernel_rfl) (fun _ _ _ h => h) (Or.inl ⟨by rfl, ?hy18⟩) hHeld ?rest18
    case hy18 => (intro W hSw; (try dsimp only at hSw); obtain ⟨_, l0, ⟨l1, l2, l3, l4, l5, l6⟩, ⟨l7, l8, l9⟩, l10, l11, l12⟩ := hSw; go_simp <;> with_reducible rfl)
    try simp only [Act.put, List.setIfInBounds_toArray, List.set_cons_zero, List.set_cons_succ]
    refine wpAnyH_take (i := 20) (oi := { dst := some 43, op := Go.Op.load 23 (Go.Operand.tmp 2), type := 23, pos := "law.go:28", after := #[{ on := 16, ground := Go.Ground.guard }], guard := some (16, false) }) (v := ?v20) rfl (by kernel_rfl) (by kernel_rfl) (by kernel_rfl) (fun _ _ _ h => h) (Or.inl ⟨by rfl, ?hy20⟩) hHeld ?rest20
    case hy20 => (intro W hSw; (try dsimp only at hSw); obtain ⟨_, l0, ⟨l1, l2, l3, l4, l5, l6⟩, ⟨l7, l8, l9⟩, l10, l11, l12⟩ := hSw; go_simp <;> with_reducible rfl)
    try simp only [Act.put, List.setIfInBounds_toArray, List.set_cons_zero, List.set_cons_succ]
    refine wpAnyH_take (i := 21) (oi := { dst := some 44, op := Go.Op.load 23 (Go.Operand.tmp 3), type := 23, pos := "law.go:28", after := #[{ on := 16, ground := Go.Ground.guard }], guard := some (16, false) }) (v := ?v21) rfl (by kernel_rfl) (by kernel_rfl) (by kernel_rfl) (fun _ _ _ h => h) (Or.inl ⟨by rfl, ?hy21⟩) hHeld ?rest21
    case hy21 => (intro W hSw; (try dsimp only at hSw); obtain ⟨_, l0, ⟨l1, l2, l3, l4, l5, l6⟩, ⟨l7, l8, l9⟩, l10, l11, l12⟩ := hSw; go_simp <;> with_reducible rfl)
    try simp only [Act.put, List.setIfInBounds_toArray, List.set_cons_zero, List.set_cons_succ]
    refine wpAnyH_ready (rs := [19]) (by kernel_rfl) (by simp) ?_
    refine AllReadyH.cons (o := { dst := some 42, op := Go.Op.call { callee := Go.Callee.value (Go.Operand.func 17), args := #[Go.Operand.tmp 40, Go.Operand.tmp 41], argTypes := #[23, 23] }, type := 3, pos := "law.go:28", after := #[{ on := 17, ground := Go.Ground.data }, { on := 18, ground := Go.Ground.data }, { on := 16, ground := Go.Ground.chain }, { on := 16, ground := Go.Ground.guard }], guard := some (16, false) }) rfl (fun K hK => ?_) AllReadyH.nil
    have HK := Lib.hid hK
    clear hK
    go_simp
    (refine (g3 _ (And.left hHeld)).mono ?_; rintro e W3 ⟨rfl, hk3⟩)
    refine HK.out _ _ ?hS19 (fun hHeld2 => ?rest19)
    case hS19 => exact hall _ (by assumption)
    clear HK hHeld
    have hHeld := hHeld2
    clear hHeld2
    try simp only [Act.put, List.setIfInBounds_toArray, List.set_cons_zero, List.set_cons_succ]
    refine wpAnyH_ready (rs := [22]) (by kernel_rfl) (by simp) ?_
    refine AllReadyH.cons (o := { dst := some 45, op := Go.Op.call { callee := Go.Callee.value (Go.Operand.func 18), args := #[Go.Operand.tmp 43, Go.Operand.tmp 44], argTypes := #[23, 23] }, type := 3, pos := "law.go:28", after := #[{ on := 20, ground := Go.Ground.data }, { on := 21, ground := Go.Ground.data }, { on := 19, ground := Go.Ground.chain }, { on := 16, ground := Go.Ground.guard }], guard := some (16, false) }) rfl (fun K hK => ?_) AllReadyH.nil
    have HK := Lib.hid hK
    clear hK
    go_simp
    (refine (g4 _ (And.left hHeld)).mono ?_; rintro e W4 ⟨rfl, hk4⟩)
    refine HK.out _ _ ?hS22 (fun hHeld2 => ?rest22)
    case hS22 => exact hall _ (by assumption)
    clear HK hHeld
    have hHeld := hHeld2
    clear hHeld2
    try simp only [Act.put, List.setIfInBounds_toArray, List.set_cons_zero, List.set_cons_succ]
    refine wpAnyH_take (i := 23) (oi := { dst := some 46, op := Go.Op.binOp Go.BinOp.neq 3 (Go.Operand.tmp 42) (Go.Operand.tmp 45) 3, type := 4, pos := "law.go:28", after := #[{ on := 19, ground := Go.Ground.data }, { on := 22, ground := Go.Ground.data }, { on := 16, ground := Go.Ground.guard }], guard := some (16, false) }) (v := ?v23) rfl (by kernel_rfl) (by kernel_rfl) (by kernel_rfl) (fun _ _ _ h => h) (Or.inl ⟨by rfl, ?hy23⟩) hHeld ?rest23
    case hy23 => (intro W hSw; (try dsimp only at hSw); obtain ⟨_, l0, ⟨l1, l2, l3, l4, l5, l6⟩, ⟨l7, l8, l9⟩, l10, l11, l12⟩ := hSw; go_simp <;> with_reducible rfl)
    try simp only [Act.put, List.setIfInBounds_toArray, List.set_cons_zero, List.set_cons_succ]
    refine wpAnyH_take (i := 24) (oi := { dst := some 47, op := Go.Op.pick (Go.Operand.tmp 39) (Go.Operand.const (Go.Value.bool true)) (Go.Operand.tmp 46), type := 4, pos := "law.go:28", after := #[{ on := 16, ground := Go.Ground.data }, { on := 23, ground := Go.Ground.data }], guard := none }) (v := ?v24) rfl (by kernel_rfl) (by kernel_rfl) (by kernel_rfl) (fun _ _ _ h => h) (Or.inl ⟨by rfl, ?hy24⟩) hHeld ?rest24
    case hy24 => (intro W hSw; (try dsimp only at hSw); obtain ⟨_, l0, ⟨l1, l2, l3, l4, l5, l6⟩, ⟨l7, l8, l9⟩, l10, l11, l12⟩ := hSw; go_simp <;> with_reducible rfl)
    try simp only [Act.put, List.setIfInBounds_toArray, List.set_cons_zero, List.set_cons_succ]
    refine wpAnyH_done (by kernel_rfl) ?_ _
    have g5 := keepsB3 (wc := wd) i2
    all_goals
      obtain ⟨_, _, ⟨p1, p2, p3, p4, p5, p6⟩, ⟨p7, p8, p9⟩, p10, p11, p12⟩ := hall _ hk4
      go_wp2_with (first
        | (revert hk5; intro hk5; go_at_call 16; refine (g5 _ hk5).mono ?_; rintro e W6 ⟨rfl, hk6⟩; obtain ⟨_, _, ⟨r1, r2, r3, r4, r5, r6⟩, ⟨r7, r8, r9⟩, r10, r11, r12⟩ := hall _ hk6)
        | (go_at_call 16; refine (g2 _ hk4).mono ?_; rintro e W5 ⟨rfl, hk5⟩; obtain ⟨_, _, ⟨r1, r2, r3, r4, r5, r6⟩, ⟨r7, r8, r9⟩, r10, r11, r12⟩ := hall _ hk5))
      go_ret
      first
      | exact ⟨rfl, hb9.trans (bmono hk6 (by have := hb9.size; omega))⟩
      | exact ⟨rfl, hb9.trans (bmono hk5 (by have := hb9.size; omega))⟩

theorem vectorAdds_any (x y z a b c : Int) (w : World) :
    Calls Try.prog 3 #[.agg #[.int .i64 x, .int .i64 y, .int .i64 z], .agg #[.int .i64 a, .int .i64 b, .int .i64 c]] w fun e w' => e = .returned (.bool true) ∧ Below w.heap.size w w' := by
  cases h : inV x y z && inV a b c
  · exact adds_bad x y z a b c h w
  · rw [Bool.and_eq_true] at h
    exact adds_ok x y z a b c h.1 h.2 w

set_option maxHeartbeats 800000 in
set_option maxRecDepth 100000 in
theorem vectorAdds_lifted (os : Os) (started : os.Started) (H : Type) (enc : TypeId × Value → H) :
    ReturnsInHanded {} Try.checked os 3 .any (Rows.vectorAddsSpec.pre6 enc Try.prog Try.f3 Rows.vectorAddsRow.domain false) (Rows.vectorAddsSpec.post enc Try.prog Try.f3 false true false false) := by
  refine returnsInHanded_of_change (C := Try.checked) Try.own started (by kernel_rfl) Try.func3
    (ChangeSpec.witness6 (enc := enc) (C := Try.checked) false ⟨#[], #[.agg #[.int .i64 0, .int .i64 0, .int .i64 0], .agg #[.int .i64 0, .int .i64 0, .int .i64 0]], []⟩ 8 (by kernel_rfl) (by kernel_rfl) (by kernel_rfl) (by kernel_rfl)) ?_
  intro W base args ds gs before hval0 hW _ _
  have hval : ∀ (j : Nat) t v, Try.f3.params[j]? = some t → args[j]? = some v → Value.okWide Try.prog W .any base t v := hval0
  have hW' := hW
  obtain ⟨p, q, hA0, hV, rfl, _, _⟩ := hW
  have hA : DataW.TrodAll enc Try.prog W 0 (fun _ => true) true Try.f3.params.toList args.toList ds p := hA0
  rw [Try.params3] at hA hval
  obtain ⟨v0, v1, d0, d1, p0, p1, rfl, rfl, rfl, h0, h1⟩ := trodAll_two hA
  obtain ⟨rfl, rfl⟩ := trodVars_none hV
  clear hA0 hval0
  simp only [List.append_nil] at hW'
  have harg0 : ∀ W' : World, Below W.heap.size W W' → DataW.Trod enc Try.prog W' 0 (fun b => decide (b < W.heap.size)) true 23 v0 d0 p0 :=
    fun W' hn => Below.trod Try.laidOut (by kernel_rfl) (of_decide_eq_true (by kernel_rfl)) h0 hn (fun y hy => by simpa using hW'.lt y (by simp [hy]))
  have harg1 : ∀ W' : World, Below W.heap.size W W' → DataW.Trod enc Try.prog W' 0 (fun b => decide (b < W.heap.size)) true 23 v1 d1 p1 :=
    fun W' hn => Below.trod Try.laidOut (by kernel_rfl) (of_decide_eq_true (by kernel_rfl)) h1 hn (fun y hy => by simpa using hW'.lt y (by simp [hy]))
  obtain ⟨x, y, z, rfl⟩ := open_vec (hval 0 23 v0 rfl rfl) h0
  obtain ⟨a, b, c, rfl⟩ := open_vec (hval 1 23 v1 rfl rfl) h1
  refine (vectorAdds_any x y z a b c W).mono fun e W' ⟨he, hn⟩ => ?_
  subst he
  exact ⟨_, rfl, _, _, _, [], _, [], hW', trodAll_mk1 (shut_bool Try.underlying4 _), trodAll_mk2 (harg0 _ hn) (harg1 _ hn), (List.append_nil _).symm, hn.frame _, fun h => by cases h⟩

theorem vectorAdds_holds : Rows.VectorAddsSaid :=
  OpenClaim.holds_of_wide 3 Try.f3 rfl rfl rfl rfl rfl rfl rfl ⟨rfl, rfl, rfl, rfl, rfl⟩ rfl rfl rfl rfl rfl (by kernel_rfl) Try.func3 (by kernel_rfl)
    (of_decide_eq_true (by kernel_rfl)) (by unfold Func.isWrapper; first | (rw [if_pos (by decide +kernel)]; kernel_rfl) | (rw [if_neg (by decide +kernel)]; exact ⟨rfl, rfl⟩))
    (fun os started H enc _ => vectorAdds_lifted os started H enc)
end Go.Proofs.Ythlidkmalfjmbaa
