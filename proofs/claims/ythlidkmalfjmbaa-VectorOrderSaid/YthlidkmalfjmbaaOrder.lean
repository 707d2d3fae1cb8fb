/- The law VectorOrder: it answers true, whatever the three vectors; and the claim. -/
import Derived.Test.YthlidkmalfjmbaaAwk
import Derived.Test.YthlidkmalfjmbaaLift
namespace Go.Proofs.Ythlidkmalfjmbaa
open Go.ChangeShapes Go.WideShapes Go.ChangeAt Go.RowKit

theorem cmp3_neg (x y z a b c : Int) : cmp3 a b c x y z = - cmp3 x y z a b c := by unfold cmp3 cmpI; (repeat' split) <;> omega
theorem cmp3_bd (x y z a b c : Int) : -1 ≤ cmp3 x y z a b c ∧ cmp3 x y z a b c ≤ 1 := by unfold cmp3 cmpI; (repeat' split) <;> omega
theorem cmp3_zero (x y z a b c : Int) : cmp3 x y z a b c = 0 ↔ (x = a ∧ y = b ∧ z = c) := by unfold cmp3 cmpI; (repeat' split) <;> omega
theorem cmp3_pos (x y z a b c : Int) : cmp3 x y z a b c > 0 ↔ (a < x ∨ a = x ∧ (b < y ∨ b = y ∧ c < z)) := by unfold cmp3 cmpI; (repeat' split) <;> omega
theorem cmp3_lt (x y z a b c : Int) : cmp3 x y z a b c < 0 ↔ (x < a ∨ x = a ∧ (y < b ∨ y = b ∧ z < c)) := by unfold cmp3 cmpI; (repeat' split) <;> omega
theorem cmp3_le (x y z a b c : Int) : cmp3 x y z a b c ≤ 0 ↔ (x < a ∨ x = a ∧ (y < b ∨ y = b ∧ z ≤ c)) := by unfold cmp3 cmpI; (repeat' split) <;> omega
theorem cmp3_trans (x y z a b c p q r : Int) : cmp3 x y z a b c > 0 ∨ cmp3 a b c p q r > 0 ∨ (cmp3 x y z p q r ≤ 0 ∧ (cmp3 x y z p q r < 0 ∨ (cmp3 x y z a b c = 0 ∧ cmp3 a b c p q r = 0))) := by
  simp only [cmp3_pos, cmp3_lt, cmp3_zero, cmp3_le]
  omega
/-- three boxed vectors -/
def KV3 (x y z a b c p q r : Int) (w W : World) : Prop := KL [(w.heap.size, 23, #[.int .i64 x, .int .i64 y, .int .i64 z]), (w.heap.size + 1, 23, #[.int .i64 a, .int .i64 b, .int .i64 c]), (w.heap.size + 2, 23, #[.int .i64 p, .int .i64 q, .int .i64 r])] w W
section
variable {x y z a b c p q r : Int} {w W W' : World}
theorem KV3.over (h : KV3 x y z a b c p q r w W) (hb : Below W.heap.size W W') : KV3 x y z a b c p q r w W' := KL.over h hb
theorem KV3.drew (h : KV3 x y z a b c p q r w W) : KV3 x y z a b c p q r w W.drew := KL.drew h
theorem KV3.alloc (h : KV3 x y z a b c p q r w W) (o : Obj) : KV3 x y z a b c p q r w (W.alloc o) := KL.alloc h o
theorem KV3.all (h : KV3 x y z a b c p q r w W) : KV3 x y z a b c p q r w W ∧ w.heap.size + 2 < W.heap.size ∧
    (W.cell? ⟨w.heap.size, 0, none⟩ = some (.int .i64 x) ∧ W.cell? ⟨w.heap.size, 1, none⟩ = some (.int .i64 y) ∧ W.cell? ⟨w.heap.size, 2, none⟩ = some (.int .i64 z)) ∧
    (W.cell? ⟨w.heap.size + 1, 0, none⟩ = some (.int .i64 a) ∧ W.cell? ⟨w.heap.size + 1, 1, none⟩ = some (.int .i64 b) ∧ W.cell? ⟨w.heap.size + 1, 2, none⟩ = some (.int .i64 c)) ∧
    W.cell? ⟨w.heap.size + 1 + 1, 0, none⟩ = some (.int .i64 p) ∧ W.cell? ⟨w.heap.size + 1 + 1, 1, none⟩ = some (.int .i64 q) ∧ W.cell? ⟨w.heap.size + 1 + 1, 2, none⟩ = some (.int .i64 r) := by
  obtain ⟨a1, a2, a3⟩ := blk3 (KL.blk h (.head _))
  obtain ⟨b1, b2, b3⟩ := blk3 (KL.blk h (.tail _ (.head _)))
  obtain ⟨c1, c2, c3⟩ := blk3 (KL.blk h (.tail _ (.tail _ (.head _))))
  exact ⟨h, KL.size h (.tail _ (.tail _ (.head _))), ⟨a1, a2, a3⟩, ⟨b1, b2, b3⟩, c1, c2, c3⟩
theorem KV3.start : KV3 x y z a b c p q r w (((w.alloc (.cells #[.int .i64 x, .int .i64 y, .int .i64 z] 23)).alloc (.cells #[.int .i64 a, .int .i64 b, .int .i64 c] 23)).alloc (.cells #[.int .i64 p, .int .i64 q, .int .i64 r] 23)) :=
  ⟨(((Below.refl _ _).alloc (Nat.le_refl _) _).alloc (by simp) _).alloc (by simp <;> omega) _, by
    intro p hp
    simp only [List.mem_cons, List.not_mem_nil, or_false] at hp
    rcases hp with rfl | rfl | rfl
    · exact ((Blk.new2 rfl).alloc _).alloc _
    · exact (Blk.new2 (by simp)).alloc _
    · exact Blk.new2 (by simp)⟩
end
set_option maxHeartbeats 4000000 in
theorem vectorOrder_any (x y z a b c p q r : Int) (w : World) :
    Calls Try.prog 9 #[.agg #[.int .i64 x, .int .i64 y, .int .i64 z], .agg #[.int .i64 a, .int .i64 b, .int .i64 c], .agg #[.int .i64 p, .int .i64 q, .int .i64 r]] w fun e w' => e = .returned (.bool true) ∧ Below w.heap.size w w' := by
  have q1 : ∀ W, KV3 x y z a b c p q r w W → Calls Try.prog 17 #[.agg #[.int .i64 x, .int .i64 y, .int .i64 z], .agg #[.int .i64 a, .int .i64 b, .int .i64 c]] W _ := keepsKL (compare_any x y z a b c)
  have q2 : ∀ W, KV3 x y z a b c p q r w W → Calls Try.prog 17 #[.agg #[.int .i64 a, .int .i64 b, .int .i64 c], .agg #[.int .i64 p, .int .i64 q, .int .i64 r]] W _ := keepsKL (compare_any a b c p q r)
  have q3 : ∀ W, KV3 x y z a b c p q r w W → Calls Try.prog 17 #[.agg #[.int .i64 x, .int .i64 y, .int .i64 z], .agg #[.int .i64 p, .int .i64 q, .int .i64 r]] W _ := keepsKL (compare_any x y z p q r)
  have q4 := compare_any a b c x y z
  rw [cmp3_neg] at q4
  have hq := eqV x y z a b c
  have hz : (x == a && (y == b && z == c)) = decide (cmp3 x y z a b c = 0) := by
    rw [Bool.eq_iff_iff]; simp [cmp3_zero]
  rw [hz] at hq
  have hbd := cmp3_bd x y z a b c
  have ht := cmp3_trans x y z a b c p q r
  clear hz
  generalize cmp3 x y z a b c = m at q1 q4 hq hbd ht
  generalize cmp3 a b c p q r = n at q2 ht
  generalize cmp3 x y z p q r = o at q3 ht
  have HT := Lib.hid ht
  clear ht
  go_enter Try.func9, Try.ntmps9
  go_upto_region 3 with (go_at_call 12; refine (awake_any _).mono ?_; rintro e w0 ⟨rfl, hb0⟩)
  have hk0 : KV3 x y z a b c p q r w w0 := KV3.start.over hb0
  have hka := hk0.all
  clear hb0
  go_region_held3 (fun W => KV3 x y z a b c p q r w W ∧ w.heap.size + 2 < W.heap.size ∧
    (W.cell? ⟨w.heap.size, 0, none⟩ = some (.int .i64 x) ∧ W.cell? ⟨w.heap.size, 1, none⟩ = some (.int .i64 y) ∧ W.cell? ⟨w.heap.size, 2, none⟩ = some (.int .i64 z)) ∧
    (W.cell? ⟨w.heap.size + 1, 0, none⟩ = some (.int .i64 a) ∧ W.cell? ⟨w.heap.size + 1, 1, none⟩ = some (.int .i64 b) ∧ W.cell? ⟨w.heap.size + 1, 2, none⟩ = some (.int .i64 c)) ∧
    W.cell? ⟨w.heap.size + 1 + 1, 0, none⟩ = some (.int .i64 p) ∧ W.cell? ⟨w.heap.size + 1 + 1, 1, none⟩ = some (.int .i64 q) ∧ W.cell? ⟨w.heap.size + 1 + 1, 2, none⟩ = some (.int .i64 r))
    (first | exact hka | exact KV3.all ‹_› | exact (KV3.drew ‹_›).all)
    (first
      | (revert hb2; intro hb2; go_at_call 17; refine (q3 _ ?_).mono ?_; (first | assumption | exact And.left ‹_›); rintro e w3 ⟨rfl, hk3, hb3⟩)
      | (revert hb1; intro hb1; go_at_call 17; refine (q2 _ ?_).mono ?_; (first | assumption | exact And.left ‹_›); rintro e w2 ⟨rfl, hk2, hb2⟩)
      | (go_at_call 17; refine (q1 _ ?_).mono ?_; (first | assumption | exact And.left ‹_›); rintro e w1 ⟨rfl, hk1, hb1⟩))
  all_goals
    obtain ⟨_, hs3, ⟨p1, p2, p3⟩, ⟨p4, p5, p6⟩, p7, p8, p9⟩ := KV3.all hk3
    have y30 : w.heap.size < w3.heap.size := by omega
    have y31 : w.heap.size + 1 < w3.heap.size := by omega
    go_wp2_with (go_at_call 17; refine (q4 _).mono ?_; rintro e w4 ⟨rfl, hb4⟩; obtain ⟨hc4, hf4⟩ := bcell hb4)
  all_goals
    go_ret
    refine ⟨ret_bool ?_, KL.over hk3 hb4 |>.1⟩
    have := HT.out
    simp_all <;> omega

set_option maxHeartbeats 800000 in
set_option maxRecDepth 100000 in
theorem vectorOrder_lifted (os : Os) (started : os.Started) (H : Type) (enc : TypeId × Value → H) :
    ReturnsInHanded {} Try.checked os 9 .any (Rows.vectorOrderSpec.pre6 enc Try.prog Try.f9 Rows.vectorOrderRow.domain false) (Rows.vectorOrderSpec.post enc Try.prog Try.f9 false true false false) := by
  refine returnsInHanded_of_change (C := Try.checked) Try.own started (by kernel_rfl) Try.func9
    (ChangeSpec.witness6 (enc := enc) (C := Try.checked) false ⟨#[], #[.agg #[.int .i64 0, .int .i64 0, .int .i64 0], .agg #[.int .i64 0, .int .i64 0, .int .i64 0], .agg #[.int .i64 0, .int .i64 0, .int .i64 0]], []⟩ 8 (by kernel_rfl) (by kernel_rfl) (by kernel_rfl) (by kernel_rfl)) ?_
  intro W base args ds gs before hval0 hW _ _
  have hval : ∀ (j : Nat) t v, Try.f9.params[j]? = some t → args[j]? = some v → Value.okWide Try.prog W .any base t v := hval0
  have hW' := hW
  obtain ⟨p, q, hA0, hV, rfl, _, _⟩ := hW
  have hA : DataW.TrodAll enc Try.prog W 0 (fun _ => true) true Try.f9.params.toList args.toList ds p := hA0
  rw [Try.params9] at hA hval
  obtain ⟨v0, v1, v2, d0, d1, d2, p0, p1, p2, rfl, rfl, rfl, h0, h1, h2⟩ := trodAll_three hA
  obtain ⟨rfl, rfl⟩ := trodVars_none hV
  clear hA0 hval0
  simp only [List.append_nil] at hW'
  have harg0 : ∀ W' : World, Below W.heap.size W W' → DataW.Trod enc Try.prog W' 0 (fun b => decide (b < W.heap.size)) true 23 v0 d0 p0 :=
    fun W' hn => Below.trod Try.laidOut (by kernel_rfl) (of_decide_eq_true (by kernel_rfl)) h0 hn (fun y hy => by simpa using hW'.lt y (by simp [hy]))
  have harg1 : ∀ W' : World, Below W.heap.size W W' → DataW.Trod enc Try.prog W' 0 (fun b => decide (b < W.heap.size)) true 23 v1 d1 p1 :=
    fun W' hn => Below.trod Try.laidOut (by kernel_rfl) (of_decide_eq_true (by kernel_rfl)) h1 hn (fun y hy => by simpa using hW'.lt y (by simp [hy]))
  have harg2 : ∀ W' : World, Below W.heap.size W W' → DataW.Trod enc Try.prog W' 0 (fun b => decide (b < W.heap.size)) true 23 v2 d2 p2 :=
    fun W' hn => Below.trod Try.laidOut (by kernel_rfl) (of_decide_eq_true (by kernel_rfl)) h2 hn (fun y hy => by simpa using hW'.lt y (by simp [hy]))
  obtain ⟨x, y, z, rfl⟩ := open_vec (hval 0 23 v0 rfl rfl) h0
  obtain ⟨a, b, c, rfl⟩ := open_vec (hval 1 23 v1 rfl rfl) h1
  obtain ⟨p, q, r, rfl⟩ := open_vec (hval 2 23 v2 rfl rfl) h2
  refine (vectorOrder_any x y z a b c p q r W).mono fun e W' ⟨he, hn⟩ => ?_
  subst he
  exact ⟨_, rfl, _, _, _, [], _, [], hW', trodAll_mk1 (shut_bool Try.underlying4 _), trodAll_mk3 (harg0 _ hn) (harg1 _ hn) (harg2 _ hn), (List.append_nil _).symm, hn.frame _, fun h => by cases h⟩

theorem vectorOrder_holds : Rows.VectorOrderSaid :=
  OpenClaim.holds_of_wide 9 Try.f9 rfl rfl rfl rfl rfl rfl rfl ⟨rfl, rfl, rfl, rfl, rfl⟩ rfl rfl rfl rfl rfl (by kernel_rfl) Try.func9 (by kernel_rfl)
    (of_decide_eq_true (by kernel_rfl)) (by unfold Func.isWrapper; first | (rw [if_pos (by decide +kernel)]; kernel_rfl) | (rw [if_neg (by decide +kernel)]; exact ⟨rfl, rfl⟩))
    (fun os started H enc _ => vectorOrder_lifted os started H enc)
end Go.Proofs.Ythlidkmalfjmbaa
