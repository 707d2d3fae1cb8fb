/- The walk of the law SpanChecks: it answers true, whatever the two intervals and the number; and the law. -/
import Derived.Test.YtnpdmohclajmjaaSumsW
import Derived.Test.YtnpdmohclajmjaaLift
import Derived.Deep.RegionHeld3
import Derived.Deep.DeepCutAuto
namespace Go.Proofs.Ytnpdmohclajmjaa
open Go.ChangeShapes Go.WideShapes Go.ChangeAt Go.RowKit

/-- what the law's region keeps: the two boxed intervals, and all that lay before the call -/
def Kept (x y : Int × Int) (w W : World) : Prop := Blk W w.heap.size 23 #[.int .i64 x.1, .int .i64 x.2] ∧ Blk W (w.heap.size + 1) 23 #[.int .i64 y.1, .int .i64 y.2] ∧ Below w.heap.size w W
def KeptAll (x y : Int × Int) (w W : World) : Prop := Kept x y w W ∧ W.cell? ⟨w.heap.size, 0, none⟩ = some (.int .i64 x.1) ∧ W.cell? ⟨w.heap.size, 1, none⟩ = some (.int .i64 x.2) ∧
  W.cell? ⟨w.heap.size + 1, 0, none⟩ = some (.int .i64 y.1) ∧ W.cell? ⟨w.heap.size + 1, 1, none⟩ = some (.int .i64 y.2)
theorem Kept.all {x y : Int × Int} {w W : World} (h : Kept x y w W) : Kept x y w W ∧ W.cell? ⟨w.heap.size, 0, none⟩ = some (.int .i64 x.1) ∧ W.cell? ⟨w.heap.size, 1, none⟩ = some (.int .i64 x.2) ∧
    W.cell? ⟨w.heap.size + 1, 0, none⟩ = some (.int .i64 y.1) ∧ W.cell? ⟨w.heap.size + 1, 1, none⟩ = some (.int .i64 y.2) := by
  obtain ⟨a, b, _, _⟩ := blk_facts h.1
  obtain ⟨c, d, _, _⟩ := blk_facts h.2.1
  exact ⟨h, a, b, c, d⟩
theorem Kept.over {x y : Int × Int} {w W W' : World} (h : Kept x y w W) (hb : Below W.heap.size W W') : Kept x y w W' :=
  ⟨h.1.below hb h.1.lt, h.2.1.below hb h.2.1.lt, h.2.2.trans (bmono hb h.2.2.size)⟩
theorem Kept.drew {x y : Int × Int} {w W : World} (h : Kept x y w W) : Kept x y w W.drew := ⟨h.1, h.2.1, h.2.2.drew⟩
theorem keeps {f : FuncId} {args : Array Value} {v : Value} {x y : Int × Int} {w : World} (h : ∀ W, Calls Try.prog f args W fun e w' => e = .returned v ∧ Below W.heap.size W w') :
    ∀ W, Kept x y w W → Calls Try.prog f args W fun e w' => e = .returned v ∧ Kept x y w w' :=
  fun W hk => (h W).mono fun _ _ ⟨he, hb⟩ => ⟨he, hk.over hb⟩

set_option maxHeartbeats 4000000 in
theorem spanChecks_any (x y : Int × Int) (n : Int) (w : World) :
    Calls Try.prog 3 #[.agg #[.int .i64 x.1, .int .i64 x.2], .agg #[.int .i64 y.1, .int .i64 y.2], .int .i64 n] w fun e w' => e = .returned (.bool true) ∧ Below w.heap.size w w' := by
  have q1 := keeps (x := x) (y := y) (w := w) (check_any x)
  have q2 := keeps (x := x) (y := y) (w := w) (refCheck_any x)
  have q3 := keeps (x := x) (y := y) (w := w) (contains_any x n)
  have q4 := keeps (x := x) (y := y) (w := w) (refContains_any x n)
  have q5 := keeps (x := x) (y := y) (w := w) (within_any x y)
  have q6 := keeps (x := x) (y := y) (w := w) (refWithin_any x y)
  have q7 := keeps (x := x) (y := y) (w := w) (length_any x)
  have q8 := keeps (x := x) (y := y) (w := w) (refLength_any x)
  generalize errOf [x] = r1 at q1 q2
  generalize contS x n = r2 at q3 q4
  generalize withS x y = r3 at q5 q6
  generalize lenS x = r4 at q7 q8
  go_enter Try.func3, Try.ntmps3
  go_wp2_with (go_at_call 10; refine (awake_any _).mono ?_; rintro e w0 ⟨rfl, hb0⟩
               have hk0 : Kept x y w w0 := ⟨(((Blk.new w 23 #[.int .i64 x.1, .int .i64 x.2]).alloc _).below hb0 (by simp <;> omega)), (by have h := (Blk.new (w.alloc (.cells #[.int .i64 x.1, .int .i64 x.2] 23)) 23 #[.int .i64 y.1, .int .i64 y.2]).below hb0 (by simp); simpa using h), (((Below.refl _ _).alloc (Nat.le_refl _) _).alloc (by simp) _).trans (bmono hb0 (by simp <;> omega))⟩)
  have hka := hk0.all
  clear hb0
  go_region_held3 (fun W => Kept x y w W ∧ W.cell? ⟨w.heap.size, 0, none⟩ = some (.int .i64 x.1) ∧ W.cell? ⟨w.heap.size, 1, none⟩ = some (.int .i64 x.2) ∧
      W.cell? ⟨w.heap.size + 1, 0, none⟩ = some (.int .i64 y.1) ∧ W.cell? ⟨w.heap.size + 1, 1, none⟩ = some (.int .i64 y.2))
    (first | exact hka | exact Kept.all ‹_› | exact (Kept.drew ‹_›).all)
    (first
      | (go_at_call 11; refine (q1 _ ?_).mono ?_; (first | assumption | exact And.left ‹_›); rintro e W1 ⟨rfl, hk1⟩)
      | (go_at_call 12; refine (q2 _ ?_).mono ?_; (first | assumption | exact And.left ‹_›); rintro e W1 ⟨rfl, hk1⟩)
      | (go_at_call 13; refine (q3 _ ?_).mono ?_; (first | assumption | exact And.left ‹_›); rintro e W1 ⟨rfl, hk1⟩)
      | (go_at_call 14; refine (q4 _ ?_).mono ?_; (first | assumption | exact And.left ‹_›); rintro e W1 ⟨rfl, hk1⟩)
      | (go_at_call 15; refine (q5 _ ?_).mono ?_; (first | assumption | exact And.left ‹_›); rintro e W1 ⟨rfl, hk1⟩)
      | (go_at_call 16; refine (q6 _ ?_).mono ?_; (first | assumption | exact And.left ‹_›); rintro e W1 ⟨rfl, hk1⟩)
      | (go_at_call 17; refine (q7 _ ?_).mono ?_; (first | assumption | exact And.left ‹_›); rintro e W1 ⟨rfl, hk1⟩)
      | (go_at_call 18; refine (q8 _ ?_).mono ?_; (first | assumption | exact And.left ‹_›); rintro e W1 ⟨rfl, hk1⟩))
  all_goals go_wp2
  all_goals go_ret
  all_goals
    refine ⟨rfl, ?_⟩
    first | exact (‹Kept x y w _›).2.2 | exact (And.left (b := _) ‹Kept x y w _ ∧ _›).2.2

set_option maxHeartbeats 800000 in
set_option maxRecDepth 100000 in
theorem spanChecks_lifted (os : Os) (started : os.Started) (H : Type) (enc : TypeId × Value → H) :
    ReturnsInHanded {} Try.checked os 3 .any (Rows.spanChecksSpec.pre6 enc Try.prog Try.f3 Rows.spanChecksRow.domain false) (Rows.spanChecksSpec.post enc Try.prog Try.f3 false true false false) := by
  refine returnsInHanded_of_change (C := Try.checked) Try.own started (by kernel_rfl) Try.func3
    (ChangeSpec.witness6 (enc := enc) (C := Try.checked) false ⟨#[], #[.agg #[.int .i64 0, .int .i64 0], .agg #[.int .i64 0, .int .i64 0], .int .i64 0], []⟩ 8 (by kernel_rfl) (by kernel_rfl) (by kernel_rfl) (by kernel_rfl)) ?_
  intro W base args ds gs before hval0 hW _ _
  have hval : ∀ (j : Nat) t v, Try.f3.params[j]? = some t → args[j]? = some v → Value.okWide Try.prog W .any base t v := hval0
  have hW' := hW
  obtain ⟨p, q, hA0, hV, rfl, _, _⟩ := hW
  have hA : DataW.TrodAll enc Try.prog W 0 (fun _ => true) true Try.f3.params.toList args.toList ds p := hA0
  rw [Try.params3] at hA hval
  obtain ⟨v0, v1, v2, d0, d1, d2, p0, p1, p2, rfl, rfl, rfl, h0, h1, h2⟩ := trodAll_three hA
  obtain ⟨rfl, rfl⟩ := trodVars_none hV
  clear hA0 hval0
  simp only [List.append_nil] at hW'
  have harg0 : ∀ W' : World, Below W.heap.size W W' → DataW.Trod enc Try.prog W' 0 (fun b => decide (b < W.heap.size)) true 23 v0 d0 p0 :=
    fun W' hn => Below.trod Try.laidOut (by kernel_rfl) (of_decide_eq_true (by kernel_rfl)) h0 hn (fun y hy => by simpa using hW'.lt y (by simp [hy]))
  have harg1 : ∀ W' : World, Below W.heap.size W W' → DataW.Trod enc Try.prog W' 0 (fun b => decide (b < W.heap.size)) true 23 v1 d1 p1 :=
    fun W' hn => Below.trod Try.laidOut (by kernel_rfl) (of_decide_eq_true (by kernel_rfl)) h1 hn (fun y hy => by simpa using hW'.lt y (by simp [hy]))
  have harg2 : ∀ W' : World, Below W.heap.size W W' → DataW.Trod enc Try.prog W' 0 (fun b => decide (b < W.heap.size)) true 3 v2 d2 p2 :=
    fun W' hn => Below.trod Try.laidOut (by kernel_rfl) (of_decide_eq_true (by kernel_rfl)) h2 hn (fun y hy => by simpa using hW'.lt y (by simp [hy]))
  obtain ⟨x, rfl⟩ := open_iv (hval 0 23 v0 rfl rfl) h0
  obtain ⟨y, rfl⟩ := open_iv (hval 1 23 v1 rfl rfl) h1
  obtain ⟨n, rfl, _, _, _⟩ := open_int Try.underlying3 (hval 2 3 v2 rfl rfl) h2
  refine (spanChecks_any x y n W).mono fun e W' ⟨he, hn⟩ => ?_
  subst he
  exact ⟨_, rfl, _, _, _, [], _, [], hW', trodAll_mk1 (shut_bool Try.underlying4 _), trodAll_mk3 (harg0 _ hn) (harg1 _ hn) (harg2 _ hn), (List.append_nil _).symm, hn.frame _, fun h => by cases h⟩

theorem spanChecks_holds : Rows.SpanChecksSaid :=
  OpenClaim.holds_of_wide 3 Try.f3 rfl rfl rfl rfl rfl rfl rfl ⟨rfl, rfl, rfl, rfl, rfl⟩ rfl rfl rfl rfl rfl (by kernel_rfl) Try.func3 (by kernel_rfl)
    (of_decide_eq_true (by kernel_rfl)) (by unfold Func.isWrapper; first | (rw [if_pos (by decide +kernel)]; kernel_rfl) | (rw [if_neg (by decide +kernel)]; exact ⟨rfl, rfl⟩))
    (fun os started H enc _ => spanChecks_lifted os started H enc)
end Go.Proofs.Ytnpdmohclajmjaa
