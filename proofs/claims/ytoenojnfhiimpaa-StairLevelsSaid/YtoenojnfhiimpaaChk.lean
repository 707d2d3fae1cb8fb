/- The walks of the checks of rules and flights. No condition. -/
import Derived.Test.YtoenojnfhiimpaaNum
import Derived.WalkSpells
import Derived.WalkLawsBesides
import Derived.Deep.QuietTactic
import Derived.BigQuiet
import Derived.Laws.StructEq
namespace Go.Proofs.Ytoenojnfhiimpaa
open Go.RowKit

set_option maxHeartbeats 4000000 in
set_option maxRecDepth 100000 in
theorem check_any (a b c d p q : Int) (w : World) :
    Calls Try.prog 12 #[.agg #[.int .i64 a, .int .i64 b, .int .i64 c, .int .i64 d, .int .i64 p, .int .i64 q]] w fun e w' => e = .returned (.int .i64 (chkE a b c d p q)) ∧ Below w.heap.size w w' := by
  go_enter Try.func12, Try.ntmps12
  go_wp2_with (go_at_call 31; refine (isOutside_any _ _ _ _).mono ?_; rintro e w1 ⟨rfl, hb1⟩; obtain ⟨hc1, hf1⟩ := bcell hb1; have hz1 := hb1.size; (try simp at hz1); (try have y10 : w.heap.size < w1.heap.size := by omega); (try have y11 : w.heap.size + 1 < w1.heap.size := by omega); (try have y12 : w.heap.size + 1 + 1 < w1.heap.size := by omega))
  all_goals (
    go_ret
    refine ⟨ret_int ?_, ?_⟩
    · unfold chkE; simp_all <;> omega
    · ((repeat (first | with_reducible exact Below.refl _ _ | with_reducible refine Below.setCell ?_ ?_ _ | with_reducible refine Below.alloc ?_ ?_ _ | with_reducible refine Below.drew ?_ | with_reducible refine below_drewN ?_ _ | (refine Below.trans ?_ (bmono (by assumption) ?_)))); all_goals (first | omega | (simp <;> omega))))
def orI (a b : Int) : Int := if a = 0 then b else a
theorem orI_z {a b : Int} (h : a = 0) : orI a b = b := if_pos h
theorem orI_n {a b : Int} (h : ¬ a = 0) : orI a b = a := if_neg h
set_option maxHeartbeats 4000000 in
set_option maxRecDepth 100000 in
theorem cmpOr_any (g : Nat) (t : TypeId) (a b : Int) (w : World) (hb : Blk w g t #[.int .i64 a, .int .i64 b]) :
    Calls Try.prog 33 #[.slice (some ⟨g, 0, none⟩) 2 2] w fun e w' => e = .returned (.int .i64 (orI a b)) ∧ w = w' := by
  obtain ⟨y0, y1, y2⟩ := bl2 hb
  unfold orI
  go_enter Try.func33, Try.ntmps33
  go_wp2
  go_loopw [8] (fun i W => (i = .int .i64 0 ∨ i = .int .i64 1 ∧ a = 0 ∨ i = .int .i64 2 ∧ a = 0 ∧ b = 0) ∧ W = w) (fun i _ => 2 - (intOf i).toNat)
  case atStart => exact ⟨.inl rfl, rfl⟩
  case round =>
    obtain ⟨hrel, rfl⟩ := hrel
    rcases hrel with rfl | ⟨rfl, rfl⟩ | ⟨rfl, rfl, rfl⟩
    · by_cases ha : a = 0
      · subst ha
        go_wp2
        go_roundw
        case rel => simp
        case measure => simp [intOf]
      · have ha' : (a == 0) = false := by simpa using ha
        go_wp2
        go_ret
        exact ⟨by first | rfl | simp [ha], rfl⟩
    · by_cases hb0 : b = 0
      · subst hb0
        go_wp2
        go_roundw
        case rel => simp
        case measure => simp [intOf]
      · have ha' : (b == 0) = false := by simpa using hb0
        go_wp2
        go_ret
        exact ⟨rfl, rfl⟩
    · go_wp2
      go_ret
      exact ⟨rfl, rfl⟩
end Go.Proofs.Ytoenojnfhiimpaa
