/- The way from an argument of the kinds api.Half and api.Box to its numbers. No condition. -/
import Derived.Test.YtogmgaaejepcbaaLift
namespace Go.Proofs.Ytogmgaaejepcbaa
open Go.ChangeShapes Go.WideShapes Go.ChangeAt Go.RowKit Go.Deep

section
variable {H : Type} {enc : TypeId × Value → H} {w : World}
set_option maxRecDepth 100000 in
theorem trod_vec {n : Nat} {c0 c1 c2 : Value} {y : DataW H × List MemPlace} (h : DataW.trod enc Try.prog w 0 (fun _ => true) true n 23 [c0, c1, c2] = some y) : ∃ a b c : Int, c0 = .int .i64 a ∧ c1 = .int .i64 b ∧ c2 = .int .i64 c := by
  have hC : Try.prog.cellsOf 3 = 1 := by kernel_rfl
  obtain ⟨xs, n', _, _, _, hlen, hg⟩ := DataW.trod_struct Try.underlying23 h
  match xs, hlen with
  | [y0, y1, y2], _ =>
    have h0 : DataW.trod enc Try.prog w 0 (fun _ => true) true n' 3 [c0] = some y0 := by
      have this : DataW.trod enc Try.prog w 0 (fun _ => true) true n' 3 (([c0, c1, c2].drop 0).take (Try.prog.cellsOf 3)) = some y0 := hg 0 _ rfl
      rw [hC] at this
      exact this
    have h1 : DataW.trod enc Try.prog w 0 (fun _ => true) true n' 3 [c1] = some y1 := by
      have this : DataW.trod enc Try.prog w 0 (fun _ => true) true n' 3 (([c0, c1, c2].drop 1).take (Try.prog.cellsOf 3)) = some y1 := hg 1 _ rfl
      rw [hC] at this
      exact this
    have h2 : DataW.trod enc Try.prog w 0 (fun _ => true) true n' 3 [c2] = some y2 := by
      have this : DataW.trod enc Try.prog w 0 (fun _ => true) true n' 3 (([c0, c1, c2].drop 2).take (Try.prog.cellsOf 3)) = some y2 := hg 2 _ rfl
      rw [hC] at this
      exact this
    obtain ⟨k0, e0, _, _⟩ := DataW.trod_int Try.underlying3 h0
    obtain ⟨k1, e1, _, _⟩ := DataW.trod_int Try.underlying3 h1
    obtain ⟨k2, e2, _, _⟩ := DataW.trod_int Try.underlying3 h2
    injection e0 with e0; injection e1 with e1; injection e2 with e2
    exact ⟨k0, k1, k2, e0, e1, e2⟩
set_option maxRecDepth 100000 in
theorem open_box {b0 : Nat} {v : Value} {d : DataW H} {ps : List MemPlace} (hv : Value.okWide Try.prog w .any b0 25 v) (h : DataW.Trod enc Try.prog w 0 (fun _ => true) true 25 v d ps) :
    ∃ x y z p q r : Int, v = .agg #[.int .i64 x, .int .i64 y, .int .i64 z, .int .i64 p, .int .i64 q, .int .i64 r] := by
  obtain ⟨cs, rfl, hsz⟩ := okWide_struct Try.underlying25 hv
  obtain ⟨l⟩ := cs
  have hC : Try.prog.cellsOf 25 = 6 := by kernel_rfl
  match l, hsz.trans hC with
  | [c0, c1, c2, c3, c4, c5], _ =>
    obtain ⟨fuel, hf⟩ := h
    have hC3 : Try.prog.cellsOf 23 = 3 := by kernel_rfl
    obtain ⟨xs, n, _, _, _, hlen, hg⟩ := DataW.trod_struct Try.underlying25 hf
    match xs, hlen with
    | [y0, y1], _ =>
      have h0 : DataW.trod enc Try.prog w 0 (fun _ => true) true n 23 [c0, c1, c2] = some y0 := by
        have this : DataW.trod enc Try.prog w 0 (fun _ => true) true n 23 (([c0, c1, c2, c3, c4, c5].drop 0).take (Try.prog.cellsOf 23)) = some y0 := hg 0 _ rfl
        rw [hC3] at this
        exact this
      have h1 : DataW.trod enc Try.prog w 0 (fun _ => true) true n 23 [c3, c4, c5] = some y1 := by
        have this : DataW.trod enc Try.prog w 0 (fun _ => true) true n 23 (([c0, c1, c2, c3, c4, c5].drop 3).take (Try.prog.cellsOf 23)) = some y1 := hg 1 _ rfl
        rw [hC3] at this
        exact this
      obtain ⟨a, b, c, rfl, rfl, rfl⟩ := trod_vec h0
      obtain ⟨a', b', c', rfl, rfl, rfl⟩ := trod_vec h1
      exact ⟨a, b, c, a', b', c', rfl⟩
end
end Go.Proofs.Ytogmgaaejepcbaa
