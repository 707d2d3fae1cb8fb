/- The walk of the reference's Same at two rows of the same stones. -/
import Derived.Test.YtoenojnfhiimpaaSto
import Derived.Test.YtoenojnfhiimpaaEqs
namespace Go.Proofs.Ytoenojnfhiimpaa
open Go.RowKit

/-- the row of the stones of a flight -/
def RowS (W : World) (k n : Nat) (r x g wd l : Int) : Prop := k < W.heap.size ∧ ∀ j : Nat, j < n → C6 W k (j * 6) ((j : Int) * g) 0 (lvl r x j) (((j : Int) + 1) * g + l) wd (lvl r x (j + 1))
theorem RowS.over {W W' : World} {k n : Nat} {r x g wd l : Int} (h : RowS W k n r x g wd l) (hb : Below W.heap.size W W') : RowS W' k n r x g wd l :=
  ⟨Nat.lt_of_lt_of_le h.1 hb.size, fun j hj => (h.2 j hj).over hb⟩
theorem stn_len (r x g wd l : Int) (i : Nat) : (stn r x g wd l i).length = 6 := rfl
theorem RowS.of_own {W : World} {base n c : Nat} {A : Option Addr} {r x g wd l : Int} (hn : 1 ≤ n) (h : W.ownsRow base 66 6 (.slice A n c) n (rowTo (stn r x g wd l) n)) : ∃ k, A = some ⟨k, 0, none⟩ ∧ base ≤ k ∧ RowS W k n r x g wd l := by
  rcases h.2 with ⟨_, h0⟩ | ⟨k, cap, cur, hv, h1, h2, h3, h4, h5, h6⟩
  · omega
  · injection hv with e1 e2 e3
    have hb : Blk W k 66 cur := h2
    refine ⟨k, e1, h1, hb.lt, fun j hj => ?_⟩
    have hc : ∀ i, i < 6 → W.cell? ⟨k, j * 6 + i, none⟩ = (stn r x g wd l j)[i]? := fun i hi => by
      rw [hb.cell, cur_at h6 (by omega), rowTo_at (stn_len r x g wd l) hj hi]
    exact ⟨hb.lt, hc 0 (by omega), hc 1 (by omega), hc 2 (by omega), hc 3 (by omega), hc 4 (by omega), hc 5 (by omega)⟩
set_option maxHeartbeats 4000000 in
set_option maxRecDepth 100000 in
theorem same_any (ka kb n ca cb : Nat) (r x g wd l : Int) (w : World) (ha : RowS w ka n r x g wd l) (hb : RowS w kb n r x g wd l) (hn : n ≤ 64) :
    Calls Try.prog 24 #[.slice (some ⟨ka, 0, none⟩) n ca, .slice (some ⟨kb, 0, none⟩) n cb] w fun e w' => e = .returned (.bool true) ∧ Below w.heap.size w w' := by
  go_enter Try.func24, Try.ntmps24
  go_wp2
  go_loopw [5] (fun i W => ∃ j : Nat, j ≤ n ∧ i = .int .i64 j ∧ Below w.heap.size w W) (fun i _ => n - (intOf i).toNat)
  case atStart => exact ⟨0, Nat.zero_le _, rfl, Below.refl _ _⟩
  case round =>
    obtain ⟨j, hj, rfl, hbw⟩ := hrel
    by_cases hlt : j < n
    · have hle : (j : Int) < (n : Int) := by omega
      have ha1 := (ha.over hbw).2 j hlt
      have hb1 := (hb.over hbw).2 j hlt
      generalize (j : Int) * g = e0 at ha1 hb1
      generalize ((j : Int) + 1) * g + l = e3 at ha1 hb1
      generalize lvl r x j = e2 at ha1 hb1
      generalize lvl r x (j + 1) = e5 at ha1 hb1
      have hF : ∀ w, Sem.run Try.prog (binOp .neq 66 (.agg #[.int .i64 e0, .int .i64 0, .int .i64 e2, .int .i64 e3, .int .i64 wd, .int .i64 e5]) (.agg #[.int .i64 e0, .int .i64 0, .int .i64 e2, .int .i64 e3, .int .i64 wd, .int .i64 e5])) w = .ok (.bool false) w := fun w => by rw [neB]; simp
      obtain ⟨p0, p1, p2, p3, p4, p5, p6⟩ := ha1
      obtain ⟨q0, q1, q2, q3, q4, q5, q6⟩ := hb1
      clear hj ha hb
      go_wp2
      go_region
      go_wp2
      go_roundw
      case rel => exact ⟨j + 1, by omega, by go_num, hbw.drew⟩
      case measure => simp [intOf]; omega
    · obtain rfl : j = n := by omega
      go_wp2
      go_ret
      exact ⟨rfl, hbw⟩
theorem RowS.of_blk {W : World} {k n : Nat} {cur : Array Value} {r x g wd l : Int} (hb : Blk W k 66 cur) (h6 : cur.toList.take (n * 6) = rowTo (stn r x g wd l) n) : RowS W k n r x g wd l := by
  refine ⟨hb.lt, fun j hj => ?_⟩
  have hc : ∀ i, i < 6 → W.cell? ⟨k, j * 6 + i, none⟩ = (stn r x g wd l j)[i]? := fun i hi => by
    rw [hb.cell, cur_at h6 (by omega), rowTo_at (stn_len r x g wd l) hj hi]
  exact ⟨hb.lt, hc 0 (by omega), hc 1 (by omega), hc 2 (by omega), hc 3 (by omega), hc 4 (by omega), hc 5 (by omega)⟩
theorem same_blk {ka kb n ca cb : Nat} {cura curb : Array Value} {r x g wd l : Int} {w : World} (h1 : Blk w ka 66 cura) (t1 : cura.toList.take (n * 6) = rowTo (stn r x g wd l) n) (h2 : Blk w kb 66 curb) (t2 : curb.toList.take (n * 6) = rowTo (stn r x g wd l) n) (hn : n ≤ 64) :
    Calls Try.prog 24 #[.slice (some ⟨ka, 0, none⟩) n ca, .slice (some ⟨kb, 0, none⟩) n cb] w fun e w' => e = .returned (.bool true) ∧ Below w.heap.size w w' := same_any ka kb n ca cb r x g wd l w (RowS.of_blk h1 t1) (RowS.of_blk h2 t2) hn
theorem own_blk {W : World} {base n c : Nat} {A : Option Addr} {xs : List Value} (hn : 1 ≤ n) (h : W.ownsRow base 66 6 (.slice A n c) n xs) : ∃ (k : Nat) (cur : Array Value), A = some ⟨k, 0, none⟩ ∧ base ≤ k ∧ Blk W k 66 cur ∧ cur.toList.take (n * 6) = xs := by
  rcases h.2 with ⟨_, h0⟩ | ⟨k, cap, cur, hv, h1, h2, h3, h4, h5, h6⟩
  · omega
  · injection hv with e1 e2 e3
    exact ⟨k, cur, e1, h1, h2, h6⟩
end Go.Proofs.Ytoenojnfhiimpaa
