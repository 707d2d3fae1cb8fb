/- The walks of the two divisors, of Primitive and of the reference's Primitive. No condition. -/
import Derived.Test.YthlidkmalfjmbaaOps
import Derived.Test.YthlidkmalfjmbaaCmp
namespace Go.Proofs.Ythlidkmalfjmbaa
open Go.RowKit

theorem gcd_step {a b : Nat} : Nat.gcd b (a % b) = Nat.gcd a b := by
  rw [Nat.gcd_comm b, ← Nat.gcd_rec, Nat.gcd_comm]
set_option maxHeartbeats 1000000 in
theorem divisor_any (a b : Nat) (ha : a ≤ 1000000000000) (hb : b ≤ 1000000000000) (w : World) :
    Calls Try.prog 44 #[.int .i64 a, .int .i64 b] w fun e w' => ∃ n, e = .returned (.int .i64 (Nat.gcd a b : Nat)) ∧ w' = w.drewN n := by
  go_enter Try.func44, Try.ntmps44
  go_wp2
  go_loopw [0, 1] (fun p q W => ∃ c d n : Nat, p = .int .i64 c ∧ q = .int .i64 d ∧ Nat.gcd c d = Nat.gcd a b ∧ c ≤ 1000000000000 ∧ d ≤ 1000000000000 ∧ W = w.drewN n) (fun _ q _ => (intOf q).toNat)
  case atStart => exact ⟨a, b, 0, rfl, rfl, rfl, ha, hb, rfl⟩
  case round =>
    obtain ⟨c, d, n, rfl, rfl, hg, hc, hd, rfl⟩ := hrel
    have HG := Lib.hid hg
    clear hg
    by_cases h0 : 0 < d
    · have h0' : (d : Int) ≠ 0 := by omega
      go_wp2
      go_region
      go_wp2
      go_roundw
      case rel => exact ⟨d, c % d, n + 1, rfl, by rw [Int.natCast_emod], gcd_step.trans HG.out, hd, by have := Nat.mod_lt c h0; omega, rfl⟩
      case measure =>
        have := Nat.mod_lt c h0
        rw [← Int.natCast_emod]
        simp only [intOf]
        omega
    · obtain rfl : d = 0 := by omega
      go_wp2
      go_ret
      have := HG.out
      rw [Nat.gcd_zero_right] at this
      exact ⟨n, by rw [this]; rfl, rfl⟩
set_option maxHeartbeats 1000000 in
theorem refDivisor_any (a b : Nat) (ha : a ≤ 1000000000000) (hb : b ≤ 1000000000000) (w : World) :
    Calls Try.prog 46 #[.int .i64 a, .int .i64 b] w fun e w' => ∃ n, e = .returned (.int .i64 (Nat.gcd a b : Nat)) ∧ w' = w.drewN n := by
  go_enter Try.func46, Try.ntmps46
  go_wp2
  go_loopw [0, 1] (fun p q W => ∃ c d n : Nat, p = .int .i64 c ∧ q = .int .i64 d ∧ Nat.gcd c d = Nat.gcd a b ∧ c ≤ 1000000000000 ∧ d ≤ 1000000000000 ∧ W = w.drewN n) (fun _ q _ => (intOf q).toNat)
  case atStart => exact ⟨a, b, 0, rfl, rfl, rfl, ha, hb, rfl⟩
  case round =>
    obtain ⟨c, d, n, rfl, rfl, hg, hc, hd, rfl⟩ := hrel
    have HG := Lib.hid hg
    clear hg
    by_cases h0 : 0 < d
    · have h0' : (d : Int) ≠ 0 := by omega
      go_wp2
      go_region
      go_wp2
      go_roundw
      case rel => exact ⟨d, c % d, n + 1, rfl, by rw [Int.natCast_emod], gcd_step.trans HG.out, hd, by have := Nat.mod_lt c h0; omega, rfl⟩
      case measure =>
        have := Nat.mod_lt c h0
        rw [← Int.natCast_emod]
        simp only [intOf]
        omega
    · obtain rfl : d = 0 := by omega
      go_wp2
      go_ret
      have := HG.out
      rw [Nat.gcd_zero_right] at this
      exact ⟨n, by rw [this]; rfl, rfl⟩

set_option maxHeartbeats 1000000 in
theorem abs_any (n : Int) (hn : inC n = true) (w : World) :
    Calls Try.prog 47 #[.int .i64 n] w fun e w' => e = .returned (.int .i64 (n.natAbs : Int)) ∧ w = w' := by
  have hb := inC_iff.1 hn
  clear hn
  go_enter Try.func47, Try.ntmps47
  go_wp2
  all_goals (go_ret; exact ⟨ret_int (by omega), rfl⟩)
theorem divisor_int (p q : Int) (hp : 0 ≤ p ∧ p ≤ 1000000000000) (hq : 0 ≤ q ∧ q ≤ 1000000000000) (w : World) :
    Calls Try.prog 44 #[.int .i64 p, .int .i64 q] w fun e w' => ∃ n, e = .returned (.int .i64 (Nat.gcd p.natAbs q.natAbs : Nat)) ∧ w' = w.drewN n := by
  have h := divisor_any p.natAbs q.natAbs (by omega) (by omega) w
  rw [show ((p.natAbs : Nat) : Int) = p by omega, show ((q.natAbs : Nat) : Int) = q by omega] at h
  exact h

theorem drewN_drewN (w : World) (a b : Nat) : (w.drewN a).drewN b = w.drewN (a + b) := by
  simp [World.drewN, Nat.add_assoc]
def gcd3 (x y z : Int) : Nat := Nat.gcd (Nat.gcd x.natAbs y.natAbs) z.natAbs
theorem gcd3_le {x y : Int} (hx : inC x = true) (hy : inC y = true) : Nat.gcd x.natAbs y.natAbs ≤ 1000000 := by
  have := inC_abs hx
  have := inC_abs hy
  rcases Nat.eq_zero_or_pos x.natAbs with h | h
  · rw [h, Nat.gcd_zero_left]; omega
  · have := Nat.gcd_le_left y.natAbs h; omega
set_option maxHeartbeats 2000000 in
theorem refPrim_any (x y z : Int) (hx : inC x = true) (hy : inC y = true) (hz : inC z = true) (h0 : gcd3 x y z ≠ 0) (w : World) :
    Calls Try.prog 28 #[.agg #[.int .i64 x, .int .i64 y, .int .i64 z]] w fun e w' => e = .returned (.tuple #[.agg #[.int .i64 (wrap64 (x.tdiv (gcd3 x y z))), .int .i64 (wrap64 (y.tdiv (gcd3 x y z))), .int .i64 (wrap64 (z.tdiv (gcd3 x y z)))], .int .i64 (gcd3 x y z)]) ∧ Below w.heap.size w w' := by
  have a1 := abs_any x hx
  have a2 := abs_any y hy
  have a3 := abs_any z hz
  have g1 := refDivisor_any x.natAbs y.natAbs (by have := inC_abs hx; omega) (by have := inC_abs hy; omega)
  have g2 := refDivisor_any (Nat.gcd x.natAbs y.natAbs) z.natAbs (by have := gcd3_le hx hy; omega) (by have := inC_abs hz; omega)
  have e3 : Nat.gcd (Nat.gcd x.natAbs y.natAbs) z.natAbs = gcd3 x y z := rfl
  rw [e3] at g2
  have hl : gcd3 x y z ≤ 1000000 := by
    have := gcd3_le hx hy
    have := inC_abs hz
    unfold gcd3
    rcases Nat.eq_zero_or_pos z.natAbs with h | h
    · rw [h, Nat.gcd_zero_right]; omega
    · have := Nat.gcd_le_right (Nat.gcd x.natAbs y.natAbs) h; omega
  clear e3
  generalize gcd3 x y z = f at g2 h0 hl ⊢
  generalize Nat.gcd x.natAbs y.natAbs = d at g1 g2
  generalize x.natAbs = p at a1 g1
  generalize y.natAbs = q at a2 g1
  generalize z.natAbs = r at a3 g2
  have h0' : (f : Int) ≠ 0 := by omega
  go_enter Try.func28, Try.ntmps28
  go_wp2
  go_quiet ((first
    | (go_at_call_of 47 x; exact (a1 _).mono fun _ _ h => ⟨h.1, _, h.2.symm⟩)
    | (go_at_call_of 47 y; exact (a2 _).mono fun _ _ h => ⟨h.1, _, h.2.symm⟩)
    | (go_at_call_of 47 z; exact (a3 _).mono fun _ _ h => ⟨h.1, _, h.2.symm⟩)
    | (go_at_call_of 46 q; exact (g1 _).mono fun _ _ ⟨n, h, hn⟩ => ⟨h, _, hn.trans (drewN_drewN _ _ _)⟩)
    | (go_at_call_of 46 d; exact (g2 _).mono fun _ _ ⟨n, h, hn⟩ => ⟨h, _, hn.trans (drewN_drewN _ _ _)⟩)))
  go_wp2
  go_region
  go_wp2
  exact bodyPost_ret (v := .tuple #[.agg #[.int .i64 (wrap64 (x.tdiv f)), .int .i64 (wrap64 (y.tdiv f)), .int .i64 (wrap64 (z.tdiv f))], .int .i64 f]) (by simp [results, Try.results28, go_sem]) rfl ⟨rfl, by
    repeat (first | exact Below.refl _ _ | refine Below.drew ?_ | refine below_drewN ?_ _ | refine Below.setCell ?_ ?_ _ | refine Below.alloc ?_ ?_ _ | (refine Below.trans ?_ (bmono (by assumption) ?_)))
    all_goals (first | omega | (simp <;> omega))⟩

def fac (x y z : Int) : Nat → Nat
  | 0 => 0
  | 1 => x.natAbs
  | 2 => Nat.gcd x.natAbs y.natAbs
  | _ => gcd3 x y z
set_option maxHeartbeats 4000000 in
theorem prim_ok (x y z : Int) (hx : inC x = true) (hy : inC y = true) (hz : inC z = true) (h0 : gcd3 x y z ≠ 0) (hnz : (x == 0 && (y == 0 && z == 0)) = false) (w : World) :
    Calls Try.prog 27 #[.agg #[.int .i64 x, .int .i64 y, .int .i64 z]] w fun e w' => e = .returned (.tuple #[.agg #[.int .i64 (x.tdiv (gcd3 x y z)), .int .i64 (y.tdiv (gcd3 x y z)), .int .i64 (z.tdiv (gcd3 x y z))], .int .i64 (gcd3 x y z), .int .i64 0]) ∧ Below w.heap.size w w' := by
  have hck := check_any x y z
  rw [eV_in (inV_iff.2 ⟨hx, hy, hz⟩)] at hck
  have hq := eqV x y z 0 0 0
  rw [hnz] at hq
  have bx := inC_abs hx
  have b_y := inC_abs hy
  have bz := inC_abs hz
  have bg := gcd3_le hx hy
  have hl : gcd3 x y z ≤ 1000000 := by
    unfold gcd3
    rcases Nat.eq_zero_or_pos z.natAbs with h | h
    · rw [h, Nat.gcd_zero_right]; omega
    · have := Nat.gcd_le_right (Nat.gcd x.natAbs y.natAbs) h; omega
  have g1 := divisor_int 0 (if x < -x then -x else x) (by omega) (by split <;> omega)
  have g2 := divisor_int x.natAbs (if y < -y then -y else y) (by omega) (by split <;> omega)
  have g3 := divisor_int (Nat.gcd x.natAbs y.natAbs : Nat) (if z < -z then -z else z) (by omega) (by split <;> omega)
  rw [show Nat.gcd (Int.natAbs 0) (if x < -x then -x else x).natAbs = x.natAbs by rw [show (if x < -x then -x else x).natAbs = x.natAbs by split <;> omega]; simp] at g1
  rw [show Nat.gcd (Int.natAbs (x.natAbs : Int)) (if y < -y then -y else y).natAbs = Nat.gcd x.natAbs y.natAbs by rw [show (if y < -y then -y else y).natAbs = y.natAbs by split <;> omega]; simp] at g2
  rw [show Nat.gcd (Int.natAbs (Nat.gcd x.natAbs y.natAbs : Nat)) (if z < -z then -z else z).natAbs = gcd3 x y z by rw [show (if z < -z then -z else z).natAbs = z.natAbs by split <;> omega]; simp [gcd3]] at g3
  clear hx hy hz hnz
  generalize gcd3 x y z = f at g3 h0 hl ⊢
  generalize Nat.gcd x.natAbs y.natAbs = d at g2 g3 bg
  obtain ⟨p, hp⟩ : ∃ p, p = x.natAbs := ⟨_, rfl⟩
  rw [← hp] at g1 g2
  have h0' : (f : Int) ≠ 0 := by omega
  go_enter Try.func27, Try.ntmps27
  go_wp2_with (first
    | (go_at_call 15; refine (hck _).mono ?_; rintro e w1 ⟨rfl, hb1⟩; obtain ⟨hc1, hf1⟩ := bcell hb1; have hz1 := hb1.size; (try simp at hz1); (try have y10 : w.heap.size < w1.heap.size := (by omega)); (try have y11 : w.heap.size + 1 < w1.heap.size := (by omega)); (try have y12 : w.heap.size + 1 + 1 < w1.heap.size := (by omega)); (try have y13 : w.heap.size + 1 + 1 + 1 < w1.heap.size := (by omega)); (try have y14 : w.heap.size + 1 + 1 + 1 + 1 < w1.heap.size := (by omega)))
    | (go_at_call 39; refine (coords_any _ _ _ _).mono ?_; rintro e w2 ⟨rfl, hb2⟩; obtain ⟨hc2, hf2⟩ := bcell hb2; have hz2 := hb2.size; (try simp at hz2); (try have y20 : w.heap.size < w2.heap.size := (by omega)); (try have y21 : w.heap.size + 1 < w2.heap.size := (by omega)); (try have y22 : w.heap.size + 1 + 1 < w2.heap.size := (by omega)); (try have y23 : w.heap.size + 1 + 1 + 1 < w2.heap.size := (by omega)); (try have y24 : w.heap.size + 1 + 1 + 1 + 1 < w2.heap.size := (by omega))))
  have hbw : Below w.heap.size w (w2.alloc (.cells #[.int .i64 x, .int .i64 y, .int .i64 z] 61)) := by
    repeat (first | exact Below.refl _ _ | refine Below.drew ?_ | refine below_drewN ?_ _ | refine Below.setCell ?_ ?_ _ | refine Below.alloc ?_ ?_ _ | (refine Below.trans ?_ (bmono (by assumption) ?_)))
    all_goals (first | omega | (simp <;> omega))
  have hB : Blk (w2.alloc (.cells #[.int .i64 x, .int .i64 y, .int .i64 z] 61)) w2.heap.size 61 #[.int .i64 x, .int .i64 y, .int .i64 z] := Blk.new _ _ _
  have hR : Blk (w2.alloc (.cells #[.int .i64 x, .int .i64 y, .int .i64 z] 61)) (w.heap.size + 1) 23 #[.int .i64 0, .int .i64 0, .int .i64 0] :=
    Blk.alloc (((Blk.new2 (by simp)).below hb1 (by simp)).below hb2 y11) _
  clear hb1 hb2 hc1 hc2 hf1 hf2 hz1 hz2
  have i0 : ∀ w, (Instr.index 61 (.agg #[.int .i64 x, .int .i64 y, .int .i64 z]) (.int .i64 0)).run Try.prog w = .ok (.int .i64 x) w := fun _ => by kernel_rfl
  have i1 : ∀ w, (Instr.index 61 (.agg #[.int .i64 x, .int .i64 y, .int .i64 z]) (.int .i64 1)).run Try.prog w = .ok (.int .i64 y) w := fun _ => by kernel_rfl
  have i2 : ∀ w, (Instr.index 61 (.agg #[.int .i64 x, .int .i64 y, .int .i64 z]) (.int .i64 2)).run Try.prog w = .ok (.int .i64 z) w := fun _ => by kernel_rfl
  have HP := Lib.hid hp
  clear hp
  go_loopw [24, 7] (fun i s W => (i = .int .i64 0 ∧ s = .int .i64 0 ∨ i = .int .i64 1 ∧ s = .int .i64 p ∨ i = .int .i64 2 ∧ s = .int .i64 d ∨ i = .int .i64 3 ∧ s = .int .i64 f) ∧ ∃ n, W = (w2.alloc (.cells #[.int .i64 x, .int .i64 y, .int .i64 z] 61)).drewN n) (fun i _ _ => 3 - (intOf i).toNat)
  case atStart => exact ⟨.inl ⟨rfl, rfl⟩, 0, rfl⟩
  case round =>
    obtain ⟨h, n, rfl⟩ := hrel
    rcases h with ⟨rfl, rfl⟩ | ⟨rfl, rfl⟩ | ⟨rfl, rfl⟩ | ⟨rfl, rfl⟩
    · go_wp2_with (go_at_call 44; refine (g1 _).mono ?_; rintro e W1 ⟨m, rfl, rfl⟩)
      go_roundw
      case rel => exact ⟨.inr (.inl ⟨by go_num, rfl⟩), n + m, rfl⟩
      case measure => simp [intOf] <;> omega
    · go_wp2_with (go_at_call 44; refine (g2 _).mono ?_; rintro e W1 ⟨m, rfl, rfl⟩)
      go_roundw
      case rel => exact ⟨.inr (.inr (.inl ⟨by go_num, rfl⟩)), n + m, rfl⟩
      case measure => simp [intOf] <;> omega
    · go_wp2_with (go_at_call 44; refine (g3 _).mono ?_; rintro e W1 ⟨m, rfl, rfl⟩)
      go_roundw
      case rel => exact ⟨.inr (.inr (.inr ⟨by go_num, rfl⟩)), n + m, rfl⟩
      case measure => simp [intOf] <;> omega
    · go_wp2
      have hB' := hB.drewN n
      have hR' := hR.drewN n
      have hbw' := below_drewN hbw n
      clear hB hR hbw
      go_loopw [34] (fun i W => (i = .int .i64 0 ∧ Blk W w2.heap.size 61 #[.int .i64 x, .int .i64 y, .int .i64 z] ∨ i = .int .i64 1 ∧ Blk W w2.heap.size 61 #[.int .i64 (x.tdiv f), .int .i64 y, .int .i64 z] ∨ i = .int .i64 2 ∧ Blk W w2.heap.size 61 #[.int .i64 (x.tdiv f), .int .i64 (y.tdiv f), .int .i64 z] ∨ i = .int .i64 3 ∧ Blk W w2.heap.size 61 #[.int .i64 (x.tdiv f), .int .i64 (y.tdiv f), .int .i64 (z.tdiv f)]) ∧ Blk W (w.heap.size + 1) 23 #[.int .i64 0, .int .i64 0, .int .i64 0] ∧ Below w.heap.size w W) (fun i _ => 3 - (intOf i).toNat)
      case atStart => exact ⟨.inl ⟨rfl, hB'⟩, hR', hbw'⟩
      case round =>
        clear hB' hR' hbw'
        obtain ⟨h, hR, hbw⟩ := hrel
        rcases h with ⟨rfl, hB⟩ | ⟨rfl, hB⟩ | ⟨rfl, hB⟩ | ⟨rfl, hB⟩
        · obtain ⟨p0, p1, p2⟩ := blk3 hB
          have pf := hB.frozen
          go_wp2
          go_roundw
          case rel => exact ⟨.inr (.inl ⟨by go_num, by simpa using (hB.set_ 0 _)⟩), hR.far (p := ⟨w2.heap.size, 0, none⟩) (by show w.heap.size + 1 ≠ w2.heap.size; omega) _, hbw.setCell (by show w.heap.size ≤ w2.heap.size; omega) _⟩
          case measure => simp [intOf] <;> omega
        · obtain ⟨p0, p1, p2⟩ := blk3 hB
          have pf := hB.frozen
          go_wp2
          go_roundw
          case rel => exact ⟨.inr (.inr (.inl ⟨by go_num, by simpa using (hB.set_ 1 _)⟩)), hR.far (p := ⟨w2.heap.size, 1, none⟩) (by show w.heap.size + 1 ≠ w2.heap.size; omega) _, hbw.setCell (by show w.heap.size ≤ w2.heap.size; omega) _⟩
          case measure => simp [intOf] <;> omega
        · obtain ⟨p0, p1, p2⟩ := blk3 hB
          have pf := hB.frozen
          go_wp2
          go_roundw
          case rel => exact ⟨.inr (.inr (.inr ⟨by go_num, by simpa using (hB.set_ 2 _)⟩)), hR.far (p := ⟨w2.heap.size, 2, none⟩) (by show w.heap.size + 1 ≠ w2.heap.size; omega) _, hbw.setCell (by show w.heap.size ≤ w2.heap.size; omega) _⟩
          case measure => simp [intOf] <;> omega
        · obtain ⟨p0, p1, p2⟩ := blk3 hB
          obtain ⟨r0, r1, r2⟩ := blk3 hR
          have rf := hR.frozen
          have hrl := hR.lt
          go_wp2_with (go_at_call 45; refine (vec_any _ _ _ _).mono ?_; rintro e w3 ⟨rfl, hb3⟩; obtain ⟨hc3, hf3⟩ := bcell hb3; have hz3 := hb3.size)
          exact bodyPost_ret (v := .tuple #[.agg #[.int .i64 (x.tdiv f), .int .i64 (y.tdiv f), .int .i64 (z.tdiv f)], .int .i64 f, .int .i64 0]) (by simp [results, Try.results27, go_sem, hc3, hrl, r0, r1, r2]) rfl ⟨rfl, by
            repeat (first | exact hbw | exact hbw.trans (bmono hb3 hbw.size) | refine Below.setCell ?_ ?_ _)
            all_goals (first | omega | (simp <;> omega))⟩
end Go.Proofs.Ythlidkmalfjmbaa
