/- The walk of the law SpanSound: it answers true, whatever the list and the choices. -/
import Derived.Test.YtnpdmohclajmjaaSumsW
import Derived.Deep.RegionHeld3
import Derived.Deep.DeepCutAuto
import Derived.IntWalk
namespace Go.Proofs.Ytnpdmohclajmjaa
open Go.RowKit

def ints (zs : List Int) : List Value := zs.map (Value.int .i64)
theorem Reads.int {w : World} {B n k : Nat} {A : Option Addr} {zs : List Int} (h : Reads w B 1 A n (ints zs)) (hk : k < n) (hn : n ≤ zs.length) :
    ∃ ad, A = some ad ∧ ad.block < B ∧ w.cell? (ad.add k) = some (.int .i64 (zs.getD k 0)) := by
  obtain ⟨ad, u, hA, hb, hx, hc⟩ := h.at_ hk
  refine ⟨ad, hA, hb, ?_⟩
  rw [hc]
  simp only [ints, List.getElem?_map, List.getElem?_eq_getElem (show k < zs.length by omega), Option.map_some, Option.some.injEq] at hx
  rw [← hx, List.getD_eq_getElem?_getD, List.getElem?_eq_getElem (show k < zs.length by omega)]; rfl

theorem sumS_zero {l : List (Int × Int)} (h : (sumS l).2 = 0) : errOf l = 0 ∧ sumS l = ((sumLo l l.length, sumHi l l.length), 0) := by
  revert h
  unfold sumS bndS
  split
  · rename_i h0
    split
    · intro _; exact ⟨h0, rfl⟩
    · intro h; cases h
  · rename_i h0
    intro h; exact absurd h h0
theorem lenS_of {l : List (Int × Int)} (h : errOf l = 0) {x : Int × Int} (hx : x ∈ l) : lenS x = x.2 - x.1 + 1 := by
  obtain ⟨h1, h2⟩ := errOf_ok h
  have : errOf [x] = 0 := by
    unfold errOf
    simp [h1 x hx, h2 x hx]
  unfold lenS; rw [if_pos this]

/-- what a round keeps: the sum's block and all that lay before the call -/
def KeptS (g : Nat) (p q : Int) (w W : World) : Prop := Blk W g 23 #[.int .i64 p, .int .i64 q] ∧ Below w.heap.size w W ∧ w.heap.size ≤ g
theorem KeptS.over {g : Nat} {p q : Int} {w W W' : World} (h : KeptS g p q w W) (hb : Below W.heap.size W W') : KeptS g p q w W' := ⟨h.1.below hb h.1.lt, h.2.1.trans (bmono hb h.2.1.size), h.2.2⟩
theorem KeptS.drew {g : Nat} {p q : Int} {w W : World} (h : KeptS g p q w W) : KeptS g p q w W.drew := ⟨h.1, h.2.1.drew, h.2.2⟩
theorem KeptS.drewN {g : Nat} {p q : Int} {w W : World} (h : KeptS g p q w W) (n : Nat) : KeptS g p q w (W.drewN n) := ⟨h.1, below_drewN h.2.1 n, h.2.2⟩
theorem KeptS.all {g : Nat} {p q : Int} {w W : World} {a1 a2 a3 : Addr} {u1 u2 u3 : Value} (h : KeptS g p q w W) (h1 : a1.block < w.heap.size ∧ w.cell? a1 = some u1) (h2 : a2.block < w.heap.size ∧ w.cell? a2 = some u2) (h3 : a3.block < w.heap.size ∧ w.cell? a3 = some u3) :
    KeptS g p q w W ∧ W.cell? a1 = some u1 ∧ W.cell? a2 = some u2 ∧ W.cell? a3 = some u3 :=
  ⟨h, (h.2.1.cell h1.1).trans h1.2, (h.2.1.cell h2.1).trans h2.2, (h.2.1.cell h3.1).trans h3.2⟩

set_option maxHeartbeats 4000000 in
theorem spanSound_any (A C : Option Addr) (n c m d : Nat) (l : List (Int × Int)) (zs : List Int) (w : World) (hn : n = l.length) (hm : m = zs.length) (hl : n ≤ 9223372036854775807) (hml : m ≤ 9223372036854775807)
    (hz : ∀ z ∈ zs, -9223372036854775808 ≤ z ∧ z ≤ 9223372036854775807)
    (hr : Reads w w.heap.size 2 A n (encL l)) (hc : Reads w w.heap.size 1 C m (ints zs)) :
    Calls Try.prog 6 #[.slice A n c, .slice C m d] w fun e w' => e = .returned (.bool true) ∧ Below w.heap.size w w' := by
  have HN := Lib.hid hn; have HM := Lib.hid hm; clear hn hm
  by_cases h30 : 30 < n
  · go_enter Try.func6, Try.ntmps6
    go_wp2_with (go_at_call 10; refine (awake_any _).mono ?_; rintro e w1 ⟨rfl, hb1⟩)
    all_goals (go_ret; exact ⟨rfl, hb1⟩)
  by_cases hmn : m < n
  · go_enter Try.func6, Try.ntmps6
    go_wp2_with (go_at_call 10; refine (awake_any _).mono ?_; rintro e w1 ⟨rfl, hb1⟩)
    all_goals (go_ret; exact ⟨rfl, hb1⟩)
  have hs1 := fun W (h : Reads W W.heap.size 2 A n (encL l)) => (show Calls Try.prog 27 #[.slice A n c] W _ from HN.out ▸ sum_any A c l W (by rw [← HN.out]; omega) (by rw [← HN.out]; exact h))
  have heq := fun W => eqIv (sumS l).1 (0, 0) W
  by_cases hbad : (sumS l).2 = 0
  · obtain ⟨h0, hsum⟩ := sumS_zero hbad
    clear heq hbad
    have hok := errOf_ok h0
    have hbd := sums_bd hok.1
    have hrl := fun W (h : Reads W W.heap.size 2 A n (encL l)) => lists_nil A n c l W HN.out (by omega) h
    have hin : (inR (sumLo l l.length, sumHi l l.length)) = true := by
      have := hsum
      unfold sumS bndS at this
      rw [if_pos h0] at this
      split at this
      · assumption
      · injection this with _ h2; cases h2
    obtain ⟨i1, i2, i3, i4⟩ := (inR_iff _).1 hin
    rw [hsum] at hs1
    rw [h0] at hrl
    have H0 := Lib.hid h0; have HOK := Lib.hid hok; have HBD := Lib.hid hbd; have HZ := Lib.hid hz
    clear h0 hsum hok hbd hin hz
    go_enter Try.func6, Try.ntmps6
    go_wp2_with (first
      | (go_at_call 10; refine (awake_any _).mono ?_; rintro e w1 ⟨rfl, hb1⟩
         have hr1 : Reads w1 w1.heap.size 2 A n (encL l) := (hr.below hb1).more hb1.size)
      | (go_at_call 27; refine (hs1 _ hr1).mono ?_; rintro e w2 ⟨rfl, hb2⟩
         have hB2 := (hb1.trans (bmono hb2 hb1.size)).alloc (Nat.le_trans hb1.size hb2.size) (.cells #[.int .i64 (sumLo l l.length), .int .i64 (sumHi l l.length)] 23)
         have hk2 := Blk.new w2 23 #[.int .i64 (sumLo l l.length), .int .i64 (sumHi l l.length)]
         have hg2 : w.heap.size ≤ w2.heap.size := Nat.le_trans hb1.size hb2.size
         have hr2 := (hr.below hB2).more hB2.size)
      | (go_at_call 29; refine (hrl _ hr2).mono ?_; rintro e w3 ⟨rfl, hb3⟩
         have hk3 : KeptS w2.heap.size (sumLo l l.length) (sumHi l l.length) w w3 := ⟨hk2.below hb3 hk2.lt, hB2.trans (bmono hb3 hB2.size), hg2⟩))
    clear hk2 hB2 hb3 hr2 hr1 hb1 hb2 hg2
    generalize w2.heap.size = g at hk3 ⊢
    go_loopw [7, 8, 9, 10] (fun s lo hi i wr => ∃ (k : Nat) (t : Int), k ≤ n ∧ i = .int .i64 k ∧ s = .int .i64 t ∧ lo = .int .i64 (sumLo l k) ∧ hi = .int .i64 (sumHi l k) ∧ sumLo l k ≤ t ∧ t ≤ sumHi l k ∧ KeptS g (sumLo l l.length) (sumHi l l.length) w wr) (fun _ _ _ i _ => n - (intOf i).toNat)
    case atStart => exact ⟨0, 0, Nat.zero_le _, rfl, rfl, rfl, rfl, by simp [sumLo], by simp [sumHi], hk3⟩
    case round =>
      clear hk3
      obtain ⟨k, t, hk, rfl, rfl, rfl, rfl, ht1, ht2, hkp⟩ := hrel
      have hkl : k ≤ l.length := by rw [← HN.out]; exact hk
      obtain ⟨bd1, bd2, bd3, bd4⟩ := HBD.out k hkl
      by_cases hlt : k < n
      · have hltl : k < l.length := by rw [← HN.out]; exact hlt
        obtain ⟨ad, rfl, hb, c1, c2⟩ := hr.iv HN.out hltl
        obtain ⟨ad2, rfl, hb2, c3⟩ := hc.int (k := k) (by omega) (by rw [HM.out]; exact Nat.le_refl _)
        have hA1 : (ad.add (k * 2)).block < w.heap.size ∧ w.cell? (ad.add (k * 2)) = some (.int .i64 (iv l k).1) := ⟨by rw [block_of_add]; exact hb, c1⟩
        have hA2 : (⟨(ad.add (k * 2)).block, (ad.add (k * 2)).off + 1, none⟩ : Addr).block < w.heap.size ∧ w.cell? ⟨(ad.add (k * 2)).block, (ad.add (k * 2)).off + 1, none⟩ = some (.int .i64 (iv l k).2) := ⟨by show (ad.add (k * 2)).block < _; rw [block_of_add]; exact hb, c2⟩
        have hA3 : (ad2.add k).block < w.heap.size ∧ w.cell? (ad2.add k) = some (.int .i64 (zs.getD k 0)) := ⟨by rw [block_of_add]; exact hb2, c3⟩
        obtain ⟨x1, x2⟩ := (show (iv l k).1 ≤ (iv l k).2 ∧ inR (iv l k) = true from ⟨HOK.out.2 _ (iv_mem hltl), HOK.out.1 _ (iv_mem hltl)⟩)
        obtain ⟨x3, x4, x5, x6⟩ := (inR_iff _).1 x2
        have hlen := fun W => refLength_any (iv l k) W
        rw [lenS_of H0.out (iv_mem hltl)] at hlen
        have hzk : -9223372036854775808 ≤ zs.getD k 0 ∧ zs.getD k 0 ≤ 9223372036854775807 := by
          have hkz : k < zs.length := by rw [← HM.out]; omega
          apply HZ.out
          rw [List.getD_eq_getElem?_getD, List.getElem?_eq_getElem hkz]; exact List.getElem_mem hkz
        obtain ⟨z1, z2⟩ := hzk
        have HS1 := Lib.hid (sumLo_succ hltl); have HS2 := Lib.hid (sumHi_succ hltl)
        obtain ⟨be1, be2, be3, be4⟩ := HBD.out (k + 1) hltl
        rw [HS1.out] at be1 be2
        rw [HS2.out] at be3 be4
        have HA1 := Lib.hid hA1; have HA2 := Lib.hid hA2; have HA3 := Lib.hid hA3
        clear c1 c2 c3 hA1 hA2 hA3 x2
        generalize iv l k = x at *
        generalize zs.getD k 0 = z at *
        have hka := hkp.all HA1.out HA2.out HA3.out
        have hlen2 : ∀ W, KeptS g (sumLo l l.length) (sumHi l l.length) w W → Calls Try.prog 18 #[.agg #[.int .i64 x.1, .int .i64 x.2]] W fun e w' => e = .returned (.int .i64 (x.2 - x.1 + 1)) ∧ KeptS g (sumLo l l.length) (sumHi l l.length) w w' :=
          fun W hW => (hlen W).mono fun e w' ⟨he, hb⟩ => ⟨he, hW.over hb⟩
        clear hlen
        have hU0 : 0 ≤ IntKind.u64.wrap z := by rw [IntKind.wrap_u64]; omega
        have hLw : IntKind.u64.wrap (x.2 - x.1 + 1) = x.2 - x.1 + 1 := by rw [IntKind.wrap_u64]; omega
        obtain ⟨u, hUz⟩ : ∃ u, IntKind.u64.wrap z = u := ⟨_, rfl⟩
        rw [hUz] at hU0
        have hL0 : ¬ x.2 - x.1 + 1 = 0 := by omega
        obtain ⟨q, hq, hq0, hq1⟩ : ∃ q, u % (x.2 - x.1 + 1) = q ∧ 0 ≤ q ∧ q ≤ x.2 - x.1 := ⟨_, rfl, Int.emod_nonneg _ (by omega), by have := Int.emod_lt_of_pos u (show 0 < x.2 - x.1 + 1 by omega); omega⟩
        have HT : Hid (IntKind.i64.wrap (t + IntKind.i64.wrap (x.1 + IntKind.i64.wrap (u.tmod (x.2 - x.1 + 1)))) = t + (x.1 + q)) := Lib.hid (by
          rw [Int.tmod_eq_emod_of_nonneg hU0, hq, IntWalk.i64_in q (by omega), IntWalk.i64_in (x.1 + q) (by omega), IntWalk.i64_in _ (by omega)])
        clear hq
        have k0 : (0 : Int) ≤ (k : Int) := Int.natCast_nonneg _
        have k1 : (k : Int) < (n : Int) := by omega
        have k2 : (k : Int) < (m : Int) := by omega
        go_wp2
        go_region_held3 (fun W => KeptS g (sumLo l l.length) (sumHi l l.length) w W ∧ W.cell? (ad.add (k * 2)) = some (.int .i64 x.1) ∧ W.cell? ⟨(ad.add (k * 2)).block, (ad.add (k * 2)).off + 1, none⟩ = some (.int .i64 x.2) ∧ W.cell? (ad2.add k) = some (.int .i64 z))
          (first | exact hka | exact KeptS.all ‹_› HA1.out HA2.out HA3.out | exact (KeptS.drew ‹_›).all HA1.out HA2.out HA3.out)
          (first
            | (go_at_call 18; refine (hlen2 _ ?_).mono ?_; (first | assumption | exact And.left ‹_›); rintro e W1 ⟨rfl, hk1⟩))
        go_wp2
        go_roundw
        case rel => exact ⟨k + 1, t + (x.1 + q), by omega, by go_num, by rw [HT.out], by rw [HS1.out], by rw [HS2.out], by rw [HS1.out]; omega, by rw [HS2.out]; omega, ‹_›⟩
        case measure => simp [intOf]; omega
      · obtain rfl : k = n := by omega
        have hnl := HN.out
        obtain ⟨f1, f2, f3, f4⟩ := blk_facts hkp.1
        have hlt := hkp.1.lt
        have hcon := fun W => contains_any (sumLo l l.length, sumHi l l.length) t W
        rw [hnl] at ht1 ht2
        rw [show contS (sumLo l l.length, sumHi l l.length) t = true by simp [contS, ht1, ht2]] at hcon
        have hB := hkp.2.1
        have hblk := hkp.1
        rw [show sumLo l k = sumLo l l.length by rw [hnl], show sumHi l k = sumHi l l.length by rw [hnl]]
        clear hkp hnl
        go_wp2_with (go_at_call 13; refine (hcon _).mono ?_; rintro e w4 ⟨rfl, hb4⟩; obtain ⟨f5, f6, f7, f8⟩ := blk_facts (hblk.below hb4 hblk.lt))
        go_ret
        exact ⟨rfl, hB.trans (bmono hb4 hB.size)⟩
  · have h00 : (sumS l).1 = (0, 0) := by
      revert hbad
      unfold sumS bndS
      split
      · split
        · intro h; exact absurd rfl h
        · intro _; rfl
      · intro _; rfl
    rw [h00] at heq hs1
    have heq' : ∀ W, Sem.run Try.prog (binOp .eql 23 (.agg #[.int .i64 0, .int .i64 0]) (.agg #[.int .i64 0, .int .i64 0])) W = .ok (.bool true) W := fun W => by simpa using heq W
    clear heq
    have hne : ((sumS l).2 == 0) = false := by simpa using hbad
    have hne' : ((sumS l).2 != 0) = true := by simpa using hbad
    generalize (sumS l).2 = r at hbad hs1 hne hne'
    clear h00
    go_enter Try.func6, Try.ntmps6
    go_wp2_with (first
      | (go_at_call 10; refine (awake_any _).mono ?_; rintro e w1 ⟨rfl, hb1⟩
         have hr1 : Reads w1 w1.heap.size 2 A n (encL l) := (hr.below hb1).more hb1.size)
      | (go_at_call 27; refine (hs1 _ hr1).mono ?_; rintro e w2 ⟨rfl, hb2⟩))
    go_ret
    exact ⟨rfl, ((hb1.trans (bmono hb2 hb1.size)).alloc (Nat.le_trans hb1.size hb2.size) _)⟩
end Go.Proofs.Ytnpdmohclajmjaa
