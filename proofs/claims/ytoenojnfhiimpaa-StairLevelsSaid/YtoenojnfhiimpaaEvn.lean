/- The walks of Even, stair's and the reference's. Levels: a list of at most a hundred integers. -/
import Derived.Test.YtoenojnfhiimpaaNum
import Derived.WalkSpells
import Derived.WalkLawsBesides
import Derived.Deep.QuietTactic
import Derived.BigQuiet
import Derived.Laws.StructEq
namespace Go.Proofs.Ytoenojnfhiimpaa
open Go.RowKit

def lvAt (l : List Int) (k : Nat) : Int := l.getD k 0
/-- the level below the step k -/
def blwAt (l : List Int) (k : Nat) : Int := if k = 0 then 0 else lvAt l (k - 1)
def evOk (l : List Int) (k : Nat) : Bool := decide (blwAt l k < lvAt l k) && decide (lvAt l k ≤ 1000000)
def evAll (l : List Int) : Nat → Bool
  | 0 => true
  | k + 1 => evAll l k && evOk l k
def riAt (l : List Int) (k : Nat) : Int := if k = 0 then lvAt l 0 else lvAt l k - lvAt l (k - 1)
def mx3 (a b c : Int) : Int := if (if a < b then b else a) < c then c else (if a < b then b else a)
/-- the greatest difference of the first k + 1 rises -/
def grAt (l : List Int) : Nat → Int
  | 0 => 0
  | k + 1 => mx3 (grAt l k) (riAt l (k + 1) - riAt l k) (riAt l k - riAt l (k + 1))
def evE (l : List Int) : Int := if 64 < l.length then 7 else if evAll l l.length = false then 1 else if l.length < 2 then 9 else 0
def evN (l : List Int) : Int := if evE l = 0 then grAt l (l.length - 1) else 0
theorem blwAt_succ (l : List Int) (k : Nat) : blwAt l (k + 1) = lvAt l k := by simp [blwAt]
theorem riAt_succ (l : List Int) (k : Nat) : riAt l (k + 1) = lvAt l (k + 1) - lvAt l k := by simp [riAt]
theorem evAll_at {l : List Int} : ∀ {k : Nat}, evAll l k = true → ∀ j, j < k → blwAt l j < lvAt l j ∧ lvAt l j ≤ 1000000
  | 0, _, j, hj => absurd hj (by omega)
  | k + 1, h, j, hj => by
    simp only [evAll, Bool.and_eq_true] at h
    rcases Nat.lt_or_ge j k with h1 | h1
    · exact evAll_at h.1 j h1
    · obtain rfl : j = k := by omega
      simpa [evOk] using h.2
theorem evAll_bd {l : List Int} {k : Nat} (h : evAll l k = true) : ∀ j, j < k → 1 ≤ lvAt l j ∧ lvAt l j ≤ 1000000
  | 0, hj => by have := evAll_at h 0 hj; simp [blwAt] at this; omega
  | j + 1, hj => by have := evAll_at h (j + 1) hj; rw [blwAt_succ] at this; have h2 := evAll_bd h j (by omega); omega
theorem evAll_le {l : List Int} : ∀ {k j : Nat}, evAll l k = true → j ≤ k → evAll l j = true
  | 0, j, _, hj => by obtain rfl : j = 0 := by omega
                      rfl
  | k + 1, j, h, hj => by
    rcases Nat.lt_or_ge j (k + 1) with h1 | h1
    · simp only [evAll, Bool.and_eq_true] at h
      exact evAll_le h.1 (by omega)
    · obtain rfl : j = k + 1 := by omega
      exact h
theorem evAll_false {l : List Int} {k n : Nat} (h : evOk l k = false) (hk : k < n) : evAll l n = false := by
  rw [← Bool.not_eq_true]; intro hn
  have := evAll_le hn (show k + 1 ≤ n by omega)
  simp [evAll, h] at this
theorem grAt_bd {l : List Int} {n : Nat} (h : evAll l n = true) : ∀ k, k < n → 0 ≤ grAt l k ∧ grAt l k ≤ 1000000 ∧ 1 ≤ riAt l k ∧ riAt l k ≤ 1000000
  | 0, hk => by have := evAll_bd h 0 hk; simp [grAt, riAt]; omega
  | k + 1, hk => by
    have h1 := grAt_bd h k (by omega)
    have h2 := evAll_at h (k + 1) hk
    have h3 := evAll_bd h k (by omega)
    rw [blwAt_succ] at h2
    have h4 : 1 ≤ riAt l (k + 1) ∧ riAt l (k + 1) ≤ 1000000 := by rw [riAt_succ]; omega
    refine ⟨?_, ?_, h4⟩ <;> (show _ ≤ _; unfold grAt mx3; split <;> split <;> omega)
def encI (l : List Int) : List Value := l.map fun n => .int .i64 n
theorem encI_len (l : List Int) : (encI l).length = l.length := by simp [encI]
theorem encI_at {l : List Int} {k : Nat} (hk : k < l.length) : (encI l)[k]? = some (.int .i64 (lvAt l k)) := by
  simp [encI, lvAt, List.getElem?_eq_getElem hk, List.getD_eq_getElem?_getD]
theorem reads_lv {w : World} {B n k : Nat} {A : Option Addr} {l : List Int} (h : Reads w B 1 A n (encI l)) (hk : k < n) : ∃ ad, A = some ad ∧ ad.block < B ∧ w.cell? (ad.add k) = some (.int .i64 (lvAt l k)) := by
  obtain ⟨ad, u, h1, h2, h3, h4⟩ := h.at_ hk
  have : k < l.length := by have := h.1; rw [encI_len] at this; omega
  rw [encI_at this] at h3
  injection h3 with h3
  exact ⟨ad, h1, h2, h3 ▸ h4⟩
set_option maxHeartbeats 4000000 in
set_option maxRecDepth 100000 in
theorem even_any (A : Option Addr) (cp : Nat) (l : List Int) (w : World) (hl : l.length ≤ 100) (hr : Reads w w.heap.size 1 A l.length (encI l)) :
    Calls Try.prog 27 #[.slice A l.length cp] w fun e w' => e = .returned (.tuple #[.int .i64 (evN l), .int .i64 (evE l)]) ∧ Below w.heap.size w w' := by
  by_cases h64 : 64 < l.length
  · have e1 : evE l = 7 := by simp [evE, h64]
    have e2 : evN l = 0 := by simp [evN, e1]
    have h64' : (64 : Int) < (l.length : Int) := by omega
    rw [e1, e2]; clear e1 e2 hl h64
    go_enter Try.func27, Try.ntmps27
    go_wp2
    go_ret2
    exact ⟨rfl, Below.refl _ _⟩
  · have h64' : (l.length : Int) ≤ 64 := by omega
    obtain ⟨E, hE⟩ : ∃ E, E = evE l := ⟨_, rfl⟩
    obtain ⟨N, hN⟩ : ∃ N, N = evN l := ⟨_, rfl⟩
    rw [← hE, ← hN]
    have HE := Lib.hid hE; have HN := Lib.hid hN; clear hE hN
    go_enter Try.func27, Try.ntmps27
    go_wp2
    go_loopw [16, 4] (fun i b W => ∃ k : Nat, k ≤ l.length ∧ i = .int .i64 k ∧ b = .int .i64 (blwAt l k) ∧ evAll l k = true ∧ W = w) (fun i _ _ => l.length - (intOf i).toNat)
    case atStart => exact ⟨0, Nat.zero_le _, rfl, rfl, rfl, rfl⟩
    case round =>
      obtain ⟨k, hk, rfl, rfl, hall, rfl⟩ := hrel
      by_cases hlt : k < l.length
      · obtain ⟨ad, rfl, hb, hc⟩ := reads_lv hr hlt
        have hle : (k : Int) < (l.length : Int) := by omega
        cases ho : evOk l k
        · have hh : lvAt l k ≤ blwAt l k ∨ (blwAt l k < lvAt l k ∧ 1000000 < lvAt l k) := by
            have := ho; simp [evOk] at this; omega
          have hall2 := evAll_false ho hlt
          clear hk hall ho
          rcases hh with hh | ⟨hh, hh2⟩
          · go_wp2
            go_ret2
            refine ⟨?_, Below.refl _ _⟩
            rw [HE.out, HN.out]; simp [evN, evE, hall2, show ¬ 64 < l.length by omega]
          · go_wp2
            go_ret2
            refine ⟨?_, Below.refl _ _⟩
            rw [HE.out, HN.out]; simp [evN, evE, hall2, show ¬ 64 < l.length by omega]
        · have hh : blwAt l k < lvAt l k ∧ lvAt l k ≤ 1000000 := by simpa [evOk] using ho
          obtain ⟨hh1, hh2⟩ := hh
          have hnext : evAll l (k + 1) = true := by simp [evAll, hall, ho]
          have HB := Lib.hid (blwAt_succ l k)
          clear hk hall ho
          go_wp2
          go_roundw
          case rel => exact ⟨k + 1, by omega, by go_num, by rw [HB.out], hnext, by first | rfl | trivial⟩
          case measure => simp [intOf]; omega
      · obtain rfl : k = l.length := by omega
        by_cases h2 : l.length < 2
        · have h2' : (l.length : Int) < 2 := by omega
          have hE2 : evE l = 9 := by simp [evE, hall, h2, h64]
          go_wp2
          go_ret2
          refine ⟨?_, Below.refl _ _⟩
          rw [HE.out, HN.out]; simp [evN, hE2]
        · have h2' : ¬ (l.length : Int) < 2 := by omega
          have hE2 : evE l = 0 := by simp [evE, hall, h2, h64]
          have hbd := fun j (hj : j < l.length) => evAll_bd hall j hj
          have hgr := fun j (hj : j < l.length) => grAt_bd hall j hj
          have HBD := Lib.hid hbd; have HGR := Lib.hid hgr; clear hbd hgr
          obtain ⟨ad, hA, hb, hc⟩ := reads_lv hr (show 0 < l.length by omega)
          subst hA
          have hc0 : wr.cell? ad = some (.int .i64 (lvAt l 0)) := by simpa [Addr.add] using hc
          clear hk hlt hall hc
          go_wp2
          obtain ⟨w0, hw0⟩ : ∃ w0, w0 = wr := ⟨_, rfl⟩
          subst hw0
          go_loopw [9, 7, 8] (fun i r g W => ∃ k : Nat, k + 1 ≤ l.length ∧ i = .int .i64 ((k : Int) + 1) ∧ r = .int .i64 (riAt l k) ∧ g = .int .i64 (grAt l k) ∧ Below w0.heap.size w0 W) (fun i _ _ _ => l.length - (intOf i).toNat)
          case atStart => exact ⟨0, by omega, rfl, rfl, rfl, Below.refl _ _⟩
          case round =>
            obtain ⟨k, hk, rfl, rfl, rfl, hbw⟩ := hrel
            have hr := hr.below hbw
            by_cases hlt : k + 1 < l.length
            · obtain ⟨ad1, hA1, hb1, hc1⟩ := reads_lv hr hlt
              obtain ⟨ad2, hA2, hb2, hc2⟩ := reads_lv hr (show k < l.length by omega)
              injection hA1 with hA1; injection hA2 with hA2
              subst hA1; subst hA2
              obtain ⟨p1, p2⟩ := HBD.out (k + 1) hlt
              obtain ⟨p3, p4⟩ := HBD.out k (by omega)
              obtain ⟨p5, p6, p7, p8⟩ := HGR.out k (by omega)
              have p9 := HGR.out (k + 1) hlt
              have HR := Lib.hid (riAt_succ l k)
              have hg : grAt l (k + 1) = mx3 (grAt l k) ((lvAt l (k + 1) - lvAt l k) - riAt l k) (riAt l k - (lvAt l (k + 1) - lvAt l k)) := by rw [← HR.out]; rfl
              have HG := Lib.hid hg; clear hg p9
              have hle : (k : Int) + 1 < (l.length : Int) := by omega
              clear hk
              generalize lvAt l (k + 1) = v1 at *
              generalize lvAt l k = v0 at *
              generalize riAt l k = r0 at *
              generalize grAt l k = g0 at *
              obtain ⟨I, hI⟩ : ∃ I, I = (k : Int) + 1 := ⟨_, rfl⟩
              rw [← hI]
              have i1 : (0 : Int) ≤ I := by omega
              have i2 : I < (l.length : Int) := by omega
              have i3 : I.toNat = k + 1 := by omega
              have i4 : IntKind.i64.wrap (I - 1) = I - 1 := IntWalk.i64_in _ (by omega)
              have i5 : (0 : Int) ≤ I - 1 := by omega
              have i6 : I - 1 < (l.length : Int) := by omega
              have i7 : (I - 1).toNat = k := by omega
              have HI := Lib.hid hI
              have hc1' : wr.cell? ⟨ad.block, ad.off + (k + 1), none⟩ = some (.int .i64 v1) := by simpa [Addr.add] using hc1
              clear hI hle
              go_wp2
              go_region
              go_wp2
              have hI2 := HI.out
              refine ⟨⟨k + 1, by omega, by rw [hI2]; rfl, by rw [HR.out], by rw [HG.out]; rfl, hbw.drew⟩, by simp [intOf]; omega⟩
            · obtain hk' : k = l.length - 1 := by omega
              have hle : ¬ (k : Int) + 1 < (l.length : Int) := by omega
              have hNN : N = grAt l k := by rw [HN.out, hk']; simp [evN, hE2]
              have hEE : E = 0 := by rw [HE.out, hE2]
              have HNN := Lib.hid hNN; have HEE := Lib.hid hEE
              clear hNN hEE hk'
              go_wp2
              go_ret2
              refine ⟨?_, hbw⟩
              rw [HNN.out, HEE.out]; rfl
end Go.Proofs.Ytoenojnfhiimpaa
