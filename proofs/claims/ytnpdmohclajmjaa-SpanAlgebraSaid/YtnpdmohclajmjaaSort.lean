/- The walk of slices.SortFunc at this seat's closure: a row of the call's own holds, behind it, a permutation that ascends by Lo. -/
import Derived.Test.YtnpdmohclajmjaaSum
import Derived.Test.YtnpdmohclajmjaaShelfB
import Derived.Test.YtnpdmohclajmjaaNorm
import Derived.Shelf.SlSortCmp.NoneTotal
namespace Go.Proofs.Ytnpdmohclajmjaa
open Go.Shelf Go.RowKit Go.Lib Go.Sort

def cfLo (x y : Int × Int) : Int := Lib.compareInt x.1 y.1
theorem ltLo (x y : Int × Int) : ltOf cfLo x y = decide (x.1 < y.1) := by
  unfold ltOf cfLo Lib.compareInt
  by_cases h1 : x.1 < y.1
  · simp [h1]
  · by_cases h2 : y.1 < x.1 <;> simp [h1, h2]
theorem swoLo : SWO (ltOf cfLo) where
  irrefl x := by rw [ltLo]; simp
  trans x y z h1 h2 := by rw [ltLo] at *; simp at *; omega
  ntrans x y z h1 h2 := by rw [ltLo] at *; simp at *; omega

set_option maxHeartbeats 1000000 in
theorem closure54 (x y : Int × Int) (W : World) : Calls Try.prog 54 #[.agg #[.int .i64 x.1, .int .i64 x.2], .agg #[.int .i64 y.1, .int .i64 y.2]] W fun e w' => e = .returned (.int .i64 (cfLo x y)) ∧ ∃ q os', w' = grow (W.drewN q) os' := by
  have hcon := fun W' => AnyG.cmp_Compare_int Try.cmpInt x.1 y.1 W'
  change ∀ W', Calls Try.prog 55 _ _ _ at hcon
  unfold cfLo
  generalize Lib.compareInt x.1 y.1 = r at hcon ⊢
  go_enter Try.func54, Try.ntmps54
  go_wp2_with (go_at_call 55; refine (hcon _).mono ?_; rintro e w' ⟨rfl, rfl⟩)
  go_ret
  exact ⟨rfl, 0, _, by rw [alloc_eq_grow, alloc_eq_grow, grow_grow]; rfl⟩

theorem flat_enc (l : List (Int × Int)) (j : Nat) (h : j < l.length * 2) : (encL l)[j]? = some (flatK encIv 2 l.toArray)[j]! := by
  rw [get_flatK _ _ _ _ (by simpa using h)]
  have hi : j / 2 < l.length := by omega
  obtain ⟨h1, h2⟩ := encL_get l (j / 2) hi
  have e : l.toArray[j / 2]! = iv l (j / 2) := by rw [getElem!_pos _ _ (by simpa using hi), iv_eq hi]; simp
  rw [e]
  rcases (show j % 2 = 0 ∨ j % 2 = 1 by omega) with h0 | h0
  · rw [h0, show j = j / 2 * 2 by omega, h1]
    simp [encIv]
  · rw [h0, show j = j / 2 * 2 + 1 by omega, h2]
    simp [encIv, show (j / 2 * 2 + 1) / 2 = j / 2 by omega]

theorem below_mapBlock {w : World} {base blk : Nat} {f : Array Value → Array Value} (h : base ≤ blk) : Below base w (mapBlock w blk f) :=
  ⟨rfl, rfl, rfl, by simp [mapBlock], fun k hk => by simp only [mapBlock, Array.getElem?_modify]; rw [if_neg (by omega)]⟩
theorem below_grown' {w w0 : World} {base : Nat} (h : Below base w0 w) (hb : base ≤ w.heap.size) (os : Array Obj) : Below base w0 (grow w os) :=
  h.trans ⟨rfl, rfl, rfl, by simp [grow], fun k hk => by simp only [grow]; rw [Array.getElem?_append_left (by omega)]⟩

set_option maxHeartbeats 1000000 in
theorem sort_any (A : Option Addr) (N c base : Nat) (L : List (Int × Int)) (w : World) (hN : N = L.length) (hsz : N ≤ 1000000) (hown : w.ownsRow base 23 2 (.slice A N c) N (encL L)) (hbase : base ≤ w.heap.size) :
    Calls Try.prog 53 #[.slice A N c, .func (.func 54) #[] #[]] w fun e w' => e = .returned (.tuple #[]) ∧
      ∃ D : List (Int × Int), D.Perm L ∧ D.Pairwise (fun x y => x.1 ≤ y.1) ∧ Reads w' w'.heap.size 2 A N (encL D) ∧ Below base w w' := by
  rcases Nat.eq_zero_or_pos N with h0 | hpos
  · subst h0
    have hL : L = [] := List.eq_nil_of_length_eq_zero hN.symm
    subst hL
    exact (AnyF.slices_SortFunc_none Try.sortIv A c _ w).mono fun e w' ⟨he, hw⟩ => ⟨he, [], .refl _, .nil, by subst hw; exact Reads.none_, hw ▸ Below.refl _ _⟩
  · obtain ⟨g, cap, hv, hbg, hlt⟩ := hown.form hpos
    have hA : A = some ⟨g, 0, none⟩ := by injection hv
    subst hA
    have hH : HoldsK encIv 2 w g 0 L.toArray := by
      intro j hj
      have hj' : j < L.length * 2 := by simpa using hj
      have h1 := hown.cells (g := g) rfl j _ (flat_enc L j hj')
      rw [Addr.add_lit] at h1
      refine ⟨h1, ?_⟩
      rcases hown.2 with ⟨h, _⟩ | ⟨g', cap', cur, h, _, hh, _⟩
      · cases h
      · injection h with h; injection h with h; injection h with h
        subst h
        simp [World.frozen?, hh]
    have eg : ∀ args w, (callFunc 54 args).run Try.prog w = .ok (.enter 54 args) w := enters_of Try.func54 (by kernel_rfl) rfl
    have hcon := AnyQ.slices_SortFunc Try.sortIv 2 Try.isAgg23 Try.sizeOf23 encIv (fun _ => rfl) (fun x v hv => by simp [encIv] at hv; rcases hv with rfl | rfl <;> rfl) cfLo swoLo 54 #[] g 0 c L.toArray w eg (fun _ _ _ _ x y => closure54 x y _) hH hlt (by simp; omega)
    change Calls Try.prog 53 _ _ _ at hcon
    subst hN
    refine (show Calls Try.prog 53 #[.slice (some ⟨g, 0, none⟩) L.length c, .func (.func 54) #[] #[]] w _ from by simpa using hcon).mono ?_
    rintro e w' ⟨he, d', hp, hs, n, os, rfl⟩
    have hd : d'.size = L.length := by simpa using hp.1
    refine ⟨he, d'.toList, ?_, ?_, ?_, ?_⟩
    · have := hp.2.2
      have hdl : d'.toList.length ≤ L.length := by simp [hd]
      simpa [List.take_of_length_le hdl] using this
    · rw [List.pairwise_iff_getElem]
      intro i j hi hj hij
      have := hs i j (Nat.zero_le _) hij (by simpa [hd] using hj)
      rw [ltLo] at this
      simp only [Array.length_toList] at hi hj
      rw [getElem!_pos d' i hi, getElem!_pos d' j hj] at this
      simpa using this
    · have hK := holdsK_putRowK (enc := encIv) (k := 2) (Sort.ahead w n) g 0 L.toArray d' (holdsK_ahead encIv 2 w n g 0 L.toArray hH) (by simp [hd])
      have hK2 := holdsK_grow encIv 2 (putRowK encIv 2 (Sort.ahead w n) g 0 d') os g 0 d' (by simp [putRowK]; exact hlt) hK
      refine ⟨by rw [encL_len]; simp [hd], fun _ => ⟨_, rfl, by simp [sortWorldK, putRowK, grow]; omega, fun j u hu => ?_⟩⟩
      have hj : j < d'.toList.length * 2 := by
        have := (List.getElem?_eq_some_iff.1 hu).1
        rwa [encL_len] at this
      have := flat_enc d'.toList j hj
      rw [this] at hu
      injection hu with hu
      have h2 := (hK2 j (by simpa using hj)).1
      rw [Addr.add_lit]
      rw [← hu]
      simpa [sortWorldK] using h2
    · have h1 : RowKit.Below base w (Sort.ahead w n) := ⟨rfl, rfl, rfl, Nat.le_refl _, fun _ _ => rfl⟩
      have h2 : RowKit.Below base (Sort.ahead w n) (putRowK encIv 2 (Sort.ahead w n) g 0 d') := below_mapBlock hbg
      exact below_grown' (h1.trans h2) (by simpa [putRowK, putRow, mapBlock] using hbase) os
end Go.Proofs.Ytnpdmohclajmjaa
