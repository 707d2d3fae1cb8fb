/- The walk of span.normal: what it returns is a slice of the call's own that reads as a normal form with the members of the lists. Lists are of at most two thousand intervals together. -/
import Derived.Test.YtnpdmohclajmjaaSort
namespace Go.Proofs.Ytnpdmohclajmjaa
open Go.RowKit

theorem encL_set (p : List (Int × Int)) (z : Int × Int) (h : Int) : (encL (p ++ [z])).set (p.length * 2 + 1) (.int .i64 h) = encL (p ++ [(z.1, h)]) := by
  rw [encL_app, encL_app, List.set_append_right _ _ (by rw [encL_len]; omega), encL_len]
  simp [encL, encIv]

theorem own_set {w : World} {base g n c : Nat} {e : TypeId} {xs : List Value} (h : w.ownsRow base e 2 (.slice (some ⟨g, 0, none⟩) n c) n xs) (i : Nat) (u : Value) :
    (w.setCell ⟨g, i, none⟩ u).ownsRow base e 2 (.slice (some ⟨g, 0, none⟩) n c) n (xs.set i u) := by
  refine ⟨by simpa using h.1, ?_⟩
  rcases h.2 with ⟨hx, _⟩ | ⟨g', cap, cur, hx, hb, hh, h1, h2, h3, h4⟩
  · cases hx
  · injection hx with hx hn hc
    injection hx with hx
    injection hx with hx
    subst hx
    refine .inr ⟨g, cap, cur.setIfInBounds i u, by rw [hc], hb, ?_, h1, h2, by simpa using h3, ?_⟩
    · simp [World.setCell, Array.getElem?_modify, hh]
    · rw [← h4, Array.toList_setIfInBounds, List.take_set]

/-- the join of the first k of a list -/
def joinTo (D : List (Int × Int)) (k : Nat) : List (Int × Int) := (D.take k).foldl step []
theorem joinTo_succ {D : List (Int × Int)} {k : Nat} (h : k < D.length) : joinTo D (k + 1) = step (joinTo D k) (iv D k) := by
  unfold joinTo; rw [List.take_succ_eq_append_getElem h, List.foldl_append, iv_eq h]; rfl
theorem joinTo_spec {D : List (Int × Int)} (hs : D.Pairwise (fun x y => x.1 ≤ y.1)) (hv : ∀ x ∈ D, x.1 ≤ x.2) : ∀ k, k ≤ D.length →
    NF (joinTo D k) ∧ (∀ n, Mem n (joinTo D k) ↔ Mem n (D.take k)) ∧ (∀ y ∈ joinTo D k, ∀ j, k ≤ j → j < D.length → y.1 ≤ (iv D j).1)
  | 0, _ => ⟨trivial, fun n => by simp [joinTo], fun y hy => by simp [joinTo] at hy⟩
  | k + 1, h => by
    obtain ⟨h1, h2, h3⟩ := joinTo_spec hs hv k (by omega)
    have hk : k < D.length := by omega
    obtain ⟨s1, s2, s3⟩ := step_spec (x := iv D k) h1 (hv _ (by rw [iv_eq hk]; exact List.getElem_mem hk)) (fun y hy => h3 y hy k (Nat.le_refl _) hk)
    rw [joinTo_succ hk]
    refine ⟨s1, fun n => ?_, fun y hy j hj hjl => ?_⟩
    · rw [s2, h2, List.take_succ_eq_append_getElem hk, mem_app, mem_one, iv_eq hk]
    · have a := s3 y hy
      have b := (List.pairwise_iff_getElem.1 hs) k j hk hjl (by omega)
      rw [iv_eq hk] at a
      rw [iv_eq hjl]
      omega
theorem joinTo_len {D : List (Int × Int)} : ∀ k, k ≤ D.length → (joinTo D k).length ≤ k
  | 0, _ => by simp [joinTo]
  | k + 1, h => by
    have ih := joinTo_len (D := D) k (by omega)
    rw [joinTo_succ (by omega)]
    unfold step
    split
    · simp
    · split
      · rename_i h0 _
        have := List.length_pos_iff.2 h0
        simp only [List.length_append, List.length_dropLast, List.length_singleton]; omega
      · simp only [List.length_append, List.length_singleton]; omega

theorem own_cap {w : World} {base n c : Nat} {e : TypeId} {A : Option Addr} {xs : List Value} (h : w.ownsRow base e 2 (.slice A n c) n xs) : n ≤ c := by
  rcases h.2 with ⟨_, h0⟩ | ⟨g, cap, cur, hx, _, _, h1, _⟩
  · omega
  · injection hx with _ _ hc; omega
theorem own_drewN {w : World} {base n : Nat} {e : TypeId} {v : Value} {xs : List Value} (h : w.ownsRow base e 2 v n xs) (k : Nat) : (w.drewN k).ownsRow base e 2 v n xs := h
theorem own_drew {w : World} {base n : Nat} {e : TypeId} {v : Value} {xs : List Value} (h : w.ownsRow base e 2 v n xs) : w.drew.ownsRow base e 2 v n xs := h
theorem list_cases (l : List (Int × Int)) : l = [] ∨ ∃ p z, l = p ++ [z] := by
  rcases List.eq_nil_or_concat l with h | ⟨p, z, h⟩
  · exact .inl h
  · exact .inr ⟨p, z, by simpa using h⟩
theorem own_last {w : World} {base g n c : Nat} {e : TypeId} {p : List (Int × Int)} {z : Int × Int} (h : w.ownsRow base e 2 (.slice (some ⟨g, 0, none⟩) n c) n (encL (p ++ [z]))) :
    w.cell? ⟨g, p.length * 2 + 1, none⟩ = some (.int .i64 z.2) ∧ w.frozen? ⟨g, p.length * 2 + 1, none⟩ = false := by
  have h1 := h.cells (g := g) rfl (p.length * 2 + 1) (.int .i64 z.2) (by
    have := (encL_get (p ++ [z]) p.length (by simp)).2
    rw [iv_eq (by simp)] at this
    simpa using this)
  rw [Addr.add_lit, Nat.zero_add] at h1
  refine ⟨h1, ?_⟩
  rcases h.2 with ⟨hx, _⟩ | ⟨g', cap', cur, hx, _, hh, _⟩
  · cases hx
  · injection hx with hx; injection hx with hx; injection hx with hx
    subst hx
    simp [World.frozen?, hh]

set_option maxHeartbeats 2000000 in
theorem normal_x (b off c : Nat) (ls : List (List (Int × Int))) (w : World) (hl : ls.length ≤ 10) (hf : lenTo ls ls.length ≤ 2000)
    (hr : ReadsLL w w.heap.size b off ls) (hv : errOf (catTo ls ls.length) = 0) :
    Calls Try.prog 46 #[.slice (some ⟨b, off, none⟩) ls.length c] w fun e w' => ∃ A' N' c' R, e = .returned (.slice A' N' c') ∧ N' = R.length ∧ N' ≤ lenTo ls ls.length ∧ N' ≤ c' ∧
      Reads w' w'.heap.size 2 A' N' (encL R) ∧ NF R ∧ (∀ n, Mem n R ↔ Mem n (catTo ls ls.length)) ∧ Below w.heap.size w w' := by
  obtain ⟨i0, hi0, hz0, hz1, hz2⟩ := info_parts info23
  obtain ⟨ok1, ok2⟩ := errOf_ok hv
  have hcc := concat_any b off c ls w hl hf hr
  have hLN : lenTo ls ls.length = (catTo ls ls.length).length := rfl
  generalize lenTo ls ls.length = N at *
  generalize catTo ls ls.length = L at *
  have OK1 := Lib.hid ok1; have OK2 := Lib.hid ok2; clear ok1 ok2 hv hr
  have HLN := Lib.hid hLN; clear hLN
  go_enter Try.func46, Try.ntmps46
  go_wp2_with (first
    | (go_at_call 52; refine hcc.mono ?_; rintro e w1 ⟨A1, c1, rfl, hown1, hb1⟩)
    | (go_at_call 53; refine (sort_any A1 N c1 w.heap.size L w1 HLN.out (by omega) hown1 hb1.size).mono ?_; rintro e w2 ⟨rfl, D, hp, hs, hrd, hb2⟩))
  have hbw2 := hb1.trans hb2
  have hND : N = D.length := by rw [HLN.out]; exact hp.length_eq.symm
  subst hND
  have hsp := joinTo_spec hs (fun x hx => OK2.out x (hp.mem_iff.1 hx))
  have hbd : ∀ k, k < D.length → -1000000000000 ≤ (iv D k).1 ∧ (iv D k).1 ≤ 1000000000000 ∧ -1000000000000 ≤ (iv D k).2 ∧ (iv D k).2 ≤ 1000000000000 :=
    fun k hk => (inR_iff _).1 (OK1.out _ (hp.mem_iff.1 (iv_mem hk)))
  have HSP := Lib.hid hsp; have HBD := Lib.hid hbd; have HS := Lib.hid hs; have HP := Lib.hid hp
  clear hsp hbd hs hp
  go_loopw [4, 14] (fun v i wr => ∃ (k : Nat) (A : Option Addr) (c m : Nat), k ≤ D.length ∧ i = .int .i64 k ∧ m = (joinTo D k).length ∧ v = .slice A m c ∧ wr.ownsRow w2.heap.size 23 2 (.slice A m c) m (encL (joinTo D k)) ∧ Below w2.heap.size w2 wr) (fun _ i _ => D.length - (intOf i).toNat)
  case atStart => exact ⟨0, none, 0, 0, Nat.zero_le _, rfl, rfl, rfl, World.ownsRow_nil _ _ _ _, Below.refl _ _⟩
  case round =>
    obtain ⟨k, A2, c2, m, hk, rfl, hm, rfl, hown, hbw⟩ := hrel
    have hml := joinTo_len k hk
    rw [← hm] at hml
    have HM := Lib.hid hm; clear hm
    have hz := hbw.size
    by_cases hlt : k < D.length
    · obtain ⟨ad, rfl, hb, d1, d2⟩ := (hrd.below hbw).iv rfl hlt
      obtain ⟨b1, b2, b3, b4⟩ := HBD.out k hlt
      have HJ := Lib.hid (joinTo_succ hlt)
      have HK := Lib.hid (HSP.out k hk).2.1
      generalize iv D k = x at d1 d2 b1 b2 b3 b4 HJ
      rcases list_cases (joinTo D k) with hJ | ⟨p, z, hJ⟩
      · rw [hJ] at HJ hown HM
        obtain rfl : m = 0 := HM.out
        clear hJ HM
        go_wp2
        go_quiet (fail)
        go_wp2_with (at_builtin
                     refine wpList_append_sl rfl (.tmp 46) (.tmp 48) _ rfl w2.heap.size 23 i0 _ 16 Try.underlying33 hi0 hz0 hz1 hz2 rfl (.slice A2 0 c2) 0 (encL []) rfl
                       ((own_drewN (hown.alloc _) _).alloc _) _ _ 1 1 (encL [x]) rfl (reads_new (w := ((wr.alloc _).drewN nq)) (l := [x]) (by simp) rfl) (encL_one _) 1 (encL [x]) rfl (by simp [encL]) (by simp only [maxLen]; omega) (by omega) w2 ((below_drewN (hbw.alloc hz _) _).alloc (by simp <;> omega) _) (by simp <;> omega) ?_
                     intro A3 c3 w3 hown3 hr3 hbw3 hs3)
        go_roundw
        case rel => exact ⟨k + 1, A3, c3, 1, by omega, by go_num, by rw [HJ.out]; rfl, rfl, by rw [HJ.out]; exact hown3, hbw3⟩
        case measure => simp [intOf]; omega
      · have hlen : (joinTo D k).length = p.length + 1 := by rw [hJ]; simp
        have hsj := HSP.out k hk
        rw [hJ] at HJ hown HM HK hsj
        obtain rfl : m = p.length + 1 := by rw [HM.out]; simp
        clear hJ HM hlen
        obtain ⟨g, cap, hv, hbg, hlg⟩ := hown.form (by omega)
        have hA : A2 = some ⟨g, 0, none⟩ := by injection hv
        subst hA
        obtain ⟨l1, l2⟩ := own_last hown
        have hzb : -1000000000000 ≤ z.2 ∧ z.2 ≤ 1000000000000 := by
          have hz1 := hsj.1.split.2.1
          obtain ⟨y, hy, hy1, hy2⟩ := (hsj.2.1 z.2).1 ((mem_app _ _ _).2 (.inr ((mem_one _ _).2 ⟨hz1, Int.le_refl _⟩)))
          have := (inR_iff _).1 (OK1.out _ (HP.out.mem_iff.1 (List.mem_of_mem_take hy)))
          omega
        obtain ⟨zb1, zb2⟩ := hzb
        clear hsj HK
        have hes := encL_set p z (max z.2 x.2)
        have hst : step (p ++ [z]) x = if x.1 ≤ z.2 + 1 then p ++ [(z.1, max z.2 x.2)] else p ++ [z] ++ [x] := by
          unfold step; rw [if_neg (by simp)]; simp
        have hlp : (p ++ [z]).length = p.length + 1 := by simp
        have hlp2 : (p ++ [(z.1, max z.2 x.2)]).length = p.length + 1 := by simp
        have hlp3 : (p ++ [z] ++ [x]).length = p.length + 2 := by simp
        have hap : encL (p ++ [z] ++ [x]) = encL (p ++ [z]) ++ encL [x] := encL_app _ _
        generalize p.length = q at *
        have HES := Lib.hid hes; have HST := Lib.hid hst; have HL2 := Lib.hid hlp2; have HL3 := Lib.hid hlp3; have HAP := Lib.hid hap
        clear hv hes hst hlp hlp2 hlp3 hap
        by_cases ht : x.1 ≤ z.2 + 1
        · have HST2 : Hid (joinTo D (k + 1) = p ++ [(z.1, max z.2 x.2)]) := Lib.hid (by rw [HJ.out, HST.out, if_pos ht])
          clear HST HJ
          go_wp2
          go_quiet (fail)
          go_wp2
          go_region
          go_wp2
          go_roundw
          case rel =>
            refine ⟨k + 1, some ⟨g, 0, none⟩, c2, q + 1, by omega, by go_num, by rw [HST2.out, HL2.out], rfl, ?_, (below_drewN (hbw.alloc hz _) _).setCell (p := ⟨g, _, none⟩) hbg _⟩
            rw [HST2.out, ← HES.out]
            exact own_set (own_drewN (hown.alloc _) _) _ _
          case measure => simp [intOf]; omega
        · have HST2 : Hid (joinTo D (k + 1) = p ++ [z] ++ [x]) := Lib.hid (by rw [HJ.out, HST.out, if_neg ht])
          clear HST HJ
          go_wp2
          go_quiet (fail)
          go_wp2_with (at_builtin
                       refine wpList_append_sl rfl (.tmp 46) (.tmp 48) _ rfl w2.heap.size 23 i0 _ 16 Try.underlying33 hi0 hz0 hz1 hz2 rfl (.slice (some ⟨g, 0, none⟩) (q + 1) c2) (q + 1) (encL (p ++ [z])) rfl
                         ((own_drewN (hown.alloc _) _).alloc _) _ _ 1 1 (encL [x]) rfl (reads_new (w := ((wr.alloc _).drewN nq)) (l := [x]) (by simp) rfl) (encL_one _) (q + 1 + 1) (encL (p ++ [z] ++ [x])) rfl HAP.out (by simp only [maxLen]; omega) (by omega) w2 ((below_drewN (hbw.alloc hz _) _).alloc (by simp <;> omega) _) (by simp <;> omega) ?_
                       intro A3 c3 w3 hown3 hr3 hbw3 hs3)
          go_roundw
          case rel => exact ⟨k + 1, A3, c3, q + 1 + 1, by omega, by go_num, by rw [HST2.out, HL3.out], rfl, by rw [HST2.out]; exact hown3, hbw3⟩
          case measure => simp [intOf]; omega
    · obtain rfl : k = D.length := by omega
      have hsj := HSP.out D.length (Nat.le_refl _)
      have HSJ := Lib.hid hsj; clear hsj
      go_wp2
      go_ret
      refine ⟨A2, m, c2, joinTo D D.length, rfl, HM.out, hml, own_cap hown, Reads.of_own hown, HSJ.out.1, fun n => ?_, hbw2.trans (bmono hbw hbw2.size)⟩
      rw [HSJ.out.2.1, List.take_length]
      exact ⟨fun ⟨x, hx, h⟩ => ⟨x, HP.out.mem_iff.1 hx, h⟩, fun ⟨x, hx, h⟩ => ⟨x, HP.out.mem_iff.2 hx, h⟩⟩
end Go.Proofs.Ytnpdmohclajmjaa
