/- The law StairSpread holds: for every flight, every tolerance and all deviations the call answers true and leaves its arguments as they were. -/
import Derived.Test.YtoenojnfhiimpaaLif
import Derived.Test.YtoenojnfhiimpaaMea
import Derived.Test.YtoenojnfhiimpaaAwk
namespace Go.Proofs.Ytoenojnfhiimpaa
open Go.ChangeShapes Go.WideShapes Go.ChangeAt Go.RowKit Go.Deep

set_option maxHeartbeats 4000000 in
set_option maxRecDepth 100000 in
theorem spd_err (A : Option Addr) (cp : Nat) (dv : List Int) (n r x g wd l t E : Int) (w : World) (lo hi : Int)
    (hs : ∀ w, Calls Try.prog 23 #[.agg #[.int .i64 n, .int .i64 r, .int .i64 x, .int .i64 g, .int .i64 wd, .int .i64 l], .int .i64 t] w fun e w' => e = .returned (.tuple #[.agg #[.int .i64 lo, .int .i64 hi], .int .i64 E]) ∧ Below w.heap.size w w') (a b c : Int) (hh : ∀ w, Calls Try.prog 16 #[.agg #[.int .i64 n, .int .i64 r, .int .i64 x, .int .i64 g, .int .i64 wd, .int .i64 l]] w fun e w' => e = .returned (.tuple #[.int .i64 a, .int .i64 b, .int .i64 c]) ∧ Below w.heap.size w w') (hE : E = 6 ∨ E = 1) :
    Calls Try.prog 10 #[.agg #[.int .i64 n, .int .i64 r, .int .i64 x, .int .i64 g, .int .i64 wd, .int .i64 l], .int .i64 t, .slice A dv.length cp] w fun e w' => e = .returned (.bool true) ∧ Below w.heap.size w w' := by
  rcases hE with rfl | rfl
  · go_enter Try.func10, Try.ntmps10
    go_wp2_with (first | (go_at_call 11; refine (awake_any _).mono ?_; rintro e w1 ⟨rfl, hb1⟩; obtain ⟨hc1, hf1⟩ := bcell hb1; have hz1 := hb1.size; (try simp at hz1); (try have y10 : w.heap.size < w1.heap.size := by omega); (try have y11 : w.heap.size + 1 < w1.heap.size := by omega); (try have y12 : w.heap.size + 1 + 1 < w1.heap.size := by omega)) | (go_at_call 23; refine (hs _).mono ?_; rintro e w2 ⟨rfl, hb2⟩; obtain ⟨hc2, hf2⟩ := bcell hb2; have hz2 := hb2.size; (try simp at hz2); (try have y20 : w.heap.size < w2.heap.size := by omega); (try have y21 : w.heap.size + 1 < w2.heap.size := by omega); (try have y22 : w.heap.size + 1 + 1 < w2.heap.size := by omega)) | (go_at_call 16; refine (hh _).mono ?_; rintro e w3 ⟨rfl, hb3⟩; obtain ⟨hc3, hf3⟩ := bcell hb3; have hz3 := hb3.size; (try simp at hz3); (try have y30 : w.heap.size < w3.heap.size := by omega); (try have y31 : w.heap.size + 1 < w3.heap.size := by omega); (try have y32 : w.heap.size + 1 + 1 < w3.heap.size := by omega)))
    go_ret
    refine ⟨rfl, ?_⟩
    ((repeat (first | with_reducible exact Below.refl _ _ | with_reducible refine Below.setCell ?_ ?_ _ | with_reducible refine Below.alloc ?_ ?_ _ | with_reducible refine Below.drew ?_ | with_reducible refine below_drewN ?_ _ | (refine Below.trans ?_ (bmono (by assumption) ?_)))); all_goals (first | omega | (simp <;> omega)))
  · go_enter Try.func10, Try.ntmps10
    go_wp2_with (first | (go_at_call 11; refine (awake_any _).mono ?_; rintro e w1 ⟨rfl, hb1⟩; obtain ⟨hc1, hf1⟩ := bcell hb1; have hz1 := hb1.size; (try simp at hz1); (try have y10 : w.heap.size < w1.heap.size := by omega); (try have y11 : w.heap.size + 1 < w1.heap.size := by omega); (try have y12 : w.heap.size + 1 + 1 < w1.heap.size := by omega)) | (go_at_call 23; refine (hs _).mono ?_; rintro e w2 ⟨rfl, hb2⟩; obtain ⟨hc2, hf2⟩ := bcell hb2; have hz2 := hb2.size; (try simp at hz2); (try have y20 : w.heap.size < w2.heap.size := by omega); (try have y21 : w.heap.size + 1 < w2.heap.size := by omega); (try have y22 : w.heap.size + 1 + 1 < w2.heap.size := by omega)) | (go_at_call 16; refine (hh _).mono ?_; rintro e w3 ⟨rfl, hb3⟩; obtain ⟨hc3, hf3⟩ := bcell hb3; have hz3 := hb3.size; (try simp at hz3); (try have y30 : w.heap.size < w3.heap.size := by omega); (try have y31 : w.heap.size + 1 < w3.heap.size := by omega); (try have y32 : w.heap.size + 1 + 1 < w3.heap.size := by omega)))
    go_ret
    refine ⟨rfl, ?_⟩
    ((repeat (first | with_reducible exact Below.refl _ _ | with_reducible refine Below.setCell ?_ ?_ _ | with_reducible refine Below.alloc ?_ ?_ _ | with_reducible refine Below.drew ?_ | with_reducible refine below_drewN ?_ _ | (refine Below.trans ?_ (bmono (by assumption) ?_)))); all_goals (first | omega | (simp <;> omega)))
set_option maxHeartbeats 4000000 in
set_option maxRecDepth 100000 in
theorem spd_len (A : Option Addr) (cp : Nat) (dv : List Int) (n r x g wd l t : Int) (w : World) (lo hi : Int)
    (hs : ∀ w, Calls Try.prog 23 #[.agg #[.int .i64 n, .int .i64 r, .int .i64 x, .int .i64 g, .int .i64 wd, .int .i64 l], .int .i64 t] w fun e w' => e = .returned (.tuple #[.agg #[.int .i64 lo, .int .i64 hi], .int .i64 0]) ∧ Below w.heap.size w w') (a b : Int) (hh : ∀ w, Calls Try.prog 16 #[.agg #[.int .i64 n, .int .i64 r, .int .i64 x, .int .i64 g, .int .i64 wd, .int .i64 l]] w fun e w' => e = .returned (.tuple #[.int .i64 a, .int .i64 b, .int .i64 0]) ∧ Below w.heap.size w w') (hE : (64 : Int) < (dv.length : Int)) :
    Calls Try.prog 10 #[.agg #[.int .i64 n, .int .i64 r, .int .i64 x, .int .i64 g, .int .i64 wd, .int .i64 l], .int .i64 t, .slice A dv.length cp] w fun e w' => e = .returned (.bool true) ∧ Below w.heap.size w w' := by
  go_enter Try.func10, Try.ntmps10
  go_wp2_with (first | (go_at_call 11; refine (awake_any _).mono ?_; rintro e w1 ⟨rfl, hb1⟩; obtain ⟨hc1, hf1⟩ := bcell hb1; have hz1 := hb1.size; (try simp at hz1); (try have y10 : w.heap.size < w1.heap.size := by omega); (try have y11 : w.heap.size + 1 < w1.heap.size := by omega); (try have y12 : w.heap.size + 1 + 1 < w1.heap.size := by omega)) | (go_at_call 23; refine (hs _).mono ?_; rintro e w2 ⟨rfl, hb2⟩; obtain ⟨hc2, hf2⟩ := bcell hb2; have hz2 := hb2.size; (try simp at hz2); (try have y20 : w.heap.size < w2.heap.size := by omega); (try have y21 : w.heap.size + 1 < w2.heap.size := by omega); (try have y22 : w.heap.size + 1 + 1 < w2.heap.size := by omega)) | (go_at_call 16; refine (hh _).mono ?_; rintro e w3 ⟨rfl, hb3⟩; obtain ⟨hc3, hf3⟩ := bcell hb3; have hz3 := hb3.size; (try simp at hz3); (try have y30 : w.heap.size < w3.heap.size := by omega); (try have y31 : w.heap.size + 1 < w3.heap.size := by omega); (try have y32 : w.heap.size + 1 + 1 < w3.heap.size := by omega)))
  go_ret
  refine ⟨rfl, ?_⟩
  ((repeat (first | with_reducible exact Below.refl _ _ | with_reducible refine Below.setCell ?_ ?_ _ | with_reducible refine Below.alloc ?_ ?_ _ | with_reducible refine Below.drew ?_ | with_reducible refine below_drewN ?_ _ | (refine Below.trans ?_ (bmono (by assumption) ?_)))); all_goals (first | omega | (simp <;> omega)))
set_option maxHeartbeats 4000000 in
set_option maxRecDepth 100000 in
theorem spd_ok (A : Option Addr) (cp : Nat) (dv : List Int) (n r x g wd l t : Int) (w : World) (lo hi h b nt : Int) (hr : Reads w w.heap.size 1 A dv.length (encI dv))
    (hs : ∀ w, Calls Try.prog 23 #[.agg #[.int .i64 n, .int .i64 r, .int .i64 x, .int .i64 g, .int .i64 wd, .int .i64 l], .int .i64 t] w fun e w' => e = .returned (.tuple #[.agg #[.int .i64 lo, .int .i64 hi], .int .i64 0]) ∧ Below w.heap.size w w') (hh : ∀ w, Calls Try.prog 16 #[.agg #[.int .i64 n, .int .i64 r, .int .i64 x, .int .i64 g, .int .i64 wd, .int .i64 l]] w fun e w' => e = .returned (.tuple #[.int .i64 h, .int .i64 b, .int .i64 0]) ∧ Below w.heap.size w w')
    (hE : (dv.length : Int) ≤ 64) (e1 : n * t = nt) (e2 : h - nt = lo) (e3 : h + nt = hi) (t0 : 0 ≤ t) (t1 : t ≤ 1000) (n1 : 1 ≤ n) (n2 : n ≤ 64) (h0 : 0 ≤ h) (h1 : h ≤ 1000000) :
    Calls Try.prog 10 #[.agg #[.int .i64 n, .int .i64 r, .int .i64 x, .int .i64 g, .int .i64 wd, .int .i64 l], .int .i64 t, .slice A dv.length cp] w fun e w' => e = .returned (.bool true) ∧ Below w.heap.size w w' := by
  have hm := mul_bd (a := n) (b := t) (A := 64) (B := 1000) (by omega) n2 t0 t1
  rw [e1] at hm
  have w1_ : IntKind.i64.wrap (n * t) = nt := by rw [← e1]; exact IntWalk.i64_in _ (by omega)
  have w2_ : IntKind.i64.wrap (h - nt) = lo := by rw [← e2]; exact IntWalk.i64_in _ (by omega)
  have w3_ : IntKind.i64.wrap (h + nt) = hi := by rw [← e3]; exact IntWalk.i64_in _ (by omega)
  have E1 := Lib.hid e1; have E2 := Lib.hid e2; have E3 := Lib.hid e3
  clear e1 e2 e3
  by_cases hn : (dv.length : Int) = n
  · go_enter Try.func10, Try.ntmps10
    have HN := Lib.hid hn
    have hnb : ((dv.length : Int) != n) = false := by simp [hn]
    clear hn
    go_wp2_with (first | (go_at_call 11; refine (awake_any _).mono ?_; rintro e w1 ⟨rfl, hb1⟩; obtain ⟨hc1, hf1⟩ := bcell hb1; have hz1 := hb1.size; (try simp at hz1); (try have y10 : w.heap.size < w1.heap.size := by omega); (try have y11 : w.heap.size + 1 < w1.heap.size := by omega); (try have y12 : w.heap.size + 1 + 1 < w1.heap.size := by omega)) | (go_at_call 23; refine (hs _).mono ?_; rintro e w2 ⟨rfl, hb2⟩; obtain ⟨hc2, hf2⟩ := bcell hb2; have hz2 := hb2.size; (try simp at hz2); (try have y20 : w.heap.size < w2.heap.size := by omega); (try have y21 : w.heap.size + 1 < w2.heap.size := by omega); (try have y22 : w.heap.size + 1 + 1 < w2.heap.size := by omega)) | (go_at_call 16; refine (hh _).mono ?_; rintro e w3 ⟨rfl, hb3⟩; obtain ⟨hc3, hf3⟩ := bcell hb3; have hz3 := hb3.size; (try simp at hz3); (try have y30 : w.heap.size < w3.heap.size := by omega); (try have y31 : w.heap.size + 1 < w3.heap.size := by omega); (try have y32 : w.heap.size + 1 + 1 < w3.heap.size := by omega)))
    clear w1_ w2_ w3_
    have hK : KL [(w2.heap.size, 23, #[.int .i64 lo, .int .i64 hi]), (w.heap.size, 27, #[.int .i64 n, .int .i64 r, .int .i64 x, .int .i64 g, .int .i64 wd, .int .i64 l])] w w3 := by
      refine KL.over (W := w2.alloc (.cells #[.int .i64 lo, .int .i64 hi] 23)) ?_ hb3
      refine KL.new (W := w2) (g := w2.heap.size) ?_ rfl 23 _
      refine KL.over (W := w1) ?_ hb2
      exact KL.over ((KL.nil w).new (g := w.heap.size) rfl 27 _) hb1
    clear hb1 hb2 hb3 hc1 hc2 hc3 hf1 hf2 hf3
    go_loopw [12, 9] (fun i s W => ∃ (k : Nat) (hk : Int), k ≤ dv.length ∧ i = .int .i64 k ∧ s = .int .i64 hk ∧ h - (k : Int) * t ≤ hk ∧ hk ≤ h + (k : Int) * t ∧ KL [(w2.heap.size, 23, #[.int .i64 lo, .int .i64 hi]), (w.heap.size, 27, #[.int .i64 n, .int .i64 r, .int .i64 x, .int .i64 g, .int .i64 wd, .int .i64 l])] w W) (fun i _ _ => dv.length - (intOf i).toNat)
    case atStart => exact ⟨0, h, Nat.zero_le _, rfl, rfl, by omega, by omega, hK⟩
    case round =>
      obtain ⟨k, hk, hkl, rfl, rfl, b1, b2, hKr⟩ := hrel
      obtain ⟨y0, y1, y2⟩ := bl2 (KL.blk hKr (.head _))
      have hr' := hr.below hKr.1
      clear hK
      by_cases hlt : k < dv.length
      · obtain ⟨ad, rfl, hb, hc⟩ := reads_lv hr' hlt
        have hle : (k : Int) < (dv.length : Int) := by omega
        have hm2 := mul_bd (a := (k : Int)) (b := t) (A := 64) (B := 1000) (by omega) (by omega) t0 t1
        have HM := Lib.hid hm2
        clear hkl
        generalize lvAt dv k = v at *
        by_cases c1 : v < -t
        · go_wp2
          go_ret
          exact ⟨rfl, hKr.1⟩
        · by_cases c2 : t < v
          · go_wp2
            go_ret
            exact ⟨rfl, hKr.1⟩
          · have hs1 : ((k + 1 : Nat) : Int) * t = (k : Int) * t + t := by rw [show ((k + 1 : Nat) : Int) = (k : Int) + 1 by omega, Int.add_mul, Int.one_mul]
            have B1 : RowKit.Hid (h - ((k + 1 : Nat) : Int) * t ≤ hk + v) := Lib.hid (by rw [hs1]; omega)
            have B2 : RowKit.Hid (hk + v ≤ h + ((k + 1 : Nat) : Int) * t) := Lib.hid (by rw [hs1]; omega)
            have hv : IntKind.i64.wrap (hk + v) = hk + v := IntWalk.i64_in _ (by omega)
            clear b1 b2 hm2 hs1
            go_wp2
            go_roundw
            case rel => exact ⟨k + 1, hk + v, by omega, by go_num, rfl, B1.out, B2.out, hKr⟩
            case measure => simp [intOf]; omega
      · obtain rfl : k = dv.length := by omega
        have a1 : lo ≤ hk := by have := E1.out; have := E2.out; rw [HN.out] at b1; omega
        have a2 : hk ≤ hi := by have := E1.out; have := E3.out; rw [HN.out] at b2; omega
        clear b1 b2
        go_wp2
        go_ret
        exact ⟨rfl, hKr.1⟩
  · have hnb : ((dv.length : Int) != n) = true := by simpa using hn
    go_enter Try.func10, Try.ntmps10
    go_wp2_with (first | (go_at_call 11; refine (awake_any _).mono ?_; rintro e w1 ⟨rfl, hb1⟩; obtain ⟨hc1, hf1⟩ := bcell hb1; have hz1 := hb1.size; (try simp at hz1); (try have y10 : w.heap.size < w1.heap.size := by omega); (try have y11 : w.heap.size + 1 < w1.heap.size := by omega); (try have y12 : w.heap.size + 1 + 1 < w1.heap.size := by omega)) | (go_at_call 23; refine (hs _).mono ?_; rintro e w2 ⟨rfl, hb2⟩; obtain ⟨hc2, hf2⟩ := bcell hb2; have hz2 := hb2.size; (try simp at hz2); (try have y20 : w.heap.size < w2.heap.size := by omega); (try have y21 : w.heap.size + 1 < w2.heap.size := by omega); (try have y22 : w.heap.size + 1 + 1 < w2.heap.size := by omega)) | (go_at_call 16; refine (hh _).mono ?_; rintro e w3 ⟨rfl, hb3⟩; obtain ⟨hc3, hf3⟩ := bcell hb3; have hz3 := hb3.size; (try simp at hz3); (try have y30 : w.heap.size < w3.heap.size := by omega); (try have y31 : w.heap.size + 1 < w3.heap.size := by omega); (try have y32 : w.heap.size + 1 + 1 < w3.heap.size := by omega)))
    go_ret
    refine ⟨rfl, ?_⟩
    ((repeat (first | with_reducible exact Below.refl _ _ | with_reducible refine Below.setCell ?_ ?_ _ | with_reducible refine Below.alloc ?_ ?_ _ | with_reducible refine Below.drew ?_ | with_reducible refine below_drewN ?_ _ | (refine Below.trans ?_ (bmono (by assumption) ?_)))); all_goals (first | omega | (simp <;> omega)))
theorem stairSpread_any (A : Option Addr) (cp : Nat) (dv : List Int) (n r x g wd l t : Int) (w : World) (hr : Reads w w.heap.size 1 A dv.length (encI dv)) :
    Calls Try.prog 10 #[.agg #[.int .i64 n, .int .i64 r, .int .i64 x, .int .i64 g, .int .i64 wd, .int .i64 l], .int .i64 t, .slice A dv.length cp] w fun e w' => e = .returned (.bool true) ∧ Below w.heap.size w w' := by
  have hs := spread_any n r x g wd l t
  have hh := height_any n r x g wd l
  unfold sprV at hs
  unfold hgtV at hh
  by_cases hv : vldB n r x g wd l = true
  · rw [if_pos hv] at hs hh
    have hb := vldB_iff.1 hv
    by_cases ht : inB t 0 1000 = true
    · rw [if_pos ht] at hs
      have htt := inB_iff.1 ht
      by_cases hl : (64 : Int) < (dv.length : Int)
      · exact spd_len A cp dv n r x g wd l t w _ _ hs _ _ hh hl
      · have hlb := lvl_bd (x := x) (show 1 ≤ r by omega) (show r ≤ 10000 by omega) n.toNat
        exact spd_ok A cp dv n r x g wd l t w _ _ _ _ _ hr hs hh (by omega) rfl rfl rfl (by omega) (by omega) (by omega) (by omega) (by omega) (by omega)
    · rw [if_neg ht] at hs
      exact spd_err A cp dv n r x g wd l t 6 w _ _ hs _ _ _ hh (.inl rfl)
  · rw [if_neg hv] at hs hh
    exact spd_err A cp dv n r x g wd l t 1 w _ _ hs _ _ _ hh (.inr rfl)

set_option maxHeartbeats 800000 in
set_option maxRecDepth 100000 in
theorem stairSpread_lifted (os : Os) (started : os.Started) (H : Type) (enc : TypeId × Value → H) :
    ReturnsInHanded {} Try.checked os 10 .any (Rows.stairSpreadSpec.pre6 enc Try.prog Try.f10 Rows.stairSpreadRow.domain false) (Rows.stairSpreadSpec.post enc Try.prog Try.f10 false true false false) := by
  refine returnsInHanded_of_change (C := Try.checked) Try.own started (by kernel_rfl) Try.func10
    (ChangeSpec.witness6 (enc := enc) (C := Try.checked) false ⟨#[], #[.agg #[.int .i64 0, .int .i64 0, .int .i64 0, .int .i64 0, .int .i64 0, .int .i64 0], .int .i64 0, .slice none 0 0], []⟩ 8 (by kernel_rfl) (by kernel_rfl) (by kernel_rfl) (by kernel_rfl)) ?_
  intro W base args ds gs before hval0 hW _ _
  have hval : ∀ (j : Nat) t v, Try.f10.params[j]? = some t → args[j]? = some v → Value.okWide Try.prog W .any base t v := hval0
  have hW' := hW
  obtain ⟨p, q, hA0, hV, rfl, _, _⟩ := hW
  have hA : DataW.TrodAll enc Try.prog W 0 (fun _ => true) true Try.f10.params.toList args.toList ds p := hA0
  rw [Try.params10] at hA hval
  obtain ⟨v0, v1, v2, d0, d1, d2, p0, p1, p2, rfl, rfl, rfl, h0, h1, h2⟩ := trodAll_three hA
  obtain ⟨rfl, rfl⟩ := trodVars_none hV
  clear hA0 hval0
  simp only [List.append_nil] at hW'
  have harg0 : ∀ W' : World, Below W.heap.size W W' → DataW.Trod enc Try.prog W' 0 (fun b => decide (b < W.heap.size)) true 27 v0 d0 p0 :=
    fun W' hn => Below.trod Try.laidOut (by kernel_rfl) (of_decide_eq_true (by kernel_rfl)) h0 hn (fun y hy => by simpa using hW'.lt y (by simp [hy]))
  have harg1 : ∀ W' : World, Below W.heap.size W W' → DataW.Trod enc Try.prog W' 0 (fun b => decide (b < W.heap.size)) true 3 v1 d1 p1 :=
    fun W' hn => Below.trod Try.laidOut (by kernel_rfl) (of_decide_eq_true (by kernel_rfl)) h1 hn (fun y hy => by simpa using hW'.lt y (by simp [hy]))
  have harg2 : ∀ W' : World, Below W.heap.size W W' → DataW.Trod enc Try.prog W' 0 (fun b => decide (b < W.heap.size)) true 57 v2 d2 p2 :=
    fun W' hn => Below.trod Try.laidOut (by kernel_rfl) (of_decide_eq_true (by kernel_rfl)) h2 hn (fun y hy => by simpa using hW'.lt y (by simp [hy]))
  obtain ⟨n, r, x, g, wd, l, rfl⟩ := open_fl (hval 0 27 v0 rfl rfl) h0
  obtain ⟨t, rfl, _, _, _⟩ := open_int Try.underlying3 (hval 1 3 v1 rfl rfl) h1
  obtain ⟨A, _, cp, dv, rfl, rfl, hmx, hr⟩ := open_lv (hval 2 57 v2 rfl rfl) h2
  refine (stairSpread_any A cp dv n r x g wd l t W hr).mono fun e W' ⟨he, hn⟩ => ?_
  subst he
  exact ⟨_, rfl, _, _, _, [], _, [], hW', trodAll_mk1 (shut_bool Try.underlying4 _), trodAll_mk3 (harg0 _ hn) (harg1 _ hn) (harg2 _ hn), (List.append_nil _).symm, hn.frame _, fun h => by cases h⟩

theorem stairSpread_holds : Rows.StairSpreadSaid :=
  OpenClaim.holds_of_wide 10 Try.f10 rfl rfl rfl rfl rfl rfl rfl ⟨rfl, rfl, rfl, rfl, rfl⟩ rfl rfl rfl rfl rfl (by kernel_rfl) Try.func10 (by kernel_rfl)
    (of_decide_eq_true (by kernel_rfl)) (by unfold Func.isWrapper; first | (rw [if_pos (by decide +kernel)]; kernel_rfl) | (rw [if_neg (by decide +kernel)]; exact ⟨rfl, rfl⟩))
    (fun os started H enc _ => stairSpread_lifted os started H enc)
end Go.Proofs.Ytoenojnfhiimpaa
