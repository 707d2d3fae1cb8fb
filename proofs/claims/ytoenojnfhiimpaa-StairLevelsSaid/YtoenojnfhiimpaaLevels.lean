/- The law StairLevels holds: for every flight the call answers true and leaves its argument as it was. -/
import Derived.Test.YtoenojnfhiimpaaLif
import Derived.Test.YtoenojnfhiimpaaMea
import Derived.Test.YtoenojnfhiimpaaAwk
import Derived.Test.YtoenojnfhiimpaaEvn
namespace Go.Proofs.Ytoenojnfhiimpaa
open Go.ChangeShapes Go.WideShapes Go.ChangeAt Go.RowKit Go.Deep

def lvV (r x : Int) (i : Nat) : List Value := [.int .i64 (lvl r x (i + 1))]
def lls (r x : Int) (n : Nat) : List Int := (List.range n).map fun i => lvl r x (i + 1)
def exk (k : Nat) (x : Int) : Int := if (k : Int) < x then (k : Int) else x
theorem lls_len (r x : Int) (n : Nat) : (lls r x n).length = n := by simp [lls]
theorem lls_enc (r x : Int) : ∀ n : Nat, rowTo (lvV r x) n = encI (lls r x n)
  | 0 => rfl
  | n + 1 => by
    rw [rowTo_succ, lls_enc r x n]
    simp [lls, encI, lvV, List.range_succ]
theorem lls_at {r x : Int} {n k : Nat} (hk : k < n) : lvAt (lls r x n) k = lvl r x (k + 1) := by
  simp [lvAt, lls, List.getD_eq_getElem?_getD, hk]
theorem lls_ri {r x : Int} {n k : Nat} (hk : k < n) : riAt (lls r x n) k = rsI r x k := by
  rcases k with _ | k
  · simp only [riAt, if_true, lls_at hk]
    show lvl r x 0 + rsI r x (0 : Nat) = rsI r x (0 : Nat)
    simp [lvl]
  · rw [riAt_succ, lls_at hk, lls_at (by omega)]
    show lvl r x (k + 1) + rsI r x ((k + 1 : Nat) : Int) - lvl r x (k + 1) = _
    omega
theorem lls_all {r x : Int} {n : Nat} (h1 : 1 ≤ r) (h2 : r ≤ 10000) (hn : n ≤ 64) : ∀ k, k ≤ n → evAll (lls r x n) k = true
  | 0, _ => rfl
  | k + 1, hk => by
    have hb := lvl_bd (x := x) h1 h2 (k + 1)
    have hr := rsI_bd (x := x) (i := (k : Int)) h1 h2
    have h3 : lvl r x (k + 1) = lvl r x k + rsI r x k := rfl
    have hbl : blwAt (lls r x n) k = lvl r x k := by
      rcases k with _ | j
      · simp [blwAt, lvl]
      · rw [blwAt_succ, lls_at (by omega)]
    simp only [evAll, lls_all h1 h2 hn k (by omega), Bool.true_and, evOk, hbl, lls_at (show k < n by omega)]
    simp only [Bool.and_eq_true, decide_eq_true_eq]
    omega
theorem lls_gr {r x : Int} {n : Nat} : ∀ k, k < n → 0 ≤ grAt (lls r x n) k ∧ grAt (lls r x n) k ≤ 1
  | 0, _ => by simp [grAt]
  | k + 1, hk => by
    have h := lls_gr k (by omega) (r := r) (x := x) (n := n)
    have a : ∀ i : Int, r ≤ rsI r x i ∧ rsI r x i ≤ r + 1 := fun i => by unfold rsI; split <;> omega
    have a1 := a ((k + 1 : Nat) : Int)
    have a2 := a (k : Int)
    have e1 := lls_ri (r := r) (x := x) hk
    have e2 := lls_ri (r := r) (x := x) (show k < n by omega)
    show 0 ≤ mx3 _ _ _ ∧ mx3 _ _ _ ≤ 1
    rw [e1, e2]
    unfold mx3; split <;> split <;> omega
theorem lls_E {r x : Int} {n : Nat} (h1 : 1 ≤ r) (h2 : r ≤ 10000) (hn : n ≤ 64) : evE (lls r x n) = if n < 2 then 9 else 0 := by
  have := lls_all (x := x) h1 h2 hn n (Nat.le_refl _)
  simp [evE, lls_len, this, show ¬ 64 < n by omega]
set_option maxHeartbeats 4000000 in
set_option maxRecDepth 100000 in
theorem levels_ok (n : Nat) (r x g wd l : Int) (hv : vldB n r x g wd l = true) (w : World) : Calls Try.prog 9 #[.agg #[.int .i64 n, .int .i64 r, .int .i64 x, .int .i64 g, .int .i64 wd, .int .i64 l]] w fun e w' => e = .returned (.bool true) ∧ Below w.heap.size w w' := by
  obtain ⟨i3_, i3_0, i3_1, i3_2, i3_3⟩ := info_parts (show (Try.prog.info? 3).map (fun i => (i.zero, i.size, i.bytes)) = some (some (.int .i64 0), 1, 8) by kernel_rfl)
  have hb := vldB_iff.1 hv
  obtain ⟨v1, v2, v3, v4, v5, v6, v7, v8, v9, v10, v11, v12, v13⟩ := hb
  have hh := height_any n r x g wd l
  unfold hgtV at hh
  rw [if_pos hv, Int.toNat_natCast] at hh
  generalize (n : Int) * g = ng at hh
  have hL := fun k => slevel_any n r x g wd l k
  unfold levV at hL
  simp only [if_pos hv] at hL
  have hE := fun A cp W hr => even_any A cp (lls r x n) W (by rw [lls_len]; omega) hr
  rw [lls_len, lls_E v3 v4 (by omega)] at hE
  have hbd := fun k => lvl_bd (x := x) v3 v4 k
  have HBD := Lib.hid hbd; have HL := Lib.hid hL; have HE := Lib.hid hE
  clear hv hL hbd hE
  go_enter Try.func9, Try.ntmps9
  go_wp2_with (first | (go_at_call 11; refine (awake_any _).mono ?_; rintro e w1 ⟨rfl, hb1⟩; obtain ⟨hc1, hf1⟩ := bcell hb1; have hz1 := hb1.size; (try simp at hz1); (try have y10 : w.heap.size < w1.heap.size := by omega); (try have y11 : w.heap.size + 1 < w1.heap.size := by omega); (try have y12 : w.heap.size + 1 + 1 < w1.heap.size := by omega)) | (go_at_call 16; refine (hh _).mono ?_; rintro e w2 ⟨rfl, hb2⟩; obtain ⟨hc2, hf2⟩ := bcell hb2; have hz2 := hb2.size; (try simp at hz2); (try have y20 : w.heap.size < w2.heap.size := by omega); (try have y21 : w.heap.size + 1 < w2.heap.size := by omega); (try have y22 : w.heap.size + 1 + 1 < w2.heap.size := by omega)))
  have hK0 : KL [(w.heap.size, 27, #[.int .i64 n, .int .i64 r, .int .i64 x, .int .i64 g, .int .i64 wd, .int .i64 l])] w w2 := ((((KL.nil w).new (g := w.heap.size) rfl 27 _).over hb1).over hb2)
  clear hh hb1 hb2 hc1 hc2 hf1 hf2
  go_loopw [9, 6, 7, 8] (fun i s b e W => ∃ (k : Nat) (A : Option Addr) (c : Nat), k ≤ n ∧ i = .int .i64 k ∧ s = .slice A k c ∧ b = .int .i64 (lvl r x k) ∧ e = .int .i64 (exk k x) ∧ W.ownsRow (w.heap.size + 1) 3 1 (.slice A k c) k (rowTo (lvV r x) k) ∧ KL [(w.heap.size, 27, #[.int .i64 n, .int .i64 r, .int .i64 x, .int .i64 g, .int .i64 wd, .int .i64 l])] w W) (fun i _ _ _ _ => n - (intOf i).toNat)
  case atStart => exact ⟨0, none, 0, Nat.zero_le _, rfl, rfl, rfl, by simp [exk]; omega, ⟨rfl, .inl ⟨rfl, rfl⟩⟩, hK0⟩
  case round =>
    clear hK0
    obtain ⟨k, A, c, hk, rfl, rfl, rfl, rfl, hown, hK⟩ := hrel
    obtain ⟨y0, y1, y2, y3, y4, y5, y6⟩ := bl6 (KL.blk hK (.head _))
    have hwz := hK.1.size
    by_cases hlt : k < n
    · have hle : (k : Int) < (n : Int) := by omega
      have hle2 : (k : Int) < 100 := by omega
      obtain ⟨b1, b2⟩ := HBD.out k
      obtain ⟨b3, b4⟩ := HBD.out (k + 1)
      have hLk := HL.out k
      rw [if_pos (inB_iff.2 ⟨by omega, by omega⟩), show ((k : Int) + 1).toNat = k + 1 by omega] at hLk
      have hs : lvl r x (k + 1) = lvl r x k + rsI r x k := rfl
      have hmk : rowTo (lvV r x) (k + 1) = rowTo (lvV r x) k ++ [.int .i64 (lvl r x (k + 1))] := rowTo_succ _ _
      obtain ⟨V, hV⟩ : ∃ V, V = lvl r x (k + 1) := ⟨_, rfl⟩
      obtain ⟨B, hB⟩ : ∃ B, B = lvl r x k := ⟨_, rfl⟩
      rw [← hV] at hs b3 b4 hLk hmk
      rw [← hB] at hs b1 b2
      rw [← hB]
      have HMK := Lib.hid hmk; have HV := Lib.hid hV
      obtain ⟨X, hX⟩ : ∃ X, X = exk k x := ⟨_, rfl⟩
      rw [← hX]
      clear hmk hV hB
      by_cases hkx : (k : Int) < x
      · have hd : V - B = r + 1 := by unfold rsI at hs; rw [if_pos hkx] at hs; omega
        have hw : IntKind.i64.wrap (V - B) = r + 1 := by rw [hd]; exact IntWalk.i64_in _ (by omega)
        have hXk : X = (k : Int) := by rw [hX]; exact if_pos hkx
        subst hXk
        have hX2 : RowKit.Hid ((k : Int) + 1 = exk (k + 1) x) := Lib.hid (by unfold exk; split <;> omega)
        clear hX hs
        go_wp2_with (first
          | (go_at_call 17; refine (hLk _).mono ?_; rintro e w4 ⟨rfl, hb4⟩; have hz4 := hb4.size; have hown4 := own_below hown hb4; have hK4 := hK.over hb4; obtain ⟨u0, u1, u2, u3, u4, u5, u6⟩ := bl6 (KL.blk hK4 (.head _)))
          | (at_builtin; refine wpList_append_kl rfl (.tmp 75) (.tmp 77) _ rfl (w.heap.size + 1) 3 i3_ _ 1 8 Try.underlying57 i3_0 i3_1 i3_2 i3_3 rfl (by decide) (.slice A k c) k _ rfl (hown4.alloc _) (w4.heap.size + 1) (some ⟨w4.heap.size, 0, none⟩) 1 1 [.int .i64 V] rfl (reads_new (Blk.new _ _ _) rfl (by omega)) (by intro u_ hu_; simp only [List.mem_cons, List.not_mem_nil, or_false] at hu_; subst hu_; rfl) (k + 1) (rowTo (lvV r x) (k + 1)) rfl HMK.out (by simp only [maxLen]; omega) (by omega) (hK4.alloc _) (by simp <;> omega) (by omega) (by simp <;> omega) ?_; intro A5 c5 w5 hown5 hK5 hs5))
        go_roundw
        case rel => exact ⟨k + 1, A5, c5, by omega, by go_num, rfl, by rw [HV.out], by rw [hX2.out], hown5, hK5⟩
        case measure => simp [intOf]; omega
      · have hd : V - B = r := by unfold rsI at hs; rw [if_neg hkx] at hs; omega
        have hw : IntKind.i64.wrap (V - B) = r := by rw [hd]; exact IntWalk.i64_in _ (by omega)
        have hr1 : (r == r + 1) = false := by simp; omega
        have hX2 : RowKit.Hid (X = exk (k + 1) x) := Lib.hid (by rw [hX]; unfold exk; split <;> split <;> omega)
        clear hX hs
        go_wp2_with (first
          | (go_at_call 17; refine (hLk _).mono ?_; rintro e w4 ⟨rfl, hb4⟩; have hz4 := hb4.size; have hown4 := own_below hown hb4; have hK4 := hK.over hb4; obtain ⟨u0, u1, u2, u3, u4, u5, u6⟩ := bl6 (KL.blk hK4 (.head _)))
          | (at_builtin; refine wpList_append_kl rfl (.tmp 75) (.tmp 77) _ rfl (w.heap.size + 1) 3 i3_ _ 1 8 Try.underlying57 i3_0 i3_1 i3_2 i3_3 rfl (by decide) (.slice A k c) k _ rfl (hown4.alloc _) (w4.heap.size + 1) (some ⟨w4.heap.size, 0, none⟩) 1 1 [.int .i64 V] rfl (reads_new (Blk.new _ _ _) rfl (by omega)) (by intro u_ hu_; simp only [List.mem_cons, List.not_mem_nil, or_false] at hu_; subst hu_; rfl) (k + 1) (rowTo (lvV r x) (k + 1)) rfl HMK.out (by simp only [maxLen]; omega) (by omega) (hK4.alloc _) (by simp <;> omega) (by omega) (by simp <;> omega) ?_; intro A5 c5 w5 hown5 hK5 hs5))
        go_roundw
        case rel => exact ⟨k + 1, A5, c5, by omega, by go_num, rfl, by rw [HV.out], by rw [hX2.out], hown5, hK5⟩
        case measure => simp [intOf]; omega
    · obtain rfl : k = n := by omega
      have hX : exk k x = x := by unfold exk; rw [if_neg (by omega)]
      rw [hX]
      have hle : ¬ (k : Int) < (k : Int) := by omega
      obtain ⟨A2, c2, hsl, hrd⟩ := own_slice hown
      injection hsl with e1 e2 e3
      subst e1; subst e3
      have hrd2 := hrd
      rw [lls_enc] at hrd2
      have hEv := HE.out A c wr hrd2
      have hg := lls_gr (r := r) (x := x) (n := k) (k - 1) (by omega)
      generalize lvl r x k = B at *
      by_cases h2 : k < 2
      · have h2' : (k : Int) < 2 := by omega
        rw [if_pos h2] at hEv
        generalize evN (lls r x k) = N at hEv
        clear hg hX hrd hrd2
        go_wp2_with (go_at_call 27; refine hEv.mono ?_; rintro e w6 ⟨rfl, hb6⟩; obtain ⟨u0, u1, u2, u3, u4, u5, u6⟩ := bl6 (KL.blk (hK.over hb6) (.head _)))
        go_ret
        exact ⟨rfl, (hK.over hb6).1⟩
      · have h2' : ¬ (k : Int) < 2 := by omega
        rw [if_neg h2] at hEv
        have hN : evN (lls r x k) ≤ 1 := by
          unfold evN; split
          · rw [lls_len]; exact hg.2
          · decide
        generalize evN (lls r x k) = N at hEv hN
        clear hg hX hrd hrd2
        go_wp2_with (go_at_call 27; refine hEv.mono ?_; rintro e w6 ⟨rfl, hb6⟩; obtain ⟨u0, u1, u2, u3, u4, u5, u6⟩ := bl6 (KL.blk (hK.over hb6) (.head _)))
        go_ret
        exact ⟨rfl, (hK.over hb6).1⟩
set_option maxHeartbeats 4000000 in
set_option maxRecDepth 100000 in
theorem levels_bad (n r x g wd l : Int) (hh : ∀ w, Calls Try.prog 16 #[.agg #[.int .i64 n, .int .i64 r, .int .i64 x, .int .i64 g, .int .i64 wd, .int .i64 l]] w fun e w' => e = .returned (.tuple #[.int .i64 0, .int .i64 0, .int .i64 1]) ∧ Below w.heap.size w w') (w : World) : Calls Try.prog 9 #[.agg #[.int .i64 n, .int .i64 r, .int .i64 x, .int .i64 g, .int .i64 wd, .int .i64 l]] w fun e w' => e = .returned (.bool true) ∧ Below w.heap.size w w' := by
  go_enter Try.func9, Try.ntmps9
  go_wp2_with (first | (go_at_call 11; refine (awake_any _).mono ?_; rintro e w1 ⟨rfl, hb1⟩; obtain ⟨hc1, hf1⟩ := bcell hb1; have hz1 := hb1.size; (try simp at hz1); (try have y10 : w.heap.size < w1.heap.size := by omega); (try have y11 : w.heap.size + 1 < w1.heap.size := by omega); (try have y12 : w.heap.size + 1 + 1 < w1.heap.size := by omega)) | (go_at_call 16; refine (hh _).mono ?_; rintro e w2 ⟨rfl, hb2⟩; obtain ⟨hc2, hf2⟩ := bcell hb2; have hz2 := hb2.size; (try simp at hz2); (try have y20 : w.heap.size < w2.heap.size := by omega); (try have y21 : w.heap.size + 1 < w2.heap.size := by omega); (try have y22 : w.heap.size + 1 + 1 < w2.heap.size := by omega)))
  go_ret
  refine ⟨rfl, ?_⟩
  ((repeat (first | with_reducible exact Below.refl _ _ | with_reducible refine Below.setCell ?_ ?_ _ | with_reducible refine Below.alloc ?_ ?_ _ | with_reducible refine Below.drew ?_ | with_reducible refine below_drewN ?_ _ | (refine Below.trans ?_ (bmono (by assumption) ?_)))); all_goals (first | omega | (simp <;> omega)))
theorem stairLevels_any (n r x g wd l : Int) (w : World) : Calls Try.prog 9 #[.agg #[.int .i64 n, .int .i64 r, .int .i64 x, .int .i64 g, .int .i64 wd, .int .i64 l]] w fun e w' => e = .returned (.bool true) ∧ Below w.heap.size w w' := by
  by_cases hv : vldB n r x g wd l = true
  · have hb := vldB_iff.1 hv
    obtain ⟨k, hk⟩ : ∃ k : Nat, n = k := ⟨n.toNat, by omega⟩
    subst hk
    exact levels_ok k r x g wd l hv w
  · have hh := height_any n r x g wd l
    unfold hgtV at hh
    rw [if_neg hv] at hh
    exact levels_bad n r x g wd l hh w

set_option maxHeartbeats 800000 in
set_option maxRecDepth 100000 in
theorem stairLevels_lifted (os : Os) (started : os.Started) (H : Type) (enc : TypeId × Value → H) :
    ReturnsInHanded {} Try.checked os 9 .any (Rows.stairLevelsSpec.pre6 enc Try.prog Try.f9 Rows.stairLevelsRow.domain false) (Rows.stairLevelsSpec.post enc Try.prog Try.f9 false true false false) := by
  refine returnsInHanded_of_change (C := Try.checked) Try.own started (by kernel_rfl) Try.func9
    (ChangeSpec.witness6 (enc := enc) (C := Try.checked) false ⟨#[], #[.agg #[.int .i64 0, .int .i64 0, .int .i64 0, .int .i64 0, .int .i64 0, .int .i64 0]], []⟩ 8 (by kernel_rfl) (by kernel_rfl) (by kernel_rfl) (by kernel_rfl)) ?_
  intro W base args ds gs before hval0 hW _ _
  have hval : ∀ (j : Nat) t v, Try.f9.params[j]? = some t → args[j]? = some v → Value.okWide Try.prog W .any base t v := hval0
  have hW' := hW
  obtain ⟨p, q, hA0, hV, rfl, _, _⟩ := hW
  have hA : DataW.TrodAll enc Try.prog W 0 (fun _ => true) true Try.f9.params.toList args.toList ds p := hA0
  rw [Try.params9] at hA hval
  obtain ⟨v0, d0, rfl, rfl, h0⟩ := trodAll_one hA
  obtain ⟨rfl, rfl⟩ := trodVars_none hV
  clear hA0 hval0
  simp only [List.append_nil] at hW'
  have harg0 : ∀ W' : World, Below W.heap.size W W' → DataW.Trod enc Try.prog W' 0 (fun b => decide (b < W.heap.size)) true 27 v0 d0 p :=
    fun W' hn => Below.trod Try.laidOut (by kernel_rfl) (of_decide_eq_true (by kernel_rfl)) h0 hn (fun y hy => by simpa using hW'.lt y (by simp [hy]))
  obtain ⟨n, r, x, g, wd, l, rfl⟩ := open_fl (hval 0 27 v0 rfl rfl) h0
  refine (stairLevels_any n r x g wd l W).mono fun e W' ⟨he, hn⟩ => ?_
  subst he
  exact ⟨_, rfl, _, _, _, [], _, [], hW', trodAll_mk1 (shut_bool Try.underlying4 _), trodAll_mk1 (harg0 _ hn), (List.append_nil _).symm, hn.frame _, fun h => by cases h⟩

theorem stairLevels_holds : Rows.StairLevelsSaid :=
  OpenClaim.holds_of_wide 9 Try.f9 rfl rfl rfl rfl rfl rfl rfl ⟨rfl, rfl, rfl, rfl, rfl⟩ rfl rfl rfl rfl rfl (by kernel_rfl) Try.func9 (by kernel_rfl)
    (of_decide_eq_true (by kernel_rfl)) (by unfold Func.isWrapper; first | (rw [if_pos (by decide +kernel)]; kernel_rfl) | (rw [if_neg (by decide +kernel)]; exact ⟨rfl, rfl⟩))
    (fun os started H enc _ => stairLevels_lifted os started H enc)
end Go.Proofs.Ytoenojnfhiimpaa
