/- The walk of span.common: what it returns reads as 'com' of the two lists. Lists are of at most two thousand intervals. -/
import Derived.Test.YtnpdmohclajmjaaAwake
import Derived.Test.YtnpdmohclajmjaaOps
import Derived.Deep.CutRange
import Derived.Deep.DeepCutAuto
namespace Go.Proofs.Ytnpdmohclajmjaa
open Go.RowKit

theorem encL_drop1 (x : Int × Int) (l : List (Int × Int)) : (encL (x :: l)).drop 2 = encL l := by simp [encL, encIv]
theorem list_cons (l : List (Int × Int)) : l = [] ∨ ∃ x r, l = x :: r := by cases l with
  | nil => exact .inl rfl
  | cons x r => exact .inr ⟨x, r, rfl⟩

theorem own_below {w w' : World} {base n : Nat} {e : TypeId} {v : Value} {xs : List Value} (h : w.ownsRow base e 2 v n xs) (hb : Below w.heap.size w w') : w'.ownsRow base e 2 v n xs :=
  h.kept (row := none) ⟨hb.os, hb.tape, hb.output, hb.size, fun k hk _ => hb.block k hk⟩ (by cases v.ownBlock <;> simp)
theorem cut_late {wr w1 : World} {bm : Bool} {a b : Int} (hb : Below wr.drew.heap.size wr.drew w1) :
    ∃ g : Nat, Value.pointer (some ⟨w1.heap.size, 0, none⟩) = .pointer (some ⟨g, 0, none⟩) ∧ Value.bool bm = .bool bm ∧ Blk (w1.alloc (.cells #[.int .i64 a, .int .i64 b] 23)) g 23 #[.int .i64 a, .int .i64 b] ∧ wr.heap.size ≤ g ∧ Below wr.heap.size wr (w1.alloc (.cells #[.int .i64 a, .int .i64 b] 23)) :=
  ⟨w1.heap.size, rfl, rfl, Blk.new _ _ _, hb.size, (((Below.refl _ _).drew).trans hb).alloc hb.size _⟩
theorem cut_early {wr w1 : World} {bm : Bool} {a b : Int} (hb : Below (wr.alloc (.cells #[.int .i64 0, .int .i64 0] 23)).drew.heap.size (wr.alloc (.cells #[.int .i64 0, .int .i64 0] 23)).drew w1) :
    ∃ g : Nat, Value.pointer (some ⟨wr.heap.size, 0, none⟩) = .pointer (some ⟨g, 0, none⟩) ∧ Value.bool bm = .bool bm ∧ Blk ((w1.setCell ⟨wr.heap.size, 0, none⟩ (.int .i64 a)).setCell ⟨wr.heap.size, 1, none⟩ (.int .i64 b)) g 23 #[.int .i64 a, .int .i64 b] ∧ wr.heap.size ≤ g ∧ Below wr.heap.size wr ((w1.setCell ⟨wr.heap.size, 0, none⟩ (.int .i64 a)).setCell ⟨wr.heap.size, 1, none⟩ (.int .i64 b)) :=
  ⟨wr.heap.size, rfl, rfl, blk_put ((Blk.new wr 23 #[.int .i64 0, .int .i64 0]).drew.below hb (by show wr.heap.size < (wr.alloc _).heap.size; simp)), Nat.le_refl _,
    ((((((Below.refl wr.heap.size wr).alloc (Nat.le_refl _) _).drew).trans (bmono hb (by show wr.heap.size ≤ (wr.alloc _).heap.size; simp))).setCell (Nat.le_refl _) _).setCell (Nat.le_refl _) _)⟩

theorem reads_tail {w : World} {B p c : Nat} {ad : Addr} {x : Int × Int} {la : List (Int × Int)} (h : Reads w B 2 (some ad) (p + 1) (encL (x :: la))) (hc : p + 1 ≤ c) :
    Reads w B 2 (if c = 1 then some ad else some { block := ad.block, off := ad.off + 2, spot := none }) p (encL la) := by
  have h1 := h.cut (k := 1) (cap := c) (by omega) hc
  rw [show 1 * 2 = 2 from rfl, encL_drop1, Nat.add_sub_cancel] at h1
  have e : (if c = 1 then some ad else Option.map (fun x => x.add 2) (some ad)) = (if c = 1 then some ad else some { block := ad.block, off := ad.off + 2, spot := none }) := by
    split
    · rfl
    · simp [Addr.add]
  rw [e] at h1
  exact h1

set_option maxHeartbeats 4000000 in
theorem common_any (A B : Option Addr) (n m c d : Nat) (l s : List (Int × Int)) (w : World) (hn : n = l.length) (hm : m = s.length) (hnc : n ≤ c) (hmd : m ≤ d) (hl : n ≤ 2000) (hs : m ≤ 2000)
    (ha : Reads w w.heap.size 2 A n (encL l)) (hb : Reads w w.heap.size 2 B m (encL s)) :
    Calls Try.prog 48 #[.slice A n c, .slice B m d] w fun e w' => ∃ A' N c' R, e = .returned (.slice A' N c') ∧ N = R.length ∧ R = com l s ∧ Reads w' w'.heap.size 2 A' N (encL R) ∧ Below w.heap.size w w' := by
  obtain ⟨i0, hi0, hz0, hz1, hz2⟩ := info_parts info23
  have HN := Lib.hid hn; have HM := Lib.hid hm; clear hn hm
  go_enter Try.func48, Try.ntmps48
  go_wp2
  go_loopw [0, 1, 5] (fun va vb vr wr => ∃ (A' B' R' : Option Addr) (n' m' c' d' e' k : Nat) (la lb r : List (Int × Int)), va = .slice A' n' c' ∧ vb = .slice B' m' d' ∧ vr = .slice R' k e' ∧
      n' = la.length ∧ m' = lb.length ∧ n' ≤ c' ∧ m' ≤ d' ∧ n' ≤ 2000 ∧ m' ≤ 2000 ∧ k + (n' + m') ≤ 4000 ∧ k = r.length ∧ r ++ com la lb = com l s ∧
      Reads w w.heap.size 2 A' n' (encL la) ∧ Reads w w.heap.size 2 B' m' (encL lb) ∧ wr.ownsRow w.heap.size 23 2 (.slice R' k e') k (encL r) ∧ Below w.heap.size w wr) (fun va vb _ _ => (match va with | .slice _ n _ => n | _ => 0) + (match vb with | .slice _ n _ => n | _ => 0))
  case atStart => exact ⟨A, B, none, n, m, c, d, 0, 0, l, s, [], rfl, rfl, rfl, HN.out, HM.out, hnc, hmd, hl, hs, by omega, rfl, rfl, ha, hb, World.ownsRow_nil _ _ _ _, Below.refl _ _⟩
  case round =>
    clear ha hb hnc hmd hl hs HN HM
    obtain ⟨A', B', R', n, m, c, d, e', k, la, lb, r, rfl, rfl, rfl, hn, hm, hnc, hmd, hl, hs, hkn, hk, hcom, ha, hb, hown, hbw⟩ := hrel
    have hz := hbw.size
    have HK := Lib.hid hk; clear hk
    rcases list_cons la with hla | ⟨x, la', hla⟩
    · rw [hla] at hn hcom
      obtain rfl : n = 0 := hn
      have hR : r = com l s := by rw [← hcom]; simp [com]
      have HR := Lib.hid hR; have HM := Lib.hid hm; clear hR hcom hla hm
      go_wp2
      all_goals (go_ret; exact ⟨R', k, e', r, rfl, HK.out, HR.out, Reads.of_own hown, hbw⟩)
    · rcases list_cons lb with hlb | ⟨y, lb', hlb⟩
      · rw [hlb] at hm hcom
        obtain rfl : m = 0 := hm
        have hR : r = com l s := by rw [← hcom, com_nil_right]; simp
        have HR := Lib.hid hR; have HM := Lib.hid hn; clear hR hcom hla hlb hn
        go_wp2
        all_goals (go_ret; exact ⟨R', k, e', r, rfl, HK.out, HR.out, Reads.of_own hown, hbw⟩)
      · subst hla hlb
        obtain ⟨p, hp⟩ : ∃ p, n = p + 1 := ⟨la'.length, by simpa using hn⟩
        obtain ⟨q, hq⟩ : ∃ q, m = q + 1 := ⟨lb'.length, by simpa using hm⟩
        have hpl : p = la'.length := by simp at hn; omega
        have hql : q = lb'.length := by simp at hm; omega
        obtain ⟨ad, rfl, hba, a1, a2⟩ := (ha.below hbw).iv hn (k := 0) (by simp)
        obtain ⟨bd, rfl, hbb, b1, b2⟩ := (hb.below hbw).iv hm (k := 0) (by simp)
        rw [show 0 * 2 = 0 from rfl, Addr.add_zero'] at a1 a2 b1 b2
        rw [show iv (x :: la') 0 = x from rfl] at a1 a2
        rw [show iv (y :: lb') 0 = y from rfl] at b1 b2
        obtain ⟨_, hA, hba', A1, A2⟩ := ha.iv hn (k := 0) (by simp)
        injection hA with hA
        subst hA
        obtain ⟨_, hA, hbb', B1, B2⟩ := hb.iv hm (k := 0) (by simp)
        injection hA with hA
        subst hA
        rw [show 0 * 2 = 0 from rfl, Addr.add_zero'] at A1 A2 B1 B2
        rw [show iv (x :: la') 0 = x from rfl] at A1 A2
        rw [show iv (y :: lb') 0 = y from rfl] at B1 B2
        subst hp hq
        have HPL := Lib.hid hpl; have HQL := Lib.hid hql; have HCOM := Lib.hid hcom
        clear hn hm hpl hql hcom
        have hov := fun W => overlap_any x y W
        have hba2 : ad.block < wr.heap.size := by omega
        have hbb2 : bd.block < wr.heap.size := by omega
        obtain ⟨bm, hbm⟩ : ∃ bm, decide (max x.1 y.1 ≤ min x.2 y.2) = bm := ⟨_, rfl⟩
        rw [hbm] at hov
        have HBM := Lib.hid hbm; clear hbm
        go_upto_region 3 with (fail)
        go_cut [6, 7] from 8 to 43 (fun s6 s7 wx => ∃ g : Nat, s6 = .pointer (some ⟨g, 0, none⟩) ∧ s7 = .bool bm ∧ Blk wx g 23 #[.int .i64 (max x.1 y.1), .int .i64 (min x.2 y.2)] ∧ wr.heap.size ≤ g ∧ Below wr.heap.size wr wx)
        case first =>
          go_region_with (go_at_call 43; refine (hov _).mono ?_; rintro e w1 ⟨rfl, hb1⟩; obtain ⟨hc1, hf1⟩ := bcell hb1; have hz0 : wr.heap.size ≤ w1.heap.size := (by have := hb1.size; simp at this; omega); try have hz1 : wr.heap.size < w1.heap.size := (by have := hb1.size; simp at this; omega))
          all_goals (go_wp2_with fail; go_meet)
          all_goals first | exact cut_late hb1 | exact cut_early hb1
        case rest =>
          obtain ⟨g, rfl, rfl, hblk, hg, hbx⟩ := hcut
          have hown2 := own_below hown hbx
          have hbw2 := hbw.trans (bmono hbx hz)
          have hzc : w.heap.size ≤ wc.heap.size := hbw2.size
          obtain ⟨f1, f2, _, _⟩ := blk_facts hblk
          have hgl := hblk.lt
          have a1' := (hbx.cell (p := ad) hba2).trans a1
          have a2' := (hbx.cell (p := ⟨ad.block, ad.off + 1, none⟩) hba2).trans a2
          have b1' := (hbx.cell (p := bd) hbb2).trans b1
          have b2' := (hbx.cell (p := ⟨bd.block, bd.off + 1, none⟩) hbb2).trans b2
          clear a1 a2 b1 b2 hown hbw hbx hz hblk hov hba2 hbb2
          cases bm
          · by_cases hlt : x.2 < y.2
            · skip
              go_wp2
              go_quiet (fail)
              go_wp2
              go_roundw
              case rel => exact ⟨_, some bd, R', p, q + 1, c - 1, d, e', k, la', y :: lb', r, rfl, rfl, rfl, HPL.out, by simp [HQL.out], by omega, hmd, by omega, hs, by omega, HK.out, (by have h := HCOM.out; have hd := HBM.out; rw [decide_eq_false_iff_not] at hd; rw [com, if_neg hd, if_pos (by omega)] at h; simpa using h), reads_tail ha hnc, hb, own_drewN hown2 _, below_drewN hbw2 _⟩
              case measure => simp <;> omega
            · skip
              go_wp2
              go_quiet (fail)
              go_wp2
              go_roundw
              case rel => exact ⟨some ad, _, R', p + 1, q, c, d - 1, e', k, x :: la', lb', r, rfl, rfl, rfl, by simp [HPL.out], HQL.out, hnc, by omega, hl, by omega, by omega, HK.out, (by have h := HCOM.out; have hd := HBM.out; rw [decide_eq_false_iff_not] at hd; rw [com, if_neg hd, if_neg (by omega)] at h; simpa using h), ha, reads_tail hb hmd, own_drewN hown2 _, below_drewN hbw2 _⟩
              case measure => simp <;> omega
          · by_cases hlt : x.2 < y.2
            · skip
              go_wp2_with (at_builtin
                           refine wpList_append_sl rfl (.tmp 27) (.tmp 29) _ rfl w.heap.size 23 i0 _ 16 Try.underlying33 hi0 hz0 hz1 hz2 rfl (.slice R' k e') k (encL r) rfl
                             (hown2.alloc _) _ _ 1 1 (encL [(max x.1 y.1, min x.2 y.2)]) rfl (reads_new (w := wc) (l := [(max x.1 y.1, min x.2 y.2)]) rfl rfl) (encL_one _) (k + 1) (encL (r ++ [(max x.1 y.1, min x.2 y.2)])) rfl (encL_app _ _) (by simp only [maxLen]; omega) (by omega) w (hbw2.alloc hzc _) (by simp <;> omega) ?_
                           intro A3 c3 w3 hown3 hr3 hbw3 hs3
                           have a2'' := (hbw3.cell (p := ⟨ad.block, ad.off + 1, none⟩) hba).trans A2
                           have b2'' := (hbw3.cell (p := ⟨bd.block, bd.off + 1, none⟩) hbb).trans B2)
              go_quiet (fail)
              go_wp2
              go_roundw
              case rel => exact ⟨_, some bd, A3, p, q + 1, c - 1, d, c3, k + 1, la', y :: lb', r ++ [(max x.1 y.1, min x.2 y.2)], rfl, rfl, rfl, HPL.out, by simp [HQL.out], by omega, hmd, by omega, hs, by omega, by simp [HK.out], (by have h := HCOM.out; have hd := HBM.out; rw [decide_eq_true_iff] at hd; rw [com, if_pos hd, if_pos (by omega)] at h; simpa using h), reads_tail ha hnc, hb, own_drewN hown3 _, below_drewN hbw3 _⟩
              case measure => simp <;> omega
            · skip
              go_wp2_with (at_builtin
                           refine wpList_append_sl rfl (.tmp 27) (.tmp 29) _ rfl w.heap.size 23 i0 _ 16 Try.underlying33 hi0 hz0 hz1 hz2 rfl (.slice R' k e') k (encL r) rfl
                             (hown2.alloc _) _ _ 1 1 (encL [(max x.1 y.1, min x.2 y.2)]) rfl (reads_new (w := wc) (l := [(max x.1 y.1, min x.2 y.2)]) rfl rfl) (encL_one _) (k + 1) (encL (r ++ [(max x.1 y.1, min x.2 y.2)])) rfl (encL_app _ _) (by simp only [maxLen]; omega) (by omega) w (hbw2.alloc hzc _) (by simp <;> omega) ?_
                           intro A3 c3 w3 hown3 hr3 hbw3 hs3
                           have a2'' := (hbw3.cell (p := ⟨ad.block, ad.off + 1, none⟩) hba).trans A2
                           have b2'' := (hbw3.cell (p := ⟨bd.block, bd.off + 1, none⟩) hbb).trans B2)
              go_quiet (fail)
              go_wp2
              go_roundw
              case rel => exact ⟨some ad, _, A3, p + 1, q, c, d - 1, c3, k + 1, x :: la', lb', r ++ [(max x.1 y.1, min x.2 y.2)], rfl, rfl, rfl, by simp [HPL.out], HQL.out, hnc, by omega, hl, by omega, by omega, by simp [HK.out], (by have h := HCOM.out; have hd := HBM.out; rw [decide_eq_true_iff] at hd; rw [com, if_pos hd, if_neg (by omega)] at h; simpa using h), ha, reads_tail hb hmd, own_drewN hown3 _, below_drewN hbw3 _⟩
              case measure => simp <;> omega
end Go.Proofs.Ytnpdmohclajmjaa
