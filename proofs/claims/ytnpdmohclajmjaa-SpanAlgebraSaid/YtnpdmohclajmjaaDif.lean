/- The walk of span.difference: what it returns reads as 'dif' of the two lists. Lists are of at most two thousand intervals, in range. -/
import Derived.Test.YtnpdmohclajmjaaAwake
import Derived.Test.YtnpdmohclajmjaaOps
import Derived.Deep.CutRange
import Derived.Deep.DeepCutAuto
namespace Go.Proofs.Ytnpdmohclajmjaa
open Go.RowKit

theorem drop_iv {l : List (Int × Int)} {k : Nat} (h : k < l.length) : l.drop k = iv l k :: l.drop (k + 1) := by
  rw [iv_eq h]; exact List.drop_eq_getElem_cons h
theorem skip_next {b : List (Int × Int)} {k : Nat} {lo : Int} (h : k < b.length) (hlt : (iv b k).2 < lo) : skip lo (b.drop k) = skip lo (b.drop (k + 1)) := by
  rw [drop_iv h]; unfold skip; rw [List.dropWhile_cons_of_pos (by simpa using hlt)]
theorem skip_stop {b : List (Int × Int)} {k : Nat} {lo : Int} (h : k < b.length) (hge : ¬ (iv b k).2 < lo) : skip lo (b.drop k) = b.drop k := by
  rw [drop_iv h]; unfold skip; rw [List.dropWhile_cons_of_neg (by simpa using hge)]
theorem skip_end {b : List (Int × Int)} {lo : Int} : skip lo (b.drop b.length) = b.drop b.length := by
  rw [List.drop_length]; rfl
theorem own_below' {w w' : World} {base n : Nat} {e : TypeId} {v : Value} {xs : List Value} (h : w.ownsRow base e 2 v n xs) (hb : Below w.heap.size w w') : w'.ownsRow base e 2 v n xs :=
  h.kept (row := none) ⟨hb.os, hb.tape, hb.output, hb.size, fun k hk _ => hb.block k hk⟩ (by cases v.ownBlock <;> simp)
theorem encL_drop (l : List (Int × Int)) : ∀ k, (encL l).drop (k * 2) = encL (l.drop k) := by
  induction l with
  | nil => intro k; simp [encL]
  | cons x r ih =>
    intro k
    cases k with
    | zero => simp
    | succ k =>
      have e : encL (x :: r) = .int .i64 x.1 :: .int .i64 x.2 :: encL r := by simp [encL, encIv]
      rw [e, show (k + 1) * 2 = k * 2 + 1 + 1 by omega, List.drop_succ_cons, List.drop_succ_cons, List.drop_succ_cons]
      exact ih k

theorem wpList_append_sl2 {P : Program} {w : World} {ops : Array Oper} {rest : List Oper} {o : Oper} {a : Act} {Q : Exit → Act → World → Prop} (hgd : o.guard = none) (s x : Operand) (t : TypeId)
    (ho : o.op = .call { callee := .builtin .append, args := #[s, x], argTypes := #[t, t] })
    (base : Nat) (e : TypeId) (i : TypeInfo) (z : Value) (bytes : Nat) (ht : P.underlying t = some (.slice e)) (hi : P.info? e = some i) (hz : i.zero = some z)
    (hsize : i.size = 2) (hby : i.bytes = bytes) (hzs : z.cells.size = 2)
    (v : Value) (n : Nat) (xs : List Value) (hs : a.eval s = v) (hown : w.ownsRow base e 2 v n xs)
    (B : Nat) (A : Option Addr) (m c : Nat) (news : List Value) (hx : a.eval x = .slice A m c) (hr : Reads w B 2 A m news) (h1 : ∀ u ∈ news, u.oneCell' = true)
    (N : Nat) (ys : List Value) (hN : N = n + m) (hys : ys = xs ++ news)
    (h63 : N ≤ maxLen) (hbytes : N * bytes ≤ 140737488355328) (w0 : World) (hbw : Below base w0 w) (hbase : base ≤ w.heap.size)
    (h : ∀ A' c' w', w'.ownsRow base e 2 (.slice A' N c') N ys → Reads w' w'.heap.size 2 A' N ys → Below base w0 w' → w.heap.size ≤ w'.heap.size → w.grownBy w' v.ownBlock → ((Value.slice A' N c').ownBlock = v.ownBlock ∨ (Value.slice A' N c').ownBlock = some w.heap.size) → wpList P ops Q rest (a.put o.dst (.slice A' N c')) w') : wpList P ops Q (o :: rest) a w := by
  subst hN hys
  refine wpList_append_any w hgd s x t ho base e i z 2 bytes ht hi hz hsize hby hzs (by omega) v n xs hs hown B A m c news hx hr h1 h63 hbytes hbase ?_
  intro v' w' hown' hg hat
  have hb' : Below base w0 w' := hbw.grown hg hbase (fun k hk => (hown.lt k hk).1)
  obtain ⟨A', c', rfl, hr'⟩ := own_slice hown'
  exact h A' c' w' hown' hr' hb' hg.size hg hat

set_option maxHeartbeats 4000000 in
theorem difference_any (A B : Option Addr) (n m c d : Nat) (l s : List (Int × Int)) (w : World) (hn : n = l.length) (hm : m = s.length) (hmd : m ≤ d) (hl : n ≤ 2000) (hs : m ≤ 2000)
    (hlb : ∀ x ∈ l, -1000000000000 ≤ x.1 ∧ x.1 ≤ x.2 ∧ x.2 ≤ 1000000000000) (hsb : ∀ x ∈ s, -1000000000000 ≤ x.1 ∧ x.1 ≤ x.2 ∧ x.2 ≤ 1000000000000)
    (ha : Reads w w.heap.size 2 A n (encL l)) (hb : Reads w w.heap.size 2 B m (encL s)) :
    Calls Try.prog 47 #[.slice A n c, .slice B m d] w fun e w' => ∃ A' N c' R, e = .returned (.slice A' N c') ∧ N = R.length ∧ R = dif l s ∧ Reads w' w'.heap.size 2 A' N (encL R) ∧ Below w.heap.size w w' := by
  obtain ⟨i0, hi0, hz0, hz1, hz2⟩ := info_parts info23
  have hdl : (dif l s).length ≤ 4002000 := by
    refine Nat.le_trans (dif_len l s) ?_
    rw [← hn, ← hm]
    exact Nat.le_trans (Nat.mul_le_mul hl (by omega : m + 1 ≤ 2001)) (by omega)
  have HDL := Lib.hid hdl; clear hdl
  have HN := Lib.hid hn; have HM := Lib.hid hm; have HLB := Lib.hid hlb; have HSB := Lib.hid hsb; clear hn hm hlb hsb
  go_enter Try.func47, Try.ntmps47
  go_wp2
  go_loopw [5, 6, 14] (fun vr vx vi wr => ∃ (R' : Option Addr) (kk e' k nx : Nat) (r : List (Int × Int)), vr = .slice R' kk e' ∧ vx = .int .i64 nx ∧ vi = .int .i64 k ∧ k ≤ n ∧ nx ≤ m ∧
      kk = r.length ∧ r ++ dif (l.drop k) (s.drop nx) = dif l s ∧ wr.ownsRow w.heap.size 23 2 (.slice R' kk e') kk (encL r) ∧ Below w.heap.size w wr) (fun _ _ vi _ => n - (intOf vi).toNat)
  case atStart => exact ⟨none, 0, 0, 0, 0, [], rfl, rfl, rfl, Nat.zero_le _, Nat.zero_le _, rfl, by simp, World.ownsRow_nil _ _ _ _, Below.refl _ _⟩
  case round =>
    obtain ⟨R', kk, e', k, nx, r, rfl, rfl, rfl, hk, hnx, hkk, hdif, hown, hbw⟩ := hrel
    have HKK := Lib.hid hkk; have HDIF := Lib.hid hdif; clear hkk hdif
    have hz := hbw.size
    by_cases hlt : k < n
    · have hltl : k < l.length := by rw [← HN.out]; exact hlt
      obtain ⟨ad, rfl, hba, a1, a2⟩ := (ha.below hbw).iv HN.out hltl
      obtain ⟨x1, x2, x3⟩ := HLB.out _ (iv_mem hltl)
      have hdr := drop_iv hltl
      generalize iv l k = x at a1 a2 x1 x2 x3 hdr
      have hdif2 := HDIF.out
      rw [hdr, dif] at hdif2
      have HD2 := Lib.hid hdif2; clear hdif2 hdr HDIF
      obtain ⟨g8, hg8⟩ : ∃ g, g = wr.heap.size := ⟨_, rfl⟩
      go_wp2
      rw [← hg8]
      have hblk : Blk (wr.alloc (.cells #[.int .i64 x.1, .int .i64 x.2] 23)) g8 23 #[.int .i64 x.1, .int .i64 x.2] := by rw [hg8]; exact Blk.new wr 23 _
      have hown1 := hown.alloc (.cells #[.int .i64 x.1, .int .i64 x.2] 23)
      have hbw1 := hbw.alloc hz (.cells #[.int .i64 x.1, .int .i64 x.2] 23)
      have hg8w : w.heap.size ≤ g8 := by omega
      have hne0 : (Value.slice R' kk e').ownBlock ≠ some g8 := fun h => by have := (hown.lt _ h).2; omega
      clear hown hbw a1 a2 hz hg8
      generalize wr.alloc (.cells #[.int .i64 x.1, .int .i64 x.2] 23) = w8 at *
      go_loopw [6] (fun vx wr => ∃ nx', vx = .int .i64 (nx' : Nat) ∧ nx' ≤ m ∧ skip x.1 (s.drop nx) = skip x.1 (s.drop nx') ∧ Blk wr g8 23 #[.int .i64 x.1, .int .i64 x.2] ∧ wr.ownsRow w.heap.size 23 2 (.slice R' kk e') kk (encL r) ∧ Below w.heap.size w wr) (fun vx _ => m - (intOf vx).toNat)
      case atStart => exact ⟨nx, rfl, hnx, rfl, hblk, hown1, hbw1⟩
      case round =>
        clear hblk hown1 hbw1
        obtain ⟨ny, rfl, hny, hsk, hblk, hown, hbw⟩ := hrel
        have HSK := Lib.hid hsk; clear hsk
        obtain ⟨f1, f2, _, _⟩ := blk_facts hblk
        have hcase : (ny < m ∧ (iv s ny).2 < x.1) ∨ skip x.1 (s.drop ny) = s.drop ny := by
          by_cases h1 : ny < m
          · by_cases h2 : (iv s ny).2 < x.1
            · exact .inl ⟨h1, h2⟩
            · exact .inr (skip_stop (by rw [← HM.out]; exact h1) h2)
          · have : ny = s.length := by rw [← HM.out]; omega
            rw [this]; exact .inr skip_end
        rcases hcase with ⟨h1, h2⟩ | hst
        · have h1s : ny < s.length := by rw [← HM.out]; exact h1
          obtain ⟨bd, rfl, hbb, b1, b2⟩ := (hb.below hbw).iv HM.out h1s
          have HSK2 := Lib.hid (HSK.out.trans (skip_next h1s h2))
          generalize iv s ny = y at b1 b2 h2
          go_wp2
          go_quiet (fail)
          go_wp2
          go_roundw
          case rel => exact ⟨ny + 1, by go_num, by omega, HSK2.out, hblk.drewN _, own_drewN hown _, below_drewN hbw _⟩
          case measure => simp [intOf]; omega
        · have hD3 : r ++ (inn x.1 x.2 (s.drop ny) ++ dif (l.drop (k + 1)) (s.drop ny)) = dif l s := by
            have h := HD2.out
            rwa [HSK.out, hst] at h
          have HD3 := Lib.hid hD3
          have hge : ny < m → ¬ (iv s ny).2 < x.1 := fun h1 h2 => by
            have h1s : ny < s.length := by rw [← HM.out]; exact h1
            have h4 := hst
            rw [skip_next h1s h2] at h4
            have h5 := congrArg List.length h4
            have h6 := skip_len x.1 (s.drop (ny + 1))
            simp only [List.length_drop] at h5 h6
            omega
          clear hst hD3 HD2 HSK
          obtain ⟨hk2a, _⟩ := (show kk ≤ 4002000 ∧ True from ⟨by have h := congrArg List.length HD3.out; have h2 := HDL.out; simp only [List.length_append] at h; have := HKK.out; omega, trivial⟩)
          have HK2 := HKK
          by_cases h1 : ny < m
          · have h1s : ny < s.length := by rw [← HM.out]; exact h1
            have h2 := hge h1
            clear hge
            obtain ⟨bd, rfl, hbb, b1, b2⟩ := (hb.below hbw).iv HM.out h1s
            generalize iv s ny = y at b1 b2 h2
            have hbt : Reads w w.heap.size 2 (some (bd.add (ny * 2))) (m - ny) (encL (s.drop ny)) := by
              have h := hb.cut (k := ny) (cap := d) (by omega) hmd
              rw [if_neg (by omega), encL_drop] at h
              exact h
            have hml : m - ny = (s.drop ny).length := by rw [List.length_drop, ← HM.out]
            have HML := Lib.hid hml; clear hml
            have hsub : ∀ z ∈ s.drop ny, z ∈ s := fun z hz => List.mem_of_mem_drop hz
            have HSUB := Lib.hid hsub; clear hsub
            go_wp2
            go_quiet (fail)
            go_wp2
            have hblk2 := hblk.drewN nq
            have hown2 := own_drewN hown nq
            have hbw2 := below_drewN hbw nq
            clear hblk hown hbw f1 f2 b1 b2 h2
            generalize wr.drewN nq = w9 at *
            generalize bd.add (ny * 2) = bt at *
            have hmb : m - ny ≤ 2000 := by omega
            generalize hmm : m - ny = mm at *
            have HMM := Lib.hid hmm; clear hmm
            go_loopw [5, 9, 40] (fun vr vl vj wr => ∃ (R2 : Option Addr) (k2 e2 j : Nat) (lo : Int) (r2 : List (Int × Int)), vr = .slice R2 k2 e2 ∧ vl = .int .i64 lo ∧ vj = .int .i64 j ∧ j ≤ mm ∧ k2 = r2.length ∧ (Value.slice R2 k2 e2).ownBlock ≠ some g8 ∧ -1000000000000 ≤ lo ∧ lo ≤ 1000000000001 ∧
              r2 ++ (inn lo x.2 ((s.drop ny).drop j) ++ dif (l.drop (k + 1)) (s.drop ny)) = dif l s ∧ Blk wr g8 23 #[.int .i64 x.1, .int .i64 x.2] ∧ wr.ownsRow w.heap.size 23 2 (.slice R2 k2 e2) k2 (encL r2) ∧ Below w.heap.size w wr) (fun _ _ vj _ => mm - (intOf vj).toNat)
            case atStart => exact ⟨R', kk, e', 0, x.1, r, rfl, rfl, rfl, Nat.zero_le _, HKK.out, hne0, by omega, by omega, by rw [List.drop_zero]; exact HD3.out, hblk2, hown2, hbw2⟩
            case round =>
              clear hblk2 hown2 hbw2 HK2 hk2a
              obtain ⟨R2, k2, e2, j, lo, r2, rfl, rfl, rfl, hj, hk2, hne, lo1, lo2, hD4, hblk, hown, hbw⟩ := hrel
              have HK2 := Lib.hid hk2; have HD4 := Lib.hid hD4; clear hk2 hD4
              obtain ⟨f1, f2, _, _⟩ := blk_facts hblk
              have hz := hbw.size
              have hlt8 := hblk.lt
              by_cases hjm : j < mm
              · have hjs : j < (s.drop ny).length := by rw [← HML.out]; exact hjm
                obtain ⟨_, hA, hbb2, b1, b2⟩ := (hbt.below hbw).iv HML.out hjs
                injection hA with hA
                subst hA
                obtain ⟨y1, y2, y3⟩ := HSB.out _ (HSUB.out _ (iv_mem hjs))
                have hdr := drop_iv hjs
                generalize iv (s.drop ny) j = y at b1 b2 y1 y2 y3 hdr
                have hD5 := HD4.out
                rw [hdr, inn] at hD5
                have HD5 := Lib.hid hD5; clear hD5 hdr HD4
                by_cases hbr : x.2 < y.1
                · have HE : Hid (r2 ++ ((if lo ≤ x.2 then [(lo, x.2)] else []) ++ dif (l.drop (k + 1)) (s.drop ny)) = dif l s) := Lib.hid (by have h := HD5.out; rwa [if_pos hbr] at h)
                  clear HD5
                  by_cases hle : lo ≤ x.2
                  · have HE2 : Hid (r2 ++ [(lo, x.2)] ++ dif (l.drop (k + 1)) (s.drop ny) = dif l s) := Lib.hid (by have h := HE.out; rw [if_pos hle] at h; simpa using h)
                    have hk2 : k2 + 1 ≤ 4002000 := by have h := congrArg List.length HE2.out; have h2 := HDL.out; simp only [List.length_append, List.length_singleton] at h; have := HK2.out; omega
                    clear HE
                    go_wp2_with (at_builtin
                                 refine wpList_append_sl rfl (.tmp 69) (.tmp 74) _ rfl w.heap.size 23 i0 _ 16 Try.underlying33 hi0 hz0 hz1 hz2 rfl (.slice R2 k2 e2) k2 (encL r2) rfl
                                   ((hown.alloc _).alloc _) _ _ 1 1 (encL [(lo, x.2)]) rfl (reads_new (w := wr.alloc _) (l := [(lo, x.2)]) (by simp) rfl) (encL_one _) (k2 + 1) (encL (r2 ++ [(lo, x.2)])) rfl (encL_app _ _) (by simp only [maxLen]; omega) (by omega) w ((hbw.alloc hz _).alloc (by simp <;> omega) _) (by simp <;> omega) ?_
                                 intro A3 c3 w3 hown3 hr3 hbw3 hs3)
                    go_roundw
                    case rel => exact ⟨A3, k2 + 1, c3, k + 1, ny, r2 ++ [(lo, x.2)], rfl, rfl, by go_num, by omega, hny, by simp [HK2.out], HE2.out, hown3, hbw3⟩
                    case measure => simp [intOf]; omega
                  · have HE2 : Hid (r2 ++ dif (l.drop (k + 1)) (s.drop ny) = dif l s) := Lib.hid (by have h := HE.out; rw [if_neg hle] at h; simpa using h)
                    clear HE
                    go_wp2
                    go_roundw
                    case rel => exact ⟨_, k2, _, k + 1, ny, r2, rfl, rfl, by go_num, by omega, hny, HK2.out, HE2.out, hown.alloc _, hbw.alloc hz _⟩
                    case measure => simp [intOf]; omega
                · by_cases hlo : lo < y.1
                  · have HE2 : Hid (r2 ++ [(lo, y.1 - 1)] ++ (inn (y.2 + 1) x.2 ((s.drop ny).drop (j + 1)) ++ dif (l.drop (k + 1)) (s.drop ny)) = dif l s) := Lib.hid (by have h := HD5.out; rw [if_neg hbr, if_pos hlo] at h; simpa using h)
                    have hk2 : k2 + 1 ≤ 4002000 := by have h := congrArg List.length HE2.out; have h2 := HDL.out; simp only [List.length_append, List.length_singleton] at h; have := HK2.out; omega
                    clear HD5
                    go_wp2_with (at_builtin
                                 refine wpList_append_sl2 rfl (.tmp 53) (.tmp 59) _ rfl w.heap.size 23 i0 _ 16 Try.underlying33 hi0 hz0 hz1 hz2 rfl (.slice R2 k2 e2) k2 (encL r2) rfl
                                   ((hown.alloc _).alloc _) _ _ 1 1 (encL [(lo, y.1 - 1)]) rfl (reads_new (w := wr.alloc _) (l := [(lo, y.1 - 1)]) (by simp) rfl) (encL_one _) (k2 + 1) (encL (r2 ++ [(lo, y.1 - 1)])) rfl (encL_app _ _) (by simp only [maxLen]; omega) (by omega) w ((hbw.alloc hz _).alloc (by simp <;> omega) _) (by simp <;> omega) ?_
                                 intro A3 c3 w3 hown3 hr3 hbw3 hs3 hgr hfr
                                 have hblk3 : Blk w3 g8 23 #[.int .i64 x.1, .int .i64 x.2] := ((hblk.alloc _).alloc _).grown hgr (fun h => hne h.symm)
                                 have hky : Blk w3 wr.heap.size 23 #[.int .i64 y.1, .int .i64 y.2] := ((Blk.new wr 23 #[.int .i64 y.1, .int .i64 y.2]).alloc _).grown hgr (fun h => by have := (hown.lt _ h.symm).2; omega)
                                 obtain ⟨f3, f4, _, _⟩ := blk_facts hky
                                 have hky3 := hky.lt
                                 have hne3 : (Value.slice A3 (k2 + 1) c3).ownBlock ≠ some g8 := fun h => by rcases hfr with h2 | h2 <;> rw [h2] at h; exact hne h; injection h with h; simp at h; omega)
                    go_roundw
                    case rel => exact ⟨A3, k2 + 1, c3, j + 1, y.2 + 1, r2 ++ [(lo, y.1 - 1)], rfl, rfl, by go_num, by omega, by simp [HK2.out], hne3, by omega, by omega, HE2.out, hblk3, hown3, hbw3⟩
                    case measure => simp [intOf]; omega
                  · have HE2 : Hid (r2 ++ (inn (y.2 + 1) x.2 ((s.drop ny).drop (j + 1)) ++ dif (l.drop (k + 1)) (s.drop ny)) = dif l s) := Lib.hid (by have h := HD5.out; rw [if_neg hbr, if_neg hlo] at h; simpa using h)
                    clear HD5
                    go_wp2
                    go_roundw
                    case rel => exact ⟨R2, k2, e2, j + 1, y.2 + 1, r2, rfl, rfl, by go_num, by omega, HK2.out, hne, by omega, by omega, HE2.out, hblk.alloc _, hown.alloc _, hbw.alloc hz _⟩
                    case measure => simp [intOf]; omega
              · obtain rfl : j = mm := by omega
                have HE : Hid (r2 ++ ((if lo ≤ x.2 then [(lo, x.2)] else []) ++ dif (l.drop (k + 1)) (s.drop ny)) = dif l s) := Lib.hid (by have h := HD4.out; rw [HML.out, List.drop_length] at h; rw [inn] at h; exact h)
                clear HD4
                by_cases hle : lo ≤ x.2
                · have HE2 : Hid (r2 ++ [(lo, x.2)] ++ dif (l.drop (k + 1)) (s.drop ny) = dif l s) := Lib.hid (by have h := HE.out; rw [if_pos hle] at h; simpa using h)
                  have hk2 : k2 + 1 ≤ 4002000 := by have h := congrArg List.length HE2.out; have h2 := HDL.out; simp only [List.length_append, List.length_singleton] at h; have := HK2.out; omega
                  clear HE
                  go_wp2_with (at_builtin
                               refine wpList_append_sl rfl (.tmp 69) (.tmp 74) _ rfl w.heap.size 23 i0 _ 16 Try.underlying33 hi0 hz0 hz1 hz2 rfl (.slice R2 k2 e2) k2 (encL r2) rfl
                                 (hown.alloc _) _ _ 1 1 (encL [(lo, x.2)]) rfl (reads_new (w := wr) (l := [(lo, x.2)]) (by simp) rfl) (encL_one _) (k2 + 1) (encL (r2 ++ [(lo, x.2)])) rfl (encL_app _ _) (by simp only [maxLen]; omega) (by omega) w (hbw.alloc hz _) (by simp <;> omega) ?_
                               intro A3 c3 w3 hown3 hr3 hbw3 hs3)
                  go_roundw
                  case rel => exact ⟨A3, k2 + 1, c3, k + 1, ny, r2 ++ [(lo, x.2)], rfl, rfl, by go_num, by omega, hny, by simp [HK2.out], HE2.out, hown3, hbw3⟩
                  case measure => simp [intOf]; omega
                · have HE2 : Hid (r2 ++ dif (l.drop (k + 1)) (s.drop ny) = dif l s) := Lib.hid (by have h := HE.out; rw [if_neg hle] at h; simpa using h)
                  clear HE
                  go_wp2
                  go_roundw
                  case rel => exact ⟨_, k2, _, k + 1, ny, r2, rfl, rfl, by go_num, by omega, hny, HK2.out, HE2.out, hown, hbw⟩
                  case measure => simp [intOf]; omega
          · clear hge
            obtain rfl : ny = m := by omega
            have HE : Hid (r ++ ((if x.1 ≤ x.2 then [(x.1, x.2)] else []) ++ dif (l.drop (k + 1)) (s.drop ny)) = dif l s) := Lib.hid (by have h := HD3.out; rw [show s.drop ny = [] by rw [HM.out]; exact List.drop_length] at h ⊢; rw [inn] at h; exact h)
            clear HD3
            have hz := hbw.size
            have hlt8 := hblk.lt
            have HE2 : Hid (r ++ [(x.1, x.2)] ++ dif (l.drop (k + 1)) (s.drop ny) = dif l s) := Lib.hid (by have h := HE.out; rw [if_pos x2] at h; simpa using h)
            have hk2 : kk + 1 ≤ 4002000 := by have h := congrArg List.length HE2.out; have h2 := HDL.out; simp only [List.length_append, List.length_singleton] at h; have := HK2.out; omega
            clear HE
            by_cases hcap : d = ny
            all_goals (try subst hcap)
            all_goals
              go_wp2
              go_quiet (fail)
              go_wp2
              have hblk2 := hblk.drewN nq
              have hown2 := own_drewN hown nq
              have hbw2 := below_drewN hbw nq
              clear hblk hown hbw f1 f2
              generalize wr.drewN nq = w9 at *
              go_loopw [5, 9, 40] (fun vr vl vj wr => vr = .slice R' kk e' ∧ vl = .int .i64 x.1 ∧ vj = .int .i64 0 ∧ wr = w9) (fun _ _ _ _ => 0)
              case atStart => exact ⟨rfl, rfl, rfl, rfl⟩
              case round =>
                obtain ⟨rfl, rfl, rfl, rfl⟩ := hrel
                obtain ⟨f1, f2, _, _⟩ := blk_facts hblk2
                have hz := hbw2.size
                have hlt8 := hblk2.lt
                go_wp2_with (at_builtin
                             refine wpList_append_sl rfl (.tmp 69) (.tmp 74) _ rfl w.heap.size 23 i0 _ 16 Try.underlying33 hi0 hz0 hz1 hz2 rfl (.slice R' kk e') kk (encL r) rfl
                               (hown2.alloc _) _ _ 1 1 (encL [(x.1, x.2)]) rfl (reads_new (w := wr) (l := [(x.1, x.2)]) (by simp) rfl) (encL_one _) (kk + 1) (encL (r ++ [(x.1, x.2)])) rfl (encL_app _ _) (by simp only [maxLen]; omega) (by omega) w (hbw2.alloc hz _) (by simp <;> omega) ?_
                             intro A3 c3 w3 hown3 hr3 hbw3 hs3)
                go_roundw
                case rel => exact ⟨A3, kk + 1, c3, k + 1, _, r ++ [(x.1, x.2)], rfl, rfl, by go_num, by omega, hny, by simp [HK2.out], HE2.out, hown3, hbw3⟩
                case measure => simp [intOf]; omega
    · obtain rfl : k = n := by omega
      have hR : r = dif l s := by
        have h := HDIF.out
        rw [HN.out, List.drop_length] at h
        rw [← h]; simp [dif]
      have HR := Lib.hid hR; clear hR
      go_wp2
      go_ret
      exact ⟨R', kk, e', r, rfl, HKK.out, HR.out, Reads.of_own hown, hbw⟩
end Go.Proofs.Ytnpdmohclajmjaa
