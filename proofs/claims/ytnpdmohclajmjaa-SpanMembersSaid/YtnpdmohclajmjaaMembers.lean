/- The walk of the law SpanMembers: it answers true, whatever the lists and the number; and the law. -/
import Derived.Test.YtnpdmohclajmjaaSets
import Derived.Test.YtnpdmohclajmjaaLift
namespace Go.Proofs.Ytnpdmohclajmjaa
open Go.ChangeShapes Go.WideShapes Go.ChangeAt Go.RowKit

set_option maxHeartbeats 400000 in
theorem union_bad (A B : Option Addr) (n m c d : Nat) (l s : List (Int × Int)) (w : World) (hn : n = l.length) (hm : m = s.length) (hl : n ≤ 1000) (hs : m ≤ 1000) (h : Reads w w.heap.size 2 A n (encL l)) (h2 : Reads w w.heap.size 2 B m (encL s)) (h0 : ¬ errOf (l ++ s) = 0) :
    Calls Try.prog 31 #[.slice A n c, .slice B m d] w fun e w' => e = .returned (.tuple #[.slice none 0 0, .int .i64 (errOf (l ++ s))]) ∧ Below w.heap.size w w' := by
  have hck := fun W g (hg : g = W.heap.size) (h : Reads W W.heap.size 2 A n (encL l)) (h2 : Reads W W.heap.size 2 B m (encL s)) => checkLists_two A B n m c d g l s W hg hn hm hl hs h h2
  have hne : (errOf (l ++ s) == 0) = false := by simpa using h0
  have hne' : (errOf (l ++ s) != 0) = true := by simpa using h0
  generalize errOf (l ++ s) = cc at hck hne hne' h0 ⊢
  clear hn hm
  go_enter Try.func31, Try.ntmps31
  go_wp2_with (go_at_call 45; refine (hck _ _ (by simp) h h2).mono ?_; rintro e w1 ⟨rfl, hb1⟩)
  go_ret2
  exact ⟨rfl, ((Below.refl _ _).alloc (Nat.le_refl _) _).trans (bmono hb1 (by simp))⟩

set_option maxHeartbeats 400000 in
theorem minus_bad (A B : Option Addr) (n m c d : Nat) (l s : List (Int × Int)) (w : World) (hn : n = l.length) (hm : m = s.length) (hl : n ≤ 1000) (hs : m ≤ 1000) (h : Reads w w.heap.size 2 A n (encL l)) (h2 : Reads w w.heap.size 2 B m (encL s)) (h0 : ¬ errOf (l ++ s) = 0) :
    Calls Try.prog 32 #[.slice A n c, .slice B m d] w fun e w' => e = .returned (.tuple #[.slice none 0 0, .int .i64 (errOf (l ++ s))]) ∧ Below w.heap.size w w' := by
  have hck := fun W g (hg : g = W.heap.size) (h : Reads W W.heap.size 2 A n (encL l)) (h2 : Reads W W.heap.size 2 B m (encL s)) => checkLists_two A B n m c d g l s W hg hn hm hl hs h h2
  have hne : (errOf (l ++ s) == 0) = false := by simpa using h0
  have hne' : (errOf (l ++ s) != 0) = true := by simpa using h0
  generalize errOf (l ++ s) = cc at hck hne hne' h0 ⊢
  clear hn hm
  go_enter Try.func32, Try.ntmps32
  go_wp2_with (go_at_call 45; refine (hck _ _ (by simp) h h2).mono ?_; rintro e w1 ⟨rfl, hb1⟩)
  go_ret2
  exact ⟨rfl, ((Below.refl _ _).alloc (Nat.le_refl _) _).trans (bmono hb1 (by simp))⟩

set_option maxHeartbeats 400000 in
theorem common_bad (A B : Option Addr) (n m c d : Nat) (l s : List (Int × Int)) (w : World) (hn : n = l.length) (hm : m = s.length) (hl : n ≤ 1000) (hs : m ≤ 1000) (h : Reads w w.heap.size 2 A n (encL l)) (h2 : Reads w w.heap.size 2 B m (encL s)) (h0 : ¬ errOf (l ++ s) = 0) :
    Calls Try.prog 33 #[.slice A n c, .slice B m d] w fun e w' => e = .returned (.tuple #[.slice none 0 0, .int .i64 (errOf (l ++ s))]) ∧ Below w.heap.size w w' := by
  have hck := fun W g (hg : g = W.heap.size) (h : Reads W W.heap.size 2 A n (encL l)) (h2 : Reads W W.heap.size 2 B m (encL s)) => checkLists_two A B n m c d g l s W hg hn hm hl hs h h2
  have hne : (errOf (l ++ s) == 0) = false := by simpa using h0
  have hne' : (errOf (l ++ s) != 0) = true := by simpa using h0
  generalize errOf (l ++ s) = cc at hck hne hne' h0 ⊢
  clear hn hm
  go_enter Try.func33, Try.ntmps33
  go_wp2_with (go_at_call 45; refine (hck _ _ (by simp) h h2).mono ?_; rintro e w1 ⟨rfl, hb1⟩)
  go_ret2
  exact ⟨rfl, ((Below.refl _ _).alloc (Nat.le_refl _) _).trans (bmono hb1 (by simp))⟩

theorem rd_over {W W' : World} {A : Option Addr} {n : Nat} {xs : List Value} (h : Reads W W.heap.size 2 A n xs) (hb : Below W.heap.size W W') : Reads W' W'.heap.size 2 A n xs := (h.below hb).more hb.size
theorem any_mem (l : List (Int × Int)) (z : Int) : (l.any fun x => contS x z) = true ↔ Mem z l := by
  rw [List.any_eq_true]
  constructor
  · rintro ⟨x, hx, h⟩
    simp only [contS, Bool.and_eq_true, decide_eq_true_eq] at h
    exact ⟨x, hx, h⟩
  · rintro ⟨x, hx, h⟩
    exact ⟨x, hx, by simp only [contS, Bool.and_eq_true, decide_eq_true_eq]; exact h⟩
theorem any_of {l : List (Int × Int)} {z : Int} {b : Bool} (h : Mem z l ↔ b = true) : (l.any fun x => contS x z) = b := by
  rw [Bool.eq_iff_iff, any_mem, h]

set_option maxHeartbeats 4000000 in
theorem spanMembers_any (A B : Option Addr) (n m c d : Nat) (l s : List (Int × Int)) (z : Int) (w : World) (hn : n = l.length) (hm : m = s.length) (hl : n ≤ 9223372036854775807) (hs : m ≤ 9223372036854775807)
    (h : Reads w w.heap.size 2 A n (encL l)) (h2 : Reads w w.heap.size 2 B m (encL s)) :
    Calls Try.prog 8 #[.slice A n c, .slice B m d, .int .i64 z] w fun e w' => e = .returned (.bool true) ∧ Below w.heap.size w w' := by
  have HN := Lib.hid hn; have HM := Lib.hid hm; clear hn hm
  by_cases h30 : 30 < n
  · go_enter Try.func8, Try.ntmps8
    go_wp2_with (go_at_call 10; refine (awake_any _).mono ?_; rintro e w1 ⟨rfl, hb1⟩)
    all_goals (go_ret; exact ⟨rfl, hb1⟩)
  by_cases h31 : 30 < m
  · go_enter Try.func8, Try.ntmps8
    go_wp2_with (go_at_call 10; refine (awake_any _).mono ?_; rintro e w1 ⟨rfl, hb1⟩)
    all_goals (go_ret; exact ⟨rfl, hb1⟩)
  by_cases h0 : errOf (l ++ s) = 0
  · have hU := fun W h h2 => union_ok A B n m c d l s W HN.out HM.out (by omega) (by omega) h h2 h0
    have hM := fun W h h2 => minus_ok A B n m c d l s W HN.out HM.out (by omega) (by omega) h h2 h0
    have hC := fun W h h2 => common_ok A B n m c d l s W HN.out HM.out (by omega) (by omega) h h2 h0
    obtain ⟨e1, e2⟩ := errOf_app h0
    have OK1 := Lib.hid (errOf_ok e1); have OK2 := Lib.hid (errOf_ok e2)
    have hI1 := fun W h => in_any A n c l z W HN.out (by omega) h
    have hI2 := fun W h => in_any B m d s z W HM.out (by omega) h
    clear h0 e1 e2
    go_enter Try.func8, Try.ntmps8
    go_wp2_with fail
    refine (awake_any _).mono ?_
    rintro e w1 ⟨rfl, hb1⟩
    have rl1 := rd_over h hb1
    have rs1 := rd_over h2 hb1
    go_wp2_with fail
    refine (hU _ rl1 rs1).mono ?_
    rintro e w2 ⟨AU, NU, cU, U, rfl, hNU, hleU, rU2, nfU, mU, hb2⟩
    have HNU := Lib.hid hNU; clear hNU
    have rl2 := rd_over rl1 hb2; have rs2 := rd_over rs1 hb2
    go_wp2_with fail
    refine (hM _ rl2 rs2).mono ?_
    rintro e w3 ⟨AM, NM, cM, M, rfl, hNM, hleM, rM3, nfM, mM, hb3⟩
    have HNM := Lib.hid hNM; clear hNM
    have rl3 := rd_over rl2 hb3; have rs3 := rd_over rs2 hb3; have rU3 := rd_over rU2 hb3
    go_wp2_with fail
    refine (hC _ rl3 rs3).mono ?_
    rintro e w4 ⟨AC, NC, cC, C, rfl, hNC, hleC, rC4, nfC, mC, hb4⟩
    have HNC := Lib.hid hNC; clear hNC
    have rl4 := rd_over rl3 hb4; have rs4 := rd_over rs3 hb4; have rU4 := rd_over rU3 hb4; have rM4 := rd_over rM3 hb4
    have bdU : ∀ x ∈ U, -1000000000000 ≤ x.1 ∧ x.1 ≤ x.2 ∧ x.2 ≤ 1000000000000 := nf_bound (L := l ++ s) nfU (fun n => by rw [mU, mem_app]) (fun x hx => by rcases List.mem_append.1 hx with hx | hx; exact OK1.out.1 x hx; exact OK2.out.1 x hx)
    have bdM : ∀ x ∈ M, -1000000000000 ≤ x.1 ∧ x.1 ≤ x.2 ∧ x.2 ≤ 1000000000000 := sub_bound nfM (fun n hn => ((mM n).1 hn).1) OK1.out.1
    have bdC : ∀ x ∈ C, -1000000000000 ≤ x.1 ∧ x.1 ≤ x.2 ∧ x.2 ≤ 1000000000000 := sub_bound nfC (fun n hn => ((mC n).1 hn).1) OK1.out.1
    have hIU := fun W h => in_any AU NU cU U z W HNU.out (by omega) h
    have hIM := fun W h => in_any AM NM cM M z W HNM.out (by omega) h
    have hIC := fun W h => in_any AC NC cC C z W HNC.out (by omega) h
    have hNU' := fun W h => lawNormal_ok AU NU cU U W HNU.out (by omega) nfU bdU h
    have hNM' := fun W h => lawNormal_ok AM NM cM M W HNM.out (by omega) nfM bdM h
    have hNC' := fun W h => lawNormal_ok AC NC cC C W HNC.out (by omega) nfC bdC h
    obtain ⟨bx, hbx⟩ : ∃ bx, (l.any fun x => contS x z) = bx := ⟨_, rfl⟩
    obtain ⟨bY, hby⟩ : ∃ bY, (s.any fun x => contS x z) = bY := ⟨_, rfl⟩
    have mx : Mem z l ↔ bx = true := by rw [← hbx, any_mem]
    have my : Mem z s ↔ bY = true := by rw [← hby, any_mem]
    have eU := any_of (b := bx || bY) ((mU z).trans (by show (Mem z l ∨ Mem z s) ↔ _; rw [mx, my]; simp))
    have eM := any_of (b := bx && !bY) ((mM z).trans (by show (Mem z l ∧ ¬ Mem z s) ↔ _; rw [mx, my]; simp))
    have eC := any_of (b := bx && bY) ((mC z).trans (by show (Mem z l ∧ Mem z s) ↔ _; rw [mx, my]; simp))
    rw [eU] at hIU
    rw [eM] at hIM
    rw [eC] at hIC
    rw [hbx] at hI1
    rw [hby] at hI2
    have HB4 := Lib.hid (((hb1.trans (bmono hb2 hb1.size)).trans (bmono hb3 (Nat.le_trans hb1.size hb2.size))).trans (bmono hb4 (Nat.le_trans hb1.size (Nat.le_trans hb2.size hb3.size))))
    clear eU eM eC hbx hby mx my mU mM mC nfU nfM nfC bdU bdM bdC OK1 OK2 hU hM hC rl1 rs1 rl2 rs2 rl3 rs3 rU2 rU3 rM3 hb1 hb2 hb3 hb4
    cases bx <;> cases bY
    all_goals
      go_wp2_with fail
      refine (hI1 _ rl4).mono ?_
      rintro e w5 ⟨rfl, hb5⟩
      have rs5 := rd_over rs4 hb5; have rU5 := rd_over rU4 hb5; have rM5 := rd_over rM4 hb5; have rC5 := rd_over rC4 hb5
      go_wp2_with fail
      refine (hI2 _ rs5).mono ?_
      rintro e w6 ⟨rfl, hb6⟩
      have rU6 := rd_over rU5 hb6; have rM6 := rd_over rM5 hb6; have rC6 := rd_over rC5 hb6
      go_wp2_with fail
      refine (hIU _ rU6).mono ?_
      rintro e w7 ⟨rfl, hb7⟩
      have rU7 := rd_over rU6 hb7; have rM7 := rd_over rM6 hb7; have rC7 := rd_over rC6 hb7
      go_wp2_with fail
      refine (hIM _ rM7).mono ?_
      rintro e w8 ⟨rfl, hb8⟩
      have rU8 := rd_over rU7 hb8; have rM8 := rd_over rM7 hb8; have rC8 := rd_over rC7 hb8
      go_wp2_with fail
      refine (hIC _ rC8).mono ?_
      rintro e w9 ⟨rfl, hb9⟩
      have rU9 := rd_over rU8 hb9; have rM9 := rd_over rM8 hb9; have rC9 := rd_over rC8 hb9
      go_wp2_with fail
      refine (hNU' _ rU9).mono ?_
      rintro e w10 ⟨rfl, hb10⟩
      have rM10 := rd_over rM9 hb10; have rC10 := rd_over rC9 hb10
      go_wp2_with fail
      refine (hNM' _ rM10).mono ?_
      rintro e w11 ⟨rfl, hb11⟩
      have rC11 := rd_over rC10 hb11
      go_wp2_with fail
      refine (hNC' _ rC11).mono ?_
      rintro e w12 ⟨rfl, hb12⟩
      go_wp2
      go_ret
      have t5 := HB4.out.trans (bmono hb5 HB4.out.size)
      have t6 := t5.trans (bmono hb6 t5.size)
      have t7 := t6.trans (bmono hb7 t6.size)
      have t8 := t7.trans (bmono hb8 t7.size)
      have t9 := t8.trans (bmono hb9 t8.size)
      have t10 := t9.trans (bmono hb10 t9.size)
      have t11 := t10.trans (bmono hb11 t10.size)
      exact ⟨rfl, t11.trans (bmono hb12 t11.size)⟩
  · have hU := fun W h h2 => union_bad A B n m c d l s W HN.out HM.out (by omega) (by omega) h h2 h0
    have hM := fun W h h2 => minus_bad A B n m c d l s W HN.out HM.out (by omega) (by omega) h h2 h0
    have hC := fun W h h2 => common_bad A B n m c d l s W HN.out HM.out (by omega) (by omega) h h2 h0
    have hne : (errOf (l ++ s) == 0) = false := by simpa using h0
    have hne' : (errOf (l ++ s) != 0) = true := by simpa using h0
    generalize errOf (l ++ s) = cc at hU hM hC hne hne' h0
    go_enter Try.func8, Try.ntmps8
    go_wp2_with (first
      | (go_at_call 10; refine (awake_any _).mono ?_; rintro e w1 ⟨rfl, hb1⟩; have rl1 := rd_over h hb1; have rs1 := rd_over h2 hb1)
      | (go_at_call 31; refine (hU _ rl1 rs1).mono ?_; rintro e w2 ⟨rfl, hb2⟩; have rl2 := rd_over rl1 hb2; have rs2 := rd_over rs1 hb2)
      | (go_at_call 32; refine (hM _ rl2 rs2).mono ?_; rintro e w3 ⟨rfl, hb3⟩; have rl3 := rd_over rl2 hb3; have rs3 := rd_over rs2 hb3)
      | (go_at_call 33; refine (hC _ rl3 rs3).mono ?_; rintro e w4 ⟨rfl, hb4⟩))
    go_ret
    exact ⟨rfl, ((hb1.trans (bmono hb2 hb1.size)).trans (bmono hb3 (Nat.le_trans hb1.size hb2.size))).trans (bmono hb4 (Nat.le_trans hb1.size (Nat.le_trans hb2.size hb3.size)))⟩

set_option maxHeartbeats 800000 in
set_option maxRecDepth 100000 in
theorem spanMembers_lifted (os : Os) (started : os.Started) (H : Type) (enc : TypeId × Value → H) :
    ReturnsInHanded {} Try.checked os 8 .any (Rows.spanMembersSpec.pre6 enc Try.prog Try.f8 Rows.spanMembersRow.domain false) (Rows.spanMembersSpec.post enc Try.prog Try.f8 false true false false) := by
  refine returnsInHanded_of_change (C := Try.checked) Try.own started (by kernel_rfl) Try.func8
    (ChangeSpec.witness6 (enc := enc) (C := Try.checked) false ⟨#[], #[.slice none 0 0, .slice none 0 0, .int .i64 0], []⟩ 8 (by kernel_rfl) (by kernel_rfl) (by kernel_rfl) (by kernel_rfl)) ?_
  intro W base args ds gs before hval0 hW _ _
  have hval : ∀ (j : Nat) t v, Try.f8.params[j]? = some t → args[j]? = some v → Value.okWide Try.prog W .any base t v := hval0
  have hW' := hW
  obtain ⟨p, q, hA0, hV, rfl, _, _⟩ := hW
  have hA : DataW.TrodAll enc Try.prog W 0 (fun _ => true) true Try.f8.params.toList args.toList ds p := hA0
  rw [Try.params8] at hA hval
  obtain ⟨v0, v1, v2, d0, d1, d2, p0, p1, p2, rfl, rfl, rfl, h0, h1, h2⟩ := trodAll_three hA
  obtain ⟨rfl, rfl⟩ := trodVars_none hV
  clear hA0 hval0
  simp only [List.append_nil] at hW'
  have harg0 : ∀ W' : World, Below W.heap.size W W' → DataW.Trod enc Try.prog W' 0 (fun b => decide (b < W.heap.size)) true 33 v0 d0 p0 :=
    fun W' hn => Below.trod Try.laidOut (by kernel_rfl) (of_decide_eq_true (by kernel_rfl)) h0 hn (fun y hy => by simpa using hW'.lt y (by simp [hy]))
  have harg1 : ∀ W' : World, Below W.heap.size W W' → DataW.Trod enc Try.prog W' 0 (fun b => decide (b < W.heap.size)) true 33 v1 d1 p1 :=
    fun W' hn => Below.trod Try.laidOut (by kernel_rfl) (of_decide_eq_true (by kernel_rfl)) h1 hn (fun y hy => by simpa using hW'.lt y (by simp [hy]))
  have harg2 : ∀ W' : World, Below W.heap.size W W' → DataW.Trod enc Try.prog W' 0 (fun b => decide (b < W.heap.size)) true 3 v2 d2 p2 :=
    fun W' hn => Below.trod Try.laidOut (by kernel_rfl) (of_decide_eq_true (by kernel_rfl)) h2 hn (fun y hy => by simpa using hW'.lt y (by simp [hy]))
  obtain ⟨A, n, c, l, rfl, hn, hmx, hr⟩ := open_ivs (hval 0 33 v0 rfl rfl) h0
  obtain ⟨B, m, d, s, rfl, hm, hmx2, hr2⟩ := open_ivs (hval 1 33 v1 rfl rfl) h1
  obtain ⟨z, rfl, _, _, _⟩ := open_int Try.underlying3 (hval 2 3 v2 rfl rfl) h2
  refine (spanMembers_any A B n m c d l s z W hn hm (by unfold maxLen at hmx; omega) (by unfold maxLen at hmx2; omega) hr hr2).mono fun e W' ⟨he, hn⟩ => ?_
  subst he
  exact ⟨_, rfl, _, _, _, [], _, [], hW', trodAll_mk1 (shut_bool Try.underlying4 _), trodAll_mk3 (harg0 _ hn) (harg1 _ hn) (harg2 _ hn), (List.append_nil _).symm, hn.frame _, fun h => by cases h⟩

theorem spanMembers_holds : Rows.SpanMembersSaid :=
  OpenClaim.holds_of_wide 8 Try.f8 rfl rfl rfl rfl rfl rfl rfl ⟨rfl, rfl, rfl, rfl, rfl⟩ rfl rfl rfl rfl rfl (by kernel_rfl) Try.func8 (by kernel_rfl)
    (of_decide_eq_true (by kernel_rfl)) (by unfold Func.isWrapper; first | (rw [if_pos (by decide +kernel)]; kernel_rfl) | (rw [if_neg (by decide +kernel)]; exact ⟨rfl, rfl⟩))
    (fun os started H enc _ => spanMembers_lifted os started H enc)
end Go.Proofs.Ytnpdmohclajmjaa
