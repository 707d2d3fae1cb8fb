/- The walk of vector's meetOnLine. No condition. -/
import Derived.Test.YthlidkmalfjmbaaSeg
namespace Go.Proofs.Ythlidkmalfjmbaa
open Go.RowKit

/-- four boxed points -/
def KP4 (ax ay bx b_y cx cy dx dy : Int) (w W : World) : Prop := KL [(w.heap.size, 46, #[.int .i64 ax, .int .i64 ay]), (w.heap.size + 1, 46, #[.int .i64 bx, .int .i64 b_y]), (w.heap.size + 2, 46, #[.int .i64 cx, .int .i64 cy]), (w.heap.size + 3, 46, #[.int .i64 dx, .int .i64 dy])] w W
section
variable {ax ay bx b_y cx cy dx dy : Int} {w W W' : World}
theorem KP4.all (h : KP4 ax ay bx b_y cx cy dx dy w W) : KP4 ax ay bx b_y cx cy dx dy w W ∧ w.heap.size + 3 < W.heap.size ∧
    W.cell? ⟨w.heap.size, 0, none⟩ = some (.int .i64 ax) ∧ W.cell? ⟨w.heap.size, 1, none⟩ = some (.int .i64 ay) ∧
    W.cell? ⟨w.heap.size + 1, 0, none⟩ = some (.int .i64 bx) ∧ W.cell? ⟨w.heap.size + 1, 1, none⟩ = some (.int .i64 b_y) ∧
    W.cell? ⟨w.heap.size + 1 + 1, 0, none⟩ = some (.int .i64 cx) ∧ W.cell? ⟨w.heap.size + 1 + 1, 1, none⟩ = some (.int .i64 cy) ∧
    W.cell? ⟨w.heap.size + 1 + 1 + 1, 0, none⟩ = some (.int .i64 dx) ∧ W.cell? ⟨w.heap.size + 1 + 1 + 1, 1, none⟩ = some (.int .i64 dy) := by
  obtain ⟨a1, a2⟩ := blk2 (KL.blk h (.head _))
  obtain ⟨b1, b2⟩ := blk2 (KL.blk h (.tail _ (.head _)))
  obtain ⟨c1, c2⟩ := blk2 (KL.blk h (.tail _ (.tail _ (.head _))))
  obtain ⟨d1, d2⟩ := blk2 (KL.blk h (.tail _ (.tail _ (.tail _ (.head _)))))
  exact ⟨h, KL.size h (.tail _ (.tail _ (.tail _ (.head _)))), a1, a2, b1, b2, c1, c2, d1, d2⟩
theorem KP4.over (h : KP4 ax ay bx b_y cx cy dx dy w W) (hb : Below W.heap.size W W') : KP4 ax ay bx b_y cx cy dx dy w W' := KL.over h hb
theorem KP4.alloc (h : KP4 ax ay bx b_y cx cy dx dy w W) (o : Obj) : KP4 ax ay bx b_y cx cy dx dy w (W.alloc o) := KL.alloc h o
theorem KP4.drew (h : KP4 ax ay bx b_y cx cy dx dy w W) : KP4 ax ay bx b_y cx cy dx dy w W.drew := KL.drew h
theorem KP4.set (h : KP4 ax ay bx b_y cx cy dx dy w W) {g i : Nat} (hg : w.heap.size + 4 ≤ g) (u : Value) : KP4 ax ay bx b_y cx cy dx dy w (W.setCell ⟨g, i, none⟩ u) :=
  KL.set h (by show w.heap.size ≤ g; omega) (by simp; omega) u
theorem KP4.size (h : KP4 ax ay bx b_y cx cy dx dy w W) : w.heap.size + 4 ≤ W.heap.size := by have := h.all.2.1; omega
theorem KP4.start : KP4 ax ay bx b_y cx cy dx dy w ((((w.alloc (.cells #[.int .i64 ax, .int .i64 ay] 46)).alloc (.cells #[.int .i64 bx, .int .i64 b_y] 46)).alloc (.cells #[.int .i64 cx, .int .i64 cy] 46)).alloc (.cells #[.int .i64 dx, .int .i64 dy] 46)) :=
  ⟨((((Below.refl _ _).alloc (Nat.le_refl _) _).alloc (by simp) _).alloc (by simp <;> omega) _).alloc (by simp <;> omega) _, by
    intro p hp
    simp only [List.mem_cons, List.not_mem_nil, or_false] at hp
    rcases hp with rfl | rfl | rfl | rfl
    · exact (((Blk.new2 rfl).alloc _).alloc _).alloc _
    · exact ((Blk.new2 (by simp)).alloc _).alloc _
    · exact (Blk.new2 (by simp)).alloc _
    · exact Blk.new2 (by simp)⟩
theorem zb2 {g : Nat} {t : TypeId} {p q : Value} (h : Blk W g t #[p, q]) : W.cell? ⟨g, 0, none⟩ = some p ∧ W.cell? ⟨g, 1, none⟩ = some q ∧ (∀ i, W.frozen? ⟨g, i, none⟩ = false) := ⟨h.cell 0, h.cell 1, h.frozen⟩
theorem Blk.set2 {w : World} {g : Nat} {t : TypeId} {p q : Value} (h : Blk w g t #[p, q]) (a b : Value) :
    Blk ((w.setCell ⟨g, 0, none⟩ a).setCell ⟨g, 1, none⟩ b) g t #[a, b] := by
  simpa using (h.set_ 0 a).set_ 1 b
end
def One2 (r : Int × Int) (B : Nat) (s : Value) (W : World) : Prop := ∃ g : Nat, s = .pointer (some ⟨g, 0, none⟩) ∧ B ≤ g ∧ Blk W g 46 #[.int .i64 r.1, .int .i64 r.2]

theorem bset {B g i : Nat} {a w : World} (h : Below B a w) (hg : B ≤ g) (u : Value) : Below B a (w.setCell ⟨g, i, none⟩ u) := h.setCell hg u
theorem cmpP_bd (x y a b : Int) : -1 ≤ cmpP x y a b ∧ cmpP x y a b ≤ 1 := by
  unfold cmpP orS cmpI
  (repeat' split) <;> omega
def molS (ax ay bx b_y cx cy dx dy : Int) : Int :=
  1 - cmpP (ltr (erl ax ay bx b_y).1 (erl ax ay bx b_y).2 (erl cx cy dx dy).1 (erl cx cy dx dy).2).1 (ltr (erl ax ay bx b_y).1 (erl ax ay bx b_y).2 (erl cx cy dx dy).1 (erl cx cy dx dy).2).2
    (erl (ltr ax ay bx b_y).1 (ltr ax ay bx b_y).2 (ltr cx cy dx dy).1 (ltr cx cy dx dy).2).1 (erl (ltr ax ay bx b_y).1 (ltr ax ay bx b_y).2 (ltr cx cy dx dy).1 (ltr cx cy dx dy).2).2
theorem keepsB {f : FuncId} {args : Array Value} {v : Value} {wc : World} (h : ∀ W, Calls Try.prog f args W fun e w' => e = .returned v ∧ Below W.heap.size W w') :
    ∀ W, Below wc.heap.size wc W → Calls Try.prog f args W fun e w' => e = .returned v ∧ Below wc.heap.size wc w' ∧ Below W.heap.size W w' :=
  fun W hk => (h W).mono fun _ _ ⟨he, hb⟩ => ⟨he, hk.trans (bmono hb hk.size), hb⟩
theorem kp4b {ax ay bx b_y cx cy dx dy : Int} {w wc W : World} (hK : KP4 ax ay bx b_y cx cy dx dy w wc) (hb : Below wc.heap.size wc W) : Below wc.heap.size wc W ∧ w.heap.size + 3 < W.heap.size ∧
        W.cell? ⟨w.heap.size, 0, none⟩ = some (.int .i64 ax) ∧ W.cell? ⟨w.heap.size, 1, none⟩ = some (.int .i64 ay) ∧
        W.cell? ⟨w.heap.size + 1, 0, none⟩ = some (.int .i64 bx) ∧ W.cell? ⟨w.heap.size + 1, 1, none⟩ = some (.int .i64 b_y) ∧
        W.cell? ⟨w.heap.size + 1 + 1, 0, none⟩ = some (.int .i64 cx) ∧ W.cell? ⟨w.heap.size + 1 + 1, 1, none⟩ = some (.int .i64 cy) ∧
        W.cell? ⟨w.heap.size + 1 + 1 + 1, 0, none⟩ = some (.int .i64 dx) ∧ W.cell? ⟨w.heap.size + 1 + 1 + 1, 1, none⟩ = some (.int .i64 dy) :=
  ⟨hb, (hK.over hb).all.2⟩
set_option maxHeartbeats 4000000 in
theorem mol_any (ax ay bx b_y cx cy dx dy : Int) (w : World) :
    Calls Try.prog 55 #[.agg #[.int .i64 ax, .int .i64 ay], .agg #[.int .i64 bx, .int .i64 b_y], .agg #[.int .i64 cx, .int .i64 cy], .agg #[.int .i64 dx, .int .i64 dy]] w fun e w' => e = .returned (.int .i64 (molS ax ay bx b_y cx cy dx dy)) ∧ Below w.heap.size w w' := by
  have hcm : ∃ r, r = molS ax ay bx b_y cx cy dx dy := ⟨_, rfl⟩
  obtain ⟨R, hcm⟩ := hcm
  rw [← hcm]
  unfold molS at hcm
  have q1 : ∀ W, KP4 ax ay bx b_y cx cy dx dy w W → Calls Try.prog 59 #[.agg #[.int .i64 ax, .int .i64 ay], .agg #[.int .i64 bx, .int .i64 b_y]] W _ := keepsKL (erl_any ax ay bx b_y)
  have q2 : ∀ W, KP4 ax ay bx b_y cx cy dx dy w W → Calls Try.prog 59 #[.agg #[.int .i64 cx, .int .i64 cy], .agg #[.int .i64 dx, .int .i64 dy]] W _ := keepsKL (erl_any cx cy dx dy)
  generalize erl ax ay bx b_y = P1 at q1 hcm
  generalize erl cx cy dx dy = P2 at q2 hcm
  have q3 : ∀ W, KP4 ax ay bx b_y cx cy dx dy w W → Calls Try.prog 58 #[.agg #[.int .i64 P1.1, .int .i64 P1.2], .agg #[.int .i64 P2.1, .int .i64 P2.2]] W _ := keepsKL (ltr_any P1.1 P1.2 P2.1 P2.2)
  generalize ltr P1.1 P1.2 P2.1 P2.2 = LO at q3 hcm
  go_enter Try.func55, Try.ntmps55
  go_upto_region 1 with (fail)
  go_cut [9] from 11 to 17 (fun s9 wx => One2 LO (w.heap.size + 4) s9 wx ∧ KP4 ax ay bx b_y cx cy dx dy w wx)
  case first =>
    have hk0 : KP4 ax ay bx b_y cx cy dx dy w _ := KP4.start
    have hka := hk0.all
    go_region_held3 (fun W => KP4 ax ay bx b_y cx cy dx dy w W ∧ w.heap.size + 3 < W.heap.size ∧
        W.cell? ⟨w.heap.size, 0, none⟩ = some (.int .i64 ax) ∧ W.cell? ⟨w.heap.size, 1, none⟩ = some (.int .i64 ay) ∧
        W.cell? ⟨w.heap.size + 1, 0, none⟩ = some (.int .i64 bx) ∧ W.cell? ⟨w.heap.size + 1, 1, none⟩ = some (.int .i64 b_y) ∧
        W.cell? ⟨w.heap.size + 1 + 1, 0, none⟩ = some (.int .i64 cx) ∧ W.cell? ⟨w.heap.size + 1 + 1, 1, none⟩ = some (.int .i64 cy) ∧
        W.cell? ⟨w.heap.size + 1 + 1 + 1, 0, none⟩ = some (.int .i64 dx) ∧ W.cell? ⟨w.heap.size + 1 + 1 + 1, 1, none⟩ = some (.int .i64 dy))
      (first | exact hka | exact KP4.all ‹_› | exact (KP4.alloc ‹_› _).all | exact (KP4.drew ‹_›).all | exact (KP4.drew (KP4.alloc ‹_› _)).all | exact (KP4.set (KP4.set ‹_› (by omega) _) (by omega) _).all | exact (KP4.drew (KP4.set (KP4.set ‹_› (by omega) _) (by omega) _)).all)
      (first
        | (go_at_call_of 59 ax; refine (q1 _ ?_).mono ?_; (first | assumption | exact And.left ‹_›); (rintro e w1 ⟨rfl, hk1, hb1⟩; have ys1 := KP4.size hk1; (try have z0x1 : Blk w1 (w.heap.size + 1 + 1 + 1 + 1) 46 #[.int .i64 0, .int .i64 0] := (by refine Blk.below ?_ hb1 ?_; (first | (refine Blk.drew (Blk.new2 ?_); simp) | (refine Blk.new2 ?_; simp) | (refine Blk.drew (Blk.new2 ?_); rfl) | (refine Blk.new2 ?_; rfl)); simp))))
        | (go_at_call_of 59 cx; refine (q2 _ ?_).mono ?_; (first | assumption | exact And.left ‹_›); (rintro e w2 ⟨rfl, hk2, hb2⟩; have ys2 := KP4.size hk2; (try (revert z0x1; intro z0x1; have z0x2 : Blk w2 (w.heap.size + 1 + 1 + 1 + 1) 46 #[.int .i64 0, .int .i64 0] := (by refine Blk.below z0x1 hb2 ?_; exact Blk.lt z0x1))); (try have z1x2 : Blk w2 w1.heap.size 46 #[.int .i64 0, .int .i64 0] := (by refine Blk.below ?_ hb2 ?_; (first | (refine Blk.drew (Blk.new2 ?_); simp) | (refine Blk.new2 ?_; simp) | (refine Blk.drew (Blk.new2 ?_); rfl) | (refine Blk.new2 ?_; rfl)); simp))))
        | (go_at_call 58; refine (q3 _ ?_).mono ?_; (first | assumption | exact And.left ‹_›); (rintro e w3 ⟨rfl, hk3, hb3⟩; have ys3 := KP4.size hk3; (try (revert z0x2; intro z0x2; have z0x3 : Blk w3 (w.heap.size + 1 + 1 + 1 + 1) 46 #[.int .i64 0, .int .i64 0] := (by refine Blk.below z0x2 hb3 ?_; exact Blk.lt z0x2))); (try (revert z0x3; intro z0x3; obtain ⟨f0a, f0b, f0c⟩ := zb2 z0x3; have f0d := Blk.lt z0x3)); (try (revert z1x2; intro z1x2; have z1x3 : Blk w3 w1.heap.size 46 #[.int .i64 0, .int .i64 0] := (by refine Blk.below z1x2 hb3 ?_; exact Blk.lt z1x2))); (try (revert z1x3; intro z1x3; obtain ⟨f1a, f1b, f1c⟩ := zb2 z1x3; have f1d := Blk.lt z1x3)); (try have z2x3 : Blk w3 w2.heap.size 46 #[.int .i64 0, .int .i64 0] := (by refine Blk.below ?_ hb3 ?_; (first | (refine Blk.drew (Blk.new2 ?_); simp) | (refine Blk.new2 ?_; simp) | (refine Blk.drew (Blk.new2 ?_); rfl) | (refine Blk.new2 ?_; rfl)); simp)); (try (revert z2x3; intro z2x3; obtain ⟨f2a, f2b, f2c⟩ := zb2 z2x3; have f2d := Blk.lt z2x3)))))
    all_goals (go_wp2_with fail; go_meet)
    all_goals first | exact ⟨⟨_, rfl, by omega, Blk.new2 rfl⟩, KP4.alloc hk3 _⟩ | exact ⟨⟨_, rfl, by omega, Blk.set2 (by assumption) _ _⟩, KP4.set (KP4.set hk3 (by omega) _) (by omega) _⟩
  case rest =>
    obtain ⟨⟨g, rfl, hg, hgb⟩, hK⟩ := hcut
    clear q1 q2 q3
    obtain ⟨wd, hwd⟩ : ∃ wd : World, wd = wc := ⟨_, rfl⟩
    subst hwd
    have hgl := hgb.lt
    have r1 : ∀ W, Below wd.heap.size wd W → Calls Try.prog 58 #[.agg #[.int .i64 ax, .int .i64 ay], .agg #[.int .i64 bx, .int .i64 b_y]] W _ := keepsB (ltr_any ax ay bx b_y)
    have r2 : ∀ W, Below wd.heap.size wd W → Calls Try.prog 58 #[.agg #[.int .i64 cx, .int .i64 cy], .agg #[.int .i64 dx, .int .i64 dy]] W _ := keepsB (ltr_any cx cy dx dy)
    generalize ltr ax ay bx b_y = Q1 at r1 hcm
    generalize ltr cx cy dx dy = Q2 at r2 hcm
    have r3 : ∀ W, Below wd.heap.size wd W → Calls Try.prog 59 #[.agg #[.int .i64 Q1.1, .int .i64 Q1.2], .agg #[.int .i64 Q2.1, .int .i64 Q2.2]] W _ := keepsB (erl_any Q1.1 Q1.2 Q2.1 Q2.2)
    generalize erl Q1.1 Q1.2 Q2.1 Q2.2 = HI at r3 hcm
    go_wp2
    go_cut [10] from 18 to 24 (fun s10 wx => One2 HI wd.heap.size s10 wx ∧ Below wd.heap.size wd wx)
    case first =>
      have hka := kp4b hK (Below.refl _ _)
      go_region_held3 (fun W => Below wd.heap.size wd W ∧ w.heap.size + 3 < W.heap.size ∧
        W.cell? ⟨w.heap.size, 0, none⟩ = some (.int .i64 ax) ∧ W.cell? ⟨w.heap.size, 1, none⟩ = some (.int .i64 ay) ∧
        W.cell? ⟨w.heap.size + 1, 0, none⟩ = some (.int .i64 bx) ∧ W.cell? ⟨w.heap.size + 1, 1, none⟩ = some (.int .i64 b_y) ∧
        W.cell? ⟨w.heap.size + 1 + 1, 0, none⟩ = some (.int .i64 cx) ∧ W.cell? ⟨w.heap.size + 1 + 1, 1, none⟩ = some (.int .i64 cy) ∧
        W.cell? ⟨w.heap.size + 1 + 1 + 1, 0, none⟩ = some (.int .i64 dx) ∧ W.cell? ⟨w.heap.size + 1 + 1 + 1, 1, none⟩ = some (.int .i64 dy))
        (first | exact hka | exact kp4b hK ‹_› | exact kp4b hK (Below.alloc ‹_› (Below.size ‹_›) _) | exact kp4b hK (Below.alloc (Below.refl _ _) (Nat.le_refl _) _) | exact kp4b hK (Below.drew ‹_›) | exact kp4b hK (Below.drew (Below.alloc ‹_› (Below.size ‹_›) _)) | exact kp4b hK (Below.drew (Below.alloc (Below.refl _ _) (Nat.le_refl _) _)) | exact kp4b hK (Below.drew (Below.refl _ _)) | exact kp4b hK (bset (bset ‹_› (by omega) _) (by omega) _))
        (first
          | (go_at_call_of 58 ax; refine (r1 _ ?_).mono ?_; (first | assumption | exact And.left ‹_›); (rintro e w1 ⟨rfl, hk1, hb1⟩; have ys1 := Below.size hk1; (try have z0x1 : Blk w1 wd.heap.size 46 #[.int .i64 0, .int .i64 0] := (by refine Blk.below ?_ hb1 ?_; (first | (refine Blk.drew (Blk.new2 ?_); simp) | (refine Blk.new2 ?_; simp) | (refine Blk.drew (Blk.new2 ?_); rfl) | (refine Blk.new2 ?_; rfl)); simp))))
          | (go_at_call_of 58 cx; refine (r2 _ ?_).mono ?_; (first | assumption | exact And.left ‹_›); (rintro e w2 ⟨rfl, hk2, hb2⟩; have ys2 := Below.size hk2; (try (revert z0x1; intro z0x1; have z0x2 : Blk w2 wd.heap.size 46 #[.int .i64 0, .int .i64 0] := (by refine Blk.below z0x1 hb2 ?_; exact Blk.lt z0x1))); (try have z1x2 : Blk w2 w1.heap.size 46 #[.int .i64 0, .int .i64 0] := (by refine Blk.below ?_ hb2 ?_; (first | (refine Blk.drew (Blk.new2 ?_); simp) | (refine Blk.new2 ?_; simp) | (refine Blk.drew (Blk.new2 ?_); rfl) | (refine Blk.new2 ?_; rfl)); simp))))
          | (go_at_call 59; refine (r3 _ ?_).mono ?_; (first | assumption | exact And.left ‹_›); (rintro e w3 ⟨rfl, hk3, hb3⟩; have ys3 := Below.size hk3; (try (revert z0x2; intro z0x2; have z0x3 : Blk w3 wd.heap.size 46 #[.int .i64 0, .int .i64 0] := (by refine Blk.below z0x2 hb3 ?_; exact Blk.lt z0x2))); (try (revert z0x3; intro z0x3; obtain ⟨f0a, f0b, f0c⟩ := zb2 z0x3; have f0d := Blk.lt z0x3)); (try (revert z1x2; intro z1x2; have z1x3 : Blk w3 w1.heap.size 46 #[.int .i64 0, .int .i64 0] := (by refine Blk.below z1x2 hb3 ?_; exact Blk.lt z1x2))); (try (revert z1x3; intro z1x3; obtain ⟨f1a, f1b, f1c⟩ := zb2 z1x3; have f1d := Blk.lt z1x3)); (try have z2x3 : Blk w3 w2.heap.size 46 #[.int .i64 0, .int .i64 0] := (by refine Blk.below ?_ hb3 ?_; (first | (refine Blk.drew (Blk.new2 ?_); simp) | (refine Blk.new2 ?_; simp) | (refine Blk.drew (Blk.new2 ?_); rfl) | (refine Blk.new2 ?_; rfl)); simp)); (try (revert z2x3; intro z2x3; obtain ⟨f2a, f2b, f2c⟩ := zb2 z2x3; have f2d := Blk.lt z2x3)))))
      all_goals (go_wp2_with fail; go_meet)
      all_goals first | exact ⟨⟨_, rfl, by omega, Blk.new2 rfl⟩, Below.alloc hk3 (Below.size hk3) _⟩ | exact ⟨⟨_, rfl, by omega, Blk.set2 (by assumption) _ _⟩, bset (bset hk3 (by omega) _) (by omega) _⟩
    case rest =>
      obtain ⟨⟨k, rfl, hk, hkb⟩, hbx⟩ := hcut
      obtain ⟨g0, g1, gf⟩ := zb2 (hgb.below hbx hgl)
      obtain ⟨k0, k1, kf⟩ := zb2 hkb
      have hfin := cmpP_any LO.1 LO.2 HI.1 HI.2
      have hbd := cmpP_bd LO.1 LO.2 HI.1 HI.2
      have hb0 : Below w.heap.size w wc := hK.1.trans (bmono hbx hK.1.size)
      generalize cmpP LO.1 LO.2 HI.1 HI.2 = r at hfin hbd hcm
      have HCM := Lib.hid hcm
      clear hcm hgb hkb r1 r2 r3
      go_wp2_with (go_at_call 60; refine (hfin _).mono ?_; rintro e w1 ⟨rfl, hb1⟩)
      go_ret
      exact ⟨ret_int (by rw [HCM.out]), hb0.trans (bmono hb1 hb0.size)⟩
end Go.Proofs.Ythlidkmalfjmbaa
