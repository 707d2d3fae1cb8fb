/- The walks of the reference's Within. -/
import Derived.Test.YtoeniaafcnnnoaaEqu
namespace Go.Proofs.Ytoeniaafcnnnoaa
open Go.RowKit

theorem two4 {w W : World} {g k : Nat} {t : TypeId} {c1 c2 c3 c4 d1 d2 d3 d4 : Value} (hb : Below w.heap.size w W) (h1 : Blk W g t #[c1, c2, c3, c4]) (h2 : Blk W k t #[d1, d2, d3, d4]) (hg : w.heap.size ≤ g) (hk : w.heap.size ≤ k) (hne : g ≠ k) (p q r s x y z o : Value) :
    Blk ((((((((W.setCell ⟨g, 0, none⟩ p).setCell ⟨g, 1, none⟩ q).setCell ⟨g, 2, none⟩ r).setCell ⟨g, 3, none⟩ s).setCell ⟨k, 0, none⟩ x).setCell ⟨k, 1, none⟩ y).setCell ⟨k, 2, none⟩ z).setCell ⟨k, 3, none⟩ o) g t #[p, q, r, s] ∧
    Blk ((((((((W.setCell ⟨g, 0, none⟩ p).setCell ⟨g, 1, none⟩ q).setCell ⟨g, 2, none⟩ r).setCell ⟨g, 3, none⟩ s).setCell ⟨k, 0, none⟩ x).setCell ⟨k, 1, none⟩ y).setCell ⟨k, 2, none⟩ z).setCell ⟨k, 3, none⟩ o) k t #[x, y, z, o] ∧
    Below w.heap.size w ((((((((W.setCell ⟨g, 0, none⟩ p).setCell ⟨g, 1, none⟩ q).setCell ⟨g, 2, none⟩ r).setCell ⟨g, 3, none⟩ s).setCell ⟨k, 0, none⟩ x).setCell ⟨k, 1, none⟩ y).setCell ⟨k, 2, none⟩ z).setCell ⟨k, 3, none⟩ o) :=
  ⟨Blk.far4 (Blk.setq h1 _ _ _ _) hne _ _ _ _, Blk.setq (Blk.far4 h2 (Ne.symm hne) _ _ _ _) _ _ _ _,
    ((((((((hb.setCell hg _).setCell hg _).setCell hg _).setCell hg _).setCell hk _).setCell hk _).setCell hk _).setCell hk _)⟩
set_option maxHeartbeats 4000000 in
theorem rWithin_gen (a b c d k l m n p q r s t u v o : Int) (hn1 : ∀ w, Calls Try.prog 31 #[.agg #[.int .i64 a, .int .i64 b, .int .i64 c, .int .i64 d]] w fun e w' => e = .returned (.agg #[.int .i64 p, .int .i64 q, .int .i64 r, .int .i64 s]) ∧ Below w.heap.size w w') (hn2 : ∀ w, Calls Try.prog 31 #[.agg #[.int .i64 k, .int .i64 l, .int .i64 m, .int .i64 n]] w fun e w' => e = .returned (.agg #[.int .i64 t, .int .i64 u, .int .i64 v, .int .i64 o]) ∧ Below w.heap.size w w') (w : World) :
    Calls Try.prog 32 #[.agg #[.int .i64 a, .int .i64 b, .int .i64 c, .int .i64 d], .agg #[.int .i64 k, .int .i64 l, .int .i64 m, .int .i64 n]] w fun e w' => e = .returned (.bool (wthB p q r s t u v o)) ∧ Below w.heap.size w w' := by
  obtain ⟨X, HX⟩ : ∃ X, X = wthB p q r s t u v o := ⟨_, rfl⟩
  rw [← HX]
  unfold wthB at HX
  have HY := Lib.hid HX
  clear HX
  go_enter Try.func32, Try.ntmps32
  go_upto_region 1 with (fail)
  go_cut [5] from 5 to 8 (fun _ wx => Blk wx w.heap.size 32 #[.int .i64 p, .int .i64 q, .int .i64 r, .int .i64 s] ∧ Blk wx (w.heap.size + 1) 32 #[.int .i64 t, .int .i64 u, .int .i64 v, .int .i64 o] ∧ Below w.heap.size w wx)
  case first =>
    have hk1 : KHH a b c d k l m n w _ := KHH.start
    obtain ⟨_, hsz, ⟨p1, p2, p3, p4⟩, p5, p6, p7, p8⟩ := hk1.alls
    clear p1 p2 p3 p4 p5 p6 p7 p8 hsz
    go_region_with (first
      | (revert hb1; intro hb1; go_at_call 31; refine (hn2 _).mono ?_; rintro e w2 ⟨rfl, hb2⟩; obtain ⟨hc2, hf2⟩ := bcell hb2; have hz2 := hb2.size; (try simp at hz2); (try have y20 : w.heap.size < w2.heap.size := (by omega)); (try have y20p : w.heap.size < w2.heap.size + 1 := (by omega)); (try have y21 : w.heap.size + 1 < w2.heap.size := (by omega)); (try have y21p : w.heap.size + 1 < w2.heap.size + 1 := (by omega)); (try have y22 : w.heap.size + 1 + 1 < w2.heap.size := (by omega)); (try have y22p : w.heap.size + 1 + 1 < w2.heap.size + 1 := (by omega)); (try have v0x2 : w0.heap.size < w2.heap.size := (by omega)); (try have v0x2p : w0.heap.size < w2.heap.size + 1 := (by omega)); (try have v1x2 : w1.heap.size < w2.heap.size := (by omega)); (try have v1x2p : w1.heap.size < w2.heap.size + 1 := (by omega)))
      | (go_at_call 31; refine (hn1 _).mono ?_; rintro e w1 ⟨rfl, hb1⟩; obtain ⟨hc1, hf1⟩ := bcell hb1; have hz1 := hb1.size; (try simp at hz1); (try have y10 : w.heap.size < w1.heap.size := (by omega)); (try have y10p : w.heap.size < w1.heap.size + 1 := (by omega)); (try have y11 : w.heap.size + 1 < w1.heap.size := (by omega)); (try have y11p : w.heap.size + 1 < w1.heap.size + 1 := (by omega)); (try have y12 : w.heap.size + 1 + 1 < w1.heap.size := (by omega)); (try have y12p : w.heap.size + 1 + 1 < w1.heap.size + 1 := (by omega)); (try have v0x1 : w0.heap.size < w1.heap.size := (by omega)); (try have v0x1p : w0.heap.size < w1.heap.size + 1 := (by omega))))
    all_goals
      have hk2 : KHH a b c d k l m n w w1 := by first | exact KL.over hk1 hb1 | exact KL.over (KL.drew hk1) hb1
      have hk3 : KHH a b c d k l m n w w2 := by first | exact KL.over hk2 hb2 | exact KL.over (KL.drew hk2) hb2
      have z1 := KL.blk hk3 (.head _)
      have z2 := KL.blk hk3 (.tail _ (.head _))
      go_wp2_with fail
      go_meet
      exact two4 hk3.1 z1 z2 (Nat.le_refl _) (Nat.le_succ _) (Nat.ne_of_lt (Nat.lt_succ_self _)) _ _ _ _ _ _ _ _
  case rest =>
    obtain ⟨z1, z2, hz⟩ := hcut
    have l1 := z1.lt
    have l2 := z2.lt
    obtain ⟨p1, p2, p3, p4⟩ := blk4 z1
    obtain ⟨p5, p6, p7, p8⟩ := blk4 z2
    clear z1 z2 hn1 hn2
    go_wp2
    all_goals
      go_ret
      refine ⟨ret_bool ?_, hz⟩
      rw [HY.out, Bool.eq_iff_iff]
      simp_all
    all_goals omega
end Go.Proofs.Ytoeniaafcnnnoaa
