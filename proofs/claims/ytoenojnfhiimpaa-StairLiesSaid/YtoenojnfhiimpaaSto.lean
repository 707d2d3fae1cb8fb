/- The walk of stair's Stones. No condition. -/
import Derived.Test.YtoenojnfhiimpaaFit
import Derived.Test.YtoenojnfhiimpaaLv2
import Derived.Test.YtoenojnfhiimpaaGho
import Derived.Deep.Onto
namespace Go.Proofs.Ytoenojnfhiimpaa
open Go.RowKit

def stn (r x g wd l : Int) (i : Nat) : List Value := [.int .i64 ((i : Int) * g), .int .i64 0, .int .i64 (lvl r x i), .int .i64 (((i : Int) + 1) * g + l), .int .i64 wd, .int .i64 (lvl r x (i + 1))]
theorem mul_bd {a b A B : Int} (h1 : 0 ≤ a) (h2 : a ≤ A) (h3 : 0 ≤ b) (h4 : b ≤ B) : 0 ≤ a * b ∧ a * b ≤ A * B := ⟨Int.mul_nonneg h1 h3, Int.mul_le_mul h2 h4 h3 (by omega)⟩
set_option maxHeartbeats 4000000 in
set_option maxRecDepth 100000 in
theorem stones_ok (n : Nat) (r x g wd l : Int) (hv : vldB n r x g wd l = true) (w : World) :
    Calls Try.prog 22 #[.agg #[.int .i64 n, .int .i64 r, .int .i64 x, .int .i64 g, .int .i64 wd, .int .i64 l]] w fun e w' => ∃ A c, e = .returned (.tuple #[.slice A n c, .int .i64 0]) ∧ w'.ownsRow w.heap.size 66 6 (.slice A n c) n (rowTo (stn r x g wd l) n) ∧ Below w.heap.size w w' := by
  obtain ⟨i66_, i66_0, i66_1, i66_2, i66_3⟩ := info_parts (show (Try.prog.info? 66).map (fun i => (i.zero, i.size, i.bytes)) = some (some (.agg #[.int .i64 0,.int .i64 0,.int .i64 0,.int .i64 0,.int .i64 0,.int .i64 0]), 6, 48) by kernel_rfl)
  have hF := fun w => checkFlight_any n r x g wd l w
  rw [flE_ok.2 hv] at hF
  obtain ⟨v1, v2, v3, v4, v5, v6, v7, v8, v9, v10, v11, v12, v13⟩ := vldB_iff.1 hv
  clear hv
  have hL := fun k (hk : k ≤ 1000) W => level_any n r x g wd l k hk v3 v4 W
  go_enter Try.func22, Try.ntmps22
  go_wp2_with (go_at_call 34; refine (hF _).mono ?_; rintro e w1 ⟨rfl, hb1⟩; obtain ⟨hc1, hf1⟩ := bcell hb1; have hz1 := hb1.size; (try simp at hz1); (try have y10 : w.heap.size < w1.heap.size := by omega); (try have y11 : w.heap.size + 1 < w1.heap.size := by omega); (try have y12 : w.heap.size + 1 + 1 < w1.heap.size := by omega))
  have hB : Blk w1 w.heap.size 34 #[.int .i64 n, .int .i64 r, .int .i64 x, .int .i64 g, .int .i64 wd, .int .i64 l] := (Blk.new w 34 _).below hb1 (by simp <;> omega)
  have hbw : Below w.heap.size w w1 := ((Below.refl _ _).alloc (Nat.le_refl _) _).trans (bmono hb1 (by simp <;> omega))
  clear hb1 hc1 hf1
  go_loopw [14, 5] (fun i s W => ∃ (j : Nat) (A : Option Addr) (c : Nat), j ≤ n ∧ i = .int .i64 j ∧ s = .slice A j c ∧ W.ownsRow (w.heap.size + 1) 66 6 (.slice A j c) j (rowTo (stn r x g wd l) j) ∧ KL [(w.heap.size, 34, #[.int .i64 n, .int .i64 r, .int .i64 x, .int .i64 g, .int .i64 wd, .int .i64 l])] w W) (fun i _ _ => n - (intOf i).toNat)
  case atStart => exact ⟨0, none, 0, Nat.zero_le _, rfl, rfl, ⟨rfl, .inl ⟨rfl, rfl⟩⟩, KL.cons hB ⟨hbw, fun q hq => by cases hq⟩⟩
  case round =>
    obtain ⟨j, A, c, hj, rfl, rfl, hown, hK⟩ := hrel
    obtain ⟨y0, y1, y2, y3, y4, y5, y6⟩ := bl6 (KL.blk hK (.head _))
    by_cases hlt : j < n
    · have hle : (j : Int) < (n : Int) := by omega
      go_wp2
      obtain ⟨J, hJ⟩ : ∃ y, y = (j : Int) := ⟨_, rfl⟩
      rw [← hJ]
      obtain ⟨jp, hjp⟩ : ∃ y, y = J + 1 := ⟨_, rfl⟩
      obtain ⟨jg, hjg⟩ : ∃ y, y = J * g := ⟨_, rfl⟩
      obtain ⟨pg, hpg⟩ : ∃ y, y = jp * g := ⟨_, rfl⟩
      obtain ⟨pe, hpe⟩ : ∃ y, y = pg + l := ⟨_, rfl⟩
      obtain ⟨lv0, hlv0⟩ : ∃ y, y = lvl r x j := ⟨_, rfl⟩
      obtain ⟨lv1, hlv1⟩ : ∃ y, y = lvl r x (j + 1) := ⟨_, rfl⟩
      have hL0 := hL j (by omega)
      have hL1 := hL (j + 1) (by omega)
      rw [← hlv0, ← hJ] at hL0
      rw [← hlv1, show ((j + 1 : Nat) : Int) - 1 = J by omega] at hL1
      have m1 := mul_bd (a := J) (b := g) (A := 64) (B := 10000) (by omega) (by omega) (by omega) v6
      have m2 := mul_bd (a := jp) (b := g) (A := 64) (B := 10000) (by omega) (by omega) (by omega) v6
      rw [← hjg] at m1
      rw [← hpg] at m2
      have W0 : IntKind.i64.wrap (J - 1) = J - 1 := IntWalk.i64_in _ (by omega)
      have W1 : IntKind.i64.wrap (J * g) = jg := by rw [← hjg]; exact IntWalk.i64_in _ (by omega)
      have W2 : IntKind.i64.wrap (J + 1) = jp := by rw [← hjp]; exact IntWalk.i64_in _ (by omega)
      have W3 : IntKind.i64.wrap (jp * g) = pg := by rw [← hpg]; exact IntWalk.i64_in _ (by omega)
      have W4 : IntKind.i64.wrap (pg + l) = pe := by rw [← hpe]; exact IntWalk.i64_in _ (by omega)
      have hnew : [.int .i64 jg, .int .i64 0, .int .i64 lv0, .int .i64 pe, .int .i64 wd, .int .i64 lv1] = stn r x g wd l j := by
        unfold stn; rw [hjg, hpe, hpg, hjp, hlv0, hlv1, hJ]
      have HJ := Lib.hid hJ
      have HN := Lib.hid hnew
      clear hnew hL hjg hpe hpg hjp hlv0 hlv1 m1 m2 hJ
      refine wp_region_any (by kernel_rfl) ?_
      try (change wpAny _ _ _ _ _ _ _ (World.drew _))
      refine wpAny_gh (Γ := Nat × Value) (fr := fun o => #[.agg #[.int .i64 ((n : Int)),.int .i64 r,.int .i64 x,.int .i64 g,.int .i64 wd,.int .i64 l],.pointer (some ⟨w.heap.size, 0, none⟩),.slice none 0 0,.int .i64 0,.int .i64 0,o 27,.int .i64 J,.agg #[.int .i64 ((n : Int)),.int .i64 r,.int .i64 x,.int .i64 g,.int .i64 wd,.int .i64 l],.int .i64 0,.int .i64 0,.bool false,undef,.pointer (some ⟨w.heap.size, 0, none⟩),.int .i64 ((n : Int)),.int .i64 J,.bool true,.int .i64 J,o 0,o 1,o 2,o 3,o 4,o 5,o 6,o 7,o 8,o 9,o 10,o 11,o 12,o 13,o 14,o 15,o 16,o 17,o 18,o 19,o 20,o 21,o 22,o 23,o 24,o 25,o 26,u44,undef]) (vals := fun γ i_ => if i_ = 25 then (.slice (some ⟨γ.1, 0, none⟩) 1 1) else if i_ = 26 then γ.2 else if i_ = 27 then γ.2 else ([.slice A j c,.int .i64 J,.pointer (some ⟨w.heap.size, 3, none⟩),.int .i64 g,.int .i64 jg,.agg #[.int .i64 ((n : Int)),.int .i64 r,.int .i64 x,.int .i64 g,.int .i64 wd,.int .i64 l],.int .i64 J,.int .i64 (J - 1),.int .i64 lv0,.agg #[.int .i64 jg,.int .i64 0,.int .i64 lv0],.int .i64 J,.int .i64 jp,.pointer (some ⟨w.heap.size, 3, none⟩),.int .i64 g,.int .i64 pg,.pointer (some ⟨w.heap.size, 5, none⟩),.int .i64 l,.int .i64 pe,.pointer (some ⟨w.heap.size, 4, none⟩),.int .i64 wd,.agg #[.int .i64 ((n : Int)),.int .i64 r,.int .i64 x,.int .i64 g,.int .i64 wd,.int .i64 l],.int .i64 J,.int .i64 lv1,.agg #[.int .i64 pe,.int .i64 wd,.int .i64 lv1],.agg #[.int .i64 jg,.int .i64 0,.int .i64 lv0,.int .i64 pe,.int .i64 wd,.int .i64 lv1],undef,undef,undef] : List Value).getD i_ undef) (K := fun γ k_ => ([(fun W => W.ownsRow (w.heap.size + 1) 66 6 (.slice A j c) j (rowTo (stn r x g wd l) j) ∧ KL [(w.heap.size,34,#[.int .i64 ((n : Int)),.int .i64 r,.int .i64 x,.int .i64 g,.int .i64 wd,.int .i64 l])] w W),(fun W => W.ownsRow (w.heap.size + 1) 66 6 (.slice A j c) j (rowTo (stn r x g wd l) j) ∧ KL [(w.heap.size,34,#[.int .i64 ((n : Int)),.int .i64 r,.int .i64 x,.int .i64 g,.int .i64 wd,.int .i64 l])] w W ∧ Blk W γ.1 66 #[.int .i64 jg, .int .i64 0, .int .i64 lv0, .int .i64 pe, .int .i64 wd, .int .i64 lv1]),(fun W => W.ownsRow (w.heap.size + 1) 66 6 γ.2 (j + 1) (rowTo (stn r x g wd l) j ++ [.int .i64 jg, .int .i64 0, .int .i64 lv0, .int .i64 pe, .int .i64 wd, .int .i64 lv1]) ∧ KL [(w.heap.size,34,#[.int .i64 ((n : Int)),.int .i64 r,.int .i64 x,.int .i64 g,.int .i64 wd,.int .i64 l])] w W)] : List (World → Prop)).getD k_ (fun _ => True)) (dep := fun i_ => [[],[],[],[2],[1,3],[],[],[6],[5,7],[4,8],[],[10],[],[12],[11,13],[],[15],[14,16],[],[18],[],[],[8,20,21],[17,19,22],[9,23],[24],[0,25],[0,26]].getD i_ []) (dv := fun i_ => [[],[],[],[2],[1,3],[],[],[6],[5,7],[4,8],[],[10],[],[12],[11,13],[],[15],[14,16],[],[18],[],[],[20,21],[17,19,22],[9,23],[24],[0,25],[26]].getD i_ []) (du := fun i_ => [[27],[],[],[],[],[],[],[],[],[],[],[],[],[],[],[],[],[],[],[],[],[],[],[],[],[],[],[]].getD i_ []) (kd := fun i_ => [0,0,0,1,0,1,0,0,1,0,0,0,0,1,0,0,1,0,0,1,1,0,1,0,0,2,3,0].getD i_ 0) (ss := [25,26]) (l := [0,1,2,3,4,5,6,7,8,9,10,11,12,13,14,15,16,17,18,19,20,21,22,23,24,25,26,27]) (f0 := fun i_ => ([u17,u18,u19,u20,u21,u22,u23,u24,u25,u26,u27,u28,u29,u30,u31,u32,u33,u34,u35,u36,u37,u38,u39,u40,u41,u42,u43,.slice A j c] : List Value).getD i_ undef) (A := fun γ => ⟨#[.agg #[.int .i64 ((n : Int)),.int .i64 r,.int .i64 x,.int .i64 g,.int .i64 wd,.int .i64 l],.pointer (some ⟨w.heap.size, 0, none⟩),.slice none 0 0,.int .i64 0,.int .i64 0,γ.2,.int .i64 J,.agg #[.int .i64 ((n : Int)),.int .i64 r,.int .i64 x,.int .i64 g,.int .i64 wd,.int .i64 l],.int .i64 0,.int .i64 0,.bool false,undef,.pointer (some ⟨w.heap.size, 0, none⟩),.int .i64 ((n : Int)),.int .i64 J,.bool true,.int .i64 J,.slice A j c,.int .i64 J,.pointer (some ⟨w.heap.size, 3, none⟩),.int .i64 g,.int .i64 jg,.agg #[.int .i64 ((n : Int)),.int .i64 r,.int .i64 x,.int .i64 g,.int .i64 wd,.int .i64 l],.int .i64 J,.int .i64 (J - 1),.int .i64 lv0,.agg #[.int .i64 jg,.int .i64 0,.int .i64 lv0],.int .i64 J,.int .i64 jp,.pointer (some ⟨w.heap.size, 3, none⟩),.int .i64 g,.int .i64 pg,.pointer (some ⟨w.heap.size, 5, none⟩),.int .i64 l,.int .i64 pe,.pointer (some ⟨w.heap.size, 4, none⟩),.int .i64 wd,.agg #[.int .i64 ((n : Int)),.int .i64 r,.int .i64 x,.int .i64 g,.int .i64 wd,.int .i64 l],.int .i64 J,.int .i64 lv1,.agg #[.int .i64 pe,.int .i64 wd,.int .i64 lv1],.agg #[.int .i64 jg,.int .i64 0,.int .i64 lv0,.int .i64 pe,.int .i64 wd,.int .i64 lv1],(.slice (some ⟨γ.1, 0, none⟩) 1 1),γ.2,u44,undef], []⟩) 28 ?_ ?_ ?_ ?_ (0, .slice none 0 0) ?_ ⟨?_, ?_, ?_, ?_, ?_, ?_, ?_, ?_, ?_, ?_, ?_, ?_, ?_, ?_, ?_, ?_, ?_, ?_, ?_, ?_, ?_, ?_, ?_, ?_, ?_, ?_, ?_, ?_, trivial⟩ ?_ ?_
      · rfl
      · rfl
      · decide +kernel
      · decide +kernel
      · exact ⟨hown.drew, KL.drew hK⟩
      · intro γ o W
        show wpOp _ _ _ 0 _ ⟨#[_,_,_,_,_,.slice A j c,_,_,_,_,_,_,_,_,_,_,_,o 0,o 1,o 2,o 3,o 4,o 5,o 6,o 7,o 8,o 9,o 10,o 11,o 12,o 13,o 14,o 15,o 16,o 17,o 18,o 19,o 20,o 21,o 22,o 23,o 24,o 25,o 26,_,_], []⟩ W
        refine wpOp_step rfl (fun K' hK => ?_)
        go_simp
        exact hK _ _ ⟨rfl, rfl⟩
      · intro γ o W
        show wpOp _ _ _ 1 _ ⟨#[_,_,_,_,_,o 27,_,_,_,_,_,_,_,_,_,_,_,o 0,o 1,o 2,o 3,o 4,o 5,o 6,o 7,o 8,o 9,o 10,o 11,o 12,o 13,o 14,o 15,o 16,o 17,o 18,o 19,o 20,o 21,o 22,o 23,o 24,o 25,o 26,_,_], []⟩ W
        refine wpOp_step rfl (fun K' hK => ?_)
        go_simp
        exact hK _ _ ⟨rfl, rfl⟩
      · intro γ o W
        show wpOp _ _ _ 2 _ ⟨#[_,_,_,_,_,o 27,_,_,_,_,_,_,_,_,_,_,_,o 0,o 1,o 2,o 3,o 4,o 5,o 6,o 7,o 8,o 9,o 10,o 11,o 12,o 13,o 14,o 15,o 16,o 17,o 18,o 19,o 20,o 21,o 22,o 23,o 24,o 25,o 26,_,_], []⟩ W
        refine wpOp_step rfl (fun K' hK => ?_)
        go_simp
        exact hK _ _ ⟨rfl, rfl⟩
      · intro γ o W hj
        have hj : W.ownsRow (w.heap.size + 1) 66 6 (.slice A j c) j (rowTo (stn r x g wd l) j) ∧ KL [(w.heap.size,34,#[.int .i64 ((n : Int)),.int .i64 r,.int .i64 x,.int .i64 g,.int .i64 wd,.int .i64 l])] w W := hj
        obtain ⟨cL, c0, c1, c2, c3, c4, c5⟩ := bl6 (KL.blk hj.2 (.head _))
        show wpOp _ _ _ 3 _ ⟨#[_,_,_,_,_,o 27,_,_,_,_,_,_,_,_,_,_,_,o 0,o 1,.pointer (some ⟨w.heap.size, 3, none⟩),o 3,o 4,o 5,o 6,o 7,o 8,o 9,o 10,o 11,o 12,o 13,o 14,o 15,o 16,o 17,o 18,o 19,o 20,o 21,o 22,o 23,o 24,o 25,o 26,_,_], []⟩ W
        refine wpOp_step rfl (fun K' hK => ?_)
        go_simp
        exact hK _ _ ⟨rfl, hj⟩
      · intro γ o W
        show wpOp _ _ _ 4 _ ⟨#[_,_,_,_,_,o 27,_,_,_,_,_,_,_,_,_,_,_,o 0,.int .i64 J,o 2,.int .i64 g,o 4,o 5,o 6,o 7,o 8,o 9,o 10,o 11,o 12,o 13,o 14,o 15,o 16,o 17,o 18,o 19,o 20,o 21,o 22,o 23,o 24,o 25,o 26,_,_], []⟩ W
        refine wpOp_step rfl (fun K' hK => ?_)
        go_simp
        exact hK _ _ ⟨rfl, rfl⟩
      · intro γ o W hj
        have hj : W.ownsRow (w.heap.size + 1) 66 6 (.slice A j c) j (rowTo (stn r x g wd l) j) ∧ KL [(w.heap.size,34,#[.int .i64 ((n : Int)),.int .i64 r,.int .i64 x,.int .i64 g,.int .i64 wd,.int .i64 l])] w W := hj
        obtain ⟨cL, c0, c1, c2, c3, c4, c5⟩ := bl6 (KL.blk hj.2 (.head _))
        show wpOp _ _ _ 5 _ ⟨#[_,_,_,_,_,o 27,_,_,_,_,_,_,_,_,_,_,_,o 0,o 1,o 2,o 3,o 4,o 5,o 6,o 7,o 8,o 9,o 10,o 11,o 12,o 13,o 14,o 15,o 16,o 17,o 18,o 19,o 20,o 21,o 22,o 23,o 24,o 25,o 26,_,_], []⟩ W
        refine wpOp_step rfl (fun K' hK => ?_)
        go_simp
        exact hK _ _ ⟨rfl, hj⟩
      · intro γ o W
        show wpOp _ _ _ 6 _ ⟨#[_,_,_,_,_,o 27,_,_,_,_,_,_,_,_,_,_,_,o 0,o 1,o 2,o 3,o 4,o 5,o 6,o 7,o 8,o 9,o 10,o 11,o 12,o 13,o 14,o 15,o 16,o 17,o 18,o 19,o 20,o 21,o 22,o 23,o 24,o 25,o 26,_,_], []⟩ W
        refine wpOp_step rfl (fun K' hK => ?_)
        go_simp
        exact hK _ _ ⟨rfl, rfl⟩
      · intro γ o W
        show wpOp _ _ _ 7 _ ⟨#[_,_,_,_,_,o 27,_,_,_,_,_,_,_,_,_,_,_,o 0,o 1,o 2,o 3,o 4,o 5,.int .i64 J,o 7,o 8,o 9,o 10,o 11,o 12,o 13,o 14,o 15,o 16,o 17,o 18,o 19,o 20,o 21,o 22,o 23,o 24,o 25,o 26,_,_], []⟩ W
        refine wpOp_step rfl (fun K' hK => ?_)
        go_simp
        exact hK _ _ ⟨rfl, rfl⟩
      · intro γ o W hj
        have hj : W.ownsRow (w.heap.size + 1) 66 6 (.slice A j c) j (rowTo (stn r x g wd l) j) ∧ KL [(w.heap.size,34,#[.int .i64 ((n : Int)),.int .i64 r,.int .i64 x,.int .i64 g,.int .i64 wd,.int .i64 l])] w W := hj
        show wpOp _ _ _ 8 _ ⟨#[_,_,_,_,_,o 27,_,_,_,_,_,_,_,_,_,_,_,o 0,o 1,o 2,o 3,o 4,.agg #[.int .i64 ((n : Int)),.int .i64 r,.int .i64 x,.int .i64 g,.int .i64 wd,.int .i64 l],o 6,.int .i64 (J - 1),o 8,o 9,o 10,o 11,o 12,o 13,o 14,o 15,o 16,o 17,o 18,o 19,o 20,o 21,o 22,o 23,o 24,o 25,o 26,_,_], []⟩ W
        refine wpOp_step rfl (fun K' hK => ?_)
        go_simp
        refine (hL0 _).mono ?_
        rintro e W1 ⟨rfl, hb1⟩
        exact hK _ _ ⟨rfl, own_below hj.1 hb1, hj.2.over hb1⟩
      · intro γ o W
        show wpOp _ _ _ 9 _ ⟨#[_,_,_,_,_,o 27,_,_,_,_,_,_,_,_,_,_,_,o 0,o 1,o 2,o 3,.int .i64 jg,o 5,o 6,o 7,.int .i64 lv0,o 9,o 10,o 11,o 12,o 13,o 14,o 15,o 16,o 17,o 18,o 19,o 20,o 21,o 22,o 23,o 24,o 25,o 26,_,_], []⟩ W
        refine wpOp_step rfl (fun K' hK => ?_)
        go_simp
        exact hK _ _ ⟨rfl, rfl⟩
      · intro γ o W
        show wpOp _ _ _ 10 _ ⟨#[_,_,_,_,_,o 27,_,_,_,_,_,_,_,_,_,_,_,o 0,o 1,o 2,o 3,o 4,o 5,o 6,o 7,o 8,o 9,o 10,o 11,o 12,o 13,o 14,o 15,o 16,o 17,o 18,o 19,o 20,o 21,o 22,o 23,o 24,o 25,o 26,_,_], []⟩ W
        refine wpOp_step rfl (fun K' hK => ?_)
        go_simp
        exact hK _ _ ⟨rfl, rfl⟩
      · intro γ o W
        show wpOp _ _ _ 11 _ ⟨#[_,_,_,_,_,o 27,_,_,_,_,_,_,_,_,_,_,_,o 0,o 1,o 2,o 3,o 4,o 5,o 6,o 7,o 8,o 9,.int .i64 J,o 11,o 12,o 13,o 14,o 15,o 16,o 17,o 18,o 19,o 20,o 21,o 22,o 23,o 24,o 25,o 26,_,_], []⟩ W
        refine wpOp_step rfl (fun K' hK => ?_)
        go_simp
        exact hK _ _ ⟨rfl, rfl⟩
      · intro γ o W
        show wpOp _ _ _ 12 _ ⟨#[_,_,_,_,_,o 27,_,_,_,_,_,_,_,_,_,_,_,o 0,o 1,o 2,o 3,o 4,o 5,o 6,o 7,o 8,o 9,o 10,o 11,o 12,o 13,o 14,o 15,o 16,o 17,o 18,o 19,o 20,o 21,o 22,o 23,o 24,o 25,o 26,_,_], []⟩ W
        refine wpOp_step rfl (fun K' hK => ?_)
        go_simp
        exact hK _ _ ⟨rfl, rfl⟩
      · intro γ o W hj
        have hj : W.ownsRow (w.heap.size + 1) 66 6 (.slice A j c) j (rowTo (stn r x g wd l) j) ∧ KL [(w.heap.size,34,#[.int .i64 ((n : Int)),.int .i64 r,.int .i64 x,.int .i64 g,.int .i64 wd,.int .i64 l])] w W := hj
        obtain ⟨cL, c0, c1, c2, c3, c4, c5⟩ := bl6 (KL.blk hj.2 (.head _))
        show wpOp _ _ _ 13 _ ⟨#[_,_,_,_,_,o 27,_,_,_,_,_,_,_,_,_,_,_,o 0,o 1,o 2,o 3,o 4,o 5,o 6,o 7,o 8,o 9,o 10,o 11,.pointer (some ⟨w.heap.size, 3, none⟩),o 13,o 14,o 15,o 16,o 17,o 18,o 19,o 20,o 21,o 22,o 23,o 24,o 25,o 26,_,_], []⟩ W
        refine wpOp_step rfl (fun K' hK => ?_)
        go_simp
        exact hK _ _ ⟨rfl, hj⟩
      · intro γ o W
        show wpOp _ _ _ 14 _ ⟨#[_,_,_,_,_,o 27,_,_,_,_,_,_,_,_,_,_,_,o 0,o 1,o 2,o 3,o 4,o 5,o 6,o 7,o 8,o 9,o 10,.int .i64 jp,o 12,.int .i64 g,o 14,o 15,o 16,o 17,o 18,o 19,o 20,o 21,o 22,o 23,o 24,o 25,o 26,_,_], []⟩ W
        refine wpOp_step rfl (fun K' hK => ?_)
        go_simp
        exact hK _ _ ⟨rfl, rfl⟩
      · intro γ o W
        show wpOp _ _ _ 15 _ ⟨#[_,_,_,_,_,o 27,_,_,_,_,_,_,_,_,_,_,_,o 0,o 1,o 2,o 3,o 4,o 5,o 6,o 7,o 8,o 9,o 10,o 11,o 12,o 13,o 14,o 15,o 16,o 17,o 18,o 19,o 20,o 21,o 22,o 23,o 24,o 25,o 26,_,_], []⟩ W
        refine wpOp_step rfl (fun K' hK => ?_)
        go_simp
        exact hK _ _ ⟨rfl, rfl⟩
      · intro γ o W hj
        have hj : W.ownsRow (w.heap.size + 1) 66 6 (.slice A j c) j (rowTo (stn r x g wd l) j) ∧ KL [(w.heap.size,34,#[.int .i64 ((n : Int)),.int .i64 r,.int .i64 x,.int .i64 g,.int .i64 wd,.int .i64 l])] w W := hj
        obtain ⟨cL, c0, c1, c2, c3, c4, c5⟩ := bl6 (KL.blk hj.2 (.head _))
        show wpOp _ _ _ 16 _ ⟨#[_,_,_,_,_,o 27,_,_,_,_,_,_,_,_,_,_,_,o 0,o 1,o 2,o 3,o 4,o 5,o 6,o 7,o 8,o 9,o 10,o 11,o 12,o 13,o 14,.pointer (some ⟨w.heap.size, 5, none⟩),o 16,o 17,o 18,o 19,o 20,o 21,o 22,o 23,o 24,o 25,o 26,_,_], []⟩ W
        refine wpOp_step rfl (fun K' hK => ?_)
        go_simp
        exact hK _ _ ⟨rfl, hj⟩
      · intro γ o W
        show wpOp _ _ _ 17 _ ⟨#[_,_,_,_,_,o 27,_,_,_,_,_,_,_,_,_,_,_,o 0,o 1,o 2,o 3,o 4,o 5,o 6,o 7,o 8,o 9,o 10,o 11,o 12,o 13,.int .i64 pg,o 15,.int .i64 l,o 17,o 18,o 19,o 20,o 21,o 22,o 23,o 24,o 25,o 26,_,_], []⟩ W
        refine wpOp_step rfl (fun K' hK => ?_)
        go_simp
        exact hK _ _ ⟨rfl, rfl⟩
      · intro γ o W
        show wpOp _ _ _ 18 _ ⟨#[_,_,_,_,_,o 27,_,_,_,_,_,_,_,_,_,_,_,o 0,o 1,o 2,o 3,o 4,o 5,o 6,o 7,o 8,o 9,o 10,o 11,o 12,o 13,o 14,o 15,o 16,o 17,o 18,o 19,o 20,o 21,o 22,o 23,o 24,o 25,o 26,_,_], []⟩ W
        refine wpOp_step rfl (fun K' hK => ?_)
        go_simp
        exact hK _ _ ⟨rfl, rfl⟩
      · intro γ o W hj
        have hj : W.ownsRow (w.heap.size + 1) 66 6 (.slice A j c) j (rowTo (stn r x g wd l) j) ∧ KL [(w.heap.size,34,#[.int .i64 ((n : Int)),.int .i64 r,.int .i64 x,.int .i64 g,.int .i64 wd,.int .i64 l])] w W := hj
        obtain ⟨cL, c0, c1, c2, c3, c4, c5⟩ := bl6 (KL.blk hj.2 (.head _))
        show wpOp _ _ _ 19 _ ⟨#[_,_,_,_,_,o 27,_,_,_,_,_,_,_,_,_,_,_,o 0,o 1,o 2,o 3,o 4,o 5,o 6,o 7,o 8,o 9,o 10,o 11,o 12,o 13,o 14,o 15,o 16,o 17,.pointer (some ⟨w.heap.size, 4, none⟩),o 19,o 20,o 21,o 22,o 23,o 24,o 25,o 26,_,_], []⟩ W
        refine wpOp_step rfl (fun K' hK => ?_)
        go_simp
        exact hK _ _ ⟨rfl, hj⟩
      · intro γ o W hj
        have hj : W.ownsRow (w.heap.size + 1) 66 6 (.slice A j c) j (rowTo (stn r x g wd l) j) ∧ KL [(w.heap.size,34,#[.int .i64 ((n : Int)),.int .i64 r,.int .i64 x,.int .i64 g,.int .i64 wd,.int .i64 l])] w W := hj
        obtain ⟨cL, c0, c1, c2, c3, c4, c5⟩ := bl6 (KL.blk hj.2 (.head _))
        show wpOp _ _ _ 20 _ ⟨#[_,_,_,_,_,o 27,_,_,_,_,_,_,_,_,_,_,_,o 0,o 1,o 2,o 3,o 4,o 5,o 6,o 7,o 8,o 9,o 10,o 11,o 12,o 13,o 14,o 15,o 16,o 17,o 18,o 19,o 20,o 21,o 22,o 23,o 24,o 25,o 26,_,_], []⟩ W
        refine wpOp_step rfl (fun K' hK => ?_)
        go_simp
        exact hK _ _ ⟨rfl, hj⟩
      · intro γ o W
        show wpOp _ _ _ 21 _ ⟨#[_,_,_,_,_,o 27,_,_,_,_,_,_,_,_,_,_,_,o 0,o 1,o 2,o 3,o 4,o 5,o 6,o 7,o 8,o 9,o 10,o 11,o 12,o 13,o 14,o 15,o 16,o 17,o 18,o 19,o 20,o 21,o 22,o 23,o 24,o 25,o 26,_,_], []⟩ W
        refine wpOp_step rfl (fun K' hK => ?_)
        go_simp
        exact hK _ _ ⟨rfl, rfl⟩
      · intro γ o W hj
        have hj : W.ownsRow (w.heap.size + 1) 66 6 (.slice A j c) j (rowTo (stn r x g wd l) j) ∧ KL [(w.heap.size,34,#[.int .i64 ((n : Int)),.int .i64 r,.int .i64 x,.int .i64 g,.int .i64 wd,.int .i64 l])] w W := hj
        show wpOp _ _ _ 22 _ ⟨#[_,_,_,_,_,o 27,_,_,_,_,_,_,_,_,_,_,_,o 0,o 1,o 2,o 3,o 4,o 5,o 6,o 7,o 8,o 9,o 10,o 11,o 12,o 13,o 14,o 15,o 16,o 17,o 18,o 19,.agg #[.int .i64 ((n : Int)),.int .i64 r,.int .i64 x,.int .i64 g,.int .i64 wd,.int .i64 l],.int .i64 J,o 22,o 23,o 24,o 25,o 26,_,_], []⟩ W
        refine wpOp_step rfl (fun K' hK => ?_)
        go_simp
        refine (hL1 _).mono ?_
        rintro e W1 ⟨rfl, hb1⟩
        exact hK _ _ ⟨rfl, own_below hj.1 hb1, hj.2.over hb1⟩
      · intro γ o W
        show wpOp _ _ _ 23 _ ⟨#[_,_,_,_,_,o 27,_,_,_,_,_,_,_,_,_,_,_,o 0,o 1,o 2,o 3,o 4,o 5,o 6,o 7,o 8,o 9,o 10,o 11,o 12,o 13,o 14,o 15,o 16,.int .i64 pe,o 18,.int .i64 wd,o 20,o 21,.int .i64 lv1,o 23,o 24,o 25,o 26,_,_], []⟩ W
        refine wpOp_step rfl (fun K' hK => ?_)
        go_simp
        exact hK _ _ ⟨rfl, rfl⟩
      · intro γ o W
        show wpOp _ _ _ 24 _ ⟨#[_,_,_,_,_,o 27,_,_,_,_,_,_,_,_,_,_,_,o 0,o 1,o 2,o 3,o 4,o 5,o 6,o 7,o 8,.agg #[.int .i64 jg,.int .i64 0,.int .i64 lv0],o 10,o 11,o 12,o 13,o 14,o 15,o 16,o 17,o 18,o 19,o 20,o 21,o 22,.agg #[.int .i64 pe,.int .i64 wd,.int .i64 lv1],o 24,o 25,o 26,_,_], []⟩ W
        refine wpOp_step rfl (fun K' hK => ?_)
        go_simp
        exact hK _ _ ⟨rfl, rfl⟩
      · intro γ o W hj
        have hj : W.ownsRow (w.heap.size + 1) 66 6 (.slice A j c) j (rowTo (stn r x g wd l) j) ∧ KL [(w.heap.size,34,#[.int .i64 ((n : Int)),.int .i64 r,.int .i64 x,.int .i64 g,.int .i64 wd,.int .i64 l])] w W := hj
        show wpOp _ _ _ 25 _ ⟨#[_,_,_,_,_,o 27,_,_,_,_,_,_,_,_,_,_,_,o 0,o 1,o 2,o 3,o 4,o 5,o 6,o 7,o 8,o 9,o 10,o 11,o 12,o 13,o 14,o 15,o 16,o 17,o 18,o 19,o 20,o 21,o 22,o 23,.agg #[.int .i64 jg,.int .i64 0,.int .i64 lv0,.int .i64 pe,.int .i64 wd,.int .i64 lv1],o 25,o 26,_,_], []⟩ W
        refine wpOp_step rfl (fun K' hK => ?_)
        go_simp
        exact hK _ _ ⟨(W.heap.size, γ.2), fun q_ h1_ _ => by show (if q_ = 25 then _ else _) = (if q_ = 25 then _ else _); rw [if_neg h1_, if_neg h1_], rfl, hj.1.alloc _, hj.2.alloc _, Blk.new _ _ _⟩
      · intro γ o W hj
        have hj : W.ownsRow (w.heap.size + 1) 66 6 (.slice A j c) j (rowTo (stn r x g wd l) j) ∧ KL [(w.heap.size,34,#[.int .i64 ((n : Int)),.int .i64 r,.int .i64 x,.int .i64 g,.int .i64 wd,.int .i64 l])] w W ∧ Blk W γ.1 66 #[.int .i64 jg, .int .i64 0, .int .i64 lv0, .int .i64 pe, .int .i64 wd, .int .i64 lv1] := hj
        show wpOp _ _ _ 26 _ ⟨#[_,_,_,_,_,o 27,_,_,_,_,_,_,_,_,_,_,_,.slice A j c,o 1,o 2,o 3,o 4,o 5,o 6,o 7,o 8,o 9,o 10,o 11,o 12,o 13,o 14,o 15,o 16,o 17,o 18,o 19,o 20,o 21,o 22,o 23,o 24,(.slice (some ⟨γ.1, 0, none⟩) 1 1),o 26,_,_], []⟩ W
        refine wpOp_step rfl (fun K' hK => ?_)
        refine wp_append_any W (.tmp 17) (.tmp 42) 48 rfl (w.heap.size + 1) 66 i66_ _ 6 48 Try.underlying48 i66_0 i66_1 i66_2 i66_3 rfl (by decide) _ _ _ rfl hj.1 _ _ 1 _ [.int .i64 jg, .int .i64 0, .int .i64 lv0, .int .i64 pe, .int .i64 wd, .int .i64 lv1] rfl (reads_new hj.2.2 rfl hj.2.2.lt) (by intro u_ hu_; simp only [List.mem_cons, List.not_mem_nil, or_false] at hu_; rcases hu_ with rfl | rfl | rfl | rfl | rfl | rfl <;> rfl) (by simp only [maxLen]; omega) (by omega) (by have := hj.2.1.1.size; have := hj.2.1.2 _ (.head _); have := this.lt; simp at *; omega) ?_
        intro v' w' h2_ h3_ h4_
        refine hK _ _ ⟨(γ.1, v'), fun q_ h1_ h0_ => ?_, rfl, h2_, KL.grown2 hj.2.1 h3_ (fun k_ hk_ => by have := (hj.1.lt k_ hk_).1; omega) (fun q hq hk_ => by have := (hj.1.lt _ hk_.symm).1; simp only [List.mem_cons, List.not_mem_nil, or_false] at hq; subst hq; simp at this; try omega)⟩
        by_cases e27 : q_ = 27
        · subst e27; exact absurd h0_ (by decide)
        · show (if q_ = 25 then _ else if q_ = 26 then _ else if q_ = 27 then _ else _) = (if q_ = 25 then _ else if q_ = 26 then _ else if q_ = 27 then _ else _); rw [if_neg h1_, if_neg h1_, if_neg e27, if_neg e27]
      · intro γ o W
        show wpOp _ _ _ 27 _ ⟨#[_,_,_,_,_,o 27,_,_,_,_,_,_,_,_,_,_,_,o 0,o 1,o 2,o 3,o 4,o 5,o 6,o 7,o 8,o 9,o 10,o 11,o 12,o 13,o 14,o 15,o 16,o 17,o 18,o 19,o 20,o 21,o 22,o 23,o 24,o 25,γ.2,_,_], []⟩ W
        refine wpOp_step rfl (fun K' hK => ?_)
        go_simp
        exact hK _ _ ⟨rfl, rfl⟩
      · intro γ o hh_
        have e0 : o 0 = .slice A j c := hh_ 0 (by decide)
        have e1 : o 1 = .int .i64 J := hh_ 1 (by decide)
        have e2 : o 2 = .pointer (some ⟨w.heap.size, 3, none⟩) := hh_ 2 (by decide)
        have e3 : o 3 = .int .i64 g := hh_ 3 (by decide)
        have e4 : o 4 = .int .i64 jg := hh_ 4 (by decide)
        have e5 : o 5 = .agg #[.int .i64 ((n : Int)),.int .i64 r,.int .i64 x,.int .i64 g,.int .i64 wd,.int .i64 l] := hh_ 5 (by decide)
        have e6 : o 6 = .int .i64 J := hh_ 6 (by decide)
        have e7 : o 7 = .int .i64 (J - 1) := hh_ 7 (by decide)
        have e8 : o 8 = .int .i64 lv0 := hh_ 8 (by decide)
        have e9 : o 9 = .agg #[.int .i64 jg,.int .i64 0,.int .i64 lv0] := hh_ 9 (by decide)
        have e10 : o 10 = .int .i64 J := hh_ 10 (by decide)
        have e11 : o 11 = .int .i64 jp := hh_ 11 (by decide)
        have e12 : o 12 = .pointer (some ⟨w.heap.size, 3, none⟩) := hh_ 12 (by decide)
        have e13 : o 13 = .int .i64 g := hh_ 13 (by decide)
        have e14 : o 14 = .int .i64 pg := hh_ 14 (by decide)
        have e15 : o 15 = .pointer (some ⟨w.heap.size, 5, none⟩) := hh_ 15 (by decide)
        have e16 : o 16 = .int .i64 l := hh_ 16 (by decide)
        have e17 : o 17 = .int .i64 pe := hh_ 17 (by decide)
        have e18 : o 18 = .pointer (some ⟨w.heap.size, 4, none⟩) := hh_ 18 (by decide)
        have e19 : o 19 = .int .i64 wd := hh_ 19 (by decide)
        have e20 : o 20 = .agg #[.int .i64 ((n : Int)),.int .i64 r,.int .i64 x,.int .i64 g,.int .i64 wd,.int .i64 l] := hh_ 20 (by decide)
        have e21 : o 21 = .int .i64 J := hh_ 21 (by decide)
        have e22 : o 22 = .int .i64 lv1 := hh_ 22 (by decide)
        have e23 : o 23 = .agg #[.int .i64 pe,.int .i64 wd,.int .i64 lv1] := hh_ 23 (by decide)
        have e24 : o 24 = .agg #[.int .i64 jg,.int .i64 0,.int .i64 lv0,.int .i64 pe,.int .i64 wd,.int .i64 lv1] := hh_ 24 (by decide)
        have e25 : o 25 = (.slice (some ⟨γ.1, 0, none⟩) 1 1) := hh_ 25 (by decide)
        have e26 : o 26 = γ.2 := hh_ 26 (by decide)
        have e27 : o 27 = γ.2 := hh_ 27 (by decide)
        rw [e0, e1, e2, e3, e4, e5, e6, e7, e8, e9, e10, e11, e12, e13, e14, e15, e16, e17, e18, e19, e20, e21, e22, e23, e24, e25, e26, e27]
      · intro γ W hj
        have hj : W.ownsRow (w.heap.size + 1) 66 6 γ.2 (j + 1) (rowTo (stn r x g wd l) j ++ [.int .i64 jg, .int .i64 0, .int .i64 lv0, .int .i64 pe, .int .i64 wd, .int .i64 lv1]) ∧ KL [(w.heap.size,34,#[.int .i64 ((n : Int)),.int .i64 r,.int .i64 x,.int .i64 g,.int .i64 wd,.int .i64 l])] w W := hj
        obtain ⟨A1, c1, hv1, _⟩ := own_slice hj.1
        rw [hv1] at hj
        have hv1 := hv1
        obtain ⟨g1, v1⟩ := γ
        dsimp only at hv1 hj
        subst hv1
        clear hown hK
        have hJ := HJ.out
        have hn1 := HN.out
        clear W0 W1 W2 W3 W4 HJ HN
        subst hJ
        have HN := Lib.hid hn1
        clear hn1
        go_wp2
        go_roundw
        case rel => exact ⟨j + 1, A1, c1, by omega, by go_num, rfl, by rw [rowTo_succ]; exact HN.out ▸ hj.1, hj.2⟩
        case measure => simp [intOf]; omega
    · obtain rfl : j = n := by omega
      go_wp2
      go_ret2
      exact ⟨A, c, rfl, World.ownsRow.mono hown (by omega), hK.1⟩
end Go.Proofs.Ytoenojnfhiimpaa
