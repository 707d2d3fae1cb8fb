/- KerfSplits: for all boxes and cuts Check,Split and Loss return the specified results or errors. No condition. -/
import Derived.Test.YtogmgaaejepcbaaCor
import Derived.Test.YtogmgaaejepcbaaLsp0
import Derived.Test.YtogmgaaejepcbaaLsp1
import Derived.Test.YtogmgaaejepcbaaLsp2
import Derived.Test.YtogmgaaejepcbaaLfk
namespace Go.Proofs.Ytogmgaaejepcbaa
open Go.ChangeShapes Go.WideShapes Go.ChangeAt Go.RowKit Go.Deep

theorem kerfSplits_any (x y z p q r a t k : Int) (w : World) : Calls Try.prog 3 #[.agg #[x,y,z,p,q,r],.agg #[a,t,k]] w fun e w' => e = .returned (.bool true) ∧ Below w.heap.size w w' := by
 by_cases h : ckI x y z p q r a t k = 0
 ·obtain ⟨hv,hc⟩ := ckI_0 h
  rcases hc with ⟨rfl,ho⟩ | ⟨rfl,ho⟩ | ⟨rfl,ho⟩
  ·have b4 := (rgB_iff.1 (okI_z ho).1).1
   by_cases hk : k = 0
   ·exact spl_0z x y z p q r t k hv ho hk w
   ·exact spl_0p x y z p q r t k hv ho (by omega) w
  ·have b4 := (rgB_iff.1 (okI_z ho).1).1
   by_cases hk : k = 0
   ·exact spl_1z x y z p q r t k hv ho hk w
   ·exact spl_1p x y z p q r t k hv ho (by omega) w
  ·have b4 := (rgB_iff.1 (okI_z ho).1).1
   by_cases hk : k = 0
   ·exact spl_2z x y z p q r t k hv ho hk w
   ·exact spl_2p x y z p q r t k hv ho (by omega) w
 ·exact spl_bad x y z p q r a t k _ rfl h w

set_option maxHeartbeats 800000 in
set_option maxRecDepth 100000 in
theorem kerfSplits_lifted (os : Os) (started : os.Started) (H : Type) (enc : TypeId × Value → H) :
  ReturnsInHanded {} Try.checked os 3 .any (Rows.kerfSplitsSpec.pre6 enc Try.prog Try.f3 Rows.kerfSplitsRow.domain false) (Rows.kerfSplitsSpec.post enc Try.prog Try.f3 false true false false) := by
 refine returnsInHanded_of_change (C := Try.checked) Try.own started (by kernel_rfl) Try.func3
  (ChangeSpec.witness6 (enc := enc) (C := Try.checked) false ⟨#[],#[.agg #[.int .i64 0,.int .i64 0,.int .i64 0,.int .i64 0,.int .i64 0,.int .i64 0],.agg #[.int .i64 0,.int .i64 0,.int .i64 0]],[]⟩ 8 (by kernel_rfl) (by kernel_rfl) (by kernel_rfl) (by kernel_rfl)) ?_
 intro W base args ds gs before hval0 hW _ _
 have hval : ∀ (j : Nat) t v,Try.f3.params[j]? = some t → args[j]? = some v → Value.okWide Try.prog W .any base t v := hval0
 have hW' := hW
 obtain ⟨p,q,hA0,hV,rfl,_,_⟩ := hW
 have hA : DataW.TrodAll enc Try.prog W 0 (fun _ => true) true Try.f3.params.toList args.toList ds p := hA0
 rw [Try.params3] at hA hval
 obtain ⟨v0,v1,d0,d1,p0,p1,rfl,rfl,rfl,h0,h1⟩ := trodAll_two hA
 obtain ⟨rfl,rfl⟩ := trodVars_none hV
 clear hA0 hval0
 simp only [List.append_nil] at hW'
 have harg0 : ∀ W' : World,Below W.heap.size W W' → DataW.Trod enc Try.prog W' 0 (fun b => decide (b < W.heap.size)) true 25 v0 d0 p0 :=
  fun W' hn => Below.trod Try.laidOut (by kernel_rfl) (of_decide_eq_true (by kernel_rfl)) h0 hn (fun y hy => by simpa using hW'.lt y (by simp [hy]))
 have harg1 : ∀ W' : World,Below W.heap.size W W' → DataW.Trod enc Try.prog W' 0 (fun b => decide (b < W.heap.size)) true 27 v1 d1 p1 :=
  fun W' hn => Below.trod Try.laidOut (by kernel_rfl) (of_decide_eq_true (by kernel_rfl)) h1 hn (fun y hy => by simpa using hW'.lt y (by simp [hy]))
 obtain ⟨x,y,z,p,q,r,rfl⟩ := open_box (hval 0 25 v0 rfl rfl) h0
 obtain ⟨a,t,k,rfl⟩ := open_cutR (hval 1 27 v1 rfl rfl) h1
 refine (kerfSplits_any x y z p q r a t k W).mono fun e W' ⟨he,hn⟩ => ?_
 subst he
 exact ⟨_,rfl,_,_,_,[],_,[],hW',trodAll_mk1 (shut_bool Try.underlying4 _),trodAll_mk2 (harg0 _ hn) (harg1 _ hn),(List.append_nil _).symm,hn.frame _,fun h => by cases h⟩

theorem kerfSplits_holds : Rows.KerfSplitsSaid :=
 OpenClaim.holds_of_wide 3 Try.f3 rfl rfl rfl rfl rfl rfl rfl ⟨rfl,rfl,rfl,rfl,rfl⟩ rfl rfl rfl rfl rfl (by kernel_rfl) Try.func3 (by kernel_rfl)
  (of_decide_eq_true (by kernel_rfl)) (by unfold Func.isWrapper; first | (rw [if_pos (by decide +kernel)]; kernel_rfl) | (rw [if_neg (by decide +kernel)]; exact ⟨rfl,rfl⟩))
  (fun os started H enc _ => kerfSplits_lifted os started H enc)
end Go.Proofs.Ytogmgaaejepcbaa
