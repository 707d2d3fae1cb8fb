/- KerfTrims: for all boxes and pieces Trim returns the specified cuts and loss,or the error. No condition. -/
import Derived.Test.YtogmgaaejepcbaaCor
import Derived.Test.YtogmgaaejepcbaaKtm
import Derived.Test.YtogmgaaejepcbaaAwk
import Derived.Test.YtogmgaaejepcbaaLfk
namespace Go.Proofs.Ytogmgaaejepcbaa
open Go.ChangeShapes Go.WideShapes Go.ChangeAt Go.RowKit Go.Deep

theorem kerfTrims_any (x y z p q r a b c d s u k : Int) (w : World) : Calls Try.prog 7 #[.agg #[x,y,z,p,q,r],.agg #[a,b,c,d,s,u],.int .i64 k] w fun e w' => e = .returned (.bool true) ∧ Below w.heap.size w w' := trims_all x y z p q r a b c d s u k awake_any w

set_option maxHeartbeats 800000 in
set_option maxRecDepth 100000 in
theorem kerfTrims_lifted (os : Os) (started : os.Started) (H : Type) (enc : TypeId × Value → H) :
  ReturnsInHanded {} Try.checked os 7 .any (Rows.kerfTrimsSpec.pre6 enc Try.prog Try.f7 Rows.kerfTrimsRow.domain false) (Rows.kerfTrimsSpec.post enc Try.prog Try.f7 false true false false) := by
 refine returnsInHanded_of_change (C := Try.checked) Try.own started (by kernel_rfl) Try.func7
  (ChangeSpec.witness6 (enc := enc) (C := Try.checked) false ⟨#[],#[.agg #[.int .i64 0,.int .i64 0,.int .i64 0,.int .i64 0,.int .i64 0,.int .i64 0],.agg #[.int .i64 0,.int .i64 0,.int .i64 0,.int .i64 0,.int .i64 0,.int .i64 0],.int .i64 0],[]⟩ 8 (by kernel_rfl) (by kernel_rfl) (by kernel_rfl) (by kernel_rfl)) ?_
 intro W base args ds gs before hval0 hW _ _
 have hval : ∀ (j : Nat) t v,Try.f7.params[j]? = some t → args[j]? = some v → Value.okWide Try.prog W .any base t v := hval0
 have hW' := hW
 obtain ⟨p,q,hA0,hV,rfl,_,_⟩ := hW
 have hA : DataW.TrodAll enc Try.prog W 0 (fun _ => true) true Try.f7.params.toList args.toList ds p := hA0
 rw [Try.params7] at hA hval
 obtain ⟨v0,v1,v2,d0,d1,d2,p0,p1,p2,rfl,rfl,rfl,h0,h1,h2⟩ := trodAll_three hA
 obtain ⟨rfl,rfl⟩ := trodVars_none hV
 clear hA0 hval0
 simp only [List.append_nil] at hW'
 have harg0 : ∀ W' : World,Below W.heap.size W W' → DataW.Trod enc Try.prog W' 0 (fun b => decide (b < W.heap.size)) true 25 v0 d0 p0 :=
  fun W' hn => Below.trod Try.laidOut (by kernel_rfl) (of_decide_eq_true (by kernel_rfl)) h0 hn (fun y hy => by simpa using hW'.lt y (by simp [hy]))
 have harg1 : ∀ W' : World,Below W.heap.size W W' → DataW.Trod enc Try.prog W' 0 (fun b => decide (b < W.heap.size)) true 25 v1 d1 p1 :=
  fun W' hn => Below.trod Try.laidOut (by kernel_rfl) (of_decide_eq_true (by kernel_rfl)) h1 hn (fun y hy => by simpa using hW'.lt y (by simp [hy]))
 have harg2 : ∀ W' : World,Below W.heap.size W W' → DataW.Trod enc Try.prog W' 0 (fun b => decide (b < W.heap.size)) true 3 v2 d2 p2 :=
  fun W' hn => Below.trod Try.laidOut (by kernel_rfl) (of_decide_eq_true (by kernel_rfl)) h2 hn (fun y hy => by simpa using hW'.lt y (by simp [hy]))
 obtain ⟨x,y,z,p,q,r,rfl⟩ := open_box (hval 0 25 v0 rfl rfl) h0
 obtain ⟨a,b,c,d,s,u,rfl⟩ := open_box (hval 1 25 v1 rfl rfl) h1
 obtain ⟨k,rfl,_,_,_⟩ := open_int Try.underlying3 (hval 2 3 v2 rfl rfl) h2
 refine (kerfTrims_any x y z p q r a b c d s u k W).mono fun e W' ⟨he,hn⟩ => ?_
 subst he
 exact ⟨_,rfl,_,_,_,[],_,[],hW',trodAll_mk1 (shut_bool Try.underlying4 _),trodAll_mk3 (harg0 _ hn) (harg1 _ hn) (harg2 _ hn),(List.append_nil _).symm,hn.frame _,fun h => by cases h⟩

theorem kerfTrims_holds : Rows.KerfTrimsSaid :=
 OpenClaim.holds_of_wide 7 Try.f7 rfl rfl rfl rfl rfl rfl rfl ⟨rfl,rfl,rfl,rfl,rfl⟩ rfl rfl rfl rfl rfl (by kernel_rfl) Try.func7 (by kernel_rfl)
  (of_decide_eq_true (by kernel_rfl)) (by unfold Func.isWrapper; first | (rw [if_pos (by decide +kernel)]; kernel_rfl) | (rw [if_neg (by decide +kernel)]; exact ⟨rfl,rfl⟩))
  (fun os started H enc _ => kerfTrims_lifted os started H enc)
end Go.Proofs.Ytogmgaaejepcbaa
