/- The law KerfTrims put together. -/
import Derived.Test.YtogmgaaejepcbaaCor
import Derived.Test.YtogmgaaejepcbaaLwt
import Derived.Test.YtogmgaaejepcbaaRtr
namespace Go.Proofs.Ytogmgaaejepcbaa
open Go.RowKit

theorem trims_all (x y z p q r a b c d s u k : Int) (hA : (∀ w,Calls Try.prog 12 #[] w fun e w' => e = .returned (.bool true) ∧ Below w.heap.size w w')) (w : World) : Calls Try.prog 7 #[.agg #[x,y,z,p,q,r],.agg #[a,b,c,d,s,u],.int .i64 k] w fun e w' => e = .returned (.bool true) ∧ Below w.heap.size w w' := by
 have hc1 := rbcheck_any x y z p q r
 have hc2 := rbcheck_any a b c d s u
 have hT := fun f hf hn w => Trim_bad x y z p q r a b c d s u k f hf hn w
 by_cases hv : eB x y z p q r = 0
 ·rw [hv] at hc1
  by_cases hu : eB a b c d s u = 0
  ·rw [hu] at hc2
   have hkf := rKerf_any k
   cases hkk : rgB 0 1000 k
   ·rw [hkk] at hkf
    exact trims_k x y z p q r a b c d s u k (hT 6 (by simp [trE,e2B,hv,hu,hkk]) (by decide)) hc1 hc2 hkf hA w
   ·rw [hkk] at hkf
    have hin := rInside_any a b c d s u x y z p q r
    cases hi : insB a b c d s u x y z p q r
    ·rw [hi] at hin
     exact trims_i x y z p q r a b c d s u k (hT 12 (by simp [trE,e2B,hv,hu,hkk,hi]) (by decide)) hc1 hc2 hkf hin hA w
    ·rw [hi] at hin
     obtain ⟨⟨a1,a2,a3⟩,⟨a4,a5,a6⟩,⟨a7,a8,a9⟩⟩ := eB_bd hv
     obtain ⟨⟨b1,b2,b3⟩,⟨b4,b5,b6⟩,⟨b7,b8,b9⟩⟩ := eB_bd hu
     obtain ⟨n1,n2,n3,n4,n5,n6⟩ := insB_iff.1 hi
     obtain ⟨k1,k2⟩ := rgB_iff.1 hkk
     exact trims_ok x y z p q r a b c d s u k _ _ _ (trN3_le x y z p q r a b c d s u k) (allInt_R3 x y z p q r a b c d s u k) (Trim_ok x y z p q r a b c d s u k hv hu hkk hi) hc1 hc2 hkf hin
      (rTrim_ok x y z p q r a b c d s u k ⟨by omega,by omega,by omega⟩ ⟨by omega,by omega,by omega⟩ ⟨by omega,by omega,by omega⟩ ⟨by omega,by omega⟩ ⟨by omega,by omega⟩ ⟨by omega,by omega⟩ k1 k2) hA w
  ·exact trims_b2 x y z p q r a b c d s u k _ hu (hT _ (by simp [trE,e2B,hv,hu]) hu) hc1 hc2 hA w
 ·exact trims_b1 x y z p q r a b c d s u k _ hv (hT _ (by simp [trE,e2B,hv]) hv) hc1 hA w
end Go.Proofs.Ytogmgaaejepcbaa
