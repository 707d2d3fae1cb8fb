/- What the reference's Join answers,and the refusals of kerf's Join. -/
import Derived.Test.YtogmgaaejepcbaaCor
import Derived.Test.YtogmgaaejepcbaaRjn
import Derived.Test.YtogmgaaejepcbaaJnb
import Derived.Test.YtogmgaaejepcbaaVol
import Derived.Test.YtogmgaaejepcbaaNes
import Derived.Test.YtogmgaaejepcbaaRck
import Derived.Test.YtogmgaaejepcbaaLos
namespace Go.Proofs.Ytogmgaaejepcbaa
open Go.RowKit Go.ChangeShapes

set_option maxHeartbeats 1000000 in
set_option maxRecDepth 100000 in
theorem eqV (a b c p q r : Int) (w : World) : Sem.run Try.prog (binOp .eql 23 (.agg #[a,b,c]) (.agg #[p,q,r])) w = .ok (.bool (a == p && (b == q && c == r))) w := by
 have u3 := Try.underlying3
 have a3 := Try.isAgg3
 have z3 := Try.sizeOf3
 have u2 := Try.underlying2
 have a2 := Try.isAgg2
 have z2 := Try.sizeOf2
 have hS : Try.prog.underlying 23 = some (.struct (Try.prog.fieldsOf 23)) := by kernel_rfl
 have hp : Try.prog.stoodInHeld 23 = false := by kernel_rfl
 rw [run_eql_struct,show (10000 : Nat) = 9999 + 1 from rfl,run_equalIn_agg w 9999 23 _ _ hS hp]
 simp only [Program.fieldsOf,Try.underlying23]
 go_simp
 by_cases h1 : a = p <;> by_cases h2 : b = q <;> by_cases h3 : c = r <;> simp [h1,h2,h3]
theorem neV (a b c p q r : Int) (w : World) : Sem.run Try.prog (binOp .neq 23 (.agg #[a,b,c]) (.agg #[p,q,r])) w = .ok (.bool (!(a == p && (b == q && c == r)))) w := by
 have h := eqV a b c p q r w
 rw [run_eql_struct] at h
 rw [run_neq_struct]
 generalize (Op.equalIn 10000 23 (.agg #[a,b,c]) (.agg #[p,q,r])).run Try.prog w = R at h ⊢
 cases R with
 | ok b w' =>
  simp only [Result.andThen_ok,Result.ok.injEq,Value.bool.injEq] at h ⊢
  exact ⟨by rw [h.1],h.2⟩
 | halt x w' => simp [Result.andThen] at h
def gt3 (x y z k : Int) : Int := if k = 0 then x else if k = 1 then y else z
def pk (j x k : Int) : Int := if k = j then 0 else x
theorem get_k {k : Int} (hk : rgB 0 2 k = true) (x y z : Int) (w : World) : Calls Try.prog 41 #[.agg #[x,y,z],.int .i64 k] w fun e w' => e = .returned (.int .i64 (gt3 x y z k)) ∧ Below w.heap.size w w' := by
 rcases ax3 hk with rfl | rfl | rfl
 ·exact get0 x y z w
 ·exact get1 x y z w
 ·exact get2 x y z w
theorem put_k {k : Int} (hk : rgB 0 2 k = true) (x y z : Int) (w : World) : Calls Try.prog 47 #[.agg #[x,y,z],.int .i64 k,.int .i64 0] w fun e w' => e = .returned (.agg #[.int .i64 ((pk 0 x k)),.int .i64 ((pk 1 y k)),.int .i64 ((pk 2 z k))]) ∧ Below w.heap.size w w' := by
 rcases ax3 hk with rfl | rfl | rfl
 ·exact put0 x y z 0 w
 ·exact put1 x y z 0 w
 ·exact put2 x y z 0 w
def vE (x y z a b c k : Int) : Bool := pk 0 x k == pk 0 a k && (pk 1 y k == pk 1 b k && pk 2 z k == pk 2 c k)
def rjB (x y z p q r a b c d s u k : Int) : Bool := !decide (gt3 a b c k < gt3 p q r k) && (!decide (1000 < gt3 a b c k - gt3 p q r k) && (vE x y z a b c k && vE p q r d s u k))
theorem gt3_bd {x y z k lo hi : Int} (h1 : lo ≤ x ∧ x ≤ hi) (h2 : lo ≤ y ∧ y ≤ hi) (h3 : lo ≤ z ∧ z ≤ hi) : lo ≤ gt3 x y z k ∧ gt3 x y z k ≤ hi := by
 unfold gt3; split
 ·exact h1
 ·split
  ·exact h2
  ·exact h3
set_option maxHeartbeats 16000000 in
set_option maxRecDepth 100000 in
theorem rJoin_cf (x y z p q r a b c d s u k : Int) (hv : eB x y z p q r = 0) (hu : eB a b c d s u = 0) (hk : rgB 0 2 k = true) (h : rjB x y z p q r a b c d s u k = false) (w : World) : Calls Try.prog 21 #[.agg #[x,y,z,p,q,r],.agg #[a,b,c,d,s,u],.int .i64 k] w fun e w' => e = .returned (.tuple #[.agg #[.int .i64 0,.int .i64 0,.int .i64 0,.int .i64 0,.int .i64 0,.int .i64 0],.agg #[.int .i64 0,.int .i64 0,.int .i64 0],.int .i64 10]) ∧ Below w.heap.size w w' := by
 have c1 : ∀ w,Calls Try.prog 35 #[.agg #[x,y,z,p,q,r]] w fun e w' => e = .returned (.int .i64 0) ∧ Below w.heap.size w w' := fun w => by have := rbcheck_any x y z p q r w; rwa [hv] at this
 have c2 : ∀ w,Calls Try.prog 35 #[.agg #[a,b,c,d,s,u]] w fun e w' => e = .returned (.int .i64 0) ∧ Below w.heap.size w w' := fun w => by have := rbcheck_any a b c d s u w; rwa [hu] at this
 have ha := fun w => rAxis_yes w hk
 have g1 := get_k hk p q r
 have g2 := get_k hk a b c
 obtain ⟨⟨a1,a2,a3⟩,⟨a4,a5,a6⟩,⟨a7,a8,a9⟩⟩ := eB_bd hv
 obtain ⟨⟨a1',a2',a3'⟩,⟨a4',a5',a6'⟩,⟨a7',a8',a9'⟩⟩ := eB_bd hu
 have n1 := gt3_bd (x := p) (y := q) (z := r) (k := k) (lo := -1000000) (hi := 1000000) (by omega) (by omega) (by omega)
 have n2 := gt3_bd (x := a) (y := b) (z := c) (k := k) (lo := -1000000) (hi := 1000000) (by omega) (by omega) (by omega)
 have dW : IntKind.i64.wrap (gt3 a b c k - gt3 p q r k) = gt3 a b c k - gt3 p q r k := IntWalk.i64_in _ (by omega)
 unfold rjB at h
 cases h1 : decide (gt3 a b c k < gt3 p q r k) with
 | true => exact rjn_L x y z p q r a b c d s u k _ _ c1 c2 ha g1 g2 h1 w
 | false =>
  cases h2 : decide (1000 < gt3 a b c k - gt3 p q r k) with
  | true => exact rjn_G x y z p q r a b c d s u k _ _ c1 c2 ha g1 g2 h1 dW h2 w
  | false =>
   cases h3 : vE x y z a b c k with
   | false => exact rjn_m x y z p q r a b c d s u k _ _ _ _ _ _ _ _ c1 c2 ha g1 g2 h1 dW h2 (fun w => by rw [neV]; unfold vE at h3; rw [h3]; rfl) (put_k hk x y z) (put_k hk a b c) w
   | true =>
    cases h4 : vE p q r d s u k with
    | false => exact rjn_M x y z p q r a b c d s u k _ _ _ _ _ _ _ _ _ _ _ _ _ _ c1 c2 ha g1 g2 h1 dW h2 (fun w => by rw [neV]; unfold vE at h3; rw [h3]; rfl) (put_k hk x y z) (put_k hk a b c) (fun w => by rw [neV]; unfold vE at h4; rw [h4]; rfl) (put_k hk p q r) (put_k hk d s u) w
    | true => rw [h1,h2,h3,h4] at h; exact absurd h (by decide)
set_option maxHeartbeats 16000000 in
set_option maxRecDepth 100000 in
theorem rJoin_ok (x y z p q r a b c d s u k : Int) (hv : eB x y z p q r = 0) (hu : eB a b c d s u = 0) (hk : rgB 0 2 k = true) (h : rjB x y z p q r a b c d s u k = true) (w : World) : Calls Try.prog 21 #[.agg #[x,y,z,p,q,r],.agg #[a,b,c,d,s,u],.int .i64 k] w fun e w' => e = .returned (.tuple #[.agg #[x,y,z,d,s,u],.agg #[.int .i64 k,.int .i64 ((gt3 p q r k)),.int .i64 ((gt3 a b c k - gt3 p q r k))],.int .i64 0]) ∧ Below w.heap.size w w' := by
 have c1 : ∀ w,Calls Try.prog 35 #[.agg #[x,y,z,p,q,r]] w fun e w' => e = .returned (.int .i64 0) ∧ Below w.heap.size w w' := fun w => by have := rbcheck_any x y z p q r w; rwa [hv] at this
 have c2 : ∀ w,Calls Try.prog 35 #[.agg #[a,b,c,d,s,u]] w fun e w' => e = .returned (.int .i64 0) ∧ Below w.heap.size w w' := fun w => by have := rbcheck_any a b c d s u w; rwa [hu] at this
 have ha := fun w => rAxis_yes w hk
 have g1 := get_k hk p q r
 have g2 := get_k hk a b c
 obtain ⟨⟨a1,a2,a3⟩,⟨a4,a5,a6⟩,⟨a7,a8,a9⟩⟩ := eB_bd hv
 obtain ⟨⟨a1',a2',a3'⟩,⟨a4',a5',a6'⟩,⟨a7',a8',a9'⟩⟩ := eB_bd hu
 have n1 := gt3_bd (x := p) (y := q) (z := r) (k := k) (lo := -1000000) (hi := 1000000) (by omega) (by omega) (by omega)
 have n2 := gt3_bd (x := a) (y := b) (z := c) (k := k) (lo := -1000000) (hi := 1000000) (by omega) (by omega) (by omega)
 have dW : IntKind.i64.wrap (gt3 a b c k - gt3 p q r k) = gt3 a b c k - gt3 p q r k := IntWalk.i64_in _ (by omega)
 unfold rjB at h
 simp only [Bool.and_eq_true,Bool.not_eq_true'] at h
 obtain ⟨h1,h2,h3,h4⟩ := h
 exact rjn_ok x y z p q r a b c d s u k _ _ _ _ _ _ _ _ _ _ _ _ _ _ c1 c2 ha g1 g2 h1 dW h2 (fun w => by rw [neV]; unfold vE at h3; rw [h3]; rfl) (put_k hk x y z) (put_k hk a b c) (fun w => by rw [neV]; unfold vE at h4; rw [h4]; rfl) (put_k hk p q r) (put_k hk d s u) w
set_option maxHeartbeats 16000000 in
set_option maxRecDepth 100000 in
theorem Join_bad (x y z p q r a b c d s u k : Int) (f_ : Int) (hf : caI (e2B (eB x y z p q r) (eB a b c d s u)) k = f_) (hn : f_ ≠ 0) (w : World) : Calls Try.prog 20 #[.agg #[x,y,z,p,q,r],.agg #[a,b,c,d,s,u],.int .i64 k] w fun e w' => e = .returned (.tuple #[.agg #[.int .i64 0,.int .i64 0,.int .i64 0,.int .i64 0,.int .i64 0,.int .i64 0],.agg #[.int .i64 0,.int .i64 0,.int .i64 0],.int .i64 f_]) ∧ Below w.heap.size w w' := by
 have hc := @cax2 x y z p q r a b c d s u k
 rw [hf] at hc
 obtain ⟨t1,t2⟩ := ne_tests hn
 clear hf hn
 go_enter Try.func20,Try.ntmps20
 go_wp2_with (go_at_call 45; refine (hc _ _ (Blk.new2 (by simp))).mono ?_; rintro e w1 ⟨rfl,hb1⟩; obtain ⟨hc1,hf1⟩ := bcell hb1; have hz1 := hb1.size; (try simp at hz1); (try have y10 : w.heap.size < w1.heap.size := (by omega)); (try have y10p : w.heap.size < w1.heap.size + 1 := (by omega)); (try have y11 : w.heap.size + 1 < w1.heap.size := (by omega)); (try have y11p : w.heap.size + 1 < w1.heap.size + 1 := (by omega)); (try have y12 : w.heap.size + 1 + 1 < w1.heap.size := (by omega)); (try have y12p : w.heap.size + 1 + 1 < w1.heap.size + 1 := (by omega)); (try have y13 : w.heap.size + 1 + 1 + 1 < w1.heap.size := (by omega)); (try have y13p : w.heap.size + 1 + 1 + 1 < w1.heap.size + 1 := (by omega)); (try have y14 : w.heap.size + 1 + 1 + 1 + 1 < w1.heap.size := (by omega)); (try have y14p : w.heap.size + 1 + 1 + 1 + 1 < w1.heap.size + 1 := (by omega)); (try have v0x1 : w0.heap.size < w1.heap.size := (by omega)); (try have v0x1p : w0.heap.size < w1.heap.size + 1 := (by omega)))
 have hz : KL [((w.heap.size + 1 + 1 + 1),33,#[.int .i64 0,.int .i64 0,.int .i64 0]),((w.heap.size + 1 + 1),25,#[.int .i64 0,.int .i64 0,.int .i64 0,.int .i64 0,.int .i64 0,.int .i64 0]),((w.heap.size + 1),25,#[a,b,c,d,s,u]),(w.heap.size,25,#[x,y,z,p,q,r])] w _ := (KL.up3 0 (KL.up6 1 (KL.over (KL.alloc (KL.new (g := (w.heap.size + 1 + 1 + 1)) (KL.new (g := (w.heap.size + 1 + 1)) (KL.new (g := (w.heap.size + 1)) (KL.new (g := w.heap.size) (KL.nil w) rfl _ _) (by simp) _ _) (by simp) _ _) (by simp) _ _) _) hb1) rfl (by omega) (by simp <;> omega)) rfl (by omega) (by simp <;> omega))
 obtain ⟨eL,e0,e1,e2,e3,e4,e5⟩ := bl6 (KL.blk hz (.tail _ (.head _)))
 obtain ⟨iL,i0,i1,i2⟩ := bl3 (KL.blk hz (.head _))
 exact bodyPost_ret (v := .tuple #[.agg #[.int .i64 0,.int .i64 0,.int .i64 0,.int .i64 0,.int .i64 0,.int .i64 0],.agg #[.int .i64 0,.int .i64 0,.int .i64 0],.int .i64 f_]) (by simp [results,Try.results20,go_sem,e0,e1,e2,e3,e4,e5,i0,i1,i2]) rfl ⟨rfl,hz.1⟩
theorem rJoin_bad (x y z p q r a b c d s u k : Int) (f_ : Int) (hf : caI (e2B (eB x y z p q r) (eB a b c d s u)) k = f_) (hn : f_ ≠ 0) (w : World) : Calls Try.prog 21 #[.agg #[x,y,z,p,q,r],.agg #[a,b,c,d,s,u],.int .i64 k] w fun e w' => e = .returned (.tuple #[.agg #[.int .i64 0,.int .i64 0,.int .i64 0,.int .i64 0,.int .i64 0,.int .i64 0],.agg #[.int .i64 0,.int .i64 0,.int .i64 0],.int .i64 f_]) ∧ Below w.heap.size w w' := by
 have c1 := rbcheck_any x y z p q r
 have c2 := rbcheck_any a b c d s u
 by_cases h1 : eB x y z p q r = 0
 ·rw [h1] at c1
  rw [h1,e2B_0] at hf
  by_cases h2 : eB a b c d s u = 0
  ·rw [h2] at c2 hf
   cases hk : rgB 0 2 k with
   | true => rw [caI_0 hk] at hf; exact absurd hf.symm hn
   | false =>
    rw [caI_1 hk] at hf
    subst hf
    exact rjn_ax x y z p q r a b c d s u k c1 c2 (fun w => rAxis_not w hk) w
  ·rw [caI_e h2] at hf
   rw [hf] at c2
   exact rjn_b2 x y z p q r a b c d s u k f_ c1 c2 hn w
 ·rw [e2B_n _ h1,caI_e h1] at hf
  rw [hf] at c1
  exact rjn_b1 x y z p q r a b c d s u k f_ c1 hn w
end Go.Proofs.Ytogmgaaejepcbaa
