/- Numbers of the reference's Trim: what each axis takes away. -/
import Derived.Test.YtogmgaaejepcbaaCor
import Derived.Test.YtogmgaaejepcbaaTrl
import Derived.Test.YtogmgaaejepcbaaRcu
import Derived.Test.YtogmgaaejepcbaaIns
import Derived.Test.YtogmgaaejepcbaaVpo
namespace Go.Proofs.Ytogmgaaejepcbaa
open Go.RowKit

theorem lowV0 (lo plo k y q z r : Int) (hk : 0 ≤ k) (h1 : -1000000 ≤ lo) (h2 : lo ≤ plo) (h3 : plo ≤ 1000000) (h11 : -1000000 ≤ y) (h12 : y ≤ q) (h13 : q ≤ 1000000) (h21 : -1000000 ≤ z) (h22 : z ≤ r) (h23 : r ≤ 1000000) :
  (if 0 < plo - lo then volI (trF lo plo k) y z plo q r else 0) = kvI (trF lo plo k) y z plo q r := by
 have hb := trF_bd (k := k) h2 hk
 rw [kvI_ex (trF lo plo k) y z plo q r (by omega) (by omega) (by omega) (by omega) (by omega) (by omega) (by omega) (by omega) (by omega)]
 by_cases h : 0 < plo - lo
 ·rw [if_pos h]
 ·rw [if_neg h,show trF lo plo k = plo by omega]
  unfold volI; simp
theorem highV0 (hi phi k y q z r : Int) (hk : 0 ≤ k) (h1 : -1000000 ≤ phi) (h2 : phi ≤ hi) (h3 : hi ≤ 1000000) (h11 : -1000000 ≤ y) (h12 : y ≤ q) (h13 : q ≤ 1000000) (h21 : -1000000 ≤ z) (h22 : z ≤ r) (h23 : r ≤ 1000000) :
  (if 0 < hi - phi then volI phi y z (trT hi phi k) q r else 0) = kvI phi y z (trT hi phi k) q r := by
 have hb := trT_bd (k := k) h2 hk
 rw [kvI_ex phi y z (trT hi phi k) q r (by omega) (by omega) (by omega) (by omega) (by omega) (by omega) (by omega) (by omega) (by omega)]
 by_cases h : 0 < hi - phi
 ·rw [if_pos h]
 ·rw [if_neg h,show trT hi phi k = phi by omega]
  unfold volI; simp
theorem lowV1 (lo plo k x p z r : Int) (hk : 0 ≤ k) (h1 : -1000000 ≤ lo) (h2 : lo ≤ plo) (h3 : plo ≤ 1000000) (h01 : -1000000 ≤ x) (h02 : x ≤ p) (h03 : p ≤ 1000000) (h21 : -1000000 ≤ z) (h22 : z ≤ r) (h23 : r ≤ 1000000) :
  (if 0 < plo - lo then volI x (trF lo plo k) z p plo r else 0) = kvI x (trF lo plo k) z p plo r := by
 have hb := trF_bd (k := k) h2 hk
 rw [kvI_ex x (trF lo plo k) z p plo r (by omega) (by omega) (by omega) (by omega) (by omega) (by omega) (by omega) (by omega) (by omega)]
 by_cases h : 0 < plo - lo
 ·rw [if_pos h]
 ·rw [if_neg h,show trF lo plo k = plo by omega]
  unfold volI; simp
theorem highV1 (hi phi k x p z r : Int) (hk : 0 ≤ k) (h1 : -1000000 ≤ phi) (h2 : phi ≤ hi) (h3 : hi ≤ 1000000) (h01 : -1000000 ≤ x) (h02 : x ≤ p) (h03 : p ≤ 1000000) (h21 : -1000000 ≤ z) (h22 : z ≤ r) (h23 : r ≤ 1000000) :
  (if 0 < hi - phi then volI x phi z p (trT hi phi k) r else 0) = kvI x phi z p (trT hi phi k) r := by
 have hb := trT_bd (k := k) h2 hk
 rw [kvI_ex x phi z p (trT hi phi k) r (by omega) (by omega) (by omega) (by omega) (by omega) (by omega) (by omega) (by omega) (by omega)]
 by_cases h : 0 < hi - phi
 ·rw [if_pos h]
 ·rw [if_neg h,show trT hi phi k = phi by omega]
  unfold volI; simp
theorem lowV2 (lo plo k x p y q : Int) (hk : 0 ≤ k) (h1 : -1000000 ≤ lo) (h2 : lo ≤ plo) (h3 : plo ≤ 1000000) (h01 : -1000000 ≤ x) (h02 : x ≤ p) (h03 : p ≤ 1000000) (h11 : -1000000 ≤ y) (h12 : y ≤ q) (h13 : q ≤ 1000000) :
  (if 0 < plo - lo then volI x y (trF lo plo k) p q plo else 0) = kvI x y (trF lo plo k) p q plo := by
 have hb := trF_bd (k := k) h2 hk
 rw [kvI_ex x y (trF lo plo k) p q plo (by omega) (by omega) (by omega) (by omega) (by omega) (by omega) (by omega) (by omega) (by omega)]
 by_cases h : 0 < plo - lo
 ·rw [if_pos h]
 ·rw [if_neg h,show trF lo plo k = plo by omega]
  unfold volI; simp
theorem highV2 (hi phi k x p y q : Int) (hk : 0 ≤ k) (h1 : -1000000 ≤ phi) (h2 : phi ≤ hi) (h3 : hi ≤ 1000000) (h01 : -1000000 ≤ x) (h02 : x ≤ p) (h03 : p ≤ 1000000) (h11 : -1000000 ≤ y) (h12 : y ≤ q) (h13 : q ≤ 1000000) :
  (if 0 < hi - phi then volI x y phi p q (trT hi phi k) else 0) = kvI x y phi p q (trT hi phi k) := by
 have hb := trT_bd (k := k) h2 hk
 rw [kvI_ex x y phi p q (trT hi phi k) (by omega) (by omega) (by omega) (by omega) (by omega) (by omega) (by omega) (by omega) (by omega)]
 by_cases h : 0 < hi - phi
 ·rw [if_pos h]
 ·rw [if_neg h,show trT hi phi k = phi by omega]
  unfold volI; simp
def St (x y z p q r a b c d s u k : Int) (m : Nat) (X Y Z P Q R L : Int) (n : Nat) (xs : List Value) : Prop :=
 match m with
 | 0 => X = x ∧ Y = y ∧ Z = z ∧ P = p ∧ Q = q ∧ R = r ∧ L = trL0 x y z p q r a b c d s u k ∧ n = trN0 x y z p q r a b c d s u k ∧ xs = trR0 x y z p q r a b c d s u k
 | 1 => X = a ∧ Y = y ∧ Z = z ∧ P = d ∧ Q = q ∧ R = r ∧ L = trL1 x y z p q r a b c d s u k ∧ n = trN1 x y z p q r a b c d s u k ∧ xs = trR1 x y z p q r a b c d s u k
 | 2 => X = a ∧ Y = b ∧ Z = z ∧ P = d ∧ Q = s ∧ R = r ∧ L = trL2 x y z p q r a b c d s u k ∧ n = trN2 x y z p q r a b c d s u k ∧ xs = trR2 x y z p q r a b c d s u k
 | _ => X = a ∧ Y = b ∧ Z = c ∧ P = d ∧ Q = s ∧ R = u ∧ L = trL3 x y z p q r a b c d s u k ∧ n = trN3 x y z p q r a b c d s u k ∧ xs = trR3 x y z p q r a b c d s u k
set_option maxHeartbeats 1000000 in
theorem trm_facts (x y z p q r a b c d s u k : Int) (hx : x ≤ a ∧ a < d ∧ d ≤ p) (hy : y ≤ b ∧ b < s ∧ s ≤ q) (hz : z ≤ c ∧ c < u ∧ u ≤ r) (bx : -1000000 ≤ x ∧ p ≤ 1000000) (by_ : -1000000 ≤ y ∧ q ≤ 1000000) (bz : -1000000 ≤ z ∧ r ≤ 1000000) (hk : 0 ≤ k) (_hk2 : k ≤ 1000) (m : Nat) (hm : m < 3) (X Y Z P Q R L : Int) (n : Nat) (xs : List Value) (h : St x y z p q r a b c d s u k m X Y Z P Q R L n xs) :
  ∃ lo LP hi HP D1 D2 E1 E2 V1 V2 : Int,gt3 X Y Z (m : Int) = lo ∧ gt3 P Q R (m : Int) = hi ∧ gt3 a b c (m : Int) = LP ∧ gt3 d s u (m : Int) = HP ∧
  IntKind.i64.wrap (LP - lo) = D1 ∧ IntKind.i64.wrap (hi - HP) = D2 ∧ (0 ≤ D1 ∧ D1 ≤ 2000000) ∧ (0 ≤ D2 ∧ D2 ≤ 2000000) ∧ (-1000000 ≤ LP ∧ LP ≤ 1000000) ∧ (-1000000 ≤ HP ∧ HP ≤ 1000000) ∧
  IntKind.i64.wrap (LP - (if k < D1 then k else D1)) = E1 ∧ IntKind.i64.wrap (HP + (if k < D2 then k else D2)) = E2 ∧
  (∀ w,Calls Try.prog 19 #[.agg #[.int .i64 (pt 0 X (m : Int) E1),.int .i64 (pt 1 Y (m : Int) E1),.int .i64 (pt 2 Z (m : Int) E1),.int .i64 (pt 0 P (m : Int) LP),.int .i64 (pt 1 Q (m : Int) LP),.int .i64 (pt 2 R (m : Int) LP)]] w fun e w' => e = .returned (.int .i64 V1) ∧ Below w.heap.size w w') ∧
  (∀ w,Calls Try.prog 19 #[.agg #[.int .i64 (pt 0 (pt 0 X (m : Int) LP) (m : Int) HP),.int .i64 (pt 1 (pt 1 Y (m : Int) LP) (m : Int) HP),.int .i64 (pt 2 (pt 2 Z (m : Int) LP) (m : Int) HP),.int .i64 (pt 0 P (m : Int) E2),.int .i64 (pt 1 Q (m : Int) E2),.int .i64 (pt 2 R (m : Int) E2)]] w fun e w' => e = .returned (.int .i64 V2) ∧ Below w.heap.size w w') ∧
  (0 ≤ L ∧ 0 ≤ V1 ∧ 0 ≤ V2 ∧ L + (if 0 < D1 then V1 else 0) + (if 0 < D2 then V2 else 0) ≤ 9000000000000000000 ∧ n ≤ 2 * m) ∧
  (D1 = 0 → (pt 0 X (m : Int) LP) = X ∧ (pt 1 Y (m : Int) LP) = Y ∧ (pt 2 Z (m : Int) LP) = Z) ∧ (D2 = 0 → (pt 0 P (m : Int) HP) = P ∧ (pt 1 Q (m : Int) HP) = Q ∧ (pt 2 R (m : Int) HP) = R) ∧
  St x y z p q r a b c d s u k (m + 1) (pt 0 X (m : Int) LP) (pt 1 Y (m : Int) LP) (pt 2 Z (m : Int) LP) (pt 0 P (m : Int) HP) (pt 1 Q (m : Int) HP) (pt 2 R (m : Int) HP) (L + (if 0 < D1 then V1 else 0) + (if 0 < D2 then V2 else 0)) (n + (if k < D1 then 1 else 0) + (if k < D2 then 1 else 0)) (xs ++ (if k < D1 then [.int .i64 ((m : Int)),.int .i64 (LP - k),.int .i64 k] else []) ++ (if k < D2 then [.int .i64 ((m : Int)),.int .i64 HP,.int .i64 k] else [])) := by
 have hc : m = 0 ∨ m = 1 ∨ m = 2 := by omega
 rcases hc with rfl | rfl | rfl
 ·obtain ⟨g0,g1,g2,g3,g4,g5,rfl,rfl,rfl⟩ := h
  obtain rfl := g0.symm; obtain rfl := g1.symm; obtain rfl := g2.symm; obtain rfl := g3.symm; obtain rfl := g4.symm; obtain rfl := g5.symm
  clear g0 g1 g2 g3 g4 g5
  have f1 := trF_bd (lo := x) (plo := a) (k := k) (by omega) hk
  have f2 := trT_bd (hi := p) (phi := d) (k := k) (by omega) hk
  have e1 : a - (if k < a - x then k else a - x) = trF x a k := by unfold trF; split <;> omega
  have e2 : d + (if k < p - d then k else p - d) = trT p d k := by unfold trT; split <;> omega
  have v1 := rvol_any (trF x a k) y z a q r (by omega) (by omega) (by omega) (by omega) (by omega) (by omega)
  have v2 := rvol_any d y z (trT p d k) q r (by omega) (by omega) (by omega) (by omega) (by omega) (by omega)
  have lw := lowV0 x a k y q z r hk (by omega) (by omega) (by omega) (by omega) (by omega) (by omega) (by omega) (by omega) (by omega) 
  have hg := highV0 p d k y q z r hk (by omega) (by omega) (by omega) (by omega) (by omega) (by omega) (by omega) (by omega) (by omega) 
  have tb := trLb0 x y z p q r a b c d s u k hx hy hz (by omega) (by omega) (by omega) hk
  have tb2 := trLb1 x y z p q r a b c d s u k hx hy hz (by omega) (by omega) (by omega) hk
  have tl : trL0 x y z p q r a b c d s u k + (if 0 < a - x then volI (trF x a k) y z a q r else 0) + (if 0 < p - d then volI d y z (trT p d k) q r else 0) = trL1 x y z p q r a b c d s u k := by rw [lw,hg]; rfl
  have tv := vol_nn a y z d q r (by omega) (by omega) (by omega)
  refine ⟨x,a,p,d,a - x,p - d,(trF x a k),(trT p d k),volI (trF x a k) y z a q r,volI d y z (trT p d k) q r,rfl,rfl,rfl,rfl,IntWalk.i64_in _ (by omega),IntWalk.i64_in _ (by omega),⟨by omega,by omega⟩,⟨by omega,by omega⟩,⟨by omega,by omega⟩,⟨by omega,by omega⟩,?_,?_,fun w => v1 w,fun w => v2 w,⟨tb.1,vol_nn _ _ _ _ _ _ (by omega) (by omega) (by omega),vol_nn _ _ _ _ _ _ (by omega) (by omega) (by omega),by rw [tl]; omega,?_⟩,fun h0 => ?_,fun h0 => ?_,?_⟩
  ·rw [e1]; exact IntWalk.i64_in _ (by omega)
  ·rw [e2]; exact IntWalk.i64_in _ (by omega)
  ·simp only [trN0]; omega
  ·exact ⟨(show a = x by omega),rfl,rfl⟩
  ·exact ⟨(show d = p by omega),rfl,rfl⟩
  ·exact ⟨rfl,rfl,rfl,rfl,rfl,rfl,tl,rfl,rfl⟩
 ·obtain ⟨g0,g1,g2,g3,g4,g5,rfl,rfl,rfl⟩ := h
  obtain rfl := g0.symm; obtain rfl := g1.symm; obtain rfl := g2.symm; obtain rfl := g3.symm; obtain rfl := g4.symm; obtain rfl := g5.symm
  clear g0 g1 g2 g3 g4 g5
  have f1 := trF_bd (lo := y) (plo := b) (k := k) (by omega) hk
  have f2 := trT_bd (hi := q) (phi := s) (k := k) (by omega) hk
  have e1 : b - (if k < b - y then k else b - y) = trF y b k := by unfold trF; split <;> omega
  have e2 : s + (if k < q - s then k else q - s) = trT q s k := by unfold trT; split <;> omega
  have v1 := rvol_any a (trF y b k) z d b r (by omega) (by omega) (by omega) (by omega) (by omega) (by omega)
  have v2 := rvol_any a s z d (trT q s k) r (by omega) (by omega) (by omega) (by omega) (by omega) (by omega)
  have lw := lowV1 y b k a d z r hk (by omega) (by omega) (by omega) (by omega) (by omega) (by omega) (by omega) (by omega) (by omega) 
  have hg := highV1 q s k a d z r hk (by omega) (by omega) (by omega) (by omega) (by omega) (by omega) (by omega) (by omega) (by omega) 
  have tb := trLb1 x y z p q r a b c d s u k hx hy hz (by omega) (by omega) (by omega) hk
  have tb2 := trLb2 x y z p q r a b c d s u k hx hy hz (by omega) (by omega) (by omega) hk
  have tl : trL1 x y z p q r a b c d s u k + (if 0 < b - y then volI a (trF y b k) z d b r else 0) + (if 0 < q - s then volI a s z d (trT q s k) r else 0) = trL2 x y z p q r a b c d s u k := by rw [lw,hg]; rfl
  have tv := vol_nn a b z d s r (by omega) (by omega) (by omega)
  refine ⟨y,b,q,s,b - y,q - s,(trF y b k),(trT q s k),volI a (trF y b k) z d b r,volI a s z d (trT q s k) r,rfl,rfl,rfl,rfl,IntWalk.i64_in _ (by omega),IntWalk.i64_in _ (by omega),⟨by omega,by omega⟩,⟨by omega,by omega⟩,⟨by omega,by omega⟩,⟨by omega,by omega⟩,?_,?_,fun w => v1 w,fun w => v2 w,⟨tb.1,vol_nn _ _ _ _ _ _ (by omega) (by omega) (by omega),vol_nn _ _ _ _ _ _ (by omega) (by omega) (by omega),by rw [tl]; omega,?_⟩,fun h0 => ?_,fun h0 => ?_,?_⟩
  ·rw [e1]; exact IntWalk.i64_in _ (by omega)
  ·rw [e2]; exact IntWalk.i64_in _ (by omega)
  ·simp only [trN1,trN0]; have := trN_le (a - x) k; have := trN_le (p - d) k; omega
  ·exact ⟨rfl,(show b = y by omega),rfl⟩
  ·exact ⟨rfl,(show s = q by omega),rfl⟩
  ·exact ⟨rfl,rfl,rfl,rfl,rfl,rfl,tl,rfl,rfl⟩
 ·obtain ⟨g0,g1,g2,g3,g4,g5,rfl,rfl,rfl⟩ := h
  obtain rfl := g0.symm; obtain rfl := g1.symm; obtain rfl := g2.symm; obtain rfl := g3.symm; obtain rfl := g4.symm; obtain rfl := g5.symm
  clear g0 g1 g2 g3 g4 g5
  have f1 := trF_bd (lo := z) (plo := c) (k := k) (by omega) hk
  have f2 := trT_bd (hi := r) (phi := u) (k := k) (by omega) hk
  have e1 : c - (if k < c - z then k else c - z) = trF z c k := by unfold trF; split <;> omega
  have e2 : u + (if k < r - u then k else r - u) = trT r u k := by unfold trT; split <;> omega
  have v1 := rvol_any a b (trF z c k) d s c (by omega) (by omega) (by omega) (by omega) (by omega) (by omega)
  have v2 := rvol_any a b u d s (trT r u k) (by omega) (by omega) (by omega) (by omega) (by omega) (by omega)
  have lw := lowV2 z c k a d b s hk (by omega) (by omega) (by omega) (by omega) (by omega) (by omega) (by omega) (by omega) (by omega) 
  have hg := highV2 r u k a d b s hk (by omega) (by omega) (by omega) (by omega) (by omega) (by omega) (by omega) (by omega) (by omega) 
  have tb := trLb2 x y z p q r a b c d s u k hx hy hz (by omega) (by omega) (by omega) hk
  have tb2 := trLb3 x y z p q r a b c d s u k hx hy hz (by omega) (by omega) (by omega) hk
  have tl : trL2 x y z p q r a b c d s u k + (if 0 < c - z then volI a b (trF z c k) d s c else 0) + (if 0 < r - u then volI a b u d s (trT r u k) else 0) = trL3 x y z p q r a b c d s u k := by rw [lw,hg]; rfl
  have tv := vol_nn a b c d s u (by omega) (by omega) (by omega)
  refine ⟨z,c,r,u,c - z,r - u,(trF z c k),(trT r u k),volI a b (trF z c k) d s c,volI a b u d s (trT r u k),rfl,rfl,rfl,rfl,IntWalk.i64_in _ (by omega),IntWalk.i64_in _ (by omega),⟨by omega,by omega⟩,⟨by omega,by omega⟩,⟨by omega,by omega⟩,⟨by omega,by omega⟩,?_,?_,fun w => v1 w,fun w => v2 w,⟨tb.1,vol_nn _ _ _ _ _ _ (by omega) (by omega) (by omega),vol_nn _ _ _ _ _ _ (by omega) (by omega) (by omega),by rw [tl]; omega,?_⟩,fun h0 => ?_,fun h0 => ?_,?_⟩
  ·rw [e1]; exact IntWalk.i64_in _ (by omega)
  ·rw [e2]; exact IntWalk.i64_in _ (by omega)
  ·simp only [trN2,trN1,trN0]; have := trN_le (a - x) k; have := trN_le (p - d) k; have := trN_le (b - y) k; have := trN_le (q - s) k; omega
  ·exact ⟨rfl,rfl,(show c = z by omega)⟩
  ·exact ⟨rfl,rfl,(show u = r by omega)⟩
  ·exact ⟨rfl,rfl,rfl,rfl,rfl,rfl,tl,rfl,rfl⟩
end Go.Proofs.Ytogmgaaejepcbaa
