/- The error of slicing a box. -/
import Derived.Test.YtogmgaaejepcbaaCor
import Derived.Test.YtogmgaaejepcbaaCs
import Derived.Test.YtogmgaaejepcbaaCs0
import Derived.Test.YtogmgaaejepcbaaCs1
import Derived.Test.YtogmgaaejepcbaaCs2
import Derived.Test.YtogmgaaejepcbaaJnx
import Derived.Test.YtogmgaaejepcbaaReg
import Derived.Test.YtogmgaaejepcbaaRck
namespace Go.Proofs.Ytogmgaaejepcbaa
open Go.RowKit

set_option maxHeartbeats 2000000 in
theorem cs_bad (x y z p q r a t k f : Int) (hf : caI (eB x y z p q r) a = f) (hn : f ≠ 0) (w : World) :
  Calls Try.prog 50 #[.agg #[x,y,z,p,q,r],.int .i64 a,.int .i64 t,.int .i64 k] w fun e w' => e = .returned (.tuple #[.int .i64 0,f]) ∧ Below w.heap.size w w' := by
 have hc := @cax1 x y z p q r a
 rw [hf] at hc
 obtain ⟨t1,t2⟩ := ne_tests hn
 clear hf hn
 go_enter Try.func50,Try.ntmps50
 go_wp2_with (go_at_call 45; refine (hc _ _ (Blk.new2 (by simp))).mono ?_; rintro e w1 ⟨rfl,hb1⟩; obtain ⟨hc1,hf1⟩ := bcell hb1; have hz1 := hb1.size; (try simp at hz1); (try have y10 : w.heap.size < w1.heap.size := (by omega)); (try have y10p : w.heap.size < w1.heap.size + 1 := (by omega)); (try have y11 : w.heap.size + 1 < w1.heap.size := (by omega)); (try have y11p : w.heap.size + 1 < w1.heap.size + 1 := (by omega)); (try have y12 : w.heap.size + 1 + 1 < w1.heap.size := (by omega)); (try have y12p : w.heap.size + 1 + 1 < w1.heap.size + 1 := (by omega)); (try have y13 : w.heap.size + 1 + 1 + 1 < w1.heap.size := (by omega)); (try have y13p : w.heap.size + 1 + 1 + 1 < w1.heap.size + 1 := (by omega)); (try have y14 : w.heap.size + 1 + 1 + 1 + 1 < w1.heap.size := (by omega)); (try have y14p : w.heap.size + 1 + 1 + 1 + 1 < w1.heap.size + 1 := (by omega)); (try have v0x1 : w0.heap.size < w1.heap.size := (by omega)); (try have v0x1p : w0.heap.size < w1.heap.size + 1 := (by omega)))
 go_ret2
 refine ⟨rfl,?_⟩
 repeat (first | with_reducible exact Below.refl _ _ | with_reducible refine Below.setCell ?_ ?_ _ | with_reducible refine Below.alloc ?_ ?_ _ | with_reducible refine Below.drew ?_ | with_reducible refine below_drewN ?_ _ | (refine Below.trans ?_ (bmono (by assumption) ?_)))
 all_goals (first | omega | (simp <;> omega))
end Go.Proofs.Ytogmgaaejepcbaa

namespace Go.Proofs.Ytogmgaaejepcbaa
open Go.RowKit

def slE (x y z p q r a t k : Int) : Int := if caI (eB x y z p q r) a = 0 then (if rgB 1 2000000 t = true then (if rgB 0 1000 k = true then csE ((gt3 p q r a - gt3 x y z a + k) / (t + k)) else 6) else 6) else caI (eB x y z p q r) a
theorem csN_e {n : Int} (h : csE n ≠ 0) : csN n = 0 := by
 unfold csE at h
 unfold csN
 split at h
 ·simp [*]
 ·split at h
  ·simp [*]
  ·exact absurd rfl h
theorem csE_z {n : Int} (h : csE n = 0) (h0 : 0 ≤ n) : 0 < n ∧ n ≤ 1000 := by
 unfold csE at h
 split at h
 ·exact absurd h (by decide)
 ·split at h
  ·exact absurd h (by decide)
  ·omega
theorem slE_z {x y z p q r a t k : Int} (h : slE x y z p q r a t k = 0) : eB x y z p q r = 0 ∧ rgB 0 2 a = true ∧ rgB 1 2000000 t = true ∧ rgB 0 1000 k = true ∧ csE ((gt3 p q r a - gt3 x y z a + k) / (t + k)) = 0 := by
 unfold slE at h
 by_cases h1 : caI (eB x y z p q r) a = 0
 ·rw [if_pos h1] at h
  obtain ⟨hv,ha⟩ := caI_z h1
  by_cases h2 : rgB 1 2000000 t = true
  ·rw [if_pos h2] at h
   by_cases h3 : rgB 0 1000 k = true
   ·rw [if_pos h3] at h; exact ⟨hv,ha,h2,h3,h⟩
   ·rw [if_neg h3] at h; exact absurd h (by decide)
  ·rw [if_neg h2] at h; exact absurd h (by decide)
 ·rw [if_neg h1] at h; exact absurd h h1
theorem cs_no (x y z p q r a t k : Int) (f : Int) (hf : slE x y z p q r a t k = f) (hn : f ≠ 0) (w : World) :
  Calls Try.prog 50 #[.agg #[x,y,z,p,q,r],.int .i64 a,.int .i64 t,.int .i64 k] w fun e w' => e = .returned (.tuple #[.int .i64 0,f]) ∧ Below w.heap.size w w' := by
 unfold slE at hf
 by_cases h1 : caI (eB x y z p q r) a = 0
 ·rw [if_pos h1] at hf
  obtain ⟨hv,ha⟩ := caI_z h1
  rcases ax3 ha with rfl | rfl | rfl
  ·cases ht : rgB 1 2000000 t
   ·rw [if_neg (by simp [ht])] at hf
    subst hf
    exact cs_bt0 x y z p q r t k hv ht w
   ·cases hk : rgB 0 1000 k
    ·rw [if_pos ht,if_neg (by simp [hk])] at hf
     subst hf
     exact cs_bk0 x y z p q r t k hv ht hk w
    ·rw [if_pos ht,if_pos hk] at hf
     have h := cs_ok0 x y z p q r t k _ hv ht hk rfl w
     have hf' : csE ((p - x + k) / (t + k)) = f := hf
     rw [csN_e (n := (p - x + k) / (t + k)) (by rw [hf']; exact hn),hf'] at h
     exact h
  ·cases ht : rgB 1 2000000 t
   ·rw [if_neg (by simp [ht])] at hf
    subst hf
    exact cs_bt1 x y z p q r t k hv ht w
   ·cases hk : rgB 0 1000 k
    ·rw [if_pos ht,if_neg (by simp [hk])] at hf
     subst hf
     exact cs_bk1 x y z p q r t k hv ht hk w
    ·rw [if_pos ht,if_pos hk] at hf
     have h := cs_ok1 x y z p q r t k _ hv ht hk rfl w
     have hf' : csE ((q - y + k) / (t + k)) = f := hf
     rw [csN_e (n := (q - y + k) / (t + k)) (by rw [hf']; exact hn),hf'] at h
     exact h
  ·cases ht : rgB 1 2000000 t
   ·rw [if_neg (by simp [ht])] at hf
    subst hf
    exact cs_bt2 x y z p q r t k hv ht w
   ·cases hk : rgB 0 1000 k
    ·rw [if_pos ht,if_neg (by simp [hk])] at hf
     subst hf
     exact cs_bk2 x y z p q r t k hv ht hk w
    ·rw [if_pos ht,if_pos hk] at hf
     have h := cs_ok2 x y z p q r t k _ hv ht hk rfl w
     have hf' : csE ((r - z + k) / (t + k)) = f := hf
     rw [csN_e (n := (r - z + k) / (t + k)) (by rw [hf']; exact hn),hf'] at h
     exact h
 ·rw [if_neg h1] at hf
  exact cs_bad x y z p q r a t k f hf hn w
set_option maxHeartbeats 4000000 in
set_option maxRecDepth 100000 in
theorem Slices_bad (x y z p q r a t k : Int) (f : Int) (hf : slE x y z p q r a t k = f) (hn : f ≠ 0) (w : World) :
  Calls Try.prog 28 #[.agg #[x,y,z,p,q,r],.int .i64 a,.int .i64 t,.int .i64 k] w fun e w' => e = .returned (.tuple #[.slice none 0 0,.agg #[.int .i64 0,.int .i64 0,.int .i64 0,.int .i64 0,.int .i64 0,.int .i64 0],.int .i64 f]) ∧ Below w.heap.size w w' := by
 have hc := cs_no x y z p q r a t k f hf hn
 obtain ⟨t1,t2⟩ := ne_tests hn
 clear hf hn
 go_enter Try.func28,Try.ntmps28
 go_wp2_with (go_at_call 50; refine (hc _).mono ?_; rintro e w1 ⟨rfl,hb1⟩; obtain ⟨hc1,hf1⟩ := bcell hb1; have hz1 := hb1.size; (try simp at hz1); (try have y10 : w.heap.size < w1.heap.size := (by omega)); (try have y10p : w.heap.size < w1.heap.size + 1 := (by omega)); (try have y11 : w.heap.size + 1 < w1.heap.size := (by omega)); (try have y11p : w.heap.size + 1 < w1.heap.size + 1 := (by omega)); (try have y12 : w.heap.size + 1 + 1 < w1.heap.size := (by omega)); (try have y12p : w.heap.size + 1 + 1 < w1.heap.size + 1 := (by omega)); (try have y13 : w.heap.size + 1 + 1 + 1 < w1.heap.size := (by omega)); (try have y13p : w.heap.size + 1 + 1 + 1 < w1.heap.size + 1 := (by omega)); (try have y14 : w.heap.size + 1 + 1 + 1 + 1 < w1.heap.size := (by omega)); (try have y14p : w.heap.size + 1 + 1 + 1 + 1 < w1.heap.size + 1 := (by omega)); (try have v0x1 : w0.heap.size < w1.heap.size := (by omega)); (try have v0x1p : w0.heap.size < w1.heap.size + 1 := (by omega)))
 exact bodyPost_ret (v := .tuple #[.slice none 0 0,.agg #[.int .i64 0,.int .i64 0,.int .i64 0,.int .i64 0,.int .i64 0,.int .i64 0],.int .i64 f]) (by simp [results,Try.results28,go_sem,hc1]) rfl ⟨rfl,by
 repeat (first | with_reducible exact Below.refl _ _ | with_reducible refine Below.setCell ?_ ?_ _ | with_reducible refine Below.alloc ?_ ?_ _ | with_reducible refine Below.drew ?_ | with_reducible refine below_drewN ?_ _ | (refine Below.trans ?_ (bmono (by assumption) ?_)))
 all_goals (first | omega | (simp <;> omega))⟩
set_option maxHeartbeats 4000000 in
set_option maxRecDepth 100000 in
theorem Cuts_bad (x y z p q r a t k : Int) (f : Int) (hf : slE x y z p q r a t k = f) (hn : f ≠ 0) (w : World) :
  Calls Try.prog 29 #[.agg #[x,y,z,p,q,r],.int .i64 a,.int .i64 t,.int .i64 k] w fun e w' => e = .returned (.tuple #[.slice none 0 0,.int .i64 f]) ∧ Below w.heap.size w w' := by
 have hc := cs_no x y z p q r a t k f hf hn
 obtain ⟨t1,t2⟩ := ne_tests hn
 clear hf hn
 go_enter Try.func29,Try.ntmps29
 go_wp2_with (go_at_call 50; refine (hc _).mono ?_; rintro e w1 ⟨rfl,hb1⟩; obtain ⟨hc1,hf1⟩ := bcell hb1; have hz1 := hb1.size; (try simp at hz1); (try have y10 : w.heap.size < w1.heap.size := (by omega)); (try have y10p : w.heap.size < w1.heap.size + 1 := (by omega)); (try have y11 : w.heap.size + 1 < w1.heap.size := (by omega)); (try have y11p : w.heap.size + 1 < w1.heap.size + 1 := (by omega)); (try have y12 : w.heap.size + 1 + 1 < w1.heap.size := (by omega)); (try have y12p : w.heap.size + 1 + 1 < w1.heap.size + 1 := (by omega)); (try have y13 : w.heap.size + 1 + 1 + 1 < w1.heap.size := (by omega)); (try have y13p : w.heap.size + 1 + 1 + 1 < w1.heap.size + 1 := (by omega)); (try have y14 : w.heap.size + 1 + 1 + 1 + 1 < w1.heap.size := (by omega)); (try have y14p : w.heap.size + 1 + 1 + 1 + 1 < w1.heap.size + 1 := (by omega)); (try have v0x1 : w0.heap.size < w1.heap.size := (by omega)); (try have v0x1p : w0.heap.size < w1.heap.size + 1 := (by omega)))
 go_ret2
 refine ⟨rfl,?_⟩
 repeat (first | with_reducible exact Below.refl _ _ | with_reducible refine Below.setCell ?_ ?_ _ | with_reducible refine Below.alloc ?_ ?_ _ | with_reducible refine Below.drew ?_ | with_reducible refine below_drewN ?_ _ | (refine Below.trans ?_ (bmono (by assumption) ?_)))
 all_goals (first | omega | (simp <;> omega))
set_option maxHeartbeats 4000000 in
set_option maxRecDepth 100000 in
theorem rSlicing_any (x y z p q r a t k : Int) (w : World) :
  Calls Try.prog 30 #[.agg #[x,y,z,p,q,r],.int .i64 a,.int .i64 t,.int .i64 k] w fun e w' => e = .returned (.int .i64 (slE x y z p q r a t k)) ∧ Below w.heap.size w w' := by
 have hc := rbcheck_any x y z p q r
 by_cases h1 : caI (eB x y z p q r) a = 0
 ·obtain ⟨hv,ha⟩ := caI_z h1
  have hA := fun w => rAxis_yes w ha
  have hL := rLen_any t
  have hK := rKerf_any k
  rw [hv] at hc
  cases ht : rgB 1 2000000 t
  ·have HE := Lib.hid (show slE x y z p q r a t k = 6 by unfold slE; rw [if_pos h1,if_neg (by simp [ht])])
   rw [ht] at hL
   clear h1 hv ha ht
   go_enter Try.func30,Try.ntmps30
   go_wp2_with (first | (go_at_call 35; refine (hc _).mono ?_; rintro e w1 ⟨rfl,hb1⟩; obtain ⟨hc1,hf1⟩ := bcell hb1; have hz1 := hb1.size; (try simp at hz1); (try have y10 : w.heap.size < w1.heap.size := (by omega)); (try have y10p : w.heap.size < w1.heap.size + 1 := (by omega)); (try have y11 : w.heap.size + 1 < w1.heap.size := (by omega)); (try have y11p : w.heap.size + 1 < w1.heap.size + 1 := (by omega)); (try have y12 : w.heap.size + 1 + 1 < w1.heap.size := (by omega)); (try have y12p : w.heap.size + 1 + 1 < w1.heap.size + 1 := (by omega)); (try have y13 : w.heap.size + 1 + 1 + 1 < w1.heap.size := (by omega)); (try have y13p : w.heap.size + 1 + 1 + 1 < w1.heap.size + 1 := (by omega)); (try have y14 : w.heap.size + 1 + 1 + 1 + 1 < w1.heap.size := (by omega)); (try have y14p : w.heap.size + 1 + 1 + 1 + 1 < w1.heap.size + 1 := (by omega)); (try have v0x1 : w0.heap.size < w1.heap.size := (by omega)); (try have v0x1p : w0.heap.size < w1.heap.size + 1 := (by omega))) | (go_at_call 40; refine (hA _).mono ?_; rintro e w' ⟨rfl,rfl⟩) | (go_at_call 24; refine (hL _).mono ?_; rintro e w' ⟨rfl,rfl⟩))
   go_ret
   refine ⟨ret_int HE.out.symm,?_⟩
   repeat (first | with_reducible exact Below.refl _ _ | with_reducible refine Below.setCell ?_ ?_ _ | with_reducible refine Below.alloc ?_ ?_ _ | with_reducible refine Below.drew ?_ | with_reducible refine below_drewN ?_ _ | (refine Below.trans ?_ (bmono (by assumption) ?_)))
   all_goals (first | omega | (simp <;> omega))
  ·cases hk : rgB 0 1000 k
   ·have HE := Lib.hid (show slE x y z p q r a t k = 6 by unfold slE; rw [if_pos h1,if_pos ht,if_neg (by simp [hk])])
    rw [ht] at hL
    rw [hk] at hK
    clear h1 hv ha ht hk
    go_enter Try.func30,Try.ntmps30
    go_wp2_with (first | (go_at_call 35; refine (hc _).mono ?_; rintro e w1 ⟨rfl,hb1⟩; obtain ⟨hc1,hf1⟩ := bcell hb1; have hz1 := hb1.size; (try simp at hz1); (try have y10 : w.heap.size < w1.heap.size := (by omega)); (try have y10p : w.heap.size < w1.heap.size + 1 := (by omega)); (try have y11 : w.heap.size + 1 < w1.heap.size := (by omega)); (try have y11p : w.heap.size + 1 < w1.heap.size + 1 := (by omega)); (try have y12 : w.heap.size + 1 + 1 < w1.heap.size := (by omega)); (try have y12p : w.heap.size + 1 + 1 < w1.heap.size + 1 := (by omega)); (try have y13 : w.heap.size + 1 + 1 + 1 < w1.heap.size := (by omega)); (try have y13p : w.heap.size + 1 + 1 + 1 < w1.heap.size + 1 := (by omega)); (try have y14 : w.heap.size + 1 + 1 + 1 + 1 < w1.heap.size := (by omega)); (try have y14p : w.heap.size + 1 + 1 + 1 + 1 < w1.heap.size + 1 := (by omega)); (try have v0x1 : w0.heap.size < w1.heap.size := (by omega)); (try have v0x1p : w0.heap.size < w1.heap.size + 1 := (by omega))) | (go_at_call 40; refine (hA _).mono ?_; rintro e w' ⟨rfl,rfl⟩) | (go_at_call 24; refine (hL _).mono ?_; rintro e w' ⟨rfl,rfl⟩) | (go_at_call 25; refine (hK _).mono ?_; rintro e w' ⟨rfl,rfl⟩))
    go_ret
    refine ⟨ret_int HE.out.symm,?_⟩
    repeat (first | with_reducible exact Below.refl _ _ | with_reducible refine Below.setCell ?_ ?_ _ | with_reducible refine Below.alloc ?_ ?_ _ | with_reducible refine Below.drew ?_ | with_reducible refine below_drewN ?_ _ | (refine Below.trans ?_ (bmono (by assumption) ?_)))
    all_goals (first | omega | (simp <;> omega))
   ·have HE0 : slE x y z p q r a t k = csE ((gt3 p q r a - gt3 x y z a + k) / (t + k)) := by unfold slE; rw [if_pos h1,if_pos ht,if_pos hk]
    rw [ht] at hL
    rw [hk] at hK
    have g1 := get_k ha x y z
    have g2 := get_k ha p q r
    have i2 := rgB_iff.1 ht
    have i3 := rgB_iff.1 hk
    have bd : 1 ≤ gt3 p q r a - gt3 x y z a ∧ gt3 p q r a - gt3 x y z a ≤ 2000000 := by
     obtain ⟨⟨a1,a2,a3⟩,⟨a4,a5,a6⟩,⟨a7,a8,a9⟩⟩ := eB_bd hv
     rcases ax3 ha with rfl | rfl | rfl <;> simp [gt3] <;> omega
    generalize gt3 x y z a = LO at *
    generalize gt3 p q r a = HI at *
    have hm := fun w => rMost_any (HI - LO) t k (by omega) (by omega) i2.1 i2.2 i3.1 i3.2 w
    generalize (HI - LO + k) / (t + k) = n at *
    have HE := Lib.hid HE0
    have hw : IntKind.i64.wrap (HI - LO) = HI - LO := IntWalk.i64_in _ (by omega)
    clear HE0 h1 hv ha ht hk i2 i3 bd
    go_enter Try.func30,Try.ntmps30
    go_wp2_with (first | (go_at_call 35; refine (hc _).mono ?_; rintro e w1 ⟨rfl,hb1⟩; obtain ⟨hc1,hf1⟩ := bcell hb1; have hz1 := hb1.size; (try simp at hz1); (try have y10 : w.heap.size < w1.heap.size := (by omega)); (try have y10p : w.heap.size < w1.heap.size + 1 := (by omega)); (try have y11 : w.heap.size + 1 < w1.heap.size := (by omega)); (try have y11p : w.heap.size + 1 < w1.heap.size + 1 := (by omega)); (try have y12 : w.heap.size + 1 + 1 < w1.heap.size := (by omega)); (try have y12p : w.heap.size + 1 + 1 < w1.heap.size + 1 := (by omega)); (try have y13 : w.heap.size + 1 + 1 + 1 < w1.heap.size := (by omega)); (try have y13p : w.heap.size + 1 + 1 + 1 < w1.heap.size + 1 := (by omega)); (try have y14 : w.heap.size + 1 + 1 + 1 + 1 < w1.heap.size := (by omega)); (try have y14p : w.heap.size + 1 + 1 + 1 + 1 < w1.heap.size + 1 := (by omega)); (try have v0x1 : w0.heap.size < w1.heap.size := (by omega)); (try have v0x1p : w0.heap.size < w1.heap.size + 1 := (by omega))) | (go_at_call 40; refine (hA _).mono ?_; rintro e w' ⟨rfl,rfl⟩) | (go_at_call 24; refine (hL _).mono ?_; rintro e w' ⟨rfl,rfl⟩) | (go_at_call 25; refine (hK _).mono ?_; rintro e w' ⟨rfl,rfl⟩))
    refine wp_region_any (by kernel_rfl) ?_
    try (change wpAny _ _ _ _ _ _ _ (World.drew _))
    refine wpAny_vals (fr := fun o => #[.agg #[x,y,z,p,q,r],.int .i64 a,.int .i64 t,.int .i64 k,.pointer (some ⟨w.heap.size,0,none⟩),undef,undef,undef,.int .i64 0,.int .i64 0,o 12,.agg #[x,y,z,p,q,r],.int .i64 0,.int .i64 0,.bool false,undef,.int .i64 a,.bool true,.bool false,.int .i64 t,.bool true,.bool false,.bool false,.int .i64 k,.bool true,.bool false,.bool false,o 0,o 1,o 2,o 3,o 4,o 5,o 6,o 7,o 8,o 9,o 10,o 11,undef,undef,undef,undef]) (vals := fun i_ => ([.pointer (some ⟨w.heap.size,3,none⟩),.agg #[p,q,r],.int .i64 a,.int .i64 HI,.pointer (some ⟨w.heap.size,0,none⟩),.agg #[x,y,z],.int .i64 a,.int .i64 LO,.int .i64 (HI - LO),.int .i64 t,.int .i64 k,.int .i64 n,.int .i64 n] : List Value).getD i_ undef) (Kf := fun _ => True) (K := fun kk_ => ([(KL [(w.heap.size,25,#[x,y,z,p,q,r])] w)] : List (World → Prop)).getD kk_ (fun _ => True)) (dep := fun i_ => [[],[0],[],[1,2],[],[4],[],[5,6],[3,7],[],[],[8,9,10],[11]].getD i_ []) (dv := fun i_ => [[],[0],[],[1,2],[],[4],[],[5,6],[3,7],[],[],[8,9,10],[11]].getD i_ []) (kd := fun i_ => [0,1,0,1,0,1,0,1,0,0,0,0,0].getD i_ 0) (ss := []) (l := [0,1,2,3,4,5,6,7,8,9,10,11,12]) (f0 := fun _ => undef) (A := ?A1) 13 rfl rfl (by decide +kernel) (by decide +kernel) ?_ ?_ ⟨?_,?_,?_,?_,?_,?_,?_,?_,?_,?_,?_,?_,?_,trivial⟩ ?_ ?_
    rotate_left
    ·exact KL.drew (KL.over (KL.new (g := w.heap.size) (KL.nil w) rfl _ _) hb1)
    ·exact fun _ _ _ _ => trivial
    ·intro o W _
     show wpOp _ _ _ 0 _ ⟨#[_,_,_,_,_,_,_,_,_,_,o 12,_,_,_,_,_,_,_,_,_,_,_,_,_,_,_,_,o 0,o 1,o 2,o 3,o 4,o 5,o 6,o 7,o 8,o 9,o 10,o 11,_,_,_,_],[]⟩ W
     refine wpOp_step rfl fun _ hK => ?_
     go_simp
     exact hK _ _ ⟨rfl,rfl⟩
    ·intro o W hj
     have hj : KL _ _ W := hj
     obtain ⟨cL,c0,c1,c2,c3,c4,c5⟩ := bl6 (KL.blk hj (.head _))
     show wpOp _ _ _ 1 _ ⟨#[_,_,_,_,_,_,_,_,_,_,o 12,_,_,_,_,_,_,_,_,_,_,_,_,_,_,_,_,.pointer (some ⟨w.heap.size,3,none⟩),o 1,o 2,o 3,o 4,o 5,o 6,o 7,o 8,o 9,o 10,o 11,_,_,_,_],[]⟩ W
     refine wpOp_step rfl fun _ hK => ?_
     go_simp
     exact hK _ _ ⟨rfl,hj⟩
    ·intro o W _
     show wpOp _ _ _ 2 _ ⟨#[_,_,_,_,_,_,_,_,_,_,o 12,_,_,_,_,_,_,_,_,_,_,_,_,_,_,_,_,o 0,o 1,o 2,o 3,o 4,o 5,o 6,o 7,o 8,o 9,o 10,o 11,_,_,_,_],[]⟩ W
     refine wpOp_step rfl fun _ hK => ?_
     go_simp
     exact hK _ _ ⟨rfl,rfl⟩
    ·intro o W hj
     have hj : KL _ _ W := hj
     show wpOp _ _ _ 3 _ ⟨#[_,_,_,_,_,_,_,_,_,_,o 12,_,_,_,_,_,_,_,_,_,_,_,_,_,_,_,_,o 0,.agg #[p,q,r],.int .i64 a,o 3,o 4,o 5,o 6,o 7,o 8,o 9,o 10,o 11,_,_,_,_],[]⟩ W
     refine wpOp_step rfl fun _ hK => ?_
     go_simp
     refine (g2 _).mono ?_
     rintro e W1 ⟨rfl,hb1⟩
     exact hK _ _ ⟨rfl,hj.over hb1⟩
    ·intro o W _
     show wpOp _ _ _ 4 _ ⟨#[_,_,_,_,_,_,_,_,_,_,o 12,_,_,_,_,_,_,_,_,_,_,_,_,_,_,_,_,o 0,o 1,o 2,o 3,o 4,o 5,o 6,o 7,o 8,o 9,o 10,o 11,_,_,_,_],[]⟩ W
     refine wpOp_step rfl fun _ hK => ?_
     go_simp
     exact hK _ _ ⟨rfl,rfl⟩
    ·intro o W hj
     have hj : KL _ _ W := hj
     obtain ⟨cL,c0,c1,c2,c3,c4,c5⟩ := bl6 (KL.blk hj (.head _))
     show wpOp _ _ _ 5 _ ⟨#[_,_,_,_,_,_,_,_,_,_,o 12,_,_,_,_,_,_,_,_,_,_,_,_,_,_,_,_,o 0,o 1,o 2,o 3,.pointer (some ⟨w.heap.size,0,none⟩),o 5,o 6,o 7,o 8,o 9,o 10,o 11,_,_,_,_],[]⟩ W
     refine wpOp_step rfl fun _ hK => ?_
     go_simp
     exact hK _ _ ⟨rfl,hj⟩
    ·intro o W _
     show wpOp _ _ _ 6 _ ⟨#[_,_,_,_,_,_,_,_,_,_,o 12,_,_,_,_,_,_,_,_,_,_,_,_,_,_,_,_,o 0,o 1,o 2,o 3,o 4,o 5,o 6,o 7,o 8,o 9,o 10,o 11,_,_,_,_],[]⟩ W
     refine wpOp_step rfl fun _ hK => ?_
     go_simp
     exact hK _ _ ⟨rfl,rfl⟩
    ·intro o W hj
     have hj : KL _ _ W := hj
     show wpOp _ _ _ 7 _ ⟨#[_,_,_,_,_,_,_,_,_,_,o 12,_,_,_,_,_,_,_,_,_,_,_,_,_,_,_,_,o 0,o 1,o 2,o 3,o 4,.agg #[x,y,z],.int .i64 a,o 7,o 8,o 9,o 10,o 11,_,_,_,_],[]⟩ W
     refine wpOp_step rfl fun _ hK => ?_
     go_simp
     refine (g1 _).mono ?_
     rintro e W1 ⟨rfl,hb1⟩
     exact hK _ _ ⟨rfl,hj.over hb1⟩
    ·intro o W _
     show wpOp _ _ _ 8 _ ⟨#[_,_,_,_,_,_,_,_,_,_,o 12,_,_,_,_,_,_,_,_,_,_,_,_,_,_,_,_,o 0,o 1,o 2,.int .i64 HI,o 4,o 5,o 6,.int .i64 LO,o 8,o 9,o 10,o 11,_,_,_,_],[]⟩ W
     refine wpOp_step rfl fun _ hK => ?_
     go_simp
     exact hK _ _ ⟨rfl,rfl⟩
    ·intro o W _
     show wpOp _ _ _ 9 _ ⟨#[_,_,_,_,_,_,_,_,_,_,o 12,_,_,_,_,_,_,_,_,_,_,_,_,_,_,_,_,o 0,o 1,o 2,o 3,o 4,o 5,o 6,o 7,o 8,o 9,o 10,o 11,_,_,_,_],[]⟩ W
     refine wpOp_step rfl fun _ hK => ?_
     go_simp
     exact hK _ _ ⟨rfl,rfl⟩
    ·intro o W _
     show wpOp _ _ _ 10 _ ⟨#[_,_,_,_,_,_,_,_,_,_,o 12,_,_,_,_,_,_,_,_,_,_,_,_,_,_,_,_,o 0,o 1,o 2,o 3,o 4,o 5,o 6,o 7,o 8,o 9,o 10,o 11,_,_,_,_],[]⟩ W
     refine wpOp_step rfl fun _ hK => ?_
     go_simp
     exact hK _ _ ⟨rfl,rfl⟩
    ·intro o W _
     show wpOp _ _ _ 11 _ ⟨#[_,_,_,_,_,_,_,_,_,_,o 12,_,_,_,_,_,_,_,_,_,_,_,_,_,_,_,_,o 0,o 1,o 2,o 3,o 4,o 5,o 6,o 7,.int .i64 (HI - LO),.int .i64 t,.int .i64 k,o 11,_,_,_,_],[]⟩ W
     refine wpOp_step rfl fun _ hK => ?_
     go_simp
     refine (hm _).mono ?_
     rintro e W1 ⟨rfl,rfl⟩
     exact hK _ _ ⟨rfl,rfl⟩
    ·intro o W _
     show wpOp _ _ _ 12 _ ⟨#[_,_,_,_,_,_,_,_,_,_,o 12,_,_,_,_,_,_,_,_,_,_,_,_,_,_,_,_,o 0,o 1,o 2,o 3,o 4,o 5,o 6,o 7,o 8,o 9,o 10,.int .i64 n,_,_,_,_],[]⟩ W
     refine wpOp_step rfl fun _ hK => ?_
     go_simp
     exact hK _ _ ⟨rfl,rfl⟩
    ·intro o hh_
     have e0 : o 0 = .pointer (some ⟨w.heap.size,3,none⟩) := hh_ 0 (by decide)
     have e1 : o 1 = .agg #[p,q,r] := hh_ 1 (by decide)
     have e2 : o 2 = .int .i64 a := hh_ 2 (by decide)
     have e3 : o 3 = .int .i64 HI := hh_ 3 (by decide)
     have e4 : o 4 = .pointer (some ⟨w.heap.size,0,none⟩) := hh_ 4 (by decide)
     have e5 : o 5 = .agg #[x,y,z] := hh_ 5 (by decide)
     have e6 : o 6 = .int .i64 a := hh_ 6 (by decide)
     have e7 : o 7 = .int .i64 LO := hh_ 7 (by decide)
     have e8 : o 8 = .int .i64 (HI - LO) := hh_ 8 (by decide)
     have e9 : o 9 = .int .i64 t := hh_ 9 (by decide)
     have e10 : o 10 = .int .i64 k := hh_ 10 (by decide)
     have e11 : o 11 = .int .i64 n := hh_ 11 (by decide)
     have e12 : o 12 = .int .i64 n := hh_ 12 (by decide)
     rw [e0,e1,e2,e3,e4,e5,e6,e7,e8,e9,e10,e11,e12]
    ·intro W hj
     have hj : KL _ _ W := hj
     obtain ⟨cL0,c0_0,c0_1,c0_2,c0_3,c0_4,c0_5⟩ := bl6 (KL.blk hj (.head _))
     have hjb := hj.1
     have hjz := hjb.size
     cases h0 : (n == 0) with
     | true =>
      have HF := Lib.hid (show csE n = 9 by simp [csE,eq_of_beq h0])
      go_wp2
      go_ret
      exact ⟨ret_int (by rw [HE.out,HF.out]),hjb⟩
     | false =>
      by_cases h9 : 1000 < n
      ·have HF := Lib.hid (show csE n = 7 by simp [csE,ne_of_beq_false h0,h9])
       go_wp2
       go_ret
       exact ⟨ret_int (by rw [HE.out,HF.out]),hjb⟩
      ·have HF := Lib.hid (show csE n = 0 by simp [csE,ne_of_beq_false h0,h9])
       go_wp2
       go_ret
       exact ⟨ret_int (by rw [HE.out,HF.out]),hjb⟩
 ·have HE := Lib.hid (show slE x y z p q r a t k = caI (eB x y z p q r) a by unfold slE; rw [if_neg h1])
  by_cases hv : eB x y z p q r = 0
  ·rw [hv] at hc HE h1
   cases ha : rgB 0 2 a
   ·rw [caI_1 ha] at HE
    have hA := fun w => rAxis_not w ha
    clear ha h1 hv
    go_enter Try.func30,Try.ntmps30
    go_wp2_with (first | (go_at_call 35; refine (hc _).mono ?_; rintro e w1 ⟨rfl,hb1⟩; obtain ⟨hc1,hf1⟩ := bcell hb1; have hz1 := hb1.size; (try simp at hz1); (try have y10 : w.heap.size < w1.heap.size := (by omega)); (try have y10p : w.heap.size < w1.heap.size + 1 := (by omega)); (try have y11 : w.heap.size + 1 < w1.heap.size := (by omega)); (try have y11p : w.heap.size + 1 < w1.heap.size + 1 := (by omega)); (try have y12 : w.heap.size + 1 + 1 < w1.heap.size := (by omega)); (try have y12p : w.heap.size + 1 + 1 < w1.heap.size + 1 := (by omega)); (try have y13 : w.heap.size + 1 + 1 + 1 < w1.heap.size := (by omega)); (try have y13p : w.heap.size + 1 + 1 + 1 < w1.heap.size + 1 := (by omega)); (try have y14 : w.heap.size + 1 + 1 + 1 + 1 < w1.heap.size := (by omega)); (try have y14p : w.heap.size + 1 + 1 + 1 + 1 < w1.heap.size + 1 := (by omega)); (try have v0x1 : w0.heap.size < w1.heap.size := (by omega)); (try have v0x1p : w0.heap.size < w1.heap.size + 1 := (by omega))) | (go_at_call 40; refine (hA _).mono ?_; rintro e w' ⟨rfl,rfl⟩))
    go_ret
    refine ⟨ret_int HE.out.symm,?_⟩
    repeat (first | with_reducible exact Below.refl _ _ | with_reducible refine Below.setCell ?_ ?_ _ | with_reducible refine Below.alloc ?_ ?_ _ | with_reducible refine Below.drew ?_ | with_reducible refine below_drewN ?_ _ | (refine Below.trans ?_ (bmono (by assumption) ?_)))
    all_goals (first | omega | (simp <;> omega))
   ·exact absurd (caI_0 ha) h1
  ·rw [caI_e hv] at HE
   generalize eB x y z p q r = f at hv hc HE ⊢
   obtain ⟨t1,t2⟩ := ne_tests hv
   clear h1 hv
   go_enter Try.func30,Try.ntmps30
   go_wp2_with (go_at_call 35; refine (hc _).mono ?_; rintro e w1 ⟨rfl,hb1⟩; obtain ⟨hc1,hf1⟩ := bcell hb1; have hz1 := hb1.size; (try simp at hz1); (try have y10 : w.heap.size < w1.heap.size := (by omega)); (try have y10p : w.heap.size < w1.heap.size + 1 := (by omega)); (try have y11 : w.heap.size + 1 < w1.heap.size := (by omega)); (try have y11p : w.heap.size + 1 < w1.heap.size + 1 := (by omega)); (try have y12 : w.heap.size + 1 + 1 < w1.heap.size := (by omega)); (try have y12p : w.heap.size + 1 + 1 < w1.heap.size + 1 := (by omega)); (try have y13 : w.heap.size + 1 + 1 + 1 < w1.heap.size := (by omega)); (try have y13p : w.heap.size + 1 + 1 + 1 < w1.heap.size + 1 := (by omega)); (try have y14 : w.heap.size + 1 + 1 + 1 + 1 < w1.heap.size := (by omega)); (try have y14p : w.heap.size + 1 + 1 + 1 + 1 < w1.heap.size + 1 := (by omega)); (try have v0x1 : w0.heap.size < w1.heap.size := (by omega)); (try have v0x1p : w0.heap.size < w1.heap.size + 1 := (by omega)))
   go_ret
   refine ⟨ret_int HE.out.symm,?_⟩
   repeat (first | with_reducible exact Below.refl _ _ | with_reducible refine Below.setCell ?_ ?_ _ | with_reducible refine Below.alloc ?_ ?_ _ | with_reducible refine Below.drew ?_ | with_reducible refine below_drewN ?_ _ | (refine Below.trans ?_ (bmono (by assumption) ?_)))
   all_goals (first | omega | (simp <;> omega))
end Go.Proofs.Ytogmgaaejepcbaa
