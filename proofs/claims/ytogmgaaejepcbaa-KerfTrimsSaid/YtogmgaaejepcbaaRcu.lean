/- The walk of the reference's Cuts. -/
import Derived.Test.YtogmgaaejepcbaaCor
import Derived.Test.YtogmgaaejepcbaaApn
import Derived.Test.YtogmgaaejepcbaaJnx
import Derived.Test.YtogmgaaejepcbaaSlm
import Derived.Test.YtogmgaaejepcbaaReg
import Derived.Test.YtogmgaaejepcbaaRgb
import Derived.Test.YtogmgaaejepcbaaSm2
import Derived.Test.YtogmgaaejepcbaaCum
namespace Go.Proofs.Ytogmgaaejepcbaa
open Go.RowKit

section
variable {Z : List (Nat × TypeId × Array Value)} {w0 : World}
theorem KL.base {w W : World} (h : KL Z w W) : KL Z W W := ⟨Below.refl _ _,h.2⟩
theorem KL.grown2 {w W W' : World} {row : Option Nat} (h : KL Z w W) (hg : W.grownBy W' row) (hr : ∀ g,row = some g → w.heap.size ≤ g) (hZ : ∀ q ∈ Z,some q.1 ≠ row) : KL Z w W' :=
 ⟨h.1.grown hg h.1.size (fun k hk => hr k hk),fun q hq => (h.2 q hq).grown hg fun e => hZ q hq e⟩
theorem wpList_append_ke {P : Program} {w : World} {ops : Array Oper} {rest : List Oper} {o : Oper} {a : Act} {Q : Exit → Act → World → Prop} (hgd : o.guard = none) (s x : Operand) (t : TypeId)
  (ho : o.op = .call { callee := .builtin .append,args := #[s,x],argTypes := #[t,t] })
  (base : Nat) (e : TypeId) (i : TypeInfo) (z : Value) (size bytes : Nat) (ht : P.underlying t = some (.slice e)) (hi : P.info? e = some i) (hz : i.zero = some z)
  (hsize : i.size = size) (hby : i.bytes = bytes) (hzs : z.cells.size = size) (hsz : 0 < size)
  (v : Value) (n : Nat) (xs : List Value) (hs : a.eval s = v) (hown : w.ownsRow base e size v n xs)
  (B : Nat) (A : Option Addr) (m c : Nat) (news : List Value) (hx : a.eval x = .slice A m c) (hr : Reads w B size A m news) (h1 : ∀ u ∈ news,u.oneCell' = true)
  (N : Nat) (ys : List Value) (hN : N = n + m) (hys : ys = xs ++ news)
  (h63 : N ≤ maxLen) (hbytes : N * bytes ≤ 140737488355328) (e0 B1 : Nat) (hat : ∀ k,v.ownBlock = some k → k = e0 ∨ B1 ≤ k) (hB1 : B1 ≤ w.heap.size) (hkl : KL Z w0 w) (hZ : ∀ q ∈ Z,q.1 ≠ e0 ∧ q.1 < B1) (hw : w0.heap.size ≤ base) (hbase : base ≤ w.heap.size)
  (h : ∀ A' c' w',w'.ownsRow base e size (.slice A' N c') N ys → (∀ k,(Value.slice A' N c').ownBlock = some k → k = e0 ∨ B1 ≤ k) → KL Z w0 w' → w.heap.size ≤ w'.heap.size → wpList P ops Q rest (a.put o.dst (.slice A' N c')) w') : wpList P ops Q (o :: rest) a w := by
 subst hN hys
 refine wpList_append_any w hgd s x t ho base e i z size bytes ht hi hz hsize hby hzs hsz v n xs hs hown B A m c news hx hr h1 h63 hbytes hbase ?_
 intro v' w' hown' hg hv
 obtain ⟨A',c',rfl,hr'⟩ := own_slice hown'
 refine h A' c' w' hown' (fun k hk => ?_) (hkl.grown2 hg (fun k hk => Nat.le_trans hw (hown.lt k hk).1) fun q hq hc => ?_) hg.size
 ·rcases hv with hv | hv
  ·exact hat k (hv ▸ hk)
  ·rw [hv] at hk; injection hk with hk; subst hk; exact .inr hB1
 ·have h2 := hat _ hc.symm
  have h3 := hZ q hq
  omega
end
end Go.Proofs.Ytogmgaaejepcbaa

namespace Go.Proofs.Ytogmgaaejepcbaa
open Go.RowKit

def pt (j v k n : Int) : Int := if k = j then n else v
theorem put_n {k : Int} (hk : rgB 0 2 k = true) (x y z n : Int) (w : World) : Calls Try.prog 47 #[.agg #[x,y,z],.int .i64 k,.int .i64 n] w fun e w' => e = .returned (.agg #[.int .i64 (pt 0 x k n),.int .i64 (pt 1 y k n),.int .i64 (pt 2 z k n)]) ∧ Below w.heap.size w w' := by
 rcases ax3 hk with rfl | rfl | rfl
 ·exact put0 x y z n w
 ·exact put1 x y z n w
 ·exact put2 x y z n w
def rsV (x y z p q r a t k : Int) (i : Nat) : List Value := [.int .i64 (pt 0 x a (frm (gt3 x y z a) (t + k) i)),.int .i64 (pt 1 y a (frm (gt3 x y z a) (t + k) i)),.int .i64 (pt 2 z a (frm (gt3 x y z a) (t + k) i)),.int .i64 (pt 0 p a (frm (gt3 x y z a) (t + k) i + t)),.int .i64 (pt 1 q a (frm (gt3 x y z a) (t + k) i + t)),.int .i64 (pt 2 r a (frm (gt3 x y z a) (t + k) i + t))]
theorem rsV_len (x y z p q r a t k : Int) (i : Nat) : (rsV x y z p q r a t k i).length = 6 := rfl
theorem rsV_one (x y z p q r a t k : Int) (i : Nat) : ∀ u ∈ rsV x y z p q r a t k i,u.oneCell' = true := by
 intro u hu; simp only [rsV,List.mem_cons,List.not_mem_nil,or_false] at hu; rcases hu with rfl | rfl | rfl | rfl | rfl | rfl <;> rfl
def rsR (x y z p q r a t k : Int) (N : Nat) : List Value := if gt3 p q r a ≤ frm (gt3 x y z a) (t + k) N then [.int .i64 0,.int .i64 0,.int .i64 0,.int .i64 0,.int .i64 0,.int .i64 0] else [.int .i64 (pt 0 x a (frm (gt3 x y z a) (t + k) N)),.int .i64 (pt 1 y a (frm (gt3 x y z a) (t + k) N)),.int .i64 (pt 2 z a (frm (gt3 x y z a) (t + k) N)),.int .i64 p,.int .i64 q,.int .i64 r]
theorem rsV_0 (x y z p q r t k : Int) : rsV x y z p q r 0 t k = slV0 x y z p q r t k := by funext i; simp [rsV,slV0,pt,gt3]
theorem rsV_1 (x y z p q r t k : Int) : rsV x y z p q r 1 t k = slV1 x y z p q r t k := by funext i; simp [rsV,slV1,pt,gt3]
theorem rsV_2 (x y z p q r t k : Int) : rsV x y z p q r 2 t k = slV2 x y z p q r t k := by funext i; simp [rsV,slV2,pt,gt3]
def RsRes (x y z p q r a t k : Int) (N : Nat) (w : World) (e : Ending) (w' : World) : Prop :=
 ∃ g c cur,e = .returned (.tuple #[.slice (some ⟨g,0,none⟩) N c,.agg (rsR x y z p q r a t k N).toArray]) ∧ w.heap.size ≤ g ∧ (rowTo (rsV x y z p q r a t k) N).length = N * 6 ∧ Blk w' g 25 cur ∧ cur.toList.take (N * 6) = rowTo (rsV x y z p q r a t k) N ∧ Below w.heap.size w w'
set_option maxHeartbeats 16000000 in
set_option maxRecDepth 100000 in
theorem rSlices_ok (x y z p q r a t k : Int) (N : Nat) (hv : eB x y z p q r = 0) (ha : rgB 0 2 a = true) (ht : rgB 1 2000000 t = true) (hk : rgB 0 1000 k = true) (hn : (gt3 p q r a - gt3 x y z a + k) / (t + k) = (N : Int)) (hN0 : 0 < N) (hN : N ≤ 1000) (w : World) :
  Calls Try.prog 31 #[.agg #[x,y,z,p,q,r],.int .i64 a,.int .i64 t,.int .i64 k] w (RsRes x y z p q r a t k N w) := by
 have g1 := get_k ha x y z
 have g2 := get_k ha p q r
 have pn := fun x y z n w => put_n ha x y z n w
 have i2 := rgB_iff.1 ht
 have i3 := rgB_iff.1 hk
 have bd : 1 ≤ gt3 p q r a - gt3 x y z a ∧ gt3 p q r a - gt3 x y z a ≤ 2000000 ∧ -1000000 ≤ gt3 x y z a ∧ gt3 x y z a ≤ 1000000 := by
  obtain ⟨⟨a1,a2,a3⟩,⟨a4,a5,a6⟩,⟨a7,a8,a9⟩⟩ := eB_bd hv
  rcases ax3 ha with rfl | rfl | rfl <;> simp [gt3] <;> omega
 obtain ⟨bd1,bd2,bd3,bd4⟩ := bd
 generalize hL0 : gt3 x y z a = LO at *
 generalize hH0 : gt3 p q r a = HI at *
 have hLOe := Lib.hid hL0
 have hHIe := Lib.hid hH0
 have hm := fun w => rMost_any (HI - LO) t k (by omega) (by omega) i2.1 i2.2 i3.1 i3.2 w
 rw [hn] at hm
 have hw : IntKind.i64.wrap (HI - LO) = HI - LO := IntWalk.i64_in _ (by omega)
 obtain ⟨i2a,i2b⟩ := i2
 obtain ⟨i3a,i3b⟩ := i3
 clear hL0 hH0 hv ha ht hk hn
 obtain ⟨i0,in0,in1,in2,in3⟩ := info_parts info25
 go_enter Try.func31,Try.ntmps31
 go_wp2
 refine wp_region_any (by kernel_rfl) ?_
 try (change wpAny _ _ _ _ _ _ _ (World.drew _))
 refine wpAny_vals (fr := fun o => #[.agg #[x,y,z,p,q,r],.int .i64 a,.int .i64 t,.int .i64 k,.pointer (some ⟨w.heap.size,0,none⟩),undef,undef,undef,.slice none 0 0,.pointer (some ⟨(w.heap.size + 1),0,none⟩),.slice (some ⟨(w.heap.size + 1 + 1),0,none⟩) 0 0,o 12,undef,undef,undef,undef,.slice (some ⟨(w.heap.size + 1 + 1),0,none⟩) 0 0,o 0,o 1,o 2,o 3,o 4,o 5,o 6,o 7,o 8,o 9,o 10,o 11,undef,undef,undef,undef,undef,undef,undef,undef,undef,undef,undef,undef,undef,undef,undef,undef,undef,undef,undef,undef,undef,undef,undef,undef,undef,undef,undef,undef,undef,undef,undef,undef,undef,undef,undef,undef,undef,undef,undef,undef,undef,undef,undef,undef,undef,undef,undef,undef,undef]) (vals := fun i_ => ([.pointer (some ⟨w.heap.size,3,none⟩),.agg #[p,q,r],.int .i64 a,.int .i64 HI,.pointer (some ⟨w.heap.size,0,none⟩),.agg #[x,y,z],.int .i64 a,.int .i64 LO,.int .i64 (HI - LO),.int .i64 t,.int .i64 k,.int .i64 ((N : Int)),.int .i64 ((N : Int))] : List Value).getD i_ undef) (Kf := fun _ => True) (K := fun kk_ => ([(KL [((w.heap.size + 1 + 1),25,#[]),((w.heap.size + 1),25,#[.int .i64 0,.int .i64 0,.int .i64 0,.int .i64 0,.int .i64 0,.int .i64 0]),(w.heap.size,25,#[x,y,z,p,q,r])] w)] : List (World → Prop)).getD kk_ (fun _ => True)) (dep := fun i_ => [[],[0],[],[1,2],[],[4],[],[5,6],[3,7],[],[],[8,9,10],[11]].getD i_ []) (dv := fun i_ => [[],[0],[],[1,2],[],[4],[],[5,6],[3,7],[],[],[8,9,10],[11]].getD i_ []) (kd := fun i_ => [0,1,0,1,0,1,0,1,0,0,0,0,0].getD i_ 0) (ss := []) (l := [0,1,2,3,4,5,6,7,8,9,10,11,12]) (f0 := fun _ => undef) (A := ?A4) 13 rfl rfl (by decide +kernel) (by decide +kernel) ?_ ?_ ⟨?_,?_,?_,?_,?_,?_,?_,?_,?_,?_,?_,?_,?_,trivial⟩ ?_ ?_
 rotate_left
 ·exact KL.drew (KL.new (g := (w.heap.size + 1 + 1)) (KL.new (g := (w.heap.size + 1)) (KL.new (g := w.heap.size) (KL.nil w) rfl _ _) (by simp) _ _) (by simp) _ _)
 ·exact fun _ _ _ _ => trivial
 ·intro o W _
  show wpOp _ _ _ 0 _ ⟨⟨_::_::_::_::_::_::_::_::_::_::_::o 12::_::_::_::_::_::o 0::o 1::o 2::o 3::o 4::o 5::o 6::o 7::o 8::o 9::o 10::o 11::_⟩,[]⟩ W
  refine wpOp_step rfl fun _ hK => ?_
  go_simp
  exact hK _ _ ⟨rfl,rfl⟩
 ·intro o W hj
  have hj : KL _ _ W := hj
  obtain ⟨cL,c0,c1,c2,c3,c4,c5⟩ := bl6 (KL.blk hj (.tail _ (.tail _ (.head _))))
  show wpOp _ _ _ 1 _ ⟨⟨_::_::_::_::_::_::_::_::_::_::_::o 12::_::_::_::_::_::.pointer (some ⟨w.heap.size,3,none⟩)::o 1::o 2::o 3::o 4::o 5::o 6::o 7::o 8::o 9::o 10::o 11::_⟩,[]⟩ W
  refine wpOp_step rfl fun _ hK => ?_
  go_simp
  exact hK _ _ ⟨rfl,hj⟩
 ·intro o W _
  show wpOp _ _ _ 2 _ ⟨⟨_::_::_::_::_::_::_::_::_::_::_::o 12::_::_::_::_::_::o 0::o 1::o 2::o 3::o 4::o 5::o 6::o 7::o 8::o 9::o 10::o 11::_⟩,[]⟩ W
  refine wpOp_step rfl fun _ hK => ?_
  go_simp
  exact hK _ _ ⟨rfl,rfl⟩
 ·intro o W hj
  have hj : KL _ _ W := hj
  show wpOp _ _ _ 3 _ ⟨⟨_::_::_::_::_::_::_::_::_::_::_::o 12::_::_::_::_::_::o 0::.agg #[p,q,r]::.int .i64 a::o 3::o 4::o 5::o 6::o 7::o 8::o 9::o 10::o 11::_⟩,[]⟩ W
  refine wpOp_step rfl fun _ hK => ?_
  go_simp
  refine (g2 _).mono ?_
  rintro e W1 ⟨rfl,hb1⟩
  exact hK _ _ ⟨rfl,hj.over hb1⟩
 ·intro o W _
  show wpOp _ _ _ 4 _ ⟨⟨_::_::_::_::_::_::_::_::_::_::_::o 12::_::_::_::_::_::o 0::o 1::o 2::o 3::o 4::o 5::o 6::o 7::o 8::o 9::o 10::o 11::_⟩,[]⟩ W
  refine wpOp_step rfl fun _ hK => ?_
  go_simp
  exact hK _ _ ⟨rfl,rfl⟩
 ·intro o W hj
  have hj : KL _ _ W := hj
  obtain ⟨cL,c0,c1,c2,c3,c4,c5⟩ := bl6 (KL.blk hj (.tail _ (.tail _ (.head _))))
  show wpOp _ _ _ 5 _ ⟨⟨_::_::_::_::_::_::_::_::_::_::_::o 12::_::_::_::_::_::o 0::o 1::o 2::o 3::.pointer (some ⟨w.heap.size,0,none⟩)::o 5::o 6::o 7::o 8::o 9::o 10::o 11::_⟩,[]⟩ W
  refine wpOp_step rfl fun _ hK => ?_
  go_simp
  exact hK _ _ ⟨rfl,hj⟩
 ·intro o W _
  show wpOp _ _ _ 6 _ ⟨⟨_::_::_::_::_::_::_::_::_::_::_::o 12::_::_::_::_::_::o 0::o 1::o 2::o 3::o 4::o 5::o 6::o 7::o 8::o 9::o 10::o 11::_⟩,[]⟩ W
  refine wpOp_step rfl fun _ hK => ?_
  go_simp
  exact hK _ _ ⟨rfl,rfl⟩
 ·intro o W hj
  have hj : KL _ _ W := hj
  show wpOp _ _ _ 7 _ ⟨⟨_::_::_::_::_::_::_::_::_::_::_::o 12::_::_::_::_::_::o 0::o 1::o 2::o 3::o 4::.agg #[x,y,z]::.int .i64 a::o 7::o 8::o 9::o 10::o 11::_⟩,[]⟩ W
  refine wpOp_step rfl fun _ hK => ?_
  go_simp
  refine (g1 _).mono ?_
  rintro e W1 ⟨rfl,hb1⟩
  exact hK _ _ ⟨rfl,hj.over hb1⟩
 ·intro o W _
  show wpOp _ _ _ 8 _ ⟨⟨_::_::_::_::_::_::_::_::_::_::_::o 12::_::_::_::_::_::o 0::o 1::o 2::.int .i64 HI::o 4::o 5::o 6::.int .i64 LO::o 8::o 9::o 10::o 11::_⟩,[]⟩ W
  refine wpOp_step rfl fun _ hK => ?_
  go_simp
  exact hK _ _ ⟨rfl,rfl⟩
 ·intro o W _
  show wpOp _ _ _ 9 _ ⟨⟨_::_::_::_::_::_::_::_::_::_::_::o 12::_::_::_::_::_::o 0::o 1::o 2::o 3::o 4::o 5::o 6::o 7::o 8::o 9::o 10::o 11::_⟩,[]⟩ W
  refine wpOp_step rfl fun _ hK => ?_
  go_simp
  exact hK _ _ ⟨rfl,rfl⟩
 ·intro o W _
  show wpOp _ _ _ 10 _ ⟨⟨_::_::_::_::_::_::_::_::_::_::_::o 12::_::_::_::_::_::o 0::o 1::o 2::o 3::o 4::o 5::o 6::o 7::o 8::o 9::o 10::o 11::_⟩,[]⟩ W
  refine wpOp_step rfl fun _ hK => ?_
  go_simp
  exact hK _ _ ⟨rfl,rfl⟩
 ·intro o W _
  show wpOp _ _ _ 11 _ ⟨⟨_::_::_::_::_::_::_::_::_::_::_::o 12::_::_::_::_::_::o 0::o 1::o 2::o 3::o 4::o 5::o 6::o 7::.int .i64 (HI - LO)::.int .i64 t::.int .i64 k::o 11::_⟩,[]⟩ W
  refine wpOp_step rfl fun _ hK => ?_
  go_simp
  refine (hm _).mono ?_
  rintro e W1 ⟨rfl,rfl⟩
  exact hK _ _ ⟨rfl,rfl⟩
 ·intro o W _
  show wpOp _ _ _ 12 _ ⟨⟨_::_::_::_::_::_::_::_::_::_::_::o 12::_::_::_::_::_::o 0::o 1::o 2::o 3::o 4::o 5::o 6::o 7::o 8::o 9::o 10::.int .i64 ((N : Int))::_⟩,[]⟩ W
  refine wpOp_step rfl fun _ hK => ?_
  go_simp
  exact hK _ _ ⟨rfl,rfl⟩
 ·intro o hh_
  have e0 : o 0 = .pointer (some ⟨w.heap.size,3,none⟩) := hh_ 0 (by decide)
  have e1 : o 1 = .agg #[p,q,r] := hh_ 1 (by decide)
  have e2 : o 2 = .int .i64 a := hh_ 2 (by decide)
  have e3 : o 3 = .int .i64 HI := hh_ 3 (by decide)
  have e4 : o 4 = .pointer (some ⟨w.heap.size,0,none⟩) := hh_ 4 (by decide)
  have e5 : o 5 = .agg #[x,y,z] := hh_ 5 (by decide)
  have e6 : o 6 = .int .i64 a := hh_ 6 (by decide)
  have e7 : o 7 = .int .i64 LO := hh_ 7 (by decide)
  have e8 : o 8 = .int .i64 (HI - LO) := hh_ 8 (by decide)
  have e9 : o 9 = .int .i64 t := hh_ 9 (by decide)
  have e10 : o 10 = .int .i64 k := hh_ 10 (by decide)
  have e11 : o 11 = .int .i64 ((N : Int)) := hh_ 11 (by decide)
  have e12 : o 12 = .int .i64 ((N : Int)) := hh_ 12 (by decide)
  rw [e0,e1,e2,e3,e4,e5,e6,e7,e8,e9,e10,e11,e12]
 ·intro W2 h2
  have h2 : KL _ _ W2 := h2
  have bL0 := (KL.blk h2 (.head _)).lt
  obtain ⟨bL1,b1_0,b1_1,b1_2,b1_3,b1_4,b1_5⟩ := bl6 (KL.blk h2 (.tail _ (.head _)))
  have bF1 := (KL.blk h2 (.tail _ (.head _))).frozen
  obtain ⟨bL2,b2_0,b2_1,b2_2,b2_3,b2_4,b2_5⟩ := bl6 (KL.blk h2 (.tail _ (.tail _ (.head _))))
  have hjb := h2.1
  have hjz := hjb.size
  have hown0 : W2.ownsRow (w.heap.size + 1 + 1) 25 6 (.slice (some ⟨(w.heap.size + 1 + 1),0,none⟩) 0 0) 0 (rowTo (rsV x y z p q r a t k) 0) := ⟨rfl,.inr ⟨_,0,#[],rfl,Nat.le_refl _,KL.blk h2 (.head _),Nat.le_refl _,Nat.zero_le _,rfl,rfl⟩⟩
  go_wp2_with (go_at_call 41; refine (g1 _).mono ?_; rintro e w3 ⟨rfl,hb3⟩; obtain ⟨hc3,hf3⟩ := bcell hb3; have hz3 := hb3.size; (try simp at hz3); (try have y30 : w.heap.size < w3.heap.size := (by omega)); (try have y30p : w.heap.size < w3.heap.size + 1 := (by omega)); (try have y31 : w.heap.size + 1 < w3.heap.size := (by omega)); (try have y31p : w.heap.size + 1 < w3.heap.size + 1 := (by omega)); (try have y32 : w.heap.size + 1 + 1 < w3.heap.size := (by omega)); (try have y32p : w.heap.size + 1 + 1 < w3.heap.size + 1 := (by omega)); (try have y33 : w.heap.size + 1 + 1 + 1 < w3.heap.size := (by omega)); (try have y33p : w.heap.size + 1 + 1 + 1 < w3.heap.size + 1 := (by omega)); (try have y34 : w.heap.size + 1 + 1 + 1 + 1 < w3.heap.size := (by omega)); (try have y34p : w.heap.size + 1 + 1 + 1 + 1 < w3.heap.size + 1 := (by omega)); (try have v0x3 : w0.heap.size < w3.heap.size := (by omega)); (try have v0x3p : w0.heap.size < w3.heap.size + 1 := (by omega)); (try have v1x3 : w1.heap.size < w3.heap.size := (by omega)); (try have v1x3p : w1.heap.size < w3.heap.size + 1 := (by omega)); (try have v2x3 : w2.heap.size < w3.heap.size := (by omega)); (try have v2x3p : w2.heap.size < w3.heap.size + 1 := (by omega)))
  have hjS := (KL.part (Y := [((w.heap.size + 1),25,#[.int .i64 0,.int .i64 0,.int .i64 0,.int .i64 0,.int .i64 0,.int .i64 0]),(w.heap.size,25,#[x,y,z,p,q,r])]) h2 (fun p_ hp_ => .tail _ hp_)).over hb3
  have hownS := own_below hown0 hb3
  go_loopw [10,12,13] (fun v f i wr => ∃ (n : Nat) (A : Option Addr) (c : Nat),n ≤ N ∧ v = .slice A n c ∧ f = .int .i64 (frm LO (t + k) n) ∧ i = .int .i64 n ∧ wr.ownsRow (w.heap.size + 1 + 1) 25 6 (.slice A n c) n (rowTo (rsV x y z p q r a t k) n) ∧ KL [((w.heap.size + 1),25,#[.int .i64 0,.int .i64 0,.int .i64 0,.int .i64 0,.int .i64 0,.int .i64 0]),(w.heap.size,25,#[x,y,z,p,q,r])] w wr) (fun _ _ i _ => N - (intOf i).toNat)
  case atStart => exact ⟨0,_,0,by omega,rfl,by rw [frm_zero],rfl,hownS,hjS⟩
  case round =>
   clear hjS hownS hown0
   obtain ⟨n,A,c,hnN,rfl,rfl,rfl,hown,hj⟩ := hrel
   have hfb := frm_bd (lo := LO) (st := t + k) (k := n) (by omega) (by omega) (by omega) (by omega) (by omega)
   obtain ⟨cL0,c0_0,c0_1,c0_2,c0_3,c0_4,c0_5⟩ := bl6 (KL.blk hj (.head _))
   have cF0 := (KL.blk hj (.head _)).frozen
   obtain ⟨cL1,c1_0,c1_1,c1_2,c1_3,c1_4,c1_5⟩ := bl6 (KL.blk hj (.tail _ (.head _)))
   have hsz := hj.1.size
   by_cases hlt : n < N
   ·have hfs := Lib.hid (frm_succ LO (t + k) n)
    have hfx := frm_bd (lo := LO) (st := t + k) (k := n + 1) (by omega) (by omega) (by omega) (by omega) (by omega)
    have hfx' : frm LO (t + k) n + (t + k) ≤ 3000000000 ∧ -1000000 ≤ frm LO (t + k) n + (t + k) := by rw [← hfs.out]; omega
    clear hfx
    have hmk : rowTo (rsV x y z p q r a t k) (n + 1) = rowTo (rsV x y z p q r a t k) n ++ rsV x y z p q r a t k n := rowTo_succ _ _
    have HMK := Lib.hid hmk
    clear hmk
    have hsv0 : rsV x y z p q r a t k n = [.int .i64 (pt 0 x a (frm LO (t + k) n)),.int .i64 (pt 1 y a (frm LO (t + k) n)),.int .i64 (pt 2 z a (frm LO (t + k) n)),.int .i64 (pt 0 p a (frm LO (t + k) n + t)),.int .i64 (pt 1 q a (frm LO (t + k) n + t)),.int .i64 (pt 2 r a (frm LO (t + k) n + t))] := by unfold rsV; rw [hLOe.out]
    have hsv := Lib.hid hsv0
    clear hsv0
    generalize frm LO (t + k) n = F at *
    have x1 : IntKind.i64.wrap (F + t) = F + t := IntWalk.i64_in _ (by omega)
    go_wp2
    refine wp_region_any (by kernel_rfl) ?_
    try (change wpAny _ _ _ _ _ _ _ (World.drew _))
    refine wpAny_vals (fr := fun o => #[.agg #[x,y,z,p,q,r],.int .i64 a,.int .i64 t,.int .i64 k,.pointer (some ⟨w.heap.size,0,none⟩),undef,undef,undef,.slice none 0 0,.pointer (some ⟨(w.heap.size + 1),0,none⟩),.slice A n c,.int .i64 ((N : Int)),.int .i64 F,.int .i64 ((n : Int)),.pointer (some ⟨wr.heap.size,0,none⟩),undef,.slice (some ⟨(w.heap.size + 1 + 1),0,none⟩) 0 0,.pointer (some ⟨w.heap.size,3,none⟩),.agg #[p,q,r],.int .i64 a,.int .i64 HI,.pointer (some ⟨w.heap.size,0,none⟩),.agg #[x,y,z],.int .i64 a,.int .i64 LO,.int .i64 (HI - LO),.int .i64 t,.int .i64 k,.int .i64 ((N : Int)),.pointer (some ⟨w.heap.size,0,none⟩),.agg #[x,y,z],.int .i64 a,.int .i64 LO,.int .i64 ((n : Int)),.int .i64 ((N : Int)),.bool true,u36,u37,.agg #[x,y,z,p,q,r],o 0,o 1,o 2,o 3,o 4,o 5,o 6,o 7,o 8,o 9,o 10,o 11,o 12,o 14,u53,u54,u55,u56,u57,u58,u59,u60,u61,undef,undef,undef,undef,undef,undef,undef,undef,undef,undef,undef,undef,undef,undef,undef,undef]) (vals := fun i_ => ([.pointer (some ⟨w.heap.size,0,none⟩),.agg #[x,y,z],.int .i64 a,.int .i64 F,.agg #[.int .i64 (pt 0 x a (F)),.int .i64 (pt 1 y a (F)),.int .i64 (pt 2 z a (F))],.pointer (some ⟨w.heap.size,3,none⟩),.agg #[p,q,r],.int .i64 a,.int .i64 F,.int .i64 t,.int .i64 (F + t),.agg #[.int .i64 (pt 0 p a (F + t)),.int .i64 (pt 1 q a (F + t)),.int .i64 (pt 2 r a (F + t))],.pointer (some ⟨wr.heap.size,0,none⟩),undef,.pointer (some ⟨wr.heap.size,3,none⟩),undef] : List Value).getD i_ undef) (Kf := fun W_ => KL [((w.heap.size + 1),25,#[.int .i64 0,.int .i64 0,.int .i64 0,.int .i64 0,.int .i64 0,.int .i64 0]),(w.heap.size,25,#[x,y,z,p,q,r])] wr W_) (K := fun kk_ => ([(KL [(wr.heap.size,25,#[x,y,z,p,q,r]),((w.heap.size + 1),25,#[.int .i64 0,.int .i64 0,.int .i64 0,.int .i64 0,.int .i64 0,.int .i64 0]),(w.heap.size,25,#[x,y,z,p,q,r])] wr),(KL [(wr.heap.size,25,#[.int .i64 (pt 0 x a (F)),.int .i64 (pt 1 y a (F)),.int .i64 (pt 2 z a (F)),.int .i64 p,.int .i64 q,.int .i64 r]),((w.heap.size + 1),25,#[.int .i64 0,.int .i64 0,.int .i64 0,.int .i64 0,.int .i64 0,.int .i64 0]),(w.heap.size,25,#[x,y,z,p,q,r])] wr),(KL [(wr.heap.size,25,#[.int .i64 (pt 0 x a (F)),.int .i64 (pt 1 y a (F)),.int .i64 (pt 2 z a (F)),.int .i64 (pt 0 p a (F + t)),.int .i64 (pt 1 q a (F + t)),.int .i64 (pt 2 r a (F + t))]),((w.heap.size + 1),25,#[.int .i64 0,.int .i64 0,.int .i64 0,.int .i64 0,.int .i64 0,.int .i64 0]),(w.heap.size,25,#[x,y,z,p,q,r])] wr)] : List (World → Prop)).getD kk_ (fun _ => True)) (dep := fun i_ => [[],[0],[],[],[1,2,3],[],[5],[],[],[],[8,9],[6,7,10],[],[1,4,11,12],[],[11,13,14]].getD i_ []) (dv := fun i_ => [[],[0],[],[],[1,2,3],[],[5],[],[],[],[8,9],[6,7,10],[],[4,12],[],[11,14]].getD i_ []) (kd := fun i_ => [0,1,0,0,1,0,0,0,0,0,0,1,0,2,0,3].getD i_ 0) (ss := [13,15]) (l := [0,1,2,3,4,5,6,7,8,9,10,11,12,13,14,15]) (f0 := fun i_ => ([u39,u40,u41,u42,u43,u44,u45,u46,u47,u48,u49,u50,u51,undef,u52,undef] : List Value).getD i_ undef) (A := ?A1) 16 rfl rfl (by decide +kernel) (by decide +kernel) ?_ ?_ ⟨?_,?_,?_,?_,?_,?_,?_,?_,?_,?_,?_,?_,?_,?_,?_,?_,trivial⟩ ?_ ?_
    rotate_left
    ·exact KL.drew (KL.new (g := wr.heap.size) hj.base rfl _ _)
    ·intro t_ W ht_ hh_
     rcases t_ with _ | _ | _ | _
     ·exact KL.part hh_ (fun p_ hp_ => by simp only [List.mem_cons,List.not_mem_nil,or_false] at hp_; rcases hp_ with rfl | rfl; exact (.tail _ (.head _)); exact (.tail _ (.tail _ (.head _))))
     ·exact KL.part hh_ (fun p_ hp_ => by simp only [List.mem_cons,List.not_mem_nil,or_false] at hp_; rcases hp_ with rfl | rfl; exact (.tail _ (.head _)); exact (.tail _ (.tail _ (.head _))))
     ·exact KL.part hh_ (fun p_ hp_ => by simp only [List.mem_cons,List.not_mem_nil,or_false] at hp_; rcases hp_ with rfl | rfl; exact (.tail _ (.head _)); exact (.tail _ (.tail _ (.head _))))
     ·exact absurd ht_ (by simp)
    ·intro o W _
     show wpOp _ _ _ 0 _ ⟨#[_,_,_,_,_,_,_,_,_,_,_,_,_,_,_,_,_,_,_,_,_,_,_,_,_,_,_,_,_,_,_,_,_,_,_,_,_,_,_,o 0,o 1,o 2,o 3,o 4,o 5,o 6,o 7,o 8,o 9,o 10,o 11,o 12,o 14,_,_,_,_,_,_,_,_,_,_,_,_,_,_,_,_,_,_,_,_,_,_,_,_,_],[]⟩ W
     refine wpOp_step rfl fun _ hK => ?_
     go_simp
     exact hK _ _ ⟨rfl,rfl⟩
    ·intro o W hj
     have hj : KL _ _ W := hj
     obtain ⟨cL,c0,c1,c2,c3,c4,c5⟩ := bl6 (KL.blk hj (.tail _ (.tail _ (.head _))))
     show wpOp _ _ _ 1 _ ⟨#[_,_,_,_,_,_,_,_,_,_,_,_,_,_,_,_,_,_,_,_,_,_,_,_,_,_,_,_,_,_,_,_,_,_,_,_,_,_,_,.pointer (some ⟨w.heap.size,0,none⟩),o 1,o 2,o 3,o 4,o 5,o 6,o 7,o 8,o 9,o 10,o 11,o 12,o 14,_,_,_,_,_,_,_,_,_,_,_,_,_,_,_,_,_,_,_,_,_,_,_,_,_],[]⟩ W
     refine wpOp_step rfl fun _ hK => ?_
     go_simp
     exact hK _ _ ⟨rfl,hj⟩
    ·intro o W _
     show wpOp _ _ _ 2 _ ⟨#[_,_,_,_,_,_,_,_,_,_,_,_,_,_,_,_,_,_,_,_,_,_,_,_,_,_,_,_,_,_,_,_,_,_,_,_,_,_,_,o 0,o 1,o 2,o 3,o 4,o 5,o 6,o 7,o 8,o 9,o 10,o 11,o 12,o 14,_,_,_,_,_,_,_,_,_,_,_,_,_,_,_,_,_,_,_,_,_,_,_,_,_],[]⟩ W
     refine wpOp_step rfl fun _ hK => ?_
     go_simp
     exact hK _ _ ⟨rfl,rfl⟩
    ·intro o W _
     show wpOp _ _ _ 3 _ ⟨#[_,_,_,_,_,_,_,_,_,_,_,_,_,_,_,_,_,_,_,_,_,_,_,_,_,_,_,_,_,_,_,_,_,_,_,_,_,_,_,o 0,o 1,o 2,o 3,o 4,o 5,o 6,o 7,o 8,o 9,o 10,o 11,o 12,o 14,_,_,_,_,_,_,_,_,_,_,_,_,_,_,_,_,_,_,_,_,_,_,_,_,_],[]⟩ W
     refine wpOp_step rfl fun _ hK => ?_
     go_simp
     exact hK _ _ ⟨rfl,rfl⟩
    ·intro o W hj
     have hj : KL _ _ W := hj
     show wpOp _ _ _ 4 _ ⟨#[_,_,_,_,_,_,_,_,_,_,_,_,_,_,_,_,_,_,_,_,_,_,_,_,_,_,_,_,_,_,_,_,_,_,_,_,_,_,_,o 0,.agg #[x,y,z],.int .i64 a,.int .i64 F,o 4,o 5,o 6,o 7,o 8,o 9,o 10,o 11,o 12,o 14,_,_,_,_,_,_,_,_,_,_,_,_,_,_,_,_,_,_,_,_,_,_,_,_,_],[]⟩ W
     refine wpOp_step rfl fun _ hK => ?_
     go_simp
     refine (pn _ _ _ _ _).mono ?_
     rintro e W1 ⟨rfl,hb1⟩
     exact hK _ _ ⟨rfl,hj.over hb1⟩
    ·intro o W _
     show wpOp _ _ _ 5 _ ⟨#[_,_,_,_,_,_,_,_,_,_,_,_,_,_,_,_,_,_,_,_,_,_,_,_,_,_,_,_,_,_,_,_,_,_,_,_,_,_,_,o 0,o 1,o 2,o 3,o 4,o 5,o 6,o 7,o 8,o 9,o 10,o 11,o 12,o 14,_,_,_,_,_,_,_,_,_,_,_,_,_,_,_,_,_,_,_,_,_,_,_,_,_],[]⟩ W
     refine wpOp_step rfl fun _ hK => ?_
     go_simp
     exact hK _ _ ⟨rfl,rfl⟩
    ·intro o W hj
     have hj : KL _ _ W := hj
     obtain ⟨cL,c0,c1,c2,c3,c4,c5⟩ := bl6 (KL.blk hj (.tail _ (.head _)))
     show wpOp _ _ _ 6 _ ⟨#[_,_,_,_,_,_,_,_,_,_,_,_,_,_,_,_,_,_,_,_,_,_,_,_,_,_,_,_,_,_,_,_,_,_,_,_,_,_,_,o 0,o 1,o 2,o 3,o 4,.pointer (some ⟨w.heap.size,3,none⟩),o 6,o 7,o 8,o 9,o 10,o 11,o 12,o 14,_,_,_,_,_,_,_,_,_,_,_,_,_,_,_,_,_,_,_,_,_,_,_,_,_],[]⟩ W
     refine wpOp_step rfl fun _ hK => ?_
     go_simp
     exact hK _ _ ⟨rfl,rfl⟩
    ·intro o W _
     show wpOp _ _ _ 7 _ ⟨#[_,_,_,_,_,_,_,_,_,_,_,_,_,_,_,_,_,_,_,_,_,_,_,_,_,_,_,_,_,_,_,_,_,_,_,_,_,_,_,o 0,o 1,o 2,o 3,o 4,o 5,o 6,o 7,o 8,o 9,o 10,o 11,o 12,o 14,_,_,_,_,_,_,_,_,_,_,_,_,_,_,_,_,_,_,_,_,_,_,_,_,_],[]⟩ W
     refine wpOp_step rfl fun _ hK => ?_
     go_simp
     exact hK _ _ ⟨rfl,rfl⟩
    ·intro o W _
     show wpOp _ _ _ 8 _ ⟨#[_,_,_,_,_,_,_,_,_,_,_,_,_,_,_,_,_,_,_,_,_,_,_,_,_,_,_,_,_,_,_,_,_,_,_,_,_,_,_,o 0,o 1,o 2,o 3,o 4,o 5,o 6,o 7,o 8,o 9,o 10,o 11,o 12,o 14,_,_,_,_,_,_,_,_,_,_,_,_,_,_,_,_,_,_,_,_,_,_,_,_,_],[]⟩ W
     refine wpOp_step rfl fun _ hK => ?_
     go_simp
     exact hK _ _ ⟨rfl,rfl⟩
    ·intro o W _
     show wpOp _ _ _ 9 _ ⟨#[_,_,_,_,_,_,_,_,_,_,_,_,_,_,_,_,_,_,_,_,_,_,_,_,_,_,_,_,_,_,_,_,_,_,_,_,_,_,_,o 0,o 1,o 2,o 3,o 4,o 5,o 6,o 7,o 8,o 9,o 10,o 11,o 12,o 14,_,_,_,_,_,_,_,_,_,_,_,_,_,_,_,_,_,_,_,_,_,_,_,_,_],[]⟩ W
     refine wpOp_step rfl fun _ hK => ?_
     go_simp
     exact hK _ _ ⟨rfl,rfl⟩
    ·intro o W _
     show wpOp _ _ _ 10 _ ⟨#[_,_,_,_,_,_,_,_,_,_,_,_,_,_,_,_,_,_,_,_,_,_,_,_,_,_,_,_,_,_,_,_,_,_,_,_,_,_,_,o 0,o 1,o 2,o 3,o 4,o 5,o 6,o 7,.int .i64 F,.int .i64 t,o 10,o 11,o 12,o 14,_,_,_,_,_,_,_,_,_,_,_,_,_,_,_,_,_,_,_,_,_,_,_,_,_],[]⟩ W
     refine wpOp_step rfl fun _ hK => ?_
     go_simp
     exact hK _ _ ⟨rfl,rfl⟩
    ·intro o W hj
     have hj : KL _ _ W := hj
     show wpOp _ _ _ 11 _ ⟨#[_,_,_,_,_,_,_,_,_,_,_,_,_,_,_,_,_,_,_,_,_,_,_,_,_,_,_,_,_,_,_,_,_,_,_,_,_,_,_,o 0,o 1,o 2,o 3,o 4,o 5,.agg #[p,q,r],.int .i64 a,o 8,o 9,.int .i64 (F + t),o 11,o 12,o 14,_,_,_,_,_,_,_,_,_,_,_,_,_,_,_,_,_,_,_,_,_,_,_,_,_],[]⟩ W
     refine wpOp_step rfl fun _ hK => ?_
     go_simp
     refine (pn _ _ _ _ _).mono ?_
     rintro e W1 ⟨rfl,hb1⟩
     exact hK _ _ ⟨rfl,hj.over hb1⟩
    ·intro o W _
     show wpOp _ _ _ 12 _ ⟨#[_,_,_,_,_,_,_,_,_,_,_,_,_,_,_,_,_,_,_,_,_,_,_,_,_,_,_,_,_,_,_,_,_,_,_,_,_,_,_,o 0,o 1,o 2,o 3,o 4,o 5,o 6,o 7,o 8,o 9,o 10,o 11,o 12,o 14,_,_,_,_,_,_,_,_,_,_,_,_,_,_,_,_,_,_,_,_,_,_,_,_,_],[]⟩ W
     refine wpOp_step rfl fun _ hK => ?_
     go_simp
     exact hK _ _ ⟨rfl,rfl⟩
    ·intro o W hj
     have hj : KL _ _ W := hj
     obtain ⟨cL,c0,c1,c2,c3,c4,c5⟩ := bl6 (KL.blk hj (.head _))
     have cF := (KL.blk hj (.head _)).frozen
     show wpOp _ _ _ 13 _ ⟨#[_,_,_,_,_,_,_,_,_,_,_,_,_,_,_,_,_,_,_,_,_,_,_,_,_,_,_,_,_,_,_,_,_,_,_,_,_,_,_,o 0,o 1,o 2,o 3,.agg #[.int .i64 (pt 0 x a (F)),.int .i64 (pt 1 y a (F)),.int .i64 (pt 2 z a (F))],o 5,o 6,o 7,o 8,o 9,o 10,o 11,.pointer (some ⟨wr.heap.size,0,none⟩),o 14,_,_,_,_,_,_,_,_,_,_,_,_,_,_,_,_,_,_,_,_,_,_,_,_,_],[]⟩ W
     refine wpOp_step rfl fun _ hK => ?_
     go_simp
     exact hK _ _ ⟨rfl,(KL.upL 0 hj rfl (by omega) (by simp <;> omega))⟩
    ·intro o W _
     show wpOp _ _ _ 14 _ ⟨#[_,_,_,_,_,_,_,_,_,_,_,_,_,_,_,_,_,_,_,_,_,_,_,_,_,_,_,_,_,_,_,_,_,_,_,_,_,_,_,o 0,o 1,o 2,o 3,o 4,o 5,o 6,o 7,o 8,o 9,o 10,o 11,o 12,o 14,_,_,_,_,_,_,_,_,_,_,_,_,_,_,_,_,_,_,_,_,_,_,_,_,_],[]⟩ W
     refine wpOp_step rfl fun _ hK => ?_
     go_simp
     exact hK _ _ ⟨rfl,rfl⟩
    ·intro o W hj
     have hj : KL _ _ W := hj
     obtain ⟨cL,c0,c1,c2,c3,c4,c5⟩ := bl6 (KL.blk hj (.head _))
     have cF := (KL.blk hj (.head _)).frozen
     show wpOp _ _ _ 15 _ ⟨#[_,_,_,_,_,_,_,_,_,_,_,_,_,_,_,_,_,_,_,_,_,_,_,_,_,_,_,_,_,_,_,_,_,_,_,_,_,_,_,o 0,o 1,o 2,o 3,o 4,o 5,o 6,o 7,o 8,o 9,o 10,.agg #[.int .i64 (pt 0 p a (F + t)),.int .i64 (pt 1 q a (F + t)),.int .i64 (pt 2 r a (F + t))],o 12,.pointer (some ⟨wr.heap.size,3,none⟩),_,_,_,_,_,_,_,_,_,_,_,_,_,_,_,_,_,_,_,_,_,_,_,_,_],[]⟩ W
     refine wpOp_step rfl fun _ hK => ?_
     go_simp
     exact hK _ _ ⟨rfl,(KL.upH 0 hj rfl (by omega) (by simp <;> omega))⟩
    ·intro o hh_
     have e0 : o 0 = .pointer (some ⟨w.heap.size,0,none⟩) := hh_ 0 (by decide)
     have e1 : o 1 = .agg #[x,y,z] := hh_ 1 (by decide)
     have e2 : o 2 = .int .i64 a := hh_ 2 (by decide)
     have e3 : o 3 = .int .i64 F := hh_ 3 (by decide)
     have e4 : o 4 = .agg #[.int .i64 (pt 0 x a (F)),.int .i64 (pt 1 y a (F)),.int .i64 (pt 2 z a (F))] := hh_ 4 (by decide)
     have e5 : o 5 = .pointer (some ⟨w.heap.size,3,none⟩) := hh_ 5 (by decide)
     have e6 : o 6 = .agg #[p,q,r] := hh_ 6 (by decide)
     have e7 : o 7 = .int .i64 a := hh_ 7 (by decide)
     have e8 : o 8 = .int .i64 F := hh_ 8 (by decide)
     have e9 : o 9 = .int .i64 t := hh_ 9 (by decide)
     have e10 : o 10 = .int .i64 (F + t) := hh_ 10 (by decide)
     have e11 : o 11 = .agg #[.int .i64 (pt 0 p a (F + t)),.int .i64 (pt 1 q a (F + t)),.int .i64 (pt 2 r a (F + t))] := hh_ 11 (by decide)
     have e12 : o 12 = .pointer (some ⟨wr.heap.size,0,none⟩) := hh_ 12 (by decide)
     have e14 : o 14 = .pointer (some ⟨wr.heap.size,3,none⟩) := hh_ 14 (by decide)
     rw [e0,e1,e2,e3,e4,e5,e6,e7,e8,e9,e10,e11,e12,e14]
    ·intro W8 h8
     have h8 : KL _ _ W8 := h8
     obtain ⟨eL0,e0_0,e0_1,e0_2,e0_3,e0_4,e0_5⟩ := bl6 (KL.blk h8 (.head _))
     obtain ⟨eL1,e1_0,e1_1,e1_2,e1_3,e1_4,e1_5⟩ := bl6 (KL.blk h8 (.tail _ (.head _)))
     have eF1 := (KL.blk h8 (.tail _ (.head _))).frozen
     obtain ⟨eL2,e2_0,e2_1,e2_2,e2_3,e2_4,e2_5⟩ := bl6 (KL.blk h8 (.tail _ (.tail _ (.head _))))
     have hjb := h8.1
     have hjz := hjb.size
     have hown8 := own_below hown hjb
     have hj8 := hj.over hjb
     have hz8 := hjb.size
     go_wp2_with (at_builtin; refine wpList_append_kl rfl (.tmp 53) (.tmp 55) _ rfl (w.heap.size + 1 + 1) 25 i0 _ 6 48 Try.underlying52 in0 in1 in2 in3 rfl (by decide) (.slice A n c) n _ rfl (hown8.alloc _) (W8.heap.size + 1) (some ⟨W8.heap.size,0,none⟩) 1 1 (rsV x y z p q r a t k n) rfl (by rw [hsv.out]; exact reads_new (Blk.new _ _ _) rfl (by omega)) (rsV_one _ _ _ _ _ _ _ _ _ _) (n + 1) (rowTo (rsV x y z p q r a t k) (n + 1)) rfl HMK.out (by simp only [maxLen]; omega) (by omega) (hj8.alloc _) (by simp <;> omega) (by omega) (by simp <;> omega) ?_; intro A5 c5 w5 hown5 hj5 hs5)
     go_roundw
     case rel => exact ⟨n + 1,A5,c5,by omega,rfl,by rw [hfs.out]; exact congrArg (Value.int .i64) (by omega),by go_num,hown5,hj5⟩
     case measure => simp [intOf] <;> omega
   ·obtain rfl : n = N := by omega
    generalize hF0 : frm LO (t + k) n = F at *
    have hF := Lib.hid hF0
    clear hF0
    rcases hown.2 with ⟨e1,e2⟩ | ⟨g,cap,cur,e1,hg,hh,hcap,hcm,hcs,htk⟩
    ·omega
    ·injection e1 with e1a e1b e1c
     subst e1a
     subst e1c
     have hB : Blk wr g 25 cur := hh
     have hgl := hB.lt
     have hj := KL.cons hB hj
     clear hB hh
     by_cases hz : HI ≤ F
     ·have HR := Lib.hid (show rsR x y z p q r a t k n = [.int .i64 0,.int .i64 0,.int .i64 0,.int .i64 0,.int .i64 0,.int .i64 0] by unfold rsR; rw [if_pos (by rw [hLOe.out,hHIe.out,hF.out]; exact hz)])
      have hd : decide (HI ≤ F) = true := by simpa using hz
      go_wp2_with (first | (go_at_call 47; refine (pn _ _ _ _ _).mono ?_; rintro e w4 ⟨rfl,hb4⟩; obtain ⟨hc4,hf4⟩ := bcell hb4; have hz4 := hb4.size; (try simp at hz4); (try have y40 : w.heap.size < w4.heap.size := (by omega)); (try have y40p : w.heap.size < w4.heap.size + 1 := (by omega)); (try have y41 : w.heap.size + 1 < w4.heap.size := (by omega)); (try have y41p : w.heap.size + 1 < w4.heap.size + 1 := (by omega)); (try have y42 : w.heap.size + 1 + 1 < w4.heap.size := (by omega)); (try have y42p : w.heap.size + 1 + 1 < w4.heap.size + 1 := (by omega)); (try have y43 : w.heap.size + 1 + 1 + 1 < w4.heap.size := (by omega)); (try have y43p : w.heap.size + 1 + 1 + 1 < w4.heap.size + 1 := (by omega)); (try have y44 : w.heap.size + 1 + 1 + 1 + 1 < w4.heap.size := (by omega)); (try have y44p : w.heap.size + 1 + 1 + 1 + 1 < w4.heap.size + 1 := (by omega)); (try have v0x4 : w0.heap.size < w4.heap.size := (by omega)); (try have v0x4p : w0.heap.size < w4.heap.size + 1 := (by omega)); (try have v1x4 : w1.heap.size < w4.heap.size := (by omega)); (try have v1x4p : w1.heap.size < w4.heap.size + 1 := (by omega)); (try have v2x4 : w2.heap.size < w4.heap.size := (by omega)); (try have v2x4p : w2.heap.size < w4.heap.size + 1 := (by omega)); (try have v3x4 : w3.heap.size < w4.heap.size := (by omega)); (try have v3x4p : w3.heap.size < w4.heap.size + 1 := (by omega)); have q4 : wr.heap.size < w4.heap.size := by omega) | (go_at_call 41; refine (g2 _).mono ?_; rintro e w5 ⟨rfl,hb5⟩; obtain ⟨hc5,hf5⟩ := bcell hb5; have hz5 := hb5.size; (try simp at hz5); (try have y50 : w.heap.size < w5.heap.size := (by omega)); (try have y50p : w.heap.size < w5.heap.size + 1 := (by omega)); (try have y51 : w.heap.size + 1 < w5.heap.size := (by omega)); (try have y51p : w.heap.size + 1 < w5.heap.size + 1 := (by omega)); (try have y52 : w.heap.size + 1 + 1 < w5.heap.size := (by omega)); (try have y52p : w.heap.size + 1 + 1 < w5.heap.size + 1 := (by omega)); (try have y53 : w.heap.size + 1 + 1 + 1 < w5.heap.size := (by omega)); (try have y53p : w.heap.size + 1 + 1 + 1 < w5.heap.size + 1 := (by omega)); (try have y54 : w.heap.size + 1 + 1 + 1 + 1 < w5.heap.size := (by omega)); (try have y54p : w.heap.size + 1 + 1 + 1 + 1 < w5.heap.size + 1 := (by omega)); (try have v0x5 : w0.heap.size < w5.heap.size := (by omega)); (try have v0x5p : w0.heap.size < w5.heap.size + 1 := (by omega)); (try have v1x5 : w1.heap.size < w5.heap.size := (by omega)); (try have v1x5p : w1.heap.size < w5.heap.size + 1 := (by omega)); (try have v2x5 : w2.heap.size < w5.heap.size := (by omega)); (try have v2x5p : w2.heap.size < w5.heap.size + 1 := (by omega)); (try have v3x5 : w3.heap.size < w5.heap.size := (by omega)); (try have v3x5p : w3.heap.size < w5.heap.size + 1 := (by omega)); (try have v4x5 : w4.heap.size < w5.heap.size := (by omega)); (try have v4x5p : w4.heap.size < w5.heap.size + 1 := (by omega)); have q5 : wr.heap.size < w5.heap.size := by omega))
      refine wp_region_any (by kernel_rfl) ?_
      try (change wpAny _ _ _ _ _ _ _ (World.drew _))
      refine wpAny_vals (fr := fun o => #[.agg #[x,y,z,p,q,r],.int .i64 a,.int .i64 t,.int .i64 k,.pointer (some ⟨w.heap.size,0,none⟩),undef,undef,undef,o 2,.pointer (some ⟨(w.heap.size + 1),0,none⟩),.slice (some ⟨g,0,none⟩) n c,.int .i64 ((n : Int)),.int .i64 F,.int .i64 ((n : Int)),u14,.pointer (some ⟨wr.heap.size,0,none⟩),.slice (some ⟨(w.heap.size + 1 + 1),0,none⟩) 0 0,.pointer (some ⟨w.heap.size,3,none⟩),.agg #[p,q,r],.int .i64 a,.int .i64 HI,.pointer (some ⟨w.heap.size,0,none⟩),.agg #[x,y,z],.int .i64 a,.int .i64 LO,.int .i64 (HI - LO),.int .i64 t,.int .i64 k,.int .i64 ((n : Int)),.pointer (some ⟨w.heap.size,0,none⟩),.agg #[x,y,z],.int .i64 a,.int .i64 LO,.int .i64 ((n : Int)),.int .i64 ((n : Int)),.bool false,u36,u37,u38,u39,u40,u41,u42,u43,u44,u45,u46,u47,u48,u49,u50,u51,u52,u53,u54,u55,u56,u57,u58,u59,u60,u61,.agg #[x,y,z,p,q,r],.pointer (some ⟨w.heap.size,0,none⟩),.agg #[x,y,z],.int .i64 a,.int .i64 F,.agg #[.int .i64 (pt 0 x a F),.int .i64 (pt 1 y a F),.int .i64 (pt 2 z a F)],.pointer (some ⟨wr.heap.size,0,none⟩),.int .i64 F,.pointer (some ⟨w.heap.size,3,none⟩),.agg #[p,q,r],.int .i64 a,.int .i64 HI,.bool true,.agg #[.int .i64 0,.int .i64 0,.int .i64 0,.int .i64 0,.int .i64 0,.int .i64 0],o 0,o 1]) (vals := fun i_ => ([.slice (some ⟨g,0,none⟩) n c,.agg #[.int .i64 0,.int .i64 0,.int .i64 0,.int .i64 0,.int .i64 0,.int .i64 0],.slice (some ⟨g,0,none⟩) n c,undef] : List Value).getD i_ undef) (Kf := fun _ => True) (K := fun kk_ => ([(KL [(wr.heap.size,25,#[.int .i64 0,.int .i64 0,.int .i64 0,.int .i64 0,.int .i64 0,.int .i64 0]),(g,25,cur),((w.heap.size + 1),25,#[.int .i64 0,.int .i64 0,.int .i64 0,.int .i64 0,.int .i64 0,.int .i64 0]),(w.heap.size,25,#[x,y,z,p,q,r])] w),(KL [(wr.heap.size,25,#[.int .i64 0,.int .i64 0,.int .i64 0,.int .i64 0,.int .i64 0,.int .i64 0]),(g,25,cur),((w.heap.size + 1),25,#[.int .i64 0,.int .i64 0,.int .i64 0,.int .i64 0,.int .i64 0,.int .i64 0]),(w.heap.size,25,#[x,y,z,p,q,r])] w)] : List (World → Prop)).getD kk_ (fun _ => True)) (dep := fun i_ => [[],[],[0],[1]].getD i_ []) (dv := fun i_ => [[],[],[0],[1]].getD i_ []) (kd := fun i_ => [0,1,0,2].getD i_ 0) (ss := [3]) (l := [0,1,2,3]) (f0 := fun i_ => ([undef,undef,.slice none 0 0,undef] : List Value).getD i_ undef) (A := ?A2) 4 rfl rfl (by decide +kernel) (by decide +kernel) ?_ ?_ ⟨?_,?_,?_,?_,trivial⟩ ?_ ?_
      rotate_left
      ·exact KL.drew (KL.up6 0 (KL.over (KL.upL 0 (KL.over (KL.new (g := wr.heap.size) hj rfl _ _) hb4) rfl (by omega) (by simp <;> omega)) hb5) rfl (by omega) (by simp <;> omega))
      ·exact fun _ _ _ _ => trivial
      ·intro o W _
       show wpOp _ _ _ 0 _ ⟨#[_,_,_,_,_,_,_,_,o 2,_,_,_,_,_,_,_,_,_,_,_,_,_,_,_,_,_,_,_,_,_,_,_,_,_,_,_,_,_,_,_,_,_,_,_,_,_,_,_,_,_,_,_,_,_,_,_,_,_,_,_,_,_,_,_,_,_,_,_,_,_,_,_,_,_,_,_,o 0,o 1],[]⟩ W
       refine wpOp_step rfl fun _ hK => ?_
       go_simp
       exact hK _ _ ⟨rfl,rfl⟩
      ·intro o W hj
       have hj : KL _ _ W := hj
       obtain ⟨cL,c0,c1,c2,c3,c4,c5⟩ := bl6 (KL.blk hj (.head _))
       show wpOp _ _ _ 1 _ ⟨#[_,_,_,_,_,_,_,_,o 2,_,_,_,_,_,_,_,_,_,_,_,_,_,_,_,_,_,_,_,_,_,_,_,_,_,_,_,_,_,_,_,_,_,_,_,_,_,_,_,_,_,_,_,_,_,_,_,_,_,_,_,_,_,_,_,_,_,_,_,_,_,_,_,_,_,_,_,o 0,o 1],[]⟩ W
       refine wpOp_step rfl fun _ hK => ?_
       go_simp
       exact hK _ _ ⟨rfl,hj⟩
      ·intro o W _
       show wpOp _ _ _ 2 _ ⟨#[_,_,_,_,_,_,_,_,o 2,_,_,_,_,_,_,_,_,_,_,_,_,_,_,_,_,_,_,_,_,_,_,_,_,_,_,_,_,_,_,_,_,_,_,_,_,_,_,_,_,_,_,_,_,_,_,_,_,_,_,_,_,_,_,_,_,_,_,_,_,_,_,_,_,_,_,_,.slice (some ⟨g,0,none⟩) n c,o 1],[]⟩ W
       refine wpOp_step rfl fun _ hK => ?_
       go_simp
       exact hK _ _ ⟨rfl,rfl⟩
      ·intro o W hj
       have hj : KL _ _ W := hj
       obtain ⟨cL,c0,c1,c2,c3,c4,c5⟩ := bl6 (KL.blk hj (.tail _ (.tail _ (.head _))))
       have cF := (KL.blk hj (.tail _ (.tail _ (.head _)))).frozen
       show wpOp _ _ _ 3 _ ⟨#[_,_,_,_,_,_,_,_,o 2,_,_,_,_,_,_,_,_,_,_,_,_,_,_,_,_,_,_,_,_,_,_,_,_,_,_,_,_,_,_,_,_,_,_,_,_,_,_,_,_,_,_,_,_,_,_,_,_,_,_,_,_,_,_,_,_,_,_,_,_,_,_,_,_,_,_,_,o 0,.agg #[.int .i64 0,.int .i64 0,.int .i64 0,.int .i64 0,.int .i64 0,.int .i64 0]],[]⟩ W
       refine wpOp_step rfl fun _ hK => ?_
       go_simp
       exact hK _ _ ⟨rfl,(KL.up6 2 hj rfl (by omega) (by simp <;> omega))⟩
      ·intro o hh_
       have e0 : o 0 = .slice (some ⟨g,0,none⟩) n c := hh_ 0 (by decide)
       have e1 : o 1 = .agg #[.int .i64 0,.int .i64 0,.int .i64 0,.int .i64 0,.int .i64 0,.int .i64 0] := hh_ 1 (by decide)
       have e2 : o 2 = .slice (some ⟨g,0,none⟩) n c := hh_ 2 (by decide)
       rw [e0,e1,e2]
      ·intro W9 h9
       have h9 : KL _ _ W9 := h9
       obtain ⟨dL0,d0_0,d0_1,d0_2,d0_3,d0_4,d0_5⟩ := bl6 (KL.blk h9 (.head _))
       have dL1 := (KL.blk h9 (.tail _ (.head _))).lt
       obtain ⟨dL2,d2_0,d2_1,d2_2,d2_3,d2_4,d2_5⟩ := bl6 (KL.blk h9 (.tail _ (.tail _ (.head _))))
       have dF2 := (KL.blk h9 (.tail _ (.tail _ (.head _)))).frozen
       obtain ⟨dL3,d3_0,d3_1,d3_2,d3_3,d3_4,d3_5⟩ := bl6 (KL.blk h9 (.tail _ (.tail _ (.tail _ (.head _)))))
       have hjb := h9.1
       have hjz := hjb.size
       go_wp2
       have hzg := KL.blk h9 (.tail _ (.head _))
       exact bodyPost_ret (v := .tuple #[.slice (some ⟨g,0,none⟩) n c,.agg #[.int .i64 0,.int .i64 0,.int .i64 0,.int .i64 0,.int .i64 0,.int .i64 0]]) (by simp [results,Try.results31,go_sem,d2_0,d2_1,d2_2,d2_3,d2_4,d2_5]) rfl ⟨g,c,cur,by rw [HR.out],by omega,hown.1,hzg,htk,h9.1⟩
     ·have HR := Lib.hid (show rsR x y z p q r a t k n = [.int .i64 (pt 0 x a F),.int .i64 (pt 1 y a F),.int .i64 (pt 2 z a F),.int .i64 p,.int .i64 q,.int .i64 r] by unfold rsR; rw [if_neg (by rw [hLOe.out,hHIe.out,hF.out]; exact hz)]; rw [hLOe.out,hF.out])
      have hd : decide (HI ≤ F) = false := by simpa using hz
      go_wp2_with (first | (go_at_call 47; refine (pn _ _ _ _ _).mono ?_; rintro e w4 ⟨rfl,hb4⟩; obtain ⟨hc4,hf4⟩ := bcell hb4; have hz4 := hb4.size; (try simp at hz4); (try have y40 : w.heap.size < w4.heap.size := (by omega)); (try have y40p : w.heap.size < w4.heap.size + 1 := (by omega)); (try have y41 : w.heap.size + 1 < w4.heap.size := (by omega)); (try have y41p : w.heap.size + 1 < w4.heap.size + 1 := (by omega)); (try have y42 : w.heap.size + 1 + 1 < w4.heap.size := (by omega)); (try have y42p : w.heap.size + 1 + 1 < w4.heap.size + 1 := (by omega)); (try have y43 : w.heap.size + 1 + 1 + 1 < w4.heap.size := (by omega)); (try have y43p : w.heap.size + 1 + 1 + 1 < w4.heap.size + 1 := (by omega)); (try have y44 : w.heap.size + 1 + 1 + 1 + 1 < w4.heap.size := (by omega)); (try have y44p : w.heap.size + 1 + 1 + 1 + 1 < w4.heap.size + 1 := (by omega)); (try have v0x4 : w0.heap.size < w4.heap.size := (by omega)); (try have v0x4p : w0.heap.size < w4.heap.size + 1 := (by omega)); (try have v1x4 : w1.heap.size < w4.heap.size := (by omega)); (try have v1x4p : w1.heap.size < w4.heap.size + 1 := (by omega)); (try have v2x4 : w2.heap.size < w4.heap.size := (by omega)); (try have v2x4p : w2.heap.size < w4.heap.size + 1 := (by omega)); (try have v3x4 : w3.heap.size < w4.heap.size := (by omega)); (try have v3x4p : w3.heap.size < w4.heap.size + 1 := (by omega)); have q4 : wr.heap.size < w4.heap.size := by omega) | (go_at_call 41; refine (g2 _).mono ?_; rintro e w5 ⟨rfl,hb5⟩; obtain ⟨hc5,hf5⟩ := bcell hb5; have hz5 := hb5.size; (try simp at hz5); (try have y50 : w.heap.size < w5.heap.size := (by omega)); (try have y50p : w.heap.size < w5.heap.size + 1 := (by omega)); (try have y51 : w.heap.size + 1 < w5.heap.size := (by omega)); (try have y51p : w.heap.size + 1 < w5.heap.size + 1 := (by omega)); (try have y52 : w.heap.size + 1 + 1 < w5.heap.size := (by omega)); (try have y52p : w.heap.size + 1 + 1 < w5.heap.size + 1 := (by omega)); (try have y53 : w.heap.size + 1 + 1 + 1 < w5.heap.size := (by omega)); (try have y53p : w.heap.size + 1 + 1 + 1 < w5.heap.size + 1 := (by omega)); (try have y54 : w.heap.size + 1 + 1 + 1 + 1 < w5.heap.size := (by omega)); (try have y54p : w.heap.size + 1 + 1 + 1 + 1 < w5.heap.size + 1 := (by omega)); (try have v0x5 : w0.heap.size < w5.heap.size := (by omega)); (try have v0x5p : w0.heap.size < w5.heap.size + 1 := (by omega)); (try have v1x5 : w1.heap.size < w5.heap.size := (by omega)); (try have v1x5p : w1.heap.size < w5.heap.size + 1 := (by omega)); (try have v2x5 : w2.heap.size < w5.heap.size := (by omega)); (try have v2x5p : w2.heap.size < w5.heap.size + 1 := (by omega)); (try have v3x5 : w3.heap.size < w5.heap.size := (by omega)); (try have v3x5p : w3.heap.size < w5.heap.size + 1 := (by omega)); (try have v4x5 : w4.heap.size < w5.heap.size := (by omega)); (try have v4x5p : w4.heap.size < w5.heap.size + 1 := (by omega)); have q5 : wr.heap.size < w5.heap.size := by omega))
      refine wp_region_any (by kernel_rfl) ?_
      try (change wpAny _ _ _ _ _ _ _ (World.drew _))
      refine wpAny_vals (fr := fun o => #[.agg #[x,y,z,p,q,r],.int .i64 a,.int .i64 t,.int .i64 k,.pointer (some ⟨w.heap.size,0,none⟩),undef,undef,undef,o 2,.pointer (some ⟨(w.heap.size + 1),0,none⟩),.slice (some ⟨g,0,none⟩) n c,.int .i64 ((n : Int)),.int .i64 F,.int .i64 ((n : Int)),u14,.pointer (some ⟨wr.heap.size,0,none⟩),.slice (some ⟨(w.heap.size + 1 + 1),0,none⟩) 0 0,.pointer (some ⟨w.heap.size,3,none⟩),.agg #[p,q,r],.int .i64 a,.int .i64 HI,.pointer (some ⟨w.heap.size,0,none⟩),.agg #[x,y,z],.int .i64 a,.int .i64 LO,.int .i64 (HI - LO),.int .i64 t,.int .i64 k,.int .i64 ((n : Int)),.pointer (some ⟨w.heap.size,0,none⟩),.agg #[x,y,z],.int .i64 a,.int .i64 LO,.int .i64 ((n : Int)),.int .i64 ((n : Int)),.bool false,u36,u37,u38,u39,u40,u41,u42,u43,u44,u45,u46,u47,u48,u49,u50,u51,u52,u53,u54,u55,u56,u57,u58,u59,u60,u61,.agg #[x,y,z,p,q,r],.pointer (some ⟨w.heap.size,0,none⟩),.agg #[x,y,z],.int .i64 a,.int .i64 F,.agg #[.int .i64 (pt 0 x a F),.int .i64 (pt 1 y a F),.int .i64 (pt 2 z a F)],.pointer (some ⟨wr.heap.size,0,none⟩),.int .i64 F,.pointer (some ⟨w.heap.size,3,none⟩),.agg #[p,q,r],.int .i64 a,.int .i64 HI,.bool false,undef,o 0,o 1]) (vals := fun i_ => ([.slice (some ⟨g,0,none⟩) n c,.agg #[.int .i64 (pt 0 x a F),.int .i64 (pt 1 y a F),.int .i64 (pt 2 z a F),p,q,r],.slice (some ⟨g,0,none⟩) n c,undef] : List Value).getD i_ undef) (Kf := fun _ => True) (K := fun kk_ => ([(KL [(wr.heap.size,25,#[.int .i64 (pt 0 x a F),.int .i64 (pt 1 y a F),.int .i64 (pt 2 z a F),p,q,r]),(g,25,cur),((w.heap.size + 1),25,#[.int .i64 0,.int .i64 0,.int .i64 0,.int .i64 0,.int .i64 0,.int .i64 0]),(w.heap.size,25,#[x,y,z,p,q,r])] w),(KL [(wr.heap.size,25,#[.int .i64 (pt 0 x a F),.int .i64 (pt 1 y a F),.int .i64 (pt 2 z a F),p,q,r]),(g,25,cur),((w.heap.size + 1),25,#[.int .i64 (pt 0 x a F),.int .i64 (pt 1 y a F),.int .i64 (pt 2 z a F),p,q,r]),(w.heap.size,25,#[x,y,z,p,q,r])] w)] : List (World → Prop)).getD kk_ (fun _ => True)) (dep := fun i_ => [[],[],[0],[1]].getD i_ []) (dv := fun i_ => [[],[],[0],[1]].getD i_ []) (kd := fun i_ => [0,1,0,2].getD i_ 0) (ss := [3]) (l := [0,1,2,3]) (f0 := fun i_ => ([undef,undef,.slice none 0 0,undef] : List Value).getD i_ undef) (A := ?A3) 4 rfl rfl (by decide +kernel) (by decide +kernel) ?_ ?_ ⟨?_,?_,?_,?_,trivial⟩ ?_ ?_
      rotate_left
      ·exact KL.drew (KL.over (KL.upL 0 (KL.over (KL.new (g := wr.heap.size) hj rfl _ _) hb4) rfl (by omega) (by simp <;> omega)) hb5)
      ·exact fun _ _ _ _ => trivial
      ·intro o W _
       show wpOp _ _ _ 0 _ ⟨#[_,_,_,_,_,_,_,_,o 2,_,_,_,_,_,_,_,_,_,_,_,_,_,_,_,_,_,_,_,_,_,_,_,_,_,_,_,_,_,_,_,_,_,_,_,_,_,_,_,_,_,_,_,_,_,_,_,_,_,_,_,_,_,_,_,_,_,_,_,_,_,_,_,_,_,_,_,o 0,o 1],[]⟩ W
       refine wpOp_step rfl fun _ hK => ?_
       go_simp
       exact hK _ _ ⟨rfl,rfl⟩
      ·intro o W hj
       have hj : KL _ _ W := hj
       obtain ⟨cL,c0,c1,c2,c3,c4,c5⟩ := bl6 (KL.blk hj (.head _))
       show wpOp _ _ _ 1 _ ⟨#[_,_,_,_,_,_,_,_,o 2,_,_,_,_,_,_,_,_,_,_,_,_,_,_,_,_,_,_,_,_,_,_,_,_,_,_,_,_,_,_,_,_,_,_,_,_,_,_,_,_,_,_,_,_,_,_,_,_,_,_,_,_,_,_,_,_,_,_,_,_,_,_,_,_,_,_,_,o 0,o 1],[]⟩ W
       refine wpOp_step rfl fun _ hK => ?_
       go_simp
       exact hK _ _ ⟨rfl,hj⟩
      ·intro o W _
       show wpOp _ _ _ 2 _ ⟨#[_,_,_,_,_,_,_,_,o 2,_,_,_,_,_,_,_,_,_,_,_,_,_,_,_,_,_,_,_,_,_,_,_,_,_,_,_,_,_,_,_,_,_,_,_,_,_,_,_,_,_,_,_,_,_,_,_,_,_,_,_,_,_,_,_,_,_,_,_,_,_,_,_,_,_,_,_,.slice (some ⟨g,0,none⟩) n c,o 1],[]⟩ W
       refine wpOp_step rfl fun _ hK => ?_
       go_simp
       exact hK _ _ ⟨rfl,rfl⟩
      ·intro o W hj
       have hj : KL _ _ W := hj
       obtain ⟨cL,c0,c1,c2,c3,c4,c5⟩ := bl6 (KL.blk hj (.tail _ (.tail _ (.head _))))
       have cF := (KL.blk hj (.tail _ (.tail _ (.head _)))).frozen
       show wpOp _ _ _ 3 _ ⟨#[_,_,_,_,_,_,_,_,o 2,_,_,_,_,_,_,_,_,_,_,_,_,_,_,_,_,_,_,_,_,_,_,_,_,_,_,_,_,_,_,_,_,_,_,_,_,_,_,_,_,_,_,_,_,_,_,_,_,_,_,_,_,_,_,_,_,_,_,_,_,_,_,_,_,_,_,_,o 0,.agg #[.int .i64 (pt 0 x a F),.int .i64 (pt 1 y a F),.int .i64 (pt 2 z a F),p,q,r]],[]⟩ W
       refine wpOp_step rfl fun _ hK => ?_
       go_simp
       exact hK _ _ ⟨rfl,(KL.up6 2 hj rfl (by omega) (by simp <;> omega))⟩
      ·intro o hh_
       have e0 : o 0 = .slice (some ⟨g,0,none⟩) n c := hh_ 0 (by decide)
       have e1 : o 1 = .agg #[.int .i64 (pt 0 x a F),.int .i64 (pt 1 y a F),.int .i64 (pt 2 z a F),p,q,r] := hh_ 1 (by decide)
       have e2 : o 2 = .slice (some ⟨g,0,none⟩) n c := hh_ 2 (by decide)
       rw [e0,e1,e2]
      ·intro W9 h9
       have h9 : KL _ _ W9 := h9
       obtain ⟨dL0,d0_0,d0_1,d0_2,d0_3,d0_4,d0_5⟩ := bl6 (KL.blk h9 (.head _))
       have dL1 := (KL.blk h9 (.tail _ (.head _))).lt
       obtain ⟨dL2,d2_0,d2_1,d2_2,d2_3,d2_4,d2_5⟩ := bl6 (KL.blk h9 (.tail _ (.tail _ (.head _))))
       have dF2 := (KL.blk h9 (.tail _ (.tail _ (.head _)))).frozen
       obtain ⟨dL3,d3_0,d3_1,d3_2,d3_3,d3_4,d3_5⟩ := bl6 (KL.blk h9 (.tail _ (.tail _ (.tail _ (.head _)))))
       have hjb := h9.1
       have hjz := hjb.size
       go_wp2
       have hzg := KL.blk h9 (.tail _ (.head _))
       exact bodyPost_ret (v := .tuple #[.slice (some ⟨g,0,none⟩) n c,.agg #[.int .i64 (pt 0 x a F),.int .i64 (pt 1 y a F),.int .i64 (pt 2 z a F),p,q,r]]) (by simp [results,Try.results31,go_sem,d2_0,d2_1,d2_2,d2_3,d2_4,d2_5]) rfl ⟨g,c,cur,by rw [HR.out],by omega,hown.1,hzg,htk,h9.1⟩
end Go.Proofs.Ytogmgaaejepcbaa

namespace Go.Proofs.Ytogmgaaejepcbaa
open Go.RowKit

def rcV (a lo t k : Int) (i : Nat) : List Value := [.int .i64 a,.int .i64 (frm lo (t + k) i + t),.int .i64 k]
theorem rcV_len (a lo t k : Int) (i : Nat) : (rcV a lo t k i).length = 3 := rfl
theorem rcV_one (a lo t k : Int) (i : Nat) : ∀ u ∈ rcV a lo t k i,u.oneCell' = true := by
 intro u hu; simp only [rcV,List.mem_cons,List.not_mem_nil,or_false] at hu; rcases hu with rfl | rfl | rfl <;> rfl
def cM (bz : Bool) (N n : Nat) : Nat := if n = N ∧ bz = true then n - 1 else n
theorem cM_lt {bz : Bool} {N n : Nat} (h : n < N) : cM bz N n = n := by unfold cM; rw [if_neg (by omega)]
theorem cM_no (N n : Nat) : cM false N n = n := by unfold cM; rw [if_neg (by simp)]
theorem cM_yes (N : Nat) : cM true N N = N - 1 := by unfold cM; rw [if_pos ⟨rfl,rfl⟩]
theorem get_pt {k : Int} (hk : rgB 0 2 k = true) (x y z n : Int) (w : World) : Calls Try.prog 41 #[.agg #[.int .i64 (pt 0 x k n),.int .i64 (pt 1 y k n),.int .i64 (pt 2 z k n)],.int .i64 k] w fun e w' => e = .returned (.int .i64 n) ∧ Below w.heap.size w w' := by
 have h := get_k hk (pt 0 x k n) (pt 1 y k n) (pt 2 z k n) w
 rwa [show gt3 (pt 0 x k n) (pt 1 y k n) (pt 2 z k n) k = n by rcases ax3 hk with rfl | rfl | rfl <;> simp [gt3,pt]] at h
theorem cur_at {cur : Array Value} {m : Nat} {xs : List Value} (h : cur.toList.take m = xs) {j : Nat} (hj : j < m) : cur[j]? = xs[j]? := by
 rw [← h,List.getElem?_take,if_pos hj]; simp
def RcRes (x y z _p _q _r a t k : Int) (bz : Bool) (N : Nat) (w : World) (e : Ending) (w' : World) : Prop :=
 ∃ A c,e = .returned (.slice A (cM bz N N) c) ∧ RowA w' 3 A (cM bz N N) (rowTo (rcV a (gt3 x y z a) t k) (cM bz N N)) ∧ Below w.heap.size w w'
set_option maxHeartbeats 16000000 in
set_option maxRecDepth 100000 in
theorem rCuts_gen (x y z p q r a t k : Int) (r0 r1 r2 r3 r4 r5 : Int) (bz : Bool) (N : Nat) (ha : rgB 0 2 a = true) (ht : rgB 1 2000000 t = true) (hk : rgB 0 1000 k = true) (hlo : -1000000 ≤ (gt3 x y z a) ∧ (gt3 x y z a) ≤ 1000000) (hN0 : 0 < N) (hN : N ≤ 1000)
  (hS : ∀ w,Calls Try.prog 31 #[.agg #[x,y,z,p,q,r],.int .i64 a,.int .i64 t,.int .i64 k] w fun e w' => ∃ g c cur,e = .returned (.tuple #[.slice (some ⟨g,0,none⟩) N c,.agg #[r0,r1,r2,r3,r4,r5]]) ∧ w.heap.size ≤ g ∧ (rowTo (rsV x y z p q r a t k) N).length = N * 6 ∧ Blk w' g 25 cur ∧ cur.toList.take (N * 6) = rowTo (rsV x y z p q r a t k) N ∧ Below w.heap.size w w')
  (q1 : ∀ w,Sem.run Try.prog (binOp .neq 25 (.agg #[r0,r1,r2,r3,r4,r5]) (.agg #[.int .i64 0,.int .i64 0,.int .i64 0,.int .i64 0,.int .i64 0,.int .i64 0])) w = .ok (.bool (!bz)) w) (w : World) :
  Calls Try.prog 33 #[.agg #[x,y,z,p,q,r],.int .i64 a,.int .i64 t,.int .i64 k] w (RcRes x y z p q r a t k bz N w) := by
 have gp := fun x y z n w => get_pt ha x y z n w
 obtain ⟨i2a,i2b⟩ := rgB_iff.1 ht
 obtain ⟨i3a,i3b⟩ := rgB_iff.1 hk
 obtain ⟨lo1,lo2⟩ := hlo
 clear ha ht hk
 obtain ⟨i0,in0,in1,in2,in3⟩ := info_parts info27
 go_enter Try.func33,Try.ntmps33
 go_wp2_with (go_at_call 31; refine (hS _).mono ?_; rintro e w1 ⟨g,c1,cur,rfl,hg,hl,hB,htk0,hb1⟩; have htk := Lib.hid htk0; clear htk0 hl; simp at hg; obtain ⟨hc1,hf1⟩ := bcell hb1; have hz1 := hb1.size; (try simp at hz1))
 have hj0 : KL [(w1.heap.size,25,#[r0,r1,r2,r3,r4,r5]),(g,25,cur),((w.heap.size + 1),27,#[]),(w.heap.size,25,#[x,y,z,p,q,r])] w _ := KL.new (g := w1.heap.size) (KL.cons hB (KL.over (KL.new (g := (w.heap.size + 1)) (KL.new (g := w.heap.size) (KL.nil w) rfl _ _) (by simp) _ _) hb1)) rfl _ _
 have hjS : KL [(w1.heap.size,25,#[r0,r1,r2,r3,r4,r5]),(g,25,cur),(w.heap.size,25,#[x,y,z,p,q,r])] w _ := KL.part hj0 (fun p_ hp_ => by simp only [List.mem_cons,List.not_mem_nil,or_false] at hp_ ⊢; rcases hp_ with rfl | rfl | rfl <;> simp)
 have hown0 : World.ownsRow _ (w.heap.size + 1) 27 3 (.slice (some ⟨(w.heap.size + 1),0,none⟩) 0 0) 0 (rowTo (rcV a (gt3 x y z a) t k) 0) := ⟨rfl,.inr ⟨_,0,#[],rfl,Nat.le_refl _,KL.blk hj0 (.tail _ (.tail _ (.head _))),Nat.le_refl _,Nat.zero_le _,rfl,rfl⟩⟩
 clear hj0
 have hgl := hB.lt
 have hZ00 : ∀ Y_ : Nat × TypeId × Array Value,Y_ ∈ ([(w1.heap.size,25,#[r0,r1,r2,r3,r4,r5]),(g,25,cur),(w.heap.size,25,#[x,y,z,p,q,r])] : List (Nat × TypeId × Array Value)) → Y_.1 ≠ w.heap.size + 1 ∧ Y_.1 < w1.heap.size + 1 := by
  intro Y_ hq
  simp only [List.mem_cons,List.not_mem_nil,or_false] at hq
  rcases hq with rfl | rfl | rfl <;> constructor <;> dsimp only <;> omega
 have hZ0 := Lib.hid hZ00
 clear hZ00 hB hf1 hc1
 go_loopw [9,12] (fun v i wr => ∃ (n m : Nat) (A : Option Addr) (c : Nat),n ≤ N ∧ m = cM bz N n ∧ i = .int .i64 n ∧ v = .slice A m c ∧ wr.ownsRow (w.heap.size + 1) 27 3 (.slice A m c) m (rowTo (rcV a (gt3 x y z a) t k) m) ∧ (∀ k,(Value.slice A m c).ownBlock = some k → k = w.heap.size + 1 ∨ w1.heap.size + 1 ≤ k) ∧ KL [(w1.heap.size,25,#[r0,r1,r2,r3,r4,r5]),(g,25,cur),(w.heap.size,25,#[x,y,z,p,q,r])] w wr) (fun _ i _ => N - (intOf i).toNat)
 case atStart => exact ⟨0,0,_,0,by omega,by rw [cM_lt hN0],rfl,rfl,hown0,fun k hk => .inl (by simpa [Value.ownBlock] using hk.symm),hjS⟩
 case round =>
  clear hjS hown0
  obtain ⟨n,m,A,c,hnN,hm,rfl,rfl,hown0,hat0,hj⟩ := hrel
  have hown := Lib.hid hown0
  have hat := Lib.hid hat0
  clear hown0 hat0
  obtain ⟨cL0,c0_0,c0_1,c0_2,c0_3,c0_4,c0_5⟩ := bl6 (KL.blk hj (.head _))
  obtain ⟨cL2,c2_0,c2_1,c2_2,c2_3,c2_4,c2_5⟩ := bl6 (KL.blk hj (.tail _ (.tail _ (.head _))))
  have hsz := hj.1.size
  by_cases hlt : n < N
  ·have hfb := frm_bd (lo := (gt3 x y z a)) (st := t + k) (k := n) (by omega) (by omega) (by omega) (by omega) (by omega)
   obtain rfl : m = n := by rw [hm,cM_lt hlt]
   clear hm
   have hmk : rowTo (rcV a (gt3 x y z a) t k) (m + 1) = rowTo (rcV a (gt3 x y z a) t k) m ++ rcV a (gt3 x y z a) t k m := rowTo_succ _ _
   have HMK := Lib.hid hmk
   clear hmk
   have hx1 : IntKind.i64.wrap ((m : Int) + 1) = (m : Int) + 1 := IntWalk.i64_in _ (by omega)
   have hBg := KL.blk hj (.tail _ (.head _))
   generalize hF : frm (gt3 x y z a) (t + k) m = F at *
   have c3 : wr.cell? ⟨g,m * 6 + 3,none⟩ = some (.int .i64 (pt 0 p a (F + t))) := by
    rw [hBg.cell,cur_at htk.out (by omega),rowTo_at (rsV_len x y z p q r a t k) (by omega) (by omega)]; unfold rsV; rw [hF]; rfl
   have c4 : wr.cell? ⟨g,m * 6 + 4,none⟩ = some (.int .i64 (pt 1 q a (F + t))) := by
    rw [hBg.cell,cur_at htk.out (by omega),rowTo_at (rsV_len x y z p q r a t k) (by omega) (by omega)]; unfold rsV; rw [hF]; rfl
   have c5 : wr.cell? ⟨g,m * 6 + 5,none⟩ = some (.int .i64 (pt 2 r a (F + t))) := by
    rw [hBg.cell,cur_at htk.out (by omega),rowTo_at (rsV_len x y z p q r a t k) (by omega) (by omega)]; unfold rsV; rw [hF]; rfl
   have hsv0 : rcV a (gt3 x y z a) t k m = [.int .i64 a,.int .i64 (F + t),.int .i64 k] := by unfold rcV; rw [hF]
   have hsv := Lib.hid hsv0
   clear hsv0 hBg
   clear hF

   by_cases h1 : m + 1 < N
   ·have HM := Lib.hid (cM_lt (bz := bz) h1)
    have d1 : decide ((m : Int) + 1 < (N : Int)) = true := by simp <;> omega
    have d2 : decide (m + 1 < N) = true := by simp <;> omega
    go_wp2_with (first
     | (go_at_call 41; refine (gp _ _ _ _ _).mono ?_; rintro e w4 ⟨rfl,hb4⟩; have hz4 := hb4.size; have hown4 := own_below hown.out hb4; have hj4 := hj.over hb4)
     | (at_builtin; refine wpList_append_ke rfl (.tmp 38) (.tmp 49) _ rfl (w.heap.size + 1) 27 i0 _ 3 24 Try.underlying62 in0 in1 in2 in3 rfl (by decide) (.slice A m c) m _ rfl (hown4.alloc _) (w4.heap.size + 1) (some ⟨w4.heap.size,0,none⟩) 1 1 (rcV a (gt3 x y z a) t k m) rfl (by rw [hsv.out]; exact reads_new (Blk.new _ _ _) rfl (by omega)) (rcV_one _ _ _ _ _) (m + 1) (rowTo (rcV a (gt3 x y z a) t k) (m + 1)) rfl HMK.out (by simp only [maxLen]; omega) (by omega) (w.heap.size + 1) (w1.heap.size + 1) hat.out (by simp <;> omega) (hj4.alloc _) hZ0.out (by omega) (by simp <;> omega) ?_; intro A5 c5 w5 hown5 hat5 hj5 hs5))
    go_roundw
    case rel => exact ⟨m + 1,m + 1,A5,c5,by omega,by rw [HM.out],by go_num,rfl,hown5,hat5,hj5⟩
    case measure => simp [intOf] <;> omega
   ·have d1 : decide ((m : Int) + 1 < (N : Int)) = false := by simp <;> omega
    have d2 : decide (m + 1 < N) = false := by simp <;> omega
    cases bz
    ·have HM := Lib.hid (cM_no N (m + 1))
     go_wp2_with (first
      | (go_at_call 41; refine (gp _ _ _ _ _).mono ?_; rintro e w4 ⟨rfl,hb4⟩; have hz4 := hb4.size; have hown4 := own_below hown.out hb4; have hj4 := hj.over hb4)
      | (at_builtin; refine wpList_append_ke rfl (.tmp 38) (.tmp 49) _ rfl (w.heap.size + 1) 27 i0 _ 3 24 Try.underlying62 in0 in1 in2 in3 rfl (by decide) (.slice A m c) m _ rfl (hown4.alloc _) (w4.heap.size + 1) (some ⟨w4.heap.size,0,none⟩) 1 1 (rcV a (gt3 x y z a) t k m) rfl (by rw [hsv.out]; exact reads_new (Blk.new _ _ _) rfl (by omega)) (rcV_one _ _ _ _ _) (m + 1) (rowTo (rcV a (gt3 x y z a) t k) (m + 1)) rfl HMK.out (by simp only [maxLen]; omega) (by omega) (w.heap.size + 1) (w1.heap.size + 1) hat.out (by simp <;> omega) (hj4.alloc _) hZ0.out (by omega) (by simp <;> omega) ?_; intro A5 c5 w5 hown5 hat5 hj5 hs5))
     go_roundw
     case rel => exact ⟨m + 1,m + 1,A5,c5,by omega,by rw [HM.out],by go_num,rfl,hown5,hat5,hj5⟩
     case measure => simp [intOf] <;> omega
    ·have HM := Lib.hid (show cM true N (m + 1) = m by rw [show N = m + 1 by omega]; exact cM_yes _)
     go_wp2
     go_roundw
     case rel => exact ⟨m + 1,m,A,c,by omega,by rw [HM.out],by go_num,rfl,hown.out,hat.out,hj⟩
     case measure => simp [intOf] <;> omega
  ·obtain rfl : n = N := by omega
   have hm' := Lib.hid hm
   clear hm
   go_wp2
   go_ret
   exact ⟨A,c,by rw [← hm'.out]; rfl,by rw [← hm'.out]; exact RowA.of_own hown.out,hj.1⟩
end Go.Proofs.Ytogmgaaejepcbaa
