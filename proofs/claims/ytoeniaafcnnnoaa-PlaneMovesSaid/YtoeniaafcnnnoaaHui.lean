/- What plane's Hull answers at a valid half-space and box. -/
import Derived.Test.YtoeniaafcnnnoaaHul
namespace Go.Proofs.Ytoeniaafcnnnoaa
open Go.RowKit

def slk (a b c d x y z p q r : Int) : Int := d - lsI a x p - lsI b y q - lsI c z r
theorem ls_bd {f lo hi : Int} (hf : inF f = true) (hl : inC lo = true) (hh : inC hi = true) : -2000000000 ≤ lsI f lo hi ∧ lsI f lo hi ≤ 2000000000 := by
  have h1 := inC_iff.1 hl
  have h2 := inC_iff.1 hh
  have m1 := mul_bd3 (inF_abs hf) (C := 1000001) (a := lo + 1) (by omega)
  have m2 := mul_bd3 (inF_abs hf) (C := 1000001) (a := hi - 1) (by omega)
  unfold lsI
  split <;> omega
structure Val (a b c d x y z p q r : Int) : Prop where
  fa : inF a = true
  fb : inF b = true
  fc : inF c = true
  fd : inD d = true
  cx : inC x = true
  cy : inC y = true
  cz : inC z = true
  cp : inC p = true
  cq : inC q = true
  cr : inC r = true
  lx : x < p
  ly : y < q
  lz : z < r
  nz : zer a b c = false
theorem val_of {a b c d x y z p q r : Int} (h : eHB a b c d x y z p q r = 0) : Val a b c d x y z p q r := by
  obtain ⟨ha, hb⟩ := eHB_zero h
  obtain ⟨hok, hz⟩ := eH_zero ha
  obtain ⟨hv1, hv2, l1, l2, l3⟩ := eB_zero hb
  obtain ⟨h1, h2, h3, h4⟩ := okF_iff.1 hok
  obtain ⟨c1, c2, c3⟩ := inV_iff.1 hv1
  obtain ⟨c4, c5, c6⟩ := inV_iff.1 hv2
  exact ⟨h1, h2, h3, h4, c1, c2, c3, c4, c5, c6, l1, l2, l3, hz⟩
theorem Hull_none (a b c d x y z p q r : Int) (h : eHB a b c d x y z p q r = 0) (hs : slk a b c d x y z p q r < 0) (w : World) :
    Calls Try.prog 33 #[.agg #[.int .i64 a, .int .i64 b, .int .i64 c, .int .i64 d], .agg #[.int .i64 x, .int .i64 y, .int .i64 z, .int .i64 p, .int .i64 q, .int .i64 r]] w fun e w' => e = .returned (.tuple #[.agg #[.int .i64 0, .int .i64 0, .int .i64 0, .int .i64 0, .int .i64 0, .int .i64 0], .int .i64 9]) ∧ Below w.heap.size w w' := by
  have v := val_of h
  have := inF_iff.1 v.fa; have := inF_iff.1 v.fb; have := inF_iff.1 v.fc; have := inD_iff.1 v.fd
  have := inC_iff.1 v.cx; have := inC_iff.1 v.cy; have := inC_iff.1 v.cz; have := inC_iff.1 v.cp; have := inC_iff.1 v.cq; have := inC_iff.1 v.cr
  have := v.lx; have := v.ly; have := v.lz
  exact Hull_gen a b c d x y z p q r _ _ _ _ _ _ _ _ _ _ 0 0 0 0 0 0 9 h rfl rfl rfl rfl (fun _ => ⟨⟨rfl, rfl, rfl, rfl, rfl, rfl⟩, rfl⟩) (fun h' => absurd hs (by unfold slk; omega))
    rfl rfl rfl rfl rfl rfl (by omega) (by omega) (by omega) (by omega) (by omega) (by omega) (by omega) (ls_bd v.fa v.cx v.cp) (ls_bd v.fb v.cy v.cq) (ls_bd v.fc v.cz v.cr) w
theorem Hull_ok (a b c d x y z p q r : Int) (h : eHB a b c d x y z p q r = 0) (hs : 0 ≤ slk a b c d x y z p q r) (w : World) :
    Calls Try.prog 33 #[.agg #[.int .i64 a, .int .i64 b, .int .i64 c, .int .i64 d], .agg #[.int .i64 x, .int .i64 y, .int .i64 z, .int .i64 p, .int .i64 q, .int .i64 r]] w fun e w' => e = .returned (.tuple #[.agg #[.int .i64 (spLo a x p (slk a b c d x y z p q r)), .int .i64 (spLo b y q (slk a b c d x y z p q r)), .int .i64 (spLo c z r (slk a b c d x y z p q r)), .int .i64 (spHi a x p (slk a b c d x y z p q r)), .int .i64 (spHi b y q (slk a b c d x y z p q r)), .int .i64 (spHi c z r (slk a b c d x y z p q r))], .int .i64 0]) ∧ Below w.heap.size w w' := by
  have v := val_of h
  have := inF_iff.1 v.fa; have := inF_iff.1 v.fb; have := inF_iff.1 v.fc; have := inD_iff.1 v.fd
  have := inC_iff.1 v.cx; have := inC_iff.1 v.cy; have := inC_iff.1 v.cz; have := inC_iff.1 v.cp; have := inC_iff.1 v.cq; have := inC_iff.1 v.cr
  have := v.lx; have := v.ly; have := v.lz
  exact Hull_gen a b c d x y z p q r _ _ _ (slk a b c d x y z p q r) _ _ _ _ _ _ _ _ _ _ _ _ 0 h rfl rfl rfl rfl (fun h' => absurd hs (by omega)) (fun _ => ⟨⟨rfl, rfl, rfl, rfl, rfl, rfl⟩, rfl⟩)
    rfl rfl rfl rfl rfl rfl (by omega) (by omega) (by omega) (by omega) (by omega) (by omega) (by omega) (ls_bd v.fa v.cx v.cp) (ls_bd v.fb v.cy v.cq) (ls_bd v.fc v.cz v.cr) w
end Go.Proofs.Ytoeniaafcnnnoaa
