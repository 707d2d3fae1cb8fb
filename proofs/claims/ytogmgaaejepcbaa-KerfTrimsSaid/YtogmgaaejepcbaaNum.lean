/- The walks of vector's and the reference's small functions: coordinates, Check, cmp.Compare. No condition. -/
import Derived.Test.YtogmgaaejepcbaaProg
import Derived.Test.YtogmgaaejepcbaaKit
import Derived.WalkKit
import Derived.WalkSpells
import Derived.WalkLawsBesides
import Derived.Deep.QuietTactic
import Derived.BigQuiet
import Derived.Laws.StructEq
import Derived.Lib.Hide
namespace Go.Proofs.Ytogmgaaejepcbaa
open Go.RowKit

def inC (n : Int) : Bool := decide (-1000000 ≤ n) && decide (n ≤ 1000000)
theorem inC_iff {n : Int} : inC n = true ↔ (-1000000 ≤ n ∧ n ≤ 1000000) := by simp [inC]
def inV (x y z : Int) : Bool := inC x && inC y && inC z
theorem inV_iff {x y z : Int} : inV x y z = true ↔ (inC x = true ∧ inC y = true ∧ inC z = true) := by simp [inV, and_assoc]
def eV (x y z : Int) : Int := if inV x y z then 0 else 6

def cmpI (a b : Int) : Int := if a < b then -1 else if b < a then 1 else 0
def lessV (x y z a b c : Int) : Bool := if x = a then (if y = b then decide (z < c) else decide (y < b)) else decide (x < a)
def cmpV (x y z a b c : Int) : Int := if lessV x y z a b c then -1 else if lessV a b c x y z then 1 else 0
theorem eV_0 {x y z : Int} (hx : inC x = true) (hy : inC y = true) (hz : inC z = true) : eV x y z = 0 := by simp [eV, inV, hx, hy, hz]
theorem eV_x {x y z : Int} (h : inC x = false) : eV x y z = 6 := by simp [eV, inV, h]
theorem eV_y {x y z : Int} (h : inC y = false) : eV x y z = 6 := by simp [eV, inV, h]
theorem eV_z {x y z : Int} (h : inC z = false) : eV x y z = 6 := by simp [eV, inV, h]
theorem inC_lo {n : Int} (h : n < -1000000) : inC n = false := by simp [inC]; omega
theorem inC_hi {n : Int} (h : 1000000 < n) : inC n = false := by simp [inC]; omega

end Go.Proofs.Ytogmgaaejepcbaa
