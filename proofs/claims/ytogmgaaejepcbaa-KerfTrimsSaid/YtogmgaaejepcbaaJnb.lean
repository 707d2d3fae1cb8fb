/- When two boxes are parts of one. -/
import Derived.Test.YtogmgaaejepcbaaCk
namespace Go.Proofs.Ytogmgaaejepcbaa
open Go.RowKit

def jnB0 (_x y z _p q r a b c d s u : Int) : Bool := (a == a && (y == b && z == c)) && (d == d && (q == s && r == u))
def jnB1 (x _y z p _q r a b c d s u : Int) : Bool := (x == a && (b == b && z == c)) && (p == d && (s == s && r == u))
def jnB2 (x y _z p q _r a b c d s u : Int) : Bool := (x == a && (y == b && c == c)) && (p == d && (q == s && u == u))
end Go.Proofs.Ytogmgaaejepcbaa
