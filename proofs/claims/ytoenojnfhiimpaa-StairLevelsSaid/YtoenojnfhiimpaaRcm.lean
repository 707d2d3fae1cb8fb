/- The walk of the reference's Check, put together. No condition. -/
import Derived.Test.YtoenojnfhiimpaaRcka
import Derived.Test.YtoenojnfhiimpaaRckb
import Derived.Test.YtoenojnfhiimpaaRckc
import Derived.Test.YtoenojnfhiimpaaRckd
namespace Go.Proofs.Ytoenojnfhiimpaa
open Go.RowKit

theorem rcheck_any (a b c d p q : Int) (w : World) : Calls Try.prog 13 #[.agg #[.int .i64 a, .int .i64 b, .int .i64 c, .int .i64 d, .int .i64 p, .int .i64 q]] w fun e w' => e = .returned (.int .i64 (chkE a b c d p q)) ∧ Below w.heap.size w w' := by
  have hia := rin_any a 1 10000
  have hib := rin_any b 1 10000
  have hic := rin_any c 1 10000
  have hid := rin_any d 1 10000
  have hip := rin_any p 1 30000
  have hiq := rin_any q 1 30000
  cases ea : inB a 1 10000
  · rw [ea] at hia
    rw [show chkE a b c d p q = 6 by simp [chkE, outB, ea]]
    exact rck_r0 a b c d p q hia w
  · rw [ea] at hia
    cases eb : inB b 1 10000
    · rw [eb] at hib
      rw [show chkE a b c d p q = 6 by simp [chkE, outB, ea, eb]]
      exact rck_r1 a b c d p q hia hib w
    · rw [eb] at hib
      cases ec : inB c 1 10000
      · rw [ec] at hic
        rw [show chkE a b c d p q = 6 by simp [chkE, outB, ea, eb, ec]]
        exact rck_r2 a b c d p q hia hib hic w
      · rw [ec] at hic
        cases ed : inB d 1 10000
        · rw [ed] at hid
          rw [show chkE a b c d p q = 6 by simp [chkE, outB, ea, eb, ec, ed]]
          exact rck_r3 a b c d p q hia hib hic hid w
        · rw [ed] at hid
          cases ep : inB p 1 30000
          · rw [ep] at hip
            rw [show chkE a b c d p q = 6 by simp [chkE, outB, ea, eb, ec, ed, ep]]
            exact rck_r4 a b c d p q hia hib hic hid hip w
          · rw [ep] at hip
            cases eq : inB q 1 30000
            · rw [eq] at hiq
              rw [show chkE a b c d p q = 6 by simp [chkE, outB, ea, eb, ec, ed, ep, eq]]
              exact rck_r5 a b c d p q hia hib hic hid hip hiq w
            · rw [eq] at hiq
              by_cases g0 : b < a
              · rw [show chkE a b c d p q = 1 by simp [chkE, outB, ea, eb, ec, ed, ep, eq, g0]]
                exact rck_i0 a b c d p q hia hib hic hid hip hiq (by simpa using g0) w
              · skip
                by_cases g1 : d < c
                · rw [show chkE a b c d p q = 1 by simp [chkE, outB, ea, eb, ec, ed, ep, eq, g1]]
                  exact rck_i1 a b c d p q hia hib hic hid hip hiq (by simpa using g0) (by simpa using g1) w
                · skip
                  by_cases g2 : q < p
                  · rw [show chkE a b c d p q = 1 by simp [chkE, outB, ea, eb, ec, ed, ep, eq, g2]]
                    exact rck_i2 a b c d p q hia hib hic hid hip hiq (by simpa using g0) (by simpa using g1) (by simpa using g2) w
                  · skip
                    rw [show chkE a b c d p q = 0 by simp [chkE, outB, ea, eb, ec, ed, ep, eq, g0, g1, g2]]
                    exact rck_ok a b c d p q hia hib hic hid hip hiq (by simpa using g0) (by simpa using g1) (by simpa using g2) w
end Go.Proofs.Ytoenojnfhiimpaa
