/- What a store into a block of the call's own leaves. -/
import Derived.Test.YtogmgaaejepcbaaEnd
import Derived.Test.YtogmgaaejepcbaaRga
namespace Go.Proofs.Ytogmgaaejepcbaa
open Go.RowKit

section
variable {Z : List (Nat × TypeId × Array Value)} {w W : World} {g : Nat} {t : TypeId} {a b c d e f a' b' c' d' e' f' : Value}
theorem KL.cons {cs : Array Value} (hb : Blk W g t cs) (h : KL Z w W) : KL ((g, t, cs) :: Z) w W := ⟨h.1, fun q hq => by
  rcases List.mem_cons.1 hq with rfl | hq
  · exact hb
  · exact h.2 q hq⟩
theorem st6 (h : KL Z w W) (hw : w.heap.size ≤ g) (hZ : ∀ q ∈ Z, q.1 ≠ g) (hb : Blk W g t #[a, b, c, d, e, f]) :
    KL Z w ((((((W.setCell ⟨g, 0, none⟩ a').setCell ⟨g, 1, none⟩ b').setCell ⟨g, 2, none⟩ c').setCell ⟨g, 3, none⟩ d').setCell ⟨g, 4, none⟩ e').setCell ⟨g, 5, none⟩ f') ∧
    ((((((W.setCell ⟨g, 0, none⟩ a').setCell ⟨g, 1, none⟩ b').setCell ⟨g, 2, none⟩ c').setCell ⟨g, 3, none⟩ d').setCell ⟨g, 4, none⟩ e').setCell ⟨g, 5, none⟩ f').heap.size = W.heap.size ∧
    Blk ((((((W.setCell ⟨g, 0, none⟩ a').setCell ⟨g, 1, none⟩ b').setCell ⟨g, 2, none⟩ c').setCell ⟨g, 3, none⟩ d').setCell ⟨g, 4, none⟩ e').setCell ⟨g, 5, none⟩ f') g t #[a', b', c', d', e', f'] ∧
    ∀ k cs, k ≠ g → Blk W k t cs → Blk ((((((W.setCell ⟨g, 0, none⟩ a').setCell ⟨g, 1, none⟩ b').setCell ⟨g, 2, none⟩ c').setCell ⟨g, 3, none⟩ d').setCell ⟨g, 4, none⟩ e').setCell ⟨g, 5, none⟩ f') k t cs :=
  ⟨(((((h.set (p := ⟨g, 0, none⟩) hw hZ _).set (p := ⟨g, 1, none⟩) hw hZ _).set (p := ⟨g, 2, none⟩) hw hZ _).set (p := ⟨g, 3, none⟩) hw hZ _).set (p := ⟨g, 4, none⟩) hw hZ _).set (p := ⟨g, 5, none⟩) hw hZ _, by simp,
   by simpa using (((((hb.set_ 0 a').set_ 1 b').set_ 2 c').set_ 3 d').set_ 4 e').set_ 5 f', fun _ _ hk hb => (((((hb.far hk _).far hk _).far hk _).far hk _).far hk _).far hk _⟩
theorem st3 (h : KL Z w W) (hw : w.heap.size ≤ g) (hZ : ∀ q ∈ Z, q.1 ≠ g) (hb : Blk W g t #[a, b, c]) :
    KL Z w (((W.setCell ⟨g, 0, none⟩ a').setCell ⟨g, 1, none⟩ b').setCell ⟨g, 2, none⟩ c') ∧ (((W.setCell ⟨g, 0, none⟩ a').setCell ⟨g, 1, none⟩ b').setCell ⟨g, 2, none⟩ c').heap.size = W.heap.size ∧
    Blk (((W.setCell ⟨g, 0, none⟩ a').setCell ⟨g, 1, none⟩ b').setCell ⟨g, 2, none⟩ c') g t #[a', b', c'] ∧
    ∀ k cs, k ≠ g → Blk W k t cs → Blk (((W.setCell ⟨g, 0, none⟩ a').setCell ⟨g, 1, none⟩ b').setCell ⟨g, 2, none⟩ c') k t cs :=
  ⟨((h.set (p := ⟨g, 0, none⟩) hw hZ _).set (p := ⟨g, 1, none⟩) hw hZ _).set (p := ⟨g, 2, none⟩) hw hZ _, by simp, by simpa using ((hb.set_ 0 a').set_ 1 b').set_ 2 c', fun _ _ hk hb => ((hb.far hk _).far hk _).far hk _⟩
end
end Go.Proofs.Ytogmgaaejepcbaa
