/-
  A slice of structs of an integer and a slice of strings that came in. Nothing of the program.
-/
import Derived.Test.YtjokgiheabmolaaLsArg
namespace Go.Proofs.Ytjokgiheabmolaa
open Go.RowKit Go.ChangeShapes Go.Deep

structure ArgPa (w : World) (a : Option Addr) (n cap : Nat) (us : List (Int × List ByteArray)) : Prop where
  ln : us.length = n
  lc : n ≤ cap
  lm : cap ≤ maxLen
  get : ∀ i u, us[i]? = some u → ∃ b off a' c', a = some ⟨b, off, none⟩ ∧ b < w.heap.size ∧ w.cell? ⟨b, off + i * 2, none⟩ = some (.int .i64 u.1) ∧ w.cell? ⟨b, off + i * 2 + 1, none⟩ = some (.slice a' u.2.length c') ∧ ArgSs w a' u.2.length c' u.2
theorem ArgPa.below {w w' : World} {a : Option Addr} {n cap : Nat} {us : List (Int × List ByteArray)} (h : ArgPa w a n cap us) (hb : Below w.heap.size w w') : ArgPa w' a n cap us :=
  ⟨h.ln, h.lc, h.lm, fun i u hi => by
    obtain ⟨b, off, a', c', h1, h2, h3, h4, h5⟩ := h.get i u hi
    exact ⟨b, off, a', c', h1, Nat.lt_of_lt_of_le h2 hb.size, (World.cell?_of_block (hb.block b h2)).trans h3, (World.cell?_of_block (hb.block b h2)).trans h4, h5.below hb⟩⟩
end Go.Proofs.Ytjokgiheabmolaa
