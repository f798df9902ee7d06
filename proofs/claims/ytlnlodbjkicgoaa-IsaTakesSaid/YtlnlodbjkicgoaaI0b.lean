/- Layer 8 in numbers: May, field by field. -/
import Derived.Test.YtlnlodbjkicgoaaI0
namespace Go.Proofs.Ytlnlodbjkicgoaa
open Go.ChangeShapes Go.WideShapes Go.ChangeAt Go.RowKit
set_option linter.unusedVariables false
/-- What is left of May's answer at a field. -/
def goE (fs : List Fld) (c : List Int) : Int := if mayGo fs c then 0 else 1
theorem mayE_kind {c : List Int} (h : kindP (c.getD 0 0)) : mayE c = goE (fldsD (c.getD 0 0)) c := by
  unfold mayE goE
  by_cases q : mayGo (fldsD (c.getD 0 0)) c
  · rw [if_pos ⟨h, q⟩, if_pos q]
  · rw [if_neg (fun k => q k.2), if_neg q]
theorem mayE_none {c : List Int} (h : ¬ kindP (c.getD 0 0)) : mayE c = 1 := if_neg (fun k => h k.1)
theorem goE_yes {f : Fld} {fs : List Fld} {c : List Int} (h : inF f c) : goE (f :: fs) c = goE fs (c.set f.pos 0) := by
  unfold goE
  by_cases q : mayGo fs (c.set f.pos 0)
  · rw [if_pos ⟨h, q⟩, if_pos q]
  · rw [if_neg (fun k => q k.2), if_neg q]
theorem goE_no {f : Fld} {fs : List Fld} {c : List Int} (h : ¬ inF f c) : goE (f :: fs) c = 1 := if_neg (fun k => h k.1)
theorem goE_nil (c : List Int) : goE [] c = if c.tail = List.replicate 13 0 then 0 else 1 := by
  unfold goE
  by_cases q : bareP c
  · exact (if_pos q).trans (if_pos q).symm
  · exact (if_neg q).trans (if_neg q).symm
theorem mayE_ok {c : List Int} : mayE c = 0 ↔ mayD c := by unfold mayE; split <;> simp_all
theorem fldsD_len (k : Int) : (fldsD k).length ≤ 10 := by
  unfold fldsD
  split
  · decide
  split
  · decide
  split
  · decide
  split
  · decide
  · decide
end Go.Proofs.Ytlnlodbjkicgoaa
