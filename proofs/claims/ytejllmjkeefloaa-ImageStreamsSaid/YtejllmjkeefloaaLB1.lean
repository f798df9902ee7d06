/- ImageParts: the walk. -/
import Derived.Deep.DeepCutAuto
import Derived.OpenShut
import Derived.Deep.QuietTactic
import Derived.BigQuiet
import Derived.Test.YtejllmjkeefloaaLA0
import Derived.Test.YtejllmjkeefloaaLA7
import Derived.Test.YtejllmjkeefloaaLA8
import Derived.Test.YtejllmjkeefloaaLN1
import Derived.Test.YtejllmjkeefloaaLL0
import Derived.Test.YtejllmjkeefloaaLFix
import Derived.Test.YtejllmjkeefloaaLG2
import Derived.Test.YtejllmjkeefloaaLI12
import Derived.Test.YtejllmjkeefloaaLV2
import Derived.Test.YtejllmjkeefloaaLRead
namespace Go.Proofs.Ytejllmjkeefloaa
open Go.ChangeShapes Go.WideShapes Go.ChangeAt Go.RowKit
set_option maxRecDepth 20000
set_option linter.unusedVariables false
set_option linter.unusedSimpArgs false
theorem cmds_save {B : Nat} {w w' : World} {v : Value} {l : List (List Int)} (h : Q8.IsCmds w v l) (hN : NoInt w B) (g : Save B w w') : Q8.IsCmds w' v l := by
  obtain ⟨A, cap, e, h1, h2, h3, h4, h5⟩ := h
  refine ⟨A, cap, e, h1, h2, h3, h4, fun hp => ?_⟩
  obtain ⟨b, off, ea, hb, hc⟩ := h5 hp
  have hne : b ≠ B := by
    rintro rfl
    have wc := Q8.wfC_at h4 hp
    have c0 := hc 0 hp 0
    obtain ⟨x, xs, hx⟩ : ∃ x xs, l.getD 0 [] = x :: xs := by
      cases q : l.getD 0 [] with
      | nil => rw [q] at wc; exact absurd wc.1 (by simp)
      | cons x xs => exact ⟨x, xs, rfl⟩
    rw [hx] at c0
    exact hN _ _ _ (c0 (.int .i64 x) rfl)
  exact ⟨b, off, ea, Nat.lt_of_lt_of_le hb g.1, fun i hi j v hv => (g.cell hb hne).trans (hc i hi j v hv)⟩
theorem img_save {B : Nat} {w w' : World} {v : Value} {i : ImgD} (h : IsImg w v i) (hN : NoInt w B) (g : Save B w w') : IsImg w' v i := by
  obtain ⟨iv, nv, ov, pv, u0, u1, u2, rfl, a, b, c, d, e⟩ := h
  exact ⟨iv, nv, ov, pv, u0, u1, u2, rfl, graph_save a hN g, nums_save b hN g, cmds_save c hN g, cmds_save d hN g, cmds_save e hN g⟩
theorem save7 {w : World} {B : Nat} {y0 y1 y2 y3 y4 y5 y6 : Value} : Save B w (((((((w.setCell ⟨B, 0, none⟩ y0).setCell ⟨B, 1, none⟩ y1).setCell ⟨B, 2, none⟩ y2).setCell ⟨B, 3, none⟩ y3).setCell ⟨B, 4, none⟩ y4).setCell ⟨B, 5, none⟩ y5).setCell ⟨B, 6, none⟩ y6) := (((((((Save.refl B w).set 0 y0).set 1 y1).set 2 y2).set 3 y3).set 4 y4).set 5 y5).set 6 y6
theorem past7 {W w : World} {B : Nat} {y0 y1 y2 y3 y4 y5 y6 : Value} (h : Past W w) (hB : W.heap.size ≤ B) : Past W (((((((w.setCell ⟨B, 0, none⟩ y0).setCell ⟨B, 1, none⟩ y1).setCell ⟨B, 2, none⟩ y2).setCell ⟨B, 3, none⟩ y3).setCell ⟨B, 4, none⟩ y4).setCell ⟨B, 5, none⟩ y5).setCell ⟨B, 6, none⟩ y6) := ((((((h.setCell (p := ⟨B, 0, none⟩) hB y0).setCell (p := ⟨B, 1, none⟩) hB y1).setCell (p := ⟨B, 2, none⟩) hB y2).setCell (p := ⟨B, 3, none⟩) hB y3).setCell (p := ⟨B, 4, none⟩) hB y4).setCell (p := ⟨B, 5, none⟩) hB y5).setCell (p := ⟨B, 6, none⟩) hB y6
theorem free7 {w : World} {B b : Nat} {y0 y1 y2 y3 y4 y5 y6 : Value} (h : (∀ o : Nat, w.frozen? ⟨b, o, none⟩ = false)) : (∀ o : Nat, (((((((w.setCell ⟨B, 0, none⟩ y0).setCell ⟨B, 1, none⟩ y1).setCell ⟨B, 2, none⟩ y2).setCell ⟨B, 3, none⟩ y3).setCell ⟨B, 4, none⟩ y4).setCell ⟨B, 5, none⟩ y5).setCell ⟨B, 6, none⟩ y6).frozen? ⟨b, o, none⟩ = false) := free_set (free_set (free_set (free_set (free_set (free_set (free_set h))))))
theorem size7 {w : World} {B m : Nat} {y0 y1 y2 y3 y4 y5 y6 : Value} (h : m ≤ w.heap.size) : m ≤ (((((((w.setCell ⟨B, 0, none⟩ y0).setCell ⟨B, 1, none⟩ y1).setCell ⟨B, 2, none⟩ y2).setCell ⟨B, 3, none⟩ y3).setCell ⟨B, 4, none⟩ y4).setCell ⟨B, 5, none⟩ y5).setCell ⟨B, 6, none⟩ y6).heap.size := size_set (size_set (size_set (size_set (size_set (size_set (size_set h))))))
theorem cut_cutI (i : ImgD) : Cut (cutI i).g := cut_lessD i.g
theorem cutI_len (i : ImgD) : (graphB (cutI i).g).length ≤ 500000 := by have := lessD_len i.g; show (graphB (lessD i.g)).length ≤ _; omega
end Go.Proofs.Ytejllmjkeefloaa
