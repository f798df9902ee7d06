/- quiltlaw09's less: an image of at most 6 values, 14 nodes, 6 that come out, 30 places, streams of 300 commands. -/
import Derived.Deep.DeepCutAuto
import Derived.Test.YtejllmjkeefloaaGreatMA1
import Derived.Test.YtejllmjkeefloaaGreatMI14
namespace Go.Proofs.YtejllmjkeefloaaGreat
open Go.ChangeShapes Go.WideShapes Go.ChangeAt Go.RowKit
set_option maxRecDepth 20000
set_option linter.unusedVariables false
set_option linter.unusedSimpArgs false
theorem box_set7 {w:World}{b:Nat}{x0 x1 x2 x3 x4 x5 x6 y0 y1 y2 y3 y4 y5 y6:Value}(h:(Bx w b #[x0,x1,x2,x3,x4,x5,x6])):(Bx (((((((w.setCell ⟨b,0,none⟩ y0).setCell ⟨b,1,none⟩ y1).setCell ⟨b,2,none⟩ y2).setCell ⟨b,3,none⟩ y3).setCell ⟨b,4,none⟩ y4).setCell ⟨b,5,none⟩ y5).setCell ⟨b,6,none⟩ y6) b #[y0,y1,y2,y3,y4,y5,y6]):=by
 have h0:=box_at h 0 (by simp) y0;rw [show(#[x0,x1,x2,x3,x4,x5,x6]:Array Value).setIfInBounds 0 y0=#[y0,x1,x2,x3,x4,x5,x6] from rfl] at h0;have h1:=box_at h0 1 (by simp) y1;rw [show(#[y0,x1,x2,x3,x4,x5,x6]:Array Value).setIfInBounds 1 y1=#[y0,y1,x2,x3,x4,x5,x6] from rfl] at h1;have h2:=box_at h1 2 (by simp) y2;rw [show(#[y0,y1,x2,x3,x4,x5,x6]:Array Value).setIfInBounds 2 y2=#[y0,y1,y2,x3,x4,x5,x6] from rfl] at h2;have h3:=box_at h2 3 (by simp) y3;rw [show(#[y0,y1,y2,x3,x4,x5,x6]:Array Value).setIfInBounds 3 y3=#[y0,y1,y2,y3,x4,x5,x6] from rfl] at h3;have h4:=box_at h3 4 (by simp) y4;rw [show(#[y0,y1,y2,y3,x4,x5,x6]:Array Value).setIfInBounds 4 y4=#[y0,y1,y2,y3,y4,x5,x6] from rfl] at h4;have h5:=box_at h4 5 (by simp) y5;rw [show(#[y0,y1,y2,y3,y4,x5,x6]:Array Value).setIfInBounds 5 y5=#[y0,y1,y2,y3,y4,y5,x6] from rfl] at h5;have h6:=box_at h5 6 (by simp) y6;rw [show(#[y0,y1,y2,y3,y4,y5,x6]:Array Value).setIfInBounds 6 y6=#[y0,y1,y2,y3,y4,y5,y6] from rfl] at h6;exact h6
theorem noInt7 {w:World}{B:Nat}{a0 a1 a2 a3 a4 a5 a6:Option Addr}{l0 l1 l2 l3 l4 l5 l6 c0 c1 c2 c3 c4 c5 c6:Nat}(h:(Bx w B #[.slice a0 l0 c0,.slice a1 l1 c1,.slice a2 l2 c2,.slice a3 l3 c3,.slice a4 l4 c4,.slice a5 l5 c5,.slice a6 l6 c6])):NoInt w B:=by
 intro o k n;rw [h o];match o with
 | 0=>simp
 | 1=>simp
 | 2=>simp
 | 3=>simp
 | 4=>simp
 | 5=>simp
 | 6=>simp
 | o+7=>simp
end Go.Proofs.YtejllmjkeefloaaGreat
