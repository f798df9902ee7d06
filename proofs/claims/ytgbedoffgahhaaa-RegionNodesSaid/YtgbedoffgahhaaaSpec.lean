/- graph in numbers: which nodes may be, what they make, how many weights: P3.1's answer as plain data. -/
import Derived.Test.YtgbedoffgahhaaaG5
import Derived.Test.YtgbedoffgahhaaaG6
namespace Go.Proofs.Ytgbedoffgahhaaa
open Go.ChangeShapes Go.WideShapes Go.ChangeAt Go.RowKit
set_option linter.unusedVariables false

def opD (o : Int) : OpD :=
  if o = 1 then ⟨1, 1, 3, 1, 2, 0, 1, 1, 8, false, false⟩ else
  if o = 2 then ⟨1, 1, 3, 1, 2, 0, 1, 0, 0, false, false⟩ else
  if o = 3 then ⟨1, 0, 0, 0, 0, 0, 0, 1, 8, false, false⟩ else
  if o = 4 then ⟨1, 1, 3, 1, 2, 0, 0, 0, 0, false, true⟩ else
  if o = 5 then ⟨1, 1, 3, 1, 2, 0, 0, 0, 0, false, true⟩ else
  if o = 6 then ⟨2, 0, 0, 0, 0, 0, 0, 0, 0, false, false⟩ else
  if o = 7 then ⟨2, 0, 0, 0, 0, 0, 0, 0, 0, false, false⟩ else
  if o = 8 then ⟨1, 0, 0, 0, 0, 0, 0, 0, 0, false, true⟩ else
  if o = 9 then ⟨1, 0, 0, 0, 0, 1, 1, 0, 0, false, true⟩ else
  if o = 10 then ⟨2, 0, 0, 0, 0, 0, 0, 0, 0, false, true⟩ else
  if o = 11 then ⟨1, 0, 0, 0, 0, 0, 0, 0, 0, true, true⟩ else
  ⟨1, 0, 0, 0, 0, 0, 0, 0, 0, false, false⟩

/-- What is asked of a node's own settings, by an op's record. -/
def setP (r : OpD) (n : NodeD) : Prop := ((r.k1 ≤ n.k ∧ n.k ≤ r.k2) ∧ (r.s1 ≤ n.stride ∧ n.stride ≤ r.s2) ∧ (r.p1 ≤ n.pad ∧ n.pad ≤ r.p2) ∧ (r.o1 ≤ n.out ∧ n.out ≤ r.o2)) ∧ ¬ (0 < r.k2 ∧ n.k ≤ n.pad) ∧ (r.resh = true ∨ (n.th = 0 ∧ n.tw = 0 ∧ n.tc = 0))
def scaledP (n : NodeD) : Prop := (1 ≤ n.mul ∧ n.mul ≤ 32767) ∧ (0 ≤ n.shift ∧ n.shift ≤ 31) ∧ (-128 ≤ n.zero ∧ n.zero ≤ 127)
def takesP (r : OpD) (n : NodeD) (vs : List ValD) : Prop := (vs.length : Int) = r.vals ∧ (∀ j, j < vs.length → ¬ (r.keeps = true ∧ (vs.getD j default).z ≠ n.zero)) ∧ scaledP n ∧ setP r n
def hasOp (o : Int) : Prop := 1 ≤ o ∧ o ≤ 12

/-- The shape that a node makes (one that may not be, if there is none). -/
noncomputable def madeS (n : NodeD) (vs : List ValD) : Int × Int × Int :=
  let x := vs.getD 0 default
  let y := vs.getD 1 default
  if n.op = 1 then (outI x.h n.k n.stride n.pad, outI x.w n.k n.stride n.pad, n.out) else
  if n.op = 2 ∨ n.op = 4 ∨ n.op = 5 then (outI x.h n.k n.stride n.pad, outI x.w n.k n.stride n.pad, x.c) else
  if n.op = 3 then (1, 1, n.out) else
  if n.op = 9 then (x.h + 2, x.w + 2, x.c) else
  if n.op = 10 then (if x.h = y.h ∧ x.w = y.w then (x.h, x.w, x.c + y.c) else (0, 0, 0)) else
  if n.op = 11 then (if sizeI n.th n.tw n.tc = sizeI x.h x.w x.c then (n.th, n.tw, n.tc) else (0, 0, 0)) else
  alikeS vs

/-- How many weights, and how many B, of a first value and the channels made. -/
noncomputable def wantS (n : NodeD) (x : ValD) (c : Int) : Int × Int :=
  if n.op = 1 then (n.k * n.k * x.c * c, c) else
  if n.op = 2 then (n.k * n.k * c, c) else
  if n.op = 3 then (sizeI x.h x.w x.c * c, c) else
  if n.op = 12 then (256, 0) else (0, 0)

def mayV (x : ValD) : Prop := mayS x.h x.w x.c
def mayT (s : Int × Int × Int) : Prop := mayS s.1 s.2.1 s.2.2
def nearB (b : Int) : Prop := -16777216 ≤ b ∧ b ≤ 16777216

open Classical in
/-- P3.1: the error's number. -/
noncomputable def valueE (n : NodeD) (vs : List ValD) : Int :=
  if ¬ (hasOp n.op ∧ takesP (opD n.op) n vs) then 11 else
  if ¬ ∀ j, j < vs.length → mayV (vs.getD j default) then 10 else
  if ¬ mayT (madeS n vs) then 10 else
  if ¬ ((n.ws.length : Int) = (wantS n (vs.getD 0 default) (madeS n vs).2.2).1 ∧ (n.bs.length : Int) = (wantS n (vs.getD 0 default) (madeS n vs).2.2).2 ∧ ∀ j, j < n.bs.length → nearB (n.bs.getD j 0)) then 12 else 0

open Classical in
/-- P3.1: the value. -/
noncomputable def valueV (n : NodeD) (vs : List ValD) : ValD := if valueE n vs = 0 then ⟨(madeS n vs).1, (madeS n vs).2.1, (madeS n vs).2.2, n.zero⟩ else ⟨0, 0, 0, 0⟩
end Go.Proofs.Ytgbedoffgahhaaa
