/- Worlds that grow; bounds of numbers and masks. Layer 2 in numbers: shapes, windows, what is under them. -/
import Derived.Test.YtejllmjkeefloaaGreatProg
import Derived.Lib.Hide
import Derived.Handy
import Derived.Outline
import Derived.RegionTactic
import Derived.WalkKit
import Derived.ProofKit
import Derived.LoopTactic
import Derived.Deep.RegionHeld3
namespace Go.Proofs.YtejllmjkeefloaaGreat
open Go.ChangeShapes Go.WideShapes Go.ChangeAt Go.RowKit
abbrev Bx (w:World) (b:Nat) (cs:Array Value):Prop:=∀ o:Nat,w.cell? ⟨b,o,none⟩=cs[o]?
abbrev Fr (w:World) (b:Nat):Prop:=∀ o:Nat,w.frozen? ⟨b,o,none⟩=false
abbrev nZ:Array Value:=#[.int .i64 0,.slice none 0 0,.int .i64 0,.int .i64 0,.int .i64 0,.int .i64 0,.int .i64 0,.int .i64 0,.int .i64 0,.int .i64 0,.int .i64 0,.int .i64 0,.slice none 0 0,.slice none 0 0]
theorem LH {p:Prop}(h:p):Hid p:=Lib.hid h
theorem grown_trans {a b c:World}(h:Grown a b)(k:Grown b c):Grown a c :=
 ⟨World.keptBut_trans h.1 (World.keptBut_mono (fun _ f=>f.elim) k.1),fun x=>(k.2.1 x).trans (h.2.1 x),Nat.le_trans h.2.2 k.2.2⟩
theorem grown_cell {W w':World}(h:Grown W w'){p:Addr}(hp:p.block<W.heap.size):w'.cell? p=W.cell? p:=by
 have k:=h.1.2.2 p.block hp;unfold World.cell?;cases e1:W.heap[p.block]? with
 | none=>rw [e1] at k;simp at e1;omega
 | some o =>
  rw [e1] at k;cases e2:w'.heap[p.block]? with
  | none=>rw [e2] at k;cases o <;> simp at k
  | some o' =>
   rw [e2] at k;cases o <;> cases o' <;> simp_all
theorem wf_u8 {x:Int}(h:(Lit.int .u8 x).wf=true):0<=x/\x<=255:=by
 simpa [Lit.wf,IntKind.min,IntKind.max,IntKind.bits,IntKind.signed] using h
theorem mul_bd {x y a b:Int}(h1:1<=x)(h2:x<=a)(h3:1<=y)(h4:y<=b):1<=x*y/\x*y<=a*b:=by
 constructor
 ·have:=Int.mul_le_mul h1 h3 (by omega) (by omega);simpa using this
 ·exact Int.mul_le_mul h2 h4 (by omega) (by omega)
end Go.Proofs.YtejllmjkeefloaaGreat
namespace Go.Proofs.YtejllmjkeefloaaGreat
open Go.ChangeShapes Go.WideShapes Go.ChangeAt Go.RowKit
def prodN (f:Nat->Int):Nat->Int
 | 0=>1
 | k+1=>prodN f k*f k
def mayS (H W C:Int):Prop:=1<=H/\H<=16/\1<=W/\W<=16/\1<=C/\C<=8
def mayWin (size k stride pad:Int):Prop:=1<=size/\size<=64/\1<=k/\k<=16/\1<=stride/\stride<=16/\0<=pad/\pad<=16/\k<=size+2*pad
open Classical in
/-- P2.2's number. -/
noncomputable def outI (size k stride pad:Int):Int:=if mayWin size k stride pad then 1+(size+2*pad-k) / stride else 0
theorem outI_yes {size k stride pad:Int}(h:mayWin size k stride pad):outI size k stride pad=1+(size+2*pad-k) / stride:=by unfold outI;rw [if_pos h]
theorem outI_no {size k stride pad:Int}(h:¬ mayWin size k stride pad):outI size k stride pad=0:=by unfold outI;rw [if_neg h]
open Classical in
noncomputable def sizeI (H W C:Int):Int:=if mayS H W C then H*W*C else 0
theorem out_bd {size k stride pad:Int}(h:mayWin size k stride pad):1<=outI size k stride pad/\outI size k stride pad<=97:=by
 rw [outI_yes h];obtain⟨h1,h2,h3,h4,h5,h6,h7,h8,h9⟩:=h;have d1:(size+2*pad-k) / stride<=96:=Int.le_trans (Int.ediv_le_self _ (by omega)) (by omega);have d2:0<=(size+2*pad-k) / stride:=Int.ediv_nonneg (by omega) (by omega);omega
theorem out_ge {size k stride pad:Int}:0<=outI size k stride pad/\outI size k stride pad<=97:=by
 by_cases c:mayWin size k stride pad
 ·have:=out_bd c;omega
 ·rw [outI_no c];omega
end Go.Proofs.YtejllmjkeefloaaGreat
