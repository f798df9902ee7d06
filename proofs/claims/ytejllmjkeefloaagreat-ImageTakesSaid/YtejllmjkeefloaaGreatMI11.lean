/- isa: Put, Steps. Bytes as strings; Steps; the laws' head. A slice of one command; an owned row one command longer. Bytes as strings; a slice's first part; bytes.Equal, the program's Open; appends. The reference's Seal and Open; the laws' head. The reference of layer 4: the reader; num. -/
import Derived.Test.YtejllmjkeefloaaGreatMI10
import Derived.Laws.BytesArg
import Derived.Great.BuildSlice
import Derived.OwnWalk
import Derived.BigFrame
import Derived.Test.YtejllmjkeefloaaGreatMN7
namespace Go.Proofs.YtejllmjkeefloaaGreat.Q8
open Go.ChangeShapes Go.WideShapes Go.ChangeAt Go.RowKit
set_option maxRecDepth 20000
set_option linter.unusedVariables false
set_option linter.unusedSimpArgs false
def putL (l:List (List Int)):List Int:=if l.length<=4096/\∀ c∈l,mayD c then putB l else []
def putE (l:List (List Int)):Int:=if 4096<l.length then 3 else if ∀ c∈l,mayD c then 0 else 1
def PutPost (l:List (List Int))(W:World)(e:Ending)(w':World):Prop:=∃ v,e=.returned (.tuple #[v,.int .i64 (putE l)])/\OwnB w' W.heap.size v (putL l)/\Past W w'
theorem put_big {l:List (List Int)}(h:4096<l.length):putL l=[]/\putE l=3:=⟨if_neg (fun k=>by omega),if_pos h⟩
theorem put_bad {l:List (List Int)}(h:l.length<=4096){c:List Int}(hc:c∈l)(hm:¬ mayD c):putL l=[]/\putE l=1:=by
 have q:¬ ∀ c∈l,mayD c:=fun k=>hm (k c hc)
 exact⟨if_neg (fun k=>q k.2),by unfold putE;rw [if_neg (by omega),if_neg q]⟩
theorem put_ok {l:List (List Int)}(h:l.length<=4096)(hm:∀ c∈l,mayD c):putL l=putB l/\putE l=0 :=
 ⟨if_pos ⟨h,hm⟩,by unfold putE;rw [if_neg (by omega),if_pos hm]⟩
theorem restW_le (k:Int):restW k<=13:=by
 unfold restW fldsD;split
 ·decide
 split
 ·decide
 split
 ·decide
 split
 ·decide
 ·decide
theorem flatB_len (l:List (List Int)):(l.flatMap cmdB).length<=14*l.length:=by
 induction l with
 | nil=>simp
 | cons c l ih =>
  have:=restW_le (c.getD 0 0);simp only [List.flatMap_cons,List.length_append,List.length_cons,cmdB_len];omega
theorem putB_len (l:List (List Int)):(putB l).length<=2+14*l.length:=by
 have:=flatB_len l;unfold putB;rw [List.length_append,numB_len];omega
theorem flatB_take {l:List (List Int)}{n:Nat}(h:n<l.length):(l.take (n+1)).flatMap cmdB=(l.take n).flatMap cmdB++cmdB (l.getD n []):=by
 rw [List.take_succ_eq_append_getElem h,List.flatMap_append];simp [List.getD,h]
set_option maxHeartbeats 400000 in
theorem put_any (lv:Value) (l:List (List Int)) (W:World) (h:IsCmds W lv l):Calls Tryz.prog 56 #[lv] W (PutPost l W):=by
 have HC:=LH h
 obtain ⟨A,cap,rfl,h2,h3,h4⟩:=h.form
 have hm:l.length≤9223372036854775807:=by unfold maxLen at h3;omega
 clear h
 by_cases hb:4096<l.length
 ·obtain ⟨e1,e2⟩:=put_big hb
  unfold PutPost
  rw [e1,e2]
  clear e1 e2
  go_enter Tryz.func56,Tryz.ntmps56
  go_wp2_with fail
  go_ret2
  exact ⟨_,rfl,OwnB.nil _ _,Past.refl _⟩
 ·have WF:=LH HC.out.wf
  have LA:=LH (lay_any W.heap.size 2 (.slice none 0 0) [] l.length W (.inr (.inl rfl)) (len_wf _ (by omega)) (OwnB.nil _ _) (Nat.le_refl _) (by simp))
  have d1:decide ((l.length:Int)>4096)=false:=by simp;omega
  go_enter Tryz.func56,Tryz.ntmps56
  go_wp2_with fail
  refine LA.out.mono ?_
  rintro e w1 ⟨v1,rfl,o1,g1⟩
  have R1:Hid (OwnB w1 W.heap.size v1 (numB 2 l.length++(l.take 0).flatMap cmdB)∧Past W w1∧∀ c∈l.take 0,mayD c):=LH ⟨by simpa using o1,(Past.refl W).trans (Lays.past (Past.refl W) g1),by simp⟩
  clear LA o1 g1
  go_wp2_with fail
  go_loopw [2,3,4,16] (fun s2 s3 v i wr=>∃ n:Nat,n≤l.length∧i=.int .i64 n∧s2=.slice none 0 0∧s3=.int .i64 0∧Hid (OwnB wr W.heap.size v (numB 2 l.length++(l.take n).flatMap cmdB)∧Past W wr∧∀ c∈l.take n,mayD c)) (fun _ _ _ i _=>l.length-(intOf i).toNat)
  case atStart=>exact ⟨0,by omega,rfl,rfl,rfl,R1⟩
  case round =>
   obtain ⟨n,hnl,rfl,rfl,rfl,R⟩:=hrel
   by_cases h:n<l.length
   ·obtain ⟨b,off,rfl,hbl,hr⟩:=(HC.out.grow R.out.2.1).at n h
    have wc:=wfC_at WF.out h
    have hnx:=flatB_take h
    have hmem:l.getD n []∈l:=by
     have:l.getD n []=l[n]:=by simp [List.getD,h]
     rw [this]
     exact List.getElem_mem h
    have htk:∀ c∈l.take (n+1),c∈l.take n∨c=l.getD n []:=by
     intro c hc
     rw [List.take_succ_eq_append_getElem h] at hc
     rcases List.mem_append.1 hc with q|q
     ·exact .inl q
     ·right
      simp only [List.mem_singleton] at q
      rw [q]
      simp [List.getD,h]
    obtain ⟨c,ec⟩:∃ c,l.getD n []=c:=⟨_,rfl⟩
    rw [ec] at hr wc hnx hmem htk
    have hlen:(numB 2 l.length++(l.take n).flatMap cmdB).length≤1000000:=by
     have:=flatB_len (l.take n)
     simp only [List.length_append,numB_len,List.length_take] at *
     omega
    have HR:=LH hr
    have WC:=LH wc
    have NX:=LH hnx
    have HM:=LH hmem
    have HT:=LH htk
    have HL:=LH hlen
    clear hr wc hnx hmem htk ec hlen hbl
    obtain ⟨mc,hmc⟩:∃ m,mayE c=m:=⟨_,rfl⟩
    have HMC:=LH hmc
    have MA:=LH (fun w=>may_any c WC.out.1 w)
    rw [hmc] at MA
    clear hmc
    go_upto_region 6 with fail
    go_wp2_with (first|refine wpList_load_row rfl (.tmp 18) rfl b (off+n*14) rfl c WC.out.1 HR.out ?_|((refine wpList_new_cmd 6 rfl rfl rfl rfl (.tmp 19) rfl rfl c WC.out.1 rfl rfl ?_);rintro w2 p2 b2 f2 z2;have B2:=LH b2;clear b2 f2)|refine wpList_load_cmd rfl (.tmp 6) rfl _ rfl c WC.out.1 B2.out ?_)
    refine (MA.out w2).mono ?_
    rintro e w3 ⟨rfl,p3⟩
    have B3:=LH (box_past p3 B2.out z2)
    have R3:Hid (OwnB w3 W.heap.size u4 (numB 2 l.length++(l.take n).flatMap cmdB)∧Past W w3∧∀ c∈l.take n,mayD c):=LH ⟨(R.out.1.past p2).past p3,(R.out.2.1.trans p2).trans p3,R.out.2.2⟩
    have Z3:wr.heap.size<w3.heap.size:=Nat.lt_of_lt_of_le z2 p3.2.2.1
    obtain ⟨X,hX⟩:∃ X,wr.heap.size=X:=⟨_,rfl⟩
    rw [hX] at B3 Z3
    try simp only [hX]
    clear B2 R p2 z2 p3 hX
    by_cases hmd:mayD c
    ·have:mc=0:=by rw [← HMC.out];exact mayE_ok.2 hmd
     subst this
     have LC:=LH (layCmd_any W.heap.size u4 _ c w3 WC.out.1 WC.out.2 R3.out.1 R3.out.2.1.2.2.1 HL.out)
     have HD:=LH hmd
     clear hmd HMC
     go_wp2_with (first|refine wpList_load_cmd rfl (.tmp 6) rfl _ rfl c WC.out.1 B3.out ?_)
     refine LC.out.mono ?_
     rintro e w4 ⟨v4,rfl,o4,g4⟩
     have R4:Hid (OwnB w4 W.heap.size v4 (numB 2 l.length++(l.take (n+1)).flatMap cmdB)∧Past W w4∧∀ c∈l.take (n+1),mayD c):=LH ⟨by rw [NX.out,← List.append_assoc];exact o4,Lays.past R3.out.2.1 g4,fun d hd=>by
      rcases HT.out d hd with q|q
      ·exact R3.out.2.2 d q
      ·rw [q];exact HD.out⟩
     clear LC o4 g4 R3 B3
     go_wp2_with fail
     go_roundw
     case rel=>exact ⟨n+1,by omega,by go_num,rfl,rfl,R4⟩
     case measure=>simp [intOf];omega
    ·have:mc=1:=by rw [← HMC.out];unfold mayE;rw [if_neg hmd]
     subst this
     have E:=LH (put_bad (by omega) HM.out hmd)
     clear hmd HMC
     go_wp2_with fail
     go_ret2
     exact ⟨_,by rw [E.out.2];rfl,by rw [E.out.1];exact OwnB.nil _ _,R3.out.2.1⟩
   ·have e0:l.take n=l:=List.take_of_length_le (by omega)
    rw [e0] at R
    have E:=LH (put_ok (l:=l) (by omega) R.out.2.2)
    go_wp2_with fail
    go_ret2
    exact ⟨_,by rw [E.out.2];rfl,by rw [E.out.1];exact R.out.1,R.out.2.1⟩
end Go.Proofs.YtejllmjkeefloaaGreat.Q8
namespace Go.Proofs.YtejllmjkeefloaaGreat.Q8
open Go.ChangeShapes Go.WideShapes Go.ChangeAt Go.RowKit
set_option maxRecDepth 20000
set_option linter.unusedVariables false
set_option linter.unusedSimpArgs false
theorem nums_of_ownI {k:IntKind}{t:TypeId}{w:World}{base:Nat}{v:Value}{xs:List Int}(ho:w.ownsRow base t 1 v xs.length (xs.map (Value.int k)))(wf:∀ x∈xs,(Lit.int k x).wf=true):IsNums k w v xs:=by
 obtain⟨hl,h⟩:=ho;rcases h with ⟨rfl,h0⟩|⟨b,cap,cur,rfl,hb,hg,hn,hm,hs,ht⟩
 ·have:xs=[]:=List.eq_nil_of_length_eq_zero h0;subst this;exact⟨none,0,rfl,Nat.le_refl _,Nat.zero_le _,fun _=>rfl,by simp,by simp⟩
 ·refine⟨some ⟨b,0,none⟩,cap,rfl,hn,hm,(fun h=>by cases h),wf,fun hp=>⟨b,0,rfl,(Array.getElem?_eq_some_iff.1 hg).1,fun i hi=>?_⟩⟩;have key:w.cell? ⟨b,0+i,none⟩=(xs.map (Value.int k))[i]?:=by
   rw [<- ht,List.getElem?_take_of_lt (by omega)];simp [World.cell?,hg]
  rw [key];simp [List.getD,hi]
theorem str_of_nums {w:World}{v:Value}{xs:List Int}(h:IsNums .u8 w v xs):(convert 22 9 v).run Tryz.prog w=.ok (.string (strOfNums xs)) w:=by
 obtain⟨A,cap,rfl,h2,h3,h4,h5,h6⟩:=h;by_cases hp:0<xs.length
 ·obtain⟨b,off,rfl,hb,hc⟩:=h6 hp;exact run_convert_bytes_arg w 22 5 Tryz.underlying22 Tryz.underlying5 b off xs.length cap xs rfl hc 9 Tryz.underlying9
 ·obtain rfl:xs=[]:=List.eq_nil_of_length_eq_zero (by omega);cases A with
  | none=>exact run_convert_bytes_nil w 22 5 Tryz.underlying22 Tryz.underlying5 _ _ 9 Tryz.underlying9
  | some a =>
   rw [run_convert_bytes_string w 22 9 5 _ _ _ Tryz.underlying22 Tryz.underlying5 Tryz.underlying9];simp [Conv.bytesToString,loadCells];rfl
theorem wfC_of {c:List Int}(hl:c.length=14)(h:∀ x∈c,0<=x/\x<1000000):wfC c:=⟨hl,fun x hx=>by have:=h x hx;simp [Lit.wf,IntKind.min,IntKind.max,IntKind.bits,IntKind.signed];omega⟩
end Go.Proofs.YtejllmjkeefloaaGreat.Q8
namespace Go.Proofs.YtejllmjkeefloaaGreat.Q8
open Go.ChangeShapes Go.WideShapes Go.ChangeAt Go.RowKit
set_option maxRecDepth 20000
set_option linter.unusedVariables false
set_option linter.unusedSimpArgs false
theorem infoC2:∃ i,Tryz.prog.info? 67=some i/\i.zero=some (.agg ⟨cellC zeros⟩)/\i.size=14/\i.bytes=112:=info_parts infoC
theorem fillC {c:List Int} (hl:c.length=14) (n:Nat) (hn:n=14):Instr.fill (fun i=>some (i*n,n)) ((Array.range (1*n)).map ((Value.agg ⟨cellC zeros⟩).cells[·%(Value.agg ⟨cellC zeros⟩).cells.size]!)) [(0,.agg ⟨cellC c⟩)]=some ⟨cellC c⟩:=by
 subst hn;obtain ⟨a0,a1,a2,a3,a4,a5,a6,a7,a8,a9,a10,a11,a12,a13,rfl⟩:=fourteen hl;have e:(Array.range (1*14)).map ((Value.agg ⟨cellC zeros⟩).cells[·%(Value.agg ⟨cellC zeros⟩).cells.size]!)=⟨cellC zeros⟩:=by kernel_rfl
 rw [e];simp [Instr.fill,cellC,zeros,Value.cells,List.replicate]
theorem wpList_lit_cmd {ops:Array Oper}{Q:Exit->Act->World->Prop}{rest:List Oper}{o:Oper}{a:Act}{w:World}(hg:o.guard=none)(y:Operand)(ho:o.op=.buildSlice 29 1 #[(0,y)])(c:List Int)(hl:c.length=14)(hy:a.eval y=.agg ⟨cellC c⟩)
  (h:wpList Tryz.prog ops Q rest (a.put o.dst (.slice (some ⟨w.heap.size,0,none⟩) 1 1)) (w.alloc (.cells ⟨cellC c⟩ 67))):wpList Tryz.prog ops Q (o :: rest) a w:=by
 obtain⟨i,hi,hz,hs,hb⟩:=infoC2;refine Go.wpList_buildSlice hg 29 67 1 #[(0,y)] ho ⟨cellC c⟩ i (.agg ⟨cellC zeros⟩) Tryz.underlying29 hi hz (by rw [hs];decide) (by rw [hs];decide) ?_ h;simp only [List.map_toArray,List.map_cons,List.map_nil,hy];exact fillC hl i.size hs
theorem wpList_append_cmd {ops:Array Oper} {Q:Exit→Act→World→Prop} {rest:List Oper} {o:Oper} {a:Act} {w:World} (hgd:o.guard=none) (s x:Operand) (ho:o.op=.call { callee:=.builtin .append,args:=#[s,x],argTypes:=#[29,29] })
  (base:Nat) (v:Value) (l:List (List Int)) (hs:a.eval s=v) (hown:OwnC w base v l) (ad:Addr) (c:List Int) (hx:a.eval x=.slice (some ad) 1 1) (hc:wfC c) (hnews:∀ j u,(cellC c)[j]? = some u→w.cell? (ad.add j)=some u) (hm:l.length≤1000000) (hbase:base≤w.heap.size)
  (h:∀ v' w',OwnC w' base v' (l++[c])→w.grownBy w' v.ownBlock→wpList Tryz.prog ops Q rest (a.put o.dst v') w'):wpList Tryz.prog ops Q (o :: rest) a w:=by
 obtain ⟨i,hi,hz,hsz,hb⟩:=infoC2
 refine wpList_append_own _ hgd s x 29 ho base 67 i _ 14 112 Tryz.underlying29 hi hz hsz hb rfl (by decide) v l.length (l.flatMap cellC) hs hown.1 ad 1 1 (cellC c) hx (by rw [cellC_len,hc.1]) hnews (oneC c) (by unfold maxLen;omega) (by omega) hbase ?_
 intro v' w' ow g _
 refine h v' w' ⟨by simpa using ow,fun d hd=>?_⟩ g
 rcases List.mem_append.1 hd with q|q
 ·exact hown.2 d q
 ·simp only [List.mem_singleton] at q;rw [q];exact hc
theorem OwnC.low {w:World}{base base':Nat}{v:Value}{l:List (List Int)}(h:OwnC w base v l)(hb:base'<=base):OwnC w base' v l:=by
 obtain⟨⟨hl,h⟩,hw⟩:=h;refine⟨⟨hl,?_⟩,hw⟩;rcases h with h|⟨b,cap,cur,e,hbb,h⟩
 ·exact .inl h
 ·exact .inr ⟨b,cap,cur,e,Nat.le_trans hb hbb,h⟩
theorem OwnC.keep {w w':World}{base P:Nat}{v:Value}{l:List (List Int)}(h:OwnC w base v l)(g:Keep P w w')(hP:P<base):OwnC w' base v l:=⟨own_keep h.1 g hP,h.2⟩
theorem OwnC.alloc {w:World}{base:Nat}{v:Value}{l:List (List Int)}(h:OwnC w base v l)(x:Obj):OwnC (w.alloc x) base v l:=⟨World.ownsRow.alloc h.1 x,h.2⟩
theorem OwnC.lt {w:World}{base:Nat}{v:Value}{l:List (List Int)}(h:OwnC w base v l){k:Nat}(hk:v.ownBlock=some k):base<=k:=(World.ownsRow.lt h.1 k hk).1
theorem cells_cmd (w:World)(c:List Int)(j:Nat)(u:Value)(h:(cellC c)[j]? = some u):(w.alloc (.cells ⟨cellC c⟩ 67)).cell? ((⟨w.heap.size,0,none⟩:Addr).add j)=some u:=cells_new' w (cellC c) 67 j u h
end Go.Proofs.YtejllmjkeefloaaGreat.Q8
namespace Go.Proofs.YtejllmjkeefloaaGreat.Q7
open Go.ChangeShapes Go.WideShapes Go.ChangeAt Go.RowKit
set_option maxRecDepth 20000
set_option linter.unusedVariables false
theorem str_of_nums {w:World}{v:Value}{xs:List Int}(h:IsNums .u8 w v xs):(convert 22 9 v).run Tryz.prog w=.ok (.string (strOfNums xs)) w:=by
 obtain⟨A,cap,rfl,h2,h3,h4,h5,h6⟩:=h;by_cases hp:0<xs.length
 ·obtain⟨b,off,rfl,hb,hc⟩:=h6 hp;exact run_convert_bytes_arg w 22 5 Tryz.underlying22 Tryz.underlying5 b off xs.length cap xs rfl hc 9 Tryz.underlying9
 ·obtain rfl:xs=[]:=List.eq_nil_of_length_eq_zero (by omega);cases A with
  | none=>exact run_convert_bytes_nil w 22 5 Tryz.underlying22 Tryz.underlying5 _ _ 9 Tryz.underlying9
  | some a =>
   rw [run_convert_bytes_string w 22 9 5 _ _ _ Tryz.underlying22 Tryz.underlying5 Tryz.underlying9];simp [Conv.bytesToString,loadCells];rfl
def strB (l:List Nat):ByteArray:=strOfNums (ints l)
theorem str_b {w:World}{v:Value}{l:List Nat}(h:IsNums .u8 w v (ints l)):(convert 22 9 v).run Tryz.prog w=.ok (.string (strB l)) w:=str_of_nums h
theorem strB_inj {xs ys:List Nat}(hx:Bytes xs)(hy:Bytes ys)(h:strB xs=strB ys):xs=ys:=by
 have e:=congrArg (fun s:ByteArray=>s.data.toList) h;simp only [strB,strOfNums_data] at e;clear h;induction xs generalizing ys with
 | nil=>cases ys with
  | nil=>rfl
  | cons y ys=>simp [ints] at e
 | cons x xs ih=>cases ys with
  | nil=>simp [ints] at e
  | cons y ys =>
   simp only [ints,List.map_cons,List.cons.injEq] at e;have x1:=hx x (List.mem_cons_self ..);have y1:=hy y (List.mem_cons_self ..);have e1:=congrArg UInt8.toNat e.1;simp only [UInt8.toNat_ofNat'] at e1;have:x=y:=by omega
   rw [this,ih (fun c hc=>hx c (List.mem_cons_of_mem _ hc)) (fun c hc=>hy c (List.mem_cons_of_mem _ hc)) e.2]
theorem strB_yes {xs ys:List Nat}(h:xs=ys):((strB xs).toList==(strB ys).toList)=true:=by rw [h];simp
theorem strB_no {xs ys:List Nat}(hx:Bytes xs)(hy:Bytes ys)(h:xs≠ys):((strB xs).toList==(strB ys).toList)=false:=by
 have:(strB xs).toList≠(strB ys).toList:=fun e=>h (strB_inj hx hy (ByteArray.ext (by
  have:=congrArg List.toArray e;simpa [ByteArray.toList_eq] using this)))
 simpa using this
theorem nums_cut {w:World} {A:Option Addr} {len cap:Nat} {l:List Nat} (m:Nat) (hm:m<=l.length) (h:IsNums .u8 w (.slice A len cap) (ints l)):IsNums .u8 w (.slice A m cap) (ints (l.take m)):=by
 obtain ⟨A',cap',e,h2,h3,h4,h5,h6⟩:=h;simp only [Value.slice.injEq] at e;obtain ⟨rfl,rfl,rfl⟩:=e;rw [ints_len] at h2 h6;have e1:(l.take m).length=m:=by simp;omega
 refine ⟨A,cap,by rw [ints_len,e1],by rw [ints_len,e1];omega,h3,h4,fun x hx=>?_,fun hp=>?_⟩
 ·obtain ⟨c,hc,rfl⟩:=List.mem_map.1 hx;exact h5 _ (List.mem_map.2 ⟨c,List.mem_of_mem_take hc,rfl⟩)
 ·rw [ints_len,e1] at hp;obtain ⟨b,off,rfl,hb,hc⟩:=h6 (by omega);refine ⟨b,off,rfl,hb,fun i hi=>?_⟩;rw [ints_len,e1] at hi;rw [hc i (by omega),ints_at,ints_at];simp [List.getD,hi]
theorem nums_form {w:World}{v:Value}{l:List Nat}(h:IsNums .u8 w v (ints l)):∃ A cap,v=.slice A l.length cap/\l.length<=cap/\cap<=maxLen/\(A=none->cap=0):=by
 obtain⟨A,cap,rfl,h2,h3,h4,_⟩:=h;exact⟨A,cap,by rw [ints_len],by rwa [ints_len] at h2,h3,h4⟩
theorem equal_any (xs ys:List Nat)(u v:Value)(W:World)(hx:IsNums .u8 W u (ints xs))(hy:IsNums .u8 W v (ints ys))(bx:Bytes xs)(by':Bytes ys):Calls Tryz.prog 27 #[u,v] W fun e w'=>e=.returned (.bool (decide (xs=ys)))/\w'=W:=by
 have s1:=str_b hx;have s2:=str_b hy;by_cases h:xs=ys
 ·have q:=strB_yes h;rw [decide_eq_true h];clear hx hy bx by' h
  obtain⟨S,hS⟩:∃ S,strB xs=S:=⟨_,rfl⟩
  obtain⟨T,hT⟩:∃ T,strB ys=T:=⟨_,rfl⟩
  rw [hS] at s1 q;rw [hT] at s2 q;go_enter Tryz.func27,Tryz.ntmps27;go_wp2_with fail;go_ret;exact⟨rfl,rfl⟩
 ·have q:=strB_no bx by' h
  rw [decide_eq_false h];clear hx hy bx by' h
  obtain⟨S,hS⟩:∃ S,strB xs=S:=⟨_,rfl⟩
  obtain⟨T,hT⟩:∃ T,strB ys=T:=⟨_,rfl⟩
  rw [hS] at s1 q;rw [hT] at s2 q;go_enter Tryz.func27,Tryz.ntmps27;go_wp2_with fail;go_ret;exact⟨rfl,rfl⟩
def OpenPost (bs:List Nat) (W:World) (e:Ending) (w':World):Prop :=
 (4≤bs.length∧crc 4294967295 bs=hvs 32 4294967295∧∃ v,e=.returned (.tuple #[v,.int .i64 0])∧IsNums .u8 w' v (ints (bs.take (bs.length-4)))∧Past W w') ∨
 (¬ (4≤bs.length∧crc 4294967295 bs=hvs 32 4294967295)∧e=.returned (.tuple #[.slice none 0 0,.int .i64 2])∧Past W w')
theorem Bytes.take {l:List Nat}(h:Bytes l)(m:Nat):Bytes (l.take m):=fun c hc=>h c (List.mem_of_mem_take hc)
set_option maxHeartbeats 4000000 in
theorem open_any (bs:List Nat)(v:Value)(W:World)(h:IsNums .u8 W v (ints bs))(hb:Bytes bs)(hl:bs.length<=1000000):Calls Tryz.prog 13 #[v] W (OpenPost bs W):=by
 obtain⟨A,cap,rfl,h2,h3,h4⟩:=nums_form h;by_cases c:bs.length<4
 ·clear h;go_enter Tryz.func13,Tryz.ntmps13;go_wp2_with fail;go_ret2;exact Or.inr ⟨fun h=>by omega,rfl,Past.refl _⟩
 ·have hm:bs.length-4<=bs.length:=by omega
  obtain⟨m,em⟩:∃ m,bs.length-4=m:=⟨_,rfl⟩
  have el:bs.length=m+4:=by omega
  have hc:=nums_cut m (by omega) h;have SE:=LH (fun w (g:Past W w)=>seal_any (bs.take m) _ w (hc.grow g) (hb.take m) (by simp;omega));have lt:(bs.take m).length=m:=by simp;omega
  have EQ:=LH (fun(P:Nat) w (g:Past W w) (hr:Row w P (sealD (bs.take m)))=>equal_any (sealD (bs.take m)) bs _ _ w (hr.nums (seal_lt (hb.take m)) (by rw [seal_len,lt];unfold maxLen;omega)) (h.grow g) (seal_lt (hb.take m)) hb);have KEY:=LH (sealed_iff (s:=bs) hb (by omega));have H:=LH h;have HB:=LH hb;have e4:((bs.length:Nat):Int)-4=(m:Int):=by omega
  rw [em] at KEY;rw [seal_len,lt] at EQ;unfold SealPost at SE;rw [lt] at SE;have LT:=LH lt;clear h hc lt em;have E4:=LH e4;clear e4;rw [el] at EQ ⊢;go_enter Tryz.func13,Tryz.ntmps13;go_wp2_with fail;refine(SE.out _ (Past.refl _)).mono ?_;rintro e w1 ⟨rfl,hr,g1⟩;go_wp2_with fail;refine(EQ.out _ _ g1 hr).mono ?_;rintro e w2 ⟨rfl,rfl⟩;by_cases c:sealD (bs.take m)=bs
  ·rw [decide_eq_true c];have HR:=LH hr;have C:=LH c;clear hr c;go_wp2_with fail;go_ret2;have r:=HR.out;rw [C.out] at r;have n:=r.nums HB.out (by unfold maxLen;omega);have em:bs.length-4=m:=by omega
   refine Or.inl ⟨by omega,KEY.out.1 C.out,_,rfl,?_,g1⟩;rw [em];rw [el] at n;exact nums_cut m (by omega) n
  ·rw [decide_eq_false c];have C:=LH c;clear hr c;go_wp2_with fail;go_ret2;exact Or.inr ⟨fun h=>C.out (KEY.out.2 h.2),rfl,g1⟩
def SrcB (w:World)(A:Option Addr)(cap:Nat)(xs:List Value):Prop:=(A=none/\cap=0/\xs=[])\/∃ ad,A=some ad/\∀ j u,xs[j]? = some u->w.cell? (ad.add j)=some u
theorem src_of {w:World} {A:Option Addr} {len cap:Nat} {l:List Nat} (h:IsNums .u8 w (.slice A len cap) (ints l)):SrcB w A cap (cellB l):=by
 by_cases hp:0<(cellB l).length
 ·exact .inr (nums_cells h hp)
 ·have e:cellB l=[]:=List.eq_nil_of_length_eq_zero (by omega);obtain ⟨A',cap',e',_,_,h4,_⟩:=h;simp only [Value.slice.injEq] at e';obtain ⟨rfl,_,rfl⟩:=e';rw [e];cases hA:A with
  | none=>exact .inl ⟨rfl,h4 hA,rfl⟩
  | some ad=>exact .inr ⟨ad,rfl,fun j u hu=>by simp at hu⟩
theorem wp_append_src {P:Program} (w:World) {o:Oper} {a:Act} {K:Act→World→Prop} {Q:Exit→Act→World→Prop} (s x:Operand) (t:TypeId)
  (ho:o.op=.call { callee:=.builtin .append,args:=#[s,x],argTypes:=#[t,t] })
  (base:Nat) (e:TypeId) (i:TypeInfo) (z:Value) (size bytes:Nat) (ht:P.underlying t=some (.slice e)) (hi:P.info? e=some i) (hz:i.zero=some z)
  (hsize:i.size=size) (hby:i.bytes=bytes) (hzs:z.cells.size=size) (hsz:0<size)
  (v:Value) (n:Nat) (xs:List Value) (hs:a.eval s=v) (hown:w.ownsRow base e size v n xs)
  (A:Option Addr) (m c:Nat) (news:List Value) (hx:a.eval x=.slice A m c) (hl:news.length=m*size) (hnews:SrcB w A c news) (h1:∀ u∈news,u.oneCell'=true)
  (h63:n+m≤maxLen) (hbytes:(n+m)*bytes≤140737488355328) (hbase:base≤w.heap.size)
  (h:∀ v' w',w'.ownsRow base e size v' (n+m) (xs++news)→w.grownBy w' v.ownBlock→K (a.put o.dst v') w'):o.wp P a w K Q:=by
 rcases hnews with ⟨rfl,rfl,rfl⟩|⟨ad,rfl,hc⟩
 ·obtain rfl:m=0:=by
   have:0=m*size:=hl
   rcases Nat.mul_eq_zero.1 this.symm with h|h <;> omega
  have hr:=run_append_owned_none (P:=P) w base t o.type e i size ht hi v n xs hown
  unfold Oper.wp execOp
  simp only [ho,resolve,invoke,builtin,Sem.run_bind,Sem.run_pure,Result.andThen_ok,List.map_toArray,List.map_cons,List.map_nil,hs,hx,hr]
  exact h v w (by simpa using hown) (World.grownBy.refl _ _)
 ·exact wp_append_own w s x t ho base e i z size bytes ht hi hz hsize hby hzs hsz v n xs hs hown ad m c news hx hl hc h1 h63 hbytes hbase (fun v' w' a1 a2 _=>h v' w' a1 a2)
theorem wpList_append_src {P:Program} {w:World} {ops:Array Oper} {rest:List Oper} {o:Oper} {a:Act} {Q:Exit→Act→World→Prop} (hgd:o.guard=none) (s x:Operand) (t:TypeId)
  (ho:o.op=.call { callee:=.builtin .append,args:=#[s,x],argTypes:=#[t,t] })
  (base:Nat) (e:TypeId) (i:TypeInfo) (z:Value) (size bytes:Nat) (ht:P.underlying t=some (.slice e)) (hi:P.info? e=some i) (hz:i.zero=some z)
  (hsize:i.size=size) (hby:i.bytes=bytes) (hzs:z.cells.size=size) (hsz:0<size)
  (v:Value) (n:Nat) (xs:List Value) (hs:a.eval s=v) (hown:w.ownsRow base e size v n xs)
  (A:Option Addr) (m c:Nat) (news:List Value) (hx:a.eval x=.slice A m c) (hl:news.length=m*size) (hnews:SrcB w A c news) (h1:∀ u∈news,u.oneCell'=true)
  (h63:n+m≤maxLen) (hbytes:(n+m)*bytes≤140737488355328) (hbase:base≤w.heap.size)
  (h:∀ v' w',w'.ownsRow base e size v' (n+m) (xs++news)→w.grownBy w' v.ownBlock→wpList P ops Q rest (a.put o.dst v') w'):wpList P ops Q (o :: rest) a w :=
 wpList_plain hgd fun _ hK=>wp_append_src w s x t ho base e i z size bytes ht hi hz hsize hby hzs hsz v n xs hs hown A m c news hx hl hnews h1 h63 hbytes hbase fun v' w' h2 h3=>hK _ _ (h v' w' h2 h3)
theorem src_new (w:World) (l:List Value) (t:TypeId) (c:Nat):SrcB (w.alloc (.cells ⟨l⟩ t)) (some ⟨w.heap.size,0,none⟩) c l:=by
 refine .inr ⟨_,rfl,fun j u hu=>?_⟩;rw [Addr.add_mid];have:=box_new (w:=w) (cs:=⟨l⟩) (t:=t) (b:=w.heap.size) rfl (0+j);rw [this];simpa using hu
def OwnS (w:World)(base:Nat)(v:Value)(l:List Nat):Prop:=w.ownsRow base 5 1 v l.length (cellB l)
theorem OwnS.nums {w:World}{base:Nat}{v:Value}{l:List Nat}(h:OwnS w base v l)(hb:Bytes l):IsNums .u8 w v (ints l):=by
 obtain⟨hl,h⟩:=h;rcases h with ⟨rfl,h0⟩|⟨b,cap,cur,rfl,hbb,hg,hn,hm,hs,ht⟩
 ·have:l=[]:=List.eq_nil_of_length_eq_zero h0;subst this;exact⟨none,0,rfl,Nat.le_refl _,Nat.zero_le _,fun _=>rfl,by simp [ints],by simp [ints]⟩
 ·refine⟨some ⟨b,0,none⟩,cap,by rw [ints_len],by rwa [ints_len],hm,(fun h=>by cases h),ints_wf hb,fun hp=>⟨b,0,rfl,(Array.getElem?_eq_some_iff.1 hg).1,fun i hi=>?_⟩⟩;rw [ints_len] at hi;rw [ints_at,<- cellB_at l i hi,<- ht,List.getElem?_take_of_lt (by omega)];simp [World.cell?,hg]
theorem OwnS.past {w w':World}{base:Nat}{v:Value}{l:List Nat}(h:OwnS w base v l)(g:Past w w'):OwnS w' base v l:=by
 obtain⟨hl,h⟩:=h;refine⟨hl,?_⟩;rcases h with ⟨rfl,h0⟩|⟨b,cap,cur,rfl,hb,hg,hn,hm,hs,ht⟩
 ·exact .inl ⟨rfl,h0⟩
 ·exact .inr ⟨b,cap,cur,rfl,hb,(g.2.2.2 b (Array.getElem?_eq_some_iff.1 hg).1).trans hg,hn,hm,hs,ht⟩
end Go.Proofs.YtejllmjkeefloaaGreat.Q7
namespace Go.Proofs.YtejllmjkeefloaaGreat.Q7
open Go.ChangeShapes Go.WideShapes Go.ChangeAt Go.RowKit
set_option maxRecDepth 20000
set_option linter.unusedVariables false
def RSealPost (bs:List Nat)(W:World)(e:Ending)(w':World):Prop:=∃ v,e=.returned v/\OwnS w' W.heap.size v (sealD bs)/\Past W w'
theorem BL4 (S:Nat)(h:S<2 ^ 32):([.int .u8 ((S:Int)%256),.int .u8 ((S:Int) / 256%256),.int .u8 ((S:Int) / 65536%256),.int .u8 ((S:Int) / 16777216)]:List Value)=cellB (le4 S):=by
 have q:S / 16777216%256=S / 16777216:=by omega
 simp [cellB,le4,q]
set_option maxHeartbeats 4000000 in
theorem rseal_any (bs:List Nat)(v:Value)(W:World)(h:IsNums .u8 W v (ints bs))(hb:Bytes bs)(hl:bs.length<=1000000):Calls Tryz.prog 37 #[v] W (RSealPost bs W):=by
 have SM:=LH (fun w (g:Past W w)=>rsum_any bs _ w (h.grow g) hb hl);obtain⟨A,cap,rfl,h2,h3,h4⟩:=nums_form h;have H:=LH (fun w (g:Past W w)=>src_of (h.grow g));have HB:=LH hb;obtain⟨i0,hi0,hz0,hz1,hz2⟩:=info_parts info8;have I1:=LH hi0;have I2:=LH hz0;have I3:=LH hz1;have I4:=LH hz2;clear h hi0 hz0 hz1 hz2 h2 h4;go_enter Tryz.func37,Tryz.ntmps37;go_wp2_with fail;refine(SM.out _ (Past.refl _)).mono ?_;rintro e w1 ⟨rfl,gg⟩;have g1:=Grown.past gg;clear SM gg;have sl:=sum_lt HB.out;obtain⟨S,hS⟩:∃ S,sumD bs=S:=⟨_,rfl⟩
 have SS:=LH hS;rw [hS] at sl ⊢;clear hS;go_wp2_with (at_builtin;refine wpList_append_src rfl (.tmp 6) (.tmp 7) 22 rfl W.heap.size 5 i0 _ 1 1 Tryz.underlying22 I1.out I2.out I3.out I4.out rfl (by decide) _ 0 [] rfl (World.ownsRow_lit w1 #[] 0 g1.2.2.1 (by decide) rfl) A bs.length cap (cellB bs) rfl (by rw [cellB_len,Nat.mul_one]) (H.out _ (g1.alloc _)) (cellB_one bs) (by unfold maxLen;omega) (by omega) (by have:=g1.2.2.1;simp;omega) ?_);intro v2 w2 own2 grow2;have g2:Past W w2:=(g1.alloc _).grownBy grow2 (fun k hk=>by simp [Value.ownBlock] at hk;have:=g1.2.2.1;omega);have O2:Hid (OwnS w2 W.heap.size v2 bs):=LH (by unfold OwnS;simpa using own2);obtain⟨A2,c2,rfl⟩:∃ A c,v2=.slice A bs.length c:=by
  rcases own2.2 with ⟨rfl,h0⟩|⟨b,cap,cur,rfl,_⟩
  ·exact⟨none,0,by rw [h0]⟩
  ·exact⟨_,_,rfl⟩
 have G2:=LH g2;clear own2 grow2 g1 g2;have bl:=BL4 S sl;have B4:=LH bl;clear bl;go_wp2_with (at_builtin;refine wpList_append_src rfl (.tmp 8) (.tmp 20) 22 rfl W.heap.size 5 i0 _ 1 1 Tryz.underlying22 I1.out I2.out I3.out I4.out rfl (by decide) _ bs.length (cellB bs) rfl (World.ownsRow.alloc O2.out _) (some ⟨w2.heap.size,0,none⟩) 4 4 [.int .u8 ((S:Int)%256),.int .u8 ((S:Int) / 256%256),.int .u8 ((S:Int) / 65536%256),.int .u8 ((S:Int) / 16777216)] rfl rfl (src_new _ _ _ _) (by rw [B4.out];exact cellB_one _) (by unfold maxLen;omega) (by omega) (by have:=G2.out.2.2.1;simp;omega) ?_);intro v3 w3 own3 grow3;have g3:Past W w3:=(G2.out.alloc _).grownBy grow3 (fun k hk=>World.ownsRow.lt O2.out k hk |>.1);have O3:OwnS w3 W.heap.size v3 (sealD bs):=by
  unfold OwnS sealD;rw [SS.out];have:=own3;rw [B4.out] at this;simpa [cellB,le4] using this
 have OO:=LH O3;clear own3 grow3 O2 O3;go_wp2_with fail;go_ret;exact⟨_,rfl,OO.out,g3⟩
end Go.Proofs.YtejllmjkeefloaaGreat.Q7
namespace Go.Proofs.YtejllmjkeefloaaGreat
open Go.ChangeShapes Go.WideShapes Go.ChangeAt Go.RowKit
set_option maxRecDepth 20000
set_option linter.unusedVariables false
set_option linter.unusedSimpArgs false
def leftOf (b:List Int)(k:Nat)(bad:Bool):Rd:=if bad then ⟨[],true⟩ else ⟨b.drop k,false⟩
def QAt (w:World)(B P:Nat)(A:Option Addr)(cap:Nat)(b:List Int)(k:Nat)(bad:Bool):Prop :=
 (Bx w P #[.slice A b.length cap,.int .i64 (k:Int),.bool bad])/\(Fr w P)/\Bytes w B A cap b/\k<=b.length/\b.length<=100000/\B<=P/\P<w.heap.size
theorem QAt.keep {w w':World}{B P Q cap k:Nat}{A:Option Addr}{b:List Int}{bad:Bool}(h:QAt w B P A cap b k bad)(g:Keep Q w w')(hQ:P<Q):QAt w' B P A cap b k bad:=by
 obtain⟨h1,h2,h3,h4,h5,h6,h7⟩:=h;exact⟨box_keep g h1 h7 (by omega),free_keep g h2 h7 (by omega),h3.keep g (by omega) (by omega),h4,h5,h6,Nat.lt_of_lt_of_le h7 g.2.2.1⟩
theorem QAt.past {w w':World}{B P cap k:Nat}{A:Option Addr}{b:List Int}{bad:Bool}(h:QAt w B P A cap b k bad)(g:Past w w'):QAt w' B P A cap b k bad :=
 h.keep (Keep.of_past (P:=P+1) g) (by omega)
theorem box3_at {w:World}{b:Nat}{cs:Array Value}(h:(Bx w b cs))(i:Nat)(hi:i<cs.size)(y:Value):(Bx (w.setCell ⟨b,i,none⟩ y) b (cs.setIfInBounds i y)):=by
 intro o;by_cases c:i=o
 ·subst c;rw [World.cell?_setCell_same w _ _ ((h i).trans (Array.getElem?_eq_getElem hi)),Array.getElem?_setIfInBounds_self_of_lt hi]
 ·rw [World.cell?_setCell_other _ _ _ _ (by first|(simp;done)|(simp;omega)),Array.getElem?_setIfInBounds_ne c];exact h o
theorem QAt.worse {w:World}{B P cap k:Nat}{A:Option Addr}{b:List Int}{bad:Bool}(h:QAt w B P A cap b k bad):QAt (w.setCell ⟨P,2,none⟩ (.bool true)) B P A cap b k true:=by
 obtain⟨h1,h2,h3,h4,h5,h6,h7⟩:=h;have kp:Keep P w (w.setCell ⟨P,2,none⟩ (.bool true)):=(Keep.refl P w).set _ _;exact⟨by simpa using box3_at h1 2 (by simp) (.bool true),free_set h2,h3.keep kp h6 (by omega),h4,h5,h6,Nat.lt_of_lt_of_le h7 kp.2.2.1⟩
theorem QAt.on {w:World}{B P cap k wd:Nat}{A:Option Addr}{b:List Int}{bad:Bool}(h:QAt w B P A cap b k bad)(hf:k+wd<=b.length):QAt (w.setCell ⟨P,1,none⟩ (.int .i64 ((k:Int)+(wd:Int)))) B P A cap b (k+wd) bad:=by
 obtain⟨h1,h2,h3,h4,h5,h6,h7⟩:=h;have kp:Keep P w (w.setCell ⟨P,1,none⟩ (.int .i64 ((k:Int)+(wd:Int)))):=(Keep.refl P w).set _ _;exact⟨by simpa using box3_at h1 1 (by simp) (.int .i64 ((k:Int)+(wd:Int))),free_set h2,h3.keep kp h6 (by omega),hf,h5,h6,Nat.lt_of_lt_of_le h7 kp.2.2.1⟩
def QRd (w:World)(B P:Nat)(A:Option Addr)(cap:Nat)(b:List Int)(s:Rd):Prop:=∃ k bad,QAt w B P A cap b k bad/\leftOf b k bad=s
def QPost (v:Value)(B P:Nat)(A:Option Addr)(cap:Nat)(b:List Int)(t:Rd)(W:World)(e:Ending)(w':World):Prop:=e=.returned v/\QRd w' B P A cap b t/\Keep P W w'
theorem left_short {b:List Int}{k wd:Nat}{bad:Bool}(h1:1<=wd)(h:bad=true\/b.length<k+wd)(hk:k<=b.length):numR wd (leftOf b k bad)=(0,leftOf b k true):=by
 have e:leftOf b k true=⟨[],true⟩:=rfl;rw [e];unfold numR pieceR;rcases h with rfl|h
 ·rw [e,if_pos (by simp;omega)];rfl
 ·cases bad
  ·rw [show leftOf b k false=⟨b.drop k,false⟩ from rfl,if_pos (by simp only [List.length_drop];omega)];rfl
  ·rw [e,if_pos (by simp;omega)];rfl
theorem left_more {b:List Int}{k wd:Nat}(h:k+wd<=b.length):numR wd (leftOf b k false)=(foldB ((b.drop k).take wd),leftOf b (k+wd) false):=by
 unfold numR pieceR leftOf;simp only [Bool.false_eq_true,if_false];rw [if_neg (by simp only [List.length_drop];omega),List.drop_drop]
set_option maxHeartbeats 2000000 in
theorem qnum_any (wd:Nat)(h1:1<=wd)(h4:wd<=4)(B P:Nat)(A:Option Addr)(cap:Nat)(b:List Int)(k:Nat)(bad:Bool)(W:World)(hr:QAt W B P A cap b k bad) :
  Calls Tryz.prog 38 #[.pointer (some ⟨P,0,none⟩),.int .i64 (wd:Int)] W (QPost (.int .i64 (numR wd (leftOf b k bad)).1) B P A cap b (numR wd (leftOf b k bad)).2 W):=by
 have QR:=LH hr;obtain⟨bx,fr,by',hk,hl,hB,hP⟩:=hr;have FR:=LH fr;have BY:=LH by'
 by_cases hs:bad=true\/b.length<k+wd
 ·rw [left_short h1 hs hk];have FIN:=LH (fun(w:World) (p:Past W w)=>(⟨⟨k,true,(QR.out.past p).worse,rfl⟩,(Keep.of_past p).set _ _⟩:(∃ k' bad',QAt (w.setCell ⟨P,2,none⟩ (.bool true)) B P A cap b k' bad'/\leftOf b k' bad'=leftOf b k true)/\Keep P W (w.setCell ⟨P,2,none⟩ (.bool true))));clear by'
  obtain⟨L,hL⟩:∃ L,b.length=L:=⟨_,rfl⟩
  rw [hL] at bx hs hk hl;cases bad
  ·have hs':L<k+wd:=by simpa using hs
   have d1:decide ((L:Int)<(k:Int)+(wd:Int))=true:=decide_eq_true (by omega);clear hs hL;go_enter Tryz.func38,Tryz.ntmps38;go_upto_region 1 with fail;go_quiet (fail);go_wp2_with fail;go_ret;exact⟨rfl,FIN.out _ ((Past.refl W).drewN)⟩
  ·clear hs hL;go_enter Tryz.func38,Tryz.ntmps38;go_upto_region 1 with fail;go_quiet (fail);go_wp2_with fail;go_ret;exact⟨rfl,FIN.out _ ((Past.refl W).drewN)⟩
 ·have hbad:bad=false:=by cases bad <;> simp_all
  subst hbad;have hfit:k+wd<=b.length:=by omega
  rw [left_more hfit];have FIN:=LH (fun(w:World) (p:Past W w)=>(⟨⟨k+wd,false,(QR.out.past p).on hfit,rfl⟩,(Keep.of_past p).set _ _⟩:(∃ k' bad',QAt (w.setCell ⟨P,1,none⟩ (.int .i64 ((k:Int)+(wd:Int)))) B P A cap b k' bad'/\leftOf b k' bad'=leftOf b (k+wd) false)/\Keep P W (w.setCell ⟨P,1,none⟩ (.int .i64 ((k:Int)+(wd:Int))))));have hlw:((b.drop k).take wd).length=wd:=by rw [List.length_take,List.length_drop];omega
  have HLW:=LH hlw;have GD:=LH (fun i (hi:i<wd)=>show((b.drop k).take wd).getD i 0=b.getD (k+i) 0 by simp [List.getD,hi,List.getElem?_take]);have BT:=LH (fun c (hc:c∈(b.drop k).take wd)=>BY.out.bytesP c (List.mem_of_mem_drop (List.mem_of_mem_take hc)));obtain⟨bb,off,rfl,hbb,hc⟩:=by'.2.2.2 (by omega)
  have HC:=LH hc;obtain⟨t,ht⟩:∃ t,(b.drop k).take wd=t:=⟨_,rfl⟩
  rw [ht] at HLW GD BT;rw [ht];obtain⟨L,hL⟩:∃ L,b.length=L:=⟨_,rfl⟩
  rw [hL] at bx hfit hk hl;have HM:=LH hL;have d1:decide ((L:Int)<(k:Int)+(wd:Int))=false:=decide_eq_false (by omega);clear by' hc hlw ht hL hs
  go_enter Tryz.func38,Tryz.ntmps38;go_upto_region 1 with fail;go_quiet (fail);go_wp2_with fail;go_loopw [5,6] (fun x i wr=>∃ n:Nat,n<=wd/\i=.int .i64 n/\x=.int .i64 (foldB (t.take n))/\Hid (0<=foldB (t.take n)/\foldB (t.take n)<256 ^ n)/\Past W wr) (fun _ i _=>wd-(intOf i).toNat)
  case atStart=>exact⟨0,by omega,rfl,rfl,LH (by simp [foldB]),(Past.refl W).drewN⟩
  case round =>
   obtain⟨n,hn,rfl,rfl,hb,pr⟩:=hrel;have br:=box_past pr bx hP;have fr2:=free_past pr fr hP;by_cases h:n<wd
   ·have c0:=(pr.cell (p:=⟨bb,off+(k+n),none⟩) (show bb<W.heap.size by omega)).trans (HC.out (k+n) (by rw [HM.out];omega));rw [<- GD.out n h] at c0;have wc:=BT.out (t.getD n 0) (by simp [List.getD,show n<t.length by rw [HLW.out];exact h]);have hnext:=foldB_take t n (by rw [HLW.out];exact h);obtain⟨c,hc'⟩:∃ c,t.getD n 0=c:=⟨_,rfl⟩
    rw [hc'] at c0 wc hnext;obtain⟨x,hx⟩:∃ x,foldB (t.take n)=x:=⟨_,rfl⟩
    rw [hx] at hb hnext;rw [hx];have x1:x<16777216:=by
     have h2:=hb.out.2;rcases (show n=0\/n=1\/n=2\/n=3 by omega) with rfl|rfl|rfl|rfl <;> simp at h2 <;> omega
    have x0:=hb.out.1;have hnb:0<=foldB (t.take (n+1))/\foldB (t.take (n+1))<256 ^ (n+1):=by
     rw [hnext,Int.pow_succ];have:=hb.out;omega
    have HNB:=LH hnb;have HNX:=LH hnext;have wc0:=wc.1;have wc1:=wc.2;have j1:(0:Int)<=(k:Int)+(n:Int):=by omega
    have j2:(k:Int)+(n:Int)<(L:Int):=by omega
    clear hnb hnext hx hc' wc hb;go_wp2_with fail;go_upto_region 8 with fail;go_quiet (fail);go_wp2_with fail;go_roundw
    case rel=>exact⟨n+1,by omega,by go_num,by rw [HNX.out],HNB,pr.drewN⟩
    case measure=>simp [intOf];omega
   ·have e:n=wd:=by omega
    subst e;have et:t.take n=t:=List.take_of_length_le (by rw [HLW.out];exact Nat.le_refl _);rw [et];clear hb;go_wp2_with fail;go_ret;exact⟨rfl,FIN.out _ pr⟩
end Go.Proofs.YtejllmjkeefloaaGreat
