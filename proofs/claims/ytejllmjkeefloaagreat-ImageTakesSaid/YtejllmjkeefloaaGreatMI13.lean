/- isa: Take. The reference's Open. -/
import Derived.Test.YtejllmjkeefloaaGreatMI11
namespace Go.Proofs.YtejllmjkeefloaaGreat.Q8
open Go.ChangeShapes Go.WideShapes Go.ChangeAt Go.RowKit
set_option maxRecDepth 20000
set_option linter.unusedVariables false
set_option linter.unusedSimpArgs false
theorem wpList_load_cmdg {ops:Array Oper}{Q:Exit->Act->World->Prop}{rest:List Oper}{op:Oper}{a:Act}{w:World}(hw:Region.wanted op (yielded ops a.tmps)=true)(x:Operand)(ho:op.op=.load 67 x)(b:Nat)(hx:a.eval x=.pointer (some ⟨b,0,none⟩))(c:List Int)(hl:c.length=14)(hb:(Bx w b ⟨cellC c⟩))
  (h:wpList Tryz.prog ops Q rest (a.put op.dst (.agg ⟨cellC c⟩)) w):wpList Tryz.prog ops Q (op :: rest) a w :=
 BigFrame.wpList_want hw fun _ hK=>wp_load_box 67 x ho b ⟨cellC c⟩ hx hb Tryz.underlying67 rfl (cmdSize hl) (hK _ _ h)
def takeL (b:List Int):List (List Int):=match takeD b with|none=>[]|some (l,_)=>l
def takeN (b:List Int):Nat:=match takeD b with|none=>0|some (_,r)=>b.length-r.length
def takeE (b:List Int):Int:=match takeD b with|none=>2|some _=>0
theorem take_none {b:List Int}(h:takeD b=none):takeL b=[]/\takeN b=0/\takeE b=2:=by unfold takeL takeN takeE;rw [h];exact⟨rfl,rfl,rfl⟩
theorem take_some {b:List Int}{l:List (List Int)}{r:List Int}(h:takeD b=some (l,r)):takeL b=l/\takeN b=b.length-r.length/\takeE b=0:=by unfold takeL takeN takeE;rw [h];exact⟨rfl,rfl,rfl⟩
def TakePost (b:List Int)(W:World)(e:Ending)(w':World):Prop:=∃ v,e=.returned (.tuple #[v,.int .i64 (takeN b:Int),.int .i64 (takeE b)])/\OwnC w' W.heap.size v (takeL b)/\Past W w'
theorem takeGo_fail {n:Nat}{acc:List (List Int)}{t:List Int}(h:oneT t=none):takeGo (n+1) acc t=none:=by simp only [takeGo,h]
theorem takeGo_next {n:Nat}{acc:List (List Int)}{t c r:List Int}(h:oneT t=some (c,r)):takeGo (n+1) acc t=takeGo n (acc++[c]) r:=by simp only [takeGo,h]
theorem nums_bytes {w:World}{v:Value}{b:List Int}(h:IsNums .u8 w v b):∃ A cap,v=.slice A b.length cap/\Bytes w w.heap.size A cap b:=by
 obtain⟨A,cap,rfl,h2,h3,h4,h5,h6⟩:=h;exact⟨A,cap,rfl,h2,h3,h5,h6⟩
theorem wfC_ok {c:List Int}(h:okC c):wfC c:=by
 obtain⟨hl,hm⟩:=h;refine⟨hl,?_⟩;obtain⟨k,s,n,f,r,w,d,p,i0,i1,b0,b1,h0,h1,rfl⟩:=fourteen hl;have hk:kindP k:=by simpa using hm.1
 have key:∀ x∈[k,s,n,f,r,w,d,p,i0,i1,b0,b1,h0,h1],0<=x/\x<1000000:=by
  have hk':=hk;unfold kindP at hk';intro x hx;simp only [List.mem_cons,List.not_mem_nil,or_false] at hx;rcases kind_cases hk with q|q|q|q|q
  ·have:=(may_load q).1 hm;omega
  ·have:=(may_tile q).1 hm;omega
  ·have:=(may_kernel q).1 hm;omega
  ·have:=(may_sem q).1 hm;omega
  ·have:=(may_halt q).1 hm;omega
 exact(wfC_of rfl key).2
theorem RdAt.cell1 {w:World}{B P:Nat}{s:Rd}(h:RdAt w B P s):w.cell? ⟨P,1,none⟩=some (.bool s.short):=by
 obtain⟨A,cap,bx,_⟩:=h;exact bx 1
theorem RdAt.cell0 {w:World}{B P:Nat}{s:Rd}(h:RdAt w B P s):∃ A cap,w.cell? ⟨P,0,none⟩=some (.slice A s.rest.length cap):=by
 obtain⟨A,cap,bx,_⟩:=h;exact⟨A,cap,bx 0⟩
theorem RdAt.bytes {w:World}{B P:Nat}{s:Rd}(h:RdAt w B P s):bytesP s.rest:=by
 obtain⟨A,cap,_,_,by',_⟩:=h;exact by'.bytesP
theorem RdAt.grownBy {w w':World}{B P:Nat}{s:Rd}{row:Option Nat}(h:RdAt w B P s)(g:w.grownBy w' row)(hr:∀ k,row=some k->P<k):RdAt w' B P s:=by
 obtain⟨A,cap,bx,fr,by',hB,hP⟩:=h;have key:∀ k,k<=P->w'.heap[k]? = w.heap[k]?:=fun k hk=>g.block k (by omega) (fun e=>by have:=hr k e.symm;omega)
 have cell:∀ k o,k<=P->w'.cell? ⟨k,o,none⟩=w.cell? ⟨k,o,none⟩:=fun k o hk=>World.cell?_of_block (a:=⟨k,o,none⟩) (key k hk)
 refine⟨A,cap,fun o=>(cell P o (Nat.le_refl _)).trans (bx o),fun o=>(World.frozen?_of_block (a:=⟨P,o,none⟩) (key P (Nat.le_refl _))).trans (fr o),?_,hB,Nat.lt_of_lt_of_le hP g.size⟩;obtain⟨h1,h2,h3,h4⟩:=by'
 refine⟨h1,h2,h3,fun hp=>?_⟩;obtain⟨b,off,e,hb,hc⟩:=h4 hp;exact⟨b,off,e,hb,fun i hi=>(cell b (off+i) (by omega)).trans (hc i hi)⟩
set_option maxHeartbeats 1000000 in
theorem take_any (v:Value) (b:List Int) (W:World) (h:IsNums .u8 W v b):Calls Tryz.prog 35 #[v] W (TakePost b W):=by
 obtain ⟨A,cap,rfl,hB⟩:=nums_bytes h
 have HB:=LH hB
 have hm:b.length≤9223372036854775807:=by have:=hB.1;have:=hB.2.1;unfold maxLen at this;omega
 have hm2:b.length≤maxLen:=by have:=hB.1;have:=hB.2.1;omega
 clear h hB
 by_cases hbad:b.length<2∨4096<foldB (b.take 2)
 ·have T:=LH (take_none (b:=b) (by unfold takeD;rw [if_pos hbad]))
  have N2:=LH (fun P w (h:RdAt w P P ⟨b,false⟩)=>number_any 2 (by omega) (by omega) P P ⟨b,false⟩ w h)
  by_cases h2:b.length<2
  ·have e:numI 2 ⟨b,false⟩=(0,⟨b,true⟩):=by unfold numI;rw [if_pos h2]
   rw [e] at N2
   clear e hbad h2
   go_enter Tryz.func35,Tryz.ntmps35
   go_upto_region 2 with fail
   obtain ⟨P,hP⟩:∃ P,W.heap.size=P:=⟨_,rfl⟩
   refine opq (fun w'=>Hid (RdAt w' P P ⟨b,false⟩)∧Past W w') (by
    subst hP
    exact ⟨LH ⟨A,cap,box_new rfl,free_alloc (free_new (Nat.le_refl _)),HB.out.keep (Keep.of_past ((Past.refl W).alloc _)) (Nat.le_refl _) (Nat.le_refl _),Nat.le_refl _,by simp⟩,(Past.refl W).alloc _⟩) ?_
   rintro w1 ⟨r1,p1⟩
   try simp only [hP]
   have PW:W.heap.size≤P:=by omega
   have P1:=LH p1
   clear p1
   go_wp2_with fail
   refine (N2.out P w1 r1.out).mono ?_
   rintro e w2 ⟨rfl,r2,k2⟩
   have c1:=r2.cell1
   simp only at c1
   have K:=LH k2
   clear r2 k2 N2 r1
   go_wp2_with fail
   refine bodyPost_ret (v:=.tuple #[.slice none 0 0,.int .i64 0,.int .i64 2]) (by simp [results,Tryz.results35,go_sem]) rfl ⟨_,by rw [T.out.2.1,T.out.2.2];rfl,by rw [T.out.1];exact OwnC.nil _ _,Keep.past P1.out K.out PW⟩
  ·have h3:4096<foldB (b.take 2):=by omega
   have e:numI 2 ⟨b,false⟩=(foldB (b.take 2),⟨b.drop 2,false⟩):=by unfold numI;rw [if_neg h2]
   rw [e] at N2
   obtain ⟨x,hx⟩:∃ x,foldB (b.take 2)=x:=⟨_,rfl⟩
   rw [hx] at N2 h3
   clear e hbad h2 hx
   go_enter Tryz.func35,Tryz.ntmps35
   go_upto_region 2 with fail
   obtain ⟨P,hP⟩:∃ P,W.heap.size=P:=⟨_,rfl⟩
   refine opq (fun w'=>Hid (RdAt w' P P ⟨b,false⟩)∧Past W w') (by
    subst hP
    exact ⟨LH ⟨A,cap,box_new rfl,free_alloc (free_new (Nat.le_refl _)),HB.out.keep (Keep.of_past ((Past.refl W).alloc _)) (Nat.le_refl _) (Nat.le_refl _),Nat.le_refl _,by simp⟩,(Past.refl W).alloc _⟩) ?_
   rintro w1 ⟨r1,p1⟩
   try simp only [hP]
   have PW:W.heap.size≤P:=by omega
   have P1:=LH p1
   clear p1
   go_wp2_with fail
   refine (N2.out P w1 r1.out).mono ?_
   rintro e w2 ⟨rfl,r2,k2⟩
   have c1:=r2.cell1
   simp only at c1
   have K:=LH k2
   clear r2 k2 N2 r1
   go_wp2_with fail
   refine bodyPost_ret (v:=.tuple #[.slice none 0 0,.int .i64 0,.int .i64 2]) (by simp [results,Tryz.results35,go_sem]) rfl ⟨_,by rw [T.out.2.1,T.out.2.2];rfl,by rw [T.out.1];exact OwnC.nil _ _,Keep.past P1.out K.out PW⟩
 ·have h2:¬ b.length<2:=by omega
  have h3:foldB (b.take 2)≤4096:=by omega
  have hb2:bytesP (b.take 2):=fun c hc=>HB.out.bytesP c (List.mem_of_mem_take hc)
  have h4:=(foldB_bd hb2).1
  have N2:=LH (fun P w (h:RdAt w P P ⟨b,false⟩)=>number_any 2 (by omega) (by omega) P P ⟨b,false⟩ w h)
  have e:numI 2 ⟨b,false⟩=(foldB (b.take 2),⟨b.drop 2,false⟩):=by unfold numI;rw [if_neg h2]
  have TD:Hid (takeGo (foldB (b.take 2)).toNat [] (b.drop 2)=takeD b):=LH (by unfold takeD;rw [if_neg hbad])
  rw [e] at N2
  obtain ⟨N,hN⟩:∃ N:Nat,foldB (b.take 2)=(N:Int):=⟨(foldB (b.take 2)).toNat,by omega⟩
  rw [hN] at N2 h3 TD
  rw [Int.toNat_natCast] at TD
  have hbl:=HB.out.bytesP
  have BP:=LH (show bytesP (b.drop 2) from fun c hc=>hbl c (List.mem_of_mem_drop hc))
  clear e hbad h4 hb2 hN hbl
  have hN:N≤4096:=by omega
  obtain ⟨R,hR⟩:∃ R,takeD b=R:=⟨_,rfl⟩
  have HR:=LH hR
  rw [hR] at TD
  clear hR h3
  go_enter Tryz.func35,Tryz.ntmps35
  go_upto_region 2 with fail
  obtain ⟨P,hP⟩:∃ P,W.heap.size=P:=⟨_,rfl⟩
  refine opq (fun w'=>Hid (RdAt w' P P ⟨b,false⟩)∧Past W w') (by
   subst hP
   exact ⟨LH ⟨A,cap,box_new rfl,free_alloc (free_new (Nat.le_refl _)),HB.out.keep (Keep.of_past ((Past.refl W).alloc _)) (Nat.le_refl _) (Nat.le_refl _),Nat.le_refl _,by simp⟩,(Past.refl W).alloc _⟩) ?_
  rintro w1 ⟨r1,p1⟩
  try simp only [hP]
  have PW:W.heap.size≤P:=by omega
  have P1:=LH p1
  clear p1
  go_wp2_with fail
  refine (N2.out P w1 r1.out).mono ?_
  rintro e w2 ⟨rfl,r2,k2⟩
  have c1:=r2.cell1
  simp only at c1
  have REL:Hid (∃ acc t,acc.length=0∧OwnC w2 (P+1) (.slice none 0 0) acc∧RdAt w2 P P ⟨t,false⟩∧takeGo (N-0) acc t=R∧Past W w2):=LH ⟨[],b.drop 2,rfl,OwnC.nil _ _,r2,TD.out,Keep.past P1.out k2 PW⟩
  clear r2 k2 N2 r1 P1 TD BP
  go_wp2_with fail
  go_loopw [2,3,4,7,19] (fun s2 s3 s4 v i wr=>∃ n:Nat,n≤N∧i=.int .i64 n∧s2=.slice none 0 0∧s3=.int .i64 0∧s4=.int .i64 0∧Hid (∃ acc t,acc.length=n∧OwnC wr (P+1) v acc∧RdAt wr P P ⟨t,false⟩∧takeGo (N-n) acc t=R∧Past W wr)) (fun _ _ _ _ i _=>N-(intOf i).toNat)
  case atStart=>exact ⟨0,by omega,rfl,rfl,rfl,rfl,REL⟩
  case round =>
   obtain ⟨n,hnl,rfl,rfl,rfl,rfl,RE⟩:=hrel
   obtain ⟨acc,t,ha,ho,hr,hg,hp⟩:=RE.out
   clear c1
   by_cases h:n<N
   ·have e1:N-n=(N-(n+1))+1:=by omega
    rw [e1] at hg
    have CM:=LH (cmd_rd P P ⟨t,false⟩ wr hr)
    obtain ⟨cs,hcs⟩:∃ cs,cmdR ⟨t,false⟩=cs:=⟨_,rfl⟩
    have hl:=cmdR_len ⟨t,false⟩
    have hone:=fun q=>cmdR_one (t:=t) q
    have hnone:=fun q=>cmdR_none (t:=t) q
    unfold CmdPost at CM
    rw [hcs] at CM hl hone hnone
    obtain ⟨c,s'⟩:=cs
    simp only at CM hl hone hnone
    have hoC:=LH ho
    have hgC:=LH hg
    have hpC:=LH hp
    have HA:=LH ha
    have HL:=LH hl
    have H1:=LH hone
    have H2:=LH hnone
    have bt:=hr.bytes
    simp only at bt
    have HBT:=LH bt
    clear ho hg hp ha hl hone hnone hcs hr e1 RE bt
    go_upto_region 8 with fail
    go_wp2_with fail
    refine CM.out.mono ?_
    rintro e w3 ⟨rfl,r3,k3⟩
    have o3:=hoC.out.keep k3 (by omega)
    have p3:=Keep.past hpC.out k3 PW
    have Q3:=LH (And.intro o3 (And.intro r3 p3))
    clear o3 p3 r3 k3 CM hoC hpC
    go_upto_region 9 with ((refine wpList_new_cmd 8 ?h1 ?h2 ?h3 ?h4 (.tmp 21) ?h5 ?h6 (c) HL.out ?h8 ?h9 ?_);(case h1=>rfl);(case h2=>rfl);(case h3=>rfl);(case h4=>rfl);(case h5=>rfl);(case h6=>rfl);(case h8=>rfl);(case h9=>rfl);rintro w4 p4 b4 f4 z4)
    obtain ⟨B,hB⟩:∃ B,w3.heap.size=B:=⟨_,rfl⟩
    rw [hB] at b4 f4 z4
    try simp only [hB]
    have PB:P<B:=by have:=Q3.out.2.1.lt;omega
    obtain ⟨rest,sh⟩:=s'
    have Q4:Hid (OwnC w4 (P+1) u7 acc∧RdAt w4 P P ⟨rest,sh⟩∧Past W w4):=LH ⟨Q3.out.1.past p4,Q3.out.2.1.past p4,Q3.out.2.2.trans p4⟩
    have c4:=Q4.out.2.1.cell1
    have B4:=LH b4
    simp only at c4 H1 H2
    clear Q3 p4 f4 b4 hB
    cases sh with
    | true =>
     have T:=LH (take_none (b:=b) (by rw [HR.out,← hgC.out];exact takeGo_fail (H2.out (.inl rfl))))
     clear H1 H2 hgC HR
     go_wp2_with fail
     refine bodyPost_ret (v:=.tuple #[.slice none 0 0,.int .i64 0,.int .i64 2]) (by simp [results,Tryz.results35,go_sem]) rfl ⟨_,by rw [T.out.2.1,T.out.2.2];rfl,by rw [T.out.1];exact OwnC.nil _ _,Q4.out.2.2⟩
    | false =>
     by_cases hmd:mayD c
     ·have hone:=(H1.out (by intro e;rcases e with e|e;cases e;exact e hmd)).1
      have hg:=hgC.out
      rw [takeGo_next hone] at hg
      have G:=LH hg
      have MA:=LH (fun w=>may_any c HL.out w)
      rw [mayE_ok.2 hmd] at MA
      have WC:=LH (wfC_ok ⟨HL.out,hmd⟩)
      clear H1 H2 hgC hone hg hmd
      go_wp2_with (refine wpList_load_cmdg rfl (.tmp 8) rfl _ rfl c HL.out B4.out ?_)
      refine (MA.out w4).mono ?_
      rintro e w5 ⟨rfl,p5⟩
      have Q5:Hid (OwnC w5 (P+1) u7 acc∧RdAt w5 P P ⟨rest,false⟩∧Past W w5):=LH ⟨Q4.out.1.past p5,Q4.out.2.1.past p5,Q4.out.2.2.trans p5⟩
      have B5:=LH (box_past p5 B4.out z4)
      clear Q4 B4 c4 p5 z4 MA
      go_wp2_with (first|refine wpList_load_cmd rfl (.tmp 8) rfl _ rfl c HL.out B5.out ?_|refine wpList_lit_cmd rfl (.tmp 30) rfl c HL.out rfl ?_|(at_builtin;refine wpList_append_cmd rfl (.tmp 29) (.tmp 31) rfl (P+1) u7 acc rfl (Q5.out.1.alloc _) ⟨w5.heap.size,0,none⟩ c rfl WC.out (fun j u hu=>cells_cmd w5 c j u hu) (by have:=HA.out;omega) (by have:=Q5.out.2.1.lt;simp;omega) ?_))
      intro v6 w6 o6 g6
      have Q6:Hid (OwnC w6 (P+1) v6 (acc++[c])∧RdAt w6 P P ⟨rest,false⟩∧Past W w6):=LH ⟨o6,((Q5.out.2.1).alloc _).grownBy g6 (fun k hk=>by have:=Q5.out.1.lt hk;omega),(Q5.out.2.2.alloc _).grownBy g6 (fun k hk=>by have:=Q5.out.1.lt hk;omega)⟩
      clear Q5 B5 o6 g6
      go_wp2_with fail
      go_roundw
      case rel=>exact ⟨n+1,by omega,by go_num,rfl,rfl,rfl,LH ⟨acc++[c],rest,by rw [List.length_append,HA.out];rfl,Q6.out.1,Q6.out.2.1,G.out,Q6.out.2.2⟩⟩
      case measure=>simp [intOf];omega
     ·have T:=LH (take_none (b:=b) (by rw [HR.out,← hgC.out];exact takeGo_fail (H2.out (.inr hmd))))
      have MA:=LH (fun w=>may_any c HL.out w)
      have e1:mayE c=1:=by unfold mayE;rw [if_neg hmd]
      rw [e1] at MA
      clear H1 H2 hgC HR hmd e1
      go_wp2_with (refine wpList_load_cmdg rfl (.tmp 8) rfl _ rfl c HL.out B4.out ?_)
      refine (MA.out w4).mono ?_
      rintro e w5 ⟨rfl,p5⟩
      have P5:=LH (Q4.out.2.2.trans p5)
      clear Q4 B4 c4 p5
      go_wp2_with fail
      refine bodyPost_ret (v:=.tuple #[.slice none 0 0,.int .i64 0,.int .i64 2]) (by simp [results,Tryz.results35,go_sem]) rfl ⟨_,by rw [T.out.2.1,T.out.2.2];rfl,by rw [T.out.1];exact OwnC.nil _ _,P5.out⟩
   ·have e1:N-n=0:=by omega
    rw [e1] at hg
    simp only [takeGo] at hg
    have T:=LH (take_some (b:=b) (l:=acc) (r:=t) (by rw [HR.out,hg]))
    obtain ⟨A0,cap0,c0⟩:=hr.cell0
    simp only at c0
    have OO:=LH (OwnC.low ho (show W.heap.size≤P+1 by omega))
    have PP:=LH hp
    have tl:t.length≤b.length:=by
     have hd:=takeD_back HB.out.bytesP (HR.out.trans hg.symm)
     have:=congrArg List.length hd.2.2
     rw [List.length_append] at this
     omega
    have hsub:((b.length:Nat):Int)-(t.length:Int)=((b.length-t.length:Nat):Int):=by omega
    have HS:=LH hsub
    clear ho hr hg hp e1 RE ha hsub
    go_upto_region 13 with fail
    go_quiet (fail)
    go_wp2_with fail
    refine bodyPost_ret (v:=.tuple #[u7,.int .i64 ((b.length:Int)-(t.length:Int)),.int .i64 0]) (by simp [results,Tryz.results35,go_sem]) rfl ⟨u7,by rw [T.out.2.1,T.out.2.2,HS.out],by rw [T.out.1];exact OO.out.past ((Past.refl _).drewN),PP.out.drewN⟩
end Go.Proofs.YtejllmjkeefloaaGreat.Q8
namespace Go.Proofs.YtejllmjkeefloaaGreat.Q7
open Go.ChangeShapes Go.WideShapes Go.ChangeAt Go.RowKit
set_option maxRecDepth 20000
set_option linter.unusedVariables false
set_option linter.unusedSimpArgs false
set_option maxHeartbeats 4000000 in
theorem ropen_any (bs:List Nat)(v:Value)(W:World)(h:IsNums .u8 W v (ints bs))(hb:Bytes bs)(hl:bs.length<=1000000):Calls Tryz.prog 16 #[v] W (OpenPost bs W):=by
 obtain⟨A,cap,rfl,h2,h3,h4⟩:=nums_form h;have H:=LH h;obtain⟨i0,hi0,hz0,hz1,hz2⟩:=info_parts info8;have I1:=LH hi0;have I2:=LH hz0;have I3:=LH hz1;have I4:=LH hz2;clear h hi0 hz0 hz1 hz2;by_cases c:bs.length<4
 ·have t1:decide (((bs.length:Nat):Int)-4<0)=true:=by simp;omega
  go_enter Tryz.func16,Tryz.ntmps16;go_upto_region 2 with fail;refine wp_region_fill (fun w'=>Past W w') [(8,?va8),(9,?va9),(10,?va10),(19,?va19)] [8,9,10,19] (by kernel_rfl) (by kernel_rfl) rfl (by kernel_rfl) (Past.refl W) (fun w h=>h) ?alla ?fina
  case alla =>
   simp only [fillA,Act.put,List.setIfInBounds_toArray,List.set_cons_zero,List.set_cons_succ];iterate 12 (refine owes_cons (fun w hw K hK=>?_) ?_;focus ((have hS:=LH hw);go_split_ands;go_simp;(try go_frame);first|exact hK _ hS.out))
   exact True.intro
  case fina =>
   intro wr g1;simp only [fillA,Act.put,List.setIfInBounds_toArray,List.set_cons_zero,List.set_cons_succ];go_wp2_with fail;go_ret2;exact Or.inr ⟨fun h=>by omega,rfl,g1⟩
 ·obtain⟨m,em⟩:∃ m,bs.length-4=m:=⟨_,rfl⟩
  have el:bs.length=m+4:=by omega
  have hc:=nums_cut m (by omega) H.out;have lt:(bs.take m).length=m:=by simp;omega
  have SE:=LH (fun w (g:Past W w)=>rseal_any (bs.take m) _ w (hc.grow g) (hb.take m) (by omega));have SB:=seal_lt (hb.take m);have KEY:=LH (sealed_iff (s:=bs) hb (by omega));have SL:(sealD (bs.take m)).length=m+4:=by rw [seal_len,lt]
  have SRC:=LH (fun w (g:Past W w)=>src_of (hc.grow g));have NC:(cellB (bs.take m)).length=m:=by rw [cellB_len,lt]
  have HB:=LH hb;have S1:=LH SB;have S2:=LH SL;have S3:=LH lt;have S4:=LH NC;have t1:decide (((m:Nat):Int)<0)=false:=by simp
  have e4:((m+4:Nat):Int)-4=(m:Int):=by omega
  have mb:m<=1000000:=by omega
  have HM:=LH em;rw [em] at KEY;have EL:=LH el;clear hc SB SL lt NC em hb;rw [el] at h2 H ⊢;clear el;obtain⟨⟨B,off,spot⟩,rfl⟩:∃ ad,A=some ad:=by
   cases hA:A with
   | none=>have:=h4 hA;omega
   | some ad=>exact⟨ad,rfl⟩
  clear h4;have mc:m<=cap:=by omega
  by_cases q:sealD (bs.take m)=bs
  ·have sq:=strB_yes q;have Q:=LH q;clear q;obtain⟨T1,hT1⟩:∃ T,strB (sealD (bs.take m))=T:=⟨_,rfl⟩
   obtain⟨T2,hT2⟩:∃ T,strB bs=T:=⟨_,rfl⟩
   rw [hT1,hT2] at sq;have HT1:=LH hT1;have HT2:=LH hT2;clear hT1 hT2;go_enter Tryz.func16,Tryz.ntmps16;go_upto_region 2 with fail;refine wp_region_past W [(8,?vb8),(9,?vb9),(10,?vb10),(11,?vb11),(12,?vb12),(13,?vb13),(15,?vb15),(16,?vb16),(17,?vb17),(18,?vb18),(19,?vb19)] [(6,14)] (fun i x w=>(i=6->IsNums .u8 w x (ints (sealD (bs.take m))))) [(7,[6])] [] (fun i x w w' p h e=>(h e).grow p) (by kernel_rfl) (by kernel_rfl) (by kernel_rfl) ?db (Past.refl W) ?eb ?lb ?nb
   case db =>
    intro q hq;simp only [List.mem_cons,List.not_mem_nil,or_false] at hq;rcases hq with rfl <;> simp
   case eb =>
    simp only [latesV,List.map_cons,List.map_nil,List.cons_append,List.nil_append,List.append_nil,fillA,Act.put,List.setIfInBounds_toArray,List.set_cons_zero,List.set_cons_succ];refine early_cons (fun v w hw hd K hK=>?_) ?_
    focus
     go_simp;(try go_frame);exact hK
    refine early_cons (fun v w hw hd K hK=>?_) ?_
    focus
     go_simp;(try go_frame);exact hK
    refine early_cons (fun v w hw hd K hK=>?_) ?_
    focus
     go_simp;(try go_frame);exact hK
    refine early_cons (fun v w hw hd K hK=>?_) ?_
    focus
     go_simp;(try go_frame);exact hK
    refine early_cons (fun v w hw hd K hK=>?_) ?_
    focus
     go_simp;(try go_frame);exact hK
    refine early_cons (fun v w hw hd K hK=>?_) ?_
    focus
     go_simp;(try go_frame);exact hK
    refine early_skip rfl ?_;refine early_cons (fun v w hw hd K hK=>?_) ?_
    focus
     have s1:=str_b (hd 6 rfl rfl);rw [HT1.out] at s1;go_simp;(try go_frame);exact hK
    refine early_cons (fun v w hw hd K hK=>?_) ?_
    focus
     go_simp;(try go_frame);exact hK
    refine early_cons (fun v w hw hd K hK=>?_) ?_
    focus
     have s1:=str_b (H.out.grow hw);rw [HT2.out] at s1;go_simp;(try go_frame);exact hK
    refine early_cons (fun v w hw hd K hK=>?_) ?_
    focus
     go_simp;(try go_frame);exact hK
    refine early_cons (fun v w hw hd K hK=>?_) ?_
    focus
     go_simp;(try go_frame);exact hK
    exact True.intro
   case lb =>
    simp only [latesV,List.map_cons,List.map_nil,List.cons_append,List.nil_append,List.append_nil,fillA,Act.put,List.setIfInBounds_toArray,List.set_cons_zero,List.set_cons_succ];refine lateP_skip rfl ?_;refine lateP_skip rfl ?_;refine lateP_skip rfl ?_;refine lateP_skip rfl ?_;refine lateP_skip rfl ?_;refine lateP_skip rfl ?_;refine lateP_cons (fun v w hw hd=>⟨rfl,fun K hK=>?_⟩) ?_
    focus
     (try go_frame);go_simp;go_at_call 37;refine(SE.out _ hw).mono ?_;rintro e w1 ⟨u,rfl,hu,gu⟩;exact hK _ _ gu (fun _=>hu.nums S1.out)
    refine lateP_skip rfl ?_;refine lateP_skip rfl ?_;refine lateP_skip rfl ?_;refine lateP_skip rfl ?_;refine lateP_skip rfl ?_;exact True.intro
   case nb =>
    intro v w8 hw hd;simp only [latesV,List.map_cons,List.map_nil,List.cons_append,List.nil_append,List.append_nil,fillA,Act.put,List.setIfInBounds_toArray,List.set_cons_zero,List.set_cons_succ];have HW:=LH hw;clear hw hd;go_wp2_with (at_builtin;refine wpList_append_src rfl (.tmp 20) (.tmp 23) 22 rfl W.heap.size 5 i0 _ 1 1 Tryz.underlying22 I1.out I2.out I3.out I4.out rfl (by decide) _ 0 [] rfl (World.ownsRow_lit w8 #[] 0 HW.out.2.2.1 (by decide) rfl) (some ⟨B,off,spot⟩) m cap (cellB (bs.take m)) rfl (by rw [S4.out,Nat.mul_one]) (SRC.out _ (HW.out.alloc _)) (cellB_one _) (by unfold maxLen;omega) (by omega) (by have:=HW.out.2.2.1;simp;omega) ?_);intro v2 w2 own2 grow2;have g2:Past W w2:=(HW.out.alloc _).grownBy grow2 (fun k hk=>by simp [Value.ownBlock] at hk;have:=HW.out.2.2.1;omega);have O2:Hid (IsNums .u8 w2 v2 (ints (bs.take m))):=LH (by
     have:OwnS w2 W.heap.size v2 (bs.take m):=by unfold OwnS;rw [S3.out];simpa using own2
     exact this.nums (HB.out.take m))
    clear own2 grow2;go_wp2_with fail;go_ret2;have KE:=EL.out;exact Or.inl ⟨by omega,KEY.out.1 Q.out,_,rfl,by rw [HM.out];exact O2.out,g2⟩
  ·have sq:=strB_no (seal_lt (HB.out.take m)) HB.out q;have Q:=LH q;clear q;obtain⟨T1,hT1⟩:∃ T,strB (sealD (bs.take m))=T:=⟨_,rfl⟩
   obtain⟨T2,hT2⟩:∃ T,strB bs=T:=⟨_,rfl⟩
   rw [hT1,hT2] at sq;have HT1:=LH hT1;have HT2:=LH hT2;clear hT1 hT2;go_enter Tryz.func16,Tryz.ntmps16;go_upto_region 2 with fail;refine wp_region_past W [(8,?vc8),(9,?vc9),(10,?vc10),(11,?vc11),(12,?vc12),(13,?vc13),(15,?vc15),(16,?vc16),(17,?vc17),(18,?vc18),(19,?vc19)] [(6,14)] (fun i x w=>(i=6->IsNums .u8 w x (ints (sealD (bs.take m))))) [(7,[6])] [] (fun i x w w' p h e=>(h e).grow p) (by kernel_rfl) (by kernel_rfl) (by kernel_rfl) ?dc (Past.refl W) ?ec ?lc ?nc
   case dc =>
    intro q hq;simp only [List.mem_cons,List.not_mem_nil,or_false] at hq;rcases hq with rfl <;> simp
   case ec =>
    simp only [latesV,List.map_cons,List.map_nil,List.cons_append,List.nil_append,List.append_nil,fillA,Act.put,List.setIfInBounds_toArray,List.set_cons_zero,List.set_cons_succ];refine early_cons (fun v w hw hd K hK=>?_) ?_
    focus
     go_simp;(try go_frame);exact hK
    refine early_cons (fun v w hw hd K hK=>?_) ?_
    focus
     go_simp;(try go_frame);exact hK
    refine early_cons (fun v w hw hd K hK=>?_) ?_
    focus
     go_simp;(try go_frame);exact hK
    refine early_cons (fun v w hw hd K hK=>?_) ?_
    focus
     go_simp;(try go_frame);exact hK
    refine early_cons (fun v w hw hd K hK=>?_) ?_
    focus
     go_simp;(try go_frame);exact hK
    refine early_cons (fun v w hw hd K hK=>?_) ?_
    focus
     go_simp;(try go_frame);exact hK
    refine early_skip rfl ?_;refine early_cons (fun v w hw hd K hK=>?_) ?_
    focus
     have s1:=str_b (hd 6 rfl rfl);rw [HT1.out] at s1;go_simp;(try go_frame);exact hK
    refine early_cons (fun v w hw hd K hK=>?_) ?_
    focus
     go_simp;(try go_frame);exact hK
    refine early_cons (fun v w hw hd K hK=>?_) ?_
    focus
     have s1:=str_b (H.out.grow hw);rw [HT2.out] at s1;go_simp;(try go_frame);exact hK
    refine early_cons (fun v w hw hd K hK=>?_) ?_
    focus
     go_simp;(try go_frame);exact hK
    refine early_cons (fun v w hw hd K hK=>?_) ?_
    focus
     go_simp;(try go_frame);exact hK
    exact True.intro
   case lc =>
    simp only [latesV,List.map_cons,List.map_nil,List.cons_append,List.nil_append,List.append_nil,fillA,Act.put,List.setIfInBounds_toArray,List.set_cons_zero,List.set_cons_succ];refine lateP_skip rfl ?_;refine lateP_skip rfl ?_;refine lateP_skip rfl ?_;refine lateP_skip rfl ?_;refine lateP_skip rfl ?_;refine lateP_skip rfl ?_;refine lateP_cons (fun v w hw hd=>⟨rfl,fun K hK=>?_⟩) ?_
    focus
     (try go_frame);go_simp;go_at_call 37;refine(SE.out _ hw).mono ?_;rintro e w1 ⟨u,rfl,hu,gu⟩;exact hK _ _ gu (fun _=>hu.nums S1.out)
    refine lateP_skip rfl ?_;refine lateP_skip rfl ?_;refine lateP_skip rfl ?_;refine lateP_skip rfl ?_;refine lateP_skip rfl ?_;exact True.intro
   case nc =>
    intro v w8 hw hd;simp only [latesV,List.map_cons,List.map_nil,List.cons_append,List.nil_append,List.append_nil,fillA,Act.put,List.setIfInBounds_toArray,List.set_cons_zero,List.set_cons_succ];go_wp2_with fail;go_ret2;exact Or.inr ⟨fun h=>Q.out (KEY.out.2 h.2),rfl,hw⟩
end Go.Proofs.YtejllmjkeefloaaGreat.Q7
