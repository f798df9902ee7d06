/- ImageTakes: the walk. An argument of bytes. -/
import Derived.Deep.DeepCutAuto
import Derived.Test.YtejllmjkeefloaaGreatMF3
namespace Go.Proofs.YtejllmjkeefloaaGreat
open Go.ChangeShapes Go.WideShapes Go.ChangeAt Go.RowKit
set_option maxRecDepth 20000
set_option linter.unusedVariables false
set_option linter.unusedSimpArgs false
def zeroI:ImgD:=⟨⟨[],[],[]⟩,[],[],[],[]⟩
theorem none_cmds (w:World):Q8.IsCmds w (.slice none 0 0) []:=⟨none,0,rfl,Nat.le_refl _,Nat.zero_le _,fun _=>rfl,by simp,by simp⟩
theorem none_nums9 (k:IntKind)(w:World):IsNums k w (.slice none 0 0) []:=⟨none,0,rfl,Nat.le_refl _,Nat.zero_le _,fun _=>rfl,by simp,by simp⟩
theorem none_graph (w:World):IsGraph w (.agg #[.slice none 0 0,.slice none 0 0,.slice none 0 0]) ⟨[],[],[]⟩ :=
 ⟨_,_,_,rfl,vals_nil w,⟨none,0,rfl,Nat.le_refl _,Nat.zero_le _,fun _=>rfl,by simp,by simp⟩,⟨none,0,rfl,Nat.le_refl _,Nat.zero_le _,fun _=>rfl,by simp,by simp⟩⟩
theorem none_img (w:World):IsImg w (.agg #[.slice none 0 0,.slice none 0 0,.slice none 0 0,.slice none 0 0,.slice none 0 0,.slice none 0 0,.slice none 0 0]) zeroI:=⟨_,_,_,_,_,_,_,rfl,none_graph w,none_nums9 _ w,none_cmds w,none_cmds w,none_cmds w⟩
noncomputable def iTk (ns:List Nat):ImgD:=open Classical in if TookI ns then (imgR ⟨openedI ns,false⟩).1 else zeroI
noncomputable def eTk (ns:List Nat):Int:=open Classical in if TookI ns then 0 else 2
theorem tookI_all {ns:List Nat}{W w':World}{e:Ending}(h:TakeI ns W e w'):∃ iv,e=.returned (.tuple #[iv,.int .i64 (eTk ns)])/\IsImg w' iv (iTk ns)/\Past W w':=by
 rcases h with ⟨hT,iv,rfl,im,p⟩|⟨hT,rfl,p⟩
 ·exact⟨iv,by unfold eTk;rw [if_pos hT],by unfold iTk;rw [if_pos hT];exact im,p⟩
 ·exact⟨_,by unfold eTk;rw [if_neg hT],by unfold iTk;rw [if_neg hT];exact none_img _,p⟩
set_option maxHeartbeats 8000000 in
theorem itakes_walk (W:World) (bv:Value) (bs:List Int) (hb:IsNums .u8 W bv bs):Calls Tryz.prog 3 #[bv] W fun e w'=>e=.returned (.bool true)∧Past W w':=by
 have HBv:=LH hb
 have SHW:=LH (shown9_any W)
 have BL0:bytesP bs:=by obtain ⟨A,cap,rfl,_⟩:=hb;exact (bytes_of_nums HBv.out).2.bytesP
 obtain ⟨A,cap,rfl,h2,h3,h4,_,_⟩:=hb
 have hl1:bs.length≤9223372036854775807:=by unfold maxLen at h3;omega
 go_enter Tryz.func3,Tryz.ntmps3
 go_wp2_with fail
 refine SHW.out.mono ?_
 rintro e w1 ⟨rfl,p1⟩
 clear SHW
 go_upto_if 12 with fail
 go_cut [0] (fun c0 w'=>∃ (n:Nat) (ys:List Int),c0=.slice A n cap∧ys.length=n∧n≤20000∧Hid (IsNums .u8 W (.slice A n cap) ys)∧Hid (bytesP ys)∧w'=w1)
 case first =>
  by_cases c:20000<bs.length
  ·have d1:decide ((20000:Int)<(bs.length:Int))=true:=by simp;omega
   have i1:(20000:Int)≤(cap:Int):=by omega
   go_wp2_with fail
   go_meet
   exact ⟨20000,bs.take 20000,rfl,by simp;omega,by omega,LH (Q8.nums_cut 20000 (by omega) HBv.out),LH (fun x hx=>BL0 x (List.mem_of_mem_take hx)),rfl⟩
  ·have d1:decide ((20000:Int)<(bs.length:Int))=false:=by simp;omega
   go_wp2_with fail
   go_meet
   exact ⟨bs.length,bs,rfl,rfl,by omega,HBv,LH BL0,rfl⟩
 case rest =>
 obtain ⟨n,L,rfl,hL,n20,IB,BL,rfl⟩:=hcut
 obtain ⟨wB,hwB⟩:∃ wB,wB=wc:=⟨_,rfl⟩
 subst hwB
 clear HBv h2 h3 h4 hl1 BL0
 obtain ⟨ns,hns,hnb,hnl⟩:∃ ns,Q7.ints ns=L∧Q7.Bytes ns∧ns.length=L.length:=⟨nats L,ints_nats BL.out,nats_bytes BL.out,nats_len L⟩
 have HNS:=LH hns
 have HLN:=LH (show L.length=n∧n≤20000∧ns.length=n from ⟨hL,n20,by rw [hnl,hL]⟩)
 have TK:=LH (fun w v (h:IsNums .u8 w v L)=>(itake_any ns v w (by rw [hns];exact h) hnb (by have:=HLN.out;omega)).mono (fun _ _=>tookI_all))
 have RT:=LH (fun w v (h:IsNums .u8 w v L)=>(rtakeI_any ns v w (by rw [hns];exact h) hnb (by have:=HLN.out;omega)).mono (fun _ _=>tookI_all))
 obtain ⟨iT,hiT⟩:∃ i,iTk ns=i:=⟨_,rfl⟩
 obtain ⟨eT,heT⟩:∃ i,eTk ns=i:=⟨_,rfl⟩
 rw [hiT,heT] at TK RT
 clear hiT heT hns hnb hnl hL n20
 go_wp2_with (at_builtin;refine Q8.wpList_append_b rfl (.tmp 16) (.tmp 17) rfl wB.heap.size _ [] rfl (Q8.ownR_lit wB) L A n cap rfl ((IB.out.grow p1).grow ((Past.refl wB).alloc _)) (by have:=HLN.out;simp only [List.length_nil];omega) (by simp) ?_)
 intro va wa oa ga
 have pa:Past wB wa:=((Past.refl wB).alloc _).grownBy ga (fun k hk=>by simp [Value.ownBlock] at hk;omega)
 have NA:=LH (show IsNums .u8 wa va L from oa.nums BL.out)
 clear oa ga
 go_wp2_with fail
 refine (TK.out _ va NA.out).mono ?_
 rintro e wb H
 obtain ⟨iv,rfl,im1,pb⟩:=H
 have IM1:=LH im1
 obtain ⟨xA1,xc1,xA2,xc2,xA3,xc3,xA4,xc4,xA5,xc5,xA6,xc6,xA7,xc7,rfl,hg1,hp1,h01,h11,h21⟩:=im1.form
 have pc:=p1.trans (pa.trans pb)
 clear pa pb NA TK hg1 hp1 h01 h11 h21
 obtain ⟨S,hS⟩:∃ S,wb.heap.size=S:=⟨_,rfl⟩
 go_upto_region 5 with fail
 refine opq (fun w'=>(Bx w' S #[.slice xA1 iT.g.ins.length xc1,.slice xA2 iT.g.nodes.length xc2,.slice xA3 iT.g.outs.length xc3,.slice xA4 iT.pl.length xc4,.slice xA5 iT.s0.length xc5,.slice xA6 iT.s1.length xc6,.slice xA7 iT.s2.length xc7])∧Past wb w'∧S<w'.heap.size) (by
  subst hS
  exact ⟨by (exact kKeep),by (exact kKeep),by simp⟩) ?_
 rintro wd ⟨b1,pd,sd⟩
 try rw [hS]
 have pe:=pc.trans pd
 have IM2:=LH (IM1.out.grow pd)
 clear hS pd pc IM1
 go_wp2_with fail
 refine (RT.out wd _ (IB.out.grow pe)).mono ?_
 rintro e wf H
 obtain ⟨iv,rfl,im2,pf⟩:=H
 have IM3:=LH im2
 obtain ⟨yA1,yc1,yA2,yc2,yA3,yc3,yA4,yc4,yA5,yc5,yA6,yc6,yA7,yc7,rfl,hg2,hp2,h02,h12,h22⟩:=im2.form
 have b2:=box_past pf b1 sd
 have sf:S<wf.heap.size:=Nat.lt_of_lt_of_le sd pf.2.2.1
 have pg:=pe.trans pf
 have IM4:=LH (IM2.out.grow pf)
 clear b1 sd pe pf IM2 RT hg2 hp2 h02 h12 h22
 obtain ⟨U,hU⟩:∃ S,wf.heap.size=S:=⟨_,rfl⟩
 go_upto_region 6 with fail
 refine opq (fun w'=>(Bx w' S #[.slice xA1 iT.g.ins.length xc1,.slice xA2 iT.g.nodes.length xc2,.slice xA3 iT.g.outs.length xc3,.slice xA4 iT.pl.length xc4,.slice xA5 iT.s0.length xc5,.slice xA6 iT.s1.length xc6,.slice xA7 iT.s2.length xc7])∧(Bx w' U #[.slice yA1 iT.g.ins.length yc1,.slice yA2 iT.g.nodes.length yc2,.slice yA3 iT.g.outs.length yc3,.slice yA4 iT.pl.length yc4,.slice yA5 iT.s0.length yc5,.slice yA6 iT.s1.length yc6,.slice yA7 iT.s2.length yc7])∧Past wf w') (by
  subst hU
  exact ⟨by (exact kKeep),by (exact kKeep),by (exact kKeep)⟩) ?_
 rintro wh ⟨b3,b4,ph⟩
 try rw [hU]
 have pi:=pg.trans ph
 have SM:=LH (rsameI_yes iT _ _ wh (IM4.out.grow ph) (IM3.out.grow ph))
 have e2:(eT==eT)=true:=beq_self_eq_true eT
 clear hU b2 pg ph IM3 IM4
 go_wp2_with (first|refine wpList_load_box rfl 32 (.tmp 4) rfl S _ rfl b3 Tryz.underlying32 rfl (by kernel_rfl) ?_|refine wpList_load_box rfl 32 (.tmp 6) rfl U _ rfl b4 Tryz.underlying32 rfl (by kernel_rfl) ?_)
 refine SM.out.mono ?_
 rintro e wi ⟨rfl,pk⟩
 go_wp2_with fail
 go_ret
 exact ⟨rfl,pi.trans pk⟩
end Go.Proofs.YtejllmjkeefloaaGreat
namespace Go.Proofs.YtejllmjkeefloaaGreat
open Go.ChangeShapes Go.WideShapes Go.ChangeAt Go.RowKit
set_option maxRecDepth 20000
set_option linter.unusedVariables false
theorem cellsByte:Tryz.prog.cellsOf 5=1:=by kernel_rfl
theorem open_bytes_val {H:Type}{enc:TypeId×Value->H}{W:World}{r:Reach}{b0:Nat}{v:Value}{d:DataW H}{p:List MemPlace}(hv:Value.okWide Tryz.prog W r b0 22 v)(h:DataW.Trod enc Tryz.prog W 0 (fun _=>true) true 22 v d p):∃ xs,IsNums .u8 W v xs:=by
 obtain⟨a,l,c,rfl⟩:=okWide_slice Tryz.underlying22 hv;obtain⟨fuel,hf⟩:=h;exact open_nums (k:=.u8) Tryz.underlying22 Tryz.underlying5 cellsByte hf
end Go.Proofs.YtejllmjkeefloaaGreat
