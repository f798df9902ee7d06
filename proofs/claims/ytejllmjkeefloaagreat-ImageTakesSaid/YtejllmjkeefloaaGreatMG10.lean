/- graph: what opOf hands back makes and counts. graph: opOf hands back makers and counters. -/
import Derived.Test.YtejllmjkeefloaaGreatMG6A
import Derived.Test.YtejllmjkeefloaaGreatMG6B
import Derived.Test.YtejllmjkeefloaaGreatMG6C
import Derived.Test.YtejllmjkeefloaaGreatMG7
namespace Go.Proofs.YtejllmjkeefloaaGreat
open Go.ChangeShapes Go.WideShapes Go.ChangeAt Go.RowKit
set_option maxRecDepth 20000
set_option linter.unusedVariables false
def Enters (fid:FuncId):Prop:=∀ (xs:Array Value)(w:World),(callFunc fid xs).run Tryz.prog w=.ok (.enter fid xs) w
def Maker0 (mk:Value)(n:NodeD)(vi vw vb lv:Value)(s:Int×Int×Int)(W:World):Prop :=
 ∃ fid,mk=.func (.func fid) #[] #[]/\Enters fid/\∀ w',Past W w'->Calls Tryz.prog fid #[.agg (nC n vi vw vb),lv] w' fun e w''=>e=.returned (.agg #[.int .i64 s.1,.int .i64 s.2.1,.int .i64 s.2.2])/\Grown w' w''
def Maker1 (mk:Value)(n:NodeD)(vi vw vb lv:Value)(s:Int×Int×Int)(W:World):Prop :=
 ∃ fid p,mk=.func (.func fid) #[] #[.pointer (some p)]/\Enters fid/\∀ w',Past W w'->Calls Tryz.prog fid #[.agg (nC n vi vw vb),lv,.pointer (some p)] w' fun e w''=>e=.returned (.agg #[.int .i64 s.1,.int .i64 s.2.1,.int .i64 s.2.2])/\Grown w' w''
def Counter (ct:Value)(n:NodeD)(vi vw vb:Value)(x:ValD)(s:Int×Int×Int)(W:World):Prop :=
 ∃ fid p,ct=.func (.func fid) #[] #[.pointer (some p)]/\Enters fid/\∀ w',Past W w'->Calls Tryz.prog fid #[.agg (nC n vi vw vb),.agg #[.int .i64 x.h,.int .i64 x.w,.int .i64 x.c],.agg #[.int .i64 s.1,.int .i64 s.2.1,.int .i64 s.2.2],.pointer (some p)] w' fun e w''=>e=.returned (.tuple #[.int .i64 (wantS n x s.2.2).1,.int .i64 (wantS n x s.2.2).2])/\Grown w' w''
def Pre (n:NodeD)(vs:List ValD)(lv:Value)(W:World):Prop:=takesP (opD n.op) n vs/\(∀ j,j<vs.length->mayV (vs.getD j default))/\IsVals W lv vs
def OpPost (n:NodeD) (W:World) (e:Ending) (w':World):Prop:=∃ (mf:FuncId) (mc:Array Value) (cf:FuncId) (p:Addr),e=.returned (.tuple #[opV (opD n.op) (.func (.func mf) #[] mc) (.func (.func cf) #[] #[.pointer (some p)]),.bool true])/\Grown W w' /\
 (∀ vi vw vb lv vs,Pre n vs lv W->(Maker0 (.func (.func mf) #[] mc) n vi vw vb lv (madeS n vs) w'\/Maker1 (.func (.func mf) #[] mc) n vi vw vb lv (madeS n vs) w')/\(mayT (madeS n vs)->Counter (.func (.func cf) #[] #[.pointer (some p)]) n vi vw vb (vs.getD 0 default) (madeS n vs) w'))
theorem slice_of {W:World} {v:Value} {vs:List ValD} (h:IsVals W v vs) (h0:0<vs.length):∃ b off cap,v=.slice (some ⟨b,off,none⟩) vs.length cap/\vs.length<=cap/\cap<=maxLen/\b<W.heap.size/\∀ i,i<vs.length->ValAt W b (off+i*4) (vs.getD i default):=by
 obtain ⟨A,c,rfl,h1,h2,h3,h4,h5⟩:=h;obtain ⟨b,off,rfl,hb,hc⟩:=h5 h0;exact ⟨b,off,c,rfl,h1,h2,hb,hc⟩
theorem enters_slid:Enters 146:=fun xs w=>by kernel_rfl
theorem enters_ofChannels:Enters 149:=fun xs w=>by kernel_rfl
theorem enters_always:Enters 150:=fun xs w=>by kernel_rfl
theorem enters_outChans:Enters 121:=fun xs w=>by kernel_rfl
theorem enters_sameChans:Enters 124:=fun xs w=>by kernel_rfl
theorem enters_deepWindow:Enters 123:=fun xs w=>by kernel_rfl
theorem enters_flatWindow:Enters 125:=fun xs w=>by kernel_rfl
theorem enters_everything:Enters 127:=fun xs w=>by kernel_rfl
theorem enters_point:Enters 126:=fun xs w=>by kernel_rfl
theorem enters_alike:Enters 129:=fun xs w=>by kernel_rfl
theorem enters_framed:Enters 130:=fun xs w=>by kernel_rfl
theorem enters_stacked:Enters 131:=fun xs w=>by kernel_rfl
theorem enters_reshaped:Enters 132:=fun xs w=>by kernel_rfl
theorem maker_slid_out {n:NodeD}{vs:List ValD}{p:Nat}{w:World}(hp:w.cell? ⟨p,0,none⟩=some (.func (.func 121) #[] #[]))(hb:p<w.heap.size){W:World}(g:Grown W w){vi vw vb lv:Value}(hv:IsVals W lv vs)(h0:0<vs.length)
  (hs:madeS n vs=(outI (vs.getD 0 default).h n.k n.stride n.pad,outI (vs.getD 0 default).w n.k n.stride n.pad,n.out)):Maker1 (.func (.func 146) #[] #[.pointer (some ⟨p,0,none⟩)]) n vi vw vb lv (madeS n vs) w:=by
 refine⟨_,_,rfl,enters_slid,fun w' k=>?_⟩;obtain⟨b,off,cap,rfl,h1,h2,h3,h4⟩:=slice_of (hv.grow ((Grown.past g).trans k)) h0;rw [hs];have x0:=h4 0 h0;rw [show off+0*4=off by omega] at x0;exact slid1_any n vi vw vb _ ⟨p,0,none⟩ _ _ _ _ b off _ cap w' ((k.cell hb).trans hp) (Nat.lt_of_lt_of_le hb k.2.2.1) h0 h1 h3 x0 (LH rfl) (LH rfl) enters_outChans (fun w=>outChans_any n vi vw vb _ _ _ w)
theorem maker_slid_same {n:NodeD}{vs:List ValD}{p:Nat}{w:World}(hp:w.cell? ⟨p,0,none⟩=some (.func (.func 124) #[] #[]))(hb:p<w.heap.size){W:World}(g:Grown W w){vi vw vb lv:Value}(hv:IsVals W lv vs)(h0:0<vs.length)
  (hs:madeS n vs=(outI (vs.getD 0 default).h n.k n.stride n.pad,outI (vs.getD 0 default).w n.k n.stride n.pad,(vs.getD 0 default).c)):Maker1 (.func (.func 146) #[] #[.pointer (some ⟨p,0,none⟩)]) n vi vw vb lv (madeS n vs) w:=by
 refine⟨_,_,rfl,enters_slid,fun w' k=>?_⟩;obtain⟨b,off,cap,rfl,h1,h2,h3,h4⟩:=slice_of (hv.grow ((Grown.past g).trans k)) h0;rw [hs];have x0:=h4 0 h0;rw [show off+0*4=off by omega] at x0;exact slid1_any n vi vw vb _ ⟨p,0,none⟩ _ _ _ _ b off _ cap w' ((k.cell hb).trans hp) (Nat.lt_of_lt_of_le hb k.2.2.1) h0 h1 h3 x0 (LH rfl) (LH rfl) enters_sameChans (fun w=>sameChans_any n vi vw vb _ _ _ w)
theorem maker_alike {n:NodeD}{vs:List ValD}{w:World}{W:World}(g:Grown W w){vi vw vb lv:Value}(hv:IsVals W lv vs)(h0:0<vs.length)(hs:madeS n vs=alikeS vs):Maker0 (.func (.func 129) #[] #[]) n vi vw vb lv (madeS n vs) w:=by
 refine⟨_,rfl,enters_alike,fun w' k=>?_⟩;obtain⟨b,off,cap,rfl,h1,h2,h3,h4⟩:=slice_of (hv.grow ((Grown.past g).trans k)) h0;rw [hs];exact alike_any n vi vw vb vs b off cap w' _ h0 h1 h2 h3 h4 (LH rfl)
theorem maker_point {n:NodeD}{vs:List ValD}{w:World}{vi vw vb lv:Value}(hs:madeS n vs=(1,1,n.out)):Maker0 (.func (.func 126) #[] #[]) n vi vw vb lv (madeS n vs) w:=by
 refine⟨_,rfl,enters_point,fun w' k=>?_⟩;rw [hs];exact point_any n vi vw vb lv w'
theorem maker_framed {n:NodeD}{vs:List ValD}{w:World}{W:World}(g:Grown W w){vi vw vb lv:Value}(hv:IsVals W lv vs)(h0:0<vs.length)(hm:mayV (vs.getD 0 default))(hp:n.pad=1)(hs:madeS n vs=((vs.getD 0 default).h+2,(vs.getD 0 default).w+2,(vs.getD 0 default).c)):Maker0 (.func (.func 130) #[] #[]) n vi vw vb lv (madeS n vs) w:=by
 refine⟨_,rfl,enters_framed,fun w' k=>?_⟩;obtain⟨b,off,cap,rfl,h1,h2,h3,h4⟩:=slice_of (hv.grow ((Grown.past g).trans k)) h0;rw [hs];have x0:=h4 0 h0;rw [show off+0*4=off by omega] at x0;exact framed_any n vi vw vb _ b off _ cap w' h0 h1 h3 x0 hm hp
theorem maker_stacked {n:NodeD}{vs:List ValD}{w:World}{W:World}(g:Grown W w){vi vw vb lv:Value}(hv:IsVals W lv vs)(h0:1<vs.length)(hm:mayV (vs.getD 0 default))(hm':mayV (vs.getD 1 default))(hs:madeS n vs=if (vs.getD 0 default).h=(vs.getD 1 default).h/\(vs.getD 0 default).w=(vs.getD 1 default).w then ((vs.getD 0 default).h,(vs.getD 0 default).w,(vs.getD 0 default).c+(vs.getD 1 default).c) else (0,0,0)):Maker0 (.func (.func 131) #[] #[]) n vi vw vb lv (madeS n vs) w:=by
 refine⟨_,rfl,enters_stacked,fun w' k=>?_⟩;obtain⟨b,off,cap,rfl,h1,h2,h3,h4⟩:=slice_of (hv.grow ((Grown.past g).trans k)) (by omega);have x0:=h4 0 (by omega);have x1:=h4 1 h0;rw [show off+0*4=off by omega] at x0;rw [show off+1*4=off+4 by omega] at x1;exact stacked_any n vi vw vb _ _ b off _ cap w' h0 h1 h3 x0 x1 hm hm' _ (LH hs)
theorem maker_reshaped {n:NodeD}{vs:List ValD}{w:World}{W:World}(g:Grown W w){vi vw vb lv:Value}(hv:IsVals W lv vs)(h0:0<vs.length)(hs:madeS n vs=if sizeI n.th n.tw n.tc=sizeI (vs.getD 0 default).h (vs.getD 0 default).w (vs.getD 0 default).c then (n.th,n.tw,n.tc) else (0,0,0)):Maker0 (.func (.func 132) #[] #[]) n vi vw vb lv (madeS n vs) w:=by
 refine⟨_,rfl,enters_reshaped,fun w' k=>?_⟩;obtain⟨b,off,cap,rfl,h1,h2,h3,h4⟩:=slice_of (hv.grow ((Grown.past g).trans k)) h0;have x0:=h4 0 h0;rw [show off+0*4=off by omega] at x0;exact reshaped_any n vi vw vb _ _ _ b off _ cap w' h0 h1 h3 x0 (LH rfl) (LH rfl) _ (LH hs)
theorem counter_always {n:NodeD}{m:Int}{p:Nat}{w:World}{x:ValD}{s:Int×Int×Int}{vi vw vb:Value}(hp:w.cell? ⟨p,0,none⟩=some (.int .i64 m))(hb:p<w.heap.size)(hs:wantS n x s.2.2=(m,0)):Counter (.func (.func 150) #[] #[.pointer (some ⟨p,0,none⟩)]) n vi vw vb x s w:=by
 refine⟨_,_,rfl,enters_always,fun w' k=>?_⟩;rw [hs];exact always1_any n vi vw vb _ _ _ _ _ _ m ⟨p,0,none⟩ w' ((k.cell hb).trans hp) (Nat.lt_of_lt_of_le hb k.2.2.1)
theorem counter_of {n:NodeD}{m:Int}{p:Nat}{fid:FuncId}{w:World}{x:ValD}{s:Int×Int×Int}{vi vw vb:Value}(hp:w.cell? ⟨p,0,none⟩=some (.func (.func fid) #[] #[]))(hb:p<w.heap.size)(m1:0<=m)(m2:m<=2048)(ms:mayT s)(hE:Enters fid)
  (hF:∀ w,Calls Tryz.prog fid #[.agg (nC n vi vw vb),.agg #[.int .i64 x.h,.int .i64 x.w,.int .i64 x.c]] w fun e w'=>e=.returned (.int .i64 m)/\Grown w w') (hs:wantS n x s.2.2=(m*s.2.2,s.2.2)):Counter (.func (.func 149) #[] #[.pointer (some ⟨p,0,none⟩)]) n vi vw vb x s w:=by
 refine⟨_,_,rfl,enters_ofChannels,fun w' k=>?_⟩;rw [hs];exact ofChannels1_any n vi vw vb _ _ _ _ _ _ m ⟨p,0,none⟩ fid w' ((k.cell hb).trans hp) (Nat.lt_of_lt_of_le hb k.2.2.1) m1 m2 ms.2.2.2.2.1 ms.2.2.2.2.2 hE hF
end Go.Proofs.YtejllmjkeefloaaGreat
namespace Go.Proofs.YtejllmjkeefloaaGreat
open Go.ChangeShapes Go.WideShapes Go.ChangeAt Go.RowKit
set_option maxRecDepth 20000
set_option linter.unusedVariables false
theorem idx_lt_size {h w c:Int}(m:mayS h w c):1<=sizeI h w c/\sizeI h w c<=2048:=by
 have e:sizeI h w c=h*w*c:=by unfold sizeI;rw [if_pos m]
 obtain⟨h1,h2,h3,h4,h5,h6⟩:=m;have m1:=mul_bd h1 h2 h3 h4;have m2:=mul_bd m1.1 m1.2 h5 h6;rw [e];omega
theorem opOf_is1 (n:NodeD)(W:World)(c:n.op=1):Calls Tryz.prog 99 #[.int .i64 n.op] W (OpPost n W):=by
 have D:opD n.op=⟨1,1,3,1,2,0,1,1,8,false,false⟩:=by rw [c];rfl
 rw [c];refine(opOf_1 W).mono ?_;rintro e w' ⟨p,q,rfl,hp,hb,hq,hb',g⟩;refine⟨_,_,_,_,by rw [D],g,fun vi vw vb lv vs pre=>?_⟩;obtain⟨⟨l,_,_,hset⟩,hm,hv⟩:=pre;rw [D] at l hset;obtain⟨⟨⟨k1,k2⟩,_,⟨p1,p2⟩,_⟩,_⟩:=hset;simp only at l k1 k2 p1 p2;have h0:0<vs.length:=by omega
 have m0:=hm 0 h0;refine⟨.inr (maker_slid_out hp hb g hv h0 (by simp [madeS,c])),fun ms=>?_⟩;have kk:=mul_bd k1 k2 k1 k2;have mm:=mul_bd kk.1 kk.2 m0.2.2.2.2.1 m0.2.2.2.2.2;exact counter_of (m:=n.k*n.k*(vs.getD 0 default).c) hq hb' (by omega) (by omega) ms enters_deepWindow (fun w=>deepWindow_any n vi vw vb _ _ _ w k1 k2 m0.2.2.2.2.1 m0.2.2.2.2.2) (by simp [wantS,c])
theorem opOf_is2 (n:NodeD)(W:World)(c:n.op=2):Calls Tryz.prog 99 #[.int .i64 n.op] W (OpPost n W):=by
 have D:opD n.op=⟨1,1,3,1,2,0,1,0,0,false,false⟩:=by rw [c];rfl
 rw [c];refine(opOf_2 W).mono ?_;rintro e w' ⟨p,q,rfl,hp,hb,hq,hb',g⟩;refine⟨_,_,_,_,by rw [D],g,fun vi vw vb lv vs pre=>?_⟩;obtain⟨⟨l,_,_,hset⟩,hm,hv⟩:=pre;rw [D] at l hset;obtain⟨⟨⟨k1,k2⟩,_,⟨p1,p2⟩,_⟩,_⟩:=hset;simp only at l k1 k2 p1 p2;have h0:0<vs.length:=by omega
 have m0:=hm 0 h0;refine⟨.inr (maker_slid_same hp hb g hv h0 (by simp [madeS,c])),fun ms=>?_⟩;have kk:=mul_bd k1 k2 k1 k2;exact counter_of (m:=n.k*n.k) hq hb' (by omega) (by omega) ms enters_flatWindow (fun w=>flatWindow_any n vi vw vb _ _ _ w k1 k2) (by simp [wantS,c])
theorem opOf_is3 (n:NodeD)(W:World)(c:n.op=3):Calls Tryz.prog 99 #[.int .i64 n.op] W (OpPost n W):=by
 have D:opD n.op=⟨1,0,0,0,0,0,0,1,8,false,false⟩:=by rw [c];rfl
 rw [c];refine(opOf_3 W).mono ?_;rintro e w' ⟨q,rfl,hq,hb',g⟩;refine⟨_,_,_,_,by rw [D],g,fun vi vw vb lv vs pre=>?_⟩;obtain⟨⟨l,_,_,hset⟩,hm,hv⟩:=pre;rw [D] at l hset;obtain⟨⟨⟨k1,k2⟩,_,⟨p1,p2⟩,_⟩,_⟩:=hset;simp only at l k1 k2 p1 p2;have h0:0<vs.length:=by omega
 have m0:=hm 0 h0;refine⟨.inl (maker_point (by simp [madeS,c])),fun ms=>?_⟩;have sz:=idx_lt_size m0;exact counter_of (m:=sizeI (vs.getD 0 default).h (vs.getD 0 default).w (vs.getD 0 default).c) hq hb' (by omega) (by omega) ms enters_everything (fun w=>everything_any n vi vw vb _ _ _ _ w (LH rfl)) (by simp [wantS,c])
theorem opOf_is4 (n:NodeD)(W:World)(c:n.op=4):Calls Tryz.prog 99 #[.int .i64 n.op] W (OpPost n W):=by
 have D:opD n.op=⟨1,1,3,1,2,0,0,0,0,false,true⟩:=by rw [c];rfl
 rw [c];refine(opOf_4 W).mono ?_;rintro e w' ⟨p,q,rfl,hp,hb,hq,hb',g⟩;refine⟨_,_,_,_,by rw [D],g,fun vi vw vb lv vs pre=>?_⟩;obtain⟨⟨l,_,_,hset⟩,hm,hv⟩:=pre;rw [D] at l hset;obtain⟨⟨⟨k1,k2⟩,_,⟨p1,p2⟩,_⟩,_⟩:=hset;simp only at l k1 k2 p1 p2;have h0:0<vs.length:=by omega
 have m0:=hm 0 h0;refine⟨.inr (maker_slid_same hp hb g hv h0 (by simp [madeS,c])),fun ms=>?_⟩;exact counter_always hq hb' (by simp [wantS,c])
theorem opOf_is5 (n:NodeD)(W:World)(c:n.op=5):Calls Tryz.prog 99 #[.int .i64 n.op] W (OpPost n W):=by
 have D:opD n.op=⟨1,1,3,1,2,0,0,0,0,false,true⟩:=by rw [c];rfl
 rw [c];refine(opOf_5 W).mono ?_;rintro e w' ⟨p,q,rfl,hp,hb,hq,hb',g⟩;refine⟨_,_,_,_,by rw [D],g,fun vi vw vb lv vs pre=>?_⟩;obtain⟨⟨l,_,_,hset⟩,hm,hv⟩:=pre;rw [D] at l hset;obtain⟨⟨⟨k1,k2⟩,_,⟨p1,p2⟩,_⟩,_⟩:=hset;simp only at l k1 k2 p1 p2;have h0:0<vs.length:=by omega
 have m0:=hm 0 h0;refine⟨.inr (maker_slid_same hp hb g hv h0 (by simp [madeS,c])),fun ms=>?_⟩;exact counter_always hq hb' (by simp [wantS,c])
theorem opOf_is6 (n:NodeD)(W:World)(c:n.op=6):Calls Tryz.prog 99 #[.int .i64 n.op] W (OpPost n W):=by
 have D:opD n.op=⟨2,0,0,0,0,0,0,0,0,false,false⟩:=by rw [c];rfl
 rw [c];refine(opOf_6 W).mono ?_;rintro e w' ⟨q,rfl,hq,hb',g⟩;refine⟨_,_,_,_,by rw [D],g,fun vi vw vb lv vs pre=>?_⟩;obtain⟨⟨l,_,_,hset⟩,hm,hv⟩:=pre;rw [D] at l hset;obtain⟨⟨⟨k1,k2⟩,_,⟨p1,p2⟩,_⟩,_⟩:=hset;simp only at l k1 k2 p1 p2;have h0:0<vs.length:=by omega
 have m0:=hm 0 h0;refine⟨.inl (maker_alike g hv h0 (by simp [madeS,c])),fun ms=>?_⟩;exact counter_always hq hb' (by simp [wantS,c])
theorem opOf_is7 (n:NodeD)(W:World)(c:n.op=7):Calls Tryz.prog 99 #[.int .i64 n.op] W (OpPost n W):=by
 have D:opD n.op=⟨2,0,0,0,0,0,0,0,0,false,false⟩:=by rw [c];rfl
 rw [c];refine(opOf_7 W).mono ?_;rintro e w' ⟨q,rfl,hq,hb',g⟩;refine⟨_,_,_,_,by rw [D],g,fun vi vw vb lv vs pre=>?_⟩;obtain⟨⟨l,_,_,hset⟩,hm,hv⟩:=pre;rw [D] at l hset;obtain⟨⟨⟨k1,k2⟩,_,⟨p1,p2⟩,_⟩,_⟩:=hset;simp only at l k1 k2 p1 p2;have h0:0<vs.length:=by omega
 have m0:=hm 0 h0;refine⟨.inl (maker_alike g hv h0 (by simp [madeS,c])),fun ms=>?_⟩;exact counter_always hq hb' (by simp [wantS,c])
theorem opOf_is8 (n:NodeD)(W:World)(c:n.op=8):Calls Tryz.prog 99 #[.int .i64 n.op] W (OpPost n W):=by
 have D:opD n.op=⟨1,0,0,0,0,0,0,0,0,false,true⟩:=by rw [c];rfl
 rw [c];refine(opOf_8 W).mono ?_;rintro e w' ⟨q,rfl,hq,hb',g⟩;refine⟨_,_,_,_,by rw [D],g,fun vi vw vb lv vs pre=>?_⟩;obtain⟨⟨l,_,_,hset⟩,hm,hv⟩:=pre;rw [D] at l hset;obtain⟨⟨⟨k1,k2⟩,_,⟨p1,p2⟩,_⟩,_⟩:=hset;simp only at l k1 k2 p1 p2;have h0:0<vs.length:=by omega
 have m0:=hm 0 h0;refine⟨.inl (maker_alike g hv h0 (by simp [madeS,c])),fun ms=>?_⟩;exact counter_always hq hb' (by simp [wantS,c])
theorem opOf_is9 (n:NodeD)(W:World)(c:n.op=9):Calls Tryz.prog 99 #[.int .i64 n.op] W (OpPost n W):=by
 have D:opD n.op=⟨1,0,0,0,0,1,1,0,0,false,true⟩:=by rw [c];rfl
 rw [c];refine(opOf_9 W).mono ?_;rintro e w' ⟨q,rfl,hq,hb',g⟩;refine⟨_,_,_,_,by rw [D],g,fun vi vw vb lv vs pre=>?_⟩;obtain⟨⟨l,_,_,hset⟩,hm,hv⟩:=pre;rw [D] at l hset;obtain⟨⟨⟨k1,k2⟩,_,⟨p1,p2⟩,_⟩,_⟩:=hset;simp only at l k1 k2 p1 p2;have h0:0<vs.length:=by omega
 have m0:=hm 0 h0;refine⟨.inl (maker_framed g hv h0 m0 (by omega) (by simp [madeS,c])),fun ms=>?_⟩;exact counter_always hq hb' (by simp [wantS,c])
theorem opOf_is10 (n:NodeD)(W:World)(c:n.op=10):Calls Tryz.prog 99 #[.int .i64 n.op] W (OpPost n W):=by
 have D:opD n.op=⟨2,0,0,0,0,0,0,0,0,false,true⟩:=by rw [c];rfl
 rw [c];refine(opOf_10 W).mono ?_;rintro e w' ⟨q,rfl,hq,hb',g⟩;refine⟨_,_,_,_,by rw [D],g,fun vi vw vb lv vs pre=>?_⟩;obtain⟨⟨l,_,_,hset⟩,hm,hv⟩:=pre;rw [D] at l hset;obtain⟨⟨⟨k1,k2⟩,_,⟨p1,p2⟩,_⟩,_⟩:=hset;simp only at l k1 k2 p1 p2;have h0:0<vs.length:=by omega
 have m0:=hm 0 h0;refine⟨.inl (maker_stacked g hv (by omega) m0 (hm 1 (by omega)) (by simp [madeS,c])),fun ms=>?_⟩;exact counter_always hq hb' (by simp [wantS,c])
theorem opOf_is11 (n:NodeD)(W:World)(c:n.op=11):Calls Tryz.prog 99 #[.int .i64 n.op] W (OpPost n W):=by
 have D:opD n.op=⟨1,0,0,0,0,0,0,0,0,true,true⟩:=by rw [c];rfl
 rw [c];refine(opOf_11 W).mono ?_;rintro e w' ⟨q,rfl,hq,hb',g⟩;refine⟨_,_,_,_,by rw [D],g,fun vi vw vb lv vs pre=>?_⟩;obtain⟨⟨l,_,_,hset⟩,hm,hv⟩:=pre;rw [D] at l hset;obtain⟨⟨⟨k1,k2⟩,_,⟨p1,p2⟩,_⟩,_⟩:=hset;simp only at l k1 k2 p1 p2;have h0:0<vs.length:=by omega
 have m0:=hm 0 h0;refine⟨.inl (maker_reshaped g hv h0 (by simp [madeS,c])),fun ms=>?_⟩;exact counter_always hq hb' (by simp [wantS,c])
theorem opOf_is12 (n:NodeD)(W:World)(c:n.op=12):Calls Tryz.prog 99 #[.int .i64 n.op] W (OpPost n W):=by
 have D:opD n.op=⟨1,0,0,0,0,0,0,0,0,false,false⟩:=by rw [c];rfl
 rw [c];refine(opOf_12 W).mono ?_;rintro e w' ⟨q,rfl,hq,hb',g⟩;refine⟨_,_,_,_,by rw [D],g,fun vi vw vb lv vs pre=>?_⟩;obtain⟨⟨l,_,_,hset⟩,hm,hv⟩:=pre;rw [D] at l hset;obtain⟨⟨⟨k1,k2⟩,_,⟨p1,p2⟩,_⟩,_⟩:=hset;simp only at l k1 k2 p1 p2;have h0:0<vs.length:=by omega
 have m0:=hm 0 h0;refine⟨.inl (maker_alike g hv h0 (by simp [madeS,c])),fun ms=>?_⟩;exact counter_always hq hb' (by simp [wantS,c])
theorem opOf_any (n:NodeD)(W:World)(h:hasOp n.op):Calls Tryz.prog 99 #[.int .i64 n.op] W (OpPost n W):=by
 obtain⟨h1,h2⟩:=h;have:n.op=1\/n.op=2\/n.op=3\/n.op=4\/n.op=5\/n.op=6\/n.op=7\/n.op=8\/n.op=9\/n.op=10\/n.op=11\/n.op=12:=by omega
 rcases this with c|c|c|c|c|c|c|c|c|c|c|c
 ·exact opOf_is1 n W c
 ·exact opOf_is2 n W c
 ·exact opOf_is3 n W c
 ·exact opOf_is4 n W c
 ·exact opOf_is5 n W c
 ·exact opOf_is6 n W c
 ·exact opOf_is7 n W c
 ·exact opOf_is8 n W c
 ·exact opOf_is9 n W c
 ·exact opOf_is10 n W c
 ·exact opOf_is11 n W c
 ·exact opOf_is12 n W c
end Go.Proofs.YtejllmjkeefloaaGreat
