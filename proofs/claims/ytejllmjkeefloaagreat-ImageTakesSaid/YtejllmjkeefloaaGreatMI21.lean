/- The reference's take: one command. -/
import Derived.Test.YtejllmjkeefloaaGreatMA6
namespace Go.Proofs.YtejllmjkeefloaaGreat.Q8
open Go.ChangeShapes Go.WideShapes Go.ChangeAt Go.RowKit
set_option maxRecDepth 20000
set_option linter.unusedVariables false
set_option linter.unusedSimpArgs false
def TkPost (c:List Int)(W:World)(e:Ending)(w':World):Prop:=e=.returned (.agg ⟨cellC c⟩)/\Past W w'
theorem head_cell {w:World} {b off len cap:Nat} {k:Int} {u:List Int} (h:IsNums .u8 w (.slice (some ⟨b,off,none⟩) len cap) (k :: u)):w.cell? ⟨b,off,none⟩=some (.int .u8 k)/\len<=cap:=by
 obtain ⟨A,cap',e,h2,h3,h4,h5,h6⟩:=h;obtain ⟨b',off',e',_,hc⟩:=h6 (by simp);subst e';simp only [Value.slice.injEq,Option.some.injEq,Addr.mk.injEq,and_true] at e;obtain ⟨⟨rfl,rfl⟩,rfl,rfl⟩:=e;have:=hc 0 (by simp);simp only [Nat.add_zero,List.getD_cons_zero] at this;exact ⟨this,h2⟩
theorem at_head (k:Int)(u:List Int)(n wd:Nat):((k :: u).drop (n+1)).take wd=(u.drop n).take wd:=rfl
set_option maxHeartbeats 4000000 in
theorem rtake_load1 (bb bo cap:Nat) (u:List Int) (W:World) (hlen:u.length=8) (hb:IsNums .u8 W (.slice (some ⟨bb,bo,none⟩) (1 :: u).length cap) (1 :: u)) :
  Calls Tryz.prog 46 #[.slice (some ⟨bb,bo,none⟩) (1 :: u).length cap] W (TkPost (cmdT 1 u) W):=by
 have hl1:(1 :: u).length=9:=by simp [hlen]
 obtain ⟨r,e4⟩:∃ x,foldB ((u.drop 0).take 1)=x:=⟨_,rfl⟩
 have A4:=LH (fun w h=>rat_any bb bo cap 1 1 (1 :: u) w h (by rw [hl1];omega) (by omega) (by rw [hl1];omega))
 rw [at_head,e4,hl1] at A4
 obtain ⟨w,e5⟩:∃ x,foldB ((u.drop 1).take 2)=x:=⟨_,rfl⟩
 have A5:=LH (fun w h=>rat_any bb bo cap 2 2 (1 :: u) w h (by rw [hl1];omega) (by omega) (by rw [hl1];omega))
 rw [at_head,e5,hl1] at A5
 obtain ⟨d,e6⟩:∃ x,foldB ((u.drop 3).take 3)=x:=⟨_,rfl⟩
 have A6:=LH (fun w h=>rat_any bb bo cap 4 3 (1 :: u) w h (by rw [hl1];omega) (by omega) (by rw [hl1];omega))
 rw [at_head,e6,hl1] at A6
 obtain ⟨p,e7⟩:∃ x,foldB ((u.drop 6).take 2)=x:=⟨_,rfl⟩
 have A7:=LH (fun w h=>rat_any bb bo cap 7 2 (1 :: u) w h (by rw [hl1];omega) (by omega) (by rw [hl1];omega))
 rw [at_head,e7,hl1] at A7
 have HC:Hid (cmdT 1 u=(((((zeros.set 0 1).set 4 r).set 5 w).set 6 d).set 7 p)):=LH (by
  unfold cmdT
  rw [show fldsD 1=[⟨4,1,16,1⟩,⟨5,1,128,2⟩,⟨6,0,65535,3⟩,⟨7,0,1023,2⟩] from rfl]
  simp only [readF,List.drop_drop,List.drop_zero]
  try simp only [List.drop_zero] at *
  try simp only [e4,e5,e6,e7])
 have HB:=LH hb
 rw [hl1] at HB ⊢
 have HH:=LH hl1
 clear hb hl1 hlen e4 e5 e6 e7
 obtain ⟨c00,lcap⟩:=head_cell HB.out
 go_enter Tryz.func46,Tryz.ntmps46
 go_upto_region 1 with fail
 obtain ⟨Q0,hQ0⟩:∃ Q,W.heap.size=Q:=⟨_,rfl⟩
 refine opq (fun w'=>(Bx w' Q0 ⟨cellC zeros⟩)∧(Fr w' Q0)∧Past W w'∧Q0+1=w'.heap.size∧w'.cell? ⟨bb,bo,none⟩=some (.int .u8 1)) (by subst hQ0;rw [zeros_box];exact ⟨box_new rfl,free_alloc (free_new (Nat.le_refl _)),(Past.refl W).alloc _,by simp,cell_alloc c00 (cell_lt c00)⟩) ?_
 rintro w0 ⟨b0,f0,p0,z0,c0⟩
 try simp only [hQ0]
 have QW0:W.heap.size≤Q0:=by omega
 have Z0:=LH (And.intro b0 (And.intro f0 p0))
 clear b0 f0 p0 hQ0 c00
 go_upto_region 2 with fail
 obtain ⟨Q,hQ⟩:∃ Q,w0.heap.size=Q:=⟨_,rfl⟩
 have Q01:Q0<Q:=by omega
 refine opq (fun w'=>Hid ((Bx w' Q0 ⟨cellC zeros⟩)∧(Fr w' Q0)∧(Bx w' Q ⟨cellC (zeros.set 0 1)⟩)∧(Fr w' Q)∧Past W w'∧Q<w'.heap.size)∧w'.cell? ⟨Q,0,none⟩=some (.int .i64 1)) (by
  subst hQ
  rw [kind_box]
  exact ⟨LH ⟨box_old Z0.out.1 (by omega),free_alloc Z0.out.2.1,box_new rfl,free_alloc (free_new (Nat.le_refl _)),Z0.out.2.2.alloc _,by simp⟩,box_new rfl 0⟩) ?_
 rintro w1 ⟨R0,k0⟩
 try simp only [hQ]
 clear Z0 hQ z0 c0
 go_upto_region 5 with fail
 have kk:=boxC_cell R0.out.2.2.1 (j:=4) (by simp [zeros])
 have ff:=R0.out.2.2.2.1 4
 go_wp2_with fail
 refine (A4.out w1 (HB.out.grow R0.out.2.2.2.2.1)).mono ?_
 rintro e wx ⟨rfl,rfl⟩
 go_upto_region 6 with fail
 refine opq (fun w'=>Hid ((Bx w' Q0 ⟨cellC zeros⟩)∧(Fr w' Q0)∧(Bx w' Q ⟨cellC ((zeros.set 0 1).set 4 r)⟩)∧(Fr w' Q)∧Past W w'∧Q<w'.heap.size)) (LH ⟨box_set R0.out.1 (by dsimp only;omega),free_set R0.out.2.1,boxC_set (x:=r) R0.out.2.2.1 (by simp [zeros]),free_set R0.out.2.2.2.1,Past.setCell R0.out.2.2.2.2.1 (by dsimp only;omega) _,by rw [World.size_setCell];exact R0.out.2.2.2.2.2⟩) ?_
 rintro wf0 Rf0
 clear kk ff R0
 have kk:=boxC_cell Rf0.out.2.2.1 (j:=5) (by simp [zeros])
 have ff:=Rf0.out.2.2.2.1 5
 go_wp2_with fail
 refine (A5.out wf0 (HB.out.grow Rf0.out.2.2.2.2.1)).mono ?_
 rintro e wx ⟨rfl,rfl⟩
 go_upto_region 7 with fail
 refine opq (fun w'=>Hid ((Bx w' Q0 ⟨cellC zeros⟩)∧(Fr w' Q0)∧(Bx w' Q ⟨cellC (((zeros.set 0 1).set 4 r).set 5 w)⟩)∧(Fr w' Q)∧Past W w'∧Q<w'.heap.size)) (LH ⟨box_set Rf0.out.1 (by dsimp only;omega),free_set Rf0.out.2.1,boxC_set (x:=w) Rf0.out.2.2.1 (by simp [zeros]),free_set Rf0.out.2.2.2.1,Past.setCell Rf0.out.2.2.2.2.1 (by dsimp only;omega) _,by rw [World.size_setCell];exact Rf0.out.2.2.2.2.2⟩) ?_
 rintro wf1 Rf1
 clear kk ff Rf0
 have kk:=boxC_cell Rf1.out.2.2.1 (j:=6) (by simp [zeros])
 have ff:=Rf1.out.2.2.2.1 6
 go_wp2_with fail
 refine (A6.out wf1 (HB.out.grow Rf1.out.2.2.2.2.1)).mono ?_
 rintro e wx ⟨rfl,rfl⟩
 go_upto_region 8 with fail
 refine opq (fun w'=>Hid ((Bx w' Q0 ⟨cellC zeros⟩)∧(Fr w' Q0)∧(Bx w' Q ⟨cellC ((((zeros.set 0 1).set 4 r).set 5 w).set 6 d)⟩)∧(Fr w' Q)∧Past W w'∧Q<w'.heap.size)) (LH ⟨box_set Rf1.out.1 (by dsimp only;omega),free_set Rf1.out.2.1,boxC_set (x:=d) Rf1.out.2.2.1 (by simp [zeros]),free_set Rf1.out.2.2.2.1,Past.setCell Rf1.out.2.2.2.2.1 (by dsimp only;omega) _,by rw [World.size_setCell];exact Rf1.out.2.2.2.2.2⟩) ?_
 rintro wf2 Rf2
 clear kk ff Rf1
 have kk:=boxC_cell Rf2.out.2.2.1 (j:=7) (by simp [zeros])
 have ff:=Rf2.out.2.2.2.1 7
 go_wp2_with fail
 refine (A7.out wf2 (HB.out.grow Rf2.out.2.2.2.2.1)).mono ?_
 rintro e wx ⟨rfl,rfl⟩
 go_upto_region 26 with fail
 refine opq (fun w'=>Hid ((Bx w' Q0 ⟨cellC zeros⟩)∧(Fr w' Q0)∧(Bx w' Q ⟨cellC (((((zeros.set 0 1).set 4 r).set 5 w).set 6 d).set 7 p)⟩)∧(Fr w' Q)∧Past W w'∧Q<w'.heap.size)) (LH ⟨box_set Rf2.out.1 (by dsimp only;omega),free_set Rf2.out.2.1,boxC_set (x:=p) Rf2.out.2.2.1 (by simp [zeros]),free_set Rf2.out.2.2.2.1,Past.setCell Rf2.out.2.2.2.2.1 (by dsimp only;omega) _,by rw [World.size_setCell];exact Rf2.out.2.2.2.2.2⟩) ?_
 rintro wf3 Rf3
 clear kk ff Rf2
 have B9:=LH Rf3.out.2.2.1
 have BZ9:=LH Rf3.out.1
 have FZ9:=LH Rf3.out.2.1
 have P9:=LH Rf3.out.2.2.2.2.1
 have ZZ9:=LH (show Q0<wf3.heap.size from Nat.lt_trans Q01 Rf3.out.2.2.2.2.2)
 have L9:Hid ((((((zeros.set 0 1).set 4 r).set 5 w).set 6 d).set 7 p).length=14):=LH (by simp [zeros])
 clear Rf3
 go_wp2_with (first|(refine wpList_load_cmd ?g1 (.tmp 3) ?g2 Q ?g3 (((((zeros.set 0 1).set 4 r).set 5 w).set 6 d).set 7 p) L9.out B9.out ?_;(case g1=>rfl);(case g2=>rfl);(case g3=>rfl))|(refine wpList_set_cmd ?s1 (.tmp 2) (.tmp 83) ?s2 ?s3 Q0 (((((zeros.set 0 1).set 4 r).set 5 w).set 6 d).set 7 p) zeros L9.out (by simp [zeros]) ?s4 ?s5 BZ9.out FZ9.out W P9.out QW0 ZZ9.out ?_;(case s1=>rfl);(case s2=>rfl);(case s3=>rfl);(case s4=>rfl);(case s5=>rfl);rintro wq pq bq fq zq;have PQ:=LH pq;clear pq fq zq))
 exact ret_box1 rfl Q0 ⟨cellC (((((zeros.set 0 1).set 4 r).set 5 w).set 6 d).set 7 p)⟩ _ rfl bq Tryz.underlying67 rfl (cmdSize L9.out) rfl ⟨by rw [HC.out],PQ.out⟩
set_option maxHeartbeats 4000000 in
theorem rtake_load2 (bb bo cap:Nat) (u:List Int) (W:World) (hlen:u.length=8) (hb:IsNums .u8 W (.slice (some ⟨bb,bo,none⟩) (2 :: u).length cap) (2 :: u)) :
  Calls Tryz.prog 46 #[.slice (some ⟨bb,bo,none⟩) (2 :: u).length cap] W (TkPost (cmdT 2 u) W):=by
 have hl1:(2 :: u).length=9:=by simp [hlen]
 obtain ⟨r,e4⟩:∃ x,foldB ((u.drop 0).take 1)=x:=⟨_,rfl⟩
 have A4:=LH (fun w h=>rat_any bb bo cap 1 1 (2 :: u) w h (by rw [hl1];omega) (by omega) (by rw [hl1];omega))
 rw [at_head,e4,hl1] at A4
 obtain ⟨w,e5⟩:∃ x,foldB ((u.drop 1).take 2)=x:=⟨_,rfl⟩
 have A5:=LH (fun w h=>rat_any bb bo cap 2 2 (2 :: u) w h (by rw [hl1];omega) (by omega) (by rw [hl1];omega))
 rw [at_head,e5,hl1] at A5
 obtain ⟨d,e6⟩:∃ x,foldB ((u.drop 3).take 3)=x:=⟨_,rfl⟩
 have A6:=LH (fun w h=>rat_any bb bo cap 4 3 (2 :: u) w h (by rw [hl1];omega) (by omega) (by rw [hl1];omega))
 rw [at_head,e6,hl1] at A6
 obtain ⟨p,e7⟩:∃ x,foldB ((u.drop 6).take 2)=x:=⟨_,rfl⟩
 have A7:=LH (fun w h=>rat_any bb bo cap 7 2 (2 :: u) w h (by rw [hl1];omega) (by omega) (by rw [hl1];omega))
 rw [at_head,e7,hl1] at A7
 have HC:Hid (cmdT 2 u=(((((zeros.set 0 2).set 4 r).set 5 w).set 6 d).set 7 p)):=LH (by
  unfold cmdT
  rw [show fldsD 2=[⟨4,1,16,1⟩,⟨5,1,128,2⟩,⟨6,0,65535,3⟩,⟨7,0,1023,2⟩] from rfl]
  simp only [readF,List.drop_drop,List.drop_zero]
  try simp only [List.drop_zero] at *
  try simp only [e4,e5,e6,e7])
 have HB:=LH hb
 rw [hl1] at HB ⊢
 have HH:=LH hl1
 clear hb hl1 hlen e4 e5 e6 e7
 obtain ⟨c00,lcap⟩:=head_cell HB.out
 go_enter Tryz.func46,Tryz.ntmps46
 go_upto_region 1 with fail
 obtain ⟨Q0,hQ0⟩:∃ Q,W.heap.size=Q:=⟨_,rfl⟩
 refine opq (fun w'=>(Bx w' Q0 ⟨cellC zeros⟩)∧(Fr w' Q0)∧Past W w'∧Q0+1=w'.heap.size∧w'.cell? ⟨bb,bo,none⟩=some (.int .u8 2)) (by subst hQ0;rw [zeros_box];exact ⟨box_new rfl,free_alloc (free_new (Nat.le_refl _)),(Past.refl W).alloc _,by simp,cell_alloc c00 (cell_lt c00)⟩) ?_
 rintro w0 ⟨b0,f0,p0,z0,c0⟩
 try simp only [hQ0]
 have QW0:W.heap.size≤Q0:=by omega
 have Z0:=LH (And.intro b0 (And.intro f0 p0))
 clear b0 f0 p0 hQ0 c00
 go_upto_region 2 with fail
 obtain ⟨Q,hQ⟩:∃ Q,w0.heap.size=Q:=⟨_,rfl⟩
 have Q01:Q0<Q:=by omega
 refine opq (fun w'=>Hid ((Bx w' Q0 ⟨cellC zeros⟩)∧(Fr w' Q0)∧(Bx w' Q ⟨cellC (zeros.set 0 2)⟩)∧(Fr w' Q)∧Past W w'∧Q<w'.heap.size)∧w'.cell? ⟨Q,0,none⟩=some (.int .i64 2)) (by
  subst hQ
  rw [kind_box]
  exact ⟨LH ⟨box_old Z0.out.1 (by omega),free_alloc Z0.out.2.1,box_new rfl,free_alloc (free_new (Nat.le_refl _)),Z0.out.2.2.alloc _,by simp⟩,box_new rfl 0⟩) ?_
 rintro w1 ⟨R0,k0⟩
 try simp only [hQ]
 clear Z0 hQ z0 c0
 go_upto_region 5 with fail
 have kk:=boxC_cell R0.out.2.2.1 (j:=4) (by simp [zeros])
 have ff:=R0.out.2.2.2.1 4
 go_wp2_with fail
 refine (A4.out w1 (HB.out.grow R0.out.2.2.2.2.1)).mono ?_
 rintro e wx ⟨rfl,rfl⟩
 go_upto_region 6 with fail
 refine opq (fun w'=>Hid ((Bx w' Q0 ⟨cellC zeros⟩)∧(Fr w' Q0)∧(Bx w' Q ⟨cellC ((zeros.set 0 2).set 4 r)⟩)∧(Fr w' Q)∧Past W w'∧Q<w'.heap.size)) (LH ⟨box_set R0.out.1 (by dsimp only;omega),free_set R0.out.2.1,boxC_set (x:=r) R0.out.2.2.1 (by simp [zeros]),free_set R0.out.2.2.2.1,Past.setCell R0.out.2.2.2.2.1 (by dsimp only;omega) _,by rw [World.size_setCell];exact R0.out.2.2.2.2.2⟩) ?_
 rintro wf0 Rf0
 clear kk ff R0
 have kk:=boxC_cell Rf0.out.2.2.1 (j:=5) (by simp [zeros])
 have ff:=Rf0.out.2.2.2.1 5
 go_wp2_with fail
 refine (A5.out wf0 (HB.out.grow Rf0.out.2.2.2.2.1)).mono ?_
 rintro e wx ⟨rfl,rfl⟩
 go_upto_region 7 with fail
 refine opq (fun w'=>Hid ((Bx w' Q0 ⟨cellC zeros⟩)∧(Fr w' Q0)∧(Bx w' Q ⟨cellC (((zeros.set 0 2).set 4 r).set 5 w)⟩)∧(Fr w' Q)∧Past W w'∧Q<w'.heap.size)) (LH ⟨box_set Rf0.out.1 (by dsimp only;omega),free_set Rf0.out.2.1,boxC_set (x:=w) Rf0.out.2.2.1 (by simp [zeros]),free_set Rf0.out.2.2.2.1,Past.setCell Rf0.out.2.2.2.2.1 (by dsimp only;omega) _,by rw [World.size_setCell];exact Rf0.out.2.2.2.2.2⟩) ?_
 rintro wf1 Rf1
 clear kk ff Rf0
 have kk:=boxC_cell Rf1.out.2.2.1 (j:=6) (by simp [zeros])
 have ff:=Rf1.out.2.2.2.1 6
 go_wp2_with fail
 refine (A6.out wf1 (HB.out.grow Rf1.out.2.2.2.2.1)).mono ?_
 rintro e wx ⟨rfl,rfl⟩
 go_upto_region 8 with fail
 refine opq (fun w'=>Hid ((Bx w' Q0 ⟨cellC zeros⟩)∧(Fr w' Q0)∧(Bx w' Q ⟨cellC ((((zeros.set 0 2).set 4 r).set 5 w).set 6 d)⟩)∧(Fr w' Q)∧Past W w'∧Q<w'.heap.size)) (LH ⟨box_set Rf1.out.1 (by dsimp only;omega),free_set Rf1.out.2.1,boxC_set (x:=d) Rf1.out.2.2.1 (by simp [zeros]),free_set Rf1.out.2.2.2.1,Past.setCell Rf1.out.2.2.2.2.1 (by dsimp only;omega) _,by rw [World.size_setCell];exact Rf1.out.2.2.2.2.2⟩) ?_
 rintro wf2 Rf2
 clear kk ff Rf1
 have kk:=boxC_cell Rf2.out.2.2.1 (j:=7) (by simp [zeros])
 have ff:=Rf2.out.2.2.2.1 7
 go_wp2_with fail
 refine (A7.out wf2 (HB.out.grow Rf2.out.2.2.2.2.1)).mono ?_
 rintro e wx ⟨rfl,rfl⟩
 go_upto_region 26 with fail
 refine opq (fun w'=>Hid ((Bx w' Q0 ⟨cellC zeros⟩)∧(Fr w' Q0)∧(Bx w' Q ⟨cellC (((((zeros.set 0 2).set 4 r).set 5 w).set 6 d).set 7 p)⟩)∧(Fr w' Q)∧Past W w'∧Q<w'.heap.size)) (LH ⟨box_set Rf2.out.1 (by dsimp only;omega),free_set Rf2.out.2.1,boxC_set (x:=p) Rf2.out.2.2.1 (by simp [zeros]),free_set Rf2.out.2.2.2.1,Past.setCell Rf2.out.2.2.2.2.1 (by dsimp only;omega) _,by rw [World.size_setCell];exact Rf2.out.2.2.2.2.2⟩) ?_
 rintro wf3 Rf3
 clear kk ff Rf2
 have B9:=LH Rf3.out.2.2.1
 have BZ9:=LH Rf3.out.1
 have FZ9:=LH Rf3.out.2.1
 have P9:=LH Rf3.out.2.2.2.2.1
 have ZZ9:=LH (show Q0<wf3.heap.size from Nat.lt_trans Q01 Rf3.out.2.2.2.2.2)
 have L9:Hid ((((((zeros.set 0 2).set 4 r).set 5 w).set 6 d).set 7 p).length=14):=LH (by simp [zeros])
 clear Rf3
 go_wp2_with (first|(refine wpList_load_cmd ?g1 (.tmp 3) ?g2 Q ?g3 (((((zeros.set 0 2).set 4 r).set 5 w).set 6 d).set 7 p) L9.out B9.out ?_;(case g1=>rfl);(case g2=>rfl);(case g3=>rfl))|(refine wpList_set_cmd ?s1 (.tmp 2) (.tmp 83) ?s2 ?s3 Q0 (((((zeros.set 0 2).set 4 r).set 5 w).set 6 d).set 7 p) zeros L9.out (by simp [zeros]) ?s4 ?s5 BZ9.out FZ9.out W P9.out QW0 ZZ9.out ?_;(case s1=>rfl);(case s2=>rfl);(case s3=>rfl);(case s4=>rfl);(case s5=>rfl);rintro wq pq bq fq zq;have PQ:=LH pq;clear pq fq zq))
 exact ret_box1 rfl Q0 ⟨cellC (((((zeros.set 0 2).set 4 r).set 5 w).set 6 d).set 7 p)⟩ _ rfl bq Tryz.underlying67 rfl (cmdSize L9.out) rfl ⟨by rw [HC.out],PQ.out⟩
set_option maxHeartbeats 4000000 in
theorem rtake_kernel (bb bo cap:Nat) (u:List Int) (W:World) (hlen:u.length=2) (hb:IsNums .u8 W (.slice (some ⟨bb,bo,none⟩) (4 :: u).length cap) (4 :: u)) :
  Calls Tryz.prog 46 #[.slice (some ⟨bb,bo,none⟩) (4 :: u).length cap] W (TkPost (cmdT 4 u) W):=by
 have hl1:(4 :: u).length=3:=by simp [hlen]
 obtain ⟨n,e2⟩:∃ x,foldB ((u.drop 0).take 1)=x:=⟨_,rfl⟩
 have A2:=LH (fun w h=>rat_any bb bo cap 1 1 (4 :: u) w h (by rw [hl1];omega) (by omega) (by rw [hl1];omega))
 rw [at_head,e2,hl1] at A2
 obtain ⟨r,e4⟩:∃ x,foldB ((u.drop 1).take 1)=x:=⟨_,rfl⟩
 have A4:=LH (fun w h=>rat_any bb bo cap 2 1 (4 :: u) w h (by rw [hl1];omega) (by omega) (by rw [hl1];omega))
 rw [at_head,e4,hl1] at A4
 have HC:Hid (cmdT 4 u=(((zeros.set 0 4).set 2 n).set 4 r)):=LH (by
  unfold cmdT
  rw [show fldsD 4=[⟨2,0,11,1⟩,⟨4,1,16,1⟩] from rfl]
  simp only [readF,List.drop_drop,List.drop_zero]
  try simp only [List.drop_zero] at *
  try simp only [e2,e4])
 have HB:=LH hb
 rw [hl1] at HB ⊢
 have HH:=LH hl1
 clear hb hl1 hlen e2 e4
 obtain ⟨c00,lcap⟩:=head_cell HB.out
 go_enter Tryz.func46,Tryz.ntmps46
 go_upto_region 1 with fail
 obtain ⟨Q0,hQ0⟩:∃ Q,W.heap.size=Q:=⟨_,rfl⟩
 refine opq (fun w'=>(Bx w' Q0 ⟨cellC zeros⟩)∧(Fr w' Q0)∧Past W w'∧Q0+1=w'.heap.size∧w'.cell? ⟨bb,bo,none⟩=some (.int .u8 4)) (by subst hQ0;rw [zeros_box];exact ⟨box_new rfl,free_alloc (free_new (Nat.le_refl _)),(Past.refl W).alloc _,by simp,cell_alloc c00 (cell_lt c00)⟩) ?_
 rintro w0 ⟨b0,f0,p0,z0,c0⟩
 try simp only [hQ0]
 have QW0:W.heap.size≤Q0:=by omega
 have Z0:=LH (And.intro b0 (And.intro f0 p0))
 clear b0 f0 p0 hQ0 c00
 go_upto_region 2 with fail
 obtain ⟨Q,hQ⟩:∃ Q,w0.heap.size=Q:=⟨_,rfl⟩
 have Q01:Q0<Q:=by omega
 refine opq (fun w'=>Hid ((Bx w' Q0 ⟨cellC zeros⟩)∧(Fr w' Q0)∧(Bx w' Q ⟨cellC (zeros.set 0 4)⟩)∧(Fr w' Q)∧Past W w'∧Q<w'.heap.size)∧w'.cell? ⟨Q,0,none⟩=some (.int .i64 4)) (by
  subst hQ
  rw [kind_box]
  exact ⟨LH ⟨box_old Z0.out.1 (by omega),free_alloc Z0.out.2.1,box_new rfl,free_alloc (free_new (Nat.le_refl _)),Z0.out.2.2.alloc _,by simp⟩,box_new rfl 0⟩) ?_
 rintro w1 ⟨R0,k0⟩
 try simp only [hQ]
 clear Z0 hQ z0 c0
 go_upto_region 21 with fail
 have kk:=boxC_cell R0.out.2.2.1 (j:=2) (by simp [zeros])
 have ff:=R0.out.2.2.2.1 2
 go_wp2_with fail
 refine (A2.out w1 (HB.out.grow R0.out.2.2.2.2.1)).mono ?_
 rintro e wx ⟨rfl,rfl⟩
 go_upto_region 22 with fail
 refine opq (fun w'=>Hid ((Bx w' Q0 ⟨cellC zeros⟩)∧(Fr w' Q0)∧(Bx w' Q ⟨cellC ((zeros.set 0 4).set 2 n)⟩)∧(Fr w' Q)∧Past W w'∧Q<w'.heap.size)) (LH ⟨box_set R0.out.1 (by dsimp only;omega),free_set R0.out.2.1,boxC_set (x:=n) R0.out.2.2.1 (by simp [zeros]),free_set R0.out.2.2.2.1,Past.setCell R0.out.2.2.2.2.1 (by dsimp only;omega) _,by rw [World.size_setCell];exact R0.out.2.2.2.2.2⟩) ?_
 rintro wf0 Rf0
 clear kk ff R0
 have kk:=boxC_cell Rf0.out.2.2.1 (j:=4) (by simp [zeros])
 have ff:=Rf0.out.2.2.2.1 4
 go_wp2_with fail
 refine (A4.out wf0 (HB.out.grow Rf0.out.2.2.2.2.1)).mono ?_
 rintro e wx ⟨rfl,rfl⟩
 go_upto_region 26 with fail
 refine opq (fun w'=>Hid ((Bx w' Q0 ⟨cellC zeros⟩)∧(Fr w' Q0)∧(Bx w' Q ⟨cellC (((zeros.set 0 4).set 2 n).set 4 r)⟩)∧(Fr w' Q)∧Past W w'∧Q<w'.heap.size)) (LH ⟨box_set Rf0.out.1 (by dsimp only;omega),free_set Rf0.out.2.1,boxC_set (x:=r) Rf0.out.2.2.1 (by simp [zeros]),free_set Rf0.out.2.2.2.1,Past.setCell Rf0.out.2.2.2.2.1 (by dsimp only;omega) _,by rw [World.size_setCell];exact Rf0.out.2.2.2.2.2⟩) ?_
 rintro wf1 Rf1
 clear kk ff Rf0
 have B9:=LH Rf1.out.2.2.1
 have BZ9:=LH Rf1.out.1
 have FZ9:=LH Rf1.out.2.1
 have P9:=LH Rf1.out.2.2.2.2.1
 have ZZ9:=LH (show Q0<wf1.heap.size from Nat.lt_trans Q01 Rf1.out.2.2.2.2.2)
 have L9:Hid ((((zeros.set 0 4).set 2 n).set 4 r).length=14):=LH (by simp [zeros])
 clear Rf1
 go_wp2_with (first|(refine wpList_load_cmd ?g1 (.tmp 3) ?g2 Q ?g3 (((zeros.set 0 4).set 2 n).set 4 r) L9.out B9.out ?_;(case g1=>rfl);(case g2=>rfl);(case g3=>rfl))|(refine wpList_set_cmd ?s1 (.tmp 2) (.tmp 83) ?s2 ?s3 Q0 (((zeros.set 0 4).set 2 n).set 4 r) zeros L9.out (by simp [zeros]) ?s4 ?s5 BZ9.out FZ9.out W P9.out QW0 ZZ9.out ?_;(case s1=>rfl);(case s2=>rfl);(case s3=>rfl);(case s4=>rfl);(case s5=>rfl);rintro wq pq bq fq zq;have PQ:=LH pq;clear pq fq zq))
 exact ret_box1 rfl Q0 ⟨cellC (((zeros.set 0 4).set 2 n).set 4 r)⟩ _ rfl bq Tryz.underlying67 rfl (cmdSize L9.out) rfl ⟨by rw [HC.out],PQ.out⟩
set_option maxHeartbeats 4000000 in
theorem rtake_sem5 (bb bo cap:Nat) (u:List Int) (W:World) (hlen:u.length=1) (hb:IsNums .u8 W (.slice (some ⟨bb,bo,none⟩) (5 :: u).length cap) (5 :: u)) :
  Calls Tryz.prog 46 #[.slice (some ⟨bb,bo,none⟩) (5 :: u).length cap] W (TkPost (cmdT 5 u) W):=by
 have hl1:(5 :: u).length=2:=by simp [hlen]
 obtain ⟨s,e1⟩:∃ x,foldB ((u.drop 0).take 1)=x:=⟨_,rfl⟩
 have A1:=LH (fun w h=>rat_any bb bo cap 1 1 (5 :: u) w h (by rw [hl1];omega) (by omega) (by rw [hl1];omega))
 rw [at_head,e1,hl1] at A1
 have HC:Hid (cmdT 5 u=((zeros.set 0 5).set 1 s)):=LH (by
  unfold cmdT
  rw [show fldsD 5=[⟨1,0,7,1⟩] from rfl]
  simp only [readF,List.drop_drop,List.drop_zero]
  try simp only [List.drop_zero] at *
  try simp only [e1])
 have HB:=LH hb
 rw [hl1] at HB ⊢
 have HH:=LH hl1
 clear hb hl1 hlen e1
 obtain ⟨c00,lcap⟩:=head_cell HB.out
 go_enter Tryz.func46,Tryz.ntmps46
 go_upto_region 1 with fail
 obtain ⟨Q0,hQ0⟩:∃ Q,W.heap.size=Q:=⟨_,rfl⟩
 refine opq (fun w'=>(Bx w' Q0 ⟨cellC zeros⟩)∧(Fr w' Q0)∧Past W w'∧Q0+1=w'.heap.size∧w'.cell? ⟨bb,bo,none⟩=some (.int .u8 5)) (by subst hQ0;rw [zeros_box];exact ⟨box_new rfl,free_alloc (free_new (Nat.le_refl _)),(Past.refl W).alloc _,by simp,cell_alloc c00 (cell_lt c00)⟩) ?_
 rintro w0 ⟨b0,f0,p0,z0,c0⟩
 try simp only [hQ0]
 have QW0:W.heap.size≤Q0:=by omega
 have Z0:=LH (And.intro b0 (And.intro f0 p0))
 clear b0 f0 p0 hQ0 c00
 go_upto_region 2 with fail
 obtain ⟨Q,hQ⟩:∃ Q,w0.heap.size=Q:=⟨_,rfl⟩
 have Q01:Q0<Q:=by omega
 refine opq (fun w'=>Hid ((Bx w' Q0 ⟨cellC zeros⟩)∧(Fr w' Q0)∧(Bx w' Q ⟨cellC (zeros.set 0 5)⟩)∧(Fr w' Q)∧Past W w'∧Q<w'.heap.size)∧w'.cell? ⟨Q,0,none⟩=some (.int .i64 5)) (by
  subst hQ
  rw [kind_box]
  exact ⟨LH ⟨box_old Z0.out.1 (by omega),free_alloc Z0.out.2.1,box_new rfl,free_alloc (free_new (Nat.le_refl _)),Z0.out.2.2.alloc _,by simp⟩,box_new rfl 0⟩) ?_
 rintro w1 ⟨R0,k0⟩
 try simp only [hQ]
 clear Z0 hQ z0 c0
 go_upto_region 25 with fail
 have kk:=boxC_cell R0.out.2.2.1 (j:=1) (by simp [zeros])
 have ff:=R0.out.2.2.2.1 1
 go_wp2_with fail
 refine (A1.out w1 (HB.out.grow R0.out.2.2.2.2.1)).mono ?_
 rintro e wx ⟨rfl,rfl⟩
 go_upto_region 26 with fail
 refine opq (fun w'=>Hid ((Bx w' Q0 ⟨cellC zeros⟩)∧(Fr w' Q0)∧(Bx w' Q ⟨cellC ((zeros.set 0 5).set 1 s)⟩)∧(Fr w' Q)∧Past W w'∧Q<w'.heap.size)) (LH ⟨box_set R0.out.1 (by dsimp only;omega),free_set R0.out.2.1,boxC_set (x:=s) R0.out.2.2.1 (by simp [zeros]),free_set R0.out.2.2.2.1,Past.setCell R0.out.2.2.2.2.1 (by dsimp only;omega) _,by rw [World.size_setCell];exact R0.out.2.2.2.2.2⟩) ?_
 rintro wf0 Rf0
 clear kk ff R0
 have B9:=LH Rf0.out.2.2.1
 have BZ9:=LH Rf0.out.1
 have FZ9:=LH Rf0.out.2.1
 have P9:=LH Rf0.out.2.2.2.2.1
 have ZZ9:=LH (show Q0<wf0.heap.size from Nat.lt_trans Q01 Rf0.out.2.2.2.2.2)
 have L9:Hid (((zeros.set 0 5).set 1 s).length=14):=LH (by simp [zeros])
 clear Rf0
 go_wp2_with (first|(refine wpList_load_cmd ?g1 (.tmp 3) ?g2 Q ?g3 ((zeros.set 0 5).set 1 s) L9.out B9.out ?_;(case g1=>rfl);(case g2=>rfl);(case g3=>rfl))|(refine wpList_set_cmd ?s1 (.tmp 2) (.tmp 83) ?s2 ?s3 Q0 ((zeros.set 0 5).set 1 s) zeros L9.out (by simp [zeros]) ?s4 ?s5 BZ9.out FZ9.out W P9.out QW0 ZZ9.out ?_;(case s1=>rfl);(case s2=>rfl);(case s3=>rfl);(case s4=>rfl);(case s5=>rfl);rintro wq pq bq fq zq;have PQ:=LH pq;clear pq fq zq))
 exact ret_box1 rfl Q0 ⟨cellC ((zeros.set 0 5).set 1 s)⟩ _ rfl bq Tryz.underlying67 rfl (cmdSize L9.out) rfl ⟨by rw [HC.out],PQ.out⟩
set_option maxHeartbeats 4000000 in
theorem rtake_sem6 (bb bo cap:Nat) (u:List Int) (W:World) (hlen:u.length=1) (hb:IsNums .u8 W (.slice (some ⟨bb,bo,none⟩) (6 :: u).length cap) (6 :: u)) :
  Calls Tryz.prog 46 #[.slice (some ⟨bb,bo,none⟩) (6 :: u).length cap] W (TkPost (cmdT 6 u) W):=by
 have hl1:(6 :: u).length=2:=by simp [hlen]
 obtain ⟨s,e1⟩:∃ x,foldB ((u.drop 0).take 1)=x:=⟨_,rfl⟩
 have A1:=LH (fun w h=>rat_any bb bo cap 1 1 (6 :: u) w h (by rw [hl1];omega) (by omega) (by rw [hl1];omega))
 rw [at_head,e1,hl1] at A1
 have HC:Hid (cmdT 6 u=((zeros.set 0 6).set 1 s)):=LH (by
  unfold cmdT
  rw [show fldsD 6=[⟨1,0,7,1⟩] from rfl]
  simp only [readF,List.drop_drop,List.drop_zero]
  try simp only [List.drop_zero] at *
  try simp only [e1])
 have HB:=LH hb
 rw [hl1] at HB ⊢
 have HH:=LH hl1
 clear hb hl1 hlen e1
 obtain ⟨c00,lcap⟩:=head_cell HB.out
 go_enter Tryz.func46,Tryz.ntmps46
 go_upto_region 1 with fail
 obtain ⟨Q0,hQ0⟩:∃ Q,W.heap.size=Q:=⟨_,rfl⟩
 refine opq (fun w'=>(Bx w' Q0 ⟨cellC zeros⟩)∧(Fr w' Q0)∧Past W w'∧Q0+1=w'.heap.size∧w'.cell? ⟨bb,bo,none⟩=some (.int .u8 6)) (by subst hQ0;rw [zeros_box];exact ⟨box_new rfl,free_alloc (free_new (Nat.le_refl _)),(Past.refl W).alloc _,by simp,cell_alloc c00 (cell_lt c00)⟩) ?_
 rintro w0 ⟨b0,f0,p0,z0,c0⟩
 try simp only [hQ0]
 have QW0:W.heap.size≤Q0:=by omega
 have Z0:=LH (And.intro b0 (And.intro f0 p0))
 clear b0 f0 p0 hQ0 c00
 go_upto_region 2 with fail
 obtain ⟨Q,hQ⟩:∃ Q,w0.heap.size=Q:=⟨_,rfl⟩
 have Q01:Q0<Q:=by omega
 refine opq (fun w'=>Hid ((Bx w' Q0 ⟨cellC zeros⟩)∧(Fr w' Q0)∧(Bx w' Q ⟨cellC (zeros.set 0 6)⟩)∧(Fr w' Q)∧Past W w'∧Q<w'.heap.size)∧w'.cell? ⟨Q,0,none⟩=some (.int .i64 6)) (by
  subst hQ
  rw [kind_box]
  exact ⟨LH ⟨box_old Z0.out.1 (by omega),free_alloc Z0.out.2.1,box_new rfl,free_alloc (free_new (Nat.le_refl _)),Z0.out.2.2.alloc _,by simp⟩,box_new rfl 0⟩) ?_
 rintro w1 ⟨R0,k0⟩
 try simp only [hQ]
 clear Z0 hQ z0 c0
 go_upto_region 25 with fail
 have kk:=boxC_cell R0.out.2.2.1 (j:=1) (by simp [zeros])
 have ff:=R0.out.2.2.2.1 1
 go_wp2_with fail
 refine (A1.out w1 (HB.out.grow R0.out.2.2.2.2.1)).mono ?_
 rintro e wx ⟨rfl,rfl⟩
 go_upto_region 26 with fail
 refine opq (fun w'=>Hid ((Bx w' Q0 ⟨cellC zeros⟩)∧(Fr w' Q0)∧(Bx w' Q ⟨cellC ((zeros.set 0 6).set 1 s)⟩)∧(Fr w' Q)∧Past W w'∧Q<w'.heap.size)) (LH ⟨box_set R0.out.1 (by dsimp only;omega),free_set R0.out.2.1,boxC_set (x:=s) R0.out.2.2.1 (by simp [zeros]),free_set R0.out.2.2.2.1,Past.setCell R0.out.2.2.2.2.1 (by dsimp only;omega) _,by rw [World.size_setCell];exact R0.out.2.2.2.2.2⟩) ?_
 rintro wf0 Rf0
 clear kk ff R0
 have B9:=LH Rf0.out.2.2.1
 have BZ9:=LH Rf0.out.1
 have FZ9:=LH Rf0.out.2.1
 have P9:=LH Rf0.out.2.2.2.2.1
 have ZZ9:=LH (show Q0<wf0.heap.size from Nat.lt_trans Q01 Rf0.out.2.2.2.2.2)
 have L9:Hid (((zeros.set 0 6).set 1 s).length=14):=LH (by simp [zeros])
 clear Rf0
 go_wp2_with (first|(refine wpList_load_cmd ?g1 (.tmp 3) ?g2 Q ?g3 ((zeros.set 0 6).set 1 s) L9.out B9.out ?_;(case g1=>rfl);(case g2=>rfl);(case g3=>rfl))|(refine wpList_set_cmd ?s1 (.tmp 2) (.tmp 83) ?s2 ?s3 Q0 ((zeros.set 0 6).set 1 s) zeros L9.out (by simp [zeros]) ?s4 ?s5 BZ9.out FZ9.out W P9.out QW0 ZZ9.out ?_;(case s1=>rfl);(case s2=>rfl);(case s3=>rfl);(case s4=>rfl);(case s5=>rfl);rintro wq pq bq fq zq;have PQ:=LH pq;clear pq fq zq))
 exact ret_box1 rfl Q0 ⟨cellC ((zeros.set 0 6).set 1 s)⟩ _ rfl bq Tryz.underlying67 rfl (cmdSize L9.out) rfl ⟨by rw [HC.out],PQ.out⟩
set_option maxHeartbeats 4000000 in
theorem rtake_halt (bb bo cap:Nat) (u:List Int) (W:World) (hlen:u.length=0) (hb:IsNums .u8 W (.slice (some ⟨bb,bo,none⟩) (7 :: u).length cap) (7 :: u)) :
  Calls Tryz.prog 46 #[.slice (some ⟨bb,bo,none⟩) (7 :: u).length cap] W (TkPost (cmdT 7 u) W):=by
 have hl1:(7 :: u).length=1:=by simp [hlen]
 have HC:Hid (cmdT 7 u=(zeros.set 0 7)):=LH (by
  unfold cmdT
  rw [show fldsD 7=[] from rfl]
  simp only [readF,List.drop_drop,List.drop_zero]
  try simp only [List.drop_zero] at *
  try simp only [List.drop_zero])
 have HB:=LH hb
 rw [hl1] at HB ⊢
 have HH:=LH hl1
 clear hb hl1 hlen
 obtain ⟨c00,lcap⟩:=head_cell HB.out
 go_enter Tryz.func46,Tryz.ntmps46
 go_upto_region 1 with fail
 obtain ⟨Q0,hQ0⟩:∃ Q,W.heap.size=Q:=⟨_,rfl⟩
 refine opq (fun w'=>(Bx w' Q0 ⟨cellC zeros⟩)∧(Fr w' Q0)∧Past W w'∧Q0+1=w'.heap.size∧w'.cell? ⟨bb,bo,none⟩=some (.int .u8 7)) (by subst hQ0;rw [zeros_box];exact ⟨box_new rfl,free_alloc (free_new (Nat.le_refl _)),(Past.refl W).alloc _,by simp,cell_alloc c00 (cell_lt c00)⟩) ?_
 rintro w0 ⟨b0,f0,p0,z0,c0⟩
 try simp only [hQ0]
 have QW0:W.heap.size≤Q0:=by omega
 have Z0:=LH (And.intro b0 (And.intro f0 p0))
 clear b0 f0 p0 hQ0 c00
 go_upto_region 2 with fail
 obtain ⟨Q,hQ⟩:∃ Q,w0.heap.size=Q:=⟨_,rfl⟩
 have Q01:Q0<Q:=by omega
 refine opq (fun w'=>Hid ((Bx w' Q0 ⟨cellC zeros⟩)∧(Fr w' Q0)∧(Bx w' Q ⟨cellC (zeros.set 0 7)⟩)∧(Fr w' Q)∧Past W w'∧Q<w'.heap.size)∧w'.cell? ⟨Q,0,none⟩=some (.int .i64 7)) (by
  subst hQ
  rw [kind_box]
  exact ⟨LH ⟨box_old Z0.out.1 (by omega),free_alloc Z0.out.2.1,box_new rfl,free_alloc (free_new (Nat.le_refl _)),Z0.out.2.2.alloc _,by simp⟩,box_new rfl 0⟩) ?_
 rintro w1 ⟨R0,k0⟩
 try simp only [hQ]
 clear Z0 hQ z0 c0
 go_upto_region 26 with fail
 have B9:=LH R0.out.2.2.1
 have BZ9:=LH R0.out.1
 have FZ9:=LH R0.out.2.1
 have P9:=LH R0.out.2.2.2.2.1
 have ZZ9:=LH (show Q0<w1.heap.size from Nat.lt_trans Q01 R0.out.2.2.2.2.2)
 have L9:Hid ((zeros.set 0 7).length=14):=LH (by simp [zeros])
 clear R0
 go_wp2_with (first|(refine wpList_load_cmd ?g1 (.tmp 3) ?g2 Q ?g3 (zeros.set 0 7) L9.out B9.out ?_;(case g1=>rfl);(case g2=>rfl);(case g3=>rfl))|(refine wpList_set_cmd ?s1 (.tmp 2) (.tmp 83) ?s2 ?s3 Q0 (zeros.set 0 7) zeros L9.out (by simp [zeros]) ?s4 ?s5 BZ9.out FZ9.out W P9.out QW0 ZZ9.out ?_;(case s1=>rfl);(case s2=>rfl);(case s3=>rfl);(case s4=>rfl);(case s5=>rfl);rintro wq pq bq fq zq;have PQ:=LH pq;clear pq fq zq))
 exact ret_box1 rfl Q0 ⟨cellC (zeros.set 0 7)⟩ _ rfl bq Tryz.underlying67 rfl (cmdSize L9.out) rfl ⟨by rw [HC.out],PQ.out⟩
set_option maxHeartbeats 4000000 in
theorem rtake_tile (bb bo cap:Nat) (u:List Int) (W:World) (hlen:u.length=13) (hb:IsNums .u8 W (.slice (some ⟨bb,bo,none⟩) (3 :: u).length cap) (3 :: u)) :
  Calls Tryz.prog 46 #[.slice (some ⟨bb,bo,none⟩) (3 :: u).length cap] W (TkPost (cmdT 3 u) W):=by
 have hl1:(3 :: u).length=14:=by simp [hlen]
 obtain ⟨n,e2⟩:∃ x,foldB ((u.drop 0).take 1)=x:=⟨_,rfl⟩
 have A2:=LH (fun w h=>rat_any bb bo cap 1 1 (3 :: u) w h (by rw [hl1];omega) (by omega) (by rw [hl1];omega))
 rw [at_head,e2,hl1] at A2
 obtain ⟨f,e3⟩:∃ x,foldB ((u.drop 1).take 1)=x:=⟨_,rfl⟩
 have A3:=LH (fun w h=>rat_any bb bo cap 2 1 (3 :: u) w h (by rw [hl1];omega) (by omega) (by rw [hl1];omega))
 rw [at_head,e3,hl1] at A3
 obtain ⟨r,e4⟩:∃ x,foldB ((u.drop 2).take 1)=x:=⟨_,rfl⟩
 have A4:=LH (fun w h=>rat_any bb bo cap 3 1 (3 :: u) w h (by rw [hl1];omega) (by omega) (by rw [hl1];omega))
 rw [at_head,e4,hl1] at A4
 obtain ⟨p,e7⟩:∃ x,foldB ((u.drop 3).take 2)=x:=⟨_,rfl⟩
 have A7:=LH (fun w h=>rat_any bb bo cap 4 2 (3 :: u) w h (by rw [hl1];omega) (by omega) (by rw [hl1];omega))
 rw [at_head,e7,hl1] at A7
 obtain ⟨i0,e8⟩:∃ x,foldB ((u.drop 5).take 2)=x:=⟨_,rfl⟩
 have A8:=LH (fun w h=>rat_any bb bo cap 6 2 (3 :: u) w h (by rw [hl1];omega) (by omega) (by rw [hl1];omega))
 rw [at_head,e8,hl1] at A8
 obtain ⟨b0,e10⟩:∃ x,foldB ((u.drop 7).take 1)=x:=⟨_,rfl⟩
 have A10:=LH (fun w h=>rat_any bb bo cap 8 1 (3 :: u) w h (by rw [hl1];omega) (by omega) (by rw [hl1];omega))
 rw [at_head,e10,hl1] at A10
 obtain ⟨h0,e12⟩:∃ x,foldB ((u.drop 8).take 1)=x:=⟨_,rfl⟩
 have A12:=LH (fun w h=>rat_any bb bo cap 9 1 (3 :: u) w h (by rw [hl1];omega) (by omega) (by rw [hl1];omega))
 rw [at_head,e12,hl1] at A12
 obtain ⟨i1,e9⟩:∃ x,foldB ((u.drop 9).take 2)=x:=⟨_,rfl⟩
 have A9:=LH (fun w h=>rat_any bb bo cap 10 2 (3 :: u) w h (by rw [hl1];omega) (by omega) (by rw [hl1];omega))
 rw [at_head,e9,hl1] at A9
 obtain ⟨b1,e11⟩:∃ x,foldB ((u.drop 11).take 1)=x:=⟨_,rfl⟩
 have A11:=LH (fun w h=>rat_any bb bo cap 12 1 (3 :: u) w h (by rw [hl1];omega) (by omega) (by rw [hl1];omega))
 rw [at_head,e11,hl1] at A11
 obtain ⟨h1,e13⟩:∃ x,foldB ((u.drop 12).take 1)=x:=⟨_,rfl⟩
 have A13:=LH (fun w h=>rat_any bb bo cap 13 1 (3 :: u) w h (by rw [hl1];omega) (by omega) (by rw [hl1];omega))
 rw [at_head,e13,hl1] at A13
 have HC:Hid (cmdT 3 u=(((((((((((zeros.set 0 3).set 2 n).set 3 f).set 4 r).set 7 p).set 8 i0).set 10 b0).set 12 h0).set 9 i1).set 11 b1).set 13 h1)):=LH (by
  unfold cmdT
  rw [show fldsD 3=[⟨2,0,11,1⟩,⟨3,0,15,1⟩,⟨4,1,16,1⟩,⟨7,0,1023,2⟩,⟨8,0,1023,2⟩,⟨10,0,15,1⟩,⟨12,0,16,1⟩,⟨9,0,1023,2⟩,⟨11,0,15,1⟩,⟨13,0,16,1⟩] from rfl]
  simp only [readF,List.drop_drop,List.drop_zero]
  try simp only [List.drop_zero] at *
  try simp only [e2,e3,e4,e7,e8,e10,e12,e9,e11,e13])
 have HB:=LH hb
 rw [hl1] at HB ⊢
 have HH:=LH hl1
 clear hb hl1 hlen e2 e3 e4 e7 e8 e10 e12 e9 e11 e13
 obtain ⟨c00,lcap⟩:=head_cell HB.out
 go_enter Tryz.func46,Tryz.ntmps46
 go_upto_region 1 with fail
 obtain ⟨Q0,hQ0⟩:∃ Q,W.heap.size=Q:=⟨_,rfl⟩
 refine opq (fun w'=>(Bx w' Q0 ⟨cellC zeros⟩)∧(Fr w' Q0)∧Past W w'∧Q0+1=w'.heap.size∧w'.cell? ⟨bb,bo,none⟩=some (.int .u8 3)) (by subst hQ0;rw [zeros_box];exact ⟨box_new rfl,free_alloc (free_new (Nat.le_refl _)),(Past.refl W).alloc _,by simp,cell_alloc c00 (cell_lt c00)⟩) ?_
 rintro w0 ⟨b0,f0,p0,z0,c0⟩
 try simp only [hQ0]
 have QW0:W.heap.size≤Q0:=by omega
 have Z0:=LH (And.intro b0 (And.intro f0 p0))
 clear b0 f0 p0 hQ0 c00
 go_upto_region 2 with fail
 obtain ⟨Q,hQ⟩:∃ Q,w0.heap.size=Q:=⟨_,rfl⟩
 have Q01:Q0<Q:=by omega
 refine opq (fun w'=>Hid ((Bx w' Q0 ⟨cellC zeros⟩)∧(Fr w' Q0)∧(Bx w' Q ⟨cellC (zeros.set 0 3)⟩)∧(Fr w' Q)∧Past W w'∧Q<w'.heap.size)∧w'.cell? ⟨Q,0,none⟩=some (.int .i64 3)) (by
  subst hQ
  rw [kind_box]
  exact ⟨LH ⟨box_old Z0.out.1 (by omega),free_alloc Z0.out.2.1,box_new rfl,free_alloc (free_new (Nat.le_refl _)),Z0.out.2.2.alloc _,by simp⟩,box_new rfl 0⟩) ?_
 rintro w1 ⟨R0,k0⟩
 try simp only [hQ]
 clear Z0 hQ z0 c0
 go_upto_region 10 with fail
 have kk:=boxC_cell R0.out.2.2.1 (j:=2) (by simp [zeros])
 have ff:=R0.out.2.2.2.1 2
 go_wp2_with fail
 refine (A2.out w1 (HB.out.grow R0.out.2.2.2.2.1)).mono ?_
 rintro e wx ⟨rfl,rfl⟩
 go_upto_region 11 with fail
 refine opq (fun w'=>Hid ((Bx w' Q0 ⟨cellC zeros⟩)∧(Fr w' Q0)∧(Bx w' Q ⟨cellC ((zeros.set 0 3).set 2 n)⟩)∧(Fr w' Q)∧Past W w'∧Q<w'.heap.size)) (LH ⟨box_set R0.out.1 (by dsimp only;omega),free_set R0.out.2.1,boxC_set (x:=n) R0.out.2.2.1 (by simp [zeros]),free_set R0.out.2.2.2.1,Past.setCell R0.out.2.2.2.2.1 (by dsimp only;omega) _,by rw [World.size_setCell];exact R0.out.2.2.2.2.2⟩) ?_
 rintro wf0 Rf0
 clear kk ff R0
 have kk:=boxC_cell Rf0.out.2.2.1 (j:=3) (by simp [zeros])
 have ff:=Rf0.out.2.2.2.1 3
 go_wp2_with fail
 refine (A3.out wf0 (HB.out.grow Rf0.out.2.2.2.2.1)).mono ?_
 rintro e wx ⟨rfl,rfl⟩
 go_upto_region 12 with fail
 refine opq (fun w'=>Hid ((Bx w' Q0 ⟨cellC zeros⟩)∧(Fr w' Q0)∧(Bx w' Q ⟨cellC (((zeros.set 0 3).set 2 n).set 3 f)⟩)∧(Fr w' Q)∧Past W w'∧Q<w'.heap.size)) (LH ⟨box_set Rf0.out.1 (by dsimp only;omega),free_set Rf0.out.2.1,boxC_set (x:=f) Rf0.out.2.2.1 (by simp [zeros]),free_set Rf0.out.2.2.2.1,Past.setCell Rf0.out.2.2.2.2.1 (by dsimp only;omega) _,by rw [World.size_setCell];exact Rf0.out.2.2.2.2.2⟩) ?_
 rintro wf1 Rf1
 clear kk ff Rf0
 have kk:=boxC_cell Rf1.out.2.2.1 (j:=4) (by simp [zeros])
 have ff:=Rf1.out.2.2.2.1 4
 go_wp2_with fail
 refine (A4.out wf1 (HB.out.grow Rf1.out.2.2.2.2.1)).mono ?_
 rintro e wx ⟨rfl,rfl⟩
 go_upto_region 13 with fail
 refine opq (fun w'=>Hid ((Bx w' Q0 ⟨cellC zeros⟩)∧(Fr w' Q0)∧(Bx w' Q ⟨cellC ((((zeros.set 0 3).set 2 n).set 3 f).set 4 r)⟩)∧(Fr w' Q)∧Past W w'∧Q<w'.heap.size)) (LH ⟨box_set Rf1.out.1 (by dsimp only;omega),free_set Rf1.out.2.1,boxC_set (x:=r) Rf1.out.2.2.1 (by simp [zeros]),free_set Rf1.out.2.2.2.1,Past.setCell Rf1.out.2.2.2.2.1 (by dsimp only;omega) _,by rw [World.size_setCell];exact Rf1.out.2.2.2.2.2⟩) ?_
 rintro wf2 Rf2
 clear kk ff Rf1
 have kk:=boxC_cell Rf2.out.2.2.1 (j:=7) (by simp [zeros])
 have ff:=Rf2.out.2.2.2.1 7
 go_wp2_with fail
 refine (A7.out wf2 (HB.out.grow Rf2.out.2.2.2.2.1)).mono ?_
 rintro e wx ⟨rfl,rfl⟩
 go_upto_region 14 with fail
 refine opq (fun w'=>Hid ((Bx w' Q0 ⟨cellC zeros⟩)∧(Fr w' Q0)∧(Bx w' Q ⟨cellC (((((zeros.set 0 3).set 2 n).set 3 f).set 4 r).set 7 p)⟩)∧(Fr w' Q)∧Past W w'∧Q<w'.heap.size)) (LH ⟨box_set Rf2.out.1 (by dsimp only;omega),free_set Rf2.out.2.1,boxC_set (x:=p) Rf2.out.2.2.1 (by simp [zeros]),free_set Rf2.out.2.2.2.1,Past.setCell Rf2.out.2.2.2.2.1 (by dsimp only;omega) _,by rw [World.size_setCell];exact Rf2.out.2.2.2.2.2⟩) ?_
 rintro wf3 Rf3
 clear kk ff Rf2
 go_wp2_with fail
 go_loopw [4] (fun i wr=>(i=.int .i64 0∧Hid ((Bx wr Q0 ⟨cellC zeros⟩)∧(Fr wr Q0)∧(Bx wr Q ⟨cellC (((((zeros.set 0 3).set 2 n).set 3 f).set 4 r).set 7 p)⟩)∧(Fr wr Q)∧Past W wr∧Q<wr.heap.size))∨(i=.int .i64 1∧Hid ((Bx wr Q0 ⟨cellC zeros⟩)∧(Fr wr Q0)∧(Bx wr Q ⟨cellC ((((((((zeros.set 0 3).set 2 n).set 3 f).set 4 r).set 7 p).set 8 i0).set 10 b0).set 12 h0)⟩)∧(Fr wr Q)∧Past W wr∧Q<wr.heap.size))∨(i=.int .i64 2∧Hid ((Bx wr Q0 ⟨cellC zeros⟩)∧(Fr wr Q0)∧(Bx wr Q ⟨cellC (((((((((((zeros.set 0 3).set 2 n).set 3 f).set 4 r).set 7 p).set 8 i0).set 10 b0).set 12 h0).set 9 i1).set 11 b1).set 13 h1)⟩)∧(Fr wr Q)∧Past W wr∧Q<wr.heap.size))) (fun i _=>2-(intOf i).toNat)
 case atStart=>exact .inl ⟨rfl,Rf3⟩
 case round =>
  rcases hrel with ⟨rfl,HR⟩|⟨rfl,HR⟩|⟨rfl,HR⟩
  ·go_upto_region 17 with fail
   have kk:=boxC_cell HR.out.2.2.1 (j:=8) (by simp [zeros])
   have ff:=HR.out.2.2.2.1 8
   go_wp2_with fail
   refine (A8.out wr (HB.out.grow HR.out.2.2.2.2.1)).mono ?_
   rintro e wx ⟨rfl,rfl⟩
   go_upto_region 18 with fail
   refine opq (fun w'=>Hid ((Bx w' Q0 ⟨cellC zeros⟩)∧(Fr w' Q0)∧(Bx w' Q ⟨cellC ((((((zeros.set 0 3).set 2 n).set 3 f).set 4 r).set 7 p).set 8 i0)⟩)∧(Fr w' Q)∧Past W w'∧Q<w'.heap.size)) (LH ⟨box_set HR.out.1 (by dsimp only;omega),free_set HR.out.2.1,boxC_set (x:=i0) HR.out.2.2.1 (by simp [zeros]),free_set HR.out.2.2.2.1,Past.setCell HR.out.2.2.2.2.1 (by dsimp only;omega) _,by rw [World.size_setCell];exact HR.out.2.2.2.2.2⟩) ?_
   rintro wg0 Rg0
   clear kk ff HR
   have kk:=boxC_cell Rg0.out.2.2.1 (j:=10) (by simp [zeros])
   have ff:=Rg0.out.2.2.2.1 10
   go_wp2_with fail
   refine (A10.out wg0 (HB.out.grow Rg0.out.2.2.2.2.1)).mono ?_
   rintro e wx ⟨rfl,rfl⟩
   go_upto_region 19 with fail
   refine opq (fun w'=>Hid ((Bx w' Q0 ⟨cellC zeros⟩)∧(Fr w' Q0)∧(Bx w' Q ⟨cellC (((((((zeros.set 0 3).set 2 n).set 3 f).set 4 r).set 7 p).set 8 i0).set 10 b0)⟩)∧(Fr w' Q)∧Past W w'∧Q<w'.heap.size)) (LH ⟨box_set Rg0.out.1 (by dsimp only;omega),free_set Rg0.out.2.1,boxC_set (x:=b0) Rg0.out.2.2.1 (by simp [zeros]),free_set Rg0.out.2.2.2.1,Past.setCell Rg0.out.2.2.2.2.1 (by dsimp only;omega) _,by rw [World.size_setCell];exact Rg0.out.2.2.2.2.2⟩) ?_
   rintro wg1 Rg1
   clear kk ff Rg0
   have kk:=boxC_cell Rg1.out.2.2.1 (j:=12) (by simp [zeros])
   have ff:=Rg1.out.2.2.2.1 12
   go_wp2_with fail
   refine (A12.out wg1 (HB.out.grow Rg1.out.2.2.2.2.1)).mono ?_
   rintro e wx ⟨rfl,rfl⟩
   go_upto_region 16 with fail
   refine opq (fun w'=>Hid ((Bx w' Q0 ⟨cellC zeros⟩)∧(Fr w' Q0)∧(Bx w' Q ⟨cellC ((((((((zeros.set 0 3).set 2 n).set 3 f).set 4 r).set 7 p).set 8 i0).set 10 b0).set 12 h0)⟩)∧(Fr w' Q)∧Past W w'∧Q<w'.heap.size)) (LH ⟨box_set Rg1.out.1 (by dsimp only;omega),free_set Rg1.out.2.1,boxC_set (x:=h0) Rg1.out.2.2.1 (by simp [zeros]),free_set Rg1.out.2.2.2.1,Past.setCell Rg1.out.2.2.2.2.1 (by dsimp only;omega) _,by rw [World.size_setCell];exact Rg1.out.2.2.2.2.2⟩) ?_
   rintro wg2 Rg2
   clear kk ff Rg1
   go_wp2_with fail
   go_roundw
   case rel=>exact .inr (.inl ⟨rfl,Rg2⟩)
   case measure=>simp [intOf]
  ·go_upto_region 17 with fail
   have kk:=boxC_cell HR.out.2.2.1 (j:=9) (by simp [zeros])
   have ff:=HR.out.2.2.2.1 9
   go_wp2_with fail
   refine (A9.out wr (HB.out.grow HR.out.2.2.2.2.1)).mono ?_
   rintro e wx ⟨rfl,rfl⟩
   go_upto_region 18 with fail
   refine opq (fun w'=>Hid ((Bx w' Q0 ⟨cellC zeros⟩)∧(Fr w' Q0)∧(Bx w' Q ⟨cellC (((((((((zeros.set 0 3).set 2 n).set 3 f).set 4 r).set 7 p).set 8 i0).set 10 b0).set 12 h0).set 9 i1)⟩)∧(Fr w' Q)∧Past W w'∧Q<w'.heap.size)) (LH ⟨box_set HR.out.1 (by dsimp only;omega),free_set HR.out.2.1,boxC_set (x:=i1) HR.out.2.2.1 (by simp [zeros]),free_set HR.out.2.2.2.1,Past.setCell HR.out.2.2.2.2.1 (by dsimp only;omega) _,by rw [World.size_setCell];exact HR.out.2.2.2.2.2⟩) ?_
   rintro wh0 Rh0
   clear kk ff HR
   have kk:=boxC_cell Rh0.out.2.2.1 (j:=11) (by simp [zeros])
   have ff:=Rh0.out.2.2.2.1 11
   go_wp2_with fail
   refine (A11.out wh0 (HB.out.grow Rh0.out.2.2.2.2.1)).mono ?_
   rintro e wx ⟨rfl,rfl⟩
   go_upto_region 19 with fail
   refine opq (fun w'=>Hid ((Bx w' Q0 ⟨cellC zeros⟩)∧(Fr w' Q0)∧(Bx w' Q ⟨cellC ((((((((((zeros.set 0 3).set 2 n).set 3 f).set 4 r).set 7 p).set 8 i0).set 10 b0).set 12 h0).set 9 i1).set 11 b1)⟩)∧(Fr w' Q)∧Past W w'∧Q<w'.heap.size)) (LH ⟨box_set Rh0.out.1 (by dsimp only;omega),free_set Rh0.out.2.1,boxC_set (x:=b1) Rh0.out.2.2.1 (by simp [zeros]),free_set Rh0.out.2.2.2.1,Past.setCell Rh0.out.2.2.2.2.1 (by dsimp only;omega) _,by rw [World.size_setCell];exact Rh0.out.2.2.2.2.2⟩) ?_
   rintro wh1 Rh1
   clear kk ff Rh0
   have kk:=boxC_cell Rh1.out.2.2.1 (j:=13) (by simp [zeros])
   have ff:=Rh1.out.2.2.2.1 13
   go_wp2_with fail
   refine (A13.out wh1 (HB.out.grow Rh1.out.2.2.2.2.1)).mono ?_
   rintro e wx ⟨rfl,rfl⟩
   go_upto_region 16 with fail
   refine opq (fun w'=>Hid ((Bx w' Q0 ⟨cellC zeros⟩)∧(Fr w' Q0)∧(Bx w' Q ⟨cellC (((((((((((zeros.set 0 3).set 2 n).set 3 f).set 4 r).set 7 p).set 8 i0).set 10 b0).set 12 h0).set 9 i1).set 11 b1).set 13 h1)⟩)∧(Fr w' Q)∧Past W w'∧Q<w'.heap.size)) (LH ⟨box_set Rh1.out.1 (by dsimp only;omega),free_set Rh1.out.2.1,boxC_set (x:=h1) Rh1.out.2.2.1 (by simp [zeros]),free_set Rh1.out.2.2.2.1,Past.setCell Rh1.out.2.2.2.2.1 (by dsimp only;omega) _,by rw [World.size_setCell];exact Rh1.out.2.2.2.2.2⟩) ?_
   rintro wh2 Rh2
   clear kk ff Rh1
   go_wp2_with fail
   go_roundw
   case rel=>exact .inr (.inr ⟨rfl,Rh2⟩)
   case measure=>simp [intOf]
  ·go_upto_region 26 with fail
   have B9:=LH HR.out.2.2.1
   have BZ9:=LH HR.out.1
   have FZ9:=LH HR.out.2.1
   have P9:=LH HR.out.2.2.2.2.1
   have ZZ9:=LH (show Q0<wr.heap.size from Nat.lt_trans Q01 HR.out.2.2.2.2.2)
   have L9:Hid ((((((((((((zeros.set 0 3).set 2 n).set 3 f).set 4 r).set 7 p).set 8 i0).set 10 b0).set 12 h0).set 9 i1).set 11 b1).set 13 h1).length=14):=LH (by simp [zeros])
   clear HR
   go_wp2_with (first|(refine wpList_load_cmd ?g1 (.tmp 3) ?g2 Q ?g3 (((((((((((zeros.set 0 3).set 2 n).set 3 f).set 4 r).set 7 p).set 8 i0).set 10 b0).set 12 h0).set 9 i1).set 11 b1).set 13 h1) L9.out B9.out ?_;(case g1=>rfl);(case g2=>rfl);(case g3=>rfl))|(refine wpList_set_cmd ?s1 (.tmp 2) (.tmp 83) ?s2 ?s3 Q0 (((((((((((zeros.set 0 3).set 2 n).set 3 f).set 4 r).set 7 p).set 8 i0).set 10 b0).set 12 h0).set 9 i1).set 11 b1).set 13 h1) zeros L9.out (by simp [zeros]) ?s4 ?s5 BZ9.out FZ9.out W P9.out QW0 ZZ9.out ?_;(case s1=>rfl);(case s2=>rfl);(case s3=>rfl);(case s4=>rfl);(case s5=>rfl);rintro wq pq bq fq zq;have PQ:=LH pq;clear pq fq zq))
   exact ret_box1 rfl Q0 ⟨cellC (((((((((((zeros.set 0 3).set 2 n).set 3 f).set 4 r).set 7 p).set 8 i0).set 10 b0).set 12 h0).set 9 i1).set 11 b1).set 13 h1)⟩ _ rfl bq Tryz.underlying67 rfl (cmdSize L9.out) rfl ⟨by rw [HC.out],PQ.out⟩
theorem rtake_any (bb bo cap:Nat) (k:Int) (u:List Int) (W:World) (hk:kindP k) (hlen:u.length=restW k) (hb:IsNums .u8 W (.slice (some ⟨bb,bo,none⟩) (k :: u).length cap) (k :: u)):Calls Tryz.prog 46 #[.slice (some ⟨bb,bo,none⟩) (k :: u).length cap] W (TkPost (cmdT k u) W):=by
 have h':=hk;unfold kindP at h';rcases (show k=1\/k=2\/k=3\/k=4\/k=5\/k=6\/k=7 by omega) with rfl|rfl|rfl|rfl|rfl|rfl|rfl
 ·exact rtake_load1 bb bo cap u W hlen hb
 ·exact rtake_load2 bb bo cap u W hlen hb
 ·exact rtake_tile bb bo cap u W hlen hb
 ·exact rtake_kernel bb bo cap u W hlen hb
 ·exact rtake_sem5 bb bo cap u W hlen hb
 ·exact rtake_sem6 bb bo cap u W hlen hb
 ·exact rtake_halt bb bo cap u W hlen hb
end Go.Proofs.YtejllmjkeefloaaGreat.Q8
