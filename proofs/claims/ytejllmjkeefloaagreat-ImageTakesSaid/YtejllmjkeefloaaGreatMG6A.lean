/- graph: opOf, 1, 2, 3, 4. Bytes as natural numbers; exclusive or at 32 bits; the program's Sum. -/
import Derived.Test.YtejllmjkeefloaaGreatMV2
namespace Go.Proofs.YtejllmjkeefloaaGreat
open Go.ChangeShapes Go.WideShapes Go.ChangeAt Go.RowKit
set_option maxRecDepth 20000
set_option linter.unusedVariables false
set_option maxHeartbeats 2000000 in
theorem opOf_1 (w:World):Calls Tryz.prog 99 #[.int .i64 1] w (Made1 ⟨1,1,3,1,2,0,1,1,8,false,false⟩ 146 149 (.func (.func 121) #[] #[]) (.func (.func 123) #[] #[]) w):=by
 go_enter Tryz.func99,Tryz.ntmps99;go_wp2_with (first|(go_at_call 128;with_reducible refine (always_any _ _).mono ?_;rintro e w1 ⟨rfl,rfl⟩)|(go_at_call 120;with_reducible refine (slid_any _ _).mono ?_;rintro e w1 ⟨rfl,rfl⟩)|(go_at_call 122;with_reducible refine (ofChannels_any _ _).mono ?_;rintro e w1 ⟨rfl,rfl⟩));go_region_held3 (fun w'=>w'.cell? ⟨w.heap.size+1+1,0,none⟩=some (.int .i64 0)/\w'.cell? ⟨w.heap.size+1+1,1,none⟩=some (.int .i64 1)/\w'.cell? ⟨w.heap.size+1+1+1,0,none⟩=some (.int .i64 1)/\w'.cell? ⟨w.heap.size+1+1+1,1,none⟩=some (.int .i64 8)) (((repeat' with_reducible apply And.intro) <;> go_cell)) (first|(go_at_call 128;with_reducible refine (always_any _ _).mono ?_;rintro e w1 ⟨rfl,rfl⟩)|(go_at_call 120;with_reducible refine (slid_any _ _).mono ?_;rintro e w1 ⟨rfl,rfl⟩)|(go_at_call 122;with_reducible refine (ofChannels_any _ _).mono ?_;rintro e w1 ⟨rfl,rfl⟩))
 all_goals
  go_wp2_with fail;exact bodyPost_ret (by simp [results,Tryz.results99,go_sem];rfl) rfl ⟨_,_,rfl,by go_cell,by simp,by go_cell,by simp,by go_grown⟩
set_option maxHeartbeats 2000000 in
theorem opOf_2 (w:World):Calls Tryz.prog 99 #[.int .i64 2] w (Made1 ⟨1,1,3,1,2,0,1,0,0,false,false⟩ 146 149 (.func (.func 124) #[] #[]) (.func (.func 125) #[] #[]) w):=by
 go_enter Tryz.func99,Tryz.ntmps99;go_wp2_with (first|(go_at_call 128;with_reducible refine (always_any _ _).mono ?_;rintro e w1 ⟨rfl,rfl⟩)|(go_at_call 120;with_reducible refine (slid_any _ _).mono ?_;rintro e w1 ⟨rfl,rfl⟩)|(go_at_call 122;with_reducible refine (ofChannels_any _ _).mono ?_;rintro e w1 ⟨rfl,rfl⟩));go_region_held3 (fun w'=>w'.cell? ⟨w.heap.size+1+1,0,none⟩=some (.int .i64 0)/\w'.cell? ⟨w.heap.size+1+1,1,none⟩=some (.int .i64 1)/\w'.cell? ⟨w.heap.size+1+1+1,0,none⟩=some (.int .i64 1)/\w'.cell? ⟨w.heap.size+1+1+1,1,none⟩=some (.int .i64 8)) (((repeat' with_reducible apply And.intro) <;> go_cell)) (first|(go_at_call 128;with_reducible refine (always_any _ _).mono ?_;rintro e w1 ⟨rfl,rfl⟩)|(go_at_call 120;with_reducible refine (slid_any _ _).mono ?_;rintro e w1 ⟨rfl,rfl⟩)|(go_at_call 122;with_reducible refine (ofChannels_any _ _).mono ?_;rintro e w1 ⟨rfl,rfl⟩))
 all_goals
  go_wp2_with fail;exact bodyPost_ret (by simp [results,Tryz.results99,go_sem];rfl) rfl ⟨_,_,rfl,by go_cell,by simp,by go_cell,by simp,by go_grown⟩
set_option maxHeartbeats 2000000 in
theorem opOf_3 (w:World):Calls Tryz.prog 99 #[.int .i64 3] w (Made0 ⟨1,0,0,0,0,0,0,1,8,false,false⟩ 126 149 (.func (.func 127) #[] #[]) w):=by
 go_enter Tryz.func99,Tryz.ntmps99;go_wp2_with (first|(go_at_call 128;with_reducible refine(always_any _ _).mono ?_;rintro e w1 ⟨rfl,rfl⟩)|(go_at_call 120;with_reducible refine(slid_any _ _).mono ?_;rintro e w1 ⟨rfl,rfl⟩)|(go_at_call 122;with_reducible refine(ofChannels_any _ _).mono ?_;rintro e w1 ⟨rfl,rfl⟩));go_region_held3 (fun w'=>w'.cell? ⟨w.heap.size+1+1,0,none⟩=some (.int .i64 0)/\w'.cell? ⟨w.heap.size+1+1,1,none⟩=some (.int .i64 1)/\w'.cell? ⟨w.heap.size+1+1+1,0,none⟩=some (.int .i64 1)/\w'.cell? ⟨w.heap.size+1+1+1,1,none⟩=some (.int .i64 8)) (((repeat' with_reducible apply And.intro) <;> go_cell)) (first|(go_at_call 128;with_reducible refine(always_any _ _).mono ?_;rintro e w1 ⟨rfl,rfl⟩)|(go_at_call 120;with_reducible refine(slid_any _ _).mono ?_;rintro e w1 ⟨rfl,rfl⟩)|(go_at_call 122;with_reducible refine(ofChannels_any _ _).mono ?_;rintro e w1 ⟨rfl,rfl⟩))
 all_goals
  go_wp2_with fail;exact bodyPost_ret (by simp [results,Tryz.results99,go_sem];rfl) rfl ⟨_,rfl,by go_cell,by simp,by go_grown⟩
set_option maxHeartbeats 2000000 in
theorem opOf_4 (w:World):Calls Tryz.prog 99 #[.int .i64 4] w (Made1 ⟨1,1,3,1,2,0,0,0,0,false,true⟩ 146 150 (.func (.func 124) #[] #[]) (.int .i64 0) w):=by
 go_enter Tryz.func99,Tryz.ntmps99;go_wp2_with (first|(go_at_call 128;with_reducible refine (always_any _ _).mono ?_;rintro e w1 ⟨rfl,rfl⟩)|(go_at_call 120;with_reducible refine (slid_any _ _).mono ?_;rintro e w1 ⟨rfl,rfl⟩)|(go_at_call 122;with_reducible refine (ofChannels_any _ _).mono ?_;rintro e w1 ⟨rfl,rfl⟩));exact bodyPost_ret (by simp [results,Tryz.results99,go_sem];rfl) rfl ⟨_,_,rfl,by go_cell,by simp,by go_cell,by simp,by go_grown⟩
end Go.Proofs.YtejllmjkeefloaaGreat
namespace Go.Proofs.YtejllmjkeefloaaGreat.Q7
open Go.ChangeShapes Go.WideShapes Go.ChangeAt Go.RowKit
set_option maxRecDepth 20000
set_option linter.unusedVariables false
theorem xor32 {a b:Nat} (ha:a<2 ^ 32) (hb:b<2 ^ 32):bits .xor .u32 (a:Int) (b:Int)=((a ^^^ b:Nat):Int):=by
 have h1:(BitVec.ofInt 32 (a:Int)).toNat=a:=by rw [BitVec.toNat_ofInt];omega
 have h2:(BitVec.ofInt 32 (b:Int)).toNat=b:=by rw [BitVec.toNat_ofInt];omega
 show IntKind.u32.wrap ((BitVec.ofInt 32 (a:Int) ^^^ BitVec.ofInt 32 (b:Int)).toNat:Int)=_;rw [BitVec.toNat_xor,h1,h2];have:=Nat.xor_lt_two_pow ha hb;exact IntWalk.u32_in _ (by omega)
theorem and32 {a:Nat}(ha:a<2 ^ 32):bits .and .u32 (a:Int) 1=((a%2:Nat):Int):=by
 have h1:(BitVec.ofInt 32 (a:Int)).toNat=a:=by rw [BitVec.toNat_ofInt];omega
 have h2:(BitVec.ofInt 32 1).toNat=2 ^ 1-1:=by decide
 show IntKind.u32.wrap ((BitVec.ofInt 32 (a:Int) &&& BitVec.ofInt 32 1).toNat:Int)=_;rw [BitVec.toNat_and,h1,h2,Nat.and_two_pow_sub_one_eq_mod];exact IntWalk.u32_in _ (by omega)
def ints (l:List Nat):List Int:=l.map (fun n:Nat=>(n:Int))
theorem ints_len (l:List Nat):(ints l).length=l.length:=by simp [ints]
theorem ints_at (l:List Nat)(i:Nat):(ints l).getD i 0=((l.getD i 0:Nat):Int):=by
 simp only [ints,List.getD_eq_getElem?_getD,List.getElem?_map];cases l[i]? <;> rfl
def Bytes (l:List Nat):Prop:=∀ c∈l,c<256
theorem Bytes.at {l:List Nat}(h:Bytes l)(i:Nat):l.getD i 0<256:=by
 by_cases c:i<l.length
 ·simpa [List.getD,c] using h _ (List.getElem_mem c)
 ·simp [List.getD,List.getElem?_eq_none (Nat.le_of_not_lt c)]
set_option maxHeartbeats 2000000 in
theorem sum_same (bs:List Nat)(v:Value)(W:World)(h:IsNums .u8 W v (ints bs))(hb:Bytes bs)(hl:bs.length<=1000000):Calls Tryz.prog 57 #[v] W fun e w'=>e=.returned (.int .u32 ((sumD bs:Nat):Int))/\w'=W:=by
 obtain⟨A,cap,rfl,h2,h3,h4,h5,h6⟩:=h;rw [ints_len] at h6 ⊢;have L6:=LH h6;have HB:=LH hb;clear h6 h5 h2 h4 hb;go_enter Tryz.func57,Tryz.ntmps57;go_wp2_with fail;go_loopw [3,9] (fun r i wr=>∃ (k R:Nat),k<=bs.length/\i=.int .i64 (k:Int)/\r=.int .u32 (R:Int)/\R<4294967296/\Hid (R=crc 4294967295 (bs.take k))/\Hid (wr=W)) (fun _ i _=>bs.length-(intOf i).toNat)
 case atStart=>exact⟨0,4294967295,by omega,rfl,rfl,by omega,LH (by simp [crc]),LH rfl⟩
 case round =>
  obtain⟨k,R,hk,rfl,rfl,hR,eR,g⟩:=hrel;by_cases c:k<bs.length
  ·obtain⟨b,off,rfl,hbb,hc⟩:=L6.out (by omega);have c0:=(congrArg (fun x:World=>x.cell? ⟨b,off+k,none⟩) g.out).trans (hc k c);rw [ints_at] at c0;have hx:=HB.out.at k;have nx:crc 4294967295 (bs.take (k+1))=byteD R (bs.getD k 0):=by
    rw [List.take_succ_eq_append_getElem c,crc_snoc,<- eR.out];simp [List.getD,c]
   obtain⟨x,ex⟩:∃ x,bs.getD k 0=x:=⟨_,rfl⟩
   rw [ex] at c0 hx nx;have NX:=LH nx;have e1:=xor32 (a:=R) (b:=x) (by omega) (by omega);have b1:=Nat.xor_lt_two_pow (x:=R) (y:=x) (n:=32) (by omega) (by omega);clear nx ex hc eR;obtain⟨Y,eY⟩:∃ Y,R ^^^ x=Y:=⟨_,rfl⟩
   rw [eY] at e1 b1;have EY:=LH eY;clear eY;go_wp2_with fail;go_loopw [3,17] (fun r i wr=>∃ (m q:Nat),m<=8/\i=.int .i64 (m:Int)/\r=.int .u32 (q:Int)/\q<4294967296/\Hid (q=hvs m Y)/\Hid (wr=W)) (fun _ i _=>8-(intOf i).toNat)
   case atStart=>exact⟨0,Y,by omega,rfl,by first|rfl|(rw [e1]),by omega,LH rfl,g⟩
   case round =>
    clear g;obtain⟨m,q,hm,rfl,rfl,hq,eq,g⟩:=hrel;by_cases d:m<8
    ·have e2:=and32 (a:=q) (by omega);by_cases odd:q%2=1
     ·have nx:hv q=(q / 2) ^^^ 3988292384:=by unfold hv;rw [if_pos odd]
      have e3:=xor32 (a:=q / 2) (b:=3988292384) (by omega) (by omega);have b3:(q / 2) ^^^ 3988292384<4294967296:=Nat.xor_lt_two_pow (n:=32) (by omega) (by omega);rw [<- nx] at e3 b3;rw [odd] at e2;have st:Hid (hv q=hvs (m+1) Y):=LH (by rw [hvs_snoc,<- eq.out]);clear nx eq;obtain⟨q',hq'⟩:∃ q',hv q=q':=⟨_,rfl⟩
      rw [hq'] at e3 b3 st;clear hq';go_wp2_with fail;exact⟨⟨m+1,q',by omega,by simp,by simpa using e3,b3,st,g⟩,by simp [intOf];omega⟩
     ·have nx:hv q=q / 2:=by unfold hv;rw [if_neg odd]
      have ev:q%2=0:=by omega
      rw [ev] at e2;have st:Hid (q / 2=hvs (m+1) Y):=LH (by rw [hvs_snoc,<- eq.out,nx]);clear nx eq;go_wp2_with fail;exact⟨⟨m+1,q / 2,by omega,by simp,by simp,by omega,st,g⟩,by simp [intOf];omega⟩
    ·go_wp2_with fail;refine⟨⟨k+1,q,by omega,by simp,rfl,hq,?_,g⟩,?_⟩
     ·refine LH ?_;rw [NX.out,eq.out];have:m=8:=by omega
      rw [this];unfold byteD;rw [EY.out]
     ·simp [intOf];omega
  ·have e4:Hid (bits .xor .u32 IntKind.u32.max (R:Int)=((sumD bs:Nat):Int)):=LH (by
    have:=xor32 (a:=4294967295) (b:=R) (by omega) (by omega);rw [show IntKind.u32.max=((4294967295:Nat):Int) by decide,this];unfold sumD;rw [eR.out,List.take_of_length_le (by omega),Nat.xor_comm])
   go_wp2_with fail;go_ret;exact⟨by rw [e4.out];rfl,g.out⟩
theorem sum_any (bs:List Nat)(v:Value)(W:World)(h:IsNums .u8 W v (ints bs))(hb:Bytes bs)(hl:bs.length<=1000000):Calls Tryz.prog 57 #[v] W fun e w'=>e=.returned (.int .u32 ((sumD bs:Nat):Int))/\Grown W w' :=
 (sum_same bs v W h hb hl).mono fun e w' he=>⟨he.1,by rw [he.2];exact Grown.refl _⟩
end Go.Proofs.YtejllmjkeefloaaGreat.Q7
