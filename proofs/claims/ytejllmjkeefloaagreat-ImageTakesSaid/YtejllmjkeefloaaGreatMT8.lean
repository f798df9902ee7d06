/- The reference of layer 4: Take. -/
import Derived.Deep.CutBlock
import Derived.Deep.DeepCutAuto
import Derived.Test.YtejllmjkeefloaaGreatMTv
import Derived.Test.YtejllmjkeefloaaGreatMT7
namespace Go.Proofs.YtejllmjkeefloaaGreat
open Go.ChangeShapes Go.WideShapes Go.ChangeAt Go.RowKit
set_option maxRecDepth 20000
set_option linter.unusedVariables false
set_option linter.unusedSimpArgs false
theorem stops_swap {α:Type}{one:Rd->α×Rd}{n:Nat}{l:List α}{x y:α}{t:Rd}{g:List α×Rd}(h:Stops one n (l++[x]) t g)(e:t.short=false->x=y):Stops one n (l++[y]) t g:=by
 unfold Stops at *;cases q:t.short with
 | true=>rw [q] at h;simpa using h
 | false =>
  rw [q] at h;rw [<- e q];simpa using h
theorem stops_node {n m:Nat} {l:List NodeD} {st:Rd} {g:List NodeD×Rd} (h:Hid (Stops nodeR n l st g)) (e:n=m+1) (hs:st.short=false):Hid (Stops nodeR m (l++[(nodeR st).1]) (nodeR st).2 g):=by
 rw [e] at h;generalize nodeR=one at *;exact LH (Stops.next h.out hs)
theorem flat_bd {α:Type}(f:α->List Int)(K:Nat):(L:List α)->(∀ x∈L,(f x).length<=K)->(L.flatMap f).length<=K*L.length
 | [],_=>by simp
 | a :: L,h=>by
  have h1:=flat_bd f K L (fun x hx=>h x (List.mem_cons_of_mem _ hx));have h2:=h a (List.mem_cons_self ..);rw [List.flatMap_cons,List.length_append,List.length_cons,Nat.mul_succ];omega
theorem gB_bd (g:GraphD)(h1:g.ins.length<=255)(h2:g.nodes.length<=255)(h3:∀ n∈g.nodes,n.ins.length<=255/\n.ws.length<=65535/\n.bs.length<=255)(h4:g.outs.length<=255):(graphB g).length<=900000000:=by
 rw [graphB_eq];have a1:=flat_bd valB 4 g.ins (fun x _=>by rw [valB_len];omega);have a2:=flat_bd nodeB 67000 g.nodes (fun n hn=>by have:=h3 n hn;rw [nodeB_len];omega);have a3:=flat_bd (numB 1) 1 g.outs (fun x _=>by rw [numB_len];omega);simp only [List.length_append,numB_len];omega
theorem graph_read {s:Rd}{gv:List ValD×Rd}{gn:List NodeD×Rd}{ro:List Int×Rd}(h1:listR 1 valR s=gv)(h2:listR 1 nodeR gv.2=gn)(h3:listR 1 (numR 1) gn.2=ro):graphR s=(⟨gv.1,gn.1,ro.1⟩,ro.2):=by
 unfold graphR;simp only [h1,h2,h3]
set_option maxHeartbeats 16000000 in
theorem qtake_any (bv : Value) (bs : List Int) (W : World) (hb : IsNums .u8 W bv bs) (hl : bs.length ≤ 100000) : Calls Tryz.prog 17 #[bv] W (TakePost bs W) := by
 have HB := LH hb
 have hb0 := hb
 obtain ⟨A, cap, rfl, _, _, _, _, _⟩ := hb0
 have BY := LH (bytes_of_nums hb).2
 have hm : bs.length ≤ 9223372036854775807 := by omega
 clear hb
 obtain ⟨Q, hQ⟩ : ∃ Q, W.heap.size = Q := ⟨_, rfl⟩
 go_enter Tryz.func17, Tryz.ntmps17
 go_upto_region 3 with fail
 refine opq (fun w' => ((Bx w' Q #[.slice none 0 0, .slice none 0 0, .slice none 0 0]) ∧ (Fr w' Q) ∧ (Bx w' (Q + 2) #[.slice none 0 0, .slice none 0 0, .slice none 0 0]) ∧ (Fr w' (Q + 2)) ∧ Q + 3 ≤ w'.heap.size ∧ Hid (Past W w')) ∧ (Bx w' (Q + 1) #[.slice A bs.length cap, .int .i64 0, .bool false]) ∧ (Fr w' (Q + 1)) ∧ Bytes w' Q A cap bs) (by
  subst hQ
  exact ⟨⟨by (exact kKeep), by (exact kKeep), by (exact kKeep), by (exact kKeep), by simp, LH kKeep⟩, by (exact kKeep), by (exact kKeep), BY.out.keep (P := W.heap.size + 1) (Keep.of_past ((((Past.refl W).alloc _).alloc _).alloc _)) (by omega) (Nat.le_refl _)⟩) ?_
 rintro w0 ⟨⟨q, f, x, g, s, p⟩, pb, pf, pby⟩
 have R : Hid (QRd w0 Q (Q + 1) A cap bs ⟨bs, false⟩) := LH ⟨0, false, ⟨pb, pf, pby, by omega, hl, by omega, by omega⟩, rfl⟩
 clear pb pf pby
 try simp only [World.size_alloc, hQ]
 try rw [hQ]
 have CN := LH (qnum_rd 1 (by omega) (by omega) Q (Q + 1) cap A bs ⟨bs, false⟩ w0 R.out)
 have nbn : Hid ((0 ≤ (numR 1 ⟨bs, false⟩).1 ∧ (numR 1 ⟨bs, false⟩).1 < 256) ∧ ((numR 1 ⟨bs, false⟩).2.short = true → (numR 1 ⟨bs, false⟩).1 = 0)) := LH ⟨by simpa using numR_bd 1 ⟨bs, false⟩ R.out.bytes, R.out.none_ (by omega)⟩
 obtain ⟨rn, hrn⟩ : ∃ y, numR 1 ⟨bs, false⟩ = y := ⟨_, rfl⟩
 rw [hrn] at CN nbn
 have HRN := LH hrn
 obtain ⟨N, hN⟩ : ∃ N : Nat, rn.1 = (N : Int) := ⟨rn.1.toNat, by have := nbn.out.1; omega⟩
 have hN2 : N ≤ 255 := by have := nbn.out.1; omega
 obtain ⟨gv, hgv⟩ : ∃ y, goR valR N [] rn.2 = y := ⟨_, rfl⟩
 have STV := LH (Stops.first (one := valR) (n := N) (t := rn.2) (fun h => by have := nbn.out.2 h; omega))
 rw [hgv] at STV
 have HGV := LH hgv
 have HN := LH hN
 rw [hN] at CN
 clear hN hgv hrn nbn
 obtain ⟨i0, hi0, hz0, hz1, hz2⟩ := info_parts info32
 have I1 := LH hi0
 have I2 := LH hz0
 have I3 := LH hz1
 have I4 := LH hz2
 clear hi0 hz0 hz1 hz2
 go_wp2_with fail
 refine CN.out.mono ?_
 rintro e w1 ⟨rfl, r1, kd⟩
 replace q := box_keep kd q (by omega) (by omega)
 replace f := free_keep kd f (by omega) (by omega)
 replace x := box_keep kd x (by omega) (by omega)
 replace g := free_keep kd g (by omega) (by omega)
 replace s : Q + 3 ≤ w1.heap.size := by have := kd.2.2.1; omega
 replace p := LH (kd.past p.out (by omega))
 replace R := LH r1
 clear r1 kd CN
 go_upto_block 0 with fail
 go_cut [8, 9, 10] (fun _ _ _ w' => ∃ (Av : Option Addr) (cv : Nat) (l : List ValD), l.length ≤ 255 ∧ (Bx w' Q #[.slice none 0 0, .slice none 0 0, .slice none 0 0]) ∧ (Fr w' Q) ∧ (Bx w' (Q + 2) #[.slice Av l.length cv, .slice none 0 0, .slice none 0 0]) ∧ (Fr w' (Q + 2)) ∧ Q + 3 ≤ w'.heap.size ∧ Hid (Past W w') ∧ Hid (OwnVals w' (Q + 3) (.slice Av l.length cv) l) ∧ Hid (∀ y ∈ l, ValWf y) ∧ Hid (gv.2.short = false → gv.1 = l) ∧ Hid (QRd w' Q (Q + 1) A cap bs gv.2))
 case first =>
  go_wp2_with fail
  go_loopw [8, 9, 10] (fun i _ _ wr => ∃ (k : Nat) (v : Value) (l : List ValD) (st : Rd), k ≤ N ∧ i = .int .i64 k ∧ l.length = k ∧ (Bx wr Q #[.slice none 0 0, .slice none 0 0, .slice none 0 0]) ∧ (Fr wr Q) ∧ (Bx wr (Q + 2) #[v, .slice none 0 0, .slice none 0 0]) ∧ (Fr wr (Q + 2)) ∧ Q + 3 ≤ wr.heap.size ∧ Hid (Past W wr) ∧ Hid (Stops valR (N - k) l st gv) ∧ Hid (OwnVals wr (Q + 3) v l) ∧ Hid (∀ y ∈ l, ValWf y) ∧ Hid (QRd wr Q (Q + 1) A cap bs st)) (fun i _ _ _ => N - (intOf i).toNat)
  case atStart => exact ⟨0, .slice none 0 0, [], rn.2, by omega, rfl, rfl, q, f, x, g, s, p, STV, LH (World.ownsRow_nil _ _ _ _), LH (by simp), R⟩
  case round =>
   clear q f x g s p STV R
   obtain ⟨k, v, l, st, hk, rfl, rfl, q, f, x, g, s, p, hgo, own, hwf, rr⟩ := hrel
   have c2 := rr.out.c2
   by_cases h : l.length < N
   ·cases hs : st.short with
    | true =>
     have D := LH (hgo.out.over hs)
     rw [hs] at c2
     clear hs
     have rr' : Hid (QRd wr Q (Q + 1) A cap bs gv.2) := LH (by rw [D.out.1]; exact rr.out)
     have DK : Hid (gv.2.short = false → gv.1 = l) := LH (fun f => D.out.2 (by rw [← D.out.1]; exact f))
     obtain ⟨Av, cv, rfl, _, _⟩ := own_slice' own.out
     clear hgo
     go_wp2_with fail
     go_meet
     exact ⟨Av, cv, l, by omega, q, f, x, g, s, p, own, hwf, DK, rr'⟩
    | false =>
     obtain ⟨m, hm⟩ : ∃ m, N - l.length = m + 1 := ⟨N - l.length - 1, by omega⟩
     rw [hm] at hgo
     have NX := LH (hgo.out.next hs)
     rw [hs] at c2
     have WV := LH (valR_wf st rr.out.bytes)
     obtain ⟨sh, hsh⟩ : ∃ y, shapeR st = y := ⟨_, rfl⟩
     obtain ⟨sm, hsm⟩ : ∃ y, smallR sh.2 = y := ⟨_, rfl⟩
     have HV : Hid (valR st = (⟨sh.1.1, sh.1.2.1, sh.1.2.2, sm.1⟩, sm.2)) := LH (by unfold valR; simp only [hsh, hsm])
     rw [HV.out] at NX WV
     have CSH := LH (qshape_rd Q (Q + 1) cap A bs st wr rr.out)
     rw [hsh] at CSH
     have CSM := LH (fun w (k : QRd w Q (Q + 1) A cap bs sh.2) => qsmall_rd Q (Q + 1) cap A bs sh.2 w k)
     rw [hsm] at CSM
     have HM := LH hm
     clear hsh hsm hgo hs hm
     go_wp2_with fail
     refine CSH.out.mono ?_
     rintro e w4 ⟨rfl, r4, kd⟩
     have q4 := box_keep kd q (by omega) (by omega)
     have f4 := free_keep kd f (by omega) (by omega)
     have x4 := box_keep kd x (by omega) (by omega)
     have g4 := free_keep kd g (by omega) (by omega)
     have s4 : Q + 3 ≤ w4.heap.size := by have := kd.2.2.1; omega
     have p4 := LH (kd.past p.out (by omega))
     have O4 := LH (own_keep own.out kd (by omega))
     obtain ⟨Y, hY⟩ : ∃ Y, w4.heap.size = Y := ⟨_, rfl⟩
     have R4 := LH r4
     clear q f x g s p own rr c2 kd CSH r4
     go_upto_region 8 with fail
     refine opq (fun w' => ((Bx w' Q #[.slice none 0 0, .slice none 0 0, .slice none 0 0]) ∧ (Fr w' Q) ∧ (Bx w' (Q + 2) #[v, .slice none 0 0, .slice none 0 0]) ∧ (Fr w' (Q + 2)) ∧ Q + 3 ≤ w'.heap.size ∧ Hid (Past W w')) ∧ (Bx w' Y #[.int .i64 sh.1.1, .int .i64 sh.1.2.1, .int .i64 sh.1.2.2]) ∧ Y < w'.heap.size ∧ Hid (OwnVals w' (Q + 3) v l) ∧ Hid (QRd w' Q (Q + 1) A cap bs sh.2)) (by
      subst hY
      exact ⟨⟨by (exact kKeep), by (exact kKeep), by (exact kKeep), by (exact kKeep), by simp; omega, LH (p4.out.alloc _)⟩, box_new rfl, by simp, LH (World.ownsRow.alloc O4.out _), LH (R4.out.alloc _)⟩) ?_
     rintro w5 ⟨⟨q, f, x, g, s, p⟩, y5, sY, own, R5⟩
     try rw [hY]
     have hYX : Q + 3 ≤ Y := by omega
     clear q4 f4 x4 g4 s4 p4 O4 R4 hY
     go_wp2_with fail
     refine (CSM.out _ R5.out).mono ?_
     rintro e w6 ⟨rfl, r6, kd⟩
     have y6 := box_keep kd y5 (by omega) (by omega)
     have q6 := box_keep kd q (by omega) (by omega)
     have f6 := free_keep kd f (by omega) (by omega)
     have x6 := box_keep kd x (by omega) (by omega)
     have g6 := free_keep kd g (by omega) (by omega)
     have s6 : Q + 3 ≤ w6.heap.size := by have := kd.2.2.1; omega
     have p6 := LH (kd.past p.out (by omega))
     have O6 := LH (own_keep own.out kd (by omega))
     have R6 := LH r6
     have HLT := LH (World.ownsRow.lt O6.out)
     clear q f x g s p own R5 y5 CSM kd r6 sY
     go_wp2_with (at_builtin; refine wpList_append_own _ rfl (.tmp 38) (.tmp 42) 24 rfl (Q + 3) 47 i0 _ 4 32 Tryz.underlying24 I1.out I2.out I3.out I4.out rfl (by decide) _ _ _ rfl (World.ownsRow.alloc O6.out _) ⟨w6.heap.size, 0, none⟩ 1 1 (valCells ⟨sh.1.1, sh.1.2.1, sh.1.2.2, sm.1⟩) rfl rfl (fun j u hu => cells_new' w6 _ 47 j u hu) (by intro u hu; simp [valCells] at hu; rcases hu with rfl | rfl | rfl | rfl <;> rfl) ?c4 ?c5 ?c6 ?_)
     case c4 => unfold maxLen; omega
     case c5 => omega
     case c6 => simp; omega
     intro v7 w7 hown7 hgrow _
     obtain ⟨A7, c7, rfl, _, _⟩ := own_slice' hown7
     have O7 := LH (own_val rfl hown7)
     have n0 : some Q ≠ v.ownBlock := fun e => by have := (HLT.out Q e.symm).1; omega
     have n2 : some (Q + 2) ≠ v.ownBlock := fun e => by have := (HLT.out (Q + 2) e.symm).1; omega
     have q7 := box_low hgrow (by omega) n0 q6
     have f7 := free_low hgrow (by omega) n0 f6
     have x7 := box_low hgrow (by omega) n2 x6
     have g7 := free_low hgrow (by omega) n2 g6
     have s7 : Q + 3 ≤ w7.heap.size := by have := hgrow.size; simp only [World.size_alloc] at this; omega
     have R7 := LH ((R6.out.alloc (.cells ⟨valCells ⟨sh.1.1, sh.1.2.1, sh.1.2.2, sm.1⟩⟩ 47)).grownBy hgrow (fun j hj => by have := (HLT.out j hj).1; omega))
     have p7 := LH ((p6.out.alloc (.cells ⟨valCells ⟨sh.1.1, sh.1.2.1, sh.1.2.2, sm.1⟩⟩ 47)).grownBy hgrow (fun j hj => by have := (HLT.out j hj).1; omega))
     have W7 : Hid (∀ y ∈ l ++ [(⟨sh.1.1, sh.1.2.1, sh.1.2.2, sm.1⟩ : ValD)], ValWf y) := LH (fun y hy => by
      rcases List.mem_append.1 hy with hy | hy
      ·exact hwf.out y hy
      ·simp only [List.mem_cons, List.not_mem_nil, or_false] at hy; subst hy; exact WV.out)
     clear hown7 hgrow n0 n2 q6 f6 x6 g6 s6 p6 O6 R6 HLT y6
     go_wp2_with fail
     go_roundw
     case rel => exact ⟨l.length + 1, _, l ++ [(⟨sh.1.1, sh.1.2.1, sh.1.2.2, sm.1⟩ : ValD)], sm.2, by omega, by go_num, by simp, box_set q7 (by simp only; omega), free_set f7, box_at x7 0 (by simp) _, free_set g7, by simpa only [size_setCell] using s7, LH (p7.out.setCell (by simp only; omega) _), LH (by rw [show N - (l.length + 1) = m by have := HM.out; omega]; exact NX.out), LH (own_set O7.out (by omega)), W7, LH (R7.out.set (by omega))⟩
     case measure => simp [intOf]; omega
   ·have e : N - l.length = 0 := by omega
    rw [e] at hgo
    have D := LH hgo.out.done
    clear e
    have rr' : Hid (QRd wr Q (Q + 1) A cap bs gv.2) := LH (by rw [D.out.1]; exact rr.out)
    have DK : Hid (gv.2.short = false → gv.1 = l) := LH (fun f => D.out.2 (by rw [← D.out.1]; exact f))
    obtain ⟨Av, cv, rfl, _, _⟩ := own_slice' own.out
    clear hgo
    go_wp2_with fail
    go_meet
    exact ⟨Av, cv, l, by omega, q, f, x, g, s, p, own, hwf, DK, rr'⟩
 case rest =>
  clear q f x g s p STV R I1 I2 I3 I4 i0
  obtain ⟨Av, cv, lv, hlv, q, f, x, g, s, p, OV0, WV, DV, R⟩ := hcut
  obtain ⟨wA, hwA⟩ : ∃ w, w = wc := ⟨_, rfl⟩
  subst hwA
  obtain ⟨LV, hLV⟩ : ∃ n, lv.length = n := ⟨_, rfl⟩
  have OV : Hid (wA.ownsRow (Q + 3) 47 4 (.slice Av LV cv) LV (valsCells lv)) := LH (by have := OV0.out; unfold OwnVals at this; rw [hLV] at this; exact this)
  rw [hLV] at x
  have HLV := LH hLV
  have BV2 : Hid (bytesP gv.2.rest) := LH R.out.bytes
  have CN := LH (qnum_rd 1 (by omega) (by omega) Q (Q + 1) cap A bs gv.2 wA R.out)
  have nbn : Hid ((0 ≤ (numR 1 gv.2).1 ∧ (numR 1 gv.2).1 < 256) ∧ ((numR 1 gv.2).2.short = true → (numR 1 gv.2).1 = 0)) := LH ⟨by simpa using numR_bd 1 gv.2 R.out.bytes, R.out.none_ (by omega)⟩
  obtain ⟨rm, hrm⟩ : ∃ y, numR 1 gv.2 = y := ⟨_, rfl⟩
  rw [hrm] at CN nbn
  have HRM := LH hrm
  obtain ⟨M, hM⟩ : ∃ M : Nat, rm.1 = (M : Int) := ⟨rm.1.toNat, by have := nbn.out.1; omega⟩
  have hM2 : M ≤ 255 := by have := nbn.out.1; omega
  obtain ⟨gn, hgn⟩ : ∃ y, goR nodeR M [] rm.2 = y := ⟨_, rfl⟩
  have STN := LH (Stops.first (one := nodeR) (n := M) (t := rm.2) (fun h => by have := nbn.out.2 h; omega))
  rw [hgn] at STN
  have HGN := LH hgn
  have HM0 := LH hM
  rw [hM] at CN
  have CQ := LH (fun s w (k : QRd w Q (Q + 1) A cap bs s) => qnode_rd Q (Q + 1) cap A bs s w k)
  clear hM hgn hrm nbn OV0 hLV
  obtain ⟨i0, hi0, hz0, hz1, hz2⟩ := info_parts infoNode'
  have I1 := LH hi0
  have I2 := LH hz0
  have I3 := LH hz1
  have I4 := LH hz2
  clear hi0 hz0 hz1 hz2
  go_wp2_with fail
  refine CN.out.mono ?_
  rintro e w1 ⟨rfl, r1, kd⟩
  replace q := box_keep kd q (by omega) (by omega)
  replace f := free_keep kd f (by omega) (by omega)
  replace x := box_keep kd x (by omega) (by omega)
  replace g := free_keep kd g (by omega) (by omega)
  replace s : Q + 3 ≤ w1.heap.size := by have := kd.2.2.1; omega
  replace p := LH (kd.past p.out (by omega))
  replace R := LH r1
  replace OV := LH (own_keep OV.out kd (by omega))
  clear r1 kd CN
  go_upto_block 2 with fail
  go_cut [12] (fun _ w' => ∃ (An : Option Addr) (cn : Nat) (l : List NodeD), l.length ≤ 255 ∧ (Bx w' Q #[.slice none 0 0, .slice none 0 0, .slice none 0 0]) ∧ (Fr w' Q) ∧ (Bx w' (Q + 2) #[.slice Av LV cv, .slice An l.length cn, .slice none 0 0]) ∧ (Fr w' (Q + 2)) ∧ Q + 3 ≤ w'.heap.size ∧ Hid (Past W w') ∧ Hid (OwnNodes w' (Q + 3) (.slice An l.length cn) l) ∧ Hid (∀ n ∈ l, wfN n ∧ n.ins.length ≤ 255 ∧ n.ws.length ≤ 65535 ∧ n.bs.length ≤ 255) ∧ Hid (gn.2.short = false → gn.1 = l) ∧ Hid (QRd w' Q (Q + 1) A cap bs gn.2) ∧ Hid (w'.ownsRow (Q + 3) 47 4 (.slice Av LV cv) LV (valsCells lv)))
  case first =>
   go_wp2_with fail
   go_loopw [12] (fun i wr => ∃ (k : Nat) (v : Value) (l : List NodeD) (st : Rd), k ≤ M ∧ i = .int .i64 k ∧ l.length = k ∧ (Bx wr Q #[.slice none 0 0, .slice none 0 0, .slice none 0 0]) ∧ (Fr wr Q) ∧ (Bx wr (Q + 2) #[.slice Av LV cv, v, .slice none 0 0]) ∧ (Fr wr (Q + 2)) ∧ Q + 3 ≤ wr.heap.size ∧ Hid (Past W wr) ∧ Hid (Stops nodeR (M - k) l st gn) ∧ Hid (OwnNodes wr (Q + 3) v l) ∧ Hid (∀ n ∈ l, wfN n ∧ n.ins.length ≤ 255 ∧ n.ws.length ≤ 65535 ∧ n.bs.length ≤ 255) ∧ Hid (QRd wr Q (Q + 1) A cap bs st) ∧ Hid (wr.ownsRow (Q + 3) 47 4 (.slice Av LV cv) LV (valsCells lv))) (fun i _ => M - (intOf i).toNat)
   case atStart => exact ⟨0, .slice none 0 0, [], rm.2, by omega, rfl, rfl, q, f, x, g, s, p, STN, LH (OwnNodes.nil _ _), LH (by simp), R, OV⟩
   case round =>
    clear q f x g s p STN R OV
    obtain ⟨k, v, l, st, hk, rfl, rfl, q, f, x, g, s, p, hgo, own, hwf, rr, ov⟩ := hrel
    have c2 := rr.out.c2
    by_cases h : l.length < M
    ·cases hs : st.short with
     | true =>
      have D := LH (hgo.out.over hs)
      rw [hs] at c2
      clear hs
      have rr' : Hid (QRd wr Q (Q + 1) A cap bs gn.2) := LH (by rw [D.out.1]; exact rr.out)
      have DK : Hid (gn.2.short = false → gn.1 = l) := LH (fun f => D.out.2 (by rw [← D.out.1]; exact f))
      obtain ⟨An, cn, rfl, _, _⟩ := own_slice' own.out.choose_spec.1
      clear hgo
      go_wp2_with fail
      go_meet
      exact ⟨An, cn, l, by omega, q, f, x, g, s, p, own, hwf, DK, rr', ov⟩
     | false =>
      obtain ⟨m, hm⟩ : ∃ m, M - l.length = m + 1 := ⟨M - l.length - 1, by omega⟩
      have q1 := @stops_node (M - l.length) m l st gn hgo
      have CQ1 := LH (fun w k => CQ.out st w k)
      generalize hns : nodeR st = ns at q1 CQ1
      clear hns
      have NX := q1 hm hs
      rw [hs] at c2
      have HM := LH hm
      clear hgo hs hm q1
      go_upto_region 14 with fail
      refine wp_region_lastn 7 _ rfl (by kernel_rfl) (by kernel_rfl) ?zn
      case zn =>
       simp only [List.take_succ_cons, List.take_zero]
       refine any_mixd [3, 4, 5] (fun w' => (Bx w' (Q + 2) #[.slice Av LV cv, v, .slice none 0 0])) [(59, ?vn59), (60, ?vn60), (61, ?vn61), (65, ?vn65)] [59, 60, 61, 65] (by kernel_rfl) rfl (by kernel_rfl) x (fun w h => box_drew h) ?alln ?finn
       case alln =>
        simp only [fillA, Act.put, List.setIfInBounds_toArray, List.set_cons_zero, List.set_cons_succ]
        iterate 7 (first | refine forced rfl ?_ | (refine reads (fun w hw K hK => ?_) ?_; focus ((have hS := LH hw); go_split_ands; go_simp; (try go_frame); exact hK)))
        exact True.intro
       case finn =>
        simp only [fillA, Act.put, List.setIfInBounds_toArray, List.set_cons_zero, List.set_cons_succ]
        refine mix_at 62 rfl rfl (fun K hK => ?_)
        simp only [Act.put, List.setIfInBounds_toArray, List.set_cons_zero, List.set_cons_succ] at hK
        go_simp
        refine (CQ1.out wr.drew (rr.out.past ((Past.refl wr).drew))).mono ?_
        rintro e w4 ⟨n, vi, vw, vb, rfl, no, wfn, l1, l2, l3, eqn, r4, k4⟩
        have kd : Keep (Q + 1) wr w4 := Keep.of_drew k4
        have q4 := box_keep kd q (by omega) (by omega)
        have f4 := free_keep kd f (by omega) (by omega)
        have x4 := box_keep kd x (by omega) (by omega)
        have g4 := free_keep kd g (by omega) (by omega)
        have s4 : Q + 3 ≤ w4.heap.size := by have := kd.2.2.1; omega
        have p4 := LH (kd.past p.out (by omega))
        have O4 := LH (own.out.keep kd (by omega))
        have V4 := LH (own_keep ov.out kd (by omega))
        have NO4 : Hid (NodeOwn w4 (Q + 3) n vi vw vb) := LH (no.more (show Q + 3 ≤ wr.heap.size from s))
        have R4 := LH r4
        have EQ := LH eqn
        have WN : Hid (wfN n ∧ n.ins.length ≤ 255 ∧ n.ws.length ≤ 65535 ∧ n.bs.length ≤ 255) := LH ⟨wfn, l1, l2, l3⟩
        obtain ⟨Ai, ci, rfl, _, _⟩ := own_slice' no.1
        obtain ⟨Aw, cw, rfl, _, _⟩ := own_slice' no.2.1
        obtain ⟨Ab, cb, rfl, _, _⟩ := own_slice' no.2.2
        refine hK _ _ x4 ?_
        clear hK kd k4 r4 q f x g s p own ov rr c2 no wfn l1 l2 l3 eqn
        (try go_frame)
        refine mix_at 63 rfl rfl (fun K hK => ?_)
        simp only [Act.put, List.setIfInBounds_toArray, List.set_cons_zero, List.set_cons_succ] at hK
        go_simp
        refine hK _ _ (box_old x4 (by omega)) ?_
        clear hK
        (try go_frame)
        refine mix_at 64 rfl rfl (fun K hK => ?_)
        simp only [Act.put, List.setIfInBounds_toArray, List.set_cons_zero, List.set_cons_succ] at hK
        obtain ⟨xs, ow4, rw4⟩ := O4.out
        have OWR := LH ow4
        have RW4 := LH rw4
        have HXL := LH (own_len ow4)
        have HLT := LH (World.ownsRow.lt ow4)
        clear ow4 rw4
        refine wp_append_own _ (.tmp 60) (.tmp 63) 25 rfl (Q + 3) 63 i0 _ 14 160 Tryz.underlying25 I1.out I2.out I3.out I4.out rfl (by decide) _ _ _ rfl (World.ownsRow.alloc OWR.out _) ⟨w4.heap.size, 0, none⟩ 1 1 (nodeCells n (.slice Ai n.ins.length ci) (.slice Aw n.ws.length cw) (.slice Ab n.bs.length cb)) rfl rfl (fun j u hu => cells_new' w4 _ 63 j u hu) (nodeCells_one NO4.out) ?c4 ?c5 ?c6 ?_
        case c4 => unfold maxLen; omega
        case c5 => omega
        case c6 => simp; omega
        intro v7 w7 hown7 hgrow _
        obtain ⟨A7, c7, rfl, _, _⟩ := own_slice' hown7
        have O7 : Hid (OwnNodes w7 (Q + 3) (.slice A7 (l.length + 1) c7) (l ++ [n])) := LH ⟨_, by
         rw [List.length_append]
         exact hown7, ((RW4.out.map fun _ _ _ _ k => (k.alloc _).grow (World.ownsRow.alloc OWR.out _) hgrow).more (by rw [HXL.out]) ((NO4.out.alloc _).grow (World.ownsRow.alloc OWR.out _) hgrow))⟩
        have V7 := LH (World.ownsRow.kept (World.ownsRow.alloc V4.out _) hgrow (own_ne V4.out OWR.out (by decide)))
        have n0 : some Q ≠ v.ownBlock := fun e => by have := (HLT.out Q e.symm).1; omega
        have n2 : some (Q + 2) ≠ v.ownBlock := fun e => by have := (HLT.out (Q + 2) e.symm).1; omega
        have q7 := box_low hgrow (by omega) n0 q4
        have f7 := free_low hgrow (by omega) n0 f4
        have x7 := box_low hgrow (by omega) n2 x4
        have g7 := free_low hgrow (by omega) n2 g4
        have s7 : Q + 3 ≤ w7.heap.size := by have := hgrow.size; simp only [World.size_alloc] at this; omega
        have R7 := LH ((R4.out.alloc (.cells ⟨nodeCells n (.slice Ai n.ins.length ci) (.slice Aw n.ws.length cw) (.slice Ab n.bs.length cb)⟩ 63)).grownBy hgrow (fun j hj => by have := (HLT.out j hj).1; omega))
        have p7 := LH ((p4.out.alloc (.cells ⟨nodeCells n (.slice Ai n.ins.length ci) (.slice Aw n.ws.length cw) (.slice Ab n.bs.length cb)⟩ 63)).grownBy hgrow (fun j hj => by have := (HLT.out j hj).1; omega))
        have W7 : Hid (∀ y ∈ l ++ [n], wfN y ∧ y.ins.length ≤ 255 ∧ y.ws.length ≤ 65535 ∧ y.bs.length ≤ 255) := LH (fun y hy => by
         rcases List.mem_append.1 hy with hy | hy
         ·exact hwf.out y hy
         ·simp only [List.mem_cons, List.not_mem_nil, or_false] at hy; subst hy; exact WN.out)
        refine hK _ _ x7 ?_
        clear hK hown7 hgrow q4 f4 x4 g4 s4 p4 R4 O4 V4 NO4 HLT n0 n2 OWR RW4 HXL WN
        (try go_frame)
        refine mix_nil ?_
        show Oper.wp _ _ _ _ _ _
        go_simp
        go_wp2_with fail
        go_roundw
        case rel => exact ⟨l.length + 1, _, l ++ [n], ns.2, by omega, by go_num, by simp, box_set q7 (by simp only; omega), free_set f7, box_at x7 1 (by simp) _, free_set g7, by simpa only [size_setCell] using s7, LH (p7.out.setCell (by simp only; omega) _), LH (by rw [show M - (l.length + 1) = m by have := HM.out; omega]; exact stops_swap NX.out EQ.out), LH (O7.out.set (by omega)), W7, LH (R7.out.set (by omega)), LH (own_set V7.out (by omega))⟩
        case measure => simp [intOf]; omega
    ·have e : M - l.length = 0 := by omega
     rw [e] at hgo
     have D := LH hgo.out.done
     clear e
     have rr' : Hid (QRd wr Q (Q + 1) A cap bs gn.2) := LH (by rw [D.out.1]; exact rr.out)
     have DK : Hid (gn.2.short = false → gn.1 = l) := LH (fun f => D.out.2 (by rw [← D.out.1]; exact f))
     obtain ⟨An, cn, rfl, _, _⟩ := own_slice' own.out.choose_spec.1
     clear hgo
     go_wp2_with fail
     go_meet
     exact ⟨An, cn, l, by omega, q, f, x, g, s, p, own, hwf, DK, rr', ov⟩
  case rest =>
   clear q f x g s p STN R OV I1 I2 I3 I4 i0 CQ
   obtain ⟨An, cn, ln, hln, q, f, x, g, s, p, ON, WN, DN, R, OV⟩ := hcut
   obtain ⟨wB, hwB⟩ : ∃ w, w = wc := ⟨_, rfl⟩
   subst hwB
   have CO := LH (qnums_rd Q (Q + 1) cap A bs gn.2 wB R.out)
   obtain ⟨ro, hro⟩ : ∃ y, listR 1 (numR 1) gn.2 = y := ⟨_, rfl⟩
   rw [hro] at CO
   have HRO := LH hro
   clear hro
   go_wp2_with fail
   refine CO.out.mono ?_
   rintro e w2 ⟨vo, lo, rfl, oo, lo1, lo2, lo3, r2, kd⟩
   have q2 := box_keep kd q (by omega) (by omega)
   have f2 := free_keep kd f (by omega) (by omega)
   have x2 := box_keep kd x (by omega) (by omega)
   have g2 := free_keep kd g (by omega) (by omega)
   have s2 : Q + 3 ≤ w2.heap.size := by have := kd.2.2.1; omega
   have p2 := LH (kd.past p.out (by omega))
   have BG2 : Hid (bytesP gn.2.rest) := LH R.out.bytes
   have R2 := LH r2
   have DO := LH lo3
   have CUT : Hid (Cut ⟨lv, ln, lo⟩) := LH ⟨by show lo.length ≤ 1000; omega, fun n hn => by have := (WN.out n hn).2; omega⟩
   have BD : Hid ((graphB ⟨lv, ln, lo⟩).length ≤ 900000000) := LH (gB_bd _ (by show lv.length ≤ 255; omega) (by show ln.length ≤ 255; omega) (fun n hn => (WN.out n hn).2) (by show lo.length ≤ 255; omega))
   have IG : Hid (IsGraph w2 (.agg #[.slice Av LV cv, .slice An ln.length cn, vo]) ⟨lv, ln, lo⟩) := LH ⟨_, _, _, rfl, vals_of_own (by have := own_keep OV.out kd (by omega); unfold OwnVals; rw [HLV.out]; exact this) WV.out, nodes_of_ownN (ON.out.keep kd (by omega)) (fun n hn => (WN.out n hn).1), nums_of_ownI oo (fun x hx => WalkArith.wf_i64 (by have := lo1 x hx; omega))⟩
   obtain ⟨Ao, co, rfl, _, _⟩ := own_slice' oo
   clear q f x g s p ON R OV CO kd oo lo1 lo3 r2
   go_upto_region 16 with fail
   have hN : NoInt w2 (Q + 2) := noInt_box x2
   refine opq (fun w' => ((Bx w' Q #[.slice none 0 0, .slice none 0 0, .slice none 0 0]) ∧ (Fr w' Q) ∧ (Bx w' (Q + 2) #[.slice Av LV cv, .slice An ln.length cn, .slice Ao lo.length co]) ∧ (Fr w' (Q + 2)) ∧ Q + 3 ≤ w'.heap.size ∧ Hid (Past W w')) ∧ Hid (IsGraph w' (.agg #[.slice Av LV cv, .slice An ln.length cn, .slice Ao lo.length co]) ⟨lv, ln, lo⟩) ∧ Hid (QRd w' Q (Q + 1) A cap bs ro.2)) ⟨⟨box_set q2 (by simp only; omega), free_set f2, box_at x2 2 (by simp) _, free_set g2, by simpa only [size_setCell] using s2, LH (p2.out.setCell (by simp only; omega) _)⟩, LH (graph_save IG.out hN ((Save.refl (Q + 2) w2).set 2 _)), LH (R2.out.set (by omega))⟩ ?_
   rintro w3 ⟨⟨q, f, x, g, s, p⟩, IG3, R⟩
   clear q2 f2 x2 g2 s2 p2 R2 IG hN
   have CP := LH (rput_any ⟨lv, ln, lo⟩ _ w3 IG3.out CUT.out BD.out)
   go_wp2_with fail
   refine CP.out.mono ?_
   rintro e w4 ⟨pv, pq, rfl, pz, po, pn, pp⟩
   have q4 := box_past pp q (by omega)
   have f4 := free_past pp f (by omega)
   have x4 := box_past pp x (by omega)
   have g4 := free_past pp g (by omega)
   have s4 : Q + 3 ≤ w4.heap.size := by have := pp.2.2.1; omega
   have p4 := LH (p.out.trans pp)
   have IG4 := LH (IG3.out.grow pp)
   obtain ⟨kp, bad, QA, hl9⟩ := R.out.past pp
   obtain ⟨rb4, rf4, _, hkp, _, _, _⟩ := QA
   have HLO := LH hl9
   have PZ := LH pz
   have PO := LH po
   have EG : Hid (graphR ⟨bs, false⟩ = (⟨gv.1, gn.1, ro.1⟩, ro.2)) := LH (graph_read (by unfold listR; rw [HRN.out, HN.out, Int.toNat_natCast, HGV.out]) (by unfold listR; rw [HRM.out, HM0.out, Int.toNat_natCast, HGN.out]) HRO.out)
   have SH : Hid (ro.2.short = false → (⟨gv.1, gn.1, ro.1⟩ : GraphD) = ⟨lv, ln, lo⟩) := LH (fun h => by
    have a1 := ((listR_inv (numR_inv 1) 1).back gn.2 ro.1 ro.2 (by rw [HRO.out]) BG2.out h).1
    have a2 := ((listR_inv nodeR_inv 1).back gv.2 gn.1 gn.2 (by unfold listR; rw [HRM.out, HM0.out, Int.toNat_natCast, HGN.out]) BV2.out a1).1
    rw [DO.out h, DN.out a1, DV.out a2])
   clear q f x g s p IG3 R pp pz po hl9 CP HRN HN HGV HRM HM0 HGN HRO BG2 BV2 DO DN DV
   cases bad with
   | true =>
    have NT : Hid (¬ TookP bs) := LH (by unfold TookP; rw [EG.out]; intro f; have := HLO.out; have f1 : ro.2.short = false := f.1; rw [← this] at f1; simp [leftOf] at f1)
    clear PZ PO EG SH HLO
    go_upto_region 17 with fail
    go_quiet (fail)
    have P5 : Past w4 (w4.drewN nq) := (Past.refl _).drewN
    have q5 := box_past P5 q4 (by omega)
    have f5 := free_past P5 f4 (by omega)
    have p5 := p4.out.trans P5
    clear q4 f4 x4 g4 rb4 rf4 IG4 p4
    obtain ⟨w5, hw5⟩ : ∃ w, w4.drewN nq = w := ⟨_, rfl⟩
    rw [hw5] at q5 f5 p5 ⊢
    clear P5 hw5
    go_wp2_with fail
    have b6 := box_set3 (y0 := .slice none 0 0) (y1 := .slice none 0 0) (y2 := .slice none 0 0) q5
    have p6 : Past W (((w5.setCell ⟨Q, 0, none⟩ (.slice none 0 0)).setCell ⟨Q, 1, none⟩ (.slice none 0 0)).setCell ⟨Q, 2, none⟩ (.slice none 0 0)) := ((p5.setCell (p := ⟨Q, 0, none⟩) (by simp only; omega) _).setCell (p := ⟨Q, 1, none⟩) (by simp only; omega) _).setCell (p := ⟨Q, 2, none⟩) (by simp only; omega) _
    clear q5 p5
    generalize (((w5.setCell ⟨Q, 0, none⟩ (.slice none 0 0)).setCell ⟨Q, 1, none⟩ (.slice none 0 0)).setCell ⟨Q, 2, none⟩ (.slice none 0 0)) = w9 at *
    exact bodyPost_ret (v := .tuple #[.agg #[.slice none 0 0, .slice none 0 0, .slice none 0 0], .int .i64 0, .int .i64 2]) (by simp [results, Tryz.results17, go_sem, b6]) rfl (.inr ⟨NT.out, rfl, p6⟩)
   | false =>
    have hs : ro.2.short = false := by rw [← HLO.out]; rfl
    have EG2 : Hid (graphR ⟨bs, false⟩ = (⟨lv, ln, lo⟩, ro.2)) := LH (by rw [EG.out, SH.out hs])
    cases e0 : (pq == 0) with
    | false =>
     have e1 : (pq != 0) = true := by simp [bne, e0]
     have NT : Hid (¬ TookP bs) := LH (by unfold TookP; rw [EG2.out]; intro f; have := PZ.out.2 f.2; simp [this] at e0)
     clear PZ PO EG SH HLO EG2
     go_upto_region 17 with fail
     go_quiet (fail)
     have P5 : Past w4 (w4.drewN nq) := (Past.refl _).drewN
     have q5 := box_past P5 q4 (by omega)
     have f5 := free_past P5 f4 (by omega)
     have p5 := p4.out.trans P5
     clear q4 f4 x4 g4 rb4 rf4 IG4 p4
     obtain ⟨w5, hw5⟩ : ∃ w, w4.drewN nq = w := ⟨_, rfl⟩
     rw [hw5] at q5 f5 p5 ⊢
     clear P5 hw5
     go_wp2_with fail
     have b6 := box_set3 (y0 := .slice none 0 0) (y1 := .slice none 0 0) (y2 := .slice none 0 0) q5
     have p6 : Past W (((w5.setCell ⟨Q, 0, none⟩ (.slice none 0 0)).setCell ⟨Q, 1, none⟩ (.slice none 0 0)).setCell ⟨Q, 2, none⟩ (.slice none 0 0)) := ((p5.setCell (p := ⟨Q, 0, none⟩) (by simp only; omega) _).setCell (p := ⟨Q, 1, none⟩) (by simp only; omega) _).setCell (p := ⟨Q, 2, none⟩) (by simp only; omega) _
     clear q5 p5
     generalize (((w5.setCell ⟨Q, 0, none⟩ (.slice none 0 0)).setCell ⟨Q, 1, none⟩ (.slice none 0 0)).setCell ⟨Q, 2, none⟩ (.slice none 0 0)) = w9 at *
     exact bodyPost_ret (v := .tuple #[.agg #[.slice none 0 0, .slice none 0 0, .slice none 0 0], .int .i64 0, .int .i64 2]) (by simp [results, Tryz.results17, go_sem, b6]) rfl (.inr ⟨NT.out, rfl, p6⟩)
    | true =>
     have e1 : (pq != 0) = false := by simp [bne, e0]
     have pq0 : pq = 0 := by simpa using e0
     subst pq0
     have YT : Hid (TookP bs) := LH (by unfold TookP; rw [EG2.out]; exact ⟨hs, PZ.out.1 rfl⟩)
     have PT := put_took (bytes_of_nums HB.out).2.bytesP YT.out
     rw [EG2.out] at PT
     obtain ⟨P1, _⟩ := PT
     have hlen := congrArg List.length P1
     rw [← HLO.out] at P1 hlen
     simp only [leftOf, Bool.false_eq_true, if_false, List.length_append, List.length_drop] at P1 hlen
     have kg : (graphB ⟨lv, ln, lo⟩).length = kp := by omega
     have TK : bs.take kp = graphB ⟨lv, ln, lo⟩ := by
      have h := congrArg (List.take kp) P1
      rw [h, ← kg]
      simp
     have kp3 : 3 ≤ kp := by rw [← kg, graphB_eq]; simp only [List.length_append, numB_len]; omega
     have HB4 := HB.out.grow p4.out
     have RL : Hid ((kp : Int) = (bs.length : Int) - (ro.2.rest.length : Int)) := LH (by rw [← HLO.out]; simp only [leftOf, Bool.false_eq_true, if_false, List.length_drop]; omega)
     obtain ⟨b, off, rfl⟩ : ∃ b off, A = some ⟨b, off, none⟩ := by
      obtain ⟨_, _, e, _, _, _, _, k⟩ := HB4
      simp only [Value.slice.injEq, true_and] at e
      obtain ⟨rfl, rfl⟩ := e
      obtain ⟨b, off, e, _⟩ := k (by omega)
      exact ⟨b, off, e⟩
     have cap1 : bs.length ≤ cap := by
      obtain ⟨_, _, e, h2, _, _, _, _⟩ := HB4
      simp only [Value.slice.injEq, true_and] at e
      obtain ⟨rfl, rfl⟩ := e
      exact h2
     have n2 := Q8.nums_cut kp hkp HB4
     have n1 := nums_of_ownI (t := 5) (PO.out rfl).1 (Q8.wf_u8_of (graphB_bytes _))
     rw [TK] at n2
     have s1 := fun n => Q8.str_of_nums (n1.grow ((Past.refl w4).drewN (k := n)))
     have s2 := fun n => Q8.str_of_nums (n2.grow ((Past.refl w4).drewN (k := n)))
     clear n1 n2
     obtain ⟨SZ, hSZ⟩ : ∃ q, strOfNums (graphB ⟨lv, ln, lo⟩) = q := ⟨_, rfl⟩
     rw [hSZ] at s1 s2
     clear hSZ P1 hlen kg TK HB4 PO PZ EG SH HLO hs e0
     go_upto_region 17 with fail
     go_quiet (fail)
     have P5 : Past w4 (w4.drewN nq) := (Past.refl _).drewN
     have q5 := box_past P5 q4 (by omega)
     have f5 := free_past P5 f4 (by omega)
     have x5 := box_past P5 x4 (by omega)
     have g5 := free_past P5 g4 (by omega)
     have rb5 := box_past P5 rb4 (by omega)
     have rf5 := free_past P5 rf4 (by omega)
     have p5 := p4.out.trans P5
     have s5 : Q + 3 ≤ (w4.drewN nq).heap.size := by have := P5.2.2.1; omega
     have IG5 := LH (IG4.out.grow P5)
     clear q4 f4 x4 g4 rb4 rf4 IG4 p4 s1 s2
     obtain ⟨w5, hw5⟩ : ∃ w, w4.drewN nq = w := ⟨_, rfl⟩
     rw [hw5] at q5 f5 p5 x5 g5 rb5 rf5 s5 IG5 ⊢
     clear P5 hw5
     go_upto_region 19 with fail
     go_region
     all_goals
      have hN : NoInt w5 Q := noInt_box q5
      have IG6 := LH ((graph_save IG5.out hN ((((Save.refl Q w5).set 0 (.slice Av LV cv)).set 1 (.slice An ln.length cn)).set 2 (.slice Ao lo.length co))).grow (Past.drew (Past.refl _)))
      have b6 := box_drew (box_set3 (y0 := .slice Av LV cv) (y1 := .slice An ln.length cn) (y2 := .slice Ao lo.length co) q5)
      have p6 : Past W (((w5.setCell ⟨Q, 0, none⟩ (.slice Av LV cv)).setCell ⟨Q, 1, none⟩ (.slice An ln.length cn)).setCell ⟨Q, 2, none⟩ (.slice Ao lo.length co)).drew := (((p5.setCell (p := ⟨Q, 0, none⟩) (by simp only; omega) _).setCell (p := ⟨Q, 1, none⟩) (by simp only; omega) _).setCell (p := ⟨Q, 2, none⟩) (by simp only; omega) _).drew
      clear q5 p5 hN x5 rb5 f5 g5 rf5
      generalize (((w5.setCell ⟨Q, 0, none⟩ (.slice Av LV cv)).setCell ⟨Q, 1, none⟩ (.slice An ln.length cn)).setCell ⟨Q, 2, none⟩ (.slice Ao lo.length co)).drew = w9 at *
      go_wp2_with fail
      exact bodyPost_ret (v := .tuple #[.agg #[.slice Av LV cv, .slice An ln.length cn, .slice Ao lo.length co], .int .i64 (kp : Int), .int .i64 0]) (by simp [results, Tryz.results17, go_sem, b6]) rfl (.inl ⟨YT.out, by rw [EG2.out]; exact ⟨_, by rw [← RL.out], IG6.out, p6⟩⟩)
end Go.Proofs.YtejllmjkeefloaaGreat
