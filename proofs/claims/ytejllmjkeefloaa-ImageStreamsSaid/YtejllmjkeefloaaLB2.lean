/- ImageStreams: the walk. -/
import Derived.Deep.DeepCutAuto
import Derived.Test.YtejllmjkeefloaaLB1
import Derived.Test.YtejllmjkeefloaaLI12
import Derived.Test.YtejllmjkeefloaaLA6
import Derived.Test.YtejllmjkeefloaaLTv
namespace Go.Proofs.Ytejllmjkeefloaa
open Go.ChangeShapes Go.WideShapes Go.ChangeAt Go.RowKit
set_option maxRecDepth 20000
set_option linter.unusedVariables false
set_option linter.unusedSimpArgs false

theorem zeros_nums {w : World} {base n : Nat} {v : Value} (h : w.ownsRow base 3 1 v n (madeCells #[.int .i64 0] (n * 1)).toList) : IsNums .i64 w v (List.replicate n 0) := by
  have e : (madeCells #[.int .i64 0] (n * 1)).toList = (List.replicate n (0 : Int)).map (Value.int .i64) := by
    rw [toList_madeCells_one, Nat.mul_one, List.map_replicate]
  rw [e] at h
  have h' : OwnI .i64 3 w base v (List.replicate n 0) := by unfold OwnI; rw [List.length_replicate]; exact h
  exact nums_of_ownI h' (fun x hx => by rw [(List.mem_replicate.1 hx).2]; decide)
theorem values_len' (g : GraphD) : (valuesL g).length ≤ 16 := by
  by_cases h : valuesE g = 0
  · have a := (makes_facts h).1
    have b := (begins_ok (values_ok h).1).1
    omega
  · unfold valuesL
    rw [if_neg h]
    simp
theorem zeros_placed {g : GraphD} {n : Nat} (h : (valuesL g).length = n) : placedP g (List.replicate n 0) := by
  refine ⟨by rw [List.length_replicate, h], fun j hj => ?_⟩
  rw [List.length_replicate] at hj
  have e : (List.replicate n (0 : Int)).getD j 0 = 0 := by simp [List.getD, hj]
  rw [e]
  have := sizeV_bd ((valuesL g).getD j default)
  omega
theorem grown_low' {w w' : World} {row : Option Nat} {x : Obj} {k : Nat} (g : (w.alloc x).grownBy w' row) (hk : k < w.heap.size) (hn : some k ≠ row) : w'.heap[k]? = w.heap[k]? := (g.block k (by rw [World.size_alloc]; omega) hn).trans (Below.heap_alloc w x k hk)
theorem box_low' {w w' : World} {row : Option Nat} {x : Obj} {k : Nat} {cs : Array Value} (g : (w.alloc x).grownBy w' row) (hk : k < w.heap.size) (hn : some k ≠ row) (h : (∀ o : Nat, w.cell? ⟨k, o, none⟩ = (cs : Array Value)[o]?)) : (∀ o : Nat, w'.cell? ⟨k, o, none⟩ = (cs : Array Value)[o]?) := fun o => (World.cell?_of_block (a := ⟨k, o, none⟩) (grown_low' g hk hn)).trans (h o)
theorem free_low' {w w' : World} {row : Option Nat} {x : Obj} {k : Nat} (g : (w.alloc x).grownBy w' row) (hk : k < w.heap.size) (hn : some k ≠ row) (h : (∀ o : Nat, w.frozen? ⟨k, o, none⟩ = false)) : (∀ o : Nat, w'.frozen? ⟨k, o, none⟩ = false) := fun o => (World.frozen?_of_block (a := ⟨k, o, none⟩) (grown_low' g hk hn)).trans (h o)
def haltC : List Int := [7, 0, 0, 0, 0, 0, 0, 0, 0, 0, 0, 0, 0, 0]
theorem halt_wf : Q8.wfC haltC := by unfold Q8.wfC haltC; exact ⟨rfl, by decide⟩
theorem many_halts (i : ImgD) (h0 : valuesE i.g = 0) (hp : placedP i.g i.pl) (hs : 4096 < i.s0.length) : mayI i = 3 := by
  have e : Q8.putE i.s0 = 3 := by unfold Q8.putE; rw [if_pos hs]
  rw [mayI_head h0 hp, e]
  rfl
theorem may_one (g : GraphD) (pl : List Int) (l : List (List Int)) (h0 : valuesE g = 0) (hp : placedP g pl) (k : Nat) (hk : k < 3) : mayI ⟨g, pl, if k = 0 then l else [], if k = 1 then l else [], if k = 2 then l else []⟩ = Q8.putE l := by
  have e0 : Q8.putE [] = 0 := by decide
  rw [mayI_head (i := ⟨g, pl, _, _, _⟩) h0 hp]
  rcases (show k = 0 ∨ k = 1 ∨ k = 2 by omega) with rfl | rfl | rfl
  · simp only [if_true, show ¬ ((0 : Nat) = 1) by decide, show ¬ ((0 : Nat) = 2) by decide, if_false, e0]
    by_cases h : Q8.putE l = 0 <;> simp [h]
  · simp only [if_true, show ¬ ((1 : Nat) = 0) by decide, show ¬ ((1 : Nat) = 2) by decide, if_false, e0]
    by_cases h : Q8.putE l = 0 <;> simp [h]
  · simp only [if_true, show ¬ ((2 : Nat) = 0) by decide, show ¬ ((2 : Nat) = 1) by decide, if_false, e0]
    simp
set_option maxHeartbeats 16000000 in
theorem streams_walk (W : World) (va : Value) (im0 : ImgD) (ha : IsImg W va im0) (lv : Value) (l0 : List (List Int)) (hl : Q8.IsCmds W lv l0) (z : Int) (hz : (Lit.int .u8 z).wf = true) : Calls Try.prog 5 #[va, lv, .int .u8 z] W fun e w' => e = .returned (.bool true) ∧ Past W w' := by
  have LA := Lib.hid (fun w (p : Past W w) => less9_any im0 va w (ha.grow p))
  obtain ⟨R1, r1, R2, r2, R3, r3, R4, r4, R5, r5, R6, r6, R7, r7, rfl, _, _, _, _, _⟩ := ha.form
  have CA := Lib.hid (cut_cutI im0)
  have GA := Lib.hid (cutI_len im0)
  obtain ⟨i, ea⟩ : ∃ x, cutI im0 = x := ⟨_, rfl⟩
  rw [ea] at LA CA GA
  obtain ⟨AL, cL, rfl, l2, l3, _⟩ := hl.form
  have CPL := Lib.hid (cmds_cap hl)
  obtain ⟨LL, hLL⟩ : ∃ n, (l0.take 300).length = n := ⟨_, rfl⟩
  have HL0 := cmds_cut' 300 hl
  rw [hLL] at HL0
  have HL := Lib.hid HL0
  have HLL := Lib.hid (hLL.symm.trans (len_min _ _))
  obtain ⟨L, hL⟩ : ∃ x, l0.take 300 = x := ⟨_, rfl⟩
  rw [hL] at HL hLL
  have LLE := Lib.hid hLL
  have ml : l0.length ≤ 9223372036854775807 := by unfold maxLen at l3; omega
  have z0 := wf_u8 hz
  clear ea ha hl hLL HL0 hL hz l2 l3
  obtain ⟨Q, hQ⟩ : ∃ Q, W.heap.size = Q := ⟨_, rfl⟩
  go_enter Try.func5, Try.ntmps5
  go_upto_region 1 with fail
  refine opq (fun w' => (∀ o : Nat, w'.cell? ⟨Q, o, none⟩ = (#[.slice R1 im0.g.ins.length r1, .slice R2 im0.g.nodes.length r2, .slice R3 im0.g.outs.length r3, .slice R4 im0.pl.length r4, .slice R5 im0.s0.length r5, .slice R6 im0.s1.length r6, .slice R7 im0.s2.length r7] : Array Value)[o]?) ∧ (∀ o : Nat, w'.frozen? ⟨Q, o, none⟩ = false) ∧ Past W w' ∧ Q + 1 ≤ w'.heap.size) (by
    subst hQ
    exact ⟨by (exact kKeep), by (exact kKeep), by (exact kKeep), by simp⟩) ?_
  rintro w1 ⟨b1, f1, p1, s1⟩
  try simp only [World.size_alloc, hQ]
  try rw [hQ]
  go_wp2_with fail
  refine (shown9_any _).mono ?_
  rintro e w2 ⟨rfl, g⟩
  replace b1 := box_past g b1 (by omega)
  replace f1 := free_past g f1 (by omega)
  replace p1 := p1.trans g
  replace s1 := size_past g s1
  clear g
  go_wp2_with (first | refine wpList_load_box rfl 40 (.tmp 3) rfl Q _ rfl b1 Try.underlying40 rfl (by kernel_rfl) ?_)
  refine (LA.out _ p1).mono ?_
  rintro e w3 ⟨v3, rfl, IA, g⟩
  replace b1 := box_past g b1 (by omega)
  replace f1 := free_past g f1 (by omega)
  replace p1 := p1.trans g
  replace s1 := size_past g s1
  obtain ⟨A1, c1, A2, c2, A3, c3, A4, c4, A5, c5, A6, c6, A7, c7, rfl, _, _, _, _, _⟩ := IA.form
  have HA := Lib.hid IA
  clear g IA LA
  go_upto_region 3 with fail
  refine opq (fun w' => ((∀ o : Nat, w'.cell? ⟨Q, o, none⟩ = (#[.slice A1 i.g.ins.length c1, .slice A2 i.g.nodes.length c2, .slice A3 i.g.outs.length c3, .slice A4 i.pl.length c4, .slice A5 i.s0.length c5, .slice A6 i.s1.length c6, .slice A7 i.s2.length c7] : Array Value)[o]?) ∧ (∀ o : Nat, w'.frozen? ⟨Q, o, none⟩ = false) ∧ Past W w' ∧ Q + 1 ≤ w'.heap.size) ∧ Hid (IsImg w' (.agg #[.slice A1 i.g.ins.length c1, .slice A2 i.g.nodes.length c2, .slice A3 i.g.outs.length c3, .slice A4 i.pl.length c4, .slice A5 i.s0.length c5, .slice A6 i.s1.length c6, .slice A7 i.s2.length c7]) i)) ⟨⟨box_set7 b1, free7 f1, past7 p1 (by omega), size7 s1⟩, Lib.hid (img_save HA.out (noInt7 b1) save7)⟩ ?_
  clear b1 f1 p1 s1 HA
  rintro w4 ⟨⟨b1, f1, p1, s1⟩, HA⟩
  have IG : Hid (IsGraph w4 (.agg #[.slice A1 i.g.ins.length c1, .slice A2 i.g.nodes.length c2, .slice A3 i.g.outs.length c3]) i.g) := Lib.hid (by
    obtain ⟨_, _, _, _, _, _, _, _, _, _, _, _, _, _, e, h, _⟩ := HA.out.form
    simp only [Value.agg.injEq, Array.mk.injEq, List.cons.injEq, Value.slice.injEq, true_and, and_true] at e
    obtain ⟨⟨rfl, rfl⟩, ⟨rfl, rfl⟩, ⟨rfl, rfl⟩, _⟩ := e
    exact h)
  have RV := Lib.hid (rvalues_any i.g _ w4 IG.out CA.out)
  unfold RValuesPost at RV
  clear HA
  go_wp2_with (first | refine wpList_load_mid rfl 29 (.tmp 21) rfl Q 0 rfl _ _ (range_box b1 [.slice A1 i.g.ins.length c1, .slice A2 i.g.nodes.length c2, .slice A3 i.g.outs.length c3] (fun j v hv => by
    match j with
    | 0 => simpa using hv
    | 1 => simpa using hv
    | 2 => simpa using hv
    | j + 3 => simp at hv)) Try.underlying29 rfl (by kernel_rfl) ?_)
  refine RV.out.mono ?_
  rintro e w5 ⟨vv, q, rfl, hq, hv, g⟩
  replace b1 := box_past g b1 (by omega)
  replace f1 := free_past g f1 (by omega)
  replace p1 := p1.trans g
  replace s1 := size_past g s1
  by_cases q0 : q = 0
  · subst q0
    have h0 := hq.1 rfl
    have iv := hv h0
    have H0 := Lib.hid h0
    have IG5 := Lib.hid (IG.out.grow g)
    have V16 := values_len' i.g
    have V1 : 1 ≤ (valuesL i.g).length := by
      have a := (makes_facts h0).1
      have b := (begins_ok (values_ok h0).1).1
      omega
    obtain ⟨N, hN⟩ : ∃ N, (valuesL i.g).length = N := ⟨_, rfl⟩
    rw [hN] at V16 V1
    have HN := Lib.hid hN
    obtain ⟨VV, cv, rfl, _, _, _, _, _⟩ := iv
    rw [hN]
    clear g RV hq hv h0 IG hN
    obtain ⟨i0, hi0, hz0, hz1, hz2⟩ := info_parts infoInt
    have I1 := Lib.hid hi0
    have I2 := Lib.hid hz0
    have I3 := Lib.hid hz1
    have I4 := Lib.hid hz2
    clear hi0 hz0 hz1 hz2
    go_upto_region 6 with fail
    go_cut [10] (fun c10 w' => ∃ X Z : Nat, c10 = .pointer (some ⟨X, 0, none⟩) ∧ (∀ o : Nat, w'.cell? ⟨X, o, none⟩ = (#[.slice A1 i.g.ins.length c1, .slice A2 i.g.nodes.length c2, .slice A3 i.g.outs.length c3, .slice (some ⟨Z, 0, none⟩) N N, .slice none 0 0, .slice none 0 0, .slice none 0 0] : Array Value)[o]?) ∧ (∀ o : Nat, w'.frozen? ⟨X, o, none⟩ = false) ∧ Hid (IsNums .i64 w' (.slice (some ⟨Z, 0, none⟩) N N) (List.replicate N 0)) ∧ Past w5 w' ∧ w5.heap.size ≤ X ∧ X < w'.heap.size)
    case first =>
      obtain ⟨wd, hwd⟩ : ∃ wd, w5.drew = wd := ⟨_, rfl⟩
      obtain ⟨n0, hn0⟩ : ∃ n0, w5.heap.size = n0 := ⟨_, rfl⟩
      have pd : Past w5 wd := by rw [← hwd]; exact Past.refl _
      have sd : wd.heap.size = n0 := by rw [← hwd]; exact hn0
      have b1d := box_past pd b1 (by omega)
      obtain ⟨wz, hwz⟩ : ∃ wz, wd.alloc (.cells #[.slice none 0 0, .slice none 0 0, .slice none 0 0, .slice none 0 0, .slice none 0 0, .slice none 0 0, .slice none 0 0] 40) = wz := ⟨_, rfl⟩
      have pz : Past wd wz := by rw [← hwz]; exact (Past.refl _).alloc _
      have sz : wz.heap.size = n0 + 1 := by rw [← hwz]; simp [sd]
      have b1z := box_past pz b1d (by omega)
      have bz : (∀ o : Nat, wz.cell? ⟨n0, o, none⟩ = (#[.slice none 0 0, .slice none 0 0, .slice none 0 0, .slice none 0 0, .slice none 0 0, .slice none 0 0, .slice none 0 0] : Array Value)[o]?) := by rw [← hwz]; exact box_new sd
      have fz : (∀ o : Nat, wz.frozen? ⟨n0, o, none⟩ = false) := by rw [← hwz]; exact free_alloc (free_new (Nat.le_of_eq sd))
      obtain ⟨wa, hra, owna, growa⟩ := run_makeSlice_full (P := Try.prog) wd wd.heap.size 27 3 i0 (.int .i64 0) 1 Try.underlying27 I1.out I2.out I3.out .i64 .i64 N (by omega) (by rw [I4.out]; omega) (by unfold maxLen; omega) (Nat.le_refl _)
      obtain ⟨wb, hrb, ownb, growb⟩ := run_makeSlice_full (P := Try.prog) wz wz.heap.size 27 3 i0 (.int .i64 0) 1 Try.underlying27 I1.out I2.out I3.out .i64 .i64 N (by omega) (by rw [I4.out]; omega) (by unfold maxLen; omega) (Nat.le_refl _)
      have pa : Past wd wa := (Past.refl wd).grownBy growa (fun j hj => by cases hj)
      have pb : Past wz wb := (Past.refl _).grownBy growb (fun j hj => by cases hj)
      have b1a := box_past pa b1d (by omega)
      have b1b := box_past pb b1z (by omega)
      have bzb := box_past pb bz (by omega)
      have fzb := free_past pb fz (by omega)
      have NA := zeros_nums owna
      have NBz := zeros_nums ownb
      rw [sd] at NA hra
      rw [sz] at NBz hrb
      have za : n0 + 1 ≤ wa.heap.size := by
        obtain ⟨_, _, e, _, _, _, _, h⟩ := NA
        obtain ⟨b, off, e2, hb, _⟩ := h (by simp; omega)
        simp only [Value.slice.injEq] at e
        rw [← e.1] at e2
        simp only [Option.some.injEq, Addr.mk.injEq] at e2
        omega
      have zb : n0 + 1 ≤ wb.heap.size := by have := pb.2.2.1; omega
      obtain ⟨na, hna⟩ : ∃ na, wa.heap.size = na := ⟨_, rfl⟩
      rw [hna] at za
      obtain ⟨wy, hwy⟩ : ∃ wy, wa.alloc (.cells #[.slice none 0 0, .slice none 0 0, .slice none 0 0, .slice none 0 0, .slice none 0 0, .slice none 0 0, .slice none 0 0] 40) = wy := ⟨_, rfl⟩
      have py : Past wa wy := by rw [← hwy]; exact (Past.refl _).alloc _
      have b1y := box_past py b1a (by omega)
      have by' : (∀ o : Nat, wy.cell? ⟨na, o, none⟩ = (#[.slice none 0 0, .slice none 0 0, .slice none 0 0, .slice none 0 0, .slice none 0 0, .slice none 0 0, .slice none 0 0] : Array Value)[o]?) := by rw [← hwy]; exact box_new hna
      have fy : (∀ o : Nat, wy.frozen? ⟨na, o, none⟩ = false) := by rw [← hwy]; exact free_alloc (free_new (Nat.le_of_eq hna))
      have sy : wy.heap.size = na + 1 := by rw [← hwy]; simp [hna]
      have NY := NA.grow py
      clear owna growa ownb growb
      have le1 : n0 ≤ na := by omega
      have pny : Past w5 wy := pd.trans (pa.trans py)
      have pnb : Past w5 wb := pd.trans (pz.trans pb)
      have X1wy := box_set7 by' (y0 := .slice A1 i.g.ins.length c1) (y1 := .slice A2 i.g.nodes.length c2) (y2 := .slice A3 i.g.outs.length c3) (y3 := .slice (some ⟨n0, 0, none⟩) N N) (y4 := .slice none 0 0) (y5 := .slice none 0 0) (y6 := .slice none 0 0)
      have X2wy := free7 (B := na) (y0 := .slice A1 i.g.ins.length c1) (y1 := .slice A2 i.g.nodes.length c2) (y2 := .slice A3 i.g.outs.length c3) (y3 := .slice (some ⟨n0, 0, none⟩) N N) (y4 := .slice none 0 0) (y5 := .slice none 0 0) (y6 := .slice none 0 0) fy
      have X3wy := nums_save NY (noInt7 by') (save7 (y0 := .slice A1 i.g.ins.length c1) (y1 := .slice A2 i.g.nodes.length c2) (y2 := .slice A3 i.g.outs.length c3) (y3 := .slice (some ⟨n0, 0, none⟩) N N) (y4 := .slice none 0 0) (y5 := .slice none 0 0) (y6 := .slice none 0 0))
      have X4wy := past7 (B := na) (y0 := .slice A1 i.g.ins.length c1) (y1 := .slice A2 i.g.nodes.length c2) (y2 := .slice A3 i.g.outs.length c3) (y3 := .slice (some ⟨n0, 0, none⟩) N N) (y4 := .slice none 0 0) (y5 := .slice none 0 0) (y6 := .slice none 0 0) pny (by omega)
      have X5wy : na < (((((((wy.setCell ⟨na, 0, none⟩ (.slice A1 i.g.ins.length c1)).setCell ⟨na, 1, none⟩ (.slice A2 i.g.nodes.length c2)).setCell ⟨na, 2, none⟩ (.slice A3 i.g.outs.length c3)).setCell ⟨na, 3, none⟩ (.slice (some ⟨n0, 0, none⟩) N N)).setCell ⟨na, 4, none⟩ (.slice none 0 0)).setCell ⟨na, 5, none⟩ (.slice none 0 0)).setCell ⟨na, 6, none⟩ (.slice none 0 0)).heap.size := size7 (m := na + 1) (by omega)
      have X1wb := box_set7 bzb (y0 := .slice A1 i.g.ins.length c1) (y1 := .slice A2 i.g.nodes.length c2) (y2 := .slice A3 i.g.outs.length c3) (y3 := .slice (some ⟨n0 + 1, 0, none⟩) N N) (y4 := .slice none 0 0) (y5 := .slice none 0 0) (y6 := .slice none 0 0)
      have X2wb := free7 (B := n0) (y0 := .slice A1 i.g.ins.length c1) (y1 := .slice A2 i.g.nodes.length c2) (y2 := .slice A3 i.g.outs.length c3) (y3 := .slice (some ⟨n0 + 1, 0, none⟩) N N) (y4 := .slice none 0 0) (y5 := .slice none 0 0) (y6 := .slice none 0 0) fzb
      have X3wb := nums_save NBz (noInt7 bzb) (save7 (y0 := .slice A1 i.g.ins.length c1) (y1 := .slice A2 i.g.nodes.length c2) (y2 := .slice A3 i.g.outs.length c3) (y3 := .slice (some ⟨n0 + 1, 0, none⟩) N N) (y4 := .slice none 0 0) (y5 := .slice none 0 0) (y6 := .slice none 0 0))
      have X4wb := past7 (B := n0) (y0 := .slice A1 i.g.ins.length c1) (y1 := .slice A2 i.g.nodes.length c2) (y2 := .slice A3 i.g.outs.length c3) (y3 := .slice (some ⟨n0 + 1, 0, none⟩) N N) (y4 := .slice none 0 0) (y5 := .slice none 0 0) (y6 := .slice none 0 0) pnb (by omega)
      have X5wb : n0 < (((((((wb.setCell ⟨n0, 0, none⟩ (.slice A1 i.g.ins.length c1)).setCell ⟨n0, 1, none⟩ (.slice A2 i.g.nodes.length c2)).setCell ⟨n0, 2, none⟩ (.slice A3 i.g.outs.length c3)).setCell ⟨n0, 3, none⟩ (.slice (some ⟨n0 + 1, 0, none⟩) N N)).setCell ⟨n0, 4, none⟩ (.slice none 0 0)).setCell ⟨n0, 5, none⟩ (.slice none 0 0)).setCell ⟨n0, 6, none⟩ (.slice none 0 0)).heap.size := size7 (m := n0 + 1) (by omega)
      clear NA NY NBz pa pb pny pnb py pz pd
      go_region
      · go_wp2_with fail
        go_meet
        exact ⟨na, n0, rfl, X1wy, X2wy, Lib.hid X3wy, X4wy, by omega, X5wy⟩
      · go_wp2_with fail
        go_meet
        exact ⟨n0, n0 + 1, rfl, X1wb, X2wb, Lib.hid X3wb, X4wb, by omega, X5wb⟩
    case rest =>
      obtain ⟨X, Z, rfl, x1, fx, NZ, g, hwX, zx⟩ := hcut
      have IGc := Lib.hid (IG5.out.grow g)
      have hQX : Q + 1 ≤ X := by omega
      replace b1 := box_past g b1 (by omega)
      replace f1 := free_past g f1 (by omega)
      replace p1 := p1.trans g
      replace s1 := size_past g s1
      clear g IG5 I1 I2 I3 I4
      have ZP := Lib.hid (zeros_placed HN.out)
      have IX : Hid (IsImg wc (.agg #[.slice A1 i.g.ins.length c1, .slice A2 i.g.nodes.length c2, .slice A3 i.g.outs.length c3, .slice (some ⟨Z, 0, none⟩) N N, .slice none 0 0, .slice none 0 0, .slice none 0 0]) ⟨i.g, List.replicate N 0, [], [], []⟩) := Lib.hid ⟨_, _, _, _, _, _, _, rfl, IGc.out, NZ.out, cmds_nil _, cmds_nil _, cmds_nil _⟩
      have MX := imay_any ⟨i.g, List.replicate N 0, [], [], []⟩ _ wc IX.out CA.out GA.out
      rw [mayI_ok (i := ⟨i.g, List.replicate N 0, [], [], []⟩) H0.out ZP.out (fun j hj => by
        have e0 : Q8.putE [] = 0 := by decide
        rcases (show j = 0 ∨ j = 1 ∨ j = 2 by omega) with rfl | rfl | rfl <;> exact e0)] at MX
      have MXH := Lib.hid MX
      clear MX IX
      go_wp2_with (first | refine wpList_load_box rfl 40 (.tmp 35) rfl X _ rfl x1 Try.underlying40 rfl (by kernel_rfl) ?_)
      refine MXH.out.mono ?_
      rintro e w7 ⟨rfl, g⟩
      replace b1 := box_past g b1 (by omega)
      replace f1 := free_past g f1 (by omega)
      replace p1 := p1.trans g
      replace s1 := size_past g s1
      replace x1 := box_past g x1 (by omega)
      replace fx := free_past g fx (by omega)
      have zx7 : X < w7.heap.size := by have := g.2.2.1; omega
      have IG7 := Lib.hid (IGc.out.grow g)
      have NZ7 := Lib.hid (NZ.out.grow g)
      clear g IGc NZ MXH zx
      go_upto_if 40 with fail
      go_cut [1] (fun c1 w' => c1 = .slice AL LL cL ∧ w7 = w')
      case first =>
        by_cases h : 300 < l0.length
        · have e : LL = 300 := by have := HLL.out; omega
          have hcap : 300 ≤ cL := by have := CPL.out.1; omega
          obtain ⟨b, off, hA⟩ := CPL.out.2.2 (by omega)
          subst hA
          go_wp2_with fail
          go_meet
          exact ⟨by rw [e], rfl⟩
        · have e : LL = l0.length := by have := HLL.out; omega
          go_wp2_with fail
          go_meet
          exact ⟨by rw [e], rfl⟩
      case rest =>
        obtain ⟨rfl, rfl⟩ := hcut
        clear CPL HLL ml
        go_upto_region 12 with fail
        have nX := Lib.hid (noInt7 x1)
        go_cut [] (fun w' => ∃ (A5 : Option Addr) (c5 : Nat) (A6 : Option Addr) (c6 : Nat) (A7 : Option Addr) (c7 : Nat) (S0 S1 S2 : List (List Int)), (∀ o : Nat, w'.cell? ⟨X, o, none⟩ = (#[.slice A1 i.g.ins.length c1, .slice A2 i.g.nodes.length c2, .slice A3 i.g.outs.length c3, .slice (some ⟨Z, 0, none⟩) N N, .slice A5 S0.length c5, .slice A6 S1.length c6, .slice A7 S2.length c7] : Array Value)[o]?) ∧ (∀ o : Nat, w'.frozen? ⟨X, o, none⟩ = false) ∧ Hid (IsImg w' (.agg #[.slice A1 i.g.ins.length c1, .slice A2 i.g.nodes.length c2, .slice A3 i.g.outs.length c3, .slice (some ⟨Z, 0, none⟩) N N, .slice A5 S0.length c5, .slice A6 S1.length c6, .slice A7 S2.length c7]) ⟨i.g, List.replicate N 0, S0, S1, S2⟩) ∧ Hid (mayI ⟨i.g, List.replicate N 0, S0, S1, S2⟩ = Q8.putE L) ∧ Past W w' ∧ X < w'.heap.size)
        case first =>
          obtain ⟨k, hk⟩ : ∃ k : Int, z % 3 = k := ⟨_, rfl⟩
          have k3 : k = 0 ∨ k = 1 ∨ k = 2 := by omega
          have HLw := fun w (p : Past W w) => HL.out.grow p
          rcases k3 with rfl | rfl | rfl
          · have pS := p1.setCell (p := ⟨X, 4, none⟩) (by simp only; omega) (.slice AL LL cL)
            have sS := (Save.refl X w7).set 4 (.slice AL LL cL)
            have bS := box_at x1 4 (by simp) (.slice AL LL cL)
            have iG := graph_save IG7.out nX.out sS
            have iN := nums_save NZ7.out nX.out sS
            have iL := HLw _ pS
            have mm := may_one i.g (List.replicate N 0) L H0.out ZP.out 0 (by omega)
            simp only [show ¬ ((0 : Nat) = 1) by decide, show ¬ ((0 : Nat) = 2) by decide, if_false, if_true] at mm
            go_wp2_with fail
            go_meet
            refine ⟨AL, cL, none, 0, none, 0, L, [], [], ?_⟩
            rw [LLE.out]
            exact ⟨bS, free_set fx, Lib.hid ⟨_, _, _, _, _, _, _, rfl, iG, iN, iL, cmds_nil _, cmds_nil _⟩, Lib.hid mm, pS, by simpa [World.setCell] using zx7⟩
          · have pS := p1.setCell (p := ⟨X, 5, none⟩) (by simp only; omega) (.slice AL LL cL)
            have sS := (Save.refl X w7).set 5 (.slice AL LL cL)
            have bS := box_at x1 5 (by simp) (.slice AL LL cL)
            have iG := graph_save IG7.out nX.out sS
            have iN := nums_save NZ7.out nX.out sS
            have iL := HLw _ pS
            have mm := may_one i.g (List.replicate N 0) L H0.out ZP.out 1 (by omega)
            simp only [show ¬ ((1 : Nat) = 0) by decide, show ¬ ((1 : Nat) = 2) by decide, if_false, if_true] at mm
            go_wp2_with fail
            go_meet
            refine ⟨none, 0, AL, cL, none, 0, [], L, [], ?_⟩
            rw [LLE.out]
            exact ⟨bS, free_set fx, Lib.hid ⟨_, _, _, _, _, _, _, rfl, iG, iN, cmds_nil _, iL, cmds_nil _⟩, Lib.hid mm, pS, by simpa [World.setCell] using zx7⟩
          · have pS := p1.setCell (p := ⟨X, 6, none⟩) (by simp only; omega) (.slice AL LL cL)
            have sS := (Save.refl X w7).set 6 (.slice AL LL cL)
            have bS := box_at x1 6 (by simp) (.slice AL LL cL)
            have iG := graph_save IG7.out nX.out sS
            have iN := nums_save NZ7.out nX.out sS
            have iL := HLw _ pS
            have mm := may_one i.g (List.replicate N 0) L H0.out ZP.out 2 (by omega)
            simp only [show ¬ ((2 : Nat) = 0) by decide, show ¬ ((2 : Nat) = 1) by decide, if_false, if_true] at mm
            go_wp2_with fail
            go_meet
            refine ⟨none, 0, none, 0, AL, cL, [], [], L, ?_⟩
            rw [LLE.out]
            exact ⟨bS, free_set fx, Lib.hid ⟨_, _, _, _, _, _, _, rfl, iG, iN, cmds_nil _, cmds_nil _, iL⟩, Lib.hid mm, pS, by simpa [World.setCell] using zx7⟩
        case rest =>
          clear IG7 NZ7 nX fx zx7 x1 b1 f1 p1 s1
          obtain ⟨A5, c5, A6, c6, A7, c7, S0, S1, S2, x1, fx, IX, MX, p1, zx⟩ := hcut
          have pWc := Lib.hid p1
          have RP := Lib.hid (Q8.rPut_any _ L wc (HL.out.grow p1))
          unfold Q8.RPutPost2 at RP
          obtain ⟨F, hF⟩ : ∃ F, Q8.putE L = F := ⟨_, rfl⟩
          rw [hF] at RP MX
          have MAY := Lib.hid (fun w (p : Past wc w) => imay_any ⟨i.g, List.replicate N 0, S0, S1, S2⟩ _ w (IX.out.grow p) CA.out GA.out)
          rw [MX.out] at MAY
          have HF := Lib.hid hF
          clear hF MX
          go_wp2_with fail
          refine RP.out.mono ?_
          rintro e w8 ⟨rv, rfl, rn, g⟩
          have g8 := Lib.hid g
          replace x1 := box_past g x1 (by omega)
          replace p1 := p1.trans g
          have zx8 : X < w8.heap.size := by have := g.2.2.1; omega
          obtain ⟨Ar, cr, rfl, _, _, _, _, _⟩ := rn
          obtain ⟨LR, hLR⟩ : ∃ n, (Q8.putL L).length = n := ⟨_, rfl⟩
          rw [hLR]
          clear g RP hLR zx fx
          obtain ⟨Y, hY⟩ : ∃ Y, w8.heap.size = Y := ⟨_, rfl⟩
          go_upto_region 15 with fail
          refine opq (fun w' => (∀ o : Nat, w'.cell? ⟨X, o, none⟩ = (#[.slice A1 i.g.ins.length c1, .slice A2 i.g.nodes.length c2, .slice A3 i.g.outs.length c3, .slice (some ⟨Z, 0, none⟩) N N, .slice A5 S0.length c5, .slice A6 S1.length c6, .slice A7 S2.length c7] : Array Value)[o]?) ∧ (∀ o : Nat, w'.cell? ⟨Y, o, none⟩ = (#[.slice A1 i.g.ins.length c1, .slice A2 i.g.nodes.length c2, .slice A3 i.g.outs.length c3, .slice (some ⟨Z, 0, none⟩) N N, .slice A5 S0.length c5, .slice A6 S1.length c6, .slice A7 S2.length c7] : Array Value)[o]?) ∧ (∀ o : Nat, w'.frozen? ⟨Y, o, none⟩ = false) ∧ Past w8 w' ∧ w'.heap.size = Y + 1) (by
            subst hY
            exact ⟨by (exact kKeep), by (exact kKeep), by (exact kKeep), by (exact kKeep), by simp⟩) ?_
          rintro w9 ⟨x9, y9, f9, g, zY⟩
          try rw [hY]
          have hXY : X < Y := by omega
          have hYwc : Hid (wc.heap.size ≤ Y) := Lib.hid (by have := g8.out.2.2.1; omega)
          have g89 := Lib.hid (g8.out.trans g)
          have p9 := p1.trans g
          clear x1 g zx8 g8 p1
          clear hY
          go_upto_region 16 with fail
          refine opq (fun w' => (∀ o : Nat, w'.cell? ⟨X, o, none⟩ = (#[.slice A1 i.g.ins.length c1, .slice A2 i.g.nodes.length c2, .slice A3 i.g.outs.length c3, .slice (some ⟨Z, 0, none⟩) N N, .slice A5 S0.length c5, .slice A6 S1.length c6, .slice A7 S2.length c7] : Array Value)[o]?) ∧ (∀ o : Nat, w'.cell? ⟨Y, o, none⟩ = (#[.slice A1 i.g.ins.length c1, .slice A2 i.g.nodes.length c2, .slice A3 i.g.outs.length c3, .slice (some ⟨Z, 0, none⟩) N N, .slice A5 S0.length c5, .slice A6 S1.length c6, .slice A7 S2.length c7] : Array Value)[o]?) ∧ (∀ o : Nat, w'.frozen? ⟨Y, o, none⟩ = false) ∧ Past w9 w' ∧ Y + 2 ≤ w'.heap.size ∧ Hid (Q8.OwnC w' (Y + 1) (.slice (some ⟨Y + 1, 0, none⟩) 0 0) [])) (by
            refine ⟨by (exact kKeep), by (exact kKeep), by (exact kKeep), by (exact kKeep), by simp; omega, Lib.hid ⟨?_, by simp⟩⟩
            have this : (w9.alloc (.cells #[] 51)).ownsRow (Y + 1) 51 14 (.slice (some ⟨w9.heap.size, 0, none⟩) 0 0) 0 [] := World.ownsRow_lit w9 #[] 0 (by omega) (by decide) rfl
            rw [zY] at this
            exact this) ?_
          rintro w10 ⟨x10, y10, f10, g, z10, OC⟩
          try rw [zY]
          have g9 := Lib.hid (g89.out.trans g)
          have p10 := Lib.hid (p9.trans g)
          clear x9 y9 f9 g zY g89 p9
          have WH := Lib.hid halt_wf
          go_wp2_with fail
          go_loopw [15, 16] (fun v j wr => ∃ k : Nat, k ≤ 4097 ∧ j = .int .i64 k ∧ Hid (Q8.OwnC wr (Y + 1) v (List.replicate k haltC)) ∧ (∀ o : Nat, wr.cell? ⟨X, o, none⟩ = (#[.slice A1 i.g.ins.length c1, .slice A2 i.g.nodes.length c2, .slice A3 i.g.outs.length c3, .slice (some ⟨Z, 0, none⟩) N N, .slice A5 S0.length c5, .slice A6 S1.length c6, .slice A7 S2.length c7] : Array Value)[o]?) ∧ (∀ o : Nat, wr.cell? ⟨Y, o, none⟩ = (#[.slice A1 i.g.ins.length c1, .slice A2 i.g.nodes.length c2, .slice A3 i.g.outs.length c3, .slice (some ⟨Z, 0, none⟩) N N, .slice A5 S0.length c5, .slice A6 S1.length c6, .slice A7 S2.length c7] : Array Value)[o]?) ∧ (∀ o : Nat, wr.frozen? ⟨Y, o, none⟩ = false) ∧ Hid (Past w10 wr ∨ True) ∧ Hid (wr.os = w10.os ∧ wr.output = w10.output ∧ w10.heap.size ≤ wr.heap.size ∧ ∀ j, j < Y + 1 → wr.heap[j]? = w10.heap[j]?) ∧ Y + 2 ≤ wr.heap.size) (fun _ j _ => 4097 - (intOf j).toNat)
          case atStart => exact ⟨0, by omega, rfl, OC, x10, y10, f10, Lib.hid (.inr True.intro), Lib.hid ⟨rfl, rfl, Nat.le_refl _, fun _ _ => rfl⟩, z10⟩
          case round =>
            clear OC x10 y10 f10
            obtain ⟨k, hk, rfl, own, xr, yr, fr, _, kp, zr⟩ := hrel
            by_cases h : k < 4097
            · have hlen : (List.replicate k haltC).length = k := by simp
              have HLT := Lib.hid (fun j (hj : u15.ownBlock = some j) => own.out.lt hj)
              go_upto_region 19 with fail
              go_wp2_with (first | refine Q8.wpList_lit_cmd rfl (.tmp 62) rfl haltC rfl rfl ?_ | refine Q8.wpList_append_cmd rfl (.tmp 61) (.tmp 63) rfl (Y + 1) _ (List.replicate k haltC) rfl (own.out.alloc _) ⟨wr.heap.size, 0, none⟩ haltC rfl WH.out (fun j u hu => Q8.cells_cmd wr haltC j u hu) (by rw [hlen]; omega) (by rw [World.size_alloc]; omega) ?_)
              intro v5 w5' own5 gr5
              have nX : some X ≠ u15.ownBlock := fun e => by have := HLT.out X e.symm; omega
              have nY : some Y ≠ u15.ownBlock := fun e => by have := HLT.out Y e.symm; omega
              have x5 := box_low' gr5 (by omega) nX xr
              have y5 := box_low' gr5 (by omega) nY yr
              have f5 := free_low' gr5 (by omega) nY fr
              have z5 : Y + 2 ≤ w5'.heap.size := by have := gr5.size; simp only [World.size_alloc] at this; omega
              have k5 : Hid (w5'.os = w10.os ∧ w5'.output = w10.output ∧ w10.heap.size ≤ w5'.heap.size ∧ ∀ j, j < Y + 1 → w5'.heap[j]? = w10.heap[j]?) := Lib.hid ⟨gr5.os.trans kp.out.1, gr5.output.trans kp.out.2.1, by have := gr5.size; have := kp.out.2.2.1; simp only [World.size_alloc] at *; omega, fun j hj => (grown_low' gr5 (by omega) (fun e => by have := HLT.out j e.symm; omega)).trans (kp.out.2.2.2 j hj)⟩
              have own6 : Hid (Q8.OwnC w5' (Y + 1) v5 (List.replicate (k + 1) haltC)) := Lib.hid (by rw [List.replicate_succ']; exact own5)
              clear own5 gr5 nX nY HLT kp own xr yr fr zr hlen
              go_wp2_with fail
              go_roundw
              case rel => exact ⟨k + 1, by omega, by go_num, own6, x5, y5, f5, Lib.hid (.inr True.intro), k5, z5⟩
              case measure => simp [intOf]; omega
            · obtain rfl : k = 4097 := by omega
              have hlen : (List.replicate 4097 haltC).length = 4097 := List.length_replicate
              have own' := own.out.1
              rw [hlen] at own'
              obtain ⟨Ah, ch, rfl, _, _⟩ := own_slice' own'
              have hwc : wc.heap.size ≤ Y := by have := g9.out.2.2.1; have := hYwc.out; omega
              have pcr : Past wc wr := ⟨kp.out.1.trans g9.out.1, kp.out.2.1.trans g9.out.2.1, Nat.le_trans g9.out.2.2.1 kp.out.2.2.1, fun j hj => (kp.out.2.2.2 j (by omega)).trans (g9.out.2.2.2 j hj)⟩
              have pWr : Past W wr := pWc.out.trans pcr
              have pc := Lib.hid (pcr.setCell (p := ⟨Y, 4, none⟩) (by simp only; omega) (.slice Ah 4097 ch))
              have pw := Lib.hid (pWr.setCell (p := ⟨Y, 4, none⟩) (by simp only; omega) (.slice Ah 4097 ch))
              have x12 := box_set (p := ⟨Y, 4, none⟩) (x := .slice Ah 4097 ch) xr (by simp only; omega)
              have y12 := box_at yr 4 (by simp) (.slice Ah 4097 ch)
              have own12 : Q8.OwnC (wr.setCell ⟨Y, 4, none⟩ (.slice Ah 4097 ch)) (Y + 1) (.slice Ah 4097 ch) (List.replicate 4097 haltC) := ⟨own_set own.out.1 (by omega), own.out.2⟩
              have ic := own12.cmds
              have IY : Hid (IsImg (wr.setCell ⟨Y, 4, none⟩ (.slice Ah 4097 ch)) (.agg #[.slice A1 i.g.ins.length c1, .slice A2 i.g.nodes.length c2, .slice A3 i.g.outs.length c3, .slice (some ⟨Z, 0, none⟩) N N, .slice Ah 4097 ch, .slice A6 S1.length c6, .slice A7 S2.length c7]) ⟨i.g, List.replicate N 0, List.replicate 4097 haltC, S1, S2⟩) := Lib.hid (by
                obtain ⟨_, _, _, _, _, _, _, _, _, _, _, _, _, _, e, q1, q2, q3, q4, q5⟩ := (IX.out.grow pc.out).form
                simp only [Value.agg.injEq, Array.mk.injEq, List.cons.injEq, Value.slice.injEq, true_and, and_true] at e
                obtain ⟨⟨rfl, rfl⟩, ⟨rfl, rfl⟩, ⟨rfl, rfl⟩, ⟨rfl, e4, rfl⟩, ⟨rfl, rfl⟩, ⟨rfl, rfl⟩, rfl, rfl⟩ := e
                rw [← e4] at q2
                exact ⟨_, _, _, _, _, _, _, rfl, q1, q2, ic, q4, q5⟩)
              have sz12 : Y + 2 ≤ (wr.setCell ⟨Y, 4, none⟩ (.slice Ah 4097 ch)).heap.size := size_set zr
              clear own own' own12 ic kp zr pcr pWr hlen
              go_upto_region 20 with fail
              obtain ⟨w0c, h0c⟩ : ∃ w, w = wc := ⟨_, rfl⟩
              subst h0c
              go_cut [] (fun w' => (∀ o : Nat, w'.cell? ⟨X, o, none⟩ = (#[.slice A1 i.g.ins.length c1, .slice A2 i.g.nodes.length c2, .slice A3 i.g.outs.length c3, .slice (some ⟨Z, 0, none⟩) N N, .slice A5 S0.length c5, .slice A6 S1.length c6, .slice A7 S2.length c7] : Array Value)[o]?) ∧ (∀ o : Nat, w'.cell? ⟨Y, o, none⟩ = (#[.slice A1 i.g.ins.length c1, .slice A2 i.g.nodes.length c2, .slice A3 i.g.outs.length c3, .slice (some ⟨Z, 0, none⟩) N N, .slice Ah 4097 ch, .slice A6 S1.length c6, .slice A7 S2.length c7] : Array Value)[o]?) ∧ Hid (IsImg w' (.agg #[.slice A1 i.g.ins.length c1, .slice A2 i.g.nodes.length c2, .slice A3 i.g.outs.length c3, .slice (some ⟨Z, 0, none⟩) N N, .slice Ah 4097 ch, .slice A6 S1.length c6, .slice A7 S2.length c7]) ⟨i.g, List.replicate N 0, List.replicate 4097 haltC, S1, S2⟩) ∧ Hid (Past w0c w') ∧ Hid (Past W w') ∧ Y + 2 ≤ w'.heap.size)
              case first =>
                go_wp2_with fail
                go_meet
                exact ⟨x12, y12, IY, pc, pw, sz12⟩
              case rest =>
              clear x12 y12 IY pc pw fr xr yr sz12
              obtain ⟨x12, y12, IY, pc, pw, sz12⟩ := hcut
              obtain ⟨w12, hw12⟩ : ∃ w, w = wc := ⟨_, rfl⟩
              subst hw12
              have MB := Lib.hid (fun w (p : Past w12 w) => imay_any ⟨i.g, List.replicate N 0, List.replicate 4097 haltC, S1, S2⟩ _ w (IY.out.grow p) CA.out GA.out)
              rw [many_halts ⟨i.g, List.replicate N 0, List.replicate 4097 haltC, S1, S2⟩ H0.out ZP.out (by simp)] at MB
              have FF : (F == F) = true := by simp
              clear IY
              go_wp2_with fail
              refine (MAY.out _ pc.out).mono ?_
              rintro e w13 ⟨rfl, g⟩
              have y13 := box_past g y12 (by omega)
              have g13 := Lib.hid g
              clear x12 y12 MAY g
              go_wp2_with fail
              refine (MB.out _ g13.out).mono ?_
              rintro e w14 ⟨rfl, g⟩
              have p14 := pw.out.trans (g13.out.trans g)
              clear MB g y13
              go_wp2_with fail
              go_ret
              exact ⟨rfl, p14⟩
  · have ne : (q != 0) = true := by simpa using q0
    clear RV hq hv q0
    go_wp2_with fail
    go_ret
    exact ⟨rfl, p1⟩
end Go.Proofs.Ytejllmjkeefloaa
