/- ModelTakes: the walk. An argument of bytes. -/
import Derived.Deep.DeepCutAuto
import Derived.Test.YtejllmjkeefloaaJE8
import Derived.Test.YtejllmjkeefloaaJI9
import Derived.Test.YtejllmjkeefloaaJT9
namespace Go.Proofs.Ytejllmjkeefloaa
open Go.ChangeShapes Go.WideShapes Go.ChangeAt Go.RowKit
set_option maxRecDepth 20000
set_option linter.unusedVariables false
set_option linter.unusedSimpArgs false

/-- What Take tells in any case. -/
noncomputable def gT (bs : List Int) : GraphD := open Classical in if TookP bs then (graphR ⟨bs, false⟩).1 else ⟨[], [], []⟩
noncomputable def nT (bs : List Int) : Int := open Classical in if TookP bs then (bs.length : Int) - ((graphR ⟨bs, false⟩).2.rest.length : Int) else 0
noncomputable def qT (bs : List Int) : Int := open Classical in if TookP bs then 0 else 2
noncomputable def gW (bs : List Int) : GraphD := open Classical in if WholeP bs then (graphR ⟨bs, false⟩).1 else ⟨[], [], []⟩
noncomputable def qW (bs : List Int) : Int := open Classical in if WholeP bs then 0 else 2
theorem none_graph (w : World) : IsGraph w (.agg #[.slice none 0 0, .slice none 0 0, .slice none 0 0]) ⟨[], [], []⟩ :=
  ⟨_, _, _, rfl, vals_nil w, ⟨none, 0, rfl, Nat.le_refl _, Nat.zero_le _, fun _ => rfl, by simp, by simp⟩, ⟨none, 0, rfl, Nat.le_refl _, Nat.zero_le _, fun _ => rfl, by simp, by simp⟩⟩
theorem took_all {bs : List Int} {W w' : World} {e : Ending} (h : TakePost bs W e w') : ∃ gv, e = .returned (.tuple #[gv, .int .i64 (nT bs), .int .i64 (qT bs)]) ∧ IsGraph w' gv (gT bs) ∧ Past W w' := by
  rcases h with ⟨hT, gv, rfl, ig, p⟩ | ⟨hT, rfl, p⟩
  · exact ⟨gv, by unfold nT qT; rw [if_pos hT, if_pos hT], by unfold gT; rw [if_pos hT]; exact ig, p⟩
  · exact ⟨_, by unfold nT qT; rw [if_neg hT, if_neg hT], by unfold gT; rw [if_neg hT]; exact none_graph _, p⟩
theorem whole_all {bs : List Int} {W w' : World} {e : Ending} (h : WholePost bs W e w') : ∃ gv, e = .returned (.tuple #[gv, .int .i64 (qW bs)]) ∧ IsGraph w' gv (gW bs) ∧ Past W w' := by
  rcases h with ⟨hT, gv, rfl, ig, p⟩ | ⟨hT, rfl, p⟩
  · exact ⟨gv, by unfold qW; rw [if_pos hT], by unfold gW; rw [if_pos hT]; exact ig, p⟩
  · exact ⟨_, by unfold qW; rw [if_neg hT], by unfold gW; rw [if_neg hT]; exact none_graph _, p⟩
theorem qshort_any (bs : List Int) (v : Value) (W : World) (h : IsNums .u8 W v bs) : Calls Try.prog 7 #[v] W fun e w' => ∃ v', e = .returned v' ∧ IsNums .u8 W v' (bs.take 20000) ∧ w' = W := by
  have h' := h
  obtain ⟨A, cap, rfl, h2, h3, h4, _, _⟩ := h'
  by_cases c : 20000 < bs.length
  · have hc := Lib.hid (Q8.nums_cut 20000 (by omega) h)
    clear h
    go_enter Try.func7, Try.ntmps7
    go_wp2_with fail
    go_ret
    exact ⟨_, rfl, hc.out, rfl⟩
  · have e : bs.take 20000 = bs := List.take_of_length_le (by omega)
    have hc := Lib.hid h
    rw [e]
    clear h
    go_enter Try.func7, Try.ntmps7
    go_wp2_with fail
    go_ret
    exact ⟨_, rfl, hc.out, rfl⟩
set_option maxHeartbeats 8000000 in
theorem mtakes_walk (W : World) (bv : Value) (bs : List Int) (hb : IsNums .u8 W bv bs) : Calls Try.prog 3 #[bv] W fun e w' => e = .returned (.bool true) ∧ Past W w' := by
  have HBv := Lib.hid hb
  have SHW := Lib.hid (shown_any W)
  have SC := Lib.hid (fun w (p : Past W w) => qshort_any bs bv w (HBv.out.grow p))
  have BL0 : bytesP bs := by obtain ⟨A, cap, rfl, _⟩ := hb; exact (bytes_of_nums HBv.out).2.bytesP
  obtain ⟨L, hL⟩ : ∃ l, bs.take 20000 = l := ⟨_, rfl⟩
  have BL : Hid (bytesP L) := Lib.hid (fun c hc => BL0 c (by rw [← hL] at hc; exact List.mem_of_mem_take hc))
  have LL : L.length ≤ 20000 := by rw [← hL, List.length_take]; omega
  rw [hL] at SC
  have TK := Lib.hid (fun w v (h : IsNums .u8 w v L) => (take_any v L w h (by omega)).mono (fun _ _ => took_all))
  have QT := Lib.hid (fun w v (h : IsNums .u8 w v L) => (qtake_any v L w h (by omega)).mono (fun _ _ => took_all))
  have WK := Lib.hid (fun w v (h : IsNums .u8 w v L) => (whole_any v L w h (by omega)).mono (fun _ _ => whole_all))
  have QW := Lib.hid (fun w v (h : IsNums .u8 w v L) => (qwhole_any v L w h (by omega)).mono (fun _ _ => whole_all))
  generalize nT L = nt at TK QT
  generalize qT L = qt at TK QT
  generalize qW L = qw at WK QW
  generalize gT L = gT at TK QT
  generalize gW L = gW at WK QW
  clear hL hb BL0 HBv
  go_enter Try.func3, Try.ntmps3
  go_wp2_with fail
  refine SHW.out.mono ?_
  rintro e w1 ⟨rfl, p1⟩
  go_wp2_with fail
  refine (SC.out w1 p1).mono ?_
  rintro e wB ⟨v, rfl, ib, rfl⟩
  have IB := Lib.hid ib
  obtain ⟨A, cap, rfl, _, _, _, _, _⟩ := ib
  clear SHW SC
  have pz : Past wB wB := Past.refl wB
  go_wp2_with (at_builtin; refine Q8.wpList_append_b rfl (.tmp 20) (.tmp 21) rfl wB.heap.size _ [] rfl (Q8.ownR_lit wB) L A L.length cap rfl (IB.out.grow (pz.trans ((Past.refl wB).alloc _))) (by simp only [List.length_nil]; omega) (by simp) ?_)
  intro va wa oa ga
  have pa : Past wB wa := ((Past.refl wB).alloc _).grownBy ga (fun k hk => by simp [Value.ownBlock] at hk; omega)
  have NA := Lib.hid (oa.nums BL.out)
  clear oa ga
  go_wp2_with fail
  refine (TK.out _ va NA.out).mono ?_
  rintro e wb H
  obtain ⟨gv, rfl, ig, pb⟩ := H
  have pc := pa.trans pb
  clear pa pb NA
  have IGx := Lib.hid ig
  obtain ⟨iv3, nv3, ov3, rfl, hi3, hn3, ho3⟩ := ig
  obtain ⟨A3, c3, rfl, _, _, _, _, _⟩ := hi3
  obtain ⟨B3, d3, rfl, _, _, _, _, _⟩ := hn3
  obtain ⟨D3, e3, rfl, _, _, _, _, _⟩ := ho3
  obtain ⟨S3, hS3⟩ : ∃ S, wb.heap.size = S := ⟨_, rfl⟩
  go_upto_region 4 with fail
  refine opq (fun w' => Past wB w' ∧ (∀ o : Nat, w'.cell? ⟨S3, o, none⟩ = (#[.slice A3 gT.ins.length c3, .slice B3 gT.nodes.length d3, .slice D3 gT.outs.length e3] : Array Value)[o]?) ∧ Hid (IsGraph w' (.agg #[.slice A3 gT.ins.length c3, .slice B3 gT.nodes.length d3, .slice D3 gT.outs.length e3]) gT) ∧ S3 < w'.heap.size) (by
    subst hS3
    have P9 := Lib.hid ((Past.refl wb).alloc (.cells #[.slice A3 gT.ins.length c3, .slice B3 gT.nodes.length d3, .slice D3 gT.outs.length e3] 29))
    exact ⟨(pz.trans pc).alloc _, by (exact kKeep), Lib.hid (IGx.out.grow ((Past.refl wb).alloc _)), by simp⟩) ?_
  rintro wz3 ⟨py, x3y, G3y, s3y⟩
  try rw [hS3]
  clear  hS3 IGx pc pz
  have pz := py
  clear py
  have x3 := x3y
  have G3 := G3y
  have s3 := s3y
  clear x3y G3y s3y
  go_wp2_with fail
  refine (QT.out wz3 _ (IB.out.grow pz)).mono ?_
  rintro e wb H
  obtain ⟨gv, rfl, ig, pc⟩ := H
  have IGx := Lib.hid ig
  obtain ⟨iv4, nv4, ov4, rfl, hi4, hn4, ho4⟩ := ig
  obtain ⟨A4, c4, rfl, _, _, _, _, _⟩ := hi4
  obtain ⟨B4, d4, rfl, _, _, _, _, _⟩ := hn4
  obtain ⟨D4, e4, rfl, _, _, _, _, _⟩ := ho4
  obtain ⟨S4, hS4⟩ : ∃ S, wb.heap.size = S := ⟨_, rfl⟩
  have x3' := box_past pc x3 s3
  have s3' : S3 < wb.heap.size := Nat.lt_of_lt_of_le s3 pc.2.2.1
  go_upto_region 5 with fail
  refine opq (fun w' => Past wB w' ∧ (∀ o : Nat, w'.cell? ⟨S3, o, none⟩ = (#[.slice A3 gT.ins.length c3, .slice B3 gT.nodes.length d3, .slice D3 gT.outs.length e3] : Array Value)[o]?) ∧ Hid (IsGraph w' (.agg #[.slice A3 gT.ins.length c3, .slice B3 gT.nodes.length d3, .slice D3 gT.outs.length e3]) gT) ∧ S3 < w'.heap.size ∧ (∀ o : Nat, w'.cell? ⟨S4, o, none⟩ = (#[.slice A4 gT.ins.length c4, .slice B4 gT.nodes.length d4, .slice D4 gT.outs.length e4] : Array Value)[o]?) ∧ Hid (IsGraph w' (.agg #[.slice A4 gT.ins.length c4, .slice B4 gT.nodes.length d4, .slice D4 gT.outs.length e4]) gT) ∧ S4 < w'.heap.size) (by
    subst hS4
    have P9 := Lib.hid ((Past.refl wb).alloc (.cells #[.slice A4 gT.ins.length c4, .slice B4 gT.nodes.length d4, .slice D4 gT.outs.length e4] 29))
    exact ⟨(pz.trans pc).alloc _, by (exact kKeep), Lib.hid ((G3.out.grow pc).grow ((Past.refl wb).alloc _)), by simp; omega, by (exact kKeep), Lib.hid (IGx.out.grow ((Past.refl wb).alloc _)), by simp⟩) ?_
  rintro wz4 ⟨py, x3y, G3y, s3y, x4y, G4y, s4y⟩
  try rw [hS4]
  clear x3 s3 G3 x3' s3' hS4 IGx pc pz
  have pz := py
  clear py
  have x3 := x3y
  have G3 := G3y
  have s3 := s3y
  clear x3y G3y s3y
  have x4 := x4y
  have G4 := G4y
  have s4 := s4y
  clear x4y G4y s4y
  go_wp2_with (at_builtin; refine Q8.wpList_append_b rfl (.tmp 34) (.tmp 35) rfl wz4.heap.size _ [] rfl (Q8.ownR_lit wz4) L A L.length cap rfl (IB.out.grow (pz.trans ((Past.refl wz4).alloc _))) (by simp only [List.length_nil]; omega) (by simp) ?_)
  intro va wa oa ga
  have pa : Past wz4 wa := ((Past.refl wz4).alloc _).grownBy ga (fun k hk => by simp [Value.ownBlock] at hk; omega)
  have NA := Lib.hid (oa.nums BL.out)
  clear oa ga
  go_wp2_with fail
  refine (WK.out _ va NA.out).mono ?_
  rintro e wb H
  obtain ⟨gv, rfl, ig, pb⟩ := H
  have pc := pa.trans pb
  clear pa pb NA
  have IGx := Lib.hid ig
  obtain ⟨iv5, nv5, ov5, rfl, hi5, hn5, ho5⟩ := ig
  obtain ⟨A5, c5, rfl, _, _, _, _, _⟩ := hi5
  obtain ⟨B5, d5, rfl, _, _, _, _, _⟩ := hn5
  obtain ⟨D5, e5, rfl, _, _, _, _, _⟩ := ho5
  obtain ⟨S5, hS5⟩ : ∃ S, wb.heap.size = S := ⟨_, rfl⟩
  have x3' := box_past pc x3 s3
  have s3' : S3 < wb.heap.size := Nat.lt_of_lt_of_le s3 pc.2.2.1
  have x4' := box_past pc x4 s4
  have s4' : S4 < wb.heap.size := Nat.lt_of_lt_of_le s4 pc.2.2.1
  go_upto_region 6 with fail
  refine opq (fun w' => Past wB w' ∧ (∀ o : Nat, w'.cell? ⟨S3, o, none⟩ = (#[.slice A3 gT.ins.length c3, .slice B3 gT.nodes.length d3, .slice D3 gT.outs.length e3] : Array Value)[o]?) ∧ Hid (IsGraph w' (.agg #[.slice A3 gT.ins.length c3, .slice B3 gT.nodes.length d3, .slice D3 gT.outs.length e3]) gT) ∧ S3 < w'.heap.size ∧ (∀ o : Nat, w'.cell? ⟨S4, o, none⟩ = (#[.slice A4 gT.ins.length c4, .slice B4 gT.nodes.length d4, .slice D4 gT.outs.length e4] : Array Value)[o]?) ∧ Hid (IsGraph w' (.agg #[.slice A4 gT.ins.length c4, .slice B4 gT.nodes.length d4, .slice D4 gT.outs.length e4]) gT) ∧ S4 < w'.heap.size ∧ (∀ o : Nat, w'.cell? ⟨S5, o, none⟩ = (#[.slice A5 gW.ins.length c5, .slice B5 gW.nodes.length d5, .slice D5 gW.outs.length e5] : Array Value)[o]?) ∧ Hid (IsGraph w' (.agg #[.slice A5 gW.ins.length c5, .slice B5 gW.nodes.length d5, .slice D5 gW.outs.length e5]) gW) ∧ S5 < w'.heap.size) (by
    subst hS5
    have P9 := Lib.hid ((Past.refl wb).alloc (.cells #[.slice A5 gW.ins.length c5, .slice B5 gW.nodes.length d5, .slice D5 gW.outs.length e5] 29))
    exact ⟨(pz.trans pc).alloc _, by (exact kKeep), Lib.hid ((G3.out.grow pc).grow ((Past.refl wb).alloc _)), by simp; omega, by (exact kKeep), Lib.hid ((G4.out.grow pc).grow ((Past.refl wb).alloc _)), by simp; omega, by (exact kKeep), Lib.hid (IGx.out.grow ((Past.refl wb).alloc _)), by simp⟩) ?_
  rintro wz5 ⟨py, x3y, G3y, s3y, x4y, G4y, s4y, x5y, G5y, s5y⟩
  try rw [hS5]
  clear x3 s3 G3 x3' s3' x4 s4 G4 x4' s4' hS5 IGx pc pz
  have pz := py
  clear py
  have x3 := x3y
  have G3 := G3y
  have s3 := s3y
  clear x3y G3y s3y
  have x4 := x4y
  have G4 := G4y
  have s4 := s4y
  clear x4y G4y s4y
  have x5 := x5y
  have G5 := G5y
  have s5 := s5y
  clear x5y G5y s5y
  go_wp2_with fail
  refine (QW.out wz5 _ (IB.out.grow pz)).mono ?_
  rintro e wb H
  obtain ⟨gv, rfl, ig, pc⟩ := H
  have IGx := Lib.hid ig
  obtain ⟨iv6, nv6, ov6, rfl, hi6, hn6, ho6⟩ := ig
  obtain ⟨A6, c6, rfl, _, _, _, _, _⟩ := hi6
  obtain ⟨B6, d6, rfl, _, _, _, _, _⟩ := hn6
  obtain ⟨D6, e6, rfl, _, _, _, _, _⟩ := ho6
  obtain ⟨S6, hS6⟩ : ∃ S, wb.heap.size = S := ⟨_, rfl⟩
  have x3' := box_past pc x3 s3
  have s3' : S3 < wb.heap.size := Nat.lt_of_lt_of_le s3 pc.2.2.1
  have x4' := box_past pc x4 s4
  have s4' : S4 < wb.heap.size := Nat.lt_of_lt_of_le s4 pc.2.2.1
  have x5' := box_past pc x5 s5
  have s5' : S5 < wb.heap.size := Nat.lt_of_lt_of_le s5 pc.2.2.1
  go_upto_region 7 with fail
  refine opq (fun w' => Past wB w' ∧ (∀ o : Nat, w'.cell? ⟨S3, o, none⟩ = (#[.slice A3 gT.ins.length c3, .slice B3 gT.nodes.length d3, .slice D3 gT.outs.length e3] : Array Value)[o]?) ∧ Hid (IsGraph w' (.agg #[.slice A3 gT.ins.length c3, .slice B3 gT.nodes.length d3, .slice D3 gT.outs.length e3]) gT) ∧ S3 < w'.heap.size ∧ (∀ o : Nat, w'.cell? ⟨S4, o, none⟩ = (#[.slice A4 gT.ins.length c4, .slice B4 gT.nodes.length d4, .slice D4 gT.outs.length e4] : Array Value)[o]?) ∧ Hid (IsGraph w' (.agg #[.slice A4 gT.ins.length c4, .slice B4 gT.nodes.length d4, .slice D4 gT.outs.length e4]) gT) ∧ S4 < w'.heap.size ∧ (∀ o : Nat, w'.cell? ⟨S5, o, none⟩ = (#[.slice A5 gW.ins.length c5, .slice B5 gW.nodes.length d5, .slice D5 gW.outs.length e5] : Array Value)[o]?) ∧ Hid (IsGraph w' (.agg #[.slice A5 gW.ins.length c5, .slice B5 gW.nodes.length d5, .slice D5 gW.outs.length e5]) gW) ∧ S5 < w'.heap.size ∧ (∀ o : Nat, w'.cell? ⟨S6, o, none⟩ = (#[.slice A6 gW.ins.length c6, .slice B6 gW.nodes.length d6, .slice D6 gW.outs.length e6] : Array Value)[o]?) ∧ Hid (IsGraph w' (.agg #[.slice A6 gW.ins.length c6, .slice B6 gW.nodes.length d6, .slice D6 gW.outs.length e6]) gW) ∧ S6 < w'.heap.size) (by
    subst hS6
    have P9 := Lib.hid ((Past.refl wb).alloc (.cells #[.slice A6 gW.ins.length c6, .slice B6 gW.nodes.length d6, .slice D6 gW.outs.length e6] 29))
    exact ⟨(pz.trans pc).alloc _, by (exact kKeep), Lib.hid ((G3.out.grow pc).grow ((Past.refl wb).alloc _)), by simp; omega, by (exact kKeep), Lib.hid ((G4.out.grow pc).grow ((Past.refl wb).alloc _)), by simp; omega, by (exact kKeep), Lib.hid ((G5.out.grow pc).grow ((Past.refl wb).alloc _)), by simp; omega, by (exact kKeep), Lib.hid (IGx.out.grow ((Past.refl wb).alloc _)), by simp⟩) ?_
  rintro wz6 ⟨py, x3y, G3y, s3y, x4y, G4y, s4y, x5y, G5y, s5y, x6y, G6y, s6y⟩
  try rw [hS6]
  clear x3 s3 G3 x3' s3' x4 s4 G4 x4' s4' x5 s5 G5 x5' s5' hS6 IGx pc pz
  have pz := py
  clear py
  have x3 := x3y
  have G3 := G3y
  have s3 := s3y
  clear x3y G3y s3y
  have x4 := x4y
  have G4 := G4y
  have s4 := s4y
  clear x4y G4y s4y
  have x5 := x5y
  have G5 := G5y
  have s5 := s5y
  clear x5y G5y s5y
  have x6 := x6y
  have G6 := G6y
  have s6 := s6y
  clear x6y G6y s6y
  have SM1 := Lib.hid (rsame_any gT gT _ _ true wz6 G3.out G4.out ⟨fun _ => rfl, fun _ => rfl⟩)
  go_wp2_with fail
  refine SM1.out.mono ?_
  rintro e wg ⟨rfl, gr⟩
  have pg := Grown.past gr
  have y5 := box_past pg x5 s5
  have y6 := box_past pg x6 s6
  have SM2 := Lib.hid (rsame_any gW gW _ _ true wg (G5.out.grow pg) (G6.out.grow pg) ⟨fun _ => rfl, fun _ => rfl⟩)
  clear x3 x4 x5 x6 SM1
  go_wp2_with fail
  refine SM2.out.mono ?_
  rintro e wh ⟨rfl, gr2⟩
  have e1 : (nt == nt) = true := beq_self_eq_true nt
  have e2 : (qt == qt) = true := beq_self_eq_true qt
  have e3 : (qw == qw) = true := beq_self_eq_true qw
  have pw := (p1.trans pz).trans (pg.trans (Grown.past gr2))
  go_wp2_with fail
  go_ret
  exact ⟨by simp, pw⟩
end Go.Proofs.Ytejllmjkeefloaa
namespace Go.Proofs.Ytejllmjkeefloaa
open Go.ChangeShapes Go.WideShapes Go.ChangeAt Go.RowKit
set_option maxRecDepth 20000
set_option linter.unusedVariables false

theorem cellsByte : Try.prog.cellsOf 5 = 1 := by kernel_rfl
theorem open_bytes_val {H : Type} {enc : TypeId × Value → H} {W : World} {r : Reach} {b0 : Nat} {v : Value} {d : DataW H} {p : List MemPlace} (hv : Value.okWide Try.prog W r b0 22 v) (h : DataW.Trod enc Try.prog W 0 (fun _ => true) true 22 v d p) : ∃ xs, IsNums .u8 W v xs := by
  obtain ⟨a, l, c, rfl⟩ := okWide_slice Try.underlying22 hv
  obtain ⟨fuel, hf⟩ := h
  exact open_nums (k := .u8) Try.underlying22 Try.underlying5 cellsByte hf
end Go.Proofs.Ytejllmjkeefloaa
