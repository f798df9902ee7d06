/- graph: opOf hands back makers and counters. -/
import Derived.Test.YtgbedoffgahhaaaG10
namespace Go.Proofs.Ytgbedoffgahhaaa
open Go.ChangeShapes Go.WideShapes Go.ChangeAt Go.RowKit
set_option maxRecDepth 20000
set_option linter.unusedVariables false


theorem idx_lt_size {h w c : Int} (m : mayS h w c) : 1 ≤ sizeI h w c ∧ sizeI h w c ≤ 2048 := by
  have e : sizeI h w c = h * w * c := by unfold sizeI; rw [if_pos m]
  obtain ⟨h1, h2, h3, h4, h5, h6⟩ := m
  have m1 := mul_bd h1 h2 h3 h4
  have m2 := mul_bd m1.1 m1.2 h5 h6
  rw [e]
  omega

theorem opOf_is1 (n : NodeD) (W : World) (c : n.op = 1) : Calls Try.prog 52 #[.int .i64 n.op] W (OpPost n W) := by
  have D : opD n.op = ⟨1, 1, 3, 1, 2, 0, 1, 1, 8, false, false⟩ := by rw [c]; rfl
  rw [c]
  refine (opOf_1 W).mono ?_
  rintro e w' ⟨p, q, rfl, hp, hb, hq, hb', g⟩
  refine ⟨_, _, _, _, by rw [D], g, fun vi vw vb lv vs pre => ?_⟩
  obtain ⟨⟨l, _, _, hset⟩, hm, hv⟩ := pre
  rw [D] at l hset
  obtain ⟨⟨⟨k1, k2⟩, _, ⟨p1, p2⟩, _⟩, _⟩ := hset
  simp only at l k1 k2 p1 p2
  have h0 : 0 < vs.length := by omega
  have m0 := hm 0 h0
  refine ⟨.inr (maker_slid_out hp hb g hv h0 (by simp [madeS, c])), fun ms => ?_⟩
  have kk := mul_bd k1 k2 k1 k2
  have mm := mul_bd kk.1 kk.2 m0.2.2.2.2.1 m0.2.2.2.2.2
  exact counter_of (m := n.k * n.k * (vs.getD 0 default).c) hq hb' (by omega) (by omega) ms enters_deepWindow (fun w => deepWindow_any n vi vw vb _ _ _ w k1 k2 m0.2.2.2.2.1 m0.2.2.2.2.2) (by simp [wantS, c])

theorem opOf_is2 (n : NodeD) (W : World) (c : n.op = 2) : Calls Try.prog 52 #[.int .i64 n.op] W (OpPost n W) := by
  have D : opD n.op = ⟨1, 1, 3, 1, 2, 0, 1, 0, 0, false, false⟩ := by rw [c]; rfl
  rw [c]
  refine (opOf_2 W).mono ?_
  rintro e w' ⟨p, q, rfl, hp, hb, hq, hb', g⟩
  refine ⟨_, _, _, _, by rw [D], g, fun vi vw vb lv vs pre => ?_⟩
  obtain ⟨⟨l, _, _, hset⟩, hm, hv⟩ := pre
  rw [D] at l hset
  obtain ⟨⟨⟨k1, k2⟩, _, ⟨p1, p2⟩, _⟩, _⟩ := hset
  simp only at l k1 k2 p1 p2
  have h0 : 0 < vs.length := by omega
  have m0 := hm 0 h0
  refine ⟨.inr (maker_slid_same hp hb g hv h0 (by simp [madeS, c])), fun ms => ?_⟩
  have kk := mul_bd k1 k2 k1 k2
  exact counter_of (m := n.k * n.k) hq hb' (by omega) (by omega) ms enters_flatWindow (fun w => flatWindow_any n vi vw vb _ _ _ w k1 k2) (by simp [wantS, c])

theorem opOf_is3 (n : NodeD) (W : World) (c : n.op = 3) : Calls Try.prog 52 #[.int .i64 n.op] W (OpPost n W) := by
  have D : opD n.op = ⟨1, 0, 0, 0, 0, 0, 0, 1, 8, false, false⟩ := by rw [c]; rfl
  rw [c]
  refine (opOf_3 W).mono ?_
  rintro e w' ⟨q, rfl, hq, hb', g⟩
  refine ⟨_, _, _, _, by rw [D], g, fun vi vw vb lv vs pre => ?_⟩
  obtain ⟨⟨l, _, _, hset⟩, hm, hv⟩ := pre
  rw [D] at l hset
  obtain ⟨⟨⟨k1, k2⟩, _, ⟨p1, p2⟩, _⟩, _⟩ := hset
  simp only at l k1 k2 p1 p2
  have h0 : 0 < vs.length := by omega
  have m0 := hm 0 h0
  refine ⟨.inl (maker_point (by simp [madeS, c])), fun ms => ?_⟩
  have sz := idx_lt_size m0
  exact counter_of (m := sizeI (vs.getD 0 default).h (vs.getD 0 default).w (vs.getD 0 default).c) hq hb' (by omega) (by omega) ms enters_everything (fun w => everything_any n vi vw vb _ _ _ _ w (Lib.hid rfl)) (by simp [wantS, c])

theorem opOf_is4 (n : NodeD) (W : World) (c : n.op = 4) : Calls Try.prog 52 #[.int .i64 n.op] W (OpPost n W) := by
  have D : opD n.op = ⟨1, 1, 3, 1, 2, 0, 0, 0, 0, false, true⟩ := by rw [c]; rfl
  rw [c]
  refine (opOf_4 W).mono ?_
  rintro e w' ⟨p, q, rfl, hp, hb, hq, hb', g⟩
  refine ⟨_, _, _, _, by rw [D], g, fun vi vw vb lv vs pre => ?_⟩
  obtain ⟨⟨l, _, _, hset⟩, hm, hv⟩ := pre
  rw [D] at l hset
  obtain ⟨⟨⟨k1, k2⟩, _, ⟨p1, p2⟩, _⟩, _⟩ := hset
  simp only at l k1 k2 p1 p2
  have h0 : 0 < vs.length := by omega
  have m0 := hm 0 h0
  refine ⟨.inr (maker_slid_same hp hb g hv h0 (by simp [madeS, c])), fun ms => ?_⟩
  exact counter_always hq hb' (by simp [wantS, c])

theorem opOf_is5 (n : NodeD) (W : World) (c : n.op = 5) : Calls Try.prog 52 #[.int .i64 n.op] W (OpPost n W) := by
  have D : opD n.op = ⟨1, 1, 3, 1, 2, 0, 0, 0, 0, false, true⟩ := by rw [c]; rfl
  rw [c]
  refine (opOf_5 W).mono ?_
  rintro e w' ⟨p, q, rfl, hp, hb, hq, hb', g⟩
  refine ⟨_, _, _, _, by rw [D], g, fun vi vw vb lv vs pre => ?_⟩
  obtain ⟨⟨l, _, _, hset⟩, hm, hv⟩ := pre
  rw [D] at l hset
  obtain ⟨⟨⟨k1, k2⟩, _, ⟨p1, p2⟩, _⟩, _⟩ := hset
  simp only at l k1 k2 p1 p2
  have h0 : 0 < vs.length := by omega
  have m0 := hm 0 h0
  refine ⟨.inr (maker_slid_same hp hb g hv h0 (by simp [madeS, c])), fun ms => ?_⟩
  exact counter_always hq hb' (by simp [wantS, c])

theorem opOf_is6 (n : NodeD) (W : World) (c : n.op = 6) : Calls Try.prog 52 #[.int .i64 n.op] W (OpPost n W) := by
  have D : opD n.op = ⟨2, 0, 0, 0, 0, 0, 0, 0, 0, false, false⟩ := by rw [c]; rfl
  rw [c]
  refine (opOf_6 W).mono ?_
  rintro e w' ⟨q, rfl, hq, hb', g⟩
  refine ⟨_, _, _, _, by rw [D], g, fun vi vw vb lv vs pre => ?_⟩
  obtain ⟨⟨l, _, _, hset⟩, hm, hv⟩ := pre
  rw [D] at l hset
  obtain ⟨⟨⟨k1, k2⟩, _, ⟨p1, p2⟩, _⟩, _⟩ := hset
  simp only at l k1 k2 p1 p2
  have h0 : 0 < vs.length := by omega
  have m0 := hm 0 h0
  refine ⟨.inl (maker_alike g hv h0 (by simp [madeS, c])), fun ms => ?_⟩
  exact counter_always hq hb' (by simp [wantS, c])

theorem opOf_is7 (n : NodeD) (W : World) (c : n.op = 7) : Calls Try.prog 52 #[.int .i64 n.op] W (OpPost n W) := by
  have D : opD n.op = ⟨2, 0, 0, 0, 0, 0, 0, 0, 0, false, false⟩ := by rw [c]; rfl
  rw [c]
  refine (opOf_7 W).mono ?_
  rintro e w' ⟨q, rfl, hq, hb', g⟩
  refine ⟨_, _, _, _, by rw [D], g, fun vi vw vb lv vs pre => ?_⟩
  obtain ⟨⟨l, _, _, hset⟩, hm, hv⟩ := pre
  rw [D] at l hset
  obtain ⟨⟨⟨k1, k2⟩, _, ⟨p1, p2⟩, _⟩, _⟩ := hset
  simp only at l k1 k2 p1 p2
  have h0 : 0 < vs.length := by omega
  have m0 := hm 0 h0
  refine ⟨.inl (maker_alike g hv h0 (by simp [madeS, c])), fun ms => ?_⟩
  exact counter_always hq hb' (by simp [wantS, c])

theorem opOf_is8 (n : NodeD) (W : World) (c : n.op = 8) : Calls Try.prog 52 #[.int .i64 n.op] W (OpPost n W) := by
  have D : opD n.op = ⟨1, 0, 0, 0, 0, 0, 0, 0, 0, false, true⟩ := by rw [c]; rfl
  rw [c]
  refine (opOf_8 W).mono ?_
  rintro e w' ⟨q, rfl, hq, hb', g⟩
  refine ⟨_, _, _, _, by rw [D], g, fun vi vw vb lv vs pre => ?_⟩
  obtain ⟨⟨l, _, _, hset⟩, hm, hv⟩ := pre
  rw [D] at l hset
  obtain ⟨⟨⟨k1, k2⟩, _, ⟨p1, p2⟩, _⟩, _⟩ := hset
  simp only at l k1 k2 p1 p2
  have h0 : 0 < vs.length := by omega
  have m0 := hm 0 h0
  refine ⟨.inl (maker_alike g hv h0 (by simp [madeS, c])), fun ms => ?_⟩
  exact counter_always hq hb' (by simp [wantS, c])

theorem opOf_is9 (n : NodeD) (W : World) (c : n.op = 9) : Calls Try.prog 52 #[.int .i64 n.op] W (OpPost n W) := by
  have D : opD n.op = ⟨1, 0, 0, 0, 0, 1, 1, 0, 0, false, true⟩ := by rw [c]; rfl
  rw [c]
  refine (opOf_9 W).mono ?_
  rintro e w' ⟨q, rfl, hq, hb', g⟩
  refine ⟨_, _, _, _, by rw [D], g, fun vi vw vb lv vs pre => ?_⟩
  obtain ⟨⟨l, _, _, hset⟩, hm, hv⟩ := pre
  rw [D] at l hset
  obtain ⟨⟨⟨k1, k2⟩, _, ⟨p1, p2⟩, _⟩, _⟩ := hset
  simp only at l k1 k2 p1 p2
  have h0 : 0 < vs.length := by omega
  have m0 := hm 0 h0
  refine ⟨.inl (maker_framed g hv h0 m0 (by omega) (by simp [madeS, c])), fun ms => ?_⟩
  exact counter_always hq hb' (by simp [wantS, c])

theorem opOf_is10 (n : NodeD) (W : World) (c : n.op = 10) : Calls Try.prog 52 #[.int .i64 n.op] W (OpPost n W) := by
  have D : opD n.op = ⟨2, 0, 0, 0, 0, 0, 0, 0, 0, false, true⟩ := by rw [c]; rfl
  rw [c]
  refine (opOf_10 W).mono ?_
  rintro e w' ⟨q, rfl, hq, hb', g⟩
  refine ⟨_, _, _, _, by rw [D], g, fun vi vw vb lv vs pre => ?_⟩
  obtain ⟨⟨l, _, _, hset⟩, hm, hv⟩ := pre
  rw [D] at l hset
  obtain ⟨⟨⟨k1, k2⟩, _, ⟨p1, p2⟩, _⟩, _⟩ := hset
  simp only at l k1 k2 p1 p2
  have h0 : 0 < vs.length := by omega
  have m0 := hm 0 h0
  refine ⟨.inl (maker_stacked g hv (by omega) m0 (hm 1 (by omega)) (by simp [madeS, c])), fun ms => ?_⟩
  exact counter_always hq hb' (by simp [wantS, c])

theorem opOf_is11 (n : NodeD) (W : World) (c : n.op = 11) : Calls Try.prog 52 #[.int .i64 n.op] W (OpPost n W) := by
  have D : opD n.op = ⟨1, 0, 0, 0, 0, 0, 0, 0, 0, true, true⟩ := by rw [c]; rfl
  rw [c]
  refine (opOf_11 W).mono ?_
  rintro e w' ⟨q, rfl, hq, hb', g⟩
  refine ⟨_, _, _, _, by rw [D], g, fun vi vw vb lv vs pre => ?_⟩
  obtain ⟨⟨l, _, _, hset⟩, hm, hv⟩ := pre
  rw [D] at l hset
  obtain ⟨⟨⟨k1, k2⟩, _, ⟨p1, p2⟩, _⟩, _⟩ := hset
  simp only at l k1 k2 p1 p2
  have h0 : 0 < vs.length := by omega
  have m0 := hm 0 h0
  refine ⟨.inl (maker_reshaped g hv h0 (by simp [madeS, c])), fun ms => ?_⟩
  exact counter_always hq hb' (by simp [wantS, c])

theorem opOf_is12 (n : NodeD) (W : World) (c : n.op = 12) : Calls Try.prog 52 #[.int .i64 n.op] W (OpPost n W) := by
  have D : opD n.op = ⟨1, 0, 0, 0, 0, 0, 0, 0, 0, false, false⟩ := by rw [c]; rfl
  rw [c]
  refine (opOf_12 W).mono ?_
  rintro e w' ⟨q, rfl, hq, hb', g⟩
  refine ⟨_, _, _, _, by rw [D], g, fun vi vw vb lv vs pre => ?_⟩
  obtain ⟨⟨l, _, _, hset⟩, hm, hv⟩ := pre
  rw [D] at l hset
  obtain ⟨⟨⟨k1, k2⟩, _, ⟨p1, p2⟩, _⟩, _⟩ := hset
  simp only at l k1 k2 p1 p2
  have h0 : 0 < vs.length := by omega
  have m0 := hm 0 h0
  refine ⟨.inl (maker_alike g hv h0 (by simp [madeS, c])), fun ms => ?_⟩
  exact counter_always hq hb' (by simp [wantS, c])

theorem opOf_any (n : NodeD) (W : World) (h : hasOp n.op) : Calls Try.prog 52 #[.int .i64 n.op] W (OpPost n W) := by
  obtain ⟨h1, h2⟩ := h
  have : n.op = 1 ∨ n.op = 2 ∨ n.op = 3 ∨ n.op = 4 ∨ n.op = 5 ∨ n.op = 6 ∨ n.op = 7 ∨ n.op = 8 ∨ n.op = 9 ∨ n.op = 10 ∨ n.op = 11 ∨ n.op = 12 := by omega
  rcases this with c | c | c | c | c | c | c | c | c | c | c | c
  · exact opOf_is1 n W c
  · exact opOf_is2 n W c
  · exact opOf_is3 n W c
  · exact opOf_is4 n W c
  · exact opOf_is5 n W c
  · exact opOf_is6 n W c
  · exact opOf_is7 n W c
  · exact opOf_is8 n W c
  · exact opOf_is9 n W c
  · exact opOf_is10 n W c
  · exact opOf_is11 n W c
  · exact opOf_is12 n W c
end Go.Proofs.Ytgbedoffgahhaaa
