/- An argument that is an image. quiltlaw09's head: the document's example. -/
import Derived.Deep.DeepCutAuto
import Derived.Test.YtejllmjkeefloaaLA0
import Derived.Test.YtejllmjkeefloaaLA6
import Derived.Test.YtejllmjkeefloaaLI16
namespace Go.Proofs.Ytejllmjkeefloaa
open Go.ChangeShapes Go.WideShapes Go.ChangeAt Go.RowKit
set_option maxRecDepth 20000
set_option linter.unusedVariables false
set_option linter.unusedSimpArgs false

theorem seven {α : Type} {l : List α} (h : l.length = 7) : ∃ a b c d e f g, l = [a, b, c, d, e, f, g] := by
  match l, h with
  | [a, b, c, d, e, f, g], _ => exact ⟨a, b, c, d, e, f, g, rfl⟩
theorem cellsImg : Try.prog.cellsOf 40 = 7 := by kernel_rfl
theorem cellsStr3 : Try.prog.cellsOf 38 = 3 := by kernel_rfl
theorem cellsStr : Try.prog.cellsOf 37 = 1 := by kernel_rfl
section
variable {H : Type} {enc : TypeId × Value → H} {W : World}
theorem open_cmds {fuel : Nat} {v : Value} {x : DataW H × List MemPlace} (hf : DataW.trod enc Try.prog W 0 (fun _ => true) true fuel 37 [v] = some x) : ∃ l, Q8.IsCmds W v l := by
  obtain ⟨A, len, cap, ev, hl, hm, hn, hp⟩ := Q8.open_rows Try.underlying37 Q8.cellsCmd (by omega) hf
  rw [ev]
  by_cases q : 0 < len
  · obtain ⟨b, off, rfl, hb, hx⟩ := hp q
    have each : ∀ i, i < len → ∃ y : List Int, W.rangeAt b (off + i * 14) (Q8.cellC y) ∧ Q8.wfC y := by
      intro i hi
      obtain ⟨cs, n, y, l, q, hy⟩ := hx i hi
      obtain ⟨d, rfl, wd⟩ := Q8.open_cmd l hy
      refine ⟨d, fun j v hv => ?_, wd⟩
      have hj : j < 14 := by
        by_cases hj : j < 14
        · exact hj
        · rw [List.getElem?_eq_none (by rw [l]; omega)] at hv; cases hv
      rw [q j hj, hv]
    obtain ⟨xs, hxl, hxs⟩ := Q8.choose_below len each
    refine ⟨xs, some ⟨b, off, none⟩, cap, by rw [hxl], by omega, hm, (fun h => by cases h), fun y hy => ?_, fun _ => ⟨b, off, rfl, hb, fun i hi => (hxs i (by omega)).1⟩⟩
    obtain ⟨i, hi, rfl⟩ := List.getElem_of_mem hy
    have := (hxs i (by omega)).2
    simpa [List.getD, List.getElem?_eq_getElem hi] using this
  · obtain rfl : len = 0 := by omega
    exact ⟨[], A, cap, rfl, hl, hm, hn, by simp, by simp⟩
theorem str3_read {fuel : Nat} {a b c : Value} {x : DataW H × List MemPlace} (h : DataW.trod enc Try.prog W 0 (fun _ => true) true fuel 38 [a, b, c] = some x) :
    ∃ m y z u, DataW.trod enc Try.prog W 0 (fun _ => true) true m 37 [a] = some y ∧ DataW.trod enc Try.prog W 0 (fun _ => true) true m 37 [b] = some z ∧ DataW.trod enc Try.prog W 0 (fun _ => true) true m 37 [c] = some u := by
  match fuel, h with
  | 0, h => simp [DataW.trod] at h
  | m + 1, h =>
    unfold DataW.trod at h
    rw [Try.underlying38] at h
    simp [show List.range 3 = [0, 1, 2] from rfl, cellsStr] at h
    have h := h.2
    rcases e0 : DataW.trod enc Try.prog W 0 (fun _ => true) true m 37 [a] with _ | y
    · rw [e0] at h; simp at h
    · rcases e1 : DataW.trod enc Try.prog W 0 (fun _ => true) true m 37 [b] with _ | z
      · rw [e0, e1] at h; simp at h
      · rcases e2 : DataW.trod enc Try.prog W 0 (fun _ => true) true m 37 [c] with _ | u
        · rw [e0, e1, e2] at h; simp at h
        · exact ⟨m, y, z, u, e0, e1, e2⟩
theorem open_graph_trod {fuel : Nat} {a b c : Value} {x : DataW H × List MemPlace} (hf : DataW.trod enc Try.prog W 0 (fun _ => true) true fuel 29 [a, b, c] = some x) : ∃ g, IsGraph W (.agg #[a, b, c]) g := by
  obtain ⟨_, y0, h0⟩ := field Try.underlying29 hf 0 _ rfl
  obtain ⟨_, y1, h1⟩ := field Try.underlying29 hf 1 _ rfl
  simp [cells29] at h0
  simp [cells38] at h1
  obtain ⟨ins, hi⟩ := open_vals h0
  obtain ⟨nodes, hn⟩ := open_nodes h1
  obtain ⟨outs, ho⟩ := field_nums Try.underlying29 hf 2 _ rfl rfl Try.underlying27 Try.underlying3 cells22 cells3 (c := c) rfl
  exact ⟨⟨ins, nodes, outs⟩, a, b, c, rfl, hi, hn, ho⟩
theorem open_image {r : Reach} {b0 : Nat} {v : Value} {d : DataW H} {p : List MemPlace} (hv : Value.okWide Try.prog W r b0 40 v) (h : DataW.Trod enc Try.prog W 0 (fun _ => true) true 40 v d p) : ∃ i, IsImg W v i := by
  obtain ⟨cs, rfl, hsz⟩ := okWide_struct Try.underlying40 hv
  rw [cellsImg] at hsz
  obtain ⟨l⟩ := cs
  obtain ⟨iv, nv, ov, pv, u0, u1, u2, rfl⟩ := seven hsz
  obtain ⟨fuel, hf⟩ := h
  have hf' : DataW.trod enc Try.prog W 0 (fun _ => true) true fuel 40 [iv, nv, ov, pv, u0, u1, u2] = some (d, p) := hf
  obtain ⟨_, y0, h0⟩ := field Try.underlying40 hf' 0 _ rfl
  obtain ⟨_, y2, h2⟩ := field Try.underlying40 hf' 2 _ rfl
  simp [cells40] at h0
  simp [cellsStr3] at h2
  obtain ⟨g, hg⟩ := open_graph_trod h0
  obtain ⟨pl, hp⟩ := field_nums Try.underlying40 hf' 1 _ rfl rfl Try.underlying27 Try.underlying3 cells22 cells3 (c := pv) rfl
  obtain ⟨_, _, _, _, k0, k1, k2⟩ := str3_read h2
  obtain ⟨s0, q0⟩ := open_cmds k0
  obtain ⟨s1, q1⟩ := open_cmds k1
  obtain ⟨s2, q2⟩ := open_cmds k2
  exact ⟨⟨g, pl, s0, s1, s2⟩, iv, nv, ov, pv, u0, u1, u2, rfl, hg, hp, q0, q1, q2⟩
end
end Go.Proofs.Ytejllmjkeefloaa
namespace Go.Proofs.Ytejllmjkeefloaa
open Go.ChangeShapes Go.WideShapes Go.ChangeAt Go.RowKit
set_option maxRecDepth 20000
set_option linter.unusedVariables false
set_option linter.unusedSimpArgs false

theorem nums_box1 {w : World} {b : Nat} {x : Int} (hb : (∀ o : Nat, w.cell? ⟨b, o, none⟩ = (#[.int .i64 x] : Array Value)[o]?)) (hl : b < w.heap.size) (wf : (Lit.int .i64 x).wf = true) : IsNums .i64 w (.slice (some ⟨b, 0, none⟩) 1 1) [x] := by
  have hm : (1 : Nat) ≤ maxLen := by unfold maxLen; omega
  refine ⟨some ⟨b, 0, none⟩, 1, rfl, (by simp), hm, (fun h => by cases h), (fun y hy => by simp only [List.mem_cons, List.not_mem_nil, or_false] at hy; subst hy; exact wf), fun _ => ⟨b, 0, rfl, hl, ?_⟩⟩
  intro j hj
  simp only [List.length_cons, List.length_nil] at hj
  obtain rfl : j = 0 := by omega
  exact hb 0
theorem cmds_nil (w : World) : Q8.IsCmds w (.slice none 0 0) [] := ⟨none, 0, rfl, Nat.le_refl _, Nat.zero_le _, fun _ => rfl, by simp, by simp⟩
def ex9 : GraphD := ⟨[⟨1, 1, 1, 0⟩], [], [0]⟩
theorem ex9_E : valuesE ex9 = 0 := by
  have e : beginsE ex9 = 0 := begins_mk (by simp [ex9]) (below_one (by unfold mayV mayS; decide)) (below_one (by decide))
  have g : goS ex9.nodes ex9.ins = (0, [⟨1, 1, 1, 0⟩]) := rfl
  have s : sumW ex9.nodes = 0 := rfl
  unfold valuesE
  rw [if_neg (by rw [e]; decide), g, if_neg (by simp), s, if_neg (by decide), if_neg]
  intro f
  apply f
  exact below_one (by decide)
theorem ex9_B : graphB ex9 = [1, 1, 1, 1, 0, 0, 1, 0] := by decide
theorem ex9_L : valuesL ex9 = [⟨1, 1, 1, 0⟩] := by unfold valuesL; rw [if_pos ex9_E]; rfl
def exI : ImgD := ⟨ex9, [5], [], [], []⟩
theorem exI_len : (imgB exI).length = 17 := by
  have : (graphB ex9).length = 8 := by rw [ex9_B]; rfl
  unfold imgB exI
  simp only [List.length_append, this]
  decide
theorem exI_E : mayI exI = 0 := by
  refine mayI_ok ex9_E ⟨by rw [show exI.g = ex9 from rfl, ex9_L]; rfl, fun j hj => ?_⟩ (fun j hj => ?_)
  · have hj : j < 1 := hj
    obtain rfl : j = 0 := by omega
    rw [show exI.g = ex9 from rfl, ex9_L]
    have s := sizeV_bd (⟨1, 1, 1, 0⟩ : ValD)
    show (0 : Int) ≤ 5 ∧ (5 : Int) ≤ 65536 - sizeV ⟨1, 1, 1, 0⟩
    omega
  · rcases (show j = 0 ∨ j = 1 ∨ j = 2 by omega) with rfl | rfl | rfl <;> decide
set_option maxHeartbeats 2000000 in
theorem shown9_any (W : World) : Calls Try.prog 13 #[] W fun e w' => e = .returned (.bool true) ∧ Past W w' := by
  have PU := Lib.hid (fun w v (h : IsImg w v exI) => iput_any exI v w h ⟨by simp [exI, ex9], by simp [exI, ex9]⟩ (by rw [show exI.g = ex9 from rfl, ex9_B]; simp))
  obtain ⟨S, hS⟩ : ∃ S, W.heap.size = S := ⟨_, rfl⟩
  go_enter Try.func13, Try.ntmps13
  go_upto_region 2 with fail
  refine opq (fun w' => (∀ o : Nat, w'.cell? ⟨S, o, none⟩ = (#[.int .i64 1, .int .i64 1, .int .i64 1, .int .i64 0] : Array Value)[o]?) ∧ (∀ o : Nat, w'.cell? ⟨S + 1, o, none⟩ = (#[.int .i64 0] : Array Value)[o]?) ∧ (∀ o : Nat, w'.cell? ⟨S + 2, o, none⟩ = (#[.slice (some ⟨S, 0, none⟩) 1 1, .slice none 0 0, .slice (some ⟨S + 1, 0, none⟩) 1 1] : Array Value)[o]?) ∧ Past W w' ∧ w'.heap.size = S + 3) (by
    subst hS
    exact ⟨by (exact kKeep), by (exact kKeep), by (exact kKeep), by (exact kKeep), by simp⟩) ?_
  rintro w1 ⟨b0, b1, b2, p1, z1⟩
  try simp only [World.size_alloc, hS]
  have IM : IsImg (w1.alloc (.cells #[.int .i64 5] 3)) (.agg #[.slice (some ⟨S, 0, none⟩) 1 1, .slice none 0 0, .slice (some ⟨S + 1, 0, none⟩) 1 1, .slice (some ⟨S + 3, 0, none⟩) 1 1, .slice none 0 0, .slice none 0 0, .slice none 0 0]) exI := by
    have c0 := box_old (x := .cells #[.int .i64 5] 3) b0 (by omega)
    have c1 := box_old (x := .cells #[.int .i64 5] 3) b1 (by omega)
    have c3 : ∀ o : Nat, (w1.alloc (.cells #[.int .i64 5] 3)).cell? ⟨S + 3, o, none⟩ = (#[.int .i64 5] : Array Value)[o]? := box_new (by omega)
    refine ⟨_, _, _, _, _, _, _, rfl, ⟨_, _, _, rfl, vals_one (by simp; omega) (by unfold ValWf; decide) ⟨c0 0, c0 1, c0 2, c0 3⟩, ⟨none, 0, rfl, Nat.le_refl _, Nat.zero_le _, fun _ => rfl, by simp [exI, ex9], by simp [exI, ex9]⟩, nums_box1 c1 (by simp; omega) (by decide)⟩, nums_box1 c3 (by simp; omega) (by decide), cmds_nil _, cmds_nil _, cmds_nil _⟩
  have PV := Lib.hid (PU.out _ _ IM)
  unfold PutI at PV
  rw [exI_len] at PV
  have B2 := Lib.hid b2
  clear PU IM b0 b1
  go_wp2_with (first | refine wpList_load_box rfl 29 (.tmp 1) rfl (S + 2) _ rfl B2.out Try.underlying29 rfl (by kernel_rfl) ?_)
  try simp only [z1]
  refine PV.out.mono ?_
  rintro e w2 (⟨_, B, _, rfl, _, p2⟩ | ⟨hE, _⟩)
  · have p3 : Past W w2 := (p1.alloc _).trans p2
    clear PV B2 b2
    go_wp2_with fail
    go_ret
    exact ⟨rfl, p3⟩
  · exact absurd exI_E hE
end Go.Proofs.Ytejllmjkeefloaa
