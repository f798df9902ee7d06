/- graph.sameNode, whole; the reference's Same. An argument that is an image. May and Put of an image. quiltlaw09's head: the document's example. -/
import Derived.Test.YtejllmjkeefloaaKE3
import Derived.Test.YtejllmjkeefloaaKE5A
import Derived.Test.YtejllmjkeefloaaKE5B
import Derived.Test.YtejllmjkeefloaaKE5C
import Derived.Test.YtejllmjkeefloaaKI13
import Derived.Deep.DeepCutAuto
import Derived.Test.YtejllmjkeefloaaKA0
import Derived.Test.YtejllmjkeefloaaKA3
import Derived.Test.YtejllmjkeefloaaKS1
import Derived.Test.YtejllmjkeefloaaKE1
namespace Go.Proofs.Ytejllmjkeefloaa
open Go.ChangeShapes Go.WideShapes Go.ChangeAt Go.RowKit
set_option maxRecDepth 20000
set_option linter.unusedVariables false

theorem beq_f {x y : Int} (h : ¬ x = y) : (x == y) = false := by simpa using h
theorem beq_t {x y : Int} (h : x = y) : (x == y) = true := by simpa using h
theorem same_node_ok : SameNodeOk := by
  intro a b va vb t w ha hb ht
  obtain ⟨vi, vw, vb', rfl, ⟨i1, i2, i3⟩, _⟩ := ha
  obtain ⟨ui, uw, ub, rfl, ⟨j1, j2, j3⟩, _⟩ := hb
  obtain ⟨Ai, ci, rfl⟩ := nums_slice i1
  obtain ⟨Aw, cw, rfl⟩ := nums_slice i2
  obtain ⟨Ab, cb, rfl⟩ := nums_slice i3
  obtain ⟨Bi, di, rfl⟩ := nums_slice j1
  obtain ⟨Bw, dw, rfl⟩ := nums_slice j2
  obtain ⟨Bb, db, rfl⟩ := nums_slice j3
  have Q : ∀ w, (Op.equalIn 10000 118 (.agg #[.int .i64 a.op, .int .i64 a.k, .int .i64 a.stride, .int .i64 a.pad, .int .i64 a.out, .int .i64 a.mul, .int .i64 a.shift, .int .i64 a.zero]) (.agg #[.int .i64 b.op, .int .i64 b.k, .int .i64 b.stride, .int .i64 b.pad, .int .i64 b.out, .int .i64 b.mul, .int .i64 b.shift, .int .i64 b.zero])).run Try.prog w = .ok (a.op == b.op && (a.k == b.k && (a.stride == b.stride && (a.pad == b.pad && (a.out == b.out && (a.mul == b.mul && (a.shift == b.shift && a.zero == b.zero))))))) w := fun w => eq8 _ _ _ _ _ _ _ _ _ _ _ _ _ _ _ _ w
  rw [node_eq] at ht
  have no : ∀ {p : Prop}, ¬ p → (t = true → p) → t = false := fun h k => Bool.eq_false_iff.mpr (fun e => h (k e))
  by_cases c8 : a.op = b.op ∧ a.k = b.k ∧ a.stride = b.stride ∧ a.pad = b.pad ∧ a.out = b.out ∧ a.mul = b.mul ∧ a.shift = b.shift ∧ a.zero = b.zero
  · have q8 : (a.op == b.op && (a.k == b.k && (a.stride == b.stride && (a.pad == b.pad && (a.out == b.out && (a.mul == b.mul && (a.shift == b.shift && a.zero == b.zero))))))) = true := by simpa using c8
    rw [q8] at Q
    by_cases c9 : a.th = b.th
    · by_cases c10 : a.tw = b.tw
      · by_cases c11 : a.tc = b.tc
        · by_cases d1 : a.ins = b.ins
          · by_cases d2 : a.ws = b.ws
            · by_cases d3 : a.bs = b.bs
              · obtain rfl : t = true := ht.mpr ⟨c8.1, d1, c8.2.1, c8.2.2.1, c8.2.2.2.1, c8.2.2.2.2.1, c8.2.2.2.2.2.1, c8.2.2.2.2.2.2.1, c8.2.2.2.2.2.2.2, c9, c10, c11, d2, d3⟩
                exact same_case14 a b w Ai Aw Ab Bi Bw Bb ci cw cb di dw db Q (beq_t c9) (beq_t c10) (beq_t c11) (Lib.hid ⟨fun _ => d1, fun _ => rfl⟩) i1 j1 (Lib.hid ⟨fun _ => d2, fun _ => rfl⟩) i2 j2 (Lib.hid ⟨fun _ => d3, fun _ => rfl⟩) i3 j3
              · obtain rfl : t = false := no d3 (fun e => (ht.mp e).2.2.2.2.2.2.2.2.2.2.2.2.2)
                exact same_case13 a b w Ai Aw Ab Bi Bw Bb ci cw cb di dw db Q (beq_t c9) (beq_t c10) (beq_t c11) (Lib.hid ⟨fun _ => d1, fun _ => rfl⟩) i1 j1 (Lib.hid ⟨fun _ => d2, fun _ => rfl⟩) i2 j2 (Lib.hid ⟨fun h => (by cases h), fun h => absurd h d3⟩) i3 j3
            · obtain rfl : t = false := no d2 (fun e => (ht.mp e).2.2.2.2.2.2.2.2.2.2.2.2.1)
              exact same_case12 a b w Ai Aw Ab Bi Bw Bb ci cw cb di dw db Q (beq_t c9) (beq_t c10) (beq_t c11) (Lib.hid ⟨fun _ => d1, fun _ => rfl⟩) i1 j1 (Lib.hid ⟨fun h => (by cases h), fun h => absurd h d2⟩) i2 j2
          · obtain rfl : t = false := no d1 (fun e => (ht.mp e).2.1)
            exact same_case11 a b w Ai Aw Ab Bi Bw Bb ci cw cb di dw db Q (beq_t c9) (beq_t c10) (beq_t c11) (Lib.hid ⟨fun h => (by cases h), fun h => absurd h d1⟩) i1 j1
        · obtain rfl : t = false := no c11 (fun e => (ht.mp e).2.2.2.2.2.2.2.2.2.2.2.1)
          exact same_case10 a b w Ai Aw Ab Bi Bw Bb ci cw cb di dw db Q (beq_t c9) (beq_t c10) (beq_f c11)
      · obtain rfl : t = false := no c10 (fun e => (ht.mp e).2.2.2.2.2.2.2.2.2.2.1)
        exact same_case9 a b w Ai Aw Ab Bi Bw Bb ci cw cb di dw db Q (beq_t c9) (beq_f c10)
    · obtain rfl : t = false := no c9 (fun e => (ht.mp e).2.2.2.2.2.2.2.2.2.1)
      exact same_case8 a b w Ai Aw Ab Bi Bw Bb ci cw cb di dw db Q (beq_f c9)
  · have q8 : (a.op == b.op && (a.k == b.k && (a.stride == b.stride && (a.pad == b.pad && (a.out == b.out && (a.mul == b.mul && (a.shift == b.shift && a.zero == b.zero))))))) = false := by
      rw [Bool.eq_false_iff]
      intro h
      exact c8 (by simpa using h)
    rw [q8] at Q
    obtain rfl : t = false := no c8 (fun e => by
      obtain ⟨h1, _, h2, h3, h4, h5, h6, h7, h8, _⟩ := ht.mp e
      exact ⟨h1, h2, h3, h4, h5, h6, h7, h8⟩)
    exact same_case0 a b w Ai Aw Ab Bi Bw Bb ci cw cb di dw db Q
end Go.Proofs.Ytejllmjkeefloaa
namespace Go.Proofs.Ytejllmjkeefloaa
open Go.ChangeShapes Go.WideShapes Go.ChangeAt Go.RowKit
set_option maxRecDepth 20000
set_option linter.unusedVariables false
set_option linter.unusedSimpArgs false

theorem seven {α : Type} {l : List α} (h : l.length = 7) : ∃ a b c d e f g, l = [a, b, c, d, e, f, g] := by
  match l, h with
  | [a, b, c, d, e, f, g], _ => exact ⟨a, b, c, d, e, f, g, rfl⟩
theorem cellsImg : Try.prog.cellsOf 40 = 7 := by kernel_rfl
theorem cellsStr3 : Try.prog.cellsOf 38 = 3 := by kernel_rfl
theorem cellsStr : Try.prog.cellsOf 37 = 1 := by kernel_rfl
section
variable {H : Type} {enc : TypeId × Value → H} {W : World}
theorem open_cmds {fuel : Nat} {v : Value} {x : DataW H × List MemPlace} (hf : DataW.trod enc Try.prog W 0 (fun _ => true) true fuel 37 [v] = some x) : ∃ l, Q8.IsCmds W v l := by
  obtain ⟨A, len, cap, ev, hl, hm, hn, hp⟩ := Q8.open_rows Try.underlying37 Q8.cellsCmd (by omega) hf
  rw [ev]
  by_cases q : 0 < len
  · obtain ⟨b, off, rfl, hb, hx⟩ := hp q
    have each : ∀ i, i < len → ∃ y : List Int, W.rangeAt b (off + i * 14) (Q8.cellC y) ∧ Q8.wfC y := by
      intro i hi
      obtain ⟨cs, n, y, l, q, hy⟩ := hx i hi
      obtain ⟨d, rfl, wd⟩ := Q8.open_cmd l hy
      refine ⟨d, fun j v hv => ?_, wd⟩
      have hj : j < 14 := by
        by_cases hj : j < 14
        · exact hj
        · rw [List.getElem?_eq_none (by rw [l]; omega)] at hv; cases hv
      rw [q j hj, hv]
    obtain ⟨xs, hxl, hxs⟩ := Q8.choose_below len each
    refine ⟨xs, some ⟨b, off, none⟩, cap, by rw [hxl], by omega, hm, (fun h => by cases h), fun y hy => ?_, fun _ => ⟨b, off, rfl, hb, fun i hi => (hxs i (by omega)).1⟩⟩
    obtain ⟨i, hi, rfl⟩ := List.getElem_of_mem hy
    have := (hxs i (by omega)).2
    simpa [List.getD, List.getElem?_eq_getElem hi] using this
  · obtain rfl : len = 0 := by omega
    exact ⟨[], A, cap, rfl, hl, hm, hn, by simp, by simp⟩
theorem str3_read {fuel : Nat} {a b c : Value} {x : DataW H × List MemPlace} (h : DataW.trod enc Try.prog W 0 (fun _ => true) true fuel 38 [a, b, c] = some x) :
    ∃ m y z u, DataW.trod enc Try.prog W 0 (fun _ => true) true m 37 [a] = some y ∧ DataW.trod enc Try.prog W 0 (fun _ => true) true m 37 [b] = some z ∧ DataW.trod enc Try.prog W 0 (fun _ => true) true m 37 [c] = some u := by
  match fuel, h with
  | 0, h => simp [DataW.trod] at h
  | m + 1, h =>
    unfold DataW.trod at h
    rw [Try.underlying38] at h
    simp [show List.range 3 = [0, 1, 2] from rfl, cellsStr] at h
    have h := h.2
    rcases e0 : DataW.trod enc Try.prog W 0 (fun _ => true) true m 37 [a] with _ | y
    · rw [e0] at h; simp at h
    · rcases e1 : DataW.trod enc Try.prog W 0 (fun _ => true) true m 37 [b] with _ | z
      · rw [e0, e1] at h; simp at h
      · rcases e2 : DataW.trod enc Try.prog W 0 (fun _ => true) true m 37 [c] with _ | u
        · rw [e0, e1, e2] at h; simp at h
        · exact ⟨m, y, z, u, e0, e1, e2⟩
theorem open_graph_trod {fuel : Nat} {a b c : Value} {x : DataW H × List MemPlace} (hf : DataW.trod enc Try.prog W 0 (fun _ => true) true fuel 29 [a, b, c] = some x) : ∃ g, IsGraph W (.agg #[a, b, c]) g := by
  obtain ⟨_, y0, h0⟩ := field Try.underlying29 hf 0 _ rfl
  obtain ⟨_, y1, h1⟩ := field Try.underlying29 hf 1 _ rfl
  simp [cells29] at h0
  simp [cells38] at h1
  obtain ⟨ins, hi⟩ := open_vals h0
  obtain ⟨nodes, hn⟩ := open_nodes h1
  obtain ⟨outs, ho⟩ := field_nums Try.underlying29 hf 2 _ rfl rfl Try.underlying27 Try.underlying3 cells22 cells3 (c := c) rfl
  exact ⟨⟨ins, nodes, outs⟩, a, b, c, rfl, hi, hn, ho⟩
theorem open_image {r : Reach} {b0 : Nat} {v : Value} {d : DataW H} {p : List MemPlace} (hv : Value.okWide Try.prog W r b0 40 v) (h : DataW.Trod enc Try.prog W 0 (fun _ => true) true 40 v d p) : ∃ i, IsImg W v i := by
  obtain ⟨cs, rfl, hsz⟩ := okWide_struct Try.underlying40 hv
  rw [cellsImg] at hsz
  obtain ⟨l⟩ := cs
  obtain ⟨iv, nv, ov, pv, u0, u1, u2, rfl⟩ := seven hsz
  obtain ⟨fuel, hf⟩ := h
  have hf' : DataW.trod enc Try.prog W 0 (fun _ => true) true fuel 40 [iv, nv, ov, pv, u0, u1, u2] = some (d, p) := hf
  obtain ⟨_, y0, h0⟩ := field Try.underlying40 hf' 0 _ rfl
  obtain ⟨_, y2, h2⟩ := field Try.underlying40 hf' 2 _ rfl
  simp [cells40] at h0
  simp [cellsStr3] at h2
  obtain ⟨g, hg⟩ := open_graph_trod h0
  obtain ⟨pl, hp⟩ := field_nums Try.underlying40 hf' 1 _ rfl rfl Try.underlying27 Try.underlying3 cells22 cells3 (c := pv) rfl
  obtain ⟨_, _, _, _, k0, k1, k2⟩ := str3_read h2
  obtain ⟨s0, q0⟩ := open_cmds k0
  obtain ⟨s1, q1⟩ := open_cmds k1
  obtain ⟨s2, q2⟩ := open_cmds k2
  exact ⟨⟨g, pl, s0, s1, s2⟩, iv, nv, ov, pv, u0, u1, u2, rfl, hg, hp, q0, q1, q2⟩
end
end Go.Proofs.Ytejllmjkeefloaa
namespace Go.Proofs.Ytejllmjkeefloaa
open Go.ChangeShapes Go.WideShapes Go.ChangeAt Go.RowKit
set_option maxRecDepth 20000
set_option linter.unusedVariables false
set_option linter.unusedSimpArgs false

def PutI (i : ImgD) (W : World) (e : Ending) (w' : World) : Prop :=
  (mayI i = 0 ∧ ∃ B, W.heap.size ≤ B ∧ e = .returned (.tuple #[.slice (some ⟨B, 0, none⟩) ((imgB i).length + 4) ((imgB i).length + 4), .int .i64 0]) ∧ Q7.Row w' B (Q7.sealD (nats (imgB i))) ∧ Past W w') ∨
  (mayI i ≠ 0 ∧ e = .returned (.tuple #[.slice none 0 0, .int .i64 (mayI i)]) ∧ Past W w')
theorem putI_ok {i : ImgD} {W w' : World} {B : Nat} {E : Int} (h : mayI i = E) (e0 : E = 0) (hB : W.heap.size ≤ B) (r : Q7.Row w' B (Q7.sealD (nats (imgB i)))) (p : Past W w') : PutI i W (.returned (.tuple #[.slice (some ⟨B, 0, none⟩) ((imgB i).length + 4) ((imgB i).length + 4), .int .i64 0])) w' := .inl ⟨h.trans e0, B, hB, rfl, r, p⟩
theorem putI_no {i : ImgD} {W w' : World} {E : Int} (h : mayI i = E) (e0 : E ≠ 0) (p : Past W w') : PutI i W (.returned (.tuple #[.slice none 0 0, .int .i64 E])) w' := .inr ⟨by rw [h]; exact e0, by rw [h], p⟩
theorem imgB_len {i : ImgD} (h : mayI i = 0) (hz : (graphB i.g).length ≤ 500000) : (imgB i).length ≤ 999000 := by
  obtain ⟨h1, h2, e0, e1, e2⟩ := may_parts h
  have a := (makes_facts h1).1
  have b := (begins_ok (values_ok h1).1).1
  have c := h2.1
  have s := streamsB_len i 3 (fun j hj => by
    rcases (show j = 0 ∨ j = 1 ∨ j = 2 by omega) with rfl | rfl | rfl
    · exact (putE_ok e0).2.1
    · exact (putE_ok e1).2.1
    · exact (putE_ok e2).2.1)
  rw [← imgB_eq, List.length_append, headB_len]
  omega
set_option maxHeartbeats 4000000 in
theorem iput_any (i : ImgD) (v : Value) (W : World) (h : IsImg W v i) (hc : Cut i.g) (hz : (graphB i.g).length ≤ 500000) : Calls Try.prog 15 #[v] W (PutI i W) := by
  have LA := Lib.hid (fun w (p : Past W w) => lay_any i v w (h.grow p) hc hz)
  unfold LayI at LA
  obtain ⟨A1, c1, A2, c2, A3, c3, A4, c4, A5, c5, A6, c6, A7, c7, rfl, hg, hp, h0, h1, h2⟩ := h.form
  obtain ⟨E, hE⟩ : ∃ E, mayI i = E := ⟨_, rfl⟩
  have HZ := Lib.hid (fun h => imgB_len (i := i) h hz)
  have HE := Lib.hid hE
  rw [hE] at LA HZ
  clear h hg hp h0 h1 h2 hc hz hE
  go_enter Try.func15, Try.ntmps15
  go_upto_region 1 with fail
  obtain ⟨Q, hQ⟩ : ∃ Q, W.heap.size = Q := ⟨_, rfl⟩
  refine opq (fun w' => (∀ o : Nat, w'.cell? ⟨Q, o, none⟩ = (#[.slice A1 i.g.ins.length c1, .slice A2 i.g.nodes.length c2, .slice A3 i.g.outs.length c3, .slice A4 i.pl.length c4, .slice A5 i.s0.length c5, .slice A6 i.s1.length c6, .slice A7 i.s2.length c7] : Array Value)[o]?) ∧ Past W w' ∧ Q + 1 ≤ w'.heap.size) (by
    subst hQ
    exact ⟨by (exact kKeep), by (exact kKeep), by (exact kKeep)⟩) ?_
  rintro w0 ⟨q0, p0, s0⟩
  try rw [hQ]
  go_wp2_with (first | refine wpList_load_box rfl 40 (.tmp 1) rfl Q _ rfl q0 Try.underlying40 rfl (by kernel_rfl) ?_)
  refine (LA.out _ p0).mono ?_
  rintro e w1 (⟨e0, bv, rfl, nb, pp1⟩ | ⟨e0, rfl, pp1⟩)
  · have p1 := p0.trans pp1
    subst e0
    have hl := HZ.out rfl
    have NB : Hid (IsNums .u8 w1 bv (Q7.ints (nats (imgB i)))) := Lib.hid (by rw [ints_nats (imgB_bytes i)]; exact nb)
    have SE := Lib.hid (Q7.seal_any (nats (imgB i)) bv w1 NB.out (nats_bytes (imgB_bytes i)) (by rw [nats_len]; omega))
    unfold Q7.SealPost at SE
    rw [nats_len] at SE
    obtain ⟨A, cap, rfl, _, _, _, _, _⟩ := nb
    obtain ⟨S, hS⟩ : ∃ S, w1.heap.size = S := ⟨_, rfl⟩
    rw [hS] at SE
    have hWS : W.heap.size ≤ S := by have := p1.2.2.1; omega
    clear HZ LA NB hS q0
    go_wp2_with fail
    refine SE.out.mono ?_
    rintro e w2 ⟨rfl, row, pp2⟩
    have p2 := p1.trans pp2
    have RW := Lib.hid row
    clear row SE pp1 pp2
    go_wp2_with fail
    go_ret2
    exact putI_ok HE.out rfl hWS RW.out p2
  · have p1 := p0.trans pp1
    have ne : (E != 0) = true := by simpa using e0
    go_wp2_with fail
    go_ret2
    exact putI_no HE.out e0 p1
end Go.Proofs.Ytejllmjkeefloaa
namespace Go.Proofs.Ytejllmjkeefloaa
open Go.ChangeShapes Go.WideShapes Go.ChangeAt Go.RowKit
set_option maxRecDepth 20000
set_option linter.unusedVariables false
set_option linter.unusedSimpArgs false

theorem nums_box1 {w : World} {b : Nat} {x : Int} (hb : (∀ o : Nat, w.cell? ⟨b, o, none⟩ = (#[.int .i64 x] : Array Value)[o]?)) (hl : b < w.heap.size) (wf : (Lit.int .i64 x).wf = true) : IsNums .i64 w (.slice (some ⟨b, 0, none⟩) 1 1) [x] := by
  have hm : (1 : Nat) ≤ maxLen := by unfold maxLen; omega
  refine ⟨some ⟨b, 0, none⟩, 1, rfl, (by simp), hm, (fun h => by cases h), (fun y hy => by simp only [List.mem_cons, List.not_mem_nil, or_false] at hy; subst hy; exact wf), fun _ => ⟨b, 0, rfl, hl, ?_⟩⟩
  intro j hj
  simp only [List.length_cons, List.length_nil] at hj
  obtain rfl : j = 0 := by omega
  exact hb 0
theorem cmds_nil (w : World) : Q8.IsCmds w (.slice none 0 0) [] := ⟨none, 0, rfl, Nat.le_refl _, Nat.zero_le _, fun _ => rfl, by simp, by simp⟩
def ex9 : GraphD := ⟨[⟨1, 1, 1, 0⟩], [], [0]⟩
theorem ex9_E : valuesE ex9 = 0 := by
  have e : beginsE ex9 = 0 := begins_mk (by simp [ex9]) (below_one (by unfold mayV mayS; decide)) (below_one (by decide))
  have g : goS ex9.nodes ex9.ins = (0, [⟨1, 1, 1, 0⟩]) := rfl
  have s : sumW ex9.nodes = 0 := rfl
  unfold valuesE
  rw [if_neg (by rw [e]; decide), g, if_neg (by simp), s, if_neg (by decide), if_neg]
  intro f
  apply f
  exact below_one (by decide)
theorem ex9_B : graphB ex9 = [1, 1, 1, 1, 0, 0, 1, 0] := by decide
theorem ex9_L : valuesL ex9 = [⟨1, 1, 1, 0⟩] := by unfold valuesL; rw [if_pos ex9_E]; rfl
def exI : ImgD := ⟨ex9, [5], [], [], []⟩
theorem exI_len : (imgB exI).length = 17 := by
  have : (graphB ex9).length = 8 := by rw [ex9_B]; rfl
  unfold imgB exI
  simp only [List.length_append, this]
  decide
theorem exI_E : mayI exI = 0 := by
  refine mayI_ok ex9_E ⟨by rw [show exI.g = ex9 from rfl, ex9_L]; rfl, fun j hj => ?_⟩ (fun j hj => ?_)
  · have hj : j < 1 := hj
    obtain rfl : j = 0 := by omega
    rw [show exI.g = ex9 from rfl, ex9_L]
    have s := sizeV_bd (⟨1, 1, 1, 0⟩ : ValD)
    show (0 : Int) ≤ 5 ∧ (5 : Int) ≤ 65536 - sizeV ⟨1, 1, 1, 0⟩
    omega
  · rcases (show j = 0 ∨ j = 1 ∨ j = 2 by omega) with rfl | rfl | rfl <;> decide
set_option maxHeartbeats 2000000 in
theorem shown9_any (W : World) : Calls Try.prog 13 #[] W fun e w' => e = .returned (.bool true) ∧ Past W w' := by
  have PU := Lib.hid (fun w v (h : IsImg w v exI) => iput_any exI v w h ⟨by simp [exI, ex9], by simp [exI, ex9]⟩ (by rw [show exI.g = ex9 from rfl, ex9_B]; simp))
  obtain ⟨S, hS⟩ : ∃ S, W.heap.size = S := ⟨_, rfl⟩
  go_enter Try.func13, Try.ntmps13
  go_upto_region 2 with fail
  refine opq (fun w' => (∀ o : Nat, w'.cell? ⟨S, o, none⟩ = (#[.int .i64 1, .int .i64 1, .int .i64 1, .int .i64 0] : Array Value)[o]?) ∧ (∀ o : Nat, w'.cell? ⟨S + 1, o, none⟩ = (#[.int .i64 0] : Array Value)[o]?) ∧ (∀ o : Nat, w'.cell? ⟨S + 2, o, none⟩ = (#[.slice (some ⟨S, 0, none⟩) 1 1, .slice none 0 0, .slice (some ⟨S + 1, 0, none⟩) 1 1] : Array Value)[o]?) ∧ Past W w' ∧ w'.heap.size = S + 3) (by
    subst hS
    exact ⟨by (exact kKeep), by (exact kKeep), by (exact kKeep), by (exact kKeep), by simp⟩) ?_
  rintro w1 ⟨b0, b1, b2, p1, z1⟩
  try simp only [World.size_alloc, hS]
  have IM : IsImg (w1.alloc (.cells #[.int .i64 5] 3)) (.agg #[.slice (some ⟨S, 0, none⟩) 1 1, .slice none 0 0, .slice (some ⟨S + 1, 0, none⟩) 1 1, .slice (some ⟨S + 3, 0, none⟩) 1 1, .slice none 0 0, .slice none 0 0, .slice none 0 0]) exI := by
    have c0 := box_old (x := .cells #[.int .i64 5] 3) b0 (by omega)
    have c1 := box_old (x := .cells #[.int .i64 5] 3) b1 (by omega)
    have c3 : ∀ o : Nat, (w1.alloc (.cells #[.int .i64 5] 3)).cell? ⟨S + 3, o, none⟩ = (#[.int .i64 5] : Array Value)[o]? := box_new (by omega)
    refine ⟨_, _, _, _, _, _, _, rfl, ⟨_, _, _, rfl, vals_one (by simp; omega) (by unfold ValWf; decide) ⟨c0 0, c0 1, c0 2, c0 3⟩, ⟨none, 0, rfl, Nat.le_refl _, Nat.zero_le _, fun _ => rfl, by simp [exI, ex9], by simp [exI, ex9]⟩, nums_box1 c1 (by simp; omega) (by decide)⟩, nums_box1 c3 (by simp; omega) (by decide), cmds_nil _, cmds_nil _, cmds_nil _⟩
  have PV := Lib.hid (PU.out _ _ IM)
  unfold PutI at PV
  rw [exI_len] at PV
  have B2 := Lib.hid b2
  clear PU IM b0 b1
  go_wp2_with (first | refine wpList_load_box rfl 29 (.tmp 1) rfl (S + 2) _ rfl B2.out Try.underlying29 rfl (by kernel_rfl) ?_)
  try simp only [z1]
  refine PV.out.mono ?_
  rintro e w2 (⟨_, B, _, rfl, _, p2⟩ | ⟨hE, _⟩)
  · have p3 : Past W w2 := (p1.alloc _).trans p2
    clear PV B2 b2
    go_wp2_with fail
    go_ret
    exact ⟨rfl, p3⟩
  · exact absurd exI_E hE
end Go.Proofs.Ytejllmjkeefloaa
