/- isa: layCmd. -/
import Derived.Test.YtejllmjkeefloaaJG6A
import Derived.Test.YtejllmjkeefloaaJI3
import Derived.Test.YtejllmjkeefloaaJV3
import Derived.Test.YtejllmjkeefloaaJI5
import Derived.Test.YtejllmjkeefloaaJI6
namespace Go.Proofs.Ytejllmjkeefloaa.Q8
open Go.ChangeShapes Go.WideShapes Go.ChangeAt Go.RowKit
set_option maxRecDepth 20000
set_option linter.unusedVariables false
set_option linter.unusedSimpArgs false

theorem OwnB.past {w w' : World} {base : Nat} {v : Value} {l : List Int} (h : OwnB w base v l) (g : Past w w') : OwnB w' base v l := by
  obtain ⟨⟨hl, h⟩, h2⟩ := h
  refine ⟨⟨hl, ?_⟩, h2⟩
  rcases h with ⟨rfl, h0⟩ | ⟨b, cap, cur, rfl, hb, hg, hn, hm, hs, ht⟩
  · exact .inl ⟨rfl, h0⟩
  · exact .inr ⟨b, cap, cur, rfl, hb, (g.2.2.2 b (Array.getElem?_eq_some_iff.1 hg).1).trans hg, hn, hm, hs, ht⟩
theorem box_lays {base b : Nat} {w w' : World} {cs : Array Value} (g : Lays base w w') (hN : NoRow w base b) (h : (∀ o : Nat, w.cell? ⟨b, o, none⟩ = (cs : Array Value)[o]?)) : (∀ o : Nat, w'.cell? ⟨b, o, none⟩ = (cs : Array Value)[o]?) := fun o => (g.cell hN).trans (h o)
theorem noRow_int {w : World} {base b : Nat} {x : Int} (hb : b < w.heap.size) (h : w.cell? ⟨b, 0, none⟩ = some (.int .i64 x)) : NoRow w base b := ⟨hb, .inr ⟨_, h, fun n e => by simp at e⟩⟩
theorem noRow_ptr {w : World} {base b : Nat} {p : Option Addr} (hb : b < w.heap.size) (h : w.cell? ⟨b, 0, none⟩ = some (.pointer p)) : NoRow w base b := ⟨hb, .inr ⟨_, h, fun n e => by simp at e⟩⟩
def FldsP (w : World) (P : Nat) (A : Option Addr) (fs : List Fld) : Prop := 0 < fs.length → ∃ b, A = some ⟨b, 0, none⟩ ∧ b < w.heap.size ∧ (∀ o : Nat, w.cell? ⟨b, o, none⟩ = (⟨fldsC P fs⟩ : Array Value)[o]?)
theorem IsFlds.form {w : World} {P : Nat} {v : Value} {fs : List Fld} (h : IsFlds w P v fs) : ∃ A, v = .slice A fs.length fs.length ∧ FldsP w P A fs := by
  rcases h with ⟨rfl, rfl⟩ | ⟨b, rfl, h1, h2⟩
  · exact ⟨none, rfl, fun h => by simp at h⟩
  · exact ⟨_, rfl, fun _ => ⟨b, rfl, h1, h2⟩⟩
theorem FldsP.past {w w' : World} {P : Nat} {A : Option Addr} {fs : List Fld} (h : FldsP w P A fs) (g : Past w w') : FldsP w' P A fs := fun q => by
  obtain ⟨b, e, h1, h2⟩ := h q
  exact ⟨b, e, Nat.lt_of_lt_of_le h1 g.2.2.1, box_past g h2 h1⟩
theorem FldsP.lays {base : Nat} {w w' : World} {P : Nat} {A : Option Addr} {fs : List Fld} (h : FldsP w P A fs) (g : Lays base w w') : FldsP w' P A fs := fun q => by
  obtain ⟨b, e, h1, h2⟩ := h q
  refine ⟨b, e, Nat.lt_of_lt_of_le h1 g.2.2.1, box_lays g (noRow_ptr (p := some ⟨P, (fs[0]'q).pos, none⟩) h1 ?_) h2⟩
  rw [h2]
  have := fldsC_at P fs 0 q 0 _ rfl
  simpa using this
/-- A row's field, cell by cell. -/
theorem FldsP.at {w : World} {P : Nat} {A : Option Addr} {fs : List Fld} (h : FldsP w P A fs) (n : Nat) (hn : n < fs.length) : ∃ b, A = some ⟨b, 0, none⟩ ∧ b < w.heap.size ∧ w.cell? ⟨b, n * 4, none⟩ = some (.pointer (some ⟨P, (fs[n]).pos, none⟩)) ∧ w.cell? ⟨b, n * 4 + 1, none⟩ = some (.int .i64 (fs[n]).lo) ∧ w.cell? ⟨b, n * 4 + 2, none⟩ = some (.int .i64 (fs[n]).hi) ∧ w.cell? ⟨b, n * 4 + 3, none⟩ = some (.int .i64 ((fs[n]).wide : Int)) := by
  obtain ⟨b, e, h1, h2⟩ := h (by omega)
  have hr : ∀ j v, (fldC P fs[n])[j]? = some v → w.cell? ⟨b, n * 4 + j, none⟩ = some v := fun j v hv => by rw [h2, Nat.mul_comm]; have := fldsC_at P fs n hn j v hv; simpa using this
  exact ⟨b, e, h1, hr 0 _ rfl, hr 1 _ rfl, hr 2 _ rfl, hr 3 _ rfl⟩
theorem fldsD_wide (k : Int) : ∀ f ∈ fldsD k, f.wide = 1 ∨ f.wide = 2 ∨ f.wide = 3 := by
  unfold fldsD
  split
  · decide
  split
  · decide
  split
  · decide
  split
  · decide
  · decide
theorem wf_getD {c : List Int} (h : ∀ x ∈ c, (Lit.int .i64 x).wf = true) (j : Nat) : (Lit.int .i64 (c.getD j 0)).wf = true := by
  by_cases q : j < c.length
  · exact h _ (by simp [List.getD, q])
  · simp only [List.getD, List.getElem?_eq_none (Nat.le_of_not_lt q), Option.getD_none]; decide
theorem flat_take {c : List Int} {fs : List Fld} {n : Nat} (h : n < fs.length) : (fs.take (n + 1)).flatMap (fieldB c) = (fs.take n).flatMap (fieldB c) ++ fieldB c fs[n] := by
  rw [List.take_succ_eq_append_getElem h, List.flatMap_append]
  simp
theorem flat_len {c : List Int} (fs : List Fld) (hw : ∀ f ∈ fs, f.wide = 1 ∨ f.wide = 2 ∨ f.wide = 3) : (fs.flatMap (fieldB c)).length ≤ 3 * fs.length := by
  induction fs with
  | nil => simp
  | cons f fs ih =>
    have := hw f (List.mem_cons_self ..)
    have := ih (fun g hg => hw g (List.mem_cons_of_mem _ hg))
    simp only [List.flatMap_cons, List.length_append, List.length_cons, fieldB, numB_len] at *
    omega
def LayCPost (base : Nat) (bs : List Int) (c : List Int) (w : World) (e : Ending) (w' : World) : Prop := ∃ v', e = .returned v' ∧ OwnB w' base v' (bs ++ cmdB c) ∧ Lays base w w'
set_option maxHeartbeats 4000000 in
theorem layCmd_any (base : Nat) (bv : Value) (bs c : List Int) (W : World) (hl : c.length = 14) (hw : ∀ x ∈ c, (Lit.int .i64 x).wf = true) (ho : OwnB W base bv bs) (hb : base ≤ W.heap.size) (hm : bs.length ≤ 1000000) :
    Calls Try.prog 83 #[bv, .agg ⟨cellC c⟩] W (LayCPost base bs c W) := by
  obtain ⟨k, hk'⟩ : ∃ k, c.getD 0 0 = k := ⟨_, rfl⟩
  have sz := size_cellC hl
  have FA := Lib.hid (fields_any k)
  have WF := Lib.hid (wf_getD hw)
  have HW := Lib.hid (fldsD_wide k)
  have HP := Lib.hid (fldsD_pos k).1
  have hn := fldsD_len k
  have hres : cmdB c = numB 1 k ++ (fldsD k).flatMap (fieldB c) := by unfold cmdB; rw [hk']
  unfold LayCPost
  rw [hres]
  obtain ⟨fs, hfs⟩ : ∃ fs, fldsD k = fs := ⟨_, rfl⟩
  unfold FieldsPost at FA
  rw [hfs] at FA HW HP hn
  rw [hfs]
  have wk := WF.out 0
  rw [hk'] at wk
  have WK := Lib.hid wk
  have HK := Lib.hid hk'
  have HL := Lib.hid hl
  have HO := Lib.hid ho
  obtain ⟨dk, hdk⟩ : ∃ d, decide (kindP k) = d := ⟨_, rfl⟩
  rw [hdk] at FA
  clear hk' hres hfs hl wk hw ho hdk
  go_enter Try.func83, Try.ntmps83
  go_upto_region 1 with fail
  obtain ⟨Q, hQ⟩ : ∃ Q, W.heap.size = Q := ⟨_, rfl⟩
  refine opq (fun w' => (∀ o : Nat, w'.cell? ⟨Q, o, none⟩ = (⟨cellC c⟩ : Array Value)[o]?) ∧ Past W w' ∧ Q + 1 ≤ w'.heap.size) (by subst hQ; (exact kKeep)) ?_
  rintro w0 ⟨b0, p0, z0⟩
  try simp only [hQ]
  have QW : base ≤ Q := by omega
  have h0 := boxC_cell b0 (j := 0) (by rw [HL.out]; omega)
  rw [HK.out] at h0
  have LA := Lib.hid (lay_any base 1 bv bs k w0 (.inl rfl) WK.out (HO.out.past p0) (by have := p0.2.2.1; omega) (by omega))
  have B0 := Lib.hid b0
  have H0 := Lib.hid h0
  have P0 := Lib.hid p0
  clear hQ p0 b0
  go_wp2_with fail
  refine LA.out.mono ?_
  rintro e w1 ⟨v1, rfl, o1, g1⟩
  have hQ0 : NoRow w0 base Q := noRow_int (by omega) H0.out
  have c1 := (g1.cell (o := 0) hQ0).trans H0.out
  have R1 : Hid ((∀ o : Nat, w1.cell? ⟨Q, o, none⟩ = (⟨cellC c⟩ : Array Value)[o]?) ∧ OwnB w1 base v1 (bs ++ numB 1 k) ∧ Lays base W w1 ∧ Q < w1.heap.size) := Lib.hid ⟨box_lays g1 hQ0 B0.out, o1, (Lays.of_past P0.out).trans g1, Nat.lt_of_lt_of_le z0 g1.2.2.1⟩
  have C1 := Lib.hid c1
  clear LA B0 H0 P0 o1 g1 hQ0 z0 c1 h0 HO
  go_wp2_with fail
  refine (FA.out Q w1 C1.out).mono ?_
  rintro e w2 ⟨vf, rfl, hF, p2⟩
  obtain ⟨A, rfl, FP⟩ := hF.form
  have REL : Hid ((∀ o : Nat, w2.cell? ⟨Q, o, none⟩ = (⟨cellC c⟩ : Array Value)[o]?) ∧ OwnB w2 base v1 (bs ++ numB 1 k ++ (fs.take 0).flatMap (fieldB c)) ∧ Lays base W w2 ∧ Q < w2.heap.size ∧ FldsP w2 Q A fs) := by
    obtain ⟨q1, q2, q3, q4⟩ := R1.out
    exact Lib.hid ⟨box_past p2 q1 q4, by simpa using q2.past p2, q3.trans (Lays.of_past p2), Nat.lt_of_lt_of_le q4 p2.2.2.1, FP⟩
  clear hF p2 FP R1 C1 FA
  go_wp2_with fail
  go_loopw [0, 19] (fun v i wr => ∃ n : Nat, n ≤ fs.length ∧ i = .int .i64 n ∧ Hid ((∀ o : Nat, wr.cell? ⟨Q, o, none⟩ = (⟨cellC c⟩ : Array Value)[o]?) ∧ OwnB wr base v (bs ++ numB 1 k ++ (fs.take n).flatMap (fieldB c)) ∧ Lays base W wr ∧ Q < wr.heap.size ∧ FldsP wr Q A fs)) (fun _ i _ => fs.length - (intOf i).toNat)
  case atStart => exact ⟨0, by omega, rfl, REL⟩
  case round =>
    obtain ⟨n, hnl, rfl, R⟩ := hrel
    by_cases h : n < fs.length
    · obtain ⟨q1, q2, q3, q4, q5⟩ := R.out
      obtain ⟨b, rfl, hbl, r0, r1, r2, r3⟩ := q5.at n h
      have hfp := HP.out fs[n] (List.getElem_mem h)
      have hfw := HW.out fs[n] (List.getElem_mem h)
      have hnx := flat_take (c := c) h
      obtain ⟨f, hf⟩ : ∃ f, fs[n] = f := ⟨_, rfl⟩
      rw [hf] at r0 r1 r2 r3 hfp hfw hnx
      have hx := boxC_cell q1 (j := f.pos) (by rw [HL.out]; omega)
      have wx := WF.out f.pos
      obtain ⟨x, ex⟩ : ∃ x, c.getD f.pos 0 = x := ⟨_, rfl⟩
      have hlen : (bs ++ numB 1 k ++ (fs.take n).flatMap (fieldB c)).length ≤ 1000000000 := by
        have := flat_len (c := c) (fs.take n) (fun g hg => HW.out g (List.mem_of_mem_take hg))
        simp only [List.length_append, numB_len, List.length_take] at *
        omega
      rw [show fieldB c f = numB f.wide (c.getD f.pos 0) from rfl] at hnx
      rw [ex] at hx wx hnx
      have NX := Lib.hid hnx
      have WX := Lib.hid wx
      have HX := Lib.hid hx
      have HLN := Lib.hid hlen
      have HFW := Lib.hid hfw
      have Hbl := Lib.hid hbl
      clear hfp hfw hnx hf hx wx ex hlen q1 q2 q3 q4 q5 hbl
      obtain ⟨po, lo, hi, wd⟩ := f
      simp only at r0 r1 r2 r3 NX HX HFW
      go_upto_region 6 with fail
      have RQ := R.out.2.2.2.1
      obtain ⟨B, hB⟩ : ∃ B, wr.heap.size = B := ⟨_, rfl⟩
      refine opq (fun w' => (∀ o : Nat, w'.cell? ⟨B, o, none⟩ = (#[.pointer (some ⟨Q, po, none⟩), .int .i64 lo, .int .i64 hi, .int .i64 (wd : Int)] : Array Value)[o]?) ∧ w'.cell? ⟨Q, po, none⟩ = some (.int .i64 x) ∧ Past wr w' ∧ B < w'.heap.size) (by subst hB; have := HX.out; exact ⟨box_new rfl, cell_alloc this RQ, (Past.refl _).alloc _, by simp⟩) ?_
      rintro w3 ⟨b3, c3, p3, z3⟩
      try simp only [hB]
      have hQ3 : Q < w3.heap.size := Nat.lt_of_lt_of_le RQ p3.2.2.1
      have NB : NoRow w3 base B := noRow_ptr z3 (b3 0)
      have R3 : Hid ((∀ o : Nat, w3.cell? ⟨Q, o, none⟩ = (⟨cellC c⟩ : Array Value)[o]?) ∧ OwnB w3 base u0 (bs ++ numB 1 k ++ (fs.take n).flatMap (fieldB c)) ∧ Lays base W w3 ∧ Q < w3.heap.size ∧ FldsP w3 Q (some ⟨b, 0, none⟩) fs) := by
        obtain ⟨q1, q2, q3, q4, q5⟩ := R.out
        exact Lib.hid ⟨box_past p3 q1 q4, q2.past p3, q3.trans (Lays.of_past p3), hQ3, q5.past p3⟩
      have NQ : NoRow w3 base Q := noRow_int hQ3 (boxC_cell R3.out.1 (j := 0) (by rw [HL.out]; omega))
      have b3d : (∀ o : Nat, w3.drew.cell? ⟨B, o, none⟩ = (#[.pointer (some ⟨Q, po, none⟩), .int .i64 lo, .int .i64 hi, .int .i64 (wd : Int)] : Array Value)[o]?) := b3
      have LA := Lib.hid (lay_any base wd u0 (bs ++ numB 1 k ++ (fs.take n).flatMap (fieldB c)) x w3.drew HFW.out WX.out (R3.out.2.1.past ((Past.refl w3).drew)) (show base ≤ w3.heap.size by omega) HLN.out)
      have NB' := Lib.hid (show NoRow w3.drew base B from NB)
      have NQ' := Lib.hid (show NoRow w3.drew base Q from NQ)
      have B3 := Lib.hid b3d
      have C3 := Lib.hid (show w3.drew.cell? ⟨Q, po, none⟩ = some (.int .i64 x) from c3)
      have Z3 := Lib.hid z3
      clear NB NQ p3 z3 r0 r1 r2 r3 HX Hbl R hB RQ hQ3 b3d
      refine wp_region_lastn 8 _ rfl (by kernel_rfl) (by kernel_rfl) ?za
      case za =>
        simp only [List.take_succ_cons, List.take_zero]
        refine any_mixd [7] (fun w' => (∀ o : Nat, w'.cell? ⟨B, o, none⟩ = (#[.pointer (some ⟨Q, po, none⟩), .int .i64 lo, .int .i64 hi, .int .i64 (wd : Int)] : Array Value)[o]?) ∧ w'.cell? ⟨Q, po, none⟩ = some (.int .i64 x)) [(23, ?va23), (24, ?va24), (25, ?va25), (26, ?va26), (27, ?va27), (28, ?va28), (29, ?va29)] [23, 24, 25, 26, 27, 28, 29] (by kernel_rfl) rfl (by kernel_rfl) ⟨b3, c3⟩ (fun w h => h) ?alla ?fina
        case alla =>
          simp only [fillA, Act.put, List.setIfInBounds_toArray, List.set_cons_zero, List.set_cons_succ]
          iterate 8 (first | refine forced rfl ?_ | (refine reads (fun w hw K hK => ?_) ?_; focus ((have hS := Lib.hid hw); go_split_ands; go_simp; (try simp only [Act.put, List.setIfInBounds_toArray, List.set_cons_zero, List.set_cons_succ]); exact hK)))
          exact True.intro
        case fina =>
          simp only [fillA, Act.put, List.setIfInBounds_toArray, List.set_cons_zero, List.set_cons_succ]
          refine mix_at 30 rfl rfl (fun K hK => ?_)
          simp only [Act.put, List.setIfInBounds_toArray, List.set_cons_zero, List.set_cons_succ] at hK
          go_simp
          refine LA.out.mono ?_
          rintro e w4 ⟨v4, rfl, o4, g4⟩
          have R4 : Hid ((∀ o : Nat, w4.cell? ⟨Q, o, none⟩ = (⟨cellC c⟩ : Array Value)[o]?) ∧ OwnB w4 base v4 (bs ++ numB 1 k ++ (fs.take (n + 1)).flatMap (fieldB c)) ∧ Lays base W w4 ∧ Q < w4.heap.size ∧ FldsP w4 Q (some ⟨b, 0, none⟩) fs) := by
            obtain ⟨q1, q2, q3, q4, q5⟩ := R3.out
            have g5 : Lays base w3 w4 := (Lays.of_past ((Past.refl w3).drew)).trans g4
            exact Lib.hid ⟨box_lays g4 NQ'.out q1, by rw [NX.out, ← List.append_assoc]; exact o4, q3.trans g5, Nat.lt_of_lt_of_le q4 g5.2.2.1, q5.lays g5⟩
          refine hK _ _ ⟨box_lays g4 NB'.out B3.out, (g4.cell NQ'.out).trans C3.out⟩ ?_
          clear LA NB' NQ' B3 C3 Z3 R3 g4 o4 hK b3 c3
          (try simp only [Act.put, List.setIfInBounds_toArray, List.set_cons_zero, List.set_cons_succ])
          refine mix_nil ?_
          show Oper.wp _ _ _ _ _ _
          go_simp
          go_wp2_with fail
          go_roundw
          case rel => exact ⟨n + 1, by omega, by go_num, R4⟩
          case measure => simp [intOf]; omega
    · have e : fs.take n = fs := List.take_of_length_le (by omega)
      rw [e] at R
      go_wp2_with fail
      go_ret
      exact ⟨_, rfl, by have := R.out.2.1; rwa [List.append_assoc] at this, R.out.2.2.1⟩
end Go.Proofs.Ytejllmjkeefloaa.Q8
