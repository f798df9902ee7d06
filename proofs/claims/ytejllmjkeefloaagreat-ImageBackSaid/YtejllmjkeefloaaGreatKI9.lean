/- isa: the reader: a command. -/
import Derived.Test.YtejllmjkeefloaaGreatKI7
namespace Go.Proofs.YtejllmjkeefloaaGreat.Q8
open Go.ChangeShapes Go.WideShapes Go.ChangeAt Go.RowKit
set_option maxRecDepth 20000
set_option linter.unusedVariables false
set_option linter.unusedSimpArgs false

def readR : List Fld → List Int → Rd → List Int × Rd
  | [], c, s => (c, s)
  | f :: fs, c, s => readR fs (c.set f.pos (numI f.wide s).1) (numI f.wide s).2
def cmdR (s : Rd) : List Int × Rd := readR (fldsD (numI 1 s).1) (zeros.set 0 (numI 1 s).1) (numI 1 s).2
theorem numI_short {k : Nat} {s : Rd} (h : s.short = true) : (numI k s).2.short = true := by unfold numI; split <;> simp [h]
theorem readR_short {fs : List Fld} {c : List Int} {s : Rd} (h : s.short = true) : (readR fs c s).2.short = true := by
  induction fs generalizing c s with
  | nil => exact h
  | cons f fs ih => exact ih (numI_short h)
theorem readR_len (fs : List Fld) (c : List Int) (s : Rd) : (readR fs c s).1.length = c.length := by
  induction fs generalizing c s with
  | nil => rfl
  | cons f fs ih => unfold readR; rw [ih, List.length_set]
theorem cmdR_len (s : Rd) : (cmdR s).1.length = 14 := by unfold cmdR; rw [readR_len]; simp [zeros]
theorem readR_ok (fs : List Fld) (c t : List Int) (h : (fs.map (·.wide)).sum ≤ t.length) : readR fs c ⟨t, false⟩ = (readF fs c t, ⟨t.drop (fs.map (·.wide)).sum, false⟩) := by
  induction fs generalizing c t with
  | nil => simp [readR, readF]
  | cons f fs ih =>
    simp only [List.map_cons, List.sum_cons] at h ⊢
    have e : numI f.wide ⟨t, false⟩ = (foldB (t.take f.wide), ⟨t.drop f.wide, false⟩) := by unfold numI; rw [if_neg (by simp only; omega)]
    unfold readR readF
    rw [e, ih _ _ (by rw [List.length_drop]; omega), List.drop_drop]
theorem readR_no (fs : List Fld) (c t : List Int) (h : t.length < (fs.map (·.wide)).sum) : (readR fs c ⟨t, false⟩).2.short = true := by
  induction fs generalizing c t with
  | nil => simp at h
  | cons f fs ih =>
    simp only [List.map_cons, List.sum_cons] at h
    unfold readR
    by_cases q : t.length < f.wide
    · exact readR_short (by unfold numI; rw [if_pos q])
    · have e : numI f.wide ⟨t, false⟩ = (foldB (t.take f.wide), ⟨t.drop f.wide, false⟩) := by unfold numI; rw [if_neg (by simp only; omega)]
      rw [e]
      exact ih _ _ (by rw [List.length_drop]; omega)
/-- Off the front: as in numbers. -/
theorem cmdR_one {t : List Int} (h : ¬ ((cmdR ⟨t, false⟩).2.short = true ∨ ¬ mayD (cmdR ⟨t, false⟩).1)) : oneT t = some ((cmdR ⟨t, false⟩).1, (cmdR ⟨t, false⟩).2.rest) ∧ (cmdR ⟨t, false⟩).2.short = false := by
  cases t with
  | nil =>
    exfalso
    apply h
    left
    unfold cmdR
    exact readR_short (by simp [numI])
  | cons k t =>
    have e : numI 1 ⟨k :: t, false⟩ = (k, ⟨t, false⟩) := by simp [numI, foldB]
    unfold cmdR at h ⊢
    rw [e] at h ⊢
    simp only at h ⊢
    by_cases q : restW k ≤ t.length
    · have r := readR_ok (fldsD k) (zeros.set 0 k) t q
      rw [r] at h ⊢
      simp only [Bool.false_eq_true, false_or, Classical.not_not] at h
      simp only [oneT]
      have hk : kindP k := by
        have := h.1
        have e0 : (readF (fldsD k) (zeros.set 0 k) t).getD 0 0 = k := by
          have hp := (fldsD_pos k).1
          generalize fldsD k = fs at hp
          have : ∀ (fs : List Fld) (c t : List Int), (∀ f ∈ fs, f.pos < 14 ∧ f.pos ≠ 0) → (readF fs c t).getD 0 0 = c.getD 0 0 := by
            intro fs
            induction fs with
            | nil => intro c t _; rfl
            | cons f fs ih =>
              intro c t hp
              unfold readF
              rw [ih _ _ (fun g hg => hp g (List.mem_cons_of_mem _ hg))]
              have := (hp f (List.mem_cons_self ..)).2
              simp [List.getD, List.getElem?_set, this]
          rw [this fs _ _ hp]
          simp [zeros]
        rwa [e0] at this
      rw [if_pos ⟨hk, q, h⟩]
      exact ⟨rfl, trivial⟩
    · exfalso
      apply h
      left
      exact readR_no _ _ _ (by unfold restW at q; omega)
theorem cmdR_none {t : List Int} (h : (cmdR ⟨t, false⟩).2.short = true ∨ ¬ mayD (cmdR ⟨t, false⟩).1) : oneT t = none := by
  cases t with
  | nil => rfl
  | cons k t =>
    have e : numI 1 ⟨k :: t, false⟩ = (k, ⟨t, false⟩) := by simp [numI, foldB]
    unfold cmdR at h
    rw [e] at h
    simp only at h
    simp only [oneT]
    by_cases q : kindP k ∧ restW k ≤ t.length ∧ mayD (cmdT k t)
    · exfalso
      rw [readR_ok (fldsD k) (zeros.set 0 k) t q.2.1] at h
      rcases h with h | h
      · cases h
      · exact h q.2.2
    · rw [if_neg q]
theorem zeros_box : (⟨cellC zeros⟩ : Array Value) = #[.int .i64 0, .int .i64 0, .int .i64 0, .int .i64 0, .int .i64 0, .int .i64 0, .int .i64 0, .int .i64 0, .int .i64 0, .int .i64 0, .int .i64 0, .int .i64 0, .int .i64 0, .int .i64 0] := rfl
theorem kind_box (k : Int) : (⟨cellC (zeros.set 0 k)⟩ : Array Value) = #[.int .i64 k, .int .i64 0, .int .i64 0, .int .i64 0, .int .i64 0, .int .i64 0, .int .i64 0, .int .i64 0, .int .i64 0, .int .i64 0, .int .i64 0, .int .i64 0, .int .i64 0, .int .i64 0] := rfl
theorem RdAt.past {w w' : World} {B P : Nat} {s : Rd} (h : RdAt w B P s) (g : Past w w') : RdAt w' B P s := by
  obtain ⟨A, cap, bx, fr, by', hB, hP⟩ := h
  exact ⟨A, cap, box_past g bx hP, free_past g fr hP, by'.keep (Keep.of_past g) hB (by omega), hB, Nat.lt_of_lt_of_le hP g.2.2.1⟩
theorem RdAt.lt {w : World} {B P : Nat} {s : Rd} (h : RdAt w B P s) : P < w.heap.size := h.choose_spec.choose_spec.2.2.2.2
theorem FldsP.keep {w w' : World} {P X : Nat} {A : Option Addr} {fs : List Fld} (h : FldsP w P A fs) (g : Keep X w w') (hX : ∀ b, A = some ⟨b, 0, none⟩ → b ≠ X) : FldsP w' P A fs := fun q => by
  obtain ⟨b, e, h1, h2⟩ := h q
  exact ⟨b, e, Nat.lt_of_lt_of_le h1 g.2.2.1, box_keep g h2 h1 (hX b e)⟩
theorem rd_setAll {B P Q : Nat} {s : Rd} (hQ : P < Q) : ∀ (l : List Value) (w : World) (o : Nat), RdAt w B P s → RdAt (w.setCells Q o l) B P s
  | [], _, _, g => g
  | v :: l, w, o, g => by simp only [World.setCells]; exact rd_setAll hQ l _ _ (g.set hQ)
theorem keep_setAll {P Q : Nat} {W : World} (hQ : W.heap.size ≤ Q) : ∀ (l : List Value) (w : World) (o : Nat), Keep P W w → Keep P W (w.setCells Q o l)
  | [], _, _, g => g
  | v :: l, w, o, g => by simp only [World.setCells]; exact keep_setAll hQ l _ _ (g.setNew hQ)
theorem one_cellC (c : List Int) : (⟨cellC c⟩ : Array Value).all (·.oneCell') = true := by
  simp [cellC, Value.oneCell']
theorem results_cell_one {fn : Func} {p : Tmp} {ty : TypeId} (h : fn.results = #[.cell p ty]) (tmps : Array Value) (P : Program) (w : World) :
    (results fn tmps).run P w = ((asAddr (tmps.getD p undef)).run P w).andThen fun a w₁ => (loadVar ty a).run P w₁ := by
  simp only [results, h]
  simp [Sem.run_bind, Result.andThen]
theorem ret_box1 {P : Program} {fn : Func} {a : Act} {w : World} {R : Ending → World → Prop} {p : Tmp} {ty : TypeId} (h : fn.results = #[.cell p ty]) (b : Nat) (cells : Array Value) (d : TypeDesc) (hp : a.tmps.getD p undef = .pointer (some ⟨b, 0, none⟩)) (hb : (∀ o : Nat, w.cell? ⟨b, o, none⟩ = (cells : Array Value)[o]?))
    (hu : P.underlying ty = some d) (hd : d.isRow = true) (hi : (P.info? ty).map (·.size) = some cells.size) (hdf : a.defers = []) (hR : R (.returned (.agg cells)) w) : bodyPost P fn R .ret a w := by
  refine bodyPost_ret (v := .agg cells) ?_ hdf hR
  rw [results_cell_one h, hp]
  have hl := run_loadVar_mid (P := P) w b 0 ty cells.toList d (fun j v hv => by rw [Nat.zero_add, hb j]; simpa using hv) hu hd (by simpa using hi)
  have e1 : (asAddr (.pointer (some ⟨b, 0, none⟩))).run P w = .ok ⟨b, 0, none⟩ w := rfl
  rw [e1]
  simp only [Result.andThen]
  rw [hl]
def CmdPost (B P : Nat) (s : Rd) (w : World) (e : Ending) (w' : World) : Prop := e = .returned (.agg ⟨cellC (cmdR s).1⟩) ∧ RdAt w' B P (cmdR s).2 ∧ Keep P w w'
set_option maxHeartbeats 400000 in
theorem cmd_rd (B P : Nat) (s : Rd) (W : World) (hr : RdAt W B P s) : Calls Tryz.prog 68 #[.pointer (some ⟨P, 0, none⟩)] W (CmdPost B P s W) := by
  have N1 := Lib.hid (fun w (h : RdAt w B P s) => number_any 1 (by omega) (by omega) B P s w h)
  have NN := Lib.hid (fun (n : Nat) (hn : n = 1 ∨ n = 2 ∨ n = 3) s w (h : RdAt w B P s) => number_any n (by omega) (by omega) B P s w h)
  obtain ⟨k, hk⟩ : ∃ k, (numI 1 s).1 = k := ⟨_, rfl⟩
  obtain ⟨s1, hs1⟩ : ∃ s1, (numI 1 s).2 = s1 := ⟨_, rfl⟩
  have hres : cmdR s = readR (fldsD k) (zeros.set 0 k) s1 := by unfold cmdR; rw [hk, hs1]
  unfold CmdPost
  rw [hres]
  have hlen := readR_len (fldsD k) (zeros.set 0 k) s1
  have h14 : (zeros.set 0 k).length = 14 := by simp [zeros]
  rw [h14] at hlen
  rw [hk, hs1] at N1
  have FA := Lib.hid (fields_any k)
  have HW := Lib.hid (fldsD_wide k)
  have HP := Lib.hid (fldsD_pos k).1
  have hn := fldsD_len k
  obtain ⟨fs, hfs⟩ : ∃ fs, fldsD k = fs := ⟨_, rfl⟩
  unfold FieldsPost at FA
  rw [hfs] at FA HW HP hn hlen
  rw [hfs]
  obtain ⟨R, hR⟩ : ∃ R, readR fs (zeros.set 0 k) s1 = R := ⟨_, rfl⟩
  rw [hR] at hlen ⊢
  obtain ⟨C, T⟩ := R
  simp only at hlen ⊢
  obtain ⟨dk, hdk⟩ : ∃ d, decide (kindP k) = d := ⟨_, rfl⟩
  rw [hdk] at FA
  have HR := Lib.hid hr
  have HRR := Lib.hid hR
  have H14 := Lib.hid h14
  have HLEN := Lib.hid hlen
  have hPW := hr.lt
  clear hk hs1 hres hlen h14 hfs hR hdk hr
  go_enter Tryz.func68, Tryz.ntmps68
  go_upto_region 1 with fail
  obtain ⟨Q, hQ⟩ : ∃ Q, W.heap.size = Q := ⟨_, rfl⟩
  refine opq (fun w' => (∀ o : Nat, w'.cell? ⟨Q, o, none⟩ = (⟨cellC zeros⟩ : Array Value)[o]?) ∧ (∀ o : Nat, w'.frozen? ⟨Q, o, none⟩ = false) ∧ Past W w' ∧ Q + 1 = w'.heap.size) (by subst hQ; rw [zeros_box]; exact ⟨box_new rfl, free_alloc (free_new (Nat.le_refl _)), (Past.refl W).alloc _, by simp⟩) ?_
  rintro w0 ⟨b0, f0, p0, z0⟩
  try simp only [hQ]
  have PQ : P < Q := by omega
  have WQ : W.heap.size ≤ Q := by omega
  have B0 := Lib.hid b0
  have F0 := Lib.hid f0
  have P0 := Lib.hid p0
  clear b0 f0 p0 hQ
  go_wp2_with (first | (refine (N1.out w0 (HR.out.past P0.out)).mono ?_))
  rintro e w1 ⟨rfl, r1, k1⟩
  have R1 : Hid ((∀ o : Nat, w1.cell? ⟨Q, o, none⟩ = (⟨cellC zeros⟩ : Array Value)[o]?) ∧ (∀ o : Nat, w1.frozen? ⟨Q, o, none⟩ = false) ∧ RdAt w1 B P s1 ∧ Keep P W w1 ∧ Q < w1.heap.size) := Lib.hid ⟨box_keep k1 B0.out (by omega) (by omega), free_keep k1 F0.out (by omega) (by omega), r1, (Keep.of_past P0.out).trans k1, by have := k1.2.2.1; omega⟩
  obtain ⟨D, hD⟩ : ∃ D, w1.heap.size = D := ⟨_, rfl⟩
  have QD : Q < D := by have := R1.out.2.2.2.2; omega
  clear r1 k1 B0 F0 P0 N1 HR
  go_upto_region 2 with fail
  refine opq (fun w' => (∀ o : Nat, w'.cell? ⟨D, o, none⟩ = (⟨cellC (zeros.set 0 k)⟩ : Array Value)[o]?) ∧ (∀ o : Nat, w'.frozen? ⟨D, o, none⟩ = false) ∧ Past w1 w' ∧ D < w'.heap.size) (by subst hD; rw [kind_box]; exact ⟨box_new rfl, free_alloc (free_new (Nat.le_refl _)), (Past.refl w1).alloc _, by simp⟩) ?_
  rintro w2 ⟨b2, f2, p2, z2⟩
  try simp only [hD]
  have h0 : w2.cell? ⟨D, 0, none⟩ = some (.int .i64 k) := b2 0
  have H0 := Lib.hid h0
  have R2 : Hid ((∀ o : Nat, w2.cell? ⟨Q, o, none⟩ = (⟨cellC zeros⟩ : Array Value)[o]?) ∧ (∀ o : Nat, w2.frozen? ⟨Q, o, none⟩ = false) ∧ RdAt w2 B P s1 ∧ Keep P W w2 ∧ (∀ o : Nat, w2.cell? ⟨D, o, none⟩ = (⟨cellC (zeros.set 0 k)⟩ : Array Value)[o]?) ∧ (∀ o : Nat, w2.frozen? ⟨D, o, none⟩ = false) ∧ D < w2.heap.size) := by
    obtain ⟨q1, q2, q3, q4, q5⟩ := R1.out
    exact Lib.hid ⟨box_past p2 q1 q5, free_past p2 q2 q5, q3.past p2, q4.trans (Keep.of_past p2), b2, f2, z2⟩
  clear b2 f2 p2 z2 h0 R1 hD
  go_wp2_with fail
  refine (FA.out D w2 H0.out).mono ?_
  rintro e w3 ⟨vf, rfl, hF, p3⟩
  obtain ⟨A, rfl, FP⟩ := hF.form
  have REL : Hid (∃ c' s', c'.length = 14 ∧ readR (fs.drop 0) c' s' = (C, T) ∧ (∀ o : Nat, w3.cell? ⟨Q, o, none⟩ = (⟨cellC zeros⟩ : Array Value)[o]?) ∧ (∀ o : Nat, w3.frozen? ⟨Q, o, none⟩ = false) ∧ RdAt w3 B P s' ∧ Keep P W w3 ∧ (∀ o : Nat, w3.cell? ⟨D, o, none⟩ = (⟨cellC c'⟩ : Array Value)[o]?) ∧ (∀ o : Nat, w3.frozen? ⟨D, o, none⟩ = false) ∧ D < w3.heap.size ∧ FldsP w3 D A fs) := by
    obtain ⟨q1, q2, q3, q4, q5, q6, q7⟩ := R2.out
    exact Lib.hid ⟨_, _, H14.out, HRR.out, box_past p3 q1 (by omega), free_past p3 q2 (by omega), q3.past p3, q4.trans (Keep.of_past p3), box_past p3 q5 q7, free_past p3 q6 q7, Nat.lt_of_lt_of_le q7 p3.2.2.1, FP⟩
  clear hF p3 FP R2 H0 FA HRR
  go_wp2_with fail
  go_loopw [17] (fun i wr => ∃ n : Nat, n ≤ fs.length ∧ i = .int .i64 n ∧ Hid (∃ c' s', c'.length = 14 ∧ readR (fs.drop n) c' s' = (C, T) ∧ (∀ o : Nat, wr.cell? ⟨Q, o, none⟩ = (⟨cellC zeros⟩ : Array Value)[o]?) ∧ (∀ o : Nat, wr.frozen? ⟨Q, o, none⟩ = false) ∧ RdAt wr B P s' ∧ Keep P W wr ∧ (∀ o : Nat, wr.cell? ⟨D, o, none⟩ = (⟨cellC c'⟩ : Array Value)[o]?) ∧ (∀ o : Nat, wr.frozen? ⟨D, o, none⟩ = false) ∧ D < wr.heap.size ∧ FldsP wr D A fs)) (fun i _ => fs.length - (intOf i).toNat)
  case atStart => exact ⟨0, by omega, rfl, REL⟩
  case round =>
    obtain ⟨n, hnl, rfl, R⟩ := hrel
    obtain ⟨c', s', l', g', q1, q2, q3, q4, q5, q6, q7, q8⟩ := R.out
    by_cases h : n < fs.length
    · obtain ⟨b, rfl, hbl, r0, r1, r2, r3⟩ := q8.at n h
      obtain ⟨b', eb, _, t0, _⟩ := q8.at 0 (by omega)
      simp only [Option.some.injEq, Addr.mk.injEq, and_true] at eb
      subst eb
      have hbP : b ≠ P := by
        intro e
        subst e
        obtain ⟨A', cap', bx, _⟩ := q3
        have h1 := bx 0
        rw [Nat.zero_mul] at t0
        rw [t0] at h1
        simp at h1
      have hbD : b ≠ D := by
        intro e
        subst e
        have h1 := boxC_cell q5 (j := 0) (by omega)
        rw [Nat.zero_mul] at t0
        rw [t0] at h1
        simp at h1
      have hfp := HP.out fs[n] (List.getElem_mem h)
      have hfw := HW.out fs[n] (List.getElem_mem h)
      have hd : fs.drop n = fs[n] :: fs.drop (n + 1) := List.drop_eq_getElem_cons h
      obtain ⟨f, hf⟩ : ∃ f, fs[n] = f := ⟨_, rfl⟩
      rw [hf] at r0 r1 r2 r3 hfp hfw hd
      rw [hd] at g'
      have NX := Lib.hid (NN.out f.wide hfw s')
      unfold readR at g'
      obtain ⟨Y, hY⟩ : ∃ Y, numI f.wide s' = Y := ⟨_, rfl⟩
      rw [hY] at g' NX
      obtain ⟨x, s2⟩ := Y
      simp only at g' NX
      have G := Lib.hid g'
      have L' := Lib.hid l'
      have HFP := Lib.hid hfp
      have Q7 := Lib.hid q7
      clear g' l' hfp hfw hd hf hY t0 R
      obtain ⟨po, lo, hi, wd⟩ := f
      simp only at r0 r1 r2 r3 NX HFP G
      have RR : Hid ((∀ o : Nat, wr.cell? ⟨Q, o, none⟩ = (⟨cellC zeros⟩ : Array Value)[o]?) ∧ (∀ o : Nat, wr.frozen? ⟨Q, o, none⟩ = false) ∧ RdAt wr B P s' ∧ Keep P W wr ∧ (∀ o : Nat, wr.cell? ⟨D, o, none⟩ = (⟨cellC c'⟩ : Array Value)[o]?) ∧ (∀ o : Nat, wr.frozen? ⟨D, o, none⟩ = false) ∧ D < wr.heap.size ∧ FldsP wr D (some ⟨b, 0, none⟩) fs) := Lib.hid ⟨q1, q2, q3, q4, q5, q6, q7, q8⟩
      clear q1 q2 q3 q4 q5 q6 q7 q8
      go_upto_region 6 with fail
      obtain ⟨X, hX⟩ : ∃ X, wr.heap.size = X := ⟨_, rfl⟩
      refine opq (fun w' => (∀ o : Nat, w'.cell? ⟨X, o, none⟩ = (#[.pointer (some ⟨D, po, none⟩), .int .i64 lo, .int .i64 hi, .int .i64 (wd : Int)] : Array Value)[o]?) ∧ Past wr w' ∧ X < w'.heap.size) (by subst hX; exact ⟨box_new rfl, (Past.refl _).alloc _, by simp⟩) ?_
      rintro w4 ⟨b4, p4, z4⟩
      try simp only [hX]
      have R4 : Hid ((∀ o : Nat, w4.drew.cell? ⟨Q, o, none⟩ = (⟨cellC zeros⟩ : Array Value)[o]?) ∧ (∀ o : Nat, w4.drew.frozen? ⟨Q, o, none⟩ = false) ∧ RdAt w4.drew B P s' ∧ Keep P W w4.drew ∧ (∀ o : Nat, w4.drew.cell? ⟨D, o, none⟩ = (⟨cellC c'⟩ : Array Value)[o]?) ∧ (∀ o : Nat, w4.drew.frozen? ⟨D, o, none⟩ = false) ∧ D < w4.drew.heap.size ∧ FldsP w4.drew D (some ⟨b, 0, none⟩) fs) := by
        obtain ⟨q1, q2, q3, q4, q5, q6, q7, q8⟩ := RR.out
        have p5 : Past wr w4.drew := p4
        have hq : Q < wr.heap.size := by omega
        exact Lib.hid ⟨box_past p5 q1 hq, free_past p5 q2 hq, q3.past p5, q4.trans (Keep.of_past p5), box_past p5 q5 q7, free_past p5 q6 q7, Nat.lt_of_lt_of_le q7 p5.2.2.1, q8.past p5⟩
      have DX : D < X := by have := Q7.out; omega
      have PX : P < X := by omega
      have Z4 := Lib.hid z4
      have B4 := Lib.hid (show (∀ o : Nat, w4.drew.cell? ⟨X, o, none⟩ = (#[.pointer (some ⟨D, po, none⟩), .int .i64 lo, .int .i64 hi, .int .i64 (wd : Int)] : Array Value)[o]?) from b4)
      clear r0 r1 r2 r3 RR Q7 p4 z4 hX
      refine wp_region_mixd [5, 7] (fun w' => (∀ o : Nat, w'.cell? ⟨X, o, none⟩ = (#[.pointer (some ⟨D, po, none⟩), .int .i64 lo, .int .i64 hi, .int .i64 (wd : Int)] : Array Value)[o]?)) [(21, ?va21), (22, ?va22), (23, ?va23), (24, ?va24), (25, ?va25), (27, ?va27)] [21, 22, 23, 24, 25, 27] (by kernel_rfl) (by kernel_rfl) rfl (by kernel_rfl) b4 (fun w h => h) ?alla ?fina
      case alla =>
        simp only [fillA, Act.put, List.setIfInBounds_toArray, List.set_cons_zero, List.set_cons_succ]
        iterate 8 (first | refine forced rfl ?_ | (refine reads (fun w hw K hK => ?_) ?_; focus ((have hS := Lib.hid hw); go_split_ands; go_simp; (try simp only [Act.put, List.setIfInBounds_toArray, List.set_cons_zero, List.set_cons_succ]); exact hK)))
        exact True.intro
      case fina =>
        simp only [fillA, Act.put, List.setIfInBounds_toArray, List.set_cons_zero, List.set_cons_succ]
        refine mix_at 26 rfl rfl (fun K hK => ?_)
        simp only [Act.put, List.setIfInBounds_toArray, List.set_cons_zero, List.set_cons_succ] at hK
        go_simp
        refine (NX.out _ R4.out.2.2.1).mono ?_
        rintro e w5 ⟨rfl, r5, k5⟩
        have R5 : Hid ((∀ o : Nat, w5.cell? ⟨Q, o, none⟩ = (⟨cellC zeros⟩ : Array Value)[o]?) ∧ (∀ o : Nat, w5.frozen? ⟨Q, o, none⟩ = false) ∧ RdAt w5 B P s2 ∧ Keep P W w5 ∧ (∀ o : Nat, w5.cell? ⟨D, o, none⟩ = (⟨cellC c'⟩ : Array Value)[o]?) ∧ (∀ o : Nat, w5.frozen? ⟨D, o, none⟩ = false) ∧ D < w5.heap.size ∧ FldsP w5 D (some ⟨b, 0, none⟩) fs) := by
          obtain ⟨q1, q2, q3, q4, q5, q6, q7, q8⟩ := R4.out
          exact Lib.hid ⟨box_keep k5 q1 (by omega) (by omega), free_keep k5 q2 (by omega) (by omega), r5, q4.trans k5, box_keep k5 q5 (by omega) (by omega), free_keep k5 q6 (by omega) (by omega), Nat.lt_of_lt_of_le q7 k5.2.2.1, q8.keep k5 (fun b' e => by simp only [Option.some.injEq, Addr.mk.injEq, and_true] at e; omega)⟩
        have B5 := Lib.hid (box_keep k5 B4.out Z4.out (by omega))
        refine hK _ _ B5.out ?_
        clear hK R4 B4 r5 k5 b4
        (try simp only [Act.put, List.setIfInBounds_toArray, List.set_cons_zero, List.set_cons_succ])
        refine mix_store rfl rfl (fun K hK => ?_)
        have CX := boxC_cell R5.out.2.2.2.2.1 (j := po) (by have := L'.out; have := HFP.out.1; omega)
        have FX := R5.out.2.2.2.2.2.1 po
        go_simp
        have R6 : Hid ((∀ o : Nat, (w5.setCell ⟨D, po, none⟩ (.int .i64 x)).cell? ⟨Q, o, none⟩ = (⟨cellC zeros⟩ : Array Value)[o]?) ∧ (∀ o : Nat, (w5.setCell ⟨D, po, none⟩ (.int .i64 x)).frozen? ⟨Q, o, none⟩ = false) ∧ RdAt (w5.setCell ⟨D, po, none⟩ (.int .i64 x)) B P s2 ∧ Keep P W (w5.setCell ⟨D, po, none⟩ (.int .i64 x)) ∧ (∀ o : Nat, (w5.setCell ⟨D, po, none⟩ (.int .i64 x)).cell? ⟨D, o, none⟩ = (⟨cellC (c'.set po x)⟩ : Array Value)[o]?) ∧ (∀ o : Nat, (w5.setCell ⟨D, po, none⟩ (.int .i64 x)).frozen? ⟨D, o, none⟩ = false) ∧ D < (w5.setCell ⟨D, po, none⟩ (.int .i64 x)).heap.size ∧ FldsP (w5.setCell ⟨D, po, none⟩ (.int .i64 x)) D (some ⟨b, 0, none⟩) fs) := by
          obtain ⟨q1, q2, q3, q4, q5, q6, q7, q8⟩ := R5.out
          refine Lib.hid ⟨box_set q1 (by dsimp only; omega), free_set q2, q3.set (by omega), q4.setNew (by omega), boxC_set q5 (by have := L'.out; have := HFP.out.1; omega), free_set q6, by rw [World.size_setCell]; exact q7, fun hp => ?_⟩
          obtain ⟨b2, e2, h1, h2⟩ := q8 hp
          simp only [Option.some.injEq, Addr.mk.injEq, and_true] at e2
          subst e2
          exact ⟨_, rfl, by rw [World.size_setCell]; exact h1, box_set h2 (by dsimp only; omega)⟩
        refine hK _ (box_set B5.out (by dsimp only; omega)) ?_
        clear hK R5 B5 CX FX
        (try simp only [Act.put, List.setIfInBounds_toArray, List.set_cons_zero, List.set_cons_succ])
        refine mix_nil ?_
        go_wp2_with fail
        go_roundw
        case rel => exact ⟨n + 1, by omega, by go_num, Lib.hid ⟨_, _, by rw [List.length_set]; exact L'.out, G.out, R6.out⟩⟩
        case measure => simp [intOf]; omega
    · have e0 : fs.drop n = [] := List.drop_of_length_le (by omega)
      rw [e0] at g'
      simp only [readR, Prod.mk.injEq] at g'
      obtain ⟨rfl, rfl⟩ := g'
      have SC := Lib.hid (cmdSize HLEN.out)
      have S14 := Lib.hid (show (⟨cellC zeros⟩ : Array Value).size = (⟨cellC c'⟩ : Array Value).size by rw [size_cellC HLEN.out]; rfl)
      have B8 := Lib.hid q5
      have BQ := Lib.hid q1
      have FQ := Lib.hid q2
      have K8 := Lib.hid (And.intro q3 q4)
      clear q1 q2 q3 q4 q5 q6 q7 q8 R l' e0
      go_wp2_with (first | refine wpList_load_box rfl 67 (.tmp 3) rfl D ⟨cellC c'⟩ rfl B8.out Tryz.underlying67 rfl SC.out ?_ | ((refine wpList_store_box rfl 67 (.tmp 2) (.tmp 29) rfl Q ⟨cellC c'⟩ _ rfl rfl BQ.out FQ.out S14.out SC.out (one_cellC c') (fun w' => (∀ o : Nat, w'.cell? ⟨Q, o, none⟩ = (⟨cellC c'⟩ : Array Value)[o]?) ∧ RdAt w' B P s' ∧ Keep P W w') ⟨box_setAll BQ.out S14.out, rd_setAll PQ _ _ _ K8.out.1, keep_setAll WQ _ _ _ K8.out.2⟩ ?_); rintro w9 ⟨b9, r9, k9⟩))
      have R9 := Lib.hid r9
      have K9 := Lib.hid k9
      exact ret_box1 rfl Q ⟨cellC c'⟩ _ rfl b9 Tryz.underlying67 rfl SC.out rfl ⟨rfl, R9.out, K9.out⟩
end Go.Proofs.YtejllmjkeefloaaGreat.Q8
