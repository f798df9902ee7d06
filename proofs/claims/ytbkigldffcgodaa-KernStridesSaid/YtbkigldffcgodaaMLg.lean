/- quiltlaw05: pair. -/
import Derived.Test.YtbkigldffcgodaaMLe
import Derived.Test.YtbkigldffcgodaaMLf
import Derived.Laws.ResultCell
namespace Go.Proofs.Ytbkigldffcgodaa
open Go.ChangeShapes Go.WideShapes Go.ChangeAt Go.RowKit
set_option maxRecDepth 20000
set_option linter.unusedVariables false
set_option linter.unusedSimpArgs false

theorem results_tct {fn : Func} {u p v : Tmp} {ty : TypeId} (h : fn.results = #[.tmp u, .cell p ty, .tmp v]) (tmps : Array Value) (P : Program) (w : World) :
    (results fn tmps).run P w = ((asAddr (tmps.getD p undef)).run P w).andThen fun a w₁ => ((loadVar ty a).run P w₁).andThen fun x w₂ => .ok (.tuple #[tmps.getD u undef, x, tmps.getD v undef]) w₂ := by
  simp only [results, h]
  simp [Sem.run_bind, Result.andThen]
theorem ret_tct {P : Program} {fn : Func} {a : Act} {w : World} {R : Ending → World → Prop} {u p v : Tmp} {ty : TypeId} (h : fn.results = #[.tmp u, .cell p ty, .tmp v]) (b : Nat) (cells : Array Value) (d : TypeDesc) (x y : Value) (hp : a.tmps.getD p undef = .pointer (some ⟨b, 0, none⟩)) (hx : a.tmps.getD u undef = x) (hy : a.tmps.getD v undef = y) (hb : (∀ o : Nat, w.cell? ⟨b, o, none⟩ = (cells : Array Value)[o]?))
    (hu : P.underlying ty = some d) (hd : d.isRow = true) (hi : (P.info? ty).map (·.size) = some cells.size) (hdf : a.defers = []) (hR : R (.returned (.tuple #[x, .agg cells, y])) w) : bodyPost P fn R .ret a w := by
  refine bodyPost_ret (v := .tuple #[x, .agg cells, y]) ?_ hdf hR
  rw [results_tct h, hp, hx, hy]
  have hl := run_loadVar_mid (P := P) w b 0 ty cells.toList d (fun j v hv => by rw [Nat.zero_add, hb j]; simpa using hv) hu hd (by simpa using hi)
  have e1 : (asAddr (.pointer (some ⟨b, 0, none⟩))).run P w = .ok ⟨b, 0, none⟩ w := rfl
  rw [e1]
  simp only [Result.andThen]
  rw [hl]

/-- A value with its nought held. -/
def heldV (v : ValD) : ValD := ⟨v.h, v.w, v.c, fx.held (-128) 127 v.z⟩
theorem heldV_wf {v : ValD} (h : ValWf v) : ValWf (heldV v) := by
  obtain ⟨a, b, c, _⟩ := h
  refine ⟨a, b, c, ?_⟩
  show (Lit.int .i64 (fx.held (-128) 127 v.z)).wf = true
  have : -128 ≤ fx.held (-128) 127 v.z ∧ fx.held (-128) 127 v.z ≤ 127 := by unfold fx.held; omega
  simp [Lit.wf, IntKind.min, IntKind.max, IntKind.bits, IntKind.signed]
  omega
def pairOk (l : List ValD) : Prop := 0 < l.length ∧ mayV (l.getD 0 default)
theorem vals2 {w : World} {b : Nat} {x y : ValD} (hx : ValWf x) (hy : ValWf y) (hb : b < w.heap.size) (h : (∀ o : Nat, w.cell? ⟨b, o, none⟩ = (#[.int .i64 x.h, .int .i64 x.w, .int .i64 x.c, .int .i64 x.z, .int .i64 y.h, .int .i64 y.w, .int .i64 y.c, .int .i64 y.z] : Array Value)[o]?)) : IsVals w (.slice (some ⟨b, 0, none⟩) 2 2) [x, y] := by
  refine ⟨some ⟨b, 0, none⟩, 2, rfl, Nat.le_refl _, by decide, (fun h => by cases h), (fun z hz => ?_), fun _ => ⟨b, 0, rfl, hb, fun i hi => ?_⟩⟩
  · simp only [List.mem_cons, List.not_mem_nil, or_false] at hz
    rcases hz with rfl | rfl
    · exact hx
    · exact hy
  · simp only [List.length_cons, List.length_nil] at hi
    rcases (show i = 0 ∨ i = 1 by omega) with rfl | rfl
    · exact ⟨h 0, h 1, h 2, h 3⟩
    · exact ⟨h 4, h 5, h 6, h 7⟩
theorem A2s8 : (Try.prog.info? 45).map (·.size) = some 2 := by kernel_rfl

set_option maxHeartbeats 4000000 in
theorem qpair_no (lv s0 s1 : Value) (l : List ValD) (xs ys : List Int) (W : World) (hl : IsVals W lv l) (h0 : IsNums .i8 W s0 xs) (h1 : IsNums .i8 W s1 ys) (hp : ¬ pairOk l) :
    Calls Try.prog 18 #[.agg #[lv, s0, s1]] W fun e w' => e = .returned (.tuple #[.slice none 0 0, .agg #[.slice none 0 0, .slice none 0 0], .bool false]) ∧ Past W w' := by
  obtain ⟨lv', hlv, SD⟩ := some_det lv l W hl
  obtain ⟨A0, c0, rfl, _⟩ := h0
  obtain ⟨A1, c1, rfl, _⟩ := h1
  obtain ⟨A, cap, rfl, _⟩ := hl
  obtain ⟨B, cap', rfl, b1, b2, _, b4, b5⟩ := hlv
  have S1 := Lib.hid SD
  obtain ⟨n, hn⟩ : ∃ n, (l.take 3).length = n := ⟨_, rfl⟩
  have hn3 : n ≤ 3 := by rw [← hn]; simp; omega
  rw [hn] at b1 b5
  simp only [hn] at S1
  go_enter Try.func18, Try.ntmps18
  go_upto_region 1 with fail
  refine opq (fun w' => (∀ o : Nat, w'.cell? ⟨W.heap.size, o, none⟩ = (#[.slice A l.length cap, .slice A0 xs.length c0, .slice A1 ys.length c1] : Array Value)[o]?) ∧ (∀ o : Nat, w'.cell? ⟨W.heap.size + 1, o, none⟩ = (#[.slice none 0 0, .slice none 0 0] : Array Value)[o]?) ∧ (∀ o : Nat, w'.frozen? ⟨W.heap.size + 1, o, none⟩ = false) ∧ Past W w' ∧ W.heap.size + 2 ≤ w'.heap.size) (by (((try dsimp only); (try go_split_ands); (repeat' with_reducible apply And.intro)) <;> ((repeat (first | (with_reducible (first | assumption | refine kbS ?_ | refine has_set ?_ | refine kcS ?_ | refine free_set ?_ | refine size_set ?_ | refine kgS ?_ | refine kpS ?_ | refine box_drewN ?_ | refine has_drewN ?_ | refine cell_drewN ?_ | refine free_drewN ?_ | refine size_drewN ?_ | refine Grown.drewN ?_ | refine Past.drewN ?_ | refine box_drew ?_ | refine has_drew ?_ | refine cell_drew ?_ | refine free_drew ?_ | refine size_drew ?_ | refine Grown.drew ?_ | refine Past.drew ?_ | exact kbN | refine kbO ?_ | refine khA ?_ | refine kcA ?_ | refine free_alloc ?_ | exact ksA | refine Grown.alloc ?_ _ _ | refine Past.alloc ?_ _ | exact kbG | exact khG | exact kcG | exact ksG | exact kfG | exact kgG | exact kbP | exact kfP | exact khP | exact kcP | exact ksP | exact kpP | exact kfN | refine Grown.past ?_ | exact Grown.refl _ | exact Past.refl _)) | omega)); done))) ?_
  rintro w1 ⟨b3, bb, f3, p1, z1⟩
  go_wp2_with fail
  refine (S1.out _).mono ?_
  rintro e w2 ⟨rfl, g2⟩
  have k3 := box_grown g2 bb (by omega)
  have kf := kfG g2 f3
  have p2 := past_trans3 p1 g2
  have z2 : W.heap.size + 2 ≤ w2.heap.size := by have := g2.2.2; omega
  clear b3 bb f3 p1 z1 g2
  by_cases c : n = 0
  · subst c
    have d1 : (((0 : Nat) : Int) == 0) = true := by decide
    go_upto_region 3 with fail
    go_wp2_with fail
    try simp only [Exit.inBlock, Exit.then]
    exact ret_tct rfl (W.heap.size + 1) #[.slice none 0 0, .slice none 0 0] _ _ _ rfl rfl rfl (box2_c1 (box2_c0 k3)) Try.underlying45 rfl A2s8 rfl ⟨rfl, by (((try dsimp only); (try go_split_ands); (repeat' with_reducible apply And.intro)) <;> ((repeat (first | (with_reducible (first | assumption | refine kbS ?_ | refine has_set ?_ | refine kcS ?_ | refine free_set ?_ | refine size_set ?_ | refine kgS ?_ | refine kpS ?_ | refine box_drewN ?_ | refine has_drewN ?_ | refine cell_drewN ?_ | refine free_drewN ?_ | refine size_drewN ?_ | refine Grown.drewN ?_ | refine Past.drewN ?_ | refine box_drew ?_ | refine has_drew ?_ | refine cell_drew ?_ | refine free_drew ?_ | refine size_drew ?_ | refine Grown.drew ?_ | refine Past.drew ?_ | exact kbN | refine kbO ?_ | refine khA ?_ | refine kcA ?_ | refine free_alloc ?_ | exact ksA | refine Grown.alloc ?_ _ _ | refine Past.alloc ?_ _ | exact kbG | exact khG | exact kcG | exact ksG | exact kfG | exact kgG | exact kbP | exact kfP | exact khP | exact kcP | exact ksP | exact kpP | exact kfN | refine Grown.past ?_ | exact Grown.refl _ | exact Past.refl _)) | omega)); done))⟩
  · have hl0 : 0 < l.length := by
      have : (l.take 3).length ≠ 0 := by omega
      simp at this
      exact List.length_pos_iff.2 this
    have hm : ¬ mayV (l.getD 0 default) := fun h => hp ⟨hl0, h⟩
    have e0 : (l.take 3).getD 0 default = l.getD 0 default := by simp [List.getD]
    obtain ⟨lb, lo, rfl, hlb, hlc⟩ := b5 (by omega)
    obtain ⟨y0, y1, y2, y3⟩ := (hlc 0 (by omega)).grow hlb p2
    rw [e0] at y0 y1 y2 y3
    obtain ⟨v, hv⟩ : ∃ v, l.getD 0 default = v := ⟨_, rfl⟩
    rw [hv] at y0 y1 y2 y3 hm
    simp only [Nat.zero_mul, Nat.add_zero] at y0 y1 y2 y3
    have RM := Lib.hid (fun w => rmay_no v.h v.w v.c w hm)
    have hlb2 : lb < w2.heap.size := Nat.lt_of_lt_of_le hlb p2.2.2.1
    have d1 : ((n : Int) == 0) = false := by rw [beq_eq_false_iff_ne]; omega
    have n1 : 0 < n := by omega
    have n2 : (0 : Int) < (n : Int) := by omega
    clear hlc hn hv e0 hm hp
    go_wp2_with fail
    refine (RM.out _).mono ?_
    rintro e w3 ⟨rfl, g3⟩
    have k33 := box_grown g3 k3 (by omega)
    have kf3 := kfG g3 kf
    have p3 := past_trans3 p2 g3
    clear k3 kf y0 y1 y2 y3 g3
    go_wp2_with fail
    try simp only [Exit.inBlock, Exit.then]
    exact ret_tct rfl (W.heap.size + 1) #[.slice none 0 0, .slice none 0 0] _ _ _ rfl rfl rfl (box2_c1 (box2_c0 k33)) Try.underlying45 rfl A2s8 rfl ⟨rfl, by (((try dsimp only); (try go_split_ands); (repeat' with_reducible apply And.intro)) <;> ((repeat (first | (with_reducible (first | assumption | refine kbS ?_ | refine has_set ?_ | refine kcS ?_ | refine free_set ?_ | refine size_set ?_ | refine kgS ?_ | refine kpS ?_ | refine box_drewN ?_ | refine has_drewN ?_ | refine cell_drewN ?_ | refine free_drewN ?_ | refine size_drewN ?_ | refine Grown.drewN ?_ | refine Past.drewN ?_ | refine box_drew ?_ | refine has_drew ?_ | refine cell_drew ?_ | refine free_drew ?_ | refine size_drew ?_ | refine Grown.drew ?_ | refine Past.drew ?_ | exact kbN | refine kbO ?_ | refine khA ?_ | refine kcA ?_ | refine free_alloc ?_ | exact ksA | refine Grown.alloc ?_ _ _ | refine Past.alloc ?_ _ | exact kbG | exact khG | exact kcG | exact ksG | exact kfG | exact kgG | exact kbP | exact kfP | exact khP | exact kcP | exact ksP | exact kpP | exact kfN | refine Grown.past ?_ | exact Grown.refl _ | exact Past.refl _)) | omega)); done))⟩

theorem dataL_len {x : ValD} {ls : List Int} (hm : mayV x) : ((dataL x ls).length : Int) = sizeI x.h x.w x.c := by
  have := idx_lt_size hm
  unfold dataL
  rw [fillL_len]
  omega
theorem dataL_held (v : ValD) (ls : List Int) : dataL (heldV v) ls = dataL v ls := rfl

theorem box4_z3 {w : World} {b : Nat} {x0 x1 x2 x3 y : Value} (h : (∀ o : Nat, w.cell? ⟨b, o, none⟩ = (#[x0, x1, x2, x3] : Array Value)[o]?)) : (∀ o : Nat, (w.setCell ⟨b, 3, none⟩ y).cell? ⟨b, o, none⟩ = (#[x0, x1, x2, y] : Array Value)[o]?) := by
  intro o
  match o with
  | 0 => rw [World.cell?_setCell_other _ _ _ _ (by simp)]; exact h 0
  | 1 => rw [World.cell?_setCell_other _ _ _ _ (by simp)]; exact h 1
  | 2 => rw [World.cell?_setCell_other _ _ _ _ (by simp)]; exact h 2
  | 3 => exact World.cell?_setCell_same w _ _ (h 3)
  | k + 4 => rw [World.cell?_setCell_other _ _ _ _ (by simp)]; have := h (k + 4); simpa using this
theorem vals_set {w : World} {q n c b : Nat} (s : Nat) (u : Value) {l : List ValD} (h : IsVals w (.slice (some ⟨q, 0, none⟩) n c) l) (hb : q ≠ b) : IsVals (w.setCell ⟨b, s, none⟩ u) (.slice (some ⟨q, 0, none⟩) n c) l := by
  obtain ⟨A, cap, e, h2, h3, h4, h5, h6⟩ := h
  refine ⟨A, cap, e, h2, h3, h4, h5, fun hp => ?_⟩
  obtain ⟨b', off, e', hlt, hc⟩ := h6 hp
  simp only [Value.slice.injEq] at e
  obtain ⟨rfl, _, _⟩ := e
  simp only [Option.some.injEq, Addr.mk.injEq, and_true] at e'
  obtain ⟨rfl, rfl⟩ := e'
  refine ⟨_, _, rfl, by simpa using hlt, fun i hi => ?_⟩
  obtain ⟨y0, y1, y2, y3⟩ := hc i hi
  have k : ∀ o, (w.setCell ⟨b, s, none⟩ u).cell? ⟨q, o, none⟩ = w.cell? ⟨q, o, none⟩ := fun o => World.cell?_setCell_other _ _ _ _ (by simp [hb])
  exact ⟨(k _).trans y0, (k _).trans y1, (k _).trans y2, (k _).trans y3⟩

set_option maxHeartbeats 8000000 in
theorem qpair_yes (lv s0 s1 : Value) (l : List ValD) (v : ValD) (xs ys : List Int) (W : World) (hl : IsVals W lv l) (h0 : IsNums .i8 W s0 xs) (h1 : IsNums .i8 W s1 ys) (hp : pairOk l) (hv : l.getD 0 default = v) :
    Calls Try.prog 18 #[.agg #[lv, s0, s1]] W fun e w' => ∃ b u0 u1, e = .returned (.tuple #[.slice (some ⟨b, 0, none⟩) 2 2, .agg #[u0, u1], .bool true]) ∧ IsVals w' (.slice (some ⟨b, 0, none⟩) 2 2) [heldV v, heldV v] ∧ Own8 w' W.heap.size u0 (dataL (heldV v) xs) ∧ Own8 w' W.heap.size u1 (dataL (heldV v) ys) ∧ Past W w' := by
  obtain ⟨lv', hlv, SD⟩ := some_det lv l W hl
  have N0 := Lib.hid h0
  have N1 := Lib.hid h1
  obtain ⟨A0, c0, rfl, _⟩ := h0
  obtain ⟨A1, c1, rfl, _⟩ := h1
  obtain ⟨A, cap, rfl, _, _, _, wl, _⟩ := hl
  obtain ⟨B, cap', rfl, b1, b2, _, b4, b5⟩ := hlv
  have S1 := Lib.hid SD
  obtain ⟨n, hn⟩ : ∃ n, (l.take 3).length = n := ⟨_, rfl⟩
  have hn3 : n ≤ 3 := by rw [← hn]; simp; omega
  have n1 : 0 < n := by rw [← hn]; have := hp.1; simp; omega
  have wv : ValWf v := by
    have e : v ∈ l := by
      rw [← hv]
      have k := hp.1
      simp [List.getD, List.getElem?_eq_getElem k]
    exact wl _ e
  rw [hn] at b1 b5
  simp only [hn] at S1
  have e0 : (l.take 3).getD 0 default = l.getD 0 default := by simp [List.getD]
  obtain ⟨lb, lo, rfl, hlb, hlc⟩ := b5 (by omega)
  have C0 := Lib.hid (hlc 0 (by omega))
  rw [e0, hv] at C0
  have hm : mayS v.h v.w v.c := by have := hp.2; rw [hv] at this; exact this
  have RM := Lib.hid (fun w => rmay_yes v.h v.w v.c w hm)
  have WV := Lib.hid wv
  have d1 : ((n : Int) == 0) = false := by rw [beq_eq_false_iff_ne]; omega
  have n2 : (0 : Int) < (n : Int) := by omega
  obtain ⟨z, hz⟩ : ∃ z, fx.held (-128) 127 v.z = z := ⟨_, rfl⟩
  have HZ := Lib.hid hz
  clear hlc hn hv e0 hm hp b4 b5 SD wv hz wl
  go_enter Try.func18, Try.ntmps18
  go_upto_region 1 with fail
  refine opq (fun w' => (∀ o : Nat, w'.cell? ⟨W.heap.size, o, none⟩ = (#[.slice A l.length cap, .slice A0 xs.length c0, .slice A1 ys.length c1] : Array Value)[o]?) ∧ (∀ o : Nat, w'.cell? ⟨W.heap.size + 1, o, none⟩ = (#[.slice none 0 0, .slice none 0 0] : Array Value)[o]?) ∧ (∀ o : Nat, w'.frozen? ⟨W.heap.size + 1, o, none⟩ = false) ∧ Past W w' ∧ W.heap.size + 2 ≤ w'.heap.size) (by (((try dsimp only); (try go_split_ands); (repeat' with_reducible apply And.intro)) <;> ((repeat (first | (with_reducible (first | assumption | refine kbS ?_ | refine has_set ?_ | refine kcS ?_ | refine free_set ?_ | refine size_set ?_ | refine kgS ?_ | refine kpS ?_ | refine box_drewN ?_ | refine has_drewN ?_ | refine cell_drewN ?_ | refine free_drewN ?_ | refine size_drewN ?_ | refine Grown.drewN ?_ | refine Past.drewN ?_ | refine box_drew ?_ | refine has_drew ?_ | refine cell_drew ?_ | refine free_drew ?_ | refine size_drew ?_ | refine Grown.drew ?_ | refine Past.drew ?_ | exact kbN | refine kbO ?_ | refine khA ?_ | refine kcA ?_ | refine free_alloc ?_ | exact ksA | refine Grown.alloc ?_ _ _ | refine Past.alloc ?_ _ | exact kbG | exact khG | exact kcG | exact ksG | exact kfG | exact kgG | exact kbP | exact kfP | exact khP | exact kcP | exact ksP | exact kpP | exact kfN | refine Grown.past ?_ | exact Grown.refl _ | exact Past.refl _)) | omega)); done))) ?_
  rintro w1 ⟨b3, bb, f3, p1, z1⟩
  go_wp2_with fail
  refine (S1.out _).mono ?_
  rintro e w2 ⟨rfl, g2⟩
  have b32 := box_grown g2 b3 (by omega)
  have k3 := box_grown g2 bb (by omega)
  have kf := kfG g2 f3
  have p2 := past_trans3 p1 g2
  have z2 : W.heap.size + 2 ≤ w2.heap.size := by have := g2.2.2; omega
  clear b3 bb f3 p1 z1 g2
  obtain ⟨y0, y1, y2, y3⟩ := C0.out.grow hlb p2
  simp only [Nat.zero_mul, Nat.add_zero] at y0 y1 y2 y3
  have hlb2 : lb < w2.heap.size := Nat.lt_of_lt_of_le hlb p2.2.2.1
  go_wp2_with fail
  refine (RM.out _).mono ?_
  rintro e w3 ⟨rfl, g3⟩
  have b33 := box_grown g3 b32 (by omega)
  have k33 := box_grown g3 k3 (by omega)
  have kf3 := kfG g3 kf
  have p3 := past_trans3 p2 g3
  have z3 : W.heap.size + 2 ≤ w3.heap.size := by have := g3.2.2; omega
  have c0' := cell_grown g3 y0 hlb2
  have c1' := cell_grown g3 y1 hlb2
  have c2' := cell_grown g3 y2 hlb2
  have c3' := cell_grown g3 y3 hlb2
  have hlb3 : lb < w3.heap.size := Nat.lt_of_lt_of_le hlb p3.2.2.1
  clear y0 y1 y2 y3 b32 k3 kf p2 z2 hlb2 g3
  go_upto_region 5 with fail
  refine opq (fun w' => (∀ o : Nat, w'.cell? ⟨W.heap.size, o, none⟩ = (#[.slice A l.length cap, .slice A0 xs.length c0, .slice A1 ys.length c1] : Array Value)[o]?) ∧ (∀ o : Nat, w'.cell? ⟨W.heap.size + 1, o, none⟩ = (#[.slice none 0 0, .slice none 0 0] : Array Value)[o]?) ∧ (∀ o : Nat, w'.frozen? ⟨W.heap.size + 1, o, none⟩ = false) ∧ (∀ o : Nat, w'.cell? ⟨w3.heap.size, o, none⟩ = (#[.int .i64 v.h, .int .i64 v.w, .int .i64 v.c, .int .i64 v.z] : Array Value)[o]?) ∧ (∀ o : Nat, w'.frozen? ⟨w3.heap.size, o, none⟩ = false) ∧ Past W w' ∧ w3.heap.size + 1 ≤ w'.heap.size) (by (((try dsimp only); (try go_split_ands); (repeat' with_reducible apply And.intro)) <;> ((repeat (first | (with_reducible (first | assumption | refine kbS ?_ | refine has_set ?_ | refine kcS ?_ | refine free_set ?_ | refine size_set ?_ | refine kgS ?_ | refine kpS ?_ | refine box_drewN ?_ | refine has_drewN ?_ | refine cell_drewN ?_ | refine free_drewN ?_ | refine size_drewN ?_ | refine Grown.drewN ?_ | refine Past.drewN ?_ | refine box_drew ?_ | refine has_drew ?_ | refine cell_drew ?_ | refine free_drew ?_ | refine size_drew ?_ | refine Grown.drew ?_ | refine Past.drew ?_ | exact kbN | refine kbO ?_ | refine khA ?_ | refine kcA ?_ | refine free_alloc ?_ | exact ksA | refine Grown.alloc ?_ _ _ | refine Past.alloc ?_ _ | exact kbG | exact khG | exact kcG | exact ksG | exact kfG | exact kgG | exact kbP | exact kfP | exact khP | exact kcP | exact ksP | exact kpP | exact kfN | refine Grown.past ?_ | exact Grown.refl _ | exact Past.refl _)) | omega)); done))) ?_
  rintro w4 ⟨b3, bb, f3, b6, f6, p4, z4⟩
  obtain ⟨P6, hP6⟩ : ∃ P6, w3.heap.size = P6 := ⟨_, rfl⟩
  rw [hP6] at b6 f6 z4 z3
  simp only [hP6]
  clear hP6 c0' c1' c2' c3' hlb3 b33 k33 kf3 p3
  go_upto_region 6 with fail
  have HE : (if 127 < if v.z < -128 then -128 else v.z then 127 else if v.z < -128 then -128 else v.z) = z := by rw [← HZ.out]; unfold fx.held; omega
  simp only [HE]
  obtain ⟨y8, hy8⟩ : ∃ y8, (if v.z < -128 then -128 else v.z) = y8 := ⟨_, rfl⟩
  simp only [hy8]
  clear HE hy8
  refine opq (fun w' => (∀ o : Nat, w'.cell? ⟨W.heap.size, o, none⟩ = (#[.slice A l.length cap, .slice A0 xs.length c0, .slice A1 ys.length c1] : Array Value)[o]?) ∧ (∀ o : Nat, w'.cell? ⟨W.heap.size + 1, o, none⟩ = (#[.slice none 0 0, .slice none 0 0] : Array Value)[o]?) ∧ (∀ o : Nat, w'.frozen? ⟨W.heap.size + 1, o, none⟩ = false) ∧ (∀ o : Nat, w'.cell? ⟨P6, o, none⟩ = (#[.int .i64 v.h, .int .i64 v.w, .int .i64 v.c, .int .i64 z] : Array Value)[o]?) ∧ (∀ o : Nat, w'.frozen? ⟨P6, o, none⟩ = false) ∧ Past W w' ∧ P6 + 1 ≤ w'.heap.size) ⟨by (((try dsimp only); (try go_split_ands); (repeat' with_reducible apply And.intro)) <;> ((repeat (first | (with_reducible (first | assumption | refine kbS ?_ | refine has_set ?_ | refine kcS ?_ | refine free_set ?_ | refine size_set ?_ | refine kgS ?_ | refine kpS ?_ | refine box_drewN ?_ | refine has_drewN ?_ | refine cell_drewN ?_ | refine free_drewN ?_ | refine size_drewN ?_ | refine Grown.drewN ?_ | refine Past.drewN ?_ | refine box_drew ?_ | refine has_drew ?_ | refine cell_drew ?_ | refine free_drew ?_ | refine size_drew ?_ | refine Grown.drew ?_ | refine Past.drew ?_ | exact kbN | refine kbO ?_ | refine khA ?_ | refine kcA ?_ | refine free_alloc ?_ | exact ksA | refine Grown.alloc ?_ _ _ | refine Past.alloc ?_ _ | exact kbG | exact khG | exact kcG | exact ksG | exact kfG | exact kgG | exact kbP | exact kfP | exact khP | exact kcP | exact ksP | exact kpP | exact kfN | refine Grown.past ?_ | exact Grown.refl _ | exact Past.refl _)) | omega)); done)), by (((try dsimp only); (try go_split_ands); (repeat' with_reducible apply And.intro)) <;> ((repeat (first | (with_reducible (first | assumption | refine kbS ?_ | refine has_set ?_ | refine kcS ?_ | refine free_set ?_ | refine size_set ?_ | refine kgS ?_ | refine kpS ?_ | refine box_drewN ?_ | refine has_drewN ?_ | refine cell_drewN ?_ | refine free_drewN ?_ | refine size_drewN ?_ | refine Grown.drewN ?_ | refine Past.drewN ?_ | refine box_drew ?_ | refine has_drew ?_ | refine cell_drew ?_ | refine free_drew ?_ | refine size_drew ?_ | refine Grown.drew ?_ | refine Past.drew ?_ | exact kbN | refine kbO ?_ | refine khA ?_ | refine kcA ?_ | refine free_alloc ?_ | exact ksA | refine Grown.alloc ?_ _ _ | refine Past.alloc ?_ _ | exact kbG | exact khG | exact kcG | exact ksG | exact kfG | exact kgG | exact kbP | exact kfP | exact khP | exact kcP | exact ksP | exact kpP | exact kfN | refine Grown.past ?_ | exact Grown.refl _ | exact Past.refl _)) | omega)); done)), by (((try dsimp only); (try go_split_ands); (repeat' with_reducible apply And.intro)) <;> ((repeat (first | (with_reducible (first | assumption | refine kbS ?_ | refine has_set ?_ | refine kcS ?_ | refine free_set ?_ | refine size_set ?_ | refine kgS ?_ | refine kpS ?_ | refine box_drewN ?_ | refine has_drewN ?_ | refine cell_drewN ?_ | refine free_drewN ?_ | refine size_drewN ?_ | refine Grown.drewN ?_ | refine Past.drewN ?_ | refine box_drew ?_ | refine has_drew ?_ | refine cell_drew ?_ | refine free_drew ?_ | refine size_drew ?_ | refine Grown.drew ?_ | refine Past.drew ?_ | exact kbN | refine kbO ?_ | refine khA ?_ | refine kcA ?_ | refine free_alloc ?_ | exact ksA | refine Grown.alloc ?_ _ _ | refine Past.alloc ?_ _ | exact kbG | exact khG | exact kcG | exact ksG | exact kfG | exact kgG | exact kbP | exact kfP | exact khP | exact kcP | exact ksP | exact kpP | exact kfN | refine Grown.past ?_ | exact Grown.refl _ | exact Past.refl _)) | omega)); done)), box4_z3 b6, by (((try dsimp only); (try go_split_ands); (repeat' with_reducible apply And.intro)) <;> ((repeat (first | (with_reducible (first | assumption | refine kbS ?_ | refine has_set ?_ | refine kcS ?_ | refine free_set ?_ | refine size_set ?_ | refine kgS ?_ | refine kpS ?_ | refine box_drewN ?_ | refine has_drewN ?_ | refine cell_drewN ?_ | refine free_drewN ?_ | refine size_drewN ?_ | refine Grown.drewN ?_ | refine Past.drewN ?_ | refine box_drew ?_ | refine has_drew ?_ | refine cell_drew ?_ | refine free_drew ?_ | refine size_drew ?_ | refine Grown.drew ?_ | refine Past.drew ?_ | exact kbN | refine kbO ?_ | refine khA ?_ | refine kcA ?_ | refine free_alloc ?_ | exact ksA | refine Grown.alloc ?_ _ _ | refine Past.alloc ?_ _ | exact kbG | exact khG | exact kcG | exact ksG | exact kfG | exact kgG | exact kbP | exact kfP | exact khP | exact kcP | exact ksP | exact kpP | exact kfN | refine Grown.past ?_ | exact Grown.refl _ | exact Past.refl _)) | omega)); done)), by (((try dsimp only); (try go_split_ands); (repeat' with_reducible apply And.intro)) <;> ((repeat (first | (with_reducible (first | assumption | refine kbS ?_ | refine has_set ?_ | refine kcS ?_ | refine free_set ?_ | refine size_set ?_ | refine kgS ?_ | refine kpS ?_ | refine box_drewN ?_ | refine has_drewN ?_ | refine cell_drewN ?_ | refine free_drewN ?_ | refine size_drewN ?_ | refine Grown.drewN ?_ | refine Past.drewN ?_ | refine box_drew ?_ | refine has_drew ?_ | refine cell_drew ?_ | refine free_drew ?_ | refine size_drew ?_ | refine Grown.drew ?_ | refine Past.drew ?_ | exact kbN | refine kbO ?_ | refine khA ?_ | refine kcA ?_ | refine free_alloc ?_ | exact ksA | refine Grown.alloc ?_ _ _ | refine Past.alloc ?_ _ | exact kbG | exact khG | exact kcG | exact ksG | exact kfG | exact kgG | exact kbP | exact kfP | exact khP | exact kcP | exact ksP | exact kpP | exact kfN | refine Grown.past ?_ | exact Grown.refl _ | exact Past.refl _)) | omega)); done)), by (((try dsimp only); (try go_split_ands); (repeat' with_reducible apply And.intro)) <;> ((repeat (first | (with_reducible (first | assumption | refine kbS ?_ | refine has_set ?_ | refine kcS ?_ | refine free_set ?_ | refine size_set ?_ | refine kgS ?_ | refine kpS ?_ | refine box_drewN ?_ | refine has_drewN ?_ | refine cell_drewN ?_ | refine free_drewN ?_ | refine size_drewN ?_ | refine Grown.drewN ?_ | refine Past.drewN ?_ | refine box_drew ?_ | refine has_drew ?_ | refine cell_drew ?_ | refine free_drew ?_ | refine size_drew ?_ | refine Grown.drew ?_ | refine Past.drew ?_ | exact kbN | refine kbO ?_ | refine khA ?_ | refine kcA ?_ | refine free_alloc ?_ | exact ksA | refine Grown.alloc ?_ _ _ | refine Past.alloc ?_ _ | exact kbG | exact khG | exact kcG | exact ksG | exact kfG | exact kgG | exact kbP | exact kfP | exact khP | exact kcP | exact ksP | exact kpP | exact kfN | refine Grown.past ?_ | exact Grown.refl _ | exact Past.refl _)) | omega)); done))⟩ ?_
  rintro w5 ⟨b35, bb5, f35, b65, f65, p5, z5⟩
  clear b3 bb f3 b6 f6 p4 z4
  go_upto_region 7 with fail
  refine opq (fun w' => (∀ o : Nat, w'.cell? ⟨W.heap.size, o, none⟩ = (#[.slice A l.length cap, .slice A0 xs.length c0, .slice A1 ys.length c1] : Array Value)[o]?) ∧ (∀ o : Nat, w'.cell? ⟨W.heap.size + 1, o, none⟩ = (#[.slice none 0 0, .slice none 0 0] : Array Value)[o]?) ∧ (∀ o : Nat, w'.frozen? ⟨W.heap.size + 1, o, none⟩ = false) ∧ (∀ o : Nat, w'.cell? ⟨w5.heap.size, o, none⟩ = (#[.int .i64 v.h, .int .i64 v.w, .int .i64 v.c, .int .i64 z, .int .i64 v.h, .int .i64 v.w, .int .i64 v.c, .int .i64 z] : Array Value)[o]?) ∧ Past W w' ∧ w5.heap.size + 1 ≤ w'.heap.size) (by (((try dsimp only); (try go_split_ands); (repeat' with_reducible apply And.intro)) <;> ((repeat (first | (with_reducible (first | assumption | refine kbS ?_ | refine has_set ?_ | refine kcS ?_ | refine free_set ?_ | refine size_set ?_ | refine kgS ?_ | refine kpS ?_ | refine box_drewN ?_ | refine has_drewN ?_ | refine cell_drewN ?_ | refine free_drewN ?_ | refine size_drewN ?_ | refine Grown.drewN ?_ | refine Past.drewN ?_ | refine box_drew ?_ | refine has_drew ?_ | refine cell_drew ?_ | refine free_drew ?_ | refine size_drew ?_ | refine Grown.drew ?_ | refine Past.drew ?_ | exact kbN | refine kbO ?_ | refine khA ?_ | refine kcA ?_ | refine free_alloc ?_ | exact ksA | refine Grown.alloc ?_ _ _ | refine Past.alloc ?_ _ | exact kbG | exact khG | exact kcG | exact ksG | exact kfG | exact kgG | exact kbP | exact kfP | exact khP | exact kcP | exact ksP | exact kpP | exact kfN | refine Grown.past ?_ | exact Grown.refl _ | exact Past.refl _)) | omega)); done))) ?_
  rintro w6 ⟨b36, bb6, f36, b76, p6, z6⟩
  have IV : IsVals w6 (.slice (some ⟨w5.heap.size, 0, none⟩) 2 2) [heldV v, heldV v] := vals2 (heldV_wf WV.out) (heldV_wf WV.out) (by omega) (by unfold heldV; rw [HZ.out]; exact b76)
  have DT := data_two _ _ _ (heldV v) (heldV v) xs ys w6 IV (N0.out.grow p6) (N1.out.grow p6)
  clear b35 bb5 f35 b65 f65
  go_wp2_with fail
  refine DT.mono ?_
  rintro e w7 ⟨u0, u1, rfl, o0, o1, p7⟩
  have IV7 := IV.grow p7
  have bb7 := box_past p7 bb6 (by omega)
  have f37 := free_past p7 f36 (by omega)
  have p8 := p6.trans p7
  obtain ⟨V0, k0, rfl⟩ := o0.form
  obtain ⟨V1, k1, rfl⟩ := o1.form
  have bsz : W.heap.size + 1 < w6.heap.size := by omega
  clear b36 bb6 f36 b76 z6 IV DT
  go_wp2_with fail
  try simp only [Exit.inBlock, Exit.then]
  have IV8 := vals_set (b := W.heap.size + 1) 1 (.slice V1 (dataL (heldV v) ys).length k1) (vals_set (b := W.heap.size + 1) 0 (.slice V0 (dataL (heldV v) xs).length k0) IV7 (show w5.heap.size ≠ W.heap.size + 1 by omega)) (show w5.heap.size ≠ W.heap.size + 1 by omega)
  exact ret_tct rfl (W.heap.size + 1) #[.slice V0 (dataL (heldV v) xs).length k0, .slice V1 (dataL (heldV v) ys).length k1] _ _ _ rfl rfl rfl (box2_c1 (box2_c0 bb7)) Try.underlying45 rfl A2s8 rfl ⟨_, _, _, rfl, IV8, own8_base (o0.set2 _ _ (by omega)) (by omega), own8_base (o1.set2 _ _ (by omega)) (by omega), by (((try dsimp only); (try go_split_ands); (repeat' with_reducible apply And.intro)) <;> ((repeat (first | (with_reducible (first | assumption | refine kbS ?_ | refine has_set ?_ | refine kcS ?_ | refine free_set ?_ | refine size_set ?_ | refine kgS ?_ | refine kpS ?_ | refine box_drewN ?_ | refine has_drewN ?_ | refine cell_drewN ?_ | refine free_drewN ?_ | refine size_drewN ?_ | refine Grown.drewN ?_ | refine Past.drewN ?_ | refine box_drew ?_ | refine has_drew ?_ | refine cell_drew ?_ | refine free_drew ?_ | refine size_drew ?_ | refine Grown.drew ?_ | refine Past.drew ?_ | exact kbN | refine kbO ?_ | refine khA ?_ | refine kcA ?_ | refine free_alloc ?_ | exact ksA | refine Grown.alloc ?_ _ _ | refine Past.alloc ?_ _ | exact kbG | exact khG | exact kcG | exact ksG | exact kfG | exact kgG | exact kbP | exact kfP | exact khP | exact kcP | exact ksP | exact kpP | exact kfN | refine Grown.past ?_ | exact Grown.refl _ | exact Past.refl _)) | omega)); done))⟩
end Go.Proofs.Ytbkigldffcgodaa
