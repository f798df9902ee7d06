/- The walk of KernWeights. -/
import Derived.Test.YtbkigldffcgodaaMWa
import Derived.Test.YtbkigldffcgodaaMDa
import Derived.Test.YtbkigldffcgodaaMLg
import Derived.Test.YtbkigldffcgodaaMFixQ
namespace Go.Proofs.Ytbkigldffcgodaa
open Go.ChangeShapes Go.WideShapes Go.ChangeAt Go.RowKit
set_option maxRecDepth 20000
set_option linter.unusedVariables false
set_option linter.unusedSimpArgs false

theorem two_cellsw {w : World} {b : Nat} {u y : ValD} (h : IsVals w (.slice (some ⟨b, 0, none⟩) 2 2) [u, y]) : b < w.heap.size ∧ w.cell? ⟨b, 0, none⟩ = some (.int .i64 u.h) ∧ w.cell? ⟨b, 1, none⟩ = some (.int .i64 u.w) ∧ w.cell? ⟨b, 2, none⟩ = some (.int .i64 u.c) ∧ w.cell? ⟨b, 3, none⟩ = some (.int .i64 u.z) := by
  obtain ⟨_, _, e, _, _, _, _, h⟩ := h
  simp only [Value.slice.injEq] at e
  obtain ⟨rfl, _, rfl⟩ := e
  obtain ⟨b', o', e, hb, hc⟩ := h (by simp)
  simp only [Option.some.injEq, Addr.mk.injEq, and_true] at e
  obtain ⟨rfl, rfl⟩ := e
  exact ⟨hb, hc 0 (by simp)⟩
theorem vals_one_ofw {w : World} {b : Nat} {u y : ValD} (h : IsVals w (.slice (some ⟨b, 0, none⟩) 2 2) [u, y]) : IsVals w (.slice (some ⟨b, 0, none⟩) 1 2) [u] := vals_few (xs := [u, y]) 1 h (by simp)
theorem past_cellw {w w' : World} {p : Addr} {v : Value} (g : Past w w') (hb : p.block < w.heap.size) (h : w.cell? p = some v) : w'.cell? p = some v := cell_past g h hb

theorem nums_one32 {w : World} {b : Nat} {x : Int} (hx : -2147483648 ≤ x ∧ x ≤ 2147483647) (hb : b < w.heap.size) (h : (∀ o : Nat, w.cell? ⟨b, o, none⟩ = (#[.int .i32 x] : Array Value)[o]?)) : IsNums .i32 w (.slice (some ⟨b, 0, none⟩) 1 1) [x] := by
  refine ⟨some ⟨b, 0, none⟩, 1, rfl, Nat.le_refl _, by decide, (fun h => by cases h), (fun z hz => ?_), fun _ => ⟨b, 0, rfl, hb, fun i hi => ?_⟩⟩
  · simp only [List.mem_cons, List.not_mem_nil, or_false] at hz
    subst hz
    simp [Lit.wf, IntKind.min, IntKind.max, IntKind.bits, IntKind.signed]; omega
  · simp only [List.length_cons, List.length_nil] at hi
    obtain rfl : i = 0 := by omega
    exact h 0
theorem own8_newat {w : World} {base n : Nat} (e : w.heap.size = n) (hb : base ≤ n) : Own8 (w.alloc (.cells #[] 52)) base (.slice (some ⟨n, 0, none⟩) 0 0) [] := by subst e; exact own8_new hb
theorem own32_newat {w : World} {base n : Nat} (e : w.heap.size = n) (hb : base ≤ n) : Own32 (w.alloc (.cells #[] 21)) base (.slice (some ⟨n, 0, none⟩) 0 0) [] := by subst e; exact own32_new hb
theorem apart_blocks {a b n m c d : Nat} (h : a ≠ b) : Apart (.slice (some ⟨a, 0, none⟩) n c) (.slice (some ⟨b, 0, none⟩) m d) := by
  intro k e1 e2
  simp only [Value.ownBlock, Option.some.injEq] at e1 e2
  omega
theorem Own8.kept {w w' : World} {base : Nat} {v : Value} {xs : List Int} {row : Option Nat} (h : Own8 w base v xs) (o : Obj) (g : (w.alloc o).grownBy w' row) (hne : v.ownBlock = none ∨ v.ownBlock ≠ row) : Own8 w' base v xs := World.ownsRow.kept (World.ownsRow.alloc h o) g hne
theorem Own32.kept {w w' : World} {base : Nat} {v : Value} {xs : List Int} {row : Option Nat} (h : Own32 w base v xs) (o : Obj) (g : (w.alloc o).grownBy w' row) (hne : v.ownBlock = none ∨ v.ownBlock ≠ row) : Own32 w' base v xs := World.ownsRow.kept (World.ownsRow.alloc h o) g hne
theorem Own8.apart32 {w : World} {base base' : Nat} {v v' : Value} {xs ys : List Int} (h : Own8 w base v xs) (k : Own32 w base' v' ys) : Apart v v' := own_apart h k (by decide)
theorem own32_rep {w : World} {base k : Nat} {v : Value} {b : Int} (h : w.ownsRow base 21 1 v (k + 1) (List.replicate k (.int .i32 b) ++ [.int .i32 b])) : Own32 w base v (List.replicate (k + 1) b) := by
  unfold Own32
  rw [List.length_replicate, List.map_replicate, List.replicate_succ']
  exact h
theorem own8_rep {w : World} {base k : Nat} {v : Value} {b : Int} (h : w.ownsRow base 52 1 v (k + 1) (List.replicate k (.int .i8 b) ++ [.int .i8 b])) : Own8 w base v (List.replicate (k + 1) b) := by
  unfold Own8
  rw [List.length_replicate, List.map_replicate, List.replicate_succ']
  exact h
theorem made8 (k : Nat) : (madeCells (Value.int .i8 0).cells (k * 1)).toList = List.replicate k (.int .i8 0) := by
  have e : (Value.int .i8 0).cells = #[.int .i8 0] := rfl
  simp [madeCells, e, Nat.mod_one, List.map_const']
theorem rep_succ (k : Nat) (b : Int) : List.replicate (k + 1) b = List.replicate k b ++ [b] := List.replicate_succ'

set_option maxHeartbeats 4000000 in
theorem weights_no (W : World) (dv : Value) (x : DataD) (hx : IsData W dv x) (bias : Int) (hp : ¬ pairOk x.l) :
    Calls Try.prog 8 #[dv, .int .i64 bias] W fun e w' => e = .returned (.bool true) ∧ Past W w' := by
  obtain ⟨lv, s0, s1, rfl, hl, h0, h1⟩ := hx
  have PN := Lib.hid (fun w (g : Past W w) => qpair_no lv s0 s1 x.l x.xs x.ys w (hl.grow g) (h0.grow g) (h1.grow g) hp)
  obtain ⟨A0, c0, rfl, _⟩ := h0
  obtain ⟨A1, c1, rfl, _⟩ := h1
  obtain ⟨A, cap, rfl, _⟩ := hl
  go_enter Try.func8, Try.ntmps8
  go_upto_region 1 with fail
  refine opq (fun w' => (∀ o : Nat, w'.cell? ⟨W.heap.size, o, none⟩ = (#[.slice A x.l.length cap, .slice A0 x.xs.length c0, .slice A1 x.ys.length c1] : Array Value)[o]?) ∧ Past W w' ∧ W.heap.size + 1 ≤ w'.heap.size) (by (((try dsimp only); (try go_split_ands); (repeat' with_reducible apply And.intro)) <;> ((repeat (first | (with_reducible (first | assumption | refine kbS ?_ | refine has_set ?_ | refine kcS ?_ | refine free_set ?_ | refine size_set ?_ | refine kgS ?_ | refine kpS ?_ | refine box_drewN ?_ | refine has_drewN ?_ | refine cell_drewN ?_ | refine free_drewN ?_ | refine size_drewN ?_ | refine Grown.drewN ?_ | refine Past.drewN ?_ | refine box_drew ?_ | refine has_drew ?_ | refine cell_drew ?_ | refine free_drew ?_ | refine size_drew ?_ | refine Grown.drew ?_ | refine Past.drew ?_ | exact kbN | refine kbO ?_ | refine khA ?_ | refine kcA ?_ | refine free_alloc ?_ | exact ksA | refine Grown.alloc ?_ _ _ | refine Past.alloc ?_ _ | exact kbG | exact khG | exact kcG | exact ksG | exact kfG | exact kgG | exact kbP | exact kfP | exact khP | exact kcP | exact ksP | exact kpP | exact kfN | refine Grown.past ?_ | exact Grown.refl _ | exact Past.refl _)) | omega)); done))) ?_
  rintro w1 ⟨b3, p1, z1⟩
  go_wp2_with fail
  refine (shown_any _).mono ?_
  rintro e w2 ⟨rfl, p2⟩
  have b32 := box_past p2 b3 (by omega)
  have pW := p1.trans p2
  clear b3 p1 p2 z1
  go_wp2_with fail
  refine (PN.out _ pW).mono ?_
  rintro e w3 ⟨rfl, p3⟩
  have pX := pW.trans p3
  clear b32 pW p3
  go_wp2_with fail
  go_ret
  exact ⟨rfl, by (((try dsimp only); (try go_split_ands); (repeat' with_reducible apply And.intro)) <;> ((repeat (first | (with_reducible (first | assumption | refine kbS ?_ | refine has_set ?_ | refine kcS ?_ | refine free_set ?_ | refine size_set ?_ | refine kgS ?_ | refine kpS ?_ | refine box_drewN ?_ | refine has_drewN ?_ | refine cell_drewN ?_ | refine free_drewN ?_ | refine size_drewN ?_ | refine Grown.drewN ?_ | refine Past.drewN ?_ | refine box_drew ?_ | refine has_drew ?_ | refine cell_drew ?_ | refine free_drew ?_ | refine size_drew ?_ | refine Grown.drew ?_ | refine Past.drew ?_ | exact kbN | refine kbO ?_ | refine khA ?_ | refine kcA ?_ | refine free_alloc ?_ | exact ksA | refine Grown.alloc ?_ _ _ | refine Past.alloc ?_ _ | exact kbG | exact khG | exact kcG | exact ksG | exact kfG | exact kgG | exact kbP | exact kfP | exact khP | exact kcP | exact ksP | exact kpP | exact kfN | refine Grown.past ?_ | exact Grown.refl _ | exact Past.refl _)) | omega)); done))⟩

set_option maxHeartbeats 60000000 in
theorem weights_yes (W : World) (dv : Value) (x : DataD) (hx : IsData W dv x) (bias : Int) (hp : pairOk x.l) :
    Calls Try.prog 8 #[dv, .int .i64 bias] W fun e w' => e = .returned (.bool true) ∧ Past W w' := by
  obtain ⟨lv, s0, s1, rfl, hl, h0, h1⟩ := hx
  obtain ⟨v, hv⟩ : ∃ v, x.l.getD 0 default = v := ⟨_, rfl⟩
  have PY := Lib.hid (fun w (g : Past W w) => qpair_yes lv s0 s1 x.l v x.xs x.ys w (hl.grow g) (h0.grow g) (h1.grow g) hp hv)
  have hm : mayV (heldV v) := by have := hp.2; rw [hv] at this; exact this
  have hz : -128 ≤ (heldV v).z ∧ (heldV v).z ≤ 127 := by show -128 ≤ fx.held (-128) 127 v.z ∧ fx.held (-128) 127 v.z ≤ 127; unfold fx.held; omega
  obtain ⟨D0, hD0⟩ : ∃ D, dataL (heldV v) x.xs = D := ⟨_, rfl⟩
  obtain ⟨D1, hD1⟩ : ∃ D, dataL (heldV v) x.ys = D := ⟨_, rfl⟩
  have B0 : ∀ q ∈ D0, -128 ≤ q ∧ q ≤ 127 := by rw [← hD0]; exact fillL_bd (nums_bd8 h0) _
  have F0 : FullV (viewOf (heldV v) D0) := viewOf_full hm hz (by rw [← hD0]; exact dataL_len hm) B0
  simp only [hD0, hD1] at PY
  obtain ⟨u, hu⟩ : ∃ u, heldV v = u := ⟨_, rfl⟩
  simp only [hu] at PY hm hz F0
  obtain ⟨H, Wd, C, eh, ew, ec, es, hH, hW, hC, H1, W1, C1⟩ := size_nat hm
  obtain ⟨N, hN⟩ : ∃ N, H * (Wd * C) = N := ⟨_, rfl⟩
  have sz : sizeI u.h u.w u.c = (N : Int) := by rw [es, hN]
  have N2 : N ≤ 2048 := by have := (idx_lt_size hm).2; omega
  have l0 : D0.length = N := by have := F0.2.2.2.2.1; have e : ((viewOf u D0).xs.length : Int) = D0.length := rfl; rw [e] at this; have : (D0.length : Int) = N := this.trans sz; omega
  have ch : u.h.toNat = H := by omega
  have cw : u.w.toNat = Wd := by omega
  have cc : u.c.toNat = C := by omega
  obtain ⟨b, hb⟩ : ∃ b, Int.tmod bias 1000 = b := ⟨_, rfl⟩
  have bb : -999 ≤ b ∧ b ≤ 999 := by
    have h1 := Int.tmod_lt_of_pos bias (show (0 : Int) < 1000 by decide)
    have h2 := Int.lt_tmod_of_pos bias (show (0 : Int) < 1000 by decide)
    rw [hb] at h1 h2
    omega
  have hl0 : D0.length = H * (Wd * C) := by rw [l0, hN]
  obtain ⟨E, hE⟩ : ∃ E, genL (eyeF C) (C * C) = E := ⟨_, rfl⟩
  obtain ⟨BS, hBS⟩ : ∃ E, List.replicate C b = E := ⟨_, rfl⟩
  obtain ⟨ON, hON⟩ : ∃ E, List.replicate C (1 : Int) = E := ⟨_, rfl⟩
  obtain ⟨ZE, hZE⟩ : ∃ E, List.replicate C (0 : Int) = E := ⟨_, rfl⟩
  obtain ⟨AL, hAL⟩ : ∃ E, List.replicate N (1 : Int) = E := ⟨_, rfl⟩
  have BE : ∀ q ∈ E, -128 ≤ q ∧ q ≤ 127 := by rw [← hE]; exact genL_bd (fun i _ => eye_bd C i)
  have BBS : ∀ q ∈ BS, -2147483648 ≤ q ∧ q ≤ 2147483647 := by rw [← hBS]; intro q hq; rw [List.eq_of_mem_replicate hq]; omega
  have BON : ∀ q ∈ ON, -128 ≤ q ∧ q ≤ 127 := by rw [← hON]; intro q hq; rw [List.eq_of_mem_replicate hq]; omega
  have BZE : ∀ q ∈ ZE, -128 ≤ q ∧ q ≤ 127 := by rw [← hZE]; intro q hq; rw [List.eq_of_mem_replicate hq]; omega
  have BAL : ∀ q ∈ AL, -128 ≤ q ∧ q ≤ 127 := by rw [← hAL]; intro q hq; rw [List.eq_of_mem_replicate hq]; omega
  have MP := conv_make hm F0 bb ec noView
  have MQ := depth_make (u := 1) hm F0 bb ec noView
  have MR := depth_make (u := 0) hm F0 bb ec noView
  have MT := full_make hm F0 bb sz noView
  rw [hE, hBS] at MP
  rw [hON, hBS] at MQ
  rw [hZE, hBS] at MR
  rw [hAL] at MT
  obtain ⟨LP, hLP⟩ : ∃ L, allL (oneK 1 C E BS) (viewOf u D0) noView (u.h, u.w, u.c) (Wd * C) N = L := ⟨_, rfl⟩
  obtain ⟨LQ, hLQ⟩ : ∃ L, allL (oneK 2 0 ON BS) (viewOf u D0) noView (u.h, u.w, u.c) (Wd * C) N = L := ⟨_, rfl⟩
  obtain ⟨LR, hLR⟩ : ∃ L, allL (oneK 2 0 ZE BS) (viewOf u D0) noView (u.h, u.w, u.c) (Wd * C) N = L := ⟨_, rfl⟩
  obtain ⟨LT, hLT⟩ : ∃ L, allL (wholeK AL [b]) (viewOf u D0) noView (1, 1, 1) 1 1 = L := ⟨_, rfl⟩
  have BP : ∀ q ∈ LP, -128 ≤ q ∧ q ≤ 127 := by have := allL_bd MP (fun k => getD_i8 BE k); simp only [ch, cw, cc, hN, hLP] at this; exact this
  have BQ : ∀ q ∈ LQ, -128 ≤ q ∧ q ≤ 127 := by have := allL_bd MQ (fun k => getD_i8 BON k); simp only [ch, cw, cc, hN, hLQ] at this; exact this
  have BR : ∀ q ∈ LR, -128 ≤ q ∧ q ≤ 127 := by have := allL_bd MR (fun k => getD_i8 BZE k); simp only [ch, cw, cc, hN, hLR] at this; exact this
  have BT : ∀ q ∈ LT, -128 ≤ q ∧ q ≤ 127 := by have := allL_bd MT (fun k => getD_i8 BAL k); have e : (allL (wholeK AL [b]) (viewOf u D0) noView (1, 1, 1) ((1 : Int).toNat * (1 : Int).toNat) ((1 : Int).toNat * ((1 : Int).toNat * (1 : Int).toNat))) = LT := hLT; rw [← hLT]; exact this
  have lP : LP.length = N := by rw [← hLP, allL_len]
  have lQ : LQ.length = N := by rw [← hLQ, allL_len]
  have lR : LR.length = N := by rw [← hLR, allL_len]
  have lT : LT.length = 1 := by rw [← hLT, allL_len]
  obtain ⟨z, hzz⟩ : ∃ z, u.z = z := ⟨_, rfl⟩
  have AP := Lib.hid (fun i (hi : i < N) => by have := conv_one hm hz B0 bb eh ew ec (i := i) (by rw [hN]; exact hi) noView; rw [hE, hBS, hN, hLP, hzz] at this; exact this)
  have AQ := Lib.hid (fun i (hi : i < N) => by have := depth_one (u := 1) hm hz B0 bb (.inr rfl) eh ew ec (i := i) (by rw [hN]; exact hi) noView; rw [hON, hBS, hN, hLQ, hzz, if_pos rfl] at this; exact this)
  have AR := Lib.hid (fun i (hi : i < N) => by have := depth_one (u := 0) hm hz B0 bb (.inl rfl) eh ew ec (i := i) (by rw [hN]; exact hi) noView; rw [hZE, hBS, hN, hLR, if_neg (by decide)] at this; exact this)
  have AT := Lib.hid (by have := full_one (v := u) hz B0 bb l0 N2 noView; rw [hAL, hLT, hzz] at this; exact this)
  have SR := Lib.hid (fun k (hk : k ≤ 2048) => sum_range B0 hz bb hk)
  rw [hzz] at SR hz
  have CP := Lib.hid (fun (tv vw vb sa sb : Value) (w : World) (hv : IsVals w tv [u]) (hw : IsNums .i8 w vw E) (hb : IsNums .i32 w vb BS) (ha : IsNums .i8 w sa D0) => All_1 (oneK 1 C E BS) (.slice none 0 0) vw vb tv (u.h, u.w, u.c) (viewOf u D0) sa sb [u] w MP rfl ⟨nums_nil _ _, hw, hb⟩ hv ha)
  have CQ := Lib.hid (fun (tv vw vb sa sb : Value) (w : World) (hv : IsVals w tv [u]) (hw : IsNums .i8 w vw ON) (hb : IsNums .i32 w vb BS) (ha : IsNums .i8 w sa D0) => All_1 (oneK 2 0 ON BS) (.slice none 0 0) vw vb tv (u.h, u.w, u.c) (viewOf u D0) sa sb [u] w MQ rfl ⟨nums_nil _ _, hw, hb⟩ hv ha)
  have CR := Lib.hid (fun (tv vw vb sa sb : Value) (w : World) (hv : IsVals w tv [u]) (hw : IsNums .i8 w vw ZE) (hb : IsNums .i32 w vb BS) (ha : IsNums .i8 w sa D0) => All_1 (oneK 2 0 ZE BS) (.slice none 0 0) vw vb tv (u.h, u.w, u.c) (viewOf u D0) sa sb [u] w MR rfl ⟨nums_nil _ _, hw, hb⟩ hv ha)
  have CT := Lib.hid (fun (tv vw vb sa sb : Value) (w : World) (hv : IsVals w tv [u]) (hw : IsNums .i8 w vw AL) (hb : IsNums .i32 w vb [b]) (ha : IsNums .i8 w sa D0) => All_1 (wholeK AL [b]) (.slice none 0 0) vw vb tv (1, 1, 1) (viewOf u D0) sa sb [u] w MT rfl ⟨nums_nil _ _, hw, hb⟩ hv ha)
  unfold noView at hLP hLQ hLR hLT
  simp only [ch, cw, cc, hN, hLP] at CP
  simp only [ch, cw, cc, hN, hLQ] at CQ
  simp only [ch, cw, cc, hN, hLR] at CR
  have e111 : ((1 : Int).toNat * (1 : Int).toNat) = 1 := rfl
  have e112 : (1 : Int).toNat * 1 = 1 := rfl
  simp only [e111, e112, hLT] at CT
  have HE := Lib.hid hE
  have HBS := Lib.hid hBS
  have HON := Lib.hid hON
  have HZE := Lib.hid hZE
  have HAL := Lib.hid hAL
  have HBE := Lib.hid BE
  have HBBS := Lib.hid BBS
  have HBON := Lib.hid BON
  have HBZE := Lib.hid BZE
  have HBAL := Lib.hid BAL
  have HBP := Lib.hid BP
  have HBQ := Lib.hid BQ
  have HBR := Lib.hid BR
  have HBT := Lib.hid BT
  have HLP := Lib.hid lP
  have HLQ := Lib.hid lQ
  have HLR := Lib.hid lR
  have HLT := Lib.hid lT
  have HB0 := Lib.hid B0
  have HL0 := Lib.hid l0
  have HN := Lib.hid hN
  have EH := Lib.hid eh
  have EW := Lib.hid ew
  have EC := Lib.hid ec
  have HZZ := Lib.hid hzz
  have eb32 : IntKind.i32.wrap b = b := IntWalk.i32_in _ (by omega)
  have eb64 : IntKind.i64.wrap b = b := IntWalk.i64_in _ (by omega)
  obtain ⟨A0, c0, rfl, _⟩ := h0
  obtain ⟨A1, c1, rfl, _⟩ := h1
  obtain ⟨A, cap, rfl, _⟩ := hl
  obtain ⟨i0, hi0, hz0, hz1, hz2⟩ := info_parts infoI8
  have I1 := Lib.hid hi0
  have I2 := Lib.hid hz0
  have I3 := Lib.hid hz1
  have I4 := Lib.hid hz2
  clear hi0 hz0 hz1 hz2
  obtain ⟨i32, hi0, hz0, hz1, hz2⟩ := info_parts infoI32
  have J1 := Lib.hid hi0
  have J2 := Lib.hid hz0
  have J3 := Lib.hid hz1
  have J4 := Lib.hid hz2
  clear hi0 hz0 hz1 hz2
  clear B0 F0 hm hp hv hu hD0 hD1 hN sz l0 hl0 ch cw cc es eh ew ec hzz hE hBS hON hZE hAL BE BBS BON BZE BAL BP BQ BR BT lP lQ lR lT hLP hLQ hLR hLT MP MQ MR MT e111 e112
  go_enter Try.func8, Try.ntmps8
  go_upto_region 1 with fail
  refine opq (fun w' => (∀ o : Nat, w'.cell? ⟨W.heap.size, o, none⟩ = (#[.slice A x.l.length cap, .slice A0 x.xs.length c0, .slice A1 x.ys.length c1] : Array Value)[o]?) ∧ Past W w' ∧ W.heap.size + 1 ≤ w'.heap.size) (by (((try dsimp only); (try go_split_ands); (repeat' with_reducible apply And.intro)) <;> ((repeat (first | (with_reducible (first | assumption | refine kbS ?_ | refine has_set ?_ | refine kcS ?_ | refine free_set ?_ | refine size_set ?_ | refine kgS ?_ | refine kpS ?_ | refine box_drewN ?_ | refine has_drewN ?_ | refine cell_drewN ?_ | refine free_drewN ?_ | refine size_drewN ?_ | refine Grown.drewN ?_ | refine Past.drewN ?_ | refine box_drew ?_ | refine has_drew ?_ | refine cell_drew ?_ | refine free_drew ?_ | refine size_drew ?_ | refine Grown.drew ?_ | refine Past.drew ?_ | exact kbN | refine kbO ?_ | refine khA ?_ | refine kcA ?_ | refine free_alloc ?_ | exact ksA | refine Grown.alloc ?_ _ _ | refine Past.alloc ?_ _ | exact kbG | exact khG | exact kcG | exact ksG | exact kfG | exact kgG | exact kbP | exact kfP | exact khP | exact kcP | exact ksP | exact kpP | exact kfN | refine Grown.past ?_ | exact Grown.refl _ | exact Past.refl _)) | omega)); done))) ?_
  rintro w1 ⟨b3, p1, z1⟩
  go_wp2_with fail
  refine (shown_any _).mono ?_
  rintro e w2 ⟨rfl, p2⟩
  have b32 := box_past p2 b3 (by omega)
  have pW := p1.trans p2
  clear b3 p1 p2 z1
  go_wp2_with fail
  refine (PY.out _ pW).mono ?_
  rintro e w3 ⟨tb, u0', u1', rfl, hv3, o0, o1, p3⟩
  obtain ⟨V0, k0, rfl⟩ := o0.form
  obtain ⟨V1, k1, rfl⟩ := o1.form
  have pX := pW.trans p3
  have V3 := Lib.hid hv3
  have N0 := Lib.hid (o0.nums HB0.out)
  obtain ⟨htb, ct0, ct1, ct2, ct3⟩ := two_cellsw hv3
  rw [HZZ.out] at ct3
  rw [EH.out] at ct0
  rw [EW.out] at ct1
  rw [EC.out] at ct2
  clear b32 pW p3 hv3 o0 o1 PY
  have n2 : (1 : Int) ≤ 2 := by decide
  go_upto_region 5 with fail
  refine opq (fun w' => (∀ o : Nat, w'.cell? ⟨w3.heap.size, o, none⟩ = (#[.slice V0 D0.length k0, .slice V1 D1.length k1] : Array Value)[o]?) ∧ Past w3 w' ∧ w3.heap.size + 1 ≤ w'.heap.size) (by (((try dsimp only); (try go_split_ands); (repeat' with_reducible apply And.intro)) <;> ((repeat (first | (with_reducible (first | assumption | refine kbS ?_ | refine has_set ?_ | refine kcS ?_ | refine free_set ?_ | refine size_set ?_ | refine kgS ?_ | refine kpS ?_ | refine box_drewN ?_ | refine has_drewN ?_ | refine cell_drewN ?_ | refine free_drewN ?_ | refine size_drewN ?_ | refine Grown.drewN ?_ | refine Past.drewN ?_ | refine box_drew ?_ | refine has_drew ?_ | refine cell_drew ?_ | refine free_drew ?_ | refine size_drew ?_ | refine Grown.drew ?_ | refine Past.drew ?_ | exact kbN | refine kbO ?_ | refine khA ?_ | refine kcA ?_ | refine free_alloc ?_ | exact ksA | refine Grown.alloc ?_ _ _ | refine Past.alloc ?_ _ | exact kbG | exact khG | exact kcG | exact ksG | exact kfG | exact kgG | exact kbP | exact kfP | exact khP | exact kcP | exact ksP | exact kpP | exact kfN | refine Grown.past ?_ | exact Grown.refl _ | exact Past.refl _)) | omega)); done))) ?_
  rintro w4 ⟨b7, p4, z4⟩
  have ct04 := cell_past p4 ct0 htb
  have ct14 := cell_past p4 ct1 htb
  have ct24 := cell_past p4 ct2 htb
  have ct34 := cell_past p4 ct3 htb
  have htb4 : tb < w4.heap.size := by omega
  go_upto_region 7 with fail
  refine opq (fun w' => (∀ o : Nat, w'.cell? ⟨w3.heap.size, o, none⟩ = (#[.slice V0 D0.length k0, .slice V1 D1.length k1] : Array Value)[o]?) ∧ (∀ o : Nat, w'.cell? ⟨w4.heap.size, o, none⟩ = (#[.int .i64 H, .int .i64 Wd, .int .i64 C] : Array Value)[o]?) ∧ Past w3 w' ∧ w4.heap.size + 1 ≤ w'.heap.size) (by (((try dsimp only); (try go_split_ands); (repeat' with_reducible apply And.intro)) <;> ((repeat (first | (with_reducible (first | assumption | refine kbS ?_ | refine has_set ?_ | refine kcS ?_ | refine free_set ?_ | refine size_set ?_ | refine kgS ?_ | refine kpS ?_ | refine box_drewN ?_ | refine has_drewN ?_ | refine cell_drewN ?_ | refine free_drewN ?_ | refine size_drewN ?_ | refine Grown.drewN ?_ | refine Past.drewN ?_ | refine box_drew ?_ | refine has_drew ?_ | refine cell_drew ?_ | refine free_drew ?_ | refine size_drew ?_ | refine Grown.drew ?_ | refine Past.drew ?_ | exact kbN | refine kbO ?_ | refine khA ?_ | refine kcA ?_ | refine free_alloc ?_ | exact ksA | refine Grown.alloc ?_ _ _ | refine Past.alloc ?_ _ | exact kbG | exact khG | exact kcG | exact ksG | exact kfG | exact kgG | exact kbP | exact kfP | exact khP | exact kcP | exact ksP | exact kpP | exact kfN | refine Grown.past ?_ | exact Grown.refl _ | exact Past.refl _)) | omega)); done))) ?_
  rintro w5 ⟨b75, b10, p5, z5⟩
  obtain ⟨P7, hP7⟩ : ∃ P7, w3.heap.size = P7 := ⟨_, rfl⟩
  obtain ⟨P10, hP10⟩ : ∃ P10, w4.heap.size = P10 := ⟨_, rfl⟩
  have n7 : P7 < w5.heap.size := by omega
  have n10 : P10 < w5.heap.size := by omega
  rw [hP7] at b75
  rw [hP10] at b10
  simp only [hP7, hP10]
  have V5 := Lib.hid (vals_one_ofw (V3.out.grow p5))
  have N05 := Lib.hid (N0.out.grow p5)
  have pX := pX.trans p5
  have ct5 := cell_past p5 ct3 htb
  have htb5 : tb < w5.heap.size := by have := p5.2.2.1; omega
  have b7 := b75
  clear p4 z4 ct04 ct14 ct24 ct34 htb4 hP7 hP10 ct0 ct1 ct2 ct3 htb z5 p5 b75
  go_upto_region 8 with fail
  go_upto_region 11 with fail
  refine opq (fun w' => Own8 w' w5.heap.size (.slice (some ⟨w5.heap.size, 0, none⟩) 0 0) [] ∧ Own32 w' w5.heap.size (.slice (some ⟨w5.heap.size + 1, 0, none⟩) 0 0) [] ∧ Own8 w' w5.heap.size (.slice (some ⟨w5.heap.size + 2, 0, none⟩) 0 0) [] ∧ Past w5 w') ⟨(own8_newat rfl (Nat.le_refl _)).past (((Past.refl _).alloc _).alloc _), (own32_newat (by simp) (by omega)).past ((Past.refl _).alloc _), own8_newat (by simp) (by omega), (((Past.refl _).alloc _).alloc _).alloc _⟩ ?_
  rintro w6 ⟨oe, ob, oo, p6⟩
  have apt := Lib.hid (apart_blocks (a := w5.heap.size) (b := w5.heap.size + 2) (n := 0) (m := 0) (c := 0) (d := 0) (by omega))
  go_wp2_with fail
  go_loopw [12, 13, 14, 15] (fun ev bv ov i wr => ∃ k : Nat, k ≤ C ∧ i = .int .i64 k ∧ Hid (Own8 wr w5.heap.size ev (genL (eyeF C) (k * C))) ∧ Hid (Own32 wr w5.heap.size bv (List.replicate k b)) ∧ Hid (Own8 wr w5.heap.size ov (List.replicate k 1)) ∧ Hid (Apart ev ov) ∧ Past w5 wr) (fun _ _ _ i _ => C - (intOf i).toNat)
  case atStart => exact ⟨0, by omega, rfl, Lib.hid (by rw [Nat.zero_mul]; exact oe), Lib.hid ob, Lib.hid oo, apt, p6⟩
  case round =>
    obtain ⟨k, hk, rfl, oe1, ob1, oo1, ap1, pr⟩ := hrel
    obtain ⟨w8, hw8⟩ : ∃ w8, w8 = wr := ⟨wr, rfl⟩
    subst hw8
    have b10r := box_past pr b10 n10
    clear oe ob oo apt p6
    by_cases hkC : k < C
    · have d1 : decide ((k : Int) < (C : Int)) = true := decide_eq_true (by omega)
      have kc64 : k * C + C ≤ 64 := by
        have : (k + 1) * C ≤ 8 * 8 := Nat.mul_le_mul (by omega) (by omega)
        rw [Nat.add_mul, Nat.one_mul] at this
        omega
      go_wp2_with fail
      go_loopw [12, 16] (fun ev i wq => ∃ j : Nat, j ≤ C ∧ i = .int .i64 j ∧ Hid (Own8 wq w5.heap.size ev (genL (eyeF C) (k * C + j))) ∧ Hid (Own32 wq w5.heap.size u13 (List.replicate k b)) ∧ Hid (Own8 wq w5.heap.size u14 (List.replicate k 1)) ∧ Hid (Apart ev u14) ∧ Past w5 wq) (fun _ i _ => C - (intOf i).toNat)
      case atStart => exact ⟨0, by omega, rfl, oe1, ob1, oo1, ap1, pr⟩
      case round =>
        clear oe1 ob1 oo1 ap1
        obtain ⟨j, hj, rfl, oe2, ob2, oo2, ap2, pq⟩ := hrel
        have b10q := box_past pq b10 n10
        by_cases hjC : j < C
        · have d2 : decide ((j : Int) < (C : Int)) = true := decide_eq_true (by omega)
          by_cases hkj : k = j
          · have t0 : ((k : Int) == (j : Int)) = true := by rw [beq_iff_eq]; omega
            have FF : Hid (eyeF C (k * C + j) = 1) := Lib.hid (by rw [eye_at hjC, if_pos hkj])
            clear hkj
            have zqc := pq.2.2.1
            go_wp2_with (at_builtin; refine wpList_append_apart _ rfl (.tmp 68) (.tmp 70) 25 rfl w5.heap.size 52 i0 _ 1 1 Try.underlying25 I1.out I2.out I3.out I4.out rfl (by decide) _ _ _ rfl (World.ownsRow.alloc oe2.out _) ⟨wr.heap.size, 0, none⟩ 1 1 [.int .i8 1] rfl rfl (fun j u hu => cells_new1 wr _ 52 j u hu) (by intro u hu; simp at hu; subst hu; rfl) ?c4 ?c5 ?c6 (by decide) ?_)
            case c4 => unfold maxLen; rw [genL_len]; omega
            case c5 => rw [genL_len]; omega
            case c6 => first | omega | (simp; omega)
            intro v4 w4 hown hgrow hpl
            have E4 := Lib.hid (own8_add hown)
            have ob4 := Lib.hid (ob2.out.kept _ hgrow (own_apart ob2.out oe2.out (by decide)).row)
            have oo4 := Lib.hid (oo2.out.kept _ hgrow ap2.out.turn.row)
            have ap4 := Lib.hid (Apart.moved ap2.out.turn hpl (fun j hj => by have := (oo2.out.lt j hj).2; simp; omega)).turn
            have P4 := (pq.alloc (.cells #[.int .i8 1] 52)).grownBy hgrow (fun j hj => (oe2.out.lt j hj).1)
            clear hown hgrow hpl oe2 ob2 oo2 ap2
            go_wp2_with fail
            go_roundw
            case rel => exact ⟨j + 1, by omega, by go_num, Lib.hid (by rw [← Nat.add_assoc, genL_succ, FF.out]; exact E4.out), ob4, oo4, ap4, P4⟩
            case measure => simp [intOf]; omega
          · have t0 : ((k : Int) == (j : Int)) = false := by rw [beq_eq_false_iff_ne]; omega
            have FF : Hid (eyeF C (k * C + j) = 0) := Lib.hid (by rw [eye_at hjC, if_neg hkj])
            clear hkj
            have zqc := pq.2.2.1
            go_wp2_with (at_builtin; refine wpList_append_apart _ rfl (.tmp 68) (.tmp 70) 25 rfl w5.heap.size 52 i0 _ 1 1 Try.underlying25 I1.out I2.out I3.out I4.out rfl (by decide) _ _ _ rfl (World.ownsRow.alloc oe2.out _) ⟨wr.heap.size, 0, none⟩ 1 1 [.int .i8 0] rfl rfl (fun j u hu => cells_new1 wr _ 52 j u hu) (by intro u hu; simp at hu; subst hu; rfl) ?c4 ?c5 ?c6 (by decide) ?_)
            case c4 => unfold maxLen; rw [genL_len]; omega
            case c5 => rw [genL_len]; omega
            case c6 => first | omega | (simp; omega)
            intro v4 w4 hown hgrow hpl
            have E4 := Lib.hid (own8_add hown)
            have ob4 := Lib.hid (ob2.out.kept _ hgrow (own_apart ob2.out oe2.out (by decide)).row)
            have oo4 := Lib.hid (oo2.out.kept _ hgrow ap2.out.turn.row)
            have ap4 := Lib.hid (Apart.moved ap2.out.turn hpl (fun j hj => by have := (oo2.out.lt j hj).2; simp; omega)).turn
            have P4 := (pq.alloc (.cells #[.int .i8 0] 52)).grownBy hgrow (fun j hj => (oe2.out.lt j hj).1)
            clear hown hgrow hpl oe2 ob2 oo2 ap2
            go_wp2_with fail
            go_roundw
            case rel => exact ⟨j + 1, by omega, by go_num, Lib.hid (by rw [← Nat.add_assoc, genL_succ, FF.out]; exact E4.out), ob4, oo4, ap4, P4⟩
            case measure => simp [intOf]; omega
        · obtain rfl : j = C := by omega
          have d2 : decide ((j : Int) < (j : Int)) = false := by simp
          have zqc := pq.2.2.1
          go_wp2_with (at_builtin; refine wpList_append_apart _ rfl (.tmp 72) (.tmp 74) 26 rfl w5.heap.size 21 i32 _ 1 4 Try.underlying26 J1.out J2.out J3.out J4.out rfl (by decide) _ _ _ rfl (World.ownsRow.alloc ob2.out _) ⟨wr.heap.size, 0, none⟩ 1 1 [.int .i32 b] rfl rfl (fun j u hu => cells_new1 wr _ 21 j u hu) (by intro u hu; simp at hu; subst hu; rfl) ?c4 ?c5 ?c6 (by decide) ?_)
          case c4 => unfold maxLen; rw [List.length_replicate]; omega
          case c5 => rw [List.length_replicate]; omega
          case c6 => first | omega | (simp; omega)
          intro v4 w4 hown hgrow hpl
          have B4 := Lib.hid (own32_rep hown)
          have oe4 := Lib.hid (oe2.out.kept _ hgrow (own_apart oe2.out ob2.out (by decide)).row)
          have oo4 := Lib.hid (oo2.out.kept _ hgrow (own_apart oo2.out ob2.out (by decide)).row)
          have P4 := (pq.alloc (.cells #[.int .i32 b] 21)).grownBy hgrow (fun j hj => (ob2.out.lt j hj).1)
          clear hown hgrow hpl oe2 ob2 oo2
          have zqe := P4.2.2.1
          go_wp2_with (at_builtin; refine wpList_append_apart _ rfl (.tmp 76) (.tmp 77) 25 rfl w5.heap.size 52 i0 _ 1 1 Try.underlying25 I1.out I2.out I3.out I4.out rfl (by decide) _ _ _ rfl (World.ownsRow.alloc oo4.out _) ⟨w4.heap.size, 0, none⟩ 1 1 [.int .i8 1] rfl rfl (fun j u hu => cells_new1 w4 _ 52 j u hu) (by intro u hu; simp at hu; subst hu; rfl) ?e4 ?e5 ?e6 (by decide) ?_)
          case e4 => unfold maxLen; rw [List.length_replicate]; omega
          case e5 => rw [List.length_replicate]; omega
          case e6 => first | omega | (simp; omega)
          intro v5 w7 hown hgrow hpl
          have O5 := Lib.hid (own8_rep hown)
          have oe5 := Lib.hid (oe4.out.kept _ hgrow ap2.out.row)
          have ob5 := Lib.hid (B4.out.kept _ hgrow (own_apart B4.out oo4.out (by decide)).row)
          have ap5 := Lib.hid (Apart.moved ap2.out hpl (fun j hj => by have := (oe4.out.lt j hj).2; simp; omega))
          have P5 := (P4.alloc (.cells #[.int .i8 1] 52)).grownBy hgrow (fun j hj => (oo4.out.lt j hj).1)
          clear hown hgrow hpl oe4 oo4 B4 ap2
          go_wp2_with fail
          go_roundw
          case rel => exact ⟨k + 1, by omega, by go_num, Lib.hid (by rw [Nat.add_mul, Nat.one_mul]; exact oe5.out), ob5, O5, ap5, P5⟩
          case measure => simp [intOf]; omega
    · obtain rfl : k = C := by omega
      have d1 : decide ((k : Int) < (k : Int)) = false := by simp
      obtain ⟨AE, kE, rfl⟩ := oe1.out.form
      obtain ⟨AB, kB, rfl⟩ := ob1.out.form
      obtain ⟨AO, kO, rfl⟩ := oo1.out.form
      rw [HE.out] at oe1
      rw [HBS.out] at ob1
      rw [HON.out] at oo1
      simp only [HE.out, HBS.out, HON.out]
      have NE := Lib.hid (oe1.out.nums HBE.out)
      have NB := Lib.hid (ob1.out.nums HBBS.out)
      have NO := Lib.hid (oo1.out.nums HBON.out)
      clear oe1 ob1 oo1 ap1
      have b7r := box_past pr b7 n7
      go_wp2_with fail
      refine (CP.out _ _ _ _ _ _ (V5.out.grow pr) NE.out NB.out (N05.out.grow pr)).mono ?_
      rintro e w10 ⟨vp, rfl, op, pp⟩
      obtain ⟨Ap, kp, rfl⟩ := op.form
      have NP := Lib.hid (op.nums HBP.out)
      have p10 := pr.trans pp
      have q10 := pp
      have b7a := box_past p10 b7 n7
      have b10a := box_past p10 b10 n10
      clear op b7r b10r pp
      go_wp2_with fail
      refine (CQ.out _ _ _ _ _ _ (V5.out.grow p10) (NO.out.grow q10) (NB.out.grow q10) (N05.out.grow p10)).mono ?_
      rintro e w11 ⟨vp, rfl, op, pp⟩
      obtain ⟨Aq, kq, rfl⟩ := op.form
      have NQ := Lib.hid (op.nums HBQ.out)
      have p11 := p10.trans pp
      have q11 := q10.trans pp
      have NP11 := Lib.hid (NP.out.grow pp)
      have NB11 := Lib.hid (NB.out.grow q11)
      have b7b := box_past p11 b7 n7
      have b10b := box_past p11 b10 n10
      have V11 := Lib.hid (V5.out.grow p11)
      have N011 := Lib.hid (N05.out.grow p11)
      clear op b7a b10a pp q10 NP NO NE NB p10 pr
      have n7b : P7 < w11.heap.size := by have := p11.2.2.1; omega
      have n10b : P10 < w11.heap.size := by have := p11.2.2.1; omega
      go_upto_region 25 with fail
      refine wp_region_goes [2, 4, 9, 10, 11, 12, 13, 14] (fun w' => (∀ o : Nat, w'.cell? ⟨P7, o, none⟩ = (#[.slice V0 D0.length k0, .slice V1 D1.length k1] : Array Value)[o]?) ∧ (∀ o : Nat, w'.cell? ⟨P10, o, none⟩ = (#[.int .i64 H, .int .i64 Wd, .int .i64 k] : Array Value)[o]?) ∧ Past w11 w') [(104, ?vg104), (105, ?vg105), (107, ?vg107), (109, ?vg109), (110, ?vg110), (111, ?vg111), (112, ?vg112)] [104, 105, 107, 109, 110, 111, 112] (by kernel_rfl) rfl (by kernel_rfl) ⟨b7b, b10b, Past.refl _⟩ (fun w h => h) ?ngs
      case ngs =>
        refine goes_step (α := Nat) [] [9, 10, 11, 12, 13, 14] 2 106 [2, 4, 9, 10, 11, 12, 13, 14] (fun p => .slice (some ⟨p, 0, none⟩) k k) (fun w' => (∀ o : Nat, w'.cell? ⟨P7, o, none⟩ = (#[.slice V0 D0.length k0, .slice V1 D1.length k1] : Array Value)[o]?) ∧ (∀ o : Nat, w'.cell? ⟨P10, o, none⟩ = (#[.int .i64 H, .int .i64 Wd, .int .i64 k] : Array Value)[o]?) ∧ Past w11 w') (fun p w' => (∀ o : Nat, w'.cell? ⟨P7, o, none⟩ = (#[.slice V0 D0.length k0, .slice V1 D1.length k1] : Array Value)[o]?) ∧ (∀ o : Nat, w'.cell? ⟨P10, o, none⟩ = (#[.int .i64 H, .int .i64 Wd, .int .i64 k] : Array Value)[o]?) ∧ Past w11 w' ∧ Hid (IsNums .i8 w' (.slice (some ⟨p, 0, none⟩) k k) ZE)) (fun p => [(108, .agg #[.int .i64 2, .slice none 0 0, .int .i64 1, .int .i64 1, .int .i64 0, .int .i64 0, .int .i64 1, .int .i64 0, .int .i64 0, .int .i64 0, .int .i64 0, .int .i64 0, .slice (some ⟨p, 0, none⟩) k k, .slice AB BS.length kB])]) [108] (by kernel_rfl) (by kernel_rfl) (fun _ => rfl) ?hg0 ?eg0 ?cg0 (fun p => ?_)
        case hg0 =>
          first | (simp; done) | (rw [fill_size]; simp; done) | (rw [fill_size, fill_size]; simp; done) | (simp [fillA, Act.put]; done)
        case eg0 =>
          simp only [fillA, Act.put, List.setIfInBounds_toArray, List.set_cons_zero, List.set_cons_succ]
          (iterate 15 (first | refine owesb_skip rfl ?_ | (refine owesb_cons (fun w hw K hK => ?_) ?_; focus ((have hS := Lib.hid hw); go_split_ands; go_simp; (try simp only [fillA, Act.put, List.setIfInBounds_toArray, List.set_cons_zero, List.set_cons_succ]); exact hK _ hS.out))))
          exact True.intro
        case cg0 =>
          simp only [fillA, Act.put, List.setIfInBounds_toArray, List.set_cons_zero, List.set_cons_succ]
          refine ⟨_, rfl, fun w hw K hK => ?_⟩
          obtain ⟨b7w, b10w, pw⟩ := hw
          obtain ⟨wm, hrun, ownm, growm⟩ := run_makeSlice_full (P := Try.prog) w w.heap.size 25 52 i0 (.int .i8 0) 1 Try.underlying25 I1.out I2.out I3.out .i64 .i64 k (by omega) (by rw [I4.out]; omega) (by unfold maxLen; omega) (Nat.le_refl _)
          have Pm : Past w wm := (Past.refl w).grownBy growm (fun j hj => by cases hj)
          have b7m := box_past Pm b7w (by have := pw.2.2.1; omega)
          have b10m := box_past Pm b10w (by have := pw.2.2.1; omega)
          have pm := pw.trans Pm
          have om : Own8 wm w.heap.size (.slice (some ⟨w.heap.size, 0, none⟩) k k) (List.replicate k 0) := own8_zeros (by rw [← made8]; exact ownm)
          rw [HZE.out] at om
          have NZ := Lib.hid (om.nums HBZE.out)
          clear ownm growm
          go_simp
          try simp only [hrun]
          exact hK w.heap.size _ ⟨b7m, b10m, pm, NZ⟩
        refine goes_step (α := Option Addr × Nat) [2] [] 9 113 [9, 10, 11, 12, 13, 14] (fun q => .tuple #[.slice q.1 LR.length q.2, .int .i64 0]) (fun w' => (∀ o : Nat, w'.cell? ⟨P7, o, none⟩ = (#[.slice V0 D0.length k0, .slice V1 D1.length k1] : Array Value)[o]?) ∧ (∀ o : Nat, w'.cell? ⟨P10, o, none⟩ = (#[.int .i64 H, .int .i64 Wd, .int .i64 k] : Array Value)[o]?) ∧ Past w11 w' ∧ Hid (IsNums .i8 w' (.slice (some ⟨p, 0, none⟩) k k) ZE)) (fun q w' => (∀ o : Nat, w'.cell? ⟨P7, o, none⟩ = (#[.slice V0 D0.length k0, .slice V1 D1.length k1] : Array Value)[o]?) ∧ (∀ o : Nat, w'.cell? ⟨P10, o, none⟩ = (#[.int .i64 H, .int .i64 Wd, .int .i64 k] : Array Value)[o]?) ∧ Past w11 w' ∧ Hid (IsNums .i8 w' (.slice q.1 LR.length q.2) LR)) (fun q => [(103, .tuple #[.slice q.1 LR.length q.2, .int .i64 0]), (114, .slice q.1 LR.length q.2), (115, .int .i64 0), (22, .slice q.1 LR.length q.2), (23, .int .i64 0)]) [103, 114, 115, 22, 23] (by kernel_rfl) (by kernel_rfl) (fun _ => rfl) ?hg1 ?eg1 ?cg1 (fun q => ?_)
        case hg1 =>
          first | (simp; done) | (rw [fill_size]; simp; done) | (rw [fill_size, fill_size]; simp; done) | (simp [fillA, Act.put]; done)
        case eg1 =>
          simp only [fillA, Act.put, List.setIfInBounds_toArray, List.set_cons_zero, List.set_cons_succ]
          (iterate 15 (first | refine owesb_skip rfl ?_ | (refine owesb_cons (fun w hw K hK => ?_) ?_; focus ((have hS := Lib.hid hw); go_split_ands; go_simp; (try simp only [fillA, Act.put, List.setIfInBounds_toArray, List.set_cons_zero, List.set_cons_succ]); exact hK _ hS.out))))
          exact True.intro
        case cg1 =>
          simp only [fillA, Act.put, List.setIfInBounds_toArray, List.set_cons_zero, List.set_cons_succ]
          refine ⟨_, rfl, fun w hw K hK => ?_⟩
          obtain ⟨b7w, b10w, pw, NZ⟩ := hw
          go_simp
          refine (CR.out _ _ _ _ _ _ (V11.out.grow pw) NZ.out (NB11.out.grow pw) (N011.out.grow pw)).mono ?_
          rintro e wz ⟨vp, rfl, op, pp⟩
          obtain ⟨Ar, kr, rfl⟩ := op.form
          exact hK (Ar, kr) _ ⟨box_past pp b7w (by have := pw.2.2.1; omega), box_past pp b10w (by have := pw.2.2.1; omega), pw.trans pp, Lib.hid (op.nums HBR.out)⟩
        refine goes_end [9, 2] (by kernel_rfl) ?egz ?_
        case egz =>
          simp only [fillA, Act.put, List.setIfInBounds_toArray, List.set_cons_zero, List.set_cons_succ]
          (iterate 15 (first | refine owesb_skip rfl ?_ | (refine owesb_cons (fun w hw K hK => ?_) ?_; focus ((have hS := Lib.hid hw); go_split_ands; go_simp; (try simp only [fillA, Act.put, List.setIfInBounds_toArray, List.set_cons_zero, List.set_cons_succ]); exact hK _ hS.out))))
          exact True.intro
        rintro w12 ⟨b712, _, p12, NR⟩
        simp only [fillA, Act.put, List.setIfInBounds_toArray, List.set_cons_zero, List.set_cons_succ]
        obtain ⟨Ar, kr⟩ := q
        have NP12 := Lib.hid (NP11.out.grow p12)
        have NQ12 := Lib.hid (NQ.out.grow p12)
        have V12 := Lib.hid (V11.out.grow p12)
        have N012 := Lib.hid (N011.out.grow p12)
        have pF := pX.trans (p11.trans p12)
        have ct12 := cell_past (p11.trans p12) ct5 htb5
        have htb12 : tb < w12.heap.size := by have := (p11.trans p12).2.2.1; omega
        have n712 : P7 < w12.heap.size := by have := p12.2.2.1; omega
        clear b7b b10b b10 NP11 NQ NB11 V11 N011 p11 q11 p12 ct5 htb5 n7 n10 n7b n10b V5 N05 pX b7
        go_upto_region 27 with fail
        refine opq (fun w' => Own8 w' w12.heap.size (.slice (some ⟨w12.heap.size, 0, none⟩) 0 0) [] ∧ Past w12 w') ⟨own8_new (Nat.le_refl _), (Past.refl _).alloc _⟩ ?_
        rintro w13 ⟨own, p13⟩
        have s0 : b + sumN (fun i => D0.getD i 0 - z) 0 = b := by simp [sumN]
        have S00 := Lib.hid s0
        have dN := HL0.out
        have dl : D0.length ≤ 2048 := by omega
        have DN := Lib.hid dN
        clear s0 dN
        go_wp2_with fail
        go_loopw [24, 25, 26] (fun av sv i wr => ∃ (j : Nat) (s : Int), j ≤ D0.length ∧ i = .int .i64 j ∧ sv = .int .i64 s ∧ Hid (b + sumN (fun i => D0.getD i 0 - z) j = s) ∧ Hid (Own8 wr w12.heap.size av (List.replicate j 1)) ∧ Past w12 wr) (fun _ _ i _ => D0.length - (intOf i).toNat)
        case atStart => exact ⟨0, b, by omega, rfl, rfl, S00, Lib.hid own, p13⟩
        case round =>
          obtain ⟨j, s, hj, rfl, rfl, hs, oa, ps⟩ := hrel
          clear own p13
          have b7s := box_past ps b712 n712
          by_cases hjl : j < D0.length
          · have d1 : decide ((j : Int) < (D0.length : Int)) = true := decide_eq_true (by omega)
            have zqc := ps.2.2.1
            go_wp2_with (at_builtin; refine wpList_append_apart _ rfl (.tmp 126) (.tmp 127) 25 rfl w12.heap.size 52 i0 _ 1 1 Try.underlying25 I1.out I2.out I3.out I4.out rfl (by decide) _ _ _ rfl (World.ownsRow.alloc oa.out _) ⟨wr.heap.size, 0, none⟩ 1 1 [.int .i8 1] rfl rfl (fun j u hu => cells_new1 wr _ 52 j u hu) (by intro u hu; simp at hu; subst hu; rfl) ?c4 ?c5 ?c6 (by decide) ?_)
            case c4 => unfold maxLen; rw [List.length_replicate]; omega
            case c5 => rw [List.length_replicate]; omega
            case c6 => first | omega | (simp; omega)
            intro v4 w4 hown hgrow hpl
            have O4 := Lib.hid (own8_rep hown)
            have P4 := (ps.alloc (.cells #[.int .i8 1] 52)).grownBy hgrow (fun j hj => (oa.out.lt j hj).1)
            have b74 := box_past P4 b712 n712
            clear hown hgrow hpl oa ps b7s
            obtain ⟨d, hd⟩ : ∃ d, D0.getD j 0 = d := ⟨_, rfl⟩
            have xd := getD_i8 HB0.out j
            rw [hd] at xd
            obtain ⟨db, dO, e2, n4, n5', n6, hb1, hb2⟩ := nums_parts N012.out (by omega)
            clear n4 n5' n6
            subst e2
            have kk2 := past_cellw (p := ⟨db, dO + j, none⟩) P4 hb1 (hb2 j hjl).1
            rw [hd] at kk2
            have ctq := cell_past P4 ct12 htb12
            have rng := SR.out j (by omega)
            have rng2 := SR.out (j + 1) (by omega)
            rw [hs.out] at rng
            rw [sum_step, hs.out, hd] at rng2
            have HS : Hid (b + sumN (fun i => D0.getD i 0 - z) (j + 1) = s + d - z) := Lib.hid (by rw [sum_step, hs.out, hd])
            have wd8 : IntKind.i64.wrap d = d := IntWalk.i64_in _ (by omega)
            have ws1 : IntKind.i64.wrap (s + d) = s + d := IntWalk.i64_in _ (by omega)
            have ws2 : IntKind.i64.wrap (s + d - z) = s + d - z := IntWalk.i64_in _ (by omega)
            have i3 : (j : Int) < (D0.length : Int) := by omega
            clear hb2 hd hs
            go_upto_region 32 with fail
            go_quiet (fail)
            go_wp2_with fail
            go_roundw
            case rel => exact ⟨j + 1, s + d - z, by omega, by go_num, rfl, HS, Lib.hid (O4.out.past (Past.refl _).drewN), P4.drewN⟩
            case measure => simp [intOf]; omega
          · obtain rfl : j = D0.length := by omega
            have d1 : decide ((D0.length : Int) < (D0.length : Int)) = false := by simp
            obtain ⟨w14, hw14⟩ : ∃ w14, w14 = wr := ⟨wr, rfl⟩
            subst hw14
            obtain ⟨AA, kA, rfl⟩ := oa.out.form
            rw [DN.out, HAL.out] at oa
            have lAL : AL.length = D0.length := by rw [← HAL.out, List.length_replicate]; exact DN.out.symm
            have NA := Lib.hid (oa.out.nums HBAL.out)
            have NP14 := Lib.hid (NP12.out.grow ps)
            have NQ14 := Lib.hid (NQ12.out.grow ps)
            have NR14 := Lib.hid (NR.out.grow ps)
            have V14 := Lib.hid (V12.out.grow ps)
            have N014 := Lib.hid (N012.out.grow ps)
            have ct14 := cell_past ps ct12 htb12
            have htb14 : tb < w14.heap.size := by have := ps.2.2.1; omega
            have n714 : P7 < w14.heap.size := by have := ps.2.2.1; omega
            have pG := pF.trans ps
            have lAL' : (List.replicate D0.length (1 : Int)).length = AL.length := by rw [List.length_replicate]; exact lAL.symm
            simp only [lAL']
            clear oa NP12 NQ12 NR V12 N012 ct12 htb12 pF ps lAL lAL' b712 n712
            have HBB := Lib.hid bb
            go_wp2_with fail
            refine (CT.out _ _ _ _ _ _ (V14.out.grow ((Past.refl _).alloc _)) (NA.out.grow ((Past.refl _).alloc _)) (nums_one32 (by omega) (by simp) (box_new rfl)) (N014.out.grow ((Past.refl _).alloc _))).mono ?_
            rintro e w15 ⟨vp, rfl, op, pp⟩
            obtain ⟨At, kt, rfl⟩ := op.form
            have NT := Lib.hid (op.nums HBT.out)
            have p15 : Past w14 w15 := ((Past.refl _).alloc _).trans pp
            have b715 := box_past p15 b7s n714
            have NP15 := Lib.hid (NP14.out.grow p15)
            have NQ15 := Lib.hid (NQ14.out.grow p15)
            have NR15 := Lib.hid (NR14.out.grow p15)
            have N015 := Lib.hid (N014.out.grow p15)
            have ct15 := cell_past p15 ct14 htb14
            have htb15 : tb < w15.heap.size := by have := p15.2.2.1; omega
            have n715 : P7 < w15.heap.size := by have := p15.2.2.1; omega
            have pH := pG.trans p15
            clear op pp NA NP14 NQ14 NR14 V14 N014 ct14 htb14 n714 pG p15 b7s
            have q1 : ((LP.length : Int) == (D0.length : Int)) = true := by rw [beq_iff_eq]; have := HLP.out; have := HL0.out; omega
            have q2 : ((LQ.length : Int) == (LP.length : Int)) = true := by rw [beq_iff_eq]; have := HLP.out; have := HLQ.out; omega
            have q3 : ((LR.length : Int) == (LP.length : Int)) = true := by rw [beq_iff_eq]; have := HLP.out; have := HLR.out; omega
            have q4 : ((LT.length : Int) == 1) = true := by rw [beq_iff_eq]; have := HLT.out; omega
            have q1' : ((LP.length : Int) != (D0.length : Int)) = false := by simp only [bne, q1]; rfl
            have q2' : ((LQ.length : Int) != (LP.length : Int)) = false := by simp only [bne, q2]; rfl
            have q3' : ((LR.length : Int) != (LP.length : Int)) = false := by simp only [bne, q3]; rfl
            have q4' : ((LT.length : Int) != 1) = false := by simp only [bne, q4]; rfl
            have lim : LP.length ≤ 2048 := by have := HLP.out; omega
            have H34 := Lib.hid hj
            go_wp2_with fail
            go_loopw [4, 29] (fun s4 i wq => ∃ k : Nat, s4 = .bool false ∧ k ≤ LP.length ∧ i = .int .i64 k ∧ Past w15 wq) (fun _ i _ => LP.length - (intOf i).toNat)
            case atStart => exact ⟨0, rfl, by omega, rfl, Past.refl _⟩
            case round =>
              obtain ⟨m, rfl, hm, rfl, pt⟩ := hrel
              have b7t := box_past pt b715 n715
              by_cases hml : m < LP.length
              · have d1 : decide ((m : Int) < (LP.length : Int)) = true := decide_eq_true (by omega)
                have HML := Lib.hid hml
                have mN : m < N := by have := HLP.out; omega
                have m0 : m < D0.length := by have := HL0.out; omega
                have mq : m < LQ.length := by have := HLQ.out; omega
                have mr : m < LR.length := by have := HLR.out; omega
                have ap := AP.out m mN
                have aq := AQ.out m mN
                have ar := AR.out m mN
                have xd := getD_i8 HB0.out m
                obtain ⟨d, hd⟩ : ∃ d, D0.getD m 0 = d := ⟨_, rfl⟩
                obtain ⟨r, hr⟩ : ∃ r, LP.getD m 0 = r := ⟨_, rfl⟩
                obtain ⟨r2, hr2⟩ : ∃ r2, LR.getD m 0 = r2 := ⟨_, rfl⟩
                rw [hd] at ap aq xd
                rw [hr] at ap
                rw [← ap] at aq
                rw [hr2] at ar
                unfold wantW at ap
                obtain ⟨t1, ht1⟩ : ∃ t1, d - z + b = t1 := ⟨_, rfl⟩
                rw [ht1] at ap
                have tb1 : -2000 ≤ t1 ∧ t1 ≤ 2000 := by omega
                obtain ⟨t2, ht2⟩ : ∃ t2, max t1 (-128) = t2 := ⟨_, rfl⟩
                obtain ⟨t3, ht3⟩ : ∃ t3, max b (-128) = t3 := ⟨_, rfl⟩
                have em1 : (if t1 < -128 then -128 else t1) = t2 := by omega
                have em2 : (if 127 < t2 then 127 else t2) = r := by omega
                have em3 : (if b < -128 then -128 else b) = t3 := by omega
                have em4 : (if 127 < t3 then 127 else t3) = r2 := by omega
                have rb : -128 ≤ r ∧ r ≤ 127 := by omega
                have rb2 : -128 ≤ r2 ∧ r2 ≤ 127 := by omega
                have dz : -300 ≤ d - z ∧ d - z ≤ 300 := by omega
                obtain ⟨ab, ao, e1, _, _, _, hab, hac⟩ := nums_parts NP15.out (by omega)
                obtain ⟨bb', bo, e2, _, _, _, hbb, hbc⟩ := nums_parts NQ15.out (by omega)
                obtain ⟨cb, co, e3, _, _, _, hcb, hcc⟩ := nums_parts NR15.out (by omega)
                obtain ⟨db, dO, e4, _, _, _, hdb, hdc⟩ := nums_parts N015.out (by omega)
                subst e1 e2 e3 e4
                have kk1 := past_cellw (p := ⟨ab, ao + m, none⟩) pt hab (hac m hml).1
                have kk2 := past_cellw (p := ⟨bb', bo + m, none⟩) pt hbb (hbc m mq).1
                have kk3 := past_cellw (p := ⟨cb, co + m, none⟩) pt hcb (hcc m mr).1
                have kk4 := past_cellw (p := ⟨db, dO + m, none⟩) pt hdb (hdc m m0).1
                rw [hr] at kk1
                rw [aq] at kk2
                rw [hr2] at kk3
                rw [hd] at kk4
                have ctq := cell_past pt ct15 htb15
                have v1 : IntKind.i64.wrap d = d := IntWalk.i64_in _ (by omega)
                have v2 : IntKind.i64.wrap (d - z) = d - z := IntWalk.i64_in _ (by omega)
                have v3 : IntKind.i64.wrap (d - z + b) = t1 := by rw [ht1]; exact IntWalk.i64_in _ (by omega)
                have v4 : IntKind.i64.wrap r = r := IntWalk.i64_in _ (by omega)
                have v5 : IntKind.i64.wrap r2 = r2 := IntWalk.i64_in _ (by omega)
                have i1 : (m : Int) < (LP.length : Int) := by omega
                have i2 : (m : Int) < (LQ.length : Int) := by omega
                have i3 : (m : Int) < (LR.length : Int) := by omega
                have i4 : (m : Int) < (D0.length : Int) := by omega
                have wm : (m : Int) ≤ 2048 := by omega
                have wm' : IntKind.i64.wrap ((m : Int) + 1) = (m : Int) + 1 := IntWalk.i64_in _ (by omega)
                clear hac hbc hcc hdc hd hr hr2 ap aq ar ht1 ht2 ht3 hml hm tb1 bb rb rb2 dz xd mN
                go_upto_region 39 with fail
                go_quiet (fail)
                go_upto_region 40 with fail
                go_quiet (fail)
                go_wp2_with fail
                go_roundw
                case rel => exact ⟨m + 1, rfl, by have := HML.out; omega, by go_num, by (((try dsimp only); (try go_split_ands); (repeat' with_reducible apply And.intro)) <;> ((repeat (first | (with_reducible (first | assumption | refine kbS ?_ | refine has_set ?_ | refine kcS ?_ | refine free_set ?_ | refine size_set ?_ | refine kgS ?_ | refine kpS ?_ | refine box_drewN ?_ | refine has_drewN ?_ | refine cell_drewN ?_ | refine free_drewN ?_ | refine size_drewN ?_ | refine Grown.drewN ?_ | refine Past.drewN ?_ | refine box_drew ?_ | refine has_drew ?_ | refine cell_drew ?_ | refine free_drew ?_ | refine size_drew ?_ | refine Grown.drew ?_ | refine Past.drew ?_ | exact kbN | refine kbO ?_ | refine khA ?_ | refine kcA ?_ | refine free_alloc ?_ | exact ksA | refine Grown.alloc ?_ _ _ | refine Past.alloc ?_ _ | exact kbG | exact khG | exact kcG | exact ksG | exact kfG | exact kgG | exact kbP | exact kfP | exact khP | exact kcP | exact ksP | exact kpP | exact kfN | refine Grown.past ?_ | exact Grown.refl _ | exact Past.refl _)) | omega)); done))⟩
                case measure => have := HML.out; simp [intOf]; omega
              · obtain rfl : m = LP.length := by omega
                have d1 : decide ((LP.length : Int) < (LP.length : Int)) = false := by simp
                have l1 : 0 < LT.length := by have := HLT.out; omega
                obtain ⟨xb, xo, e5, _, _, _, hxb, hxc⟩ := nums_parts NT.out (by omega)
                subst e5
                have hx := past_cellw (p := ⟨xb, xo + 0, none⟩) pt hxb (hxc 0 l1).1
                obtain ⟨r, hr⟩ : ∃ r, LT.getD 0 0 = r := ⟨_, rfl⟩
                have aT := AT.out
                have hss := hs.out
                have dn := DN.out
                rw [hr, ← dn, hss] at aT
                rw [hr, Nat.add_zero] at hx
                have rng := SR.out D0.length dl
                rw [hss] at rng
                obtain ⟨t2, ht2⟩ : ∃ t2, max s (-128) = t2 := ⟨_, rfl⟩
                have em1 : (if s < -128 then -128 else s) = t2 := by omega
                have em2 : (if 127 < t2 then 127 else t2) = r := by omega
                have rb : -128 ≤ r ∧ r ≤ 127 := by omega
                have v4 : IntKind.i64.wrap r = r := IntWalk.i64_in _ (by omega)
                have i1 : (0 : Int) < (LT.length : Int) := by omega
                clear hxc hr aT hss dn rng ht2
                go_wp2_with fail
                go_ret
                exact ⟨rfl, pH.trans pt⟩

theorem weights_walk (W : World) (dv : Value) (x : DataD) (hx : IsData W dv x) (bias : Int) (w1 : (Lit.int .i64 bias).wf = true) :
    Calls Try.prog 8 #[dv, .int .i64 bias] W fun e w' => e = .returned (.bool true) ∧ Past W w' := by
  by_cases hp : pairOk x.l
  · exact weights_yes W dv x hx bias hp
  · exact weights_no W dv x hx bias hp
end Go.Proofs.Ytbkigldffcgodaa
