/- kern: Row, of whole windows. kern: All, in numbers. -/
import Derived.Test.YtliijchcpooplaaGreatOMFix
import Derived.Test.YtliijchcpooplaaGreatOMKP
import Derived.Test.YtliijchcpooplaaGreatOMKS1
import Derived.Test.YtliijchcpooplaaGreatOMKS2
import Derived.Test.YtliijchcpooplaaGreatOMV3
import Derived.Test.YtliijchcpooplaaGreatOMP1
namespace Go.Proofs.YtliijchcpooplaaGreat
open Go.ChangeShapes Go.WideShapes Go.ChangeAt Go.RowKit
set_option maxRecDepth 20000
set_option linter.unusedVariables false
theorem vals_len {n : NodeD} {vs : List ValD} (h : valueE n vs = 0) : ((n.op = 6 ∨ n.op = 7 ∨ n.op = 10) /\ vs.length = 2) ∨ (¬ (n.op = 6 ∨ n.op = 7 ∨ n.op = 10) /\ vs.length = 1) := by
  obtain ⟨o1, o2⟩ := (value_parts h).1.1
  have l := (value_parts h).1.2.1
  rcases (show n.op = 1 ∨ n.op = 2 ∨ n.op = 3 ∨ n.op = 4 ∨ n.op = 5 ∨ n.op = 6 ∨ n.op = 7 ∨ n.op = 8 ∨ n.op = 9 ∨ n.op = 10 ∨ n.op = 11 ∨ n.op = 12 by omega) with c | c | c | c | c | c | c | c | c | c | c | c
  . rw [c] at l; have : (opD 1).vals = 1 := rfl; rw [this] at l; right; exact ⟨by omega, by omega⟩
  . rw [c] at l; have : (opD 2).vals = 1 := rfl; rw [this] at l; right; exact ⟨by omega, by omega⟩
  . rw [c] at l; have : (opD 3).vals = 1 := rfl; rw [this] at l; right; exact ⟨by omega, by omega⟩
  . rw [c] at l; have : (opD 4).vals = 1 := rfl; rw [this] at l; right; exact ⟨by omega, by omega⟩
  . rw [c] at l; have : (opD 5).vals = 1 := rfl; rw [this] at l; right; exact ⟨by omega, by omega⟩
  . rw [c] at l; have : (opD 6).vals = 2 := rfl; rw [this] at l; left; exact ⟨by omega, by omega⟩
  . rw [c] at l; have : (opD 7).vals = 2 := rfl; rw [this] at l; left; exact ⟨by omega, by omega⟩
  . rw [c] at l; have : (opD 8).vals = 1 := rfl; rw [this] at l; right; exact ⟨by omega, by omega⟩
  . rw [c] at l; have : (opD 9).vals = 1 := rfl; rw [this] at l; right; exact ⟨by omega, by omega⟩
  . rw [c] at l; have : (opD 10).vals = 2 := rfl; rw [this] at l; left; exact ⟨by omega, by omega⟩
  . rw [c] at l; have : (opD 11).vals = 1 := rfl; rw [this] at l; right; exact ⟨by omega, by omega⟩
  . rw [c] at l; have : (opD 12).vals = 1 := rfl; rw [this] at l; right; exact ⟨by omega, by omega⟩
theorem reach_in (y k s p h : Int) : (reachI y 1 k s p h).1 = (reachI y 1 k s p h).2 ∨ (0 <= (reachI y 1 k s p h).1 /\ (reachI y 1 k s p h).2 <= h) := by
  by_cases c : inR y 1 k s p h
  . rw [reachI_yes c]
    obtain ⟨⟨w1, _, w3, _, w5, _⟩, _⟩ := c
    rcases rs_inv y k s p h w5 w1 w3 (1 : Int).toNat with ⟨a, b⟩ | ⟨_, b, _, d, _⟩
    . left; rw [a, b]
    . right; exact ⟨b, d⟩
  . rw [reachI_no c]; left; rfl
theorem looks_in {n : NodeD} {vs : List ValD} (h : valueE n vs = 0) {y : Int} (y0 : 0 <= y) (y1 : y < (madeS n vs).1) {j : Nat} (hj : j < vs.length) :
    (looksD n (vs.getD j default).h y 1).1 = (looksD n (vs.getD j default).h y 1).2 ∨ (0 <= (looksD n (vs.getD j default).h y 1).1 /\ (looksD n (vs.getD j default).h y 1).2 <= (vs.getD j default).h) := by
  unfold looksD
  split
  . exact reach_in _ _ _ _ _
  . rename_i c1
    split
    . exact reach_in _ _ _ _ _
    . rename_i c2
      split
      . right; exact ⟨Int.le_refl _, Int.le_refl _⟩
      . rename_i c3
        right
        refine ⟨y0, ?_⟩
        show y + 1 <= _
        by_cases c : n.op = 10
        . have e : madeS n vs = if (vs.getD 0 default).h = (vs.getD 1 default).h /\ (vs.getD 0 default).w = (vs.getD 1 default).w then ((vs.getD 0 default).h, (vs.getD 0 default).w, (vs.getD 0 default).c + (vs.getD 1 default).c) else (0, 0, 0) := by unfold madeS; simp [c]
          rw [e] at y1
          have l2 : vs.length = 2 := by
            rcases vals_len h with ⟨_, l⟩ | ⟨l, _⟩
            . exact l
            . exact absurd (Or.inr (Or.inr c)) l
          split at y1
          . rename_i k
            rcases (show j = 0 ∨ j = 1 by omega) with rfl | rfl
            . simp only at y1; omega
            . rw [<- k.1]; simp only at y1; omega
          . simp only at y1; omega
        . have e : madeS n vs = alikeS vs := by unfold madeS; simp [show n.op ≠ 1 by omega, show n.op ≠ 2 by omega, show n.op ≠ 3 by omega, show n.op ≠ 4 by omega, show n.op ≠ 5 by omega, show n.op ≠ 9 by omega, show n.op ≠ 11 by omega, c]
          rw [e] at y1
          unfold alikeS at y1
          split at y1
          . rename_i k
            have := k j hj
            have e2 := congrArg Prod.fst this
            simp only [shD] at e2 y1
            omega
          . simp only at y1; omega
theorem past_trans3 {a b c : World} (h : Past a b) (g : Grown b c) : Past a c := h.trans (Grown.past g)
theorem Z18 : (Tryz.prog.info? 77).map (·.zero) = some (some (.agg #[.int .i64 0, .slice none 0 0, .int .i64 0, .int .i64 0, .int .i64 0, .int .i64 0, .int .i64 0, .int .i64 0, .int .i64 0, .int .i64 0, .int .i64 0, .int .i64 0, .slice none 0 0, .slice none 0 0, .slice none 0 0, .int .i64 0, .int .i64 0, .int .i64 0])) := by kernel_rfl
theorem Z14 : (Tryz.prog.info? 106).map (·.zero) = some (some (.agg #[.int .i64 0, .int .i64 0, .int .i64 0, .int .i64 0, .int .i64 0, .int .i64 0, .slice none 0 0, .int .i64 0, .int .i64 0, .int .i64 0, .int .i64 0, .int .i64 0, .int .i64 0, .slice none 0 0])) := by kernel_rfl
theorem N14 : (Tryz.prog.info? 44).map (·.size) = some 14 := by kernel_rfl
set_option maxHeartbeats 8000000 in
theorem Row_1 (n : NodeD) (vi vw vb lv : Value) (m : Int × Int × Int) (a  : ViewD) (sa  : Value) (vs : List ValD) (y : Int) (W : World) (h : MakeOk n vs a (⟨⟨0, 0, 0, 0⟩, 0, 0, []⟩ : ViewD) m) (hlen : vs.length = 1) (y0 : 0 <= y) (y1 : y < m.1) (hin : NodeIn W n vi vw vb) (hl : IsVals W lv vs) (na : IsNums .i8 W sa a.xs) :
    Calls Tryz.prog 40 #[.agg (nC n vi vw vb), lv, .agg #[.int .i64 0, .int .i64 a.many, sa, .int .i64 0, .int .i64 0, .slice none 0 0], .int .i64 y] W fun e w' => ∃ v, e = .returned (.tuple #[v, .int .i64 0]) /\ IsNums .i8 w' v (rowL n a (⟨⟨0, 0, 0, 0⟩, 0, 0, []⟩ : ViewD) m y (m.2.1.toNat * m.2.2.toNat)) /\ Past W w' := by
  have y1' : y < (madeS n vs).1 := by rw [<- h.2.1]; exact y1
  obtain ⟨m1, m2, _⟩ := h.m16
  have TK := Lib.hid (fun w (g : Past W w) => taskOf_ok n vi vw vb lv vs m w (hin.grow g) (hl.grow g) h.1 (Lib.hid h.2.1))
  have ND := Lib.hid (fun w (g : Past W w) => needs_ok n vi vw vb lv vs m y 1 w (hl.grow g) (value_parts h.1).1.1 (by omega) (by omega) ⟨m1, m2⟩ y0 (Int.le_refl _) (by omega))
  have VW := Lib.hid (fun w (g : Past W w) (p0 p1 q0 q1 : Int) (hp : p0 = p1 ∨ (0 <= p0 /\ p1 <= a.v.h)) => views_1 n vi vw vb lv vs m a  sa  p0 p1 q0 q1 w (hl.grow g) hlen (na.grow g) h.2.2.1 h.2.2.2.1 hp)
  have RM : Hid (∀ w, Past W w -> Calls Tryz.prog 59 #[.agg #[.int .i64 n.op, vi, .int .i64 n.k, .int .i64 n.stride, .int .i64 n.pad, .int .i64 n.out, .int .i64 n.mul, .int .i64 n.shift, .int .i64 n.zero, .int .i64 n.th, .int .i64 n.tw, .int .i64 n.tc, vw, vb, lv, .int .i64 m.1, .int .i64 m.2.1, .int .i64 m.2.2], .agg #[.int .i64 a.v.h, .int .i64 a.v.w, .int .i64 a.v.c, .int .i64 a.v.z, .int .i64 a.base, .int .i64 a.many, sa, .int .i64 0, .int .i64 0, .int .i64 0, .int .i64 0, .int .i64 0, .int .i64 0, .slice none 0 0], .int .i64 y] w fun e w' => ∃ v, e = .returned v /\ IsNums .i8 w' v (rowL n a (⟨⟨0, 0, 0, 0⟩, 0, 0, []⟩ : ViewD) m y (m.2.1.toNat * m.2.2.toNat)) /\ Past w w') := Lib.hid (fun w g => row_made n vi vw vb lv m a (⟨⟨0, 0, 0, 0⟩, 0, 0, []⟩ : ViewD) sa (.slice none 0 0) vs y w h y0 y1 (hin.grow g) (na.grow g) (nums_nil _ _))
  have LA := Lib.hid (looks_in h.1 y0 y1' (j := 0) (by omega))
  rw [<- h.2.2.2.1] at LA
  obtain ⟨Ai, ci, rfl, _⟩ := hin.1
  obtain ⟨Aw, cw, rfl, _⟩ := hin.2.1
  obtain ⟨Ab, cb, rfl, _⟩ := hin.2.2
  obtain ⟨A1, c1, rfl, _⟩ := hl
  obtain ⟨A2, c2, rfl, _⟩ := na
  have HL := Lib.hid hlen
  have EA := Lib.hid h.2.2.2.1
  clear h hin hlen y1 y1' m1 m2
  go_enter Tryz.func40, Tryz.ntmps40
  go_upto_region 1 with fail
  refine opq (fun w' => (Bx w' (W.heap.size) (nC n (.slice Ai n.ins.length ci) (.slice Aw n.ws.length cw) (.slice Ab n.bs.length cb))) /\ (Bx w' (W.heap.size + 1) #[.int .i64 0, .int .i64 a.many, (.slice A2 a.xs.length c2), .int .i64 0, .int .i64 0, .slice none 0 0]) /\ Past W w' /\ W.heap.size + 2 <= w'.heap.size) kKeepS ?_
  rintro W1 ⟨b4, b6, p1, z1⟩
  go_wp2_with (refine wpList_load_box rfl 44 (.tmp 4) rfl W.heap.size (nC n (.slice Ai n.ins.length ci) (.slice Aw n.ws.length cw) (.slice Ab n.bs.length cb)) rfl b4 Tryz.underlying44 rfl N14 ?_)
  refine (TK.out _ p1).mono ?_
  rintro e w2 ⟨rfl, g2⟩
  have b62 := box_grown g2 b6 (by omega)
  have p2 := past_trans3 p1 g2
  have z2 : W.heap.size + 2 <= w2.heap.size := by have := g2.2.2; omega
  clear b4 b6 p1 z1 g2
  go_wp2_with (first | ((refine wpList_alloc_box rfl 77 rfl (.agg #[.int .i64 0, .slice none 0 0, .int .i64 0, .int .i64 0, .int .i64 0, .int .i64 0, .int .i64 0, .int .i64 0, .int .i64 0, .int .i64 0, .int .i64 0, .int .i64 0, .slice none 0 0, .slice none 0 0, .slice none 0 0, .int .i64 0, .int .i64 0, .int .i64 0]) Z18 (fun w' => (Bx w' (w2.heap.size) #[.int .i64 0, .slice none 0 0, .int .i64 0, .int .i64 0, .int .i64 0, .int .i64 0, .int .i64 0, .int .i64 0, .int .i64 0, .int .i64 0, .int .i64 0, .int .i64 0, .slice none 0 0, .slice none 0 0, .slice none 0 0, .int .i64 0, .int .i64 0, .int .i64 0]) /\ (Fr w' (w2.heap.size)) /\ (Bx w' (W.heap.size + 1) #[.int .i64 0, .int .i64 a.many, (.slice A2 a.xs.length c2), .int .i64 0, .int .i64 0, .slice none 0 0]) /\ Past W w' /\ w2.heap.size + 1 <= w'.heap.size) ⟨box_new rfl, free_alloc (free_new (Nat.le_refl _)), box_old b62 (by omega), p2.alloc _, by simp⟩ ?_); rintro w3 ⟨bz, fz, b63, p3, z3⟩) | ((refine wpList_store_box rfl 77 (.tmp 10) (.tmp 19) rfl w2.heap.size #[.int .i64 n.op, (.slice Ai n.ins.length ci), .int .i64 n.k, .int .i64 n.stride, .int .i64 n.pad, .int .i64 n.out, .int .i64 n.mul, .int .i64 n.shift, .int .i64 n.zero, .int .i64 n.th, .int .i64 n.tw, .int .i64 n.tc, (.slice Aw n.ws.length cw), (.slice Ab n.bs.length cb), (.slice A1 vs.length c1), .int .i64 m.1, .int .i64 m.2.1, .int .i64 m.2.2] #[.int .i64 0, .slice none 0 0, .int .i64 0, .int .i64 0, .int .i64 0, .int .i64 0, .int .i64 0, .int .i64 0, .int .i64 0, .int .i64 0, .int .i64 0, .int .i64 0, .slice none 0 0, .slice none 0 0, .slice none 0 0, .int .i64 0, .int .i64 0, .int .i64 0] rfl rfl bz fz rfl T18 (by simp [Value.oneCell']) (fun w' => (Bx w' (w2.heap.size) #[.int .i64 n.op, (.slice Ai n.ins.length ci), .int .i64 n.k, .int .i64 n.stride, .int .i64 n.pad, .int .i64 n.out, .int .i64 n.mul, .int .i64 n.shift, .int .i64 n.zero, .int .i64 n.th, .int .i64 n.tw, .int .i64 n.tc, (.slice Aw n.ws.length cw), (.slice Ab n.bs.length cb), (.slice A1 vs.length c1), .int .i64 m.1, .int .i64 m.2.1, .int .i64 m.2.2]) /\ (Bx w' (W.heap.size + 1) #[.int .i64 0, .int .i64 a.many, (.slice A2 a.xs.length c2), .int .i64 0, .int .i64 0, .slice none 0 0]) /\ Past W w' /\ w2.heap.size + 1 <= w'.heap.size) ⟨box_setAll bz rfl, box_setOther (by omega) _ _ _ b63, past_setAll (by omega) _ _ _ p3, size_setAll _ _ _ z3⟩ ?_); rintro w4 ⟨bt, b64, p4, z4⟩) | (refine wpList_load_box rfl 77 (.tmp 10) rfl w2.heap.size #[.int .i64 n.op, (.slice Ai n.ins.length ci), .int .i64 n.k, .int .i64 n.stride, .int .i64 n.pad, .int .i64 n.out, .int .i64 n.mul, .int .i64 n.shift, .int .i64 n.zero, .int .i64 n.th, .int .i64 n.tw, .int .i64 n.tc, (.slice Aw n.ws.length cw), (.slice Ab n.bs.length cb), (.slice A1 vs.length c1), .int .i64 m.1, .int .i64 m.2.1, .int .i64 m.2.2] rfl bt Tryz.underlying77 rfl T18 ?_))
  refine (ND.out _ p4).mono ?_
  rintro e w5 ⟨p0, q0, p1, q1, rfl, hnd, g5⟩
  have bt5 := box_grown g5 bt (by omega)
  have b65 := box_grown g5 b64 (by omega)
  have p5 := past_trans3 p4 g5
  have z5 : w2.heap.size + 1 <= w5.heap.size := by have := g5.2.2; omega
  have A0 := hnd.2.1 (by have := HL.out; omega)
  rw [<- EA.out] at A0
  have LA' : p0 = q0 ∨ (0 <= p0 /\ q0 <= a.v.h) := by rw [A0.1, A0.2]; exact LA.out
  clear bt b64 p4 g5 hnd A0
  go_upto_region 7 with (first | (refine wpList_load_box rfl 77 (.tmp 10) rfl w2.heap.size #[.int .i64 n.op, (.slice Ai n.ins.length ci), .int .i64 n.k, .int .i64 n.stride, .int .i64 n.pad, .int .i64 n.out, .int .i64 n.mul, .int .i64 n.shift, .int .i64 n.zero, .int .i64 n.th, .int .i64 n.tw, .int .i64 n.tc, (.slice Aw n.ws.length cw), (.slice Ab n.bs.length cb), (.slice A1 vs.length c1), .int .i64 m.1, .int .i64 m.2.1, .int .i64 m.2.2] rfl bt5 Tryz.underlying77 rfl T18 ?_))
  refine opq (fun w' => (Bx w' (w2.heap.size) #[.int .i64 n.op, (.slice Ai n.ins.length ci), .int .i64 n.k, .int .i64 n.stride, .int .i64 n.pad, .int .i64 n.out, .int .i64 n.mul, .int .i64 n.shift, .int .i64 n.zero, .int .i64 n.th, .int .i64 n.tw, .int .i64 n.tc, (.slice Aw n.ws.length cw), (.slice Ab n.bs.length cb), (.slice A1 vs.length c1), .int .i64 m.1, .int .i64 m.2.1, .int .i64 m.2.2]) /\ (Bx w' (W.heap.size + 1) #[.int .i64 0, .int .i64 a.many, (.slice A2 a.xs.length c2), .int .i64 0, .int .i64 0, .slice none 0 0]) /\ (Bx w' (w5.heap.size) #[.int .i64 p0, .int .i64 q0, .int .i64 p1, .int .i64 q1]) /\ Past W w' /\ w5.heap.size + 1 <= w'.heap.size) kKeepS ?_
  rintro w6 ⟨bt6, b66, b12, p6, z6⟩
  go_wp2_with (first | (refine wpList_load_box rfl 77 (.tmp 10) rfl w2.heap.size #[.int .i64 n.op, (.slice Ai n.ins.length ci), .int .i64 n.k, .int .i64 n.stride, .int .i64 n.pad, .int .i64 n.out, .int .i64 n.mul, .int .i64 n.shift, .int .i64 n.zero, .int .i64 n.th, .int .i64 n.tw, .int .i64 n.tc, (.slice Aw n.ws.length cw), (.slice Ab n.bs.length cb), (.slice A1 vs.length c1), .int .i64 m.1, .int .i64 m.2.1, .int .i64 m.2.2] rfl bt6 Tryz.underlying77 rfl T18 ?_))
  refine (VW.out _ p6 _ _ _ _ LA').mono ?_
  rintro e w7 ⟨rfl, g7⟩
  have bt7 := box_grown g7 bt6 (by omega)
  have p7 := past_trans3 p6 g7
  have z7 : w2.heap.size + 1 <= w7.heap.size := by have := g7.2.2; omega
  clear bt6 b66 b12 p6 g7 bt5 b65 p5
  go_wp2_with (first | ((refine wpList_alloc_box rfl 106 rfl (.agg #[.int .i64 0, .int .i64 0, .int .i64 0, .int .i64 0, .int .i64 0, .int .i64 0, .slice none 0 0, .int .i64 0, .int .i64 0, .int .i64 0, .int .i64 0, .int .i64 0, .int .i64 0, .slice none 0 0]) Z14 (fun w' => (Bx w' (w7.heap.size) #[.int .i64 0, .int .i64 0, .int .i64 0, .int .i64 0, .int .i64 0, .int .i64 0, .slice none 0 0, .int .i64 0, .int .i64 0, .int .i64 0, .int .i64 0, .int .i64 0, .int .i64 0, .slice none 0 0]) /\ (Fr w' (w7.heap.size)) /\ (Bx w' (w2.heap.size) #[.int .i64 n.op, (.slice Ai n.ins.length ci), .int .i64 n.k, .int .i64 n.stride, .int .i64 n.pad, .int .i64 n.out, .int .i64 n.mul, .int .i64 n.shift, .int .i64 n.zero, .int .i64 n.th, .int .i64 n.tw, .int .i64 n.tc, (.slice Aw n.ws.length cw), (.slice Ab n.bs.length cb), (.slice A1 vs.length c1), .int .i64 m.1, .int .i64 m.2.1, .int .i64 m.2.2]) /\ Past W w' /\ w7.heap.size + 1 <= w'.heap.size) ⟨box_new rfl, free_alloc (free_new (Nat.le_refl _)), box_old bt7 (by omega), p7.alloc _, by simp⟩ ?_); rintro w8 ⟨bz8, fz8, bt8, p8, z8⟩) | ((refine wpList_store_box rfl 106 (.tmp 13) (.tmp 38) rfl w7.heap.size #[.int .i64 a.v.h, .int .i64 a.v.w, .int .i64 a.v.c, .int .i64 a.v.z, .int .i64 a.base, .int .i64 a.many, (.slice A2 a.xs.length c2), .int .i64 0, .int .i64 0, .int .i64 0, .int .i64 0, .int .i64 0, .int .i64 0, .slice none 0 0] #[.int .i64 0, .int .i64 0, .int .i64 0, .int .i64 0, .int .i64 0, .int .i64 0, .slice none 0 0, .int .i64 0, .int .i64 0, .int .i64 0, .int .i64 0, .int .i64 0, .int .i64 0, .slice none 0 0] rfl rfl bz8 fz8 rfl W14 (by simp [Value.oneCell']) (fun w' => (Bx w' (w7.heap.size) #[.int .i64 a.v.h, .int .i64 a.v.w, .int .i64 a.v.c, .int .i64 a.v.z, .int .i64 a.base, .int .i64 a.many, (.slice A2 a.xs.length c2), .int .i64 0, .int .i64 0, .int .i64 0, .int .i64 0, .int .i64 0, .int .i64 0, .slice none 0 0]) /\ (Bx w' (w2.heap.size) #[.int .i64 n.op, (.slice Ai n.ins.length ci), .int .i64 n.k, .int .i64 n.stride, .int .i64 n.pad, .int .i64 n.out, .int .i64 n.mul, .int .i64 n.shift, .int .i64 n.zero, .int .i64 n.th, .int .i64 n.tw, .int .i64 n.tc, (.slice Aw n.ws.length cw), (.slice Ab n.bs.length cb), (.slice A1 vs.length c1), .int .i64 m.1, .int .i64 m.2.1, .int .i64 m.2.2]) /\ Past W w' /\ w7.heap.size + 1 <= w'.heap.size) ⟨box_setAll bz8 rfl, box_setOther (by omega) _ _ _ bt8, past_setAll (by omega) _ _ _ p8, size_setAll _ _ _ z8⟩ ?_); rintro w9 ⟨b9, bt9, p9, z9⟩) | (refine wpList_load_box rfl 106 (.tmp 13) rfl w7.heap.size #[.int .i64 a.v.h, .int .i64 a.v.w, .int .i64 a.v.c, .int .i64 a.v.z, .int .i64 a.base, .int .i64 a.many, (.slice A2 a.xs.length c2), .int .i64 0, .int .i64 0, .int .i64 0, .int .i64 0, .int .i64 0, .int .i64 0, .slice none 0 0] rfl b9 Tryz.underlying106 rfl W14 ?_) | (refine wpList_load_box rfl 77 (.tmp 10) rfl w2.heap.size #[.int .i64 n.op, (.slice Ai n.ins.length ci), .int .i64 n.k, .int .i64 n.stride, .int .i64 n.pad, .int .i64 n.out, .int .i64 n.mul, .int .i64 n.shift, .int .i64 n.zero, .int .i64 n.th, .int .i64 n.tw, .int .i64 n.tc, (.slice Aw n.ws.length cw), (.slice Ab n.bs.length cb), (.slice A1 vs.length c1), .int .i64 m.1, .int .i64 m.2.1, .int .i64 m.2.2] rfl bt9 Tryz.underlying77 rfl T18 ?_))
  refine (RM.out _ p9).mono ?_
  rintro e w10 ⟨v, rfl, hv, p10⟩
  go_wp2_with fail
  go_ret2
  exact ⟨_, rfl, hv, p9.trans p10⟩
set_option maxHeartbeats 8000000 in
theorem Row_2 (n : NodeD) (vi vw vb lv : Value) (m : Int × Int × Int) (a b : ViewD) (sa sb : Value) (vs : List ValD) (y : Int) (W : World) (h : MakeOk n vs a b m) (hlen : vs.length = 2) (y0 : 0 <= y) (y1 : y < m.1) (hin : NodeIn W n vi vw vb) (hl : IsVals W lv vs) (na : IsNums .i8 W sa a.xs) (nb : IsNums .i8 W sb b.xs) :
    Calls Tryz.prog 40 #[.agg (nC n vi vw vb), lv, .agg #[.int .i64 0, .int .i64 a.many, sa, .int .i64 0, .int .i64 b.many, sb], .int .i64 y] W fun e w' => ∃ v, e = .returned (.tuple #[v, .int .i64 0]) /\ IsNums .i8 w' v (rowL n a b m y (m.2.1.toNat * m.2.2.toNat)) /\ Past W w' := by
  have y1' : y < (madeS n vs).1 := by rw [<- h.2.1]; exact y1
  obtain ⟨m1, m2, _⟩ := h.m16
  have HB : n.op = 6 ∨ n.op = 7 ∨ n.op = 10 := by
    rcases vals_len h.1 with ⟨c, _⟩ | ⟨_, c⟩
    . exact c
    . omega
  have TK := Lib.hid (fun w (g : Past W w) => taskOf_ok n vi vw vb lv vs m w (hin.grow g) (hl.grow g) h.1 (Lib.hid h.2.1))
  have ND := Lib.hid (fun w (g : Past W w) => needs_ok n vi vw vb lv vs m y 1 w (hl.grow g) (value_parts h.1).1.1 (by omega) (by omega) ⟨m1, m2⟩ y0 (Int.le_refl _) (by omega))
  have VW := Lib.hid (fun w (g : Past W w) (p0 p1 q0 q1 : Int) (hp : p0 = p1 ∨ (0 <= p0 /\ p1 <= a.v.h)) (hq : q0 = q1 ∨ (0 <= q0 /\ q1 <= b.v.h)) => views_2 n vi vw vb lv vs m a b sa sb p0 p1 q0 q1 w (hl.grow g) hlen (na.grow g) h.2.2.1 h.2.2.2.1 hp (nb.grow g) (h.2.2.2.2 HB).1 (h.2.2.2.2 HB).2 hq)
  have RM : Hid (∀ w, Past W w -> Calls Tryz.prog 59 #[.agg #[.int .i64 n.op, vi, .int .i64 n.k, .int .i64 n.stride, .int .i64 n.pad, .int .i64 n.out, .int .i64 n.mul, .int .i64 n.shift, .int .i64 n.zero, .int .i64 n.th, .int .i64 n.tw, .int .i64 n.tc, vw, vb, lv, .int .i64 m.1, .int .i64 m.2.1, .int .i64 m.2.2], .agg #[.int .i64 a.v.h, .int .i64 a.v.w, .int .i64 a.v.c, .int .i64 a.v.z, .int .i64 a.base, .int .i64 a.many, sa, .int .i64 b.v.h, .int .i64 b.v.w, .int .i64 b.v.c, .int .i64 b.v.z, .int .i64 b.base, .int .i64 b.many, sb], .int .i64 y] w fun e w' => ∃ v, e = .returned v /\ IsNums .i8 w' v (rowL n a b m y (m.2.1.toNat * m.2.2.toNat)) /\ Past w w') := Lib.hid (fun w g => row_made n vi vw vb lv m a b sa sb vs y w h y0 y1 (hin.grow g) (na.grow g) (nb.grow g))
  have LA := Lib.hid (looks_in h.1 y0 y1' (j := 0) (by omega))
  rw [<- h.2.2.2.1] at LA
  have LB := Lib.hid (looks_in h.1 y0 y1' (j := 1) (by omega))
  rw [<- (h.2.2.2.2 HB).2] at LB
  have EB := Lib.hid (h.2.2.2.2 HB).2
  obtain ⟨Ai, ci, rfl, _⟩ := hin.1
  obtain ⟨Aw, cw, rfl, _⟩ := hin.2.1
  obtain ⟨Ab, cb, rfl, _⟩ := hin.2.2
  obtain ⟨A1, c1, rfl, _⟩ := hl
  obtain ⟨A2, c2, rfl, _⟩ := na
  obtain ⟨A3, c3, rfl, _⟩ := nb
  have HL := Lib.hid hlen
  have EA := Lib.hid h.2.2.2.1
  clear h hin hlen y1 y1' m1 m2
  go_enter Tryz.func40, Tryz.ntmps40
  go_upto_region 1 with fail
  refine opq (fun w' => (Bx w' (W.heap.size) (nC n (.slice Ai n.ins.length ci) (.slice Aw n.ws.length cw) (.slice Ab n.bs.length cb))) /\ (Bx w' (W.heap.size + 1) #[.int .i64 0, .int .i64 a.many, (.slice A2 a.xs.length c2), .int .i64 0, .int .i64 b.many, (.slice A3 b.xs.length c3)]) /\ Past W w' /\ W.heap.size + 2 <= w'.heap.size) kKeepS ?_
  rintro W1 ⟨b4, b6, p1, z1⟩
  go_wp2_with (refine wpList_load_box rfl 44 (.tmp 4) rfl W.heap.size (nC n (.slice Ai n.ins.length ci) (.slice Aw n.ws.length cw) (.slice Ab n.bs.length cb)) rfl b4 Tryz.underlying44 rfl N14 ?_)
  refine (TK.out _ p1).mono ?_
  rintro e w2 ⟨rfl, g2⟩
  have b62 := box_grown g2 b6 (by omega)
  have p2 := past_trans3 p1 g2
  have z2 : W.heap.size + 2 <= w2.heap.size := by have := g2.2.2; omega
  clear b4 b6 p1 z1 g2
  go_wp2_with (first | ((refine wpList_alloc_box rfl 77 rfl (.agg #[.int .i64 0, .slice none 0 0, .int .i64 0, .int .i64 0, .int .i64 0, .int .i64 0, .int .i64 0, .int .i64 0, .int .i64 0, .int .i64 0, .int .i64 0, .int .i64 0, .slice none 0 0, .slice none 0 0, .slice none 0 0, .int .i64 0, .int .i64 0, .int .i64 0]) Z18 (fun w' => (Bx w' (w2.heap.size) #[.int .i64 0, .slice none 0 0, .int .i64 0, .int .i64 0, .int .i64 0, .int .i64 0, .int .i64 0, .int .i64 0, .int .i64 0, .int .i64 0, .int .i64 0, .int .i64 0, .slice none 0 0, .slice none 0 0, .slice none 0 0, .int .i64 0, .int .i64 0, .int .i64 0]) /\ (Fr w' (w2.heap.size)) /\ (Bx w' (W.heap.size + 1) #[.int .i64 0, .int .i64 a.many, (.slice A2 a.xs.length c2), .int .i64 0, .int .i64 b.many, (.slice A3 b.xs.length c3)]) /\ Past W w' /\ w2.heap.size + 1 <= w'.heap.size) ⟨box_new rfl, free_alloc (free_new (Nat.le_refl _)), box_old b62 (by omega), p2.alloc _, by simp⟩ ?_); rintro w3 ⟨bz, fz, b63, p3, z3⟩) | ((refine wpList_store_box rfl 77 (.tmp 10) (.tmp 19) rfl w2.heap.size #[.int .i64 n.op, (.slice Ai n.ins.length ci), .int .i64 n.k, .int .i64 n.stride, .int .i64 n.pad, .int .i64 n.out, .int .i64 n.mul, .int .i64 n.shift, .int .i64 n.zero, .int .i64 n.th, .int .i64 n.tw, .int .i64 n.tc, (.slice Aw n.ws.length cw), (.slice Ab n.bs.length cb), (.slice A1 vs.length c1), .int .i64 m.1, .int .i64 m.2.1, .int .i64 m.2.2] #[.int .i64 0, .slice none 0 0, .int .i64 0, .int .i64 0, .int .i64 0, .int .i64 0, .int .i64 0, .int .i64 0, .int .i64 0, .int .i64 0, .int .i64 0, .int .i64 0, .slice none 0 0, .slice none 0 0, .slice none 0 0, .int .i64 0, .int .i64 0, .int .i64 0] rfl rfl bz fz rfl T18 (by simp [Value.oneCell']) (fun w' => (Bx w' (w2.heap.size) #[.int .i64 n.op, (.slice Ai n.ins.length ci), .int .i64 n.k, .int .i64 n.stride, .int .i64 n.pad, .int .i64 n.out, .int .i64 n.mul, .int .i64 n.shift, .int .i64 n.zero, .int .i64 n.th, .int .i64 n.tw, .int .i64 n.tc, (.slice Aw n.ws.length cw), (.slice Ab n.bs.length cb), (.slice A1 vs.length c1), .int .i64 m.1, .int .i64 m.2.1, .int .i64 m.2.2]) /\ (Bx w' (W.heap.size + 1) #[.int .i64 0, .int .i64 a.many, (.slice A2 a.xs.length c2), .int .i64 0, .int .i64 b.many, (.slice A3 b.xs.length c3)]) /\ Past W w' /\ w2.heap.size + 1 <= w'.heap.size) ⟨box_setAll bz rfl, box_setOther (by omega) _ _ _ b63, past_setAll (by omega) _ _ _ p3, size_setAll _ _ _ z3⟩ ?_); rintro w4 ⟨bt, b64, p4, z4⟩) | (refine wpList_load_box rfl 77 (.tmp 10) rfl w2.heap.size #[.int .i64 n.op, (.slice Ai n.ins.length ci), .int .i64 n.k, .int .i64 n.stride, .int .i64 n.pad, .int .i64 n.out, .int .i64 n.mul, .int .i64 n.shift, .int .i64 n.zero, .int .i64 n.th, .int .i64 n.tw, .int .i64 n.tc, (.slice Aw n.ws.length cw), (.slice Ab n.bs.length cb), (.slice A1 vs.length c1), .int .i64 m.1, .int .i64 m.2.1, .int .i64 m.2.2] rfl bt Tryz.underlying77 rfl T18 ?_))
  refine (ND.out _ p4).mono ?_
  rintro e w5 ⟨p0, q0, p1, q1, rfl, hnd, g5⟩
  have bt5 := box_grown g5 bt (by omega)
  have b65 := box_grown g5 b64 (by omega)
  have p5 := past_trans3 p4 g5
  have z5 : w2.heap.size + 1 <= w5.heap.size := by have := g5.2.2; omega
  have A0 := hnd.2.1 (by have := HL.out; omega)
  rw [<- EA.out] at A0
  have LA' : p0 = q0 ∨ (0 <= p0 /\ q0 <= a.v.h) := by rw [A0.1, A0.2]; exact LA.out
  have A1 := hnd.2.2.2 (by have := HL.out; omega)
  rw [<- EB.out] at A1
  have LB' : p1 = q1 ∨ (0 <= p1 /\ q1 <= b.v.h) := by rw [A1.1, A1.2]; exact LB.out
  clear A1
  clear bt b64 p4 g5 hnd A0
  go_upto_region 7 with (first | (refine wpList_load_box rfl 77 (.tmp 10) rfl w2.heap.size #[.int .i64 n.op, (.slice Ai n.ins.length ci), .int .i64 n.k, .int .i64 n.stride, .int .i64 n.pad, .int .i64 n.out, .int .i64 n.mul, .int .i64 n.shift, .int .i64 n.zero, .int .i64 n.th, .int .i64 n.tw, .int .i64 n.tc, (.slice Aw n.ws.length cw), (.slice Ab n.bs.length cb), (.slice A1 vs.length c1), .int .i64 m.1, .int .i64 m.2.1, .int .i64 m.2.2] rfl bt5 Tryz.underlying77 rfl T18 ?_))
  refine opq (fun w' => (Bx w' (w2.heap.size) #[.int .i64 n.op, (.slice Ai n.ins.length ci), .int .i64 n.k, .int .i64 n.stride, .int .i64 n.pad, .int .i64 n.out, .int .i64 n.mul, .int .i64 n.shift, .int .i64 n.zero, .int .i64 n.th, .int .i64 n.tw, .int .i64 n.tc, (.slice Aw n.ws.length cw), (.slice Ab n.bs.length cb), (.slice A1 vs.length c1), .int .i64 m.1, .int .i64 m.2.1, .int .i64 m.2.2]) /\ (Bx w' (W.heap.size + 1) #[.int .i64 0, .int .i64 a.many, (.slice A2 a.xs.length c2), .int .i64 0, .int .i64 b.many, (.slice A3 b.xs.length c3)]) /\ (Bx w' (w5.heap.size) #[.int .i64 p0, .int .i64 q0, .int .i64 p1, .int .i64 q1]) /\ Past W w' /\ w5.heap.size + 1 <= w'.heap.size) kKeepS ?_
  rintro w6 ⟨bt6, b66, b12, p6, z6⟩
  go_wp2_with (first | (refine wpList_load_box rfl 77 (.tmp 10) rfl w2.heap.size #[.int .i64 n.op, (.slice Ai n.ins.length ci), .int .i64 n.k, .int .i64 n.stride, .int .i64 n.pad, .int .i64 n.out, .int .i64 n.mul, .int .i64 n.shift, .int .i64 n.zero, .int .i64 n.th, .int .i64 n.tw, .int .i64 n.tc, (.slice Aw n.ws.length cw), (.slice Ab n.bs.length cb), (.slice A1 vs.length c1), .int .i64 m.1, .int .i64 m.2.1, .int .i64 m.2.2] rfl bt6 Tryz.underlying77 rfl T18 ?_))
  refine (VW.out _ p6 _ _ _ _ LA' LB').mono ?_
  rintro e w7 ⟨rfl, g7⟩
  have bt7 := box_grown g7 bt6 (by omega)
  have p7 := past_trans3 p6 g7
  have z7 : w2.heap.size + 1 <= w7.heap.size := by have := g7.2.2; omega
  clear bt6 b66 b12 p6 g7 bt5 b65 p5
  go_wp2_with (first | ((refine wpList_alloc_box rfl 106 rfl (.agg #[.int .i64 0, .int .i64 0, .int .i64 0, .int .i64 0, .int .i64 0, .int .i64 0, .slice none 0 0, .int .i64 0, .int .i64 0, .int .i64 0, .int .i64 0, .int .i64 0, .int .i64 0, .slice none 0 0]) Z14 (fun w' => (Bx w' (w7.heap.size) #[.int .i64 0, .int .i64 0, .int .i64 0, .int .i64 0, .int .i64 0, .int .i64 0, .slice none 0 0, .int .i64 0, .int .i64 0, .int .i64 0, .int .i64 0, .int .i64 0, .int .i64 0, .slice none 0 0]) /\ (Fr w' (w7.heap.size)) /\ (Bx w' (w2.heap.size) #[.int .i64 n.op, (.slice Ai n.ins.length ci), .int .i64 n.k, .int .i64 n.stride, .int .i64 n.pad, .int .i64 n.out, .int .i64 n.mul, .int .i64 n.shift, .int .i64 n.zero, .int .i64 n.th, .int .i64 n.tw, .int .i64 n.tc, (.slice Aw n.ws.length cw), (.slice Ab n.bs.length cb), (.slice A1 vs.length c1), .int .i64 m.1, .int .i64 m.2.1, .int .i64 m.2.2]) /\ Past W w' /\ w7.heap.size + 1 <= w'.heap.size) ⟨box_new rfl, free_alloc (free_new (Nat.le_refl _)), box_old bt7 (by omega), p7.alloc _, by simp⟩ ?_); rintro w8 ⟨bz8, fz8, bt8, p8, z8⟩) | ((refine wpList_store_box rfl 106 (.tmp 13) (.tmp 38) rfl w7.heap.size #[.int .i64 a.v.h, .int .i64 a.v.w, .int .i64 a.v.c, .int .i64 a.v.z, .int .i64 a.base, .int .i64 a.many, (.slice A2 a.xs.length c2), .int .i64 b.v.h, .int .i64 b.v.w, .int .i64 b.v.c, .int .i64 b.v.z, .int .i64 b.base, .int .i64 b.many, (.slice A3 b.xs.length c3)] #[.int .i64 0, .int .i64 0, .int .i64 0, .int .i64 0, .int .i64 0, .int .i64 0, .slice none 0 0, .int .i64 0, .int .i64 0, .int .i64 0, .int .i64 0, .int .i64 0, .int .i64 0, .slice none 0 0] rfl rfl bz8 fz8 rfl W14 (by simp [Value.oneCell']) (fun w' => (Bx w' (w7.heap.size) #[.int .i64 a.v.h, .int .i64 a.v.w, .int .i64 a.v.c, .int .i64 a.v.z, .int .i64 a.base, .int .i64 a.many, (.slice A2 a.xs.length c2), .int .i64 b.v.h, .int .i64 b.v.w, .int .i64 b.v.c, .int .i64 b.v.z, .int .i64 b.base, .int .i64 b.many, (.slice A3 b.xs.length c3)]) /\ (Bx w' (w2.heap.size) #[.int .i64 n.op, (.slice Ai n.ins.length ci), .int .i64 n.k, .int .i64 n.stride, .int .i64 n.pad, .int .i64 n.out, .int .i64 n.mul, .int .i64 n.shift, .int .i64 n.zero, .int .i64 n.th, .int .i64 n.tw, .int .i64 n.tc, (.slice Aw n.ws.length cw), (.slice Ab n.bs.length cb), (.slice A1 vs.length c1), .int .i64 m.1, .int .i64 m.2.1, .int .i64 m.2.2]) /\ Past W w' /\ w7.heap.size + 1 <= w'.heap.size) ⟨box_setAll bz8 rfl, box_setOther (by omega) _ _ _ bt8, past_setAll (by omega) _ _ _ p8, size_setAll _ _ _ z8⟩ ?_); rintro w9 ⟨b9, bt9, p9, z9⟩) | (refine wpList_load_box rfl 106 (.tmp 13) rfl w7.heap.size #[.int .i64 a.v.h, .int .i64 a.v.w, .int .i64 a.v.c, .int .i64 a.v.z, .int .i64 a.base, .int .i64 a.many, (.slice A2 a.xs.length c2), .int .i64 b.v.h, .int .i64 b.v.w, .int .i64 b.v.c, .int .i64 b.v.z, .int .i64 b.base, .int .i64 b.many, (.slice A3 b.xs.length c3)] rfl b9 Tryz.underlying106 rfl W14 ?_) | (refine wpList_load_box rfl 77 (.tmp 10) rfl w2.heap.size #[.int .i64 n.op, (.slice Ai n.ins.length ci), .int .i64 n.k, .int .i64 n.stride, .int .i64 n.pad, .int .i64 n.out, .int .i64 n.mul, .int .i64 n.shift, .int .i64 n.zero, .int .i64 n.th, .int .i64 n.tw, .int .i64 n.tc, (.slice Aw n.ws.length cw), (.slice Ab n.bs.length cb), (.slice A1 vs.length c1), .int .i64 m.1, .int .i64 m.2.1, .int .i64 m.2.2] rfl bt9 Tryz.underlying77 rfl T18 ?_))
  refine (RM.out _ p9).mono ?_
  rintro e w10 ⟨v, rfl, hv, p10⟩
  go_wp2_with fail
  go_ret2
  exact ⟨_, rfl, hv, p9.trans p10⟩
noncomputable def allF (n : NodeD) (a b : ViewD) (m : Int × Int × Int) (r i : Nat) : Int := rowF n a b m ((i / r : Nat) : Int) (i % r)
noncomputable def allL (n : NodeD) (a b : ViewD) (m : Int × Int × Int) (r k : Nat) : List Int := (List.range k).map (allF n a b m r)
theorem allL_len (n : NodeD) (a b : ViewD) (m : Int × Int × Int) (r k : Nat) : (allL n a b m r k).length = k := by simp [allL]
theorem allL_row (n : NodeD) (a b : ViewD) (m : Int × Int × Int) (r y : Nat) : allL n a b m r (y * r + r) = allL n a b m r (y * r) ++ rowL n a b m y r := by
  unfold allL rowL
  rw [List.range_add, List.map_append, List.map_map]
  congr 1
  apply List.map_congr_left
  intro i hi
  have hi' : i < r := List.mem_range.1 hi
  show allF n a b m r (y * r + i) = _
  unfold allF
  rw [Nat.mul_comm y, Nat.mul_add_div (by omega), Nat.div_eq_of_lt hi', Nat.add_zero, Nat.mul_add_mod, Nat.mod_eq_of_lt hi']
theorem rowL_len (n : NodeD) (a b : ViewD) (m : Int × Int × Int) (y : Int) (k : Nat) : (rowL n a b m y k).length = k := by simp [rowL]
theorem own8_more {w : World} {base : Nat} {v : Value} {xs ys : List Int} {k : Nat} (hk : ys.length = k) (h : w.ownsRow base 35 1 v (xs.length + k) (xs.map (Value.int .i8) ++ ys.map (Value.int .i8))) : Own8 w base v (xs ++ ys) := by
  unfold Own8
  rw [List.map_append, List.length_append, hk]
  exact h
theorem nums_cells {k : IntKind} {w : World} {b off l cap : Nat} {xs : List Int} (h : IsNums k w (.slice (some ⟨b, off, none⟩) l cap) xs) : ∀ j u, (xs.map (Value.int k))[j]? = some u -> w.cell? ((⟨b, off, none⟩ : Addr).add j) = some u := by
  intro j u hu
  have hj : j < xs.length := by
    have := (List.getElem?_eq_some_iff.1 hu).1
    simpa using this
  obtain ⟨_, _, e, _, _, _, _, hc⟩ := nums_parts h (by omega)
  simp only [Option.some.injEq, Addr.mk.injEq, and_true] at e
  obtain ⟨rfl, rfl⟩ := e
  rw [Addr.add_mid, (hc j hj).1]
  simp [hj] at hu
  rw [<- hu]
  simp [List.getD, hj]
theorem own8_base {w : World} {b0 b1 : Nat} {v : Value} {xs : List Int} (h : Own8 w b1 v xs) (hb : b0 <= b1) : Own8 w b0 v xs := by
  obtain ⟨hl, h⟩ := h
  refine ⟨hl, ?_⟩
  rcases h with ⟨rfl, h0⟩ | ⟨b, cap, cur, rfl, hbb, hg, hn, hm, hs, ht⟩
  . exact .inl ⟨rfl, h0⟩
  . exact .inr ⟨b, cap, cur, rfl, by omega, hg, hn, hm, hs, ht⟩
theorem box6_lo {w : World} {b : Nat} {x0 x1 x2 x3 x4 x5 y0 y1 y2 : Value} (h : (Bx w b #[x0, x1, x2, x3, x4, x5])) : (Bx (((w.setCell ⟨b, 0, none⟩ y0).setCell ⟨b, 1, none⟩ y1).setCell ⟨b, 2, none⟩ y2) b #[y0, y1, y2, x3, x4, x5]) := by
  have := box_setPart (s := 0) (new := #[y0, y1, y2, x3, x4, x5]) [y0, y1, y2] h (by simp) (fun k => by
    match k with
    | 0 => rfl
    | 1 => rfl
    | 2 => rfl
    | 3 => rfl
    | 4 => rfl
    | 5 => rfl
    | k + 6 => simp)
  exact this
theorem box6_hi {w : World} {b : Nat} {x0 x1 x2 x3 x4 x5 y0 y1 y2 : Value} (h : (Bx w b #[x0, x1, x2, x3, x4, x5])) : (Bx (((w.setCell ⟨b, 3, none⟩ y0).setCell ⟨b, 4, none⟩ y1).setCell ⟨b, 5, none⟩ y2) b #[x0, x1, x2, y0, y1, y2]) := by
  have := box_setPart (s := 3) (new := #[x0, x1, x2, y0, y1, y2]) [y0, y1, y2] h (by simp) (fun k => by
    match k with
    | 0 => rfl
    | 1 => rfl
    | 2 => rfl
    | 3 => rfl
    | 4 => rfl
    | 5 => rfl
    | k + 6 => simp)
  exact this
end Go.Proofs.YtliijchcpooplaaGreat
