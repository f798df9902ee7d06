/- kern: which windows are views. kern: views, in numbers of cells. kern: maker, op by op. -/
import Derived.Test.YtliijchcpooplaaGreatOMFix
import Derived.Test.YtliijchcpooplaaGreatOMP1
import Derived.Test.YtliijchcpooplaaGreatOMKK
namespace Go.Proofs.YtliijchcpooplaaGreat
open Go.ChangeShapes Go.WideShapes Go.ChangeAt Go.RowKit
set_option maxRecDepth 20000
set_option linter.unusedVariables false
theorem may_full (u : ViewD) (s : Value) (W : World) (hs : IsNums .i8 W s u.xs) (hf : FullV u) :
    Calls Tryz.prog 84 #[.agg #[.int .i64 u.v.h, .int .i64 u.v.w, .int .i64 u.v.c, .int .i64 u.v.z, .int .i64 u.base, .int .i64 u.many, s]] W fun e w' => e = .returned (.bool true) /\ Grown W w' := by
  obtain ⟨A, cap, rfl, a1, a2, _⟩ := hs
  obtain ⟨hm, b0, h0, _, hl, _⟩ := hf
  obtain ⟨r, hr⟩ : ∃ r, Hid (r = rowI u.v.h u.v.w u.v.c) := ⟨_, Lib.hid rfl⟩
  obtain ⟨m1, m2, m3, m4, m5, m6⟩ := hm
  have rr : r = u.v.w * u.v.c := by rw [hr.out]; unfold rowI; rw [if_pos ⟨m1, m2, m3, m4, m5, m6⟩]
  have sz : (u.xs.length : Int) = u.many * r := by rw [hl, h0, rr]; unfold sizeI; rw [if_pos ⟨m1, m2, m3, m4, m5, m6⟩, Int.mul_assoc]
  have rb := mul_bd m3 m4 m5 m6
  rw [<- rr] at rb
  have mb := mul_bd (x := u.many) (y := r) (a := 16) (b := 128) (by omega) (by omega) rb.1 (by omega)
  have d1 : decide (0 <= u.base) = true := by simp; omega
  have d2 : decide (0 <= u.many) = true := by simp; omega
  have e1 : IntKind.i64.wrap (u.v.h - u.base) = u.v.h - u.base := IntWalk.i64_in _ (by omega)
  have d3 : decide (u.many <= u.v.h - u.base) = true := by simp; omega
  have e2 : IntKind.i64.wrap (u.many * r) = u.many * r := IntWalk.i64_in _ (by omega)
  have d4 : ((u.xs.length : Int) == u.many * r) = true := by simpa using sz
  clear sz mb rb rr hl a2 b0 h0
  go_enter Tryz.func84, Tryz.ntmps84
  go_upto_region 1 with fail
  refine opq (fun w' => (Bx w' (W.heap.size) #[.int .i64 u.v.h, .int .i64 u.v.w, .int .i64 u.v.c, .int .i64 u.v.z, .int .i64 u.base, .int .i64 u.many, .slice A u.xs.length cap]) /\ Grown W w' /\ W.heap.size + 1 <= w'.heap.size) kLaid ?_
  rintro W1 ⟨b1, g1, z1⟩
  go_upto_region 2 with fail
  refine wp_region_fill (fun w' => (Bx w' (W.heap.size) #[.int .i64 u.v.h, .int .i64 u.v.w, .int .i64 u.v.c, .int .i64 u.v.z, .int .i64 u.base, .int .i64 u.many, .slice A u.xs.length cap]) /\ Grown W w' /\ W.heap.size + 1 <= w'.heap.size) [(28, ?va28), (29, ?va29), (30, ?va30), (31, ?va31), (32, ?va32), (33, ?va33), (34, ?va34), (35, ?va35), (36, ?va36), (37, ?va37), (38, ?va38), (39, ?va39), (40, ?va40), (41, ?va41), (42, ?va42), (43, ?va43), (2, ?va2)] [28, 29, 30, 31, 32, 33, 34, 35, 36, 37, 38, 39, 40, 41, 42, 43, 2] (by kernel_rfl) (by kernel_rfl) rfl (by kernel_rfl) ⟨b1, g1, z1⟩ (fun w h => h) ?alla ?fina
  case alla =>
    simp only [fillA, Act.put, fU1, fU2, fU3]
    iterate 17 (refine owes_cons (fun w hw K hK => ?_) ?_; focus ((have hS := Lib.hid hw); go_split_ands; go_simp; (try simp only [Act.put, List.setIfInBounds_toArray, List.set_cons_zero, List.set_cons_succ]); first | exact hK _ hS.out | ((((with_reducible refine (row_any _ _ _ r _ hr).mono ?_); rintro e w6 ⟨rfl, gg⟩)); refine hK _ ?_; (exact kKeep))))
    exact True.intro
  case fina =>
    rintro w9 ⟨b9, g9, z9⟩
    simp only [fillA, Act.put, fU1, fU2, fU3]
    go_wp2_with fail
    go_ret
    exact ⟨rfl, g9⟩
theorem has_full (u : ViewD) (s : Value) (p q : Int) (W : World) (hf : FullV u) (hp : p = q ∨ (0 <= p /\ q <= u.v.h)) :
    Calls Tryz.prog 85 #[.agg #[.int .i64 u.v.h, .int .i64 u.v.w, .int .i64 u.v.c, .int .i64 u.v.z, .int .i64 u.base, .int .i64 u.many, s], .int .i64 p, .int .i64 q] W fun e w' => e = .returned (.bool true) /\ Grown W w' := by
  obtain ⟨hm, b0, h0, _, hl, _⟩ := hf
  obtain ⟨m1, m2, _⟩ := hm
  have e1 : IntKind.i64.wrap (u.base + u.many) = u.base + u.many := IntWalk.i64_in _ (by omega)
  obtain ⟨t, ht⟩ : ∃ t, (p == q) = t := ⟨_, rfl⟩
  cases t with
  | true =>
    clear b0 h0
    go_enter Tryz.func85, Tryz.ntmps85
    go_upto_region 1 with fail
    refine opq (fun w' => (Bx w' (W.heap.size) #[.int .i64 u.v.h, .int .i64 u.v.w, .int .i64 u.v.c, .int .i64 u.v.z, .int .i64 u.base, .int .i64 u.many, s]) /\ Grown W w' /\ W.heap.size + 1 <= w'.heap.size) kLaid ?_
    rintro W1 ⟨b1, g1, z1⟩
    go_wp2_with fail
    go_ret
    exact ⟨rfl, g1⟩
  | false =>
    have hn : p ≠ q := by simpa using ht
    have d1 : decide (u.base <= p) = true := by simp; omega
    have d2 : decide (q <= u.base + u.many) = true := by simp; omega
    clear hn hp b0 h0
    go_enter Tryz.func85, Tryz.ntmps85
    go_upto_region 1 with fail
    refine opq (fun w' => (Bx w' (W.heap.size) #[.int .i64 u.v.h, .int .i64 u.v.w, .int .i64 u.v.c, .int .i64 u.v.z, .int .i64 u.base, .int .i64 u.many, s]) /\ Grown W w' /\ W.heap.size + 1 <= w'.heap.size) kLaid ?_
    rintro W1 ⟨b1, g1, z1⟩
    go_wp2_with fail
    go_ret
    exact ⟨rfl, g1⟩
theorem box_setPart {w : World} {b s : Nat} {old new : Array Value} (l : List Value) (h : (Bx w b old)) (hs : s + l.length <= old.size) (hn : ∀ k, new[k]? = if s <= k /\ k < s + l.length then l[k - s]? else old[k]?) : (Bx (w.setCells b s l) b new) := by
  intro k
  rw [hn k]
  by_cases c : s <= k /\ k < s + l.length
  . rw [if_pos c]
    have := World.cell?_setCells_in b l s w (fun i hi => by rw [h (s + i), Array.getElem?_eq_getElem (by omega)]; rfl) (k - s) (by omega)
    rw [show s + (k - s) = k by omega] at this
    rw [this]
    exact (List.getElem?_eq_getElem (by omega)).symm
  . rw [if_neg c, World.cell?_setCells_out b l s w ⟨b, k, none⟩ (fun _ _ => by simp; omega), h k]
theorem box14_lo {w : World} {b : Nat} {x0 x1 x2 x3 x4 x5 x6 x7 x8 x9 x10 x11 x12 x13 y0 y1 y2 y3 y4 y5 y6 : Value} (h : (Bx w b #[x0, x1, x2, x3, x4, x5, x6, x7, x8, x9, x10, x11, x12, x13])) : (Bx (((((((w.setCell ⟨b, 0, none⟩ y0).setCell ⟨b, 1, none⟩ y1).setCell ⟨b, 2, none⟩ y2).setCell ⟨b, 3, none⟩ y3).setCell ⟨b, 4, none⟩ y4).setCell ⟨b, 5, none⟩ y5).setCell ⟨b, 6, none⟩ y6) b #[y0, y1, y2, y3, y4, y5, y6, x7, x8, x9, x10, x11, x12, x13]) := by
  have := box_setPart (s := 0) (new := #[y0, y1, y2, y3, y4, y5, y6, x7, x8, x9, x10, x11, x12, x13]) [y0, y1, y2, y3, y4, y5, y6] h (by simp) (fun k => by
    match k with
    | 0 => rfl
    | 1 => rfl
    | 2 => rfl
    | 3 => rfl
    | 4 => rfl
    | 5 => rfl
    | 6 => rfl
    | 7 => rfl
    | 8 => rfl
    | 9 => rfl
    | 10 => rfl
    | 11 => rfl
    | 12 => rfl
    | 13 => rfl
    | k + 14 => simp)
  exact this
theorem box14_hi {w : World} {b : Nat} {x0 x1 x2 x3 x4 x5 x6 x7 x8 x9 x10 x11 x12 x13 y0 y1 y2 y3 y4 y5 y6 : Value} (h : (Bx w b #[x0, x1, x2, x3, x4, x5, x6, x7, x8, x9, x10, x11, x12, x13])) : (Bx (((((((w.setCell ⟨b, 7, none⟩ y0).setCell ⟨b, 8, none⟩ y1).setCell ⟨b, 9, none⟩ y2).setCell ⟨b, 10, none⟩ y3).setCell ⟨b, 11, none⟩ y4).setCell ⟨b, 12, none⟩ y5).setCell ⟨b, 13, none⟩ y6) b #[x0, x1, x2, x3, x4, x5, x6, y0, y1, y2, y3, y4, y5, y6]) := by
  have := box_setPart (s := 7) (new := #[x0, x1, x2, x3, x4, x5, x6, y0, y1, y2, y3, y4, y5, y6]) [y0, y1, y2, y3, y4, y5, y6] h (by simp) (fun k => by
    match k with
    | 0 => rfl
    | 1 => rfl
    | 2 => rfl
    | 3 => rfl
    | 4 => rfl
    | 5 => rfl
    | 6 => rfl
    | 7 => rfl
    | 8 => rfl
    | 9 => rfl
    | 10 => rfl
    | 11 => rfl
    | 12 => rfl
    | 13 => rfl
    | k + 14 => simp)
  exact this
theorem V4 : (Tryz.prog.info? 47).map (·.size) = some 4 := by kernel_rfl
theorem W7 : (Tryz.prog.info? 105).map (·.size) = some 7 := by kernel_rfl
theorem W14 : (Tryz.prog.info? 106).map (·.size) = some 14 := by kernel_rfl
def MakerPost (n : NodeD) (a b : ViewD) (m : Int × Int × Int) (y : Int) (W : World) (e : Ending) (w' : World) : Prop := ∃ v, e = .returned v /\ MakerIs w' n a b m y v /\ Grown W w'
theorem conv_len {n : NodeD} {vs : List ValD} {a b : ViewD} {m : Int × Int × Int} (h : MakeOk n vs a b m) (ho : n.op = 1) : ∃ mn C : Nat, a.v.c = (mn : Int) /\ m.2.2 = (C : Int) /\ n.ws.length = n.k.toNat * n.k.toNat * mn * C /\ n.bs.length = C /\ 1 <= mn /\ mn <= 8 := by
  obtain ⟨l1, l2, l3⟩ := lens1 h ho
  obtain ⟨r1, _, r3, _, m5, m6⟩ := h.m16
  obtain ⟨_, _, _, _, f5, f6⟩ := h.2.2.1.1
  have kk := (h.win (y := 0) (x := 0) (by omega) (Int.le_refl _) (by omega) (Int.le_refl _) (by omega)).1
  obtain ⟨kn, hk⟩ : ∃ kn : Nat, n.k = kn := ⟨n.k.toNat, by omega⟩
  obtain ⟨mn, hm⟩ : ∃ mn : Nat, a.v.c = mn := ⟨a.v.c.toNat, by omega⟩
  obtain ⟨C, hC⟩ : ∃ C : Nat, m.2.2 = C := ⟨m.2.2.toNat, by omega⟩
  rw [hk, hm, hC] at l1
  refine ⟨mn, C, hm, hC, ?_, by omega, by omega, by omega⟩
  rw [hk, Int.toNat_natCast]
  exact_mod_cast l1
theorem depth_len {n : NodeD} {vs : List ValD} {a b : ViewD} {m : Int × Int × Int} (h : MakeOk n vs a b m) (ho : n.op = 2) : ∃ C : Nat, m.2.2 = (C : Int) /\ n.ws.length = n.k.toNat * n.k.toNat * 1 * C /\ n.bs.length = C := by
  obtain ⟨l1, l2, l3⟩ := lens2 h ho
  obtain ⟨r1, _, r3, _, m5, m6⟩ := h.m16
  have kk := (h.win (y := 0) (x := 0) (by omega) (Int.le_refl _) (by omega) (Int.le_refl _) (by omega)).1
  obtain ⟨kn, hk⟩ : ∃ kn : Nat, n.k = kn := ⟨n.k.toNat, by omega⟩
  obtain ⟨C, hC⟩ : ∃ C : Nat, m.2.2 = C := ⟨m.2.2.toNat, by omega⟩
  rw [hk, hC] at l1
  refine ⟨C, hC, ?_, by omega⟩
  rw [hk, Int.toNat_natCast, Nat.mul_one]
  exact_mod_cast l1
end Go.Proofs.YtliijchcpooplaaGreat
