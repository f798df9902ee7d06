/- kern: whole views; what may be asked of a node's parts; closures as makers of numbers. kern: what makes the closures; a closure that makes the numbers of a row, op by op. kern: the closures make the numbers of a row, op by op. -/
import Derived.Test.YtliijchcpooplaaGreatOMG12
import Derived.Test.YtliijchcpooplaaGreatOMKA
import Derived.Test.YtliijchcpooplaaGreatOMKI
namespace Go.Proofs.YtliijchcpooplaaGreat
open Go.ChangeShapes Go.WideShapes Go.ChangeAt Go.RowKit
set_option maxRecDepth 20000
set_option linter.unusedVariables false
def FullV (u : ViewD) : Prop := mayS u.v.h u.v.w u.v.c /\ u.base = 0 /\ u.many = u.v.h /\ (-128 <= u.v.z /\ u.v.z <= 127) /\ (u.xs.length : Int) = sizeI u.v.h u.v.w u.v.c /\ ∀ x ∈ u.xs, -128 <= x /\ x <= 127
theorem FullV.ok {u : ViewD} (h : FullV u) : ViewOk u := ⟨h.1, by rw [h.2.1]; omega, h.2.2.2.1, h.2.2.2.2.2⟩
theorem FullV.all {u : ViewD} (h : FullV u) (y x c : Int) : AtOk u y x c := by
  intro hi
  obtain ⟨i0, i1, _, _, _⟩ := idx_lt hi
  rw [indexI_yes hi] at i0 i1
  have hl := h.2.2.2.2.1
  unfold placeD
  rw [h.2.1, Int.zero_mul, Int.sub_zero]
  omega
theorem FullV.row {u : ViewD} (h : FullV u) (y : Int) : RowOk u y := fun x c => h.all y x c
theorem FullV.len {u : ViewD} (h : FullV u) : 0 < u.xs.length /\ u.xs.length <= 2048 := by
  have := idx_lt_size h.1
  have := h.2.2.2.2.1
  omega
theorem value_parts {n : NodeD} {vs : List ValD} (h : valueE n vs = 0) : (hasOp n.op /\ takesP (opD n.op) n vs) /\ (∀ j, j < vs.length -> mayV (vs.getD j default)) /\ mayT (madeS n vs) /\ lensP n vs := by
  unfold valueE at h
  split at h
  . omega
  . rename_i h1
    split at h
    . omega
    . rename_i h2
      split at h
      . omega
      . rename_i h3
        split at h
        . omega
        . rename_i h4
          exact ⟨Classical.not_not.mp h1, Classical.not_not.mp h2, Classical.not_not.mp h3, Classical.not_not.mp h4⟩
def MakerIs (w0 : World) (n : NodeD) (a b : ViewD) (m : Int × Int × Int) (y : Int) (v : Value) : Prop :=
  ∃ (fid : FuncId) (p0 p1 : Nat), v = .func (.func fid) #[] #[.pointer (some ⟨p0, 0, none⟩), .pointer (some ⟨p1, 0, none⟩)] /\ Enters fid /\
    ∀ w, Past w0 w -> ∀ x c : Int, 0 <= x -> x < m.2.1 -> 0 <= c -> c < m.2.2 ->
      Calls Tryz.prog fid #[.int .i64 y, .int .i64 x, .int .i64 c, .pointer (some ⟨p0, 0, none⟩), .pointer (some ⟨p1, 0, none⟩)] w fun e w' => e = .returned (.int .i64 (numD n a b m y x c)) /\ Past w w'
theorem MakerIs.past {w0 w1 : World} {n : NodeD} {a b : ViewD} {m : Int × Int × Int} {y : Int} {v : Value} (h : MakerIs w0 n a b m y v) (p : Past w0 w1) : MakerIs w1 n a b m y v := by
  obtain ⟨fid, p0, p1, rfl, he, hc⟩ := h
  exact ⟨fid, p0, p1, rfl, he, fun w k => hc w (p.trans k)⟩
def MakeOk (n : NodeD) (vs : List ValD) (a b : ViewD) (m : Int × Int × Int) : Prop := valueE n vs = 0 /\ m = madeS n vs /\ FullV a /\ a.v = vs.getD 0 default /\ ((n.op = 6 ∨ n.op = 7 ∨ n.op = 10) -> FullV b /\ b.v = vs.getD 1 default)
theorem MakeOk.m16 {n : NodeD} {vs : List ValD} {a b : ViewD} {m : Int × Int × Int} (h : MakeOk n vs a b m) : mayS m.1 m.2.1 m.2.2 := by
  have := (value_parts h.1).2.2.1
  rw [<- h.2.1] at this
  exact this
theorem MakeOk.scaled {n : NodeD} {vs : List ValD} {a b : ViewD} {m : Int × Int × Int} (h : MakeOk n vs a b m) : -128 <= n.zero /\ n.zero <= 127 := (value_parts h.1).1.2.2.2.1.2.2
theorem MakeOk.win {n : NodeD} {vs : List ValD} {a b : ViewD} {m : Int × Int × Int} (h : MakeOk n vs a b m) (ho : n.op = 1 ∨ n.op = 2 ∨ n.op = 4 ∨ n.op = 5) {y x : Int} (y0 : 0 <= y) (y1 : y < m.1) (x0 : 0 <= x) (x1 : x < m.2.1) : WinOk n y x := by
  have s := (value_parts h.1).1.2.2.2.2
  obtain ⟨m1, m2, m3, m4, _, _⟩ := h.m16
  obtain ⟨⟨⟨k1, k2⟩, ⟨s1, s2⟩, ⟨p1, p2⟩, _⟩, _⟩ := s
  have D : (opD n.op).k1 = 1 /\ (opD n.op).k2 = 3 /\ (opD n.op).s1 = 1 /\ (opD n.op).s2 = 2 /\ (opD n.op).p1 = 0 /\ (opD n.op).p2 <= 1 := by
    rcases ho with e | e | e | e <;> rw [e] <;> decide
  obtain ⟨d1, d2, d3, d4, d5, d6⟩ := D
  rw [d1] at k1
  rw [d2] at k2
  rw [d3] at s1
  rw [d4] at s2
  rw [d5] at p1
  exact ⟨⟨k1, k2⟩, ⟨s1, s2⟩, ⟨p1, by omega⟩, ⟨y0, by omega⟩, ⟨x0, by omega⟩⟩
theorem num1 {n : NodeD} (h : n.op = 1) (a b : ViewD) (m : Int × Int × Int) (y x c : Int) : numD n a b m y x c = scaleD (weighN n a a.v.c.toNat 0 y x c.toNat) n.mul n.shift n.zero := by unfold numD; simp [h]
theorem num2 {n : NodeD} (h : n.op = 2) (a b : ViewD) (m : Int × Int × Int) (y x c : Int) : numD n a b m y x c = scaleD (weighN n a 1 c y x c.toNat) n.mul n.shift n.zero := by unfold numD; simp [h]
theorem num3 {n : NodeD} (h : n.op = 3) (a b : ViewD) (m : Int × Int × Int) (y x c : Int) : numD n a b m y x c = scaleD (wholeN n a c.toNat) n.mul n.shift n.zero := by unfold numD; simp [h]
theorem num4 {n : NodeD} (h : n.op = 4) (a b : ViewD) (m : Int × Int × Int) (y x c : Int) : numD n a b m y x c = mostN (underN n a y x c) (n.k.toNat * n.k.toNat) := by unfold numD; simp [h]
theorem num5 {n : NodeD} (h : n.op = 5) (a b : ViewD) (m : Int × Int × Int) (y x c : Int) : numD n a b m y x c = fx.rd (sumN (underN n a y x c) (n.k.toNat * n.k.toNat)) (n.k * n.k) := by unfold numD; simp [h]
theorem num6 {n : NodeD} (h : n.op = 6) (a b : ViewD) (m : Int × Int × Int) (y x c : Int) : numD n a b m y x c = scaleD (overD a y x c + overD b y x c) n.mul n.shift n.zero := by unfold numD; simp [h]
theorem num7 {n : NodeD} (h : n.op = 7) (a b : ViewD) (m : Int × Int × Int) (y x c : Int) : numD n a b m y x c = scaleD (overD a y x c * overD b y x c) n.mul n.shift n.zero := by unfold numD; simp [h]
theorem num8 {n : NodeD} (h : n.op = 8) (a b : ViewD) (m : Int × Int × Int) (y x c : Int) : numD n a b m y x c = max (atD a y x c) n.zero := by unfold numD; simp [h]
theorem num9 {n : NodeD} (h : n.op = 9) (a b : ViewD) (m : Int × Int × Int) (y x c : Int) : numD n a b m y x c = atD a (y - n.pad) (x - n.pad) c := by unfold numD; simp [h]
theorem num10 {n : NodeD} (h : n.op = 10) (a b : ViewD) (m : Int × Int × Int) (y x c : Int) : numD n a b m y x c = if c < a.v.c then atD a y x c else atD b y x (c - a.v.c) := by unfold numD; simp [h]
theorem num11 {n : NodeD} (h : n.op = 11) (a b : ViewD) (m : Int × Int × Int) (y x c : Int) : numD n a b m y x c = a.xs.getD (indexI m.1 m.2.1 m.2.2 y x c).toNat 0 := by unfold numD; simp [h]
theorem num12 {n : NodeD} (h : n.op = 12) (a b : ViewD) (m : Int × Int × Int) (y x c : Int) : numD n a b m y x c = n.ws.getD (atD a y x c + 128).toNat 0 := by unfold numD; simp [h]
theorem lens1 {n : NodeD} {vs : List ValD} {a b : ViewD} {m : Int × Int × Int} (h : MakeOk n vs a b m) (ho : n.op = 1) : (n.ws.length : Int) = n.k * n.k * a.v.c * m.2.2 /\ (n.bs.length : Int) = m.2.2 /\ ∀ j, j < n.bs.length -> nearB (n.bs.getD j 0) := by
  have l := (value_parts h.1).2.2.2
  unfold lensP at l
  rw [<- h.2.1, <- h.2.2.2.1] at l
  simpa [wantS, ho] using l
theorem lens2 {n : NodeD} {vs : List ValD} {a b : ViewD} {m : Int × Int × Int} (h : MakeOk n vs a b m) (ho : n.op = 2) : (n.ws.length : Int) = n.k * n.k * m.2.2 /\ (n.bs.length : Int) = m.2.2 /\ ∀ j, j < n.bs.length -> nearB (n.bs.getD j 0) := by
  have l := (value_parts h.1).2.2.2
  unfold lensP at l
  rw [<- h.2.1] at l
  simpa [wantS, ho] using l
theorem lens3 {n : NodeD} {vs : List ValD} {a b : ViewD} {m : Int × Int × Int} (h : MakeOk n vs a b m) (ho : n.op = 3) : (n.ws.length : Int) = sizeI a.v.h a.v.w a.v.c * m.2.2 /\ (n.bs.length : Int) = m.2.2 /\ ∀ j, j < n.bs.length -> nearB (n.bs.getD j 0) := by
  have l := (value_parts h.1).2.2.2
  unfold lensP at l
  rw [<- h.2.1, <- h.2.2.2.1] at l
  simpa [wantS, ho] using l
theorem lens12 {n : NodeD} {vs : List ValD} {a b : ViewD} {m : Int × Int × Int} (h : MakeOk n vs a b m) (ho : n.op = 12) : n.ws.length = 256 := by
  have l := (value_parts h.1).2.2.2
  unfold lensP at l
  have := l.1
  simp [wantS, ho] at this
  omega
theorem weighed_mk (n : NodeD) (vi vw vb lv : Value) (m : Int × Int × Int) (a : ViewD) (sa : Value) (mn : Int) (fid : FuncId) (cap : Array Value) (W : World) :
    Calls Tryz.prog 100 #[.agg #[.int .i64 n.op, vi, .int .i64 n.k, .int .i64 n.stride, .int .i64 n.pad, .int .i64 n.out, .int .i64 n.mul, .int .i64 n.shift, .int .i64 n.zero, .int .i64 n.th, .int .i64 n.tw, .int .i64 n.tc, vw, vb, lv, .int .i64 m.1, .int .i64 m.2.1, .int .i64 m.2.2], .agg #[.int .i64 a.v.h, .int .i64 a.v.w, .int .i64 a.v.c, .int .i64 a.v.z, .int .i64 a.base, .int .i64 a.many, sa], .int .i64 mn, .func (.func fid) #[] cap] W fun e w' => e = .returned (.func (.func 120) #[] #[.pointer (some ⟨W.heap.size, 0, none⟩), .pointer (some ⟨W.heap.size + 2, 0, none⟩), .pointer (some ⟨W.heap.size + 1, 0, none⟩), .pointer (some ⟨W.heap.size + 3, 0, none⟩)]) /\ (Bx w' (W.heap.size) #[.int .i64 n.op, vi, .int .i64 n.k, .int .i64 n.stride, .int .i64 n.pad, .int .i64 n.out, .int .i64 n.mul, .int .i64 n.shift, .int .i64 n.zero, .int .i64 n.th, .int .i64 n.tw, .int .i64 n.tc, vw, vb, lv, .int .i64 m.1, .int .i64 m.2.1, .int .i64 m.2.2]) /\ (Bx w' (W.heap.size + 1) #[.int .i64 a.v.h, .int .i64 a.v.w, .int .i64 a.v.c, .int .i64 a.v.z, .int .i64 a.base, .int .i64 a.many, sa]) /\ (Bx w' (W.heap.size + 2) #[.int .i64 mn]) /\ (Bx w' (W.heap.size + 3) #[.func (.func fid) #[] cap]) /\ Grown W w' /\ W.heap.size + 4 <= w'.heap.size := by
  go_enter Tryz.func100, Tryz.ntmps100
  go_upto_region 1 with fail
  refine opq (fun w' => (Bx w' (W.heap.size) #[.int .i64 n.op, vi, .int .i64 n.k, .int .i64 n.stride, .int .i64 n.pad, .int .i64 n.out, .int .i64 n.mul, .int .i64 n.shift, .int .i64 n.zero, .int .i64 n.th, .int .i64 n.tw, .int .i64 n.tc, vw, vb, lv, .int .i64 m.1, .int .i64 m.2.1, .int .i64 m.2.2]) /\ (Bx w' (W.heap.size + 1) #[.int .i64 a.v.h, .int .i64 a.v.w, .int .i64 a.v.c, .int .i64 a.v.z, .int .i64 a.base, .int .i64 a.many, sa]) /\ (Bx w' (W.heap.size + 2) #[.int .i64 mn]) /\ (Bx w' (W.heap.size + 3) #[.func (.func fid) #[] cap]) /\ Grown W w' /\ W.heap.size + 4 <= w'.heap.size) kLaid ?_
  rintro W1 ⟨b1, b2, b3, b4, g1, z1⟩
  go_wp2_with fail
  go_ret
  exact ⟨rfl, b1, b2, b3, b4, g1, z1⟩
theorem scaled_mk (n : NodeD) (vi vw vb lv : Value) (m : Int × Int × Int) (fid : FuncId) (cap : Array Value) (W : World) :
    Calls Tryz.prog 99 #[.agg #[.int .i64 n.op, vi, .int .i64 n.k, .int .i64 n.stride, .int .i64 n.pad, .int .i64 n.out, .int .i64 n.mul, .int .i64 n.shift, .int .i64 n.zero, .int .i64 n.th, .int .i64 n.tw, .int .i64 n.tc, vw, vb, lv, .int .i64 m.1, .int .i64 m.2.1, .int .i64 m.2.2], .func (.func fid) #[] cap] W fun e w' => e = .returned (.func (.func 118) #[] #[.pointer (some ⟨W.heap.size + 1, 0, none⟩), .pointer (some ⟨W.heap.size, 0, none⟩)]) /\ (Bx w' (W.heap.size) #[.int .i64 n.op, vi, .int .i64 n.k, .int .i64 n.stride, .int .i64 n.pad, .int .i64 n.out, .int .i64 n.mul, .int .i64 n.shift, .int .i64 n.zero, .int .i64 n.th, .int .i64 n.tw, .int .i64 n.tc, vw, vb, lv, .int .i64 m.1, .int .i64 m.2.1, .int .i64 m.2.2]) /\ (Bx w' (W.heap.size + 1) #[.func (.func fid) #[] cap]) /\ Grown W w' /\ W.heap.size + 2 <= w'.heap.size := by
  go_enter Tryz.func99, Tryz.ntmps99
  go_upto_region 1 with fail
  refine opq (fun w' => (Bx w' (W.heap.size) #[.int .i64 n.op, vi, .int .i64 n.k, .int .i64 n.stride, .int .i64 n.pad, .int .i64 n.out, .int .i64 n.mul, .int .i64 n.shift, .int .i64 n.zero, .int .i64 n.th, .int .i64 n.tw, .int .i64 n.tc, vw, vb, lv, .int .i64 m.1, .int .i64 m.2.1, .int .i64 m.2.2]) /\ (Bx w' (W.heap.size + 1) #[.func (.func fid) #[] cap]) /\ Grown W w' /\ W.heap.size + 2 <= w'.heap.size) kLaid ?_
  rintro W1 ⟨b1, b2, g1, z1⟩
  go_wp2_with fail
  go_ret
  exact ⟨rfl, b1, b2, g1, z1⟩
theorem whole_mk (n : NodeD) (vi vw vb lv : Value) (m : Int × Int × Int) (a : ViewD) (sa : Value) (W : World) :
    Calls Tryz.prog 103 #[.agg #[.int .i64 n.op, vi, .int .i64 n.k, .int .i64 n.stride, .int .i64 n.pad, .int .i64 n.out, .int .i64 n.mul, .int .i64 n.shift, .int .i64 n.zero, .int .i64 n.th, .int .i64 n.tw, .int .i64 n.tc, vw, vb, lv, .int .i64 m.1, .int .i64 m.2.1, .int .i64 m.2.2], .agg #[.int .i64 a.v.h, .int .i64 a.v.w, .int .i64 a.v.c, .int .i64 a.v.z, .int .i64 a.base, .int .i64 a.many, sa]] W fun e w' => e = .returned (.func (.func 123) #[] #[.pointer (some ⟨W.heap.size, 0, none⟩), .pointer (some ⟨W.heap.size + 1, 0, none⟩)]) /\ (Bx w' (W.heap.size) #[.int .i64 n.op, vi, .int .i64 n.k, .int .i64 n.stride, .int .i64 n.pad, .int .i64 n.out, .int .i64 n.mul, .int .i64 n.shift, .int .i64 n.zero, .int .i64 n.th, .int .i64 n.tw, .int .i64 n.tc, vw, vb, lv, .int .i64 m.1, .int .i64 m.2.1, .int .i64 m.2.2]) /\ (Bx w' (W.heap.size + 1) #[.int .i64 a.v.h, .int .i64 a.v.w, .int .i64 a.v.c, .int .i64 a.v.z, .int .i64 a.base, .int .i64 a.many, sa]) /\ Grown W w' /\ W.heap.size + 2 <= w'.heap.size := by
  go_enter Tryz.func103, Tryz.ntmps103
  go_upto_region 1 with fail
  refine opq (fun w' => (Bx w' (W.heap.size) #[.int .i64 n.op, vi, .int .i64 n.k, .int .i64 n.stride, .int .i64 n.pad, .int .i64 n.out, .int .i64 n.mul, .int .i64 n.shift, .int .i64 n.zero, .int .i64 n.th, .int .i64 n.tw, .int .i64 n.tc, vw, vb, lv, .int .i64 m.1, .int .i64 m.2.1, .int .i64 m.2.2]) /\ (Bx w' (W.heap.size + 1) #[.int .i64 a.v.h, .int .i64 a.v.w, .int .i64 a.v.c, .int .i64 a.v.z, .int .i64 a.base, .int .i64 a.many, sa]) /\ Grown W w' /\ W.heap.size + 2 <= w'.heap.size) kLaid ?_
  rintro W1 ⟨b1, b2, g1, z1⟩
  go_wp2_with fail
  go_ret
  exact ⟨rfl, b1, b2, g1, z1⟩
theorem greatest_mk (n : NodeD) (vi vw vb lv : Value) (m : Int × Int × Int) (a : ViewD) (sa : Value) (W : World) :
    Calls Tryz.prog 104 #[.agg #[.int .i64 n.op, vi, .int .i64 n.k, .int .i64 n.stride, .int .i64 n.pad, .int .i64 n.out, .int .i64 n.mul, .int .i64 n.shift, .int .i64 n.zero, .int .i64 n.th, .int .i64 n.tw, .int .i64 n.tc, vw, vb, lv, .int .i64 m.1, .int .i64 m.2.1, .int .i64 m.2.2], .agg #[.int .i64 a.v.h, .int .i64 a.v.w, .int .i64 a.v.c, .int .i64 a.v.z, .int .i64 a.base, .int .i64 a.many, sa]] W fun e w' => e = .returned (.func (.func 124) #[] #[.pointer (some ⟨W.heap.size, 0, none⟩), .pointer (some ⟨W.heap.size + 1, 0, none⟩)]) /\ (Bx w' (W.heap.size) #[.int .i64 n.op, vi, .int .i64 n.k, .int .i64 n.stride, .int .i64 n.pad, .int .i64 n.out, .int .i64 n.mul, .int .i64 n.shift, .int .i64 n.zero, .int .i64 n.th, .int .i64 n.tw, .int .i64 n.tc, vw, vb, lv, .int .i64 m.1, .int .i64 m.2.1, .int .i64 m.2.2]) /\ (Bx w' (W.heap.size + 1) #[.int .i64 a.v.h, .int .i64 a.v.w, .int .i64 a.v.c, .int .i64 a.v.z, .int .i64 a.base, .int .i64 a.many, sa]) /\ Grown W w' /\ W.heap.size + 2 <= w'.heap.size := by
  go_enter Tryz.func104, Tryz.ntmps104
  go_upto_region 1 with fail
  refine opq (fun w' => (Bx w' (W.heap.size) #[.int .i64 n.op, vi, .int .i64 n.k, .int .i64 n.stride, .int .i64 n.pad, .int .i64 n.out, .int .i64 n.mul, .int .i64 n.shift, .int .i64 n.zero, .int .i64 n.th, .int .i64 n.tw, .int .i64 n.tc, vw, vb, lv, .int .i64 m.1, .int .i64 m.2.1, .int .i64 m.2.2]) /\ (Bx w' (W.heap.size + 1) #[.int .i64 a.v.h, .int .i64 a.v.w, .int .i64 a.v.c, .int .i64 a.v.z, .int .i64 a.base, .int .i64 a.many, sa]) /\ Grown W w' /\ W.heap.size + 2 <= w'.heap.size) kLaid ?_
  rintro W1 ⟨b1, b2, g1, z1⟩
  go_wp2_with fail
  go_ret
  exact ⟨rfl, b1, b2, g1, z1⟩
theorem mean_mk (n : NodeD) (vi vw vb lv : Value) (m : Int × Int × Int) (a : ViewD) (sa : Value) (W : World) :
    Calls Tryz.prog 105 #[.agg #[.int .i64 n.op, vi, .int .i64 n.k, .int .i64 n.stride, .int .i64 n.pad, .int .i64 n.out, .int .i64 n.mul, .int .i64 n.shift, .int .i64 n.zero, .int .i64 n.th, .int .i64 n.tw, .int .i64 n.tc, vw, vb, lv, .int .i64 m.1, .int .i64 m.2.1, .int .i64 m.2.2], .agg #[.int .i64 a.v.h, .int .i64 a.v.w, .int .i64 a.v.c, .int .i64 a.v.z, .int .i64 a.base, .int .i64 a.many, sa]] W fun e w' => e = .returned (.func (.func 126) #[] #[.pointer (some ⟨W.heap.size, 0, none⟩), .pointer (some ⟨W.heap.size + 1, 0, none⟩)]) /\ (Bx w' (W.heap.size) #[.int .i64 n.op, vi, .int .i64 n.k, .int .i64 n.stride, .int .i64 n.pad, .int .i64 n.out, .int .i64 n.mul, .int .i64 n.shift, .int .i64 n.zero, .int .i64 n.th, .int .i64 n.tw, .int .i64 n.tc, vw, vb, lv, .int .i64 m.1, .int .i64 m.2.1, .int .i64 m.2.2]) /\ (Bx w' (W.heap.size + 1) #[.int .i64 a.v.h, .int .i64 a.v.w, .int .i64 a.v.c, .int .i64 a.v.z, .int .i64 a.base, .int .i64 a.many, sa]) /\ Grown W w' /\ W.heap.size + 2 <= w'.heap.size := by
  go_enter Tryz.func105, Tryz.ntmps105
  go_upto_region 1 with fail
  refine opq (fun w' => (Bx w' (W.heap.size) #[.int .i64 n.op, vi, .int .i64 n.k, .int .i64 n.stride, .int .i64 n.pad, .int .i64 n.out, .int .i64 n.mul, .int .i64 n.shift, .int .i64 n.zero, .int .i64 n.th, .int .i64 n.tw, .int .i64 n.tc, vw, vb, lv, .int .i64 m.1, .int .i64 m.2.1, .int .i64 m.2.2]) /\ (Bx w' (W.heap.size + 1) #[.int .i64 a.v.h, .int .i64 a.v.w, .int .i64 a.v.c, .int .i64 a.v.z, .int .i64 a.base, .int .i64 a.many, sa]) /\ Grown W w' /\ W.heap.size + 2 <= w'.heap.size) kLaid ?_
  rintro W1 ⟨b1, b2, g1, z1⟩
  go_wp2_with fail
  go_ret
  exact ⟨rfl, b1, b2, g1, z1⟩
theorem stacked_mk (a b : ViewD) (sa sb : Value) (W : World) :
    Calls Tryz.prog 112 #[.agg #[.int .i64 a.v.h, .int .i64 a.v.w, .int .i64 a.v.c, .int .i64 a.v.z, .int .i64 a.base, .int .i64 a.many, sa], .agg #[.int .i64 b.v.h, .int .i64 b.v.w, .int .i64 b.v.c, .int .i64 b.v.z, .int .i64 b.base, .int .i64 b.many, sb]] W fun e w' => e = .returned (.func (.func 129) #[] #[.pointer (some ⟨W.heap.size, 0, none⟩), .pointer (some ⟨W.heap.size + 1, 0, none⟩)]) /\ (Bx w' (W.heap.size) #[.int .i64 a.v.h, .int .i64 a.v.w, .int .i64 a.v.c, .int .i64 a.v.z, .int .i64 a.base, .int .i64 a.many, sa]) /\ (Bx w' (W.heap.size + 1) #[.int .i64 b.v.h, .int .i64 b.v.w, .int .i64 b.v.c, .int .i64 b.v.z, .int .i64 b.base, .int .i64 b.many, sb]) /\ Grown W w' /\ W.heap.size + 2 <= w'.heap.size := by
  go_enter Tryz.func112, Tryz.ntmps112
  go_upto_region 1 with fail
  refine opq (fun w' => (Bx w' (W.heap.size) #[.int .i64 a.v.h, .int .i64 a.v.w, .int .i64 a.v.c, .int .i64 a.v.z, .int .i64 a.base, .int .i64 a.many, sa]) /\ (Bx w' (W.heap.size + 1) #[.int .i64 b.v.h, .int .i64 b.v.w, .int .i64 b.v.c, .int .i64 b.v.z, .int .i64 b.base, .int .i64 b.many, sb]) /\ Grown W w' /\ W.heap.size + 2 <= w'.heap.size) kLaid ?_
  rintro W1 ⟨b1, b2, g1, z1⟩
  go_wp2_with fail
  go_ret
  exact ⟨rfl, b1, b2, g1, z1⟩
theorem nums_some {k : IntKind} {w : World} {v : Value} {xs : List Int} (h : IsNums k w v xs) (h0 : 0 < xs.length) : ∃ b off cap, v = .slice (some ⟨b, off, none⟩) xs.length cap := by
  have h' := h
  obtain ⟨A, cap, rfl, _⟩ := h'
  obtain ⟨b, off, rfl, _⟩ := nums_parts h h0
  exact ⟨b, off, cap, rfl⟩
theorem w_bd {c kk p mn C L : Nat} (hp : p < kk) (hc : c < C) (hL : L = kk * mn * C) : (c * kk + p) * mn + mn <= L := by
  have h1 : c * kk + p + 1 <= C * kk := by
    have := Nat.mul_le_mul_right kk (show c + 1 <= C from hc)
    rw [Nat.add_mul, Nat.one_mul] at this
    omega
  have h2 := Nat.mul_le_mul_right mn h1
  rw [Nat.add_mul _ 1 mn, Nat.one_mul] at h2
  have h3 : C * kk * mn = kk * mn * C := by rw [Nat.mul_comm C kk, Nat.mul_assoc, Nat.mul_comm C mn, <- Nat.mul_assoc]
  omega
theorem lt_past {w w' : World} {p : Nat} (g : Past w w') (h : p < w.heap.size) : p < w'.heap.size := Nat.lt_of_lt_of_le h g.2.2.1
theorem made11 {n : NodeD} {vs : List ValD} (h : n.op = 11) : madeS n vs = if sizeI n.th n.tw n.tc = sizeI (vs.getD 0 default).h (vs.getD 0 default).w (vs.getD 0 default).c then (n.th, n.tw, n.tc) else (0, 0, 0) := by unfold madeS; simp [h]
section
variable {n : NodeD} {vs : List ValD} {a b : ViewD} {m : Int × Int × Int} {y : Int} {vi vw vb lv sa sb : Value} {w0 : World} {pt pa pb : Nat}
theorem is_great (h : MakeOk n vs a b m) (ho : n.op = 4) (y0 : 0 <= y) (y1 : y < m.1) (na : IsNums .i8 w0 sa a.xs) (bt : (Bx w0 pt #[.int .i64 n.op, vi, .int .i64 n.k, .int .i64 n.stride, .int .i64 n.pad, .int .i64 n.out, .int .i64 n.mul, .int .i64 n.shift, .int .i64 n.zero, .int .i64 n.th, .int .i64 n.tw, .int .i64 n.tc, vw, vb, lv, .int .i64 m.1, .int .i64 m.2.1, .int .i64 m.2.2])) (lt : pt < w0.heap.size) (ba : (Bx w0 pa #[.int .i64 a.v.h, .int .i64 a.v.w, .int .i64 a.v.c, .int .i64 a.v.z, .int .i64 a.base, .int .i64 a.many, sa])) (la : pa < w0.heap.size) :
    MakerIs w0 n a b m y (.func (.func 124) #[] #[.pointer (some ⟨pt, 0, none⟩), .pointer (some ⟨pa, 0, none⟩)]) :=
  ⟨_, pt, pa, rfl, enters_greatest, fun w p x c x0 x1 c0 c1 => greatest_any n vi vw vb lv m pt a sa pa y x c _ w (box_past p bt lt) (lt_past p lt) (box_past p ba la) (lt_past p la) (na.grow p) h.2.2.1.ok (h.win (by omega) y0 y1 x0 x1) (fun i _ => h.2.2.1.row _) (Lib.hid (num4 ho a b m y x c))⟩
theorem is_mean (h : MakeOk n vs a b m) (ho : n.op = 5) (y0 : 0 <= y) (y1 : y < m.1) (na : IsNums .i8 w0 sa a.xs) (bt : (Bx w0 pt #[.int .i64 n.op, vi, .int .i64 n.k, .int .i64 n.stride, .int .i64 n.pad, .int .i64 n.out, .int .i64 n.mul, .int .i64 n.shift, .int .i64 n.zero, .int .i64 n.th, .int .i64 n.tw, .int .i64 n.tc, vw, vb, lv, .int .i64 m.1, .int .i64 m.2.1, .int .i64 m.2.2])) (lt : pt < w0.heap.size) (ba : (Bx w0 pa #[.int .i64 a.v.h, .int .i64 a.v.w, .int .i64 a.v.c, .int .i64 a.v.z, .int .i64 a.base, .int .i64 a.many, sa])) (la : pa < w0.heap.size) :
    MakerIs w0 n a b m y (.func (.func 126) #[] #[.pointer (some ⟨pt, 0, none⟩), .pointer (some ⟨pa, 0, none⟩)]) :=
  ⟨_, pt, pa, rfl, enters_mean, fun w p x c x0 x1 c0 c1 => meanOf_any n vi vw vb lv m pt a sa pa y x c _ w (box_past p bt lt) (lt_past p lt) (box_past p ba la) (lt_past p la) (na.grow p) h.2.2.1.ok (h.win (by omega) y0 y1 x0 x1) (fun i _ => h.2.2.1.row _) (Lib.hid (num5 ho a b m y x c))⟩
theorem is_relu (h : MakeOk n vs a b m) (ho : n.op = 8) (na : IsNums .i8 w0 sa a.xs) (bt : (Bx w0 pt #[.int .i64 n.op, vi, .int .i64 n.k, .int .i64 n.stride, .int .i64 n.pad, .int .i64 n.out, .int .i64 n.mul, .int .i64 n.shift, .int .i64 n.zero, .int .i64 n.th, .int .i64 n.tw, .int .i64 n.tc, vw, vb, lv, .int .i64 m.1, .int .i64 m.2.1, .int .i64 m.2.2])) (lt : pt < w0.heap.size) (ba : (Bx w0 pa #[.int .i64 a.v.h, .int .i64 a.v.w, .int .i64 a.v.c, .int .i64 a.v.z, .int .i64 a.base, .int .i64 a.many, sa])) (la : pa < w0.heap.size) :
    MakerIs w0 n a b m y (.func (.func 109) #[] #[.pointer (some ⟨pa, 0, none⟩), .pointer (some ⟨pt, 0, none⟩)]) :=
  ⟨_, pa, pt, rfl, enters_relu, fun w p x c x0 x1 c0 c1 => (relu_any n vi vw vb lv m pt a sa pa y x c _ _ w (box_past p bt lt) (lt_past p lt) (box_past p ba la) (lt_past p la) (na.grow p) h.2.2.1.ok h.scaled (Lib.hid rfl) (h.2.2.1.all _ _ _) (Lib.hid (num8 ho a b m y x c))).mono (fun e w' k => ⟨k.1, Grown.past k.2⟩)⟩
theorem is_pad (h : MakeOk n vs a b m) (ho : n.op = 9) (y0 : 0 <= y) (y1 : y < m.1) (na : IsNums .i8 w0 sa a.xs) (bt : (Bx w0 pt #[.int .i64 n.op, vi, .int .i64 n.k, .int .i64 n.stride, .int .i64 n.pad, .int .i64 n.out, .int .i64 n.mul, .int .i64 n.shift, .int .i64 n.zero, .int .i64 n.th, .int .i64 n.tw, .int .i64 n.tc, vw, vb, lv, .int .i64 m.1, .int .i64 m.2.1, .int .i64 m.2.2])) (lt : pt < w0.heap.size) (ba : (Bx w0 pa #[.int .i64 a.v.h, .int .i64 a.v.w, .int .i64 a.v.c, .int .i64 a.v.z, .int .i64 a.base, .int .i64 a.many, sa])) (la : pa < w0.heap.size) :
    MakerIs w0 n a b m y (.func (.func 111) #[] #[.pointer (some ⟨pa, 0, none⟩), .pointer (some ⟨pt, 0, none⟩)]) := by
  obtain ⟨_, m2, _, m4, _, _⟩ := h.m16
  have s := (value_parts h.1).1.2.2.2.2
  rw [ho] at s
  have p1 : (1 : Int) <= n.pad := s.1.2.2.1.1
  have p2 : n.pad <= 1 := s.1.2.2.1.2
  exact ⟨_, pa, pt, rfl, enters_pad, fun w p x c x0 x1 c0 c1 => (padOf_any n vi vw vb lv m pt a sa pa y x c _ (numD n a b m y x c) w (box_past p bt lt) (lt_past p lt) (box_past p ba la) (lt_past p la) (na.grow p) h.2.2.1.ok (by omega) p2 y0 (by omega) x0 (by omega) (Lib.hid (num9 ho a b m y x c)) (h.2.2.1.all _ _ _)).mono (fun e w' k => ⟨k.1, Grown.past k.2⟩)⟩
theorem is_concat (h : MakeOk n vs a b m) (ho : n.op = 10) (na : IsNums .i8 w0 sa a.xs) (nb : IsNums .i8 w0 sb b.xs) (ba : (Bx w0 pa #[.int .i64 a.v.h, .int .i64 a.v.w, .int .i64 a.v.c, .int .i64 a.v.z, .int .i64 a.base, .int .i64 a.many, sa])) (la : pa < w0.heap.size) (bb : (Bx w0 pb #[.int .i64 b.v.h, .int .i64 b.v.w, .int .i64 b.v.c, .int .i64 b.v.z, .int .i64 b.base, .int .i64 b.many, sb])) (lb : pb < w0.heap.size) :
    MakerIs w0 n a b m y (.func (.func 129) #[] #[.pointer (some ⟨pa, 0, none⟩), .pointer (some ⟨pb, 0, none⟩)]) := by
  obtain ⟨_, _, _, _, _, m6⟩ := h.m16
  have fb := (h.2.2.2.2 (by omega)).1
  exact ⟨_, pa, pb, rfl, enters_concat, fun w p x c x0 x1 c0 c1 => (stackedOf_any a b sa sb pa pb y x c (numD n a b m y x c) w (box_past p ba la) (box_past p bb lb) (lt_past p la) (lt_past p lb) (na.grow p) (nb.grow p) h.2.2.1.ok fb.ok c0 (by omega) (Lib.hid (num10 ho a b m y x c)) (h.2.2.1.all _ _ _) (fb.all _ _ _)).mono (fun e w' k => ⟨k.1, Grown.past k.2⟩)⟩
theorem is_reshape (h : MakeOk n vs a b m) (ho : n.op = 11) (y0 : 0 <= y) (y1 : y < m.1) (na : IsNums .i8 w0 sa a.xs) (bt : (Bx w0 pt #[.int .i64 n.op, vi, .int .i64 n.k, .int .i64 n.stride, .int .i64 n.pad, .int .i64 n.out, .int .i64 n.mul, .int .i64 n.shift, .int .i64 n.zero, .int .i64 n.th, .int .i64 n.tw, .int .i64 n.tc, vw, vb, lv, .int .i64 m.1, .int .i64 m.2.1, .int .i64 m.2.2])) (lt : pt < w0.heap.size) (ba : (Bx w0 pa #[.int .i64 a.v.h, .int .i64 a.v.w, .int .i64 a.v.c, .int .i64 a.v.z, .int .i64 a.base, .int .i64 a.many, sa])) (la : pa < w0.heap.size) :
    MakerIs w0 n a b m y (.func (.func 113) #[] #[.pointer (some ⟨pa, 0, none⟩), .pointer (some ⟨pt, 0, none⟩)]) := by
  obtain ⟨sb, so, cap, rfl⟩ := nums_some na h.2.2.1.len.1
  have mm := h.m16
  have hs : sizeI m.1 m.2.1 m.2.2 = sizeI a.v.h a.v.w a.v.c := by
    have e := h.2.1
    rw [made11 ho, <- h.2.2.2.1] at e
    split at e
    . rename_i k
      rw [e]; exact k
    . rw [e] at mm
      exact absurd mm.1 (by decide)
  refine ⟨_, pa, pt, rfl, enters_reshape, fun w p x c x0 x1 c0 c1 => ?_⟩
  have hi : inS m.1 m.2.1 m.2.2 y x c := ⟨mm, y0, y1, x0, x1, c0, c1⟩
  obtain ⟨i0, i1, _, _, _⟩ := idx_lt hi
  have hl := h.2.2.1.2.2.2.2.1
  exact (reshapeOf_any n vi vw vb lv m pt a sb so cap (indexI m.1 m.2.1 m.2.2 y x c).toNat pa y x c _ w (box_past p bt lt) (lt_past p lt) (box_past p ba la) (lt_past p la) (na.grow p) (Lib.hid (Int.toNat_of_nonneg i0)) (by omega) (Lib.hid (num11 ho a b m y x c))).mono (fun e w' k => ⟨k.1, Grown.past k.2⟩)
theorem is_table (h : MakeOk n vs a b m) (ho : n.op = 12) (na : IsNums .i8 w0 sa a.xs) (nw : IsNums .i8 w0 vw n.ws) (bt : (Bx w0 pt #[.int .i64 n.op, vi, .int .i64 n.k, .int .i64 n.stride, .int .i64 n.pad, .int .i64 n.out, .int .i64 n.mul, .int .i64 n.shift, .int .i64 n.zero, .int .i64 n.th, .int .i64 n.tw, .int .i64 n.tc, vw, vb, lv, .int .i64 m.1, .int .i64 m.2.1, .int .i64 m.2.2])) (lt : pt < w0.heap.size) (ba : (Bx w0 pa #[.int .i64 a.v.h, .int .i64 a.v.w, .int .i64 a.v.c, .int .i64 a.v.z, .int .i64 a.base, .int .i64 a.many, sa])) (la : pa < w0.heap.size) :
    MakerIs w0 n a b m y (.func (.func 115) #[] #[.pointer (some ⟨pt, 0, none⟩), .pointer (some ⟨pa, 0, none⟩)]) := by
  have hl := lens12 h ho
  obtain ⟨sb, so, cap, rfl⟩ := nums_some nw (by omega)
  refine ⟨_, pt, pa, rfl, enters_table, fun w p x c x0 x1 c0 c1 => ?_⟩
  have bd := atD_bd h.2.2.1.ok y x c
  exact (tableOf_any n vi vb lv sb so cap (atD a y x c + 128).toNat m pt a sa pa y x c _ _ w (box_past p bt lt) (lt_past p lt) (box_past p ba la) (lt_past p la) (na.grow p) h.2.2.1.ok (nw.grow p) (Lib.hid rfl) (h.2.2.1.all _ _ _) (Lib.hid (by omega)) (by omega) (Lib.hid (num12 ho a b m y x c))).mono (fun e w' k => ⟨k.1, Grown.past k.2⟩)
theorem is_two {F : FuncId} {qt qf : Nat} (s : Int -> Int -> Int) (hE : Enters F) (bq : (Bx w0 qt #[.int .i64 n.op, vi, .int .i64 n.k, .int .i64 n.stride, .int .i64 n.pad, .int .i64 n.out, .int .i64 n.mul, .int .i64 n.shift, .int .i64 n.zero, .int .i64 n.th, .int .i64 n.tw, .int .i64 n.tc, vw, vb, lv, .int .i64 m.1, .int .i64 m.2.1, .int .i64 m.2.2])) (lq : qt < w0.heap.size) (bf : (Bx w0 qf #[.func (.func F) #[] #[.pointer (some ⟨pa, 0, none⟩), .pointer (some ⟨pb, 0, none⟩)]])) (lf : qf < w0.heap.size)
    (hF : ∀ w, Past w0 w -> ∀ x c : Int, 0 <= x -> x < m.2.1 -> 0 <= c -> c < m.2.2 -> Calls Tryz.prog F #[.int .i64 y, .int .i64 x, .int .i64 c, .pointer (some ⟨pa, 0, none⟩), .pointer (some ⟨pb, 0, none⟩)] w fun e w' => e = .returned (.int .i64 (s x c)) /\ Past w w')
    (hs : ∀ x c : Int, 0 <= x -> x < m.2.1 -> 0 <= c -> c < m.2.2 -> numD n a b m y x c = scaleD (s x c) n.mul n.shift n.zero) :
    MakerIs w0 n a b m y (.func (.func 118) #[] #[.pointer (some ⟨qf, 0, none⟩), .pointer (some ⟨qt, 0, none⟩)]) :=
  ⟨_, qf, qt, rfl, enters_scaled, fun w p x c x0 x1 c0 c1 => scaledOf2_any n vi vw vb lv m qt qf pa pb F y x c (s x c) _ w (box_past p bq lq) (lt_past p lq) (box_past p bf lf) (lt_past p lf) hE (fun w2 p2 => hF w2 (p.trans p2) x c x0 x1 c0 c1) (Lib.hid (hs x c x0 x1 c0 c1))⟩
theorem is_add (h : MakeOk n vs a b m) (ho : n.op = 6) {qt qf : Nat} (na : IsNums .i8 w0 sa a.xs) (nb : IsNums .i8 w0 sb b.xs) (ba : (Bx w0 pa #[.int .i64 a.v.h, .int .i64 a.v.w, .int .i64 a.v.c, .int .i64 a.v.z, .int .i64 a.base, .int .i64 a.many, sa])) (la : pa < w0.heap.size) (bb : (Bx w0 pb #[.int .i64 b.v.h, .int .i64 b.v.w, .int .i64 b.v.c, .int .i64 b.v.z, .int .i64 b.base, .int .i64 b.many, sb])) (lb : pb < w0.heap.size) (bq : (Bx w0 qt #[.int .i64 n.op, vi, .int .i64 n.k, .int .i64 n.stride, .int .i64 n.pad, .int .i64 n.out, .int .i64 n.mul, .int .i64 n.shift, .int .i64 n.zero, .int .i64 n.th, .int .i64 n.tw, .int .i64 n.tc, vw, vb, lv, .int .i64 m.1, .int .i64 m.2.1, .int .i64 m.2.2])) (lq : qt < w0.heap.size) {F : FuncId} (eF : F = 106) (bf : (Bx w0 qf #[.func (.func F) #[] #[.pointer (some ⟨pa, 0, none⟩), .pointer (some ⟨pb, 0, none⟩)]])) (lf : qf < w0.heap.size) :
    MakerIs w0 n a b m y (.func (.func 118) #[] #[.pointer (some ⟨qf, 0, none⟩), .pointer (some ⟨qt, 0, none⟩)]) := by
  subst eF
  have fb := (h.2.2.2.2 (by omega)).1
  exact is_two (fun x c => overD a y x c + overD b y x c) enters_add bq lq bf lf (fun w p x c _ _ _ _ => (addOf_any a b sa sb pa pb y x c _ _ _ w (box_past p ba la) (box_past p bb lb) (lt_past p la) (lt_past p lb) (na.grow p) (nb.grow p) h.2.2.1.ok fb.ok (Lib.hid rfl) (Lib.hid rfl) (h.2.2.1.all _ _ _) (fb.all _ _ _) (Lib.hid rfl)).mono (fun e w' k => ⟨k.1, Grown.past k.2⟩)) (fun x c _ _ _ _ => num6 ho a b m y x c)
theorem is_mul (h : MakeOk n vs a b m) (ho : n.op = 7) {qt qf : Nat} (na : IsNums .i8 w0 sa a.xs) (nb : IsNums .i8 w0 sb b.xs) (ba : (Bx w0 pa #[.int .i64 a.v.h, .int .i64 a.v.w, .int .i64 a.v.c, .int .i64 a.v.z, .int .i64 a.base, .int .i64 a.many, sa])) (la : pa < w0.heap.size) (bb : (Bx w0 pb #[.int .i64 b.v.h, .int .i64 b.v.w, .int .i64 b.v.c, .int .i64 b.v.z, .int .i64 b.base, .int .i64 b.many, sb])) (lb : pb < w0.heap.size) (bq : (Bx w0 qt #[.int .i64 n.op, vi, .int .i64 n.k, .int .i64 n.stride, .int .i64 n.pad, .int .i64 n.out, .int .i64 n.mul, .int .i64 n.shift, .int .i64 n.zero, .int .i64 n.th, .int .i64 n.tw, .int .i64 n.tc, vw, vb, lv, .int .i64 m.1, .int .i64 m.2.1, .int .i64 m.2.2])) (lq : qt < w0.heap.size) {F : FuncId} (eF : F = 108) (bf : (Bx w0 qf #[.func (.func F) #[] #[.pointer (some ⟨pa, 0, none⟩), .pointer (some ⟨pb, 0, none⟩)]])) (lf : qf < w0.heap.size) :
    MakerIs w0 n a b m y (.func (.func 118) #[] #[.pointer (some ⟨qf, 0, none⟩), .pointer (some ⟨qt, 0, none⟩)]) := by
  subst eF
  have fb := (h.2.2.2.2 (by omega)).1
  exact is_two (fun x c => overD a y x c * overD b y x c) enters_mul bq lq bf lf (fun w p x c _ _ _ _ => (mulOf_any a b sa sb pa pb y x c _ _ _ w (box_past p ba la) (box_past p bb lb) (lt_past p la) (lt_past p lb) (na.grow p) (nb.grow p) h.2.2.1.ok fb.ok (Lib.hid rfl) (Lib.hid rfl) (h.2.2.1.all _ _ _) (fb.all _ _ _) (Lib.hid rfl)).mono (fun e w' k => ⟨k.1, Grown.past k.2⟩)) (fun x c _ _ _ _ => num7 ho a b m y x c)
theorem is_full (h : MakeOk n vs a b m) (ho : n.op = 3) {qt qf : Nat} (na : IsNums .i8 w0 sa a.xs) (nw : IsNums .i8 w0 vw n.ws) (nb : IsNums .i32 w0 vb n.bs) (bt : (Bx w0 pt #[.int .i64 n.op, vi, .int .i64 n.k, .int .i64 n.stride, .int .i64 n.pad, .int .i64 n.out, .int .i64 n.mul, .int .i64 n.shift, .int .i64 n.zero, .int .i64 n.th, .int .i64 n.tw, .int .i64 n.tc, vw, vb, lv, .int .i64 m.1, .int .i64 m.2.1, .int .i64 m.2.2])) (lt : pt < w0.heap.size) (ba : (Bx w0 pa #[.int .i64 a.v.h, .int .i64 a.v.w, .int .i64 a.v.c, .int .i64 a.v.z, .int .i64 a.base, .int .i64 a.many, sa])) (la : pa < w0.heap.size) (bq : (Bx w0 qt #[.int .i64 n.op, vi, .int .i64 n.k, .int .i64 n.stride, .int .i64 n.pad, .int .i64 n.out, .int .i64 n.mul, .int .i64 n.shift, .int .i64 n.zero, .int .i64 n.th, .int .i64 n.tw, .int .i64 n.tc, vw, vb, lv, .int .i64 m.1, .int .i64 m.2.1, .int .i64 m.2.2])) (lq : qt < w0.heap.size) {F : FuncId} (eF : F = 123) (bf : (Bx w0 qf #[.func (.func F) #[] #[.pointer (some ⟨pt, 0, none⟩), .pointer (some ⟨pa, 0, none⟩)]])) (lf : qf < w0.heap.size) :
    MakerIs w0 n a b m y (.func (.func 118) #[] #[.pointer (some ⟨qf, 0, none⟩), .pointer (some ⟨qt, 0, none⟩)]) := by
  subst eF
  obtain ⟨l1, l2, l3⟩ := lens3 h ho
  obtain ⟨_, _, _, _, m5, m6⟩ := h.m16
  obtain ⟨f0, f1⟩ := h.2.2.1.len
  rw [<- h.2.2.1.2.2.2.2.1] at l1
  obtain ⟨C, hC⟩ : ∃ C : Nat, m.2.2 = C := ⟨m.2.2.toNat, by omega⟩
  rw [hC] at l1 l2 m5 m6
  have hL : n.ws.length = a.xs.length * C := by
    have : ((a.xs.length * C : Nat) : Int) = (a.xs.length : Int) * C := Int.natCast_mul _ _
    omega
  have hW : 0 < n.ws.length := by rw [hL]; exact Nat.mul_pos f0 (by omega)
  obtain ⟨s1, s2, s3, rfl⟩ := nums_some nw hW
  obtain ⟨t1, t2, t3, rfl⟩ := nums_some nb (by omega)
  obtain ⟨u1, u2, u3, rfl⟩ := nums_some na f0
  refine is_two (fun x c => wholeN n a c.toNat) enters_whole bq lq bf lf (fun w p x c _ _ c0 c1 => ?_) (fun x c _ _ _ _ => num3 ho a b m y x c)
  obtain ⟨d, rfl⟩ := Int.eq_ofNat_of_zero_le c0
  rw [Int.toNat_natCast]
  have hd : d < C := by omega
  have hdl : d * a.xs.length + a.xs.length <= n.ws.length := by
    have := Nat.mul_le_mul_right a.xs.length (show d + 1 <= C from hd)
    rw [Nat.add_mul, Nat.one_mul, Nat.mul_comm C] at this
    omega
  exact (whole_any n vi lv s1 s2 s3 t1 t2 t3 u1 u2 u3 m pt a pa y x _ d w (box_past p bt lt) (lt_past p lt) (box_past p ba la) (lt_past p la) (na.grow p) h.2.2.1.ok (nw.grow p) (nb.grow p) (by omega) f0 f1 (by omega) hdl l3 (Lib.hid rfl)).mono (fun e w' k => ⟨k.1, Grown.past k.2⟩)
theorem is_four {F : FuncId} {qt qf p1 p2 p3 p4 : Nat} (s : Int -> Int -> Int) (hE : Enters F) (bq : (Bx w0 qt #[.int .i64 n.op, vi, .int .i64 n.k, .int .i64 n.stride, .int .i64 n.pad, .int .i64 n.out, .int .i64 n.mul, .int .i64 n.shift, .int .i64 n.zero, .int .i64 n.th, .int .i64 n.tw, .int .i64 n.tc, vw, vb, lv, .int .i64 m.1, .int .i64 m.2.1, .int .i64 m.2.2])) (lq : qt < w0.heap.size) (bf : (Bx w0 qf #[.func (.func F) #[] #[.pointer (some ⟨p1, 0, none⟩), .pointer (some ⟨p2, 0, none⟩), .pointer (some ⟨p3, 0, none⟩), .pointer (some ⟨p4, 0, none⟩)]])) (lf : qf < w0.heap.size)
    (hF : ∀ w, Past w0 w -> ∀ x c : Int, 0 <= x -> x < m.2.1 -> 0 <= c -> c < m.2.2 -> Calls Tryz.prog F #[.int .i64 y, .int .i64 x, .int .i64 c, .pointer (some ⟨p1, 0, none⟩), .pointer (some ⟨p2, 0, none⟩), .pointer (some ⟨p3, 0, none⟩), .pointer (some ⟨p4, 0, none⟩)] w fun e w' => e = .returned (.int .i64 (s x c)) /\ Past w w')
    (hs : ∀ x c : Int, 0 <= x -> x < m.2.1 -> 0 <= c -> c < m.2.2 -> numD n a b m y x c = scaleD (s x c) n.mul n.shift n.zero) :
    MakerIs w0 n a b m y (.func (.func 118) #[] #[.pointer (some ⟨qf, 0, none⟩), .pointer (some ⟨qt, 0, none⟩)]) :=
  ⟨_, qf, qt, rfl, enters_scaled, fun w p x c x0 x1 c0 c1 => scaledOf4_any n vi vw vb lv m qt qf p1 p2 p3 p4 F y x c (s x c) _ w (box_past p bq lq) (lt_past p lq) (box_past p bf lf) (lt_past p lf) hE (fun w2 p2 => hF w2 (p.trans p2) x c x0 x1 c0 c1) (Lib.hid (hs x c x0 x1 c0 c1))⟩
theorem is_weighed (h : MakeOk n vs a b m) (ho : n.op = 1 ∨ n.op = 2) (y0 : 0 <= y) (y1 : y < m.1) {qt qf pn pf mn C : Nat} {fid : FuncId} (fr : Int -> Int) (na : IsNums .i8 w0 sa a.xs) (nw : IsNums .i8 w0 vw n.ws) (nb : IsNums .i32 w0 vb n.bs) (bt : (Bx w0 pt #[.int .i64 n.op, vi, .int .i64 n.k, .int .i64 n.stride, .int .i64 n.pad, .int .i64 n.out, .int .i64 n.mul, .int .i64 n.shift, .int .i64 n.zero, .int .i64 n.th, .int .i64 n.tw, .int .i64 n.tc, vw, vb, lv, .int .i64 m.1, .int .i64 m.2.1, .int .i64 m.2.2])) (lt : pt < w0.heap.size) (ba : (Bx w0 pa #[.int .i64 a.v.h, .int .i64 a.v.w, .int .i64 a.v.c, .int .i64 a.v.z, .int .i64 a.base, .int .i64 a.many, sa])) (la : pa < w0.heap.size)
    (bn : (Bx w0 pn #[.int .i64 mn])) (ln : pn < w0.heap.size) (bg : (Bx w0 pf #[.func (.func fid) #[] #[]])) (lg : pf < w0.heap.size) (hE : Enters fid) (hG : ∀ (c : Int) w, Calls Tryz.prog fid #[.int .i64 c] w fun e w' => e = .returned (.int .i64 (fr c)) /\ Grown w w')
    (bq : (Bx w0 qt #[.int .i64 n.op, vi, .int .i64 n.k, .int .i64 n.stride, .int .i64 n.pad, .int .i64 n.out, .int .i64 n.mul, .int .i64 n.shift, .int .i64 n.zero, .int .i64 n.th, .int .i64 n.tw, .int .i64 n.tc, vw, vb, lv, .int .i64 m.1, .int .i64 m.2.1, .int .i64 m.2.2])) (lq : qt < w0.heap.size) {F : FuncId} (eF : F = 120) (bf : (Bx w0 qf #[.func (.func F) #[] #[.pointer (some ⟨pt, 0, none⟩), .pointer (some ⟨pn, 0, none⟩), .pointer (some ⟨pa, 0, none⟩), .pointer (some ⟨pf, 0, none⟩)]])) (lf : qf < w0.heap.size)
    (hC : m.2.2 = C) (hL : n.ws.length = n.k.toNat * n.k.toNat * mn * C) (l2 : n.bs.length = C) (l3 : ∀ j, j < n.bs.length -> nearB (n.bs.getD j 0)) (m1 : 1 <= mn) (m8 : mn <= 8) (hfr : ∀ c : Int, 0 <= c -> c < m.2.2 -> 0 <= fr c /\ fr c <= 8)
    (hs : ∀ x c : Int, 0 <= x -> x < m.2.1 -> 0 <= c -> c < m.2.2 -> numD n a b m y x c = scaleD (weighN n a mn (fr c) y x c.toNat) n.mul n.shift n.zero) :
    MakerIs w0 n a b m y (.func (.func 118) #[] #[.pointer (some ⟨qf, 0, none⟩), .pointer (some ⟨qt, 0, none⟩)]) := by
  subst eF
  obtain ⟨r1, _, r3, _, m5, m6⟩ := h.m16
  have kk := (h.win (y := 0) (x := 0) (by omega) (Int.le_refl _) (by omega) (Int.le_refl _) (by omega)).1
  have hK : 1 <= n.k.toNat * n.k.toNat := Nat.mul_le_mul (show 1 <= n.k.toNat by omega) (show 1 <= n.k.toNat by omega)
  have hW : 0 < n.ws.length := by rw [hL]; exact Nat.mul_pos (Nat.mul_pos (by omega) (by omega)) (by omega)
  obtain ⟨s1, s2, s3, rfl⟩ := nums_some nw hW
  obtain ⟨t1, t2, t3, rfl⟩ := nums_some nb (by omega)
  refine is_four (fun x c => weighN n a mn (fr c) y x c.toNat) enters_weighed bq lq bf lf (fun w p x c x0 x1 c0 c1 => ?_) hs
  obtain ⟨f0, f8⟩ := hfr c c0 c1
  have hG1 := hG c
  obtain ⟨q, hq⟩ : ∃ q, fr c = q := ⟨_, rfl⟩
  rw [hq] at f0 f8 hG1 ⊢
  obtain ⟨d, rfl⟩ := Int.eq_ofNat_of_zero_le c0
  rw [Int.toNat_natCast]
  have hd : d < C := by omega
  exact weighed_any n vi lv s1 s2 s3 t1 t2 t3 m pt a sa pa pn pf y x _ q d mn fid w (box_past p bt lt) (lt_past p lt) (box_past p ba la) (lt_past p la) (box_past p bn ln) (lt_past p ln) (box_past p bg lg) (lt_past p lg) hE hG1 (na.grow p) h.2.2.1.ok (nw.grow p) (nb.grow p) (h.win (by omega) y0 y1 x0 x1) (fun i _ => h.2.2.1.row _) f0 f8 (by omega) (by omega) m1 m8 (fun p hp => w_bd hp hd hL) l3 (Lib.hid rfl)
end
end Go.Proofs.YtliijchcpooplaaGreat
