/- Windows by a stride of two; append and rows that lie apart; arguments that are read. -/
import Derived.Test.YtbkigldffcgodaaMPa
import Derived.Test.YtbkigldffcgodaaMLe
import Derived.Laws.AppendOwn
import Derived.OwnWalk
import Derived.Test.YtbkigldffcgodaaMRead
import Derived.Test.YtbkigldffcgodaaMFix
import Derived.Test.YtbkigldffcgodaaMLa
import Derived.Test.YtbkigldffcgodaaMLg
import Derived.Test.YtbkigldffcgodaaMR3D
namespace Go.Proofs.Ytbkigldffcgodaa
open Go.ChangeShapes Go.WideShapes Go.ChangeAt Go.RowKit
set_option linter.unusedVariables false
set_option maxRecDepth 20000

section

def strK (op k s pad out mul shift z : Int) (ws bs : List Int) : NodeD := ⟨op, [], k, s, pad, out, mul, shift, z, 0, 0, 0, ws, bs⟩
theorem str_num {op k pad out mul shift z : Int} {ws bs : List Int} (ho : op = 1 ∨ op = 4) (a b : ViewD) (m m' : Int × Int × Int) (y x c : Int) :
    numD (strK op k 2 pad out mul shift z ws bs) a b m y x c = numD (strK op k 1 pad out mul shift z ws bs) a b m' (2 * y) (2 * x) c := by
  have ey : y * 2 - pad = 2 * y * 1 - pad := by omega
  have ex : x * 2 - pad = 2 * x * 1 - pad := by omega
  rcases ho with rfl | rfl
  · rw [num1 rfl, num1 rfl]
    have e : weighN (strK 1 k 2 pad out mul shift z ws bs) a a.v.c.toNat 0 y x c.toNat = weighN (strK 1 k 1 pad out mul shift z ws bs) a a.v.c.toNat 0 (2 * y) (2 * x) c.toNat := by
      unfold weighN
      show bs.getD c.toNat 0 + sumN (placeN (strK 1 k 2 pad out mul shift z ws bs) a a.v.c.toNat 0 y x c.toNat) (k.toNat * k.toNat) = bs.getD c.toNat 0 + sumN (placeN (strK 1 k 1 pad out mul shift z ws bs) a a.v.c.toNat 0 (2 * y) (2 * x) c.toNat) (k.toNat * k.toNat)
      congr 1
      refine sumN_congr fun p _ => ?_
      unfold placeN
      show sumN (fun d => overD a (lookD k.toNat (y * 2 - pad) p) (sideD k.toNat (x * 2 - pad) p) (0 + d) * ws.getD ((c.toNat * (k.toNat * k.toNat) + p) * a.v.c.toNat + d) 0) a.v.c.toNat = sumN (fun d => overD a (lookD k.toNat (2 * y * 1 - pad) p) (sideD k.toNat (2 * x * 1 - pad) p) (0 + d) * ws.getD ((c.toNat * (k.toNat * k.toNat) + p) * a.v.c.toNat + d) 0) a.v.c.toNat
      rw [ey, ex]
    rw [e]
    rfl
  · rw [num4 rfl, num4 rfl]
    show mostN (underN (strK 4 k 2 pad out mul shift z ws bs) a y x c) (k.toNat * k.toNat) = mostN (underN (strK 4 k 1 pad out mul shift z ws bs) a (2 * y) (2 * x) c) (k.toNat * k.toNat)
    refine mostN_congr fun p _ => ?_
    unfold underN
    show atD a (lookD k.toNat (y * 2 - pad) p) (sideD k.toNat (x * 2 - pad) p) c = atD a (lookD k.toNat (2 * y * 1 - pad) p) (sideD k.toNat (2 * x * 1 - pad) p) c
    rw [ey, ex]
/-- Every other place of those by one is within them. -/
theorem str_out {size k pad : Int} (h1 : 1 ≤ outI size k 2 pad) : outI size k 1 pad = size + 2 * pad - k + 1 ∧ ∀ y : Int, 0 ≤ y → y < outI size k 2 pad → 2 * y < outI size k 1 pad := by
  have hw : mayWin size k 2 pad := by
    apply Classical.byContradiction
    intro c
    rw [outI_no c] at h1
    omega
  obtain ⟨a1, a2, a3, a4, a5, a6, a7, a8, a9⟩ := id hw
  have hw1 : mayWin size k 1 pad := ⟨a1, a2, a3, a4, by decide, by decide, a7, a8, a9⟩
  rw [outI_yes hw, outI_yes hw1, Int.ediv_one]
  refine ⟨by omega, fun y y0 y1 => ?_⟩
  omega
theorem str_at {op k pad out mul shift z : Int} {ws bs : List Int} (ho : op = 1 ∨ op = 4) (a b : ViewD) (m m' : Int × Int × Int) {A B A' B' C y x c : Nat} (hm : m.2.2.toNat = C) (hm' : m'.2.2.toNat = C) (hy : y < A) (hx : x < B) (hc : c < C) (hy' : 2 * y < A') (hx' : 2 * x < B') :
    (allL (strK op k 2 pad out mul shift z ws bs) a b m (B * C) (A * (B * C))).getD ((y * B + x) * C + c) 0 = (allL (strK op k 1 pad out mul shift z ws bs) a b m' (B' * C) (A' * (B' * C))).getD ((2 * y * B' + 2 * x) * C + c) 0 := by
  rw [allL_at _ _ _ _ hm hy hx hc, allL_at _ _ _ _ hm' hy' hx' hc, str_num ho a b m m']
  congr 1

end

section

/-- Behind an append the row lies where it lay, or in a new block. -/
theorem run_append_apart {P : Program} (w : World) (base : Nat) (t ty e : TypeId) (i : TypeInfo) (z : Value) (size bytes : Nat) (ht : P.underlying t = some (.slice e)) (hi : P.info? e = some i) (hz : i.zero = some z)
    (hsize : i.size = size) (hby : i.bytes = bytes) (hzs : z.cells.size = size) (hsz : 0 < size)
    (v : Value) (n : Nat) (xs : List Value) (hown : w.ownsRow base e size v n xs)
    (a : Addr) (m c : Nat) (news : List Value) (hl : news.length = m * size) (hnews : ∀ j u, news[j]? = some u → w.cell? (a.add j) = some u) (h1 : ∀ u ∈ news, u.oneCell' = true)
    (h63 : n + m ≤ maxLen) (hbytes : (n + m) * bytes ≤ 140737488355328) (hbase : base ≤ w.heap.size) (hm : 0 < m) :
    ∃ v' w', (Builtin.append_ #[t, t] ty #[v, .slice (some a) m c]).run P w = .ok v' w' ∧ w'.ownsRow base e size v' (n + m) (xs ++ news) ∧ w.grownBy w' v.ownBlock ∧
      (v'.ownBlock = v.ownBlock ∨ v'.ownBlock = some w.heap.size) := by
  obtain ⟨v', w', hr, h2, h3, _⟩ := run_append_own (P := P) w base t ty e i z size bytes ht hi hz hsize hby hzs hsz v n xs hown a m c news hl hnews h1 h63 hbytes hbase
  refine ⟨v', w', hr, h2, h3, ?_⟩
  subst hsize
  subst hby
  have hsmall : n + m ≤ 9223372036854775807 := by simp only [maxLen] at h63; omega
  rcases hown.2 with ⟨rfl, rfl⟩ | ⟨g, cap, cur, rfl, hbg, hg, hnc, hcm, hcs, htake⟩
  · have hr2 := run_append_nil (P := P) w t ty e i z ht hi hz a m c news hl hnews hm (by omega) (by have hb := hbytes; simp only [Nat.zero_add] at hb; omega)
    rw [hr2] at hr
    injection hr with e1 e2
    subst e1
    exact .inr rfl
  · by_cases hroom : n + m ≤ cap
    · have hfit : n * i.size + news.length ≤ cur.size := by rw [hl, hcs, ← Nat.add_mul]; exact Nat.mul_le_mul_right _ hroom
      have hr2 := run_append_room (P := P) w t ty e i ht hi g n cap cur hg a m c news hl hnews h1 hroom hfit
      rw [hr2] at hr
      injection hr with e1 e2
      subst e1
      exact .inl rfl
    · have holds : ∀ j u, xs[j]? = some u → w.cell? ((⟨g, 0, none⟩ : Addr).add j) = some u := hown.cells (g := g) rfl
      have hr2 := run_append_grow (P := P) w t ty e i z ht hi hz ⟨g, 0, none⟩ n cap xs hown.1 holds a m c news hl hnews (by omega) (by omega) (growslice_fits (by omega) hbytes)
      rw [hr2] at hr
      injection hr with e1 e2
      subst e1
      exact .inr rfl
theorem wp_append_apart {P : Program} (w : World) {o : Oper} {a : Act} {K : Act → World → Prop} {Q : Exit → Act → World → Prop} (s x : Operand) (t : TypeId)
    (ho : o.op = .call { callee := .builtin .append, args := #[s, x], argTypes := #[t, t] })
    (base : Nat) (e : TypeId) (i : TypeInfo) (z : Value) (size bytes : Nat) (ht : P.underlying t = some (.slice e)) (hi : P.info? e = some i) (hz : i.zero = some z)
    (hsize : i.size = size) (hby : i.bytes = bytes) (hzs : z.cells.size = size) (hsz : 0 < size)
    (v : Value) (n : Nat) (xs : List Value) (hs : a.eval s = v) (hown : w.ownsRow base e size v n xs)
    (ad : Addr) (m c : Nat) (news : List Value) (hx : a.eval x = .slice (some ad) m c) (hl : news.length = m * size) (hnews : ∀ j u, news[j]? = some u → w.cell? (ad.add j) = some u) (h1 : ∀ u ∈ news, u.oneCell' = true)
    (h63 : n + m ≤ maxLen) (hbytes : (n + m) * bytes ≤ 140737488355328) (hbase : base ≤ w.heap.size) (hm : 0 < m)
    (h : ∀ v' w', w'.ownsRow base e size v' (n + m) (xs ++ news) → w.grownBy w' v.ownBlock → (v'.ownBlock = v.ownBlock ∨ v'.ownBlock = some w.heap.size) → K (a.put o.dst v') w') : o.wp P a w K Q := by
  obtain ⟨v', w', hr, h2, h3, h4⟩ := run_append_apart (P := P) w base t o.type e i z size bytes ht hi hz hsize hby hzs hsz v n xs hown ad m c news hl hnews h1 h63 hbytes hbase hm
  unfold Oper.wp execOp
  simp only [ho, resolve, invoke, builtin, Sem.run_bind, Sem.run_pure, Result.andThen_ok, List.map_toArray, List.map_cons, List.map_nil, hs, hx, hr]
  exact h v' w' h2 h3 h4
theorem wpList_append_apart {P : Program} (w : World) {ops : Array Oper} {rest : List Oper} {o : Oper} {a : Act} {Q : Exit → Act → World → Prop} (hgd : o.guard = none) (s x : Operand) (t : TypeId)
    (ho : o.op = .call { callee := .builtin .append, args := #[s, x], argTypes := #[t, t] })
    (base : Nat) (e : TypeId) (i : TypeInfo) (z : Value) (size bytes : Nat) (ht : P.underlying t = some (.slice e)) (hi : P.info? e = some i) (hz : i.zero = some z)
    (hsize : i.size = size) (hby : i.bytes = bytes) (hzs : z.cells.size = size) (hsz : 0 < size)
    (v : Value) (n : Nat) (xs : List Value) (hs : a.eval s = v) (hown : w.ownsRow base e size v n xs)
    (ad : Addr) (m c : Nat) (news : List Value) (hx : a.eval x = .slice (some ad) m c) (hl : news.length = m * size) (hnews : ∀ j u, news[j]? = some u → w.cell? (ad.add j) = some u) (h1 : ∀ u ∈ news, u.oneCell' = true)
    (h63 : n + m ≤ maxLen) (hbytes : (n + m) * bytes ≤ 140737488355328) (hbase : base ≤ w.heap.size) (hm : 0 < m)
    (h : ∀ v' w', w'.ownsRow base e size v' (n + m) (xs ++ news) → w.grownBy w' v.ownBlock → (v'.ownBlock = v.ownBlock ∨ v'.ownBlock = some w.heap.size) → wpList P ops Q rest (a.put o.dst v') w') : wpList P ops Q (o :: rest) a w :=
  wpList_plain hgd fun _ hK => wp_append_apart w s x t ho base e i z size bytes ht hi hz hsize hby hzs hsz v n xs hs hown ad m c news hx hl hnews h1 h63 hbytes hbase hm fun v' w' h2 h3 h4 => hK _ _ (h v' w' h2 h3 h4)

/-- Two rows that lie apart. -/
def Apart (u v : Value) : Prop := ∀ k, u.ownBlock = some k → v.ownBlock ≠ some k
theorem Apart.turn {u v : Value} (h : Apart u v) : Apart v u := fun k hv hu => h k hu hv
theorem Apart.nil (v : Value) : Apart (.slice none 0 0) v := fun k h => by simp [Value.ownBlock] at h
theorem Apart.row {u v : Value} (h : Apart u v) : u.ownBlock = none ∨ u.ownBlock ≠ v.ownBlock := by
  rcases e : u.ownBlock with _ | k
  · exact .inl rfl
  · exact .inr (fun c => h k e c.symm)
/-- v has become v', where it lay or in block n; u lies below n. -/
theorem Apart.moved {u v v' : Value} {n : Nat} (h : Apart u v) (hm : v'.ownBlock = v.ownBlock ∨ v'.ownBlock = some n) (hu : ∀ k, u.ownBlock = some k → k < n) : Apart u v' := by
  intro k hk e
  rcases hm with hm | hm
  · rw [hm] at e; exact h k hk e
  · rw [hm] at e
    injection e with e
    have := hu k hk
    omega
theorem own_apart {w : World} {b b' e e' size size' n n' : Nat} {v v' : Value} {xs xs' : List Value} (h : w.ownsRow b e size v n xs) (k : w.ownsRow b' e' size' v' n' xs') (he : e ≠ e') : Apart v v' := by
  intro q hv hv'
  obtain ⟨_, h⟩ := h
  obtain ⟨_, k⟩ := k
  rcases h with ⟨rfl, _⟩ | ⟨b, cap, cur, rfl, _, hg, _⟩
  · simp [Value.ownBlock] at hv
  · rcases k with ⟨rfl, _⟩ | ⟨b2, cap2, cur2, rfl, _, hg2, _⟩
    · simp [Value.ownBlock] at hv'
    · simp only [Value.ownBlock, Option.some.injEq] at hv hv'
      subst hv
      subst hv'
      rw [hg] at hg2
      simp only [Option.some.injEq, Obj.cells.injEq] at hg2
      exact he hg2.2.1

theorem infoI32 : (Try.prog.info? 21).map (fun i => (i.zero, i.size, i.bytes)) = some (some (.int .i32 0), 1, 4) := by kernel_rfl
/-- A row of int32 that a call owns. -/
def Own32 (w : World) (base : Nat) (v : Value) (xs : List Int) : Prop := w.ownsRow base 21 1 v xs.length (xs.map (Value.int .i32))
theorem own32_new {w : World} {base : Nat} (hb : base ≤ w.heap.size) : Own32 (w.alloc (.cells #[] 21)) base (.slice (some ⟨w.heap.size, 0, none⟩) 0 0) [] := World.ownsRow_lit w #[] 0 hb (by decide) (by simp)
theorem own32_add {w : World} {base : Nat} {v : Value} {xs : List Int} {u : Int} (h : w.ownsRow base 21 1 v (xs.length + 1) (xs.map (Value.int .i32) ++ [.int .i32 u])) : Own32 w base v (xs ++ [u]) := by
  unfold Own32
  simpa using h
theorem Own32.past {w w' : World} {base : Nat} {v : Value} {xs : List Int} (h : Own32 w base v xs) (g : Past w w') : Own32 w' base v xs := by
  obtain ⟨hl, h⟩ := h
  refine ⟨hl, ?_⟩
  rcases h with ⟨rfl, h0⟩ | ⟨b, cap, cur, rfl, hb, hg, hn, hm, hs, ht⟩
  · exact .inl ⟨rfl, h0⟩
  · exact .inr ⟨b, cap, cur, rfl, hb, (g.2.2.2 b (Array.getElem?_eq_some_iff.1 hg).1).trans hg, hn, hm, hs, ht⟩
theorem Own32.nums {w : World} {base : Nat} {v : Value} {xs : List Int} (ho : Own32 w base v xs) (wf : ∀ x ∈ xs, -2147483648 ≤ x ∧ x ≤ 2147483647) : IsNums .i32 w v xs := by
  obtain ⟨hl, h⟩ := ho
  have wf' : ∀ x ∈ xs, (Lit.int .i32 x).wf = true := fun x hx => by have := wf x hx; simp [Lit.wf, IntKind.min, IntKind.max, IntKind.bits, IntKind.signed]; omega
  rcases h with ⟨rfl, h0⟩ | ⟨b, cap, cur, rfl, hb, hg, hn, hm, hs, ht⟩
  · have : xs = [] := List.eq_nil_of_length_eq_zero h0
    subst this
    exact ⟨none, 0, rfl, Nat.le_refl _, Nat.zero_le _, fun _ => rfl, by simp, by simp⟩
  · refine ⟨some ⟨b, 0, none⟩, cap, rfl, hn, hm, (fun h => by cases h), wf', fun hp => ⟨b, 0, rfl, (Array.getElem?_eq_some_iff.1 hg).1, fun i hi => ?_⟩⟩
    have key : w.cell? ⟨b, 0 + i, none⟩ = (xs.map (Value.int .i32))[i]? := by
      rw [← ht, List.getElem?_take_of_lt (by omega)]
      simp [World.cell?, hg]
    rw [key]
    simp [List.getD, hi]
theorem Own32.form {w : World} {base : Nat} {v : Value} {xs : List Int} (h : Own32 w base v xs) : ∃ A c, v = .slice A xs.length c := by
  obtain ⟨hl, h⟩ := h
  rcases h with ⟨rfl, h0⟩ | ⟨g, cap, cur, rfl, _⟩
  · exact ⟨none, 0, by rw [h0]⟩
  · exact ⟨_, _, rfl⟩
theorem Own32.lt {w : World} {base : Nat} {v : Value} {xs : List Int} (h : Own32 w base v xs) : ∀ k, v.ownBlock = some k → base ≤ k ∧ k < w.heap.size := World.ownsRow.lt h
/-- A row of noughts as make gives it. -/
theorem own8_zeros {w : World} {base n : Nat} {v : Value} (h : w.ownsRow base 52 1 v n (List.replicate n (.int .i8 0))) : Own8 w base v (List.replicate n 0) := by
  unfold Own8
  simpa using h
theorem own32_zeros {w : World} {base n : Nat} {v : Value} (h : w.ownsRow base 21 1 v n (List.replicate n (.int .i32 0))) : Own32 w base v (List.replicate n 0) := by
  unfold Own32
  simpa using h

/-- The first k of an endless row. -/
def genL (f : Nat → Int) (k : Nat) : List Int := (List.range k).map f
theorem genL_succ (f : Nat → Int) (k : Nat) : genL f (k + 1) = genL f k ++ [f k] := by unfold genL; rw [List.range_succ, List.map_append]; rfl
theorem genL_len (f : Nat → Int) (k : Nat) : (genL f k).length = k := by simp [genL]
theorem genL_at (f : Nat → Int) {k i : Nat} (h : i < k) : (genL f k).getD i 0 = f i := by unfold genL; simp [List.getD, h]
theorem genL_bd {f : Nat → Int} {lo hi : Int} {k : Nat} (h : ∀ i, i < k → lo ≤ f i ∧ f i ≤ hi) : ∀ x ∈ genL f k, lo ≤ x ∧ x ≤ hi := by
  intro x hx
  unfold genL at hx
  obtain ⟨i, hi, rfl⟩ := List.mem_map.1 hx
  exact h i (List.mem_range.1 hi)
theorem getD_i8' {xs : List Int} (h : ∀ x ∈ xs, -128 ≤ x ∧ x ≤ 127) : ∀ k, -128 ≤ xs.getD k 0 ∧ xs.getD k 0 ≤ 127 := fun k => getD_i8 h k

end

section

/-- Values, and numbers of the first two. -/
structure DataD where
  l : List ValD
  xs : List Int
  ys : List Int
def IsData (w : World) (v : Value) (x : DataD) : Prop := ∃ lv s0 s1 : Value, v = .agg #[lv, s0, s1] ∧ IsVals w lv x.l ∧ IsNums .i8 w s0 x.xs ∧ IsNums .i8 w s1 x.ys

variable {H : Type} {enc : TypeId × Value → H} {W : World}
theorem cells8 : Try.prog.cellsOf 25 = 1 := by kernel_rfl
theorem cellsL2 : Try.prog.cellsOf 45 = 2 := by kernel_rfl
theorem cellsVals : Try.prog.cellsOf 29 = 1 := by kernel_rfl
theorem cellsData : Try.prog.cellsOf 47 = 3 := by kernel_rfl
theorem rows2_read {fuel : Nat} {a b : Value} {x : DataW H × List MemPlace} (h : DataW.trod enc Try.prog W 0 (fun _ => true) true fuel 45 [a, b] = some x) :
    ∃ m y z, DataW.trod enc Try.prog W 0 (fun _ => true) true m 25 [a] = some y ∧ DataW.trod enc Try.prog W 0 (fun _ => true) true m 25 [b] = some z := by
  match fuel, h with
  | 0, h => simp [DataW.trod] at h
  | m + 1, h =>
    unfold DataW.trod at h
    rw [Try.underlying45] at h
    simp [show List.range 2 = [0, 1] from rfl, cells8] at h
    have h := h.2
    rcases e0 : DataW.trod enc Try.prog W 0 (fun _ => true) true m 25 [a] with _ | y
    · rw [e0] at h; simp at h
    · rcases e1 : DataW.trod enc Try.prog W 0 (fun _ => true) true m 25 [b] with _ | z
      · rw [e0, e1] at h; simp at h
      · exact ⟨m, y, z, e0, e1⟩
theorem three_values {l : List Value} (h : l.length = 3) : ∃ a b c, l = [a, b, c] := by
  match l, h with
  | [a, b, c], _ => exact ⟨a, b, c, rfl⟩
theorem open_data {r : Reach} {b0 : Nat} {v : Value} {d : DataW H} {p : List MemPlace} (hv : Value.okWide Try.prog W r b0 47 v) (h : DataW.Trod enc Try.prog W 0 (fun _ => true) true 47 v d p) : ∃ x, IsData W v x := by
  obtain ⟨cs, rfl, hsz⟩ := okWide_struct Try.underlying47 hv
  obtain ⟨l⟩ := cs
  obtain ⟨fuel, hf⟩ := h
  obtain ⟨xs, n, _, _, hl, _, _⟩ := DataW.trod_struct Try.underlying47 hf
  have hl' : l.length = 3 := by
    rw [cellsData] at hl
    simpa [Value.cells] using hl
  obtain ⟨lv, s0, s1, rfl⟩ := three_values hl'
  obtain ⟨m1, y1, h1⟩ := field Try.underlying47 hf 0 _ rfl
  obtain ⟨m2, y2, h2⟩ := field Try.underlying47 hf 1 _ rfl
  simp [cellsVals] at h1
  simp [cellsL2] at h2
  obtain ⟨l, hl1⟩ := open_vals h1
  obtain ⟨m, y, z, r0, r1⟩ := rows2_read h2
  obtain ⟨a, ha⟩ := open_nums Try.underlying25 Try.underlying52 cellsI8 r0
  obtain ⟨b, hb⟩ := open_nums Try.underlying25 Try.underlying52 cellsI8 r1
  exact ⟨⟨l, a, b⟩, lv, s0, s1, rfl, hl1, ha, hb⟩

end

section
variable {H : Type} {enc : TypeId × Value → H} {W : World}

theorem cellsByte : Try.prog.cellsOf 5 = 1 := by kernel_rfl
theorem cellsBytes2 : Try.prog.cellsOf 39 = 2 := by kernel_rfl

/-- Both numbers of a pair of bytes can be read by themselves. -/
theorem bytes2_read {fuel : Nat} {a b : Value} {x : DataW H × List MemPlace} (h : DataW.trod enc Try.prog W 0 (fun _ => true) true fuel 39 [a, b] = some x) :
    ∃ m y z, DataW.trod enc Try.prog W 0 (fun _ => true) true m 5 [a] = some y ∧ DataW.trod enc Try.prog W 0 (fun _ => true) true m 5 [b] = some z := by
  match fuel, h with
  | 0, h => simp [DataW.trod] at h
  | m + 1, h =>
    unfold DataW.trod at h
    rw [Try.underlying39] at h
    simp [show List.range 2 = [0, 1] from rfl, cellsByte] at h
    have h := h.2
    rcases e0 : DataW.trod enc Try.prog W 0 (fun _ => true) true m 5 [a] with _ | y
    · rw [e0] at h; simp at h
    · rcases e1 : DataW.trod enc Try.prog W 0 (fun _ => true) true m 5 [b] with _ | z
      · rw [e0, e1] at h; simp at h
      · exact ⟨m, y, z, e0, e1⟩

theorem open_bytes2 {r : Reach} {b0 : Nat} {v : Value} {d : DataW H} {p : List MemPlace} (hv : Value.okWide Try.prog W r b0 39 v) (h : DataW.Trod enc Try.prog W 0 (fun _ => true) true 39 v d p) : ∃ x : Int × Int, v = .agg #[.int .u8 x.1, .int .u8 x.2] ∧ (Lit.int .u8 x.1).wf = true ∧ (Lit.int .u8 x.2).wf = true := by
  obtain ⟨cs, rfl, hsz, _⟩ : ∃ cs, v = .agg cs ∧ cs.size = Try.prog.cellsOf 39 ∧ Row.okWide Try.prog W r b0 39 cs := by simpa [Value.okWide, Try.underlying39] using hv
  rw [cellsBytes2] at hsz
  obtain ⟨l⟩ := cs
  obtain ⟨a, b, rfl⟩ := two_values hsz
  obtain ⟨fuel, hf⟩ := h
  obtain ⟨m, y, z, h1, h2⟩ := bytes2_read hf
  obtain ⟨n1, e1, _, w1⟩ := DataW.trod_int Try.underlying5 h1
  obtain ⟨n2, e2, _, w2⟩ := DataW.trod_int Try.underlying5 h2
  simp at e1 e2
  subst e1 e2
  exact ⟨(n1, n2), rfl, w1, w2⟩


end

section

section
variable {H : Type} {enc : TypeId × Value → H} {W : World}
theorem open_boolv {r : Reach} {b0 : Nat} {v : Value} {d : DataW H} {p : List MemPlace} (hv : Value.okWide Try.prog W r b0 4 v) (h : DataW.Trod enc Try.prog W 0 (fun _ => true) true 4 v d p) : ∃ b : Bool, v = .bool b := by
  obtain ⟨b, e, _⟩ := RowKit.open_bool Try.underlying4 hv h
  exact ⟨b, e⟩
end

theorem ZN14 : (Try.prog.info? 28).map (·.zero) = some (some (.agg #[.int .i64 0, .slice none 0 0, .int .i64 0, .int .i64 0, .int .i64 0, .int .i64 0, .int .i64 0, .int .i64 0, .int .i64 0, .int .i64 0, .int .i64 0, .int .i64 0, .slice none 0 0, .slice none 0 0])) := by kernel_rfl
def NZ : Value := .agg #[.int .i64 0, .slice none 0 0, .int .i64 0, .int .i64 0, .int .i64 0, .int .i64 0, .int .i64 0, .int .i64 0, .int .i64 0, .int .i64 0, .int .i64 0, .int .i64 0, .slice none 0 0, .slice none 0 0]
theorem box_setAt {w : World} {b k : Nat} {cs : Array Value} {y : Value} (h : (∀ o : Nat, w.cell? ⟨b, o, none⟩ = (cs : Array Value)[o]?)) (hk : k < cs.size) : (∀ o : Nat, (w.setCell ⟨b, k, none⟩ y).cell? ⟨b, o, none⟩ = ((cs.setIfInBounds k y) : Array Value)[o]?) := by
  intro o
  by_cases e : o = k
  · subst e
    rw [Array.getElem?_setIfInBounds_self_of_lt hk]
    exact World.cell?_setCell_same w _ _ (u := cs[o]) (by rw [h o]; exact Array.getElem?_eq_getElem hk)
  · rw [Array.getElem?_setIfInBounds_ne (fun c => e c.symm), World.cell?_setCell_other _ _ _ _ (by simp)]
    exact h o
theorem box_eq {w : World} {b : Nat} {cs cs' : Array Value} (h : (∀ o : Nat, w.cell? ⟨b, o, none⟩ = (cs : Array Value)[o]?)) (e : cs = cs') : (∀ o : Nat, w.cell? ⟨b, o, none⟩ = (cs' : Array Value)[o]?) := e ▸ h
theorem box_grow' {w w' : World} {row : Option Nat} {b : Nat} {cs : Array Value} (g : w.grownBy w' row) (h : (∀ o : Nat, w.cell? ⟨b, o, none⟩ = (cs : Array Value)[o]?)) (hb : b < w.heap.size) (hr : some b ≠ row) : (∀ o : Nat, w'.cell? ⟨b, o, none⟩ = (cs : Array Value)[o]?) := by
  intro o
  have := g.block b hb hr
  rw [← h o]
  unfold World.cell?
  rw [this]
theorem free_grow' {w w' : World} {row : Option Nat} {b : Nat} (g : w.grownBy w' row) (h : (∀ o : Nat, w.frozen? ⟨b, o, none⟩ = false)) (hb : b < w.heap.size) (hr : some b ≠ row) : (∀ o : Nat, w'.frozen? ⟨b, o, none⟩ = false) := by
  intro o
  have := g.block b hb hr
  rw [← h o]
  unfold World.frozen?
  rw [this]
theorem nums_one32b {w : World} {b : Nat} {x : Int} (hx : -2147483648 ≤ x ∧ x ≤ 2147483647) (hb : b < w.heap.size) (h : (∀ o : Nat, w.cell? ⟨b, o, none⟩ = (#[.int .i32 x] : Array Value)[o]?)) : IsNums .i32 w (.slice (some ⟨b, 0, none⟩) 1 1) [x] := by
  refine ⟨some ⟨b, 0, none⟩, 1, rfl, Nat.le_refl _, by decide, (fun h => by cases h), (fun z hz => ?_), fun _ => ⟨b, 0, rfl, hb, fun i hi => ?_⟩⟩
  · simp only [List.mem_cons, List.not_mem_nil, or_false] at hz
    subst hz
    simp [Lit.wf, IntKind.min, IntKind.max, IntKind.bits, IntKind.signed]; omega
  · simp only [List.length_cons, List.length_nil] at hi
    obtain rfl : i = 0 := by omega
    exact h 0
theorem rem_nats {a H : Int} (h0 : 0 ≤ a) (h1 : 1 ≤ H) : ∃ f : Nat, a % H = f ∧ Int.tmod a H = f ∧ (f : Int) < H := by
  have m0 := Int.emod_nonneg a (show H ≠ 0 by omega)
  have m1 := Int.emod_lt_of_pos a (show 0 < H by omega)
  refine ⟨(a % H).toNat, by omega, ?_, by omega⟩
  rw [Int.tmod_eq_emod_of_nonneg h0]
  omega

/-- The weights: the given ones, again and again; of none each number's own. -/
def strF (ls : List Int) (i : Nat) : Int := if 0 < ls.length then ls.getD (i % ls.length) 0 else i
theorem strF_bd {ls : List Int} (h : ∀ x ∈ ls, -128 ≤ x ∧ x ≤ 127) {k : Nat} (hk : k ≤ 127) : ∀ x ∈ genL (strF ls) k, -128 ≤ x ∧ x ≤ 127 := by
  refine genL_bd (fun i hi => ?_)
  unfold strF
  split
  · exact getD_i8 h _
  · omega

theorem str_made {op k s pad out mul shift z : Int} {ws bs : List Int} (ho : op = 1 ∨ op = 4) (v : ValD) : madeS (strK op k s pad out mul shift z ws bs) [v] = (outI v.h k s pad, outI v.w k s pad, if op = 1 then out else v.c) := by
  rcases ho with rfl | rfl
  · rw [made1 rfl, if_pos rfl]; rfl
  · rw [made2 (.inr (.inl rfl)), if_neg (by decide)]; rfl
theorem strides_ok {op K pad out mul sh zn : Int} {ws bs : List Int} {u : ValD} {D : List Int} (ho : op = 1 ∨ op = 4) (F0 : FullV (viewOf u D)) (ea : valueE (strK op K 1 pad out mul sh zn ws bs) [u] = 0) (eb : valueE (strK op K 2 pad out mul sh zn ws bs) [u] = 0) :
    ∃ A B A2 B2 C : Nat, valueV (strK op K 1 pad out mul sh zn ws bs) [u] = ⟨A, B, C, zn⟩ ∧ valueV (strK op K 2 pad out mul sh zn ws bs) [u] = ⟨A2, B2, C, zn⟩ ∧ (A ≤ 16 ∧ B ≤ 16 ∧ A2 ≤ 16 ∧ B2 ≤ 16 ∧ C ≤ 8) ∧
      MakeOk (strK op K 1 pad out mul sh zn ws bs) [u] (viewOf u D) noView ((A : Int), (B : Int), (C : Int)) ∧ MakeOk (strK op K 2 pad out mul sh zn ws bs) [u] (viewOf u D) noView ((A2 : Int), (B2 : Int), (C : Int)) ∧
      ((A * (B * C) : Nat) : Int) = sizeI A B C ∧ ((A2 * (B2 * C) : Nat) : Int) = sizeI A2 B2 C ∧
      ∀ y x c : Nat, y < A2 → x < B2 → c < C → 2 * y < A ∧ 2 * x < B ∧
        (allL (strK op K 2 pad out mul sh zn ws bs) (viewOf u D) noView ((A2 : Int), (B2 : Int), (C : Int)) (B2 * C) (A2 * (B2 * C))).getD ((y * B2 + x) * C + c) 0 = (allL (strK op K 1 pad out mul sh zn ws bs) (viewOf u D) noView ((A : Int), (B : Int), (C : Int)) (B * C) (A * (B * C))).getD ((2 * y * B + 2 * x) * C + c) 0 := by
  have ma := (value_parts ea).2.2.1
  have mb := (value_parts eb).2.2.1
  rw [str_made ho] at ma mb
  obtain ⟨cn, hcn⟩ : ∃ cn, (if op = 1 then out else u.c) = cn := ⟨_, rfl⟩
  have na : ∀ s, (strK op K s pad out mul sh zn ws bs).op = op := fun _ => rfl
  rw [hcn] at ma mb
  obtain ⟨a1, a2, a3, a4, a5, a6⟩ := id ma
  obtain ⟨b1, b2, b3, b4, b5, b6⟩ := id mb
  have q1 := str_out (size := u.h) (k := K) (pad := pad) b1
  have q2 := str_out (size := u.w) (k := K) (pad := pad) b3
  simp only at a1 a2 a3 a4 a5 a6 b1 b2 b3 b4 b5 b6
  have va : valueV (strK op K 1 pad out mul sh zn ws bs) [u] = ⟨outI u.h K 1 pad, outI u.w K 1 pad, cn, zn⟩ := by
    unfold valueV; rw [if_pos ea, str_made ho, hcn]; rfl
  have vb : valueV (strK op K 2 pad out mul sh zn ws bs) [u] = ⟨outI u.h K 2 pad, outI u.w K 2 pad, cn, zn⟩ := by
    unfold valueV; rw [if_pos eb, str_made ho, hcn]; rfl
  have no6 : ¬ (op = 6 ∨ op = 7 ∨ op = 10) := by omega
  have ka : MakeOk (strK op K 1 pad out mul sh zn ws bs) [u] (viewOf u D) noView (outI u.h K 1 pad, outI u.w K 1 pad, cn) := ⟨ea, by rw [str_made ho, hcn], F0, rfl, fun h => absurd h no6⟩
  have kb : MakeOk (strK op K 2 pad out mul sh zn ws bs) [u] (viewOf u D) noView (outI u.h K 2 pad, outI u.w K 2 pad, cn) := ⟨eb, by rw [str_made ho, hcn], F0, rfl, fun h => absurd h no6⟩
  obtain ⟨A, hA⟩ : ∃ A : Nat, outI u.h K 1 pad = A := ⟨(outI u.h K 1 pad).toNat, by omega⟩
  obtain ⟨B, hB⟩ : ∃ A : Nat, outI u.w K 1 pad = A := ⟨(outI u.w K 1 pad).toNat, by omega⟩
  obtain ⟨A2, hA2⟩ : ∃ A : Nat, outI u.h K 2 pad = A := ⟨(outI u.h K 2 pad).toNat, by omega⟩
  obtain ⟨B2, hB2⟩ : ∃ A : Nat, outI u.w K 2 pad = A := ⟨(outI u.w K 2 pad).toNat, by omega⟩
  obtain ⟨C, hC⟩ : ∃ A : Nat, cn = A := ⟨cn.toNat, by omega⟩
  have s1 := q1.2
  have s2 := q2.2
  rw [hA, hB, hC] at va ka
  rw [hA2, hB2, hC] at vb kb
  rw [hA2, hA] at s1
  rw [hB2, hB] at s2
  rw [hA] at a1 a2
  rw [hB] at a3 a4
  rw [hA2] at b1 b2
  rw [hB2] at b3 b4
  rw [hC] at a5 a6
  have size : ∀ X Y : Nat, 1 ≤ (X : Int) → (X : Int) ≤ 16 → 1 ≤ (Y : Int) → (Y : Int) ≤ 16 → ((X * (Y * C) : Nat) : Int) = sizeI X Y C := by
    intro X Y x1 x2 y1 y2
    unfold sizeI
    rw [if_pos ⟨x1, x2, y1, y2, a5, a6⟩, ← Nat.mul_assoc, Int.natCast_mul, Int.natCast_mul]
  refine ⟨A, B, A2, B2, C, va, vb, ⟨by omega, by omega, by omega, by omega, by omega⟩, ka, kb, size A B a1 a2 a3 a4, size A2 B2 b1 b2 b3 b4, fun y x c hy hx hc => ?_⟩
  have t1 := s1 (y : Int) (by omega) (by omega)
  have t2 := s2 (x : Int) (by omega) (by omega)
  have t1' : 2 * y < A := by omega
  have t2' : 2 * x < B := by omega
  exact ⟨t1', t2', str_at ho _ _ _ _ (by simp) (by simp) hy hx hc t1' t2'⟩

end
end Go.Proofs.Ytbkigldffcgodaa
