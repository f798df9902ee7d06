/- Bytes as strings; a slice's first part; bytes.Equal, the program's Open; appends. -/
import Derived.Test.YtdfkpclilcnofaaS2
import Derived.Test.YtdfkpclilcnofaaS3
import Derived.Laws.BytesArg
namespace Go.Proofs.Ytdfkpclilcnofaa
open Go.ChangeShapes Go.WideShapes Go.ChangeAt Go.RowKit
set_option maxRecDepth 20000
set_option linter.unusedVariables false

theorem str_of_nums {w : World} {v : Value} {xs : List Int} (h : IsNums .u8 w v xs) : (convert 22 9 v).run Try.prog w = .ok (.string (strOfNums xs)) w := by
  obtain ⟨A, cap, rfl, h2, h3, h4, h5, h6⟩ := h
  by_cases hp : 0 < xs.length
  · obtain ⟨b, off, rfl, hb, hc⟩ := h6 hp
    exact run_convert_bytes_arg w 22 5 Try.underlying22 Try.underlying5 b off xs.length cap xs rfl hc 9 Try.underlying9
  · obtain rfl : xs = [] := List.eq_nil_of_length_eq_zero (by omega)
    cases A with
    | none => exact run_convert_bytes_nil w 22 5 Try.underlying22 Try.underlying5 _ _ 9 Try.underlying9
    | some a =>
      rw [run_convert_bytes_string w 22 9 5 _ _ _ Try.underlying22 Try.underlying5 Try.underlying9]
      simp [Conv.bytesToString, loadCells]
      rfl
/-- The string of some bytes. -/
def strB (l : List Nat) : ByteArray := strOfNums (ints l)
theorem str_b {w : World} {v : Value} {l : List Nat} (h : IsNums .u8 w v (ints l)) : (convert 22 9 v).run Try.prog w = .ok (.string (strB l)) w := str_of_nums h
theorem strB_inj {xs ys : List Nat} (hx : Bytes xs) (hy : Bytes ys) (h : strB xs = strB ys) : xs = ys := by
  have e := congrArg (fun s : ByteArray => s.data.toList) h
  simp only [strB, strOfNums_data] at e
  clear h
  induction xs generalizing ys with
  | nil => cases ys with
    | nil => rfl
    | cons y ys => simp [ints] at e
  | cons x xs ih => cases ys with
    | nil => simp [ints] at e
    | cons y ys =>
      simp only [ints, List.map_cons, List.cons.injEq] at e
      have x1 := hx x (List.mem_cons_self ..)
      have y1 := hy y (List.mem_cons_self ..)
      have e1 := congrArg UInt8.toNat e.1
      simp only [UInt8.toNat_ofNat'] at e1
      have : x = y := by omega
      rw [this, ih (fun c hc => hx c (List.mem_cons_of_mem _ hc)) (fun c hc => hy c (List.mem_cons_of_mem _ hc)) e.2]
theorem strB_yes {xs ys : List Nat} (h : xs = ys) : ((strB xs).toList == (strB ys).toList) = true := by rw [h]; simp
theorem strB_no {xs ys : List Nat} (hx : Bytes xs) (hy : Bytes ys) (h : xs ≠ ys) : ((strB xs).toList == (strB ys).toList) = false := by
  have : (strB xs).toList ≠ (strB ys).toList := fun e => h (strB_inj hx hy (ByteArray.ext (by
    have := congrArg List.toArray e
    simpa [ByteArray.toList_eq] using this)))
  simpa using this

theorem nums_cut {w : World} {A : Option Addr} {len cap : Nat} {l : List Nat} (m : Nat) (hm : m ≤ l.length) (h : IsNums .u8 w (.slice A len cap) (ints l)) : IsNums .u8 w (.slice A m cap) (ints (l.take m)) := by
  obtain ⟨A', cap', e, h2, h3, h4, h5, h6⟩ := h
  simp only [Value.slice.injEq] at e
  obtain ⟨rfl, rfl, rfl⟩ := e
  rw [ints_len] at h2 h6
  have e1 : (l.take m).length = m := by simp; omega
  refine ⟨A, cap, by rw [ints_len, e1], by rw [ints_len, e1]; omega, h3, h4, fun x hx => ?_, fun hp => ?_⟩
  · obtain ⟨c, hc, rfl⟩ := List.mem_map.1 hx
    exact h5 _ (List.mem_map.2 ⟨c, List.mem_of_mem_take hc, rfl⟩)
  · rw [ints_len, e1] at hp
    obtain ⟨b, off, rfl, hb, hc⟩ := h6 (by omega)
    refine ⟨b, off, rfl, hb, fun i hi => ?_⟩
    rw [ints_len, e1] at hi
    rw [hc i (by omega), ints_at, ints_at]
    simp [List.getD, hi]
theorem nums_form {w : World} {v : Value} {l : List Nat} (h : IsNums .u8 w v (ints l)) : ∃ A cap, v = .slice A l.length cap ∧ l.length ≤ cap ∧ cap ≤ maxLen ∧ (A = none → cap = 0) := by
  obtain ⟨A, cap, rfl, h2, h3, h4, _⟩ := h
  exact ⟨A, cap, by rw [ints_len], by rwa [ints_len] at h2, h3, h4⟩

theorem equal_any (xs ys : List Nat) (u v : Value) (W : World) (hx : IsNums .u8 W u (ints xs)) (hy : IsNums .u8 W v (ints ys)) (bx : Bytes xs) (by' : Bytes ys) : Calls Try.prog 15 #[u, v] W fun e w' => e = .returned (.bool (decide (xs = ys))) ∧ w' = W := by
  have s1 := str_b hx
  have s2 := str_b hy
  by_cases h : xs = ys
  · have q := strB_yes h
    rw [decide_eq_true h]
    clear hx hy bx by' h
    obtain ⟨S, hS⟩ : ∃ S, strB xs = S := ⟨_, rfl⟩
    obtain ⟨T, hT⟩ : ∃ T, strB ys = T := ⟨_, rfl⟩
    rw [hS] at s1 q
    rw [hT] at s2 q
    go_enter Try.func15, Try.ntmps15
    go_wp2_with fail
    go_ret
    exact ⟨rfl, rfl⟩
  · have q := strB_no bx by' h
    rw [decide_eq_false h]
    clear hx hy bx by' h
    obtain ⟨S, hS⟩ : ∃ S, strB xs = S := ⟨_, rfl⟩
    obtain ⟨T, hT⟩ : ∃ T, strB ys = T := ⟨_, rfl⟩
    rw [hS] at s1 q
    rw [hT] at s2 q
    go_enter Try.func15, Try.ntmps15
    go_wp2_with fail
    go_ret
    exact ⟨rfl, rfl⟩

/-- What Open tells: what is sealed, in a block of its own; or nothing and the error. -/
def OpenPost (bs : List Nat) (W : World) (e : Ending) (w' : World) : Prop :=
  (4 ≤ bs.length ∧ crc 4294967295 bs = hvs 32 4294967295 ∧ ∃ v, e = .returned (.tuple #[v, .int .i64 0]) ∧ IsNums .u8 w' v (ints (bs.take (bs.length - 4))) ∧ Past W w') ∨
  (¬ (4 ≤ bs.length ∧ crc 4294967295 bs = hvs 32 4294967295) ∧ e = .returned (.tuple #[.slice none 0 0, .int .i64 2]) ∧ Past W w')

theorem Bytes.take {l : List Nat} (h : Bytes l) (m : Nat) : Bytes (l.take m) := fun c hc => h c (List.mem_of_mem_take hc)

set_option maxHeartbeats 4000000 in
theorem open_any (bs : List Nat) (v : Value) (W : World) (h : IsNums .u8 W v (ints bs)) (hb : Bytes bs) (hl : bs.length ≤ 1000000) : Calls Try.prog 9 #[v] W (OpenPost bs W) := by
  obtain ⟨A, cap, rfl, h2, h3, h4⟩ := nums_form h
  by_cases c : bs.length < 4
  · clear h
    go_enter Try.func9, Try.ntmps9
    go_wp2_with fail
    go_ret2
    exact Or.inr ⟨fun h => by omega, rfl, Past.refl _⟩
  · have hm : bs.length - 4 ≤ bs.length := by omega
    obtain ⟨m, em⟩ : ∃ m, bs.length - 4 = m := ⟨_, rfl⟩
    have el : bs.length = m + 4 := by omega
    have hc := nums_cut m (by omega) h
    have SE := Lib.hid (fun w (g : Past W w) => seal_any (bs.take m) _ w (hc.grow g) (hb.take m) (by simp; omega))
    have lt : (bs.take m).length = m := by simp; omega
    have EQ := Lib.hid (fun (P : Nat) w (g : Past W w) (hr : Row w P (sealD (bs.take m))) => equal_any (sealD (bs.take m)) bs _ _ w (hr.nums (seal_lt (hb.take m)) (by rw [seal_len, lt]; unfold maxLen; omega)) (h.grow g) (seal_lt (hb.take m)) hb)
    have KEY := Lib.hid (sealed_iff (s := bs) hb (by omega))
    have H := Lib.hid h
    have HB := Lib.hid hb
    have e4 : ((bs.length : Nat) : Int) - 4 = (m : Int) := by omega
    rw [em] at KEY
    rw [seal_len, lt] at EQ
    unfold SealPost at SE
    rw [lt] at SE
    have LT := Lib.hid lt
    clear h hc lt em
    have E4 := Lib.hid e4
    clear e4
    rw [el] at EQ ⊢
    go_enter Try.func9, Try.ntmps9
    go_wp2_with fail
    refine (SE.out _ (Past.refl _)).mono ?_
    rintro e w1 ⟨rfl, hr, g1⟩
    go_wp2_with fail
    refine (EQ.out _ _ g1 hr).mono ?_
    rintro e w2 ⟨rfl, rfl⟩
    by_cases c : sealD (bs.take m) = bs
    · rw [decide_eq_true c]
      have HR := Lib.hid hr
      have C := Lib.hid c
      clear hr c
      go_wp2_with fail
      go_ret2
      have r := HR.out
      rw [C.out] at r
      have n := r.nums HB.out (by unfold maxLen; omega)
      have em : bs.length - 4 = m := by omega
      refine Or.inl ⟨by omega, KEY.out.1 C.out, _, rfl, ?_, g1⟩
      rw [em]
      rw [el] at n
      exact nums_cut m (by omega) n
    · rw [decide_eq_false c]
      have C := Lib.hid c
      clear hr c
      go_wp2_with fail
      go_ret2
      exact Or.inr ⟨fun h => C.out (KEY.out.2 h.2), rfl, g1⟩

/-- At most 2000 bytes. -/
theorem short_any (bs : List Nat) (v : Value) (W : World) (h : IsNums .u8 W v (ints bs)) : Calls Try.prog 8 #[v] W fun e w' => ∃ v', e = .returned v' ∧ IsNums .u8 W v' (ints (bs.take 2000)) ∧ w' = W := by
  obtain ⟨A, cap, rfl, h2, h3, h4⟩ := nums_form h
  by_cases c : 2000 < bs.length
  · have hc := Lib.hid (nums_cut 2000 (by omega) h)
    clear h
    go_enter Try.func8, Try.ntmps8
    go_wp2_with fail
    go_ret
    exact ⟨_, rfl, hc.out, rfl⟩
  · have e : bs.take 2000 = bs := List.take_of_length_le (by omega)
    have hc := Lib.hid h
    rw [e]
    clear h
    go_enter Try.func8, Try.ntmps8
    go_wp2_with fail
    go_ret
    exact ⟨_, rfl, hc.out, rfl⟩

/-- What lies where a slice of bytes begins: nothing, or its cells. -/
def SrcB (w : World) (A : Option Addr) (cap : Nat) (xs : List Value) : Prop := (A = none ∧ cap = 0 ∧ xs = []) ∨ ∃ ad, A = some ad ∧ ∀ j u, xs[j]? = some u → w.cell? (ad.add j) = some u
theorem src_of {w : World} {A : Option Addr} {len cap : Nat} {l : List Nat} (h : IsNums .u8 w (.slice A len cap) (ints l)) : SrcB w A cap (cellB l) := by
  by_cases hp : 0 < (cellB l).length
  · exact .inr (nums_cells h hp)
  · have e : cellB l = [] := List.eq_nil_of_length_eq_zero (by omega)
    obtain ⟨A', cap', e', _, _, h4, _⟩ := h
    simp only [Value.slice.injEq] at e'
    obtain ⟨rfl, _, rfl⟩ := e'
    rw [e]
    cases hA : A with
    | none => exact .inl ⟨rfl, h4 hA, rfl⟩
    | some ad => exact .inr ⟨ad, rfl, fun j u hu => by simp at hu⟩
theorem wp_append_src {P : Program} (w : World) {o : Oper} {a : Act} {K : Act → World → Prop} {Q : Exit → Act → World → Prop} (s x : Operand) (t : TypeId)
    (ho : o.op = .call { callee := .builtin .append, args := #[s, x], argTypes := #[t, t] })
    (base : Nat) (e : TypeId) (i : TypeInfo) (z : Value) (size bytes : Nat) (ht : P.underlying t = some (.slice e)) (hi : P.info? e = some i) (hz : i.zero = some z)
    (hsize : i.size = size) (hby : i.bytes = bytes) (hzs : z.cells.size = size) (hsz : 0 < size)
    (v : Value) (n : Nat) (xs : List Value) (hs : a.eval s = v) (hown : w.ownsRow base e size v n xs)
    (A : Option Addr) (m c : Nat) (news : List Value) (hx : a.eval x = .slice A m c) (hl : news.length = m * size) (hnews : SrcB w A c news) (h1 : ∀ u ∈ news, u.oneCell' = true)
    (h63 : n + m ≤ maxLen) (hbytes : (n + m) * bytes ≤ 140737488355328) (hbase : base ≤ w.heap.size)
    (h : ∀ v' w', w'.ownsRow base e size v' (n + m) (xs ++ news) → w.grownBy w' v.ownBlock → K (a.put o.dst v') w') : o.wp P a w K Q := by
  rcases hnews with ⟨rfl, rfl, rfl⟩ | ⟨ad, rfl, hc⟩
  · obtain rfl : m = 0 := by
      have : 0 = m * size := hl
      rcases Nat.mul_eq_zero.1 this.symm with h | h <;> omega
    have hr := run_append_owned_none (P := P) w base t o.type e i size ht hi v n xs hown
    unfold Oper.wp execOp
    simp only [ho, resolve, invoke, builtin, Sem.run_bind, Sem.run_pure, Result.andThen_ok, List.map_toArray, List.map_cons, List.map_nil, hs, hx, hr]
    exact h v w (by simpa using hown) (World.grownBy.refl _ _)
  · exact wp_append_own w s x t ho base e i z size bytes ht hi hz hsize hby hzs hsz v n xs hs hown ad m c news hx hl hc h1 h63 hbytes hbase (fun v' w' a1 a2 _ => h v' w' a1 a2)
theorem wpList_append_src {P : Program} {w : World} {ops : Array Oper} {rest : List Oper} {o : Oper} {a : Act} {Q : Exit → Act → World → Prop} (hgd : o.guard = none) (s x : Operand) (t : TypeId)
    (ho : o.op = .call { callee := .builtin .append, args := #[s, x], argTypes := #[t, t] })
    (base : Nat) (e : TypeId) (i : TypeInfo) (z : Value) (size bytes : Nat) (ht : P.underlying t = some (.slice e)) (hi : P.info? e = some i) (hz : i.zero = some z)
    (hsize : i.size = size) (hby : i.bytes = bytes) (hzs : z.cells.size = size) (hsz : 0 < size)
    (v : Value) (n : Nat) (xs : List Value) (hs : a.eval s = v) (hown : w.ownsRow base e size v n xs)
    (A : Option Addr) (m c : Nat) (news : List Value) (hx : a.eval x = .slice A m c) (hl : news.length = m * size) (hnews : SrcB w A c news) (h1 : ∀ u ∈ news, u.oneCell' = true)
    (h63 : n + m ≤ maxLen) (hbytes : (n + m) * bytes ≤ 140737488355328) (hbase : base ≤ w.heap.size)
    (h : ∀ v' w', w'.ownsRow base e size v' (n + m) (xs ++ news) → w.grownBy w' v.ownBlock → wpList P ops Q rest (a.put o.dst v') w') : wpList P ops Q (o :: rest) a w :=
  wpList_plain hgd fun _ hK => wp_append_src w s x t ho base e i z size bytes ht hi hz hsize hby hzs hsz v n xs hs hown A m c news hx hl hnews h1 h63 hbytes hbase fun v' w' h2 h3 => hK _ _ (h v' w' h2 h3)
theorem src_new (w : World) (l : List Value) (t : TypeId) (c : Nat) : SrcB (w.alloc (.cells ⟨l⟩ t)) (some ⟨w.heap.size, 0, none⟩) c l := by
  refine .inr ⟨_, rfl, fun j u hu => ?_⟩
  rw [Addr.add_mid]
  have := box_new (w := w) (cs := ⟨l⟩) (t := t) (b := w.heap.size) rfl (0 + j)
  rw [this]
  simpa using hu
/-- A row of bytes that a call owns. -/
def OwnS (w : World) (base : Nat) (v : Value) (l : List Nat) : Prop := w.ownsRow base 5 1 v l.length (cellB l)
theorem OwnS.nums {w : World} {base : Nat} {v : Value} {l : List Nat} (h : OwnS w base v l) (hb : Bytes l) : IsNums .u8 w v (ints l) := by
  obtain ⟨hl, h⟩ := h
  rcases h with ⟨rfl, h0⟩ | ⟨b, cap, cur, rfl, hbb, hg, hn, hm, hs, ht⟩
  · have : l = [] := List.eq_nil_of_length_eq_zero h0
    subst this
    exact ⟨none, 0, rfl, Nat.le_refl _, Nat.zero_le _, fun _ => rfl, by simp [ints], by simp [ints]⟩
  · refine ⟨some ⟨b, 0, none⟩, cap, by rw [ints_len], by rwa [ints_len], hm, (fun h => by cases h), ints_wf hb, fun hp => ⟨b, 0, rfl, (Array.getElem?_eq_some_iff.1 hg).1, fun i hi => ?_⟩⟩
    rw [ints_len] at hi
    rw [ints_at, ← cellB_at l i hi, ← ht, List.getElem?_take_of_lt (by omega)]
    simp [World.cell?, hg]
theorem OwnS.past {w w' : World} {base : Nat} {v : Value} {l : List Nat} (h : OwnS w base v l) (g : Past w w') : OwnS w' base v l := by
  obtain ⟨hl, h⟩ := h
  refine ⟨hl, ?_⟩
  rcases h with ⟨rfl, h0⟩ | ⟨b, cap, cur, rfl, hb, hg, hn, hm, hs, ht⟩
  · exact .inl ⟨rfl, h0⟩
  · exact .inr ⟨b, cap, cur, rfl, hb, (g.2.2.2 b (Array.getElem?_eq_some_iff.1 hg).1).trans hg, hn, hm, hs, ht⟩
end Go.Proofs.Ytdfkpclilcnofaa
