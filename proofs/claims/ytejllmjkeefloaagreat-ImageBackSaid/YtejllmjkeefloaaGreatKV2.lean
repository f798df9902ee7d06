/- Clone; begins. Bytes as strings; Steps; the laws' head. A slice of one command; an owned row one command longer. Bytes as strings; a slice's first part; bytes.Equal, the program's Open; appends. The reference's Same: two rows of commands. -/
import Derived.WalkSpells
import Derived.Lib.BufferMore
import Derived.Test.YtejllmjkeefloaaGreatKG8
import Derived.Test.YtejllmjkeefloaaGreatKG6
import Derived.Test.YtejllmjkeefloaaGreatKV1
import Derived.Laws.BytesArg
import Derived.Test.YtejllmjkeefloaaGreatKI10
import Derived.Great.BuildSlice
import Derived.OwnWalk
import Derived.BigFrame
import Derived.Test.YtejllmjkeefloaaGreatKG6C
import Derived.Test.YtejllmjkeefloaaGreatKP1
namespace Go.Proofs.YtejllmjkeefloaaGreat
open Go.ChangeShapes Go.WideShapes Go.ChangeAt Go.RowKit
set_option maxRecDepth 20000
set_option linter.unusedVariables false

def ClonePost (xs : List ValD) (W : World) (e : Ending) (w' : World) : Prop := ∃ v, e = .returned v ∧ OwnVals w' W.heap.size v xs ∧ Past W w'
set_option maxHeartbeats 1000000 in
theorem clone_any (xs : List ValD) (b off cap : Nat) (W : World) (h0 : 0 < xs.length) (h1 : xs.length ≤ 1000) (hc : xs.length ≤ cap) (hbb : b < W.heap.size) (hx : ∀ i, i < xs.length → ValAt W b (off + i * 4) (xs.getD i default)) :
    Calls Tryz.prog 64 #[.slice (some ⟨b, off, none⟩) xs.length cap] W (ClonePost xs W) := by
  obtain ⟨i0, hi0, hz0, hz1, hz2⟩ := info_parts info32
  have I1 := Lib.hid hi0
  have I2 := Lib.hid hz0
  have I3 := Lib.hid hz1
  have I4 := Lib.hid hz2
  have HX := Lib.hid (fun i hi => (hx i hi).grow hbb ((Past.refl W).alloc (.cells #[] 47)))
  have own : (W.alloc (.cells #[] 47)).ownsRow W.heap.size 47 4 (.slice (some ⟨W.heap.size, 0, none⟩) 0 0) 0 [] := by
    have := World.ownsRow_made (base := W.heap.size) (e := 47) (size := 4) W #[] 0 (by simp) (by simp) (by simp)
    simpa using this
  have OW := Lib.hid own
  have eN := fun (w : World) => Lib.run_eql_slice_some_nil (P := Tryz.prog) w (t := 24) ⟨b, off, none⟩ xs.length cap Tryz.underlying24
  clear hi0 hz0 hz1 hz2 hx own
  go_enter Tryz.func64, Tryz.ntmps64
  go_wp2_with (at_builtin; refine wpList_append_own _ rfl (.tmp 5) (.tmp 6) 24 rfl W.heap.size 47 i0 _ 4 32 Tryz.underlying24 I1.out I2.out I3.out I4.out rfl (by decide) _ 0 [] rfl OW.out ⟨b, off, none⟩ xs.length cap (valsCells xs) rfl (valsCells_len xs) (news_of_vals HX.out) (vals_one' xs) ?c4 ?c5 ?c6 ?_)
  case c4 => unfold maxLen; omega
  case c5 => omega
  case c6 => simp
  intro v4 w4 hown4 hgrow _
  have hp4 : Past W w4 := ((Past.refl W).alloc _).grownBy hgrow (fun j hj => by simp [Value.ownBlock] at hj; omega)
  have ho4 : OwnVals w4 W.heap.size v4 xs := by
    unfold OwnVals
    simpa using hown4
  clear hown4 hgrow
  go_wp2_with fail
  go_ret
  exact ⟨_, rfl, ho4, hp4⟩
theorem zeros_eq (w : World) : Calls Tryz.prog 97 #[] w fun e w' => e = .returned (.agg #[.int .i64 (-128), .int .i64 127]) ∧ w' = w.alloc (.cells #[.int .i64 (-128), .int .i64 127] 135) := by
  go_enter Tryz.func97, Tryz.ntmps97
  go_wp2
  exact bodyPost_ret (v := .agg #[.int .i64 (-128), .int .i64 127]) (by simp [results, Tryz.results97, go_sem]) rfl ⟨rfl, rfl⟩
theorem badZero_any (h w c z : Int) (W : World) :
    Calls Tryz.prog 96 #[.agg #[.int .i64 h, .int .i64 w, .int .i64 c, .int .i64 z]] W fun e w' => e = .returned (.bool (!holdB (-128) 127 z)) ∧ Grown W w' := by
  go_enter Tryz.func96, Tryz.ntmps96
  go_wp2_with fail
  go_region_held3 (fun w' => w'.cell? ⟨W.heap.size, 3, none⟩ = some (.int .i64 z)) (((try dsimp only) <;> go_cell))
    (first | (go_at_call 97; with_reducible refine (zeros_eq _).mono ?_; rintro e w1 ⟨rfl, rfl⟩) | (go_at_call 98; with_reducible refine (hold_any _ _ _ _).mono ?_; rintro e w1 ⟨rfl, rfl⟩))
  all_goals
    go_wp2_with fail
    go_ret
    exact ⟨rfl, by go_grown⟩
end Go.Proofs.YtejllmjkeefloaaGreat
namespace Go.Proofs.YtejllmjkeefloaaGreat.Q8
open Go.ChangeShapes Go.WideShapes Go.ChangeAt Go.RowKit
set_option maxRecDepth 20000
set_option linter.unusedVariables false
set_option linter.unusedSimpArgs false

theorem nums_of_ownI {k : IntKind} {t : TypeId} {w : World} {base : Nat} {v : Value} {xs : List Int} (ho : w.ownsRow base t 1 v xs.length (xs.map (Value.int k))) (wf : ∀ x ∈ xs, (Lit.int k x).wf = true) : IsNums k w v xs := by
  obtain ⟨hl, h⟩ := ho
  rcases h with ⟨rfl, h0⟩ | ⟨b, cap, cur, rfl, hb, hg, hn, hm, hs, ht⟩
  · have : xs = [] := List.eq_nil_of_length_eq_zero h0
    subst this
    exact ⟨none, 0, rfl, Nat.le_refl _, Nat.zero_le _, fun _ => rfl, by simp, by simp⟩
  · refine ⟨some ⟨b, 0, none⟩, cap, rfl, hn, hm, (fun h => by cases h), wf, fun hp => ⟨b, 0, rfl, (Array.getElem?_eq_some_iff.1 hg).1, fun i hi => ?_⟩⟩
    have key : w.cell? ⟨b, 0 + i, none⟩ = (xs.map (Value.int k))[i]? := by
      rw [← ht, List.getElem?_take_of_lt (by omega)]
      simp [World.cell?, hg]
    rw [key]
    simp [List.getD, hi]
theorem nums_new (k : IntKind) (w : World) (t : TypeId) (xs : List Int) (h0 : 0 < xs.length) (hm : xs.length ≤ maxLen) (wf : ∀ x ∈ xs, (Lit.int k x).wf = true) : IsNums k (w.alloc (.cells ⟨xs.map (Value.int k)⟩ t)) (.slice (some ⟨w.heap.size, 0, none⟩) xs.length xs.length) xs :=
  ⟨some ⟨w.heap.size, 0, none⟩, xs.length, rfl, Nat.le_refl _, hm, (fun h => by cases h), wf, fun _ => ⟨w.heap.size, 0, rfl, by simp, fun i hi => by
    have := cells_new' w (xs.map (Value.int k)) t i (.int k (xs.getD i 0)) (by simp [List.getD, hi])
    rw [add_plain] at this
    exact this⟩⟩
theorem str_of_nums {w : World} {v : Value} {xs : List Int} (h : IsNums .u8 w v xs) : (convert 22 9 v).run Tryz.prog w = .ok (.string (strOfNums xs)) w := by
  obtain ⟨A, cap, rfl, h2, h3, h4, h5, h6⟩ := h
  by_cases hp : 0 < xs.length
  · obtain ⟨b, off, rfl, hb, hc⟩ := h6 hp
    exact run_convert_bytes_arg w 22 5 Tryz.underlying22 Tryz.underlying5 b off xs.length cap xs rfl hc 9 Tryz.underlying9
  · obtain rfl : xs = [] := List.eq_nil_of_length_eq_zero (by omega)
    cases A with
    | none => exact run_convert_bytes_nil w 22 5 Tryz.underlying22 Tryz.underlying5 _ _ 9 Tryz.underlying9
    | some a =>
      rw [run_convert_bytes_string w 22 9 5 _ _ _ Tryz.underlying22 Tryz.underlying5 Tryz.underlying9]
      simp [Conv.bytesToString, loadCells]
      rfl
theorem wfC_of {c : List Int} (hl : c.length = 14) (h : ∀ x ∈ c, 0 ≤ x ∧ x < 1000000) : wfC c := ⟨hl, fun x hx => by have := h x hx; simp [Lit.wf, IntKind.min, IntKind.max, IntKind.bits, IntKind.signed]; omega⟩
end Go.Proofs.YtejllmjkeefloaaGreat.Q8
namespace Go.Proofs.YtejllmjkeefloaaGreat.Q8
open Go.ChangeShapes Go.WideShapes Go.ChangeAt Go.RowKit
set_option maxRecDepth 20000
set_option linter.unusedVariables false
set_option linter.unusedSimpArgs false

theorem infoC2 : ∃ i, Tryz.prog.info? 67 = some i ∧ i.zero = some (.agg ⟨cellC zeros⟩) ∧ i.size = 14 ∧ i.bytes = 112 := info_parts infoC
theorem fillC {c : List Int} (hl : c.length = 14) (n : Nat) (hn : n = 14) : Instr.fill (fun i => some (i * n, n)) ((Array.range (1 * n)).map ((Value.agg ⟨cellC zeros⟩).cells[· % (Value.agg ⟨cellC zeros⟩).cells.size]!)) [(0, .agg ⟨cellC c⟩)] = some ⟨cellC c⟩ := by
  subst hn
  obtain ⟨a0, a1, a2, a3, a4, a5, a6, a7, a8, a9, a10, a11, a12, a13, rfl⟩ := fourteen hl
  have e : (Array.range (1 * 14)).map ((Value.agg ⟨cellC zeros⟩).cells[· % (Value.agg ⟨cellC zeros⟩).cells.size]!) = ⟨cellC zeros⟩ := by kernel_rfl
  rw [e]
  simp [Instr.fill, cellC, zeros, Value.cells, List.replicate]
theorem wpList_lit_cmd {ops : Array Oper} {Q : Exit → Act → World → Prop} {rest : List Oper} {o : Oper} {a : Act} {w : World} (hg : o.guard = none) (y : Operand) (ho : o.op = .buildSlice 29 1 #[(0, y)]) (c : List Int) (hl : c.length = 14) (hy : a.eval y = .agg ⟨cellC c⟩)
    (h : wpList Tryz.prog ops Q rest (a.put o.dst (.slice (some ⟨w.heap.size, 0, none⟩) 1 1)) (w.alloc (.cells ⟨cellC c⟩ 67))) : wpList Tryz.prog ops Q (o :: rest) a w := by
  obtain ⟨i, hi, hz, hs, hb⟩ := infoC2
  refine Go.wpList_buildSlice hg 29 67 1 #[(0, y)] ho ⟨cellC c⟩ i (.agg ⟨cellC zeros⟩) Tryz.underlying29 hi hz (by rw [hs]; decide) (by rw [hs]; decide) ?_ h
  simp only [List.map_toArray, List.map_cons, List.map_nil, hy]
  exact fillC hl i.size hs
/-- append of one command to a row that the call owns. -/
theorem wpList_append_cmd {ops : Array Oper} {Q : Exit → Act → World → Prop} {rest : List Oper} {o : Oper} {a : Act} {w : World} (hgd : o.guard = none) (s x : Operand) (ho : o.op = .call { callee := .builtin .append, args := #[s, x], argTypes := #[29, 29] })
    (base : Nat) (v : Value) (l : List (List Int)) (hs : a.eval s = v) (hown : OwnC w base v l) (ad : Addr) (c : List Int) (hx : a.eval x = .slice (some ad) 1 1) (hc : wfC c) (hnews : ∀ j u, (cellC c)[j]? = some u → w.cell? (ad.add j) = some u) (hm : l.length ≤ 1000000) (hbase : base ≤ w.heap.size)
    (h : ∀ v' w', OwnC w' base v' (l ++ [c]) → w.grownBy w' v.ownBlock → wpList Tryz.prog ops Q rest (a.put o.dst v') w') : wpList Tryz.prog ops Q (o :: rest) a w := by
  obtain ⟨i, hi, hz, hsz, hb⟩ := infoC2
  refine wpList_append_own _ hgd s x 29 ho base 67 i _ 14 112 Tryz.underlying29 hi hz hsz hb rfl (by decide) v l.length (l.flatMap cellC) hs hown.1 ad 1 1 (cellC c) hx (by rw [cellC_len, hc.1]) hnews (oneC c) (by unfold maxLen; omega) (by omega) hbase ?_
  intro v' w' ow g _
  refine h v' w' ⟨by simpa using ow, fun d hd => ?_⟩ g
  rcases List.mem_append.1 hd with q | q
  · exact hown.2 d q
  · simp only [List.mem_singleton] at q; rw [q]; exact hc
theorem OwnC.low {w : World} {base base' : Nat} {v : Value} {l : List (List Int)} (h : OwnC w base v l) (hb : base' ≤ base) : OwnC w base' v l := by
  obtain ⟨⟨hl, h⟩, hw⟩ := h
  refine ⟨⟨hl, ?_⟩, hw⟩
  rcases h with h | ⟨b, cap, cur, e, hbb, h⟩
  · exact .inl h
  · exact .inr ⟨b, cap, cur, e, Nat.le_trans hb hbb, h⟩
theorem OwnC.keep {w w' : World} {base P : Nat} {v : Value} {l : List (List Int)} (h : OwnC w base v l) (g : Keep P w w') (hP : P < base) : OwnC w' base v l := ⟨own_keep h.1 g hP, h.2⟩
theorem OwnC.alloc {w : World} {base : Nat} {v : Value} {l : List (List Int)} (h : OwnC w base v l) (x : Obj) : OwnC (w.alloc x) base v l := ⟨World.ownsRow.alloc h.1 x, h.2⟩
theorem OwnC.lt {w : World} {base : Nat} {v : Value} {l : List (List Int)} (h : OwnC w base v l) {k : Nat} (hk : v.ownBlock = some k) : base ≤ k := (World.ownsRow.lt h.1 k hk).1
theorem cells_cmd (w : World) (c : List Int) (j : Nat) (u : Value) (h : (cellC c)[j]? = some u) : (w.alloc (.cells ⟨cellC c⟩ 67)).cell? ((⟨w.heap.size, 0, none⟩ : Addr).add j) = some u := cells_new' w (cellC c) 67 j u h
end Go.Proofs.YtejllmjkeefloaaGreat.Q8
namespace Go.Proofs.YtejllmjkeefloaaGreat.Q7
open Go.ChangeShapes Go.WideShapes Go.ChangeAt Go.RowKit
set_option maxRecDepth 20000
set_option linter.unusedVariables false

theorem str_of_nums {w : World} {v : Value} {xs : List Int} (h : IsNums .u8 w v xs) : (convert 22 9 v).run Tryz.prog w = .ok (.string (strOfNums xs)) w := by
  obtain ⟨A, cap, rfl, h2, h3, h4, h5, h6⟩ := h
  by_cases hp : 0 < xs.length
  · obtain ⟨b, off, rfl, hb, hc⟩ := h6 hp
    exact run_convert_bytes_arg w 22 5 Tryz.underlying22 Tryz.underlying5 b off xs.length cap xs rfl hc 9 Tryz.underlying9
  · obtain rfl : xs = [] := List.eq_nil_of_length_eq_zero (by omega)
    cases A with
    | none => exact run_convert_bytes_nil w 22 5 Tryz.underlying22 Tryz.underlying5 _ _ 9 Tryz.underlying9
    | some a =>
      rw [run_convert_bytes_string w 22 9 5 _ _ _ Tryz.underlying22 Tryz.underlying5 Tryz.underlying9]
      simp [Conv.bytesToString, loadCells]
      rfl
/-- The string of some bytes. -/
def strB (l : List Nat) : ByteArray := strOfNums (ints l)
theorem str_b {w : World} {v : Value} {l : List Nat} (h : IsNums .u8 w v (ints l)) : (convert 22 9 v).run Tryz.prog w = .ok (.string (strB l)) w := str_of_nums h
theorem strB_inj {xs ys : List Nat} (hx : Bytes xs) (hy : Bytes ys) (h : strB xs = strB ys) : xs = ys := by
  have e := congrArg (fun s : ByteArray => s.data.toList) h
  simp only [strB, strOfNums_data] at e
  clear h
  induction xs generalizing ys with
  | nil => cases ys with
    | nil => rfl
    | cons y ys => simp [ints] at e
  | cons x xs ih => cases ys with
    | nil => simp [ints] at e
    | cons y ys =>
      simp only [ints, List.map_cons, List.cons.injEq] at e
      have x1 := hx x (List.mem_cons_self ..)
      have y1 := hy y (List.mem_cons_self ..)
      have e1 := congrArg UInt8.toNat e.1
      simp only [UInt8.toNat_ofNat'] at e1
      have : x = y := by omega
      rw [this, ih (fun c hc => hx c (List.mem_cons_of_mem _ hc)) (fun c hc => hy c (List.mem_cons_of_mem _ hc)) e.2]
theorem strB_yes {xs ys : List Nat} (h : xs = ys) : ((strB xs).toList == (strB ys).toList) = true := by rw [h]; simp
theorem strB_no {xs ys : List Nat} (hx : Bytes xs) (hy : Bytes ys) (h : xs ≠ ys) : ((strB xs).toList == (strB ys).toList) = false := by
  have : (strB xs).toList ≠ (strB ys).toList := fun e => h (strB_inj hx hy (ByteArray.ext (by
    have := congrArg List.toArray e
    simpa [ByteArray.toList_eq] using this)))
  simpa using this
theorem nums_cut {w : World} {A : Option Addr} {len cap : Nat} {l : List Nat} (m : Nat) (hm : m ≤ l.length) (h : IsNums .u8 w (.slice A len cap) (ints l)) : IsNums .u8 w (.slice A m cap) (ints (l.take m)) := by
  obtain ⟨A', cap', e, h2, h3, h4, h5, h6⟩ := h
  simp only [Value.slice.injEq] at e
  obtain ⟨rfl, rfl, rfl⟩ := e
  rw [ints_len] at h2 h6
  have e1 : (l.take m).length = m := by simp; omega
  refine ⟨A, cap, by rw [ints_len, e1], by rw [ints_len, e1]; omega, h3, h4, fun x hx => ?_, fun hp => ?_⟩
  · obtain ⟨c, hc, rfl⟩ := List.mem_map.1 hx
    exact h5 _ (List.mem_map.2 ⟨c, List.mem_of_mem_take hc, rfl⟩)
  · rw [ints_len, e1] at hp
    obtain ⟨b, off, rfl, hb, hc⟩ := h6 (by omega)
    refine ⟨b, off, rfl, hb, fun i hi => ?_⟩
    rw [ints_len, e1] at hi
    rw [hc i (by omega), ints_at, ints_at]
    simp [List.getD, hi]
theorem nums_form {w : World} {v : Value} {l : List Nat} (h : IsNums .u8 w v (ints l)) : ∃ A cap, v = .slice A l.length cap ∧ l.length ≤ cap ∧ cap ≤ maxLen ∧ (A = none → cap = 0) := by
  obtain ⟨A, cap, rfl, h2, h3, h4, _⟩ := h
  exact ⟨A, cap, by rw [ints_len], by rwa [ints_len] at h2, h3, h4⟩
theorem equal_any (xs ys : List Nat) (u v : Value) (W : World) (hx : IsNums .u8 W u (ints xs)) (hy : IsNums .u8 W v (ints ys)) (bx : Bytes xs) (by' : Bytes ys) : Calls Tryz.prog 27 #[u, v] W fun e w' => e = .returned (.bool (decide (xs = ys))) ∧ w' = W := by
  have s1 := str_b hx
  have s2 := str_b hy
  by_cases h : xs = ys
  · have q := strB_yes h
    rw [decide_eq_true h]
    clear hx hy bx by' h
    obtain ⟨S, hS⟩ : ∃ S, strB xs = S := ⟨_, rfl⟩
    obtain ⟨T, hT⟩ : ∃ T, strB ys = T := ⟨_, rfl⟩
    rw [hS] at s1 q
    rw [hT] at s2 q
    go_enter Tryz.func27, Tryz.ntmps27
    go_wp2_with fail
    go_ret
    exact ⟨rfl, rfl⟩
  · have q := strB_no bx by' h
    rw [decide_eq_false h]
    clear hx hy bx by' h
    obtain ⟨S, hS⟩ : ∃ S, strB xs = S := ⟨_, rfl⟩
    obtain ⟨T, hT⟩ : ∃ T, strB ys = T := ⟨_, rfl⟩
    rw [hS] at s1 q
    rw [hT] at s2 q
    go_enter Tryz.func27, Tryz.ntmps27
    go_wp2_with fail
    go_ret
    exact ⟨rfl, rfl⟩
/-- What Open tells: what is sealed, in a block of its own; or nothing and the error. -/
def OpenPost (bs : List Nat) (W : World) (e : Ending) (w' : World) : Prop :=
  (4 ≤ bs.length ∧ crc 4294967295 bs = hvs 32 4294967295 ∧ ∃ v, e = .returned (.tuple #[v, .int .i64 0]) ∧ IsNums .u8 w' v (ints (bs.take (bs.length - 4))) ∧ Past W w') ∨
  (¬ (4 ≤ bs.length ∧ crc 4294967295 bs = hvs 32 4294967295) ∧ e = .returned (.tuple #[.slice none 0 0, .int .i64 2]) ∧ Past W w')
theorem Bytes.take {l : List Nat} (h : Bytes l) (m : Nat) : Bytes (l.take m) := fun c hc => h c (List.mem_of_mem_take hc)
set_option maxHeartbeats 4000000 in
theorem open_any (bs : List Nat) (v : Value) (W : World) (h : IsNums .u8 W v (ints bs)) (hb : Bytes bs) (hl : bs.length ≤ 1000000) : Calls Tryz.prog 13 #[v] W (OpenPost bs W) := by
  obtain ⟨A, cap, rfl, h2, h3, h4⟩ := nums_form h
  by_cases c : bs.length < 4
  · clear h
    go_enter Tryz.func13, Tryz.ntmps13
    go_wp2_with fail
    go_ret2
    exact Or.inr ⟨fun h => by omega, rfl, Past.refl _⟩
  · have hm : bs.length - 4 ≤ bs.length := by omega
    obtain ⟨m, em⟩ : ∃ m, bs.length - 4 = m := ⟨_, rfl⟩
    have el : bs.length = m + 4 := by omega
    have hc := nums_cut m (by omega) h
    have SE := Lib.hid (fun w (g : Past W w) => seal_any (bs.take m) _ w (hc.grow g) (hb.take m) (by simp; omega))
    have lt : (bs.take m).length = m := by simp; omega
    have EQ := Lib.hid (fun (P : Nat) w (g : Past W w) (hr : Row w P (sealD (bs.take m))) => equal_any (sealD (bs.take m)) bs _ _ w (hr.nums (seal_lt (hb.take m)) (by rw [seal_len, lt]; unfold maxLen; omega)) (h.grow g) (seal_lt (hb.take m)) hb)
    have KEY := Lib.hid (sealed_iff (s := bs) hb (by omega))
    have H := Lib.hid h
    have HB := Lib.hid hb
    have e4 : ((bs.length : Nat) : Int) - 4 = (m : Int) := by omega
    rw [em] at KEY
    rw [seal_len, lt] at EQ
    unfold SealPost at SE
    rw [lt] at SE
    have LT := Lib.hid lt
    clear h hc lt em
    have E4 := Lib.hid e4
    clear e4
    rw [el] at EQ ⊢
    go_enter Tryz.func13, Tryz.ntmps13
    go_wp2_with fail
    refine (SE.out _ (Past.refl _)).mono ?_
    rintro e w1 ⟨rfl, hr, g1⟩
    go_wp2_with fail
    refine (EQ.out _ _ g1 hr).mono ?_
    rintro e w2 ⟨rfl, rfl⟩
    by_cases c : sealD (bs.take m) = bs
    · rw [decide_eq_true c]
      have HR := Lib.hid hr
      have C := Lib.hid c
      clear hr c
      go_wp2_with fail
      go_ret2
      have r := HR.out
      rw [C.out] at r
      have n := r.nums HB.out (by unfold maxLen; omega)
      have em : bs.length - 4 = m := by omega
      refine Or.inl ⟨by omega, KEY.out.1 C.out, _, rfl, ?_, g1⟩
      rw [em]
      rw [el] at n
      exact nums_cut m (by omega) n
    · rw [decide_eq_false c]
      have C := Lib.hid c
      clear hr c
      go_wp2_with fail
      go_ret2
      exact Or.inr ⟨fun h => C.out (KEY.out.2 h.2), rfl, g1⟩
/-- A row of bytes that a call owns. -/
def OwnS (w : World) (base : Nat) (v : Value) (l : List Nat) : Prop := w.ownsRow base 5 1 v l.length (cellB l)
theorem OwnS.nums {w : World} {base : Nat} {v : Value} {l : List Nat} (h : OwnS w base v l) (hb : Bytes l) : IsNums .u8 w v (ints l) := by
  obtain ⟨hl, h⟩ := h
  rcases h with ⟨rfl, h0⟩ | ⟨b, cap, cur, rfl, hbb, hg, hn, hm, hs, ht⟩
  · have : l = [] := List.eq_nil_of_length_eq_zero h0
    subst this
    exact ⟨none, 0, rfl, Nat.le_refl _, Nat.zero_le _, fun _ => rfl, by simp [ints], by simp [ints]⟩
  · refine ⟨some ⟨b, 0, none⟩, cap, by rw [ints_len], by rwa [ints_len], hm, (fun h => by cases h), ints_wf hb, fun hp => ⟨b, 0, rfl, (Array.getElem?_eq_some_iff.1 hg).1, fun i hi => ?_⟩⟩
    rw [ints_len] at hi
    rw [ints_at, ← cellB_at l i hi, ← ht, List.getElem?_take_of_lt (by omega)]
    simp [World.cell?, hg]
theorem OwnS.past {w w' : World} {base : Nat} {v : Value} {l : List Nat} (h : OwnS w base v l) (g : Past w w') : OwnS w' base v l := by
  obtain ⟨hl, h⟩ := h
  refine ⟨hl, ?_⟩
  rcases h with ⟨rfl, h0⟩ | ⟨b, cap, cur, rfl, hb, hg, hn, hm, hs, ht⟩
  · exact .inl ⟨rfl, h0⟩
  · exact .inr ⟨b, cap, cur, rfl, hb, (g.2.2.2 b (Array.getElem?_eq_some_iff.1 hg).1).trans hg, hn, hm, hs, ht⟩
end Go.Proofs.YtejllmjkeefloaaGreat.Q7
namespace Go.Proofs.YtejllmjkeefloaaGreat.Q8
open Go.ChangeShapes Go.WideShapes Go.ChangeAt Go.RowKit
set_option maxRecDepth 20000
set_option linter.unusedVariables false
set_option linter.unusedSimpArgs false

theorem owes_row {ops : Array Oper} {S : World → Prop} {aF : Act} {o : Oper} {l : List Oper} (hg : o.guard = none) (x : Operand) (ho : o.op = .load 67 x) (b off : Nat) (hx : aF.eval x = .pointer (some ⟨b, off, none⟩)) (c : List Int) (hl : c.length = 14) (hb : ∀ w, S w → w.rangeAt b off (cellC c))
    (hp : aF.put o.dst (.agg ⟨cellC c⟩) = aF) (k : OwesAll Tryz.prog ops S aF l) : OwesAll Tryz.prog ops S aF (o :: l) := by
  refine ⟨fun w hw => ?_, k⟩
  have hwant : Region.wanted o (yielded ops aF.tmps) = true := by unfold Region.wanted; rw [hg]
  rw [if_pos hwant]
  exact wp_load_mid 67 x ho b off hx (cellC c) _ (hb w hw) Tryz.underlying67 rfl (by rw [C14, cellC_len, hl]) ⟨hp, hw⟩
theorem owes_neqC {ops : Array Oper} {S : World → Prop} {aF : Act} {o : Oper} {l : List Oper} (hg : o.guard = none) (x y : Operand) (ty2 : TypeId) (ho : o.op = .binOp .neq 67 x y ty2) (c d : List Int) (hc : c.length = 14) (hd : d.length = 14) (hx : aF.eval x = .agg ⟨cellC c⟩) (hy : aF.eval y = .agg ⟨cellC d⟩)
    (hp : aF.put o.dst (.bool (!decide (c = d))) = aF) (k : OwesAll Tryz.prog ops S aF l) : OwesAll Tryz.prog ops S aF (o :: l) := by
  refine ⟨fun w hw => ?_, k⟩
  have hwant : Region.wanted o (yielded ops aF.tmps) = true := by unfold Region.wanted; rw [hg]
  rw [if_pos hwant]
  exact wp_neqC x y ty2 ho c d hc hd hx hy ⟨hp, hw⟩
theorem take_eq_next {l m : List (List Int)} {n : Nat} (h : l.take n = m.take n) (hl : n < l.length) (hm : n < m.length) (e : l.getD n [] = m.getD n []) : l.take (n + 1) = m.take (n + 1) := by
  rw [List.take_succ_eq_append_getElem hl, List.take_succ_eq_append_getElem hm, h]
  simp [List.getD, hl, hm] at e
  rw [e]
set_option maxHeartbeats 1000000 in
theorem same_any (u v : Value) (l m : List (List Int)) (W : World) (hu : IsCmds W u l) (hv : IsCmds W v m) : Calls Tryz.prog 12 #[u, v] W fun e w' => e = .returned (.bool (decide (l = m))) ∧ Past W w' := by
  have HU := Lib.hid hu
  have HV := Lib.hid hv
  obtain ⟨A, ca, rfl, a2, a3, _⟩ := hu.form
  obtain ⟨B, cb, rfl, b2, b3, _⟩ := hv.form
  have WL := Lib.hid hu.wf
  have WM := Lib.hid hv.wf
  have hm1 : l.length ≤ 9223372036854775807 := by unfold maxLen at a3; omega
  have hm2 : m.length ≤ 9223372036854775807 := by unfold maxLen at b3; omega
  clear hu hv
  by_cases hlen : l.length = m.length
  · obtain ⟨L, hL⟩ : ∃ L, l.length = L := ⟨_, rfl⟩
    have hM : m.length = L := by omega
    rw [hL] at hlen HU a2 hm1
    rw [hM] at HV b2
    obtain ⟨d, hd⟩ : ∃ d, decide (l = m) = d := ⟨_, rfl⟩
    rw [hL, hM, hd]
    have HD := Lib.hid hd
    have HL := Lib.hid hL
    have HM := Lib.hid hM
    clear hlen hL hM hd hm2
    go_enter Tryz.func12, Tryz.ntmps12
    go_wp2_with fail
    go_loopw [4, 5] (fun s i wr => ∃ n : Nat, n ≤ L ∧ i = .int .i64 n ∧ s = .bool false ∧ Hid (l.take n = m.take n) ∧ Hid (Past W wr)) (fun _ i _ => L - (intOf i).toNat)
    case atStart => exact ⟨0, by omega, rfl, rfl, Lib.hid rfl, Lib.hid (Past.refl W)⟩
    case round =>
      obtain ⟨n, hnl, rfl, rfl, heq, hp⟩ := hrel
      by_cases h : n < L
      · obtain ⟨ba, oa, rfl, hba, ra⟩ := (HU.out.grow hp.out).at n (by rw [HL.out]; omega)
        obtain ⟨bb, ob, rfl, hbb, rb⟩ := (HV.out.grow hp.out).at n (by rw [HM.out]; omega)
        have wl := wfC_at WL.out (i := n) (by rw [HL.out]; omega)
        have wm := wfC_at WM.out (i := n) (by rw [HM.out]; omega)
        have nx : l.getD n [] = m.getD n [] → l.take (n + 1) = m.take (n + 1) := fun e => take_eq_next heq.out (by rw [HL.out]; omega) (by rw [HM.out]; omega) e
        have no : l.getD n [] ≠ m.getD n [] → d = false := fun e => by rw [← HD.out]; exact decide_eq_false (fun q => e (by rw [q]))
        obtain ⟨c, hc⟩ : ∃ c, l.getD n [] = c := ⟨_, rfl⟩
        obtain ⟨e, he⟩ : ∃ e, m.getD n [] = e := ⟨_, rfl⟩
        rw [hc] at ra wl nx no
        rw [he] at rb wm nx no
        have RA := Lib.hid ra
        have RB := Lib.hid rb
        have LC := Lib.hid wl.1
        have LE := Lib.hid wm.1
        have NX := Lib.hid nx
        have NO := Lib.hid no
        clear ra rb wl wm nx no hc he hba hbb
        go_upto_region 6 with fail
        refine wp_region_fill (fun w' => Hid (w'.rangeAt ba (oa + n * 14) (cellC c)) ∧ Hid (w'.rangeAt bb (ob + n * 14) (cellC e)) ∧ Hid (Past W w')) [(17, ?v17), (18, ?v18), (19, ?v19), (20, ?v20), (21, ?v21), (22, ?v22), (23, ?v23), (24, ?v24), (25, ?v25)] [17, 18, 19, 20, 21, 22, 23, 24, 25] (by kernel_rfl) (by kernel_rfl) rfl (by kernel_rfl) ⟨RA, RB, hp⟩ (fun w h => h) ?all ?fin
        case all =>
          simp only [fillA, Act.put, List.setIfInBounds_toArray, List.set_cons_zero, List.set_cons_succ]
          iterate 3 (refine owes_cons (fun w hw K hK => ?_) ?_; focus ((have hS := Lib.hid hw); go_simp; (try simp only [Act.put, List.setIfInBounds_toArray, List.set_cons_zero, List.set_cons_succ]); exact hK _ hS.out))
          refine owes_row rfl (.tmp 19) rfl ba (oa + n * 14) rfl c LC.out (fun w h => h.1.out) (by simp only [Act.put, List.setIfInBounds_toArray, List.set_cons_zero, List.set_cons_succ] <;> rfl) ?_
          iterate 3 (refine owes_cons (fun w hw K hK => ?_) ?_; focus ((have hS := Lib.hid hw); go_simp; (try simp only [Act.put, List.setIfInBounds_toArray, List.set_cons_zero, List.set_cons_succ]); exact hK _ hS.out))
          refine owes_row rfl (.tmp 23) rfl bb (ob + n * 14) rfl e LE.out (fun w h => h.2.1.out) (by simp only [Act.put, List.setIfInBounds_toArray, List.set_cons_zero, List.set_cons_succ] <;> rfl) ?_
          refine owes_neqC rfl (.tmp 20) (.tmp 24) 67 rfl c e LC.out LE.out rfl rfl (by simp only [Act.put, List.setIfInBounds_toArray, List.set_cons_zero, List.set_cons_succ] <;> rfl) ?_
          exact True.intro
        case fin =>
          rintro w8 ⟨_, _, p8⟩
          simp only [fillA, Act.put, List.setIfInBounds_toArray, List.set_cons_zero, List.set_cons_succ]
          by_cases q : c = e
          · have d1 : (!decide (c = e)) = false := by simp [q]
            have NX2 := Lib.hid (NX.out q)
            rw [d1]
            clear d1 q NX NO
            go_wp2_with fail
            go_roundw
            case rel => exact ⟨n + 1, by omega, by go_num, rfl, NX2, p8⟩
            case measure => simp [intOf]; omega
          · have d1 : (!decide (c = e)) = true := by simp [q]
            have ED := Lib.hid (NO.out q)
            rw [d1]
            clear d1 q NX NO
            go_wp2_with fail
            go_ret
            exact ⟨by rw [ED.out]; rfl, p8.out⟩
      · have e1 : l = m := by
          have q := heq.out
          rw [List.take_of_length_le (by rw [HL.out]; omega), List.take_of_length_le (by rw [HM.out]; omega)] at q
          exact q
        have ED : Hid (d = true) := Lib.hid (by rw [← HD.out]; exact decide_eq_true e1)
        clear e1 heq
        go_wp2_with fail
        go_ret
        exact ⟨by rw [ED.out]; rfl, hp.out⟩
  · have d1 : decide (l = m) = false := decide_eq_false (fun e => hlen (by rw [e]))
    have d2 : ((l.length : Int) != (m.length : Int)) = true := by simp; omega
    rw [d1]
    clear d1 hlen
    go_enter Tryz.func12, Tryz.ntmps12
    go_wp2_with fail
    go_ret
    exact ⟨rfl, Past.refl _⟩
end Go.Proofs.YtejllmjkeefloaaGreat.Q8
