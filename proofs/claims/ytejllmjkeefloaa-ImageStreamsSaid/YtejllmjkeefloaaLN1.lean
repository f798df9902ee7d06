/- model in numbers: the bytes of a graph, and how bytes are read; what was put is read as it was, what is read is put as the same bytes. Values that a call owns; named; Clone. What Value answers at the examples and pairs of the laws: plain numbers. A struct or an array of many cells that is loaded, whole, from the beginning of a box: told at once (the walk's own simp takes twice as long for each cell more). -/
import Derived.Test.YtejllmjkeefloaaLRead
import Derived.Laws.AppendOwn
import Derived.OwnWalk
import Derived.Test.YtejllmjkeefloaaLG2
import Derived.Test.YtejllmjkeefloaaLG6
import Derived.Deep.MidRow
import Derived.Test.YtejllmjkeefloaaLFixM
namespace Go.Proofs.Ytejllmjkeefloaa
open Go.ChangeShapes Go.WideShapes Go.ChangeAt Go.RowKit
set_option linter.unusedVariables false

/-- k bytes of x, the highest first. -/
def numB : Nat → Int → List Int
  | 0, _ => []
  | k + 1, x => x / 256 ^ k % 256 :: numB k x
def numsB (k : Nat) (xs : List Int) : List Int := xs.flatMap (numB k)
def listB (many k : Nat) (xs : List Int) : List Int := numsB many [(xs.length : Int)] ++ numsB k xs
def nodeB (n : NodeD) : List Int :=
  numsB 1 [n.op] ++ listB 1 1 n.ins ++ numsB 1 [n.k, n.stride, n.pad, n.out] ++ numsB 2 [n.mul] ++ numsB 1 [n.shift, n.zero, n.th, n.tw, n.tc] ++ listB 2 1 n.ws ++ listB 1 4 n.bs
def valB (v : ValD) : List Int := numsB 1 [v.h, v.w, v.c, v.z]
def graphB (g : GraphD) : List Int :=
  numsB 1 [(g.ins.length : Int)] ++ g.ins.flatMap valB ++ numsB 1 [(g.nodes.length : Int)] ++ g.nodes.flatMap nodeB ++ listB 1 1 g.outs
theorem numB_len (k : Nat) (x : Int) : (numB k x).length = k := by
  induction k with
  | zero => rfl
  | succ k ih => simp [numB, ih]
theorem numsB_len (k : Nat) (xs : List Int) : (numsB k xs).length = k * xs.length := by
  induction xs with
  | nil => simp [numsB]
  | cons x xs ih => simp only [numsB, List.flatMap_cons, List.length_append, numB_len, List.length_cons] at ih ⊢; rw [ih]; rw [Nat.mul_add]; omega
theorem listB_len (m k : Nat) (xs : List Int) : (listB m k xs).length = m + k * xs.length := by simp [listB, numsB_len]
theorem nodeB_len (n : NodeD) : (nodeB n).length = 16 + n.ins.length + n.ws.length + 4 * n.bs.length := by
  simp only [nodeB, List.length_append, numsB_len, listB_len, List.length_cons, List.length_nil]; omega
theorem valB_len (v : ValD) : (valB v).length = 4 := by simp [valB, numsB_len]
def nodesLen (ns : List NodeD) : Nat := (ns.map fun n => 16 + n.ins.length + n.ws.length + 4 * n.bs.length).sum
theorem graphB_len (g : GraphD) : (graphB g).length = 3 + 4 * g.ins.length + g.outs.length + nodesLen g.nodes := by
  have h1 : (g.ins.flatMap valB).length = 4 * g.ins.length := by
    induction g.ins with
    | nil => rfl
    | cons v vs ih => simp only [List.flatMap_cons, List.length_append, valB_len, ih, List.length_cons]; omega
  have h2 : (g.nodes.flatMap nodeB).length = nodesLen g.nodes := by
    induction g.nodes with
    | nil => rfl
    | cons v vs ih => simp only [nodesLen, List.flatMap_cons, List.length_append, nodeB_len, List.map_cons, List.sum_cons] at ih ⊢; omega
  simp only [graphB, List.length_append, numsB_len, listB_len, List.length_cons, List.length_nil, h1, h2]; omega
/-- Bytes: numbers of 0 to 255. -/
def bytesP (l : List Int) : Prop := ∀ c ∈ l, 0 ≤ c ∧ c < 256
theorem bytesP_app {a b : List Int} (ha : bytesP a) (hb : bytesP b) : bytesP (a ++ b) := fun c hc => by
  rcases List.mem_append.1 hc with h | h
  · exact ha c h
  · exact hb c h
theorem numB_bytes (k : Nat) (x : Int) : bytesP (numB k x) := by
  induction k with
  | zero => intro c hc; simp [numB] at hc
  | succ k ih =>
    intro c hc
    simp only [numB, List.mem_cons] at hc
    rcases hc with rfl | hc
    · omega
    · exact ih c hc
theorem flat_bytes {α : Type} {f : α → List Int} {l : List α} (h : ∀ x, bytesP (f x)) : bytesP (l.flatMap f) := by
  intro c hc
  obtain ⟨x, _, hx⟩ := List.mem_flatMap.1 hc
  exact h x c hx
theorem numsB_bytes (k : Nat) (xs : List Int) : bytesP (numsB k xs) := flat_bytes (numB_bytes k)
theorem listB_bytes (m k : Nat) (xs : List Int) : bytesP (listB m k xs) := bytesP_app (numsB_bytes _ _) (numsB_bytes _ _)
theorem nodeB_bytes (n : NodeD) : bytesP (nodeB n) := by
  unfold nodeB
  repeat' with_reducible apply bytesP_app
  all_goals first | exact numsB_bytes _ _ | exact listB_bytes _ _ _
theorem graphB_bytes (g : GraphD) : bytesP (graphB g) := by
  unfold graphB
  repeat' with_reducible apply bytesP_app
  all_goals first | exact numsB_bytes _ _ | exact listB_bytes _ _ _ | exact flat_bytes (fun _ => numsB_bytes _ _) | exact flat_bytes nodeB_bytes
/-! ### Reading. -/
structure Rd where
  rest : List Int
  short : Bool
/-- What is put as e x is read as x; what is read was put so. -/
structure Inv {α : Type} (one : Rd → α × Rd) (e : α → List Int) (ok : α → Prop) : Prop where
  forth : ∀ x rest, ok x → one ⟨e x ++ rest, false⟩ = (x, ⟨rest, false⟩)
  back : ∀ s x t, one s = (x, t) → bytesP s.rest → t.short = false → s.short = false ∧ ok x ∧ s.rest = e x ++ t.rest
theorem Inv.at {α : Type} {one : Rd → α × Rd} {e : α → List Int} {ok : α → Prop} (h : Inv one e ok) (s : Rd) (hb : bytesP s.rest) (ht : (one s).2.short = false) : s.short = false ∧ ok (one s).1 ∧ s.rest = e (one s).1 ++ (one s).2.rest :=
  h.back s (one s).1 (one s).2 (Prod.eta _).symm hb ht
/-- Enough: for each s the back half as it stands. -/
theorem Inv.of {α : Type} {one : Rd → α × Rd} {e : α → List Int} {ok : α → Prop} (h1 : ∀ x rest, ok x → one ⟨e x ++ rest, false⟩ = (x, ⟨rest, false⟩))
    (h2 : ∀ s, bytesP s.rest → (one s).2.short = false → s.short = false ∧ ok (one s).1 ∧ s.rest = e (one s).1 ++ (one s).2.rest) : Inv one e ok :=
  ⟨h1, fun s x t h hb ht => by have := h2 s hb (by rw [h]; exact ht); rw [h] at this; exact this⟩
end Go.Proofs.Ytejllmjkeefloaa
namespace Go.Proofs.Ytejllmjkeefloaa
open Go.ChangeShapes Go.WideShapes Go.ChangeAt Go.RowKit
set_option maxRecDepth 20000
set_option linter.unusedVariables false

theorem info32 : (Try.prog.info? 57).map (fun i => (i.zero, i.size, i.bytes)) = some (some (.agg #[.int .i64 0, .int .i64 0, .int .i64 0, .int .i64 0]), 4, 32) := by kernel_rfl
def valCells (x : ValD) : List Value := [.int .i64 x.h, .int .i64 x.w, .int .i64 x.c, .int .i64 x.z]
def valsCells (xs : List ValD) : List Value := xs.flatMap valCells
theorem valsCells_len (xs : List ValD) : (valsCells xs).length = xs.length * 4 := by
  induction xs with
  | nil => rfl
  | cons x xs ih => simp only [valsCells, List.flatMap_cons, List.length_append] at ih ⊢; rw [ih]; simp [valCells]; omega
theorem valsCells_snoc (xs : List ValD) (x : ValD) : valsCells (xs ++ [x]) = valsCells xs ++ valCells x := by simp [valsCells]
theorem valsCells_at (xs : List ValD) (i j : Nat) (hi : i < xs.length) (hj : j < 4) : (valsCells xs)[i * 4 + j]? = (valCells (xs.getD i default))[j]? := by
  induction xs generalizing i with
  | nil => simp at hi
  | cons x xs ih =>
    simp only [valsCells, List.flatMap_cons]
    cases i with
    | zero =>
      rw [Nat.zero_mul, Nat.zero_add, List.getElem?_append_left (by simp [valCells]; omega)]
      simp
    | succ i =>
      rw [List.getElem?_append_right (by simp [valCells]; omega)]
      have e : (i + 1) * 4 + j - (valCells x).length = i * 4 + j := by simp [valCells]; omega
      rw [e]
      simp only [List.length_cons] at hi
      have := ih i (by omega)
      simp only [valsCells] at this
      rw [this]
      simp
def OwnVals (w : World) (base : Nat) (v : Value) (xs : List ValD) : Prop := w.ownsRow base 57 4 v xs.length (valsCells xs)
theorem own_past' {w w' : World} {base e size n : Nat} {v : Value} {xs : List Value} (h : w.ownsRow base e size v n xs) (g : Past w w') : w'.ownsRow base e size v n xs := by
  refine ⟨h.1, ?_⟩
  rcases h.2 with hn | ⟨b, cap, cur, rfl, hb, hg, rest⟩
  · exact Or.inl hn
  · exact Or.inr ⟨b, cap, cur, rfl, hb, (g.2.2.2 b (Array.getElem?_eq_some_iff.1 hg).1).trans hg, rest⟩
theorem vals_of_own {w : World} {base : Nat} {v : Value} {xs : List ValD} (ho : OwnVals w base v xs) (wf : ∀ x ∈ xs, ValWf x) : IsVals w v xs := by
  obtain ⟨hl, h⟩ := ho
  rcases h with ⟨rfl, h0⟩ | ⟨b, cap, cur, rfl, hb, hg, hn, hm, hs, ht⟩
  · have : xs = [] := List.eq_nil_of_length_eq_zero h0
    subst this
    exact ⟨none, 0, rfl, Nat.le_refl _, Nat.zero_le _, fun _ => rfl, by simp, by simp⟩
  · refine ⟨some ⟨b, 0, none⟩, cap, rfl, hn, hm, (fun h => by cases h), wf, fun hp => ⟨b, 0, rfl, (Array.getElem?_eq_some_iff.1 hg).1, fun i hi => ?_⟩⟩
    have key : ∀ j, j < 4 → w.cell? ⟨b, 0 + i * 4 + j, none⟩ = (valCells (xs.getD i default))[j]? := fun j hj => by
      rw [← valsCells_at xs i j hi hj, ← ht, List.getElem?_take_of_lt (by omega)]
      simp [World.cell?, hg]
    exact ⟨key 0 (by omega), key 1 (by omega), key 2 (by omega), key 3 (by omega)⟩
theorem cells_new' (w : World) (l : List Value) (t : TypeId) (j : Nat) (u : Value) (h : l[j]? = some u) : (w.alloc (.cells ⟨l⟩ t)).cell? ((⟨w.heap.size, 0, none⟩ : Addr).add j) = some u := by
  rw [add_plain]
  have := heap_alloc_new w (.cells ⟨l⟩ t)
  unfold World.cell?
  simp only [this]
  simpa using h
theorem val_one (x : ValD) : ∀ u ∈ valCells x, u.oneCell' = true := by
  intro u hu
  simp only [valCells, List.mem_cons, List.not_mem_nil, or_false] at hu
  rcases hu with rfl | rfl | rfl | rfl <;> rfl
theorem vals_one' (xs : List ValD) : ∀ u ∈ valsCells xs, u.oneCell' = true := by
  intro u hu
  simp only [valsCells, List.mem_flatMap] at hu
  obtain ⟨x, _, h⟩ := hu
  exact val_one x u h
/-- The cells of values that lie in a row. -/
theorem news_of_vals {w : World} {b off : Nat} {xs : List ValD} (h : ∀ i, i < xs.length → ValAt w b (off + i * 4) (xs.getD i default)) : ∀ j u, (valsCells xs)[j]? = some u → w.cell? ((⟨b, off, none⟩ : Addr).add j) = some u := by
  intro j u hu
  have hj : j < xs.length * 4 := by
    rw [← valsCells_len]
    exact (List.getElem?_eq_some_iff.1 hu).1
  have e : j = j / 4 * 4 + j % 4 := by omega
  have h4 : j % 4 < 4 := Nat.mod_lt _ (by omega)
  have hi : j / 4 < xs.length := by omega
  rw [e, valsCells_at xs _ _ hi h4] at hu
  rw [add_plain]
  obtain ⟨c0, c1, c2, c3⟩ := h (j / 4) hi
  have e2 : off + j = off + j / 4 * 4 + j % 4 := by omega
  rw [e2]
  rcases (show j % 4 = 0 ∨ j % 4 = 1 ∨ j % 4 = 2 ∨ j % 4 = 3 by omega) with k | k | k | k <;> rw [k] at hu ⊢ <;> simp only [valCells, List.getElem?_cons_zero, List.getElem?_cons_succ, Option.some.injEq, Nat.add_zero] at hu ⊢ <;> subst hu
  · exact c0
  · exact c1
  · exact c2
  · exact c3
theorem own_slice' {w : World} {base e size n : Nat} {v : Value} {xs : List Value} (h : w.ownsRow base e size v n xs) : ∃ A c, v = .slice A n c ∧ n ≤ c ∧ c ≤ maxLen := by
  rcases h.2 with ⟨rfl, h0⟩ | ⟨g, cap, cur, rfl, _, _, h1, h2, _⟩
  · subst h0; exact ⟨_, _, rfl, Nat.le_refl _, Nat.zero_le _⟩
  · exact ⟨_, _, rfl, h1, h2⟩
/-- What named tells: the values of some numbers. -/
def namedP (l : List ValD) (ns : List Int) : Prop := ∀ j, j < ns.length → 0 ≤ ns.getD j 0 ∧ ns.getD j 0 < (l.length : Int)
def namedL (l : List ValD) (ns : List Int) : List ValD := ns.map fun i => l.getD i.toNat default
def NamedPost (l : List ValD) (ns : List Int) (W : World) (e : Ending) (w' : World) : Prop :=
  (namedP l ns ∧ ∃ v, e = .returned (.tuple #[v, .bool true]) ∧ IsVals w' v (namedL l ns) ∧ Past W w') ∨
  (¬ namedP l ns ∧ e = .returned (.tuple #[.slice none 0 0, .bool false]) ∧ Past W w')
theorem namedL_take (l : List ValD) (ns : List Int) (k : Nat) (h : k < ns.length) : namedL l (ns.take (k + 1)) = namedL l (ns.take k) ++ [l.getD (ns.getD k 0).toNat default] := by
  unfold namedL
  rw [List.take_succ_eq_append_getElem h, List.map_append]
  simp [List.getD, h]
set_option maxHeartbeats 2000000 in
theorem named_any (lv nv : Value) (l : List ValD) (ns : List Int) (W : World) (hl : IsVals W lv l) (hn : IsNums .i64 W nv ns) (hb : ns.length ≤ 1000) :
    Calls Try.prog 77 #[lv, nv] W (NamedPost l ns W) := by
  obtain ⟨A, ca, rfl, a1, a2, _, a4, a5⟩ := hl
  obtain ⟨B, cb, rfl, b1, b2, _, _, b5⟩ := hn
  have hm1 : l.length ≤ 9223372036854775807 := by unfold maxLen at a2; omega
  have hm2 : ns.length ≤ 9223372036854775807 := by omega
  obtain ⟨i0, hi0, hz0, hz1, hz2⟩ := info_parts info32
  have A4 := Lib.hid a4
  have A5 := Lib.hid a5
  have B5 := Lib.hid b5
  have I1 := Lib.hid hi0
  have I2 := Lib.hid hz0
  have I3 := Lib.hid hz1
  have I4 := Lib.hid hz2
  clear a1 a2 a4 a5 b1 b2 b5 hi0 hz0 hz1 hz2
  go_enter Try.func77, Try.ntmps77
  go_wp2_with fail
  go_loopw [6, 11] (fun v i wr => ∃ k : Nat, k ≤ ns.length ∧ i = .int .i64 k ∧ OwnVals wr W.heap.size v (namedL l (ns.take k)) ∧ Hid (∀ j, j < k → 0 ≤ ns.getD j 0 ∧ ns.getD j 0 < (l.length : Int)) ∧ Past W wr) (fun _ i _ => ns.length - (intOf i).toNat)
  case atStart => exact ⟨0, by omega, rfl, ⟨by simp [namedL, valsCells], .inl ⟨rfl, by simp [namedL]⟩⟩, Lib.hid (fun j h => by omega), Past.refl _⟩
  case round =>
    obtain ⟨k, hk, rfl, hown, hin, hp⟩ := hrel
    by_cases h : k < ns.length
    · obtain ⟨b, off, rfl, hbb, hc⟩ := B5.out (by omega)
      have c0 := (hp.cell (p := ⟨b, off + k, none⟩) hbb).trans (hc k h)
      obtain ⟨x, hx⟩ : ∃ x, ns.getD k 0 = x := ⟨_, rfl⟩
      rw [hx] at c0
      have HX := Lib.hid hx
      clear hx hc
      by_cases x0 : 0 ≤ x
      · by_cases x1 : x < (l.length : Int)
        · obtain ⟨m, rfl⟩ : ∃ m : Nat, x = m := ⟨x.toNat, by omega⟩
          have x2 : m < l.length := by omega
          obtain ⟨b', off', rfl, hbb', hc'⟩ := A5.out (by omega)
          obtain ⟨y0, y1, y2, y3⟩ := (hc' m x2).grow hbb' hp
          obtain ⟨y, hy⟩ : ∃ y, l.getD m default = y := ⟨_, rfl⟩
          rw [hy] at y0 y1 y2 y3
          have HY := Lib.hid hy
          have HO := Lib.hid hown
          have HP := Lib.hid hp
          clear hc' hy hown hp
          have i3 : (0 : Int) ≤ (m : Int) := by omega
          have d0 : decide ((m : Int) < 0) = false := by simp
          have lk : (namedL l (ns.take k)).length = k := by simp [namedL]; omega
          have LK := Lib.hid lk
          have hm3 : k + 1 ≤ maxLen := by unfold maxLen; omega
          have hlt := World.ownsRow.lt HO.out
          have HLT := Lib.hid hlt
          have HM3 := Lib.hid hm3
          clear lk hm3 hlt
          have hsz : W.heap.size ≤ wr.heap.size := HP.out.2.2.1
          go_wp2_with (at_builtin; refine wpList_append_own _ rfl (.tmp 23) (.tmp 28) 25 rfl W.heap.size 57 i0 _ 4 32 Try.underlying25 I1.out I2.out I3.out I4.out rfl (by decide) _ _ _ rfl (World.ownsRow.alloc HO.out _) ⟨wr.heap.size, 0, none⟩ 1 1 (valCells y) rfl rfl (fun j u hu => cells_new' wr _ 57 j u hu) (val_one y) ?c4 ?c5 ?c6 ?_)
          case c4 => rw [LK.out]; exact HM3.out
          case c5 => rw [LK.out]; omega
          case c6 => simp; omega
          intro v4 w4 hown4 hgrow _
          have hp4 : Past W w4 := (HP.out.alloc _).grownBy hgrow (fun j hj => (HLT.out j hj).1)
          have ho4 : OwnVals w4 W.heap.size v4 (namedL l (ns.take (k + 1))) := by
            unfold OwnVals
            rw [namedL_take l ns k h, valsCells_snoc, HX.out]
            simp only [Int.toNat_natCast, HY.out, List.length_append, List.length_cons, List.length_nil]
            exact hown4
          clear hown4 hgrow
          go_wp2_with fail
          go_roundw
          case rel => exact ⟨k + 1, by omega, by go_num, ho4, Lib.hid (fun j hj => by
            by_cases c : j = k
            · subst c; rw [HX.out]; exact ⟨x0, x1⟩
            · exact hin.out j (by omega)), hp4⟩
          case measure => simp [intOf]; omega
        · have d0 : decide (x < 0) = false := by simp; omega
          have d1 : decide ((l.length : Int) ≤ x) = true := by simp; omega
          go_wp2_with fail
          go_ret2
          exact .inr ⟨fun f => by have := (f k h).2; rw [HX.out] at this; omega, rfl, hp⟩
      · have d0 : decide (x < 0) = true := by simp; omega
        go_wp2_with fail
        go_ret2
        exact .inr ⟨fun f => by have := (f k h).1; rw [HX.out] at this; omega, rfl, hp⟩
    · have e : ns.take k = ns := List.take_of_length_le (by omega)
      rw [e] at hown
      have HO := Lib.hid hown
      have wf : ∀ x ∈ namedL l ns, ValWf x := fun x hx => by
        simp only [namedL, List.mem_map] at hx
        obtain ⟨i, hi, rfl⟩ := hx
        obtain ⟨j, hj, rfl⟩ := List.getElem_of_mem hi
        have := hin.out j (by omega)
        simp only [List.getD, hj, List.getElem?_eq_getElem, Option.getD_some] at this
        have hl : ns[j].toNat < l.length := by omega
        have : l.getD ns[j].toNat default = l[ns[j].toNat] := by simp [List.getD, hl]
        rw [this]
        exact A4.out _ (List.getElem_mem _)
      have WF := Lib.hid wf
      clear e hown wf
      go_wp2_with fail
      go_ret2
      exact .inl ⟨fun j hj => hin.out j (by omega), _, rfl, vals_of_own HO.out WF.out, hp⟩
end Go.Proofs.Ytejllmjkeefloaa
namespace Go.Proofs.Ytejllmjkeefloaa
open Go.ChangeShapes Go.WideShapes Go.ChangeAt Go.RowKit
set_option linter.unusedVariables false

theorem valueE_mk11 {n : NodeD} {vs : List ValD} (h : ¬ (hasOp n.op ∧ takesP (opD n.op) n vs)) : valueE n vs = 11 := by unfold valueE; rw [if_pos h]
theorem valueE_mk10 {n : NodeD} {vs : List ValD} (h : hasOp n.op ∧ takesP (opD n.op) n vs) (k : ¬ ∀ j, j < vs.length → mayV (vs.getD j default)) : valueE n vs = 10 := by unfold valueE; rw [if_neg (fun f => f h), if_pos k]
theorem valueE_mk10' {n : NodeD} {vs : List ValD} (h : hasOp n.op ∧ takesP (opD n.op) n vs) (m : ¬ mayT (madeS n vs)) : valueE n vs = 10 := by
  by_cases k : ∀ j, j < vs.length → mayV (vs.getD j default)
  · unfold valueE; rw [if_neg (fun f => f h), if_neg (fun f => f k), if_pos m]
  · exact valueE_mk10 h k
theorem valueV_mk {n : NodeD} {vs : List ValD} (h : valueE n vs = 0) : valueV n vs = ⟨(madeS n vs).1, (madeS n vs).2.1, (madeS n vs).2.2, n.zero⟩ := by unfold valueV; rw [if_pos h]
theorem below_one {p : Nat → Prop} (h : p 0) : ∀ j, j < 1 → p j := fun j hj => by
  obtain rfl : j = 0 := by omega
  exact h
theorem below_two {p : Nat → Prop} (h : p 0) (k : p 1) : ∀ j, j < 2 → p j := fun j hj => by
  match j, hj with
  | 0, _ => exact h
  | 1, _ => exact k
theorem alike_two {a b : ValD} (h : a.h = b.h ∧ a.w = b.w ∧ a.c = b.c) : alikeS [a, b] = (a.h, a.w, a.c) := by
  unfold alikeS
  rw [if_pos]
  · rfl
  · exact below_two (p := fun j => shD ([a, b].getD j default) = shD ([a, b].getD 0 default)) rfl (by simp [shD, h.1, h.2.1, h.2.2])
theorem alike_not {a b : ValD} (h : ¬ (a.h = b.h ∧ a.w = b.w ∧ a.c = b.c)) : alikeS [a, b] = (0, 0, 0) := by
  unfold alikeS
  rw [if_neg]
  intro k
  have := k 1 (by simp)
  simp only [shD, List.getD, List.getElem?_cons_succ, List.getElem?_cons_zero, Option.getD_some, Prod.mk.injEq] at this
  exact h ⟨this.1.symm, this.2.1.symm, this.2.2.symm⟩
end Go.Proofs.Ytejllmjkeefloaa
namespace Go.Proofs.Ytejllmjkeefloaa
open Go

section
variable {P : Program} {ops : Array Oper} {Q : Exit → Act → World → Prop}

theorem range_box {w : World} {b o : Nat} {cells : Array Value} (h : ∀ k : Nat, w.cell? ⟨b, k, none⟩ = cells[k]?) (l : List Value) (hl : ∀ j v, l[j]? = some v → cells[o + j]? = some v) : w.rangeAt b o l := fun j v hv => by rw [h (o + j)]; exact hl j v hv
theorem wpList_load_box {rest : List Oper} {op : Oper} {a : Act} {w : World} (hgd : op.guard = none) (ty : TypeId) (x : Operand) (ho : op.op = .load ty x) (b : Nat) (cells : Array Value) {d : TypeDesc} (hx : a.eval x = .pointer (some ⟨b, 0, none⟩)) (hb : ∀ k : Nat, w.cell? ⟨b, k, none⟩ = cells[k]?)
    (hu : P.underlying ty = some d) (hd : d.isRow = true) (hi : (P.info? ty).map (·.size) = some cells.size) (h : wpList P ops Q rest (a.put op.dst (.agg cells)) w) : wpList P ops Q (op :: rest) a w :=
  wpList_load_mid hgd ty x ho b 0 hx cells.toList d (range_box hb _ (fun j v hv => by rw [Nat.zero_add]; simpa using hv)) hu hd (by simpa using hi) h
theorem wp_load_box {op : Oper} {a : Act} {w : World} {K : Act → World → Prop} (ty : TypeId) (x : Operand) (ho : op.op = .load ty x) (b : Nat) (cells : Array Value) {d : TypeDesc} (hx : a.eval x = .pointer (some ⟨b, 0, none⟩)) (hb : ∀ k : Nat, w.cell? ⟨b, k, none⟩ = cells[k]?)
    (hu : P.underlying ty = some d) (hd : d.isRow = true) (hi : (P.info? ty).map (·.size) = some cells.size) (h : K (a.put op.dst (.agg cells)) w) : op.wp P a w K Q :=
  wp_load_mid ty x ho b 0 hx cells.toList d (range_box hb _ (fun j v hv => by rw [Nat.zero_add]; simpa using hv)) hu hd (by simpa using hi) h
end
end Go.Proofs.Ytejllmjkeefloaa
