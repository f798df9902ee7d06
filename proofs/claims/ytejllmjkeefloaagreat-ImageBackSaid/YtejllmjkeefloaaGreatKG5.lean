/- graph: alike. Layer 8 in numbers: which commands may be, their bytes, and how bytes are taken. A region whose order is open, with one call that makes memory: what it gives is a letter, and those that hang on it come behind it. As wp_region_mix, with all that is known of the world ahead of the region. A struct or an array of many cells that is loaded, whole, from the beginning of a box: told at once (the walk's own simp takes twice as long for each cell more). -/
import Derived.Test.YtejllmjkeefloaaGreatKSh1A
import Derived.Test.YtejllmjkeefloaaGreatKWorld
import Derived.Test.YtejllmjkeefloaaGreatKFix
import Derived.Test.YtejllmjkeefloaaGreatKFixM
import Derived.Deep.MidRow
namespace Go.Proofs.YtejllmjkeefloaaGreat
open Go.ChangeShapes Go.WideShapes Go.ChangeAt Go.RowKit
set_option maxRecDepth 20000
set_option linter.unusedVariables false

def shD (x : ValD) : Int × Int × Int := (x.h, x.w, x.c)
open Classical in
noncomputable def alikeS (xs : List ValD) : Int × Int × Int := if ∀ j, j < xs.length → shD (xs.getD j default) = shD (xs.getD 0 default) then shD (xs.getD 0 default) else (0, 0, 0)
set_option maxHeartbeats 2000000 in
theorem alike_any (n : NodeD) (vi vw vb : Value) (xs : List ValD) (b off cap : Nat) (W : World) (t : Int × Int × Int)
    (h0 : 0 < xs.length) (h1 : xs.length ≤ cap) (hm : cap ≤ maxLen) (hbb : b < W.heap.size) (hx : ∀ i, i < xs.length → ValAt W b (off + i * 4) (xs.getD i default)) (ht : Hid (t = alikeS xs)) :
    Calls Tryz.prog 129 #[.agg #[.int .i64 n.op, vi, .int .i64 n.k, .int .i64 n.stride, .int .i64 n.pad, .int .i64 n.out, .int .i64 n.mul, .int .i64 n.shift, .int .i64 n.zero, .int .i64 n.th, .int .i64 n.tw, .int .i64 n.tc, vw, vb], .slice (some ⟨b, off, none⟩) xs.length cap] W fun e w' => e = .returned (.agg #[.int .i64 t.1, .int .i64 t.2.1, .int .i64 t.2.2]) ∧ Grown W w' := by
  have hl1 : xs.length ≤ 9223372036854775807 := by unfold maxLen at hm; omega
  have HX := Lib.hid hx
  clear hx hm
  have x0 := HX.out 0 h0
  obtain ⟨x, hx0⟩ : ∃ x, xs.getD 0 default = x := ⟨_, rfl⟩
  rw [hx0, show off + 0 * 4 = off by omega] at x0
  have HX0 := Lib.hid hx0
  clear hx0
  obtain ⟨xh, xw, xc, xz⟩ := x
  obtain ⟨x1, x2, x3, x4⟩ := x0
  simp only at x1 x2 x3 x4
  go_enter Tryz.func129, Tryz.ntmps129
  go_wp2_with fail
  refine opq (fun w' => w'.cell? ⟨b, off, none⟩ = some (.int .i64 xh) ∧ w'.cell? ⟨b, off + 1, none⟩ = some (.int .i64 xw) ∧ w'.cell? ⟨b, off + 2, none⟩ = some (.int .i64 xc) ∧ (∀ o : Nat, w'.cell? ⟨W.heap.size + 1, o, none⟩ = (#[.int .i64 0, .int .i64 0, .int .i64 0] : Array Value)[o]?) ∧ (∀ o : Nat, w'.frozen? ⟨W.heap.size + 1, o, none⟩ = false) ∧ Grown W w' ∧ W.heap.size + 2 ≤ w'.heap.size) kLaid ?_
  rintro W1 ⟨y1, y2, y3, b1, f1, g1, z1⟩
  clear x1 x2 x3 x4
  go_loopw [9] (fun i wr => ∃ k : Nat, k ≤ xs.length ∧ i = .int .i64 k ∧ Hid (∀ j, j < k → shD (xs.getD j default) = (xh, xw, xc)) ∧ wr.cell? ⟨b, off, none⟩ = some (.int .i64 xh) ∧ wr.cell? ⟨b, off + 1, none⟩ = some (.int .i64 xw) ∧ wr.cell? ⟨b, off + 2, none⟩ = some (.int .i64 xc) ∧ (∀ o : Nat, wr.cell? ⟨W.heap.size + 1, o, none⟩ = (#[.int .i64 0, .int .i64 0, .int .i64 0] : Array Value)[o]?) ∧ (∀ o : Nat, wr.frozen? ⟨W.heap.size + 1, o, none⟩ = false) ∧ Grown W wr ∧ W.heap.size + 2 ≤ wr.heap.size) (fun i _ => xs.length - (intOf i).toNat)
  case atStart => exact ⟨0, by omega, rfl, Lib.hid (fun j h => by omega), y1, y2, y3, b1, f1, g1, z1⟩
  case round =>
    clear y1 y2 y3 b1 f1 g1 z1
    obtain ⟨k, hk, rfl, hs, y1, y2, y3, b1, f1, g1, z1⟩ := hrel
    by_cases l : k < xs.length
    · obtain ⟨c1, c2, c3, c4⟩ := (HX.out k l).grow hbb (Grown.past g1)
      obtain ⟨y, hy⟩ : ∃ y, xs.getD k default = y := ⟨_, rfl⟩
      rw [hy] at c1 c2 c3 c4
      obtain ⟨yh, yw, yc, yz⟩ := y
      simp only at c1 c2 c3 c4
      have HY := Lib.hid hy
      clear hy
      have i1 : (0 : Int) ≤ (k : Int) := by omega
      have n1 : b ≠ wr.heap.size := by omega
      have n2 : b < wr.heap.size := by omega
      have n3 : W.heap.size + 1 ≠ wr.heap.size := by omega
      have n4 : W.heap.size + 1 < wr.heap.size := by omega
      have i2 : (k : Int) < (xs.length : Int) := by omega
      by_cases q : yh = xh ∧ yw = xw ∧ yc = xc
      · obtain ⟨rfl, rfl, rfl⟩ := q
        have E : Hid (∀ j, j < k + 1 → shD (xs.getD j default) = (yh, yw, yc)) := Lib.hid (fun j h => by
          by_cases c : j = k
          · subst c; rw [HY.out]; rfl
          · exact hs.out j (by omega))
        go_wp2_with fail
        go_quiet (fail)
        go_wp2_with fail
        go_roundw
        case rel => exact ⟨k + 1, by omega, by go_num, E, by (exact kKeep)⟩
        case measure => simp [intOf]; omega
      · have T : t = (0, 0, 0) := by
          rw [ht.out]; unfold alikeS
          rw [if_neg]
          intro h
          have := h k l
          rw [HY.out, HX0.out] at this
          simp only [shD, Prod.mk.injEq] at this
          exact q this
        subst T
        by_cases q1 : yh = xh
        · subst q1
          by_cases q2 : yw = xw
          · subst q2
            have q3 : ¬ yc = xc := fun h => q ⟨rfl, rfl, h⟩
            clear q
            go_wp2_with fail
            go_quiet (fail)
            go_wp2_with fail
            exact bodyPost_ret (v := .agg #[.int .i64 0, .int .i64 0, .int .i64 0]) (by simp [results, Tryz.results129, go_sem, *]) rfl ⟨rfl, by (exact kKeep)⟩
          · clear q
            go_wp2_with fail
            go_quiet (fail)
            go_wp2_with fail
            exact bodyPost_ret (v := .agg #[.int .i64 0, .int .i64 0, .int .i64 0]) (by simp [results, Tryz.results129, go_sem, *]) rfl ⟨rfl, by (exact kKeep)⟩
        · clear q
          go_wp2_with fail
          go_quiet (fail)
          go_wp2_with fail
          exact bodyPost_ret (v := .agg #[.int .i64 0, .int .i64 0, .int .i64 0]) (by simp [results, Tryz.results129, go_sem, *]) rfl ⟨rfl, by (exact kKeep)⟩
    · have T : t = (xh, xw, xc) := by
        rw [ht.out]; unfold alikeS
        rw [if_pos]
        · rw [HX0.out]; rfl
        · intro j hj
          rw [hs.out j (by omega), HX0.out]; rfl
      subst T
      go_wp2_with fail
      exact bodyPost_ret (v := .agg #[.int .i64 xh, .int .i64 xw, .int .i64 xc]) (by simp [results, Tryz.results129, go_sem, *]) rfl ⟨rfl, by (exact kKeep)⟩
end Go.Proofs.YtejllmjkeefloaaGreat
namespace Go.Proofs.YtejllmjkeefloaaGreat.Q8
open Go.ChangeShapes Go.WideShapes Go.ChangeAt Go.RowKit
set_option maxRecDepth 20000
set_option linter.unusedVariables false
set_option linter.unusedSimpArgs false

/-- k bytes of x, the highest first. -/
def numB : Nat → Int → List Int
  | 0, _ => []
  | k + 1, x => x / 256 ^ k % 256 :: numB k x
def foldB (l : List Int) : Int := l.foldl (fun x c => 256 * x + c) 0
/-- Bytes: numbers of 0 to 255. -/
def bytesP (l : List Int) : Prop := ∀ c ∈ l, 0 ≤ c ∧ c < 256
theorem bytesP_app {a b : List Int} (ha : bytesP a) (hb : bytesP b) : bytesP (a ++ b) := fun c hc => by
  rcases List.mem_append.1 hc with h | h
  · exact ha c h
  · exact hb c h
theorem numB_len (k : Nat) (x : Int) : (numB k x).length = k := by
  induction k with
  | zero => rfl
  | succ k ih => simp [numB, ih]
theorem numB_bytes (k : Nat) (x : Int) : bytesP (numB k x) := by
  induction k with
  | zero => intro c hc; simp [numB] at hc
  | succ k ih =>
    intro c hc
    simp only [numB, List.mem_cons] at hc
    rcases hc with rfl | hc
    · omega
    · exact ih c hc
theorem flat_bytes {α : Type} {f : α → List Int} {l : List α} (h : ∀ x, bytesP (f x)) : bytesP (l.flatMap f) := by
  intro c hc
  obtain ⟨x, _, hx⟩ := List.mem_flatMap.1 hc
  exact h x c hx
theorem fold_num (k : Nat) (x a : Int) : (numB k x).foldl (fun x c => 256 * x + c) a = a * 256 ^ k + x % 256 ^ k := by
  induction k generalizing a with
  | zero => simp [numB]
  | succ k ih =>
    simp only [numB, List.foldl_cons]
    rw [ih]
    have hp : (0 : Int) < 256 ^ k := Int.pow_pos (by omega)
    have e1 : x % 256 ^ (k + 1) = 256 ^ k * (x / 256 ^ k % 256) + x % 256 ^ k := by
      rw [Int.pow_succ]
      have h1 := Int.emod_add_mul_ediv x (256 ^ k)
      have h2 := Int.emod_add_mul_ediv (x / 256 ^ k) 256
      have h3 : x = 256 ^ k * 256 * (x / 256 ^ k / 256) + (256 ^ k * (x / 256 ^ k % 256) + x % 256 ^ k) := by
        conv => lhs; rw [← h1, ← h2]
        rw [Int.mul_add, Int.mul_assoc]
        try omega
      have b1 := Int.emod_nonneg x (Int.ne_of_gt hp)
      have b2 := Int.emod_lt_of_pos x hp
      have b3 : 0 ≤ x / 256 ^ k % 256 := by omega
      have b4 : x / 256 ^ k % 256 ≤ 255 := by omega
      have b5 : 0 ≤ 256 ^ k * (x / 256 ^ k % 256) := Int.mul_nonneg (Int.le_of_lt hp) b3
      have b6 : 256 ^ k * (x / 256 ^ k % 256) ≤ 256 ^ k * 255 := Int.mul_le_mul_of_nonneg_left b4 (Int.le_of_lt hp)
      have b7 : (0 : Int) ≤ 256 ^ k * (x / 256 ^ k % 256) + x % 256 ^ k := by omega
      have b8 : 256 ^ k * (x / 256 ^ k % 256) + x % 256 ^ k < 256 ^ k * 256 := by omega
      conv => lhs; rw [h3]
      rw [Int.add_comm, Int.add_mul_emod_self_left]
      exact Int.emod_eq_of_lt b7 b8
    rw [e1, Int.pow_succ, Int.add_mul, Int.mul_comm 256 a, Int.mul_assoc, Int.mul_comm 256 (256 ^ k), Int.mul_comm (x / 256 ^ k % 256) (256 ^ k)]
    omega
theorem num_fold (l : List Int) (a : Int) (hl : bytesP l) : numB l.length (l.foldl (fun x c => 256 * x + c) a) = l ∧ l.foldl (fun x c => 256 * x + c) a / 256 ^ l.length = a ∧ 0 ≤ l.foldl (fun x c => 256 * x + c) a - a * 256 ^ l.length ∧ l.foldl (fun x c => 256 * x + c) a - a * 256 ^ l.length < 256 ^ l.length := by
  induction l generalizing a with
  | nil => simp [numB]
  | cons c l ih =>
    obtain ⟨c0, c1⟩ := hl c (List.mem_cons_self ..)
    obtain ⟨i1, i2, i3, i4⟩ := ih (256 * a + c) (fun d hd => hl d (List.mem_cons_of_mem _ hd))
    simp only [List.foldl_cons, List.length_cons, numB]
    have hp : (0 : Int) < 256 ^ l.length := Int.pow_pos (by omega)
    refine ⟨?_, ?_, ?_, ?_⟩
    · rw [i1, i2]
      congr 1
      omega
    · rw [Int.pow_succ, ← Int.ediv_ediv_of_nonneg (Int.le_of_lt hp), i2]; omega
    · rw [Int.pow_succ]
      rw [Int.add_mul] at i3
      have e : a * (256 ^ l.length * 256) = 256 * a * 256 ^ l.length := by rw [Int.mul_comm (256 ^ l.length) 256, ← Int.mul_assoc, Int.mul_comm a 256]
      have : 0 ≤ c * 256 ^ l.length := Int.mul_nonneg c0 (Int.le_of_lt hp)
      rw [e]; omega
    · rw [Int.pow_succ]
      rw [Int.add_mul] at i4
      have e : a * (256 ^ l.length * 256) = 256 * a * 256 ^ l.length := by rw [Int.mul_comm (256 ^ l.length) 256, ← Int.mul_assoc, Int.mul_comm a 256]
      have : c * 256 ^ l.length ≤ 255 * 256 ^ l.length := Int.mul_le_mul_of_nonneg_right (by omega) (Int.le_of_lt hp)
      rw [e]; omega
theorem fold_numB (k : Nat) (x : Int) : foldB (numB k x) = x % 256 ^ k := by unfold foldB; rw [fold_num]; simp
theorem numB_fold {l : List Int} (hl : bytesP l) : numB l.length (foldB l) = l := (num_fold l 0 hl).1
theorem foldB_bd {l : List Int} (hl : bytesP l) : 0 ≤ foldB l ∧ foldB l < 256 ^ l.length := by
  have := num_fold l 0 hl
  unfold foldB
  omega
theorem foldB_take (l : List Int) (k : Nat) (h : k < l.length) : foldB (l.take (k + 1)) = 256 * foldB (l.take k) + l.getD k 0 := by
  unfold foldB
  rw [List.take_succ_eq_append_getElem h, List.foldl_append]
  simp [List.getD, h]
/-! ### Commands: rows of fourteen numbers. -/
/-- A field: its place, its bounds, how many bytes it has. -/
structure Fld where
  pos : Nat
  lo : Int
  hi : Int
  wide : Nat
def fldsD (k : Int) : List Fld :=
  if k = 1 ∨ k = 2 then [⟨4, 1, 16, 1⟩, ⟨5, 1, 128, 2⟩, ⟨6, 0, 65535, 3⟩, ⟨7, 0, 1023, 2⟩]
  else if k = 3 then [⟨2, 0, 11, 1⟩, ⟨3, 0, 15, 1⟩, ⟨4, 1, 16, 1⟩, ⟨7, 0, 1023, 2⟩, ⟨8, 0, 1023, 2⟩, ⟨10, 0, 15, 1⟩, ⟨12, 0, 16, 1⟩, ⟨9, 0, 1023, 2⟩, ⟨11, 0, 15, 1⟩, ⟨13, 0, 16, 1⟩]
  else if k = 4 then [⟨2, 0, 11, 1⟩, ⟨4, 1, 16, 1⟩]
  else if k = 5 ∨ k = 6 then [⟨1, 0, 7, 1⟩]
  else []
/-- A kind there is. -/
def kindP (k : Int) : Prop := 1 ≤ k ∧ k ≤ 7
instance (k : Int) : Decidable (kindP k) := by unfold kindP; infer_instance
def inF (f : Fld) (c : List Int) : Prop := f.lo ≤ c.getD f.pos 0 ∧ c.getD f.pos 0 ≤ f.hi
instance (f : Fld) (c : List Int) : Decidable (inF f c) := by unfold inF; infer_instance
def bareP (c : List Int) : Prop := c.tail = List.replicate 13 0
instance (c : List Int) : Decidable (bareP c) := by unfold bareP; infer_instance
/-- May: field by field; what is told is taken away; nothing must be left. -/
def mayGo : List Fld → List Int → Prop
  | [], c => bareP c
  | f :: fs, c => inF f c ∧ mayGo fs (c.set f.pos 0)
def decGo : (fs : List Fld) → (c : List Int) → Decidable (mayGo fs c)
  | [], c => inferInstanceAs (Decidable (bareP c))
  | f :: fs, c => by
    unfold mayGo
    have := decGo fs (c.set f.pos 0)
    infer_instance
instance (fs : List Fld) (c : List Int) : Decidable (mayGo fs c) := decGo fs c
def mayD (c : List Int) : Prop := kindP (c.getD 0 0) ∧ mayGo (fldsD (c.getD 0 0)) c
instance (c : List Int) : Decidable (mayD c) := by unfold mayD; infer_instance
/-- May's answer. -/
def mayE (c : List Int) : Int := if mayD c then 0 else 1
def fieldB (c : List Int) (f : Fld) : List Int := numB f.wide (c.getD f.pos 0)
def cmdB (c : List Int) : List Int := numB 1 (c.getD 0 0) ++ (fldsD (c.getD 0 0)).flatMap (fieldB c)
def putB (l : List (List Int)) : List Int := numB 2 l.length ++ l.flatMap cmdB
/-- The bytes of a command of a kind, less one. -/
def restW (k : Int) : Nat := ((fldsD k).map (·.wide)).sum
def zeros : List Int := List.replicate 14 0
def readF : List Fld → List Int → List Int → List Int
  | [], c, _ => c
  | f :: fs, c, t => readF fs (c.set f.pos (foldB (t.take f.wide))) (t.drop f.wide)
/-- A command off the front. -/
def cmdT (k : Int) (t : List Int) : List Int := readF (fldsD k) (zeros.set 0 k) t
def oneT : List Int → Option (List Int × List Int)
  | [] => none
  | k :: t => if kindP k ∧ restW k ≤ t.length ∧ mayD (cmdT k t) then some (cmdT k t, t.drop (restW k)) else none
def takeGo : Nat → List (List Int) → List Int → Option (List (List Int) × List Int)
  | 0, acc, t => some (acc, t)
  | n + 1, acc, t => match oneT t with
    | none => none
    | some (c, u) => takeGo n (acc ++ [c]) u
def takeD (b : List Int) : Option (List (List Int) × List Int) :=
  if b.length < 2 ∨ 4096 < foldB (b.take 2) then none else takeGo (foldB (b.take 2)).toNat [] (b.drop 2)
/-- A command that may be. -/
def okC (c : List Int) : Prop := c.length = 14 ∧ mayD c
theorem fourteen {c : List Int} (h : c.length = 14) : ∃ k s n f r w d p i0 i1 b0 b1 h0 h1, c = [k, s, n, f, r, w, d, p, i0, i1, b0, b1, h0, h1] := by
  match c, h with
  | [k, s, n, f, r, w, d, p, i0, i1, b0, b1, h0, h1], _ => exact ⟨_, _, _, _, _, _, _, _, _, _, _, _, _, _, rfl⟩
/-- What may be, kind by kind. -/
theorem may_load {k s n f r w d p i0 i1 b0 b1 h0 h1 : Int} (hk : k = 1 ∨ k = 2) : mayD [k, s, n, f, r, w, d, p, i0, i1, b0, b1, h0, h1] ↔ (1 ≤ r ∧ r ≤ 16) ∧ (1 ≤ w ∧ w ≤ 128) ∧ (0 ≤ d ∧ d ≤ 65535) ∧ (0 ≤ p ∧ p ≤ 1023) ∧ s = 0 ∧ n = 0 ∧ f = 0 ∧ i0 = 0 ∧ i1 = 0 ∧ b0 = 0 ∧ b1 = 0 ∧ h0 = 0 ∧ h1 = 0 := by
  have e : kindP k := by unfold kindP; omega
  simp [mayD, fldsD, mayGo, inF, bareP, hk, e, List.replicate]
theorem may_tile {k s n f r w d p i0 i1 b0 b1 h0 h1 : Int} (hk : k = 3) : mayD [k, s, n, f, r, w, d, p, i0, i1, b0, b1, h0, h1] ↔ (0 ≤ n ∧ n ≤ 11) ∧ (0 ≤ f ∧ f ≤ 15) ∧ (1 ≤ r ∧ r ≤ 16) ∧ (0 ≤ p ∧ p ≤ 1023) ∧ (0 ≤ i0 ∧ i0 ≤ 1023) ∧ (0 ≤ b0 ∧ b0 ≤ 15) ∧ (0 ≤ h0 ∧ h0 ≤ 16) ∧ (0 ≤ i1 ∧ i1 ≤ 1023) ∧ (0 ≤ b1 ∧ b1 ≤ 15) ∧ (0 ≤ h1 ∧ h1 ≤ 16) ∧ s = 0 ∧ w = 0 ∧ d = 0 := by
  have e : kindP k := by unfold kindP; omega
  subst hk
  simp [mayD, fldsD, mayGo, inF, bareP, e, List.replicate]
theorem may_kernel {k s n f r w d p i0 i1 b0 b1 h0 h1 : Int} (hk : k = 4) : mayD [k, s, n, f, r, w, d, p, i0, i1, b0, b1, h0, h1] ↔ (0 ≤ n ∧ n ≤ 11) ∧ (1 ≤ r ∧ r ≤ 16) ∧ s = 0 ∧ f = 0 ∧ w = 0 ∧ d = 0 ∧ p = 0 ∧ i0 = 0 ∧ i1 = 0 ∧ b0 = 0 ∧ b1 = 0 ∧ h0 = 0 ∧ h1 = 0 := by
  have e : kindP k := by unfold kindP; omega
  subst hk
  simp [mayD, fldsD, mayGo, inF, bareP, e, List.replicate]
theorem may_sem {k s n f r w d p i0 i1 b0 b1 h0 h1 : Int} (hk : k = 5 ∨ k = 6) : mayD [k, s, n, f, r, w, d, p, i0, i1, b0, b1, h0, h1] ↔ (0 ≤ s ∧ s ≤ 7) ∧ n = 0 ∧ f = 0 ∧ r = 0 ∧ w = 0 ∧ d = 0 ∧ p = 0 ∧ i0 = 0 ∧ i1 = 0 ∧ b0 = 0 ∧ b1 = 0 ∧ h0 = 0 ∧ h1 = 0 := by
  have e : kindP k := by unfold kindP; omega
  rcases hk with rfl | rfl <;> simp [mayD, fldsD, mayGo, inF, bareP, e, List.replicate]
theorem may_halt {k s n f r w d p i0 i1 b0 b1 h0 h1 : Int} (hk : k = 7) : mayD [k, s, n, f, r, w, d, p, i0, i1, b0, b1, h0, h1] ↔ s = 0 ∧ n = 0 ∧ f = 0 ∧ r = 0 ∧ w = 0 ∧ d = 0 ∧ p = 0 ∧ i0 = 0 ∧ i1 = 0 ∧ b0 = 0 ∧ b1 = 0 ∧ h0 = 0 ∧ h1 = 0 := by
  have e : kindP k := by unfold kindP; omega
  subst hk
  simp [mayD, fldsD, mayGo, inF, bareP, e, List.replicate]
theorem kind_cases {k : Int} (h : kindP k) : (k = 1 ∨ k = 2) ∨ k = 3 ∨ k = 4 ∨ (k = 5 ∨ k = 6) ∨ k = 7 := by unfold kindP at h; omega
theorem take_numB (k : Nat) (x : Int) (r : List Int) : (numB k x ++ r).take k = numB k x := by
  rw [List.take_append_of_le_length (by rw [numB_len]; exact Nat.le_refl _), List.take_of_length_le (by rw [numB_len]; exact Nat.le_refl _)]
theorem drop_numB (k : Nat) (x : Int) (r : List Int) : (numB k x ++ r).drop k = r := by
  rw [List.drop_append_of_le_length (by rw [numB_len]; exact Nat.le_refl _), List.drop_of_length_le (by rw [numB_len]; exact Nat.le_refl _), List.nil_append]
theorem restW_of {k : Int} (c : List Int) : ((fldsD k).flatMap (fieldB c)).length = restW k := by
  unfold restW
  induction fldsD k with
  | nil => rfl
  | cons f fs ih => simp only [List.flatMap_cons, List.length_append, ih, List.map_cons, List.sum_cons, fieldB, numB_len]
theorem cmdB_len (c : List Int) : (cmdB c).length = 1 + restW (c.getD 0 0) := by unfold cmdB; rw [List.length_append, numB_len, restW_of]
theorem cmdB_bytes (c : List Int) : bytesP (cmdB c) := bytesP_app (numB_bytes _ _) (flat_bytes fun f => numB_bytes _ _)
theorem putB_bytes (l : List (List Int)) : bytesP (putB l) := bytesP_app (numB_bytes _ _) (flat_bytes cmdB_bytes)
theorem numB_one {x : Int} (h : 0 ≤ x ∧ x < 256) : numB 1 x = [x] := by
  simp only [numB]
  simp
  omega
set_option maxHeartbeats 2000000 in
theorem oneT_forth {c : List Int} (h : okC c) (rest : List Int) : oneT (cmdB c ++ rest) = some (c, rest) := by
  obtain ⟨hl, hm⟩ := h
  have hl14 := hl
  obtain ⟨k, s, n, f, r, w, d, p, i0, i1, b0, b1, h0, h1, rfl⟩ := fourteen hl
  have hk : kindP k := by simpa using hm.1
  have e1 : numB 1 k = [k] := numB_one (by unfold kindP at hk; omega)
  have key : cmdT k ((fldsD k).flatMap (fieldB [k, s, n, f, r, w, d, p, i0, i1, b0, b1, h0, h1]) ++ rest) = [k, s, n, f, r, w, d, p, i0, i1, b0, b1, h0, h1] := by
    unfold cmdT
    rcases kind_cases hk with q | q | q | q | q
    · have m := (may_load q).1 hm
      obtain ⟨⟨_, _⟩, ⟨_, _⟩, ⟨_, _⟩, ⟨_, _⟩, rfl, rfl, rfl, rfl, rfl, rfl, rfl, rfl, rfl⟩ := m
      simp only [fldsD, q, if_true, List.flatMap_cons, List.flatMap_nil, List.append_nil, List.append_assoc, readF, fieldB, take_numB, drop_numB, fold_numB]
      simp [zeros, List.replicate]
      omega
    · have m := (may_tile q).1 hm
      obtain ⟨⟨_, _⟩, ⟨_, _⟩, ⟨_, _⟩, ⟨_, _⟩, ⟨_, _⟩, ⟨_, _⟩, ⟨_, _⟩, ⟨_, _⟩, ⟨_, _⟩, ⟨_, _⟩, rfl, rfl, rfl⟩ := m
      subst q
      simp only [fldsD, if_true, List.flatMap_cons, List.flatMap_nil, List.append_nil, List.append_assoc, readF, fieldB, take_numB, drop_numB, fold_numB, show ¬ ((3 : Int) = 1 ∨ (3 : Int) = 2) by decide, if_false]
      simp [zeros, List.replicate]
      omega
    · have m := (may_kernel q).1 hm
      obtain ⟨⟨_, _⟩, ⟨_, _⟩, rfl, rfl, rfl, rfl, rfl, rfl, rfl, rfl, rfl, rfl, rfl⟩ := m
      subst q
      simp only [fldsD, if_true, List.flatMap_cons, List.flatMap_nil, List.append_nil, List.append_assoc, readF, fieldB, take_numB, drop_numB, fold_numB, show ¬ ((4 : Int) = 1 ∨ (4 : Int) = 2) by decide, show ¬ ((4 : Int) = 3) by decide, if_false]
      simp [zeros, List.replicate]
      omega
    · have m := (may_sem q).1 hm
      obtain ⟨⟨_, _⟩, rfl, rfl, rfl, rfl, rfl, rfl, rfl, rfl, rfl, rfl, rfl, rfl⟩ := m
      have n1 : ¬ (k = 1 ∨ k = 2) := by omega
      have n2 : ¬ (k = 3) := by omega
      have n3 : ¬ (k = 4) := by omega
      simp only [fldsD, if_pos q, if_neg n1, if_neg n2, if_neg n3, List.flatMap_cons, List.flatMap_nil, List.append_nil, List.append_assoc, readF, fieldB, take_numB, drop_numB, fold_numB]
      simp [zeros, List.replicate]
      omega
    · have m := (may_halt q).1 hm
      obtain ⟨rfl, rfl, rfl, rfl, rfl, rfl, rfl, rfl, rfl, rfl, rfl, rfl, rfl⟩ := m
      subst q
      simp [fldsD, readF, zeros, List.replicate]
  unfold cmdB
  simp only [List.getD_cons_zero]
  rw [e1]
  have hw := restW_of (k := k) [k, s, n, f, r, w, d, p, i0, i1, b0, b1, h0, h1]
  show oneT (k :: ((fldsD k).flatMap (fieldB [k, s, n, f, r, w, d, p, i0, i1, b0, b1, h0, h1]) ++ rest)) = _
  simp only [oneT]
  rw [key, if_pos ⟨hk, by rw [List.length_append, hw]; omega, hm⟩, List.drop_append_of_le_length (by omega), List.drop_of_length_le (by omega), List.nil_append]
theorem readF_len (fs : List Fld) (c t : List Int) : (readF fs c t).length = c.length := by
  induction fs generalizing c t with
  | nil => rfl
  | cons f fs ih => unfold readF; rw [ih]; simp
theorem cmdT_len (k : Int) (t : List Int) : (cmdT k t).length = 14 := by unfold cmdT; rw [readF_len]; simp [zeros]
theorem take_cut {t : List Int} (w : Nat) (hb : bytesP t) (h : w ≤ t.length) : numB w (foldB (t.take w)) = t.take w := by
  have := numB_fold (l := t.take w) (fun c hc => hb c (List.mem_of_mem_take hc))
  rwa [List.length_take, Nat.min_eq_left h] at this
/-- Reading goes back: the numbers that were read are laid down as the bytes. -/
theorem read_lay (fs : List Fld) (c0 t : List Int) (c : List Int) (hb : bytesP t) (hl : (fs.map (·.wide)).sum ≤ t.length) (hc : c = readF fs c0 t) (hp : ∀ f ∈ fs, f.pos < c0.length) (hd : (fs.map (·.pos)).Nodup) :
    fs.flatMap (fieldB c) ++ t.drop (fs.map (·.wide)).sum = t ∧ ∀ j, (∀ f ∈ fs, f.pos ≠ j) → c.getD j 0 = c0.getD j 0 := by
  induction fs generalizing c0 t with
  | nil => subst hc; simp [readF]
  | cons f fs ih =>
    simp only [List.map_cons, List.sum_cons] at hl ⊢
    simp only [List.map_cons, List.nodup_cons, List.mem_map, not_exists, not_and] at hd
    unfold readF at hc
    obtain ⟨h1, h2⟩ := ih (c0.set f.pos (foldB (t.take f.wide))) (t.drop f.wide) (fun x hx => hb x (List.mem_of_mem_drop hx)) (by rw [List.length_drop]; omega) hc (fun g hg => by rw [List.length_set]; exact hp g (List.mem_cons_of_mem _ hg)) hd.2
    have e0 : c.getD f.pos 0 = foldB (t.take f.wide) := by
      rw [h2 f.pos (fun g hg e => hd.1 g hg e)]
      simp [List.getD, hp f (List.mem_cons_self ..)]
    refine ⟨?_, fun j hj => ?_⟩
    · rw [List.flatMap_cons, List.append_assoc, ← List.drop_drop, h1]
      unfold fieldB
      rw [e0, take_cut _ hb (by omega), List.take_append_drop]
    · rw [h2 j (fun g hg => hj g (List.mem_cons_of_mem _ hg))]
      simp [List.getD, List.getElem?_set, hj f (List.mem_cons_self ..)]
theorem fldsD_pos (k : Int) : (∀ f ∈ fldsD k, f.pos < 14 ∧ f.pos ≠ 0) ∧ ((fldsD k).map (·.pos)).Nodup := by
  unfold fldsD
  split
  · decide
  split
  · decide
  split
  · decide
  split
  · decide
  · decide
theorem oneT_back {b : List Int} (hb : bytesP b) {c r : List Int} (h : oneT b = some (c, r)) : okC c ∧ b = cmdB c ++ r := by
  match b, h with
  | k :: t, h =>
    simp only [oneT] at h
    by_cases q : kindP k ∧ restW k ≤ t.length ∧ mayD (cmdT k t)
    · rw [if_pos q] at h
      obtain ⟨hk, hl, hm⟩ := q
      simp only [Option.some.injEq, Prod.mk.injEq] at h
      obtain ⟨rfl, rfl⟩ := h
      have kb := hb k (List.mem_cons_self ..)
      obtain ⟨h1, h2⟩ := read_lay (fldsD k) (zeros.set 0 k) t _ (fun x hx => hb x (List.mem_cons_of_mem _ hx)) hl rfl (fun f hf => by simp [zeros]; exact ((fldsD_pos k).1 f hf).1) (fldsD_pos k).2
      have e0 : (cmdT k t).getD 0 0 = k := by
        unfold cmdT
        rw [h2 0 (fun f hf => ((fldsD_pos k).1 f hf).2)]
        simp [zeros]
      refine ⟨⟨cmdT_len k t, hm⟩, ?_⟩
      unfold cmdB
      rw [e0, numB_one kb]
      have h1' : (fldsD k).flatMap (fieldB (cmdT k t)) ++ t.drop (restW k) = t := h1
      rw [List.append_assoc, h1']
      rfl
    · rw [if_neg q] at h
      cases h
theorem takeGo_forth (l acc : List (List Int)) (rest : List Int) (h : ∀ c ∈ l, okC c) : takeGo l.length acc (l.flatMap cmdB ++ rest) = some (acc ++ l, rest) := by
  induction l generalizing acc with
  | nil => simp [takeGo]
  | cons c l ih =>
    simp only [List.flatMap_cons, List.length_cons, takeGo, List.append_assoc, oneT_forth (h c (List.mem_cons_self ..))]
    rw [ih _ (fun d hd => h d (List.mem_cons_of_mem _ hd))]
    simp
theorem takeGo_back (n : Nat) (acc : List (List Int)) (t : List Int) (hb : bytesP t) {l : List (List Int)} {r : List Int} (h : takeGo n acc t = some (l, r)) : ∃ m, l = acc ++ m ∧ m.length = n ∧ (∀ c ∈ m, okC c) ∧ t = m.flatMap cmdB ++ r := by
  induction n generalizing acc t with
  | zero =>
    simp only [takeGo, Option.some.injEq, Prod.mk.injEq] at h
    exact ⟨[], by simp [h.1], rfl, by simp, by simp [h.2]⟩
  | succ n ih =>
    unfold takeGo at h
    cases e : oneT t with
    | none => rw [e] at h; cases h
    | some x =>
      obtain ⟨c, u⟩ := x
      rw [e] at h
      simp only at h
      obtain ⟨oc, rfl⟩ := oneT_back hb e
      obtain ⟨m, h1, h2, h3, h4⟩ := ih (acc ++ [c]) u (fun x hx => hb x (List.mem_append_right _ hx)) h
      refine ⟨c :: m, by simp [h1], by simp [h2], fun d hd => ?_, by rw [List.flatMap_cons, List.append_assoc, ← h4]⟩
      rcases List.mem_cons.1 hd with rfl | hd
      · exact oc
      · exact h3 d hd
theorem takeD_forth (l : List (List Int)) (rest : List Int) (h : ∀ c ∈ l, okC c) (hl : l.length ≤ 4096) : takeD (putB l ++ rest) = some (l, rest) := by
  unfold takeD putB
  rw [List.append_assoc, take_numB, drop_numB, fold_numB]
  have e : ((l.length : Nat) : Int) % 256 ^ 2 = (l.length : Int) := by omega
  rw [e, if_neg (by rw [List.length_append, numB_len]; omega), Int.toNat_natCast, takeGo_forth l [] rest h]
  simp
theorem takeD_back {b : List Int} (hb : bytesP b) {l : List (List Int)} {r : List Int} (h : takeD b = some (l, r)) : (∀ c ∈ l, okC c) ∧ l.length ≤ 4096 ∧ b = putB l ++ r := by
  unfold takeD at h
  split at h
  · cases h
  · rename_i q
    have hb2 : bytesP (b.take 2) := fun c hc => hb c (List.mem_of_mem_take hc)
    have hl2 : (b.take 2).length = 2 := by rw [List.length_take]; omega
    have bd := foldB_bd hb2
    obtain ⟨m, h1, h2, h3, h4⟩ := takeGo_back _ _ _ (fun c hc => hb c (List.mem_of_mem_drop hc)) h
    simp only [List.nil_append] at h1
    subst h1
    refine ⟨h3, by omega, ?_⟩
    unfold putB
    have e : ((l.length : Nat) : Int) = foldB (b.take 2) := by rw [h2]; omega
    have := numB_fold hb2
    rw [hl2] at this
    rw [e, this, List.append_assoc, ← h4, List.take_append_drop]
end Go.Proofs.YtejllmjkeefloaaGreat.Q8
namespace Go.Proofs.YtejllmjkeefloaaGreat
open Go

section
variable {P : Program} {ops : Array Oper} {Q : Exit → Act → World → Prop} {md : Region.Mode}

theorem ready_all (hok : fixOK md ops = true) (listed : Array Bool) (hsz : listed.size = ops.size) (hr : Region.ready md ops listed = []) : ∀ j o, ops[j]? = some o → listed.getD j true = true := by
  have lt : ∀ {j p}, ops[j]? = some p → j < ops.size := fun h => (Array.getElem?_eq_some_iff.1 h).1
  intro j
  induction j using Nat.strongRecOn with
  | ind j ih =>
    intro o hj
    apply Classical.byContradiction
    intro c
    have c' : listed.getD j true = false := by simpa using c
    have : j ∈ Region.ready md ops listed := mem_ready.2 ⟨c', o, hj, fun e he hb => by
      have hlt := (fixOK_at hok hj).2.2.2 e he hb
      have he2 : ops[e.on]? = some (ops[e.on]'(Nat.lt_trans hlt (lt hj))) := Array.getElem?_eq_getElem (Nat.lt_trans hlt (lt hj))
      have := ih e.on hlt _ he2
      rw [Array.getD_eq_getD_getElem?] at this ⊢
      rw [Array.getElem?_eq_getElem (by rw [hsz]; exact Nat.lt_trans hlt (lt hj))] at this ⊢
      exact this⟩
    rw [hr] at this
    cases this
theorem meets_next {listed : Array Bool} {aF a : Act} {i : Nat} {o : Oper} {v : Value} (ho : ops[i]? = some o) (hm : Meets ops listed aF a) (hp : aF.put o.dst v = aF) : Meets ops (listed.setIfInBounds i true) aF (a.put o.dst v) := by
  obtain ⟨m1, m2, m3⟩ := hm
  refine ⟨?_, ?_, fun t ht => ?_⟩
  · cases hd : o.dst <;> simpa [Act.put] using m1
  · cases hd : o.dst <;> simpa [Act.put] using m2
  · cases hd : o.dst with
    | none =>
      refine m3 t fun j p hj hp => ?_
      by_cases c : i = j
      · subst c
        rw [ho] at hj
        injection hj with hj
        rw [← hj, hd] at hp
        cases hp
      · rw [← getD_set_ne true c]
        exact ht j p hj hp
    | some d =>
      by_cases c : d = t
      · subst c
        by_cases l : d < aF.tmps.size
        · rw [put_fix hp hd l]
          simp [Act.put, m2, l]
        · have l' : aF.tmps.size ≤ d := Nat.le_of_not_lt l
          have l2 : (a.put (some d) v).tmps.size ≤ d := by
            simp only [Act.put, Array.size_setIfInBounds, m2]
            exact l'
          rw [Array.getElem?_eq_none l2, Array.getElem?_eq_none l']
      · have : (a.put (some d) v).tmps[t]? = a.tmps[t]? := by simp [Act.put, Array.getElem?_setIfInBounds_ne c]
        rw [this]
        refine m3 t fun j p hj hp => ?_
        by_cases c2 : i = j
        · subst c2
          rw [ho] at hj
          injection hj with hj
          rw [← hj, hd] at hp
          injection hp with hp
          exact absurd hp c
        · rw [← getD_set_ne true c2]
          exact ht j p hj hp
theorem looks_meet (hok : fixOK md ops = true) {listed : Array Bool} {aF a : Act} {i : Nat} {o : Oper} (hsz : listed.size = ops.size) (hm : Meets ops listed aF a) (ho : ops[i]? = some o)
    (hall : ∀ e ∈ o.after, Region.binds md e = true → listed.getD e.on false = true) : ∀ t ∈ o.looksAt ops, a.tmps[t]? = aF.tmps[t]? := fun t ht => hm.2.2 t fun j p hj hd => by
  obtain ⟨e, he, hb, rfl⟩ := (fixOK_at hok ho).2.1 t ht j p hj hd
  have := hall e he hb
  rw [Array.getD_eq_getD_getElem?] at this ⊢
  rw [Array.getElem?_eq_getElem (by rw [hsz]; exact (Array.getElem?_eq_some_iff.1 hj).1)] at this ⊢
  exact this
theorem wpOp_owes {S : World → Prop} {aF a : Act} {i : Nat} {o : Oper} {w : World} {K : Act → World → Prop} (hok : fixOK md ops = true) (ho : ops[i]? = some o) (look : ∀ t ∈ o.looksAt ops, a.tmps[t]? = aF.tmps[t]?) (hS : S w)
    (h : Owes P ops S aF o) (next : ∀ v w', aF.put o.dst v = aF → S w' → K (a.put o.dst v) w') : wpOp P ops Q i K a w := by
  obtain ⟨ee, ew⟩ := eval_eq (ops := ops) (fixOK_at hok ho).1 look
  have h := h w hS
  unfold wpOp
  simp only [ho]
  rw [ew]
  by_cases hw : Region.wanted o (yielded ops aF.tmps) = true
  · rw [if_pos hw] at h ⊢
    refine .inl ?_
    unfold Oper.wp at h ⊢
    rw [ee]
    exact upon_fix next h
  · rw [if_neg hw] at h ⊢
    exact next undef w h hS
theorem done_meets {listed : Array Bool} {aF a : Act} (hall : ∀ j o, ops[j]? = some o → listed.getD j true = true) (hm : Meets ops listed aF a) : a = aF := by
  obtain ⟨h1, h2, h3⟩ := hm
  obtain ⟨t1, d1⟩ := a
  obtain ⟨t2, d2⟩ := aF
  simp only at h1 h2 h3
  subst h1
  have : t1 = t2 := Array.ext_getElem? fun t => h3 t fun j o hj _ => hall j o hj
  subst this
  rfl
end

/-- What all operations owe but those of the list. -/
def OwesX (P : Program) (ops : Array Oper) (S : World → Prop) (aF : Act) (bs : List Nat) : Nat → List Oper → Prop
  | _, [] => True
  | k, o :: l => (bs.contains k = true ∨ Owes P ops S aF o) ∧ OwesX P ops S aF bs (k + 1) l
theorem OwesX.at_ {P : Program} {ops : Array Oper} {S : World → Prop} {aF : Act} {bs : List Nat} {l : List Oper} : ∀ {k : Nat}, OwesX P ops S aF bs k l → ∀ {j : Nat} {o : Oper}, l[j]? = some o → bs.contains (k + j) = false → Owes P ops S aF o := by
  induction l with
  | nil => intro k _ j o hj; simp at hj
  | cons x l ih =>
    intro k h j o hj hn
    cases j with
    | zero =>
      simp at hj
      subst hj
      rcases h.1 with h | h
      · rw [Nat.add_zero, h] at hn; cases hn
      · exact h
    | succ j => exact ih h.2 (by simpa using hj) (by rw [← hn]; congr 1; omega)
end Go.Proofs.YtejllmjkeefloaaGreat
namespace Go.Proofs.YtejllmjkeefloaaGreat
open Go

/-- THE LAW. ups: what each slot that a reading operation writes holds; bs: the numbers of the forced ones. -/
theorem wp_region_mixd {P : Program} {ops : List Oper} {Q : Exit → Act → World → Prop} {id : Nat} {a : Act} {w : World} (bs : List Nat) (S : World → Prop) (ups : List (Tmp × Value)) (slots : List Tmp) (hm : P.follows .mixedOrders = true) (hok : mixOK .any ops.toArray bs = true)
    (hu : ups.map (·.1) = slots) (hb : (slots.all fun t => (readSlots bs 0 ops).contains t) = true) (hS : S w) (hdr : ∀ w, S w → S w.drew) (hv : OwesRI P ops.toArray S (fillA a ups) bs 0 ops) (hQ : mixList P ops.toArray S Q bs (fillA a ups) w.drew) : (Code.region id ops.toArray true).wp P Q a w := by
  have hok' := hok
  simp only [mixOK, Bool.and_eq_true, decide_eq_true_eq] at hok'
  obtain ⟨⟨⟨⟨_, hch⟩, _⟩, hgu⟩, hnd⟩ := hok'
  have inB : ∀ i, i ∈ bs → i < ops.toArray.size := fun i hi => by
    rw [List.all_eq_true] at hgu
    have h := hgu i hi
    cases hq : ops.toArray[i]? with
    | none => simp [hq] at h
    | some q => exact (Array.getElem?_eq_some_iff.1 hq).1
  refine wp_region_any hm (wpAny_mix (S := S) (a0 := fillA a ups) (bs := bs) hok (fun i o hi ho => hv.at_ (j := i) (by simpa using ho) (by simpa using hi)) _ (Array.replicate ops.toArray.size false) bs (fillA a ups) a w.drew (by simp) ?_ hch hnd (fun i => ?_) rfl rfl (fun _ _ => rfl) ⟨(fill_defers ups a).symm, (fill_size ups a).symm, fun t ht => ?_⟩ (hdr w hS) hQ)
  · unfold left
    exact Nat.le_trans (List.length_filter_le _ _) (by simp)
  · refine ⟨fun h => ⟨h, ?_⟩, fun h => h.1⟩
    rw [Array.getD_eq_getD_getElem?, Array.getElem?_replicate, if_pos (inB i h)]
    rfl
  · refine (fill_off ups t (fun p hp e => ?_) a).symm
    have hmem : t ∈ slots := by rw [← hu, ← e]; exact List.mem_map.2 ⟨p, hp, rfl⟩
    rw [List.all_eq_true] at hb
    have h := hb t hmem
    obtain ⟨i, o, h1, h2, hd⟩ := readSlots_mem (by simpa using h)
    rw [Nat.zero_add] at h2
    have hkl : i < ops.length := (List.getElem?_eq_some_iff.1 h1).1
    have := ht i o (by simpa using h1) hd
    rcases this with h | h
    · rw [Array.getD_eq_getD_getElem?, Array.getElem?_replicate, if_pos (by simpa using hkl)] at h
      cases h
    · exact h2 h
end Go.Proofs.YtejllmjkeefloaaGreat
namespace Go.Proofs.YtejllmjkeefloaaGreat
open Go

section
variable {P : Program} {ops : Array Oper} {Q : Exit → Act → World → Prop}

theorem range_box {w : World} {b o : Nat} {cells : Array Value} (h : ∀ k : Nat, w.cell? ⟨b, k, none⟩ = cells[k]?) (l : List Value) (hl : ∀ j v, l[j]? = some v → cells[o + j]? = some v) : w.rangeAt b o l := fun j v hv => by rw [h (o + j)]; exact hl j v hv
theorem wpList_load_box {rest : List Oper} {op : Oper} {a : Act} {w : World} (hgd : op.guard = none) (ty : TypeId) (x : Operand) (ho : op.op = .load ty x) (b : Nat) (cells : Array Value) {d : TypeDesc} (hx : a.eval x = .pointer (some ⟨b, 0, none⟩)) (hb : ∀ k : Nat, w.cell? ⟨b, k, none⟩ = cells[k]?)
    (hu : P.underlying ty = some d) (hd : d.isRow = true) (hi : (P.info? ty).map (·.size) = some cells.size) (h : wpList P ops Q rest (a.put op.dst (.agg cells)) w) : wpList P ops Q (op :: rest) a w :=
  wpList_load_mid hgd ty x ho b 0 hx cells.toList d (range_box hb _ (fun j v hv => by rw [Nat.zero_add]; simpa using hv)) hu hd (by simpa using hi) h
theorem wp_load_box {op : Oper} {a : Act} {w : World} {K : Act → World → Prop} (ty : TypeId) (x : Operand) (ho : op.op = .load ty x) (b : Nat) (cells : Array Value) {d : TypeDesc} (hx : a.eval x = .pointer (some ⟨b, 0, none⟩)) (hb : ∀ k : Nat, w.cell? ⟨b, k, none⟩ = cells[k]?)
    (hu : P.underlying ty = some d) (hd : d.isRow = true) (hi : (P.info? ty).map (·.size) = some cells.size) (h : K (a.put op.dst (.agg cells)) w) : op.wp P a w K Q :=
  wp_load_mid ty x ho b 0 hx cells.toList d (range_box hb _ (fun j v hv => by rw [Nat.zero_add]; simpa using hv)) hu hd (by simpa using hi) h
end
end Go.Proofs.YtejllmjkeefloaaGreat
