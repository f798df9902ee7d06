/- Clone; begins. What Value answers at the examples and pairs of the laws: plain numbers. Bytes as strings; Steps; the laws' head. A slice of one command; an owned row one command longer. Sums of bytes in plain numbers: halving with a pattern is linear over XOR, and one to one below 2^32; what is turned within four bytes turns what is left. -/
import Derived.WalkSpells
import Derived.Lib.BufferMore
import Derived.Test.YtejllmjkeefloaaKG8
import Derived.Test.YtejllmjkeefloaaKG6
import Derived.Test.YtejllmjkeefloaaKV1
import Derived.Laws.BytesArg
import Derived.Test.YtejllmjkeefloaaKI10b
import Derived.Great.BuildSlice
import Derived.OwnWalk
import Derived.BigFrame
import Derived.Test.YtejllmjkeefloaaProg
namespace Go.Proofs.Ytejllmjkeefloaa
open Go.ChangeShapes Go.WideShapes Go.ChangeAt Go.RowKit
set_option maxRecDepth 20000
set_option linter.unusedVariables false

def ClonePost (xs : List ValD) (W : World) (e : Ending) (w' : World) : Prop := ∃ v, e = .returned v ∧ OwnVals w' W.heap.size v xs ∧ Past W w'
set_option maxHeartbeats 1000000 in
theorem clone_any (xs : List ValD) (b off cap : Nat) (W : World) (h0 : 0 < xs.length) (h1 : xs.length ≤ 1000) (hc : xs.length ≤ cap) (hbb : b < W.heap.size) (hx : ∀ i, i < xs.length → ValAt W b (off + i * 4) (xs.getD i default)) :
    Calls Try.prog 76 #[.slice (some ⟨b, off, none⟩) xs.length cap] W (ClonePost xs W) := by
  obtain ⟨i0, hi0, hz0, hz1, hz2⟩ := info_parts info32
  have I1 := Lib.hid hi0
  have I2 := Lib.hid hz0
  have I3 := Lib.hid hz1
  have I4 := Lib.hid hz2
  have HX := Lib.hid (fun i hi => (hx i hi).grow hbb ((Past.refl W).alloc (.cells #[] 57)))
  have own : (W.alloc (.cells #[] 57)).ownsRow W.heap.size 57 4 (.slice (some ⟨W.heap.size, 0, none⟩) 0 0) 0 [] := by
    have := World.ownsRow_made (base := W.heap.size) (e := 57) (size := 4) W #[] 0 (by simp) (by simp) (by simp)
    simpa using this
  have OW := Lib.hid own
  have eN := fun (w : World) => Lib.run_eql_slice_some_nil (P := Try.prog) w (t := 25) ⟨b, off, none⟩ xs.length cap Try.underlying25
  clear hi0 hz0 hz1 hz2 hx own
  go_enter Try.func76, Try.ntmps76
  go_wp2_with (at_builtin; refine wpList_append_own _ rfl (.tmp 5) (.tmp 6) 25 rfl W.heap.size 57 i0 _ 4 32 Try.underlying25 I1.out I2.out I3.out I4.out rfl (by decide) _ 0 [] rfl OW.out ⟨b, off, none⟩ xs.length cap (valsCells xs) rfl (valsCells_len xs) (news_of_vals HX.out) (vals_one' xs) ?c4 ?c5 ?c6 ?_)
  case c4 => unfold maxLen; omega
  case c5 => omega
  case c6 => simp
  intro v4 w4 hown4 hgrow _
  have hp4 : Past W w4 := ((Past.refl W).alloc _).grownBy hgrow (fun j hj => by simp [Value.ownBlock] at hj; omega)
  have ho4 : OwnVals w4 W.heap.size v4 xs := by
    unfold OwnVals
    simpa using hown4
  clear hown4 hgrow
  go_wp2_with fail
  go_ret
  exact ⟨_, rfl, ho4, hp4⟩
theorem zeros_eq (w : World) : Calls Try.prog 97 #[] w fun e w' => e = .returned (.agg #[.int .i64 (-128), .int .i64 127]) ∧ w' = w.alloc (.cells #[.int .i64 (-128), .int .i64 127] 129) := by
  go_enter Try.func97, Try.ntmps97
  go_wp2
  exact bodyPost_ret (v := .agg #[.int .i64 (-128), .int .i64 127]) (by simp [results, Try.results97, go_sem]) rfl ⟨rfl, rfl⟩
theorem badZero_any (h w c z : Int) (W : World) :
    Calls Try.prog 96 #[.agg #[.int .i64 h, .int .i64 w, .int .i64 c, .int .i64 z]] W fun e w' => e = .returned (.bool (!holdB (-128) 127 z)) ∧ Grown W w' := by
  go_enter Try.func96, Try.ntmps96
  go_wp2_with fail
  go_region_held3 (fun w' => w'.cell? ⟨W.heap.size, 3, none⟩ = some (.int .i64 z)) (((try dsimp only) <;> go_cell))
    (first | (go_at_call 97; with_reducible refine (zeros_eq _).mono ?_; rintro e w1 ⟨rfl, rfl⟩) | (go_at_call 98; with_reducible refine (hold_any _ _ _ _).mono ?_; rintro e w1 ⟨rfl, rfl⟩))
  all_goals
    go_wp2_with fail
    go_ret
    exact ⟨rfl, by go_grown⟩
end Go.Proofs.Ytejllmjkeefloaa
namespace Go.Proofs.Ytejllmjkeefloaa
open Go.ChangeShapes Go.WideShapes Go.ChangeAt Go.RowKit
set_option linter.unusedVariables false

theorem valueE_mk11 {n : NodeD} {vs : List ValD} (h : ¬ (hasOp n.op ∧ takesP (opD n.op) n vs)) : valueE n vs = 11 := by unfold valueE; rw [if_pos h]
theorem valueE_mk10 {n : NodeD} {vs : List ValD} (h : hasOp n.op ∧ takesP (opD n.op) n vs) (k : ¬ ∀ j, j < vs.length → mayV (vs.getD j default)) : valueE n vs = 10 := by unfold valueE; rw [if_neg (fun f => f h), if_pos k]
theorem valueE_mk10' {n : NodeD} {vs : List ValD} (h : hasOp n.op ∧ takesP (opD n.op) n vs) (m : ¬ mayT (madeS n vs)) : valueE n vs = 10 := by
  by_cases k : ∀ j, j < vs.length → mayV (vs.getD j default)
  · unfold valueE; rw [if_neg (fun f => f h), if_neg (fun f => f k), if_pos m]
  · exact valueE_mk10 h k
theorem valueV_mk {n : NodeD} {vs : List ValD} (h : valueE n vs = 0) : valueV n vs = ⟨(madeS n vs).1, (madeS n vs).2.1, (madeS n vs).2.2, n.zero⟩ := by unfold valueV; rw [if_pos h]
theorem below_one {p : Nat → Prop} (h : p 0) : ∀ j, j < 1 → p j := fun j hj => by
  obtain rfl : j = 0 := by omega
  exact h
end Go.Proofs.Ytejllmjkeefloaa
namespace Go.Proofs.Ytejllmjkeefloaa.Q8
open Go.ChangeShapes Go.WideShapes Go.ChangeAt Go.RowKit
set_option maxRecDepth 20000
set_option linter.unusedVariables false
set_option linter.unusedSimpArgs false

theorem nums_of_ownI {k : IntKind} {t : TypeId} {w : World} {base : Nat} {v : Value} {xs : List Int} (ho : w.ownsRow base t 1 v xs.length (xs.map (Value.int k))) (wf : ∀ x ∈ xs, (Lit.int k x).wf = true) : IsNums k w v xs := by
  obtain ⟨hl, h⟩ := ho
  rcases h with ⟨rfl, h0⟩ | ⟨b, cap, cur, rfl, hb, hg, hn, hm, hs, ht⟩
  · have : xs = [] := List.eq_nil_of_length_eq_zero h0
    subst this
    exact ⟨none, 0, rfl, Nat.le_refl _, Nat.zero_le _, fun _ => rfl, by simp, by simp⟩
  · refine ⟨some ⟨b, 0, none⟩, cap, rfl, hn, hm, (fun h => by cases h), wf, fun hp => ⟨b, 0, rfl, (Array.getElem?_eq_some_iff.1 hg).1, fun i hi => ?_⟩⟩
    have key : w.cell? ⟨b, 0 + i, none⟩ = (xs.map (Value.int k))[i]? := by
      rw [← ht, List.getElem?_take_of_lt (by omega)]
      simp [World.cell?, hg]
    rw [key]
    simp [List.getD, hi]
theorem nums_new (k : IntKind) (w : World) (t : TypeId) (xs : List Int) (h0 : 0 < xs.length) (hm : xs.length ≤ maxLen) (wf : ∀ x ∈ xs, (Lit.int k x).wf = true) : IsNums k (w.alloc (.cells ⟨xs.map (Value.int k)⟩ t)) (.slice (some ⟨w.heap.size, 0, none⟩) xs.length xs.length) xs :=
  ⟨some ⟨w.heap.size, 0, none⟩, xs.length, rfl, Nat.le_refl _, hm, (fun h => by cases h), wf, fun _ => ⟨w.heap.size, 0, rfl, by simp, fun i hi => by
    have := cells_new' w (xs.map (Value.int k)) t i (.int k (xs.getD i 0)) (by simp [List.getD, hi])
    rw [add_plain] at this
    exact this⟩⟩
theorem str_of_nums {w : World} {v : Value} {xs : List Int} (h : IsNums .u8 w v xs) : (convert 22 9 v).run Try.prog w = .ok (.string (strOfNums xs)) w := by
  obtain ⟨A, cap, rfl, h2, h3, h4, h5, h6⟩ := h
  by_cases hp : 0 < xs.length
  · obtain ⟨b, off, rfl, hb, hc⟩ := h6 hp
    exact run_convert_bytes_arg w 22 5 Try.underlying22 Try.underlying5 b off xs.length cap xs rfl hc 9 Try.underlying9
  · obtain rfl : xs = [] := List.eq_nil_of_length_eq_zero (by omega)
    cases A with
    | none => exact run_convert_bytes_nil w 22 5 Try.underlying22 Try.underlying5 _ _ 9 Try.underlying9
    | some a =>
      rw [run_convert_bytes_string w 22 9 5 _ _ _ Try.underlying22 Try.underlying5 Try.underlying9]
      simp [Conv.bytesToString, loadCells]
      rfl
end Go.Proofs.Ytejllmjkeefloaa.Q8
namespace Go.Proofs.Ytejllmjkeefloaa.Q8
open Go.ChangeShapes Go.WideShapes Go.ChangeAt Go.RowKit
set_option maxRecDepth 20000
set_option linter.unusedVariables false
set_option linter.unusedSimpArgs false

theorem OwnC.low {w : World} {base base' : Nat} {v : Value} {l : List (List Int)} (h : OwnC w base v l) (hb : base' ≤ base) : OwnC w base' v l := by
  obtain ⟨⟨hl, h⟩, hw⟩ := h
  refine ⟨⟨hl, ?_⟩, hw⟩
  rcases h with h | ⟨b, cap, cur, e, hbb, h⟩
  · exact .inl h
  · exact .inr ⟨b, cap, cur, e, Nat.le_trans hb hbb, h⟩
theorem OwnC.keep {w w' : World} {base P : Nat} {v : Value} {l : List (List Int)} (h : OwnC w base v l) (g : Keep P w w') (hP : P < base) : OwnC w' base v l := ⟨own_keep h.1 g hP, h.2⟩
theorem OwnC.alloc {w : World} {base : Nat} {v : Value} {l : List (List Int)} (h : OwnC w base v l) (x : Obj) : OwnC (w.alloc x) base v l := ⟨World.ownsRow.alloc h.1 x, h.2⟩
theorem OwnC.lt {w : World} {base : Nat} {v : Value} {l : List (List Int)} (h : OwnC w base v l) {k : Nat} (hk : v.ownBlock = some k) : base ≤ k := (World.ownsRow.lt h.1 k hk).1
end Go.Proofs.Ytejllmjkeefloaa.Q8
namespace Go.Proofs.Ytejllmjkeefloaa.Q7

def hv (r : Nat) : Nat := if r % 2 = 1 then (r / 2) ^^^ 3988292384 else r / 2
def hvs : Nat → Nat → Nat
  | 0, r => r
  | n + 1, r => hvs n (hv r)
def byteD (r c : Nat) : Nat := hvs 8 (r ^^^ c)
def crc (r : Nat) (l : List Nat) : Nat := l.foldl byteD r
def sumD (l : List Nat) : Nat := crc 4294967295 l ^^^ 4294967295
theorem hv_lt {x : Nat} (h : x < 2 ^ 32) : hv x < 2 ^ 32 := by
  unfold hv
  split
  · exact Nat.xor_lt_two_pow (by omega) (by decide)
  · omega
theorem hvs_lt (n : Nat) {x : Nat} (h : x < 2 ^ 32) : hvs n x < 2 ^ 32 := by
  induction n generalizing x with
  | zero => exact h
  | succ n ih => exact ih (hv_lt h)
theorem hvs_add (m n x : Nat) : hvs (m + n) x = hvs n (hvs m x) := by
  induction m generalizing x with
  | zero => simp [hvs]
  | succ m ih => rw [show m + 1 + n = (m + n) + 1 by omega]; exact ih (hv x)
theorem hvs_snoc (n x : Nat) : hvs (n + 1) x = hv (hvs n x) := hvs_add n 1 x
theorem byte_lt {r c : Nat} (h : r < 2 ^ 32) (hc : c < 256) : byteD r c < 2 ^ 32 := hvs_lt 8 (Nat.xor_lt_two_pow h (by omega))
theorem crc_lt {r : Nat} {l : List Nat} (h : r < 2 ^ 32) (hl : ∀ c ∈ l, c < 256) : crc r l < 2 ^ 32 := by
  induction l generalizing r with
  | nil => exact h
  | cons c l ih => exact ih (byte_lt h (hl c (List.mem_cons_self ..))) (fun d hd => hl d (List.mem_cons_of_mem _ hd))
theorem crc_app (r : Nat) (l m : List Nat) : crc r (l ++ m) = crc (crc r l) m := List.foldl_append ..
theorem crc_snoc (r : Nat) (l : List Nat) (c : Nat) : crc r (l ++ [c]) = byteD (crc r l) c := by rw [crc_app]; rfl
theorem sum_lt {l : List Nat} (hl : ∀ c ∈ l, c < 256) : sumD l < 2 ^ 32 := Nat.xor_lt_two_pow (crc_lt (by decide) hl) (by decide)
def le4 (r : Nat) : List Nat := [r % 256, r / 256 % 256, r / 65536 % 256, r / 16777216 % 256]
def sealD (l : List Nat) : List Nat := l ++ le4 (sumD l)
theorem seal_len (l : List Nat) : (sealD l).length = l.length + 4 := by simp [sealD, le4]
theorem seal_lt {l : List Nat} (hl : ∀ c ∈ l, c < 256) : ∀ c ∈ sealD l, c < 256 := by
  intro c hc
  rcases List.mem_append.1 hc with h | h
  · exact hl c h
  · simp only [le4, List.mem_cons, List.not_mem_nil, or_false] at h; omega
theorem seal_take (l : List Nat) : (sealD l).take ((sealD l).length - 4) = l := by rw [seal_len]; simp [sealD]
end Go.Proofs.Ytejllmjkeefloaa.Q7
