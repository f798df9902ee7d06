/- Bytes as strings; the laws' head. Take and Whole of what was put; bounds of a graph that was cut. -/
import Derived.Test.YtbfdoonlohijiaaN17
import Derived.Test.YtbfdoonlohijiaaN6
import Derived.Laws.BytesArg
import Derived.Test.YtbfdoonlohijiaaN20
import Derived.Test.YtbfdoonlohijiaaE8
namespace Go.Proofs.Ytbfdoonlohijiaa
open Go.ChangeShapes Go.WideShapes Go.ChangeAt Go.RowKit
set_option maxRecDepth 20000
set_option linter.unusedVariables false

theorem str_of_nums {w : World} {v : Value} {xs : List Int} (h : IsNums .u8 w v xs) : (convert 22 9 v).run Try.prog w = .ok (.string (strOfNums xs)) w := by
  obtain ⟨A, cap, rfl, h2, h3, h4, h5, h6⟩ := h
  by_cases hp : 0 < xs.length
  · obtain ⟨b, off, rfl, hb, hc⟩ := h6 hp
    exact run_convert_bytes_arg w 22 5 Try.underlying22 Try.underlying5 b off xs.length cap xs rfl hc 9 Try.underlying9
  · obtain rfl : xs = [] := List.eq_nil_of_length_eq_zero (by omega)
    cases A with
    | none => exact run_convert_bytes_nil w 22 5 Try.underlying22 Try.underlying5 _ _ 9 Try.underlying9
    | some a =>
      rw [run_convert_bytes_string w 22 9 5 _ _ _ Try.underlying22 Try.underlying5 Try.underlying9]
      simp [Conv.bytesToString, loadCells]
      rfl

theorem str_inj {xs ys : List Int} (hx : bytesP xs) (hy : bytesP ys) (h : strOfNums xs = strOfNums ys) : xs = ys := by
  have e := congrArg (fun s : ByteArray => s.data.toList) h
  simp only [strOfNums_data] at e
  clear h
  induction xs generalizing ys with
  | nil => cases ys with
    | nil => rfl
    | cons y ys => simp at e
  | cons x xs ih => cases ys with
    | nil => simp at e
    | cons y ys =>
      simp only [List.map_cons, List.cons.injEq] at e
      obtain ⟨x0, x1⟩ := hx x (List.mem_cons_self ..)
      obtain ⟨y0, y1⟩ := hy y (List.mem_cons_self ..)
      have e1 := congrArg UInt8.toNat e.1
      simp only [UInt8.toNat_ofNat'] at e1
      have : x = y := by omega
      rw [this, ih (fun c hc => hx c (List.mem_cons_of_mem _ hc)) (fun c hc => hy c (List.mem_cons_of_mem _ hc)) e.2]

theorem ownB_nums {w : World} {base : Nat} {v : Value} {xs : List Int} (h : OwnB w base v xs) (hb : bytesP xs) : IsNums .u8 w v xs := nums_of_ownI (t := 5) h.1 (fun x hx => by
  have := hb x hx
  simp [Lit.wf, IntKind.min, IntKind.max, IntKind.bits, IntKind.signed]
  omega)

def exG : GraphD := ⟨[⟨1, 2, 3, 0⟩], [], [0]⟩
theorem exG_E : valuesE exG = 0 := by
  have e : beginsE exG = 0 := begins_mk (by simp [exG]) (below_one (by unfold mayV mayS; decide)) (below_one (by decide))
  have g : goS exG.nodes exG.ins = (0, [⟨1, 2, 3, 0⟩]) := rfl
  have s : sumW exG.nodes = 0 := rfl
  unfold valuesE
  rw [if_neg (by rw [e]; decide), g, if_neg (by simp), s, if_neg (by decide), if_neg]
  intro f
  apply f
  exact below_one (by decide)
theorem exG_B : graphB exG = [1, 1, 2, 3, 0, 0, 1, 0] := by decide

theorem exG_graph (W : World) : IsGraph ((W.alloc (.cells #[.int .i64 1, .int .i64 2, .int .i64 3, .int .i64 0] 52)).alloc (.cells #[.int .i64 0] 3)) (.agg #[.slice (some ⟨W.heap.size, 0, none⟩) 1 1, .slice none 0 0, .slice (some ⟨W.heap.size + 1, 0, none⟩) 1 1]) exG := by
  have b : ∀ o : Nat, ((W.alloc (.cells #[.int .i64 1, .int .i64 2, .int .i64 3, .int .i64 0] 52)).alloc (.cells #[.int .i64 0] 3)).cell? ⟨W.heap.size, o, none⟩ = (#[.int .i64 1, .int .i64 2, .int .i64 3, .int .i64 0] : Array Value)[o]? := box_old (box_new rfl) (by simp)
  refine ⟨_, _, _, rfl, vals_one (by simp; omega) (by unfold ValWf; decide) ⟨b 0, b 1, b 2, b 3⟩, ⟨none, 0, rfl, Nat.le_refl _, Nat.zero_le _, fun _ => rfl, by simp [exG], by simp [exG]⟩, ?_⟩
  have := nums_new .i64 (W.alloc (.cells #[.int .i64 1, .int .i64 2, .int .i64 3, .int .i64 0] 52)) 3 [0] (by simp) (by simp [maxLen]) (by simp; decide)
  rw [show (W.alloc (.cells #[.int .i64 1, .int .i64 2, .int .i64 3, .int .i64 0] 52)).heap.size = W.heap.size + 1 by simp] at this
  exact this

set_option maxHeartbeats 2000000 in
theorem shown_any (W : World) : Calls Try.prog 8 #[] W fun e w' => e = .returned (.bool true) ∧ Past W w' := by
  have PU := Lib.hid (put_any exG _ _ (exG_graph W) ⟨by simp [exG], by simp [exG]⟩ (by rw [exG_B]; simp))
  go_enter Try.func8, Try.ntmps8
  go_wp2_with fail
  refine PU.out.mono ?_
  rintro e w1 H
  rcases H with ⟨_, v, rfl, ho, p1⟩ | ⟨hE, _⟩
  · rw [exG_B] at ho
    have p2 : Past W w1 := (((Past.refl W).alloc _).alloc _).trans p1
    have s1 := str_of_nums (ownB_nums ho (by intro c hc; simp only [List.mem_cons, List.not_mem_nil, or_false] at hc; omega))
    have s2 := str_of_nums (nums_new .u8 w1 5 [1, 1, 2, 3, 0, 0, 1, 0] (by simp) (by simp [maxLen]) (by simp only [List.mem_cons, List.not_mem_nil, or_false]; rintro x (rfl | rfl | rfl | rfl | rfl | rfl | rfl | rfl) <;> decide))
    simp only [List.map_cons, List.map_nil, List.length_cons, List.length_nil] at s2
    clear ho p1 PU
    go_wp2_with fail
    go_ret
    exact ⟨rfl, p2.alloc _⟩
  · exact absurd exG_E hE
end Go.Proofs.Ytbfdoonlohijiaa

namespace Go.Proofs.Ytbfdoonlohijiaa
open Go.ChangeShapes Go.WideShapes Go.ChangeAt Go.RowKit
set_option maxRecDepth 20000
set_option linter.unusedVariables false

theorem cut_lessD (g : GraphD) : Cut (lessD g) := by
  refine ⟨by simp [lessD]; omega, fun n hn => ?_⟩
  simp only [lessD, List.mem_map] at hn
  obtain ⟨m, _, rfl⟩ := hn
  constructor
  · simp [fewD]; omega
  · simp [fewD]; omega
theorem nodesLen_bd (ns : List NodeD) : nodesLen (ns.map fewD) ≤ 5116 * ns.length := by
  induction ns with
  | nil => simp [nodesLen]
  | cons n ns ih =>
    simp only [nodesLen, List.map_cons, List.sum_cons, List.length_cons] at ih ⊢
    have h1 : (fewD n).ins.length ≤ 20 := by simp [fewD]; omega
    have h2 : (fewD n).ws.length ≤ 5000 := by simp [fewD]; omega
    have h3 : (fewD n).bs.length ≤ 20 := by simp [fewD]; omega
    omega
theorem lessD_len (g : GraphD) : (graphB (lessD g)).length ≤ 100000 := by
  rw [graphB_len]
  have h1 : (lessD g).ins.length ≤ 6 := by simp [lessD]; omega
  have h2 : (lessD g).outs.length ≤ 6 := by simp [lessD]; omega
  have h3 := nodesLen_bd (g.nodes.take 14)
  have h4 : (g.nodes.take 14).length ≤ 14 := by simp; omega
  have e : (lessD g).nodes = (g.nodes.take 14).map fewD := rfl
  rw [e]
  omega
theorem graphB_pos (g : GraphD) : 3 ≤ (graphB g).length := by rw [graphB_len]; omega

def TakeYes (g : GraphD) (W : World) (e : Ending) (w' : World) : Prop := ∃ gv, e = .returned (.tuple #[gv, .int .i64 ((graphB g).length : Int), .int .i64 0]) ∧ IsGraph w' gv g ∧ Past W w'
def TakeNo (W : World) (e : Ending) (w' : World) : Prop := e = .returned (.tuple #[.agg #[.slice none 0 0, .slice none 0 0, .slice none 0 0], .int .i64 0, .int .i64 2]) ∧ Past W w'
def WholeYes (g : GraphD) (W : World) (e : Ending) (w' : World) : Prop := ∃ gv, e = .returned (.tuple #[gv, .int .i64 0]) ∧ IsGraph w' gv g ∧ Past W w'
def WholeNo (W : World) (e : Ending) (w' : World) : Prop := e = .returned (.tuple #[.agg #[.slice none 0 0, .slice none 0 0, .slice none 0 0], .int .i64 2]) ∧ Past W w'

theorem take_yes {g : GraphD} {v : Value} {rest : List Int} {W : World} (hE : valuesE g = 0) (ok : okG g) (hb : IsNums .u8 W v (graphB g ++ rest)) (hl : (graphB g ++ rest).length ≤ 1000000000) : Calls Try.prog 10 #[v] W (TakeYes g W) := by
  refine (take_any v _ W hb hl).mono ?_
  rintro e w' H
  have T := took_put hE ok rest
  rcases H with ⟨_, gv, rfl, ig, p⟩ | ⟨hT, _, _⟩
  · rw [read_put ok rest] at ig
    refine ⟨gv, ?_, ig, p⟩
    rw [read_put ok rest]
    have e1 : ((graphB g ++ rest).length : Int) - (rest.length : Int) = ((graphB g).length : Int) := by rw [List.length_append]; omega
    show Ending.returned (.tuple #[gv, .int .i64 (((graphB g ++ rest).length : Int) - (rest.length : Int)), .int .i64 0]) = _
    rw [e1]
  · exact absurd T hT
theorem take_no {bs : List Int} {v : Value} {W : World} (hT : ¬ TookP bs) (hb : IsNums .u8 W v bs) (hl : bs.length ≤ 1000000000) : Calls Try.prog 10 #[v] W (TakeNo W) := by
  refine (take_any v _ W hb hl).mono ?_
  rintro e w' H
  rcases H with ⟨T, _⟩ | ⟨_, rfl, p⟩
  · exact absurd T hT
  · exact ⟨rfl, p⟩
theorem whole_yes {g : GraphD} {v : Value} {W : World} (hE : valuesE g = 0) (ok : okG g) (hb : IsNums .u8 W v (graphB g)) (hl : (graphB g).length ≤ 1000000000) : Calls Try.prog 12 #[v] W (WholeYes g W) := by
  refine (whole_any v _ W hb hl).mono ?_
  rintro e w' H
  obtain ⟨T, e1⟩ := whole_put hE ok
  rcases H with ⟨_, gv, rfl, ig, p⟩ | ⟨hT, _, _⟩
  · rw [e1] at ig
    exact ⟨gv, rfl, ig, p⟩
  · exact absurd T hT
theorem whole_no {bs : List Int} {v : Value} {W : World} (hT : ¬ WholeP bs) (hb : IsNums .u8 W v bs) (hl : bs.length ≤ 1000000000) : Calls Try.prog 12 #[v] W (WholeNo W) := by
  refine (whole_any v _ W hb hl).mono ?_
  rintro e w' H
  rcases H with ⟨T, _⟩ | ⟨_, rfl, p⟩
  · exact absurd T hT
  · exact ⟨rfl, p⟩

theorem news_bytes {w : World} {b off n c : Nat} {xs : List Int} (h : IsNums .u8 w (.slice (some ⟨b, off, none⟩) n c) xs) : ∀ j u, (xs.map (Value.int .u8))[j]? = some u → w.cell? ((⟨b, off, none⟩ : Addr).add j) = some u := by
  obtain ⟨A, cap, e, _, _, _, _, h6⟩ := h
  simp only [Value.slice.injEq] at e
  obtain ⟨rfl, _, _⟩ := e
  intro j u hu
  have hj : j < xs.length := by
    have := (List.getElem?_eq_some_iff.1 hu).1
    simpa using this
  obtain ⟨b', off', e, _, hc⟩ := h6 (by omega)
  simp only [Option.some.injEq, Addr.mk.injEq, and_true] at e
  obtain ⟨rfl, rfl⟩ := e
  rw [add_plain, hc j hj]
  simp [hj] at hu
  simp [List.getD, hj, hu]
theorem bytes_one (xs : List Int) : ∀ u ∈ xs.map (Value.int .u8), u.oneCell' = true := by
  intro u hu
  obtain ⟨x, _, rfl⟩ := List.mem_map.1 hu
  rfl
theorem nums_byte {w : World} {base n : Nat} {v : Value} {xs : List Int} (hn : n = xs.length) (h : w.ownsRow base 5 1 v n (xs.map (Value.int .u8))) (hb : bytesP xs) : IsNums .u8 w v xs := by
  subst hn
  exact nums_of_ownI (k := .u8) (t := 5) h (fun x hx => by
    have := hb x hx
    simp [Lit.wf, IntKind.min, IntKind.max, IntKind.bits, IntKind.signed]
    omega)
end Go.Proofs.Ytbfdoonlohijiaa
