/- The reference of layer 3: node. -/
import Derived.Test.YtgbedoffgahhaaaR3A
import Derived.Test.YtgbedoffgahhaaaRead
import Derived.Test.YtgbedoffgahhaaaG2
import Derived.Deep.DeepCutAuto
namespace Go.Proofs.Ytgbedoffgahhaaa
open Go.ChangeShapes Go.WideShapes Go.ChangeAt Go.RowKit
set_option maxRecDepth 20000
set_option linter.unusedVariables false

/-- What node asks, as it asks it. -/
def nodeW (o : Int) : Int := if o = 6 ∨ o = 7 ∨ o = 10 then 2 else 1
def nodeK (n : NodeD) : Prop := if 1 ≤ n.op ∧ n.op ≤ 5 ∧ n.op ≠ 3 then (1 ≤ n.k ∧ n.k ≤ 3) ∧ (1 ≤ n.stride ∧ n.stride ≤ 2) else n.k = 0 ∧ n.stride = 0
def nodeP (n : NodeD) : Prop := if n.op = 9 then n.pad = 1 else if n.op = 1 ∨ n.op = 2 then (0 ≤ n.pad ∧ n.pad ≤ 1) ∧ n.pad < n.k else n.pad = 0
def nodeO (n : NodeD) : Prop := if n.op = 1 ∨ n.op = 3 then 1 ≤ n.out ∧ n.out ≤ 8 else n.out = 0
def nodeS (n : NodeD) : Prop := (1 ≤ n.mul ∧ n.mul ≤ 32767) ∧ (0 ≤ n.shift ∧ n.shift ≤ 31) ∧ (-128 ≤ n.zero ∧ n.zero ≤ 127)
def nodeT (n : NodeD) : Prop := (n.th = 0 ∧ n.tw = 0 ∧ n.tc = 0) ∨ n.op = 11

theorem bool_eq {a b : Bool} (h : a = true ↔ b = true) : a = b := by cases a <;> cases b <;> simp_all

theorem bool_of {p : Prop} : ∃ t : Bool, (t = true ↔ p) := by
  rcases Classical.em p with h | h
  · exact ⟨true, by simp [h]⟩
  · exact ⟨false, by simp [h]⟩

set_option maxHeartbeats 8000000 in
theorem node_any (n : NodeD) (vi vw vb : Value) (m : Int) (t : Bool) (W : World) (ht : Hid (t = true ↔ (1 ≤ n.op ∧ n.op ≤ 12) ∧ m = nodeW n.op ∧ nodeK n ∧ nodeP n ∧ nodeO n ∧ nodeT n ∧ nodeS n)) :
    Calls Try.prog 30 #[.agg #[.int .i64 n.op, vi, .int .i64 n.k, .int .i64 n.stride, .int .i64 n.pad, .int .i64 n.out, .int .i64 n.mul, .int .i64 n.shift, .int .i64 n.zero, .int .i64 n.th, .int .i64 n.tw, .int .i64 n.tc, vw, vb], .int .i64 m] W fun e w' => e = .returned (.bool t) ∧ Grown W w' := by
  obtain ⟨tw, htw⟩ := bool_of (p := n.op = 6 ∨ n.op = 7 ∨ n.op = 10)
  obtain ⟨tv, htv⟩ := bool_of (p := 1 ≤ n.op ∧ n.op ≤ 5 ∧ n.op ≠ 3)
  obtain ⟨tk, htk⟩ := bool_of (p := nodeK n)
  obtain ⟨k0, hk0⟩ := bool_of (p := n.k = 0 ∧ n.stride = 0)
  obtain ⟨k1, hk1⟩ := bool_of (p := 1 ≤ n.k ∧ n.k ≤ 3)
  obtain ⟨k2, hk2⟩ := bool_of (p := 1 ≤ n.stride ∧ n.stride ≤ 2)
  obtain ⟨tc, htc⟩ := bool_of (p := n.op = 1 ∨ n.op = 2)
  obtain ⟨p0, hp0⟩ := bool_of (p := n.pad = 0)
  obtain ⟨p1, hp1⟩ := bool_of (p := 0 ≤ n.pad ∧ n.pad ≤ 1)
  obtain ⟨tb, htb⟩ := bool_of (p := if n.op = 1 ∨ n.op = 2 then (0 ≤ n.pad ∧ n.pad ≤ 1) ∧ n.pad < n.k else n.pad = 0)
  obtain ⟨tp, htp⟩ := bool_of (p := nodeP n)
  obtain ⟨tf, htf⟩ := bool_of (p := n.op = 1 ∨ n.op = 3)
  obtain ⟨o1, ho1⟩ := bool_of (p := 1 ≤ n.out ∧ n.out ≤ 8)
  obtain ⟨tq, htq⟩ := bool_of (p := nodeO n)
  obtain ⟨tt, htt⟩ := bool_of (p := nodeT n)
  obtain ⟨s1, hs1⟩ := bool_of (p := 1 ≤ n.mul ∧ n.mul ≤ 32767)
  obtain ⟨s2, hs2⟩ := bool_of (p := 0 ≤ n.shift ∧ n.shift ≤ 31)
  obtain ⟨s3, hs3⟩ := bool_of (p := -128 ≤ n.zero ∧ n.zero ≤ 127)
  obtain ⟨ts, hts⟩ := bool_of (p := nodeS n)
  obtain ⟨th, hth⟩ := bool_of (p := 1 ≤ n.op ∧ n.op ≤ 12)
  have HT : Hid (t = true ↔ th = true ∧ m = nodeW n.op ∧ tk = true ∧ tp = true ∧ tq = true ∧ tt = true ∧ ts = true) := Lib.hid (by rw [hth, htk, htp, htq, htt, hts]; exact ht.out)
  have Htw := Lib.hid htw
  have Htv := Lib.hid htv
  have Htk := Lib.hid htk
  have Hk0 := Lib.hid hk0
  have Hk1 := Lib.hid hk1
  have Hk2 := Lib.hid hk2
  have Htc := Lib.hid htc
  have Hp0 := Lib.hid hp0
  have Hp1 := Lib.hid hp1
  have Htb := Lib.hid htb
  have Htp := Lib.hid htp
  have Htf := Lib.hid htf
  have Ho1 := Lib.hid ho1
  have Htq := Lib.hid htq
  have Htt := Lib.hid htt
  have Hs1 := Lib.hid hs1
  have Hs2 := Lib.hid hs2
  have Hs3 := Lib.hid hs3
  have Hts := Lib.hid hts
  have Hth := Lib.hid hth
  clear ht htw htv htk hk0 hk1 hk2 htc hp0 hp1 htb htp htf ho1 htq htt hs1 hs2 hs3 hts hth
  obtain ⟨q5, h5⟩ : ∃ q, nodeW n.op = q := ⟨_, rfl⟩
  rw [h5] at HT
  have H5 := Lib.hid h5
  clear h5
  go_enter Try.func30, Try.ntmps30
  go_upto_region 1 with fail
  refine opq (fun w' => (∀ o : Nat, w'.cell? ⟨W.heap.size, o, none⟩ = (#[.int .i64 n.op, vi, .int .i64 n.k, .int .i64 n.stride, .int .i64 n.pad, .int .i64 n.out, .int .i64 n.mul, .int .i64 n.shift, .int .i64 n.zero, .int .i64 n.th, .int .i64 n.tw, .int .i64 n.tc, vw, vb] : Array Value)[o]?) ∧ Grown W w' ∧ W.heap.size + 1 ≤ w'.heap.size) kKeep ?_
  rintro w1 ⟨b1, g1, s1⟩
  go_upto_if 13 with (go_at_call 44; with_reducible refine (two_any n.op tw _ Htw).mono ?_; rintro e w2 ⟨rfl, g⟩; obtain ⟨b2, g2, s2⟩ : (∀ o : Nat, w2.cell? ⟨W.heap.size, o, none⟩ = (#[.int .i64 n.op, vi, .int .i64 n.k, .int .i64 n.stride, .int .i64 n.pad, .int .i64 n.out, .int .i64 n.mul, .int .i64 n.shift, .int .i64 n.zero, .int .i64 n.th, .int .i64 n.tw, .int .i64 n.tc, vw, vb] : Array Value)[o]?) ∧ Grown W w2 ∧ W.heap.size + 1 ≤ w2.heap.size := by (exact kKeep))
  clear b1 g1 s1 g
  go_cut [5] (fun c w' => c = .int .i64 q5 ∧ (∀ o : Nat, w'.cell? ⟨W.heap.size, o, none⟩ = (#[.int .i64 n.op, vi, .int .i64 n.k, .int .i64 n.stride, .int .i64 n.pad, .int .i64 n.out, .int .i64 n.mul, .int .i64 n.shift, .int .i64 n.zero, .int .i64 n.th, .int .i64 n.tw, .int .i64 n.tc, vw, vb] : Array Value)[o]?) ∧ Grown W w' ∧ W.heap.size + 1 ≤ w'.heap.size)
  case first =>
    cases tw with
    | true =>
      obtain rfl : q5 = 2 := by rw [← H5.out]; unfold nodeW; rw [if_pos (Htw.out.mp rfl)]
      go_wp2_with fail
      go_meet
      exact ⟨rfl, b2, g2, s2⟩
    | false =>
      obtain rfl : q5 = 1 := by rw [← H5.out]; unfold nodeW; rw [if_neg (fun h => by have := Htw.out.mpr h; cases this)]
      go_wp2_with fail
      go_meet
      exact ⟨rfl, b2, g2, s2⟩
  case rest =>
    obtain ⟨rfl, b3, g3, s3⟩ := hcut
    clear b2 g2 s2
    go_upto_region 4 with fail
    go_cut [6] (fun c w' => c = .bool k0 ∧ (∀ o : Nat, w'.cell? ⟨W.heap.size, o, none⟩ = (#[.int .i64 n.op, vi, .int .i64 n.k, .int .i64 n.stride, .int .i64 n.pad, .int .i64 n.out, .int .i64 n.mul, .int .i64 n.shift, .int .i64 n.zero, .int .i64 n.th, .int .i64 n.tw, .int .i64 n.tc, vw, vb] : Array Value)[o]?) ∧ Grown W w' ∧ W.heap.size + 1 ≤ w'.heap.size)
    case first =>
      cases e1 : (n.k == 0) with
      | true =>
        cases e2 : (n.stride == 0) with
        | true =>
          obtain rfl : k0 = true := Hk0.out.mpr ⟨by simpa using e1, by simpa using e2⟩
          go_wp2_with fail
          go_meet
          exact ⟨rfl, b3, g3, s3⟩
        | false =>
          obtain rfl : k0 = false := Bool.eq_false_iff.mpr (fun h => by have := (Hk0.out.mp h).2; rw [this] at e2; cases e2)
          go_wp2_with fail
          go_meet
          exact ⟨rfl, b3, g3, s3⟩
      | false =>
        obtain rfl : k0 = false := Bool.eq_false_iff.mpr (fun h => by have := (Hk0.out.mp h).1; rw [this] at e1; cases e1)
        go_wp2_with fail
        go_meet
        exact ⟨rfl, b3, g3, s3⟩
    case rest =>
      obtain ⟨rfl, b4, g4, s4⟩ := hcut
      clear b3 g3 s3
      go_upto_if 24 with (go_at_call 45; with_reducible refine (window_any n.op tv _ Htv).mono ?_; rintro e w5 ⟨rfl, g⟩; obtain ⟨b5, g5, s5⟩ : (∀ o : Nat, w5.cell? ⟨W.heap.size, o, none⟩ = (#[.int .i64 n.op, vi, .int .i64 n.k, .int .i64 n.stride, .int .i64 n.pad, .int .i64 n.out, .int .i64 n.mul, .int .i64 n.shift, .int .i64 n.zero, .int .i64 n.th, .int .i64 n.tw, .int .i64 n.tc, vw, vb] : Array Value)[o]?) ∧ Grown W w5 ∧ W.heap.size + 1 ≤ w5.heap.size := by (exact kKeep))
      clear b4 g4 s4 g
      go_cut [6] (fun c w' => c = .bool tk ∧ (∀ o : Nat, w'.cell? ⟨W.heap.size, o, none⟩ = (#[.int .i64 n.op, vi, .int .i64 n.k, .int .i64 n.stride, .int .i64 n.pad, .int .i64 n.out, .int .i64 n.mul, .int .i64 n.shift, .int .i64 n.zero, .int .i64 n.th, .int .i64 n.tw, .int .i64 n.tc, vw, vb] : Array Value)[o]?) ∧ Grown W w' ∧ W.heap.size + 1 ≤ w'.heap.size)
      case first =>
        cases tv with
        | true =>
          have HK : Hid (tk = true ↔ k1 = true ∧ k2 = true) := Lib.hid (by rw [Htk.out, Hk1.out, Hk2.out]; unfold nodeK; rw [if_pos (Htv.out.mp rfl)])
          go_wp2_with fail
          refine (rin_any n.k 1 3 k1 _ Hk1).mono ?_
          rintro e w6 ⟨rfl, g⟩
          obtain ⟨b6, g6, s6⟩ : (∀ o : Nat, w6.cell? ⟨W.heap.size, o, none⟩ = (#[.int .i64 n.op, vi, .int .i64 n.k, .int .i64 n.stride, .int .i64 n.pad, .int .i64 n.out, .int .i64 n.mul, .int .i64 n.shift, .int .i64 n.zero, .int .i64 n.th, .int .i64 n.tw, .int .i64 n.tc, vw, vb] : Array Value)[o]?) ∧ Grown W w6 ∧ W.heap.size + 1 ≤ w6.heap.size := by (exact kKeep)
          clear b5 g5 s5 g
          cases k1 with
          | true =>
            go_wp2_with fail
            refine (rin_any n.stride 1 2 k2 _ Hk2).mono ?_
            rintro e w7 ⟨rfl, g⟩
            obtain ⟨b7, g7, s7⟩ : (∀ o : Nat, w7.cell? ⟨W.heap.size, o, none⟩ = (#[.int .i64 n.op, vi, .int .i64 n.k, .int .i64 n.stride, .int .i64 n.pad, .int .i64 n.out, .int .i64 n.mul, .int .i64 n.shift, .int .i64 n.zero, .int .i64 n.th, .int .i64 n.tw, .int .i64 n.tc, vw, vb] : Array Value)[o]?) ∧ Grown W w7 ∧ W.heap.size + 1 ≤ w7.heap.size := by (exact kKeep)
            clear b6 g6 s6 g
            obtain rfl : tk = k2 := by
              exact bool_eq (HK.out.trans ⟨fun h => h.2, fun h => ⟨by trivial, h⟩⟩)
            go_wp2_with fail
            go_meet
            exact ⟨rfl, b7, g7, s7⟩
          | false =>
            obtain rfl : tk = false := Bool.eq_false_iff.mpr (fun h => by have := (HK.out.mp h).1; cases this)
            go_wp2_with fail
            go_meet
            exact ⟨rfl, b6, g6, s6⟩
        | false =>
          obtain rfl : tk = k0 := by
            exact bool_eq (by rw [Htk.out, Hk0.out]; unfold nodeK; rw [if_neg (fun h => by have := Htv.out.mpr h; cases this)])
          go_wp2_with fail
          go_meet
          exact ⟨rfl, b5, g5, s5⟩
      case rest =>
        obtain ⟨rfl, b6, g6, s6⟩ := hcut
        clear b5 g5 s5
        go_upto_region 7 with fail
        go_cut [7] (fun c w' => c = .bool p0 ∧ (∀ o : Nat, w'.cell? ⟨W.heap.size, o, none⟩ = (#[.int .i64 n.op, vi, .int .i64 n.k, .int .i64 n.stride, .int .i64 n.pad, .int .i64 n.out, .int .i64 n.mul, .int .i64 n.shift, .int .i64 n.zero, .int .i64 n.th, .int .i64 n.tw, .int .i64 n.tc, vw, vb] : Array Value)[o]?) ∧ Grown W w' ∧ W.heap.size + 1 ≤ w'.heap.size)
        case first =>
          obtain rfl : (n.pad == 0) = p0 := by
            exact bool_eq (by rw [Hp0.out, beq_iff_eq])
          go_wp2_with fail
          go_meet
          exact ⟨rfl, b6, g6, s6⟩
        case rest =>
          obtain ⟨rfl, b7, g7, s7⟩ := hcut
          clear b6 g6 s6
          go_upto_region 8 with fail
          go_cut [43] (fun c w' => c = .bool tc ∧ (∀ o : Nat, w'.cell? ⟨W.heap.size, o, none⟩ = (#[.int .i64 n.op, vi, .int .i64 n.k, .int .i64 n.stride, .int .i64 n.pad, .int .i64 n.out, .int .i64 n.mul, .int .i64 n.shift, .int .i64 n.zero, .int .i64 n.th, .int .i64 n.tw, .int .i64 n.tc, vw, vb] : Array Value)[o]?) ∧ Grown W w' ∧ W.heap.size + 1 ≤ w'.heap.size)
          case first =>
            cases e1 : (n.op == 1) with
            | true =>
              obtain rfl : tc = true := Htc.out.mpr (.inl (by simpa using e1))
              go_wp2_with fail
              go_meet
              exact ⟨rfl, b7, g7, s7⟩
            | false =>
              cases e2 : (n.op == 2) with
              | true =>
                obtain rfl : tc = true := Htc.out.mpr (.inr (by simpa using e2))
                go_wp2_with fail
                go_meet
                exact ⟨rfl, b7, g7, s7⟩
              | false =>
                obtain rfl : tc = false := Bool.eq_false_iff.mpr (fun h => by rcases Htc.out.mp h with h | h; (rw [h] at e1; cases e1); (rw [h] at e2; cases e2))
                go_wp2_with fail
                go_meet
                exact ⟨rfl, b7, g7, s7⟩
          case rest =>
            obtain ⟨rfl, b8, g8, s8⟩ := hcut
            clear b7 g7 s7
            go_upto_if 43 with fail
            go_cut [7] (fun c w' => c = .bool tb ∧ (∀ o : Nat, w'.cell? ⟨W.heap.size, o, none⟩ = (#[.int .i64 n.op, vi, .int .i64 n.k, .int .i64 n.stride, .int .i64 n.pad, .int .i64 n.out, .int .i64 n.mul, .int .i64 n.shift, .int .i64 n.zero, .int .i64 n.th, .int .i64 n.tw, .int .i64 n.tc, vw, vb] : Array Value)[o]?) ∧ Grown W w' ∧ W.heap.size + 1 ≤ w'.heap.size)
            case first =>
              cases tc with
              | true =>
                have HK : Hid (tb = true ↔ p1 = true ∧ n.pad < n.k) := Lib.hid (by rw [Htb.out, Hp1.out, if_pos (Htc.out.mp rfl)])
                go_wp2_with fail
                refine (rin_any n.pad 0 1 p1 _ Hp1).mono ?_
                rintro e w9 ⟨rfl, g⟩
                obtain ⟨b9, g9, s9⟩ : (∀ o : Nat, w9.cell? ⟨W.heap.size, o, none⟩ = (#[.int .i64 n.op, vi, .int .i64 n.k, .int .i64 n.stride, .int .i64 n.pad, .int .i64 n.out, .int .i64 n.mul, .int .i64 n.shift, .int .i64 n.zero, .int .i64 n.th, .int .i64 n.tw, .int .i64 n.tc, vw, vb] : Array Value)[o]?) ∧ Grown W w9 ∧ W.heap.size + 1 ≤ w9.heap.size := by (exact kKeep)
                clear b8 g8 s8 g
                cases p1 with
                | true =>
                  cases e2 : decide (n.pad < n.k) with
                  | true =>
                    obtain rfl : tb = true := HK.out.mpr ⟨rfl, by simpa using e2⟩
                    go_wp2_with fail
                    go_meet
                    exact ⟨rfl, b9, g9, s9⟩
                  | false =>
                    obtain rfl : tb = false := Bool.eq_false_iff.mpr (fun h => by have := (HK.out.mp h).2; simp at e2; omega)
                    go_wp2_with fail
                    go_meet
                    exact ⟨rfl, b9, g9, s9⟩
                | false =>
                  obtain rfl : tb = false := Bool.eq_false_iff.mpr (fun h => by have := (HK.out.mp h).1; cases this)
                  go_wp2_with fail
                  go_meet
                  exact ⟨rfl, b9, g9, s9⟩
              | false =>
                obtain rfl : tb = p0 := by
                  exact bool_eq (by rw [Htb.out, Hp0.out, if_neg (fun h => by have := Htc.out.mpr h; cases this)])
                go_wp2_with fail
                go_meet
                exact ⟨rfl, b8, g8, s8⟩
            case rest =>
              obtain ⟨rfl, b9, g9, s9⟩ := hcut
              clear b8 g8 s8
              go_upto_if 56 with fail
              go_cut [7] (fun c w' => c = .bool tp ∧ (∀ o : Nat, w'.cell? ⟨W.heap.size, o, none⟩ = (#[.int .i64 n.op, vi, .int .i64 n.k, .int .i64 n.stride, .int .i64 n.pad, .int .i64 n.out, .int .i64 n.mul, .int .i64 n.shift, .int .i64 n.zero, .int .i64 n.th, .int .i64 n.tw, .int .i64 n.tc, vw, vb] : Array Value)[o]?) ∧ Grown W w' ∧ W.heap.size + 1 ≤ w'.heap.size)
              case first =>
                cases e9 : (n.op == 9) with
                | true =>
                  have o9 : n.op = 9 := by simpa using e9
                  obtain rfl : (n.pad == 1) = tp := by
                    exact bool_eq (by rw [Htp.out, beq_iff_eq]; unfold nodeP; rw [if_pos o9])
                  clear o9
                  go_wp2_with fail
                  go_meet
                  exact ⟨rfl, b9, g9, s9⟩
                | false =>
                  obtain rfl : tp = tb := by
                    have o9 : ¬ n.op = 9 := by intro f; rw [f] at e9; cases e9
                    exact bool_eq (by rw [Htp.out, Htb.out]; unfold nodeP; rw [if_neg o9])
                  go_wp2_with fail
                  go_meet
                  exact ⟨rfl, b9, g9, s9⟩
              case rest =>
                obtain ⟨rfl, b10, g10, s10⟩ := hcut
                clear b9 g9 s9
                go_upto_region 13 with fail
                go_cut [70] (fun c w' => c = .bool tf ∧ (∀ o : Nat, w'.cell? ⟨W.heap.size, o, none⟩ = (#[.int .i64 n.op, vi, .int .i64 n.k, .int .i64 n.stride, .int .i64 n.pad, .int .i64 n.out, .int .i64 n.mul, .int .i64 n.shift, .int .i64 n.zero, .int .i64 n.th, .int .i64 n.tw, .int .i64 n.tc, vw, vb] : Array Value)[o]?) ∧ Grown W w' ∧ W.heap.size + 1 ≤ w'.heap.size)
                case first =>
                  cases e1 : (n.op == 1) with
                  | true =>
                    obtain rfl : tf = true := Htf.out.mpr (.inl (by simpa using e1))
                    go_wp2_with fail
                    go_meet
                    exact ⟨rfl, b10, g10, s10⟩
                  | false =>
                    cases e2 : (n.op == 3) with
                    | true =>
                      obtain rfl : tf = true := Htf.out.mpr (.inr (by simpa using e2))
                      go_wp2_with fail
                      go_meet
                      exact ⟨rfl, b10, g10, s10⟩
                    | false =>
                      obtain rfl : tf = false := Bool.eq_false_iff.mpr (fun h => by rcases Htf.out.mp h with h | h; (rw [h] at e1; cases e1); (rw [h] at e2; cases e2))
                      go_wp2_with fail
                      go_meet
                      exact ⟨rfl, b10, g10, s10⟩
                case rest =>
                  obtain ⟨rfl, b11, g11, s11⟩ := hcut
                  clear b10 g10 s10
                  go_upto_if 70 with fail
                  go_cut [8] (fun c w' => c = .bool tq ∧ (∀ o : Nat, w'.cell? ⟨W.heap.size, o, none⟩ = (#[.int .i64 n.op, vi, .int .i64 n.k, .int .i64 n.stride, .int .i64 n.pad, .int .i64 n.out, .int .i64 n.mul, .int .i64 n.shift, .int .i64 n.zero, .int .i64 n.th, .int .i64 n.tw, .int .i64 n.tc, vw, vb] : Array Value)[o]?) ∧ Grown W w' ∧ W.heap.size + 1 ≤ w'.heap.size)
                  case first =>
                    cases tf with
                    | true =>
                      have HK : Hid (tq = true ↔ 1 ≤ n.out ∧ n.out ≤ 8) := Lib.hid (by rw [Htq.out]; unfold nodeO; rw [if_pos (Htf.out.mp rfl)])
                      go_wp2_with fail
                      refine (rin_any n.out 1 8 tq _ HK).mono ?_
                      rintro e w12 ⟨rfl, g⟩
                      obtain ⟨b12, g12, s12⟩ : (∀ o : Nat, w12.cell? ⟨W.heap.size, o, none⟩ = (#[.int .i64 n.op, vi, .int .i64 n.k, .int .i64 n.stride, .int .i64 n.pad, .int .i64 n.out, .int .i64 n.mul, .int .i64 n.shift, .int .i64 n.zero, .int .i64 n.th, .int .i64 n.tw, .int .i64 n.tc, vw, vb] : Array Value)[o]?) ∧ Grown W w12 ∧ W.heap.size + 1 ≤ w12.heap.size := by (exact kKeep)
                      clear b11 g11 s11 g
                      go_wp2_with fail
                      go_meet
                      exact ⟨rfl, b12, g12, s12⟩
                    | false =>
                      obtain rfl : (n.out == 0) = tq := by
                        exact bool_eq (by rw [Htq.out, beq_iff_eq]; unfold nodeO; rw [if_neg (fun h => by have := Htf.out.mpr h; cases this)])
                      go_wp2_with fail
                      go_meet
                      exact ⟨rfl, b11, g11, s11⟩
                  case rest =>
                    obtain ⟨rfl, b12, g12, s12⟩ := hcut
                    clear b11 g11 s11
                    go_upto_region 15 with fail
                    go_cut [9] (fun c w' => c = .bool tt ∧ (∀ o : Nat, w'.cell? ⟨W.heap.size, o, none⟩ = (#[.int .i64 n.op, vi, .int .i64 n.k, .int .i64 n.stride, .int .i64 n.pad, .int .i64 n.out, .int .i64 n.mul, .int .i64 n.shift, .int .i64 n.zero, .int .i64 n.th, .int .i64 n.tw, .int .i64 n.tc, vw, vb] : Array Value)[o]?) ∧ Grown W w' ∧ W.heap.size + 1 ≤ w'.heap.size)
                    case first =>
                      cases e1 : (n.th == 0) with
                      | true =>
                        cases e2 : (n.tw == 0) with
                        | true =>
                          cases e3 : (n.tc == 0) with
                          | true =>
                            obtain rfl : tt = true := Htt.out.mpr (.inl ⟨by simpa using e1, by simpa using e2, by simpa using e3⟩)
                            go_wp2_with fail
                            go_meet
                            exact ⟨rfl, b12, g12, s12⟩
                          | false =>
                            cases e4 : (n.op == 11) with
                            | true =>
                              obtain rfl : tt = true := Htt.out.mpr (.inr (by simpa using e4))
                              go_wp2_with fail
                              go_meet
                              exact ⟨rfl, b12, g12, s12⟩
                            | false =>
                              obtain rfl : tt = false := Bool.eq_false_iff.mpr (fun h => by rcases Htt.out.mp h with h | h; (rw [h.2.2] at e3; cases e3); (rw [h] at e4; cases e4))
                              go_wp2_with fail
                              go_meet
                              exact ⟨rfl, b12, g12, s12⟩
                        | false =>
                          cases e4 : (n.op == 11) with
                          | true =>
                            obtain rfl : tt = true := Htt.out.mpr (.inr (by simpa using e4))
                            go_wp2_with fail
                            go_meet
                            exact ⟨rfl, b12, g12, s12⟩
                          | false =>
                            obtain rfl : tt = false := Bool.eq_false_iff.mpr (fun h => by rcases Htt.out.mp h with h | h; (rw [h.2.1] at e2; cases e2); (rw [h] at e4; cases e4))
                            go_wp2_with fail
                            go_meet
                            exact ⟨rfl, b12, g12, s12⟩
                      | false =>
                        cases e4 : (n.op == 11) with
                        | true =>
                          obtain rfl : tt = true := Htt.out.mpr (.inr (by simpa using e4))
                          go_wp2_with fail
                          go_meet
                          exact ⟨rfl, b12, g12, s12⟩
                        | false =>
                          obtain rfl : tt = false := Bool.eq_false_iff.mpr (fun h => by rcases Htt.out.mp h with h | h; (rw [h.1] at e1; cases e1); (rw [h] at e4; cases e4))
                          go_wp2_with fail
                          go_meet
                          exact ⟨rfl, b12, g12, s12⟩
                    case rest =>
                      obtain ⟨rfl, b13, g13, s13⟩ := hcut
                      clear b12 g12 s12
                      go_upto_region 16 with fail
                      go_cut [10] (fun c w' => c = .bool ts ∧ (∀ o : Nat, w'.cell? ⟨W.heap.size, o, none⟩ = (#[.int .i64 n.op, vi, .int .i64 n.k, .int .i64 n.stride, .int .i64 n.pad, .int .i64 n.out, .int .i64 n.mul, .int .i64 n.shift, .int .i64 n.zero, .int .i64 n.th, .int .i64 n.tw, .int .i64 n.tc, vw, vb] : Array Value)[o]?) ∧ Grown W w' ∧ W.heap.size + 1 ≤ w'.heap.size)
                      case first =>
                        have HK : Hid (ts = true ↔ s1 = true ∧ s2 = true ∧ s3 = true) := Lib.hid (by rw [Hts.out, Hs1.out, Hs2.out, Hs3.out]; rfl)
                        go_wp2_with fail
                        refine (rin_any n.mul 1 32767 s1 _ Hs1).mono ?_
                        rintro e w14 ⟨rfl, g⟩
                        obtain ⟨b14, g14, s14⟩ : (∀ o : Nat, w14.cell? ⟨W.heap.size, o, none⟩ = (#[.int .i64 n.op, vi, .int .i64 n.k, .int .i64 n.stride, .int .i64 n.pad, .int .i64 n.out, .int .i64 n.mul, .int .i64 n.shift, .int .i64 n.zero, .int .i64 n.th, .int .i64 n.tw, .int .i64 n.tc, vw, vb] : Array Value)[o]?) ∧ Grown W w14 ∧ W.heap.size + 1 ≤ w14.heap.size := by (exact kKeep)
                        clear b13 g13 s13 g
                        cases s1 with
                        | true =>
                          go_wp2_with fail
                          refine (rin_any n.shift 0 31 s2 _ Hs2).mono ?_
                          rintro e w15 ⟨rfl, g⟩
                          obtain ⟨b15, g15, s15⟩ : (∀ o : Nat, w15.cell? ⟨W.heap.size, o, none⟩ = (#[.int .i64 n.op, vi, .int .i64 n.k, .int .i64 n.stride, .int .i64 n.pad, .int .i64 n.out, .int .i64 n.mul, .int .i64 n.shift, .int .i64 n.zero, .int .i64 n.th, .int .i64 n.tw, .int .i64 n.tc, vw, vb] : Array Value)[o]?) ∧ Grown W w15 ∧ W.heap.size + 1 ≤ w15.heap.size := by (exact kKeep)
                          clear b14 g14 s14 g
                          cases s2 with
                          | true =>
                            go_wp2_with fail
                            refine (rin_any n.zero (-128) 127 s3 _ Hs3).mono ?_
                            rintro e w16 ⟨rfl, g⟩
                            obtain ⟨b16, g16, s16⟩ : (∀ o : Nat, w16.cell? ⟨W.heap.size, o, none⟩ = (#[.int .i64 n.op, vi, .int .i64 n.k, .int .i64 n.stride, .int .i64 n.pad, .int .i64 n.out, .int .i64 n.mul, .int .i64 n.shift, .int .i64 n.zero, .int .i64 n.th, .int .i64 n.tw, .int .i64 n.tc, vw, vb] : Array Value)[o]?) ∧ Grown W w16 ∧ W.heap.size + 1 ≤ w16.heap.size := by (exact kKeep)
                            clear b15 g15 s15 g
                            obtain rfl : ts = s3 := by
                              exact bool_eq (HK.out.trans ⟨fun h => h.2.2, fun h => ⟨by trivial, by trivial, h⟩⟩)
                            go_wp2_with fail
                            go_meet
                            exact ⟨rfl, b16, g16, s16⟩
                          | false =>
                            obtain rfl : ts = false := Bool.eq_false_iff.mpr (fun h => by have := (HK.out.mp h).2.1; cases this)
                            go_wp2_with fail
                            go_meet
                            exact ⟨rfl, b15, g15, s15⟩
                        | false =>
                          obtain rfl : ts = false := Bool.eq_false_iff.mpr (fun h => by have := (HK.out.mp h).1; cases this)
                          go_wp2_with fail
                          go_meet
                          exact ⟨rfl, b14, g14, s14⟩
                      case rest =>
                        obtain ⟨rfl, b14, g14, s14⟩ := hcut
                        clear b13 g13 s13
                        go_wp2_with fail
                        refine (rin_any n.op 1 12 th _ Hth).mono ?_
                        rintro e w15 ⟨rfl, g⟩
                        obtain ⟨b15, g15, s15⟩ : (∀ o : Nat, w15.cell? ⟨W.heap.size, o, none⟩ = (#[.int .i64 n.op, vi, .int .i64 n.k, .int .i64 n.stride, .int .i64 n.pad, .int .i64 n.out, .int .i64 n.mul, .int .i64 n.shift, .int .i64 n.zero, .int .i64 n.th, .int .i64 n.tw, .int .i64 n.tc, vw, vb] : Array Value)[o]?) ∧ Grown W w15 ∧ W.heap.size + 1 ≤ w15.heap.size := by (exact kKeep)
                        clear b14 g14 s14 g
                        cases th with
                        | false =>
                          obtain rfl : t = false := Bool.eq_false_iff.mpr (fun h => by have := (HT.out.mp h).1; cases this)
                          go_wp2_with fail
                          go_ret
                          exact ⟨rfl, g15⟩
                        | true =>
                          cases em : (m == q5) with
                          | false =>
                            obtain rfl : t = false := Bool.eq_false_iff.mpr (fun h => by have := (HT.out.mp h).2.1; rw [this] at em; simp at em)
                            go_wp2_with fail
                            go_ret
                            exact ⟨rfl, g15⟩
                          | true =>
                            cases tk with
                            | false =>
                              obtain rfl : t = false := Bool.eq_false_iff.mpr (fun h => by have := (HT.out.mp h).2.2.1; cases this)
                              go_wp2_with fail
                              go_ret
                              exact ⟨rfl, g15⟩
                            | true =>
                              cases tp with
                              | false =>
                                obtain rfl : t = false := Bool.eq_false_iff.mpr (fun h => by have := (HT.out.mp h).2.2.2.1; cases this)
                                go_wp2_with fail
                                go_ret
                                exact ⟨rfl, g15⟩
                              | true =>
                                cases tq with
                                | false =>
                                  obtain rfl : t = false := Bool.eq_false_iff.mpr (fun h => by have := (HT.out.mp h).2.2.2.2.1; cases this)
                                  go_wp2_with fail
                                  go_ret
                                  exact ⟨rfl, g15⟩
                                | true =>
                                  cases tt with
                                  | false =>
                                    obtain rfl : t = false := Bool.eq_false_iff.mpr (fun h => by have := (HT.out.mp h).2.2.2.2.2.1; cases this)
                                    go_wp2_with fail
                                    go_ret
                                    exact ⟨rfl, g15⟩
                                  | true =>
                                    obtain rfl : t = ts := by
                                      exact bool_eq (HT.out.trans ⟨fun h => h.2.2.2.2.2.2, fun h => ⟨by trivial, (beq_iff_eq.mp em), by trivial, by trivial, by trivial, by trivial, h⟩⟩)
                                    go_wp2_with fail
                                    go_ret
                                    exact ⟨rfl, g15⟩
end Go.Proofs.Ytgbedoffgahhaaa
