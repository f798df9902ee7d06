/- graph: what opOf hands back makes and counts. -/
import Derived.Test.YtgbedoffgahhaaaG9
import Derived.Test.YtgbedoffgahhaaaG6A
import Derived.Test.YtgbedoffgahhaaaG6B
import Derived.Test.YtgbedoffgahhaaaG6C
namespace Go.Proofs.Ytgbedoffgahhaaa
open Go.ChangeShapes Go.WideShapes Go.ChangeAt Go.RowKit
set_option maxRecDepth 20000
set_option linter.unusedVariables false

def Enters (fid : FuncId) : Prop := ∀ (xs : Array Value) (w : World), (callFunc fid xs).run Try.prog w = .ok (.enter fid xs) w

/-- A maker's value in world W: called in any world that has grown from W, of this node and these values, it tells the shape s. -/
def Maker0 (mk : Value) (n : NodeD) (vi vw vb lv : Value) (s : Int × Int × Int) (W : World) : Prop :=
  ∃ fid, mk = .func (.func fid) #[] #[] ∧ Enters fid ∧ ∀ w', Past W w' → Calls Try.prog fid #[.agg #[.int .i64 n.op, vi, .int .i64 n.k, .int .i64 n.stride, .int .i64 n.pad, .int .i64 n.out, .int .i64 n.mul, .int .i64 n.shift, .int .i64 n.zero, .int .i64 n.th, .int .i64 n.tw, .int .i64 n.tc, vw, vb], lv] w' fun e w'' => e = .returned (.agg #[.int .i64 s.1, .int .i64 s.2.1, .int .i64 s.2.2]) ∧ Grown w' w''
def Maker1 (mk : Value) (n : NodeD) (vi vw vb lv : Value) (s : Int × Int × Int) (W : World) : Prop :=
  ∃ fid p, mk = .func (.func fid) #[] #[.pointer (some p)] ∧ Enters fid ∧ ∀ w', Past W w' → Calls Try.prog fid #[.agg #[.int .i64 n.op, vi, .int .i64 n.k, .int .i64 n.stride, .int .i64 n.pad, .int .i64 n.out, .int .i64 n.mul, .int .i64 n.shift, .int .i64 n.zero, .int .i64 n.th, .int .i64 n.tw, .int .i64 n.tc, vw, vb], lv, .pointer (some p)] w' fun e w'' => e = .returned (.agg #[.int .i64 s.1, .int .i64 s.2.1, .int .i64 s.2.2]) ∧ Grown w' w''
/-- A counter's value, of a first value's shape and a made one. -/
def Counter (ct : Value) (n : NodeD) (vi vw vb : Value) (x : ValD) (s : Int × Int × Int) (W : World) : Prop :=
  ∃ fid p, ct = .func (.func fid) #[] #[.pointer (some p)] ∧ Enters fid ∧ ∀ w', Past W w' → Calls Try.prog fid #[.agg #[.int .i64 n.op, vi, .int .i64 n.k, .int .i64 n.stride, .int .i64 n.pad, .int .i64 n.out, .int .i64 n.mul, .int .i64 n.shift, .int .i64 n.zero, .int .i64 n.th, .int .i64 n.tw, .int .i64 n.tc, vw, vb], .agg #[.int .i64 x.h, .int .i64 x.w, .int .i64 x.c], .agg #[.int .i64 s.1, .int .i64 s.2.1, .int .i64 s.2.2], .pointer (some p)] w' fun e w'' => e = .returned (.tuple #[.int .i64 (wantS n x s.2.2).1, .int .i64 (wantS n x s.2.2).2]) ∧ Grown w' w''

/-- What is known where a maker is called. -/
def Pre (n : NodeD) (vs : List ValD) (lv : Value) (W : World) : Prop := takesP (opD n.op) n vs ∧ (∀ j, j < vs.length → mayV (vs.getD j default)) ∧ IsVals W lv vs

def OpPost (n : NodeD) (W : World) (e : Ending) (w' : World) : Prop := ∃ (mf : FuncId) (mc : Array Value) (cf : FuncId) (p : Addr), e = .returned (.tuple #[opV (opD n.op) (.func (.func mf) #[] mc) (.func (.func cf) #[] #[.pointer (some p)]), .bool true]) ∧ Grown W w' ∧
  (∀ vi vw vb lv vs, Pre n vs lv W → (Maker0 (.func (.func mf) #[] mc) n vi vw vb lv (madeS n vs) w' ∨ Maker1 (.func (.func mf) #[] mc) n vi vw vb lv (madeS n vs) w') ∧ (mayT (madeS n vs) → Counter (.func (.func cf) #[] #[.pointer (some p)]) n vi vw vb (vs.getD 0 default) (madeS n vs) w'))

theorem slice_of {W : World} {v : Value} {vs : List ValD} (h : IsVals W v vs) (h0 : 0 < vs.length) : ∃ b off cap, v = .slice (some ⟨b, off, none⟩) vs.length cap ∧ vs.length ≤ cap ∧ cap ≤ maxLen ∧ b < W.heap.size ∧ ∀ i, i < vs.length → ValAt W b (off + i * 4) (vs.getD i default) := by
  obtain ⟨A, c, rfl, h1, h2, h3, h4, h5⟩ := h
  obtain ⟨b, off, rfl, hb, hc⟩ := h5 h0
  exact ⟨b, off, c, rfl, h1, h2, hb, hc⟩

theorem enters_slid : Enters 84 := fun xs w => by kernel_rfl
theorem enters_ofChannels : Enters 87 := fun xs w => by kernel_rfl
theorem enters_always : Enters 88 := fun xs w => by kernel_rfl
theorem enters_outChans : Enters 68 := fun xs w => by kernel_rfl
theorem enters_sameChans : Enters 71 := fun xs w => by kernel_rfl
theorem enters_deepWindow : Enters 70 := fun xs w => by kernel_rfl
theorem enters_flatWindow : Enters 72 := fun xs w => by kernel_rfl
theorem enters_everything : Enters 74 := fun xs w => by kernel_rfl
theorem enters_point : Enters 73 := fun xs w => by kernel_rfl
theorem enters_alike : Enters 76 := fun xs w => by kernel_rfl
theorem enters_framed : Enters 77 := fun xs w => by kernel_rfl
theorem enters_stacked : Enters 78 := fun xs w => by kernel_rfl
theorem enters_reshaped : Enters 79 := fun xs w => by kernel_rfl

theorem getD_zero_of_length {vs : List ValD} (h : vs.length = 1) : vs = [vs.getD 0 default] := by
  match vs, h with
  | [x], _ => rfl

/-- slid's closure over outChans (conv). -/
theorem maker_slid_out {n : NodeD} {vs : List ValD} {p : Nat} {w : World} (hp : w.cell? ⟨p, 0, none⟩ = some (.func (.func 68) #[] #[])) (hb : p < w.heap.size) {W : World} (g : Grown W w) {vi vw vb lv : Value} (hv : IsVals W lv vs) (h0 : 0 < vs.length)
    (hs : madeS n vs = (outI (vs.getD 0 default).h n.k n.stride n.pad, outI (vs.getD 0 default).w n.k n.stride n.pad, n.out)) : Maker1 (.func (.func 84) #[] #[.pointer (some ⟨p, 0, none⟩)]) n vi vw vb lv (madeS n vs) w := by
  refine ⟨_, _, rfl, enters_slid, fun w' k => ?_⟩
  obtain ⟨b, off, cap, rfl, h1, h2, h3, h4⟩ := slice_of (hv.grow ((Grown.past g).trans k)) h0
  rw [hs]
  have x0 := h4 0 h0
  rw [show off + 0 * 4 = off by omega] at x0
  exact slid1_any n vi vw vb _ ⟨p, 0, none⟩ _ _ _ _ b off _ cap w' ((k.cell hb).trans hp) (Nat.lt_of_lt_of_le hb k.2.2.1) h0 h1 h3 x0 (Lib.hid rfl) (Lib.hid rfl) enters_outChans (fun w => outChans_any n vi vw vb _ _ _ w)

theorem maker_slid_same {n : NodeD} {vs : List ValD} {p : Nat} {w : World} (hp : w.cell? ⟨p, 0, none⟩ = some (.func (.func 71) #[] #[])) (hb : p < w.heap.size) {W : World} (g : Grown W w) {vi vw vb lv : Value} (hv : IsVals W lv vs) (h0 : 0 < vs.length)
    (hs : madeS n vs = (outI (vs.getD 0 default).h n.k n.stride n.pad, outI (vs.getD 0 default).w n.k n.stride n.pad, (vs.getD 0 default).c)) : Maker1 (.func (.func 84) #[] #[.pointer (some ⟨p, 0, none⟩)]) n vi vw vb lv (madeS n vs) w := by
  refine ⟨_, _, rfl, enters_slid, fun w' k => ?_⟩
  obtain ⟨b, off, cap, rfl, h1, h2, h3, h4⟩ := slice_of (hv.grow ((Grown.past g).trans k)) h0
  rw [hs]
  have x0 := h4 0 h0
  rw [show off + 0 * 4 = off by omega] at x0
  exact slid1_any n vi vw vb _ ⟨p, 0, none⟩ _ _ _ _ b off _ cap w' ((k.cell hb).trans hp) (Nat.lt_of_lt_of_le hb k.2.2.1) h0 h1 h3 x0 (Lib.hid rfl) (Lib.hid rfl) enters_sameChans (fun w => sameChans_any n vi vw vb _ _ _ w)

theorem maker_alike {n : NodeD} {vs : List ValD} {w : World} {W : World} (g : Grown W w) {vi vw vb lv : Value} (hv : IsVals W lv vs) (h0 : 0 < vs.length) (hs : madeS n vs = alikeS vs) : Maker0 (.func (.func 76) #[] #[]) n vi vw vb lv (madeS n vs) w := by
  refine ⟨_, rfl, enters_alike, fun w' k => ?_⟩
  obtain ⟨b, off, cap, rfl, h1, h2, h3, h4⟩ := slice_of (hv.grow ((Grown.past g).trans k)) h0
  rw [hs]
  exact alike_any n vi vw vb vs b off cap w' _ h0 h1 h2 h3 h4 (Lib.hid rfl)

theorem maker_point {n : NodeD} {vs : List ValD} {w : World} {vi vw vb lv : Value} (hs : madeS n vs = (1, 1, n.out)) : Maker0 (.func (.func 73) #[] #[]) n vi vw vb lv (madeS n vs) w := by
  refine ⟨_, rfl, enters_point, fun w' k => ?_⟩
  rw [hs]
  exact point_any n vi vw vb lv w'

theorem maker_framed {n : NodeD} {vs : List ValD} {w : World} {W : World} (g : Grown W w) {vi vw vb lv : Value} (hv : IsVals W lv vs) (h0 : 0 < vs.length) (hm : mayV (vs.getD 0 default)) (hp : n.pad = 1) (hs : madeS n vs = ((vs.getD 0 default).h + 2, (vs.getD 0 default).w + 2, (vs.getD 0 default).c)) : Maker0 (.func (.func 77) #[] #[]) n vi vw vb lv (madeS n vs) w := by
  refine ⟨_, rfl, enters_framed, fun w' k => ?_⟩
  obtain ⟨b, off, cap, rfl, h1, h2, h3, h4⟩ := slice_of (hv.grow ((Grown.past g).trans k)) h0
  rw [hs]
  have x0 := h4 0 h0
  rw [show off + 0 * 4 = off by omega] at x0
  exact framed_any n vi vw vb _ b off _ cap w' h0 h1 h3 x0 hm hp

theorem maker_stacked {n : NodeD} {vs : List ValD} {w : World} {W : World} (g : Grown W w) {vi vw vb lv : Value} (hv : IsVals W lv vs) (h0 : 1 < vs.length) (hm : mayV (vs.getD 0 default)) (hm' : mayV (vs.getD 1 default)) (hs : madeS n vs = if (vs.getD 0 default).h = (vs.getD 1 default).h ∧ (vs.getD 0 default).w = (vs.getD 1 default).w then ((vs.getD 0 default).h, (vs.getD 0 default).w, (vs.getD 0 default).c + (vs.getD 1 default).c) else (0, 0, 0)) : Maker0 (.func (.func 78) #[] #[]) n vi vw vb lv (madeS n vs) w := by
  refine ⟨_, rfl, enters_stacked, fun w' k => ?_⟩
  obtain ⟨b, off, cap, rfl, h1, h2, h3, h4⟩ := slice_of (hv.grow ((Grown.past g).trans k)) (by omega)
  have x0 := h4 0 (by omega)
  have x1 := h4 1 h0
  rw [show off + 0 * 4 = off by omega] at x0
  rw [show off + 1 * 4 = off + 4 by omega] at x1
  exact stacked_any n vi vw vb _ _ b off _ cap w' h0 h1 h3 x0 x1 hm hm' _ (Lib.hid hs)

theorem maker_reshaped {n : NodeD} {vs : List ValD} {w : World} {W : World} (g : Grown W w) {vi vw vb lv : Value} (hv : IsVals W lv vs) (h0 : 0 < vs.length) (hs : madeS n vs = if sizeI n.th n.tw n.tc = sizeI (vs.getD 0 default).h (vs.getD 0 default).w (vs.getD 0 default).c then (n.th, n.tw, n.tc) else (0, 0, 0)) : Maker0 (.func (.func 79) #[] #[]) n vi vw vb lv (madeS n vs) w := by
  refine ⟨_, rfl, enters_reshaped, fun w' k => ?_⟩
  obtain ⟨b, off, cap, rfl, h1, h2, h3, h4⟩ := slice_of (hv.grow ((Grown.past g).trans k)) h0
  have x0 := h4 0 h0
  rw [show off + 0 * 4 = off by omega] at x0
  exact reshaped_any n vi vw vb _ _ _ b off _ cap w' h0 h1 h3 x0 (Lib.hid rfl) (Lib.hid rfl) _ (Lib.hid hs)

theorem counter_always {n : NodeD} {m : Int} {p : Nat} {w : World} {x : ValD} {s : Int × Int × Int} {vi vw vb : Value} (hp : w.cell? ⟨p, 0, none⟩ = some (.int .i64 m)) (hb : p < w.heap.size) (hs : wantS n x s.2.2 = (m, 0)) : Counter (.func (.func 88) #[] #[.pointer (some ⟨p, 0, none⟩)]) n vi vw vb x s w := by
  refine ⟨_, _, rfl, enters_always, fun w' k => ?_⟩
  rw [hs]
  exact always1_any n vi vw vb _ _ _ _ _ _ m ⟨p, 0, none⟩ w' ((k.cell hb).trans hp) (Nat.lt_of_lt_of_le hb k.2.2.1)

theorem counter_of {n : NodeD} {m : Int} {p : Nat} {fid : FuncId} {w : World} {x : ValD} {s : Int × Int × Int} {vi vw vb : Value} (hp : w.cell? ⟨p, 0, none⟩ = some (.func (.func fid) #[] #[])) (hb : p < w.heap.size) (m1 : 0 ≤ m) (m2 : m ≤ 2048) (ms : mayT s) (hE : Enters fid)
    (hF : ∀ w, Calls Try.prog fid #[.agg #[.int .i64 n.op, vi, .int .i64 n.k, .int .i64 n.stride, .int .i64 n.pad, .int .i64 n.out, .int .i64 n.mul, .int .i64 n.shift, .int .i64 n.zero, .int .i64 n.th, .int .i64 n.tw, .int .i64 n.tc, vw, vb], .agg #[.int .i64 x.h, .int .i64 x.w, .int .i64 x.c]] w fun e w' => e = .returned (.int .i64 m) ∧ Grown w w') (hs : wantS n x s.2.2 = (m * s.2.2, s.2.2)) : Counter (.func (.func 87) #[] #[.pointer (some ⟨p, 0, none⟩)]) n vi vw vb x s w := by
  refine ⟨_, _, rfl, enters_ofChannels, fun w' k => ?_⟩
  rw [hs]
  exact ofChannels1_any n vi vw vb _ _ _ _ _ _ m ⟨p, 0, none⟩ fid w' ((k.cell hb).trans hp) (Nat.lt_of_lt_of_le hb k.2.2.1) m1 m2 ms.2.2.2.2.1 ms.2.2.2.2.2 hE hF
end Go.Proofs.Ytgbedoffgahhaaa
