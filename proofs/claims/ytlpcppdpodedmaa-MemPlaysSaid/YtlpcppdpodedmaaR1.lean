/- The reference of layer 11: Write. -/
import Derived.Test.YtlpcppdpodedmaaR0
namespace Go.Proofs.Ytlpcppdpodedmaa
open Go.ChangeShapes Go.WideShapes Go.ChangeAt Go.RowKit
set_option maxRecDepth 20000
set_option linter.unusedVariables false
set_option linter.unusedSimpArgs false
/-- A row of puts that a call owns. -/
def OwnP (w : World) (base : Nat) (v : Value) (ps : List PutD) : Prop := w.ownsRow base 52 2 v ps.length (cellsP ps)
theorem ownP_lit (w : World) : OwnP (w.alloc (.cells #[] 52)) w.heap.size (.slice (some ⟨w.heap.size, 0, none⟩) 0 0) [] := World.ownsRow_lit w #[] 0 (Nat.le_refl _) (by decide) rfl
theorem OwnP.alloc {w : World} {base : Nat} {v : Value} {ps : List PutD} (h : OwnP w base v ps) (x : Obj) : OwnP (w.alloc x) base v ps := World.ownsRow.alloc h x
theorem OwnP.lt {w : World} {base : Nat} {v : Value} {ps : List PutD} (h : OwnP w base v ps) {k : Nat} (hk : v.ownBlock = some k) : base ≤ k := (World.ownsRow.lt h k hk).1
theorem OwnP.past {w w' : World} {base : Nat} {v : Value} {ps : List PutD} (h : OwnP w base v ps) (g : Past w w') : OwnP w' base v ps := by
  obtain ⟨hl, h⟩ := h
  refine ⟨hl, ?_⟩
  rcases h with ⟨rfl, h0⟩ | ⟨b, cap, cur, rfl, hb, hg, hn, hm, hs, ht⟩
  · exact .inl ⟨rfl, h0⟩
  · exact .inr ⟨b, cap, cur, rfl, hb, (g.2.2.2 b (Array.getElem?_eq_some_iff.1 hg).1).trans hg, hn, hm, hs, ht⟩
theorem infoP : (Try.prog.info? 52).map (fun i => (i.zero, i.size, i.bytes)) = some (some (.agg #[.int .i64 0, .slice none 0 0]), 2, 32) := by kernel_rfl
theorem OwnP.form {w : World} {base : Nat} {v : Value} {ps : List PutD} (h : OwnP w base v ps) : ∃ A cap, v = .slice A ps.length cap ∧ ps.length ≤ cap ∧ cap ≤ maxLen ∧ (A = none → cap = 0) ∧ (0 < ps.length → ∃ g, A = some ⟨g, 0, none⟩ ∧ base ≤ g ∧ g < w.heap.size ∧ ∀ j u, (cellsP ps)[j]? = some u → w.cell? ⟨g, j, none⟩ = some u) := by
  obtain ⟨hl, h⟩ := h
  rcases h with ⟨rfl, h0⟩ | ⟨b, cap, cur, rfl, hb, hg, hn, hm, hs, ht⟩
  · exact ⟨none, 0, by rw [h0], by omega, by decide, fun _ => rfl, fun h => by omega⟩
  · refine ⟨some ⟨b, 0, none⟩, cap, rfl, hn, hm, (fun h => by cases h), fun _ => ⟨b, rfl, hb, (Array.getElem?_eq_some_iff.1 hg).1, fun j u hu => ?_⟩⟩
    have hj : j < (cellsP ps).length := (List.getElem?_eq_some_iff.1 hu).1
    rw [cellsP_len] at hj
    rw [← hu, ← ht, List.getElem?_take_of_lt (by omega)]
    simp [World.cell?, hg]
theorem wpList_append_p {ops : Array Oper} {Q : Exit → Act → World → Prop} {rest : List Oper} {o : Oper} {a : Act} {w : World} (hgd : o.guard = none) (s x : Operand) (ho : o.op = .call { callee := .builtin .append, args := #[s, x], argTypes := #[29, 29] })
    (base : Nat) (v : Value) (ps : List PutD) (hs : a.eval s = v) (hown : OwnP w base v ps) (qs : List PutD) (A : Option Addr) (n cap : Nat) (hx : a.eval x = .slice A n cap) (hl : qs.length = n) (hnil : A = none → cap = 0)
    (hc : 0 < n → ∃ ad, A = some ad ∧ ∀ j u, (cellsP qs)[j]? = some u → w.cell? (ad.add j) = some u) (h1 : ∀ q ∈ qs, q.v.oneCell' = true) (hm : ps.length + qs.length ≤ 1000000) (hbase : base ≤ w.heap.size)
    (h : ∀ v' w', OwnP w' base v' (ps ++ qs) → w.grownBy w' v.ownBlock → wpList Try.prog ops Q rest (a.put o.dst v') w') : wpList Try.prog ops Q (o :: rest) a w := by
  obtain ⟨i, hi, hz, hsz, hb⟩ := info_parts infoP
  subst hl
  by_cases hp : 0 < qs.length
  · obtain ⟨ad, rfl, hcc⟩ := hc hp
    refine wpList_append_own _ hgd s x 29 ho base 52 i _ 2 32 Try.underlying29 hi hz hsz hb rfl (by decide) v ps.length (cellsP ps) hs hown ad qs.length cap (cellsP qs) hx (cellsP_len qs) hcc (cellsP_one h1) (by unfold maxLen; omega) (by omega) hbase ?_
    intro v' w' ow g _
    exact h v' w' (by unfold OwnP; rw [cellsP_add]; simpa using ow) g
  · have e0 : qs = [] := List.eq_nil_of_length_eq_zero (by omega)
    subst e0
    simp only [List.length_nil] at hx
    cases A with
    | none =>
      obtain rfl := hnil rfl
      have hr := run_append_owned_none (P := Try.prog) w base 29 o.type 52 i 2 Try.underlying29 hi v ps.length (cellsP ps) hown
      refine wpList_plain hgd fun K hK => ?_
      unfold Oper.wp execOp
      simp only [ho, resolve, invoke, builtin, Sem.run_bind, Sem.run_pure, Result.andThen_ok, List.map_toArray, List.map_cons, List.map_nil, hs, hx, hr]
      exact hK _ _ (h v w (by simpa using hown) (World.grownBy.refl _ _))
    | some ad =>
      refine wpList_append_own _ hgd s x 29 ho base 52 i _ 2 32 Try.underlying29 hi hz hsz hb rfl (by decide) v ps.length (cellsP ps) hs hown ad 0 cap [] hx rfl (fun j u hu => by simp at hu) (by simp) (by unfold maxLen; omega) (by omega) hbase ?_
      intro v' w' ow g _
      exact h v' w' (by unfold OwnP; simpa using ow) g
theorem Own8.grown {w w' : World} {base : Nat} {v : Value} {l : List Int} {row : Option Nat} (h : Own8 w base v l) (g : w.grownBy w' row) (hr : ∀ q, row = some q → q < base) : Own8 w' base v l := by
  obtain ⟨hl, h⟩ := h
  refine ⟨hl, ?_⟩
  rcases h with ⟨rfl, h0⟩ | ⟨b, cap, cur, rfl, hb, hg, hn, hm, hs, ht⟩
  · exact .inl ⟨rfl, h0⟩
  · exact .inr ⟨b, cap, cur, rfl, hb, (g.block b (Array.getElem?_eq_some_iff.1 hg).1 (fun e => by have := hr b e.symm; omega)).trans hg, hn, hm, hs, ht⟩
theorem OwnP.under {w : World} {base : Nat} {v : Value} {ps : List PutD} (h : OwnP w base v ps) {k : Nat} (hk : v.ownBlock = some k) : k < w.heap.size := (World.ownsRow.lt h k hk).2
/-- The box turned to a row one longer. -/
theorem ref_put {w w3 : World} {Y N i k2 k3 base : Nat} {X : List Nat} {ps : List PutD} {xs : List Int} {A2 A3 : Option Addr} (h : RefAt w Y X N ps) (hX : ∀ k ∈ X, k < w.heap.size) (hf : ps.length < 1000) (hi : i + xs.length ≤ N) (P3 : Past w w3) (hb : w.heap.size ≤ base)
    (O2 : Own8 w3 base (.slice A2 xs.length k2) xs) (wx : Wf8 xs) (e1 : (ps ++ [(⟨i, .slice A2 xs.length k2, xs⟩ : PutD)]).length ≤ k3) (e2 : k3 ≤ maxLen) (e3 : A3 = none → k3 = 0)
    (e4 : 0 < (ps ++ [(⟨i, .slice A2 xs.length k2, xs⟩ : PutD)]).length → ∃ g, A3 = some ⟨g, 0, none⟩ ∧ w.heap.size ≤ g ∧ g < w3.heap.size ∧ ∀ j u, (cellsP (ps ++ [⟨i, .slice A2 xs.length k2, xs⟩]))[j]? = some u → w3.cell? ⟨g, j, none⟩ = some u) :
    RefAt (w3.setCell ⟨Y, 1, none⟩ (.slice A3 (ps.length + 1) k3)) Y X N (ps ++ [⟨i, .slice A2 xs.length k2, xs⟩]) ∧ But Y (Y + 1) w (w3.setCell ⟨Y, 1, none⟩ (.slice A3 (ps.length + 1) k3)) := by
  obtain ⟨A, cap, c1, hp⟩ := h.row
  have hY := h.lt
  have BB : But Y (Y + 1) w3 (w3.setCell ⟨Y, 1, none⟩ (.slice A3 (ps.length + 1) k3)) := But.setCell w3 (lo := Y) (hi := Y + 1) (a := ⟨Y, 1, none⟩) (Nat.le_refl _) (Nat.lt_succ_self _) _
  have q0 := (P3.cell (p := ⟨Y, 0, none⟩) hY).trans h.c0
  have q1 := (P3.cell (p := ⟨Y, 1, none⟩) hY).trans c1
  have hl : (ps ++ [(⟨i, .slice A2 xs.length k2, xs⟩ : PutD)]).length = ps.length + 1 := by simp
  have nX : ∀ g, w.heap.size ≤ g → g ∉ Y :: X := by
    intro g hg hm
    rcases List.mem_cons.1 hm with q | q
    · omega
    · have := hX g q; omega
  refine ⟨⟨h.most, by rw [hl]; omega, (fun p hpm => by
    rcases List.mem_append.1 hpm with q | q
    · exact h.inN p q
    · rw [List.mem_singleton.1 q]; exact hi), h.ne, size_set (Nat.lt_of_lt_of_le hY P3.2.2.1), free_set (free_past P3 h.free hY), ?_, A3, k3, ?_, ⟨e1, e2, e3, fun hp' => ?_, fun p hpm => ?_⟩⟩, (P3.but Y (Y + 1)).trans BB⟩
  · rw [World.cell?_setCell_other _ _ _ _ (by simp), q0]
  · rw [hl]; exact World.cell?_setCell_same w3 ⟨Y, 1, none⟩ _ q1
  · obtain ⟨g, rfl, g1, g2, g3⟩ := e4 hp'
    refine ⟨g, rfl, nX g g1, size_set g2, fun j u hu => ?_⟩
    exact cell_set (g3 j u hu) (show Y ≠ g by omega)
  · rcases List.mem_append.1 hpm with q | q
    · exact ⟨nums_keep ((hp.nums p q).1.grow P3) (hp.nums p q).2 (List.mem_cons_self ..) BB, (hp.nums p q).2⟩
    · rw [List.mem_singleton.1 q]
      have AP : Apart (Y :: X) (.slice A2 xs.length k2) := by
        intro a n c e hn
        obtain ⟨A', c', e', hg⟩ := O2.form
        simp only [Value.slice.injEq] at e e'
        obtain ⟨rfl, rfl, rfl⟩ := e
        obtain ⟨rfl, _, rfl⟩ := e'
        obtain ⟨g, e5, g1, _⟩ := hg hn
        simp only [Option.some.injEq] at e5
        subst e5
        exact nX g (by omega)
      exact ⟨nums_keep (O2.nums wx) AP (List.mem_cons_self ..) BB, AP⟩
set_option maxHeartbeats 4000000 in
theorem rwrite_ok (w : World) (Y N : Nat) (X : List Nat) (ps : List PutD) (h : RefAt w Y X N ps) (hX : ∀ k ∈ X, k < w.heap.size) (v : Value) (xs : List Int) (hx : IsNums .i8 w v xs) (i : Nat) (hi : i + xs.length ≤ N) (hf : ps.length < 1000) :
    Calls Try.prog 14 #[.pointer (some ⟨Y, 0, none⟩), .int .i64 i, v] w fun e w' => ∃ v', e = .returned (.int .i64 0) ∧ RefAt w' Y X N (ps ++ [⟨i, v', xs⟩]) ∧ But Y (Y + 1) w w' := by
  have HX := Lib.hid hx
  have H := Lib.hid h
  obtain ⟨B, cb, rfl, x2, x3, x4⟩ := nums_form hx
  have wl : xs.length ≤ 9223372036854775807 := by unfold maxLen at x3; omega
  have ok := okM_iff.2 ⟨i, xs.length, rfl, rfl, hi⟩
  have hb := h.lt
  have hF := h.free
  obtain ⟨A, cap, c1, hp⟩ := h.row
  have HP := Lib.hid hp
  have hm := h.most
  have c1a : (w.alloc (.cells #[] 52)).cell? ⟨Y, 1, none⟩ = some (.slice A ps.length cap) := cell_alloc c1 hb
  have OP1 := Lib.hid (fun (hp' : 0 < ps.length) => show ∃ ad, A = some ad ∧ ∀ j u, (cellsP ps)[j]? = some u → (w.alloc (.cells #[] 52)).cell? (ad.add j) = some u by
    obtain ⟨g, e, _, hg, hc⟩ := HP.out.row hp'
    exact ⟨_, e, fun j u hu => by rw [add_plain, Nat.zero_add]; exact cell_alloc (hc j u hu) hg⟩)
  have ONE := Lib.hid (show ∀ q ∈ ps, q.v.oneCell' = true from fun q hq => nums_one (HP.out.nums q hq).1)
  have HF := Lib.hid hf
  have HXX := Lib.hid hX
  have HI := Lib.hid hi
  clear hx h x2 x3 x4 hp hi hf hX
  go_enter Try.func14, Try.ntmps14
  go_upto_region 3 with (go_at_call 19; refine (rthere_any _ _ _ _ _ H.out _ _).mono ?_; rintro e w0 ⟨rfl, rfl⟩; simp only [ok])
  go_wp2_with (at_builtin; first
    | (refine wpList_append_p rfl (.tmp 14) (.tmp 18) rfl w.heap.size (.slice (some ⟨w.heap.size, 0, none⟩) 0 0) [] rfl (ownP_lit w) ps A ps.length cap rfl rfl HP.out.nil OP1.out ONE.out (by have := HF.out; simp only [List.length_nil]; omega) (by simp) ?_; intro v1 w1 O1 G1; have P1 : Past w w1 := ((Past.refl w).alloc _).grownBy G1 (fun q hq => by simp only [Value.ownBlock, Option.some.injEq] at hq; omega); rw [List.nil_append] at O1; obtain ⟨A1, k1, rfl, _, _, _, _⟩ := O1.form; have O1' := Lib.hid O1; have P1' := Lib.hid P1; clear O1 G1 P1 c1a OP1)
    | (refine wpList_append_8 rfl (.tmp 21) (.tmp 22) rfl w1.heap.size (.slice (some ⟨w1.heap.size, 0, none⟩) 0 0) [] rfl (own8_lit w1) xs B xs.length cb rfl (HX.out.grow (P1'.out.alloc _)) (by have := HI.out; simp only [List.length_nil]; omega) (by simp) ?_; intro v2 w2 O2 G2; have P2 : Past w1 w2 := ((Past.refl w1).alloc _).grownBy G2 (fun q hq => by simp only [Value.ownBlock, Option.some.injEq] at hq; omega); rw [List.nil_append] at O2; obtain ⟨A2, k2, rfl, _⟩ := O2.form; have O2' := Lib.hid O2; have P2' := Lib.hid P2; clear O2 G2 P2)
    | (refine wpList_append_p rfl (.tmp 19) (.tmp 25) rfl w.heap.size (.slice A1 ps.length k1) ps rfl ((O1'.out.past P2'.out).alloc _) [⟨i, .slice A2 xs.length k2, xs⟩] (some ⟨w2.heap.size, 0, none⟩) 1 1 rfl rfl (fun h => by cases h) (fun _ => ⟨_, rfl, fun j u hu => by rw [add_plain, Nat.zero_add, box_new rfl]; simpa [cellsP] using hu⟩) (fun q hq => by rw [List.mem_singleton.1 hq]; rfl) (by have := HF.out; simp only [List.length_singleton]; omega) (by have := P1'.out.2.2.1; have := P2'.out.2.2.1; simp; omega) ?_; intro v3 w3 O3 G3; have P3 : Past w w3 := ((P1'.out.trans P2'.out).alloc _).grownBy G3 (fun q hq => O1'.out.lt hq); have O2w := Lib.hid ((O2'.out.alloc _).grown G3 (fun q hq => O1'.out.under hq)); obtain ⟨A3, k3, rfl, e31, e32, e33, e34⟩ := O3.form; have O3' := Lib.hid (And.intro O3 (And.intro e31 (And.intro e32 (And.intro e33 e34)))); have P3' := Lib.hid P3; have c1b := (P3.cell (p := ⟨Y, 1, none⟩) hb).trans c1; have c1f := free_past P3 hF hb; clear O3 G3 P3 e31 e32 e33 e34))
  have END := Lib.hid (ref_put (i := i) H.out HXX.out HF.out HI.out P3'.out P1'.out.2.2.1 O2w.out (nums_wf HX.out) O3'.out.2.1 O3'.out.2.2.1 O3'.out.2.2.2.1 O3'.out.2.2.2.2)
  go_ret
  exact ⟨_, rfl, END.out.1, END.out.2⟩
theorem rwrite_no (w : World) (Y N : Nat) (X : List Nat) (ps : List PutD) (h : RefAt w Y X N ps) (v : Value) (xs : List Int) (hx : IsNums .i8 w v xs) (a : Int) (c : okM N a xs.length = false) :
    Calls Try.prog 14 #[.pointer (some ⟨Y, 0, none⟩), .int .i64 a, v] w fun e w' => e = .returned (.int .i64 23) ∧ w = w' := by
  obtain ⟨B, cb, rfl, x2, x3, x4⟩ := nums_form hx
  go_enter Try.func14, Try.ntmps14
  go_wp2_with (go_at_call 19; refine (rthere_any _ _ _ _ _ h _ _).mono ?_; rintro e w0 ⟨rfl, rfl⟩; simp only [c])
  go_ret
  exact ⟨rfl, rfl⟩
end Go.Proofs.Ytlpcppdpodedmaa
