/- quiltref05: Same of equal rows. kern's rows, number by number. eval: rows of numbers in memory; what a graph means, as plain data. append to an owned row: where the new row lies; rows that lie apart; rows of int32. -/
import Derived.Laws.OwnMore
import Derived.Test.YtliijchcpooplaaGreatOMKWe
import Derived.Test.YtliijchcpooplaaGreatOMFxMath
import Derived.Test.YtliijchcpooplaaGreatOMKV1
import Derived.Test.YtliijchcpooplaaGreatOMKV2
import Derived.Test.YtliijchcpooplaaGreatOMV4
import Derived.Laws.AppendOwn
import Derived.OwnWalk
namespace Go.Proofs.YtliijchcpooplaaGreat
open Go.ChangeShapes Go.WideShapes Go.ChangeAt Go.RowKit
set_option maxRecDepth 20000
set_option linter.unusedVariables false
def fillF (ls : List Int) (i : Nat) : Int := if 0 < ls.length then ls.getD (i % ls.length) 0 else 0
theorem own8_new {w : World} {base : Nat} (hb : base <= w.heap.size) : Own8 (w.alloc (.cells #[] 35)) base (.slice (some ⟨w.heap.size, 0, none⟩) 0 0) [] := World.ownsRow_lit w #[] 0 hb (by decide) (by simp)
theorem size_nn (h w c : Int) : 0 <= sizeI h w c := by
  by_cases k : mayS h w c
  . exact Int.le_trans (by decide) (idx_lt_size k).1
  . unfold sizeI; rw [if_neg k]; exact Int.le_refl 0
set_option maxHeartbeats 4000000 in
theorem same_eq (a b : Value) (xs : List Int) (W : World) (ha : IsNums .i8 W a xs) (hb : IsNums .i8 W b xs) :
    Calls Tryz.prog 15 #[a, b] W fun e w' => e = .returned (.bool true) /\ Grown W w' := by
  have HA := Lib.hid ha
  have HB := Lib.hid hb
  obtain ⟨A1, c1, rfl, a1, a2, _⟩ := ha
  obtain ⟨A2, c2, rfl, b1, b2, _⟩ := hb
  have k1 : xs.length <= 9223372036854775807 := by unfold maxLen at a2; omega
  clear a2 b2
  go_enter Tryz.func15, Tryz.ntmps15
  go_wp2_with fail
  go_loopw [5] (fun i wr => ∃ k : Nat, k <= xs.length /\ i = .int .i64 k /\ Grown W wr) (fun i _ => xs.length - (intOf i).toNat)
  case atStart => exact ⟨0, by omega, rfl, Grown.refl _⟩
  case round =>
    obtain ⟨k, hk, rfl, g⟩ := hrel
    by_cases h : k < xs.length
    . obtain ⟨b, o, e, _, _, _, hbl, hc⟩ := nums_parts HA.out (by omega)
      obtain ⟨b', o', e', _, _, _, hbl', hc'⟩ := nums_parts HB.out (by omega)
      subst e e'
      obtain ⟨x, hx⟩ : ∃ x, xs.getD k 0 = x := ⟨_, rfl⟩
      have c0 := (grown_cell (p := ⟨b, o + k, none⟩) g hbl).trans (hc k h).1
      have c0' := (grown_cell (p := ⟨b', o' + k, none⟩) g hbl').trans (hc' k h).1
      rw [hx] at c0 c0'
      have d1 : decide ((k : Int) < (xs.length : Int)) = true := by simp; omega
      have i1 : (0 : Int) <= (k : Int) := by omega
      have i2 : (k : Int) < (xs.length : Int) := by omega
      clear hc hc' hx
      go_upto_region 6 with fail
      refine wp_region_fill (fun w' => w'.cell? ⟨b, o + k, none⟩ = some (.int .i8 x) /\ w'.cell? ⟨b', o' + k, none⟩ = some (.int .i8 x) /\ Grown W w') [(17, ?va17), (18, ?va18), (19, ?va19), (20, ?va20), (21, ?va21), (22, ?va22), (23, ?va23), (24, ?va24), (25, ?va25)] [17, 18, 19, 20, 21, 22, 23, 24, 25] (by kernel_rfl) (by kernel_rfl) rfl (by kernel_rfl) ⟨c0, c0', g⟩ (fun w h => h) ?alla ?fina
      case alla =>
        simp only [fillA, Act.put, fU1, fU2, fU3]
        iterate 9 (refine owes_cons (fun w hw K hK => ?_) ?_; focus ((have hS := Lib.hid hw); go_split_ands; go_simp; (try simp only [Act.put, List.setIfInBounds_toArray, List.set_cons_zero, List.set_cons_succ]); first | exact hK _ hS.out))
        exact True.intro
      case fina =>
        rintro w9 ⟨_, _, g9⟩
        simp only [fillA, Act.put, fU1, fU2, fU3]
        go_wp2_with fail
        go_roundw
        case rel => exact ⟨k + 1, by omega, by go_num, g9⟩
        case measure => simp [intOf]; omega
    . obtain rfl : k = xs.length := by omega
      have d1 : decide ((xs.length : Int) < (xs.length : Int)) = false := by simp
      go_wp2_with fail
      go_ret
      exact ⟨rfl, g⟩
theorem place_lt {H W C y x c : Nat} (hy : y < H) (hx : x < W) (hc : c < C) : (y * W + x) * C + c < H * (W * C) := by
  have h1 : (y * W + x + 1) * C <= (H * W) * C := Nat.mul_le_mul_right C (by
    have : (y + 1) * W <= H * W := Nat.mul_le_mul_right W hy
    rw [Nat.add_mul, Nat.one_mul] at this
    omega)
  rw [Nat.add_mul, Nat.one_mul] at h1
  rw [<- Nat.mul_assoc]
  omega
theorem place_of {H W C i : Nat} (hi : i < H * (W * C)) : ∃ y x c, y < H /\ x < W /\ c < C /\ i = (y * W + x) * C + c := by
  have c0 : 0 < C := by rcases Nat.eq_zero_or_pos C with e | e
                        . subst e; simp at hi
                        . exact e
  have w0 : 0 < W := by rcases Nat.eq_zero_or_pos W with e | e
                        . subst e; simp at hi
                        . exact e
  refine ⟨i / C / W, i / C % W, i % C, ?_, Nat.mod_lt _ w0, Nat.mod_lt _ c0, ?_⟩
  . rw [Nat.div_div_eq_div_mul, Nat.mul_comm C W]
    exact Nat.div_lt_of_lt_mul (by rw [Nat.mul_comm]; exact hi)
  . have e1 := Nat.div_add_mod i C
    have e2 := Nat.div_add_mod (i / C) W
    rw [Nat.mul_comm W] at e2
    rw [e2, Nat.mul_comm]
    exact e1.symm
theorem allL_at (n : NodeD) (a b : ViewD) (m : Int × Int × Int) {H W C y x c : Nat} (hC : m.2.2.toNat = C) (hy : y < H) (hx : x < W) (hc : c < C) :
    (allL n a b m (W * C) (H * (W * C))).getD ((y * W + x) * C + c) 0 = numD n a b m y x c := by
  have hlt := place_lt hy hx hc
  have hr : x * C + c < W * C := by
    have : (x + 1) * C <= W * C := Nat.mul_le_mul_right C hx
    rw [Nat.add_mul, Nat.one_mul] at this
    omega
  have e : (y * W + x) * C + c = (W * C) * y + (x * C + c) := by
    rw [Nat.add_mul, Nat.add_assoc, Nat.mul_assoc, Nat.mul_comm y]
  have key : (allL n a b m (W * C) (H * (W * C))).getD ((y * W + x) * C + c) 0 = allF n a b m (W * C) ((y * W + x) * C + c) := by
    unfold allL
    simp [List.getD, hlt]
  rw [key]
  unfold allF
  rw [e, Nat.mul_add_div (by omega), Nat.div_eq_of_lt hr, Nat.add_zero, Nat.mul_add_mod, Nat.mod_eq_of_lt hr, <- hC]
  exact rowF_at n a b m y x c (by rw [hC]; exact hc)
theorem own_ne {w : World} {b b' e e' size size' n n' : Nat} {v v' : Value} {xs xs' : List Value} (h : w.ownsRow b e size v n xs) (k : w.ownsRow b' e' size' v' n' xs') (he : e ≠ e') : v.ownBlock = none ∨ v.ownBlock ≠ v'.ownBlock := by
  rcases h.2 with ⟨rfl, _⟩ | ⟨g, cap, cur, rfl, _, hg, _⟩
  . exact .inl rfl
  . refine .inr fun e1 => ?_
    rcases k.2 with ⟨rfl, _⟩ | ⟨g', cap', cur', rfl, _, hg', _⟩
    . simp [Value.ownBlock] at e1
    . simp only [Value.ownBlock, Option.some.injEq] at e1
      subst e1
      rw [hg] at hg'
      simp only [Option.some.injEq, Obj.cells.injEq] at hg'
      exact he hg'.2.1
def nilS : Value := .slice none 0 0
def HasCells (w : World) (v : Value) (us : List Value) : Prop :=
  ∃ (A : Option Addr) (cap : Nat), v = .slice A us.length cap /\ us.length <= cap /\ cap <= maxLen /\ (A = none -> cap = 0) /\
    (0 < us.length -> ∃ b off, A = some ⟨b, off, none⟩ /\ b < w.heap.size /\ ∀ i, i < us.length -> w.cell? ⟨b, off + i, none⟩ = some (us.getD i nilS))
theorem HasCells.grow {w w' : World} {v : Value} {us : List Value} (h : HasCells w v us) (g : Past w w') : HasCells w' v us := by
  obtain ⟨A, cap, h1, h2, h3, h4, h6⟩ := h
  refine ⟨A, cap, h1, h2, h3, h4, fun hp => ?_⟩
  obtain ⟨b, off, e, hb, hc⟩ := h6 hp
  exact ⟨b, off, e, Nat.lt_of_lt_of_le hb g.2.2.1, fun i hi => (g.cell hb).trans (hc i hi)⟩
def OwnCells (w : World) (base : Nat) (v : Value) (us : List Value) : Prop := w.ownsRow base 27 1 v us.length us
theorem OwnCells.has {w : World} {base : Nat} {v : Value} {us : List Value} (h : OwnCells w base v us) : HasCells w v us := by
  obtain ⟨hl, h⟩ := h
  rcases h with ⟨rfl, h0⟩ | ⟨b, cap, cur, rfl, hb, hg, hn, hm, hs, ht⟩
  . have : us = [] := List.eq_nil_of_length_eq_zero h0
    subst this
    exact ⟨none, 0, rfl, Nat.le_refl _, Nat.zero_le _, fun _ => rfl, by simp⟩
  . refine ⟨some ⟨b, 0, none⟩, cap, rfl, hn, hm, (fun h => by cases h), fun hp => ⟨b, 0, rfl, (Array.getElem?_eq_some_iff.1 hg).1, fun i hi => ?_⟩⟩
    have key : w.cell? ⟨b, 0 + i, none⟩ = us[i]? := by
      rw [<- ht, List.getElem?_take_of_lt (by omega)]
      simp [World.cell?, hg]
    rw [key]
    simp [List.getD, hi]
def AreNums (w : World) (us : List Value) (xs : List (List Int)) : Prop := us.length = xs.length /\ ∀ i, i < xs.length -> IsNums .i8 w (us.getD i nilS) (xs.getD i [])
def AreOwn (w : World) (base : Nat) (us : List Value) (xs : List (List Int)) : Prop := us.length = xs.length /\ ∀ i, i < xs.length -> Own8 w base (us.getD i nilS) (xs.getD i [])
def Bytes (xs : List Int) : Prop := ∀ x ∈ xs, -128 <= x /\ x <= 127
def AllBytes (xs : List (List Int)) : Prop := ∀ i, i < xs.length -> Bytes (xs.getD i [])
theorem AreNums.grow {w w' : World} {us : List Value} {xs : List (List Int)} (h : AreNums w us xs) (g : Past w w') : AreNums w' us xs := ⟨h.1, fun i hi => (h.2 i hi).grow g⟩
theorem AreOwn.past {w w' : World} {base : Nat} {us : List Value} {xs : List (List Int)} (h : AreOwn w base us xs) (g : Past w w') : AreOwn w' base us xs := ⟨h.1, fun i hi => (h.2 i hi).past g⟩
theorem AreOwn.more {w : World} {b b' : Nat} {us : List Value} {xs : List (List Int)} (h : AreOwn w b us xs) (hb : b' <= b) : AreOwn w b' us xs := ⟨h.1, fun i hi => own8_base (h.2 i hi) hb⟩
theorem AreOwn.nums {w : World} {base : Nat} {us : List Value} {xs : List (List Int)} (h : AreOwn w base us xs) (hb : AllBytes xs) : AreNums w us xs := ⟨h.1, fun i hi => (h.2 i hi).nums (hb i hi)⟩
theorem AreOwn.grow {w w' : World} {base b : Nat} {us us' : List Value} {xs : List (List Int)} {v : Value} {n : Nat} (h : AreOwn w base us xs) (ho : w.ownsRow b 27 1 v n us') (g : w.grownBy w' v.ownBlock) : AreOwn w' base us xs :=
  ⟨h.1, fun i hi => World.ownsRow.kept (h.2 i hi) g (own_ne (h.2 i hi) ho (by decide))⟩
theorem getD_snoc {α : Type} (l : List α) (x d : α) (i : Nat) (hi : i < l.length + 1) : (l ++ [x]).getD i d = if i < l.length then l.getD i d else x := by
  by_cases c : i < l.length
  . rw [if_pos c]; simp [List.getD, List.getElem?_append_left c]
  . obtain rfl : i = l.length := by omega
    rw [if_neg c]; simp [List.getD]
theorem AreOwn.snoc {w : World} {base : Nat} {us : List Value} {xs : List (List Int)} {u : Value} {x : List Int} (h : AreOwn w base us xs) (k : Own8 w base u x) : AreOwn w base (us ++ [u]) (xs ++ [x]) := by
  refine ⟨by simp [h.1], fun i hi => ?_⟩
  simp only [List.length_append, List.length_cons, List.length_nil] at hi
  rw [getD_snoc _ _ _ _ (by rw [h.1]; omega), getD_snoc _ _ _ _ (by omega), h.1]
  by_cases c : i < xs.length
  . rw [if_pos c, if_pos c]; exact h.2 i c
  . rw [if_neg c, if_neg c]; exact k
theorem AreOwn.nil (w : World) (base : Nat) : AreOwn w base [] [] := ⟨rfl, fun i hi => absurd hi (by simp)⟩
def SlicesU (us : List Value) : Prop := ∀ u ∈ us, ∃ A l c, u = .slice A l c
theorem SlicesU.one {us : List Value} (h : SlicesU us) : ∀ u ∈ us, u.oneCell' = true := fun u hu => by
  obtain ⟨A, l, c, rfl⟩ := h u hu
  rfl
theorem AreNums.slices {w : World} {us : List Value} {xs : List (List Int)} (h : AreNums w us xs) : SlicesU us := by
  intro u hu
  obtain ⟨i, hi, rfl⟩ := List.getElem_of_mem hu
  obtain ⟨A, c, e, _⟩ := h.2 i (by rw [<- h.1]; exact hi)
  have : us.getD i nilS = us[i] := by simp [List.getD, hi]
  rw [<- this, e]
  exact ⟨_, _, _, rfl⟩
theorem AreNums.one {w : World} {us : List Value} {xs : List (List Int)} (h : AreNums w us xs) : ∀ u ∈ us, u.oneCell' = true := h.slices.one
theorem AreNums.bytes {w : World} {us : List Value} {xs : List (List Int)} (h : AreNums w us xs) : AllBytes xs := by
  intro i hi x hx
  obtain ⟨A, c, _, _, _, _, wf, _⟩ := h.2 i hi
  have := wf x hx
  simp [Lit.wf, IntKind.min, IntKind.max, IntKind.bits, IntKind.signed] at this
  omega
def IsRows (w : World) (v : Value) (xs : List (List Int)) : Prop := ∃ us, HasCells w v us /\ AreNums w us xs
def OwnRows (w : World) (base : Nat) (v : Value) (xs : List (List Int)) : Prop := ∃ us, OwnCells w base v us /\ AreOwn w base us xs
theorem IsRows.grow {w w' : World} {v : Value} {xs : List (List Int)} (h : IsRows w v xs) (g : Past w w') : IsRows w' v xs := by
  obtain ⟨us, h1, h2⟩ := h
  exact ⟨us, h1.grow g, h2.grow g⟩
theorem OwnCells.past {w w' : World} {base : Nat} {v : Value} {us : List Value} (h : OwnCells w base v us) (g : Past w w') : OwnCells w' base v us := own_past' h g
theorem OwnRows.past {w w' : World} {base : Nat} {v : Value} {xs : List (List Int)} (h : OwnRows w base v xs) (g : Past w w') : OwnRows w' base v xs := by
  obtain ⟨us, h1, h2⟩ := h
  exact ⟨us, h1.past g, h2.past g⟩
theorem OwnRows.more {w : World} {b b' : Nat} {v : Value} {xs : List (List Int)} (h : OwnRows w b v xs) (hb : b' <= b) : OwnRows w b' v xs := by
  obtain ⟨us, h1, h2⟩ := h
  exact ⟨us, own_more h1 hb, h2.more hb⟩
theorem OwnRows.is {w : World} {base : Nat} {v : Value} {xs : List (List Int)} (h : OwnRows w base v xs) (hb : AllBytes xs) : IsRows w v xs := by
  obtain ⟨us, h1, h2⟩ := h
  exact ⟨us, h1.has, h2.nums hb⟩
theorem OwnRows.nil (w : World) (base : Nat) : OwnRows w base (.slice none 0 0) [] := ⟨[], World.ownsRow_nil _ _ _ _, AreOwn.nil _ _⟩
theorem namedL_app {l r : List ValD} {ns : List Int} (h : namedP l ns) : namedL (l ++ r) ns = namedL l ns := by
  unfold namedL
  refine List.map_congr_left fun i hi => ?_
  obtain ⟨j, hj, rfl⟩ := List.getElem_of_mem hi
  have := h j hj
  have e : ns.getD j 0 = ns[j] := by simp [List.getD, hj]
  rw [e] at this
  exact getD_app_left (by omega)
theorem goS_steps (ns : List NodeD) : ∀ (l r : List ValD), goS ns l = (0, r) -> ∀ k, k < ns.length ->
    namedP (r.take (l.length + k)) (ns.getD k default).ins /\ valueE (ns.getD k default) (namedL r (ns.getD k default).ins) = 0 /\ r.getD (l.length + k) default = valueV (ns.getD k default) (namedL r (ns.getD k default).ins) := by
  induction ns with
  | nil => intro l r _ k hk; simp at hk
  | cons n ns ih =>
    intro l r h k hk
    by_cases hp : namedP l n.ins
    . by_cases he : valueE n (namedL l n.ins) = 0
      . rw [goS_ok hp he] at h
        obtain ⟨m, hm, _⟩ := goS_spec ns _ _ h
        have e1 : namedL r n.ins = namedL l n.ins := by
          rw [hm, List.append_assoc]; exact namedL_app hp
        cases k with
        | zero =>
          simp only [List.getD_cons_zero, Nat.add_zero]
          refine ⟨?_, by rw [e1]; exact he, ?_⟩
          . have : r.take l.length = l := by rw [hm, List.append_assoc]; simp
            rw [this]; exact hp
          . rw [e1, hm]; exact getD_app_at
        | succ k =>
          have := ih _ _ h k (by simpa using hk)
          simp only [List.length_append, List.length_cons, List.length_nil] at this
          rw [show l.length + (0 + 1) + k = l.length + (k + 1) by omega] at this
          simp only [List.getD_cons_succ]
          exact this
      . rw [goS_err hp he] at h
        simp only [Prod.mk.injEq] at h
        exact absurd h.1 he
    . rw [goS_no hp] at h
      simp at h
def ZV : ViewD := ⟨⟨0, 0, 0, 0⟩, 0, 0, []⟩
def vwOf (v : ValD) (xs : List Int) : ViewD := ⟨v, 0, v.h, xs⟩
def vwB (vs : List ValD) (ds : List (List Int)) : ViewD := if vs.length = 2 then vwOf (vs.getD 1 default) (ds.getD 1 []) else ZV
noncomputable def kernL (n : NodeD) (vs : List ValD) (ds : List (List Int)) : List Int :=
  allL n (vwOf (vs.getD 0 default) (ds.getD 0 [])) (vwB vs ds) (madeS n vs) ((madeS n vs).2.1.toNat * (madeS n vs).2.2.toNat) ((madeS n vs).1.toNat * ((madeS n vs).2.1.toNat * (madeS n vs).2.2.toNat))
def Fits (v : ValD) (xs : List Int) : Prop := (xs.length : Int) = sizeI v.h v.w v.c /\ Bytes xs
theorem allB {n : NodeD} {vs : List ValD} {a b : ViewD} {m : Int × Int × Int} (h : MakeOk n vs a b m) (hw : ∀ k, -128 <= n.ws.getD k 0 /\ n.ws.getD k 0 <= 127) : ∀ x ∈ allL n a b m (m.2.1.toNat * m.2.2.toNat) (m.1.toNat * (m.2.1.toNat * m.2.2.toNat)), -128 <= x /\ x <= 127 := by
  intro q hq
  obtain ⟨i, hi, rfl⟩ := List.getElem_of_mem hq
  have hi' := hi
  rw [allL_len] at hi'
  obtain ⟨y, x, c, hy, hx, hc, rfl⟩ := place_of hi'
  have e := allL_at n a b m rfl hy hx hc
  have e2 : (allL n a b m (m.2.1.toNat * m.2.2.toNat) (m.1.toNat * (m.2.1.toNat * m.2.2.toNat)))[(y * m.2.1.toNat + x) * m.2.2.toNat + c] = numD n a b m y x c := by
    rw [<- e]
    simp [List.getD, List.getElem?_eq_getElem hi]
  rw [e2]
  exact numD_bd h hw (by omega) (by omega) (by omega) (by omega) _
theorem sizeN {h w c : Int} (k : mayS h w c) : sizeI h w c = ((h.toNat * (w.toNat * c.toNat) : Nat) : Int) := by
  unfold sizeI
  rw [if_pos k]
  obtain ⟨h1, h2, h3, h4, h5, h6⟩ := k
  rw [Int.natCast_mul, Int.natCast_mul, Int.toNat_of_nonneg (by omega), Int.toNat_of_nonneg (by omega), Int.toNat_of_nonneg (by omega), Int.mul_assoc]
theorem make_ok {n : NodeD} {vs : List ValD} {ds : List (List Int)} (h : valueE n vs = 0) (hf : ∀ j, j < vs.length -> Fits (vs.getD j default) (ds.getD j [])) (hz : ∀ j, j < vs.length -> -128 <= (vs.getD j default).z /\ (vs.getD j default).z <= 127) :
    MakeOk n vs (vwOf (vs.getD 0 default) (ds.getD 0 [])) (vwB vs ds) (madeS n vs) := by
  have hm := (value_parts h).2.1
  have full : ∀ j, j < vs.length -> FullV (vwOf (vs.getD j default) (ds.getD j [])) := fun j hj => ⟨hm j hj, rfl, rfl, hz j hj, (hf j hj).1, (hf j hj).2⟩
  rcases vals_len h with ⟨ho, hl⟩ | ⟨ho, hl⟩
  . refine ⟨h, rfl, full 0 (by omega), rfl, fun _ => ?_⟩
    unfold vwB
    rw [if_pos hl]
    exact ⟨full 1 (by omega), rfl⟩
  . exact ⟨h, rfl, full 0 (by omega), rfl, fun f => absurd f ho⟩
theorem kern_fits {n : NodeD} {vs : List ValD} {ds : List (List Int)} (h : valueE n vs = 0) (hf : ∀ j, j < vs.length -> Fits (vs.getD j default) (ds.getD j [])) (hz : ∀ j, j < vs.length -> -128 <= (vs.getD j default).z /\ (vs.getD j default).z <= 127) (hw : Bytes n.ws) :
    Fits (valueV n vs) (kernL n vs ds) := by
  have mk := make_ok h hf hz
  refine ⟨?_, ?_⟩
  . unfold kernL
    rw [allL_len, valueV_mk h]
    exact (sizeN mk.m16).symm
  . refine fun x hx => allB mk (fun k => ?_) x hx
    by_cases c : k < n.ws.length
    . have : n.ws.getD k 0 = n.ws[k] := by simp [List.getD, c]
      rw [this]; exact hw _ (List.getElem_mem _)
    . have : n.ws.getD k 0 = 0 := by simp [List.getD, Nat.le_of_not_lt c]
      rw [this]; omega
def namedR (ds : List (List Int)) (ns : List Int) : List (List Int) := ns.map fun i => ds.getD i.toNat []
noncomputable def goE (V : List ValD) : List NodeD -> List (List Int) -> List (List Int)
  | [], ds => ds
  | n :: ns, ds => goE V ns (ds ++ [kernL n (namedL V n.ins) (namedR ds n.ins)])
noncomputable def evalL (g : GraphD) (ins : List (List Int)) : List (List Int) := goE (valuesL g) g.nodes ins
def fitsP (vs : List ValD) (xs : List (List Int)) : Prop := xs.length = vs.length /\ ∀ j, j < vs.length -> ((xs.getD j []).length : Int) = sizeI (vs.getD j default).h (vs.getD j default).w (vs.getD j default).c
structure NodeOk (g : GraphD) (k : Nat) : Prop where
  named : namedP ((valuesL g).take (g.ins.length + k)) (g.nodes.getD k default).ins
  value : valueE (g.nodes.getD k default) (namedL (valuesL g) (g.nodes.getD k default).ins) = 0
  made : (valuesL g).getD (g.ins.length + k) default = valueV (g.nodes.getD k default) (namedL (valuesL g) (g.nodes.getD k default).ins)
theorem node_ok {g : GraphD} (h : valuesE g = 0) {k : Nat} (hk : k < g.nodes.length) : NodeOk g k := by
  obtain ⟨_, h1, _, _⟩ := values_ok h
  obtain ⟨a, b, c⟩ := goS_steps _ _ _ h1 k hk
  exact ⟨a, b, c⟩
theorem ins_ok {g : GraphD} (h : valuesE g = 0) {j : Nat} (hj : j < g.ins.length) : (valuesL g).getD j default = g.ins.getD j default := by
  obtain ⟨_, h1, _, _⟩ := values_ok h
  obtain ⟨m, hm, _⟩ := goS_spec _ _ _ h1
  rw [hm]; exact getD_app_left hj
theorem zeros_ok {g : GraphD} (h : valuesE g = 0) {j : Nat} (hj : j < (valuesL g).length) : -128 <= ((valuesL g).getD j default).z /\ ((valuesL g).getD j default).z <= 127 := by
  obtain ⟨hl, _, hz⟩ := makes_facts h
  by_cases c : j < g.ins.length
  . rw [ins_ok h c]; exact (begins_ok (values_ok h).1).2.2 j c
  . rw [hz j (by omega) hj]
    have ok := node_ok h (k := j - g.ins.length) (by omega)
    exact (value_parts ok.value).1.2.2.2.1.2.2
theorem named_get {V : List ValD} {ns : List Int} {j : Nat} (hj : j < ns.length) : (namedL V ns).getD j default = V.getD (ns.getD j 0).toNat default := by
  unfold namedL; simp [List.getD, hj]
theorem namedR_get {ds : List (List Int)} {ns : List Int} {j : Nat} (hj : j < ns.length) : (namedR ds ns).getD j [] = ds.getD (ns.getD j 0).toNat [] := by
  unfold namedR; simp [List.getD, hj]
theorem namedL_len (V : List ValD) (ns : List Int) : (namedL V ns).length = ns.length := by simp [namedL]
theorem namedR_len (ds : List (List Int)) (ns : List Int) : (namedR ds ns).length = ns.length := by simp [namedR]
def FitsTo (V : List ValD) (k : Nat) (ds : List (List Int)) : Prop := ds.length = k /\ ∀ j, j < k -> Fits (V.getD j default) (ds.getD j [])
theorem FitsTo.bytes {V : List ValD} {k : Nat} {ds : List (List Int)} (h : FitsTo V k ds) : AllBytes ds := fun i hi => (h.2 i (by rw [<- h.1]; exact hi)).2
theorem node_at {g : GraphD} {k : Nat} (ok : NodeOk g k) (hk : k < g.nodes.length) (hl : (valuesL g).length = g.ins.length + g.nodes.length) {j : Nat} (hj : j < (g.nodes.getD k default).ins.length) : 0 <= (g.nodes.getD k default).ins.getD j 0 /\ (g.nodes.getD k default).ins.getD j 0 < ((g.ins.length + k : Nat) : Int) := by
  have := ok.named j hj
  rw [List.length_take] at this
  omega
theorem node_fits {g : GraphD} (h : valuesE g = 0) {k : Nat} (hk : k < g.nodes.length) {ds : List (List Int)} (hd : FitsTo (valuesL g) (g.ins.length + k) ds) :
    (∀ j, j < (namedL (valuesL g) (g.nodes.getD k default).ins).length -> Fits ((namedL (valuesL g) (g.nodes.getD k default).ins).getD j default) ((namedR ds (g.nodes.getD k default).ins).getD j [])) /\
    (∀ j, j < (namedL (valuesL g) (g.nodes.getD k default).ins).length -> -128 <= ((namedL (valuesL g) (g.nodes.getD k default).ins).getD j default).z /\ ((namedL (valuesL g) (g.nodes.getD k default).ins).getD j default).z <= 127) := by
  have ok := node_ok h hk
  obtain ⟨hl, _, _⟩ := makes_facts h
  constructor
  . intro j hj
    rw [namedL_len] at hj
    rw [named_get hj, namedR_get hj]
    have := node_at ok hk hl hj
    exact hd.2 _ (by omega)
  . intro j hj
    rw [namedL_len] at hj
    rw [named_get hj]
    have := node_at ok hk hl hj
    exact zeros_ok h (by omega)
theorem step_fits {g : GraphD} (h : valuesE g = 0) {k : Nat} (hk : k < g.nodes.length) {ds : List (List Int)} (hd : FitsTo (valuesL g) (g.ins.length + k) ds) (hw : Bytes (g.nodes.getD k default).ws) :
    FitsTo (valuesL g) (g.ins.length + (k + 1)) (ds ++ [kernL (g.nodes.getD k default) (namedL (valuesL g) (g.nodes.getD k default).ins) (namedR ds (g.nodes.getD k default).ins)]) := by
  have ok := node_ok h hk
  obtain ⟨f1, f2⟩ := node_fits h hk hd
  refine ⟨by simp [hd.1]; omega, fun j hj => ?_⟩
  rw [getD_snoc _ _ _ _ (by rw [hd.1]; omega), hd.1]
  by_cases c : j < g.ins.length + k
  . rw [if_pos c]; exact hd.2 j c
  . obtain rfl : j = g.ins.length + k := by omega
    rw [if_neg c, ok.made]
    exact kern_fits ok.value f1 f2 hw
theorem ins_fits {g : GraphD} (h : valuesE g = 0) {ins : List (List Int)} (hf : fitsP g.ins ins) (hb : AllBytes ins) : FitsTo (valuesL g) (g.ins.length + 0) ins := by
  refine ⟨hf.1, fun j hj => ?_⟩
  rw [ins_ok h (by omega)]
  exact ⟨hf.2 j (by omega), hb j (by rw [hf.1]; omega)⟩
theorem run_append_apart {P : Program} (w : World) (base : Nat) (t ty e : TypeId) (i : TypeInfo) (z : Value) (size bytes : Nat) (ht : P.underlying t = some (.slice e)) (hi : P.info? e = some i) (hz : i.zero = some z)
    (hsize : i.size = size) (hby : i.bytes = bytes) (hzs : z.cells.size = size) (hsz : 0 < size)
    (v : Value) (n : Nat) (xs : List Value) (hown : w.ownsRow base e size v n xs)
    (a : Addr) (m c : Nat) (news : List Value) (hl : news.length = m * size) (hnews : ∀ j u, news[j]? = some u -> w.cell? (a.add j) = some u) (h1 : ∀ u ∈ news, u.oneCell' = true)
    (h63 : n + m <= maxLen) (hbytes : (n + m) * bytes <= 140737488355328) (hbase : base <= w.heap.size) (hm : 0 < m) :
    ∃ v' w', (Builtin.append_ #[t, t] ty #[v, .slice (some a) m c]).run P w = .ok v' w' /\ w'.ownsRow base e size v' (n + m) (xs ++ news) /\ w.grownBy w' v.ownBlock /\
      (v'.ownBlock = v.ownBlock ∨ v'.ownBlock = some w.heap.size) := by
  obtain ⟨v', w', hr, h2, h3, _⟩ := run_append_own (P := P) w base t ty e i z size bytes ht hi hz hsize hby hzs hsz v n xs hown a m c news hl hnews h1 h63 hbytes hbase
  refine ⟨v', w', hr, h2, h3, ?_⟩
  subst hsize
  subst hby
  have hsmall : n + m <= 9223372036854775807 := by simp only [maxLen] at h63; omega
  rcases hown.2 with ⟨rfl, rfl⟩ | ⟨g, cap, cur, rfl, hbg, hg, hnc, hcm, hcs, htake⟩
  . have hr2 := run_append_nil (P := P) w t ty e i z ht hi hz a m c news hl hnews hm (by omega) (by have hb := hbytes; simp only [Nat.zero_add] at hb; omega)
    rw [hr2] at hr
    injection hr with e1 e2
    subst e1
    exact .inr rfl
  . by_cases hroom : n + m <= cap
    . have hfit : n * i.size + news.length <= cur.size := by rw [hl, hcs, <- Nat.add_mul]; exact Nat.mul_le_mul_right _ hroom
      have hr2 := run_append_room (P := P) w t ty e i ht hi g n cap cur hg a m c news hl hnews h1 hroom hfit
      rw [hr2] at hr
      injection hr with e1 e2
      subst e1
      exact .inl rfl
    . have holds : ∀ j u, xs[j]? = some u -> w.cell? ((⟨g, 0, none⟩ : Addr).add j) = some u := hown.cells (g := g) rfl
      have hr2 := run_append_grow (P := P) w t ty e i z ht hi hz ⟨g, 0, none⟩ n cap xs hown.1 holds a m c news hl hnews (by omega) (by omega) (growslice_fits (by omega) hbytes)
      rw [hr2] at hr
      injection hr with e1 e2
      subst e1
      exact .inr rfl
theorem wp_append_apart {P : Program} (w : World) {o : Oper} {a : Act} {K : Act -> World -> Prop} {Q : Exit -> Act -> World -> Prop} (s x : Operand) (t : TypeId)
    (ho : o.op = .call { callee := .builtin .append, args := #[s, x], argTypes := #[t, t] })
    (base : Nat) (e : TypeId) (i : TypeInfo) (z : Value) (size bytes : Nat) (ht : P.underlying t = some (.slice e)) (hi : P.info? e = some i) (hz : i.zero = some z)
    (hsize : i.size = size) (hby : i.bytes = bytes) (hzs : z.cells.size = size) (hsz : 0 < size)
    (v : Value) (n : Nat) (xs : List Value) (hs : a.eval s = v) (hown : w.ownsRow base e size v n xs)
    (ad : Addr) (m c : Nat) (news : List Value) (hx : a.eval x = .slice (some ad) m c) (hl : news.length = m * size) (hnews : ∀ j u, news[j]? = some u -> w.cell? (ad.add j) = some u) (h1 : ∀ u ∈ news, u.oneCell' = true)
    (h63 : n + m <= maxLen) (hbytes : (n + m) * bytes <= 140737488355328) (hbase : base <= w.heap.size) (hm : 0 < m)
    (h : ∀ v' w', w'.ownsRow base e size v' (n + m) (xs ++ news) -> w.grownBy w' v.ownBlock -> (v'.ownBlock = v.ownBlock ∨ v'.ownBlock = some w.heap.size) -> K (a.put o.dst v') w') : o.wp P a w K Q := by
  obtain ⟨v', w', hr, h2, h3, h4⟩ := run_append_apart (P := P) w base t o.type e i z size bytes ht hi hz hsize hby hzs hsz v n xs hown ad m c news hl hnews h1 h63 hbytes hbase hm
  unfold Oper.wp execOp
  simp only [ho, resolve, invoke, builtin, Sem.run_bind, Sem.run_pure, Result.andThen_ok, List.map_toArray, List.map_cons, List.map_nil, hs, hx, hr]
  exact h v' w' h2 h3 h4
theorem wpList_append_apart {P : Program} (w : World) {ops : Array Oper} {rest : List Oper} {o : Oper} {a : Act} {Q : Exit -> Act -> World -> Prop} (hgd : o.guard = none) (s x : Operand) (t : TypeId)
    (ho : o.op = .call { callee := .builtin .append, args := #[s, x], argTypes := #[t, t] })
    (base : Nat) (e : TypeId) (i : TypeInfo) (z : Value) (size bytes : Nat) (ht : P.underlying t = some (.slice e)) (hi : P.info? e = some i) (hz : i.zero = some z)
    (hsize : i.size = size) (hby : i.bytes = bytes) (hzs : z.cells.size = size) (hsz : 0 < size)
    (v : Value) (n : Nat) (xs : List Value) (hs : a.eval s = v) (hown : w.ownsRow base e size v n xs)
    (ad : Addr) (m c : Nat) (news : List Value) (hx : a.eval x = .slice (some ad) m c) (hl : news.length = m * size) (hnews : ∀ j u, news[j]? = some u -> w.cell? (ad.add j) = some u) (h1 : ∀ u ∈ news, u.oneCell' = true)
    (h63 : n + m <= maxLen) (hbytes : (n + m) * bytes <= 140737488355328) (hbase : base <= w.heap.size) (hm : 0 < m)
    (h : ∀ v' w', w'.ownsRow base e size v' (n + m) (xs ++ news) -> w.grownBy w' v.ownBlock -> (v'.ownBlock = v.ownBlock ∨ v'.ownBlock = some w.heap.size) -> wpList P ops Q rest (a.put o.dst v') w') : wpList P ops Q (o :: rest) a w :=
  wpList_plain hgd fun _ hK => wp_append_apart w s x t ho base e i z size bytes ht hi hz hsize hby hzs hsz v n xs hs hown ad m c news hx hl hnews h1 h63 hbytes hbase hm fun v' w' h2 h3 h4 => hK _ _ (h v' w' h2 h3 h4)
def Apart (u v : Value) : Prop := ∀ k, u.ownBlock = some k -> v.ownBlock ≠ some k
theorem Apart.turn {u v : Value} (h : Apart u v) : Apart v u := fun k hv hu => h k hu hv
theorem Apart.nil (v : Value) : Apart (.slice none 0 0) v := fun k h => by simp [Value.ownBlock] at h
theorem Apart.row {u v : Value} (h : Apart u v) : u.ownBlock = none ∨ u.ownBlock ≠ v.ownBlock := by
  rcases e : u.ownBlock with _ | k
  . exact .inl rfl
  . exact .inr (fun c => h k e c.symm)
def Own32 (w : World) (base : Nat) (v : Value) (xs : List Int) : Prop := w.ownsRow base 21 1 v xs.length (xs.map (Value.int .i32))
theorem Own32.past {w w' : World} {base : Nat} {v : Value} {xs : List Int} (h : Own32 w base v xs) (g : Past w w') : Own32 w' base v xs := by
  obtain ⟨hl, h⟩ := h
  refine ⟨hl, ?_⟩
  rcases h with ⟨rfl, h0⟩ | ⟨b, cap, cur, rfl, hb, hg, hn, hm, hs, ht⟩
  . exact .inl ⟨rfl, h0⟩
  . exact .inr ⟨b, cap, cur, rfl, hb, (g.2.2.2 b (Array.getElem?_eq_some_iff.1 hg).1).trans hg, hn, hm, hs, ht⟩
theorem Own32.nums {w : World} {base : Nat} {v : Value} {xs : List Int} (ho : Own32 w base v xs) (wf : ∀ x ∈ xs, -2147483648 <= x /\ x <= 2147483647) : IsNums .i32 w v xs := by
  obtain ⟨hl, h⟩ := ho
  have wf' : ∀ x ∈ xs, (Lit.int .i32 x).wf = true := fun x hx => by have := wf x hx; simp [Lit.wf, IntKind.min, IntKind.max, IntKind.bits, IntKind.signed]; omega
  rcases h with ⟨rfl, h0⟩ | ⟨b, cap, cur, rfl, hb, hg, hn, hm, hs, ht⟩
  . have : xs = [] := List.eq_nil_of_length_eq_zero h0
    subst this
    exact ⟨none, 0, rfl, Nat.le_refl _, Nat.zero_le _, fun _ => rfl, by simp, by simp⟩
  . refine ⟨some ⟨b, 0, none⟩, cap, rfl, hn, hm, (fun h => by cases h), wf', fun hp => ⟨b, 0, rfl, (Array.getElem?_eq_some_iff.1 hg).1, fun i hi => ?_⟩⟩
    have key : w.cell? ⟨b, 0 + i, none⟩ = (xs.map (Value.int .i32))[i]? := by
      rw [<- ht, List.getElem?_take_of_lt (by omega)]
      simp [World.cell?, hg]
    rw [key]
    simp [List.getD, hi]
theorem Own32.form {w : World} {base : Nat} {v : Value} {xs : List Int} (h : Own32 w base v xs) : ∃ A c, v = .slice A xs.length c := by
  obtain ⟨hl, h⟩ := h
  rcases h with ⟨rfl, h0⟩ | ⟨g, cap, cur, rfl, _⟩
  . exact ⟨none, 0, by rw [h0]⟩
  . exact ⟨_, _, rfl⟩
theorem Own32.lt {w : World} {base : Nat} {v : Value} {xs : List Int} (h : Own32 w base v xs) : ∀ k, v.ownBlock = some k -> base <= k /\ k < w.heap.size := World.ownsRow.lt h
end Go.Proofs.YtliijchcpooplaaGreat
