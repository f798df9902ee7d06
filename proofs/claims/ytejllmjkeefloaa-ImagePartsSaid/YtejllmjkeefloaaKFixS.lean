/- A region whose order is open and whose operations leave what was there alone: calls that make memory, guarded or not, and those that lean on what they made. The laws of regions, for what stands ahead of a last operation that waits for all others. isa: a field, whether it is beyond its bounds; told; the closures. isa: fields of a kind. -/
import Derived.Test.YtejllmjkeefloaaKFixR
import Derived.Test.YtejllmjkeefloaaKG2
import Derived.Test.YtejllmjkeefloaaKRead
import Derived.Test.YtejllmjkeefloaaKFixM
import Derived.Test.YtejllmjkeefloaaKFixN
import Derived.Laws.ResultCell
import Derived.Test.YtejllmjkeefloaaKFixP
import Derived.Test.YtejllmjkeefloaaKI0
namespace Go.Proofs.Ytejllmjkeefloaa
open Go

/-- What a late one owes: it is done; it leaves what was there alone, and its own fact holds. -/
def LateP (P : Program) (ops : Array Oper) (W : World) (F : (Nat → Value) → Act) (J : Nat → Value → World → Prop) (deps : List (Nat × List Nat)) (late : List Nat) : Nat → List Oper → Prop
  | _, [] => True
  | k, o :: l => (late.contains k = false ∨ ∀ v w, Past W w → (∀ i, (deps.lookup k |>.getD []).contains i = true → J i (v i) w) → Region.wanted o (yielded ops (F v).tmps) = true ∧ ∀ K : Act → World → Prop, (∀ x w', Past w w' → J k x w' → K ((F v).put o.dst x) w') → o.wp P (F v) w K noPost) ∧ LateP P ops W F J deps late (k + 1) l
theorem lateP_skip {P : Program} {ops : Array Oper} {W : World} {F : (Nat → Value) → Act} {J : Nat → Value → World → Prop} {deps : List (Nat × List Nat)} {late : List Nat} {k : Nat} {o : Oper} {l : List Oper} (h : late.contains k = false) (g : LateP P ops W F J deps late (k + 1) l) : LateP P ops W F J deps late k (o :: l) := ⟨.inl h, g⟩
theorem lateP_cons {P : Program} {ops : Array Oper} {W : World} {F : (Nat → Value) → Act} {J : Nat → Value → World → Prop} {deps : List (Nat × List Nat)} {late : List Nat} {k : Nat} {o : Oper} {l : List Oper}
    (h : ∀ v w, Past W w → (∀ i, (deps.lookup k |>.getD []).contains i = true → J i (v i) w) → Region.wanted o (yielded ops (F v).tmps) = true ∧ ∀ K : Act → World → Prop, (∀ x w', Past w w' → J k x w' → K ((F v).put o.dst x) w') → o.wp P (F v) w K noPost) (g : LateP P ops W F J deps late (k + 1) l) : LateP P ops W F J deps late k (o :: l) := ⟨.inr h, g⟩
theorem lateP_x {P : Program} {ops : Array Oper} {W : World} {F : (Nat → Value) → Act} {J : Nat → Value → World → Prop} {deps : List (Nat × List Nat)} {late : List Nat} (hJ : ∀ i x w w', Past w w' → J i x w → J i x w') {l : List Oper} : ∀ {k : Nat}, LateP P ops W F J deps late k l → LateX P ops (Past W) F (fun i v w => J i (v i) w) deps [] [] late k l := by
  induction l with
  | nil => intro k _; trivial
  | cons o l ih =>
    intro k h
    refine ⟨?_, ih h.2⟩
    rcases h.1 with h | h
    · exact .inl h
    · refine .inr (fun v w hS hd => ?_)
      obtain ⟨h1, h2⟩ := h v w hS hd
      refine ⟨h1, fun K hK => h2 K (fun x w' p hj => ?_)⟩
      refine hK x w' (hS.trans p) (by show J k (updV v k x k) w'; rw [updV_same]; exact hj) (fun i hi _ _ hI => ?_)
      show J i (updV v k x i) w'
      rw [updV_ne v x hi]
      exact hJ i _ _ _ p hI
theorem wp_region_past {P : Program} {Q : Exit → Act → World → Prop} {ops : List Oper} {id : Nat} {a : Act} {w : World} (W : World) (ups : List (Tmp × Value)) (lates : List (Nat × Tmp)) (J : Nat → Value → World → Prop) (deps : List (Nat × List Nat)) (fin : List Nat) (hJ : ∀ i x w w', Past w w' → J i x w → J i x w')
    (hm : P.follows .mixedOrders = true) (hok : leanOK .any ops.toArray lates [] deps [] [] fin = true) (hu : ((ups.map (·.1) ++ lates.map (·.2)).all fun t => ops.any fun o => o.dst == some t) = true) (hd : ∀ q ∈ lates, q.2 < a.tmps.size) (hS : Past W w)
    (hE : EarlyX P ops.toArray (Past W) (fun v => fillA (fillA a ups) (latesV lates v)) (fun i v w => J i (v i) w) deps (lates.map (·.1) ++ []) 0 ops) (hL : LateP P ops.toArray W (fun v => fillA (fillA a ups) (latesV lates v)) J deps (lates.map (·.1) ++ []) 0 ops)
    (hQ : ∀ v w, Past W w → (∀ i, fin.contains i = true → J i (v i) w) → Q .normal (fillA (fillA a ups) (latesV lates v)) w) : (Code.region id ops.toArray true).wp P Q a w :=
  wp_region_lean (Past W) ups lates [] (fun i v w => J i (v i) w) deps [] [] fin hm hok hu hd hS (fun _ h => h) hE (lateP_x hJ hL) hQ
end Go.Proofs.Ytejllmjkeefloaa
namespace Go.Proofs.Ytejllmjkeefloaa
open Go

theorem any_mixd {P : Program} {ops : List Oper} {Q : Exit → Act → World → Prop} {a : Act} {w : World} (bs : List Nat) (S : World → Prop) (ups : List (Tmp × Value)) (slots : List Tmp) (hok : mixOK .any ops.toArray bs = true)
    (hu : ups.map (·.1) = slots) (hb : (slots.all fun t => (readSlots bs 0 ops).contains t) = true) (hS : S w) (hdr : ∀ w, S w → S w.drew) (hv : OwesRI P ops.toArray S (fillA a ups) bs 0 ops) (hQ : mixList P ops.toArray S Q bs (fillA a ups) w.drew) : wpAny P .any ops.toArray Q ops.toArray.size (Array.replicate ops.toArray.size false) a w.drew := by
  have hok' := hok
  simp only [mixOK, Bool.and_eq_true, decide_eq_true_eq] at hok'
  obtain ⟨⟨⟨⟨_, hch⟩, _⟩, hgu⟩, hnd⟩ := hok'
  have inB : ∀ i, i ∈ bs → i < ops.toArray.size := fun i hi => by
    rw [List.all_eq_true] at hgu
    have h := hgu i hi
    cases hq : ops.toArray[i]? with
    | none => simp [hq] at h
    | some q => exact (Array.getElem?_eq_some_iff.1 hq).1
  refine wpAny_mix (S := S) (a0 := fillA a ups) (bs := bs) hok (fun i o hi ho => hv.at_ (j := i) (by simpa using ho) (by simpa using hi)) _ (Array.replicate ops.toArray.size false) bs (fillA a ups) a w.drew (by simp) ?_ hch hnd (fun i => ?_) rfl rfl (fun _ _ => rfl) ⟨(fill_defers ups a).symm, (fill_size ups a).symm, fun t ht => ?_⟩ (hdr w hS) hQ
  · unfold left
    exact Nat.le_trans (List.length_filter_le _ _) (by simp)
  · refine ⟨fun h => ⟨h, ?_⟩, fun h => h.1⟩
    rw [Array.getD_eq_getD_getElem?, Array.getElem?_replicate, if_pos (inB i h)]
    rfl
  · refine (fill_off ups t (fun p hp e => ?_) a).symm
    have hmem : t ∈ slots := by rw [← hu, ← e]; exact List.mem_map.2 ⟨p, hp, rfl⟩
    rw [List.all_eq_true] at hb
    have h := hb t hmem
    obtain ⟨i, o, h1, h2, hd⟩ := readSlots_mem (by simpa using h)
    rw [Nat.zero_add] at h2
    have hkl : i < ops.length := (List.getElem?_eq_some_iff.1 h1).1
    have := ht i o (by simpa using h1) hd
    rcases this with h | h
    · rw [Array.getD_eq_getD_getElem?, Array.getElem?_replicate, if_pos (by simpa using hkl)] at h
      cases h
    · exact h2 h
theorem wp_region_lastn {P : Program} {Q : Exit → Act → World → Prop} {all : List Oper} {id : Nat} {a : Act} {w : World} (n : Nat) (last : Oper) (he : all = all.take n ++ [last]) (hm : P.follows .mixedOrders = true) (hok : lastOK .any (all.take n).toArray last = true)
    (h : wpAny P .any (all.take n).toArray (thenLast P Q last) (all.take n).toArray.size (Array.replicate (all.take n).toArray.size false) a w.drew) : (Code.region id all.toArray true).wp P Q a w := by
  have := wp_region_last (id := id) hm hok h
  rw [← he] at this
  exact this
end Go.Proofs.Ytejllmjkeefloaa
namespace Go.Proofs.Ytejllmjkeefloaa.Q8
open Go.ChangeShapes Go.WideShapes Go.ChangeAt Go.RowKit
set_option maxRecDepth 20000
set_option linter.unusedVariables false
set_option linter.unusedSimpArgs false

theorem box_set4 {w : World} {b : Nat} {x0 x1 x2 x3 y0 y1 y2 y3 : Value} (h : (∀ o : Nat, w.cell? ⟨b, o, none⟩ = (#[x0, x1, x2, x3] : Array Value)[o]?)) : (∀ o : Nat, ((((w.setCell ⟨b, 0, none⟩ y0).setCell ⟨b, 1, none⟩ y1).setCell ⟨b, 2, none⟩ y2).setCell ⟨b, 3, none⟩ y3).cell? ⟨b, o, none⟩ = (#[y0, y1, y2, y3] : Array Value)[o]?) := by
  have h0 := h 0
  have h1 := h 1
  have h2 := h 2
  have h3 := h 3
  have c0 : (((w.setCell ⟨b, 0, none⟩ y0).setCell ⟨b, 1, none⟩ y1).setCell ⟨b, 2, none⟩ y2).cell? ⟨b, 3, none⟩ = some x3 := by
    rw [World.cell?_setCell_other _ _ _ _ (by simp), World.cell?_setCell_other _ _ _ _ (by simp), World.cell?_setCell_other _ _ _ _ (by simp)]; exact h3
  have c1 : ((w.setCell ⟨b, 0, none⟩ y0).setCell ⟨b, 1, none⟩ y1).cell? ⟨b, 2, none⟩ = some x2 := by
    rw [World.cell?_setCell_other _ _ _ _ (by simp), World.cell?_setCell_other _ _ _ _ (by simp)]; exact h2
  have c2 : (w.setCell ⟨b, 0, none⟩ y0).cell? ⟨b, 1, none⟩ = some x1 := by
    rw [World.cell?_setCell_other _ _ _ _ (by simp)]; exact h1
  intro o
  match o with
  | 0 =>
    rw [World.cell?_setCell_other _ _ _ _ (by simp), World.cell?_setCell_other _ _ _ _ (by simp), World.cell?_setCell_other _ _ _ _ (by simp)]
    exact World.cell?_setCell_same w _ _ h0
  | 1 =>
    rw [World.cell?_setCell_other _ _ _ _ (by simp), World.cell?_setCell_other _ _ _ _ (by simp)]
    exact World.cell?_setCell_same _ _ _ c2
  | 2 =>
    rw [World.cell?_setCell_other _ _ _ _ (by simp)]
    exact World.cell?_setCell_same _ _ _ c1
  | 3 => exact World.cell?_setCell_same _ _ _ c0
  | k + 4 =>
    rw [World.cell?_setCell_other _ _ _ _ (by simp), World.cell?_setCell_other _ _ _ _ (by simp), World.cell?_setCell_other _ _ _ _ (by simp), World.cell?_setCell_other _ _ _ _ (by simp)]
    have := h (k + 4)
    simpa using this
theorem box_setAll {w : World} {b : Nat} {old new : Array Value} (h : (∀ o : Nat, w.cell? ⟨b, o, none⟩ = (old : Array Value)[o]?)) (hl : old.size = new.size) : (∀ o : Nat, (w.setCells b 0 new.toList).cell? ⟨b, o, none⟩ = (new : Array Value)[o]?) := by
  intro k
  by_cases c : k < new.size
  · have := World.cell?_setCells_in b new.toList 0 w (fun i hi => by
      rw [Nat.zero_add, h i, Array.getElem?_eq_getElem (by simpa [hl] using hi)]; rfl) k (by simpa using c)
    rw [Nat.zero_add] at this
    rw [this, Array.getElem?_eq_getElem c]
    simp
  · rw [World.cell?_setCells_out b new.toList 0 w ⟨b, k, none⟩ (fun _ _ => Or.inr (by simp; omega)), h k, Array.getElem?_eq_none (by omega), Array.getElem?_eq_none (by omega)]
theorem past_setAll {W : World} {b : Nat} (hb : W.heap.size ≤ b) : ∀ (l : List Value) (w : World) (o : Nat), Past W w → Past W (w.setCells b o l)
  | [], _, _, g => g
  | v :: l, w, o, g => by simp only [World.setCells]; exact past_setAll hb l _ _ (Past.setCell g (by simpa using hb) _)
theorem free_setAll {b b2 : Nat} (l : List Value) {w : World} {s : Nat} (h : (∀ o : Nat, w.frozen? ⟨b2, o, none⟩ = false)) : (∀ o : Nat, (w.setCells b s l).frozen? ⟨b2, o, none⟩ = false) := fun k => (World.frozen?_setCells b l s w _).trans (h k)
theorem size_setAll {b m : Nat} : ∀ (l : List Value) (w : World) (o : Nat), m ≤ w.heap.size → m ≤ (w.setCells b o l).heap.size
  | [], _, _, g => g
  | v :: l, w, o, g => by simp only [World.setCells]; exact size_setAll l _ _ (size_set g)
/-- A struct (or an array) is stored, whole, into a box of its own: the world behind it is a letter. -/
theorem wpList_store_box {P : Program} {ops : Array Oper} {rest : List Oper} {op : Oper} {a : Act} {w : World} {Q : Exit → Act → World → Prop} (hgd : op.guard = none) (ty : TypeId) (x y : Operand) (ho : op.op = .store ty x y)
    (b : Nat) (cells old : Array Value) (hx : a.eval x = .pointer (some ⟨b, 0, none⟩)) (hy : a.eval y = .agg cells) (hb : (∀ o : Nat, w.cell? ⟨b, o, none⟩ = (old : Array Value)[o]?)) (hf : (∀ o : Nat, w.frozen? ⟨b, o, none⟩ = false)) (hs : old.size = cells.size)
    (hi : (P.info? ty).map (·.size) = some cells.size) (h1 : cells.all (·.oneCell') = true) (S : World → Prop) (hS : S (w.setCells b 0 cells.toList)) (h : ∀ w', S w' → wpList P ops Q rest (a.put op.dst undef) w') : wpList P ops Q (op :: rest) a w :=
  wpList_store_mid hgd ty x y ho b 0 cells hx hy (fun j hj => ⟨by rw [Nat.zero_add, hb j, Array.getElem?_eq_getElem (by omega)]; rfl, by rw [Nat.zero_add]; exact hf j⟩) hi h1 (h _ hS)
/-- The cells of a field of the command at block P. -/
def fldC (P : Nat) (f : Fld) : List Value := [.pointer (some ⟨P, f.pos, none⟩), .int .i64 f.lo, .int .i64 f.hi, .int .i64 (f.wide : Int)]
def fldV (P : Nat) (f : Fld) : Value := .agg ⟨fldC P f⟩
def fldsC (P : Nat) (fs : List Fld) : List Value := fs.flatMap (fldC P)
/-- A row of fields, at the beginning of a block. -/
def IsFlds (w : World) (P : Nat) (v : Value) (fs : List Fld) : Prop :=
  (fs = [] ∧ v = .slice none 0 0) ∨ ∃ b, v = .slice (some ⟨b, 0, none⟩) fs.length fs.length ∧ b < w.heap.size ∧ (∀ o : Nat, w.cell? ⟨b, o, none⟩ = (⟨fldsC P fs⟩ : Array Value)[o]?)
theorem IsFlds.past {w w' : World} {P : Nat} {v : Value} {fs : List Fld} (h : IsFlds w P v fs) (g : Past w w') : IsFlds w' P v fs := by
  rcases h with h | ⟨b, e, hb, hc⟩
  · exact .inl h
  · exact .inr ⟨b, e, Nat.lt_of_lt_of_le hb g.2.2.1, box_past g hc hb⟩
set_option maxHeartbeats 1000000 in
theorem beyond_any (P : Nat) (f : Fld) (x : Int) (W : World) (hx : W.cell? ⟨P, f.pos, none⟩ = some (.int .i64 x)) :
    Calls Try.prog 105 #[fldV P f] W fun e w' => e = .returned (.bool (!decide (f.lo ≤ x ∧ x ≤ f.hi))) ∧ Past W w' := by
  obtain ⟨po, lo, hi, wd⟩ := f
  simp only at hx ⊢
  show Calls _ _ #[.agg #[.pointer (some ⟨P, po, none⟩), .int .i64 lo, .int .i64 hi, .int .i64 (wd : Int)]] _ _
  have hP := cell_lt hx
  by_cases h1 : x < lo
  · have d1 : decide (x < lo) = true := by simpa using h1
    have d2 : (!decide (lo ≤ x ∧ x ≤ hi)) = true := by simp; omega
    rw [d2]
    clear d2
    go_enter Try.func105, Try.ntmps105
    go_upto_region 1 with fail
    refine opq (fun w' => (∀ o : Nat, w'.cell? ⟨W.heap.size, o, none⟩ = (#[.pointer (some ⟨P, po, none⟩), .int .i64 lo, .int .i64 hi, .int .i64 (wd : Int)] : Array Value)[o]?) ∧ w'.cell? ⟨P, po, none⟩ = some (.int .i64 x) ∧ Past W w') kKeep ?_
    rintro w1 ⟨b1, c1, p1⟩
    have P1 := Lib.hid p1
    clear p1 hx hP
    go_quiet (fail)
    go_wp2_with fail
    go_ret
    exact ⟨rfl, P1.out⟩
  · have d1 : decide (x < lo) = false := by simpa using h1
    have d2 : (!decide (lo ≤ x ∧ x ≤ hi)) = decide (hi < x) := by
      have : lo ≤ x := by omega
      simp only [this, true_and]
      by_cases q : x ≤ hi
      · have : ¬ hi < x := by omega
        simp [q, this]
      · have : hi < x := by omega
        simp [q, this]
    rw [d2]
    clear d2
    go_enter Try.func105, Try.ntmps105
    go_upto_region 1 with fail
    refine opq (fun w' => (∀ o : Nat, w'.cell? ⟨W.heap.size, o, none⟩ = (#[.pointer (some ⟨P, po, none⟩), .int .i64 lo, .int .i64 hi, .int .i64 (wd : Int)] : Array Value)[o]?) ∧ w'.cell? ⟨P, po, none⟩ = some (.int .i64 x) ∧ Past W w') kKeep ?_
    rintro w1 ⟨b1, c1, p1⟩
    have P1 := Lib.hid p1
    clear p1 hx hP
    go_quiet (fail)
    go_wp2_with fail
    go_ret
    exact ⟨rfl, P1.out⟩
theorem told_any (v : Value) (A : Option Addr) (n c : Nat) (hv : v = .slice A n c) (W : World) : Calls Try.prog 126 #[v] W fun e w' => e = .returned (.tuple #[v, .bool true]) ∧ w' = W := by
  subst hv
  go_enter Try.func126, Try.ntmps126
  go_wp2_with fail
  go_ret2
  exact ⟨rfl, rfl⟩
end Go.Proofs.Ytejllmjkeefloaa.Q8
namespace Go.Proofs.Ytejllmjkeefloaa.Q8
open Go.ChangeShapes Go.WideShapes Go.ChangeAt Go.RowKit
set_option maxRecDepth 20000
set_option linter.unusedVariables false
set_option linter.unusedSimpArgs false

set_option maxHeartbeats 1000000 in
theorem part1_any (i : Nat) (hi : i = 0 ∨ i = 1) (P Q : Nat) (W : World) (hq : (∀ o : Nat, W.cell? ⟨Q, o, none⟩ = (#[.pointer (some ⟨P, 0, none⟩)] : Array Value)[o]?)) :
    Calls Try.prog 123 #[.int .i64 (i : Int), .pointer (some ⟨Q, 0, none⟩)] W fun e w' => e = .returned (fldV P ⟨8 + i, 0, 1023, 2⟩) ∧ Past W w' := by
  have hQ : Q < W.heap.size := cell_lt (hq 0)
  rcases hi with rfl | rfl
  all_goals
    go_enter Try.func123, Try.ntmps123
    go_upto_region 1 with fail
    refine opq (fun w' => (∀ o : Nat, w'.cell? ⟨Q, o, none⟩ = (#[.pointer (some ⟨P, 0, none⟩)] : Array Value)[o]?) ∧ (∀ o : Nat, w'.cell? ⟨W.heap.size, o, none⟩ = (#[.pointer none, .int .i64 0, .int .i64 0, .int .i64 0] : Array Value)[o]?) ∧ (∀ o : Nat, w'.frozen? ⟨W.heap.size, o, none⟩ = false) ∧ Past W w' ∧ W.heap.size + 1 ≤ w'.heap.size) kKeep ?_
    rintro w1 ⟨b1, b2, f2, p1, z1⟩
    have P1 := Lib.hid p1
    clear p1
    go_wp2_with fail
  · have b4 := box_set4 (y0 := .pointer (some ⟨P, 8 + 0, none⟩)) (y1 := .int .i64 0) (y2 := .int .i64 1023) (y3 := .int .i64 2) b2
    exact bodyPost_ret (v := .agg #[.pointer (some ⟨P, 8 + 0, none⟩), .int .i64 0, .int .i64 1023, .int .i64 2]) (by simp [results, Try.results123, go_sem, b4]) rfl ⟨rfl, by have := P1.out; (exact kKeep)⟩
  · have b4 := box_set4 (y0 := .pointer (some ⟨P, 8 + 1, none⟩)) (y1 := .int .i64 0) (y2 := .int .i64 1023) (y3 := .int .i64 2) b2
    exact bodyPost_ret (v := .agg #[.pointer (some ⟨P, 8 + 1, none⟩), .int .i64 0, .int .i64 1023, .int .i64 2]) (by simp [results, Try.results123, go_sem, b4]) rfl ⟨rfl, by have := P1.out; (exact kKeep)⟩
set_option maxHeartbeats 1000000 in
theorem part2_any (i : Nat) (hi : i = 0 ∨ i = 1) (P Q : Nat) (W : World) (hq : (∀ o : Nat, W.cell? ⟨Q, o, none⟩ = (#[.pointer (some ⟨P, 0, none⟩)] : Array Value)[o]?)) :
    Calls Try.prog 124 #[.int .i64 (i : Int), .pointer (some ⟨Q, 0, none⟩)] W fun e w' => e = .returned (fldV P ⟨10 + i, 0, 15, 1⟩) ∧ Past W w' := by
  have hQ : Q < W.heap.size := cell_lt (hq 0)
  rcases hi with rfl | rfl
  all_goals
    go_enter Try.func124, Try.ntmps124
    go_upto_region 1 with fail
    refine opq (fun w' => (∀ o : Nat, w'.cell? ⟨Q, o, none⟩ = (#[.pointer (some ⟨P, 0, none⟩)] : Array Value)[o]?) ∧ (∀ o : Nat, w'.cell? ⟨W.heap.size, o, none⟩ = (#[.pointer none, .int .i64 0, .int .i64 0, .int .i64 0] : Array Value)[o]?) ∧ (∀ o : Nat, w'.frozen? ⟨W.heap.size, o, none⟩ = false) ∧ Past W w' ∧ W.heap.size + 1 ≤ w'.heap.size) kKeep ?_
    rintro w1 ⟨b1, b2, f2, p1, z1⟩
    have P1 := Lib.hid p1
    clear p1
    go_wp2_with fail
  · have b4 := box_set4 (y0 := .pointer (some ⟨P, 10 + 0, none⟩)) (y1 := .int .i64 0) (y2 := .int .i64 15) (y3 := .int .i64 1) b2
    exact bodyPost_ret (v := .agg #[.pointer (some ⟨P, 10 + 0, none⟩), .int .i64 0, .int .i64 15, .int .i64 1]) (by simp [results, Try.results124, go_sem, b4]) rfl ⟨rfl, by have := P1.out; (exact kKeep)⟩
  · have b4 := box_set4 (y0 := .pointer (some ⟨P, 10 + 1, none⟩)) (y1 := .int .i64 0) (y2 := .int .i64 15) (y3 := .int .i64 1) b2
    exact bodyPost_ret (v := .agg #[.pointer (some ⟨P, 10 + 1, none⟩), .int .i64 0, .int .i64 15, .int .i64 1]) (by simp [results, Try.results124, go_sem, b4]) rfl ⟨rfl, by have := P1.out; (exact kKeep)⟩
set_option maxHeartbeats 1000000 in
theorem part3_any (i : Nat) (hi : i = 0 ∨ i = 1) (P Q : Nat) (W : World) (hq : (∀ o : Nat, W.cell? ⟨Q, o, none⟩ = (#[.pointer (some ⟨P, 0, none⟩)] : Array Value)[o]?)) :
    Calls Try.prog 125 #[.int .i64 (i : Int), .pointer (some ⟨Q, 0, none⟩)] W fun e w' => e = .returned (fldV P ⟨12 + i, 0, 16, 1⟩) ∧ Past W w' := by
  have hQ : Q < W.heap.size := cell_lt (hq 0)
  rcases hi with rfl | rfl
  all_goals
    go_enter Try.func125, Try.ntmps125
    go_upto_region 1 with fail
    refine opq (fun w' => (∀ o : Nat, w'.cell? ⟨Q, o, none⟩ = (#[.pointer (some ⟨P, 0, none⟩)] : Array Value)[o]?) ∧ (∀ o : Nat, w'.cell? ⟨W.heap.size, o, none⟩ = (#[.pointer none, .int .i64 0, .int .i64 0, .int .i64 0] : Array Value)[o]?) ∧ (∀ o : Nat, w'.frozen? ⟨W.heap.size, o, none⟩ = false) ∧ Past W w' ∧ W.heap.size + 1 ≤ w'.heap.size) kKeep ?_
    rintro w1 ⟨b1, b2, f2, p1, z1⟩
    have P1 := Lib.hid p1
    clear p1
    go_wp2_with fail
  · have b4 := box_set4 (y0 := .pointer (some ⟨P, 12 + 0, none⟩)) (y1 := .int .i64 0) (y2 := .int .i64 16) (y3 := .int .i64 1) b2
    exact bodyPost_ret (v := .agg #[.pointer (some ⟨P, 12 + 0, none⟩), .int .i64 0, .int .i64 16, .int .i64 1]) (by simp [results, Try.results125, go_sem, b4]) rfl ⟨rfl, by have := P1.out; (exact kKeep)⟩
  · have b4 := box_set4 (y0 := .pointer (some ⟨P, 12 + 1, none⟩)) (y1 := .int .i64 0) (y2 := .int .i64 16) (y3 := .int .i64 1) b2
    exact bodyPost_ret (v := .agg #[.pointer (some ⟨P, 12 + 1, none⟩), .int .i64 0, .int .i64 16, .int .i64 1]) (by simp [results, Try.results125, go_sem, b4]) rfl ⟨rfl, by have := P1.out; (exact kKeep)⟩
end Go.Proofs.Ytejllmjkeefloaa.Q8
