/- A region whose last operation waits for all others: the others as a region of their own, and then that one. Sums of bytes in plain numbers: halving with a pattern is linear over XOR, and one to one below 2^32; what is turned within four bytes turns what is left. -/
import Derived.Test.YtejllmjkeefloaaGreatKG5
import Derived.Test.YtejllmjkeefloaaGreatProg
namespace Go.Proofs.YtejllmjkeefloaaGreat
open Go

section
variable {P : Program} {Q : Exit → Act → World → Prop} {md : Region.Mode}

/-- What is owed behind the others: the last one, and then the rest. -/
def thenLast (P : Program) (Q : Exit → Act → World → Prop) (o : Oper) : Exit → Act → World → Prop
  | .normal, a, w => o.wp P a w (Q .normal) Q
  | e, a, w => Q e a w
theorem upon_then {last o : Oper} {a : Act} {K K' : Act → World → Prop} {r : Result Next} (hK : ∀ a w, K a w → K' a w) (h : o.upon P a K (thenLast P Q last) r) : o.upon P a K' Q r := by
  cases r with
  | ok n w' =>
    cases n with
    | value v => exact hK _ _ h
    | skip => exact hK _ _ h
    | defer d => exact hK _ _ h
    | enter f args =>
      refine Calls.mono h fun e w'' he => ?_
      cases e with
      | returned v => exact hK _ _ he
      | panicked c => exact he
      | outgrown => exact he
    | row row args => exact Rows.mono h fun v w'' he => hK _ _ he
    | _ => exact h.elim
  | halt x w' =>
    cases x with
    | panic v => exact h
    | _ => exact h.elim
/-- What is asked: the last one has no guard and waits for each other; the others wait for none but each other, and their guards look at each other. -/
def lastOK (md : Region.Mode) (ops : Array Oper) (last : Oper) : Bool :=
  last.guard.isNone &&
  ((List.range ops.size).all fun j => last.after.any fun e => Region.binds md e && e.on == j) &&
  (last.after.all fun e => !Region.binds md e || decide (e.on < ops.size)) &&
  ((List.range ops.size).all fun i => match ops[i]? with
    | none => true
    | some o => (o.after.all fun e => !Region.binds md e || decide (e.on < i)) && (match o.guard with | none => true | some g => decide (g.1 < ops.size)))
theorem yielded_push {ops : Array Oper} {last : Oper} {tmps : Array Value} {g : Nat} (h : g < ops.size) : yielded (ops.push last) tmps g = yielded ops tmps g := by
  unfold yielded
  rw [Array.getElem?_push, if_neg (by omega)]
theorem all_of_ready {ops : Array Oper} (hafter : ∀ i o, ops[i]? = some o → ∀ e ∈ o.after, Region.binds md e = true → e.on < i) (listed : Array Bool) (hsz : listed.size = ops.size) (hr : Region.ready md ops listed = []) : ∀ j o, ops[j]? = some o → listed.getD j true = true := by
  have lt : ∀ {j p}, ops[j]? = some p → j < ops.size := fun h => (Array.getElem?_eq_some_iff.1 h).1
  intro j
  induction j using Nat.strongRecOn with
  | ind j ih =>
    intro o hj
    apply Classical.byContradiction
    intro c
    have c' : listed.getD j true = false := by simpa using c
    have : j ∈ Region.ready md ops listed := mem_ready.2 ⟨c', o, hj, fun e he hb => by
      have hlt := hafter j o hj e he hb
      have he2 : ops[e.on]? = some (ops[e.on]'(Nat.lt_trans hlt (lt hj))) := Array.getElem?_eq_getElem (Nat.lt_trans hlt (lt hj))
      have := ih e.on hlt _ he2
      rw [Array.getD_eq_getD_getElem?] at this ⊢
      rw [Array.getElem?_eq_getElem (by rw [hsz]; exact Nat.lt_trans hlt (lt hj))] at this ⊢
      exact this⟩
    rw [hr] at this
    cases this
theorem wpAny_last {ops : Array Oper} {last : Oper} (hok : lastOK md ops last = true) : ∀ (fuel : Nat) (listed : Array Bool) (a : Act) (w : World), listed.size = ops.size → wpAny P md ops (thenLast P Q last) fuel listed a w → wpAny P md (ops.push last) Q (fuel + 1) (listed.push false) a w := by
  unfold lastOK at hok
  simp only [Bool.and_eq_true] at hok
  obtain ⟨⟨⟨g0, g1⟩, g2⟩, g3⟩ := hok
  have hguard : last.guard = none := Option.isNone_iff_eq_none.1 g0
  have at3 : ∀ i o, ops[i]? = some o → (∀ e ∈ o.after, Region.binds md e = true → e.on < i) ∧ ∀ g, o.guard = some g → g.1 < ops.size := by
    intro i o ho
    have hi : i < ops.size := (Array.getElem?_eq_some_iff.1 ho).1
    have := List.all_eq_true.1 g3 i (List.mem_range.2 hi)
    simp only [ho, Bool.and_eq_true] at this
    refine ⟨fun e he hb => ?_, fun g hg => ?_⟩
    · have h4 := this.1
      rw [Array.all_eq_true] at h4
      obtain ⟨k, hk, rfl⟩ := Array.getElem_of_mem he
      have := h4 k hk
      simp only [Bool.or_eq_true, Bool.not_eq_true', decide_eq_true_eq] at this
      rcases this with h | h
      · rw [hb] at h; cases h
      · exact h
    · have h5 := this.2
      rw [hg] at h5
      simpa using h5
  have waits : ∀ j, j < ops.size → ∃ e ∈ last.after, Region.binds md e = true ∧ e.on = j := by
    intro j hj
    have := List.all_eq_true.1 g1 j (List.mem_range.2 hj)
    rw [Array.any_eq_true] at this
    obtain ⟨k, hk, h⟩ := this
    simp only [Bool.and_eq_true, beq_iff_eq] at h
    exact ⟨_, Array.getElem_mem hk, h.1, h.2⟩
  have only : ∀ e ∈ last.after, Region.binds md e = true → e.on < ops.size := by
    intro e he hb
    rw [Array.all_eq_true] at g2
    obtain ⟨k, hk, rfl⟩ := Array.getElem_of_mem he
    have := g2 k hk
    simp only [Bool.or_eq_true, Bool.not_eq_true', decide_eq_true_eq] at this
    rcases this with h | h
    · rw [hb] at h; cases h
    · exact h
  have getp : ∀ {α : Type} (A : Array α) (x : α) (i : Nat) (d : α), i < A.size → (A.push x).getD i d = A.getD i d := by
    intro α A x i d h
    rw [Array.getD_eq_getD_getElem?, Array.getD_eq_getD_getElem?, Array.getElem?_push, if_neg (by omega)]
  -- all others are behind us: only the last is ready, and behind it nothing
  have done : ∀ (listed : Array Bool) (fuel : Nat) (a : Act) (w : World), listed.size = ops.size → Region.ready md ops listed = [] → last.wp P a w (Q .normal) Q → wpAny P md (ops.push last) Q (fuel + 1) (listed.push false) a w := by
    intro listed fuel a w hsz hr hl
    have hall := all_of_ready (fun i o ho => (at3 i o ho).1) listed hsz hr
    have hgetn : (ops.push last)[ops.size]? = some last := by rw [Array.getElem?_push, if_pos rfl]
    have hready : ∀ i, i ∈ Region.ready md (ops.push last) (listed.push false) → i = ops.size := by
      intro i hi
      obtain ⟨hu, o, ho, _⟩ := mem_ready.1 hi
      apply Classical.byContradiction
      intro c
      have hlt : i < (ops.push last).size := (Array.getElem?_eq_some_iff.1 ho).1
      have hlt' : i < ops.size := by simp at hlt; omega
      rw [getp listed false i true (by omega)] at hu
      rw [Array.getElem?_push, if_neg c] at ho
      rw [hall i o ho] at hu
      cases hu
    have hlast : ops.size ∈ Region.ready md (ops.push last) (listed.push false) := by
      refine mem_ready.2 ⟨?_, last, hgetn, fun e he hb => ?_⟩
      · rw [Array.getD_eq_getD_getElem?, ← hsz, Array.getElem?_push, if_pos rfl]; rfl
      · have hlt := only e he hb
        rw [getp listed false e.on false (by omega)]
        have h1 := hall e.on _ (Array.getElem?_eq_getElem hlt)
        rw [Array.getD_eq_getD_getElem?, Array.getElem?_eq_getElem (by omega)] at h1 ⊢
        exact h1
    refine ⟨fun h => (by rw [h] at hlast; cases hlast), fun i hi => ?_⟩
    rw [hready i hi]
    unfold wpOp
    simp only [hgetn]
    have hw : Region.wanted last (yielded (ops.push last) a.tmps) = true := by unfold Region.wanted; rw [hguard]
    rw [if_pos hw]
    refine .inl (Oper.wp_mono (fun a' w' hQ => ?_) hl)
    have hnone : Region.ready md (ops.push last) ((listed.push false).setIfInBounds ops.size true) = [] := by
      cases hq : Region.ready md (ops.push last) ((listed.push false).setIfInBounds ops.size true) with
      | nil => rfl
      | cons x xs =>
        have hx : x ∈ Region.ready md (ops.push last) ((listed.push false).setIfInBounds ops.size true) := by rw [hq]; exact List.mem_cons_self
        obtain ⟨hu, o, ho, _⟩ := mem_ready.1 hx
        have hlt : x < (ops.push last).size := (Array.getElem?_eq_some_iff.1 ho).1
        have hlt' : x < ops.size + 1 := by simpa using hlt
        by_cases c : x = ops.size
        · subst c
          rw [Array.getD_eq_getD_getElem?, Array.getElem?_setIfInBounds_self_of_lt (by simp; omega)] at hu
          cases hu
        · rw [getD_set_ne true (fun e => c e.symm), getp listed false x true (by omega)] at hu
          rw [Array.getElem?_push, if_neg c] at ho
          rw [hall x o ho] at hu
          cases hu
    cases fuel with
    | zero => exact ⟨hnone, hQ⟩
    | succ f => exact ⟨fun _ => hQ, fun i hi => (by rw [hnone] at hi; cases hi)⟩
  intro fuel
  induction fuel with
  | zero =>
    intro listed a w hsz h
    exact done listed 0 a w hsz h.1 h.2
  | succ fuel ih =>
    intro listed a w hsz h
    by_cases hr : Region.ready md ops listed = []
    · exact done listed (fuel + 1) a w hsz hr (h.1 hr)
    · obtain ⟨j0, hj0⟩ := List.exists_mem_of_ne_nil _ hr
      obtain ⟨hu0, o0, ho0, hall0⟩ := mem_ready.1 hj0
      have lt0 : j0 < ops.size := (Array.getElem?_eq_some_iff.1 ho0).1
      refine ⟨fun hn => ?_, fun i hi => ?_⟩
      · exfalso
        have : j0 ∈ Region.ready md (ops.push last) (listed.push false) := by
          refine mem_ready.2 ⟨?_, o0, ?_, fun e he hb => ?_⟩
          · rw [getp listed false j0 true (by omega)]; exact hu0
          · rw [Array.getElem?_push, if_neg (by omega)]; exact ho0
          · have := (at3 j0 o0 ho0).1 e he hb
            rw [getp listed false e.on false (by omega)]
            exact hall0 e he hb
        rw [hn] at this
        cases this
      · obtain ⟨hu, o, ho, hall⟩ := mem_ready.1 hi
        have hlt : i < (ops.push last).size := (Array.getElem?_eq_some_iff.1 ho).1
        have hlt' : i < ops.size + 1 := by simpa using hlt
        have hin : i ≠ ops.size := by
          intro c
          subst c
          rw [Array.getElem?_push, if_pos rfl] at ho
          injection ho with ho
          subst ho
          obtain ⟨e, he, hb, hon⟩ := waits j0 lt0
          have := hall e he hb
          rw [hon, getp listed false j0 false (by omega), Array.getD_eq_getD_getElem?, Array.getElem?_eq_getElem (by omega)] at this
          rw [Array.getD_eq_getD_getElem?, Array.getElem?_eq_getElem (by omega)] at hu0
          simp only [Option.getD_some] at this hu0
          rw [this] at hu0
          cases hu0
        have hii : i < ops.size := by omega
        rw [Array.getElem?_push, if_neg hin] at ho
        have hir : i ∈ Region.ready md ops listed := by
          refine mem_ready.2 ⟨?_, o, ho, fun e he hb => ?_⟩
          · rw [getp listed false i true (by omega)] at hu; exact hu
          · have h1 := hall e he hb
            have := (at3 i o ho).1 e he hb
            rw [getp listed false e.on false (by omega)] at h1
            exact h1
        have hop := h.2 i hir
        have ho' : (ops.push last)[i]? = some o := by rw [Array.getElem?_push, if_neg hin]; exact ho
        have hset : (listed.push false).setIfInBounds i true = (listed.setIfInBounds i true).push false := by
          apply Array.ext_getElem?
          intro k
          rw [Array.getElem?_push, Array.size_setIfInBounds]
          by_cases c : i = k
          · subst c
            rw [Array.getElem?_setIfInBounds_self_of_lt (by simp; omega), if_neg (by omega), Array.getElem?_setIfInBounds_self_of_lt (by omega)]
          · rw [Array.getElem?_setIfInBounds_ne c, Array.getElem?_push, Array.getElem?_setIfInBounds_ne c]
        have hnext : ∀ a' w', wpAny P md ops (thenLast P Q last) fuel (listed.setIfInBounds i true) a' w' → wpAny P md (ops.push last) Q (fuel + 1) ((listed.push false).setIfInBounds i true) a' w' := by
          intro a' w' hh
          rw [hset]
          exact ih _ _ _ (by simpa using hsz) hh
        unfold wpOp at hop ⊢
        simp only [ho, ho'] at hop ⊢
        have hwant : Region.wanted o (yielded (ops.push last) a.tmps) = Region.wanted o (yielded ops a.tmps) := by
          unfold Region.wanted
          cases hg : o.guard with
          | none => rfl
          | some gw =>
            obtain ⟨g, want⟩ := gw
            simp only [yielded_push ((at3 i o ho).2 _ hg)]
        rw [hwant]
        split at hop
        · rename_i hw
          rw [if_pos hw]
          rcases hop with hop | ⟨ha, b, w1, hb⟩
          · exact .inl (upon_then hnext hop)
          · exact .inr ⟨ha, b, w1, hb⟩
        · rename_i hw
          rw [if_neg hw]
          exact hnext _ _ hop
theorem wp_region_last {ops : List Oper} {last : Oper} {id : Nat} {a : Act} {w : World} (hm : P.follows .mixedOrders = true) (hok : lastOK .any ops.toArray last = true)
    (h : wpAny P .any ops.toArray (thenLast P Q last) ops.toArray.size (Array.replicate ops.toArray.size false) a w.drew) : (Code.region id (ops ++ [last]).toArray true).wp P Q a w := by
  refine wp_region_any hm ?_
  have e1 : (ops ++ [last]).toArray = ops.toArray.push last := by simp
  have e2 : Array.replicate (ops.toArray.push last).size false = (Array.replicate ops.toArray.size false).push false := by
    rw [Array.size_push, Array.replicate_succ]
  rw [e1, e2, Array.size_push]
  exact wpAny_last hok _ _ a w.drew (by simp) h
end
end Go.Proofs.YtejllmjkeefloaaGreat
namespace Go.Proofs.YtejllmjkeefloaaGreat.Q7

def hv (r : Nat) : Nat := if r % 2 = 1 then (r / 2) ^^^ 3988292384 else r / 2
def hvs : Nat → Nat → Nat
  | 0, r => r
  | n + 1, r => hvs n (hv r)
def byteD (r c : Nat) : Nat := hvs 8 (r ^^^ c)
def crc (r : Nat) (l : List Nat) : Nat := l.foldl byteD r
def sumD (l : List Nat) : Nat := crc 4294967295 l ^^^ 4294967295
theorem hv_zero : hv 0 = 0 := by decide
theorem hv_xor (x y : Nat) : hv (x ^^^ y) = hv x ^^^ hv y := by
  have e : (x ^^^ y) / 2 = x / 2 ^^^ y / 2 := by
    apply Nat.eq_of_testBit_eq; intro i
    simp [Nat.testBit_xor, Nat.testBit_div_two]
  have m : (x ^^^ y) % 2 = (x % 2 + y % 2) % 2 := by
    have := @Nat.xor_mod_two_eq_one x y
    omega
  unfold hv
  rcases Nat.mod_two_eq_zero_or_one x with hx | hx <;> rcases Nat.mod_two_eq_zero_or_one y with hy | hy <;> simp only [m, hx, hy, e] <;> simp
  · rw [Nat.xor_assoc]
  · rw [Nat.xor_assoc, Nat.xor_assoc, Nat.xor_comm 3988292384 (y / 2)]
  · rw [Nat.xor_assoc, ← Nat.xor_assoc 3988292384, Nat.xor_comm 3988292384 (y / 2), Nat.xor_assoc (y / 2)]; simp
theorem xor_zero_eq {x y : Nat} (h : x ^^^ y = 0) : x = y := by
  have := congrArg (· ^^^ y) h
  simpa [Nat.xor_assoc] using this
theorem hv_lt {x : Nat} (h : x < 2 ^ 32) : hv x < 2 ^ 32 := by
  unfold hv
  split
  · exact Nat.xor_lt_two_pow (by omega) (by decide)
  · omega
theorem hv_eq_zero {x : Nat} (h : x < 2 ^ 32) (z : hv x = 0) : x = 0 := by
  unfold hv at z
  split at z
  · have := xor_zero_eq z
    omega
  · omega
theorem hvs_zero (n : Nat) : hvs n 0 = 0 := by
  induction n with
  | zero => rfl
  | succ n ih => show hvs n (hv 0) = 0; rw [hv_zero, ih]
theorem hvs_xor (n : Nat) (x y : Nat) : hvs n (x ^^^ y) = hvs n x ^^^ hvs n y := by
  induction n generalizing x y with
  | zero => rfl
  | succ n ih => show hvs n (hv _) = hvs n (hv _) ^^^ hvs n (hv _); rw [hv_xor, ih]
theorem hvs_lt (n : Nat) {x : Nat} (h : x < 2 ^ 32) : hvs n x < 2 ^ 32 := by
  induction n generalizing x with
  | zero => exact h
  | succ n ih => exact ih (hv_lt h)
theorem hvs_eq_zero (n : Nat) {x : Nat} (h : x < 2 ^ 32) (z : hvs n x = 0) : x = 0 := by
  induction n generalizing x with
  | zero => exact z
  | succ n ih => exact hv_eq_zero h (ih (hv_lt h) z)
theorem hvs_add (m n x : Nat) : hvs (m + n) x = hvs n (hvs m x) := by
  induction m generalizing x with
  | zero => simp [hvs]
  | succ m ih => rw [show m + 1 + n = (m + n) + 1 by omega]; exact ih (hv x)
theorem hvs_snoc (n x : Nat) : hvs (n + 1) x = hv (hvs n x) := hvs_add n 1 x
theorem hv_two (y : Nat) : hv (2 * y) = y := by unfold hv; rw [if_neg (by omega)]; omega
theorem hvs8 (y : Nat) : hvs 8 (256 * y) = y := by
  show hv (hv (hv (hv (hv (hv (hv (hv (256 * y)))))))) = y
  rw [show 256 * y = 2 * (2 * (2 * (2 * (2 * (2 * (2 * (2 * y))))))) by omega]
  simp only [hv_two]
theorem byte_lt {r c : Nat} (h : r < 2 ^ 32) (hc : c < 256) : byteD r c < 2 ^ 32 := hvs_lt 8 (Nat.xor_lt_two_pow h (by omega))
theorem crc_lt {r : Nat} {l : List Nat} (h : r < 2 ^ 32) (hl : ∀ c ∈ l, c < 256) : crc r l < 2 ^ 32 := by
  induction l generalizing r with
  | nil => exact h
  | cons c l ih => exact ih (byte_lt h (hl c (List.mem_cons_self ..))) (fun d hd => hl d (List.mem_cons_of_mem _ hd))
theorem crc_cons (r c : Nat) (l : List Nat) : crc r (c :: l) = crc (byteD r c) l := rfl
theorem crc_app (r : Nat) (l m : List Nat) : crc r (l ++ m) = crc (crc r l) m := List.foldl_append ..
theorem crc_snoc (r : Nat) (l : List Nat) (c : Nat) : crc r (l ++ [c]) = byteD (crc r l) c := by rw [crc_app]; rfl
theorem sum_lt {l : List Nat} (hl : ∀ c ∈ l, c < 256) : sumD l < 2 ^ 32 := Nat.xor_lt_two_pow (crc_lt (by decide) hl) (by decide)
theorem xor4 (a b c d : Nat) : (a ^^^ b) ^^^ (c ^^^ d) = (a ^^^ c) ^^^ (b ^^^ d) := by
  rw [Nat.xor_assoc, Nat.xor_assoc, ← Nat.xor_assoc b, Nat.xor_comm b c, Nat.xor_assoc c]
theorem byte_xor (r s a b : Nat) : byteD (r ^^^ s) (a ^^^ b) = byteD r a ^^^ byteD s b := by
  unfold byteD; rw [xor4, hvs_xor]
/-- What is turned turns what is left, whatever it is in. -/
theorem crc_xor (r s : Nat) (l m : List Nat) (h : l.length = m.length) : crc (r ^^^ s) (List.zipWith (· ^^^ ·) l m) = crc r l ^^^ crc s m := by
  induction l generalizing r s m with
  | nil => cases m with
    | nil => rfl
    | cons => simp at h
  | cons a l ih => cases m with
    | nil => simp at h
    | cons b m =>
      simp only [List.zipWith_cons_cons, crc_cons]
      rw [byte_xor]
      exact ih _ _ m (by simpa using h)
theorem crc_noughts (r n : Nat) : crc r (List.replicate n 0) = hvs (8 * n) r := by
  induction n generalizing r with
  | zero => rfl
  | succ n ih =>
    rw [List.replicate_succ, crc_cons, ih]
    unfold byteD
    rw [Nat.xor_zero, show 8 * (n + 1) = 8 + 8 * n by omega, hvs_add]
def word (a b c d : Nat) : Nat := a ^^^ (256 * b) ^^^ (65536 * c) ^^^ (16777216 * d)
theorem crc_four (r a b c d : Nat) : crc r [a, b, c, d] = hvs 32 (r ^^^ word a b c d) := by
  have e : ∀ x y : Nat, hvs 8 (x ^^^ 256 * y) = hvs 8 x ^^^ y := fun x y => by rw [hvs_xor, hvs8]
  show byteD (byteD (byteD (byteD r a) b) c) d = _
  unfold byteD word
  rw [show 32 = 8 + (8 + (8 + 8)) from rfl, hvs_add, hvs_add, hvs_add]
  rw [← Nat.xor_assoc, ← Nat.xor_assoc, ← Nat.xor_assoc]
  rw [show 16777216 * d = 256 * (256 * (256 * d)) by omega, show 65536 * c = 256 * (256 * c) by omega]
  rw [e, e, e, e, e, e]
theorem word_add {a b c d : Nat} (ha : a < 256) (hb : b < 256) (hc : c < 256) (_hd : d < 256) : word a b c d = a + 256 * b + 65536 * c + 16777216 * d := by
  have e : ∀ k x y : Nat, x < 2 ^ k → x ^^^ (2 ^ k * y) = x + 2 ^ k * y := by
    intro k x y h
    rw [Nat.add_comm, Nat.two_pow_add_eq_or_of_lt h]
    apply Nat.eq_of_testBit_eq; intro i
    simp only [Nat.testBit_xor, Nat.testBit_or, Nat.testBit_two_pow_mul]
    by_cases k ≤ i
    · rw [Nat.testBit_lt_two_pow (Nat.lt_of_lt_of_le h (Nat.pow_le_pow_right (by omega) (by assumption)))]; simp
    · simp [*]
  unfold word
  rw [e 8 a b (by omega), e 16 (a + 256 * b) c (by omega), e 24 (a + 256 * b + 65536 * c) d (by omega)]
theorem word_lt {a b c d : Nat} (ha : a < 256) (hb : b < 256) (hc : c < 256) (hd : d < 256) : word a b c d < 2 ^ 32 := by rw [word_add ha hb hc hd]; omega
def le4 (r : Nat) : List Nat := [r % 256, r / 256 % 256, r / 65536 % 256, r / 16777216 % 256]
def sealD (l : List Nat) : List Nat := l ++ le4 (sumD l)
theorem word_le4 {r : Nat} (h : r < 2 ^ 32) : word (r % 256) (r / 256 % 256) (r / 65536 % 256) (r / 16777216 % 256) = r := by
  rw [word_add (by omega) (by omega) (by omega) (by omega)]; omega
theorem hvs_inj (n : Nat) {x y : Nat} (hx : x < 2 ^ 32) (hy : y < 2 ^ 32) (h : hvs n x = hvs n y) : x = y := by
  have : hvs n (x ^^^ y) = 0 := by rw [hvs_xor, h, Nat.xor_self]
  exact xor_zero_eq (hvs_eq_zero n (Nat.xor_lt_two_pow hx hy) this)
/-- What is sealed leaves one number, and nothing else of so many bytes does. -/
theorem sealed_iff {s : List Nat} (hs : ∀ c ∈ s, c < 256) (h4 : 4 ≤ s.length) : sealD (s.take (s.length - 4)) = s ↔ crc 4294967295 s = hvs 32 4294967295 := by
  obtain ⟨t, a, b, c, d, rfl⟩ : ∃ t a b c d, s = t ++ [a, b, c, d] := by
    have e := List.take_append_drop (s.length - 4) s
    have l : (s.drop (s.length - 4)).length = 4 := by rw [List.length_drop]; omega
    match hq : s.drop (s.length - 4), l with
    | [a, b, c, d], _ => exact ⟨_, a, b, c, d, by rw [← hq, e]⟩
  have ht : ∀ c ∈ t, c < 256 := fun c hc => hs c (List.mem_append_left _ hc)
  have ha := hs a (by simp)
  have hb := hs b (by simp)
  have hc := hs c (by simp)
  have hd := hs d (by simp)
  have e : (t ++ [a, b, c, d]).take ((t ++ [a, b, c, d]).length - 4) = t := by simp
  rw [e, crc_app, crc_four]
  have lt := crc_lt (r := 4294967295) (by decide) ht
  have ls := sum_lt ht
  have key : crc 4294967295 t ^^^ sumD t = 4294967295 := by
    unfold sumD; rw [← Nat.xor_assoc, Nat.xor_self, Nat.zero_xor]
  constructor
  · intro h
    have h := List.append_cancel_left h
    simp only [le4, List.cons.injEq, and_true] at h
    obtain ⟨h1, h2, h3, h4⟩ := h
    rw [← h1, ← h2, ← h3, ← h4, word_le4 ls, key]
  · intro h
    have h := hvs_inj 32 (Nat.xor_lt_two_pow lt (word_lt ha hb hc hd)) (by decide) h
    have h2 : word a b c d = sumD t := by
      have : crc 4294967295 t ^^^ (crc 4294967295 t ^^^ word a b c d) = crc 4294967295 t ^^^ 4294967295 := by rw [h]
      rw [← Nat.xor_assoc, Nat.xor_self, Nat.zero_xor] at this
      exact this
    have w := word_add ha hb hc hd
    clear h
    have h3 : le4 (sumD t) = [a, b, c, d] := by
      rw [← h2, w]
      simp only [le4, List.cons.injEq, and_true]
      omega
    unfold sealD
    rw [h3]
theorem seal_len (l : List Nat) : (sealD l).length = l.length + 4 := by simp [sealD, le4]
theorem seal_lt {l : List Nat} (hl : ∀ c ∈ l, c < 256) : ∀ c ∈ sealD l, c < 256 := by
  intro c hc
  rcases List.mem_append.1 hc with h | h
  · exact hl c h
  · simp only [le4, List.mem_cons, List.not_mem_nil, or_false] at h; omega
theorem seal_take (l : List Nat) : (sealD l).take ((sealD l).length - 4) = l := by rw [seal_len]; simp [sealD]
theorem seal_open (l : List Nat) : sealD ((sealD l).take ((sealD l).length - 4)) = sealD l := by rw [seal_take]
/-- Of bytes that are noughts but for four side by side something is left, if these are not all noughts. -/
theorem four_left {f : List Nat} {p : Nat} (hf : ∀ c ∈ f, c < 256) (hz : ∀ i, i < f.length → (i < p ∨ p + 4 ≤ i) → f.getD i 0 = 0) (h : crc 0 f = 0) : ∀ i, i < f.length → f.getD i 0 = 0 := by
  -- padded to length at least p + 4
  let g := f ++ List.replicate (p + 4) 0
  have hg : crc 0 g = 0 := by show crc 0 (f ++ _) = 0; rw [crc_app, h, crc_noughts, hvs_zero]
  have gl : p + 4 ≤ g.length := by simp [g]
  have gb : ∀ c ∈ g, c < 256 := by
    intro c hc
    rcases List.mem_append.1 hc with k | k
    · exact hf c k
    · rw [List.eq_of_mem_replicate k]; decide
  have gz : ∀ i, (i < p ∨ p + 4 ≤ i) → g.getD i 0 = 0 := by
    intro i hi
    by_cases c : i < f.length
    · have := hz i c hi
      simpa [g, List.getD, List.getElem?_append_left c] using this
    · show ((f ++ List.replicate (p + 4) 0)[i]?).getD 0 = 0
      rw [List.getElem?_append_right (by omega), List.getElem?_replicate]
      split <;> rfl
  have e1 : g.take p = List.replicate p 0 := by
    apply List.ext_getElem (by simp; omega)
    intro i h1 h2
    have := gz i (Or.inl (by simp at h1; omega))
    simp only [List.getElem_take, List.getElem_replicate]
    simp [List.getD] at this
    have l : i < g.length := by simp at h1; omega
    rw [List.getElem?_eq_getElem l] at this
    simpa using this
  have e2 : g.drop (p + 4) = List.replicate (g.length - (p + 4)) 0 := by
    apply List.ext_getElem (by simp)
    intro i h1 h2
    have l : p + 4 + i < g.length := by simp at h1; omega
    have := gz (p + 4 + i) (Or.inr (by omega))
    simp only [List.getElem_drop, List.getElem_replicate]
    simp [List.getD] at this
    rw [List.getElem?_eq_getElem l] at this
    simpa using this
  obtain ⟨a, b, c, d, e3⟩ : ∃ a b c d, (g.drop p).take 4 = [a, b, c, d] := by
    have l : ((g.drop p).take 4).length = 4 := by simp; omega
    match hq : (g.drop p).take 4, l with
    | [a, b, c, d], _ => exact ⟨a, b, c, d, rfl⟩
  have e4 : g = List.replicate p 0 ++ ([a, b, c, d] ++ List.replicate (g.length - (p + 4)) 0) := by
    have h1 := (List.take_append_drop p g).symm
    have h2 := (List.take_append_drop 4 (g.drop p)).symm
    rw [e3, List.drop_drop, e2] at h2
    rw [e1, h2] at h1
    exact h1
  have m : ∀ x ∈ [a, b, c, d], x < 256 := fun x hx => gb x (by rw [e4]; exact List.mem_append_right _ (List.mem_append_left _ hx))
  have ha := m a (by simp)
  have hb := m b (by simp)
  have hc := m c (by simp)
  have hd := m d (by simp)
  rw [e4, crc_app, crc_noughts, hvs_zero, crc_app, crc_four, crc_noughts, Nat.zero_xor, ← hvs_add] at hg
  have w := hvs_eq_zero _ (word_lt ha hb hc hd) hg
  rw [word_add ha hb hc hd] at w
  intro i hi
  by_cases q : i < p ∨ p + 4 ≤ i
  · exact hz i hi q
  · have r : g[i]? = (([a, b, c, d] : List Nat))[i - p]? := by
      rw [e4, List.getElem?_append_right (by simp; omega), List.getElem?_append_left (by simp; omega)]
      simp
    have r' : g[i]? = f[i]? := List.getElem?_append_left hi
    show f[i]?.getD 0 = 0
    rw [← r', r]
    obtain ⟨rfl, rfl, rfl, rfl⟩ : a = 0 ∧ b = 0 ∧ c = 0 ∧ d = 0 := by omega
    have : i - p = 0 ∨ i - p = 1 ∨ i - p = 2 ∨ i - p = 3 := by omega
    rcases this with k | k | k | k <;> rw [k] <;> rfl
end Go.Proofs.YtejllmjkeefloaaGreat.Q7
