/- A region whose order is open and whose operations leave what was there alone: calls that make memory, guarded or not, and those that lean on what they made. -/
import Derived.Test.YtgbedoffgahhaaaFixR
import Derived.Test.YtgbedoffgahhaaaRead
import Derived.Test.YtgbedoffgahhaaaG2
namespace Go.Proofs.Ytgbedoffgahhaaa
open Go

/-- What a late one owes: it is done; it leaves what was there alone, and its own fact holds. -/
def LateP (P : Program) (ops : Array Oper) (W : World) (F : (Nat → Value) → Act) (J : Nat → Value → World → Prop) (deps : List (Nat × List Nat)) (late : List Nat) : Nat → List Oper → Prop
  | _, [] => True
  | k, o :: l => (late.contains k = false ∨ ∀ v w, Past W w → (∀ i, (deps.lookup k |>.getD []).contains i = true → J i (v i) w) → Region.wanted o (yielded ops (F v).tmps) = true ∧ ∀ K : Act → World → Prop, (∀ x w', Past w w' → J k x w' → K ((F v).put o.dst x) w') → o.wp P (F v) w K noPost) ∧ LateP P ops W F J deps late (k + 1) l
theorem lateP_skip {P : Program} {ops : Array Oper} {W : World} {F : (Nat → Value) → Act} {J : Nat → Value → World → Prop} {deps : List (Nat × List Nat)} {late : List Nat} {k : Nat} {o : Oper} {l : List Oper} (h : late.contains k = false) (g : LateP P ops W F J deps late (k + 1) l) : LateP P ops W F J deps late k (o :: l) := ⟨.inl h, g⟩
theorem lateP_cons {P : Program} {ops : Array Oper} {W : World} {F : (Nat → Value) → Act} {J : Nat → Value → World → Prop} {deps : List (Nat × List Nat)} {late : List Nat} {k : Nat} {o : Oper} {l : List Oper}
    (h : ∀ v w, Past W w → (∀ i, (deps.lookup k |>.getD []).contains i = true → J i (v i) w) → Region.wanted o (yielded ops (F v).tmps) = true ∧ ∀ K : Act → World → Prop, (∀ x w', Past w w' → J k x w' → K ((F v).put o.dst x) w') → o.wp P (F v) w K noPost) (g : LateP P ops W F J deps late (k + 1) l) : LateP P ops W F J deps late k (o :: l) := ⟨.inr h, g⟩
theorem lateP_x {P : Program} {ops : Array Oper} {W : World} {F : (Nat → Value) → Act} {J : Nat → Value → World → Prop} {deps : List (Nat × List Nat)} {late : List Nat} (hJ : ∀ i x w w', Past w w' → J i x w → J i x w') {l : List Oper} : ∀ {k : Nat}, LateP P ops W F J deps late k l → LateX P ops (Past W) F (fun i v w => J i (v i) w) deps [] [] late k l := by
  induction l with
  | nil => intro k _; trivial
  | cons o l ih =>
    intro k h
    refine ⟨?_, ih h.2⟩
    rcases h.1 with h | h
    · exact .inl h
    · refine .inr (fun v w hS hd => ?_)
      obtain ⟨h1, h2⟩ := h v w hS hd
      refine ⟨h1, fun K hK => h2 K (fun x w' p hj => ?_)⟩
      refine hK x w' (hS.trans p) (by show J k (updV v k x k) w'; rw [updV_same]; exact hj) (fun i hi _ _ hI => ?_)
      show J i (updV v k x i) w'
      rw [updV_ne v x hi]
      exact hJ i _ _ _ p hI

theorem wp_region_past {P : Program} {Q : Exit → Act → World → Prop} {ops : List Oper} {id : Nat} {a : Act} {w : World} (W : World) (ups : List (Tmp × Value)) (lates : List (Nat × Tmp)) (J : Nat → Value → World → Prop) (deps : List (Nat × List Nat)) (fin : List Nat) (hJ : ∀ i x w w', Past w w' → J i x w → J i x w')
    (hm : P.follows .mixedOrders = true) (hok : leanOK .any ops.toArray lates [] deps [] [] fin = true) (hu : ((ups.map (·.1) ++ lates.map (·.2)).all fun t => ops.any fun o => o.dst == some t) = true) (hd : ∀ q ∈ lates, q.2 < a.tmps.size) (hS : Past W w)
    (hE : EarlyX P ops.toArray (Past W) (fun v => fillA (fillA a ups) (latesV lates v)) (fun i v w => J i (v i) w) deps (lates.map (·.1) ++ []) 0 ops) (hL : LateP P ops.toArray W (fun v => fillA (fillA a ups) (latesV lates v)) J deps (lates.map (·.1) ++ []) 0 ops)
    (hQ : ∀ v w, Past W w → (∀ i, fin.contains i = true → J i (v i) w) → Q .normal (fillA (fillA a ups) (latesV lates v)) w) : (Code.region id ops.toArray true).wp P Q a w :=
  wp_region_lean (Past W) ups lates [] (fun i v w => J i (v i) w) deps [] [] fin hm hok hu hd hS (fun _ h => h) hE (lateP_x hJ hL) hQ
end Go.Proofs.Ytgbedoffgahhaaa
