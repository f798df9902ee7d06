/- The laws of lean regions, and of those whose facts stay, for what stands ahead of a last operation that waits for all others. -/
import Derived.Test.YtgbedoffgahhaaaFixE
namespace Go.Proofs.Ytgbedoffgahhaaa
open Go
theorem any_lean {P : Program} {Q : Exit → Act → World → Prop} {ops : List Oper} {a : Act} {w : World} (S : World → Prop) (ups : List (Tmp × Value)) (lates : List (Nat × Tmp)) (nost : List Nat) (I : Nat → (Nat → Value) → World → Prop) (deps kills later : List (Nat × List Nat)) (fin : List Nat)
    (hok : leanOK .any ops.toArray lates nost deps kills later fin = true) (hu : ((ups.map (·.1) ++ lates.map (·.2)).all fun t => ops.any fun o => o.dst == some t) = true) (hd : ∀ q ∈ lates, q.2 < a.tmps.size) (hS : S w) (hdr : ∀ w, S w → S w.drew)
    (hE : EarlyX P ops.toArray S (fun v => fillA (fillA a ups) (latesV lates v)) I deps (lates.map (·.1) ++ nost) 0 ops) (hL : LateX P ops.toArray S (fun v => fillA (fillA a ups) (latesV lates v)) I deps kills later (lates.map (·.1) ++ nost) 0 ops)
    (hQ : ∀ v w, S w → (∀ i, fin.contains i = true → I i v w) → Q .normal (fillA (fillA a ups) (latesV lates v)) w) : wpAny P .any ops.toArray Q ops.toArray.size (Array.replicate ops.toArray.size false) a w.drew := by
  have no : ∀ (t : Tmp) (j : Nat) (o : Oper), ops.toArray[j]? = some o → (Array.replicate ops.toArray.size false).getD j true = true → False := by
    intro t j o hj hr
    have := (Array.getElem?_eq_some_iff.1 hj).1
    rw [Array.getD_eq_getD_getElem?, Array.getElem?_replicate, if_pos this] at hr
    cases hr
  refine (wpAny_lean (a0 := fillA a ups) lates nost I deps kills later fin hok (fun q hq => by rw [fill_size]; exact hd q hq) hE hL hQ _ (Array.replicate ops.toArray.size false) a w.drew (fun _ => undef) (by simp) ?_ ⟨?_, ?_, fun t ht => ?_⟩ (hdr w hS) (fun i o ho hl => (no 0 i o ho hl).elim) (fun j hj hl _ => ?_))
  · unfold left
    exact Nat.le_trans (List.length_filter_le _ _) (by simp)
  · rw [fill_defers, fill_defers]
  · rw [fill_size, fill_size]
  · have key : ∀ s, s ∈ ups.map (·.1) ++ lates.map (·.2) → s ≠ t := by
      intro s hs e
      subst e
      have := List.all_eq_true.1 hu s hs
      rw [List.any_eq_true] at this
      obtain ⟨o, ho, hb⟩ := this
      obtain ⟨i, hi, hoi⟩ := List.getElem_of_mem ho
      have hoi' : ops.toArray[i]? = some o := by rw [List.getElem?_toArray]; exact List.getElem?_eq_some_iff.2 ⟨hi, hoi⟩
      exact no s i o hoi' (ht i o hoi' (by simpa using hb))
    rw [fill_off _ t (fun p hp => ?_), fill_off _ t (fun p hp => key p.1 (List.mem_append_left _ (List.mem_map.2 ⟨p, hp, rfl⟩)))]
    unfold latesV at hp
    obtain ⟨q, hq, rfl⟩ := List.mem_map.1 hp
    exact key q.2 (List.mem_append_right _ (List.mem_map.2 ⟨q, hq, rfl⟩))
  · exfalso
    have hjl : j < ops.toArray.size := by
      apply Classical.byContradiction
      intro c
      have h1 := hok
      unfold leanOK at h1
      simp only [Bool.and_eq_true] at h1
      obtain ⟨⟨⟨⟨⟨⟨_, h2⟩, h3⟩, _⟩, _⟩, _⟩, _⟩ := h1
      rcases List.mem_append.1 (List.contains_iff_mem.1 hj) with h | h
      · obtain ⟨q, hq, rfl⟩ := List.mem_map.1 h
        have := List.all_eq_true.1 h2 q hq
        rw [Array.getElem?_eq_none (by omega)] at this
        cases this
      · have := List.all_eq_true.1 h3 j h
        rw [Array.getElem?_eq_none (by omega)] at this
        simp at this
    rw [Array.getD_eq_getD_getElem?, Array.getElem?_replicate, if_pos hjl] at hl
    cases hl

theorem any_past {P : Program} {Q : Exit → Act → World → Prop} {ops : List Oper} {a : Act} {w : World} (W : World) (ups : List (Tmp × Value)) (lates : List (Nat × Tmp)) (J : Nat → Value → World → Prop) (deps : List (Nat × List Nat)) (fin : List Nat) (hJ : ∀ i x w w', Past w w' → J i x w → J i x w')
    (hok : leanOK .any ops.toArray lates [] deps [] [] fin = true) (hu : ((ups.map (·.1) ++ lates.map (·.2)).all fun t => ops.any fun o => o.dst == some t) = true) (hd : ∀ q ∈ lates, q.2 < a.tmps.size) (hS : Past W w)
    (hE : EarlyX P ops.toArray (Past W) (fun v => fillA (fillA a ups) (latesV lates v)) (fun i v w => J i (v i) w) deps (lates.map (·.1) ++ []) 0 ops) (hL : LateP P ops.toArray W (fun v => fillA (fillA a ups) (latesV lates v)) J deps (lates.map (·.1) ++ []) 0 ops)
    (hQ : ∀ v w, Past W w → (∀ i, fin.contains i = true → J i (v i) w) → Q .normal (fillA (fillA a ups) (latesV lates v)) w) : wpAny P .any ops.toArray Q ops.toArray.size (Array.replicate ops.toArray.size false) a w.drew :=
  any_lean (Past W) ups lates [] (fun i v w => J i (v i) w) deps [] [] fin hok hu hd hS (fun _ h => h) hE (lateP_x hJ hL) hQ
end Go.Proofs.Ytgbedoffgahhaaa
