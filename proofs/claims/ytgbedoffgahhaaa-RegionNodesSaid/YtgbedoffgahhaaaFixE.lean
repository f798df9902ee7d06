/- The laws of regions, for what stands ahead of a last operation that waits for all others. -/
import Derived.Test.YtgbedoffgahhaaaFixN
import Derived.Test.YtgbedoffgahhaaaFixD
import Derived.Test.YtgbedoffgahhaaaFixS
namespace Go.Proofs.Ytgbedoffgahhaaa
open Go

theorem any_mixd {P : Program} {ops : List Oper} {Q : Exit → Act → World → Prop} {a : Act} {w : World} (bs : List Nat) (S : World → Prop) (ups : List (Tmp × Value)) (slots : List Tmp) (hok : mixOK .any ops.toArray bs = true)
    (hu : ups.map (·.1) = slots) (hb : (slots.all fun t => (readSlots bs 0 ops).contains t) = true) (hS : S w) (hdr : ∀ w, S w → S w.drew) (hv : OwesRI P ops.toArray S (fillA a ups) bs 0 ops) (hQ : mixList P ops.toArray S Q bs (fillA a ups) w.drew) : wpAny P .any ops.toArray Q ops.toArray.size (Array.replicate ops.toArray.size false) a w.drew := by
  have hok' := hok
  simp only [mixOK, Bool.and_eq_true, decide_eq_true_eq] at hok'
  obtain ⟨⟨⟨⟨_, hch⟩, _⟩, hgu⟩, hnd⟩ := hok'
  have inB : ∀ i, i ∈ bs → i < ops.toArray.size := fun i hi => by
    rw [List.all_eq_true] at hgu
    have h := hgu i hi
    cases hq : ops.toArray[i]? with
    | none => simp [hq] at h
    | some q => exact (Array.getElem?_eq_some_iff.1 hq).1
  refine wpAny_mix (S := S) (a0 := fillA a ups) (bs := bs) hok (fun i o hi ho => hv.at_ (j := i) (by simpa using ho) (by simpa using hi)) _ (Array.replicate ops.toArray.size false) bs (fillA a ups) a w.drew (by simp) ?_ hch hnd (fun i => ?_) rfl rfl (fun _ _ => rfl) ⟨(fill_defers ups a).symm, (fill_size ups a).symm, fun t ht => ?_⟩ (hdr w hS) hQ
  · unfold left
    exact Nat.le_trans (List.length_filter_le _ _) (by simp)
  · refine ⟨fun h => ⟨h, ?_⟩, fun h => h.1⟩
    rw [Array.getD_eq_getD_getElem?, Array.getElem?_replicate, if_pos (inB i h)]
    rfl
  · refine (fill_off ups t (fun p hp e => ?_) a).symm
    have hmem : t ∈ slots := by rw [← hu, ← e]; exact List.mem_map.2 ⟨p, hp, rfl⟩
    rw [List.all_eq_true] at hb
    have h := hb t hmem
    obtain ⟨i, o, h1, h2, hd⟩ := readSlots_mem (by simpa using h)
    rw [Nat.zero_add] at h2
    have hkl : i < ops.length := (List.getElem?_eq_some_iff.1 h1).1
    have := ht i o (by simpa using h1) hd
    rcases this with h | h
    · rw [Array.getD_eq_getD_getElem?, Array.getElem?_replicate, if_pos (by simpa using hkl)] at h
      cases h
    · exact h2 h
theorem any_fix {P : Program} {ops : Array Oper} {Q : Exit → Act → World → Prop} {a : Act} {w : World} (S : World → Prop) (aF : Act) (hok : fixOK .any ops = true)
    (hd : a.defers = aF.defers) (hsz : a.tmps.size = aF.tmps.size) (hoff : ∀ t, (∀ o ∈ ops.toList, o.dst ≠ some t) → a.tmps[t]? = aF.tmps[t]?)
    (hS : S w) (hdr : ∀ w, S w → S w.drew) (hv : OwesAll P ops S aF ops.toList) (hQ : ∀ w, S w → Q .normal aF w) : wpAny P .any ops Q ops.size (Array.replicate ops.size false) a w.drew := by
  refine wpAny_fix hok (fun i o ho => hv.at_ o ?_) hQ _ _ _ _ (by simp) ?_ ⟨hd, hsz, fun t ht => hoff t fun o ho hdst => ?_⟩ (hdr w hS)
  · obtain ⟨h1, h2⟩ := Array.getElem?_eq_some_iff.1 ho
    rw [← h2]
    exact Array.mem_toList_iff.2 (Array.getElem_mem h1)
  · unfold left
    exact Nat.le_trans (List.length_filter_le _ _) (by simp)
  · obtain ⟨i, hi, rfl⟩ := List.getElem_of_mem ho
    have := ht i ops.toList[i] (by simp at hi ⊢) hdst
    simp at hi
    rw [Array.getD_eq_getD_getElem?, Array.getElem?_replicate] at this
    simp [hi] at this

theorem any_fill {P : Program} {ops : List Oper} {Q : Exit → Act → World → Prop} {a : Act} {w : World} (S : World → Prop) (ups : List (Tmp × Value)) (slots : List Tmp) (hok : fixOK .any ops.toArray = true)
    (hu : ups.map (·.1) = slots) (hb : (slots.all fun t => ops.any fun o => o.dst == some t) = true) (hS : S w) (hdr : ∀ w, S w → S w.drew) (hv : OwesAll P ops.toArray S (fillA a ups) ops) (hQ : ∀ w, S w → Q .normal (fillA a ups) w) : wpAny P .any ops.toArray Q ops.toArray.size (Array.replicate ops.toArray.size false) a w.drew := by
  refine any_fix S (fillA a ups) hok (fill_defers ups a).symm (fill_size ups a).symm (fun t ht => (fill_off ups t (fun p hp e => ?_) a).symm) hS hdr hv hQ
  have hmem : t ∈ slots := by rw [← hu, ← e]; exact List.mem_map.2 ⟨p, hp, rfl⟩
  rw [List.all_eq_true] at hb
  have := hb t hmem
  rw [List.any_eq_true] at this
  obtain ⟨o, ho, hd⟩ := this
  exact ht o ho (by simpa using hd)

theorem then_normal {P : Program} {Q : Exit → Act → World → Prop} {o : Oper} {a : Act} {w : World} (h : o.wp P a w (Q .normal) Q) : thenLast P Q o .normal a w := h
theorem wp_region_lastn {P : Program} {Q : Exit → Act → World → Prop} {all : List Oper} {id : Nat} {a : Act} {w : World} (n : Nat) (last : Oper) (he : all = all.take n ++ [last]) (hm : P.follows .mixedOrders = true) (hok : lastOK .any (all.take n).toArray last = true)
    (h : wpAny P .any (all.take n).toArray (thenLast P Q last) (all.take n).toArray.size (Array.replicate (all.take n).toArray.size false) a w.drew) : (Code.region id all.toArray true).wp P Q a w := by
  have := wp_region_last (id := id) hm hok h
  rw [← he] at this
  exact this
end Go.Proofs.Ytgbedoffgahhaaa
