/- As wp_region_mix, with all that is known of the world ahead of the region. -/
import Derived.Test.YtgbedoffgahhaaaFixM
namespace Go.Proofs.Ytgbedoffgahhaaa
open Go

/-- THE LAW. ups: what each slot that a reading operation writes holds; bs: the numbers of the forced ones. -/
theorem wp_region_mixd {P : Program} {ops : List Oper} {Q : Exit → Act → World → Prop} {id : Nat} {a : Act} {w : World} (bs : List Nat) (S : World → Prop) (ups : List (Tmp × Value)) (slots : List Tmp) (hm : P.follows .mixedOrders = true) (hok : mixOK .any ops.toArray bs = true)
    (hu : ups.map (·.1) = slots) (hb : (slots.all fun t => (readSlots bs 0 ops).contains t) = true) (hS : S w) (hdr : ∀ w, S w → S w.drew) (hv : OwesRI P ops.toArray S (fillA a ups) bs 0 ops) (hQ : mixList P ops.toArray S Q bs (fillA a ups) w.drew) : (Code.region id ops.toArray true).wp P Q a w := by
  have hok' := hok
  simp only [mixOK, Bool.and_eq_true, decide_eq_true_eq] at hok'
  obtain ⟨⟨⟨⟨_, hch⟩, _⟩, hgu⟩, hnd⟩ := hok'
  have inB : ∀ i, i ∈ bs → i < ops.toArray.size := fun i hi => by
    rw [List.all_eq_true] at hgu
    have h := hgu i hi
    cases hq : ops.toArray[i]? with
    | none => simp [hq] at h
    | some q => exact (Array.getElem?_eq_some_iff.1 hq).1
  refine wp_region_any hm (wpAny_mix (S := S) (a0 := fillA a ups) (bs := bs) hok (fun i o hi ho => hv.at_ (j := i) (by simpa using ho) (by simpa using hi)) _ (Array.replicate ops.toArray.size false) bs (fillA a ups) a w.drew (by simp) ?_ hch hnd (fun i => ?_) rfl rfl (fun _ _ => rfl) ⟨(fill_defers ups a).symm, (fill_size ups a).symm, fun t ht => ?_⟩ (hdr w hS) hQ)
  · unfold left
    exact Nat.le_trans (List.length_filter_le _ _) (by simp)
  · refine ⟨fun h => ⟨h, ?_⟩, fun h => h.1⟩
    rw [Array.getD_eq_getD_getElem?, Array.getElem?_replicate, if_pos (inB i h)]
    rfl
  · refine (fill_off ups t (fun p hp e => ?_) a).symm
    have hmem : t ∈ slots := by rw [← hu, ← e]; exact List.mem_map.2 ⟨p, hp, rfl⟩
    rw [List.all_eq_true] at hb
    have h := hb t hmem
    obtain ⟨i, o, h1, h2, hd⟩ := readSlots_mem (by simpa using h)
    rw [Nat.zero_add] at h2
    have hkl : i < ops.length := (List.getElem?_eq_some_iff.1 h1).1
    have := ht i o (by simpa using h1) hd
    rcases this with h | h
    · rw [Array.getD_eq_getD_getElem?, Array.getElem?_replicate, if_pos (by simpa using hkl)] at h
      cases h
    · exact h2 h
end Go.Proofs.Ytgbedoffgahhaaa
