/- The laws' own: the commands that may be, out of the first 200. -/
import Derived.Test.YtlnlodbjkicgoaaI13
import Derived.Test.YtlnlodbjkicgoaaI14
namespace Go.Proofs.Ytlnlodbjkicgoaa
open Go.ChangeShapes Go.WideShapes Go.ChangeAt Go.RowKit
set_option maxRecDepth 20000
set_option linter.unusedVariables false
set_option linter.unusedSimpArgs false

def ownL (l : List (List Int)) (n : Nat) : List (List Int) := (l.take n).filter fun c => decide (mayD c)
theorem ownL_yes {l : List (List Int)} {n : Nat} (h : n < l.length) (hm : mayD (l.getD n [])) : ownL l (n + 1) = ownL l n ++ [l.getD n []] := by
  unfold ownL
  rw [List.take_succ_eq_append_getElem h, List.filter_append]
  have : l.getD n [] = l[n] := by simp [List.getD, h]
  rw [this] at hm ⊢
  simp [hm]
theorem ownL_no {l : List (List Int)} {n : Nat} (h : n < l.length) (hm : ¬ mayD (l.getD n [])) : ownL l (n + 1) = ownL l n := by
  unfold ownL
  rw [List.take_succ_eq_append_getElem h, List.filter_append]
  have : l.getD n [] = l[n] := by simp [List.getD, h]
  rw [this] at hm
  simp [hm]
theorem ownL_len (l : List (List Int)) (n : Nat) : (ownL l n).length ≤ n := Nat.le_trans (List.length_filter_le _ _) (by rw [List.length_take]; omega)
theorem ownL_ok {l : List (List Int)} (h : ∀ c ∈ l, wfC c) (n : Nat) : ∀ c ∈ ownL l n, okC c := fun c hc => by
  unfold ownL at hc
  rw [List.mem_filter] at hc
  exact ⟨(h c (List.mem_of_mem_take hc.1)).1, by simpa using hc.2⟩
theorem ownL_all (l : List (List Int)) (n : Nat) (h : l.length ≤ n) : ownL l n = ownL l l.length := by unfold ownL; rw [List.take_of_length_le h, List.take_length]
theorem ownC_lit (w : World) : OwnC (w.alloc (.cells #[] 32)) w.heap.size (.slice (some ⟨w.heap.size, 0, none⟩) 0 0) [] := ⟨World.ownsRow_lit w #[] 0 (Nat.le_refl _) (by decide) rfl, by simp⟩

def OwnPost (l : List (List Int)) (W : World) (e : Ending) (w' : World) : Prop := ∃ v, e = .returned v ∧ OwnC w' W.heap.size v (ownL l 200) ∧ Past W w'
set_option maxHeartbeats 1000000 in
theorem own_any (u : Value) (l : List (List Int)) (W : World) (hu : IsCmds W u l) : Calls Try.prog 20 #[u] W (OwnPost l W) := by
  have HU := Lib.hid hu
  obtain ⟨A, ca, rfl, a2, a3, _⟩ := hu.form
  have WL := Lib.hid hu.wf
  have hm : l.length ≤ 9223372036854775807 := by unfold maxLen at a3; omega
  clear hu
  go_enter Try.func20, Try.ntmps20
  go_wp2_with fail
  go_loopw [3, 4] (fun v i wr => ∃ n : Nat, n ≤ l.length ∧ n ≤ 200 ∧ i = .int .i64 n ∧ Hid (OwnC wr W.heap.size v (ownL l n) ∧ Past W wr)) (fun _ i _ => 200 - (intOf i).toNat)
  case atStart => exact ⟨0, by omega, by omega, rfl, Lib.hid ⟨ownC_lit W, (Past.refl W).alloc _⟩⟩
  case round =>
    obtain ⟨n, hnl, hn2, rfl, R⟩ := hrel
    by_cases h : n < l.length
    · by_cases h2 : n < 200
      · obtain ⟨b, off, rfl, hbl, hr⟩ := (HU.out.grow R.out.2).at n h
        have wc := wfC_at WL.out h
        have hy := fun q => ownL_yes h q
        have hno := fun q => ownL_no h q
        obtain ⟨c, hc⟩ : ∃ c, l.getD n [] = c := ⟨_, rfl⟩
        rw [hc] at hr wc hy hno
        have HR := Lib.hid hr
        have WC := Lib.hid wc
        have HY := Lib.hid hy
        have HN := Lib.hid hno
        clear hr wc hy hno hc hbl
        have HLE := Lib.hid (ownL_len l n)
        by_cases hmd : mayD c
        · have MA := Lib.hid (fun w => may_any c WC.out.1 w)
          rw [mayE_ok.2 hmd] at MA
          have NX := Lib.hid (HY.out hmd)
          clear HY HN hmd
          go_wp2_with (first | refine wpList_load_row rfl (.tmp 18) rfl b (off + n * 14) rfl c WC.out.1 HR.out ?_)
          refine (MA.out wr).mono ?_
          rintro e w2 ⟨rfl, p2⟩
          have R2 : Hid (OwnC w2 W.heap.size u3 (ownL l n) ∧ Past W w2) := Lib.hid ⟨R.out.1.past p2, R.out.2.trans p2⟩
          have HR2 : Hid (w2.rangeAt b (off + n * 14) (cellC c)) := Lib.hid (fun j v hv => (p2.cell (cell_lt (HR.out 0 _ (by rw [cellC_at c 0 (by rw [WC.out.1]; omega)])))).trans (HR.out j v hv))
          clear R HR p2 MA
          go_wp2_with (first | refine wpList_load_row rfl (.tmp 25) rfl b (off + n * 14) rfl c WC.out.1 HR2.out ?_ | refine wpList_lit_cmd rfl (.tmp 26) rfl c WC.out.1 rfl ?_ | (at_builtin; refine wpList_append_cmd rfl (.tmp 22) (.tmp 27) rfl W.heap.size u3 (ownL l n) rfl (R2.out.1.alloc _) ⟨w2.heap.size, 0, none⟩ c rfl WC.out (fun j u hu => cells_cmd w2 c j u hu) (by have := HLE.out; omega) (by have := R2.out.2.2.2.1; simp; omega) ?_))
          intro v6 w6 o6 g6
          have R6 : Hid (OwnC w6 W.heap.size v6 (ownL l (n + 1)) ∧ Past W w6) := Lib.hid ⟨by rw [NX.out]; exact o6, (R2.out.2.alloc _).grownBy g6 (fun k hk => R2.out.1.lt hk)⟩
          clear R2 HR2 o6 g6
          go_wp2_with fail
          go_roundw
          case rel => exact ⟨n + 1, by omega, by omega, by go_num, R6⟩
          case measure => simp [intOf]; omega
        · have MA := Lib.hid (fun w => may_any c WC.out.1 w)
          have e1 : mayE c = 1 := by unfold mayE; rw [if_neg hmd]
          rw [e1] at MA
          have NX := Lib.hid (HN.out hmd)
          clear HY HN hmd e1
          go_wp2_with (first | refine wpList_load_row rfl (.tmp 18) rfl b (off + n * 14) rfl c WC.out.1 HR.out ?_)
          refine (MA.out wr).mono ?_
          rintro e w2 ⟨rfl, p2⟩
          have R2 : Hid (OwnC w2 W.heap.size u3 (ownL l (n + 1)) ∧ Past W w2) := Lib.hid ⟨by rw [NX.out]; exact R.out.1.past p2, R.out.2.trans p2⟩
          clear R HR p2 MA
          go_wp2_with fail
          go_roundw
          case rel => exact ⟨n + 1, by omega, by omega, by go_num, R2⟩
          case measure => simp [intOf]; omega
      · obtain rfl : n = 200 := by omega
        go_wp2_with fail
        go_ret
        exact ⟨_, rfl, R.out.1, R.out.2⟩
    · have e0 : ownL l n = ownL l 200 := by
        obtain rfl : n = l.length := by omega
        exact (ownL_all l 200 hn2).symm
      rw [e0] at R
      go_wp2_with fail
      go_ret
      exact ⟨_, rfl, R.out.1, R.out.2⟩
end Go.Proofs.Ytlnlodbjkicgoaa
