/- The reference's Seal and Open; the laws' head. -/
import Derived.Test.YtdfkpclilcnofaaS4
import Derived.Test.YtdfkpclilcnofaaFix
namespace Go.Proofs.Ytdfkpclilcnofaa
open Go.ChangeShapes Go.WideShapes Go.ChangeAt Go.RowKit
set_option maxRecDepth 20000
set_option linter.unusedVariables false

def RSealPost (bs : List Nat) (W : World) (e : Ending) (w' : World) : Prop := ∃ v, e = .returned v ∧ OwnS w' W.heap.size v (sealD bs) ∧ Past W w'

theorem BL4 (S : Nat) (h : S < 2 ^ 32) : ([.int .u8 ((S : Int) % 256), .int .u8 ((S : Int) / 256 % 256), .int .u8 ((S : Int) / 65536 % 256), .int .u8 ((S : Int) / 16777216)] : List Value) = cellB (le4 S) := by
  have q : S / 16777216 % 256 = S / 16777216 := by omega
  simp [cellB, le4, q]

set_option maxHeartbeats 4000000 in
theorem rseal_any (bs : List Nat) (v : Value) (W : World) (h : IsNums .u8 W v (ints bs)) (hb : Bytes bs) (hl : bs.length ≤ 1000000) : Calls Try.prog 14 #[v] W (RSealPost bs W) := by
  have SM := Lib.hid (fun w (g : Past W w) => rsum_any bs _ w (h.grow g) hb hl)
  obtain ⟨A, cap, rfl, h2, h3, h4⟩ := nums_form h
  have H := Lib.hid (fun w (g : Past W w) => src_of (h.grow g))
  have HB := Lib.hid hb
  obtain ⟨i0, hi0, hz0, hz1, hz2⟩ := info_parts info8
  have I1 := Lib.hid hi0
  have I2 := Lib.hid hz0
  have I3 := Lib.hid hz1
  have I4 := Lib.hid hz2
  clear h hi0 hz0 hz1 hz2 h2 h4
  go_enter Try.func14, Try.ntmps14
  go_wp2_with fail
  refine (SM.out _ (Past.refl _)).mono ?_
  rintro e w1 ⟨rfl, gg⟩
  have g1 := Grown.past gg
  clear SM gg
  have sl := sum_lt HB.out
  obtain ⟨S, hS⟩ : ∃ S, sumD bs = S := ⟨_, rfl⟩
  have SS := Lib.hid hS
  rw [hS] at sl ⊢
  clear hS
  go_wp2_with (at_builtin; refine wpList_append_src rfl (.tmp 6) (.tmp 7) 22 rfl W.heap.size 5 i0 _ 1 1 Try.underlying22 I1.out I2.out I3.out I4.out rfl (by decide) _ 0 [] rfl (World.ownsRow_lit w1 #[] 0 g1.2.2.1 (by decide) rfl) A bs.length cap (cellB bs) rfl (by rw [cellB_len, Nat.mul_one]) (H.out _ (g1.alloc _)) (cellB_one bs) (by unfold maxLen; omega) (by omega) (by have := g1.2.2.1; simp; omega) ?_)
  intro v2 w2 own2 grow2
  have g2 : Past W w2 := (g1.alloc _).grownBy grow2 (fun k hk => by simp [Value.ownBlock] at hk; have := g1.2.2.1; omega)
  have O2 : Hid (OwnS w2 W.heap.size v2 bs) := Lib.hid (by unfold OwnS; simpa using own2)
  obtain ⟨A2, c2, rfl⟩ : ∃ A c, v2 = .slice A bs.length c := by
    rcases own2.2 with ⟨rfl, h0⟩ | ⟨b, cap, cur, rfl, _⟩
    · exact ⟨none, 0, by rw [h0]⟩
    · exact ⟨_, _, rfl⟩
  have G2 := Lib.hid g2
  clear own2 grow2 g1 g2
  have bl := BL4 S sl
  have B4 := Lib.hid bl
  clear bl
  go_wp2_with (at_builtin; refine wpList_append_src rfl (.tmp 8) (.tmp 20) 22 rfl W.heap.size 5 i0 _ 1 1 Try.underlying22 I1.out I2.out I3.out I4.out rfl (by decide) _ bs.length (cellB bs) rfl (World.ownsRow.alloc O2.out _) (some ⟨w2.heap.size, 0, none⟩) 4 4 [.int .u8 ((S : Int) % 256), .int .u8 ((S : Int) / 256 % 256), .int .u8 ((S : Int) / 65536 % 256), .int .u8 ((S : Int) / 16777216)] rfl rfl (src_new _ _ _ _) (by rw [B4.out]; exact cellB_one _) (by unfold maxLen; omega) (by omega) (by have := G2.out.2.2.1; simp; omega) ?_)
  intro v3 w3 own3 grow3
  have g3 : Past W w3 := (G2.out.alloc _).grownBy grow3 (fun k hk => World.ownsRow.lt O2.out k hk |>.1)
  have O3 : OwnS w3 W.heap.size v3 (sealD bs) := by
    unfold OwnS sealD
    rw [SS.out]
    have := own3
    rw [B4.out] at this
    simpa [cellB, le4] using this
  have OO := Lib.hid O3
  clear own3 grow3 O2 O3
  go_wp2_with fail
  go_ret
  exact ⟨_, rfl, OO.out, g3⟩
end Go.Proofs.Ytdfkpclilcnofaa
