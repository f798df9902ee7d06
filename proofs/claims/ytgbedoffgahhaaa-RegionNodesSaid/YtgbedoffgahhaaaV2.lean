/- Clone; begins. -/
import Derived.Test.YtgbedoffgahhaaaV1
import Derived.Test.YtgbedoffgahhaaaG8
import Derived.Test.YtgbedoffgahhaaaSpec
import Derived.WalkSpells
import Derived.Lib.BufferMore
namespace Go.Proofs.Ytgbedoffgahhaaa
open Go.ChangeShapes Go.WideShapes Go.ChangeAt Go.RowKit
set_option maxRecDepth 20000
set_option linter.unusedVariables false

def ClonePost (xs : List ValD) (W : World) (e : Ending) (w' : World) : Prop := ∃ v, e = .returned v ∧ OwnVals w' W.heap.size v xs ∧ Past W w'

set_option maxHeartbeats 1000000 in
theorem clone_any (xs : List ValD) (b off cap : Nat) (W : World) (h0 : 0 < xs.length) (h1 : xs.length ≤ 1000) (hc : xs.length ≤ cap) (hbb : b < W.heap.size) (hx : ∀ i, i < xs.length → ValAt W b (off + i * 4) (xs.getD i default)) :
    Calls Try.prog 35 #[.slice (some ⟨b, off, none⟩) xs.length cap] W (ClonePost xs W) := by
  obtain ⟨i0, hi0, hz0, hz1, hz2⟩ := info_parts info32
  have I1 := Lib.hid hi0
  have I2 := Lib.hid hz0
  have I3 := Lib.hid hz1
  have I4 := Lib.hid hz2
  have HX := Lib.hid (fun i hi => (hx i hi).grow hbb ((Past.refl W).alloc (.cells #[] 52)))
  have own : (W.alloc (.cells #[] 52)).ownsRow W.heap.size 52 4 (.slice (some ⟨W.heap.size, 0, none⟩) 0 0) 0 [] := by
    have := World.ownsRow_made (base := W.heap.size) (e := 52) (size := 4) W #[] 0 (by simp) (by simp) (by simp)
    simpa using this
  have OW := Lib.hid own
  have eN := fun (w : World) => Lib.run_eql_slice_some_nil (P := Try.prog) w (t := 32) ⟨b, off, none⟩ xs.length cap Try.underlying32
  clear hi0 hz0 hz1 hz2 hx own
  go_enter Try.func35, Try.ntmps35
  go_wp2_with (at_builtin; refine wpList_append_own _ rfl (.tmp 5) (.tmp 6) 32 rfl W.heap.size 52 i0 _ 4 32 Try.underlying32 I1.out I2.out I3.out I4.out rfl (by decide) _ 0 [] rfl OW.out ⟨b, off, none⟩ xs.length cap (valsCells xs) rfl (valsCells_len xs) (news_of_vals HX.out) (vals_one' xs) ?c4 ?c5 ?c6 ?_)
  case c4 => unfold maxLen; omega
  case c5 => omega
  case c6 => simp
  intro v4 w4 hown4 hgrow _
  have hp4 : Past W w4 := ((Past.refl W).alloc _).grownBy hgrow (fun j hj => by simp [Value.ownBlock] at hj; omega)
  have ho4 : OwnVals w4 W.heap.size v4 xs := by
    unfold OwnVals
    simpa using hown4
  clear hown4 hgrow
  go_wp2_with fail
  go_ret
  exact ⟨_, rfl, ho4, hp4⟩

theorem zeros_eq (w : World) : Calls Try.prog 50 #[] w fun e w' => e = .returned (.agg #[.int .i64 (-128), .int .i64 127]) ∧ w' = w.alloc (.cells #[.int .i64 (-128), .int .i64 127] 97) := by
  go_enter Try.func50, Try.ntmps50
  go_wp2
  exact bodyPost_ret (v := .agg #[.int .i64 (-128), .int .i64 127]) (by simp [results, Try.results50, go_sem]) rfl ⟨rfl, rfl⟩

theorem badZero_any (h w c z : Int) (W : World) :
    Calls Try.prog 49 #[.agg #[.int .i64 h, .int .i64 w, .int .i64 c, .int .i64 z]] W fun e w' => e = .returned (.bool (!holdB (-128) 127 z)) ∧ Grown W w' := by
  go_enter Try.func49, Try.ntmps49
  go_wp2_with fail
  go_region_held3 (fun w' => w'.cell? ⟨W.heap.size, 3, none⟩ = some (.int .i64 z)) (((try dsimp only) <;> go_cell))
    (first | (go_at_call 50; with_reducible refine (zeros_eq _).mono ?_; rintro e w1 ⟨rfl, rfl⟩) | (go_at_call 51; with_reducible refine (hold_any _ _ _ _).mono ?_; rintro e w1 ⟨rfl, rfl⟩))
  all_goals
    go_wp2_with fail
    go_ret
    exact ⟨rfl, by go_grown⟩
end Go.Proofs.Ytgbedoffgahhaaa
