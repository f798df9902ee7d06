/- graph: opOf, 1, 2, 3, 4. The reference of layer 2: May, Size, Row, Out. A region whose order is open and whose operations leave what was there alone: calls that make memory, guarded or not, and those that lean on what they made. The laws of regions, for what stands ahead of a last operation that waits for all others. A struct or an array of many cells that is loaded, whole, from the beginning of a box: told at once (the walk's own simp takes twice as long for each cell more). A box of many cells that is made: the world behind it is a letter. -/
import Derived.Test.YtejllmjkeefloaaJG6
import Derived.Test.YtejllmjkeefloaaJWorld
import Derived.Test.YtejllmjkeefloaaJFixR
import Derived.Test.YtejllmjkeefloaaJG2
import Derived.Test.YtejllmjkeefloaaJRead
import Derived.Test.YtejllmjkeefloaaJFixM
import Derived.Test.YtejllmjkeefloaaJFixN
import Derived.Deep.MidRow
import Derived.WalkKit
namespace Go.Proofs.Ytejllmjkeefloaa
open Go.ChangeShapes Go.WideShapes Go.ChangeAt Go.RowKit
set_option maxRecDepth 20000
set_option linter.unusedVariables false

set_option maxHeartbeats 2000000 in
theorem opOf_1 (w : World) : Calls Try.prog 99 #[.int .i64 1] w (Made1 ⟨1, 1, 3, 1, 2, 0, 1, 1, 8, false, false⟩ 128 131 (.func (.func 109) #[] #[]) (.func (.func 111) #[] #[]) w) := by
  go_enter Try.func99, Try.ntmps99
  go_wp2_with (first | (go_at_call 116; with_reducible refine (always_any _ _).mono ?_; rintro e w1 ⟨rfl, rfl⟩) | (go_at_call 108; with_reducible refine (slid_any _ _).mono ?_; rintro e w1 ⟨rfl, rfl⟩) | (go_at_call 110; with_reducible refine (ofChannels_any _ _).mono ?_; rintro e w1 ⟨rfl, rfl⟩))
  go_region_held3 (fun w' => w'.cell? ⟨w.heap.size + 1 + 1, 0, none⟩ = some (.int .i64 0) ∧ w'.cell? ⟨w.heap.size + 1 + 1, 1, none⟩ = some (.int .i64 1) ∧ w'.cell? ⟨w.heap.size + 1 + 1 + 1, 0, none⟩ = some (.int .i64 1) ∧ w'.cell? ⟨w.heap.size + 1 + 1 + 1, 1, none⟩ = some (.int .i64 8)) (((repeat' with_reducible apply And.intro) <;> go_cell)) (first | (go_at_call 116; with_reducible refine (always_any _ _).mono ?_; rintro e w1 ⟨rfl, rfl⟩) | (go_at_call 108; with_reducible refine (slid_any _ _).mono ?_; rintro e w1 ⟨rfl, rfl⟩) | (go_at_call 110; with_reducible refine (ofChannels_any _ _).mono ?_; rintro e w1 ⟨rfl, rfl⟩))
  all_goals
    go_wp2_with fail
    exact bodyPost_ret (by simp [results, Try.results99, go_sem]; rfl) rfl ⟨_, _, rfl, by go_cell, by simp, by go_cell, by simp, by go_grown⟩
set_option maxHeartbeats 2000000 in
theorem opOf_2 (w : World) : Calls Try.prog 99 #[.int .i64 2] w (Made1 ⟨1, 1, 3, 1, 2, 0, 1, 0, 0, false, false⟩ 128 131 (.func (.func 112) #[] #[]) (.func (.func 113) #[] #[]) w) := by
  go_enter Try.func99, Try.ntmps99
  go_wp2_with (first | (go_at_call 116; with_reducible refine (always_any _ _).mono ?_; rintro e w1 ⟨rfl, rfl⟩) | (go_at_call 108; with_reducible refine (slid_any _ _).mono ?_; rintro e w1 ⟨rfl, rfl⟩) | (go_at_call 110; with_reducible refine (ofChannels_any _ _).mono ?_; rintro e w1 ⟨rfl, rfl⟩))
  go_region_held3 (fun w' => w'.cell? ⟨w.heap.size + 1 + 1, 0, none⟩ = some (.int .i64 0) ∧ w'.cell? ⟨w.heap.size + 1 + 1, 1, none⟩ = some (.int .i64 1) ∧ w'.cell? ⟨w.heap.size + 1 + 1 + 1, 0, none⟩ = some (.int .i64 1) ∧ w'.cell? ⟨w.heap.size + 1 + 1 + 1, 1, none⟩ = some (.int .i64 8)) (((repeat' with_reducible apply And.intro) <;> go_cell)) (first | (go_at_call 116; with_reducible refine (always_any _ _).mono ?_; rintro e w1 ⟨rfl, rfl⟩) | (go_at_call 108; with_reducible refine (slid_any _ _).mono ?_; rintro e w1 ⟨rfl, rfl⟩) | (go_at_call 110; with_reducible refine (ofChannels_any _ _).mono ?_; rintro e w1 ⟨rfl, rfl⟩))
  all_goals
    go_wp2_with fail
    exact bodyPost_ret (by simp [results, Try.results99, go_sem]; rfl) rfl ⟨_, _, rfl, by go_cell, by simp, by go_cell, by simp, by go_grown⟩
set_option maxHeartbeats 2000000 in
theorem opOf_3 (w : World) : Calls Try.prog 99 #[.int .i64 3] w (Made0 ⟨1, 0, 0, 0, 0, 0, 0, 1, 8, false, false⟩ 114 131 (.func (.func 115) #[] #[]) w) := by
  go_enter Try.func99, Try.ntmps99
  go_wp2_with (first | (go_at_call 116; with_reducible refine (always_any _ _).mono ?_; rintro e w1 ⟨rfl, rfl⟩) | (go_at_call 108; with_reducible refine (slid_any _ _).mono ?_; rintro e w1 ⟨rfl, rfl⟩) | (go_at_call 110; with_reducible refine (ofChannels_any _ _).mono ?_; rintro e w1 ⟨rfl, rfl⟩))
  go_region_held3 (fun w' => w'.cell? ⟨w.heap.size + 1 + 1, 0, none⟩ = some (.int .i64 0) ∧ w'.cell? ⟨w.heap.size + 1 + 1, 1, none⟩ = some (.int .i64 1) ∧ w'.cell? ⟨w.heap.size + 1 + 1 + 1, 0, none⟩ = some (.int .i64 1) ∧ w'.cell? ⟨w.heap.size + 1 + 1 + 1, 1, none⟩ = some (.int .i64 8)) (((repeat' with_reducible apply And.intro) <;> go_cell)) (first | (go_at_call 116; with_reducible refine (always_any _ _).mono ?_; rintro e w1 ⟨rfl, rfl⟩) | (go_at_call 108; with_reducible refine (slid_any _ _).mono ?_; rintro e w1 ⟨rfl, rfl⟩) | (go_at_call 110; with_reducible refine (ofChannels_any _ _).mono ?_; rintro e w1 ⟨rfl, rfl⟩))
  all_goals
    go_wp2_with fail
    exact bodyPost_ret (by simp [results, Try.results99, go_sem]; rfl) rfl ⟨_, rfl, by go_cell, by simp, by go_grown⟩
set_option maxHeartbeats 2000000 in
theorem opOf_4 (w : World) : Calls Try.prog 99 #[.int .i64 4] w (Made1 ⟨1, 1, 3, 1, 2, 0, 0, 0, 0, false, true⟩ 128 132 (.func (.func 112) #[] #[]) (.int .i64 0) w) := by
  go_enter Try.func99, Try.ntmps99
  go_wp2_with (first | (go_at_call 116; with_reducible refine (always_any _ _).mono ?_; rintro e w1 ⟨rfl, rfl⟩) | (go_at_call 108; with_reducible refine (slid_any _ _).mono ?_; rintro e w1 ⟨rfl, rfl⟩) | (go_at_call 110; with_reducible refine (ofChannels_any _ _).mono ?_; rintro e w1 ⟨rfl, rfl⟩))
  exact bodyPost_ret (by simp [results, Try.results99, go_sem]; rfl) rfl ⟨_, _, rfl, by go_cell, by simp, by go_cell, by simp, by go_grown⟩
end Go.Proofs.Ytejllmjkeefloaa
namespace Go.Proofs.Ytejllmjkeefloaa
open Go.ChangeShapes Go.WideShapes Go.ChangeAt Go.RowKit

theorem rmay_yes (H W C : Int) (w : World) (h : mayS H W C) :
    Calls Try.prog 37 #[.agg #[.int .i64 H, .int .i64 W, .int .i64 C]] w fun e w' => e = .returned (.int .i64 0) ∧ Grown w w' := by
  obtain ⟨h1, h2, h3, h4, h5, h6⟩ := h
  go_enter Try.func37, Try.ntmps37
  go_wp2
  go_ret
  exact ⟨rfl, by go_grown⟩
theorem rmay_no (H W C : Int) (w : World) (h : ¬ mayS H W C) :
    Calls Try.prog 37 #[.agg #[.int .i64 H, .int .i64 W, .int .i64 C]] w fun e w' => e = .returned (.int .i64 10) ∧ Grown w w' := by
  by_cases c1 : H < 1
  · go_enter Try.func37, Try.ntmps37
    go_wp2
    go_ret
    exact ⟨rfl, by go_grown⟩
  by_cases c2 : 16 < H
  · go_enter Try.func37, Try.ntmps37
    go_wp2
    go_ret
    exact ⟨rfl, by go_grown⟩
  by_cases c3 : W < 1
  · go_enter Try.func37, Try.ntmps37
    go_wp2
    go_ret
    exact ⟨rfl, by go_grown⟩
  by_cases c4 : 16 < W
  · go_enter Try.func37, Try.ntmps37
    go_wp2
    go_ret
    exact ⟨rfl, by go_grown⟩
  by_cases c5 : C < 1
  · go_enter Try.func37, Try.ntmps37
    go_wp2
    go_ret
    exact ⟨rfl, by go_grown⟩
  by_cases c6 : 8 < C
  · go_enter Try.func37, Try.ntmps37
    go_wp2
    go_ret
    exact ⟨rfl, by go_grown⟩
  exact absurd ⟨by omega, by omega, by omega, by omega, by omega, by omega⟩ h
theorem rsize_any (H W C q : Int) (w : World) (hq : Hid (q = sizeI H W C)) :
    Calls Try.prog 90 #[.agg #[.int .i64 H, .int .i64 W, .int .i64 C]] w fun e w' => e = .returned (.int .i64 q) ∧ Grown w w' := by
  rw [hq.out]
  by_cases h : mayS H W C
  · have e : sizeI H W C = H * W * C := by unfold sizeI; rw [if_pos h]
    rw [e]
    obtain ⟨h1, h2, h3, h4, h5, h6⟩ := id h
    obtain ⟨m1, m2⟩ := mul_bd h1 h2 h3 h4
    obtain ⟨m3, m4⟩ := mul_bd m1 m2 h5 h6
    go_enter Try.func90, Try.ntmps90
    go_wp2_with fail
    refine (rmay_yes H W C _ h).mono ?_; rintro e w1 ⟨rfl, g1⟩
    have c0 : w1.cell? ⟨w.heap.size, 0, none⟩ = some (.int .i64 H) := (grown_cell g1 (by simp)).trans (by go_cell)
    have c1 : w1.cell? ⟨w.heap.size, 1, none⟩ = some (.int .i64 W) := (grown_cell g1 (by simp)).trans (by go_cell)
    have c2 : w1.cell? ⟨w.heap.size, 2, none⟩ = some (.int .i64 C) := (grown_cell g1 (by simp)).trans (by go_cell)
    clear h
    go_wp2_with fail
    go_ret
    exact ⟨rfl, grown_trans (by go_grown) g1⟩
  · have e : sizeI H W C = 0 := by unfold sizeI; rw [if_neg h]
    rw [e]
    go_enter Try.func90, Try.ntmps90
    go_wp2_with fail
    refine (rmay_no H W C _ h).mono ?_; rintro e w1 ⟨rfl, g1⟩
    go_wp2_with fail
    go_ret
    exact ⟨rfl, grown_trans (by go_grown) g1⟩
/-- Where the next window of the reference begins. -/
theorem rout_yes (size k stride pad n : Int) (w : World) (u1 : 1 ≤ size) (u2 : size ≤ 64) (v1 : 1 ≤ k) (v2 : k ≤ 16) (x1 : 1 ≤ stride) (x2 : stride ≤ 16) (y1 : 0 ≤ pad) (y2 : pad ≤ 16)
    (n1 : 0 ≤ n) (n2 : n ≤ 97) (hn : Hid (∀ j : Nat, (j : Int) ≤ n → (-pad + j * stride ≤ 4000 ∧ -16 ≤ -pad + j * stride ∧ (-pad + j * stride + k ≤ size + pad ↔ (j : Int) < n)))) :
    Calls Try.prog 89 #[.int .i64 size, .int .i64 k, .int .i64 stride, .int .i64 pad] w fun e w' => e = .returned (.int .i64 n) ∧ Grown w w' := by
  go_enter Try.func89, Try.ntmps89
  go_wp2_with fail
  go_loop [9, 10] (fun c a => ∃ j : Nat, (j : Int) ≤ n ∧ c = .int .i64 j ∧ a = .int .i64 (-pad + j * stride)) (fun c _ => (n - intOf c).toNat)
  case atStart => exact ⟨0, by omega, rfl, by simp⟩
  case round =>
    obtain ⟨j, hj, rfl, rfl⟩ := hrel
    obtain ⟨b1, b2, b3⟩ := hn.out j hj
    by_cases hlt : (j : Int) < n
    · have b4 := b3.mpr hlt
      clear b3
      go_wp2_with fail
      go_round
      case rel => exact ⟨j + 1, by omega, by go_num, by congr 1; rw [Int.natCast_add, Int.add_mul]; omega⟩
      case measure => simp [intOf]; omega
    · have b4 : ¬ (-pad + j * stride + k ≤ size + pad) := fun h => hlt (b3.mp h)
      obtain rfl : n = j := by omega
      clear b3
      go_wp2_with fail
      go_ret
      exact ⟨rfl, by go_grown⟩
theorem rout_any (size k stride pad q : Int) (w : World) (hq : Hid (q = outI size k stride pad)) :
    Calls Try.prog 89 #[.int .i64 size, .int .i64 k, .int .i64 stride, .int .i64 pad] w fun e w' => e = .returned (.int .i64 q) ∧ Grown w w' := by
  by_cases c : (1 ≤ size ∧ size ≤ 64) ∧ (1 ≤ k ∧ k ≤ 16) ∧ (1 ≤ stride ∧ stride ≤ 16) ∧ (0 ≤ pad ∧ pad ≤ 16)
  · obtain ⟨⟨u1, u2⟩, ⟨v1, v2⟩, ⟨x1, x2⟩, ⟨y1, y2⟩⟩ := c
    have q0 : 0 ≤ q ∧ q ≤ 97 := by rw [hq.out]; exact out_ge
    refine rout_yes size k stride pad q w u1 u2 v1 v2 x1 x2 y1 y2 q0.1 q0.2 (Lib.hid (fun j hj => ?_))
    have e : -pad + j * stride + k ≤ size + pad ↔ j * stride ≤ size + 2 * pad - k := by constructor <;> intro h <;> omega
    rw [e]
    by_cases c5 : k ≤ size + 2 * pad
    · have hw : mayWin size k stride pad := ⟨u1, u2, v1, v2, x1, x2, y1, y2, c5⟩
      have hq' := hq.out
      rw [outI_yes hw] at hq'
      have e2 := Int.le_ediv_iff_mul_le (a := (j : Int)) (b := size + 2 * pad - k) (c := stride) (by omega)
      have b1 : 0 ≤ (j : Int) * stride := Int.mul_nonneg (by omega) (by omega)
      have b2 : (j : Int) * stride ≤ 97 * 16 := Int.mul_le_mul (by omega) x2 (by omega) (by omega)
      refine ⟨by omega, by omega, ?_⟩
      rw [← e2]
      constructor <;> intro h <;> omega
    · have hq' := hq.out
      rw [outI_no (fun h => c5 h.2.2.2.2.2.2.2.2)] at hq'
      obtain rfl : j = 0 := by omega
      simp
      omega
  · have q0 : q = 0 := by rw [hq.out]; exact outI_no (fun h => c ⟨⟨h.1, h.2.1⟩, ⟨h.2.2.1, h.2.2.2.1⟩, ⟨h.2.2.2.2.1, h.2.2.2.2.2.1⟩, ⟨h.2.2.2.2.2.2.1, h.2.2.2.2.2.2.2.1⟩⟩)
    subst q0
    clear hq
    by_cases c1 : size < 1
    · clear c
      go_enter Try.func89, Try.ntmps89
      go_wp2
      go_ret
      exact ⟨rfl, by go_grown⟩
    by_cases c2 : 64 < size
    · clear c
      go_enter Try.func89, Try.ntmps89
      go_wp2
      go_ret
      exact ⟨rfl, by go_grown⟩
    by_cases c3 : k < 1
    · clear c
      go_enter Try.func89, Try.ntmps89
      go_wp2
      go_ret
      exact ⟨rfl, by go_grown⟩
    by_cases c4 : 16 < k
    · clear c
      go_enter Try.func89, Try.ntmps89
      go_wp2
      go_ret
      exact ⟨rfl, by go_grown⟩
    by_cases c5 : stride < 1
    · clear c
      go_enter Try.func89, Try.ntmps89
      go_wp2
      go_ret
      exact ⟨rfl, by go_grown⟩
    by_cases c6 : 16 < stride
    · clear c
      go_enter Try.func89, Try.ntmps89
      go_wp2
      go_ret
      exact ⟨rfl, by go_grown⟩
    by_cases c7 : pad < 0
    · clear c
      go_enter Try.func89, Try.ntmps89
      go_wp2
      go_ret
      exact ⟨rfl, by go_grown⟩
    by_cases c8 : 16 < pad
    · clear c
      go_enter Try.func89, Try.ntmps89
      go_wp2
      go_ret
      exact ⟨rfl, by go_grown⟩
    exact absurd ⟨⟨by omega, by omega⟩, ⟨by omega, by omega⟩, ⟨by omega, by omega⟩, ⟨by omega, by omega⟩⟩ c
end Go.Proofs.Ytejllmjkeefloaa
namespace Go.Proofs.Ytejllmjkeefloaa
open Go

/-- What a late one owes: it is done; it leaves what was there alone, and its own fact holds. -/
def LateP (P : Program) (ops : Array Oper) (W : World) (F : (Nat → Value) → Act) (J : Nat → Value → World → Prop) (deps : List (Nat × List Nat)) (late : List Nat) : Nat → List Oper → Prop
  | _, [] => True
  | k, o :: l => (late.contains k = false ∨ ∀ v w, Past W w → (∀ i, (deps.lookup k |>.getD []).contains i = true → J i (v i) w) → Region.wanted o (yielded ops (F v).tmps) = true ∧ ∀ K : Act → World → Prop, (∀ x w', Past w w' → J k x w' → K ((F v).put o.dst x) w') → o.wp P (F v) w K noPost) ∧ LateP P ops W F J deps late (k + 1) l
theorem lateP_skip {P : Program} {ops : Array Oper} {W : World} {F : (Nat → Value) → Act} {J : Nat → Value → World → Prop} {deps : List (Nat × List Nat)} {late : List Nat} {k : Nat} {o : Oper} {l : List Oper} (h : late.contains k = false) (g : LateP P ops W F J deps late (k + 1) l) : LateP P ops W F J deps late k (o :: l) := ⟨.inl h, g⟩
theorem lateP_cons {P : Program} {ops : Array Oper} {W : World} {F : (Nat → Value) → Act} {J : Nat → Value → World → Prop} {deps : List (Nat × List Nat)} {late : List Nat} {k : Nat} {o : Oper} {l : List Oper}
    (h : ∀ v w, Past W w → (∀ i, (deps.lookup k |>.getD []).contains i = true → J i (v i) w) → Region.wanted o (yielded ops (F v).tmps) = true ∧ ∀ K : Act → World → Prop, (∀ x w', Past w w' → J k x w' → K ((F v).put o.dst x) w') → o.wp P (F v) w K noPost) (g : LateP P ops W F J deps late (k + 1) l) : LateP P ops W F J deps late k (o :: l) := ⟨.inr h, g⟩
theorem lateP_x {P : Program} {ops : Array Oper} {W : World} {F : (Nat → Value) → Act} {J : Nat → Value → World → Prop} {deps : List (Nat × List Nat)} {late : List Nat} (hJ : ∀ i x w w', Past w w' → J i x w → J i x w') {l : List Oper} : ∀ {k : Nat}, LateP P ops W F J deps late k l → LateX P ops (Past W) F (fun i v w => J i (v i) w) deps [] [] late k l := by
  induction l with
  | nil => intro k _; trivial
  | cons o l ih =>
    intro k h
    refine ⟨?_, ih h.2⟩
    rcases h.1 with h | h
    · exact .inl h
    · refine .inr (fun v w hS hd => ?_)
      obtain ⟨h1, h2⟩ := h v w hS hd
      refine ⟨h1, fun K hK => h2 K (fun x w' p hj => ?_)⟩
      refine hK x w' (hS.trans p) (by show J k (updV v k x k) w'; rw [updV_same]; exact hj) (fun i hi _ _ hI => ?_)
      show J i (updV v k x i) w'
      rw [updV_ne v x hi]
      exact hJ i _ _ _ p hI
theorem wp_region_past {P : Program} {Q : Exit → Act → World → Prop} {ops : List Oper} {id : Nat} {a : Act} {w : World} (W : World) (ups : List (Tmp × Value)) (lates : List (Nat × Tmp)) (J : Nat → Value → World → Prop) (deps : List (Nat × List Nat)) (fin : List Nat) (hJ : ∀ i x w w', Past w w' → J i x w → J i x w')
    (hm : P.follows .mixedOrders = true) (hok : leanOK .any ops.toArray lates [] deps [] [] fin = true) (hu : ((ups.map (·.1) ++ lates.map (·.2)).all fun t => ops.any fun o => o.dst == some t) = true) (hd : ∀ q ∈ lates, q.2 < a.tmps.size) (hS : Past W w)
    (hE : EarlyX P ops.toArray (Past W) (fun v => fillA (fillA a ups) (latesV lates v)) (fun i v w => J i (v i) w) deps (lates.map (·.1) ++ []) 0 ops) (hL : LateP P ops.toArray W (fun v => fillA (fillA a ups) (latesV lates v)) J deps (lates.map (·.1) ++ []) 0 ops)
    (hQ : ∀ v w, Past W w → (∀ i, fin.contains i = true → J i (v i) w) → Q .normal (fillA (fillA a ups) (latesV lates v)) w) : (Code.region id ops.toArray true).wp P Q a w :=
  wp_region_lean (Past W) ups lates [] (fun i v w => J i (v i) w) deps [] [] fin hm hok hu hd hS (fun _ h => h) hE (lateP_x hJ hL) hQ
end Go.Proofs.Ytejllmjkeefloaa
namespace Go.Proofs.Ytejllmjkeefloaa
open Go

theorem any_mixd {P : Program} {ops : List Oper} {Q : Exit → Act → World → Prop} {a : Act} {w : World} (bs : List Nat) (S : World → Prop) (ups : List (Tmp × Value)) (slots : List Tmp) (hok : mixOK .any ops.toArray bs = true)
    (hu : ups.map (·.1) = slots) (hb : (slots.all fun t => (readSlots bs 0 ops).contains t) = true) (hS : S w) (hdr : ∀ w, S w → S w.drew) (hv : OwesRI P ops.toArray S (fillA a ups) bs 0 ops) (hQ : mixList P ops.toArray S Q bs (fillA a ups) w.drew) : wpAny P .any ops.toArray Q ops.toArray.size (Array.replicate ops.toArray.size false) a w.drew := by
  have hok' := hok
  simp only [mixOK, Bool.and_eq_true, decide_eq_true_eq] at hok'
  obtain ⟨⟨⟨⟨_, hch⟩, _⟩, hgu⟩, hnd⟩ := hok'
  have inB : ∀ i, i ∈ bs → i < ops.toArray.size := fun i hi => by
    rw [List.all_eq_true] at hgu
    have h := hgu i hi
    cases hq : ops.toArray[i]? with
    | none => simp [hq] at h
    | some q => exact (Array.getElem?_eq_some_iff.1 hq).1
  refine wpAny_mix (S := S) (a0 := fillA a ups) (bs := bs) hok (fun i o hi ho => hv.at_ (j := i) (by simpa using ho) (by simpa using hi)) _ (Array.replicate ops.toArray.size false) bs (fillA a ups) a w.drew (by simp) ?_ hch hnd (fun i => ?_) rfl rfl (fun _ _ => rfl) ⟨(fill_defers ups a).symm, (fill_size ups a).symm, fun t ht => ?_⟩ (hdr w hS) hQ
  · unfold left
    exact Nat.le_trans (List.length_filter_le _ _) (by simp)
  · refine ⟨fun h => ⟨h, ?_⟩, fun h => h.1⟩
    rw [Array.getD_eq_getD_getElem?, Array.getElem?_replicate, if_pos (inB i h)]
    rfl
  · refine (fill_off ups t (fun p hp e => ?_) a).symm
    have hmem : t ∈ slots := by rw [← hu, ← e]; exact List.mem_map.2 ⟨p, hp, rfl⟩
    rw [List.all_eq_true] at hb
    have h := hb t hmem
    obtain ⟨i, o, h1, h2, hd⟩ := readSlots_mem (by simpa using h)
    rw [Nat.zero_add] at h2
    have hkl : i < ops.length := (List.getElem?_eq_some_iff.1 h1).1
    have := ht i o (by simpa using h1) hd
    rcases this with h | h
    · rw [Array.getD_eq_getD_getElem?, Array.getElem?_replicate, if_pos (by simpa using hkl)] at h
      cases h
    · exact h2 h
theorem wp_region_lastn {P : Program} {Q : Exit → Act → World → Prop} {all : List Oper} {id : Nat} {a : Act} {w : World} (n : Nat) (last : Oper) (he : all = all.take n ++ [last]) (hm : P.follows .mixedOrders = true) (hok : lastOK .any (all.take n).toArray last = true)
    (h : wpAny P .any (all.take n).toArray (thenLast P Q last) (all.take n).toArray.size (Array.replicate (all.take n).toArray.size false) a w.drew) : (Code.region id all.toArray true).wp P Q a w := by
  have := wp_region_last (id := id) hm hok h
  rw [← he] at this
  exact this
end Go.Proofs.Ytejllmjkeefloaa
namespace Go.Proofs.Ytejllmjkeefloaa
open Go

section
variable {P : Program} {ops : Array Oper} {Q : Exit → Act → World → Prop}

theorem range_box {w : World} {b o : Nat} {cells : Array Value} (h : ∀ k : Nat, w.cell? ⟨b, k, none⟩ = cells[k]?) (l : List Value) (hl : ∀ j v, l[j]? = some v → cells[o + j]? = some v) : w.rangeAt b o l := fun j v hv => by rw [h (o + j)]; exact hl j v hv
theorem wpList_load_box {rest : List Oper} {op : Oper} {a : Act} {w : World} (hgd : op.guard = none) (ty : TypeId) (x : Operand) (ho : op.op = .load ty x) (b : Nat) (cells : Array Value) {d : TypeDesc} (hx : a.eval x = .pointer (some ⟨b, 0, none⟩)) (hb : ∀ k : Nat, w.cell? ⟨b, k, none⟩ = cells[k]?)
    (hu : P.underlying ty = some d) (hd : d.isRow = true) (hi : (P.info? ty).map (·.size) = some cells.size) (h : wpList P ops Q rest (a.put op.dst (.agg cells)) w) : wpList P ops Q (op :: rest) a w :=
  wpList_load_mid hgd ty x ho b 0 hx cells.toList d (range_box hb _ (fun j v hv => by rw [Nat.zero_add]; simpa using hv)) hu hd (by simpa using hi) h
end
end Go.Proofs.Ytejllmjkeefloaa
namespace Go.Proofs.Ytejllmjkeefloaa
open Go

section
variable {P : Program} {ops : Array Oper} {Q : Exit → Act → World → Prop}

/-- A box of its own is made; the world behind it is a letter. -/
theorem wpList_alloc_box {rest : List Oper} {op : Oper} {a : Act} {w : World} (hgd : op.guard = none) (ty : TypeId) (ho : op.op = .alloc ty) (z : Value) (hz : (P.info? ty).map (·.zero) = some (some z)) (S : World → Prop) (hS : S (w.alloc (.cells z.cells ty)))
    (h : ∀ w', S w' → wpList P ops Q rest (a.put op.dst (.pointer (some ⟨w.heap.size, 0, none⟩))) w') : wpList P ops Q (op :: rest) a w := by
  refine wpList_plain hgd fun K hK => ?_
  obtain ⟨i, hi, hiz⟩ : ∃ i, P.info? ty = some i ∧ i.zero = some z := by
    cases hq : P.info? ty with
    | none => simp [hq] at hz
    | some i => exact ⟨i, rfl, by simpa [hq] using hz⟩
  have hrun : (Instr.alloc ty true (.tuple #[])).run P w = .ok (.pointer (some ⟨w.heap.size, 0, none⟩)) (w.alloc (.cells z.cells ty)) := by
    simp [Instr.alloc, zeroValue, typeInfo, newVar, newRow, Sem.run_bind, hi, hiz, go_sem]
  unfold Oper.wp execOp
  simp only [ho]
  simp only [hrun, Sem.run_bind, Sem.run_pure, Result.andThen_ok]
  exact hK _ _ (h _ hS)
end
end Go.Proofs.Ytejllmjkeefloaa
