/- Rows of bytes that a call owns, and what an append to them leaves alone; lay. -/
import Derived.OwnWalk
import Derived.Test.YtejllmjkeefloaaJV3
namespace Go.Proofs.Ytejllmjkeefloaa.Q8
open Go.ChangeShapes Go.WideShapes Go.ChangeAt Go.RowKit
set_option maxRecDepth 20000
set_option linter.unusedVariables false
set_option linter.unusedSimpArgs false

theorem cells_new' (w : World) (l : List Value) (t : TypeId) (j : Nat) (u : Value) (h : l[j]? = some u) : (w.alloc (.cells ⟨l⟩ t)).cell? ((⟨w.heap.size, 0, none⟩ : Addr).add j) = some u := by
  rw [add_plain]
  have := heap_alloc_new w (.cells ⟨l⟩ t)
  unfold World.cell?
  simp only [this]
  simpa using h
theorem info8 : (Try.prog.info? 5).map (fun i => (i.zero, i.size, i.bytes)) = some (some (.int .u8 0), 1, 1) := by kernel_rfl
/-- A row of bytes that a call owns; an empty one is none. -/
def OwnB (w : World) (base : Nat) (v : Value) (xs : List Int) : Prop := w.ownsRow base 5 1 v xs.length (xs.map (Value.int .u8)) ∧ (xs = [] → v = .slice none 0 0)
theorem OwnB.nil (w : World) (base : Nat) : OwnB w base (.slice none 0 0) [] := ⟨World.ownsRow_nil _ _ _ _, fun _ => rfl⟩
/-- A block that is no such row: an old one, or one that begins with something that is no byte. -/
def NoRow (w : World) (base P : Nat) : Prop := P < w.heap.size ∧ (P < base ∨ ∃ u, w.cell? ⟨P, 0, none⟩ = some u ∧ ∀ n, u ≠ .int .u8 n)
theorem OwnB.ne {w : World} {base P : Nat} {v : Value} {xs : List Int} (h : OwnB w base v xs) (hP : NoRow w base P) : some P ≠ v.ownBlock := by
  intro e
  obtain ⟨hlt, hP⟩ := hP
  rcases hP with hP | ⟨u, hu, hn⟩
  · have := (World.ownsRow.lt h.1 P e.symm).1
    omega
  · cases xs with
    | nil => rw [h.2 rfl] at e; simp [Value.ownBlock] at e
    | cons x xs =>
      have c := World.ownsRow.cells h.1 e.symm 0 (.int .u8 x) (by simp)
      rw [add_plain] at c
      rw [show (⟨P, 0 + 0, none⟩ : Addr) = ⟨P, 0, none⟩ from rfl, hu] at c
      exact hn x (by simpa using c)
/-- All that is no row of bytes of base is as it was. -/
def Lays (base : Nat) (w w' : World) : Prop := w'.os = w.os ∧ w'.output = w.output ∧ w.heap.size ≤ w'.heap.size ∧ ∀ P, NoRow w base P → w'.heap[P]? = w.heap[P]?
theorem Lays.refl (base : Nat) (w : World) : Lays base w w := ⟨rfl, rfl, Nat.le_refl _, fun _ _ => rfl⟩
theorem Lays.noRow {base P : Nat} {w w' : World} (h : Lays base w w') (hP : NoRow w base P) : NoRow w' base P := by
  refine ⟨Nat.lt_of_lt_of_le hP.1 h.2.2.1, ?_⟩
  rcases hP.2 with k | ⟨u, hu, hn⟩
  · exact .inl k
  · exact .inr ⟨u, (World.cell?_of_block (a := ⟨P, 0, none⟩) (h.2.2.2 P hP)).trans hu, hn⟩
theorem Lays.trans {base : Nat} {a b c : World} (h : Lays base a b) (k : Lays base b c) : Lays base a c :=
  ⟨k.1.trans h.1, k.2.1.trans h.2.1, Nat.le_trans h.2.2.1 k.2.2.1, fun P hP => (k.2.2.2 P (h.noRow hP)).trans (h.2.2.2 P hP)⟩
theorem Lays.alloc {base : Nat} {w w' : World} (h : Lays base w w') (x : Obj) : Lays base w (w'.alloc x) :=
  ⟨h.1, h.2.1, by rw [World.size_alloc]; have := h.2.2.1; omega, fun k hk => (Below.heap_alloc w' x k (Nat.lt_of_lt_of_le hk.1 h.2.2.1)).trans (h.2.2.2 k hk)⟩
theorem Lays.of_past {base : Nat} {w w' : World} (h : Past w w') : Lays base w w' := ⟨h.1, h.2.1, h.2.2.1, fun k hk => h.2.2.2 k hk.1⟩
theorem Lays.past {W w w' : World} (p : Past W w) (h : Lays W.heap.size w w') : Past W w' :=
  ⟨h.1.trans p.1, h.2.1.trans p.2.1, Nat.le_trans p.2.2.1 h.2.2.1, fun k hk => (h.2.2.2 k ⟨Nat.lt_of_lt_of_le hk p.2.2.1, .inl hk⟩).trans (p.2.2.2 k hk)⟩
theorem Lays.grownBy {base : Nat} {w w' w'' : World} {v : Value} {xs : List Int} (h : Lays base w w') (ho : OwnB w' base v xs) (g : w'.grownBy w'' v.ownBlock) : Lays base w w'' :=
  ⟨g.os.trans h.1, g.output.trans h.2.1, Nat.le_trans h.2.2.1 g.size, fun P hP => (g.block P (h.noRow hP).1 (ho.ne (h.noRow hP))).trans (h.2.2.2 P hP)⟩
theorem Lays.cell {base P o : Nat} {w w' : World} (h : Lays base w w') (hP : NoRow w base P) : w'.cell? ⟨P, o, none⟩ = w.cell? ⟨P, o, none⟩ := World.cell?_of_block (a := ⟨P, o, none⟩) (h.2.2.2 P hP)
theorem own_bytes {w : World} {base : Nat} {v : Value} {xs : List Int} {u : Int} {n : Nat} (hn : n = xs.length) (h : w.ownsRow base 5 1 v (n + 1) (xs.map (Value.int .u8) ++ [.int .u8 u])) : OwnB w base v (xs ++ [u]) := by
  subst hn
  exact ⟨by simpa using h, fun e => by simp at e⟩
theorem numB_1 (x : Int) : numB 1 x = (x % 256) :: numB 0 x := by simp [numB]
theorem numB_2 (x : Int) : numB 2 x = (x / 256 % 256) :: numB 1 x := by simp [numB]
theorem numB_3 (x : Int) : numB 3 x = (x / 65536 % 256) :: numB 2 x := by simp [numB]
theorem numB_4 (x : Int) : numB 4 x = (x / 16777216 % 256) :: numB 3 x := by simp [numB]
def LayPost (base wide : Nat) (bs : List Int) (x : Int) (w : World) (e : Ending) (w' : World) : Prop := ∃ v', e = .returned v' ∧ OwnB w' base v' (bs ++ numB wide x) ∧ Lays base w w'
set_option maxHeartbeats 4000000 in
theorem lay_any (base wide : Nat) (bv : Value) (bs : List Int) (x : Int) (W : World) (hw : wide = 1 ∨ wide = 2 ∨ wide = 3) (hx : (Lit.int .i64 x).wf = true) (ho : OwnB W base bv bs) (hb : base ≤ W.heap.size) (hm : bs.length ≤ 1000000000) :
    Calls Try.prog 81 #[bv, .int .i64 (wide : Int), .int .i64 x] W (LayPost base wide bs x W) := by
  have e1 : IntKind.i64.wrap ((wide : Int) - 1) = (wide : Int) - 1 := by rcases hw with rfl | rfl | rfl <;> decide
  have w3 : wide ≤ 3 := by omega
  obtain ⟨i0, hi0, hz0, hz1, hz2⟩ := info_parts info8
  have I1 := Lib.hid hi0
  have I2 := Lib.hid hz0
  have I3 := Lib.hid hz1
  have I4 := Lib.hid hz2
  have hx' := Lib.hid hx
  clear hi0 hz0 hz1 hz2 hw hx
  go_enter Try.func81, Try.ntmps81
  go_wp2_with fail
  go_loopw [0, 7] (fun v i wr => ∃ (m : Nat) (cs : List Int), m ≤ wide ∧ i = .int .i64 ((m : Int) - 1) ∧ Hid (cs ++ numB m x = bs ++ numB wide x) ∧ Hid (OwnB wr base v cs) ∧ Hid (Lays base W wr) ∧ base ≤ wr.heap.size) (fun _ i _ => (intOf i + 1).toNat)
  case atStart => exact ⟨wide, _, by omega, rfl, Lib.hid rfl, Lib.hid ho, Lib.hid (Lays.refl _ _), hb⟩
  case round =>
    clear ho hb
    obtain ⟨m, cs, hm4, rfl, heq, hown, hp, hbs⟩ := hrel
    have hcs : Hid (cs.length + m ≤ 1000000003) := Lib.hid (by
      have := congrArg List.length heq.out
      simp only [List.length_append, numB_len] at this
      omega)
    rcases (show m = 0 ∨ m = 1 ∨ m = 2 ∨ m = 3 by omega) with rfl | rfl | rfl | rfl
    · have he := heq.out
      simp only [numB, List.append_nil] at he
      have HE := Lib.hid he
      clear he
      go_wp2_with fail
      go_ret
      exact ⟨_, rfl, by rw [← HE.out]; exact hown.out, hp.out⟩
    · have d0 : decide (0 ≤ ((1 : Nat) : Int) - 1) = true := by decide
      have hnb := Lib.hid (numB_1 x)
      go_wp2_with (at_builtin; refine wpList_append_own _ rfl (.tmp 14) (.tmp 20) 22 rfl base 5 i0 _ 1 1 Try.underlying22 I1.out I2.out I3.out I4.out rfl (by decide) _ _ _ rfl (World.ownsRow.alloc hown.out.1 _) ⟨wr.heap.size, 0, none⟩ 1 1 [.int .u8 (x % 256)] rfl rfl (fun j u hu => cells_new' wr _ 5 j u hu) (by intro u hu; simp at hu; subst hu; rfl) ?c4 ?c5 ?c6 ?_)
      case c4 => have := hcs.out; unfold maxLen; omega
      case c5 => have := hcs.out; omega
      case c6 => simp; omega
      intro v4 w4 hown4 hgrow _
      have ho4 := Lib.hid (own_bytes rfl hown4)
      have hl4 := Lib.hid (Lays.grownBy (hp.out.alloc _) ⟨World.ownsRow.alloc hown.out.1 _, hown.out.2⟩ hgrow)
      have hs4 : base ≤ w4.heap.size := by have := hgrow.size; simp only [World.size_alloc] at this; omega
      have he4 := heq.out
      rw [hnb.out] at he4
      have HE4 := Lib.hid he4
      clear hown4 hgrow he4 hnb
      go_wp2_with fail
      go_roundw
      case rel => exact ⟨0, cs ++ [x % 256], by omega, by first | rfl | go_num, Lib.hid (by rw [← HE4.out]; simp), ho4, hl4, hs4⟩
      case measure => simp [intOf]
    · have d0 : decide (0 ≤ ((2 : Nat) : Int) - 1) = true := by decide
      have hnb := Lib.hid (numB_2 x)
      go_wp2_with (at_builtin; refine wpList_append_own _ rfl (.tmp 14) (.tmp 20) 22 rfl base 5 i0 _ 1 1 Try.underlying22 I1.out I2.out I3.out I4.out rfl (by decide) _ _ _ rfl (World.ownsRow.alloc hown.out.1 _) ⟨wr.heap.size, 0, none⟩ 1 1 [.int .u8 (x / 256 % 256)] rfl rfl (fun j u hu => cells_new' wr _ 5 j u hu) (by intro u hu; simp at hu; subst hu; rfl) ?c4 ?c5 ?c6 ?_)
      case c4 => have := hcs.out; unfold maxLen; omega
      case c5 => have := hcs.out; omega
      case c6 => simp; omega
      intro v4 w4 hown4 hgrow _
      have ho4 := Lib.hid (own_bytes rfl hown4)
      have hl4 := Lib.hid (Lays.grownBy (hp.out.alloc _) ⟨World.ownsRow.alloc hown.out.1 _, hown.out.2⟩ hgrow)
      have hs4 : base ≤ w4.heap.size := by have := hgrow.size; simp only [World.size_alloc] at this; omega
      have he4 := heq.out
      rw [hnb.out] at he4
      have HE4 := Lib.hid he4
      clear hown4 hgrow he4 hnb
      go_wp2_with fail
      go_roundw
      case rel => exact ⟨1, cs ++ [x / 256 % 256], by omega, by first | rfl | go_num, Lib.hid (by rw [← HE4.out]; simp), ho4, hl4, hs4⟩
      case measure => simp [intOf]
    · have d0 : decide (0 ≤ ((3 : Nat) : Int) - 1) = true := by decide
      have hnb := Lib.hid (numB_3 x)
      go_wp2_with (at_builtin; refine wpList_append_own _ rfl (.tmp 14) (.tmp 20) 22 rfl base 5 i0 _ 1 1 Try.underlying22 I1.out I2.out I3.out I4.out rfl (by decide) _ _ _ rfl (World.ownsRow.alloc hown.out.1 _) ⟨wr.heap.size, 0, none⟩ 1 1 [.int .u8 (x / 65536 % 256)] rfl rfl (fun j u hu => cells_new' wr _ 5 j u hu) (by intro u hu; simp at hu; subst hu; rfl) ?c4 ?c5 ?c6 ?_)
      case c4 => have := hcs.out; unfold maxLen; omega
      case c5 => have := hcs.out; omega
      case c6 => simp; omega
      intro v4 w4 hown4 hgrow _
      have ho4 := Lib.hid (own_bytes rfl hown4)
      have hl4 := Lib.hid (Lays.grownBy (hp.out.alloc _) ⟨World.ownsRow.alloc hown.out.1 _, hown.out.2⟩ hgrow)
      have hs4 : base ≤ w4.heap.size := by have := hgrow.size; simp only [World.size_alloc] at this; omega
      have he4 := heq.out
      rw [hnb.out] at he4
      have HE4 := Lib.hid he4
      clear hown4 hgrow he4 hnb
      go_wp2_with fail
      go_roundw
      case rel => exact ⟨2, cs ++ [x / 65536 % 256], by omega, by first | rfl | go_num, Lib.hid (by rw [← HE4.out]; simp), ho4, hl4, hs4⟩
      case measure => simp [intOf]
end Go.Proofs.Ytejllmjkeefloaa.Q8
