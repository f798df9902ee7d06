/- IsaFields: the walk. -/
import Derived.Test.YtlnlodbjkicgoaaI12
import Derived.BigFrame
namespace Go.Proofs.Ytlnlodbjkicgoaa
open Go.ChangeShapes Go.WideShapes Go.ChangeAt Go.RowKit
set_option maxRecDepth 20000
set_option linter.unusedVariables false
set_option linter.unusedSimpArgs false

def cL (k r w d p : Int) : List Int := [k, 0, 0, 0, r, w, d, p, 0, 0, 0, 0, 0, 0]
def cK (r n : Int) : List Int := [4, 0, n, 0, r, 0, 0, 0, 0, 0, 0, 0, 0, 0]
def cW (k s r : Int) : List Int := [k, s, 0, 0, r, 0, 0, 0, 0, 0, 0, 0, 0, 0]
def fitsP (r w d p : Int) : Prop := (1 ≤ r ∧ r ≤ 16) ∧ (1 ≤ w ∧ w ≤ 128) ∧ (0 ≤ d ∧ d < 65536) ∧ (0 ≤ p ∧ p < 1024)
instance (r w d p : Int) : Decidable (fitsP r w d p) := by unfold fitsP; infer_instance
theorem mayL (k r w d p : Int) (hk : k = 1 ∨ k = 2) : ((mayE (cL k r w d p) == 0) == decide (fitsP r w d p)) = true := by
  have h := may_load (k := k) (s := 0) (n := 0) (f := 0) (r := r) (w := w) (d := d) (p := p) (i0 := 0) (i1 := 0) (b0 := 0) (b1 := 0) (h0 := 0) (h1 := 0) hk
  have : mayD (cL k r w d p) ↔ fitsP r w d p := by
    unfold cL fitsP
    rw [h]
    constructor
    · rintro ⟨h1, h2, h3, h4, _⟩
      exact ⟨h1, h2, ⟨h3.1, by omega⟩, ⟨h4.1, by omega⟩⟩
    · rintro ⟨h1, h2, h3, h4⟩
      exact ⟨h1, h2, ⟨h3.1, by omega⟩, ⟨h4.1, by omega⟩, rfl, rfl, rfl, rfl, rfl, rfl, rfl, rfl, rfl⟩
  by_cases q : fitsP r w d p
  · simp [mayE, this, q]
  · simp [mayE, this, q]
theorem mayK (r n : Int) : mayD (cK r n) ↔ (0 ≤ n ∧ n ≤ 11) ∧ (1 ≤ r ∧ r ≤ 16) := by
  have h := may_kernel (k := 4) (s := 0) (n := n) (f := 0) (r := r) (w := 0) (d := 0) (p := 0) (i0 := 0) (i1 := 0) (b0 := 0) (b1 := 0) (h0 := 0) (h1 := 0) rfl
  unfold cK
  rw [h]
  simp
theorem mayW (k s r : Int) (hk : k = 5 ∨ k = 6) : mayD (cW k s r) ↔ (0 ≤ s ∧ s ≤ 7) ∧ r = 0 := by
  have h := may_sem (k := k) (s := s) (n := 0) (f := 0) (r := r) (w := 0) (d := 0) (p := 0) (i0 := 0) (i1 := 0) (b0 := 0) (b1 := 0) (h0 := 0) (h1 := 0) hk
  unfold cW
  rw [h]
  simp
theorem mayW0 (k s : Int) (hk : k = 5 ∨ k = 6) : ((mayE (cW k s 0) == 0) == decide (0 ≤ s ∧ s < 8)) = true := by
  have h := mayW k s 0 hk
  by_cases q : 0 ≤ s ∧ s < 8
  · have : mayD (cW k s 0) := h.2 ⟨by omega, rfl⟩
    simp [mayE, this, q]
  · have : ¬ mayD (cW k s 0) := fun e => q (by have := h.1 e; omega)
    simp [mayE, this, q]

/-- The boxes of the law's own. -/
def FB (w : World) (Q r ro a b c d : Int) (q : Nat) : Prop := True

theorem wpList_load_cmdg {ops : Array Oper} {Q : Exit → Act → World → Prop} {rest : List Oper} {op : Oper} {a : Act} {w : World} (hw : Region.wanted op (yielded ops a.tmps) = true) (x : Operand) (ho : op.op = .load 32 x) (b : Nat) (hx : a.eval x = .pointer (some ⟨b, 0, none⟩)) (c : List Int) (hl : c.length = 14) (hb : (∀ o : Nat, w.cell? ⟨b, o, none⟩ = (⟨cellC c⟩ : Array Value)[o]?))
    (h : wpList Try.prog ops Q rest (a.put op.dst (.agg ⟨cellC c⟩)) w) : wpList Try.prog ops Q (op :: rest) a w :=
  BigFrame.wpList_want hw fun _ hK => wp_load_box 32 x ho b ⟨cellC c⟩ hx hb Try.underlying32 rfl (cmdSize hl) (hK _ _ h)

set_option maxHeartbeats 8000000 in
theorem fields_walk (W : World) (r : Int) (wr : (Lit.int .i64 r).wf = true) (ro : Int) (wro : (Lit.int .i64 ro).wf = true) (a b c d : Int) (wa : (Lit.int .i64 a).wf = true) (wb : (Lit.int .i64 b).wf = true) (wc : (Lit.int .i64 c).wf = true) (wd : (Lit.int .i64 d).wf = true) :
    Calls Try.prog 6 #[.int .i64 r, .int .i64 ro, .agg #[.int .i64 a, .int .i64 b, .int .i64 c, .int .i64 d]] W fun e w' => e = .returned (.bool true) ∧ Past W w' := by
  clear wr wro wa wb wc wd
  go_enter Try.func6, Try.ntmps6
  go_upto_region 1 with fail
  obtain ⟨Q, hQ⟩ : ∃ Q, W.heap.size = Q := ⟨_, rfl⟩
  refine opq (fun w' => (∀ o : Nat, w'.cell? ⟨Q, o, none⟩ = (#[.int .i64 a, .int .i64 b, .int .i64 c, .int .i64 d] : Array Value)[o]?) ∧ Past W w' ∧ Q < w'.heap.size) (by subst hQ; exact ⟨box_new rfl, (Past.refl W).alloc _, by simp⟩) ?_
  rintro w1 ⟨b1, p1, z1⟩
  try simp only [hQ]
  have WQ : W.heap.size ≤ Q := by omega
  clear hQ
  go_wp2_with fail
  refine (shown_any w1).mono ?_
  rintro e w2 ⟨rfl, p2⟩
  have b2 := box_past p2 b1 z1
  have z2 : Q < w2.heap.size := Nat.lt_of_lt_of_le z1 p2.2.2.1
  have P2 := Lib.hid (p1.trans p2)
  clear b1 p1 p2 z1
  obtain ⟨br, hbr⟩ : ∃ x, decide (1 ≤ r ∧ r ≤ 16) = x := ⟨_, rfl⟩
  obtain ⟨bf, hbf⟩ : ∃ x, decide (fitsP r ro a b) = x := ⟨_, rfl⟩
  obtain ⟨bs, hbs⟩ : ∃ x, decide (0 ≤ d ∧ d < 8) = x := ⟨_, rfl⟩
  have HBR := Lib.hid hbr
  have HBF := Lib.hid hbf
  have HBS := Lib.hid hbs
  clear hbr hbf hbs
  go_upto_region 2 with fail
  go_cut [8] (fun c8 w' => c8 = .bool br ∧ w2 = w')
  case first =>
    by_cases h1 : 1 ≤ r
    · by_cases h2 : r ≤ 16
      · go_wp2_with fail
        go_meet
        exact ⟨by rw [← HBR.out, decide_eq_true (by first | (unfold fitsP; omega) | omega)], rfl⟩
      · go_wp2_with fail
        go_meet
        exact ⟨by rw [← HBR.out, decide_eq_false (fun h => by first | (unfold fitsP at h; omega) | omega)], rfl⟩
    · go_wp2_with fail
      go_meet
      exact ⟨by rw [← HBR.out, decide_eq_false (fun h => by first | (unfold fitsP at h; omega) | omega)], rfl⟩
  case rest =>
    obtain ⟨rfl, rfl⟩ := hcut
    go_upto_region 4 with fail
    obtain ⟨L1, hL1⟩ : ∃ L, w2.heap.size = L := ⟨_, rfl⟩
    have QL : Q < L1 := by omega
    refine opq (fun w' => (∀ o : Nat, w'.cell? ⟨Q, o, none⟩ = (#[.int .i64 a, .int .i64 b, .int .i64 c, .int .i64 d] : Array Value)[o]?) ∧ Hid ((∀ o : Nat, w'.cell? ⟨L1, o, none⟩ = (⟨cellC (cL 1 r ro a b)⟩ : Array Value)[o]?) ∧ Past W w') ∧ L1 < w'.heap.size) (by subst hL1; exact ⟨box_old b2 z2, Lib.hid ⟨box_new rfl, P2.out.alloc _⟩, by simp⟩) ?_
    rintro w3 ⟨b3, H3, z3⟩
    try simp only [hL1]
    clear b2 P2 hL1 z2
    go_cut [10] (fun c10 w' => c10 = .bool bf ∧ w3 = w')
    case first =>
      have hb := HBR.out
      by_cases hr : 1 ≤ r ∧ r ≤ 16
      · rw [decide_eq_true hr] at hb
        subst hb
        by_cases h1 : 1 ≤ ro
        · by_cases h2 : ro ≤ 128
          · by_cases h3 : 0 ≤ a
            · by_cases h4 : a < 65536
              · by_cases h5 : 0 ≤ b
                · by_cases h6 : b < 1024
                  · go_wp2_with fail
                    go_meet
                    exact ⟨by rw [← HBF.out, decide_eq_true (by first | (unfold fitsP; omega) | omega)], rfl⟩
                  · go_wp2_with fail
                    go_meet
                    exact ⟨by rw [← HBF.out, decide_eq_false (fun h => by first | (unfold fitsP at h; omega) | omega)], rfl⟩
                · go_wp2_with fail
                  go_meet
                  exact ⟨by rw [← HBF.out, decide_eq_false (fun h => by first | (unfold fitsP at h; omega) | omega)], rfl⟩
              · go_wp2_with fail
                go_meet
                exact ⟨by rw [← HBF.out, decide_eq_false (fun h => by first | (unfold fitsP at h; omega) | omega)], rfl⟩
            · go_wp2_with fail
              go_meet
              exact ⟨by rw [← HBF.out, decide_eq_false (fun h => by first | (unfold fitsP at h; omega) | omega)], rfl⟩
          · go_wp2_with fail
            go_meet
            exact ⟨by rw [← HBF.out, decide_eq_false (fun h => by first | (unfold fitsP at h; omega) | omega)], rfl⟩
        · go_wp2_with fail
          go_meet
          exact ⟨by rw [← HBF.out, decide_eq_false (fun h => by first | (unfold fitsP at h; omega) | omega)], rfl⟩
      · rw [decide_eq_false hr] at hb
        subst hb
        go_wp2_with fail
        go_meet
        exact ⟨by rw [← HBF.out, decide_eq_false (fun h => hr h.1)], rfl⟩
    case rest =>
      obtain ⟨rfl, rfl⟩ := hcut
      go_upto_region 5 with fail
      have b3' := b3
      obtain ⟨L2, hL2⟩ : ∃ L, w3.heap.size = L := ⟨_, rfl⟩
      have L12 : L1 < L2 := by omega
      go_upto_region 5 with fail
      go_upto_region 6 with (first | refine wpList_load_cmd rfl (.tmp 9) rfl _ rfl (cL 1 r ro a b) rfl H3.out.1 ?_ | ((refine wpList_new_cmd 11 ?h1 ?h2 ?h3 ?h4 (.tmp 60) ?h5 ?h6 (cL 1 r ro a b) ?h7 ?h8 ?h9 ?_); (case h1 => rfl); (case h2 => rfl); (case h3 => rfl); (case h4 => rfl); (case h5 => rfl); (case h6 => rfl); (case h7 => rfl); (case h8 => rfl); (case h9 => rfl); rintro w4 p4 nb4 nf4 z4))
      have c40 := boxC_cell nb4 (j := 0) (by simp [cL])
      rw [hL2] at nb4 nf4 z4 c40
      try simp only [hL2]
      have H4 : Hid ((∀ o : Nat, w4.cell? ⟨L1, o, none⟩ = (⟨cellC (cL 1 r ro a b)⟩ : Array Value)[o]?) ∧ (∀ o : Nat, w4.cell? ⟨L2, o, none⟩ = (⟨cellC (cL 1 r ro a b)⟩ : Array Value)[o]?) ∧ Past W w4) := Lib.hid ⟨box_past p4 H3.out.1 z3, nb4, H3.out.2.trans p4⟩
      have bq4 := box_past p4 b3 (by omega)
      clear b3 b3' H3 nb4 p4 hL2 z3
      go_upto_region 7 with fail
      refine opq (fun w' => (∀ o : Nat, w'.cell? ⟨Q, o, none⟩ = (#[.int .i64 a, .int .i64 b, .int .i64 c, .int .i64 d] : Array Value)[o]?) ∧ Hid ((∀ o : Nat, w'.cell? ⟨L1, o, none⟩ = (⟨cellC (cL 1 r ro a b)⟩ : Array Value)[o]?) ∧ (∀ o : Nat, w'.cell? ⟨L2, o, none⟩ = (⟨cellC (cL 2 r ro a b)⟩ : Array Value)[o]?) ∧ Past W w') ∧ L2 < w'.heap.size) ⟨box_set bq4 (by dsimp only; omega), Lib.hid ⟨box_set H4.out.1 (by dsimp only; omega), boxC_set (x := 2) H4.out.2.1 (by simp [cL]), H4.out.2.2.setCell (by dsimp only; omega) _⟩, by rw [World.size_setCell]; exact z4⟩ ?_
      rintro w5 ⟨b5, H5, z5⟩
      clear bq4 H4 z4 c40 nf4
      obtain ⟨L3, hL3⟩ : ∃ L, w5.heap.size = L := ⟨_, rfl⟩
      have oL3 : L2 < L3 := by omega
      go_upto_region 8 with fail
      refine opq (fun w' => (∀ o : Nat, w'.cell? ⟨Q, o, none⟩ = (#[.int .i64 a, .int .i64 b, .int .i64 c, .int .i64 d] : Array Value)[o]?) ∧ Hid ((∀ o : Nat, w'.cell? ⟨L1, o, none⟩ = (⟨cellC (cL 1 r ro a b)⟩ : Array Value)[o]?) ∧ (∀ o : Nat, w'.cell? ⟨L2, o, none⟩ = (⟨cellC (cL 2 r ro a b)⟩ : Array Value)[o]?) ∧ (∀ o : Nat, w'.cell? ⟨L3, o, none⟩ = (⟨cellC (cK r c)⟩ : Array Value)[o]?) ∧ Past W w') ∧ L3 < w'.heap.size) (by
        subst hL3
        exact ⟨box_old b5 (by omega), Lib.hid ⟨box_old H5.out.1 (by omega), box_old H5.out.2.1 (by omega), box_new rfl, H5.out.2.2.alloc _⟩, by simp⟩) ?_
      rintro wa0 ⟨ba0, Ha0, za0⟩
      try simp only [hL3]
      clear b5 H5 hL3 z5
      obtain ⟨L4, hL4⟩ : ∃ L, wa0.heap.size = L := ⟨_, rfl⟩
      have oL4 : L3 < L4 := by omega
      go_upto_region 9 with fail
      refine opq (fun w' => (∀ o : Nat, w'.cell? ⟨Q, o, none⟩ = (#[.int .i64 a, .int .i64 b, .int .i64 c, .int .i64 d] : Array Value)[o]?) ∧ Hid ((∀ o : Nat, w'.cell? ⟨L1, o, none⟩ = (⟨cellC (cL 1 r ro a b)⟩ : Array Value)[o]?) ∧ (∀ o : Nat, w'.cell? ⟨L2, o, none⟩ = (⟨cellC (cL 2 r ro a b)⟩ : Array Value)[o]?) ∧ (∀ o : Nat, w'.cell? ⟨L3, o, none⟩ = (⟨cellC (cK r c)⟩ : Array Value)[o]?) ∧ (∀ o : Nat, w'.cell? ⟨L4, o, none⟩ = (⟨cellC (cW 5 d 0)⟩ : Array Value)[o]?) ∧ Past W w') ∧ L4 < w'.heap.size) (by
        subst hL4
        exact ⟨box_old ba0 (by omega), Lib.hid ⟨box_old Ha0.out.1 (by omega), box_old Ha0.out.2.1 (by omega), box_old Ha0.out.2.2.1 (by omega), box_new rfl, Ha0.out.2.2.2.alloc _⟩, by simp⟩) ?_
      rintro wa1 ⟨ba1, Ha1, za1⟩
      try simp only [hL4]
      clear ba0 Ha0 hL4 za0
      obtain ⟨L5, hL5⟩ : ∃ L, wa1.heap.size = L := ⟨_, rfl⟩
      have oL5 : L4 < L5 := by omega
      go_upto_region 10 with fail
      refine opq (fun w' => (∀ o : Nat, w'.cell? ⟨Q, o, none⟩ = (#[.int .i64 a, .int .i64 b, .int .i64 c, .int .i64 d] : Array Value)[o]?) ∧ Hid ((∀ o : Nat, w'.cell? ⟨L1, o, none⟩ = (⟨cellC (cL 1 r ro a b)⟩ : Array Value)[o]?) ∧ (∀ o : Nat, w'.cell? ⟨L2, o, none⟩ = (⟨cellC (cL 2 r ro a b)⟩ : Array Value)[o]?) ∧ (∀ o : Nat, w'.cell? ⟨L3, o, none⟩ = (⟨cellC (cK r c)⟩ : Array Value)[o]?) ∧ (∀ o : Nat, w'.cell? ⟨L4, o, none⟩ = (⟨cellC (cW 5 d 0)⟩ : Array Value)[o]?) ∧ (∀ o : Nat, w'.cell? ⟨L5, o, none⟩ = (⟨cellC (cW 6 d 0)⟩ : Array Value)[o]?) ∧ Past W w') ∧ L5 < w'.heap.size) (by
        subst hL5
        exact ⟨box_old ba1 (by omega), Lib.hid ⟨box_old Ha1.out.1 (by omega), box_old Ha1.out.2.1 (by omega), box_old Ha1.out.2.2.1 (by omega), box_old Ha1.out.2.2.2.1 (by omega), box_new rfl, Ha1.out.2.2.2.2.alloc _⟩, by simp⟩) ?_
      rintro w6 ⟨b6, H6, z6⟩
      try simp only [hL5]
      clear ba1 Ha1 hL5 za1
      go_cut [15] (fun c15 w' => c15 = .bool bs ∧ w6 = w')
      case first =>
        by_cases h1 : 0 ≤ d
        · by_cases h2 : d < 8
          · go_wp2_with fail
            go_meet
            exact ⟨by rw [← HBS.out, decide_eq_true (by first | (unfold fitsP; omega) | omega)], rfl⟩
          · go_wp2_with fail
            go_meet
            exact ⟨by rw [← HBS.out, decide_eq_false (fun h => by first | (unfold fitsP at h; omega) | omega)], rfl⟩
        · go_wp2_with fail
          go_meet
          exact ⟨by rw [← HBS.out, decide_eq_false (fun h => by first | (unfold fitsP at h; omega) | omega)], rfl⟩
      case rest =>
        obtain ⟨rfl, rfl⟩ := hcut
        obtain ⟨L6, hL6⟩ : ∃ L, w6.heap.size = L := ⟨_, rfl⟩
        have oL6 : L5 < L6 := by omega
        go_upto_region 11 with fail
        go_upto_region 12 with (first | refine wpList_load_cmd rfl (.tmp 13) rfl _ rfl (cW 5 d 0) rfl H6.out.2.2.2.1 ?_ | ((refine wpList_new_cmd 16 ?h1 ?h2 ?h3 ?h4 (.tmp 80) ?h5 ?h6 (cW 5 d 0) ?h7 ?h8 ?h9 ?_); (case h1 => rfl); (case h2 => rfl); (case h3 => rfl); (case h4 => rfl); (case h5 => rfl); (case h6 => rfl); (case h7 => rfl); (case h8 => rfl); (case h9 => rfl); rintro w7 p7 nb7 nf7 z7))
        have c70 := boxC_cell nb7 (j := 4) (by simp [cW])
        rw [hL6] at nb7 nf7 z7 c70
        try simp only [hL6]
        have H7 : Hid ((∀ o : Nat, w7.cell? ⟨L1, o, none⟩ = (⟨cellC (cL 1 r ro a b)⟩ : Array Value)[o]?) ∧ (∀ o : Nat, w7.cell? ⟨L2, o, none⟩ = (⟨cellC (cL 2 r ro a b)⟩ : Array Value)[o]?) ∧ (∀ o : Nat, w7.cell? ⟨L3, o, none⟩ = (⟨cellC (cK r c)⟩ : Array Value)[o]?) ∧ (∀ o : Nat, w7.cell? ⟨L4, o, none⟩ = (⟨cellC (cW 5 d 0)⟩ : Array Value)[o]?) ∧ (∀ o : Nat, w7.cell? ⟨L5, o, none⟩ = (⟨cellC (cW 6 d 0)⟩ : Array Value)[o]?) ∧ (∀ o : Nat, w7.cell? ⟨L6, o, none⟩ = (⟨cellC (cW 5 d 0)⟩ : Array Value)[o]?) ∧ Past W w7) := Lib.hid ⟨box_past p7 H6.out.1 (by omega), box_past p7 H6.out.2.1 (by omega), box_past p7 H6.out.2.2.1 (by omega), box_past p7 H6.out.2.2.2.1 (by omega), box_past p7 H6.out.2.2.2.2.1 (by omega), nb7, H6.out.2.2.2.2.2.trans p7⟩
        have bq7 := box_past p7 b6 (by omega)
        clear b6 H6 nb7 p7 hL6 z6
        go_upto_region 13 with fail
        refine opq (fun w' => (∀ o : Nat, w'.cell? ⟨Q, o, none⟩ = (#[.int .i64 a, .int .i64 b, .int .i64 c, .int .i64 d] : Array Value)[o]?) ∧ Hid ((∀ o : Nat, w'.cell? ⟨L1, o, none⟩ = (⟨cellC (cL 1 r ro a b)⟩ : Array Value)[o]?) ∧ (∀ o : Nat, w'.cell? ⟨L2, o, none⟩ = (⟨cellC (cL 2 r ro a b)⟩ : Array Value)[o]?) ∧ (∀ o : Nat, w'.cell? ⟨L3, o, none⟩ = (⟨cellC (cK r c)⟩ : Array Value)[o]?) ∧ (∀ o : Nat, w'.cell? ⟨L4, o, none⟩ = (⟨cellC (cW 5 d 0)⟩ : Array Value)[o]?) ∧ (∀ o : Nat, w'.cell? ⟨L5, o, none⟩ = (⟨cellC (cW 6 d 0)⟩ : Array Value)[o]?) ∧ (∀ o : Nat, w'.cell? ⟨L6, o, none⟩ = (⟨cellC (cW 5 d r)⟩ : Array Value)[o]?) ∧ Past W w') ∧ L6 < w'.heap.size) ⟨box_set bq7 (by dsimp only; omega), Lib.hid ⟨box_set H7.out.1 (by dsimp only; omega), box_set H7.out.2.1 (by dsimp only; omega), box_set H7.out.2.2.1 (by dsimp only; omega), box_set H7.out.2.2.2.1 (by dsimp only; omega), box_set H7.out.2.2.2.2.1 (by dsimp only; omega), boxC_set (x := r) H7.out.2.2.2.2.2.1 (by simp [cW]), H7.out.2.2.2.2.2.2.setCell (by dsimp only; omega) _⟩, by rw [World.size_setCell]; exact z7⟩ ?_
        rintro w8 ⟨b8, H8, z8⟩
        clear bq7 H7 z7 c70 nf7
        obtain ⟨mA, hmA⟩ : ∃ m, mayE (cL 1 r ro a b) = m := ⟨_, rfl⟩
        have MA := Lib.hid (fun w => may_any (cL 1 r ro a b) rfl w)
        rw [hmA] at MA
        obtain ⟨mB, hmB⟩ : ∃ m, mayE (cL 2 r ro a b) = m := ⟨_, rfl⟩
        have MB := Lib.hid (fun w => may_any (cL 2 r ro a b) rfl w)
        rw [hmB] at MB
        obtain ⟨mC, hmC⟩ : ∃ m, mayE (cK r c) = m := ⟨_, rfl⟩
        have MC := Lib.hid (fun w => may_any (cK r c) rfl w)
        rw [hmC] at MC
        obtain ⟨mD, hmD⟩ : ∃ m, mayE (cW 5 d 0) = m := ⟨_, rfl⟩
        have MD := Lib.hid (fun w => may_any (cW 5 d 0) rfl w)
        rw [hmD] at MD
        obtain ⟨mE, hmE⟩ : ∃ m, mayE (cW 6 d 0) = m := ⟨_, rfl⟩
        have ME := Lib.hid (fun w => may_any (cW 6 d 0) rfl w)
        rw [hmE] at ME
        obtain ⟨mF, hmF⟩ : ∃ m, mayE (cW 5 d r) = m := ⟨_, rfl⟩
        have MF := Lib.hid (fun w => may_any (cW 5 d r) rfl w)
        rw [hmF] at MF
        have fA := mayL 1 r ro a b (.inl rfl)
        have fB := mayL 2 r ro a b (.inr rfl)
        have fD := mayW0 5 d (.inl rfl)
        have fE := mayW0 6 d (.inr rfl)
        rw [hmA, HBF.out] at fA
        rw [hmB, HBF.out] at fB
        rw [hmD, HBS.out] at fD
        rw [hmE, HBS.out] at fE
        have hk : (br = true ∧ decide (0 ≤ c) = true ∧ decide (c < 12) = true ∧ mC = 0) ∨ (br = true ∧ decide (0 ≤ c) = false ∧ mC = 1) ∨ (br = true ∧ decide (0 ≤ c) = true ∧ decide (c < 12) = false ∧ mC = 1) ∨ (br = false ∧ mC = 1) := by
          have hb := HBR.out
          have h := mayK r c
          by_cases hr : 1 ≤ r ∧ r ≤ 16
          · rw [decide_eq_true hr] at hb
            by_cases h1 : 0 ≤ c
            · by_cases h2 : c < 12
              · exact .inl ⟨hb.symm, decide_eq_true h1, decide_eq_true h2, by rw [← hmC]; exact mayE_ok.2 (h.2 ⟨by omega, hr⟩)⟩
              · exact .inr (.inr (.inl ⟨hb.symm, decide_eq_true h1, decide_eq_false h2, by rw [← hmC]; unfold mayE; rw [if_neg]; intro e; have := h.1 e; omega⟩))
            · exact .inr (.inl ⟨hb.symm, decide_eq_false h1, by rw [← hmC]; unfold mayE; rw [if_neg]; intro e; have := h.1 e; omega⟩)
          · rw [decide_eq_false hr] at hb
            exact .inr (.inr (.inr ⟨hb.symm, by rw [← hmC]; unfold mayE; rw [if_neg]; intro e; exact hr (h.1 e).2⟩))
        have ho : (bs = true ∧ (r == 0) = true ∧ mF = 0) ∨ (bs = true ∧ (r == 0) = false ∧ mF = 1) ∨ (bs = false ∧ mF = 1) := by
          have hb := HBS.out
          have h := mayW 5 d r (.inl rfl)
          by_cases hd : 0 ≤ d ∧ d < 8
          · rw [decide_eq_true hd] at hb
            by_cases h1 : r = 0
            · exact .inl ⟨hb.symm, by simp [h1], by rw [← hmF]; exact mayE_ok.2 (h.2 ⟨by omega, h1⟩)⟩
            · exact .inr (.inl ⟨hb.symm, by simp [h1], by rw [← hmF]; unfold mayE; rw [if_neg]; intro e; exact h1 (h.1 e).2⟩)
          · rw [decide_eq_false hd] at hb
            exact .inr (.inr ⟨hb.symm, by rw [← hmF]; unfold mayE; rw [if_neg]; intro e; have := h.1 e; omega⟩)
        clear hmA hmB hmC hmD hmE hmF HBR HBF HBS
        have oz : L1 < L6 ∧ L2 < L6 ∧ L3 < L6 ∧ L4 < L6 ∧ L5 < L6 ∧ Q < L6 := by omega
        have OZ := Lib.hid oz
        clear oz L12 QL oL3 oL4 oL5 oL6 WQ
        rcases hk with ⟨rfl, k1, k2, rfl⟩ | ⟨rfl, k1, rfl⟩ | ⟨rfl, k1, k2, rfl⟩ | ⟨rfl, rfl⟩
        all_goals (rcases ho with ⟨rfl, o1, rfl⟩ | ⟨rfl, o1, rfl⟩ | ⟨rfl, rfl⟩)
        all_goals
          go_wp2_with (first | refine wpList_load_cmdg rfl (.tmp 9) rfl _ rfl (cL 1 r ro a b) rfl H8.out.1 ?_)
          refine (MA.out _).mono ?_
          rintro e w20 ⟨rfl, p20⟩
          have b20 := box_past p20 b8 (by have := OZ.out; omega)
          have z20 : L6 < w20.heap.size := Nat.lt_of_lt_of_le z8 p20.2.2.1
          have H20 : Hid ((∀ o : Nat, w20.cell? ⟨L1, o, none⟩ = (⟨cellC (cL 1 r ro a b)⟩ : Array Value)[o]?) ∧ (∀ o : Nat, w20.cell? ⟨L2, o, none⟩ = (⟨cellC (cL 2 r ro a b)⟩ : Array Value)[o]?) ∧ (∀ o : Nat, w20.cell? ⟨L3, o, none⟩ = (⟨cellC (cK r c)⟩ : Array Value)[o]?) ∧ (∀ o : Nat, w20.cell? ⟨L4, o, none⟩ = (⟨cellC (cW 5 d 0)⟩ : Array Value)[o]?) ∧ (∀ o : Nat, w20.cell? ⟨L5, o, none⟩ = (⟨cellC (cW 6 d 0)⟩ : Array Value)[o]?) ∧ (∀ o : Nat, w20.cell? ⟨L6, o, none⟩ = (⟨cellC (cW 5 d r)⟩ : Array Value)[o]?) ∧ Past W w20) := Lib.hid ⟨box_past p20 H8.out.1 (by have := OZ.out; omega), box_past p20 H8.out.2.1 (by have := OZ.out; omega), box_past p20 H8.out.2.2.1 (by have := OZ.out; omega), box_past p20 H8.out.2.2.2.1 (by have := OZ.out; omega), box_past p20 H8.out.2.2.2.2.1 (by have := OZ.out; omega), box_past p20 H8.out.2.2.2.2.2.1 (by have := OZ.out; omega), H8.out.2.2.2.2.2.2.trans p20⟩
          clear H8 b8 z8 p20 MA
          go_wp2_with (first | refine wpList_load_cmdg rfl (.tmp 11) rfl _ rfl (cL 2 r ro a b) rfl H20.out.2.1 ?_)
          refine (MB.out _).mono ?_
          rintro e w21 ⟨rfl, p21⟩
          have b21 := box_past p21 b20 (by have := OZ.out; omega)
          have z21 : L6 < w21.heap.size := Nat.lt_of_lt_of_le z20 p21.2.2.1
          have H21 : Hid ((∀ o : Nat, w21.cell? ⟨L1, o, none⟩ = (⟨cellC (cL 1 r ro a b)⟩ : Array Value)[o]?) ∧ (∀ o : Nat, w21.cell? ⟨L2, o, none⟩ = (⟨cellC (cL 2 r ro a b)⟩ : Array Value)[o]?) ∧ (∀ o : Nat, w21.cell? ⟨L3, o, none⟩ = (⟨cellC (cK r c)⟩ : Array Value)[o]?) ∧ (∀ o : Nat, w21.cell? ⟨L4, o, none⟩ = (⟨cellC (cW 5 d 0)⟩ : Array Value)[o]?) ∧ (∀ o : Nat, w21.cell? ⟨L5, o, none⟩ = (⟨cellC (cW 6 d 0)⟩ : Array Value)[o]?) ∧ (∀ o : Nat, w21.cell? ⟨L6, o, none⟩ = (⟨cellC (cW 5 d r)⟩ : Array Value)[o]?) ∧ Past W w21) := Lib.hid ⟨box_past p21 H20.out.1 (by have := OZ.out; omega), box_past p21 H20.out.2.1 (by have := OZ.out; omega), box_past p21 H20.out.2.2.1 (by have := OZ.out; omega), box_past p21 H20.out.2.2.2.1 (by have := OZ.out; omega), box_past p21 H20.out.2.2.2.2.1 (by have := OZ.out; omega), box_past p21 H20.out.2.2.2.2.2.1 (by have := OZ.out; omega), H20.out.2.2.2.2.2.2.trans p21⟩
          clear H20 b20 z20 p21 MB
          go_wp2_with (first | refine wpList_load_cmdg rfl (.tmp 12) rfl _ rfl (cK r c) rfl H21.out.2.2.1 ?_)
          refine (MC.out _).mono ?_
          rintro e w22 ⟨rfl, p22⟩
          have b22 := box_past p22 b21 (by have := OZ.out; omega)
          have z22 : L6 < w22.heap.size := Nat.lt_of_lt_of_le z21 p22.2.2.1
          have H22 : Hid ((∀ o : Nat, w22.cell? ⟨L1, o, none⟩ = (⟨cellC (cL 1 r ro a b)⟩ : Array Value)[o]?) ∧ (∀ o : Nat, w22.cell? ⟨L2, o, none⟩ = (⟨cellC (cL 2 r ro a b)⟩ : Array Value)[o]?) ∧ (∀ o : Nat, w22.cell? ⟨L3, o, none⟩ = (⟨cellC (cK r c)⟩ : Array Value)[o]?) ∧ (∀ o : Nat, w22.cell? ⟨L4, o, none⟩ = (⟨cellC (cW 5 d 0)⟩ : Array Value)[o]?) ∧ (∀ o : Nat, w22.cell? ⟨L5, o, none⟩ = (⟨cellC (cW 6 d 0)⟩ : Array Value)[o]?) ∧ (∀ o : Nat, w22.cell? ⟨L6, o, none⟩ = (⟨cellC (cW 5 d r)⟩ : Array Value)[o]?) ∧ Past W w22) := Lib.hid ⟨box_past p22 H21.out.1 (by have := OZ.out; omega), box_past p22 H21.out.2.1 (by have := OZ.out; omega), box_past p22 H21.out.2.2.1 (by have := OZ.out; omega), box_past p22 H21.out.2.2.2.1 (by have := OZ.out; omega), box_past p22 H21.out.2.2.2.2.1 (by have := OZ.out; omega), box_past p22 H21.out.2.2.2.2.2.1 (by have := OZ.out; omega), H21.out.2.2.2.2.2.2.trans p22⟩
          clear H21 b21 z21 p22 MC
          go_wp2_with (first | refine wpList_load_cmdg rfl (.tmp 13) rfl _ rfl (cW 5 d 0) rfl H22.out.2.2.2.1 ?_)
          refine (MD.out _).mono ?_
          rintro e w23 ⟨rfl, p23⟩
          have b23 := box_past p23 b22 (by have := OZ.out; omega)
          have z23 : L6 < w23.heap.size := Nat.lt_of_lt_of_le z22 p23.2.2.1
          have H23 : Hid ((∀ o : Nat, w23.cell? ⟨L1, o, none⟩ = (⟨cellC (cL 1 r ro a b)⟩ : Array Value)[o]?) ∧ (∀ o : Nat, w23.cell? ⟨L2, o, none⟩ = (⟨cellC (cL 2 r ro a b)⟩ : Array Value)[o]?) ∧ (∀ o : Nat, w23.cell? ⟨L3, o, none⟩ = (⟨cellC (cK r c)⟩ : Array Value)[o]?) ∧ (∀ o : Nat, w23.cell? ⟨L4, o, none⟩ = (⟨cellC (cW 5 d 0)⟩ : Array Value)[o]?) ∧ (∀ o : Nat, w23.cell? ⟨L5, o, none⟩ = (⟨cellC (cW 6 d 0)⟩ : Array Value)[o]?) ∧ (∀ o : Nat, w23.cell? ⟨L6, o, none⟩ = (⟨cellC (cW 5 d r)⟩ : Array Value)[o]?) ∧ Past W w23) := Lib.hid ⟨box_past p23 H22.out.1 (by have := OZ.out; omega), box_past p23 H22.out.2.1 (by have := OZ.out; omega), box_past p23 H22.out.2.2.1 (by have := OZ.out; omega), box_past p23 H22.out.2.2.2.1 (by have := OZ.out; omega), box_past p23 H22.out.2.2.2.2.1 (by have := OZ.out; omega), box_past p23 H22.out.2.2.2.2.2.1 (by have := OZ.out; omega), H22.out.2.2.2.2.2.2.trans p23⟩
          clear H22 b22 z22 p23 MD
          go_wp2_with (first | refine wpList_load_cmdg rfl (.tmp 14) rfl _ rfl (cW 6 d 0) rfl H23.out.2.2.2.2.1 ?_)
          refine (ME.out _).mono ?_
          rintro e w24 ⟨rfl, p24⟩
          have b24 := box_past p24 b23 (by have := OZ.out; omega)
          have z24 : L6 < w24.heap.size := Nat.lt_of_lt_of_le z23 p24.2.2.1
          have H24 : Hid ((∀ o : Nat, w24.cell? ⟨L1, o, none⟩ = (⟨cellC (cL 1 r ro a b)⟩ : Array Value)[o]?) ∧ (∀ o : Nat, w24.cell? ⟨L2, o, none⟩ = (⟨cellC (cL 2 r ro a b)⟩ : Array Value)[o]?) ∧ (∀ o : Nat, w24.cell? ⟨L3, o, none⟩ = (⟨cellC (cK r c)⟩ : Array Value)[o]?) ∧ (∀ o : Nat, w24.cell? ⟨L4, o, none⟩ = (⟨cellC (cW 5 d 0)⟩ : Array Value)[o]?) ∧ (∀ o : Nat, w24.cell? ⟨L5, o, none⟩ = (⟨cellC (cW 6 d 0)⟩ : Array Value)[o]?) ∧ (∀ o : Nat, w24.cell? ⟨L6, o, none⟩ = (⟨cellC (cW 5 d r)⟩ : Array Value)[o]?) ∧ Past W w24) := Lib.hid ⟨box_past p24 H23.out.1 (by have := OZ.out; omega), box_past p24 H23.out.2.1 (by have := OZ.out; omega), box_past p24 H23.out.2.2.1 (by have := OZ.out; omega), box_past p24 H23.out.2.2.2.1 (by have := OZ.out; omega), box_past p24 H23.out.2.2.2.2.1 (by have := OZ.out; omega), box_past p24 H23.out.2.2.2.2.2.1 (by have := OZ.out; omega), H23.out.2.2.2.2.2.2.trans p24⟩
          clear H23 b23 z23 p24 ME
          go_wp2_with (first | refine wpList_load_cmdg rfl (.tmp 16) rfl _ rfl (cW 5 d r) rfl H24.out.2.2.2.2.2.1 ?_)
          refine (MF.out _).mono ?_
          rintro e w25 ⟨rfl, p25⟩
          have b25 := box_past p25 b24 (by have := OZ.out; omega)
          have z25 : L6 < w25.heap.size := Nat.lt_of_lt_of_le z24 p25.2.2.1
          have H25 : Hid ((∀ o : Nat, w25.cell? ⟨L1, o, none⟩ = (⟨cellC (cL 1 r ro a b)⟩ : Array Value)[o]?) ∧ (∀ o : Nat, w25.cell? ⟨L2, o, none⟩ = (⟨cellC (cL 2 r ro a b)⟩ : Array Value)[o]?) ∧ (∀ o : Nat, w25.cell? ⟨L3, o, none⟩ = (⟨cellC (cK r c)⟩ : Array Value)[o]?) ∧ (∀ o : Nat, w25.cell? ⟨L4, o, none⟩ = (⟨cellC (cW 5 d 0)⟩ : Array Value)[o]?) ∧ (∀ o : Nat, w25.cell? ⟨L5, o, none⟩ = (⟨cellC (cW 6 d 0)⟩ : Array Value)[o]?) ∧ (∀ o : Nat, w25.cell? ⟨L6, o, none⟩ = (⟨cellC (cW 5 d r)⟩ : Array Value)[o]?) ∧ Past W w25) := Lib.hid ⟨box_past p25 H24.out.1 (by have := OZ.out; omega), box_past p25 H24.out.2.1 (by have := OZ.out; omega), box_past p25 H24.out.2.2.1 (by have := OZ.out; omega), box_past p25 H24.out.2.2.2.1 (by have := OZ.out; omega), box_past p25 H24.out.2.2.2.2.1 (by have := OZ.out; omega), box_past p25 H24.out.2.2.2.2.2.1 (by have := OZ.out; omega), H24.out.2.2.2.2.2.2.trans p25⟩
          clear H24 b24 z24 p25 MF
          go_wp2_with fail
          go_ret
          exact ⟨rfl, H25.out.2.2.2.2.2.2⟩
end Go.Proofs.Ytlnlodbjkicgoaa
