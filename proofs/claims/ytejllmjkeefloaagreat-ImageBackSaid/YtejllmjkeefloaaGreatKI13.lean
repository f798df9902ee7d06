/- isa: Take. Put. -/
import Derived.Test.YtejllmjkeefloaaGreatKV2
import Derived.Deep.DeepCutAuto
import Derived.Test.YtejllmjkeefloaaGreatKV4
import Derived.Test.YtejllmjkeefloaaGreatKN3
namespace Go.Proofs.YtejllmjkeefloaaGreat.Q8
open Go.ChangeShapes Go.WideShapes Go.ChangeAt Go.RowKit
set_option maxRecDepth 20000
set_option linter.unusedVariables false
set_option linter.unusedSimpArgs false

theorem wpList_load_cmdg {ops : Array Oper} {Q : Exit → Act → World → Prop} {rest : List Oper} {op : Oper} {a : Act} {w : World} (hw : Region.wanted op (yielded ops a.tmps) = true) (x : Operand) (ho : op.op = .load 67 x) (b : Nat) (hx : a.eval x = .pointer (some ⟨b, 0, none⟩)) (c : List Int) (hl : c.length = 14) (hb : (∀ o : Nat, w.cell? ⟨b, o, none⟩ = (⟨cellC c⟩ : Array Value)[o]?))
    (h : wpList Tryz.prog ops Q rest (a.put op.dst (.agg ⟨cellC c⟩)) w) : wpList Tryz.prog ops Q (op :: rest) a w :=
  BigFrame.wpList_want hw fun _ hK => wp_load_box 67 x ho b ⟨cellC c⟩ hx hb Tryz.underlying67 rfl (cmdSize hl) (hK _ _ h)
/-- What Take tells: the commands, how many bytes, the error. -/
def takeL (b : List Int) : List (List Int) := match takeD b with | none => [] | some (l, _) => l
def takeN (b : List Int) : Nat := match takeD b with | none => 0 | some (_, r) => b.length - r.length
def takeE (b : List Int) : Int := match takeD b with | none => 2 | some _ => 0
theorem take_none {b : List Int} (h : takeD b = none) : takeL b = [] ∧ takeN b = 0 ∧ takeE b = 2 := by unfold takeL takeN takeE; rw [h]; exact ⟨rfl, rfl, rfl⟩
theorem take_some {b : List Int} {l : List (List Int)} {r : List Int} (h : takeD b = some (l, r)) : takeL b = l ∧ takeN b = b.length - r.length ∧ takeE b = 0 := by unfold takeL takeN takeE; rw [h]; exact ⟨rfl, rfl, rfl⟩
def TakePost (b : List Int) (W : World) (e : Ending) (w' : World) : Prop := ∃ v, e = .returned (.tuple #[v, .int .i64 (takeN b : Int), .int .i64 (takeE b)]) ∧ OwnC w' W.heap.size v (takeL b) ∧ Past W w'
/-- How far Take has come. -/
theorem takeGo_fail {n : Nat} {acc : List (List Int)} {t : List Int} (h : oneT t = none) : takeGo (n + 1) acc t = none := by simp only [takeGo, h]
theorem takeGo_next {n : Nat} {acc : List (List Int)} {t c r : List Int} (h : oneT t = some (c, r)) : takeGo (n + 1) acc t = takeGo n (acc ++ [c]) r := by simp only [takeGo, h]
theorem nums_bytes {w : World} {v : Value} {b : List Int} (h : IsNums .u8 w v b) : ∃ A cap, v = .slice A b.length cap ∧ Bytes w w.heap.size A cap b := by
  obtain ⟨A, cap, rfl, h2, h3, h4, h5, h6⟩ := h
  exact ⟨A, cap, rfl, h2, h3, h5, h6⟩
theorem wfC_ok {c : List Int} (h : okC c) : wfC c := by
  obtain ⟨hl, hm⟩ := h
  refine ⟨hl, ?_⟩
  obtain ⟨k, s, n, f, r, w, d, p, i0, i1, b0, b1, h0, h1, rfl⟩ := fourteen hl
  have hk : kindP k := by simpa using hm.1
  have key : ∀ x ∈ [k, s, n, f, r, w, d, p, i0, i1, b0, b1, h0, h1], 0 ≤ x ∧ x < 1000000 := by
    have hk' := hk
    unfold kindP at hk'
    intro x hx
    simp only [List.mem_cons, List.not_mem_nil, or_false] at hx
    rcases kind_cases hk with q | q | q | q | q
    · have := (may_load q).1 hm; omega
    · have := (may_tile q).1 hm; omega
    · have := (may_kernel q).1 hm; omega
    · have := (may_sem q).1 hm; omega
    · have := (may_halt q).1 hm; omega
  exact (wfC_of rfl key).2
theorem RdAt.cell1 {w : World} {B P : Nat} {s : Rd} (h : RdAt w B P s) : w.cell? ⟨P, 1, none⟩ = some (.bool s.short) := by
  obtain ⟨A, cap, bx, _⟩ := h
  exact bx 1
theorem RdAt.cell0 {w : World} {B P : Nat} {s : Rd} (h : RdAt w B P s) : ∃ A cap, w.cell? ⟨P, 0, none⟩ = some (.slice A s.rest.length cap) := by
  obtain ⟨A, cap, bx, _⟩ := h
  exact ⟨A, cap, bx 0⟩
theorem RdAt.bytes {w : World} {B P : Nat} {s : Rd} (h : RdAt w B P s) : bytesP s.rest := by
  obtain ⟨A, cap, _, _, by', _⟩ := h
  exact by'.bytesP
theorem RdAt.grownBy {w w' : World} {B P : Nat} {s : Rd} {row : Option Nat} (h : RdAt w B P s) (g : w.grownBy w' row) (hr : ∀ k, row = some k → P < k) : RdAt w' B P s := by
  obtain ⟨A, cap, bx, fr, by', hB, hP⟩ := h
  have key : ∀ k, k ≤ P → w'.heap[k]? = w.heap[k]? := fun k hk => g.block k (by omega) (fun e => by have := hr k e.symm; omega)
  have cell : ∀ k o, k ≤ P → w'.cell? ⟨k, o, none⟩ = w.cell? ⟨k, o, none⟩ := fun k o hk => World.cell?_of_block (a := ⟨k, o, none⟩) (key k hk)
  refine ⟨A, cap, fun o => (cell P o (Nat.le_refl _)).trans (bx o), fun o => (World.frozen?_of_block (a := ⟨P, o, none⟩) (key P (Nat.le_refl _))).trans (fr o), ?_, hB, Nat.lt_of_lt_of_le hP g.size⟩
  obtain ⟨h1, h2, h3, h4⟩ := by'
  refine ⟨h1, h2, h3, fun hp => ?_⟩
  obtain ⟨b, off, e, hb, hc⟩ := h4 hp
  exact ⟨b, off, e, hb, fun i hi => (cell b (off + i) (by omega)).trans (hc i hi)⟩
set_option maxHeartbeats 1000000 in
theorem take_any (v : Value) (b : List Int) (W : World) (h : IsNums .u8 W v b) : Calls Tryz.prog 35 #[v] W (TakePost b W) := by
  obtain ⟨A, cap, rfl, hB⟩ := nums_bytes h
  have HB := Lib.hid hB
  have hm : b.length ≤ 9223372036854775807 := by have := hB.1; have := hB.2.1; unfold maxLen at this; omega
  have hm2 : b.length ≤ maxLen := by have := hB.1; have := hB.2.1; omega
  clear h hB
  by_cases hbad : b.length < 2 ∨ 4096 < foldB (b.take 2)
  · have T := Lib.hid (take_none (b := b) (by unfold takeD; rw [if_pos hbad]))
    have N2 := Lib.hid (fun P w (h : RdAt w P P ⟨b, false⟩) => number_any 2 (by omega) (by omega) P P ⟨b, false⟩ w h)
    by_cases h2 : b.length < 2
    · have e : numI 2 ⟨b, false⟩ = (0, ⟨b, true⟩) := by unfold numI; rw [if_pos h2]
      rw [e] at N2
      clear e hbad h2
      go_enter Tryz.func35, Tryz.ntmps35
      go_upto_region 2 with fail
      obtain ⟨P, hP⟩ : ∃ P, W.heap.size = P := ⟨_, rfl⟩
      refine opq (fun w' => Hid (RdAt w' P P ⟨b, false⟩) ∧ Past W w') (by
        subst hP
        exact ⟨Lib.hid ⟨A, cap, box_new rfl, free_alloc (free_new (Nat.le_refl _)), HB.out.keep (Keep.of_past ((Past.refl W).alloc _)) (Nat.le_refl _) (Nat.le_refl _), Nat.le_refl _, by simp⟩, (Past.refl W).alloc _⟩) ?_
      rintro w1 ⟨r1, p1⟩
      try simp only [hP]
      have PW : W.heap.size ≤ P := by omega
      have P1 := Lib.hid p1
      clear p1
      go_wp2_with fail
      refine (N2.out P w1 r1.out).mono ?_
      rintro e w2 ⟨rfl, r2, k2⟩
      have c1 := r2.cell1
      simp only at c1
      have K := Lib.hid k2
      clear r2 k2 N2 r1
      go_wp2_with fail
      refine bodyPost_ret (v := .tuple #[.slice none 0 0, .int .i64 0, .int .i64 2]) (by simp [results, Tryz.results35, go_sem]) rfl ⟨_, by rw [T.out.2.1, T.out.2.2]; rfl, by rw [T.out.1]; exact OwnC.nil _ _, Keep.past P1.out K.out PW⟩
    · have h3 : 4096 < foldB (b.take 2) := by omega
      have e : numI 2 ⟨b, false⟩ = (foldB (b.take 2), ⟨b.drop 2, false⟩) := by unfold numI; rw [if_neg h2]
      rw [e] at N2
      obtain ⟨x, hx⟩ : ∃ x, foldB (b.take 2) = x := ⟨_, rfl⟩
      rw [hx] at N2 h3
      clear e hbad h2 hx
      go_enter Tryz.func35, Tryz.ntmps35
      go_upto_region 2 with fail
      obtain ⟨P, hP⟩ : ∃ P, W.heap.size = P := ⟨_, rfl⟩
      refine opq (fun w' => Hid (RdAt w' P P ⟨b, false⟩) ∧ Past W w') (by
        subst hP
        exact ⟨Lib.hid ⟨A, cap, box_new rfl, free_alloc (free_new (Nat.le_refl _)), HB.out.keep (Keep.of_past ((Past.refl W).alloc _)) (Nat.le_refl _) (Nat.le_refl _), Nat.le_refl _, by simp⟩, (Past.refl W).alloc _⟩) ?_
      rintro w1 ⟨r1, p1⟩
      try simp only [hP]
      have PW : W.heap.size ≤ P := by omega
      have P1 := Lib.hid p1
      clear p1
      go_wp2_with fail
      refine (N2.out P w1 r1.out).mono ?_
      rintro e w2 ⟨rfl, r2, k2⟩
      have c1 := r2.cell1
      simp only at c1
      have K := Lib.hid k2
      clear r2 k2 N2 r1
      go_wp2_with fail
      refine bodyPost_ret (v := .tuple #[.slice none 0 0, .int .i64 0, .int .i64 2]) (by simp [results, Tryz.results35, go_sem]) rfl ⟨_, by rw [T.out.2.1, T.out.2.2]; rfl, by rw [T.out.1]; exact OwnC.nil _ _, Keep.past P1.out K.out PW⟩
  · have h2 : ¬ b.length < 2 := by omega
    have h3 : foldB (b.take 2) ≤ 4096 := by omega
    have hb2 : bytesP (b.take 2) := fun c hc => HB.out.bytesP c (List.mem_of_mem_take hc)
    have h4 := (foldB_bd hb2).1
    have N2 := Lib.hid (fun P w (h : RdAt w P P ⟨b, false⟩) => number_any 2 (by omega) (by omega) P P ⟨b, false⟩ w h)
    have e : numI 2 ⟨b, false⟩ = (foldB (b.take 2), ⟨b.drop 2, false⟩) := by unfold numI; rw [if_neg h2]
    have TD : Hid (takeGo (foldB (b.take 2)).toNat [] (b.drop 2) = takeD b) := Lib.hid (by unfold takeD; rw [if_neg hbad])
    rw [e] at N2
    obtain ⟨N, hN⟩ : ∃ N : Nat, foldB (b.take 2) = (N : Int) := ⟨(foldB (b.take 2)).toNat, by omega⟩
    rw [hN] at N2 h3 TD
    rw [Int.toNat_natCast] at TD
    have hbl := HB.out.bytesP
    have BP := Lib.hid (show bytesP (b.drop 2) from fun c hc => hbl c (List.mem_of_mem_drop hc))
    clear e hbad h4 hb2 hN hbl
    have hN : N ≤ 4096 := by omega
    obtain ⟨R, hR⟩ : ∃ R, takeD b = R := ⟨_, rfl⟩
    have HR := Lib.hid hR
    rw [hR] at TD
    clear hR h3
    go_enter Tryz.func35, Tryz.ntmps35
    go_upto_region 2 with fail
    obtain ⟨P, hP⟩ : ∃ P, W.heap.size = P := ⟨_, rfl⟩
    refine opq (fun w' => Hid (RdAt w' P P ⟨b, false⟩) ∧ Past W w') (by
      subst hP
      exact ⟨Lib.hid ⟨A, cap, box_new rfl, free_alloc (free_new (Nat.le_refl _)), HB.out.keep (Keep.of_past ((Past.refl W).alloc _)) (Nat.le_refl _) (Nat.le_refl _), Nat.le_refl _, by simp⟩, (Past.refl W).alloc _⟩) ?_
    rintro w1 ⟨r1, p1⟩
    try simp only [hP]
    have PW : W.heap.size ≤ P := by omega
    have P1 := Lib.hid p1
    clear p1
    go_wp2_with fail
    refine (N2.out P w1 r1.out).mono ?_
    rintro e w2 ⟨rfl, r2, k2⟩
    have c1 := r2.cell1
    simp only at c1
    have REL : Hid (∃ acc t, acc.length = 0 ∧ OwnC w2 (P + 1) (.slice none 0 0) acc ∧ RdAt w2 P P ⟨t, false⟩ ∧ takeGo (N - 0) acc t = R ∧ Past W w2) := Lib.hid ⟨[], b.drop 2, rfl, OwnC.nil _ _, r2, TD.out, Keep.past P1.out k2 PW⟩
    clear r2 k2 N2 r1 P1 TD BP
    go_wp2_with fail
    go_loopw [2, 3, 4, 7, 19] (fun s2 s3 s4 v i wr => ∃ n : Nat, n ≤ N ∧ i = .int .i64 n ∧ s2 = .slice none 0 0 ∧ s3 = .int .i64 0 ∧ s4 = .int .i64 0 ∧ Hid (∃ acc t, acc.length = n ∧ OwnC wr (P + 1) v acc ∧ RdAt wr P P ⟨t, false⟩ ∧ takeGo (N - n) acc t = R ∧ Past W wr)) (fun _ _ _ _ i _ => N - (intOf i).toNat)
    case atStart => exact ⟨0, by omega, rfl, rfl, rfl, rfl, REL⟩
    case round =>
      obtain ⟨n, hnl, rfl, rfl, rfl, rfl, RE⟩ := hrel
      obtain ⟨acc, t, ha, ho, hr, hg, hp⟩ := RE.out
      clear c1
      by_cases h : n < N
      · have e1 : N - n = (N - (n + 1)) + 1 := by omega
        rw [e1] at hg
        have CM := Lib.hid (cmd_rd P P ⟨t, false⟩ wr hr)
        obtain ⟨cs, hcs⟩ : ∃ cs, cmdR ⟨t, false⟩ = cs := ⟨_, rfl⟩
        have hl := cmdR_len ⟨t, false⟩
        have hone := fun q => cmdR_one (t := t) q
        have hnone := fun q => cmdR_none (t := t) q
        unfold CmdPost at CM
        rw [hcs] at CM hl hone hnone
        obtain ⟨c, s'⟩ := cs
        simp only at CM hl hone hnone
        have hoC := Lib.hid ho
        have hgC := Lib.hid hg
        have hpC := Lib.hid hp
        have HA := Lib.hid ha
        have HL := Lib.hid hl
        have H1 := Lib.hid hone
        have H2 := Lib.hid hnone
        have bt := hr.bytes
        simp only at bt
        have HBT := Lib.hid bt
        clear ho hg hp ha hl hone hnone hcs hr e1 RE bt
        go_upto_region 8 with fail
        go_wp2_with fail
        refine CM.out.mono ?_
        rintro e w3 ⟨rfl, r3, k3⟩
        have o3 := hoC.out.keep k3 (by omega)
        have p3 := Keep.past hpC.out k3 PW
        have Q3 := Lib.hid (And.intro o3 (And.intro r3 p3))
        clear o3 p3 r3 k3 CM hoC hpC
        go_upto_region 9 with ((refine wpList_new_cmd 8 ?h1 ?h2 ?h3 ?h4 (.tmp 21) ?h5 ?h6 (c) HL.out ?h8 ?h9 ?_); (case h1 => rfl); (case h2 => rfl); (case h3 => rfl); (case h4 => rfl); (case h5 => rfl); (case h6 => rfl); (case h8 => rfl); (case h9 => rfl); rintro w4 p4 b4 f4 z4)
        obtain ⟨B, hB⟩ : ∃ B, w3.heap.size = B := ⟨_, rfl⟩
        rw [hB] at b4 f4 z4
        try simp only [hB]
        have PB : P < B := by have := Q3.out.2.1.lt; omega
        obtain ⟨rest, sh⟩ := s'
        have Q4 : Hid (OwnC w4 (P + 1) u7 acc ∧ RdAt w4 P P ⟨rest, sh⟩ ∧ Past W w4) := Lib.hid ⟨Q3.out.1.past p4, Q3.out.2.1.past p4, Q3.out.2.2.trans p4⟩
        have c4 := Q4.out.2.1.cell1
        have B4 := Lib.hid b4
        simp only at c4 H1 H2
        clear Q3 p4 f4 b4 hB
        cases sh with
        | true =>
          have T := Lib.hid (take_none (b := b) (by rw [HR.out, ← hgC.out]; exact takeGo_fail (H2.out (.inl rfl))))
          clear H1 H2 hgC HR
          go_wp2_with fail
          refine bodyPost_ret (v := .tuple #[.slice none 0 0, .int .i64 0, .int .i64 2]) (by simp [results, Tryz.results35, go_sem]) rfl ⟨_, by rw [T.out.2.1, T.out.2.2]; rfl, by rw [T.out.1]; exact OwnC.nil _ _, Q4.out.2.2⟩
        | false =>
          by_cases hmd : mayD c
          · have hone := (H1.out (by intro e; rcases e with e | e; cases e; exact e hmd)).1
            have hg := hgC.out
            rw [takeGo_next hone] at hg
            have G := Lib.hid hg
            have MA := Lib.hid (fun w => may_any c HL.out w)
            rw [mayE_ok.2 hmd] at MA
            have WC := Lib.hid (wfC_ok ⟨HL.out, hmd⟩)
            clear H1 H2 hgC hone hg hmd
            go_wp2_with (refine wpList_load_cmdg rfl (.tmp 8) rfl _ rfl c HL.out B4.out ?_)
            refine (MA.out w4).mono ?_
            rintro e w5 ⟨rfl, p5⟩
            have Q5 : Hid (OwnC w5 (P + 1) u7 acc ∧ RdAt w5 P P ⟨rest, false⟩ ∧ Past W w5) := Lib.hid ⟨Q4.out.1.past p5, Q4.out.2.1.past p5, Q4.out.2.2.trans p5⟩
            have B5 := Lib.hid (box_past p5 B4.out z4)
            clear Q4 B4 c4 p5 z4 MA
            go_wp2_with (first | refine wpList_load_cmd rfl (.tmp 8) rfl _ rfl c HL.out B5.out ?_ | refine wpList_lit_cmd rfl (.tmp 30) rfl c HL.out rfl ?_ | (at_builtin; refine wpList_append_cmd rfl (.tmp 29) (.tmp 31) rfl (P + 1) u7 acc rfl (Q5.out.1.alloc _) ⟨w5.heap.size, 0, none⟩ c rfl WC.out (fun j u hu => cells_cmd w5 c j u hu) (by have := HA.out; omega) (by have := Q5.out.2.1.lt; simp; omega) ?_))
            intro v6 w6 o6 g6
            have Q6 : Hid (OwnC w6 (P + 1) v6 (acc ++ [c]) ∧ RdAt w6 P P ⟨rest, false⟩ ∧ Past W w6) := Lib.hid ⟨o6, ((Q5.out.2.1).alloc _).grownBy g6 (fun k hk => by have := Q5.out.1.lt hk; omega), (Q5.out.2.2.alloc _).grownBy g6 (fun k hk => by have := Q5.out.1.lt hk; omega)⟩
            clear Q5 B5 o6 g6
            go_wp2_with fail
            go_roundw
            case rel => exact ⟨n + 1, by omega, by go_num, rfl, rfl, rfl, Lib.hid ⟨acc ++ [c], rest, by rw [List.length_append, HA.out]; rfl, Q6.out.1, Q6.out.2.1, G.out, Q6.out.2.2⟩⟩
            case measure => simp [intOf]; omega
          · have T := Lib.hid (take_none (b := b) (by rw [HR.out, ← hgC.out]; exact takeGo_fail (H2.out (.inr hmd))))
            have MA := Lib.hid (fun w => may_any c HL.out w)
            have e1 : mayE c = 1 := by unfold mayE; rw [if_neg hmd]
            rw [e1] at MA
            clear H1 H2 hgC HR hmd e1
            go_wp2_with (refine wpList_load_cmdg rfl (.tmp 8) rfl _ rfl c HL.out B4.out ?_)
            refine (MA.out w4).mono ?_
            rintro e w5 ⟨rfl, p5⟩
            have P5 := Lib.hid (Q4.out.2.2.trans p5)
            clear Q4 B4 c4 p5
            go_wp2_with fail
            refine bodyPost_ret (v := .tuple #[.slice none 0 0, .int .i64 0, .int .i64 2]) (by simp [results, Tryz.results35, go_sem]) rfl ⟨_, by rw [T.out.2.1, T.out.2.2]; rfl, by rw [T.out.1]; exact OwnC.nil _ _, P5.out⟩
      · have e1 : N - n = 0 := by omega
        rw [e1] at hg
        simp only [takeGo] at hg
        have T := Lib.hid (take_some (b := b) (l := acc) (r := t) (by rw [HR.out, hg]))
        obtain ⟨A0, cap0, c0⟩ := hr.cell0
        simp only at c0
        have OO := Lib.hid (OwnC.low ho (show W.heap.size ≤ P + 1 by omega))
        have PP := Lib.hid hp
        have tl : t.length ≤ b.length := by
          have hd := takeD_back HB.out.bytesP (HR.out.trans hg.symm)
          have := congrArg List.length hd.2.2
          rw [List.length_append] at this
          omega
        have hsub : ((b.length : Nat) : Int) - (t.length : Int) = ((b.length - t.length : Nat) : Int) := by omega
        have HS := Lib.hid hsub
        clear ho hr hg hp e1 RE ha hsub
        go_upto_region 13 with fail
        go_quiet (fail)
        go_wp2_with fail
        refine bodyPost_ret (v := .tuple #[u7, .int .i64 ((b.length : Int) - (t.length : Int)), .int .i64 0]) (by simp [results, Tryz.results35, go_sem]) rfl ⟨u7, by rw [T.out.2.1, T.out.2.2, HS.out], by rw [T.out.1]; exact OO.out.past ((Past.refl _).drewN), PP.out.drewN⟩
end Go.Proofs.YtejllmjkeefloaaGreat.Q8
namespace Go.Proofs.YtejllmjkeefloaaGreat
open Go.ChangeShapes Go.WideShapes Go.ChangeAt Go.RowKit
set_option maxRecDepth 20000
set_option linter.unusedVariables false

theorem flat_take {α : Type} [Inhabited α] (f : α → List Int) (xs : List α) (k : Nat) (h : k < xs.length) : (xs.take (k + 1)).flatMap f = (xs.take k).flatMap f ++ f (xs.getD k default) := by
  rw [List.take_succ_eq_append_getElem h, List.flatMap_append]
  simp [List.getD, h]
theorem flat_le {α : Type} (f : α → List Int) (xs : List α) (k : Nat) : ((xs.take k).flatMap f).length ≤ (xs.flatMap f).length := by
  conv => rhs; rw [← List.take_append_drop k xs, List.flatMap_append]
  simp
def PutPost (g : GraphD) (W : World) (e : Ending) (w' : World) : Prop :=
  (valuesE g = 0 ∧ ∃ v, e = .returned (.tuple #[v, .int .i64 0]) ∧ OwnB w' W.heap.size v (graphB g) ∧ Past W w') ∨
  (valuesE g ≠ 0 ∧ e = .returned (.tuple #[.slice none 0 0, .int .i64 (valuesE g)]) ∧ Past W w')
theorem put_err {g : GraphD} {W w' : World} {q : Int} (h : valuesE g = q) (h0 : q ≠ 0) (p : Past W w') : PutPost g W (.returned (.tuple #[.slice none 0 0, .int .i64 q])) w' :=
  .inr ⟨by rw [h]; exact h0, by rw [h], p⟩
theorem put_ok {g : GraphD} {W w' : World} {v : Value} (h : valuesE g = 0) (o : OwnB w' W.heap.size v (graphB g)) (p : Past W w') : PutPost g W (.returned (.tuple #[v, .int .i64 0])) w' :=
  .inl ⟨h, v, rfl, o, p⟩
set_option maxHeartbeats 8000000 in
theorem put_any (g : GraphD) (gv : Value) (W : World) (hg : IsGraph W gv g) (hc : Cut g) (hz : (graphB g).length ≤ 900000000) : Calls Tryz.prog 54 #[gv] W (PutPost g W) := by
  have HG := Lib.hid hg
  obtain ⟨iv, nv, ov, rfl, hi, hn, ho⟩ := hg
  have HO := Lib.hid ho
  obtain ⟨A1, c1, rfl, i1, i2, _, iw, i5⟩ := hi
  obtain ⟨A2, c2, rfl, n1, n2, _, nw, n5⟩ := hn
  obtain ⟨A3, c3, rfl, o1, o2, _, _, _⟩ := ho
  have m1 : g.ins.length ≤ 9223372036854775807 := by unfold maxLen at i2; omega
  have m2 : g.nodes.length ≤ 9223372036854775807 := by unfold maxLen at n2; omega
  have l1 : 4 * g.ins.length ≤ 900000000 := by rw [graphB_len] at hz; omega
  have l2 : g.nodes.length ≤ 900000000 := by
    have : ∀ ns : List NodeD, ns.length ≤ nodesLen ns := by
      intro ns
      induction ns with
      | nil => simp [nodesLen]
      | cons x xs ih => simp only [nodesLen, List.map_cons, List.sum_cons, List.length_cons] at ih ⊢; omega
    have := this g.nodes
    rw [graphB_len] at hz; omega
  have HZ := Lib.hid hz
  have I5 := Lib.hid i5
  have IW := Lib.hid iw
  have N5 := Lib.hid n5
  have NW := Lib.hid nw
  have CK := Lib.hid (fun w (p : Past W w) => check_any g _ w (HG.out.grow p) hc)
  clear i1 i2 n1 n2 o1 o2 i5 iw n5 nw hc hz
  go_enter Tryz.func54, Tryz.ntmps54
  go_upto_region 1 with fail
  obtain ⟨P, hP⟩ : ∃ P, W.heap.size = P := ⟨_, rfl⟩
  refine opq (fun w' => (∀ o : Nat, w'.cell? ⟨P, o, none⟩ = (#[.slice A1 g.ins.length c1, .slice A2 g.nodes.length c2, .slice A3 g.outs.length c3] : Array Value)[o]?) ∧ Past W w' ∧ P + 1 ≤ w'.heap.size) (by subst hP; exact ⟨box_new rfl, by (exact kKeep), by (exact kKeep)⟩) ?_
  rintro w0 ⟨b0, p0, s0⟩
  try rw [hP]
  go_wp2_with fail
  refine (CK.out _ p0).mono ?_
  rintro e w1 ⟨rfl, q1⟩
  obtain ⟨q, hq⟩ : ∃ q, valuesE g = q := ⟨_, rfl⟩
  rw [hq]
  have b1 := box_past q1 b0 (by omega)
  have p1 := p0.trans q1
  have s1 : P + 1 ≤ w1.heap.size := by have := q1.2.2.1; omega
  have HQ := Lib.hid hq
  clear b0 p0 s0 q1 hq CK
  cases e0 : (q == 0) with
  | false =>
    have e1 : (q != 0) = true := by simp [bne, e0]
    have q0 : q ≠ 0 := by simpa using e0
    have Q0 := Lib.hid q0
    clear q0
    go_wp2_with fail
    go_ret2
    exact put_err HQ.out Q0.out p1
  | true =>
    have e1 : (q != 0) = false := by simp [bne, e0]
    have q0 : q = 0 := by simpa using e0
    subst q0
    clear e0
    have nb : NoRow w1 P P := noRow_box b1 (.slice A1 g.ins.length c1) (by simp) (by simp)
    have NB := Lib.hid nb
    have C0 := Lib.hid (lay_int P 1 (.slice none 0 0) (.slice (some ⟨w1.heap.size, 0, none⟩) 1 1) [] [(g.ins.length : Int)] (w1.alloc (.cells #[.int .i64 (g.ins.length : Int)] 3)) (by omega) (OwnB.nil _ _)
      (nums_new .i64 w1 3 [(g.ins.length : Int)] (by simp) (by simp [maxLen]) (by simp; exact len_wf _ (by omega))) (fun _ => apart0 _ _ _ _) (by simp; omega) (by simp))
    go_wp2_with fail
    refine C0.out.mono ?_
    rintro e w2 ⟨v2, rfl, o2, k2⟩
    have k2 := ((Lays.refl P w1).alloc (.cells #[.int .i64 (g.ins.length : Int)] 3)).trans k2
    have g2 : Lays P W w2 := (Lays.of_past p1).trans k2
    have b2 := box_lays b1 NB.out k2
    have s2 : P + 1 ≤ w2.heap.size := by have := k2.2.2.1; omega
    have o2 := Lib.hid o2
    have g2 := Lib.hid g2
    clear C0 k2 b1 p1 s1 nb NB e1
    go_wp2_with fail
    go_loopw [5, 23] (fun v i wr => ∃ k : Nat, k ≤ g.ins.length ∧ i = .int .i64 k ∧ Hid (OwnB wr P v (numsB 1 [(g.ins.length : Int)] ++ (g.ins.take k).flatMap valB)) ∧ Hid (Lays P W wr) ∧ (∀ o : Nat, wr.cell? ⟨P, o, none⟩ = (#[.slice A1 g.ins.length c1, .slice A2 g.nodes.length c2, .slice A3 g.outs.length c3] : Array Value)[o]?) ∧ P + 1 ≤ wr.heap.size) (fun _ i _ => g.ins.length - (intOf i).toNat)
    case atStart => exact ⟨0, by omega, rfl, Lib.hid (by simpa using o2.out), g2, b2, s2⟩
    case round =>
      clear b2 o2 g2 s2
      obtain ⟨k, hk, rfl, own, gg, b3, s3⟩ := hrel
      by_cases h : k < g.ins.length
      · have p3 : Past W wr := (Past.refl W).trans (by have := gg.out; rw [← hP] at this; exact Lays.past (Past.refl W) this)
        obtain ⟨nb, no, rfl, hnb, hnc⟩ := I5.out (by omega)
        obtain ⟨x0, x1, x2, x3⟩ := (hnc k h).grow hnb p3
        obtain ⟨x, hxk⟩ : ∃ x, g.ins.getD k default = x := ⟨_, rfl⟩
        rw [hxk] at x0 x1 x2 x3
        have wx : ValWf x := IW.out x (by rw [← hxk]; simp [List.getD, h])
        have hnext := flat_take valB g.ins k h
        rw [hxk] at hnext
        have HNX := Lib.hid hnext
        have WX := Lib.hid wx
        have hlen : ((g.ins.take k).flatMap valB).length ≤ 900000000 := by
          have := flat_le valB g.ins k
          have h2 := HZ.out
          simp only [graphB, List.length_append] at h2
          omega
        have HLEN := Lib.hid hlen
        have n1 : P ≠ wr.heap.size := by omega
        have n2 : P < wr.heap.size := by omega
        obtain ⟨P8, hP8⟩ : ∃ P8, wr.heap.size = P8 := ⟨_, rfl⟩
        clear hxk wx hnext hlen hnc
        go_upto_region 8 with fail
        refine opq (fun w' => ((∀ o : Nat, w'.cell? ⟨P, o, none⟩ = (#[.slice (some ⟨nb, no, none⟩) g.ins.length c1, .slice A2 g.nodes.length c2, .slice A3 g.outs.length c3] : Array Value)[o]?) ∧ (∀ o : Nat, w'.cell? ⟨P8, o, none⟩ = (#[.int .i64 x.h, .int .i64 x.w, .int .i64 x.c, .int .i64 x.z] : Array Value)[o]?) ∧ Past wr w' ∧ P8 + 1 ≤ w'.heap.size) ∧ OwnB w' P u5 (numsB 1 [(g.ins.length : Int)] ++ (g.ins.take k).flatMap valB)) ⟨by
          subst hP8
          (exact kKeep), own.out.alloc _⟩ ?_
        rintro w4 ⟨⟨b4, y4, p4, s4⟩, o4⟩
        have gg4 := Lib.hid (gg.out.trans (Lays.of_past p4))
        have C1 := Lib.hid (lay_int P 1 u5 (.slice (some ⟨w4.heap.size, 0, none⟩) 4 4) _ [x.h, x.w, x.c, x.z] (w4.alloc (.cells #[.int .i64 x.h, .int .i64 x.w, .int .i64 x.c, .int .i64 x.z] 3)) (by omega) (o4.alloc _)
          (nums_new .i64 w4 3 [x.h, x.w, x.c, x.z] (by simp) (by simp [maxLen]) (by
            intro y hy
            simp only [List.mem_cons, List.not_mem_nil, or_false] at hy
            rcases hy with rfl | rfl | rfl | rfl
            · exact WX.out.1
            · exact WX.out.2.1
            · exact WX.out.2.2.1
            · exact WX.out.2.2.2)) (fun _ => apart0 _ _ _ _) (by simp; omega) (by have := HLEN.out; simp only [List.length_append, numsB_len, List.length_cons, List.length_nil]; omega))
        clear own b3 s3 gg p3 x0 x1 x2 x3 hP8 n1 n2 p4 o4
        go_wp2_with fail
        refine C1.out.mono ?_
        rintro e w5 ⟨v5, rfl, o5, k5⟩
        have k5 := ((Lays.refl P w4).alloc (.cells #[.int .i64 x.h, .int .i64 x.w, .int .i64 x.c, .int .i64 x.z] 3)).trans k5
        have g5 := Lib.hid (gg4.out.trans k5)
        have b5 := box_lays b4 (noRow_box b4 (.slice (some ⟨nb, no, none⟩) g.ins.length c1) (by simp) (by simp)) k5
        have s5 : P + 1 ≤ w5.heap.size := by have := k5.2.2.1; have := cell_lt ((b4 0).trans rfl); omega
        have o5 := Lib.hid (show OwnB w5 P v5 (numsB 1 [(g.ins.length : Int)] ++ (g.ins.take (k + 1)).flatMap valB) by
          rw [HNX.out, ← List.append_assoc]
          exact o5)
        clear C1 k5 b4 y4 gg4 s4
        go_wp2_with fail
        go_roundw
        case rel => exact ⟨k + 1, by omega, by go_num, o5, g5, b5, s5⟩
        case measure => simp [intOf]; omega
      · have e : g.ins.take k = g.ins := List.take_of_length_le (by omega)
        rw [e] at own
        clear e I5 IW
        have nb : NoRow wr P P := noRow_box b3 (.slice A1 g.ins.length c1) (by simp) (by simp)
        have NB := Lib.hid nb
        have hl0 : (g.ins.flatMap valB).length ≤ 900000000 := by
          have h2 := HZ.out
          simp only [graphB, List.length_append] at h2
          omega
        have C0 := Lib.hid (lay_int P 1 u5 (.slice (some ⟨wr.heap.size, 0, none⟩) 1 1) _ [(g.nodes.length : Int)] (wr.alloc (.cells #[.int .i64 (g.nodes.length : Int)] 3)) (by omega) (own.out.alloc _)
          (nums_new .i64 wr 3 [(g.nodes.length : Int)] (by simp) (by simp [maxLen]) (by simp; exact len_wf _ (by omega))) (fun _ => apart0 _ _ _ _) (by simp; omega) (by simp only [List.length_append, numsB_len, List.length_cons, List.length_nil]; omega))
        clear own hl0 nb
        go_wp2_with fail
        refine C0.out.mono ?_
        rintro e w2 ⟨v2, rfl, o2, k2⟩
        have k2 := ((Lays.refl P wr).alloc (.cells #[.int .i64 (g.nodes.length : Int)] 3)).trans k2
        have g2 := Lib.hid (gg.out.trans k2)
        have b2 := box_lays b3 NB.out k2
        have s2 : P + 1 ≤ w2.heap.size := by have := k2.2.2.1; omega
        have o2 := Lib.hid o2
        clear C0 k2 b3 s3 gg NB
        go_wp2_with fail
        go_loopw [5, 51] (fun v i wr => ∃ k : Nat, k ≤ g.nodes.length ∧ i = .int .i64 k ∧ Hid (OwnB wr P v (numsB 1 [(g.ins.length : Int)] ++ g.ins.flatMap valB ++ numsB 1 [(g.nodes.length : Int)] ++ (g.nodes.take k).flatMap nodeB)) ∧ Hid (Lays P W wr) ∧ (∀ o : Nat, wr.cell? ⟨P, o, none⟩ = (#[.slice A1 g.ins.length c1, .slice A2 g.nodes.length c2, .slice A3 g.outs.length c3] : Array Value)[o]?) ∧ P + 1 ≤ wr.heap.size) (fun _ i _ => g.nodes.length - (intOf i).toNat)
        case atStart => exact ⟨0, by omega, rfl, Lib.hid (by simpa using o2.out), g2, b2, s2⟩
        case round =>
          clear b2 o2 g2 s2 h hk
          obtain ⟨k, hk, rfl, own, gg, b3, s3⟩ := hrel
          by_cases h : k < g.nodes.length
          · have p3 : Past W wr := (Past.refl W).trans (by have := gg.out; rw [← hP] at this; exact Lays.past (Past.refl W) this)
            obtain ⟨nb, no, rfl, hnb, hnc⟩ := N5.out (by omega)
            obtain ⟨vi, vw, vb, hin0, hcell⟩ := hnc k h
            obtain ⟨n, hnk⟩ : ∃ n, g.nodes.getD k default = n := ⟨_, rfl⟩
            rw [hnk] at hin0 hcell
            have mem : n ∈ g.nodes := by rw [← hnk]; simp [List.getD, h]
            have ai := Lib.hid (fun h0 => apart_old (base := P) (by omega) hin0.1 h0)
            have aw := Lib.hid (fun h0 => apart_old (base := P) (by omega) hin0.2.1 h0)
            have ab := Lib.hid (fun h0 => apart_old (base := P) (by omega) hin0.2.2 h0)
            have hin := hin0.grow p3
            have IN := Lib.hid hin
            obtain ⟨Ai, ci, rfl, f1, f2, _, _, _⟩ := hin.1
            obtain ⟨Aw, cw, rfl, f3, f4, _, _, _⟩ := hin.2.1
            obtain ⟨Ab, cb, rfl, f5, f6, _, _, _⟩ := hin.2.2
            have hcell := fun j (hj : j < 14) => (p3.cell hnb).trans (hcell j hj)
            have x0 := hcell 0 (by omega)
            have x1 := hcell 1 (by omega)
            have x2 := hcell 2 (by omega)
            have x3 := hcell 3 (by omega)
            have x4 := hcell 4 (by omega)
            have x5 := hcell 5 (by omega)
            have x6 := hcell 6 (by omega)
            have x7 := hcell 7 (by omega)
            have x8 := hcell 8 (by omega)
            have x9 := hcell 9 (by omega)
            have x10 := hcell 10 (by omega)
            have x11 := hcell 11 (by omega)
            have x12 := hcell 12 (by omega)
            have x13 := hcell 13 (by omega)
            simp only [nodeCells, List.getElem?_cons_zero, List.getElem?_cons_succ, Nat.add_zero] at x0 x1 x2 x3 x4 x5 x6 x7 x8 x9 x10 x11 x12 x13
            have hnext := flat_take nodeB g.nodes k h
            rw [hnk] at hnext
            have HNX := Lib.hid hnext
            have WN := Lib.hid (NW.out n mem)
            have hlen : ((g.ins.flatMap valB).length + ((g.nodes.take k).flatMap nodeB).length) + (nodeB n).length ≤ 900000000 := by
              have h1 := flat_le nodeB g.nodes (k + 1)
              rw [hnext, List.length_append] at h1
              have h2 := HZ.out
              simp only [graphB, List.length_append] at h2
              omega
            have HLEN := Lib.hid hlen
            have n1 : P ≠ wr.heap.size := by omega
            have n2 : P < wr.heap.size := by omega
            have i1 : (0 : Int) ≤ (k : Int) := by omega
            have i2 : (k : Int) < (g.nodes.length : Int) := by omega
            obtain ⟨P8, hP8⟩ : ∃ P8, wr.heap.size = P8 := ⟨_, rfl⟩
            clear hnk hnext hlen hnc hin0 hin hcell mem f1 f2 f3 f4 f5 f6
            go_upto_region 14 with fail
            refine opq (fun w' => ((∀ o : Nat, w'.cell? ⟨P, o, none⟩ = (#[.slice A1 g.ins.length c1, .slice (some ⟨nb, no, none⟩) g.nodes.length c2, .slice A3 g.outs.length c3] : Array Value)[o]?) ∧ (∀ o : Nat, w'.cell? ⟨P8, o, none⟩ = (#[.int .i64 n.op, (.slice Ai n.ins.length ci), .int .i64 n.k, .int .i64 n.stride, .int .i64 n.pad, .int .i64 n.out, .int .i64 n.mul, .int .i64 n.shift, .int .i64 n.zero, .int .i64 n.th, .int .i64 n.tw, .int .i64 n.tc, (.slice Aw n.ws.length cw), (.slice Ab n.bs.length cb)] : Array Value)[o]?) ∧ Past wr w' ∧ P8 + 1 ≤ w'.heap.size) ∧ OwnB w' P u5 (numsB 1 [(g.ins.length : Int)] ++ g.ins.flatMap valB ++ numsB 1 [(g.nodes.length : Int)] ++ (g.nodes.take k).flatMap nodeB)) ⟨by
              subst hP8
              (exact kKeep), own.out.alloc _⟩ ?_
            rintro w4 ⟨⟨b4, y4, p4, s4⟩, o4⟩
            have gg4 := Lib.hid (gg.out.trans (Lays.of_past p4))
            have C1 := Lib.hid (layNode_any P u5 _ n _ _ _ w4 o4 (IN.out.grow p4) WN.out ai.out aw.out ab.out (by omega) (by have := HLEN.out; simp only [List.length_append, numsB_len, List.length_cons, List.length_nil]; omega))
            clear own b3 s3 gg p3 x0 x1 x2 x3 x4 x5 x6 x7 x8 x9 x10 x11 x12 x13 hP8 n1 n2 p4 o4 ai aw ab IN
            go_wp2_with fail
            refine C1.out.mono ?_
            rintro e w5 ⟨v5, rfl, o5, k5⟩
            have g5 := Lib.hid (gg4.out.trans k5)
            have b5 := box_lays b4 (noRow_box b4 (.slice A1 g.ins.length c1) (by simp) (by simp)) k5
            have s5 : P + 1 ≤ w5.heap.size := by have := k5.2.2.1; have := cell_lt ((b4 0).trans rfl); omega
            have o5 := Lib.hid (show OwnB w5 P v5 (numsB 1 [(g.ins.length : Int)] ++ g.ins.flatMap valB ++ numsB 1 [(g.nodes.length : Int)] ++ (g.nodes.take (k + 1)).flatMap nodeB) by
              rw [HNX.out, ← List.append_assoc]
              exact o5)
            clear C1 k5 b4 y4 gg4 s4 i1 i2
            go_wp2_with fail
            go_roundw
            case rel => exact ⟨k + 1, by omega, by go_num, o5, g5, b5, s5⟩
            case measure => simp [intOf]; omega
          · have e : g.nodes.take k = g.nodes := List.take_of_length_le (by omega)
            rw [e] at own
            clear e N5 NW
            have p3 : Past W wr := (Past.refl W).trans (by have := gg.out; rw [← hP] at this; exact Lays.past (Past.refl W) this)
            have hl0 := HZ.out
            simp only [graphB, List.length_append, numsB_len, listB_len, List.length_cons, List.length_nil] at hl0
            have C0 := Lib.hid (list_int P 1 1 u5 (.slice A3 g.outs.length c3) _ g.outs wr (by omega) (by omega) own.out (HO.out.grow p3) (fun h0 => apart_old (w := W) (by omega) HO.out h0) (by omega) (by simp only [List.length_append, numsB_len, List.length_cons, List.length_nil]; omega))
            clear own hl0
            go_wp2_with fail
            refine C0.out.mono ?_
            rintro e w2 ⟨v2, rfl, o2, k2⟩
            have g2 := gg.out.trans k2
            subst hP
            have pf := Lib.hid (Lays.past (Past.refl W) g2)
            have of := Lib.hid o2
            clear C0 k2 b3 s3 gg g2 o2 p3
            go_wp2_with fail
            go_ret2
            exact put_ok HQ.out of.out pf.out
end Go.Proofs.YtejllmjkeefloaaGreat
