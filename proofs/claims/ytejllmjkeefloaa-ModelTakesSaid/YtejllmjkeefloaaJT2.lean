/- The reference of layer 4: node. -/
import Derived.Test.YtejllmjkeefloaaJT1
namespace Go.Proofs.Ytejllmjkeefloaa
open Go.ChangeShapes Go.WideShapes Go.ChangeAt Go.RowKit
set_option maxRecDepth 20000
set_option linter.unusedVariables false
set_option linter.unusedSimpArgs false

theorem wf64r {x : Int} (h : -9223372036854775808 ≤ x ∧ x ≤ 9223372036854775807) : (Lit.int .i64 x).wf = true := by simpa [Lit.wf, IntKind.min, IntKind.max, IntKind.bits, IntKind.signed] using h
set_option maxHeartbeats 4000000 in
theorem rnode_any (base : Nat) (bv : Value) (bs : List Int) (n : NodeD) (vi vw vb : Value) (W : World) (ho : OwnB W base bv bs) (hin : NodeIn W n vi vw vb) (wf : NodeWf n)
    (ai : 0 < n.ins.length → Apart base vi) (aw : 0 < n.ws.length → Apart base vw) (ab : 0 < n.bs.length → Apart base vb) (hb : base ≤ W.heap.size) (hm : bs.length + (nodeB n).length ≤ 900000100) :
    Calls Try.prog 54 #[bv, .agg #[.int .i64 n.op, vi, .int .i64 n.k, .int .i64 n.stride, .int .i64 n.pad, .int .i64 n.out, .int .i64 n.mul, .int .i64 n.shift, .int .i64 n.zero, .int .i64 n.th, .int .i64 n.tw, .int .i64 n.tc, vw, vb]] W (RNumPost base (bs ++ nodeB n) W) := by
  obtain ⟨f0, f2, f3, f4, f5, f6, f7, f8, f9, f10, f11⟩ := wf
  rw [nodeB_len] at hm
  have HO := Lib.hid ho
  have hin' := hin
  obtain ⟨⟨Ai, ci, rfl, i2, i3, _⟩, ⟨Aw, cw, rfl, j2, j3, _, j5, j6⟩, ⟨Ab, cb, rfl, q2, q3, _, q5, q6⟩⟩ := hin'
  have HI := Lib.hid hin.1
  have HW := Lib.hid hin.2.1
  have HB := Lib.hid hin.2.2
  have W6 := Lib.hid j6
  have V5 := Lib.hid q5
  have V6 := Lib.hid q6
  have AI := Lib.hid ai
  have AW := Lib.hid aw
  have AB := Lib.hid ab
  have F := Lib.hid (And.intro f0 (And.intro f2 (And.intro f3 (And.intro f4 (And.intro f5 (And.intro f6 (And.intro f7 (And.intro f8 (And.intro f9 (And.intro f10 f11))))))))))
  have mi : n.ins.length ≤ 9223372036854775807 := by omega
  have mw : n.ws.length ≤ 9223372036854775807 := by omega
  have mb : n.bs.length ≤ 9223372036854775807 := by omega
  obtain ⟨i0, hi0, hz0, hz1, hz2⟩ := info_parts info8
  have I1 := Lib.hid hi0
  have I2 := Lib.hid hz0
  have I3 := Lib.hid hz1
  have I4 := Lib.hid hz2
  clear hi0 hz0 hz1 hz2 f0 f2 f3 f4 f5 f6 f7 f8 f9 f10 f11 ho hin ai aw ab j5 j6 q5 q6 i2 i3 j2 j3 q2 q3
  go_enter Try.func54, Try.ntmps54
  go_upto_region 1 with fail
  obtain ⟨P, hP⟩ : ∃ P, W.heap.size = P := ⟨_, rfl⟩
  refine opq (fun w' => (∀ o : Nat, w'.cell? ⟨P, o, none⟩ = (#[.int .i64 n.op, (.slice Ai n.ins.length ci), .int .i64 n.k, .int .i64 n.stride, .int .i64 n.pad, .int .i64 n.out, .int .i64 n.mul, .int .i64 n.shift, .int .i64 n.zero, .int .i64 n.th, .int .i64 n.tw, .int .i64 n.tc, (.slice Aw n.ws.length cw), (.slice Ab n.bs.length cb)] : Array Value)[o]?) ∧ OwnB w' base bv bs ∧ Hid (Lays base W w') ∧ base ≤ w'.heap.size) (by
    subst hP
    exact ⟨box_new rfl, HO.out.alloc _, Lib.hid ((Lays.refl base W).alloc _), by simp; omega⟩) ?_
  rintro w0 ⟨b0, o0, g0, s0⟩
  rw [hP]
  have C0 := Lib.hid (rsome_any base bv (.slice (some ⟨w0.heap.size, 0, none⟩) 2 2) (bs) [n.op, (n.ins.length : Int)] (w0.alloc (.cells #[.int .i64 n.op, .int .i64 (n.ins.length : Int)] 3)) (o0.alloc _)
    (nums_new .i64 w0 3 [n.op, (n.ins.length : Int)] (by simp) (by simp [maxLen]) (by
    intro x hx
    simp only [List.mem_cons, List.not_mem_nil, or_false] at hx
    rcases hx with rfl | rfl
    · exact F.out.1
    · exact len_wf _ (by omega))) (fun _ => apart0 _ _ _ _) (by simp; omega) (by simp only [List.length_append, numsB_len, numB_len, List.length_cons, List.length_nil]; omega))
  go_wp2_with fail
  refine C0.out.mono ?_
  rintro e w1 ⟨v1, rfl, o1, h1⟩
  have k1 := ((Lays.refl base w0).alloc (.cells #[.int .i64 n.op, .int .i64 (n.ins.length : Int)] 3)).trans h1
  have b1 := box_lays b0 (noRow_node b0) k1
  have g1 := Lib.hid (g0.out.trans k1)
  have s1 : base ≤ w1.heap.size := by have := k1.2.2.1; omega
  clear C0 k1 b0 o0 g0 s0 h1
  have C1 := Lib.hid (rsome_any base v1 (.slice Ai n.ins.length ci) (bs ++ numsB 1 [n.op, (n.ins.length : Int)]) n.ins w1 o1 (nums_lays (by decide) HI.out AI.out g1.out) AI.out s1 (by simp only [List.length_append, numsB_len, numB_len, List.length_cons, List.length_nil]; omega))
  go_wp2_with fail
  refine C1.out.mono ?_
  rintro e w2 ⟨v2, rfl, o2, k2⟩
  have b2 := box_lays b1 (noRow_node b1) k2
  have g2 := Lib.hid (g1.out.trans k2)
  have s2 : base ≤ w2.heap.size := by have := k2.2.2.1; omega
  clear C1 k2 b1 o1 g1 s1
  have C2 := Lib.hid (rsome_any base v2 (.slice (some ⟨w2.heap.size, 0, none⟩) 4 4) (bs ++ numsB 1 [n.op, (n.ins.length : Int)] ++ numsB 1 n.ins) [n.k, n.stride, n.pad, n.out] (w2.alloc (.cells #[.int .i64 n.k, .int .i64 n.stride, .int .i64 n.pad, .int .i64 n.out] 3)) (o2.alloc _)
    (nums_new .i64 w2 3 [n.k, n.stride, n.pad, n.out] (by simp) (by simp [maxLen]) (by
    intro x hx
    simp only [List.mem_cons, List.not_mem_nil, or_false] at hx
    rcases hx with rfl | rfl | rfl | rfl
    · exact F.out.2.1
    · exact F.out.2.2.1
    · exact F.out.2.2.2.1
    · exact F.out.2.2.2.2.1)) (fun _ => apart0 _ _ _ _) (by simp; omega) (by simp only [List.length_append, numsB_len, numB_len, List.length_cons, List.length_nil]; omega))
  go_wp2_with fail
  refine C2.out.mono ?_
  rintro e w3 ⟨v3, rfl, o3, h3⟩
  have k3 := ((Lays.refl base w2).alloc (.cells #[.int .i64 n.k, .int .i64 n.stride, .int .i64 n.pad, .int .i64 n.out] 3)).trans h3
  have b3 := box_lays b2 (noRow_node b2) k3
  have g3 := Lib.hid (g2.out.trans k3)
  have s3 : base ≤ w3.heap.size := by have := k3.2.2.1; omega
  clear C2 k3 b2 o2 g2 s2 h3
  have C3 := Lib.hid (rnum_any base 2 v3 (bs ++ numsB 1 [n.op, (n.ins.length : Int)] ++ numsB 1 n.ins ++ numsB 1 [n.k, n.stride, n.pad, n.out]) n.mul w3 (by omega) F.out.2.2.2.2.2.1 o3 s3 (by simp only [List.length_append, numsB_len, numB_len, List.length_cons, List.length_nil]; omega))
  go_wp2_with fail
  refine C3.out.mono ?_
  rintro e w4 ⟨v4, rfl, o4, k4⟩
  have b4 := box_lays b3 (noRow_node b3) k4
  have g4 := Lib.hid (g3.out.trans k4)
  have s4 : base ≤ w4.heap.size := by have := k4.2.2.1; omega
  clear C3 k4 b3 o3 g3 s3
  have C4 := Lib.hid (rsome_any base v4 (.slice (some ⟨w4.heap.size, 0, none⟩) 5 5) (bs ++ numsB 1 [n.op, (n.ins.length : Int)] ++ numsB 1 n.ins ++ numsB 1 [n.k, n.stride, n.pad, n.out] ++ numB 2 n.mul) [n.shift, n.zero, n.th, n.tw, n.tc] (w4.alloc (.cells #[.int .i64 n.shift, .int .i64 n.zero, .int .i64 n.th, .int .i64 n.tw, .int .i64 n.tc] 3)) (o4.alloc _)
    (nums_new .i64 w4 3 [n.shift, n.zero, n.th, n.tw, n.tc] (by simp) (by simp [maxLen]) (by
    intro x hx
    simp only [List.mem_cons, List.not_mem_nil, or_false] at hx
    rcases hx with rfl | rfl | rfl | rfl | rfl
    · exact F.out.2.2.2.2.2.2.1
    · exact F.out.2.2.2.2.2.2.2.1
    · exact F.out.2.2.2.2.2.2.2.2.1
    · exact F.out.2.2.2.2.2.2.2.2.2.1
    · exact F.out.2.2.2.2.2.2.2.2.2.2)) (fun _ => apart0 _ _ _ _) (by simp; omega) (by simp only [List.length_append, numsB_len, numB_len, List.length_cons, List.length_nil]; omega))
  go_wp2_with fail
  refine C4.out.mono ?_
  rintro e w5 ⟨v5, rfl, o5, h5⟩
  have k5 := ((Lays.refl base w4).alloc (.cells #[.int .i64 n.shift, .int .i64 n.zero, .int .i64 n.th, .int .i64 n.tw, .int .i64 n.tc] 3)).trans h5
  have b5 := box_lays b4 (noRow_node b4) k5
  have g5 := Lib.hid (g4.out.trans k5)
  have s5 : base ≤ w5.heap.size := by have := k5.2.2.1; omega
  clear C4 k5 b4 o4 g4 s4 h5
  have C5 := Lib.hid (rnum_any base 2 v5 (bs ++ numsB 1 [n.op, (n.ins.length : Int)] ++ numsB 1 n.ins ++ numsB 1 [n.k, n.stride, n.pad, n.out] ++ numB 2 n.mul ++ numsB 1 [n.shift, n.zero, n.th, n.tw, n.tc]) (n.ws.length : Int) w5 (by omega) (len_wf _ (by omega)) o5 s5 (by simp only [List.length_append, numsB_len, numB_len, List.length_cons, List.length_nil]; omega))
  go_wp2_with fail
  refine C5.out.mono ?_
  rintro e w6 ⟨v6, rfl, o6, k6⟩
  have b6 := box_lays b5 (noRow_node b5) k6
  have g6 := Lib.hid (g5.out.trans k6)
  have s6 : base ≤ w6.heap.size := by have := k6.2.2.1; omega
  clear C5 k6 b5 o5 g5 s5
  obtain ⟨cs, ecs⟩ : ∃ cs, bs ++ numsB 1 [n.op, (n.ins.length : Int)] ++ numsB 1 n.ins ++ numsB 1 [n.k, n.stride, n.pad, n.out] ++ numB 2 n.mul ++ numsB 1 [n.shift, n.zero, n.th, n.tw, n.tc] ++ numB 2 (n.ws.length : Int) = cs := ⟨_, rfl⟩
  rw [ecs] at o6
  have ECS := Lib.hid ecs
  have lcs : Hid (cs.length ≤ bs.length + 15 + n.ins.length) := Lib.hid (by rw [← ecs]; simp only [List.length_append, numsB_len, numB_len, List.length_cons, List.length_nil]; omega)
  have O6 := Lib.hid o6
  clear ecs o6
  go_wp2_with fail
  go_loopw [0, 5] (fun v i wr => ∃ k : Nat, k ≤ n.ws.length ∧ i = .int .i64 k ∧ (∀ o : Nat, wr.cell? ⟨P, o, none⟩ = (#[.int .i64 n.op, (.slice Ai n.ins.length ci), .int .i64 n.k, .int .i64 n.stride, .int .i64 n.pad, .int .i64 n.out, .int .i64 n.mul, .int .i64 n.shift, .int .i64 n.zero, .int .i64 n.th, .int .i64 n.tw, .int .i64 n.tc, (.slice Aw n.ws.length cw), (.slice Ab n.bs.length cb)] : Array Value)[o]?) ∧ Hid (OwnB wr base v (cs ++ numsB 1 (n.ws.take k))) ∧ Hid (Lays base W wr) ∧ base ≤ wr.heap.size) (fun _ i _ => n.ws.length - (intOf i).toNat)
  case atStart => exact ⟨0, by omega, rfl, b6, Lib.hid (by simpa [numsB] using O6.out), g6, s6⟩
  case round =>
    clear b6 O6 g6 s6
    obtain ⟨k, hk, rfl, bk, hown, hp, hbs⟩ := hrel
    by_cases h : k < n.ws.length
    · obtain ⟨b, off, rfl, hbb, hc⟩ := W6.out (by omega)
      have hN := nums_noRow (by decide) HW.out (AW.out (by omega)) (by omega)
      have c0 := (hp.out.cell hN).trans (hc k h)
      have hnext := numsB_one n.ws k h
      obtain ⟨x, hx⟩ : ∃ x, n.ws.getD k 0 = x := ⟨_, rfl⟩
      rw [hx] at c0 hnext
      have HX := Lib.hid hnext
      clear hx hc hnext hN
      have HLEN : Hid ((cs ++ numsB 1 (n.ws.take k)).length + 1 ≤ 1000000000) := Lib.hid (by
        rw [List.length_append, numsB_len, List.length_take, Nat.min_eq_left (by omega)]
        have := lcs.out
        omega)
      obtain ⟨ds, hds⟩ : ∃ ds, cs ++ numsB 1 (n.ws.take k) = ds := ⟨_, rfl⟩
      have EC := Lib.hid hds
      rw [hds] at hown HLEN
      clear hds
      go_wp2_with (at_builtin; refine wpList_append_own _ rfl (.tmp 62) (.tmp 69) 22 rfl base 5 i0 _ 1 1 Try.underlying22 I1.out I2.out I3.out I4.out rfl (by decide) _ _ _ rfl (World.ownsRow.alloc hown.out.1 _) ⟨wr.heap.size, 0, none⟩ 1 1 [.int .u8 (x % 256)] rfl rfl (fun j u hu => cells_new' wr _ 5 j u hu) (by intro u hu; simp at hu; subst hu; rfl) ?c4 ?c5 ?c6 ?_)
      case c4 => have := HLEN.out; unfold maxLen; omega
      case c5 => have := HLEN.out; omega
      case c6 => simp; omega
      intro v4 w4 hown4 hgrow _
      have ho4 := Lib.hid (own_bytes rfl hown4)
      have hl4 := Lib.hid (Lays.grownBy (hp.out.alloc _) (hown.out.alloc _) hgrow)
      have k4 := Lays.grownBy ((Lays.refl base wr).alloc _) (hown.out.alloc _) hgrow
      have b4 := box_lays bk (noRow_node bk) k4
      have hs4 : base ≤ w4.heap.size := by have := hgrow.size; simp only [World.size_alloc] at this; omega
      clear hown4 hgrow k4 bk
      go_wp2_with fail
      go_roundw
      case rel => exact ⟨k + 1, by omega, by go_num, b4, Lib.hid (by rw [HX.out, ← List.append_assoc, EC.out]; exact ho4.out), hl4, hs4⟩
      case measure => simp [intOf]; omega
    · have hk' : n.ws.take k = n.ws := List.take_of_length_le (by omega)
      rw [hk'] at hown
      clear hk' W6 AW HW
      have HLEN : Hid ((cs ++ numsB 1 n.ws).length + 1 ≤ 1000000000) := Lib.hid (by
        rw [List.length_append, numsB_len]
        have := lcs.out
        omega)
      obtain ⟨ds, hds⟩ : ∃ ds, cs ++ numsB 1 n.ws = ds := ⟨_, rfl⟩
      have EC := Lib.hid hds
      have lds : Hid (ds.length = cs.length + n.ws.length) := Lib.hid (by rw [← hds, List.length_append, numsB_len]; omega)
      rw [hds] at hown HLEN
      clear hds
      go_wp2_with (at_builtin; refine wpList_append_own _ rfl (.tmp 71) (.tmp 76) 22 rfl base 5 i0 _ 1 1 Try.underlying22 I1.out I2.out I3.out I4.out rfl (by decide) _ _ _ rfl (World.ownsRow.alloc hown.out.1 _) ⟨wr.heap.size, 0, none⟩ 1 1 [.int .u8 ((n.bs.length : Int) % 256)] rfl rfl (fun j u hu => cells_new' wr _ 5 j u hu) (by intro u hu; simp at hu; subst hu; rfl) ?c4 ?c5 ?c6 ?_)
      case c4 => have := HLEN.out; unfold maxLen; omega
      case c5 => have := HLEN.out; omega
      case c6 => simp; omega
      intro v4 w4 hown4 hgrow _
      have O4 := Lib.hid (own_bytes rfl hown4)
      have l4 := Lib.hid (Lays.grownBy (hp.out.alloc _) (hown.out.alloc _) hgrow)
      have k4 := Lays.grownBy ((Lays.refl base wr).alloc _) (hown.out.alloc _) hgrow
      have b4 := box_lays bk (noRow_node bk) k4
      have hs4 : base ≤ w4.heap.size := by have := hgrow.size; simp only [World.size_alloc] at this; omega
      clear hown4 hgrow k4 bk hown hp hbs HLEN
      go_wp2_with fail
      go_loopw [0, 6] (fun v i wr => ∃ k : Nat, k ≤ n.bs.length ∧ i = .int .i64 k ∧ (∀ o : Nat, wr.cell? ⟨P, o, none⟩ = (#[.int .i64 n.op, (.slice Ai n.ins.length ci), .int .i64 n.k, .int .i64 n.stride, .int .i64 n.pad, .int .i64 n.out, .int .i64 n.mul, .int .i64 n.shift, .int .i64 n.zero, .int .i64 n.th, .int .i64 n.tw, .int .i64 n.tc, (.slice Aw n.ws.length cw), (.slice Ab n.bs.length cb)] : Array Value)[o]?) ∧ Hid (OwnB wr base v (ds ++ [(n.bs.length : Int) % 256] ++ numsB 4 (n.bs.take k))) ∧ Hid (Lays base W wr) ∧ base ≤ wr.heap.size) (fun _ i _ => n.bs.length - (intOf i).toNat)
      case atStart => exact ⟨0, by omega, rfl, b4, Lib.hid (by simpa [numsB] using O4.out), l4, hs4⟩
      case round =>
        clear b4 O4 l4 hs4
        obtain ⟨m, hmk, rfl, bk, hown, hp, hbs⟩ := hrel
        by_cases h : m < n.bs.length
        · obtain ⟨b, off, rfl, hbb, hc⟩ := V6.out (by omega)
          have hN := nums_noRow (by decide) HB.out (AB.out (by omega)) (by omega)
          have c0 := (hp.out.cell hN).trans (hc m h)
          have wx := V5.out (n.bs.getD m 0) (by simp [List.getD, h])
          have hnext := numsB_take 4 n.bs m h
          obtain ⟨x, hx⟩ : ∃ x, n.bs.getD m 0 = x := ⟨_, rfl⟩
          rw [hx] at c0 hnext wx
          have HX := Lib.hid hnext
          have xb : -2147483648 ≤ x ∧ x ≤ 2147483647 := by simpa [Lit.wf, IntKind.min, IntKind.max, IntKind.bits, IntKind.signed] using wx
          have ew : IntKind.i64.wrap x = x := IntWalk.i64_in _ (by omega)
          have C := Lib.hid (rnum_any base 4 u0 (ds ++ [(n.bs.length : Int) % 256] ++ numsB 4 (n.bs.take m)) x wr (by omega) (wf64r (by omega)) hown.out hbs (by
            simp only [List.length_append, numsB_len, List.length_take, List.length_cons, List.length_nil]
            have := lds.out
            have := lcs.out
            have : min m n.bs.length = m := Nat.min_eq_left (by omega)
            omega))
          clear hx hc hnext hN wx xb
          go_wp2_with fail
          refine C.out.mono ?_
          rintro e w5 ⟨v5, rfl, o5, k5⟩
          have b5 := box_lays bk (noRow_node bk) k5
          have O5 := Lib.hid o5
          have L5 := Lib.hid (hp.out.trans k5)
          have hs5 : base ≤ w5.heap.size := by have := k5.2.2.1; omega
          clear C bk k5 o5 hown hp
          go_wp2_with fail
          go_roundw
          case rel => exact ⟨m + 1, by omega, by go_num, b5, Lib.hid (by rw [HX.out, ← List.append_assoc]; exact O5.out), L5, hs5⟩
          case measure => simp [intOf]; omega
        · have hk' : n.bs.take m = n.bs := List.take_of_length_le (by omega)
          rw [hk', ← EC.out, ← ECS.out] at hown
          clear hk'
          go_wp2_with fail
          go_ret
          have ho := hown.out
          have e1 : [(n.bs.length : Int) % 256] = numB 1 (n.bs.length : Int) := by rw [numB_1]; rfl
          rw [e1] at ho
          exact ⟨_, rfl, by simpa [nodeB, listB, numsB] using ho, hp.out⟩
end Go.Proofs.Ytejllmjkeefloaa
