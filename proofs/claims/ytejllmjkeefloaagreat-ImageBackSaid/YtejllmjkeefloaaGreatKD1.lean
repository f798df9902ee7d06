/- ImageBack: the walk. -/
import Derived.Deep.DeepCutAuto
import Derived.Test.YtejllmjkeefloaaGreatKAM
import Derived.Test.YtejllmjkeefloaaGreatKC5
import Derived.Test.YtejllmjkeefloaaGreatKG6C
import Derived.Test.YtejllmjkeefloaaGreatKV2
import Derived.Test.YtejllmjkeefloaaGreatKE1
namespace Go.Proofs.YtejllmjkeefloaaGreat
open Go.ChangeShapes Go.WideShapes Go.ChangeAt Go.RowKit
set_option maxRecDepth 20000
set_option linter.unusedVariables false
set_option linter.unusedSimpArgs false

set_option maxHeartbeats 16000000 in
theorem back9_walk (W : World) (va : Value) (im0 : ImgD) (ha : IsImg W va im0) (pz : Int) (hpz : (Lit.int .i64 pz).wf = true) (y0 y1 y2 y3 : Int) (f0 : (Lit.int .u8 y0).wf = true) (f1 : (Lit.int .u8 y1).wf = true) (f2 : (Lit.int .u8 y2).wf = true) (f3 : (Lit.int .u8 y3).wf = true) :
    Calls Tryz.prog 4 #[va, .int .i64 pz, .agg #[.int .u8 y0, .int .u8 y1, .int .u8 y2, .int .u8 y3]] W fun e w' => e = .returned (.bool true) ∧ Past W w' := by
  have LA := Lib.hid (fun w (p : Past W w) => less9_any im0 va w (ha.grow p))
  obtain ⟨R1, r1, R2, r2, R3, r3, R4, r4, R5, r5, R6, r6, R7, r7, rfl, _, _, _, _, _⟩ := ha.form
  have CA := Lib.hid (cut_cutI im0)
  have GA := Lib.hid (cutI_len im0)
  obtain ⟨i, ea⟩ : ∃ x, cutI im0 = x := ⟨_, rfl⟩
  rw [ea] at LA CA GA
  clear ea ha
  obtain ⟨m0, rfl, g0⟩ : ∃ c : Nat, y0 = (c : Int) ∧ c < 256 := by have := wf_u8 f0; exact ⟨y0.toNat, by omega, by omega⟩
  obtain ⟨m1, rfl, g1⟩ : ∃ c : Nat, y1 = (c : Int) ∧ c < 256 := by have := wf_u8 f1; exact ⟨y1.toNat, by omega, by omega⟩
  obtain ⟨m2, rfl, g2⟩ : ∃ c : Nat, y2 = (c : Int) ∧ c < 256 := by have := wf_u8 f2; exact ⟨y2.toNat, by omega, by omega⟩
  obtain ⟨m3, rfl, g3⟩ : ∃ c : Nat, y3 = (c : Int) ∧ c < 256 := by have := wf_u8 f3; exact ⟨y3.toNat, by omega, by omega⟩
  have pz0 : -9223372036854775808 ≤ pz ∧ pz ≤ 9223372036854775807 := by simpa [Lit.wf, IntKind.min, IntKind.max, IntKind.bits, IntKind.signed] using hpz
  clear hpz f0 f1 f2 f3
  obtain ⟨BL, hBL⟩ : ∃ l, [m0, m1, m2, m3] = l := ⟨_, rfl⟩
  have GB : Hid (Q7.Bytes BL) := Lib.hid (by
    rw [← hBL]
    intro c hc
    simp only [List.mem_cons, List.not_mem_nil, or_false] at hc
    omega)
  have CB4 : Hid (∀ i, i < 4 → ([Value.int .u8 (m0 : Int), .int .u8 (m1 : Int), .int .u8 (m2 : Int), .int .u8 (m3 : Int)] : List Value)[i]? = some (.int .u8 ((BL.getD i 0 : Nat) : Int))) := Lib.hid (by
    intro i hi
    rw [← hBL]
    have : i = 0 ∨ i = 1 ∨ i = 2 ∨ i = 3 := by omega
    rcases this with rfl | rfl | rfl | rfl <;> rfl)
  clear hBL g0 g1 g2 g3
  obtain ⟨Q, hQ⟩ : ∃ Q, W.heap.size = Q := ⟨_, rfl⟩
  go_enter Tryz.func4, Tryz.ntmps4
  go_upto_region 1 with fail
  refine opq (fun w' => (∀ o : Nat, w'.cell? ⟨Q, o, none⟩ = (#[.slice R1 im0.g.ins.length r1, .slice R2 im0.g.nodes.length r2, .slice R3 im0.g.outs.length r3, .slice R4 im0.pl.length r4, .slice R5 im0.s0.length r5, .slice R6 im0.s1.length r6, .slice R7 im0.s2.length r7] : Array Value)[o]?) ∧ (∀ o : Nat, w'.frozen? ⟨Q, o, none⟩ = false) ∧ (∀ o : Nat, w'.cell? ⟨Q + 1, o, none⟩ = (#[.int .u8 (m0 : Int), .int .u8 (m1 : Int), .int .u8 (m2 : Int), .int .u8 (m3 : Int)] : Array Value)[o]?) ∧ Past W w' ∧ Q + 2 ≤ w'.heap.size) (by
    subst hQ
    exact ⟨by (exact kKeep), by (exact kKeep), by (exact kKeep), by (exact kKeep), by simp⟩) ?_
  rintro w1 ⟨b1, f1, y1, p1, s1⟩
  try simp only [World.size_alloc, hQ]
  try rw [hQ]
  go_wp2_with fail
  refine (shown9_any _).mono ?_
  rintro e w2 ⟨rfl, g⟩
  replace b1 := box_past g b1 (by omega)
  replace f1 := free_past g f1 (by omega)
  replace y1 := box_past g y1 (by omega)
  replace p1 := p1.trans g
  replace s1 := size_past g s1
  clear g
  go_wp2_with (first | refine wpList_load_box rfl 32 (.tmp 3) rfl Q _ rfl b1 Tryz.underlying32 rfl (by kernel_rfl) ?_)
  refine (LA.out _ p1).mono ?_
  rintro e w3 ⟨v3, rfl, IA, g⟩
  replace b1 := box_past g b1 (by omega)
  replace f1 := free_past g f1 (by omega)
  replace y1 := box_past g y1 (by omega)
  replace p1 := p1.trans g
  replace s1 := size_past g s1
  obtain ⟨A1, c1, A2, c2, A3, c3, A4, c4, A5, c5, A6, c6, A7, c7, rfl, _, _, _, _, _⟩ := IA.form
  have HA := Lib.hid IA
  clear g IA LA
  go_upto_region 3 with fail
  refine opq (fun w' => ((∀ o : Nat, w'.cell? ⟨Q, o, none⟩ = (#[.slice A1 i.g.ins.length c1, .slice A2 i.g.nodes.length c2, .slice A3 i.g.outs.length c3, .slice A4 i.pl.length c4, .slice A5 i.s0.length c5, .slice A6 i.s1.length c6, .slice A7 i.s2.length c7] : Array Value)[o]?) ∧ (∀ o : Nat, w'.frozen? ⟨Q, o, none⟩ = false) ∧ (∀ o : Nat, w'.cell? ⟨Q + 1, o, none⟩ = (#[.int .u8 (m0 : Int), .int .u8 (m1 : Int), .int .u8 (m2 : Int), .int .u8 (m3 : Int)] : Array Value)[o]?) ∧ Past W w' ∧ Q + 2 ≤ w'.heap.size) ∧ Hid (IsImg w' (.agg #[.slice A1 i.g.ins.length c1, .slice A2 i.g.nodes.length c2, .slice A3 i.g.outs.length c3, .slice A4 i.pl.length c4, .slice A5 i.s0.length c5, .slice A6 i.s1.length c6, .slice A7 i.s2.length c7]) i)) ⟨⟨box_set7 b1, free7 f1, other7 y1 (by omega), past7 p1 (by omega), size7 s1⟩, Lib.hid (img_save HA.out (noInt7 b1) save7)⟩ ?_
  clear b1 f1 y1 p1 s1 HA
  rintro w4 ⟨⟨b1, f1, y1, p1, s1⟩, HA⟩
  have BX : Hid (∀ i, i < 4 → w4.cell? ⟨Q + 1, i, none⟩ = some (.int .u8 ((BL.getD i 0 : Nat) : Int))) := Lib.hid (fun i hi => by
    rw [y1 i, ← CB4.out i hi, List.getElem?_toArray])
  have P4 := Lib.hid p1
  have QQ : Hid (Q + 1 < w4.heap.size) := Lib.hid (by omega)
  clear CB4
  have PA := Lib.hid (iput_any i _ w4 HA.out CA.out GA.out)
  have LE := Lib.hid (fun h => imgB_len (i := i) h GA.out)
  have OA := Lib.hid (fun h => okI_of (i := i) HA.out h)
  have MP := Lib.hid (fun h => (may_parts (i := i) h).2.1)
  unfold PutI at PA
  obtain ⟨EA, hEA⟩ : ∃ x, mayI i = x := ⟨_, rfl⟩
  rw [hEA] at PA LE OA MP
  clear hEA
  go_wp2_with (first | refine wpList_load_box rfl 32 (.tmp 3) rfl Q _ rfl b1 Tryz.underlying32 rfl (by kernel_rfl) ?_)
  refine PA.out.mono ?_
  rintro e w5 (⟨e0, PB, hPB, rfl, rb, g⟩ | ⟨e0, rfl, g⟩)
  · subst e0
    have ok := OA.out rfl
    have le := LE.out rfl
    have mp := MP.out rfl
    have RB5 := Lib.hid rb
    have HPB : Hid (w4.heap.size ≤ PB) := Lib.hid hPB
    have G45 := Lib.hid g
    have HA5 := Lib.hid (HA.out.grow g)
    replace b1 := box_past g b1 (by omega)
    replace f1 := free_past g f1 (by omega)
    replace y1 := box_past g y1 (by omega)
    replace p1 := p1.trans g
    replace s1 := size_past g s1
    obtain ⟨TK, TI⟩ := took_seal ok mp
    have NM := Lib.hid (not_more ok 0)
    have SB := Lib.hid (seal_bytes i)
    obtain ⟨x, hx⟩ : ∃ x, nats (imgB i) = x := ⟨_, rfl⟩
    have SL := sealI_len i
    have XB : Q7.Bytes x := by rw [← hx]; exact nats_bytes (imgB_bytes i)
    rw [hx] at TK TI NM SB RB5 SL
    have TKH := Lib.hid TK
    have TIH := Lib.hid TI
    have XBH := Lib.hid XB
    have LX : x.length = (imgB i).length := by rw [← hx, nats_len]
    obtain ⟨n4, hn4⟩ : ∃ n, (imgB i).length + 4 = n := ⟨_, rfl⟩
    rw [hn4] at SL ⊢
    have SLH := Lib.hid SL
    have hn : n4 ≤ 999004 := by omega
    have hn0 : 4 ≤ n4 := by omega
    have HNX : Hid (x.length + 4 = n4) := Lib.hid (by omega)
    clear g rb PA LE OA MP ok le mp HA TK TI XB hx LX SL hPB hn4
    have NB5 : Hid (∀ w, Past w5 w → IsNums .u8 w (.slice (some ⟨PB, 0, none⟩) n4 n4) (Q7.ints (Q7.sealD x))) := Lib.hid (fun w p => by
      have := (RB5.out.past p).nums SB.out (by rw [SLH.out]; unfold maxLen; omega)
      rw [SLH.out] at this
      exact this)
    have HLEN : Hid (([] : List Int).length + (Q7.ints (Q7.sealD x)).length ≤ 1000000) := Lib.hid (by rw [Q7.ints_len, SLH.out]; simp; omega)
    go_wp2_with (first | refine Q8.wpList_append_b rfl (.tmp 38) (.tmp 39) rfl w5.heap.size _ [] rfl (Q8.ownR_lit w5) (Q7.ints (Q7.sealD x)) (some ⟨PB, 0, none⟩) n4 n4 rfl (NB5.out _ ((Past.refl w5).alloc _)) HLEN.out (by rw [World.size_alloc]; omega) ?_ | refine wpList_load_box rfl 32 (.tmp 3) rfl Q _ rfl b1 Tryz.underlying32 rfl (by kernel_rfl) ?_)
    intro v6 w6 own6 gr6
    have g56 : Past w5 w6 := ((Past.refl w5).alloc _).grownBy gr6 (fun j hj => (Q8.ownR_lit w5).lt hj)
    replace b1 := box_past g56 b1 (by omega)
    replace f1 := free_past g56 f1 (by omega)
    replace y1 := box_past g56 y1 (by omega)
    replace p1 := p1.trans g56
    replace s1 := size_past g56 s1
    have NV := own6.nums (ints_bytes SB.out)
    obtain ⟨Av, cv, rfl, _, _⟩ := own_slice' own6
    have TKC := Lib.hid (itake_any (Q7.sealD x) _ w6 NV SB.out (by rw [SLH.out]; omega))
    unfold TakeI at TKC
    have G6 := Lib.hid g56
    clear own6 gr6 NV g56
    go_wp2_with fail
    refine TKC.out.mono ?_
    rintro e w7 (⟨_, xv, rfl, xi, g⟩ | ⟨nt, _, _⟩)
    case inr => exact absurd TKH.out nt
    rw [TIH.out] at xi
    replace b1 := box_past g b1 (by omega)
    replace f1 := free_past g f1 (by omega)
    replace y1 := box_past g y1 (by omega)
    replace p1 := p1.trans g
    replace s1 := size_past g s1
    have G7 := Lib.hid (G6.out.trans g)
    obtain ⟨B1, d1, B2, d2, B3, d3, B4, d4, B5, d5, B6, d6, B7, d7, rfl, _, _, _, _, _⟩ := xi.form
    have HX := Lib.hid xi
    clear g xi TKC G6
    obtain ⟨X, hX⟩ : ∃ X, w7.heap.size = X := ⟨_, rfl⟩
    go_upto_region 7 with fail
    refine opq (fun w' => ((∀ o : Nat, w'.cell? ⟨Q, o, none⟩ = (#[.slice A1 i.g.ins.length c1, .slice A2 i.g.nodes.length c2, .slice A3 i.g.outs.length c3, .slice A4 i.pl.length c4, .slice A5 i.s0.length c5, .slice A6 i.s1.length c6, .slice A7 i.s2.length c7] : Array Value)[o]?) ∧ (∀ o : Nat, w'.frozen? ⟨Q, o, none⟩ = false) ∧ (∀ o : Nat, w'.cell? ⟨Q + 1, o, none⟩ = (#[.int .u8 (m0 : Int), .int .u8 (m1 : Int), .int .u8 (m2 : Int), .int .u8 (m3 : Int)] : Array Value)[o]?) ∧ Past W w' ∧ Q + 2 ≤ w'.heap.size) ∧ (∀ o : Nat, w'.cell? ⟨X, o, none⟩ = (#[.slice B1 i.g.ins.length d1, .slice B2 i.g.nodes.length d2, .slice B3 i.g.outs.length d3, .slice B4 i.pl.length d4, .slice B5 i.s0.length d5, .slice B6 i.s1.length d6, .slice B7 i.s2.length d7] : Array Value)[o]?) ∧ Past w7 w' ∧ X + 1 ≤ w'.heap.size) (by
      subst hX
      exact ⟨⟨by (exact kKeep), by (exact kKeep), by (exact kKeep), by (exact kKeep), by (exact kKeep)⟩, by (exact kKeep), by (exact kKeep), by (exact kKeep)⟩) ?_
    clear b1 f1 y1 p1 s1
    rintro w8 ⟨⟨b1, f1, y1, p1, s1⟩, x1, pp8, sx⟩
    try rw [hX]
    have HPX : Hid (PB < X) := Lib.hid (by have := RB5.out.lt; have := G7.out.2.2.1; omega)
    have G8 := Lib.hid (G7.out.trans pp8)
    have HX8 := Lib.hid (HX.out.grow pp8)
    have HA8 := Lib.hid (HA5.out.grow G8.out)
    have SM := Lib.hid (sameI_any i i _ _ true w8 HX8.out HA8.out ⟨fun _ => rfl, fun _ => rfl⟩)
    clear hX pp8 HX G7
    go_wp2_with (first | refine wpList_load_box rfl 32 (.tmp 10) rfl X _ rfl x1 Tryz.underlying32 rfl (by kernel_rfl) ?_ | refine wpList_load_box rfl 32 (.tmp 3) rfl Q _ rfl b1 Tryz.underlying32 rfl (by kernel_rfl) ?_)
    refine SM.out.mono ?_
    rintro e w9 ⟨rfl, g⟩
    replace b1 := box_past g b1 (by omega)
    replace f1 := free_past g f1 (by omega)
    replace y1 := box_past g y1 (by omega)
    replace p1 := p1.trans g
    replace s1 := size_past g s1
    replace x1 := box_past g x1 (by omega)
    replace sx := size_past g sx
    have G9 := Lib.hid (G8.out.trans g)
    have HX9 := Lib.hid (HX8.out.grow g)
    have HA9 := Lib.hid (HA8.out.grow g)
    clear g SM G8 HX8 HA8
    go_wp2_with (refine Q8.wpList_append_b rfl (.tmp 48) (.tmp 49) rfl w9.heap.size _ [] rfl (Q8.ownR_lit w9) (Q7.ints (Q7.sealD x)) (some ⟨PB, 0, none⟩) n4 n4 rfl (NB5.out _ (G9.out.trans ((Past.refl w9).alloc _))) HLEN.out (by rw [World.size_alloc]; omega) ?_)
    intro v10 w10 own10 gr10
    have g10 : Past w9 w10 := ((Past.refl w9).alloc _).grownBy gr10 (fun j hj => (Q8.ownR_lit w9).lt hj)
    have S10 : w9.heap.size ≤ w10.heap.size := g10.2.2.1
    have N1 := Q8.nums_new' w10 [0] (by simp) (by intro c hc; simp at hc; omega) (by unfold maxLen; decide)
    have HL2 : Hid ((Q7.ints (Q7.sealD x)).length + ([0] : List Int).length ≤ 1000000) := Lib.hid (by rw [Q7.ints_len, SLH.out]; simp; omega)
    have O10 := Lib.hid own10
    have N1H := Lib.hid N1
    clear own10 gr10 N1
    go_wp2_with (refine Q8.wpList_append_b rfl (.tmp 50) (.tmp 51) rfl w9.heap.size _ (Q7.ints (Q7.sealD x)) rfl (O10.out.alloc _) [0] (some ⟨w10.heap.size, 0, none⟩) 1 1 rfl N1H.out HL2.out (by rw [World.size_alloc]; omega) ?_)
    intro v11 w11 own11 gr11
    have g11 : Past w9 w11 := (g10.alloc _).grownBy gr11 (fun j hj => O10.out.lt hj)
    have e11 : Q7.ints (Q7.sealD x) ++ [0] = Q7.ints (Q7.sealD x ++ [0]) := by unfold Q7.ints; rw [List.map_append]; rfl
    rw [e11] at own11
    have SB1 : Q7.Bytes (Q7.sealD x ++ [0]) := fun c hc => by
      rcases List.mem_append.1 hc with h | h
      · exact SB.out c h
      · simp at h; omega
    have NV := own11.nums (ints_bytes SB1)
    obtain ⟨Av, cv, rfl, _, _⟩ := own_slice' own11
    have TKC := Lib.hid (itake_any (Q7.sealD x ++ [0]) _ w11 NV SB1 (by rw [List.length_append, SLH.out]; simp; omega))
    unfold TakeI at TKC
    replace b1 := box_past g11 b1 (by omega)
    replace f1 := free_past g11 f1 (by omega)
    replace y1 := box_past g11 y1 (by omega)
    replace p1 := p1.trans g11
    replace s1 := size_past g11 s1
    replace x1 := box_past g11 x1 (by omega)
    replace sx := size_past g11 sx
    have G11 := Lib.hid (G9.out.trans g11)
    have HX11 := Lib.hid (HX9.out.grow g11)
    have HA11 := Lib.hid (HA9.out.grow g11)
    clear own11 gr11 NV g11 g10 O10 N1H S10 e11 SB1 G9 HX9 HA9 HL2
    go_wp2_with fail
    refine TKC.out.mono ?_
    rintro e w13 (⟨tk, _⟩ | ⟨_, rfl, g⟩)
    case inl => exact absurd tk NM.out
    replace b1 := box_past g b1 (by omega)
    replace f1 := free_past g f1 (by omega)
    replace y1 := box_past g y1 (by omega)
    replace p1 := p1.trans g
    replace s1 := size_past g s1
    replace x1 := box_past g x1 (by omega)
    replace sx := size_past g sx
    have G13 := Lib.hid (G11.out.trans g)
    have HX13 := Lib.hid (HX11.out.grow g)
    have HA13 := Lib.hid (HA11.out.grow g)
    clear g TKC G11 HX11 HA11 NM
    go_upto_region 9 with fail
    refine opq (fun w' => ((∀ o : Nat, w'.cell? ⟨Q, o, none⟩ = (#[.slice A1 i.g.ins.length c1, .slice A2 i.g.nodes.length c2, .slice A3 i.g.outs.length c3, .slice A4 i.pl.length c4, .slice A5 i.s0.length c5, .slice A6 i.s1.length c6, .slice A7 i.s2.length c7] : Array Value)[o]?) ∧ (∀ o : Nat, w'.frozen? ⟨Q, o, none⟩ = false) ∧ (∀ o : Nat, w'.cell? ⟨Q + 1, o, none⟩ = (#[.int .u8 (m0 : Int), .int .u8 (m1 : Int), .int .u8 (m2 : Int), .int .u8 (m3 : Int)] : Array Value)[o]?) ∧ Past W w' ∧ Q + 2 ≤ w'.heap.size) ∧ (∀ o : Nat, w'.cell? ⟨X, o, none⟩ = (#[.slice B1 i.g.ins.length d1, .slice B2 i.g.nodes.length d2, .slice B3 i.g.outs.length d3, .slice B4 i.pl.length d4, .slice B5 i.s0.length d5, .slice B6 i.s1.length d6, .slice B7 i.s2.length d7] : Array Value)[o]?) ∧ X + 1 ≤ w'.heap.size ∧ Past w13 w') (by
      exact ⟨⟨by (exact kKeep), by (exact kKeep), by (exact kKeep), by (exact kKeep), by (exact kKeep)⟩, by (exact kKeep), by (exact kKeep), by (exact kKeep)⟩) ?_
    clear b1 f1 y1 p1 s1 x1 sx
    rintro w12 ⟨⟨b1, f1, y1, p1, s1⟩, x1, sx, pp12⟩
    have G12 := Lib.hid (G13.out.trans pp12)
    obtain ⟨_, _, _, _, _, _, _, _, _, _, _, _, _, _, e9, _, _, jx0, jx1, jx2⟩ := (HX13.out.grow pp12).form
    obtain ⟨_, _, _, _, _, _, _, _, _, _, _, _, _, _, e8, _, _, jm0, jm1, jm2⟩ := (HA13.out.grow pp12).form
    simp only [Value.agg.injEq, Array.mk.injEq, List.cons.injEq, Value.slice.injEq, true_and, and_true] at e9 e8
    obtain ⟨⟨rfl, rfl⟩, ⟨rfl, rfl⟩, ⟨rfl, rfl⟩, ⟨rfl, rfl⟩, ⟨rfl, rfl⟩, ⟨rfl, rfl⟩, rfl, rfl⟩ := e9
    obtain ⟨⟨rfl, rfl⟩, ⟨rfl, rfl⟩, ⟨rfl, rfl⟩, ⟨rfl, rfl⟩, ⟨rfl, rfl⟩, ⟨rfl, rfl⟩, rfl, rfl⟩ := e8
    have JX0 := Lib.hid jx0
    have JX1 := Lib.hid jx1
    have JX2 := Lib.hid jx2
    have JM0 := Lib.hid jm0
    have JM1 := Lib.hid jm1
    have JM2 := Lib.hid jm2
    clear jx0 jx1 jx2 jm0 jm1 jm2 pp12 G13 HX13 HA13
    go_wp2_with fail
    go_loopw [6, 15, 16] (fun s j _ wr => (j = .int .i64 0 ∧ s = .bool false ∧ Hid (Past w12 wr)) ∨ (j = .int .i64 1 ∧ s = .bool false ∧ Hid (Past w12 wr)) ∨ (j = .int .i64 2 ∧ s = .bool false ∧ Hid (Past w12 wr)) ∨ (j = .int .i64 3 ∧ s = .bool false ∧ Hid (Past w12 wr))) (fun _ j _ _ => 3 - (intOf j).toNat)
    case atStart => exact .inl ⟨rfl, rfl, Lib.hid (Past.refl _)⟩
    case round =>
      rcases hrel with ⟨rfl, rfl, WT⟩ | ⟨rfl, rfl, WT⟩ | ⟨rfl, rfl, WT⟩ | ⟨rfl, rfl, WT⟩
      all_goals
        have x8r := box_past WT.out x1 (by omega)
        have b1r := box_past WT.out b1 (by omega)
        have sxr := size_past WT.out sx
        have sqr := size_past WT.out s1
      · have SM0 := fun w (p : Past w12 w) => Q8.same_any _ _ i.s0 i.s0 w (JX0.out.grow p) (JM0.out.grow p)
        have SM : Hid (∀ w, Past w12 w → Calls Tryz.prog 12 #[.slice B5 i.s0.length d5, .slice A5 i.s0.length c5] w fun e w' => e = .returned (.bool true) ∧ Past w w') := Lib.hid (fun w p => (SM0 w p).mono (by
          rintro e w' ⟨rfl, q⟩
          exact ⟨by simp, q⟩))
        clear SM0
        go_upto_region 12 with fail
        refine wp_region_fill (fun w' => (∀ o : Nat, w'.cell? ⟨X, o, none⟩ = (#[.slice B1 i.g.ins.length d1, .slice B2 i.g.nodes.length d2, .slice B3 i.g.outs.length d3, .slice B4 i.pl.length d4, .slice B5 i.s0.length d5, .slice B6 i.s1.length d6, .slice B7 i.s2.length d7] : Array Value)[o]?) ∧ (∀ o : Nat, w'.cell? ⟨Q, o, none⟩ = (#[.slice A1 i.g.ins.length c1, .slice A2 i.g.nodes.length c2, .slice A3 i.g.outs.length c3, .slice A4 i.pl.length c4, .slice A5 i.s0.length c5, .slice A6 i.s1.length c6, .slice A7 i.s2.length c7] : Array Value)[o]?) ∧ Past w12 w' ∧ X + 1 ≤ w'.heap.size ∧ Q + 2 ≤ w'.heap.size) [(60, ?va060), (61, ?va061), (62, ?va062), (63, ?va063), (64, ?va064), (65, ?va065), (66, ?va066), (67, ?va067), (68, ?va068), (16, ?va016)] [60, 61, 62, 63, 64, 65, 66, 67, 68, 16] (by kernel_rfl) (by kernel_rfl) rfl (by kernel_rfl) ⟨x8r, b1r, WT.out, sxr, sqr⟩ (fun w h => h) ?alla0 ?fina0
        case alla0 =>
          simp only [fillA, Act.put, List.setIfInBounds_toArray, List.set_cons_zero, List.set_cons_succ]
          iterate 8 (refine owes_cons (fun w hw K hK => ?_) ?_; focus ((have hS := Lib.hid hw); go_split_ands; go_simp; (try simp only [Act.put, List.setIfInBounds_toArray, List.set_cons_zero, List.set_cons_succ]); exact hK _ hS.out))
          refine owes_cons (fun w hw K hK => ?_) ?_
          focus
            have hS := Lib.hid hw
            go_split_ands
            go_simp
            go_at_call 12
            with_reducible refine (SM.out _ (by assumption)).mono ?_
            rintro e w1 ⟨rfl, g1⟩
            refine hK _ ?_
            (exact kKeep)
          iterate 1 (refine owes_cons (fun w hw K hK => ?_) ?_; focus ((have hS := Lib.hid hw); go_split_ands; go_simp; (try simp only [Act.put, List.setIfInBounds_toArray, List.set_cons_zero, List.set_cons_succ]); exact hK _ hS.out))
          exact True.intro
        case fina0 =>
          rintro wz ⟨_, _, pz, _, _⟩
          simp only [fillA, Act.put, List.setIfInBounds_toArray, List.set_cons_zero, List.set_cons_succ]
          clear SM x8r b1r WT sxr sqr
          go_wp2_with fail
          go_roundw
          case rel => exact .inr (.inl ⟨rfl, rfl, Lib.hid pz⟩)
          case measure => simp [intOf]
      · have SM0 := fun w (p : Past w12 w) => Q8.same_any _ _ i.s1 i.s1 w (JX1.out.grow p) (JM1.out.grow p)
        have SM : Hid (∀ w, Past w12 w → Calls Tryz.prog 12 #[.slice B6 i.s1.length d6, .slice A6 i.s1.length c6] w fun e w' => e = .returned (.bool true) ∧ Past w w') := Lib.hid (fun w p => (SM0 w p).mono (by
          rintro e w' ⟨rfl, q⟩
          exact ⟨by simp, q⟩))
        clear SM0
        go_upto_region 12 with fail
        refine wp_region_fill (fun w' => (∀ o : Nat, w'.cell? ⟨X, o, none⟩ = (#[.slice B1 i.g.ins.length d1, .slice B2 i.g.nodes.length d2, .slice B3 i.g.outs.length d3, .slice B4 i.pl.length d4, .slice B5 i.s0.length d5, .slice B6 i.s1.length d6, .slice B7 i.s2.length d7] : Array Value)[o]?) ∧ (∀ o : Nat, w'.cell? ⟨Q, o, none⟩ = (#[.slice A1 i.g.ins.length c1, .slice A2 i.g.nodes.length c2, .slice A3 i.g.outs.length c3, .slice A4 i.pl.length c4, .slice A5 i.s0.length c5, .slice A6 i.s1.length c6, .slice A7 i.s2.length c7] : Array Value)[o]?) ∧ Past w12 w' ∧ X + 1 ≤ w'.heap.size ∧ Q + 2 ≤ w'.heap.size) [(60, ?va160), (61, ?va161), (62, ?va162), (63, ?va163), (64, ?va164), (65, ?va165), (66, ?va166), (67, ?va167), (68, ?va168), (16, ?va116)] [60, 61, 62, 63, 64, 65, 66, 67, 68, 16] (by kernel_rfl) (by kernel_rfl) rfl (by kernel_rfl) ⟨x8r, b1r, WT.out, sxr, sqr⟩ (fun w h => h) ?alla1 ?fina1
        case alla1 =>
          simp only [fillA, Act.put, List.setIfInBounds_toArray, List.set_cons_zero, List.set_cons_succ]
          iterate 8 (refine owes_cons (fun w hw K hK => ?_) ?_; focus ((have hS := Lib.hid hw); go_split_ands; go_simp; (try simp only [Act.put, List.setIfInBounds_toArray, List.set_cons_zero, List.set_cons_succ]); exact hK _ hS.out))
          refine owes_cons (fun w hw K hK => ?_) ?_
          focus
            have hS := Lib.hid hw
            go_split_ands
            go_simp
            go_at_call 12
            with_reducible refine (SM.out _ (by assumption)).mono ?_
            rintro e w1 ⟨rfl, g1⟩
            refine hK _ ?_
            (exact kKeep)
          iterate 1 (refine owes_cons (fun w hw K hK => ?_) ?_; focus ((have hS := Lib.hid hw); go_split_ands; go_simp; (try simp only [Act.put, List.setIfInBounds_toArray, List.set_cons_zero, List.set_cons_succ]); exact hK _ hS.out))
          exact True.intro
        case fina1 =>
          rintro wz ⟨_, _, pz, _, _⟩
          simp only [fillA, Act.put, List.setIfInBounds_toArray, List.set_cons_zero, List.set_cons_succ]
          clear SM x8r b1r WT sxr sqr
          go_wp2_with fail
          go_roundw
          case rel => exact .inr (.inr (.inl ⟨rfl, rfl, Lib.hid pz⟩))
          case measure => simp [intOf]
      · have SM0 := fun w (p : Past w12 w) => Q8.same_any _ _ i.s2 i.s2 w (JX2.out.grow p) (JM2.out.grow p)
        have SM : Hid (∀ w, Past w12 w → Calls Tryz.prog 12 #[.slice B7 i.s2.length d7, .slice A7 i.s2.length c7] w fun e w' => e = .returned (.bool true) ∧ Past w w') := Lib.hid (fun w p => (SM0 w p).mono (by
          rintro e w' ⟨rfl, q⟩
          exact ⟨by simp, q⟩))
        clear SM0
        go_upto_region 12 with fail
        refine wp_region_fill (fun w' => (∀ o : Nat, w'.cell? ⟨X, o, none⟩ = (#[.slice B1 i.g.ins.length d1, .slice B2 i.g.nodes.length d2, .slice B3 i.g.outs.length d3, .slice B4 i.pl.length d4, .slice B5 i.s0.length d5, .slice B6 i.s1.length d6, .slice B7 i.s2.length d7] : Array Value)[o]?) ∧ (∀ o : Nat, w'.cell? ⟨Q, o, none⟩ = (#[.slice A1 i.g.ins.length c1, .slice A2 i.g.nodes.length c2, .slice A3 i.g.outs.length c3, .slice A4 i.pl.length c4, .slice A5 i.s0.length c5, .slice A6 i.s1.length c6, .slice A7 i.s2.length c7] : Array Value)[o]?) ∧ Past w12 w' ∧ X + 1 ≤ w'.heap.size ∧ Q + 2 ≤ w'.heap.size) [(60, ?va260), (61, ?va261), (62, ?va262), (63, ?va263), (64, ?va264), (65, ?va265), (66, ?va266), (67, ?va267), (68, ?va268), (16, ?va216)] [60, 61, 62, 63, 64, 65, 66, 67, 68, 16] (by kernel_rfl) (by kernel_rfl) rfl (by kernel_rfl) ⟨x8r, b1r, WT.out, sxr, sqr⟩ (fun w h => h) ?alla2 ?fina2
        case alla2 =>
          simp only [fillA, Act.put, List.setIfInBounds_toArray, List.set_cons_zero, List.set_cons_succ]
          iterate 8 (refine owes_cons (fun w hw K hK => ?_) ?_; focus ((have hS := Lib.hid hw); go_split_ands; go_simp; (try simp only [Act.put, List.setIfInBounds_toArray, List.set_cons_zero, List.set_cons_succ]); exact hK _ hS.out))
          refine owes_cons (fun w hw K hK => ?_) ?_
          focus
            have hS := Lib.hid hw
            go_split_ands
            go_simp
            go_at_call 12
            with_reducible refine (SM.out _ (by assumption)).mono ?_
            rintro e w1 ⟨rfl, g1⟩
            refine hK _ ?_
            (exact kKeep)
          iterate 1 (refine owes_cons (fun w hw K hK => ?_) ?_; focus ((have hS := Lib.hid hw); go_split_ands; go_simp; (try simp only [Act.put, List.setIfInBounds_toArray, List.set_cons_zero, List.set_cons_succ]); exact hK _ hS.out))
          exact True.intro
        case fina2 =>
          rintro wz ⟨_, _, pz, _, _⟩
          simp only [fillA, Act.put, List.setIfInBounds_toArray, List.set_cons_zero, List.set_cons_succ]
          clear SM x8r b1r WT sxr sqr
          go_wp2_with fail
          go_roundw
          case rel => exact .inr (.inr (.inr ⟨rfl, rfl, Lib.hid pz⟩))
          case measure => simp [intOf]
      · have PWr := Lib.hid (P4.out.trans (G45.out.trans (G12.out.trans WT.out)))
        have P4r := Lib.hid (G45.out.trans (G12.out.trans WT.out))
        have RBr := Lib.hid (RB5.out.past (G12.out.trans WT.out))
        clear x8r b1r sxr x1 sx b1 f1 y1 p1 s1 JX0 JX1 JX2 JM0 JM1 JM2 G12 NB5 HLEN RB5 WT sqr G45
        by_cases o1 : pz < 0
        · go_wp2_with fail
          go_ret
          exact ⟨rfl, PWr.out⟩
        by_cases o2 : (n4 : Int) ≤ pz
        · go_wp2_with fail
          go_ret
          exact ⟨rfl, PWr.out⟩
        obtain ⟨p, rfl⟩ : ∃ p : Nat, pz = (p : Int) := ⟨pz.toNat, by omega⟩
        have hp : p < n4 := by omega
        clear o1 o2 pz0
        have tp1 : decide (((p : Nat) : Int) < 0) = false := by simp
        have tp2 : decide ((n4 : Int) ≤ ((p : Nat) : Int)) = false := by simp; omega
        have tp3 : decide (n4 ≤ p) = false := by simp; omega
        go_wp2_with fail
        go_loopw [17, 18] (fun tv i wr => ∃ k : Nat, k ≤ 4 ∧ p + k ≤ n4 ∧ i = .int .i64 (k : Int) ∧ tv = .bool (Q7.anyN BL k) ∧ Hid (Q7.Row wr PB (Q7.turnAt (Q7.sealD x) p BL k)) ∧ Hid (Past w4 wr)) (fun _ i _ => 4 - (intOf i).toNat)
        case atStart => exact ⟨0, by omega, by omega, rfl, rfl, RBr, P4r⟩
        case round =>
          obtain ⟨k, hk, hpk, rfl, rfl, rr, pp⟩ := hrel
          by_cases c1 : k < 4 ∧ p + k < n4
          · obtain ⟨c1, c2⟩ := c1
            have hr := rr.out
            have hlen : p + k < (Q7.turnAt (Q7.sealD x) p BL k).length := by rw [Q7.turnAt_len, SLH.out]; omega
            have cc := hr.cell hlen
            have cf := hr.free (p + k)
            have cd : wr.cell? ⟨Q + 1, k, none⟩ = some (.int .u8 ((BL.getD k 0 : Nat) : Int)) := (pp.out.cell (p := ⟨Q + 1, k, none⟩) QQ.out).trans (BX.out k c1)
            have bc := (Q7.turnAt_B p k SB.out GB.out).at (p + k)
            have bd := GB.out.at k
            have e1 := Q7.xor8 bc bd
            have EE : Hid (Q7.turnAt (Q7.sealD x) p BL (k + 1) = (Q7.turnAt (Q7.sealD x) p BL k).set (p + k) ((Q7.turnAt (Q7.sealD x) p BL k).getD (p + k) 0 ^^^ BL.getD k 0)) := Lib.hid rfl
            obtain ⟨c, hc⟩ : ∃ c, (Q7.turnAt (Q7.sealD x) p BL k).getD (p + k) 0 = c := ⟨_, rfl⟩
            obtain ⟨d, hd⟩ : ∃ d, BL.getD k 0 = d := ⟨_, rfl⟩
            rw [hc, hd] at e1 EE
            rw [hc] at cc
            rw [hd] at cd bd
            have DD := Lib.hid hd
            obtain ⟨e, he⟩ : ∃ e, c ^^^ d = e := ⟨_, rfl⟩
            rw [he] at e1 EE
            clear hc hd he bc hlen
            have tpk : decide (((p : Nat) : Int) + ((k : Nat) : Int) < (n4 : Int)) = true := by simp; omega
            have tpk2 : decide (p + k < n4) = true := by simp; omega
            have ewk : IntKind.i64.wrap (((p : Nat) : Int) + ((k : Nat) : Int)) = ((p : Nat) : Int) + ((k : Nat) : Int) := IntWalk.i64_in _ (by omega)
            have tb1 : (0 : Int) ≤ ((p : Nat) : Int) + ((k : Nat) : Int) := by omega
            have tb2 : ((p : Nat) : Int) + ((k : Nat) : Int) < (n4 : Int) := by omega
            have tb3 : (((p : Nat) : Int) + ((k : Nat) : Int)).toNat = p + k := by omega
            have tb4 : ((k : Nat) : Int) < 4 := by omega
            go_upto_region 23 with fail
            refine wp_region_lastn 15 _ rfl (by kernel_rfl) (by kernel_rfl) ?zs
            case zs =>
              simp only [List.take_succ_cons, List.take_zero]
              refine any_fill (fun w' => w'.cell? ⟨PB, p + k, none⟩ = some (.int .u8 (c : Int)) ∧ w'.cell? ⟨Q + 1, k, none⟩ = some (.int .u8 (d : Int)) ∧ w'.frozen? ⟨PB, p + k, none⟩ = false ∧ Q7.Row w' PB (Q7.turnAt (Q7.sealD x) p BL k) ∧ Past w4 w') [(102, ?vs102), (103, ?vs103), (104, ?vs104), (105, ?vs105), (106, ?vs106), (107, ?vs107), (108, ?vs108), (109, ?vs109), (110, ?vs110), (111, ?vs111), (112, ?vs112), (113, ?vs113), (114, ?vs114), (115, ?vs115), (116, ?vs116)] [102, 103, 104, 105, 106, 107, 108, 109, 110, 111, 112, 113, 114, 115, 116] (by kernel_rfl) rfl (by kernel_rfl) ⟨cc, cd, cf, hr, pp.out⟩ (fun w h => h) ?alls ?fins
              case alls =>
                simp only [fillA, Act.put, List.setIfInBounds_toArray, List.set_cons_zero, List.set_cons_succ]
                iterate 15 (refine owes_cons (fun w hw K hK => ?_) ?_; focus ((have hS := Lib.hid hw); go_split_ands; go_simp; (try simp only [Act.put, List.setIfInBounds_toArray, List.set_cons_zero, List.set_cons_succ]); exact hK _ hS.out))
                exact True.intro
              case fins =>
                intro w6 hS6
                have h1 := hS6.1
                have h2' := hS6.2.1
                have h3' := hS6.2.2.1
                have h4' := hS6.2.2.2.1
                have h5' := hS6.2.2.2.2
                clear hS6
                refine then_normal ?_
                simp only [fillA, Act.put, List.setIfInBounds_toArray, List.set_cons_zero, List.set_cons_succ]
                have R9 := Lib.hid (h4'.set (p + k) e)
                rw [← EE.out] at R9
                have PX9 : Hid (Past w4 (w6.setCell ⟨PB, p + k, none⟩ (.int .u8 (e : Int)))) := Lib.hid (h5'.setCell (by have := HPB.out; exact this) _)
                have CX9 : (w6.setCell ⟨PB, p + k, none⟩ (.int .u8 (e : Int))).cell? ⟨Q + 1, k, none⟩ = some (.int .u8 (d : Int)) := cell_set h2' (by have := HPB.out; have := QQ.out; dsimp only; omega)
                have PL : PB < w6.heap.size := h4'.lt
                clear h2' h4' h5'
                go_simp
                obtain ⟨w7, hw7⟩ : ∃ x, w6.setCell ⟨PB, p + k, none⟩ (.int .u8 (e : Int)) = x := ⟨_, rfl⟩
                rw [hw7] at R9 PX9 CX9 ⊢
                clear hw7 h1 h3' PL
                by_cases tk : Q7.anyN BL k = true
                · have tk1 : Q7.anyN BL (k + 1) = true := by simp [Q7.anyN, tk]
                  have TK1 := Lib.hid tk1
                  rw [tk]
                  clear tk tk1
                  go_wp2_with fail
                  exact ⟨⟨k + 1, by omega, by omega, by simp, by rw [TK1.out], R9, PX9⟩, by simp [intOf]; omega⟩
                · have tf : Q7.anyN BL k = false := by simpa using tk
                  have tk1 : Q7.anyN BL (k + 1) = (((d : Nat) : Int) != 0) := by
                    show (Q7.anyN BL k || (((BL.getD k 0 : Nat) : Int) != 0)) = _
                    rw [tf, DD.out, Bool.false_or]
                  have TK1 := Lib.hid tk1
                  rw [tf]
                  clear tk tf tk1
                  go_wp2_with fail
                  exact ⟨⟨k + 1, by omega, by omega, by simp, by rw [TK1.out], R9, PX9⟩, by simp [intOf]; omega⟩
          · have M : Hid (p + k ≤ (Q7.sealD x).length) := Lib.hid (by rw [SLH.out]; omega)
            have NB := Lib.hid (Q7.turnAt_B p k SB.out GB.out)
            have TL : (Q7.turnAt (Q7.sealD x) p BL k).length = n4 := by rw [Q7.turnAt_len, SLH.out]
            have TO := Q7.turned_told x XBH.out p k BL GB.out hk M.out
            have NS := Lib.hid (rr.out.nums NB.out (by rw [TL]; unfold maxLen; omega))
            rw [TL] at NS
            have EQ : Q7.anyN BL k = false → Q7.turnAt (Q7.sealD x) p BL k = Q7.sealD x := fun h => Q7.turn_same h
            obtain ⟨L, hL⟩ : ∃ L, Q7.turnAt (Q7.sealD x) p BL k = L := ⟨_, rfl⟩
            rw [hL] at NB TL TO NS EQ
            have TKC := Lib.hid (itake_any L _ wr NS.out NB.out (by omega))
            unfold TakeI at TKC
            have PW : Hid (Past W wr) := Lib.hid (P4.out.trans pp.out)
            clear hL M rr NS
            obtain ⟨tt, htt⟩ : ∃ t, Q7.anyN BL k = t := ⟨_, rfl⟩
            rw [htt] at TO EQ ⊢
            clear htt
            cases tt with
            | true =>
              have NT := Lib.hid (not_turned (l := L) (by simpa using TO))
              clear TO EQ
              by_cases k4 : k = 4
              · subst k4
                go_wp2_with fail
                refine TKC.out.mono ?_
                rintro e w9 (⟨tk, _⟩ | ⟨_, rfl, g⟩)
                case inl => exact absurd tk NT.out
                have P9 := Lib.hid (PW.out.trans g)
                clear g TKC
                go_wp2_with fail
                go_ret
                exact ⟨rfl, by first | exact P9.out | exact P9.out.alloc _⟩
              · have tp9 : decide (((p : Nat) : Int) + ((k : Nat) : Int) < (n4 : Int)) = false := by simp; omega
                have tp8 : decide (p + k < n4) = false := by simp; omega
                have tk4 : ((k : Nat) : Int) < 4 := by omega
                go_wp2_with fail
                refine TKC.out.mono ?_
                rintro e w9 (⟨tk, _⟩ | ⟨_, rfl, g⟩)
                case inl => exact absurd tk NT.out
                have P9 := Lib.hid (PW.out.trans g)
                clear g TKC
                go_wp2_with fail
                go_ret
                exact ⟨rfl, by first | exact P9.out | exact P9.out.alloc _⟩
            | false =>
              have YT : Hid (TookI L) := Lib.hid (by rw [EQ rfl]; exact TKH.out)
              clear TO EQ
              by_cases k4 : k = 4
              · subst k4
                go_wp2_with fail
                refine TKC.out.mono ?_
                rintro e w9 (⟨_, xv, rfl, xi, g⟩ | ⟨nt, _, _⟩)
                case inr => exact absurd YT.out nt
                obtain ⟨_, _, _, _, _, _, _, _, _, _, _, _, _, _, rfl, _, _, _, _, _⟩ := xi.form
                clear xi
                have P9 := Lib.hid (PW.out.trans g)
                clear g TKC
                go_wp2_with fail
                go_ret
                exact ⟨rfl, by first | exact P9.out | exact P9.out.alloc _⟩
              · have tp9 : decide (((p : Nat) : Int) + ((k : Nat) : Int) < (n4 : Int)) = false := by simp; omega
                have tp8 : decide (p + k < n4) = false := by simp; omega
                have tk4 : ((k : Nat) : Int) < 4 := by omega
                go_wp2_with fail
                refine TKC.out.mono ?_
                rintro e w9 (⟨_, xv, rfl, xi, g⟩ | ⟨nt, _, _⟩)
                case inr => exact absurd YT.out nt
                obtain ⟨_, _, _, _, _, _, _, _, _, _, _, _, _, _, rfl, _, _, _, _, _⟩ := xi.form
                clear xi
                have P9 := Lib.hid (PW.out.trans g)
                clear g TKC
                go_wp2_with fail
                go_ret
                exact ⟨rfl, by first | exact P9.out | exact P9.out.alloc _⟩
  · have ne : (EA != 0) = true := by simpa using e0
    have p9 := p1.trans g
    clear PA
    go_wp2_with fail
    go_ret
    exact ⟨rfl, p9⟩
end Go.Proofs.YtejllmjkeefloaaGreat
