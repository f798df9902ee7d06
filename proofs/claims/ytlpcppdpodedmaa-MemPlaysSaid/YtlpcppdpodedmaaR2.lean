/- The reference of layer 11: Read. -/
import Derived.Test.YtlpcppdpodedmaaR1
import Derived.Deep.QuietTactic
import Derived.BigQuiet
namespace Go.Proofs.Ytlpcppdpodedmaa
open Go.ChangeShapes Go.WideShapes Go.ChangeAt Go.RowKit
set_option maxRecDepth 20000
set_option linter.unusedVariables false
/-- One put covers a place, or leaves it. -/
def stepP (i : Nat) (x : Int) (p : PutD) : Int := if p.a ≤ i ∧ i < p.a + p.l.length then p.l.getD (i - p.a) 0 else x
/-- What was put last. -/
def valP (ps : List PutD) (i : Nat) : Int := ps.foldl (stepP i) 0
theorem valP_next {ps : List PutD} {k i : Nat} {p : PutD} (h : ps[k]? = some p) : valP (ps.take (k + 1)) i = stepP i (valP (ps.take k) i) p := by
  unfold valP
  rw [List.take_add_one, h, List.foldl_append]
  rfl
theorem valP_push (ps : List PutD) (p : PutD) (i : Nat) : valP (ps ++ [p]) i = stepP i (valP ps i) p := by
  unfold valP
  rw [List.foldl_append]
  rfl
def rdL (ps : List PutD) (i j : Nat) : List Int := (List.range j).map (fun t => valP ps (i + t))
theorem rdL_succ (ps : List PutD) (i j : Nat) : rdL ps i (j + 1) = rdL ps i j ++ [valP ps (i + j)] := by
  unfold rdL
  rw [List.range_succ, List.map_append]
  rfl
theorem rdL_len (ps : List PutD) (i j : Nat) : (rdL ps i j).length = j := by simp [rdL]
theorem stepP_wf {i : Nat} {x : Int} {p : PutD} (h : (Lit.int .i8 x).wf = true) (hp : Wf8 p.l) : (Lit.int .i8 (stepP i x p)).wf = true := by
  unfold stepP
  split
  · exact wf8_at hp _
  · exact h
theorem valP_wf {ps : List PutD} (h : ∀ p ∈ ps, Wf8 p.l) (i : Nat) : (Lit.int .i8 (valP ps i)).wf = true := by
  unfold valP
  suffices ∀ (x : Int), (Lit.int .i8 x).wf = true → (Lit.int .i8 (ps.foldl (stepP i) x)).wf = true from this 0 rfl
  induction ps with
  | nil => exact fun x hx => hx
  | cons p ps ih => exact fun x hx => ih (fun q hq => h q (List.mem_cons_of_mem _ hq)) _ (stepP_wf hx (h p (List.mem_cons_self ..)))
theorem rdL_wf {ps : List PutD} (h : ∀ p ∈ ps, Wf8 p.l) (i j : Nat) : Wf8 (rdL ps i j) := by
  intro x hx
  obtain ⟨t, _, rfl⟩ := List.mem_map.1 hx
  exact valP_wf h _
theorem RefAt.wf {w : World} {Y N : Nat} {X : List Nat} {ps : List PutD} (h : RefAt w Y X N ps) : ∀ p ∈ ps, Wf8 p.l := by
  obtain ⟨A, cap, c1, hp⟩ := h.row
  exact fun p hpm => nums_wf (hp.nums p hpm).1
theorem rread_no (w : World) (Y N : Nat) (X : List Nat) (ps : List PutD) (h : RefAt w Y X N ps) (a k : Int) (c : okM N a k = false) :
    Calls Try.prog 16 #[.pointer (some ⟨Y, 0, none⟩), .int .i64 a, .int .i64 k] w fun e w' => e = .returned (.tuple #[.slice none 0 0, .int .i64 23]) ∧ w = w' := by
  go_enter Try.func16, Try.ntmps16
  go_wp2_with (go_at_call 19; refine (rthere_any _ _ _ _ _ h _ _).mono ?_; rintro e w0 ⟨rfl, rfl⟩; simp only [c])
  go_ret2
  exact ⟨rfl, rfl⟩
set_option maxHeartbeats 8000000 in
theorem rread_ok (w : World) (Y N : Nat) (X : List Nat) (ps : List PutD) (h : RefAt w Y X N ps) (i j : Nat) (hij : i + j ≤ N) :
    Calls Try.prog 16 #[.pointer (some ⟨Y, 0, none⟩), .int .i64 i, .int .i64 j] w fun e w' => ∃ A cap, e = .returned (.tuple #[.slice A j cap, .int .i64 0]) ∧ IsNums .i8 w' (.slice A j cap) (rdL ps i j) ∧ Past w w' := by
  have H := Lib.hid h
  have hm := h.most
  have ok := okM_iff.2 ⟨i, j, rfl, rfl, hij⟩
  have wN : wrap64 ((i : Int) + (j : Int)) = (i : Int) + (j : Int) := by simp only [wrap64]; omega
  have HI := Lib.hid (And.intro hij hm)
  clear h hm
  go_enter Try.func16, Try.ntmps16
  go_upto_region 3 with (go_at_call 19; refine (rthere_any _ _ _ _ _ H.out _ _).mono ?_; rintro e w0 ⟨rfl, rfl⟩; simp only [ok])
  have O0 := Lib.hid (own8_lit w)
  have P0 := Lib.hid ((Past.refl w).alloc (.cells #[] 38))
  go_wp2_with fail
  go_loopw [8, 9, 10, 11] (fun v x9 x10 x11 wr => ∃ (t : Nat) (vo : Value), t ≤ j ∧ x9 = .int .i64 ((i + t : Nat) : Int) ∧ vo = v ∧ Hid (Own8 wr w.heap.size vo (rdL ps i t)) ∧ Hid (Past w wr)) (fun _ x _ _ _ => i + j - (intOf x).toNat)
  case atStart => exact ⟨0, _, by omega, rfl, rfl, O0, P0⟩
  case round =>
    clear O0 P0
    obtain ⟨t, vo, ht, rfl, rfl, HO, HP⟩ := hrel
    obtain ⟨z, hz⟩ : ∃ z, z = i + t := ⟨_, rfl⟩
    rw [← hz]
    have i1 : (0 : Int) ≤ (z : Int) := by omega
    by_cases c : t < j
    · have d1 : decide ((z : Int) < (i : Int) + (j : Int)) = true := by simp; omega
      obtain ⟨wo, hwo⟩ : ∃ wo, wo = wr := ⟨_, rfl⟩
      subst hwo
      have ZZ := Lib.hid hz
      have hz1 : z ≤ 65536 := by have := HI.out; omega
      clear hz
      go_wp2_with fail
      clear wN
      go_loopw [10, 11] (fun x10 x11 wr => ∃ k : Nat, k ≤ ps.length ∧ x11 = .int .i64 k ∧ x10 = .int .i8 (valP (ps.take k) z) ∧ Hid (Past wo wr)) (fun _ x _ => ps.length - (intOf x).toNat)
      case atStart => exact ⟨0, by omega, rfl, rfl, Lib.hid (Past.refl _)⟩
      case round =>
        obtain ⟨k, hk, rfl, rfl, HQ⟩ := hrel
        have P2 := Lib.hid (HP.out.trans HQ.out)
        have RR := Lib.hid (H.out.grow P2.out)
        obtain ⟨A, cap, y1, hp⟩ := RR.out.row
        have k1 : (0 : Int) ≤ (k : Int) := by omega
        have hfew := H.out.few
        by_cases ck : k < ps.length
        · have dk : decide ((k : Int) < (ps.length : Int)) = true := by simp; omega
          have k2 : (k : Int) < (ps.length : Int) := by omega
          obtain ⟨g, rfl, g1, g2, g3⟩ := hp.row (by omega)
          obtain ⟨p, hpk⟩ : ∃ p, ps[k]? = some p := ⟨_, List.getElem?_eq_getElem ck⟩
          have VN := Lib.hid (valP_next (i := z) hpk)
          have hpm := List.mem_of_getElem? hpk
          obtain ⟨n1, n2⟩ := hp.nums p hpm
          have inN := RR.out.inN p hpm
          obtain ⟨c1, c2⟩ := cellsP_at ps k p hpk
          have x1 := g3 _ _ c1
          have x2 := g3 _ _ c2
          obtain ⟨pa, pv, pl⟩ := p
          simp only at n1 x1 x2 inN
          have N1 := Lib.hid n1
          obtain ⟨C, cc, rfl, s2, s3, _⟩ := nums_form n1
          have hN := RR.out.most
          have wP := Lib.hid (show IntKind.i64.wrap ((pa : Int) + (pl.length : Int)) = (pa : Int) + (pl.length : Int) by rw [IntKind.wrap_i64]; omega)
          obtain ⟨V, hV⟩ : ∃ V, valP (ps.take k) z = V := ⟨_, rfl⟩
          rw [hV] at VN ⊢
          have KK := Lib.hid ck
          clear n1 n2 hp g1 g2 g3 c1 c2 hpk hpm hV s2 s3 RR
          by_cases e1 : pa ≤ z
          · have d2 : decide ((pa : Int) ≤ (z : Int)) = true := by simp; omega
            by_cases e2 : z < pa + pl.length
            · have d3 : decide ((z : Int) < (pa : Int) + (pl.length : Int)) = true := by simp; omega
              obtain ⟨q, hq⟩ : ∃ q, z = pa + q := ⟨z - pa, by omega⟩
              have wS := Lib.hid (show IntKind.i64.wrap ((z : Int) - (pa : Int)) = (q : Int) by rw [IntKind.wrap_i64]; omega)
              have q1 : (0 : Int) ≤ (q : Int) := by omega
              have q2 : (q : Int) < (pl.length : Int) := by omega
              obtain ⟨C', cc', e, s2, s3, s4, s5, s6⟩ := N1.out
              simp only [Value.slice.injEq] at e
              obtain ⟨rfl, e3, rfl⟩ := e
              obtain ⟨sb, so, rfl, hsb, hsc⟩ := s6 (by omega)
              have y3 := hsc q (by omega)
              have EV := Lib.hid (show stepP z V ⟨pa, .slice (some ⟨sb, so, none⟩) pl.length cc, pl⟩ = pl.getD q 0 by
                unfold stepP
                rw [if_pos ⟨e1, e2⟩]
                congr 1
                simp only
                omega)
              obtain ⟨x, hx⟩ : ∃ x, pl.getD q 0 = x := ⟨_, rfl⟩
              rw [hx] at y3 EV
              clear hx hsc s2 s3 s4 s5 s6 e3 hq
              have wp := wP.out
              go_upto_region 11 with fail
              go_quiet (fail)
              have ws := wS.out
              go_upto_region 12 with fail
              go_quiet (fail)
              clear wp ws
              go_wp2_with fail
              go_roundw
              case rel => exact ⟨k + 1, KK.out, by go_num, by rw [VN.out, EV.out], Lib.hid HQ.out.drewN⟩
              case measure => have := KK.out; simp [intOf]; omega
            · have d3 : decide ((z : Int) < (pa : Int) + (pl.length : Int)) = false := by simp; omega
              have EV := Lib.hid (show stepP z V ⟨pa, .slice C pl.length cc, pl⟩ = V by
                show (if pa ≤ z ∧ z < pa + pl.length then pl.getD (z - pa) 0 else V) = V
                rw [if_neg (by omega)])
              have wp := wP.out
              go_upto_region 11 with fail
              go_quiet (fail)
              clear wp
              go_wp2_with fail
              go_roundw
              case rel => exact ⟨k + 1, KK.out, by go_num, by rw [VN.out, EV.out], Lib.hid HQ.out.drewN⟩
              case measure => have := KK.out; simp [intOf]; omega
          · have d2 : decide ((pa : Int) ≤ (z : Int)) = false := by simp; omega
            have EV := Lib.hid (show stepP z V ⟨pa, .slice C pl.length cc, pl⟩ = V by
              show (if pa ≤ z ∧ z < pa + pl.length then pl.getD (z - pa) 0 else V) = V
              rw [if_neg (by omega)])
            go_upto_region 11 with fail
            go_quiet (fail)
            go_wp2_with fail
            go_roundw
            case rel => exact ⟨k + 1, KK.out, by go_num, by rw [VN.out, EV.out], Lib.hid HQ.out.drewN⟩
            case measure => have := KK.out; simp [intOf]; omega
        · obtain rfl : k = ps.length := by omega
          have dk : decide ((ps.length : Int) < (ps.length : Int)) = false := by simp
          obtain ⟨V, hV⟩ : ∃ V, valP ps z = V := ⟨_, rfl⟩
          have WV : (Lit.int .i8 V).wf = true := by rw [← hV]; exact valP_wf H.out.wf z
          have HV := Lib.hid hV
          rw [List.take_length, hV]
          have OO := Lib.hid ((HO.out.past HQ.out).alloc (.cells #[.int .i8 V] 38))
          have LR := Lib.hid (rdL_len ps i t)
          have BS := Lib.hid P2.out.2.2.1
          have TT := Lib.hid c
          clear hp RR HO hV
          go_wp2_with (at_builtin; refine wpList_append_8 rfl (.tmp 87) (.tmp 89) rfl w.heap.size vo (rdL ps i t) rfl OO.out [V] (some ⟨wr.heap.size, 0, none⟩) 1 1 rfl (nums_1 wr V WV) (by have := HI.out; rw [LR.out, List.length_singleton]; omega) (by have := BS.out; simp; omega) ?_; intro v2 w2 O2 G2; have ON := Lib.hid O2; have P5 := Lib.hid (show Past w w2 from (P2.out.alloc _).grownBy G2 (fun q hq => OO.out.lt hq)); clear O2 G2)
          go_wp2_with fail
          go_roundw
          case rel => exact ⟨t + 1, _, TT.out, (by have := ZZ.out; exact congrArg _ (by omega)), rfl, Lib.hid (by rw [rdL_succ, ← ZZ.out, HV.out]; exact ON.out), P5⟩
          case measure => have := ZZ.out; have := TT.out; simp [intOf]; omega
    · have d1 : decide ((z : Int) < (i : Int) + (j : Int)) = false := by simp; omega
      obtain ⟨A, cap, rfl, _⟩ := HO.out.form
      obtain rfl : t = j := by omega
      have LL := rdL_len ps i t
      rw [LL] at HO ⊢
      go_wp2_with fail
      go_ret2
      exact ⟨A, cap, rfl, HO.out.nums (rdL_wf H.out.wf _ _), HP.out⟩
end Go.Proofs.Ytlpcppdpodedmaa
