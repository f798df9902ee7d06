/- The walk of ModelOnce. -/
import Derived.Test.YtbfdoonlohijiaaN25
import Derived.Deep.DeepCutAuto
namespace Go.Proofs.Ytbfdoonlohijiaa
open Go.ChangeShapes Go.WideShapes Go.ChangeAt Go.RowKit
set_option maxRecDepth 20000
set_option linter.unusedVariables false

/-- Behind Take: the rest of ModelOnce, from a world in which the bytes stand that were taken. -/
theorem put_slice0 {w : World} {g : GraphD} {base : Nat} {v : Value} (ob : OwnB w base v (graphB g)) {L : Nat} (hL : (graphB g).length = L) : ∃ b off c, v = .slice (some ⟨b, off, none⟩) L c ∧ b < w.heap.size ∧ L ≤ c ∧ c ≤ maxLen := by
  have L3 := graphB_pos g
  obtain ⟨A, cap, e, h2, h3, _, _, h6⟩ := ownB_nums ob (graphB_bytes g)
  obtain ⟨b, o, rfl, hb, _⟩ := h6 (by omega)
  exact ⟨b, o, cap, by rw [e, hL], hb, by omega, h3⟩
theorem own_free {w : World} {base e size n : Nat} {v : Value} {xs : List Value} (h : w.ownsRow base e size v n xs) : ∀ b o l c, v = .slice (some ⟨b, o, none⟩) l c → ∀ j, w.frozen? ⟨b, j, none⟩ = false := by
  intro b o l c e j
  rcases h.2 with ⟨rfl, _⟩ | ⟨g, cap, cur, rfl, _, hg, _⟩
  · cases e
  · simp only [Value.slice.injEq, Option.some.injEq, Addr.mk.injEq] at e
    obtain ⟨⟨rfl, _⟩, _⟩ := e
    unfold World.frozen?
    rw [hg]
    simp
theorem nums_set8 {w : World} {b off n c k : Nat} {z : Int} {xs : List Int} (h : IsNums .u8 w (.slice (some ⟨b, off, none⟩) n c) xs) (hk : k < xs.length) (hz : 0 ≤ z ∧ z < 256) : IsNums .u8 (w.setCell ⟨b, off + k, none⟩ (.int .u8 z)) (.slice (some ⟨b, off, none⟩) n c) (xs.set k z) := by
  obtain ⟨A, cap, e, h2, h3, h4, h5, h6⟩ := h
  simp only [Value.slice.injEq] at e
  obtain ⟨rfl, rfl, rfl⟩ := e
  obtain ⟨b', off', e, hb, hc⟩ := h6 (by omega)
  simp only [Option.some.injEq, Addr.mk.injEq, and_true] at e
  obtain ⟨rfl, rfl⟩ := e
  refine ⟨some ⟨b, off, none⟩, c, by rw [List.length_set], by rw [List.length_set]; omega, h3, (fun h => by cases h), fun x hx => ?_, fun _ => ⟨b, off, rfl, by simpa [World.setCell] using hb, fun i hi => ?_⟩⟩
  · rcases List.mem_or_eq_of_mem_set hx with hx | rfl
    · exact h5 x hx
    · simp [Lit.wf, IntKind.min, IntKind.max, IntKind.bits, IntKind.signed]; omega
  · rw [List.length_set] at hi
    by_cases e : i = k
    · subst e
      rw [World.cell?_setCell_same w _ _ (hc i hi)]
      simp [List.getD, hk]
    · rw [World.cell?_setCell_other _ _ _ _ (by first | (simp; done) | (simp; omega)), hc i hi]
      simp [List.getD, List.getElem?_set_ne (fun f => e f.symm)]
theorem graph_nil (w : World) : IsGraph w (.agg #[.slice none 0 0, .slice none 0 0, .slice none 0 0]) ⟨[], [], []⟩ :=
  ⟨_, _, _, rfl, vals_nil w, ⟨none, 0, rfl, Nat.le_refl _, Nat.zero_le _, fun _ => rfl, by simp, by simp⟩, nums_nil _ _⟩
def OnceP (bs : List Int) : Prop := bytesP bs ∧ bs.length ≤ 20000
theorem not_took_nil {bs : List Int} (h : bs = []) : ¬ TookP bs := by
  subst h
  intro T
  obtain ⟨e, _⟩ := put_took (bs := []) (fun c hc => by simp at hc) T
  have := congrArg List.length e
  have h3 := graphB_pos (graphR ⟨[], false⟩).1
  simp only [List.length_append, List.length_nil] at this
  omega

set_option maxHeartbeats 8000000 in
theorem once_walk (W : World) (va : Value) (xs : List Int) (ha : IsNums .u8 W va xs) (m : Int) (hm : (Lit.int .i64 m).wf = true) (y : Int) (hy : (Lit.int .u8 y).wf = true) : Calls Try.prog 5 #[va, .int .i64 m, .int .u8 y] W fun e w' => e = .returned (.bool true) ∧ Past W w' := by
  have HA := Lib.hid ha
  obtain ⟨A, cap, rfl, a1, a2, _, _, a6⟩ := ha
  have HY := Lib.hid (wf_u8 hy)
  have SH := Lib.hid (fun w (p : Past W w) => short_any A cap xs w (HA.out.grow p))
  obtain ⟨bs, hbs⟩ : ∃ bs, xs.take 20000 = bs := ⟨_, rfl⟩
  have NB : Hid (IsNums .u8 W (.slice A bs.length cap) bs) := Lib.hid (by rw [← hbs]; exact nums_cut' 20000 HA.out)
  have hl : bs.length ≤ 20000 := by rw [← hbs]; simp; omega
  have hcap : bs.length ≤ cap := by
    have : bs.length ≤ xs.length := by rw [← hbs]; simp; omega
    omega
  have BP : Hid (bytesP bs) := Lib.hid (fun c hc => by
    have := wf_u8 (wf_of_nums NB.out c hc)
    omega)
  unfold ShortPost at SH
  rw [hbs] at SH
  obtain ⟨i0, hi0, hz0, hz1, hz2⟩ := info_parts info8
  have I1 := Lib.hid hi0
  have I2 := Lib.hid hz0
  have I3 := Lib.hid hz1
  have I4 := Lib.hid hz2
  clear hi0 hz0 hz1 hz2 hbs hm hy a1 a6
  go_enter Try.func5, Try.ntmps5
  go_wp2_with fail
  refine (shown_any _).mono ?_
  rintro e w1 ⟨rfl, p1⟩
  go_wp2_with fail
  refine (SH.out w1 p1).mono ?_
  rintro e w2 ⟨rfl, q2⟩
  have p2 := p1.trans q2
  clear p1 q2 SH
  by_cases h0 : bs.length = 0
  · have hb0 : bs = [] := List.eq_nil_of_length_eq_zero h0
    have TN0 := Lib.hid (fun (w : World) (v : Value) (k : IsNums .u8 w v []) => take_no (bs := []) (by rw [← hb0]; exact not_took_nil hb0) k (by simp))
    rw [h0]
    clear hb0
    cases A with
    | none =>
      have p3 : Past W (w2.alloc (.cells #[] 5)) := p2.alloc _
      have TN := Lib.hid (TN0.out (w2.alloc (.cells #[] 5)) (.slice (some ⟨w2.heap.size, 0, none⟩) 0 0) ⟨some ⟨w2.heap.size, 0, none⟩, 0, rfl, Nat.le_refl _, Nat.zero_le _, (fun h => by cases h), by simp, by simp⟩)
      clear TN0 p2
      go_wp2_with fail
      refine TN.out.mono ?_
      rintro e w4 ⟨rfl, q4⟩
      have p4 := p3.trans q4
      clear TN q4 p3
      go_wp2_with fail
      go_ret
      exact ⟨rfl, p4.alloc _⟩
    | some ad =>
      go_wp2_with (at_builtin; refine wpList_append_own _ rfl (.tmp 21) (.tmp 22) 22 rfl w2.heap.size 5 i0 _ 1 1 Try.underlying22 I1.out I2.out I3.out I4.out rfl (by decide) _ 0 [] rfl (World.ownsRow_made w2 #[] 0 (Nat.le_refl _) (by simp) (by simp)) ad 0 cap [] rfl (by simp) (fun j u hu => by simp at hu) (fun u hu => by simp at hu) ?c4 ?c5 ?c6 ?_)
      case c4 => simp [maxLen]
      case c5 => simp
      case c6 => simp
      intro v3 w3 own3 grow3 _
      have p3 : Past W w3 := (p2.alloc _).grownBy grow3 (fun j hj => by simp [Value.ownBlock] at hj; have := p2.2.2.1; omega)
      have TN := Lib.hid (TN0.out w3 v3 (nums_byte (n := 0 + 0) rfl (by simpa using own3) (fun c hc => by simp at hc)))
      clear TN0 p2 own3 grow3
      go_wp2_with fail
      refine TN.out.mono ?_
      rintro e w4 ⟨rfl, q4⟩
      have p4 := p3.trans q4
      clear TN q4 p3
      go_wp2_with fail
      go_ret
      exact ⟨rfl, p4.alloc _⟩
  · obtain ⟨b, off, rfl, hbb⟩ : ∃ b off, A = some ⟨b, off, none⟩ ∧ b < W.heap.size := by
      obtain ⟨A', cap', e, _, _, _, _, h6⟩ := NB.out
      obtain ⟨b, o, e2, hb, _⟩ := h6 (by omega)
      simp only [Value.slice.injEq] at e
      exact ⟨b, o, by rw [e.1, e2], hb⟩
    obtain ⟨L, hL⟩ : ∃ L, bs.length = L := ⟨_, rfl⟩
    rw [hL] at NB hl hcap h0
    rw [hL]
    have HL := Lib.hid hL
    clear hL
    go_wp2_with (at_builtin; refine wpList_append_own _ rfl (.tmp 21) (.tmp 22) 22 rfl w2.heap.size 5 i0 _ 1 1 Try.underlying22 I1.out I2.out I3.out I4.out rfl (by decide) _ 0 [] rfl (World.ownsRow_made w2 #[] 0 (Nat.le_refl _) (by simp) (by simp)) ⟨b, off, none⟩ L cap (bs.map (Value.int .u8)) rfl (by simp [HL.out]) (news_bytes (NB.out.grow (p2.alloc _))) (bytes_one _) ?c4 ?c5 ?c6 ?_)
    case c4 => unfold maxLen; omega
    case c5 => omega
    case c6 => simp
    intro v3 w3 own3 grow3 _
    have p3 : Past W w3 := (p2.alloc _).grownBy grow3 (fun j hj => by simp [Value.ownBlock] at hj; have := p2.2.2.1; omega)
    have N3 := Lib.hid (nums_byte (n := 0 + L) (xs := bs) (by rw [HL.out]; omega) (by simpa using own3) BP.out)
    have TK := Lib.hid (take_any v3 bs w3 N3.out (by rw [HL.out]; omega))
    clear own3 grow3 p2
    go_wp2_with fail
    refine TK.out.mono ?_
    rintro e w4 H
    rcases H with ⟨T, gv, rfl, ig, q4⟩ | ⟨hT, rfl, q4⟩
    rotate_left
    · have p4 := p3.trans q4
      clear TK q4 p3 hT
      go_wp2_with fail
      go_ret
      exact ⟨rfl, p4.alloc _⟩
    · obtain ⟨hbs, ok⟩ := put_took BP.out T
      have CU0 := graphR_cut ⟨bs, false⟩ BP.out
      obtain ⟨r, hr⟩ : ∃ r, graphR ⟨bs, false⟩ = r := ⟨_, rfl⟩
      have hE : valuesE r.1 = 0 := by rw [← hr]; exact T.2
      rw [hr] at hbs ok ig CU0
      obtain ⟨g, hg⟩ : ∃ g, r.1 = g := ⟨_, rfl⟩
      rw [hg] at hbs ok ig hE CU0
      have hlen := congrArg List.length hbs
      rw [List.length_append, HL.out] at hlen
      obtain ⟨K, hK⟩ : ∃ K, (graphB g).length = K := ⟨_, rfl⟩
      rw [hK] at hlen
      have hn : (bs.length : Int) - ((graphR ⟨bs, false⟩).2.rest.length : Int) = (K : Int) := by rw [hr, HL.out]; omega
      rw [hn]
      have OK := Lib.hid ok
      have HE := Lib.hid hE
      have CU := Lib.hid CU0
      have HK := Lib.hid hK
      have HBS := Lib.hid hbs
      have K3 : 3 ≤ K := by rw [← hK]; exact graphB_pos g
      have KL : K ≤ L := by omega
      have IG := Lib.hid ig
      obtain ⟨iv, nv, ov, rfl, hi, hn', ho⟩ := ig
      obtain ⟨D1, kd1, rfl, _, _, _, _, _⟩ := hi
      obtain ⟨D2, kd2, rfl, _, _, _, _, _⟩ := hn'
      obtain ⟨D3, kd3, rfl, _, _, _, _, _⟩ := ho
      obtain ⟨Q, hQ⟩ : ∃ n, w4.heap.size = n := ⟨_, rfl⟩
      clear T hbs ok hE CU0 hr hg hlen hn hK TK N3
      go_upto_region 4 with fail
      refine opq (fun w' => (∀ o : Nat, w'.cell? ⟨Q, o, none⟩ = (#[.slice D1 g.ins.length kd1, .slice D2 g.nodes.length kd2, .slice D3 g.outs.length kd3] : Array Value)[o]?) ∧ Past W w' ∧ Past w4 w' ∧ Q + 1 ≤ w'.heap.size) (by
        have p4 := p3.trans q4
        subst hQ
        exact ⟨by ((repeat (first | (with_reducible assumption) | (with_reducible refine box_set ?_ (by first | (simp; done) | (dsimp only; omega) | (simp; omega))) | (with_reducible refine free_set ?_) | (with_reducible refine Past.setCell ?_ (by first | (simp; done) | (dsimp only; omega) | (simp; omega)) _) | (with_reducible refine box_new (by first | omega | (simp; done) | (simp; omega))) | (with_reducible refine box_old ?_ (by first | omega | (simp; done) | (simp; omega))) | (with_reducible refine free_alloc ?_) | (with_reducible refine free_new (by first | omega | (simp; done) | (simp; omega))) | (with_reducible refine Past.alloc ?_ _) | (with_reducible exact Past.refl _) | (simp only [World.size_alloc]; omega) | omega)); done), by ((repeat (first | (with_reducible assumption) | (with_reducible refine box_set ?_ (by first | (simp; done) | (dsimp only; omega) | (simp; omega))) | (with_reducible refine free_set ?_) | (with_reducible refine Past.setCell ?_ (by first | (simp; done) | (dsimp only; omega) | (simp; omega)) _) | (with_reducible refine box_new (by first | omega | (simp; done) | (simp; omega))) | (with_reducible refine box_old ?_ (by first | omega | (simp; done) | (simp; omega))) | (with_reducible refine free_alloc ?_) | (with_reducible refine free_new (by first | omega | (simp; done) | (simp; omega))) | (with_reducible refine Past.alloc ?_ _) | (with_reducible exact Past.refl _) | (simp only [World.size_alloc]; omega) | omega)); done), by ((repeat (first | (with_reducible assumption) | (with_reducible refine box_set ?_ (by first | (simp; done) | (dsimp only; omega) | (simp; omega))) | (with_reducible refine free_set ?_) | (with_reducible refine Past.setCell ?_ (by first | (simp; done) | (dsimp only; omega) | (simp; omega)) _) | (with_reducible refine box_new (by first | omega | (simp; done) | (simp; omega))) | (with_reducible refine box_old ?_ (by first | omega | (simp; done) | (simp; omega))) | (with_reducible refine free_alloc ?_) | (with_reducible refine free_new (by first | omega | (simp; done) | (simp; omega))) | (with_reducible refine Past.alloc ?_ _) | (with_reducible exact Past.refl _) | (simp only [World.size_alloc]; omega) | omega)); done), by simp⟩) ?_
      rintro w5 ⟨b5, p5, pp5, s5⟩
      have PU := Lib.hid (put_any g _ w5 (IG.out.grow pp5) CU.out (by rw [HK.out]; omega))
      clear p3 q4 hQ
      go_wp2_with fail
      refine PU.out.mono ?_
      rintro e w6 H
      rcases H with ⟨_, v, rfl, ob, q6⟩ | ⟨hN, _, _⟩
      rotate_left
      · exact absurd HE.out hN
      · have p6 := p5.trans q6
        have OB := Lib.hid ob
        have IG6 := Lib.hid (IG.out.grow (pp5.trans q6))
        have b6 := box_past q6 b5 (by omega)
        have hW5 := p5.2.2.1
        obtain ⟨bc, oc, cc, rfl, hbc, hKc, hcm⟩ := put_slice0 ob HK.out
        have N1 := ownB_nums ob (graphB_bytes g)
        have N2 : IsNums .u8 w6 (.slice (some ⟨b, off, none⟩) K cap) (graphB g) := by
          have := nums_cut' K (NB.out.grow p6)
          have e : bs.take K = graphB g := by rw [HBS.out, ← HK.out, List.take_left]
          rw [e, HK.out] at this
          exact this
        have pq6 := pp5.trans q6
        have FR6 := Lib.hid (own_free ob.1)
        have LT6 := Lib.hid (World.ownsRow.lt ob.1)
        have sz5 := pp5.2.2.1
        have s6 : Q + 1 ≤ w6.heap.size := by have := q6.2.2.1; omega
        clear p5 pp5 b5 PU ob q6
        obtain ⟨sx, hsx⟩ : ∃ s, strOfNums (graphB g) = s := ⟨_, rfl⟩
        have HSX := Lib.hid hsx
        have kc : K ≤ cap := by omega
        have d1 : decide ((L : Int) < (K : Int)) = false := by simp; omega
        go_upto_region 7 with fail
        refine wp_region_fill (fun w' => IsNums .u8 w' (.slice (some ⟨bc, oc, none⟩) K cc) (graphB g) ∧ IsNums .u8 w' (.slice (some ⟨b, off, none⟩) K cap) (graphB g) ∧ (∀ o : Nat, w'.cell? ⟨Q, o, none⟩ = (#[.slice D1 g.ins.length kd1, .slice D2 g.nodes.length kd2, .slice D3 g.outs.length kd3] : Array Value)[o]?) ∧ Past W w' ∧ Past w6 w') [(50, ?v50), (51, ?v51), (52, ?v52), (53, ?v53), (54, ?v54), (55, ?v55), (56, ?v56), (57, ?v57), (58, ?v58), (59, ?v59), (60, ?v60), (61, ?v61), (62, ?v62), (63, ?v63), (64, ?v64), (65, ?v65), (66, ?v66)] [50, 51, 52, 53, 54, 55, 56, 57, 58, 59, 60, 61, 62, 63, 64, 65, 66] (by kernel_rfl) (by kernel_rfl) rfl (by kernel_rfl) ⟨N1, N2, b6, p6, Past.refl _⟩ (fun w h => h) ?all ?fin
        case all =>
          simp only [fillA, Act.put, List.setIfInBounds_toArray, List.set_cons_zero, List.set_cons_succ]
          refine owes_cons (fun w hw K hK => ?_) ?_
          · have hS := Lib.hid hw
            clear hw
            go_simp
            try simp only [Act.put, List.setIfInBounds_toArray, List.set_cons_zero, List.set_cons_succ]
            exact hK _ hS.out
          refine owes_cons (fun w hw K hK => ?_) ?_
          · have hS := Lib.hid hw
            clear hw
            go_simp
            try simp only [Act.put, List.setIfInBounds_toArray, List.set_cons_zero, List.set_cons_succ]
            exact hK _ hS.out
          refine owes_cons (fun w hw K hK => ?_) ?_
          · have hS := Lib.hid hw
            clear hw
            go_simp
            try simp only [Act.put, List.setIfInBounds_toArray, List.set_cons_zero, List.set_cons_succ]
            exact hK _ hS.out
          refine owes_cons (fun w hw K hK => ?_) ?_
          · have hS := Lib.hid hw
            clear hw
            go_simp
            try simp only [Act.put, List.setIfInBounds_toArray, List.set_cons_zero, List.set_cons_succ]
            exact hK _ hS.out
          refine owes_cons (fun w hw K hK => ?_) ?_
          · have hS := Lib.hid hw
            clear hw
            go_simp
            try simp only [Act.put, List.setIfInBounds_toArray, List.set_cons_zero, List.set_cons_succ]
            exact hK _ hS.out
          refine owes_cons (fun w hw K hK => ?_) ?_
          · have hS := Lib.hid hw
            clear hw
            go_simp
            try simp only [Act.put, List.setIfInBounds_toArray, List.set_cons_zero, List.set_cons_succ]
            exact hK _ hS.out
          refine owes_cons (fun w hw K hK => ?_) ?_
          · have hS := Lib.hid hw
            clear hw
            go_simp
            try simp only [Act.put, List.setIfInBounds_toArray, List.set_cons_zero, List.set_cons_succ]
            exact hK _ hS.out
          refine owes_cons (fun w hw K hK => ?_) ?_
          · have hS := Lib.hid hw
            clear hw
            go_simp
            try simp only [Act.put, List.setIfInBounds_toArray, List.set_cons_zero, List.set_cons_succ]
            exact hK _ hS.out
          refine owes_cons (fun w hw K hK => ?_) ?_
          · have hS := Lib.hid hw
            clear hw
            go_simp
            try simp only [Act.put, List.setIfInBounds_toArray, List.set_cons_zero, List.set_cons_succ]
            exact hK _ hS.out
          refine owes_cons (fun w hw K hK => ?_) ?_
          · have hS := Lib.hid hw
            clear hw
            go_simp
            try simp only [Act.put, List.setIfInBounds_toArray, List.set_cons_zero, List.set_cons_succ]
            exact hK _ hS.out
          refine owes_cons (fun w hw K hK => ?_) ?_
          · have hS := Lib.hid hw
            have t1 := str_of_nums hw.1
            have t2 := str_of_nums hw.2.1
            rw [hsx] at t1 t2
            clear hw
            go_simp
            try simp only [Act.put, List.setIfInBounds_toArray, List.set_cons_zero, List.set_cons_succ]
            exact hK _ hS.out
          refine owes_cons (fun w hw K hK => ?_) ?_
          · have hS := Lib.hid hw
            clear hw
            go_simp
            try simp only [Act.put, List.setIfInBounds_toArray, List.set_cons_zero, List.set_cons_succ]
            exact hK _ hS.out
          refine owes_cons (fun w hw K hK => ?_) ?_
          · have hS := Lib.hid hw
            clear hw
            go_simp
            try simp only [Act.put, List.setIfInBounds_toArray, List.set_cons_zero, List.set_cons_succ]
            exact hK _ hS.out
          refine owes_cons (fun w hw K hK => ?_) ?_
          · have hS := Lib.hid hw
            clear hw
            go_simp
            try simp only [Act.put, List.setIfInBounds_toArray, List.set_cons_zero, List.set_cons_succ]
            exact hK _ hS.out
          refine owes_cons (fun w hw K hK => ?_) ?_
          · have hS := Lib.hid hw
            have t1 := str_of_nums hw.1
            have t2 := str_of_nums hw.2.1
            rw [hsx] at t1 t2
            clear hw
            go_simp
            try simp only [Act.put, List.setIfInBounds_toArray, List.set_cons_zero, List.set_cons_succ]
            exact hK _ hS.out
          refine owes_cons (fun w hw K hK => ?_) ?_
          · have hS := Lib.hid hw
            clear hw
            go_simp
            try simp only [Act.put, List.setIfInBounds_toArray, List.set_cons_zero, List.set_cons_succ]
            exact hK _ hS.out
          refine owes_cons (fun w hw K hK => ?_) ?_
          · have hS := Lib.hid hw
            clear hw
            go_simp
            try simp only [Act.put, List.setIfInBounds_toArray, List.set_cons_zero, List.set_cons_succ]
            exact hK _ hS.out
          exact True.intro
        case fin =>
          rintro w7 ⟨hN1, _, b7, p7, q7⟩
          simp only [fillA, Act.put, List.setIfInBounds_toArray, List.set_cons_zero, List.set_cons_succ]
          have N1 := Lib.hid hN1
          have IGP : Hid (Past w4 w7) := Lib.hid (pq6.trans q7)
          have FR := Lib.hid (fun j => (World.frozen?_of_block (a := ⟨bc, j, none⟩) (q7.2.2.2 bc hbc)).trans (FR6.out bc oc K cc rfl j))
          have LB : w5.heap.size ≤ bc := (LT6.out bc rfl).1
          have hbc7 : bc < w7.heap.size := Nat.lt_of_lt_of_le hbc q7.2.2.1
          clear hN1 pq6 FR6 LT6 hbc N2 p6 b6 s6
          by_cases m0 : m < 0
          · have d0 : decide (m < 0) = true := by simp; omega
            go_wp2_with fail
            go_ret
            exact ⟨rfl, p7⟩
          · have d0 : decide (m < 0) = false := by simp; omega
            by_cases m1 : (K : Int) ≤ m
            · have d2 : decide ((K : Int) ≤ m) = true := by simp; omega
              go_wp2_with fail
              go_ret
              exact ⟨rfl, p7⟩
            · obtain ⟨k, rfl⟩ : ∃ k : Nat, m = k := ⟨m.toNat, by omega⟩
              have hk : k < K := by omega
              have d2 : decide ((K : Int) ≤ (k : Int)) = false := by simp; omega
              by_cases y0 : y = 0
              · have d3 : (y == 0) = true := by simp [y0]
                go_wp2_with fail
                go_ret
                exact ⟨rfl, p7⟩
              · have d3 : (y == 0) = false := by simp [y0]
                obtain ⟨x, hx⟩ : ∃ x, (graphB g).getD k 0 = x := ⟨_, rfl⟩
                have cx : w7.cell? ⟨bc, oc + k, none⟩ = some (.int .u8 x) := by
                  obtain ⟨A', cap', e, _, _, _, _, h6⟩ := N1.out
                  obtain ⟨b', o', e2, _, hc⟩ := h6 (by rw [HK.out]; omega)
                  simp only [Value.slice.injEq] at e
                  have e3 := e.1.trans e2
                  simp only [Option.some.injEq, Addr.mk.injEq, and_true] at e3
                  rw [e3.1, e3.2, hc k (by rw [HK.out]; omega), hx]
                have fx : w7.frozen? ⟨bc, oc + k, none⟩ = false := FR.out _
                have xb : 0 ≤ x ∧ x < 256 := graphB_bytes g x (by rw [← hx]; simp [List.getD, HK.out, hk])
                have XR := xor_byte x y xb.1 xb.2 HY.out.1 (by have := HY.out.2; omega) y0
                obtain ⟨z, hz⟩ : ∃ z, bits .xor .u8 x y = z := ⟨_, rfl⟩
                rw [hz] at XR
                have HX := Lib.hid hx
                have HXR := Lib.hid XR
                have hi0 : (0 : Int) ≤ (k : Int) := by omega
                clear hx XR xb m0 m1 d1
                go_upto_region 12 with fail
                try rw [hz]
                have N8 := Lib.hid (nums_set8 (z := z) N1.out (by rw [HK.out]; exact hk) HXR.out.1)
                have p8 : Past W (w7.setCell ⟨bc, oc + k, none⟩ (.int .u8 z)) := p7.setCell (by simp only; omega) _
                have r8 := Lib.hid (IGP.out.setCell (p := ⟨bc, oc + k, none⟩) (by simp only; omega) (.int .u8 z))
                have b8 : (∀ o : Nat, (w7.setCell ⟨bc, oc + k, none⟩ (.int .u8 z)).cell? ⟨Q, o, none⟩ = (#[.slice D1 g.ins.length kd1, .slice D2 g.nodes.length kd2, .slice D3 g.outs.length kd3] : Array Value)[o]?) := box_set b7 (by simp only; omega)
                have s8 : Q + 1 ≤ (w7.setCell ⟨bc, oc + k, none⟩ (.int .u8 z)).heap.size := by simp only [size_setCell]; omega
                clear N1 b7 p7 q7 cx fx FR IGP
                generalize w7.setCell ⟨bc, oc + k, none⟩ (.int .u8 z) = w8 at *
                obtain ⟨cs, hcs⟩ : ∃ cs, (graphB g).set k z = cs := ⟨_, rfl⟩
                rw [hcs] at N8
                have HCS := Lib.hid hcs
                have lcs : cs.length ≤ 20000 := by rw [← hcs, List.length_set, HK.out]; omega
                have T8 := Lib.hid (take_any _ cs w8 N8.out (by omega))
                have HNE : Hid (TookP cs → (graphR ⟨cs, false⟩).1 ≠ g) := Lib.hid (by
                  intro T e
                  have hbp : bytesP cs := fun c hc => by
                    have := wf_u8 (wf_of_nums N8.out c hc)
                    omega
                  obtain ⟨e1, _⟩ := put_took hbp T
                  rw [e] at e1
                  have e2 : cs.getD k 0 = (graphB g ++ (graphR ⟨cs, false⟩).2.rest).getD k 0 := congrArg (fun l : List Int => l.getD k 0) e1
                  have e3 : cs.getD k 0 = z := by rw [← HCS.out]; simp [List.getD, HK.out, hk]
                  have e4 : ((graphB g) ++ (graphR ⟨cs, false⟩).2.rest).getD k 0 = x := by
                    rw [← HX.out]
                    simp only [List.getD]
                    rw [List.getElem?_append_left (by rw [HK.out]; exact hk)]
                  rw [e3, e4] at e2
                  exact HXR.out.2 e2)
                clear hcs lcs hz
                go_wp2_with fail
                refine T8.out.mono ?_
                rintro e w9 H
                rcases H with ⟨T, gv, rfl, ih, q9⟩ | ⟨hT, rfl, q9⟩
                · have hgh := HNE.out T
                  obtain ⟨h, hh⟩ : ∃ h, (graphR ⟨cs, false⟩).1 = h := ⟨_, rfl⟩
                  obtain ⟨nn, hnn⟩ : ∃ n : Int, (cs.length : Int) - ((graphR ⟨cs, false⟩).2.rest.length : Int) = n := ⟨_, rfl⟩
                  rw [hh] at hgh ih
                  rw [hnn]
                  have IH := Lib.hid ih
                  have HGH := Lib.hid hgh
                  obtain ⟨iv, nv, ov, rfl, hi, hn', ho⟩ := ih
                  obtain ⟨E1, ke1, rfl, _, _, _, _, _⟩ := hi
                  obtain ⟨E2, ke2, rfl, _, _, _, _, _⟩ := hn'
                  obtain ⟨E3, ke3, rfl, _, _, _, _, _⟩ := ho
                  obtain ⟨R, hR⟩ : ∃ n, w9.heap.size = n := ⟨_, rfl⟩
                  clear T T8 HNE hgh hh hnn
                  go_upto_region 13 with fail
                  refine opq (fun w' => (∀ o : Nat, w'.cell? ⟨Q, o, none⟩ = (#[.slice D1 g.ins.length kd1, .slice D2 g.nodes.length kd2, .slice D3 g.outs.length kd3] : Array Value)[o]?) ∧ (∀ o : Nat, w'.cell? ⟨R, o, none⟩ = (#[.slice E1 h.ins.length ke1, .slice E2 h.nodes.length ke2, .slice E3 h.outs.length ke3] : Array Value)[o]?) ∧ Past W w' ∧ Past w8 w' ∧ Past w9 w') (by
                    have b9 := box_past q9 b8 (by omega)
                    have p9 := p8.trans q9
                    have s9 : Q + 1 ≤ w9.heap.size := by have := q9.2.2.1; omega
                    subst hR
                    exact ⟨by ((repeat (first | (with_reducible assumption) | (with_reducible refine box_set ?_ (by first | (simp; done) | (dsimp only; omega) | (simp; omega))) | (with_reducible refine free_set ?_) | (with_reducible refine Past.setCell ?_ (by first | (simp; done) | (dsimp only; omega) | (simp; omega)) _) | (with_reducible refine box_new (by first | omega | (simp; done) | (simp; omega))) | (with_reducible refine box_old ?_ (by first | omega | (simp; done) | (simp; omega))) | (with_reducible refine free_alloc ?_) | (with_reducible refine free_new (by first | omega | (simp; done) | (simp; omega))) | (with_reducible refine Past.alloc ?_ _) | (with_reducible exact Past.refl _) | (simp only [World.size_alloc]; omega) | omega)); done), by ((repeat (first | (with_reducible assumption) | (with_reducible refine box_set ?_ (by first | (simp; done) | (dsimp only; omega) | (simp; omega))) | (with_reducible refine free_set ?_) | (with_reducible refine Past.setCell ?_ (by first | (simp; done) | (dsimp only; omega) | (simp; omega)) _) | (with_reducible refine box_new (by first | omega | (simp; done) | (simp; omega))) | (with_reducible refine box_old ?_ (by first | omega | (simp; done) | (simp; omega))) | (with_reducible refine free_alloc ?_) | (with_reducible refine free_new (by first | omega | (simp; done) | (simp; omega))) | (with_reducible refine Past.alloc ?_ _) | (with_reducible exact Past.refl _) | (simp only [World.size_alloc]; omega) | omega)); done), by ((repeat (first | (with_reducible assumption) | (with_reducible refine box_set ?_ (by first | (simp; done) | (dsimp only; omega) | (simp; omega))) | (with_reducible refine free_set ?_) | (with_reducible refine Past.setCell ?_ (by first | (simp; done) | (dsimp only; omega) | (simp; omega)) _) | (with_reducible refine box_new (by first | omega | (simp; done) | (simp; omega))) | (with_reducible refine box_old ?_ (by first | omega | (simp; done) | (simp; omega))) | (with_reducible refine free_alloc ?_) | (with_reducible refine free_new (by first | omega | (simp; done) | (simp; omega))) | (with_reducible refine Past.alloc ?_ _) | (with_reducible exact Past.refl _) | (simp only [World.size_alloc]; omega) | omega)); done), by ((repeat (first | (with_reducible assumption) | (with_reducible refine box_set ?_ (by first | (simp; done) | (dsimp only; omega) | (simp; omega))) | (with_reducible refine free_set ?_) | (with_reducible refine Past.setCell ?_ (by first | (simp; done) | (dsimp only; omega) | (simp; omega)) _) | (with_reducible refine box_new (by first | omega | (simp; done) | (simp; omega))) | (with_reducible refine box_old ?_ (by first | omega | (simp; done) | (simp; omega))) | (with_reducible refine free_alloc ?_) | (with_reducible refine free_new (by first | omega | (simp; done) | (simp; omega))) | (with_reducible refine Past.alloc ?_ _) | (with_reducible exact Past.refl _) | (simp only [World.size_alloc]; omega) | omega)); done), by ((repeat (first | (with_reducible assumption) | (with_reducible refine box_set ?_ (by first | (simp; done) | (dsimp only; omega) | (simp; omega))) | (with_reducible refine free_set ?_) | (with_reducible refine Past.setCell ?_ (by first | (simp; done) | (dsimp only; omega) | (simp; omega)) _) | (with_reducible refine box_new (by first | omega | (simp; done) | (simp; omega))) | (with_reducible refine box_old ?_ (by first | omega | (simp; done) | (simp; omega))) | (with_reducible refine free_alloc ?_) | (with_reducible refine free_new (by first | omega | (simp; done) | (simp; omega))) | (with_reducible refine Past.alloc ?_ _) | (with_reducible exact Past.refl _) | (simp only [World.size_alloc]; omega) | omega)); done)⟩) ?_
                  rintro w10 ⟨b10, x10, p10, r10, t10⟩
                  have SA := Lib.hid (rsame_any g h _ _ false w10 (IG.out.grow (r8.out.trans r10)) (IH.out.grow t10) (by simp only [Bool.false_eq_true, false_iff]; exact fun e => HGH.out e.symm))
                  clear b8 p8 q9 hR r10 t10
                  go_wp2_with fail
                  refine SA.out.mono ?_
                  rintro e w11 ⟨rfl, g11⟩
                  have p11 := p10.trans (Grown.past g11)
                  clear b10 x10 p10 g11 SA
                  go_wp2_with fail
                  go_ret
                  exact ⟨rfl, p11⟩
                · obtain ⟨R, hR⟩ : ∃ n, w9.heap.size = n := ⟨_, rfl⟩
                  clear hT T8 HNE
                  go_upto_region 13 with fail
                  refine opq (fun w' => (∀ o : Nat, w'.cell? ⟨Q, o, none⟩ = (#[.slice D1 g.ins.length kd1, .slice D2 g.nodes.length kd2, .slice D3 g.outs.length kd3] : Array Value)[o]?) ∧ (∀ o : Nat, w'.cell? ⟨R, o, none⟩ = (#[.slice none 0 0, .slice none 0 0, .slice none 0 0] : Array Value)[o]?) ∧ Past W w' ∧ Past w8 w') (by
                    have b9 := box_past q9 b8 (by omega)
                    have p9 := p8.trans q9
                    have s9 : Q + 1 ≤ w9.heap.size := by have := q9.2.2.1; omega
                    subst hR
                    exact ⟨by ((repeat (first | (with_reducible assumption) | (with_reducible refine box_set ?_ (by first | (simp; done) | (dsimp only; omega) | (simp; omega))) | (with_reducible refine free_set ?_) | (with_reducible refine Past.setCell ?_ (by first | (simp; done) | (dsimp only; omega) | (simp; omega)) _) | (with_reducible refine box_new (by first | omega | (simp; done) | (simp; omega))) | (with_reducible refine box_old ?_ (by first | omega | (simp; done) | (simp; omega))) | (with_reducible refine free_alloc ?_) | (with_reducible refine free_new (by first | omega | (simp; done) | (simp; omega))) | (with_reducible refine Past.alloc ?_ _) | (with_reducible exact Past.refl _) | (simp only [World.size_alloc]; omega) | omega)); done), by ((repeat (first | (with_reducible assumption) | (with_reducible refine box_set ?_ (by first | (simp; done) | (dsimp only; omega) | (simp; omega))) | (with_reducible refine free_set ?_) | (with_reducible refine Past.setCell ?_ (by first | (simp; done) | (dsimp only; omega) | (simp; omega)) _) | (with_reducible refine box_new (by first | omega | (simp; done) | (simp; omega))) | (with_reducible refine box_old ?_ (by first | omega | (simp; done) | (simp; omega))) | (with_reducible refine free_alloc ?_) | (with_reducible refine free_new (by first | omega | (simp; done) | (simp; omega))) | (with_reducible refine Past.alloc ?_ _) | (with_reducible exact Past.refl _) | (simp only [World.size_alloc]; omega) | omega)); done), by ((repeat (first | (with_reducible assumption) | (with_reducible refine box_set ?_ (by first | (simp; done) | (dsimp only; omega) | (simp; omega))) | (with_reducible refine free_set ?_) | (with_reducible refine Past.setCell ?_ (by first | (simp; done) | (dsimp only; omega) | (simp; omega)) _) | (with_reducible refine box_new (by first | omega | (simp; done) | (simp; omega))) | (with_reducible refine box_old ?_ (by first | omega | (simp; done) | (simp; omega))) | (with_reducible refine free_alloc ?_) | (with_reducible refine free_new (by first | omega | (simp; done) | (simp; omega))) | (with_reducible refine Past.alloc ?_ _) | (with_reducible exact Past.refl _) | (simp only [World.size_alloc]; omega) | omega)); done), by ((repeat (first | (with_reducible assumption) | (with_reducible refine box_set ?_ (by first | (simp; done) | (dsimp only; omega) | (simp; omega))) | (with_reducible refine free_set ?_) | (with_reducible refine Past.setCell ?_ (by first | (simp; done) | (dsimp only; omega) | (simp; omega)) _) | (with_reducible refine box_new (by first | omega | (simp; done) | (simp; omega))) | (with_reducible refine box_old ?_ (by first | omega | (simp; done) | (simp; omega))) | (with_reducible refine free_alloc ?_) | (with_reducible refine free_new (by first | omega | (simp; done) | (simp; omega))) | (with_reducible refine Past.alloc ?_ _) | (with_reducible exact Past.refl _) | (simp only [World.size_alloc]; omega) | omega)); done)⟩) ?_
                  rintro w10 ⟨b10, x10, p10, r10⟩
                  obtain ⟨t, ht⟩ := bool_any (g = ⟨[], [], []⟩)
                  have SA := Lib.hid (rsame_any g ⟨[], [], []⟩ _ _ t w10 (IG.out.grow (r8.out.trans r10)) (graph_nil w10) ht)
                  clear b8 p8 q9 hR r10 ht
                  go_wp2_with fail
                  refine SA.out.mono ?_
                  rintro e w11 ⟨rfl, g11⟩
                  have p11 := p10.trans (Grown.past g11)
                  clear b10 x10 p10 g11 SA
                  go_wp2_with fail
                  go_ret
                  exact ⟨rfl, p11⟩
end Go.Proofs.Ytbfdoonlohijiaa
