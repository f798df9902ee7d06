/- kern: what the closures of OpMax and OpAvg do under one place of a window. kern: what the closure of OpConv and OpDepth does under one place of a window. -/
import Derived.Test.YtliijchcpooplaaGreatOMFix
import Derived.Test.YtliijchcpooplaaGreatOMG10
import Derived.Test.YtliijchcpooplaaGreatOMKA
namespace Go.Proofs.YtliijchcpooplaaGreat
open Go.ChangeShapes Go.WideShapes Go.ChangeAt Go.RowKit
set_option maxRecDepth 20000
set_option linter.unusedVariables false
def KeepK (P : Nat) (w w' : World) : Prop := w'.os = w.os /\ w'.output = w.output /\ w.heap.size <= w'.heap.size /\ ∀ k, k < w.heap.size -> k ≠ P -> w'.heap[k]? = w.heap[k]?
theorem KeepK.refl (P : Nat) (w : World) : KeepK P w w := ⟨rfl, rfl, Nat.le_refl _, fun _ _ _ => rfl⟩
theorem KeepK.trans {P : Nat} {a b c : World} (h : KeepK P a b) (k : KeepK P b c) : KeepK P a c :=
  ⟨k.1.trans h.1, k.2.1.trans h.2.1, Nat.le_trans h.2.2.1 k.2.2.1, fun i hi hn => (k.2.2.2 i (Nat.lt_of_lt_of_le hi h.2.2.1) hn).trans (h.2.2.2 i hi hn)⟩
theorem KeepK.set {P : Nat} {w w' : World} (h : KeepK P w w') (o : Nat) (u : Value) : KeepK P w (w'.setCell ⟨P, o, none⟩ u) := by
  have b := Below.heap_setCell w' ⟨P, o, none⟩ u
  exact ⟨h.1, h.2.1, by simpa [World.setCell] using h.2.2.1, fun k hk hne => (b k hne).trans (h.2.2.2 k hk hne)⟩
theorem KeepK.of_past {P : Nat} {w w' : World} (h : Past w w') : KeepK P w w' := ⟨h.1, h.2.1, h.2.2.1, fun k hk _ => h.2.2.2 k hk⟩
theorem KeepK.past {P : Nat} {W w w' : World} (p : Past W w) (h : KeepK P w w') (hP : W.heap.size <= P) : Past W w' :=
  ⟨h.1.trans p.1, h.2.1.trans p.2.1, Nat.le_trans p.2.2.1 h.2.2.1, fun k hk => (h.2.2.2 k (Nat.lt_of_lt_of_le hk p.2.2.1) (by omega)).trans (p.2.2.2 k hk)⟩
theorem KeepK.cell {P b o : Nat} {w w' : World} (h : KeepK P w w') (hb : b < w.heap.size) (hn : b ≠ P) : w'.cell? ⟨b, o, none⟩ = w.cell? ⟨b, o, none⟩ := World.cell?_of_block (a := ⟨b, o, none⟩) (h.2.2.2 b hb hn)
theorem box_keepK {P b : Nat} {w w' : World} {cs : Array Value} (h : KeepK P w w') (k : (Bx w b cs)) (hb : b < w.heap.size) (hn : b ≠ P) : (Bx w' b cs) := fun o => (h.cell hb hn).trans (k o)
theorem box1_set {w : World} {b : Nat} {x0 y : Value} (h : (Bx w b #[x0])) : (Bx (w.setCell ⟨b, 0, none⟩ y) b #[y]) := by
  intro o
  match o with
  | 0 => exact World.cell?_setCell_same w _ _ (h 0)
  | k + 1 => rw [World.cell?_setCell_other _ _ _ _ (by simp)]; have := h (k + 1); simpa using this
def StepPost (pm : Nat) (r : Int) (W : World) (e : Ending) (w' : World) : Prop := (∃ v, e = .returned v) /\ (Bx w' pm #[.int .i64 r]) /\ (Fr w' pm) /\ KeepK pm W w'
theorem great_step (a : ViewD) (sa : Value) (pa pm pc : Nat) (v c pl y x q r : Int) (W : World) (hm : (Bx W pm #[.int .i64 v])) (fm : (Fr W pm)) (lm : pm < W.heap.size) (ha : (Bx W pa #[.int .i64 a.v.h, .int .i64 a.v.w, .int .i64 a.v.c, .int .i64 a.v.z, .int .i64 a.base, .int .i64 a.many, sa])) (la : pa < W.heap.size) (hc : (Bx W pc #[.int .i64 c])) (lc : pc < W.heap.size)
    (na : IsNums .i8 W sa a.xs) (oa : ViewOk a) (hq : Hid (q = atD a y x c)) (ra : AtOk a y x c) (hr : Hid (r = max v q)) :
    Calls Tryz.prog 125 #[.int .i64 pl, .int .i64 y, .int .i64 x, .pointer (some ⟨pm, 0, none⟩), .pointer (some ⟨pa, 0, none⟩), .pointer (some ⟨pc, 0, none⟩)] W (StepPost pm r W) := by
  have em : (if v < q then q else v) = r := by rw [hr.out]; split <;> omega
  have A1 := Lib.hid (fun w (g : Grown W w) => at_any a sa y x c q w (na.grow (Grown.past g)) oa hq ra)
  have G0 := Grown.refl W
  have S0 : W.heap.size <= W.heap.size := Nat.le_refl _
  clear na oa ra hq hr
  go_enter Tryz.func125, Tryz.ntmps125
  go_upto_region 0 with fail
  refine wp_region_tail 7 (fun w' => (Bx w' pm #[.int .i64 v]) /\ (Fr w' pm) /\ (Bx w' pa #[.int .i64 a.v.h, .int .i64 a.v.w, .int .i64 a.v.c, .int .i64 a.v.z, .int .i64 a.base, .int .i64 a.many, sa]) /\ (Bx w' pc #[.int .i64 c]) /\ Grown W w' /\ W.heap.size <= w'.heap.size) [(9, ?va9), (10, ?va10), (11, ?va11), (12, ?va12), (13, ?va13), (14, ?va14), (15, ?va15)] [9, 10, 11, 12, 13, 14, 15] (by kernel_rfl) (by kernel_rfl) rfl (by kernel_rfl) ⟨hm, fm, ha, hc, G0, S0⟩ (fun w h => h) ?alla ?fina
  case alla =>
    simp only [fillA, Act.put, List.setIfInBounds_toArray, List.set_cons_zero, List.set_cons_succ, List.take_succ_cons, List.take_zero]
    iterate 7 (refine owes_cons (fun w hw K hK => ?_) ?_; focus ((have hS := Lib.hid hw); go_split_ands; go_simp; (try simp only [Act.put, List.setIfInBounds_toArray, List.set_cons_zero, List.set_cons_succ]); first | exact hK _ hS.out | ((((with_reducible refine (A1.out _ (by with_reducible assumption)).mono ?_); rintro e w6 ⟨rfl, gg⟩)); refine hK _ ?_; (exact kKeep))))
    exact True.intro
  case fina =>
    rintro w9 ⟨m9, f9, a9, c9, g9, z9⟩
    simp only [fillA, Act.put, List.setIfInBounds_toArray, List.set_cons_zero, List.set_cons_succ, List.drop_succ_cons, List.drop_zero]
    go_wp2_with fail
    refine ⟨rfl, .tuple #[], ?_, ⟨_, rfl⟩, box1_set m9, free_set f9, (KeepK.of_past (Grown.past g9)).set _ _⟩
    simp [results, Tryz.results125, go_sem]
theorem mean_step (a : ViewD) (sa : Value) (pa pm pc : Nat) (v c pl y x q r : Int) (W : World) (hm : (Bx W pm #[.int .i64 v])) (fm : (Fr W pm)) (lm : pm < W.heap.size) (ha : (Bx W pa #[.int .i64 a.v.h, .int .i64 a.v.w, .int .i64 a.v.c, .int .i64 a.v.z, .int .i64 a.base, .int .i64 a.many, sa])) (la : pa < W.heap.size) (hc : (Bx W pc #[.int .i64 c])) (lc : pc < W.heap.size)
    (na : IsNums .i8 W sa a.xs) (oa : ViewOk a) (hq : Hid (q = atD a y x c)) (ra : AtOk a y x c) (v1 : -10000 <= v) (v2 : v <= 10000) (hr : Hid (r = v + q)) :
    Calls Tryz.prog 127 #[.int .i64 pl, .int .i64 y, .int .i64 x, .pointer (some ⟨pm, 0, none⟩), .pointer (some ⟨pa, 0, none⟩), .pointer (some ⟨pc, 0, none⟩)] W (StepPost pm r W) := by
  have bd := atD_bd oa y x c
  rw [<- hq.out] at bd
  have em : IntKind.i64.wrap (v + q) = r := by rw [hr.out]; exact IntWalk.i64_in _ (by omega)
  have A1 := Lib.hid (fun w (g : Grown W w) => at_any a sa y x c q w (na.grow (Grown.past g)) oa hq ra)
  have G0 := Grown.refl W
  have S0 : W.heap.size <= W.heap.size := Nat.le_refl _
  clear na oa ra hq hr bd
  go_enter Tryz.func127, Tryz.ntmps127
  go_upto_region 0 with fail
  refine wp_region_tail 7 (fun w' => (Bx w' pm #[.int .i64 v]) /\ (Fr w' pm) /\ (Bx w' pa #[.int .i64 a.v.h, .int .i64 a.v.w, .int .i64 a.v.c, .int .i64 a.v.z, .int .i64 a.base, .int .i64 a.many, sa]) /\ (Bx w' pc #[.int .i64 c]) /\ Grown W w' /\ W.heap.size <= w'.heap.size) [(9, ?va9), (10, ?va10), (11, ?va11), (12, ?va12), (13, ?va13), (14, ?va14), (15, ?va15)] [9, 10, 11, 12, 13, 14, 15] (by kernel_rfl) (by kernel_rfl) rfl (by kernel_rfl) ⟨hm, fm, ha, hc, G0, S0⟩ (fun w h => h) ?alla ?fina
  case alla =>
    simp only [fillA, Act.put, List.setIfInBounds_toArray, List.set_cons_zero, List.set_cons_succ, List.take_succ_cons, List.take_zero]
    iterate 7 (refine owes_cons (fun w hw K hK => ?_) ?_; focus ((have hS := Lib.hid hw); go_split_ands; go_simp; (try simp only [Act.put, List.setIfInBounds_toArray, List.set_cons_zero, List.set_cons_succ]); first | exact hK _ hS.out | ((((with_reducible refine (A1.out _ (by with_reducible assumption)).mono ?_); rintro e w6 ⟨rfl, gg⟩)); refine hK _ ?_; (exact kKeep))))
    exact True.intro
  case fina =>
    rintro w9 ⟨m9, f9, a9, c9, g9, z9⟩
    simp only [fillA, Act.put, List.setIfInBounds_toArray, List.set_cons_zero, List.set_cons_succ, List.drop_succ_cons, List.drop_zero]
    go_wp2_with fail
    refine ⟨rfl, .tuple #[], ?_, ⟨_, rfl⟩, box1_set m9, free_set f9, (KeepK.of_past (Grown.past g9)).set _ _⟩
    simp [results, Tryz.results127, go_sem]
theorem nums_parts {k : IntKind} {w : World} {A : Option Addr} {l cap : Nat} {xs : List Int} (h : IsNums k w (.slice A l cap) xs) (h0 : 0 < xs.length) :
    ∃ b off, A = some ⟨b, off, none⟩ /\ l = xs.length /\ xs.length <= cap /\ cap <= maxLen /\ b < w.heap.size /\ ∀ i, i < xs.length -> w.cell? ⟨b, off + i, none⟩ = some (.int k (xs.getD i 0)) /\ (Lit.int k (xs.getD i 0)).wf = true := by
  obtain ⟨A', cap', e, a1, a2, a3, a4, a5⟩ := h
  simp only [Value.slice.injEq] at e
  obtain ⟨rfl, rfl, rfl⟩ := e
  obtain ⟨b, off, rfl, hb, hc⟩ := a5 h0
  exact ⟨b, off, rfl, rfl, a1, a2, hb, fun i hi => ⟨hc i hi, a4 _ (by simp [List.getD, hi])⟩⟩
theorem wf_i8 {x : Int} (h : (Lit.int .i8 x).wf = true) : -128 <= x /\ x <= 127 := by
  simpa [Lit.wf, IntKind.min, IntKind.max, IntKind.bits, IntKind.signed] using h
set_option maxHeartbeats 4000000 in
theorem weigh_step (n : NodeD) (vi vb lv : Value) (sb so cap : Nat) (m : Int × Int × Int) (pt : Nat) (a : ViewD) (sa : Value) (pa pm pc pn pf : Nat) (v fr y x r : Int) (c pl mn s0 : Nat) (fid : FuncId) (W : World)
    (ht : (Bx W pt #[.int .i64 n.op, vi, .int .i64 n.k, .int .i64 n.stride, .int .i64 n.pad, .int .i64 n.out, .int .i64 n.mul, .int .i64 n.shift, .int .i64 n.zero, .int .i64 n.th, .int .i64 n.tw, .int .i64 n.tc, .slice (some ⟨sb, so, none⟩) n.ws.length cap, vb, lv, .int .i64 m.1, .int .i64 m.2.1, .int .i64 m.2.2])) (lt : pt < W.heap.size) (nt : pt ≠ pm) (nw : IsNums .i8 W (.slice (some ⟨sb, so, none⟩) n.ws.length cap) n.ws) (nsb : sb ≠ pm)
    (hm : (Bx W pm #[.int .i64 v])) (fm : (Fr W pm)) (lm : pm < W.heap.size) (ha : (Bx W pa #[.int .i64 a.v.h, .int .i64 a.v.w, .int .i64 a.v.c, .int .i64 a.v.z, .int .i64 a.base, .int .i64 a.many, sa])) (la : pa < W.heap.size) (npa : pa ≠ pm) (hc : (Bx W pc #[.int .i64 c])) (lc : pc < W.heap.size) (npc : pc ≠ pm)
    (hn : (Bx W pn #[.int .i64 mn])) (ln : pn < W.heap.size) (npn : pn ≠ pm) (hf : (Bx W pf #[.func (.func fid) #[] #[]])) (lf : pf < W.heap.size) (npf : pf ≠ pm)
    (hE : Enters fid) (hF : ∀ w, Calls Tryz.prog fid #[.int .i64 c] w fun e w' => e = .returned (.int .i64 fr) /\ Grown w w')
    (na : ∀ w, KeepK pm W w -> IsNums .i8 w sa a.xs) (oa : ViewOk a) (ra : ∀ d : Nat, d < mn -> AtOk a y x (fr + d)) (f0 : 0 <= fr) (f8 : fr <= 8) (k1 : 1 <= n.k) (k3 : n.k <= 3) (c8 : c < 8) (p9 : pl < 9) (m1 : 1 <= mn) (m8 : mn <= 8)
    (hs0 : s0 = (c * (n.k.toNat * n.k.toNat) + pl) * mn) (hsl : s0 + mn <= n.ws.length) (v1 : -100000000 <= v) (v2 : v <= 100000000)
    (hr : Hid (r = v + sumN (fun d => overD a y x (fr + d) * n.ws.getD (s0 + d) 0) mn)) :
    Calls Tryz.prog 122 #[.int .i64 pl, .int .i64 y, .int .i64 x, .pointer (some ⟨pt, 0, none⟩), .pointer (some ⟨pc, 0, none⟩), .pointer (some ⟨pn, 0, none⟩), .pointer (some ⟨pm, 0, none⟩), .pointer (some ⟨pa, 0, none⟩), .pointer (some ⟨pf, 0, none⟩)] W (StepPost pm r W) := by
  have AT1 := Lib.hid (fun (d : Nat) (hd : d < mn) (q : Int) (hq : Hid (q = overD a y x (fr + d))) w (g : KeepK pm W w) => over_any a sa y x (fr + d) q w (na w g) oa hq (ra d hd))
  have OB := Lib.hid (fun d => overD_bd oa y x (fr + d))
  obtain ⟨sb', so', e, _, a1, a2, hsb, hcells⟩ := nums_parts nw (by omega)
  simp only [Option.some.injEq, Addr.mk.injEq, and_true] at e
  obtain ⟨rfl, rfl⟩ := e
  have HC := Lib.hid hcells
  have wl : n.ws.length <= 9223372036854775807 := by unfold maxLen at a2; omega
  have FR := Lib.hid hF
  have hE := fun xs w => hE xs w
  have q1 : 0 <= (c : Int) * n.k /\ (c : Int) * n.k <= 8 * 3 := ⟨Int.mul_nonneg (by omega) (by omega), Int.mul_le_mul (by omega) k3 (by omega) (by omega)⟩
  have q2 : 0 <= (c : Int) * n.k * n.k /\ (c : Int) * n.k * n.k <= 24 * 3 := ⟨Int.mul_nonneg q1.1 (by omega), Int.mul_le_mul (by omega) k3 (by omega) (by omega)⟩
  have q3 : 0 <= ((c : Int) * n.k * n.k + pl) * mn /\ ((c : Int) * n.k * n.k + pl) * mn <= 100 * 8 := ⟨Int.mul_nonneg (by omega) (by omega), Int.mul_le_mul (by omega) (by omega) (by omega) (by omega)⟩
  have q4 : ((c : Int) * n.k * n.k + pl) * mn = (s0 : Int) := by
    obtain ⟨kn, hk⟩ : ∃ kn : Nat, n.k = kn := ⟨n.k.toNat, by omega⟩
    rw [hs0, hk, Int.toNat_natCast, Int.natCast_mul, Int.natCast_add, Int.natCast_mul, Int.natCast_mul, Int.mul_assoc]
  have eA : IntKind.i64.wrap ((c : Int) * n.k) = (c : Int) * n.k := IntWalk.i64_in _ (by omega)
  have eB : IntKind.i64.wrap ((c : Int) * n.k * n.k) = (c : Int) * n.k * n.k := IntWalk.i64_in _ (by omega)
  have eC : IntKind.i64.wrap ((c : Int) * n.k * n.k + pl) = (c : Int) * n.k * n.k + pl := IntWalk.i64_in _ (by omega)
  have eD : IntKind.i64.wrap (((c : Int) * n.k * n.k + pl) * mn) = (s0 : Int) := by rw [<- q4]; exact IntWalk.i64_in _ (by omega)
  have s1 : (0 : Int) <= (s0 : Int) := by omega
  have s2 : (s0 : Int) <= (n.ws.length : Int) := by omega
  have s3 : s0 <= n.ws.length := by omega
  have s4 : s0 < n.ws.length := by omega
  have HS := Lib.hid hs0
  have K0 := KeepK.refl pm W
  have sz : W.heap.size <= W.heap.size := Nat.le_refl _
  clear hcells a2 nw na oa ra q1 q2 q3 q4 hs0 hF
  have ht0 := ht
  go_enter Tryz.func122, Tryz.ntmps122
  go_wp2_with fail
  go_loopw [32] (fun i wr => ∃ d : Nat, d <= mn /\ i = .int .i64 d /\ (Bx wr pm #[.int .i64 (v + sumN (fun d => overD a y x (fr + d) * n.ws.getD (s0 + d) 0) d)]) /\ (Fr wr pm) /\ KeepK pm W wr) (fun i _ => mn - (intOf i).toNat)
  case atStart => exact ⟨0, by omega, rfl, by simpa [sumN] using hm, fm, K0⟩
  case round =>
    clear hm fm K0
    obtain ⟨d, hd, rfl, bm, fm, kk⟩ := hrel
    have lmr : pm < wr.heap.size := by have := kk.2.2.1; omega
    by_cases h : d < mn
    . have ha1 := box_keepK kk ha la npa
      have hc1 := box_keepK kk hc lc npc
      have hn1 := box_keepK kk hn ln npn
      have hf1 := box_keepK kk hf lf npf
      obtain ⟨cw, ww⟩ := HC.out (s0 + d) (by omega)
      have cw1 : wr.cell? ⟨sb, so + s0 + d, none⟩ = some (.int .i8 (n.ws.getD (s0 + d) 0)) := by rw [Nat.add_assoc]; exact (kk.cell hsb nsb).trans cw
      have ww1 := wf_i8 ww
      obtain ⟨wt, hwt⟩ : ∃ wt, n.ws.getD (s0 + d) 0 = wt := ⟨_, rfl⟩
      obtain ⟨q, hq⟩ : ∃ q, Hid (q = overD a y x (fr + d)) := ⟨_, Lib.hid rfl⟩
      have bq := OB.out d
      have bs := sumN_bd (f := fun d => overD a y x (fr + d) * n.ws.getD (s0 + d) 0) (B := 255 * 128) (k := d) (fun i hi => by
        have w2 := wf_i8 (HC.out (s0 + i) (by omega)).2
        exact prod_bd (OB.out i).1 (OB.out i).2 (by omega) (by omega))
      have nx : sumN (fun d => overD a y x (fr + d) * n.ws.getD (s0 + d) 0) (d + 1) = sumN (fun d => overD a y x (fr + d) * n.ws.getD (s0 + d) 0) d + q * wt := by rw [hq.out, <- hwt]; rfl
      rw [<- hq.out] at bq
      rw [hwt] at cw1 ww1
      obtain ⟨u, hu⟩ : ∃ u, v + sumN (fun d => overD a y x (fr + d) * n.ws.getD (s0 + d) 0) d = u := ⟨_, rfl⟩
      rw [hu] at bm
      have pb := prod_bd bq.1 bq.2 (show -128 <= wt by omega) (show wt <= 128 by omega)
      have bd8 : (d : Int) * (255 * 128) <= 8 * (255 * 128) := Int.mul_le_mul_of_nonneg_right (by omega) (by omega)
      have ub : -200000000 <= u /\ u <= 200000000 := by omega
      have NX : Hid (v + sumN (fun d => overD a y x (fr + d) * n.ws.getD (s0 + d) 0) (d + 1) = u + q * wt) := Lib.hid (by rw [nx, <- hu]; omega)
      have eP : IntKind.i64.wrap (q * wt) = q * wt := IntWalk.i64_in _ (by omega)
      have eS : IntKind.i64.wrap (u + q * wt) = u + q * wt := IntWalk.i64_in _ (by omega)
      have eF : IntKind.i64.wrap (fr + d) = fr + d := IntWalk.i64_in _ (by omega)
      have eW : IntKind.i64.wrap wt = wt := IntWalk.i64_in _ (by omega)
      have i1 : (0 : Int) <= (d : Int) := by omega
      have i2 : (d : Int) < ((n.ws.length - s0 : Nat) : Int) := by omega
      have OV := Lib.hid (fun w (g : Grown wr w) => AT1.out d h q hq w (kk.trans (KeepK.of_past (Grown.past g))))
      have G0 := Grown.refl wr
      have S0 : wr.heap.size <= wr.heap.size := Nat.le_refl _
      have l1 : pa < wr.heap.size := by have := kk.2.2.1; omega
      have l2 : pc < wr.heap.size := by have := kk.2.2.1; omega
      have l3 : pn < wr.heap.size := by have := kk.2.2.1; omega
      have l4 : pf < wr.heap.size := by have := kk.2.2.1; omega
      have l5 : sb < wr.heap.size := by have := kk.2.2.1; omega
      clear bs nx hu pb bd8 ub hwt cw ww bq ha hc hn hf ht ht0 hq ww1
      go_upto_region 4 with fail
      refine wp_region_tail 17 (fun w' => (Bx w' pm #[.int .i64 u]) /\ (Fr w' pm) /\ (Bx w' pa #[.int .i64 a.v.h, .int .i64 a.v.w, .int .i64 a.v.c, .int .i64 a.v.z, .int .i64 a.base, .int .i64 a.many, sa]) /\ (Bx w' pc #[.int .i64 c]) /\ (Bx w' pf #[.func (.func fid) #[] #[]]) /\ w'.cell? ⟨sb, so + s0 + d, none⟩ = some (.int .i8 wt) /\ Grown wr w' /\ wr.heap.size <= w'.heap.size) [(35, ?va35), (36, ?va36), (37, ?va37), (38, ?va38), (39, ?va39), (40, ?va40), (41, ?va41), (42, ?va42), (43, ?va43), (44, ?va44), (45, ?va45), (46, ?va46), (47, ?va47), (48, ?va48), (49, ?va49), (50, ?va50), (51, ?va51)] [35, 36, 37, 38, 39, 40, 41, 42, 43, 44, 45, 46, 47, 48, 49, 50, 51] (by kernel_rfl) (by kernel_rfl) rfl (by kernel_rfl) ⟨bm, fm, ha1, hc1, hf1, cw1, G0, S0⟩ (fun w h => h) ?alla ?fina
      case alla =>
        simp only [fillA, Act.put, List.setIfInBounds_toArray, List.set_cons_zero, List.set_cons_succ, List.take_succ_cons, List.take_zero]
        iterate 17 (refine owes_cons (fun w hw K hK => ?_) ?_; focus ((have hS := Lib.hid hw); go_split_ands; go_simp; (try simp only [Act.put, List.setIfInBounds_toArray, List.set_cons_zero, List.set_cons_succ]); first | exact hK _ hS.out | ((first | ((with_reducible refine (OV.out _ (by with_reducible assumption)).mono ?_); rintro e w6 ⟨rfl, gg⟩) | ((with_reducible refine (FR.out _).mono ?_); rintro e w6 ⟨rfl, gg⟩)); refine hK _ ?_; (exact kKeep))))
        exact True.intro
      case fina =>
        rintro w9 ⟨m9, f9, a9, c9, d9, e9, g9, z9⟩
        simp only [fillA, Act.put, List.setIfInBounds_toArray, List.set_cons_zero, List.set_cons_succ, List.drop_succ_cons, List.drop_zero]
        go_wp2_with fail
        go_roundw
        case rel => exact ⟨d + 1, by omega, by go_num, by rw [NX.out]; exact box1_set m9, free_set f9, (kk.trans (KeepK.of_past (Grown.past g9))).set _ _⟩
        case measure => simp [intOf]; omega
    . obtain rfl : d = mn := by omega
      rw [<- hr.out] at bm
      go_wp2_with fail
      refine ⟨rfl, .tuple #[], ?_, ⟨_, rfl⟩, bm, fm, kk⟩
      simp [results, Tryz.results122, go_sem]
end Go.Proofs.YtliijchcpooplaaGreat
