/- Sums of bytes in plain numbers: halving with a pattern is linear over XOR, and one to one below 2^32; what is turned within four bytes turns what is left. -/
import Derived.Test.YtdfkpclilcnofaaProg
namespace Go.Proofs.Ytdfkpclilcnofaa

def hv (r : Nat) : Nat := if r % 2 = 1 then (r / 2) ^^^ 3988292384 else r / 2
def hvs : Nat → Nat → Nat
  | 0, r => r
  | n + 1, r => hvs n (hv r)
def byteD (r c : Nat) : Nat := hvs 8 (r ^^^ c)
def crc (r : Nat) (l : List Nat) : Nat := l.foldl byteD r
def sumD (l : List Nat) : Nat := crc 4294967295 l ^^^ 4294967295

theorem hv_zero : hv 0 = 0 := by decide
theorem hv_xor (x y : Nat) : hv (x ^^^ y) = hv x ^^^ hv y := by
  have e : (x ^^^ y) / 2 = x / 2 ^^^ y / 2 := by
    apply Nat.eq_of_testBit_eq; intro i
    simp [Nat.testBit_xor, Nat.testBit_div_two]
  have m : (x ^^^ y) % 2 = (x % 2 + y % 2) % 2 := by
    have := @Nat.xor_mod_two_eq_one x y
    omega
  unfold hv
  rcases Nat.mod_two_eq_zero_or_one x with hx | hx <;> rcases Nat.mod_two_eq_zero_or_one y with hy | hy <;> simp only [m, hx, hy, e] <;> simp
  · rw [Nat.xor_assoc]
  · rw [Nat.xor_assoc, Nat.xor_assoc, Nat.xor_comm 3988292384 (y / 2)]
  · rw [Nat.xor_assoc, ← Nat.xor_assoc 3988292384, Nat.xor_comm 3988292384 (y / 2), Nat.xor_assoc (y / 2)]; simp
theorem xor_zero_eq {x y : Nat} (h : x ^^^ y = 0) : x = y := by
  have := congrArg (· ^^^ y) h
  simpa [Nat.xor_assoc] using this
theorem hv_lt {x : Nat} (h : x < 2 ^ 32) : hv x < 2 ^ 32 := by
  unfold hv
  split
  · exact Nat.xor_lt_two_pow (by omega) (by decide)
  · omega
theorem hv_eq_zero {x : Nat} (h : x < 2 ^ 32) (z : hv x = 0) : x = 0 := by
  unfold hv at z
  split at z
  · have := xor_zero_eq z
    omega
  · omega
theorem hvs_zero (n : Nat) : hvs n 0 = 0 := by
  induction n with
  | zero => rfl
  | succ n ih => show hvs n (hv 0) = 0; rw [hv_zero, ih]
theorem hvs_xor (n : Nat) (x y : Nat) : hvs n (x ^^^ y) = hvs n x ^^^ hvs n y := by
  induction n generalizing x y with
  | zero => rfl
  | succ n ih => show hvs n (hv _) = hvs n (hv _) ^^^ hvs n (hv _); rw [hv_xor, ih]
theorem hvs_lt (n : Nat) {x : Nat} (h : x < 2 ^ 32) : hvs n x < 2 ^ 32 := by
  induction n generalizing x with
  | zero => exact h
  | succ n ih => exact ih (hv_lt h)
theorem hvs_eq_zero (n : Nat) {x : Nat} (h : x < 2 ^ 32) (z : hvs n x = 0) : x = 0 := by
  induction n generalizing x with
  | zero => exact z
  | succ n ih => exact hv_eq_zero h (ih (hv_lt h) z)
theorem hvs_add (m n x : Nat) : hvs (m + n) x = hvs n (hvs m x) := by
  induction m generalizing x with
  | zero => simp [hvs]
  | succ m ih => rw [show m + 1 + n = (m + n) + 1 by omega]; exact ih (hv x)
theorem hvs_snoc (n x : Nat) : hvs (n + 1) x = hv (hvs n x) := hvs_add n 1 x
theorem hv_two (y : Nat) : hv (2 * y) = y := by unfold hv; rw [if_neg (by omega)]; omega
theorem hvs8 (y : Nat) : hvs 8 (256 * y) = y := by
  show hv (hv (hv (hv (hv (hv (hv (hv (256 * y)))))))) = y
  rw [show 256 * y = 2 * (2 * (2 * (2 * (2 * (2 * (2 * (2 * y))))))) by omega]
  simp only [hv_two]

theorem byte_lt {r c : Nat} (h : r < 2 ^ 32) (hc : c < 256) : byteD r c < 2 ^ 32 := hvs_lt 8 (Nat.xor_lt_two_pow h (by omega))
theorem crc_lt {r : Nat} {l : List Nat} (h : r < 2 ^ 32) (hl : ∀ c ∈ l, c < 256) : crc r l < 2 ^ 32 := by
  induction l generalizing r with
  | nil => exact h
  | cons c l ih => exact ih (byte_lt h (hl c (List.mem_cons_self ..))) (fun d hd => hl d (List.mem_cons_of_mem _ hd))
theorem crc_cons (r c : Nat) (l : List Nat) : crc r (c :: l) = crc (byteD r c) l := rfl
theorem crc_app (r : Nat) (l m : List Nat) : crc r (l ++ m) = crc (crc r l) m := List.foldl_append ..
theorem crc_snoc (r : Nat) (l : List Nat) (c : Nat) : crc r (l ++ [c]) = byteD (crc r l) c := by rw [crc_app]; rfl
theorem sum_lt {l : List Nat} (hl : ∀ c ∈ l, c < 256) : sumD l < 2 ^ 32 := Nat.xor_lt_two_pow (crc_lt (by decide) hl) (by decide)

theorem xor4 (a b c d : Nat) : (a ^^^ b) ^^^ (c ^^^ d) = (a ^^^ c) ^^^ (b ^^^ d) := by
  rw [Nat.xor_assoc, Nat.xor_assoc, ← Nat.xor_assoc b, Nat.xor_comm b c, Nat.xor_assoc c]
theorem byte_xor (r s a b : Nat) : byteD (r ^^^ s) (a ^^^ b) = byteD r a ^^^ byteD s b := by
  unfold byteD; rw [xor4, hvs_xor]
/-- What is turned turns what is left, whatever it is in. -/
theorem crc_xor (r s : Nat) (l m : List Nat) (h : l.length = m.length) : crc (r ^^^ s) (List.zipWith (· ^^^ ·) l m) = crc r l ^^^ crc s m := by
  induction l generalizing r s m with
  | nil => cases m with
    | nil => rfl
    | cons => simp at h
  | cons a l ih => cases m with
    | nil => simp at h
    | cons b m =>
      simp only [List.zipWith_cons_cons, crc_cons]
      rw [byte_xor]
      exact ih _ _ m (by simpa using h)
theorem crc_noughts (r n : Nat) : crc r (List.replicate n 0) = hvs (8 * n) r := by
  induction n generalizing r with
  | zero => rfl
  | succ n ih =>
    rw [List.replicate_succ, crc_cons, ih]
    unfold byteD
    rw [Nat.xor_zero, show 8 * (n + 1) = 8 + 8 * n by omega, hvs_add]

def word (a b c d : Nat) : Nat := a ^^^ (256 * b) ^^^ (65536 * c) ^^^ (16777216 * d)
theorem crc_four (r a b c d : Nat) : crc r [a, b, c, d] = hvs 32 (r ^^^ word a b c d) := by
  have e : ∀ x y : Nat, hvs 8 (x ^^^ 256 * y) = hvs 8 x ^^^ y := fun x y => by rw [hvs_xor, hvs8]
  show byteD (byteD (byteD (byteD r a) b) c) d = _
  unfold byteD word
  rw [show 32 = 8 + (8 + (8 + 8)) from rfl, hvs_add, hvs_add, hvs_add]
  rw [← Nat.xor_assoc, ← Nat.xor_assoc, ← Nat.xor_assoc]
  rw [show 16777216 * d = 256 * (256 * (256 * d)) by omega, show 65536 * c = 256 * (256 * c) by omega]
  rw [e, e, e, e, e, e]
theorem word_add {a b c d : Nat} (ha : a < 256) (hb : b < 256) (hc : c < 256) (_hd : d < 256) : word a b c d = a + 256 * b + 65536 * c + 16777216 * d := by
  have e : ∀ k x y : Nat, x < 2 ^ k → x ^^^ (2 ^ k * y) = x + 2 ^ k * y := by
    intro k x y h
    rw [Nat.add_comm, Nat.two_pow_add_eq_or_of_lt h]
    apply Nat.eq_of_testBit_eq; intro i
    simp only [Nat.testBit_xor, Nat.testBit_or, Nat.testBit_two_pow_mul]
    by_cases k ≤ i
    · rw [Nat.testBit_lt_two_pow (Nat.lt_of_lt_of_le h (Nat.pow_le_pow_right (by omega) (by assumption)))]; simp
    · simp [*]
  unfold word
  rw [e 8 a b (by omega), e 16 (a + 256 * b) c (by omega), e 24 (a + 256 * b + 65536 * c) d (by omega)]
theorem word_inj {a b c d a' b' c' d' : Nat} (ha : a < 256) (hb : b < 256) (hc : c < 256) (hd : d < 256) (ha' : a' < 256) (hb' : b' < 256) (hc' : c' < 256) (hd' : d' < 256) (h : word a b c d = word a' b' c' d') : a = a' ∧ b = b' ∧ c = c' ∧ d = d' := by
  rw [word_add ha hb hc hd, word_add ha' hb' hc' hd'] at h
  omega
theorem word_lt {a b c d : Nat} (ha : a < 256) (hb : b < 256) (hc : c < 256) (hd : d < 256) : word a b c d < 2 ^ 32 := by rw [word_add ha hb hc hd]; omega

def le4 (r : Nat) : List Nat := [r % 256, r / 256 % 256, r / 65536 % 256, r / 16777216 % 256]
def sealD (l : List Nat) : List Nat := l ++ le4 (sumD l)
theorem word_le4 {r : Nat} (h : r < 2 ^ 32) : word (r % 256) (r / 256 % 256) (r / 65536 % 256) (r / 16777216 % 256) = r := by
  rw [word_add (by omega) (by omega) (by omega) (by omega)]; omega

theorem hvs_inj (n : Nat) {x y : Nat} (hx : x < 2 ^ 32) (hy : y < 2 ^ 32) (h : hvs n x = hvs n y) : x = y := by
  have : hvs n (x ^^^ y) = 0 := by rw [hvs_xor, h, Nat.xor_self]
  exact xor_zero_eq (hvs_eq_zero n (Nat.xor_lt_two_pow hx hy) this)

/-- What is sealed leaves one number, and nothing else of so many bytes does. -/
theorem sealed_iff {s : List Nat} (hs : ∀ c ∈ s, c < 256) (h4 : 4 ≤ s.length) : sealD (s.take (s.length - 4)) = s ↔ crc 4294967295 s = hvs 32 4294967295 := by
  obtain ⟨t, a, b, c, d, rfl⟩ : ∃ t a b c d, s = t ++ [a, b, c, d] := by
    have e := List.take_append_drop (s.length - 4) s
    have l : (s.drop (s.length - 4)).length = 4 := by rw [List.length_drop]; omega
    match hq : s.drop (s.length - 4), l with
    | [a, b, c, d], _ => exact ⟨_, a, b, c, d, by rw [← hq, e]⟩
  have ht : ∀ c ∈ t, c < 256 := fun c hc => hs c (List.mem_append_left _ hc)
  have ha := hs a (by simp)
  have hb := hs b (by simp)
  have hc := hs c (by simp)
  have hd := hs d (by simp)
  have e : (t ++ [a, b, c, d]).take ((t ++ [a, b, c, d]).length - 4) = t := by simp
  rw [e, crc_app, crc_four]
  have lt := crc_lt (r := 4294967295) (by decide) ht
  have ls := sum_lt ht
  have key : crc 4294967295 t ^^^ sumD t = 4294967295 := by
    unfold sumD; rw [← Nat.xor_assoc, Nat.xor_self, Nat.zero_xor]
  constructor
  · intro h
    have h := List.append_cancel_left h
    simp only [le4, List.cons.injEq, and_true] at h
    obtain ⟨h1, h2, h3, h4⟩ := h
    rw [← h1, ← h2, ← h3, ← h4, word_le4 ls, key]
  · intro h
    have h := hvs_inj 32 (Nat.xor_lt_two_pow lt (word_lt ha hb hc hd)) (by decide) h
    have h2 : word a b c d = sumD t := by
      have : crc 4294967295 t ^^^ (crc 4294967295 t ^^^ word a b c d) = crc 4294967295 t ^^^ 4294967295 := by rw [h]
      rw [← Nat.xor_assoc, Nat.xor_self, Nat.zero_xor] at this
      exact this
    have w := word_add ha hb hc hd
    clear h
    have h3 : le4 (sumD t) = [a, b, c, d] := by
      rw [← h2, w]
      simp only [le4, List.cons.injEq, and_true]
      omega
    unfold sealD
    rw [h3]
theorem seal_len (l : List Nat) : (sealD l).length = l.length + 4 := by simp [sealD, le4]
theorem seal_lt {l : List Nat} (hl : ∀ c ∈ l, c < 256) : ∀ c ∈ sealD l, c < 256 := by
  intro c hc
  rcases List.mem_append.1 hc with h | h
  · exact hl c h
  · simp only [le4, List.mem_cons, List.not_mem_nil, or_false] at h; omega
theorem seal_take (l : List Nat) : (sealD l).take ((sealD l).length - 4) = l := by rw [seal_len]; simp [sealD]
theorem seal_open (l : List Nat) : sealD ((sealD l).take ((sealD l).length - 4)) = sealD l := by rw [seal_take]

/-- Of bytes that are noughts but for four side by side something is left, if these are not all noughts. -/
theorem four_left {f : List Nat} {p : Nat} (hf : ∀ c ∈ f, c < 256) (hz : ∀ i, i < f.length → (i < p ∨ p + 4 ≤ i) → f.getD i 0 = 0) (h : crc 0 f = 0) : ∀ i, i < f.length → f.getD i 0 = 0 := by
  -- padded to length at least p + 4
  let g := f ++ List.replicate (p + 4) 0
  have hg : crc 0 g = 0 := by show crc 0 (f ++ _) = 0; rw [crc_app, h, crc_noughts, hvs_zero]
  have gl : p + 4 ≤ g.length := by simp [g]
  have gb : ∀ c ∈ g, c < 256 := by
    intro c hc
    rcases List.mem_append.1 hc with k | k
    · exact hf c k
    · rw [List.eq_of_mem_replicate k]; decide
  have gz : ∀ i, (i < p ∨ p + 4 ≤ i) → g.getD i 0 = 0 := by
    intro i hi
    by_cases c : i < f.length
    · have := hz i c hi
      simpa [g, List.getD, List.getElem?_append_left c] using this
    · show ((f ++ List.replicate (p + 4) 0)[i]?).getD 0 = 0
      rw [List.getElem?_append_right (by omega), List.getElem?_replicate]
      split <;> rfl
  have e1 : g.take p = List.replicate p 0 := by
    apply List.ext_getElem (by simp; omega)
    intro i h1 h2
    have := gz i (Or.inl (by simp at h1; omega))
    simp only [List.getElem_take, List.getElem_replicate]
    simp [List.getD] at this
    have l : i < g.length := by simp at h1; omega
    rw [List.getElem?_eq_getElem l] at this
    simpa using this
  have e2 : g.drop (p + 4) = List.replicate (g.length - (p + 4)) 0 := by
    apply List.ext_getElem (by simp)
    intro i h1 h2
    have l : p + 4 + i < g.length := by simp at h1; omega
    have := gz (p + 4 + i) (Or.inr (by omega))
    simp only [List.getElem_drop, List.getElem_replicate]
    simp [List.getD] at this
    rw [List.getElem?_eq_getElem l] at this
    simpa using this
  obtain ⟨a, b, c, d, e3⟩ : ∃ a b c d, (g.drop p).take 4 = [a, b, c, d] := by
    have l : ((g.drop p).take 4).length = 4 := by simp; omega
    match hq : (g.drop p).take 4, l with
    | [a, b, c, d], _ => exact ⟨a, b, c, d, rfl⟩
  have e4 : g = List.replicate p 0 ++ ([a, b, c, d] ++ List.replicate (g.length - (p + 4)) 0) := by
    have h1 := (List.take_append_drop p g).symm
    have h2 := (List.take_append_drop 4 (g.drop p)).symm
    rw [e3, List.drop_drop, e2] at h2
    rw [e1, h2] at h1
    exact h1
  have m : ∀ x ∈ [a, b, c, d], x < 256 := fun x hx => gb x (by rw [e4]; exact List.mem_append_right _ (List.mem_append_left _ hx))
  have ha := m a (by simp)
  have hb := m b (by simp)
  have hc := m c (by simp)
  have hd := m d (by simp)
  rw [e4, crc_app, crc_noughts, hvs_zero, crc_app, crc_four, crc_noughts, Nat.zero_xor, ← hvs_add] at hg
  have w := hvs_eq_zero _ (word_lt ha hb hc hd) hg
  rw [word_add ha hb hc hd] at w
  intro i hi
  by_cases q : i < p ∨ p + 4 ≤ i
  · exact hz i hi q
  · have r : g[i]? = (([a, b, c, d] : List Nat))[i - p]? := by
      rw [e4, List.getElem?_append_right (by simp; omega), List.getElem?_append_left (by simp; omega)]
      simp
    have r' : g[i]? = f[i]? := List.getElem?_append_left hi
    show f[i]?.getD 0 = 0
    rw [← r', r]
    obtain ⟨rfl, rfl, rfl, rfl⟩ : a = 0 ∧ b = 0 ∧ c = 0 ∧ d = 0 := by omega
    have : i - p = 0 ∨ i - p = 1 ∨ i - p = 2 ∨ i - p = 3 := by omega
    rcases this with k | k | k | k <;> rw [k] <;> rfl
end Go.Proofs.Ytdfkpclilcnofaa
