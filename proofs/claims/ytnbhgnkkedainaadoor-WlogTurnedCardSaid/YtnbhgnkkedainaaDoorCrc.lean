/- Plain: the sum of bytes, bit by bit and by nibbles; words of four bytes; frames; what is taken, and scanned. -/
import Derived.WalkKit
namespace Go.Proofs.YtnbhgnkkedainaaDoor

/-- One shift. -/
def bit (n : Nat) : Nat := (n / 2) ^^^ (if n % 2 = 1 then 3988292384 else 0)
def stp (n : Nat) (c : UInt8) : Nat := bit (bit (bit (bit (bit (bit (bit (bit (n ^^^ c.toNat))))))))
def crcF (n : Nat) (l : List UInt8) : Nat := l.foldl stp n
def crc (l : List UInt8) : Nat := crcF 4294967295 l ^^^ 4294967295
def tab : List Nat := [0, 498536548, 997073096, 651767980, 1994146192, 1802195444, 1303535960, 1342533948, 3988292384, 4027552580, 3604390888, 3412177804, 2607071920, 2262029012, 2685067896, 3183342108]
def nib (r : Nat) : Nat := tab.getD r 0
def sh4 (n : Nat) : Nat := (n / 16) ^^^ nib (n % 16)
theorem xor_lt {a b : Nat} (ha : a < 4294967296) (hb : b < 4294967296) : a ^^^ b < 4294967296 := Nat.xor_lt_two_pow (n := 32) ha hb
theorem bit_lt {n : Nat} (h : n < 4294967296) : bit n < 4294967296 := by
  unfold bit
  refine xor_lt (by omega) ?_
  split <;> decide
theorem bit_half {n : Nat} (h : n < 4294967296) : bit n / 2147483648 = n % 2 := by
  unfold bit
  have e : ∀ a b : Nat, (a ^^^ b) / 2147483648 = (a / 2147483648) ^^^ (b / 2147483648) := fun a b => by
    have := Nat.shiftRight_xor_distrib (a := a) (b := b) (i := 31)
    simpa [Nat.shiftRight_eq_div_pow] using this
  rw [e, show n / 2 / 2147483648 = 0 by omega, Nat.zero_xor]
  by_cases h1 : n % 2 = 1
  · rw [if_pos h1, h1]
  · rw [if_neg h1, show n % 2 = 0 by omega]
theorem bit_inj {a b : Nat} (ha : a < 4294967296) (hb : b < 4294967296) (h : bit a = bit b) : a = b := by
  have h2 : a % 2 = b % 2 := by rw [← bit_half ha, ← bit_half hb, h]
  unfold bit at h
  rw [h2] at h
  have h3 : a / 2 = b / 2 := by
    have := congrArg (fun x => x ^^^ (if b % 2 = 1 then 3988292384 else 0)) h
    simpa [Nat.xor_assoc] using this
  omega
theorem bit_xor (a b : Nat) : bit (a ^^^ b) = bit a ^^^ bit b := by
  unfold bit
  have e1 : (a ^^^ b) / 2 = (a / 2) ^^^ (b / 2) := by
    have := Nat.shiftRight_xor_distrib (a := a) (b := b) (i := 1)
    simpa [Nat.shiftRight_eq_div_pow] using this
  have e2 : (a ^^^ b) % 2 = (a % 2 + b % 2) % 2 := by
    have := Nat.xor_mod_two_pow (a := a) (b := b) (n := 1)
    simp only [Nat.pow_one] at this
    rw [this]
    have h1 : a % 2 = 0 ∨ a % 2 = 1 := by omega
    have h2 : b % 2 = 0 ∨ b % 2 = 1 := by omega
    rcases h1 with h1 | h1 <;> rcases h2 with h2 | h2 <;> rw [h1, h2] <;> rfl
  rw [e1, e2]
  have h1 : a % 2 = 0 ∨ a % 2 = 1 := by omega
  have h2 : b % 2 = 0 ∨ b % 2 = 1 := by omega
  generalize a / 2 = x
  generalize b / 2 = y
  rcases h1 with h1 | h1 <;> rcases h2 with h2 | h2 <;> rw [h1, h2] <;> simp
  · rw [Nat.xor_assoc]
  · rw [Nat.xor_assoc, Nat.xor_comm y 3988292384, ← Nat.xor_assoc]
  · apply Nat.eq_of_testBit_eq
    intro i
    simp only [Nat.testBit_xor]
    cases Nat.testBit x i <;> cases Nat.testBit y i <;> cases Nat.testBit 3988292384 i <;> rfl
theorem bit_two (k : Nat) : bit (2 * k) = k := by
  unfold bit
  rw [if_neg (by omega), Nat.xor_zero]; omega
theorem split16 (q r : Nat) (h : r < 16) : 16 * q + r = (16 * q) ^^^ r := by
  apply Nat.eq_of_testBit_eq
  intro i
  have h1 := Nat.testBit_two_pow_mul_add q (b := r) (i := 4) (by omega) i
  have h2 := Nat.testBit_two_pow_mul_add q (b := 0) (i := 4) (by decide) i
  simp only [Nat.reducePow, Nat.add_zero, Nat.zero_testBit] at h1 h2
  rw [Nat.testBit_xor, h1, h2]
  by_cases hi : i < 4
  · simp [hi]
  · have h3 : r.testBit i = false := Nat.testBit_lt_two_pow (Nat.lt_of_lt_of_le h (by
      rw [show (16 : Nat) = 2 ^ 4 by decide]; exact Nat.pow_le_pow_right (by omega) (by omega)))
    simp [hi, h3]
theorem sh4_eq (n : Nat) : sh4 n = bit (bit (bit (bit n))) := by
  have h : n = (16 * (n / 16)) ^^^ (n % 16) := by rw [← split16 _ _ (Nat.mod_lt _ (by decide))]; omega
  have hr : n % 16 < 16 := Nat.mod_lt _ (by decide)
  unfold sh4
  conv => rhs; rw [h]
  generalize n / 16 = q
  generalize n % 16 = r at hr ⊢
  simp only [bit_xor]
  rw [show 16 * q = 2 * (2 * (2 * (2 * q))) by omega]
  simp only [bit_two]
  congr 1
  have hall : ∀ r : Fin 16, nib r.val = bit (bit (bit (bit r.val))) := by decide
  exact hall ⟨r, hr⟩
theorem nib_lt (r : Nat) : nib r < 4294967296 := by
  by_cases h : r < 16
  · have hall : ∀ r : Fin 16, nib r.val < 4294967296 := by decide
    exact hall ⟨r, h⟩
  · unfold nib
    rw [List.getD_eq_getElem?_getD, List.getElem?_eq_none (by simp [tab]; omega)]; decide
theorem sh4_lt {n : Nat} (h : n < 4294967296) : sh4 n < 4294967296 := by
  rw [sh4_eq]; exact bit_lt (bit_lt (bit_lt (bit_lt h)))
theorem u8_lt (c : UInt8) : c.toNat < 4294967296 := by have := c.toNat_lt; omega
theorem stp_sh4 (n : Nat) (c : UInt8) : sh4 (sh4 (n ^^^ c.toNat)) = stp n c := by simp only [sh4_eq, stp]
theorem stp_lt {n : Nat} (h : n < 4294967296) (c : UInt8) : stp n c < 4294967296 := by
  rw [← stp_sh4]; exact sh4_lt (sh4_lt (xor_lt h (u8_lt c)))
theorem bit8_inj {a b : Nat} (ha : a < 4294967296) (hb : b < 4294967296) (h : bit (bit (bit (bit (bit (bit (bit (bit a))))))) = bit (bit (bit (bit (bit (bit (bit (bit b)))))))) : a = b := by
  have la : ∀ {n}, n < 4294967296 → bit n < 4294967296 := fun h => bit_lt h
  exact bit_inj ha hb (bit_inj (la ha) (la hb) (bit_inj (la (la ha)) (la (la hb)) (bit_inj (la (la (la ha))) (la (la (la hb))) (bit_inj (la (la (la (la ha)))) (la (la (la (la hb)))) (bit_inj (la (la (la (la (la ha))))) (la (la (la (la (la hb))))) (bit_inj (la (la (la (la (la (la ha)))))) (la (la (la (la (la (la hb)))))) (bit_inj (la (la (la (la (la (la (la ha))))))) (la (la (la (la (la (la (la hb))))))) h)))))))
theorem xor_right {a b c : Nat} (h : a ^^^ c = b ^^^ c) : a = b := by
  have := congrArg (fun x => x ^^^ c) h
  simpa [Nat.xor_assoc] using this
theorem xor_left {a b c : Nat} (h : c ^^^ a = c ^^^ b) : a = b := xor_right (c := c) (by rw [Nat.xor_comm a, Nat.xor_comm b]; exact h)
theorem stp_state {a b : Nat} (ha : a < 4294967296) (hb : b < 4294967296) (c : UInt8) (h : stp a c = stp b c) : a = b :=
  xor_right (bit8_inj (xor_lt ha (u8_lt c)) (xor_lt hb (u8_lt c)) h)
theorem stp_byte {n : Nat} (hn : n < 4294967296) {c d : UInt8} (h : stp n c = stp n d) : c = d :=
  UInt8.toNat_inj.1 (xor_left (bit8_inj (xor_lt hn (u8_lt c)) (xor_lt hn (u8_lt d)) h))
theorem crcF_lt : ∀ (l : List UInt8) {n : Nat}, n < 4294967296 → crcF n l < 4294967296
  | [], _, h => h
  | c :: l, _, h => crcF_lt l (stp_lt h c)
theorem crc_lt (l : List UInt8) : crc l < 4294967296 := xor_lt (crcF_lt l (by decide)) (by decide)
theorem crcF_snoc (n : Nat) (l : List UInt8) (c : UInt8) : crcF n (l ++ [c]) = stp (crcF n l) c := by simp [crcF]
theorem crcF_state : ∀ (l : List UInt8) {a b : Nat}, a < 4294967296 → b < 4294967296 → crcF a l = crcF b l → a = b
  | [], _, _, _, _, h => h
  | c :: l, _, _, ha, hb, h => stp_state ha hb c (crcF_state l (stp_lt ha c) (stp_lt hb c) h)
/-- The sum of bytes of which one is another one is another one. -/
theorem crcF_turned : ∀ (l : List UInt8) (k : Nat) (d : UInt8) {n : Nat}, n < 4294967296 → k < l.length → crcF n (l.set k d) = crcF n l → d = l.getD k 0
  | [], k, _, _, _, hk, _ => by simp at hk
  | c :: l, 0, d, n, hn, _, h => by
    have h' : crcF (stp n d) l = crcF (stp n c) l := h
    simpa using stp_byte hn (crcF_state l (stp_lt hn d) (stp_lt hn c) h')
  | c :: l, k + 1, d, n, hn, hk, h => by
    have := crcF_turned l k d (stp_lt hn c) (by simpa using hk) h
    simpa using this
theorem crc_turned {l : List UInt8} {k : Nat} {d : UInt8} (hk : k < l.length) (hd : d ≠ l.getD k 0) : crc (l.set k d) ≠ crc l := fun h =>
  hd (crcF_turned l k d (by decide) hk (xor_right h))

/-- A word's bytes, the lowest first. -/
def cod (n : Nat) : List UInt8 := [UInt8.ofNat n, UInt8.ofNat (n / 256), UInt8.ofNat (n / 65536), UInt8.ofNat (n / 16777216)]
def dcd (l : List UInt8) : Nat := (l.getD 0 0).toNat + 256 * (l.getD 1 0).toNat + 65536 * (l.getD 2 0).toNat + 16777216 * (l.getD 3 0).toNat
theorem cod_length (n : Nat) : (cod n).length = 4 := rfl
theorem dcd_lt (l : List UInt8) : dcd l < 4294967296 := by
  unfold dcd
  have h0 := (l.getD 0 0).toNat_lt; have h1 := (l.getD 1 0).toNat_lt; have h2 := (l.getD 2 0).toNat_lt; have h3 := (l.getD 3 0).toNat_lt
  omega
theorem dcd_cod {n : Nat} (h : n < 4294967296) (r : List UInt8) : dcd (cod n ++ r) = n := by
  simp [dcd, cod, List.getD]
  omega
theorem of_small {k : Nat} (h : k < 256) : (UInt8.ofNat k).toNat = k := by simp; omega
theorem dcd_four (a b c d : UInt8) (r : List UInt8) : dcd (a :: b :: c :: d :: r) = a.toNat + 256 * b.toNat + 65536 * c.toNat + 16777216 * d.toNat := rfl
theorem cod_dcd (a b c d : UInt8) (r : List UInt8) : cod (dcd (a :: b :: c :: d :: r)) = [a, b, c, d] := by
  rw [dcd_four]
  have h0 := a.toNat_lt; have h1 := b.toNat_lt; have h2 := c.toNat_lt; have h3 := d.toNat_lt
  have e : ∀ (x : UInt8) (m : Nat), m % 256 = x.toNat → UInt8.ofNat m = x := fun x m hm => UInt8.toNat_inj.1 (by rw [UInt8.toNat_ofNat']; exact hm)
  unfold cod
  rw [e a _ (by omega), e b _ (by omega), e c _ (by omega), e d _ (by omega)]
theorem dcd_take {l : List UInt8} (h : 4 ≤ l.length) : cod (dcd l) = l.take 4 := by
  match l, h with
  | a :: b :: c :: d :: r, _ => exact cod_dcd a b c d r
theorem dcd_of_take {l : List UInt8} (h : 4 ≤ l.length) (k : Nat) (hk : 4 ≤ k) : dcd (l.take k) = dcd l := by
  match l, h, k, hk with
  | a :: b :: c :: d :: r, _, k + 4, _ => rfl
theorem dcd_app {l : List UInt8} (h : 4 ≤ l.length) (r : List UInt8) : dcd (l ++ r) = dcd l := by
  match l, h with
  | a :: b :: c :: d :: s, _ => rfl

/-- A frame. -/
def frm (p : List UInt8) : List UInt8 := cod p.length ++ cod (crc p) ++ p
theorem frm_length (p : List UInt8) : (frm p).length = 8 + p.length := by simp [frm, cod_length]; omega
/-- What is taken: the error, the size, the payload. -/
def tkE (l : List UInt8) : Int :=
  if l.length < 8 then 3 else if 32768 < dcd l then 2 else if l.length < 8 + dcd l then 3 else if crc ((l.drop 8).take (dcd l)) = dcd (l.drop 4) then 0 else 6
def tkS (l : List UInt8) : Nat := if tkE l = 0 then 8 + dcd l else 0
def tkP (l : List UInt8) : List UInt8 := if tkE l = 0 then (l.drop 8).take (dcd l) else []
theorem tk_zero {l : List UInt8} (h : tkE l = 0) : 8 ≤ l.length ∧ dcd l ≤ 32768 ∧ 8 + dcd l ≤ l.length ∧ crc ((l.drop 8).take (dcd l)) = dcd (l.drop 4) := by
  unfold tkE at h
  split at h
  · cases h
  · split at h
    · cases h
    · split at h
      · cases h
      · split at h
        · exact ⟨by omega, by omega, by omega, by assumption⟩
        · cases h
theorem tk_one {l : List UInt8} (h1 : 8 ≤ l.length) (h2 : dcd l ≤ 32768) (h3 : 8 + dcd l ≤ l.length) (h4 : crc ((l.drop 8).take (dcd l)) = dcd (l.drop 4)) : tkE l = 0 := by
  unfold tkE
  rw [if_neg (by omega), if_neg (by omega), if_neg (by omega), if_pos h4]
theorem tk_frm {p : List UInt8} (hp : p.length ≤ 32768) (r : List UInt8) : tkE (frm p ++ r) = 0 ∧ tkS (frm p ++ r) = (frm p).length ∧ tkP (frm p ++ r) = p := by
  have d0 : dcd (frm p ++ r) = p.length := by unfold frm; rw [List.append_assoc, List.append_assoc]; exact dcd_cod (by omega) _
  have d4 : (frm p ++ r).drop 4 = cod (crc p) ++ (p ++ r) := by unfold frm; simp [cod]
  have d8 : (frm p ++ r).drop 8 = p ++ r := by unfold frm; simp [cod]
  have hE : tkE (frm p ++ r) = 0 := tk_one (by rw [List.length_append, frm_length]; omega) (by rw [d0]; exact hp) (by rw [d0, List.length_append, frm_length]; omega) (by
    rw [d0, d4, d8, dcd_cod (crc_lt p), List.take_left' rfl])
  refine ⟨hE, ?_, ?_⟩
  · rw [tkS, if_pos hE, d0, frm_length]
  · rw [tkP, if_pos hE, d0, d8, List.take_left' rfl]
theorem tk_len {l : List UInt8} (h : tkE l = 0) : (tkP l).length = dcd l ∧ (tkP l).length ≤ 32768 ∧ tkS l = 8 + (tkP l).length ∧ tkS l ≤ l.length := by
  obtain ⟨h1, h2, h3, h4⟩ := tk_zero h
  have e : (tkP l).length = dcd l := by rw [tkP, if_pos h, List.length_take, List.length_drop]; omega
  have e2 : tkS l = 8 + dcd l := by rw [tkS, if_pos h]
  exact ⟨e, by omega, by omega, by omega⟩
theorem tk_back {l : List UInt8} (h : tkE l = 0) : l = frm (tkP l) ++ l.drop (tkS l) := by
  obtain ⟨h1, h2, h3, h4⟩ := tk_zero h
  obtain ⟨e1, e2, e3, e4⟩ := tk_len h
  have hP : tkP l = (l.drop 8).take (dcd l) := by rw [tkP, if_pos h]
  have a4 : cod (crc (tkP l)) = (l.drop 4).take 4 := by rw [hP, h4]; exact dcd_take (by rw [List.length_drop]; omega)
  have a0 : cod (tkP l).length = l.take 4 := by rw [e1]; exact dcd_take (by omega)
  unfold frm
  rw [a0, a4, e3, e1]
  conv => rhs; rw [hP]
  rw [← List.take_add, show 4 + 4 = 8 from rfl]
  conv => rhs; rw [← List.take_add, List.take_append_drop]
theorem tk_frame {l : List UInt8} (h : tkE l = 0) : l.take (tkS l) = frm (tkP l) := by
  have e := tk_back h
  have e3 := (tk_len h).2.2.1
  exact (congrArg (List.take (tkS l)) e).trans (List.take_left' ((frm_length _).trans e3.symm))
theorem tk_more {l : List UInt8} (h : tkE l = 0) (r : List UInt8) : tkE (l ++ r) = 0 ∧ tkS (l ++ r) = tkS l ∧ tkP (l ++ r) = tkP l := by
  obtain ⟨e1, e2, e3, e4⟩ := tk_len h
  have hb := tk_back h
  have h1 : l ++ r = frm (tkP l) ++ (l.drop (tkS l) ++ r) := by rw [← List.append_assoc, ← hb]
  have := tk_frm e2 (l.drop (tkS l) ++ r)
  rw [← h1] at this
  exact ⟨this.1, (this.2.1.trans (frm_length _)).trans e3.symm, this.2.2⟩
theorem tk_none {l : List UInt8} (h : tkE l ≠ 0) : tkS l = 0 ∧ tkP l = [] := ⟨by rw [tkS, if_neg h], by rw [tkP, if_neg h]⟩
theorem tk_nil : tkE [] = 3 := by decide

/-- What is scanned. -/
def scn (l : List UInt8) : List (List UInt8) := if tkE l = 0 then tkP l :: scn (l.drop (tkS l)) else []
termination_by l.length
decreasing_by
  rename_i h
  have := tk_len h
  rw [List.length_drop]; omega
def fls (L : List (List UInt8)) : List UInt8 := L.flatMap frm
theorem fls_cons (p : List UInt8) (L : List (List UInt8)) : fls (p :: L) = frm p ++ fls L := by simp [fls]
theorem fls_append (L M : List (List UInt8)) : fls (L ++ M) = fls L ++ fls M := by simp [fls]
theorem fls_one (p : List UInt8) : fls [p] = frm p := by simp [fls]
theorem scn_no {l : List UInt8} (h : tkE l ≠ 0) : scn l = [] := by rw [scn, if_neg h]
theorem scn_yes {l : List UInt8} (h : tkE l = 0) : scn l = tkP l :: scn (l.drop (tkS l)) := by rw [scn, if_pos h]
theorem scn_fls : ∀ (L : List (List UInt8)) (r : List UInt8), (∀ p ∈ L, p.length ≤ 32768) → scn (fls L ++ r) = L ++ scn r
  | [], r, _ => by simp [fls]
  | p :: L, r, h => by
    rw [fls_cons, List.append_assoc]
    obtain ⟨h1, h2, h3⟩ := tk_frm (h p (by simp)) (fls L ++ r)
    rw [scn_yes h1, h2, h3, List.drop_left' rfl, scn_fls L r fun q hq => h q (by simp [hq])]
    rfl
theorem scn_back (n : Nat) : ∀ l : List UInt8, l.length ≤ n → ∃ r, l = fls (scn l) ++ r ∧ tkE r ≠ 0 ∧ ∀ p ∈ scn l, p.length ≤ 32768 := by
  induction n with
  | zero => intro l hl; obtain rfl : l = [] := List.eq_nil_of_length_eq_zero (by omega); exact ⟨[], by rw [scn_no (by decide)]; rfl, by decide, by rw [scn_no (by decide)]; simp⟩
  | succ n ih =>
    intro l hl
    by_cases h : tkE l = 0
    · obtain ⟨e1, e2, e3, e4⟩ := tk_len h
      obtain ⟨r, h1, h2, h3⟩ := ih (l.drop (tkS l)) (by rw [List.length_drop]; omega)
      refine ⟨r, ?_, h2, ?_⟩
      · rw [scn_yes h, fls_cons, List.append_assoc, ← h1]; exact tk_back h
      · rw [scn_yes h]; intro p hp
        rcases List.mem_cons.1 hp with rfl | hp
        · exact e2
        · exact h3 p hp
    · exact ⟨l, by rw [scn_no h]; rfl, h, by rw [scn_no h]; simp⟩
/-- With more behind no fewer are scanned. -/
theorem scn_more (l r : List UInt8) : ∃ M, scn (l ++ r) = scn l ++ M := by
  obtain ⟨s, h1, h2, h3⟩ := scn_back l.length l (Nat.le_refl _)
  refine ⟨scn (s ++ r), ?_⟩
  conv => lhs; rw [h1]
  rw [List.append_assoc, scn_fls _ _ h3]
end Go.Proofs.YtnbhgnkkedainaaDoor
