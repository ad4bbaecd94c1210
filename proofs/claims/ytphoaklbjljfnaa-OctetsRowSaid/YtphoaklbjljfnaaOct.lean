/- Layer 8 (octets) as plain data: the bytes of a number, and the number of bytes. No program is spoken of here. -/
namespace Go.Proofs.Ytphoaklbjljfnaa

def isB (n : Int) : Bool := decide (-1099511627776 ≤ n) && decide (n ≤ 1099511627776)
theorem isB_iff {n : Int} : isB n = true ↔ (-1099511627776 ≤ n ∧ n ≤ 1099511627776) := by simp [isB]
theorem isB_not {n : Int} : isB n = false ↔ (n < -1099511627776 ∨ 1099511627776 < n) := by
  rw [← Bool.not_eq_true, isB_iff]; omega

/-- A number as one from 0 on. -/
def fold (n : Int) : Nat := if isB n = true then (if n < 0 then (2 * (-1 - n) + 1).toNat else (2 * n).toNat) else 0
def unf (u : Nat) : Int := if u % 2 = 1 then -1 - ((u / 2 : Nat) : Int) else ((u / 2 : Nat) : Int)
/-- The number that is put: of one that may not be, 0. -/
def may (n : Int) : Int := if isB n = true then n else 0
theorem unf_fold (n : Int) : unf (fold n) = may n := by
  unfold unf fold may
  by_cases h : isB n = true
  · rw [if_pos h, if_pos h]
    by_cases h0 : n < 0
    · rw [if_pos h0, if_pos (by omega)]; omega
    · rw [if_neg h0, if_neg (by omega)]; omega
  · rw [if_neg h, if_neg h]; rfl
theorem isB_may (n : Int) : isB (may n) = true := by
  unfold may; split
  · assumption
  · rfl
theorem fold_unf {u : Nat} (h : isB (unf u) = true) : fold (unf u) = u := by
  unfold fold
  rw [if_pos h]
  unfold unf
  by_cases h1 : u % 2 = 1
  · rw [if_pos h1, if_pos (by omega)]; omega
  · rw [if_neg h1, if_neg (by omega)]; omega
theorem fold_lt (n : Int) : fold n < 4398046511104 := by
  unfold fold
  by_cases h : isB n = true
  · have := isB_iff.1 h
    rw [if_pos h]; split <;> omega
  · rw [if_neg h]; omega
theorem fold_neg {n : Int} (h : isB n = true) (h0 : n < 0) : (fold n : Int) = 2 * (-1 - n) + 1 := by
  unfold fold; rw [if_pos h, if_pos h0]; omega
theorem fold_pos {n : Int} (h : isB n = true) (h0 : ¬ n < 0) : (fold n : Int) = 2 * n := by
  unfold fold; rw [if_pos h, if_neg h0]; omega
theorem fold_no {n : Int} (h : isB n = false) : fold n = 0 := by unfold fold; rw [h]; rfl

/-- A number from 0 on, 7 bits a byte. -/
def enc (u : Nat) : List UInt8 := if u < 128 then [UInt8.ofNat u] else UInt8.ofNat (u % 128 + 128) :: enc (u / 128)
termination_by u
theorem enc_lt {u : Nat} (h : u < 128) : enc u = [UInt8.ofNat u] := by rw [enc, if_pos h]
theorem enc_ge {u : Nat} (h : ¬ u < 128) : enc u = UInt8.ofNat (u % 128 + 128) :: enc (u / 128) := by rw [enc, if_neg h]
theorem of_small {k : Nat} (h : k < 256) : (UInt8.ofNat k).toNat = k := by simp; omega
theorem enc_pos (u : Nat) : 0 < (enc u).length := by
  by_cases h : u < 128
  · rw [enc_lt h]; simp
  · rw [enc_ge h]; simp
/-- What bytes make, the lowest first. -/
def jn : List UInt8 → Nat
  | [] => 0
  | c :: r => c.toNat % 128 + 128 * jn r
theorem jn_enc (u : Nat) : jn (enc u) = u := by
  induction u using Nat.strongRecOn with
  | ind u ih =>
    by_cases h : u < 128
    · rw [enc_lt h]; simp only [jn, of_small (show u < 256 by omega)]; omega
    · rw [enc_ge h]; simp only [jn, of_small (show u % 128 + 128 < 256 by omega), ih (u / 128) (by omega)]; omega
/-- A byte that is a number's last one. -/
def fin (c : UInt8) : Bool := decide (c.toNat < 128)
/-- Where the first such byte is; none: how many bytes there are. -/
def lst : List UInt8 → Nat
  | [] => 0
  | c :: r => if fin c then 0 else lst r + 1
theorem lst_le : ∀ l, lst l ≤ l.length
  | [] => Nat.le_refl _
  | c :: r => by simp only [lst, List.length_cons]; have := lst_le r; split <;> omega
theorem lst_before : ∀ (l : List UInt8) (j : Nat), j < lst l → fin (l.getD j 0) = false
  | [], _, h => by simp [lst] at h
  | c :: r, j, h => by
    simp only [lst] at h
    cases hc : fin c with
    | true => simp [hc] at h
    | false =>
      rw [hc] at h
      cases j with
      | zero => simpa using hc
      | succ j => simpa using lst_before r j (by simpa using h)
theorem lst_at : ∀ (l : List UInt8), lst l < l.length → fin (l.getD (lst l) 0) = true
  | [], h => by simp [lst] at h
  | c :: r, h => by
    simp only [lst, List.length_cons] at h ⊢
    cases hc : fin c with
    | true => simpa using hc
    | false =>
      rw [hc] at h
      simpa [hc] using lst_at r (by simpa using h)
theorem lst_is {l : List UInt8} {k : Nat} (hk : k ≤ l.length) (h : ∀ j, j < k → fin (l.getD j 0) = false) (h1 : k < l.length → fin (l.getD k 0) = true) : lst l = k := by
  rcases Nat.lt_trichotomy (lst l) k with h2 | h2 | h2
  · have := lst_at l (by omega)
    rw [h _ h2] at this; cases this
  · exact h2
  · have h3 := lst_le l
    have := lst_before l k h2
    rw [h1 (by omega)] at this; cases this
theorem lst_enc (u : Nat) (r : List UInt8) : lst (enc u ++ r) + 1 = (enc u).length := by
  induction u using Nat.strongRecOn with
  | ind u ih =>
    by_cases h : u < 128
    · rw [enc_lt h]; simp [lst, fin, Nat.mod_eq_of_lt (show u < 256 by omega), h]
    · rw [enc_ge h]
      have hf : fin (UInt8.ofNat (u % 128 + 128)) = false := by
        unfold fin; rw [of_small (by omega)]; simp
      simp only [List.cons_append, lst, hf, List.length_cons]
      have := ih (u / 128) (by omega)
      simpa using this
/-- The last of several bytes is not 0. -/
theorem last_enc (u : Nat) (r : List UInt8) (h : 0 < lst (enc u ++ r)) : (enc u ++ r).getD (lst (enc u ++ r)) 0 ≠ 0 := by
  induction u using Nat.strongRecOn with
  | ind u ih =>
    by_cases h1 : u < 128
    · rw [enc_lt h1] at h; simp [lst, fin, Nat.mod_eq_of_lt (show u < 256 by omega), h1] at h
    · rw [enc_ge h1] at h ⊢
      have hf : fin (UInt8.ofNat (u % 128 + 128)) = false := by
        unfold fin; rw [of_small (by omega)]; simp
      simp only [List.cons_append, lst, hf, Bool.false_eq_true, if_false, List.getD_cons_succ]
      rcases Nat.eq_zero_or_pos (lst (enc (u / 128) ++ r)) with h2 | h2
      · rw [h2]
        by_cases h3 : u / 128 < 128
        · rw [enc_lt h3]
          intro h4
          have h5 := congrArg UInt8.toNat h4
          simp only [List.cons_append, List.getD_cons_zero, of_small (show u / 128 < 256 by omega)] at h5
          simp at h5; omega
        · rw [enc_ge h3] at h2
          have hf2 : fin (UInt8.ofNat (u / 128 % 128 + 128)) = false := by
            unfold fin; rw [of_small (by omega)]; simp
          simp only [List.cons_append, lst, hf2] at h2
          simp at h2
      · exact ih (u / 128) (by omega) h2
theorem enc_len_le (k : Nat) : ∀ u : Nat, u < 128 ^ (k + 1) → (enc u).length ≤ k + 1 := by
  induction k with
  | zero => intro u h; rw [enc_lt (by simpa using h)]; simp
  | succ k ih =>
    intro u h
    by_cases h1 : u < 128
    · rw [enc_lt h1]; simp
    · rw [enc_ge h1, List.length_cons]
      have := ih (u / 128) (by rw [Nat.pow_succ] at h; omega)
      omega
theorem enc_lt_pow (u : Nat) : u < 128 ^ (enc u).length := by
  induction u using Nat.strongRecOn with
  | ind u ih =>
    by_cases h : u < 128
    · rw [enc_lt h]; simpa using h
    · rw [enc_ge h, List.length_cons, Nat.pow_succ]
      have := ih (u / 128) (by omega)
      omega
theorem enc_mono {u v : Nat} (h : u ≤ v) : (enc u).length ≤ (enc v).length := by
  have h1 := enc_pos v
  obtain ⟨k, hk⟩ : ∃ k, (enc v).length = k + 1 := ⟨(enc v).length - 1, by omega⟩
  have h2 := enc_lt_pow v
  rw [hk] at h2 ⊢
  exact enc_len_le k u (by omega)
theorem enc_six {u : Nat} (h : u < 4398046511104) : (enc u).length ≤ 6 := enc_len_le 5 u (by simpa using h)
theorem ofNat_toNat (c : UInt8) : UInt8.ofNat c.toNat = c := by simp
/-- Bytes up to the first that is a last one, of which the last is not 0 where there are several, are the number's that they make. -/
theorem enc_jn : ∀ (l : List UInt8), lst l < l.length → (0 < lst l → l.getD (lst l) 0 ≠ 0) → enc (jn (l.take (lst l + 1))) = l.take (lst l + 1)
  | [], h, _ => by simp [lst] at h
  | c :: r, h, h0 => by
    cases hc : fin c with
    | true =>
      have hc' : c.toNat < 128 := by simpa [fin] using hc
      simp only [lst, hc, if_true, Nat.zero_add, List.take_succ_cons, List.take_zero, jn]
      rw [Nat.mod_eq_of_lt hc', Nat.mul_zero, Nat.add_zero, enc_lt hc', ofNat_toNat]
    | false =>
      have hc' : ¬ c.toNat < 128 := by simpa [fin] using hc
      have hc2 := c.toNat_lt
      simp only [lst, hc, Bool.false_eq_true, if_false, List.length_cons, List.getD_cons_succ] at h h0 ⊢
      have hn := h0 (by omega)
      have ih := enc_jn r (by omega) (fun _ => hn)
      simp only [List.take_succ_cons, jn] at ih ⊢
      have hJ : jn (r.take (lst r + 1)) ≠ 0 := by
        intro e
        rw [e, enc_lt (by omega)] at ih
        have hl := congrArg List.length ih
        simp only [List.length_cons, List.length_nil, List.length_take] at hl
        have h2 : lst r = 0 := by omega
        rw [h2] at ih hn
        apply hn
        cases r with
        | nil => simp
        | cons d s => simp at ih; simp [← ih]
      rw [enc_ge (by omega)]
      have e1 : (c.toNat % 128 + 128 * jn (r.take (lst r + 1))) % 128 + 128 = c.toNat := by omega
      have e2 : (c.toNat % 128 + 128 * jn (r.take (lst r + 1))) / 128 = jn (r.take (lst r + 1)) := by omega
      rw [e1, e2, ofNat_toNat, ih]
theorem jn_lt : ∀ l : List UInt8, jn l < 128 ^ l.length
  | [] => by simp [jn]
  | c :: r => by
    have := jn_lt r
    simp only [jn, List.length_cons, Nat.pow_succ]
    omega
theorem jn_snoc : ∀ (l : List UInt8) (c : UInt8), jn (l ++ [c]) = jn l + c.toNat % 128 * 128 ^ l.length
  | [], c => by simp [jn]
  | d :: r, c => by
    simp only [List.cons_append, jn, jn_snoc r c, List.length_cons, Nat.pow_succ]
    rw [Nat.mul_add, Nat.add_assoc, Nat.mul_comm (128 ^ r.length) 128, Nat.mul_left_comm]

/-- The number with which bytes begin; how many are its own; why there is none. -/
def decE (l : List UInt8) : Int :=
  if l.length ≤ lst l then 3 else if 6 ≤ lst l ∨ (0 < lst l ∧ l.getD (lst l) 0 = 0) then 4 else if isB (unf (jn (l.take (lst l + 1)))) = true then 0 else 2
def decN (l : List UInt8) : Int := if decE l = 0 then unf (jn (l.take (lst l + 1))) else 0
def decS (l : List UInt8) : Nat := if decE l = 0 then lst l + 1 else 0
theorem dec_enc (n : Int) (r : List UInt8) : decE (enc (fold n) ++ r) = 0 ∧ decN (enc (fold n) ++ r) = may n ∧ decS (enc (fold n) ++ r) = (enc (fold n)).length := by
  have h1 := lst_enc (fold n) r
  have h6 := enc_six (fold_lt n)
  have ht : (enc (fold n) ++ r).take (lst (enc (fold n) ++ r) + 1) = enc (fold n) := by rw [h1]; simp
  have hE : decE (enc (fold n) ++ r) = 0 := by
    unfold decE
    rw [if_neg (by rw [List.length_append]; omega), if_neg, ht, jn_enc, unf_fold, isB_may, if_pos rfl]
    rintro (h | ⟨h2, h3⟩)
    · omega
    · exact last_enc _ _ h2 h3
  refine ⟨hE, ?_, ?_⟩
  · unfold decN; rw [if_pos hE, ht, jn_enc, unf_fold]
  · unfold decS; rw [if_pos hE, h1]
theorem dec_zero {l : List UInt8} (h : decE l = 0) : lst l < l.length ∧ decS l = lst l + 1 ∧ isB (decN l) = true ∧ l.take (decS l) = enc (fold (decN l)) := by
  have hS : decS l = lst l + 1 := by unfold decS; rw [if_pos h]
  have hN : decN l = unf (jn (l.take (lst l + 1))) := by unfold decN; rw [if_pos h]
  unfold decE at h
  split at h
  · cases h
  · rename_i h1
    split at h
    · cases h
    · rename_i h2
      split at h
      · rename_i h3
        have h1' : lst l < l.length := by omega
        refine ⟨h1', hS, by rw [hN]; exact h3, ?_⟩
        rw [hN, fold_unf h3, hS]
        exact (enc_jn l h1' (fun h4 h5 => h2 (.inr ⟨h4, h5⟩))).symm
      · cases h
theorem dec_not {l : List UInt8} (h : decE l ≠ 0) : decN l = 0 := by unfold decN; rw [if_neg h]
theorem decE_cases (l : List UInt8) : decE l = 0 ∨ decE l = 2 ∨ decE l = 3 ∨ decE l = 4 := by
  unfold decE
  split
  · exact .inr (.inr (.inl rfl))
  · split
    · exact .inr (.inr (.inr rfl))
    · split
      · exact .inl rfl
      · exact .inr (.inl rfl)
/-- Bytes of a number of which the last ones are missing end too early. -/
theorem dec_cut (u : Nat) (k : Nat) (hk : k < (enc u).length) : decE ((enc u).take k) = 3 := by
  have h1 := lst_enc u []
  rw [List.append_nil] at h1
  have hl : ((enc u).take k).length = k := by rw [List.length_take]; omega
  have : lst ((enc u).take k) = k := by
    refine lst_is (by omega) (fun j hj => ?_) (fun h => by omega)
    have := lst_before (enc u) j (by omega)
    simpa [List.getD, List.getElem?_take, hj] using this
  unfold decE
  rw [this, if_pos (by omega)]
end Go.Proofs.Ytphoaklbjljfnaa
