/- Rows of numbers as bytes, and what is read of them where the last bytes are missing. No program is spoken of here. -/
import Derived.Test.YtphoaklbjljfnaaOz
namespace Go.Proofs.Ytphoaklbjljfnaa

def encs : List Int → List UInt8
  | [] => []
  | z :: r => enc (fold z) ++ encs r
theorem encs_append : ∀ x y : List Int, encs (x ++ y) = encs x ++ encs y
  | [], _ => rfl
  | z :: r, y => by simp [encs, encs_append r y]
theorem encs_take {x : List Int} {m : Nat} (h : m < x.length) : encs (x.take (m + 1)) = encs (x.take m) ++ enc (fold (x.getD m 0)) := by
  rw [List.take_add_one, List.getElem?_eq_getElem h, encs_append]
  simp [encs, List.getD, h]
theorem drop_at {x : List Int} {m : Nat} (h : m < x.length) : x.drop m = x.getD m 0 :: x.drop (m + 1) := by
  rw [List.drop_eq_getElem_cons h]; simp [List.getD, h]
theorem encs_drop {x : List Int} {m : Nat} (h : m < x.length) : encs (x.drop m) = enc (fold (x.getD m 0)) ++ encs (x.drop (m + 1)) := by
  rw [drop_at h]; rfl
theorem encs_len : ∀ x : List Int, (encs x).length ≤ 6 * x.length
  | [] => Nat.le_refl _
  | z :: r => by
    have := encs_len r
    have h6 := enc_six (fold_lt z)
    simp only [encs, List.length_append, List.length_cons]; omega
theorem encs_pos {x : List Int} (h : 0 < x.length) : 0 < (encs x).length := by
  cases x with
  | nil => simp at h
  | cons z r =>
    have := enc_pos (fold z)
    simp only [encs, List.length_append]; omega
/-- A reader to which the last bytes of what is left are missing. -/
def Cut (q : List UInt8) (er : Int) (x : List Int) : Prop := q.length ≤ 1000 ∧ (er = 3 ∨ er = 0 ∧ ∃ k, k < (encs x).length ∧ q = (encs x).take k)
theorem Cut.step {q : List UInt8} {er : Int} {z : Int} {r : List Int} (h : Cut q er (z :: r)) : Cut (rnL q er) (rnE q er) r := by
  obtain ⟨h0, h⟩ := h
  have hl : (rnL q er).length ≤ 1000 := by
    unfold rnL; split
    · rw [List.length_drop]; omega
    · exact h0
  refine ⟨hl, ?_⟩
  rcases h with rfl | ⟨rfl, k, hk, rfl⟩
  · exact .inl rfl
  · simp only [encs, List.length_append] at hk
    simp only [rnE, rnL, if_true, encs]
    rcases Nat.lt_or_ge k (enc (fold z)).length with h1 | h1
    · left
      rw [List.take_append_of_le_length (by omega)]
      exact dec_cut (fold z) k h1
    · right
      have e : (enc (fold z) ++ encs r).take k = enc (fold z) ++ (encs r).take (k - (enc (fold z)).length) := by
        rw [List.take_append]
        rw [List.take_of_length_le h1]
      obtain ⟨d1, d2, d3⟩ := dec_enc z ((encs r).take (k - (enc (fold z)).length))
      rw [e, d1, d3]
      exact ⟨rfl, k - (enc (fold z)).length, by omega, by simp⟩
theorem Cut.last {q : List UInt8} {er : Int} (h : Cut q er []) : er = 3 := by
  rcases h.2 with h | ⟨_, k, hk, _⟩
  · exact h
  · simp [encs] at hk
theorem Cut.start {x : List Int} {k : Nat} (h : k < (encs x).length) (h1 : x.length ≤ 40) : Cut ((encs x).take k) 0 x := by
  have := encs_len x
  exact ⟨by rw [List.length_take]; omega, .inr ⟨rfl, k, h, rfl⟩⟩
end Go.Proofs.Ytphoaklbjljfnaa
