/- Sixteen locks as one list of 64 ints; and what holds of locks that replicas write, pass on and hear of: which states there were, and who can go on. No program is spoken of in the second part. -/
import Derived.Test.YtbaacdkjdkkifaaLkArg
namespace Go.Proofs.Ytbaacdkjdkkifaa
open Go.ChangeShapes Go.WideShapes Go.ChangeAt Go.RowKit

/-- What replica i knows. -/
def st (S : List Int) (i : Nat) : Lk := ⟨S.getD (i * 4) 0, S.getD (i * 4 + 1) 0, S.getD (i * 4 + 2) 0, S.getD (i * 4 + 3) 0⟩
theorem seg_st {S : List Int} {i : Nat} (h : i * 4 + 4 ≤ S.length) : seg S (i * 4) 4 = (st S i).l := by rw [seg4 h]; rfl
theorem st_splice {S : List Int} {i : Nat} (h : i * 4 + 4 ≤ S.length) (X : Lk) (j : Nat) : st (splice S (i * 4) X.l) j = if j = i then X else st S j := by
  have hg := fun p => splice_get X.l S (i * 4) p (by rw [Lk.len]; omega)
  by_cases hj : j = i
  · subst hj
    rw [if_pos rfl]
    refine Lk.ext' ?_ ?_ ?_ ?_
    · simp only [st]; rw [hg, if_pos (by rw [Lk.len]; omega), Nat.sub_self]; rfl
    · simp only [st]; rw [hg, if_pos (by rw [Lk.len]; omega), show j * 4 + 1 - j * 4 = 1 by omega]; rfl
    · simp only [st]; rw [hg, if_pos (by rw [Lk.len]; omega), show j * 4 + 2 - j * 4 = 2 by omega]; rfl
    · simp only [st]; rw [hg, if_pos (by rw [Lk.len]; omega), show j * 4 + 3 - j * 4 = 3 by omega]; rfl
  · rw [if_neg hj]
    refine Lk.ext' ?_ ?_ ?_ ?_
    · simp only [st]; rw [hg, if_neg (by rw [Lk.len]; omega)]
    · simp only [st]; rw [hg, if_neg (by rw [Lk.len]; omega)]
    · simp only [st]; rw [hg, if_neg (by rw [Lk.len]; omega)]
    · simp only [st]; rw [hg, if_neg (by rw [Lk.len]; omega)]
theorem load_lk {ops : Array Oper} {rest : List Oper} {o : Oper} {a : Act} {w u : World} {l : List (Nat × TypeId × List Int)} {Q : Exit → Act → World → Prop} (hk : KeepR w l u) (i : Nat) {S : List Int} {k : Nat} {X : Lk} (hX : st S k = X) (hS : k * 4 + 4 ≤ S.length)
    (hgd : o.guard = none) (x : Operand) (ho : o.op = .load 23 x) {b : Nat} {t : TypeId} (hi : l[i]? = some (b, t, S)) (hx : a.eval x = .pointer (some ⟨b, k * 4, none⟩))
    (h : wpList Try.prog ops Q rest (a.put o.dst (.agg (vals X.l).toArray)) u) : wpList Try.prog ops Q (o :: rest) a u :=
  load_part hk i 4 Try.underlying23 rfl lk_info hgd x ho hi hx hS (by rw [seg_st hS, hX]; exact h)
theorem yield_lk {ops : Array Oper} {C : World → Prop} {o : Oper} {a : Act} {w : World} {l : List (Nat × TypeId × List Int)} (hk : ∀ u, C u → KeepR w l u) (i : Nat) {S : List Int} {k : Nat} {X : Lk} (hX : st S k = X) (hS : k * 4 + 4 ≤ S.length)
    (hw : Region.wanted o (yielded ops a.tmps) = true) (x : Operand) (ho : o.op = .load 23 x) {b : Nat} {t : TypeId} (hi : l[i]? = some (b, t, S)) (hx : a.eval x = .pointer (some ⟨b, k * 4, none⟩)) :
    YieldsIf Try.prog ops C o (.agg (vals X.l).toArray) a := by
  have h := yield_part (ops := ops) (S := C) hk i 4 Try.underlying23 rfl lk_info hw x ho hi hx hS
  rwa [seg_st hS, hX] at h
theorem KeepR.sub {w u : World} {l l' : List (Nat × TypeId × List Int)} (h : KeepR w l u) (hs : l'.Sublist l) : KeepR w l' u :=
  ⟨h.bel, fun x hx => h.blk x (hs.subset hx), h.apart.sublist (hs.map _)⟩

/-! ### What holds. -/
/-- One replica's lock is turned. -/
def upd (f : Nat → Lk) (i : Nat) (X : Lk) : Nat → Lk := fun j => if j = i then X else f j
theorem upd_same (f : Nat → Lk) (i : Nat) : upd f i (f i) = f := by
  funext j; unfold upd; split
  · rename_i h; rw [h]
  · rfl
theorem st_upd {S : List Int} {i : Nat} (h : i * 4 + 4 ≤ S.length) (X : Lk) : st (splice S (i * 4) X.l) = upd (st S) i X := by
  funext j; exact st_splice h X j
structure LI (seen : List Lk) (last : Lk) (f : Nat → Lk) : Prop where
  own : ∀ k, k < 16 → f k ∈ seen
  top : last ∈ seen
  le : ∀ y ∈ seen, ¬ ltL last y
  key : ∀ x ∈ seen, ∀ y ∈ seen, x.s = y.s → x.v = y.v → x = y
  past : ∀ y ∈ seen, y ≠ last → ltL y (f y.h.toNat)
  rep : ∀ y ∈ seen, 0 ≤ y.h ∧ y.h ≤ 15
  known : ∃ k, k < 16 ∧ f k = last
theorem LI.begin {F : Lk} {f : Nat → Lk} (h : ∀ k, k < 16 → f k = F) (hF : repB F.h = true) : LI [F] F f where
  own := fun k hk => by rw [h k hk]; exact List.mem_singleton.2 rfl
  top := List.mem_singleton.2 rfl
  le := fun y hy => by rw [List.mem_singleton.1 hy]; exact ltL_irrefl _
  key := fun x hx y hy _ _ => by rw [List.mem_singleton.1 hx, List.mem_singleton.1 hy]
  past := fun y hy hne => absurd (List.mem_singleton.1 hy) hne
  rep := fun y hy => by rw [List.mem_singleton.1 hy]; exact repB_iff.1 hF
  known := ⟨0, by omega, h 0 (by omega)⟩
/-- Who holds what it knows knows the newest. -/
theorem LI.holds {seen : List Lk} {last : Lk} {f : Nat → Lk} (h : LI seen last f) {i : Nat} (hi : i < 16) (hh : (i : Int) = (f i).h) : f i = last := by
  apply Classical.byContradiction
  intro hne
  have := h.past _ (h.own i hi) hne
  rw [← hh, Int.toNat_natCast] at this
  exact ltL_irrefl _ this
theorem LI.goes {seen : List Lk} {last : Lk} {f : Nat → Lk} (h : LI seen last f) {i : Nat} (hi : i < 16) (hh : (i : Int) = (f i).h) {X : Lk} (hX : ltL last X) (hr : 0 ≤ X.h ∧ X.h ≤ 15) (hkey : ∀ y ∈ seen, y.s = X.s → y.v = X.v → False) : LI (X :: seen) X (upd f i X) := by
  have hl := h.holds hi hh
  refine ⟨fun k hk => ?_, List.mem_cons_self .., fun y hy => ?_, fun x hx y hy e1 e2 => ?_, fun y hy hne => ?_, fun y hy => ?_, ⟨i, hi, by simp [upd]⟩⟩
  · unfold upd; split
    · exact List.mem_cons_self ..
    · exact List.mem_cons_of_mem _ (h.own k hk)
  · rcases List.mem_cons.1 hy with rfl | hy
    · exact ltL_irrefl _
    · exact fun h' => h.le y hy (ltL_trans hX h')
  · rcases List.mem_cons.1 hx with ex | hx'
    · rcases List.mem_cons.1 hy with ey | hy'
      · rw [ex, ey]
      · rw [ex] at e1 e2; exact absurd (hkey y hy' e1.symm e2.symm) id
    · rcases List.mem_cons.1 hy with ey | hy'
      · rw [ey] at e1 e2; exact absurd (hkey x hx' e1 e2) id
      · exact h.key x hx' y hy' e1 e2
  · rcases List.mem_cons.1 hy with ey | hy
    · exact absurd ey hne
    · by_cases hyl : y = last
      · subst hyl
        have : y.h.toNat = i := by rw [← hl, ← hh, Int.toNat_natCast]
        rw [this]; simpa [upd] using hX
      · have hp := h.past y hy hyl
        unfold upd
        split
        · rename_i e
          rw [e, hl] at hp
          exact ltL_trans hp hX
        · exact hp
  · rcases List.mem_cons.1 hy with ey | hy
    · rw [ey]; exact hr
    · exact h.rep y hy
theorem LI.writes {seen : List Lk} {last : Lk} {f : Nat → Lk} (h : LI seen last f) {i : Nat} (hi : i < 16) {n : Int} (he : wrE (f i) i n = 0) : f i = last ∧ (i : Int) = last.h ∧ ltL last (wrA (f i) i n) ∧ (∀ y ∈ seen, y.s = (wrA (f i) i n).s → y.v = (wrA (f i) i n).v → False) ∧ LI (wrA (f i) i n :: seen) (wrA (f i) i n) (upd f i (wrA (f i) i n)) := by
  obtain ⟨hh, _, _, _, e⟩ := wr_zero he
  have hl := h.holds hi hh
  have hX : ltL last (wrA (f i) i n) := by rw [e, hl]; exact .inr ⟨rfl, .inl (by simp only; omega)⟩
  have hkey : ∀ y ∈ seen, y.s = (wrA (f i) i n).s → y.v = (wrA (f i) i n).v → False := fun y hy e1 e2 => by
    rw [e] at e1 e2
    simp only at e1 e2
    rw [hl] at e1 e2
    exact h.le y hy (.inr ⟨e1.symm, .inl (by omega)⟩)
  exact ⟨hl, by rw [← hl]; exact hh, hX, hkey, h.goes hi hh hX (by rw [e]; exact h.rep (f i) (h.own i hi)) hkey⟩
theorem LI.passes {seen : List Lk} {last : Lk} {f : Nat → Lk} (h : LI seen last f) {i : Nat} (hi : i < 16) {t : Int} (he : psE (f i) i t = 0) : f i = last ∧ (i : Int) = last.h ∧ ltL last (psA (f i) i t) ∧ (∀ y ∈ seen, y.s = (psA (f i) i t).s → y.v = (psA (f i) i t).v → False) ∧ LI (psA (f i) i t :: seen) (psA (f i) i t) (upd f i (psA (f i) i t)) := by
  obtain ⟨hh, ht, _, _, e⟩ := ps_zero he
  have hl := h.holds hi hh
  have hX : ltL last (psA (f i) i t) := by rw [e, hl]; exact .inl (by simp only; omega)
  have hkey : ∀ y ∈ seen, y.s = (psA (f i) i t).s → y.v = (psA (f i) i t).v → False := fun y hy e1 e2 => by
    rw [e] at e1 e2
    simp only at e1 e2
    rw [hl] at e1
    exact h.le y hy (.inl (by omega))
  exact ⟨hl, by rw [← hl]; exact hh, hX, hkey, h.goes hi hh hX (by rw [e]; exact repB_iff.1 ht) hkey⟩
theorem LI.hears {seen : List Lk} {last : Lk} {f : Nat → Lk} (h : LI seen last f) {i k : Nat} (hi : i < 16) (hk : k < 16) : joinK (f i) (f k) ∈ seen ∧ LI seen last (upd f i (joinK (f i) (f k))) := by
  have hm : joinK (f i) (f k) ∈ seen := by
    rcases joinK_or (f i) (f k) with e | e
    · rw [e]; exact h.own i hi
    · rw [e]; exact h.own k hk
  refine ⟨hm, fun j hj => ?_, h.top, h.le, h.key, fun y hy hne => ?_, h.rep, ?_⟩
  · unfold upd; split
    · exact hm
    · exact h.own j hj
  · have hp := h.past y hy hne
    unfold upd; split
    · rename_i e
      rw [e] at hp
      rcases ltL_or (f i) (f k) with h' | h' | h'
      · rw [joinK_lt h']; exact ltL_trans hp h'
      · rw [← h', joinK_self]; exact hp
      · rw [joinK_not (fun h'' => ltL_irrefl _ (ltL_trans h' h''))]; exact hp
    · exact hp
  · obtain ⟨k0, hk0, e0⟩ := h.known
    by_cases hki : k0 = i
    · subst hki
      exact ⟨k0, hk0, by simp only [upd]; rw [e0, joinK_not (h.le _ (h.own k hk))]; simp⟩
    · exact ⟨k0, hk0, by simp only [upd, if_neg hki]; exact e0⟩
end Go.Proofs.Ytbaacdkjdkkifaa
