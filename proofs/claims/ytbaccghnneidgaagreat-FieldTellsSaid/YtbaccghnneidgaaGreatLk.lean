/- Plain arithmetic of layer 5 (lock): which lock is behind which, and what joining, writing and passing on tell. No program is spoken of here. -/
import Derived.Test.YtbaccghnneidgaaGreatBase0
namespace Go.Proofs.YtbaccghnneidgaaGreat

structure Lk where
  s : Int
  v : Int
  h : Int
  x : Int
/-- Its four numbers, in their order. -/
def Lk.l (a : Lk) : List Int := [a.s, a.v, a.h, a.x]
theorem Lk.len (a : Lk) : a.l.length = 4 := rfl
theorem Lk.ext' {a b : Lk} (h1 : a.s = b.s) (h2 : a.v = b.v) (h3 : a.h = b.h) (h4 : a.x = b.x) : a = b := by
  cases a; cases b; simp_all
theorem Lk.inj {a b : Lk} (h : a.l = b.l) : a = b := by
  simp only [Lk.l, List.cons.injEq, and_true] at h
  exact Lk.ext' h.1 h.2.1 h.2.2.1 h.2.2.2
theorem Lk.same (a : Lk) : (a.l == a.l) = true := by simp
theorem Lk.beq_iff {a b : Lk} : (a.l == b.l) = true ↔ a = b := by
  rw [beq_iff_eq]
  exact ⟨Lk.inj, fun h => by rw [h]⟩
theorem Lk.beq_false {a b : Lk} (h : a ≠ b) : (a.l == b.l) = false := by
  cases hb : a.l == b.l
  · rfl
  · exact absurd (Lk.beq_iff.1 hb) h
/-- The zero lock. -/
def z4 : Lk := ⟨0, 0, 0, 0⟩

def cmpI (x y : Int) : Int := if x < y then -1 else if y < x then 1 else 0
theorem cmpI_lt {x y : Int} (h : x < y) : cmpI x y = -1 := by simp [cmpI, h]
theorem cmpI_gt {x y : Int} (h : y < x) : cmpI x y = 1 := by unfold cmpI; rw [if_neg (by omega), if_pos h]
theorem cmpI_eq (x : Int) : cmpI x x = 0 := by simp [cmpI]
theorem cmpI_cases (x y : Int) : (x < y ∧ cmpI x y = -1) ∨ (y < x ∧ cmpI x y = 1) ∨ (x = y ∧ cmpI x y = 0) := by
  unfold cmpI
  split
  · omega
  · split <;> omega
def cmpL (a b : Lk) : Int := if a.s ≠ b.s then cmpI a.s b.s else if a.v ≠ b.v then cmpI a.v b.v else if a.h ≠ b.h then cmpI a.h b.h else cmpI a.x b.x
/-- b is behind a. -/
def ltL (a b : Lk) : Prop := a.s < b.s ∨ (a.s = b.s ∧ (a.v < b.v ∨ (a.v = b.v ∧ (a.h < b.h ∨ (a.h = b.h ∧ a.x < b.x)))))
theorem cmpL_cases (a b : Lk) : (ltL a b ∧ cmpL a b = -1) ∨ (ltL b a ∧ cmpL a b = 1) ∨ (a = b ∧ cmpL a b = 0) := by
  unfold cmpL ltL
  have h1 := cmpI_cases a.s b.s
  have h2 := cmpI_cases a.v b.v
  have h3 := cmpI_cases a.h b.h
  have h4 := cmpI_cases a.x b.x
  split
  · omega
  · split
    · omega
    · split
      · omega
      · by_cases hx : a.x = b.x
        · exact .inr (.inr ⟨Lk.ext' (by omega) (by omega) (by omega) hx, by omega⟩)
        · omega
theorem ltL_irrefl (a : Lk) : ¬ ltL a a := by unfold ltL; omega
theorem ltL_trans {a b c : Lk} (h1 : ltL a b) (h2 : ltL b c) : ltL a c := by unfold ltL at *; omega
theorem cmp_self (a : Lk) : cmpL a a = 0 := by
  rcases cmpL_cases a a with ⟨h, _⟩ | ⟨h, _⟩ | ⟨_, h⟩
  · exact absurd h (ltL_irrefl a)
  · exact absurd h (ltL_irrefl a)
  · exact h
theorem cmp_flip (a b : Lk) : cmpL b a = -cmpL a b := by
  rcases cmpL_cases a b with ⟨h, e⟩ | ⟨h, e⟩ | ⟨rfl, e⟩
  · rcases cmpL_cases b a with ⟨h', e'⟩ | ⟨h', e'⟩ | ⟨rfl, e'⟩
    · exact absurd (ltL_trans h h') (ltL_irrefl _)
    · omega
    · exact absurd h (ltL_irrefl _)
  · rcases cmpL_cases b a with ⟨h', e'⟩ | ⟨h', e'⟩ | ⟨rfl, e'⟩
    · omega
    · exact absurd (ltL_trans h h') (ltL_irrefl _)
    · exact absurd h (ltL_irrefl _)
  · omega
theorem cmp_pos {a b : Lk} : 0 < cmpL a b ↔ ltL b a := by
  rcases cmpL_cases a b with ⟨h, e⟩ | ⟨h, e⟩ | ⟨rfl, e⟩
  · rw [e]; exact ⟨fun h' => by omega, fun h' => absurd (ltL_trans h h') (ltL_irrefl _)⟩
  · rw [e]; exact ⟨fun _ => h, fun _ => by omega⟩
  · rw [e]; exact ⟨fun h' => by omega, fun h' => absurd h' (ltL_irrefl _)⟩
theorem cmp_neg {a b : Lk} : cmpL a b < 0 ↔ ltL a b := by
  have := cmp_flip a b
  rw [← cmp_pos]
  omega
theorem cmp_zero {a b : Lk} : cmpL a b = 0 ↔ a = b := by
  rcases cmpL_cases a b with ⟨h, e⟩ | ⟨h, e⟩ | ⟨rfl, e⟩
  · rw [e]; exact ⟨fun h' => by omega, fun h' => by subst h'; exact absurd h (ltL_irrefl _)⟩
  · rw [e]; exact ⟨fun h' => by omega, fun h' => by subst h'; exact absurd h (ltL_irrefl _)⟩
  · exact ⟨fun _ => rfl, fun _ => e⟩
theorem cmp_three (a b : Lk) : cmpL a b = -1 ∨ cmpL a b = 0 ∨ cmpL a b = 1 := by
  rcases cmpL_cases a b with ⟨_, e⟩ | ⟨_, e⟩ | ⟨_, e⟩ <;> simp [e]
theorem ltL_or (a b : Lk) : ltL a b ∨ a = b ∨ ltL b a := by
  rcases cmpL_cases a b with ⟨h, _⟩ | ⟨h, _⟩ | ⟨h, _⟩
  · exact .inl h
  · exact .inr (.inr h)
  · exact .inr (.inl h)

/-- The document's own telling of which one is behind. -/
def behB (a b : Lk) : Bool := if a.s ≠ b.s then decide (b.s < a.s) else if a.v ≠ b.v then decide (b.v < a.v) else if a.h ≠ b.h then decide (b.h < a.h) else decide (b.x < a.x)
theorem behB_iff {a b : Lk} : behB a b = true ↔ ltL b a := by
  unfold behB ltL
  split
  · rw [decide_eq_true_eq]; omega
  · split
    · rw [decide_eq_true_eq]; omega
    · split
      · rw [decide_eq_true_eq]; omega
      · rw [decide_eq_true_eq]; omega
theorem behB_cmp (a b : Lk) : behB a b = decide (0 < cmpL a b) := by
  rw [Bool.eq_iff_iff, behB_iff, decide_eq_true_eq, cmp_pos]

/-- The one that is behind. -/
def joinK (a b : Lk) : Lk := if 0 < cmpL b a then b else a
theorem joinK_lt {a b : Lk} (h : ltL a b) : joinK a b = b := by rw [joinK, if_pos (cmp_pos.2 h)]
theorem joinK_not {a b : Lk} (h : ¬ ltL a b) : joinK a b = a := by rw [joinK, if_neg (fun h' => h (cmp_pos.1 h'))]
theorem joinK_self (a : Lk) : joinK a a = a := joinK_not (ltL_irrefl a)
theorem joinK_comm (a b : Lk) : joinK b a = joinK a b := by
  rcases ltL_or a b with h | rfl | h
  · rw [joinK_lt h, joinK_not (fun h' => ltL_irrefl _ (ltL_trans h h'))]
  · rfl
  · rw [joinK_lt h, joinK_not (fun h' => ltL_irrefl _ (ltL_trans h h'))]
theorem joinK_or (a b : Lk) : joinK a b = a ∨ joinK a b = b := by unfold joinK; split <;> simp
theorem joinK_max (a b : Lk) : ¬ ltL (joinK a b) a ∧ ¬ ltL (joinK a b) b := by
  rcases ltL_or a b with h | rfl | h
  · rw [joinK_lt h]; exact ⟨fun h' => ltL_irrefl _ (ltL_trans h h'), ltL_irrefl _⟩
  · rw [joinK_self]; exact ⟨ltL_irrefl _, ltL_irrefl _⟩
  · rw [joinK_comm, joinK_lt h]; exact ⟨ltL_irrefl _, fun h' => ltL_irrefl _ (ltL_trans h h')⟩
theorem joinK_assoc (a b c : Lk) : joinK (joinK a b) c = joinK a (joinK b c) := by
  rcases ltL_or a b with h | rfl | h
  · rw [joinK_lt h]
    rcases joinK_or b c with e | e
    · rw [e, joinK_lt h]
    · rw [e]
      rcases ltL_or b c with h' | rfl | h'
      · rw [joinK_lt (ltL_trans h h')]
      · rw [joinK_lt h]
      · rw [joinK_not (fun h'' => ltL_irrefl _ (ltL_trans h' h''))] at e
        rw [← e, joinK_lt h]
  · rw [joinK_self]
    rcases ltL_or a c with h' | rfl | h'
    · rw [joinK_lt h', joinK_lt h']
    · rw [joinK_self, joinK_self]
    · rw [joinK_comm c a, joinK_lt h', joinK_self]
  · rw [joinK_comm b a, joinK_lt h]
    rcases ltL_or b c with h' | rfl | h'
    · rw [joinK_lt h']
    · rw [joinK_self, joinK_comm b a, joinK_lt h]
    · rw [joinK_comm c b, joinK_lt h', joinK_comm b a, joinK_lt h, joinK_comm c a, joinK_lt (ltL_trans h' h)]
theorem cmp_join (a b : Lk) : 0 ≤ cmpL (joinK a b) a ∧ 0 ≤ cmpL (joinK a b) b := by
  obtain ⟨h1, h2⟩ := joinK_max a b
  exact ⟨Int.not_lt.1 fun h => h1 (cmp_neg.1 h), Int.not_lt.1 fun h => h2 (cmp_neg.1 h)⟩

/-! ### New, Right, Write, Pass. -/
def repBK (k : Int) : Bool := decide (0 ≤ k) && decide (k ≤ 15)
theorem repB_iffK {k : Int} : repBK k = true ↔ (0 ≤ k ∧ k ≤ 15) := by simp [repBK]
theorem repB_notK {k : Int} : repBK k = false ↔ (k < 0 ∨ 15 < k) := by rw [← Bool.not_eq_true, repB_iffK]; omega
def cntB (n : Int) : Bool := decide (0 ≤ n) && isB n
theorem cntB_iff {n : Int} : cntB n = true ↔ (0 ≤ n ∧ n ≤ 1099511627776) := by
  simp only [cntB, Bool.and_eq_true, decide_eq_true_eq, isB_iff]; omega
def newEK (k n : Int) : Int := if repBK k = false then 1 else if isB n = false then 2 else 0
def newAK (k n : Int) : Lk := if newEK k n = 0 then ⟨0, 0, k, n⟩ else z4
def rightL (a : Lk) : Bool := cntB a.s && cntB a.v && repBK a.h && isB a.x
theorem rightL_iff {a : Lk} : rightL a = true ↔ (0 ≤ a.s ∧ a.s ≤ 1099511627776 ∧ 0 ≤ a.v ∧ a.v ≤ 1099511627776 ∧ 0 ≤ a.h ∧ a.h ≤ 15 ∧ -1099511627776 ≤ a.x ∧ a.x ≤ 1099511627776) := by
  simp only [rightL, Bool.and_eq_true, cntB_iff, repB_iffK, isB_iff, and_assoc]
def wrE (a : Lk) (k n : Int) : Int := if k ≠ a.h then 9 else if isB n = false then 2 else addE a.v 1
def wrA (a : Lk) (k n : Int) : Lk := if wrE a k n = 0 then ⟨a.s, a.v + 1, a.h, n⟩ else z4
def psE (a : Lk) (k t : Int) : Int := if k ≠ a.h then 9 else if repBK t = false then 1 else addE a.s 1
def psA (a : Lk) (k t : Int) : Lk := if psE a k t = 0 then ⟨a.s + 1, 0, t, a.x⟩ else z4
theorem addE_zero {n : Int} (h : addE n 1 = 0) : isB n = true ∧ isB (n + 1) = true ∧ addN n 1 = n + 1 := by
  cases hk : okB n 1 (n + 1) with
  | true => obtain ⟨h1, _, h3⟩ := okB_iff.1 hk; exact ⟨h1, h3, (addE_ok hk).2⟩
  | false => rw [(addE_no hk).1] at h; omega
theorem addE_two {n : Int} (h : addE n 1 ≠ 0) : addE n 1 = 2 := by
  cases hk : okB n 1 (n + 1) with
  | true => exact absurd (addE_ok hk).1 h
  | false => exact (addE_no hk).1
theorem addE_small {n : Int} (h0 : -1099511627776 ≤ n) (h1 : n < 1099511627776) : addE n 1 = 0 := (addE_ok (okB_iff.2 ⟨isB_iff.2 ⟨h0, by omega⟩, by decide, isB_iff.2 ⟨by omega, by omega⟩⟩)).1
theorem wr_zero {a : Lk} {k n : Int} (h : wrE a k n = 0) : k = a.h ∧ isB n = true ∧ isB a.v = true ∧ isB (a.v + 1) = true ∧ wrA a k n = ⟨a.s, a.v + 1, a.h, n⟩ := by
  have hA : wrA a k n = ⟨a.s, a.v + 1, a.h, n⟩ := by rw [wrA, if_pos h]
  unfold wrE at h
  split at h
  · omega
  · rename_i h1
    split at h
    · omega
    · rename_i h2
      obtain ⟨h3, h4, _⟩ := addE_zero h
      exact ⟨Classical.not_not.1 h1, by simpa using h2, h3, h4, hA⟩
theorem ps_zero {a : Lk} {k t : Int} (h : psE a k t = 0) : k = a.h ∧ repBK t = true ∧ isB a.s = true ∧ isB (a.s + 1) = true ∧ psA a k t = ⟨a.s + 1, 0, t, a.x⟩ := by
  have hA : psA a k t = ⟨a.s + 1, 0, t, a.x⟩ := by rw [psA, if_pos h]
  unfold psE at h
  split at h
  · omega
  · rename_i h1
    split at h
    · omega
    · rename_i h2
      obtain ⟨h3, h4, _⟩ := addE_zero h
      exact ⟨Classical.not_not.1 h1, by simpa using h2, h3, h4, hA⟩
theorem new_zero {k n : Int} (h : newEK k n = 0) : repBK k = true ∧ isB n = true ∧ newAK k n = ⟨0, 0, k, n⟩ := by
  have hA : newAK k n = ⟨0, 0, k, n⟩ := by rw [newAK, if_pos h]
  unfold newEK at h
  split at h
  · omega
  · rename_i h1
    split at h
    · omega
    · rename_i h2
      exact ⟨by simpa using h1, by simpa using h2, hA⟩
end Go.Proofs.YtbaccghnneidgaaGreat
