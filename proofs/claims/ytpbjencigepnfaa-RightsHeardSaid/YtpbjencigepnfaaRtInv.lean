/- What holds of replicas each of which gives, uses and moves its own alone, whatever they hear of one another. No walk. -/
import Derived.Test.YtpbjencigepnfaaRtSum
namespace Go.Proofs.Ytpbjencigepnfaa

/-- The numbers that replica k alone changes. -/
def mine (k p : Nat) : Prop := p = k ∨ p = 16 + k ∨ ∃ m, m < 16 ∧ p = 32 + k * 16 + m
theorem mine_lt {k p : Nat} (hk : k < 16) (h : mine k p) : p < 288 := by
  rcases h with rfl | rfl | ⟨m, hm, rfl⟩ <;> omega
theorem mine_one {j k p : Nat} (hj : j < 16) (hk : k < 16) (h1 : mine j p) (h2 : mine k p) : j = k := by
  rcases h1 with rfl | rfl | ⟨m, hm, rfl⟩ <;> rcases h2 with h2 | h2 | ⟨m', hm', h2⟩ <;> omega
def owner (p : Nat) : Nat := if p < 16 then p else if p < 32 then p - 16 else (p - 32) / 16
theorem owner_lt {p : Nat} (h : p < 288) : owner p < 16 := by unfold owner; split <;> (try split) <;> omega
theorem owner_mine {p : Nat} (h : p < 288) : mine (owner p) p := by
  unfold owner mine
  split
  · exact .inl rfl
  · split
    · exact .inr (.inl (by omega))
    · exact .inr (.inr ⟨(p - 32) % 16, by omega, by omega⟩)
theorem mine_owner {k p : Nat} (hk : k < 16) (h : mine k p) : owner p = k := mine_one (owner_lt (mine_lt hk h)) hk (owner_mine (mine_lt hk h)) h

/-- What k has is no less where it knows more of what came, and the same of its own. -/
theorem V_ge {q r : Nat → Int} {k : Nat} (h1 : ∀ p, mine k p → r p = q p) (h2 : ∀ m, m < 16 → q (32 + m * 16 + k) ≤ r (32 + m * 16 + k)) : V q k ≤ V r k := by
  unfold V
  rw [h1 k (.inl rfl), h1 (16 + k) (.inr (.inl rfl)), sumF_congr (f := fun m => r (32 + k * 16 + m)) (g := fun m => q (32 + k * 16 + m)) (fun i hi => h1 _ (.inr (.inr ⟨i, hi, rfl⟩)))]
  have := sumF_le (f := fun m => q (32 + m * 16 + k)) (g := fun m => r (32 + m * 16 + k)) (n := 16) h2
  omega

/-- What holds of what the replicas know, behind t steps. -/
structure Inv (t : Nat) (s : Nat → Nat → Int) : Prop where
  pos : ∀ a p, a < 16 → p < 288 → 0 ≤ s a p ∧ s a p ≤ 1000 * (t : Int)
  top : ∀ a k p, a < 16 → k < 16 → mine k p → s a p ≤ s k p
  chain : ∀ a b k, a < 16 → b < 16 → k < 16 → (∀ p, mine k p → s a p ≤ s b p) ∨ (∀ p, mine k p → s b p ≤ s a p)
  free : ∀ a k, a < 16 → k < 16 → 0 ≤ V (s a) k

/-- Replica a knows r from now on. -/
def upd (s : Nat → Nat → Int) (a : Nat) (r : Nat → Int) : Nat → Nat → Int := fun b => if b = a then r else s b
theorem upd_at (s : Nat → Nat → Int) (a : Nat) (r : Nat → Int) : upd s a r a = r := by simp [upd]
theorem upd_ne (s : Nat → Nat → Int) {a b : Nat} (r : Nat → Int) (h : b ≠ a) : upd s a r b = s b := by simp [upd, h]

theorem V_zero (k : Nat) : V (fun _ => 0) k = 0 := by simp only [V, sumF_zero]; omega
theorem Inv.start : Inv 0 (fun _ _ => 0) :=
  ⟨fun _ _ _ _ => ⟨by omega, by simp⟩, fun _ _ _ _ _ _ => by omega, fun _ _ _ _ _ _ => .inl fun _ _ => by omega, fun _ k _ _ => by rw [V_zero]; omega⟩
theorem Inv.later {t t' : Nat} {s : Nat → Nat → Int} (h : Inv t s) (ht : t ≤ t') : Inv t' s :=
  ⟨fun a p ha hp => by have := h.pos a p ha hp; omega, h.top, h.chain, h.free⟩
theorem Inv.congr {t : Nat} {s s' : Nat → Nat → Int} (h : Inv t s) (hs : ∀ a p, a < 16 → p < 288 → s' a p = s a p) : Inv t s' := by
  refine ⟨fun a p ha hp => by rw [hs a p ha hp]; exact h.pos a p ha hp, fun a k p ha hk hp => ?_, fun a b k ha hb hk => ?_, fun a k ha hk => ?_⟩
  · rw [hs a p ha (mine_lt hk hp), hs k p hk (mine_lt hk hp)]; exact h.top a k p ha hk hp
  · rcases h.chain a b k ha hb hk with h1 | h1
    · exact .inl fun p hp => by rw [hs a p ha (mine_lt hk hp), hs b p hb (mine_lt hk hp)]; exact h1 p hp
    · exact .inr fun p hp => by rw [hs a p ha (mine_lt hk hp), hs b p hb (mine_lt hk hp)]; exact h1 p hp
  · have h1 := h.free a k ha hk
    have : V (s' a) k = V (s a) k := by
      unfold V
      rw [hs a k ha (by omega), hs a (16 + k) ha (by omega), sumF_congr (f := fun m => s' a (32 + m * 16 + k)) (g := fun m => s a (32 + m * 16 + k)) (fun i hi => hs a _ ha (by omega)),
        sumF_congr (f := fun m => s' a (32 + k * 16 + m)) (g := fun m => s a (32 + k * 16 + m)) (fun i hi => hs a _ ha (by omega))]
    rw [this]; exact h1

/-- A replica changes a number of its own, upwards; what is free is not below 0 behind it. -/
theorem Inv.own {t : Nat} {s : Nat → Nat → Int} (h : Inv t s) {a : Nat} (ha : a < 16) {r : Nat → Int} {q : Nat} (hq : mine a q) (he : ∀ p, p < 288 → p ≠ q → r p = s a p) (h1 : s a q ≤ r q) (h2 : r q ≤ s a q + 1000) (hf : ∀ k, k < 16 → 0 ≤ V r k) : Inv (t + 1) (upd s a r) := by
  have hle : ∀ p, p < 288 → s a p ≤ r p := fun p hp => by
    by_cases e : p = q
    · subst e; exact h1
    · rw [he p hp e]; omega
  have hother : ∀ k p, k < 16 → k ≠ a → mine k p → r p = s a p := fun k p hk hka hp => he p (mine_lt hk hp) (fun e => hka (mine_one hk ha hp (e ▸ hq)))
  refine ⟨fun b p hb hp => ?_, fun b k p hb hk hp => ?_, fun b c k hb hc hk => ?_, fun b k hb hk => ?_⟩
  · by_cases e : b = a
    · subst e
      rw [upd_at]
      have h3 := h.pos b p hb hp
      by_cases e2 : p = q
      · subst e2; push_cast; omega
      · rw [he p hp e2]; push_cast; omega
    · rw [upd_ne _ _ e]
      have h3 := h.pos b p hb hp
      push_cast; omega
  · have hp288 := mine_lt hk hp
    by_cases e1 : b = a <;> by_cases e2 : k = a
    · rw [e1, e2]; omega
    · rw [e1, upd_at, upd_ne _ _ e2, hother k p hk e2 hp]; exact h.top a k p ha hk hp
    · rw [e2, upd_at, upd_ne _ _ e1]
      have h3 := h.top b k p hb hk hp
      rw [e2] at h3
      have := hle p hp288
      omega
    · rw [upd_ne _ _ e1, upd_ne _ _ e2]; exact h.top b k p hb hk hp
  · by_cases e : k = a
    · subst e
      -- of its own numbers the new ones are the greatest
      by_cases e1 : b = k
      · subst e1
        refine .inr fun p hp => ?_
        rw [upd_at]
        by_cases e2 : c = b
        · rw [e2, upd_at]; omega
        · rw [upd_ne _ _ e2]; have := h.top c b p hc hb hp; have := hle p (mine_lt hk hp); omega
      · by_cases e2 : c = k
        · subst e2
          refine .inl fun p hp => ?_
          rw [upd_at, upd_ne _ _ e1]; have := h.top b c p hb hc hp; have := hle p (mine_lt hk hp); omega
        · rw [upd_ne _ _ e1, upd_ne _ _ e2]; exact h.chain b c k hb hc hk
    · -- of another one's numbers it knows what it did
      have hs : ∀ d p, d < 16 → mine k p → upd s a r d p = s d p := fun d p hd hp => by
        by_cases e1 : d = a
        · rw [e1, upd_at]; exact hother k p hk e hp
        · rw [upd_ne _ _ e1]
      rcases h.chain b c k hb hc hk with h3 | h3
      · exact .inl fun p hp => by rw [hs b p hb hp, hs c p hc hp]; exact h3 p hp
      · exact .inr fun p hp => by rw [hs b p hb hp, hs c p hc hp]; exact h3 p hp
  · by_cases e : b = a
    · rw [e, upd_at]; exact hf k hk
    · rw [upd_ne _ _ e]; exact h.free b k hb hk

/-- What two know: of what k alone changes it is what one of them knows. -/
theorem Inv.one {t : Nat} {s : Nat → Nat → Int} (h : Inv t s) {a b k : Nat} (ha : a < 16) (hb : b < 16) (hk : k < 16) {r : Nat → Int} (hr : ∀ p, p < 288 → r p = max (s a p) (s b p)) :
    (∀ p, mine k p → r p = s a p) ∨ (∀ p, mine k p → r p = s b p) := by
  rcases h.chain a b k ha hb hk with h1 | h1
  · exact .inr fun p hp => by rw [hr p (mine_lt hk hp)]; have := h1 p hp; omega
  · exact .inl fun p hp => by rw [hr p (mine_lt hk hp)]; have := h1 p hp; omega
theorem Inv.meet {t : Nat} {s : Nat → Nat → Int} (h : Inv t s) {a b : Nat} (ha : a < 16) (hb : b < 16) {r : Nat → Int} (hr : ∀ p, p < 288 → r p = max (s a p) (s b p)) {k : Nat} (hk : k < 16) : 0 ≤ V r k := by
  rcases h.one ha hb hk hr with h1 | h1
  · have h2 := V_ge (q := s a) (r := r) (k := k) h1 (fun m hm => by rw [hr _ (by omega)]; omega)
    have := h.free a k ha hk; omega
  · have h2 := V_ge (q := s b) (r := r) (k := k) h1 (fun m hm => by rw [hr _ (by omega)]; omega)
    have := h.free b k hb hk; omega
/-- Replica a hears of b. -/
theorem Inv.hear {t : Nat} {s : Nat → Nat → Int} (h : Inv t s) {a b : Nat} (ha : a < 16) (hb : b < 16) {r : Nat → Int} (hr : ∀ p, p < 288 → r p = max (s a p) (s b p)) : Inv (t + 1) (upd s a r) := by
  refine ⟨fun c p hc hp => ?_, fun c k p hc hk hp => ?_, fun c d k hc hd hk => ?_, fun c k hc hk => ?_⟩
  · have h1 := h.pos a p ha hp; have h2 := h.pos b p hb hp
    by_cases e : c = a
    · rw [e, upd_at, hr p hp]; push_cast; omega
    · rw [upd_ne _ _ e]; have := h.pos c p hc hp; push_cast; omega
  · have hp288 := mine_lt hk hp
    have ta := h.top a k p ha hk hp; have tb := h.top b k p hb hk hp; have tc := h.top c k p hc hk hp
    by_cases e1 : c = a <;> by_cases e2 : k = a
    · rw [e1, e2]; omega
    · rw [e1, upd_at, upd_ne _ _ e2, hr p hp288]; omega
    · rw [e2, upd_at, upd_ne _ _ e1, hr p hp288]; rw [e2] at tc; omega
    · rw [upd_ne _ _ e1, upd_ne _ _ e2]; exact tc
  · -- of what k changes each knows what some replica knew
    have hs : ∀ c, c < 16 → ∃ d, d < 16 ∧ ∀ p, mine k p → upd s a r c p = s d p := fun c hc => by
      by_cases e : c = a
      · rcases h.one ha hb hk hr with h1 | h1
        · exact ⟨a, ha, fun p hp => by rw [e, upd_at]; exact h1 p hp⟩
        · exact ⟨b, hb, fun p hp => by rw [e, upd_at]; exact h1 p hp⟩
      · exact ⟨c, hc, fun p _ => by rw [upd_ne _ _ e]⟩
    obtain ⟨c', hc', ec⟩ := hs c hc
    obtain ⟨d', hd', ed⟩ := hs d hd
    rcases h.chain c' d' k hc' hd' hk with h3 | h3
    · exact .inl fun p hp => by rw [ec p hp, ed p hp]; exact h3 p hp
    · exact .inr fun p hp => by rw [ec p hp, ed p hp]; exact h3 p hp
  · by_cases e : c = a
    · rw [e, upd_at]; exact h.meet ha hb hr hk
    · rw [upd_ne _ _ e]; exact h.free c k hc hk

/-! ### All of them joined. -/
def mx (s : Nat → Nat → Int) : Nat → Nat → Int
  | 0, _ => 0
  | m + 1, p => max (mx s m p) (s m p)
theorem mx_le {s : Nat → Nat → Int} {p : Nat} {B : Int} (hB : 0 ≤ B) : ∀ {m : Nat}, (∀ a, a < m → s a p ≤ B) → mx s m p ≤ B
  | 0, _ => hB
  | m + 1, h => by
    have h1 := mx_le hB (m := m) (fun a ha => h a (by omega))
    have h2 := h m (by omega)
    simp only [mx]; omega
theorem le_mx {s : Nat → Nat → Int} {p : Nat} : ∀ {m a : Nat}, a < m → s a p ≤ mx s m p
  | m + 1, a, h => by
    simp only [mx]
    by_cases e : a = m
    · subst e; omega
    · have := le_mx (s := s) (p := p) (m := m) (a := a) (by omega); omega
theorem Inv.all {t : Nat} {s : Nat → Nat → Int} (h : Inv t s) {k p : Nat} (hk : k < 16) (hp : mine k p) : mx s 16 p = s k p := by
  have h1 := le_mx (s := s) (p := p) (m := 16) (a := k) hk
  have h2 := mx_le (s := s) (p := p) (m := 16) (h.pos k p hk (mine_lt hk hp)).1 (fun a ha => h.top a k p ha hk hp)
  omega
theorem Inv.all_pos {t : Nat} {s : Nat → Nat → Int} (h : Inv t s) {p : Nat} (hp : p < 288) : 0 ≤ mx s 16 p ∧ mx s 16 p ≤ 1000 * (t : Int) := by
  rw [h.all (owner_lt hp) (owner_mine hp)]; exact h.pos _ p (owner_lt hp) hp
theorem Inv.all_ge {t : Nat} {s : Nat → Nat → Int} (h : Inv t s) {k : Nat} (hk : k < 16) : V (s k) k ≤ V (mx s 16) k :=
  V_ge (fun _p hp => h.all hk hp) (fun _m _hm => le_mx hk)
theorem Inv.all_free {t : Nat} {s : Nat → Nat → Int} (h : Inv t s) {k : Nat} (hk : k < 16) : 0 ≤ V (mx s 16) k := by
  have := h.all_ge hk; have := h.free k k hk hk; omega
end Go.Proofs.Ytpbjencigepnfaa
