/- Plain arithmetic of layer 6, on: joining hangs on no order, nor on how often. No program is spoken of here. -/
import Derived.Test.YtaniacohimdpiaaHoJoin
namespace Go.Proofs.Ytaniacohimdpiaa

/-- What two know of one name. -/
def comb : Option Ho → Option Ho → Option Ho
  | none, o => o
  | some x, none => some x
  | some x, some y => some (setS x (max x.s y.s))
def joinJ (a b : List Ho) : List Ho := isort (jraw a b)
theorem joinJ_rises {a b : List Ho} (ha : a.Pairwise AH) (hb : b.Pairwise AH) : (joinJ a b).Pairwise AH := isort_rises (jraw_apart (Apart.of_rises ha) (Apart.of_rises hb))
theorem mem_joinJ {a b : List Ho} {z : Ho} : z ∈ joinJ a b ↔ z ∈ jraw a b := (isort_perm _).mem_iff
theorem joinJ_length (a b : List Ho) : (joinJ a b).length = (jraw a b).length := (isort_perm _).length_eq
theorem fnd_of_mem {l : List Ho} (hl : l.Pairwise AH) {z : Ho} {k n : Int} (hz : z ∈ l) (h1 : z.r = k) (h2 : z.n = n) : fnd l k n = some z := by
  subst h1; subst h2; exact fnd_mem hl hz
theorem fnd_ext {l m : List Ho} (hl : l.Pairwise AH) (hm : m.Pairwise AH) (h : ∀ k n, fnd l k n = fnd m k n) : l = m := by
  refine uniq hl hm fun z => ⟨fun hz => ?_, fun hz => ?_⟩
  · have := fnd_mem hl hz
    rw [h] at this
    exact (fnd_name this).1
  · have := fnd_mem hm hz
    rw [← h] at this
    exact (fnd_name this).1
theorem fnd_join {a b : List Ho} (ha : a.Pairwise AH) (hb : b.Pairwise AH) (k n : Int) : fnd (joinJ a b) k n = comb (fnd a k n) (fnd b k n) := by
  have hj := joinJ_rises ha hb
  cases hfa : fnd a k n with
  | some x =>
    obtain ⟨hx, e1, e2⟩ := fnd_name hfa
    have hm : upd b x ∈ joinJ a b := mem_joinJ.2 (mem_jraw.2 (.inl ⟨x, hx, rfl⟩))
    have hu := upd_name b x
    rw [fnd_of_mem hj hm (by rw [hu.1, e1]) (by rw [hu.2.1, e2])]
    cases hfb : fnd b k n with
    | none => rw [upd_none (by rw [e1, e2]; exact hfb)]; rfl
    | some y => rw [upd_some (by rw [e1, e2]; exact hfb)]; rfl
  | none =>
    cases hfb : fnd b k n with
    | some y =>
      obtain ⟨hy, e1, e2⟩ := fnd_name hfb
      have hm : y ∈ joinJ a b := mem_joinJ.2 (mem_jraw.2 (.inr ⟨hy, fun x hx hs => fnd_none hfa hx ⟨hs.1.trans e1, hs.2.trans e2⟩⟩))
      rw [fnd_of_mem hj hm e1 e2]
      rfl
    | none =>
      show fnd (joinJ a b) k n = none
      rw [fnd, List.find?_eq_none]
      intro z hz e
      have e := nm_iff.1 e
      rcases mem_jraw.1 (mem_joinJ.1 hz) with ⟨x, hx, rfl⟩ | ⟨h1, _⟩
      · rw [(upd_name b x).1, (upd_name b x).2.1] at e
        exact fnd_none hfa hx e
      · exact fnd_none hfb h1 e
/-- They are of one amount and time, where both have one. -/
def NC (a b : List Ho) : Prop := ∀ k n x y, fnd a k n = some x → fnd b k n = some y → x.a = y.a ∧ x.d = y.d
theorem any_cl {a b : List Ho} (hb : b.Pairwise AH) : b.any (clB a) = false ↔ NC a b := by
  rw [List.any_eq_false]
  constructor
  · intro h k n x y hx hy
    obtain ⟨h1, rfl, rfl⟩ := fnd_name hy
    have := h y h1
    rw [clB_hit hx] at this
    simp at this
    exact this
  · intro h y hy
    cases hf : fnd a y.r y.n with
    | none => rw [clB_miss hf]; decide
    | some x =>
      obtain ⟨h1, h2⟩ := h _ _ x y hf (fnd_mem hb hy)
      rw [clB_hit hf]
      simp [h1, h2]
theorem NC.symm {a b : List Ho} (h : NC a b) : NC b a := fun k n x y hx hy => by
  obtain ⟨h1, h2⟩ := h k n y x hy hx
  exact ⟨h1.symm, h2.symm⟩
theorem join_three {a b : List Ho} (ra : rightsL a = true) (rb : rightsL b = true) :
    (¬ NC a b ∧ joinE a b = 1 ∧ joinL a b = []) ∨ (NC a b ∧ 16 < (joinJ a b).length ∧ joinE a b = 7 ∧ joinL a b = []) ∨ (NC a b ∧ (joinJ a b).length ≤ 16 ∧ joinE a b = 0 ∧ joinL a b = joinJ a b) := by
  have hb := (rights_iff.1 rb).2.2
  have hall : (rightsL a && rightsL b) = true := by rw [ra, rb]; rfl
  cases hc : b.any (clB a) with
  | true =>
    refine .inl ⟨fun h => ?_, ?_⟩
    · rw [(any_cl hb).2 h] at hc; cases hc
    · have e : joinE a b = 1 := by unfold joinE; rw [hall, if_pos rfl, hc]; rfl
      exact ⟨e, by rw [joinL, e]; rfl⟩
  | false =>
    have hn := (any_cl hb).1 hc
    by_cases h16 : 16 < (jraw a b).length
    · have e : joinE a b = 7 := by unfold joinE; rw [hall, if_pos rfl, hc, if_neg (by decide), if_pos h16]
      exact .inr (.inl ⟨hn, by rw [joinJ_length]; exact h16, e, by rw [joinL, e]; rfl⟩)
    · have e : joinE a b = 0 := by unfold joinE; rw [hall, if_pos rfl, hc, if_neg (by decide), if_neg h16]
      exact .inr (.inr ⟨hn, by rw [joinJ_length]; omega, e, by rw [joinL, e]; rfl⟩)
theorem join_not {a b : List Ho} (h : ¬ (rightsL a = true ∧ rightsL b = true)) : joinE a b = 1 ∧ joinL a b = [] := by
  refine join_bad ?_
  cases h1 : rightsL a <;> cases h2 : rightsL b <;> simp_all
theorem join_zero {a b : List Ho} (h : joinE a b = 0) : rightsL a = true ∧ rightsL b = true ∧ NC a b ∧ (joinJ a b).length ≤ 16 ∧ joinL a b = joinJ a b := by
  by_cases hr : rightsL a = true ∧ rightsL b = true
  · rcases join_three hr.1 hr.2 with ⟨_, e, _⟩ | ⟨_, _, e, _⟩ | ⟨h1, h2, _, h3⟩
    · omega
    · omega
    · exact ⟨hr.1, hr.2, h1, h2, h3⟩
  · have := (join_not hr).1; omega
theorem joinL_none {a b : List Ho} (h : joinE a b ≠ 0) : joinL a b = [] := by rw [joinL, if_neg h]
theorem joinL_len (a b : List Ho) : (joinL a b).length ≤ 16 := by
  by_cases h : joinE a b = 0
  · obtain ⟨_, _, _, h2, h3⟩ := join_zero h
    rw [h3]; exact h2
  · rw [joinL_none h]; simp
theorem comb_comm {p q : Option Ho} {k n : Int} (hp : ∀ x, p = some x → x.r = k ∧ x.n = n) (hq : ∀ y, q = some y → y.r = k ∧ y.n = n) (h : ∀ x y, p = some x → q = some y → x.a = y.a ∧ x.d = y.d) : comb p q = comb q p := by
  cases p with
  | none => cases q <;> rfl
  | some x =>
    cases q with
    | none => rfl
    | some y =>
      obtain ⟨h1, h2⟩ := h x y rfl rfl
      obtain ⟨h3, h4⟩ := hp x rfl
      obtain ⟨h5, h6⟩ := hq y rfl
      simp only [comb, Option.some.injEq]
      exact Ho.ext' (by simp only [setS]; omega) (by simp only [setS]; omega) h1 h2 (by simp only [setS]; omega)
theorem joinJ_comm {a b : List Ho} (ha : a.Pairwise AH) (hb : b.Pairwise AH) (h : NC a b) : joinJ a b = joinJ b a := by
  refine fnd_ext (joinJ_rises ha hb) (joinJ_rises hb ha) fun k n => ?_
  rw [fnd_join ha hb, fnd_join hb ha]
  exact comb_comm (fun x hx => (fnd_name hx).2) (fun y hy => (fnd_name hy).2) (h k n)
/-- Joining hangs on no order. -/
theorem join_comm (a b : List Ho) : joinE a b = joinE b a ∧ joinL a b = joinL b a := by
  by_cases hr : rightsL a = true ∧ rightsL b = true
  · have ha := (rights_iff.1 hr.1).2.2
    have hb := (rights_iff.1 hr.2).2.2
    rcases join_three hr.1 hr.2 with ⟨h1, e1, e2⟩ | ⟨h1, h2, e1, e2⟩ | ⟨h1, h2, e1, e2⟩
    · rcases join_three hr.2 hr.1 with ⟨_, f1, f2⟩ | ⟨g1, _⟩ | ⟨g1, _⟩
      · rw [e1, e2, f1, f2]; exact ⟨rfl, rfl⟩
      · exact absurd g1.symm h1
      · exact absurd g1.symm h1
    · have hj := joinJ_comm ha hb h1
      rcases join_three hr.2 hr.1 with ⟨g1, _⟩ | ⟨_, _, f1, f2⟩ | ⟨_, g2, _⟩
      · exact absurd h1.symm g1
      · rw [e1, e2, f1, f2]; exact ⟨rfl, rfl⟩
      · rw [hj] at h2; omega
    · have hj := joinJ_comm ha hb h1
      rcases join_three hr.2 hr.1 with ⟨g1, _⟩ | ⟨_, g2, _⟩ | ⟨_, _, f1, f2⟩
      · exact absurd h1.symm g1
      · rw [hj] at h2; omega
      · rw [e1, e2, f1, f2, hj]; exact ⟨rfl, rfl⟩
  · obtain ⟨e1, e2⟩ := join_not hr
    obtain ⟨f1, f2⟩ := join_not (a := b) (b := a) (fun h => hr ⟨h.2, h.1⟩)
    rw [e1, e2, f1, f2]; exact ⟨rfl, rfl⟩
/-- Nor on how often. -/
theorem join_self {a : List Ho} (h : rightsL a = true) : joinE a a = 0 ∧ joinL a a = a := by
  obtain ⟨h1, h2, h3⟩ := rights_iff.1 h
  have hj : joinJ a a = a := fnd_ext (joinJ_rises h3 h3) h3 fun k n => by
    rw [fnd_join h3 h3]
    cases hf : fnd a k n with
    | none => rfl
    | some x =>
      simp only [comb, Option.some.injEq]
      exact Ho.ext' rfl rfl rfl rfl (by simp only [setS]; omega)
  have hn : NC a a := fun k n x y hx hy => by rw [hx] at hy; injection hy with hy; subst hy; exact ⟨rfl, rfl⟩
  rcases join_three h h with ⟨g1, _⟩ | ⟨_, g2, _⟩ | ⟨_, _, e1, e2⟩
  · exact absurd hn g1
  · rw [hj] at g2; omega
  · exact ⟨e1, by rw [e2, hj]⟩
theorem join_self_not {a : List Ho} (h : rightsL a = false) : joinE a a = 1 := (join_not (a := a) (b := a) (by simp [h])).1
theorem comb_right {p q : Option Ho} {z : Ho} (hp : ∀ x, p = some x → rightH x = true) (hq : ∀ y, q = some y → rightH y = true) (h : comb p q = some z) : rightH z = true := by
  cases p with
  | none => exact hq z h
  | some x =>
    cases q with
    | none => injection h with h; subst h; exact hp x rfl
    | some y =>
      injection h with h
      subst h
      have h1 := rightH_iff.1 (hp x rfl)
      have h2 := rightH_iff.1 (hq y rfl)
      exact rightH_iff.2 (by simp only [setS]; omega)
/-- What is joined may be. -/
theorem join_rights {a b : List Ho} (h : joinE a b = 0) : rightsL (joinL a b) = true := by
  obtain ⟨ra, rb, _, h2, h3⟩ := join_zero h
  obtain ⟨_, ra2, ra3⟩ := rights_iff.1 ra
  obtain ⟨_, rb2, rb3⟩ := rights_iff.1 rb
  rw [h3]
  refine rights_iff.2 ⟨h2, fun z hz => ?_, joinJ_rises ra3 rb3⟩
  have := fnd_mem (joinJ_rises ra3 rb3) hz
  rw [fnd_join ra3 rb3] at this
  exact comb_right (fun x hx => ra2 x (fnd_name hx).1) (fun y hy => rb2 y (fnd_name hy).1) this
theorem comb_assoc (p q r : Option Ho) : comb (comb p q) r = comb p (comb q r) := by
  cases p with
  | none => rfl
  | some x =>
    cases q with
    | none => rfl
    | some y =>
      cases r with
      | none => rfl
      | some z =>
        simp only [comb, Option.some.injEq]
        exact Ho.ext' rfl rfl rfl rfl (by simp only [setS]; omega)
theorem len_le : ∀ {L M : List Ho}, Apart L → (∀ x ∈ L, ∃ y ∈ M, SN x y) → L.length ≤ M.length
  | [], _, _, _ => by simp
  | x :: t, M, hL, h => by
    unfold Apart at hL
    rw [List.pairwise_cons] at hL
    obtain ⟨y, hy, hxy⟩ := h x (by simp)
    obtain ⟨M1, M2, rfl⟩ := List.append_of_mem hy
    have ih := len_le (L := t) (M := M1 ++ M2) hL.2 fun x' hx' => by
      obtain ⟨y', hy', hs⟩ := h x' (by simp [hx'])
      refine ⟨y', ?_, hs⟩
      rcases List.mem_append.1 hy' with h1 | h1
      · exact List.mem_append.2 (.inl h1)
      · rcases List.mem_cons.1 h1 with rfl | h1
        · exact absurd (hxy.trans hs.symm) (hL.1 x' hx')
        · exact List.mem_append.2 (.inr h1)
    simp only [List.length_append, List.length_cons] at *
    omega
theorem comb_isSome {p q : Option Ho} (h : (comb p q).isSome = true) : p.isSome = true ∨ q.isSome = true := by
  cases p with
  | none => exact .inr h
  | some x => exact .inl rfl
theorem comb_some_l {p q : Option Ho} (h : p.isSome = true) : (comb p q).isSome = true := by
  cases p with
  | none => cases h
  | some x => cases q <;> rfl
theorem comb_some_r {p q : Option Ho} (h : q.isSome = true) : (comb p q).isSome = true := by
  cases p with
  | none => exact h
  | some x => cases q <;> rfl
theorem comb_ad {p q : Option Ho} {z x : Ho} (h : comb p q = some z) (hp : p = some x) : z.a = x.a ∧ z.d = x.d := by
  subst hp
  cases q with
  | none => injection h with h; subst h; exact ⟨rfl, rfl⟩
  | some y => injection h with h; subst h; exact ⟨rfl, rfl⟩
/-- What of three comes of which two first. -/
theorem join_assoc {a b c : List Ho} (hab : joinE a b = 0) :
    (joinE b c ≠ 0 → joinE (joinL a b) c ≠ 0) ∧ (joinE b c = 0 → joinE (joinL a b) c = joinE a (joinL b c) ∧ joinL (joinL a b) c = joinL a (joinL b c)) := by
  have rj := join_rights hab
  obtain ⟨ra, rb, nab, _, ej⟩ := join_zero hab
  have pa := (rights_iff.1 ra).2.2
  have pb := (rights_iff.1 rb).2.2
  have pj := (rights_iff.1 rj).2.2
  have fj : ∀ k n, fnd (joinL a b) k n = comb (fnd a k n) (fnd b k n) := fun k n => by rw [ej]; exact fnd_join pa pb k n
  -- what j has of a name of b is of b's amount and time
  have jb : ∀ k n z y, fnd (joinL a b) k n = some z → fnd b k n = some y → z.a = y.a ∧ z.d = y.d := fun k n z y hz hy => by
    rw [fj] at hz
    cases hx : fnd a k n with
    | none => rw [hx, hy] at hz; injection hz with hz; subst hz; exact ⟨rfl, rfl⟩
    | some x =>
      have h1 := comb_ad hz hx
      have h2 := nab k n x y hx hy
      exact ⟨h1.1.trans h2.1, h1.2.trans h2.2⟩
  refine ⟨fun hbc hjc => ?_, fun hbc => ?_⟩
  · obtain ⟨_, rc, njc, hl, _⟩ := join_zero hjc
    have pc := (rights_iff.1 rc).2.2
    have nbc : NC b c := fun k n x y hx hy => by
      have hs : (fnd (joinL a b) k n).isSome = true := by rw [fj]; exact comb_some_r (by rw [hx]; rfl)
      obtain ⟨z, hz⟩ := Option.isSome_iff_exists.1 hs
      have h1 := jb k n z x hz hx
      have h2 := njc k n z y hz hy
      exact ⟨h1.1.symm.trans h2.1, h1.2.symm.trans h2.2⟩
    have hle : (joinJ b c).length ≤ (joinJ (joinL a b) c).length := by
      refine len_le (Apart.of_rises (joinJ_rises pb pc)) fun x hx => ?_
      have hfx := fnd_mem (joinJ_rises pb pc) hx
      rw [fnd_join pb pc] at hfx
      have hs : (fnd (joinJ (joinL a b) c) x.r x.n).isSome = true := by
        rw [fnd_join pj pc, fj]
        rcases comb_isSome (show (comb (fnd b x.r x.n) (fnd c x.r x.n)).isSome = true by rw [hfx]; rfl) with h | h
        · exact comb_some_l (comb_some_r h)
        · exact comb_some_r h
      obtain ⟨y, hy⟩ := Option.isSome_iff_exists.1 hs
      obtain ⟨h1, h2, h3⟩ := fnd_name hy
      exact ⟨y, h1, h2.symm, h3.symm⟩
    rcases join_three rb rc with ⟨g1, _⟩ | ⟨_, g2, _⟩ | ⟨_, _, e1, _⟩
    · exact g1 nbc
    · omega
    · exact hbc e1
  · have ry := join_rights hbc
    obtain ⟨_, rc, nbc, _, ey⟩ := join_zero hbc
    have pc := (rights_iff.1 rc).2.2
    have py := (rights_iff.1 ry).2.2
    have fy : ∀ k n, fnd (joinL b c) k n = comb (fnd b k n) (fnd c k n) := fun k n => by rw [ey]; exact fnd_join pb pc k n
    have hJ : joinJ (joinL a b) c = joinJ a (joinL b c) := fnd_ext (joinJ_rises pj pc) (joinJ_rises pa py) fun k n => by
      rw [fnd_join pj pc, fnd_join pa py, fj, fy, comb_assoc]
    have hNC : NC (joinL a b) c ↔ NC a (joinL b c) := by
      constructor
      · intro h k n x y hx hy
        have hs : (fnd (joinL a b) k n).isSome = true := by rw [fj]; exact comb_some_l (by rw [hx]; rfl)
        obtain ⟨z, hz⟩ := Option.isSome_iff_exists.1 hs
        have hzx := comb_ad (by rw [← fj]; exact hz) hx
        rw [fy] at hy
        cases hb : fnd b k n with
        | some v =>
          have h1 := comb_ad hy hb
          have h2 := nab k n x v hx hb
          exact ⟨h2.1.trans h1.1.symm, h2.2.trans h1.2.symm⟩
        | none =>
          rw [hb] at hy
          have h1 := h k n z y hz hy
          exact ⟨hzx.1.symm.trans h1.1, hzx.2.symm.trans h1.2⟩
      · intro h k n z y hz hy
        cases hb : fnd b k n with
        | some v =>
          have h1 := jb k n z v hz hb
          have h2 := nbc k n v y hb hy
          exact ⟨h1.1.trans h2.1, h1.2.trans h2.2⟩
        | none =>
          rw [fj, hb] at hz
          have hfy : fnd (joinL b c) k n = some y := by rw [fy, hb, hy]; rfl
          cases ha : fnd a k n with
          | none => rw [ha] at hz; cases hz
          | some x =>
            rw [ha] at hz
            injection hz with hz
            subst hz
            exact h k n x y ha hfy
    rcases join_three rj rc with ⟨g1, e1, e2⟩ | ⟨g1, g2, e1, e2⟩ | ⟨g1, g2, e1, e2⟩
    · rcases join_three ra ry with ⟨_, f1, f2⟩ | ⟨k1, _⟩ | ⟨k1, _⟩
      · rw [e1, e2, f1, f2]; exact ⟨rfl, rfl⟩
      · exact absurd (hNC.2 k1) g1
      · exact absurd (hNC.2 k1) g1
    · rcases join_three ra ry with ⟨k1, _⟩ | ⟨_, _, f1, f2⟩ | ⟨_, k2, _⟩
      · exact absurd (hNC.1 g1) k1
      · rw [e1, e2, f1, f2]; exact ⟨rfl, rfl⟩
      · rw [hJ] at g2; omega
    · rcases join_three ra ry with ⟨k1, _⟩ | ⟨_, k2, _⟩ | ⟨_, _, f1, f2⟩
      · exact absurd (hNC.1 g1) k1
      · rw [hJ] at g2; omega
      · rw [e1, e2, f1, f2, hJ]; exact ⟨rfl, rfl⟩
end Go.Proofs.Ytaniacohimdpiaa
