/- What a call keeps: things, each in blocks of its own, and what is only read, apart from them.; The bounds of what is applied; two counters that are kept at once. -/
import Derived.Test.YtgblnlpfgdbnnaaGreatZ05
import Derived.Test.YtgblnlpfgdbnnaaGreatZ22
namespace Go.Proofs.YtgblnlpfgdbnnaaGreat
set_option maxRecDepth 100000
open Go.ChangeShapes Go.WideShapes Go.ChangeAt Go.RowKit

theorem spl_all {R S : List Value} (h : R.length = S.length) : spl R 0 S = S := by simpa using spl_mid S R [] [] h

/-- What two orders come to is gone on from once. -/
theorem two_steps {C : Nat → Nat → World → Prop} {G : Nat → Nat → World → Prop} {goal : Prop} (draw : (∀ b c u, C b c u → G b c u) → goal) (rest : ∀ b c u, C b c u → G b c u) : goal := draw rest
section
variable {ops : Array Oper} {rest : List Oper} {o : Oper} {a : Act} {w u : World} {F : Nat → Prop} {own ro : List Th} {Q' : Exit → Act → World → Prop} {K : Act → World → Prop}
theorem wp_alloc_k (hk : Kg w F own ro u) {ty : TypeId} {cs : List Value} (hz : (Tryz.prog.info? ty).bind (·.zero) = some (.agg cs.toArray)) (ho : o.op = .alloc ty)
    (h : ∀ b u', Kg w F (Th.cel b ty cs :: own) ro u' → K (a.put o.dst (.pointer (some ⟨b, 0, none⟩))) u') : o.wp Tryz.prog a u K Q' := by
  have e : (Instr.alloc ty true (.tuple #[])).run Tryz.prog u = .ok (.pointer (some ⟨u.heap.size, 0, none⟩)) (u.alloc (.cells cs.toArray ty)) := by
    cases hq : Tryz.prog.info? ty with
    | none => simp [hq] at hz
    | some i =>
      simp only [hq, Option.bind_some] at hz
      simp [Instr.alloc, zeroValue, typeInfo, hq, hz, newVar, newRow, newObj, Value.cells]
      rfl
  unfold Oper.wp execOp
  simp only [ho, Sem.run_bind, Sem.run_pure, Result.andThen_ok, e]
  exact h _ _ (hk.new rfl)
end
theorem vC1 {p : Pf} (h : p.full) : (vals p.C)[1]? = some (.int .i64 (loP p)) := vals_get (by rw [show p.C.length = 579 from h]; decide)
theorem vC2 {p : Pf} (h : p.full) : (vals p.C)[2]? = some (.int .i64 (hiP p)) := vals_get (by rw [show p.C.length = 579 from h]; decide)
theorem vC_le {C : List Int} (h : C.length = 579) : 0 + (vals C).length ≤ (vals (zer 579)).length := by rw [vals_length, vals_length, h, zer_length]; decide
theorem vC_put {C : List Int} (h : C.length = 579) : spl (vals (zer 579)) 0 (vals C) = vals C := spl_all (by rw [vals_length, vals_length, h, zer_length])
/-- The bounds, and the value, of what is made. -/
structure Bnd (ps xs : List Pf) (p : Pl) (x Y : Pf) : Prop where
  isx : isP ps p.nm = true
  atx : ps[findP ps p.nm]? = some x
  isy : isP xs p.nm = true
  aty : xs[findP xs p.nm]? = some Y
  okx : (-1099511627776 ≤ loP x ∧ loP x ≤ 1099511627776) ∧ (-1099511627776 ≤ hiP x ∧ hiP x ≤ 1099511627776)
  now : Y.k = 1 → loP Y ≤ vN Y ∧ vN Y ≤ hiP Y
  k1 : p.k = 1 → Y.k = 1 ∧ loP x ≤ loP Y ∧ hiP Y ≤ hiP x
  k5 : p.k = 5 → Y.k = 1 ∧ ∃ Z, isP xs p.ot = true ∧ xs[findP xs p.ot]? = some Z ∧ loP Z = 0 ∧ hiP Z = p.a ∧ loP Y = loP x ∧ hiP Y = hiP x - p.a
  k6 : p.k = 6 → Y.k = 1 ∧ ∃ Z, isP ps p.ot = true ∧ ps[findP ps p.ot]? = some Z ∧ loP Y = loP x + loP Z ∧ hiP Y = hiP x + hiP Z ∧ (-1099511627776 ≤ loP Z ∧ loP Z ≤ 1099511627776) ∧ (-1099511627776 ≤ hiP Z ∧ hiP Z ≤ 1099511627776)
theorem shift_ab {p : Pl} (h : ruleB p = true) (hk : p.k = 1) : 0 ≤ p.a ∧ 0 ≤ p.b := by
  rw [ruleB, if_pos (.inl hk)] at h
  simp only [shiftB, Bool.and_eq_true, decide_eq_true_eq] at h
  exact ⟨h.2.1, h.2.2.1⟩
theorem bounds_of {ps xs : List Pf} {p : Pl} (h : Goes ps p) (ha : Applied ps p xs) : ∃ x Y, Bnd ps xs p x Y := by
  obtain ⟨hk, hpn, _, _, hru⟩ := plan_parts h.fit.pl
  obtain ⟨x, hx, hn⟩ := isP_iff.1 (place_is h.fit.at_).1
  have hpsn : isP ps p.nm = true := isP_iff.2 ⟨x, hx, hn⟩
  have hord := (fields_is h.fit.fs).2.2
  have hright := (fields_is h.fit.fs).2.1
  obtain ⟨d, hd, hdn⟩ : ∃ d, d ∈ dsP ps p ∧ d.nm = p.nm := by
    unfold dsP draftsP
    simp only
    repeat' split
    all_goals exact ⟨_, List.mem_cons_self, rfl⟩
  have md := goes_made h hd
  obtain ⟨g1, g2⟩ := app_nm h ha hd
  rw [hdn] at g1 g2
  have bd := List.any_eq_false.1 h.beyond d hd
  have bx := right_bd (hright x hx)
  have uniq : ∀ e ∈ dsP ps p, e.nm = p.nm → e = d := fun e he hen => by
    have hp := ds_ne (ps := ps) h.fit.pl
    obtain ⟨i, hi, rfl⟩ := List.mem_iff_getElem.1 he
    obtain ⟨j, hj, rfl⟩ := List.mem_iff_getElem.1 hd
    rw [List.pairwise_iff_getElem] at hp
    rcases Nat.lt_trichotomy i j with h1 | h1 | h1
    · exact absurd (hen.trans hdn.symm) (hp i j hi hj h1)
    · subst h1; rfl
    · exact absurd (hdn.trans hen.symm) (hp j i hj hi h1)
  refine ⟨x, bldP d (neP ps p), hpsn, find_in hpsn hord hx hn, g1, g2, bx.2, fun hyk => ?_, fun h1 => ?_, fun h5 => ?_, fun h6 => ?_⟩
  · rw [md.k] at hyk
    have := beyond_no (by simpa using bd) hyk
    rw [md.v, md.lo, md.hi]; exact this
  · have hds : dsP ps p = [⟨p.nm, 1, vN x, loP x + p.a, hiP x - p.b⟩] := by
      rw [dsP, about_one h.fit (by omega) hx hn]
      unfold draftsP
      simp only
      rw [if_pos h1]; rfl
    rw [hds, List.mem_singleton] at hd
    subst hd
    obtain ⟨a0, b0⟩ := shift_ab hru h1
    rw [md.k, md.lo, md.hi]
    exact ⟨rfl, by show loP x ≤ loP x + p.a; omega, by show hiP x - p.b ≤ hiP x; omega⟩
  · have hds := ds_split h.fit h5 hx hn
    have e : d = ⟨p.nm, 1, vN x - max 0 (vN x - (hiP x - p.a)), loP x, hiP x - p.a⟩ := (uniq _ (by rw [hds]; simp) rfl).symm
    obtain ⟨b, hB⟩ : ∃ d : Dr, d = ⟨p.ot, 1, max 0 (vN x - (hiP x - p.a)), 0, p.a⟩ := ⟨_, rfl⟩
    have hbm : b ∈ dsP ps p := by rw [hds, hB]; simp
    have mb := goes_made h hbm
    obtain ⟨q1, q2⟩ := app_nm h ha hbm
    rw [show b.nm = p.ot by rw [hB]] at q1 q2
    refine ⟨by rw [md.k, e], _, q1, q2, by rw [mb.lo, hB], by rw [mb.hi, hB], by rw [md.lo, e], by rw [md.hi, e]⟩
  · obtain ⟨z, hz, hzn⟩ := isP_iff.1 ((place_is h.fit.at_).2.1 h6)
    have hpz : isP ps p.ot = true := isP_iff.2 ⟨z, hz, hzn⟩
    obtain ⟨t1, t2, t3⟩ := about_two h.fit h6 hx hn hz hzn
    have hds := ds_merge (ps := ps) h6
    rw [sumS_v, sumS_lo, sumS_hi, (sum_two loP t3 t1 t2).1, (sum_two hiP t3 t1 t2).1] at hds
    rw [hds, List.mem_singleton] at hd
    have bz := right_bd (hright z hz)
    refine ⟨by rw [md.k, hd], z, hpz, find_in hpz hord hz hzn, by rw [md.lo, hd], by rw [md.hi, hd], bz.2⟩

end Go.Proofs.YtgblnlpfgdbnnaaGreat
