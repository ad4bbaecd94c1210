/- A split, and a merge of both parts; plans that are made. -/
import Derived.Test.YtgblnlpfgdbnnaaGreatZ22
namespace Go.Proofs.YtgblnlpfgdbnnaaGreat
set_option maxRecDepth 100000
open Go.ChangeShapes Go.WideShapes Go.ChangeAt Go.RowKit

def zPl : Pl := ⟨0, ⟨#[]⟩, ⟨#[]⟩, 0, 0⟩
theorem pl_zero : (Tryz.prog.info? 24).bind (·.zero) = some (.agg zPl.cells.toArray) := by kernel_rfl
def unP (p : Pl) : Pl := ⟨6, p.nm, p.ot, 0, 0⟩
theorem addE_or (a b : Int) : addE a b = 0 ∨ addE a b = 2 := by
  unfold addE
  split
  · exact .inl rfl
  · exact .inr rfl
structure Back (ps xs : List Pf) (p : Pl) (x : Pf) : Prop where
  isx : isP ps p.nm = true
  atx : ps[findP ps p.nm]? = some x
  err : appE xs (unP p) = 0 ∨ appE xs (unP p) = 2
  back : ∀ ys, appE xs (unP p) = 0 → Applied xs (unP p) ys → ∃ Y, isP ys p.nm = true ∧ ys[findP ys p.nm]? = some Y ∧ vN Y = vN x ∧ loP Y = loP x ∧ hiP Y = hiP x ∧ ys.length = ps.length ∧ rightP Y = true
theorem split_back {ps xs : List Pf} {p : Pl} (h : Goes ps p) (hk : p.k = 5) (ha : Applied ps p xs) : ∃ x, Back ps xs p x := by
  obtain ⟨_, hpn, _, _, hru⟩ := plan_parts h.fit.pl
  obtain ⟨x, hx, hn⟩ := isP_iff.1 (place_is h.fit.at_).1
  have hds := ds_split h.fit hk hx hn
  have hot : nameB p.ot = true ∧ p.ot ≠ p.nm := by
    rcases rule_ot hru with ⟨h6, _⟩ | ⟨_, h7⟩
    · omega
    · exact h7
  obtain ⟨a, hA⟩ : ∃ d : Dr, d = ⟨p.nm, 1, vN x - max 0 (vN x - (hiP x - p.a)), loP x, hiP x - p.a⟩ := ⟨_, rfl⟩
  obtain ⟨b, hB⟩ : ∃ d : Dr, d = ⟨p.ot, 1, max 0 (vN x - (hiP x - p.a)), 0, p.a⟩ := ⟨_, rfl⟩
  rw [← hA, ← hB] at hds
  have ma := goes_made h (d := a) (by rw [hds]; simp)
  have mb := goes_made h (d := b) (by rw [hds]; simp)
  have xa : bldP a (neP ps p) ∈ xs := (app_mem h ha).2 (.inl ⟨a, by rw [hds]; simp, rfl⟩)
  have xb : bldP b (neP ps p) ∈ xs := (app_mem h ha).2 (.inl ⟨b, by rw [hds]; simp, rfl⟩)
  have ba := beyond_no (by simpa using List.any_eq_false.1 h.beyond a (show a ∈ dsP ps p by rw [hds]; simp)) (show a.k = 1 by rw [hA])
  have bb := beyond_no (by simpa using List.any_eq_false.1 h.beyond b (show b ∈ dsP ps p by rw [hds]; simp)) (show b.k = 1 by rw [hB])
  generalize bldP a (neP ps p) = X at ma xa
  generalize bldP b (neP ps p) = Z at mb xb
  have hXn : X.nm = p.nm := by rw [ma.nm, hA]
  have hZn : Z.nm = p.ot := by rw [mb.nm, hB]
  have hXf : rightP X = true := ma.right
  have hpl : planB (unP p) = true := by
    have e1 : mergeB (unP p) = true := by
      have : eqS p.ot p.nm = false := by rw [← Bool.not_eq_true, eqS_iff]; exact hot.2
      simp [mergeB, pairB, bareB, unP, hot.1, this]
    have e2 : ruleB (unP p) = true := by
      rw [ruleB, if_neg (by show ¬((6:Int) = 1 ∨ (6:Int) = 2); decide), if_neg (by show ¬(6:Int) = 3; decide), if_neg (by show ¬(6:Int) = 4; decide), if_neg (by show ¬(6:Int) = 5; decide), if_pos (show (unP p).k = 6 from rfl), e1]
    rw [planB, e2, show (unP p).nm = p.nm from rfl, hpn]; rfl
  have hi1 : isP xs (unP p).nm = true := isP_iff.2 ⟨X, xa, hXn⟩
  have hi2 : isP xs (unP p).ot = true := isP_iff.2 ⟨Z, xb, hZn⟩
  have hmem : ∀ z, z ∈ aboutP xs (unP p) → z = X ∨ z = Z := fun z hz => by
    obtain ⟨h1, h2⟩ := about_sub hz
    have hord := app_sorted h ha
    simp only [touchB, Bool.or_eq_true, Bool.and_eq_true] at h2
    rcases h2 with h2 | ⟨_, h2⟩
    · exact .inl (nm_inj hord h1 xa ((eqS_iff.1 h2).trans hXn.symm))
    · exact .inr (nm_inj hord h1 xb ((eqS_iff.1 h2).trans hZn.symm))
  have kX : X.k = 1 := by rw [ma.k, hA]
  have kZ : Z.k = 1 := by rw [mb.k, hB]
  have hfit : Fit xs (unP p) := by
    refine ⟨app_fields h ha, hpl, by rw [placeE, hi1, hi2]; rfl, ?_, ?_⟩
    · rw [List.any_eq_false]
      intro z hz
      have e : z.k = 1 := by rcases hmem z hz with rfl | rfl <;> assumption
      rw [e, show chgP (unP p).k = 1 from rfl]; decide
    · rw [List.any_eq_false]
      intro z hz
      have e : z.hs = [] := by
        rcases hmem z hz with rfl | rfl
        · exact ma.hs
        · exact mb.hs
      simp [heldP, e]
  obtain ⟨ht1, ht2, ht3⟩ := about_two hfit rfl xa hXn xb hZn
  have sv := sum_two vN ht3 ht1 ht2
  have sl := sum_two loP ht3 ht1 ht2
  have sh := sum_two hiP ht3 ht1 ht2
  have hdm := ds_merge (ps := xs) (p := unP p) rfl
  rw [sumS_v, sumS_lo, sumS_hi, sv.1, sl.1, sh.1, ma.v, mb.v, ma.lo, mb.lo, ma.hi, mb.hi, hA, hB] at hdm
  simp only at hdm
  have ev : vN x - max 0 (vN x - (hiP x - p.a)) + max 0 (vN x - (hiP x - p.a)) = vN x := by omega
  have eh : hiP x - p.a + p.a = hiP x := by omega
  rw [ev, eh, Int.add_zero] at hdm
  rw [hA] at ba
  rw [hB] at bb
  simp only at ba bb
  have herr : appE xs (unP p) = 0 ∨ appE xs (unP p) = 2 := by
    rw [appE, if_neg (by rw [fit_mk hfit]; simp), mkE]
    have e1 : errP (aboutP xs (unP p)) = 0 := by
      have : ((aboutP xs (unP p)).map vE).find? (fun e => !(e == 0)) = none := by
        rw [List.find?_eq_none]
        intro e he
        obtain ⟨z, hz, rfl⟩ := List.mem_map.1 he
        have e : vE z = 0 := by
          rcases hmem z hz with rfl | rfl
          · exact ma.ve
          · exact mb.ve
        rw [e]; decide
      rw [errP, this]; rfl
    rw [if_neg (by rw [e1]; simp)]
    rcases addE_or (epP (aboutP xs (unP p))) 1 with e2 | e2
    · rw [if_neg (by rw [e2]; simp)]
      split
      · exact .inr rfl
      · have : (draftsP (unP p) ((aboutP xs (unP p)).map spanP)).any beyondB = false := by
          rw [show draftsP (unP p) ((aboutP xs (unP p)).map spanP) = dsP xs (unP p) from rfl, hdm]
          simp [beyondB]; omega
        rw [this]; exact .inl rfl
    · rw [if_pos (by rw [e2]; decide)]; exact .inr e2
  have hpsn : isP ps p.nm = true := isP_iff.2 ⟨x, hx, hn⟩
  refine ⟨x, hpsn, find_in hpsn (fields_is h.fit.fs).2.2 hx hn, herr, fun ys he hy => ?_⟩
  have hg := goes_of he
  obtain ⟨Y, hYe⟩ : ∃ Y, Y = (⟨(unP p).nm, 1, vN x, loP x, hiP x⟩ : Dr) := ⟨_, rfl⟩
  rw [← hYe] at hdm
  have hYm : Y ∈ dsP xs (unP p) := by rw [hdm]; simp
  have mY := goes_made hg hYm
  obtain ⟨g1, g2⟩ := app_nm hg hy hYm
  rw [show Y.nm = p.nm by rw [hYe]; rfl] at g1 g2
  have l1 := app_len h ha
  rw [if_pos hk, about_one h.fit (by omega) hx hn] at l1
  have l2 := app_len hg hy
  rw [if_neg (by show ¬((6:Int) = 5); decide), sv.2] at l2
  refine ⟨_, g1, g2, by rw [mY.v, hYe], by rw [mY.lo, hYe], by rw [mY.hi, hYe], ?_, mY.right⟩
  simp only [List.length_singleton] at l1
  omega

end Go.Proofs.YtgblnlpfgdbnnaaGreat
