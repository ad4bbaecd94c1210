/- Plain facts of fields that may be, and of plans that fit.; plan.Apply.; Slices of fields, and plans, that come in; what the statements go through. -/
import Derived.Test.YtgblnlpfgdbnnaaGreatZ34A
namespace Go.Proofs.YtgblnlpfgdbnnaaGreat
set_option maxRecDepth 100000
open Go.ChangeShapes Go.WideShapes Go.ChangeAt Go.RowKit

theorem right_parts {p : Pf} (h : rightP p = true) : nameB p.nm = true ∧ epB p.e = true ∧ ((p.k = 1 ∧ rightC p.C = true ∧ rightsL p.hs = true ∧ p.L.l = zL.l) ∨ (p.k = 2 ∧ rightL p.L = true ∧ p.hs = [] ∧ p.C = zer 579)) := by
  simp only [rightP, rightF, Bool.and_eq_true, Bool.or_eq_true] at h
  obtain ⟨⟨h1, h2⟩, h3⟩ := h
  refine ⟨h1, h2, ?_⟩
  rcases h3 with h3 | h3
  · simp only [rcB, Bool.and_eq_true, beq_iff_eq] at h3
    obtain ⟨⟨⟨a1, a2⟩, a3⟩, a4⟩ := h3
    exact .inl ⟨a1, a2, a3, a4⟩
  · simp only [rlB, Bool.and_eq_true, beq_iff_eq, decide_eq_true_eq] at h3
    obtain ⟨⟨⟨a1, a2⟩, a3⟩, a4⟩ := h3
    exact .inr ⟨a1, a2, List.eq_nil_of_length_eq_zero a3, a4⟩
theorem right_mk {p : Pf} (h1 : nameB p.nm = true) (h2 : epB p.e = true) (h3 : (p.k = 1 ∧ rightC p.C = true ∧ rightsL p.hs = true ∧ p.L.l = zL.l) ∨ (p.k = 2 ∧ rightL p.L = true ∧ p.hs = [] ∧ p.C = zer 579)) : rightP p = true := by
  simp only [rightP, rightF, Bool.and_eq_true, Bool.or_eq_true]
  refine ⟨⟨h1, h2⟩, ?_⟩
  rcases h3 with ⟨a1, a2, a3, a4⟩ | ⟨a1, a2, a3, a4⟩
  · refine .inl ?_
    simp only [rcB, Bool.and_eq_true, beq_iff_eq]
    exact ⟨⟨⟨a1, a2⟩, a3⟩, a4⟩
  · refine .inr ?_
    simp only [rlB, Bool.and_eq_true, beq_iff_eq, decide_eq_true_eq]
    exact ⟨⟨⟨a1, a2⟩, by rw [show (p.fd none 0).n = p.hs.length from rfl, a3]; rfl⟩, a4⟩
theorem rightC_bd {C : List Int} (h : rightC C = true) : (isB (C.getD 1 0) = true ∧ isB (C.getD 2 0) = true) ∧ rightsB (dnR C) = true ∧ rightsB (upR C) = true := by
  simp only [rightC, Bool.and_eq_true] at h
  exact ⟨⟨h.1.1.1.1.1, h.1.1.1.1.2⟩, h.1.2.1, h.1.2.2⟩
theorem zer_getP (n p : Nat) : (zer n).getD p 0 = 0 := by
  simp only [zer, List.getD, List.getElem?_replicate]
  split <;> rfl
theorem right_ok {p : Pf} (h : rightP p = true) : okP p := by
  obtain ⟨_, _, h3⟩ := right_parts h
  have key : ∀ z ∈ seg p.C 19 16, 0 ≤ z ∧ z ≤ 1099511627776 := by
    rcases h3 with ⟨_, hc, _⟩ | ⟨_, _, _, hc⟩
    · have h1 := (rightsB_iff.1 (rightC_bd hc).2.1).1 1 (by omega)
      have h2 : seg (dnR p.C) (1 * 16) 16 = seg p.C 19 16 := by
        simp [dnR, seg, List.drop_take, List.take_take]
      rw [h2] at h1
      exact rightB_pos h1
    · intro z hz
      rw [hc] at hz
      have : z = 0 := by
        simp only [seg, zer] at hz
        have := List.mem_of_mem_take hz
        have := List.mem_of_mem_drop this
        exact (List.mem_replicate.1 this).2
      omega
  intro z hz
  have := key z hz
  omega
theorem right_bd {p : Pf} (h : rightP p = true) : bdS (spanP p) 1099511627776 := by
  obtain ⟨_, _, h3⟩ := right_parts h
  rcases h3 with ⟨hk, hc, _⟩ | ⟨hk, hl, _, hc⟩
  · have h1 := isB_iff.1 (rightC_bd hc).1.1
    have h2 := isB_iff.1 (rightC_bd hc).1.2
    have h4 : vN p = sumN (valL p.C) := (view_1 (f := p.fd none 0) hk).1
    have h5 := isB_iff.1 (sumN_isB (valL p.C))
    refine ⟨?_, h1, h2⟩
    show -1099511627776 ≤ vN p ∧ vN p ≤ 1099511627776
    rw [h4]; exact h5
  · have h4 : vN p = p.L.x := (view_2 (f := p.fd none 0) hk).1
    have h5 : isB p.L.x = true := by simp only [rightL, Bool.and_eq_true] at hl; exact hl.2
    have h6 := isB_iff.1 h5
    have z1 : loP p = 0 := by unfold loP; rw [hc]; exact zer_getP _ _
    have z2 : hiP p = 0 := by unfold hiP; rw [hc]; exact zer_getP _ _
    refine ⟨?_, ?_, ?_⟩
    · show -1099511627776 ≤ vN p ∧ vN p ≤ 1099511627776
      rw [h4]; exact h6
    · show -1099511627776 ≤ loP p ∧ loP p ≤ 1099511627776
      rw [z1]; omega
    · show -1099511627776 ≤ hiP p ∧ hiP p ≤ 1099511627776
      rw [z2]; omega
/-! ### Fields that may be. -/
theorem fields_is {ps : List Pf} (h : fieldsB ps = true) : ps.length ≤ 4 ∧ (∀ p ∈ ps, rightP p = true) ∧ ps.Pairwise fun a b => ltS a.nm b.nm = true := by
  simp only [fieldsB, Bool.and_eq_true, decide_eq_true_eq, List.all_eq_true, List.mem_range] at h
  obtain ⟨h1, h2⟩ := h
  have hr : ∀ i (hi : i < ps.length), rightP ps[i] = true := fun i hi => by
    have := h2 i hi
    simp only [fokAt, Bool.and_eq_true] at this
    have h3 := this.1
    rwa [List.getD, List.getElem?_eq_getElem hi] at h3
  have hs : ∀ i, i + 1 < ps.length → ltS (ps.getD i zP).nm (ps.getD (i + 1) zP).nm = true := fun i hi => by
    have := h2 (i + 1) hi
    simp only [fokAt, Bool.and_eq_true, Bool.or_eq_true, decide_eq_true_eq, Nat.add_sub_cancel] at this
    exact this.2.resolve_left (by omega)
  refine ⟨h1, fun p hp => ?_, ?_⟩
  · obtain ⟨i, hi, rfl⟩ := List.mem_iff_getElem.1 hp
    exact hr i hi
  · rw [List.pairwise_iff_getElem]
    have step : ∀ d i, i + d + 1 < ps.length → ltS (ps.getD i zP).nm (ps.getD (i + d + 1) zP).nm = true := by
      intro d
      induction d with
      | zero => intro i hi; exact hs i hi
      | succ d ih =>
        intro i hi
        exact ltS_trans (ih i (by omega)) (by have := hs (i + d + 1) (by omega); rwa [show i + (d + 1) + 1 = i + d + 1 + 1 by omega])
    intro i j hi hj hij
    have := step (j - i - 1) i (by omega)
    rw [show i + (j - i - 1) + 1 = j by omega] at this
    simpa [List.getD, hi, hj] using this
theorem fields_of {ps : List Pf} (h1 : ps.length ≤ 4) (h2 : ∀ p ∈ ps, rightP p = true) (h3 : ps.Pairwise fun a b => ltS a.nm b.nm = true) : fieldsB ps = true := by
  rw [fields_all fun j hj => ?_, decide_eq_true h1]
  unfold fokAt
  rw [List.getD, List.getElem?_eq_getElem hj, Option.getD_some, h2 _ (List.getElem_mem hj)]
  by_cases h0 : j = 0
  · simp [h0]
  · have := List.pairwise_iff_getElem.1 h3 (j - 1) j (by omega) hj (by omega)
    rw [List.getD, List.getElem?_eq_getElem (show j - 1 < ps.length by omega), Option.getD_some, this]
    simp
theorem isP_iff {ps : List Pf} {s : ByteArray} : isP ps s = true ↔ ∃ p ∈ ps, p.nm = s := by
  rw [isP, List.any_eq_true]
  constructor
  · rintro ⟨p, hp, h⟩; exact ⟨p, hp, eqS_iff.1 h⟩
  · rintro ⟨p, hp, h⟩; exact ⟨p, hp, eqS_iff.2 h⟩
/-! ### Plans that fit. -/
theorem plan_parts {p : Pl} (h : planB p = true) : (1 ≤ p.k ∧ p.k ≤ 6) ∧ nameB p.nm = true ∧ isB p.a = true ∧ isB p.b = true ∧ ruleB p = true := by
  simp only [planB, Bool.and_eq_true] at h
  obtain ⟨h1, h2, h3, h4⟩ := h
  refine ⟨?_, h2, h3, h4, h1⟩
  by_cases hk : 1 ≤ p.k ∧ p.k ≤ 6
  · exact hk
  · have : ruleB p = false := rule_no hk
    rw [this] at h1; cases h1
theorem name_ne {s : ByteArray} (h : nameB s = true) : noS s = false := by
  cases hn : noS s with
  | false => rfl
  | true =>
    have e := noS_iff.1 hn
    simp only [nameB, Bool.and_eq_true, decide_eq_true_eq] at h
    rw [e] at h
    exact absurd h.1.1 (by decide)
/-- Which of the names a plan is about: one, or, of Split and Merge, two. -/
theorem rule_ot {p : Pl} (h : ruleB p = true) : ((p.k = 1 ∨ p.k = 2 ∨ p.k = 3 ∨ p.k = 4) ∧ noS p.ot = true) ∨ ((p.k = 5 ∨ p.k = 6) ∧ nameB p.ot = true ∧ p.ot ≠ p.nm) := by
  have hp : ∀ {b : Bool}, (pairB p && b) = true → nameB p.ot = true ∧ p.ot ≠ p.nm := fun hb => by
    simp only [pairB, Bool.and_eq_true, Bool.not_eq_true'] at hb
    exact ⟨hb.1.1, fun e => by rw [e, eqS_self] at hb; exact absurd hb.1.2 (by simp)⟩
  unfold ruleB at h
  split at h
  · rename_i hk
    simp only [shiftB, aloneB, Bool.and_eq_true] at h
    exact .inl ⟨by omega, h.1⟩
  · split at h
    · simp only [lockB, aloneB, Bool.and_eq_true] at h
      exact .inl ⟨by omega, h.1⟩
    · split at h
      · simp only [countB, aloneB, Bool.and_eq_true] at h
        exact .inl ⟨by omega, h.1⟩
      · split at h
        · exact .inr ⟨by omega, hp h⟩
        · split at h
          · exact .inr ⟨by omega, hp h⟩
          · cases h
structure Fit (ps : List Pf) (p : Pl) : Prop where
  fs : fieldsB ps = true
  pl : planB p = true
  at_ : placeE ps p = 0
  kinds : (aboutP ps p).any (fun x : Pf => x.k != chgP p.k) = false
  free : (aboutP ps p).any heldP = false
theorem fit_is {ps : List Pf} {p : Pl} (h : fitE ps p = 0) : Fit ps p := by
  unfold fitE at h
  split at h
  · cases h
  · split at h
    · cases h
    · split at h
      · rename_i h3; exact absurd h h3
      · split at h
        · cases h
        · split at h
          · cases h
          · rename_i h1 h2 h3 h4 h5
            simp only [Bool.not_eq_true', Bool.not_eq_false] at h1 h2
            exact ⟨h1, h2, by omega, by simpa using h4, by simpa using h5⟩
theorem place_is {ps : List Pf} {p : Pl} (h : placeE ps p = 0) : isP ps p.nm = true ∧ (p.k = 6 → isP ps p.ot = true) ∧ (p.k = 5 → isP ps p.ot = false ∧ ps.length ≠ 4) := by
  unfold placeE at h
  split at h
  · cases h
  · rename_i h1
    simp only [Bool.or_eq_true, Bool.not_eq_true', Bool.and_eq_true, beq_iff_eq, not_or, not_and, Bool.not_eq_false] at h1
    split at h
    · cases h
    · rename_i h2
      simp only [Bool.and_eq_true, beq_iff_eq, not_and, Bool.not_eq_true] at h2
      split at h
      · cases h
      · rename_i h3
        simp only [Bool.and_eq_true, beq_iff_eq, decide_eq_true_eq, not_and] at h3
        exact ⟨h1.1, h1.2, fun hk => ⟨h2 hk, h3 hk⟩⟩
theorem about_sub {ps : List Pf} {p : Pl} {x : Pf} (h : x ∈ aboutP ps p) : x ∈ ps ∧ touchB p x.nm = true := by
  simpa [aboutP] using h
theorem about_pos {ps : List Pf} {p : Pl} (h : Fit ps p) : 0 < (aboutP ps p).length ∧ (aboutP ps p).length ≤ 4 := by
  obtain ⟨x, hx, e⟩ := isP_iff.1 (place_is h.at_).1
  refine ⟨List.length_pos_of_mem (a := x) (by
    rw [aboutP, List.mem_filter]
    exact ⟨hx, by rw [touchB, e, eqS_self]; rfl⟩), Nat.le_trans (List.length_filter_le _ _) (fields_is h.fs).1⟩
def restP (ps : List Pf) (p : Pl) : List Pf := ps.filter fun y => !(touchB p y.nm)
def appE (ps : List Pf) (p : Pl) : Int := if fitE ps p ≠ 0 then fitE ps p else mkE (aboutP ps p) p

section
variable {ops : Array Oper} {rest : List Oper} {o : Oper} {a : Act} {w u u' : World} {F : Nat → Prop} {own ro : List Th} {Q' : Exit → Act → World → Prop} {K : Act → World → Prop} {S : World → Prop}
theorem yield_mf {fn : Fn} {x : Operand} {v : Value} (ho : o.op = .makeFunc fn #[] #[x]) (hx : a.eval x = v) (hw : Region.wanted o (yielded ops a.tmps) = true) : YieldsIf Tryz.prog ops S o (.func fn #[] #[v]) a :=
  .inl ⟨hw, fun u' _ => by
    unfold execOp
    simp only [ho, List.map_toArray, List.map_cons, List.map_nil, hx]
    rfl⟩
theorem of_join (v : Value) (ms rs : List Q) : Th.og 43 587 v (ms.length + rs.length) (fcs ms ++ fcs rs) = Th.of v (ms ++ rs) := by
  have e1 : fcs (ms ++ rs) = fcs ms ++ fcs rs := by simp [fcs]
  have e2 : (ms ++ rs).length = ms.length + rs.length := by simp
  show _ = Th.og _ _ _ _ _
  rw [e1, e2]
theorem fcs_ones {qs : List Q} : ∀ y ∈ fcs qs, y.oneCell' = true := fun y hy => by
  obtain ⟨x, _, hx⟩ := List.mem_flatMap.1 hy
  exact fd_ones y hx
/-- append of a row to another one. -/
theorem appF_k (hk : Kg w F own ro u) (i j : Nat) {v : Value} {ms rs : List Q} (hi : own[i]? = some (Th.of v ms)) {A : Option Addr} {n c : Nat} (hj : own[j]? = some (Th.of (.slice A n c) rs)) (hn : rs.length = n) (hf : ∀ x ∈ rs, x.1.full) (hl : ms.length + rs.length ≤ 1000) (hgd : o.guard = none) (s x : Operand)
    (ho : o.op = .call { callee := .builtin .append, args := #[s, x], argTypes := #[22, 22] }) (hs : a.eval s = v) (hx : a.eval x = .slice A n c)
    (h : ∀ v' u', Kg w F (own.set i (Th.of v' (ms ++ rs))) ro u' → wpList Tryz.prog ops Q' rest (a.put o.dst v') u') : wpList Tryz.prog ops Q' (o :: rest) a u :=
  wpList_plain hgd fun _ hK => by
    obtain ⟨i0, hi0, hz0, hz1, hz2⟩ := info_parts f_info4
    have hown := hk.ogAt i hi
    have hsrc := hk.ogAt j hj
    have main : ∃ v' u', (Builtin.append_ #[22, 22] o.type #[v, .slice A n c]).run Tryz.prog u = .ok v' u' ∧ Kg w F (own.set i (Th.of v' (ms ++ rs))) ro u' := by
      cases A with
      | none =>
        have hr0 : rs = [] := by
          rcases hsrc.2 with ⟨_, h1⟩ | ⟨g, cap, cur, h1, _⟩
          · exact List.eq_nil_of_length_eq_zero h1
          · cases h1
        subst hr0
        have hn0 : n = 0 := by simpa using hn.symm
        subst hn0
        refine ⟨v, u, ?_, ?_⟩
        · rcases hown.2 with ⟨rfl, h0⟩ | ⟨g, cap, cur, rfl, _, _, hnc, _⟩
          · simp [Builtin.append_, run_underlying Tryz.underlying22, sizeOf, typeInfo, hi0, Builtin.lenOf, Builtin.firstCells]
          · simp [Builtin.append_, run_underlying Tryz.underlying22, sizeOf, typeInfo, hi0, Builtin.lenOf, Builtin.firstCells, hnc, storeCells]
        · rw [List.append_nil]
          have e : own.set i (Th.of v ms) = own := by
            apply List.ext_getElem?
            intro k
            rw [List.getElem?_set]
            split
            · rename_i hik; subst hik
              split
              · exact hi.symm
              · rename_i hl; rw [List.getElem?_eq_none (by omega)]
            · rfl
          rw [e]; exact hk
      | some ad =>
        obtain ⟨v', w', hrun, h2, h3, _, h5⟩ := run_append_own_at (P := Tryz.prog) u 0 22 o.type 43 i0 (.agg (zP.fd none 0).cells.toArray) 587 4720 Tryz.underlying22 hi0 hz0 hz1 hz2 f_zsize (by omega) v ms.length (fcs ms) hown ad n c (fcs rs)
          (by rw [fcs_len hf, hn])
          (fun k y hy => by
            obtain ⟨g, e, hc, _⟩ := og_cell hsrc hy
            injection e with e
            subst e
            rw [Go.WideShapes.add_plain, Nat.zero_add]; exact hc) fcs_ones (by simp only [maxLen]; omega) (by
            have : (ms.length + n) * 4720 ≤ 1000 * 4720 := Nat.mul_le_mul_right 4720 (by omega)
            omega) (Nat.zero_le _)
        refine ⟨v', w', hrun, ?_⟩
        have := hk.pushed i hi h2 h3 h5
        rw [← hn, of_join] at this
        exact this
    obtain ⟨v', u', hrun, hk2⟩ := main
    have hK := hK _ _ (h v' u' hk2)
    unfold Oper.wp execOp
    simp only [ho, resolve, invoke, builtin, Sem.run_bind, Sem.run_pure, Result.andThen_ok, List.map_toArray, List.map_cons, List.map_nil, hs, hx, hrun]
    exact hK
/-- Holds of both are read. -/
theorem Kg.hqJoin {ms rs : List Q} (h : Kg w F own (Th.hq rs :: Th.hq ms :: ro) u) : Kg w F own (Th.hq (ms ++ rs) :: ro) u :=
  Kg.also (h.sub fun r hr => List.mem_cons_of_mem _ (List.mem_cons_of_mem _ hr)) (t := Th.hq (ms ++ rs)) (fun x hx => (List.mem_append.1 hx).elim (h.look (Th.hq ms) (by simp) x) (h.look (Th.hq rs) (by simp) x)) (fun e he k hk hc => by
    obtain ⟨x, hx, hk⟩ := hk
    rcases List.mem_append.1 hx with hx | hx
    · exact h.free (Th.hq ms) (by simp) e he k ⟨x, hx, hk⟩ hc
    · exact h.free (Th.hq rs) (by simp) e he k ⟨x, hx, hk⟩ hc)
theorem Kg.hqPerm {ms rs : List Q} (h : Kg w F own (Th.hq ms :: ro) u) (hp : rs.Perm ms) : Kg w F own (Th.hq rs :: ro) u :=
  Kg.also (h.sub fun r hr => List.mem_cons_of_mem _ hr) (t := Th.hq rs) (fun x hx => h.look (Th.hq ms) (by simp) x (hp.mem_iff.1 hx)) (fun e he k hk hc => by
    obtain ⟨x, hx, hk⟩ := hk
    exact h.free (Th.hq ms) (by simp) e he k ⟨x, hp.mem_iff.1 hx, hk⟩ hc)
theorem Kg.only (h : Kg w F own ro u) (i : Nat) {t : Th} (hi : own[i]? = some t) : Kg w F [t] ro u := by
  have hm := List.mem_of_getElem? hi
  refine ⟨h.mf, fun x hx => by obtain rfl := List.mem_singleton.1 hx; exact h.all _ hm, fun a b x y ha hb hab k hx hy => ?_, fun x hx => by obtain rfl := List.mem_singleton.1 hx; exact h.cov _ hm, h.look, fun r hr e he => by obtain rfl := List.mem_singleton.1 he; exact h.free r hr _ hm⟩
  match a, b, ha, hb with
  | 0, 0, _, _ => exact hab rfl
  | a + 1, _, ha, _ => simp at ha
  | _, b + 1, _, hb => simp at hb
theorem Kg.sortedF (h : Kg w F own ro u) (i : Nat) {v : Value} {ms rs : List Q} (hi : own[i]? = some (Th.of v ms)) (ho : u'.ownsRow 0 43 587 v rs.length (fcs rs)) (hm : Mf (fun k => v.ownBlock = some k) u u') : Kg w F (own.set i (Th.of v rs)) ro u' :=
  h.move i hi hm ho (fun _ hk => .inl hk)
end
theorem mkL_len (ps : List Pf) (p : Pl) : (mkL ps p).length ≤ 2 := by
  unfold mkL
  split
  · rw [List.length_map]; exact (drafts_len p _).2
  · simp
def Applied (ps : List Pf) (p : Pl) (xs : List Pf) : Prop := xs.Perm (mkL (aboutP ps p) p ++ restP ps p) ∧ xs.Pairwise fun a b => ltS b.nm a.nm = false
set_option maxHeartbeats 4000000 in
theorem apply_any (p : Pl) (hP : PlOk p) (A : Option Addr) (n c : Nat) (qs : List Q) (hn : n ≤ 1000) (hn2 : n ≤ 900) (hN : Fits1000 qs) (w : World) (hd : FR w A n qs) :
    Calls Tryz.prog 20 #[.slice A n c, .agg p.cells.toArray] w fun e u => ∃ v xs, e = .returned (.tuple #[v, .int .i64 (appE (pfs qs) p)]) ∧ OF w v xs u ∧ (appE (pfs qs) p = 0 → Applied (pfs qs) p (pfs xs)) ∧ (appE (pfs qs) p ≠ 0 → xs = []) := by
  have hmf : ∀ (fn : Fn) (first cap : Array Value) (w : World), (Instr.makeFunc fn first cap).run Tryz.prog w = .ok (.func fn first cap) w := fun _ _ _ _ => rfl
  have HK := Lib.hid (Kg.start w)
  have HPL := Lib.hid (show (pfs qs).length = n by rw [pfs_len]; exact hd.1)
  have hft := fun w h => fits_any p hP A n c qs hn hN w h
  have HD := Lib.hid hd; clear hd
  by_cases h1 : fitE (pfs qs) p = 0
  · have HFIT := Lib.hid (fit_is h1)
    have HPP := Lib.hid (show (1 ≤ p.k ∧ p.k ≤ 6) ∧ isB p.a = true ∧ isB p.b = true from by have := plan_parts HFIT.out.pl; exact ⟨this.1, this.2.2.1, this.2.2.2.1⟩)
    have HRT := Lib.hid (show ∀ x ∈ aboutP (pfs qs) p, rightP x = true from fun x hx => (fields_is HFIT.out.fs).2.1 x (about_sub hx).1)
    have HAE := Lib.hid (show appE (pfs qs) p = mkE (aboutP (pfs qs) p) p by rw [appE, if_neg (fun h => h h1)])
    rw [h1] at hft
    clear hN h1
    by_cases h2 : mkE (aboutP (pfs qs) p) p = 0
    · have HME := Lib.hid h2
      clear h2
      go_enter Tryz.func20, Tryz.ntmps20
      go_wp2_with (first
        | ((with_reducible refine box_k (cs := p.cells) HK.out rfl _ rfl rfl ?_); intro bp u hk; clear HK; have HK := Lib.hid hk; clear hk)
        | (with_reducible refine load_kr (xs := p.cells) HK.out 0 Tryz.underlying24 rfl p_info _ rfl rfl rfl rfl Pl.all ?_)
        | (go_at_call 18; (with_reducible refine (hft _ (HD.out.below HK.out.mf.bel)).mono ?_); rintro e u ⟨rfl, hb⟩; have hk := HK.out.call hb; clear hb; clear HK; have HK := Lib.hid hk; clear hk))
      refine Draws.start (S := fun u => Kg w (fun _ => False) [Th.cel bp 24 p.cells] [] u) (n := 10) 10 rfl (by kernel_rfl) ?_
      have HS := Lib.hid (show (fun u => Kg w (fun _ => False) [Th.cel bp 24 p.cells] [] u) (World.drew _) from HK.out.drew)
      refine Draws.take 0 HS.out rfl (by kernel_rfl) (fun _ _ _ h => h) (yield_kr Tryz.underlying24 rfl p_info (fun _ h => (h.celAt 0 rfl).range Pl.all) _ rfl rfl rfl) ?_
      (try simp only [Act.put, lsA, lsB, lsC])
      refine Draws.take 1 (v := ?v1) HS.out rfl (by kernel_rfl) (fun _ _ _ h => h) (Or.inl ⟨rfl, ?h1⟩) ?r1
      case h1 => intro w' hw'; go_simp; (try with_reducible rfl)
      (try simp only [Act.put, lsA, lsB, lsC])
      refine Draws.take 2 HS.out rfl (by kernel_rfl) (fun _ _ _ h => h) (yield_mf rfl rfl rfl) ?_
      (try simp only [Act.put, lsA, lsB, lsC])
      refine Draws.does 3 rfl (by kernel_rfl) rfl (fun K' hK => ?_)
      go_simp
      go_at_call 42
      refine (parts2_any p bp _ _ _ qs hn _ ((HS.out.celAt 0 rfl).range Pl.all) (HD.out.below HS.out.mf.bel)).mono ?_
      rintro e u ⟨v, ab, rfl, ho, hpf⟩
      (try dsimp only)
      obtain ⟨A2, c2, rfl, hfr, hnew⟩ := ho.fr
      have hk := HS.out.frMade ho.bel hfr hnew
      clear HK; have HK := Lib.hid hk
      have HPF := Lib.hid (show pfs ab = aboutP (pfs qs) p from hpf)
      have HAL := Lib.hid (show 0 < ab.length ∧ ab.length ≤ 4 by rw [← pfs_len, HPF.out]; exact about_pos HFIT.out)
      have HAF := Lib.hid (hfr.1)
      clear HS; have HS := Lib.hid (show (fun u => Kg w (fun _ => False) [Th.cel bp 24 p.cells] [] u) _ from hk.sub (by simp))
      clear hk ho hpf hfr hnew
      refine hK.out _ _ (fun _ => HS.out) ?_
      clear hK K'
      (try simp only [Act.put, lsA, lsB, lsC])
      refine Draws.does 4 rfl (by kernel_rfl) rfl (fun K' hK => ?_)
      go_simp
      go_at_call 50
      refine (makes_any p hP HPP.out.1 HPP.out.2.1 HPP.out.2.2 A2 ab.length c2 ab HAL.out (fun x hx => right_ok (HRT.out _ (by rw [← HPF.out]; exact List.mem_map.2 ⟨x, hx, rfl⟩))) (fun s hs => by
        obtain ⟨y, hy, rfl⟩ := List.mem_map.1 hs
        exact right_bd (HRT.out y (by rw [← HPF.out]; exact hy))) _ (HK.out.fr 0 rfl)).mono ?_
      rintro e u ⟨v2, ms, rfl, ho, hml⟩
      (try dsimp only)
      rw [HPF.out, HME.out]
      rw [HPF.out] at hml
      have hk := HK.out.ofAdd ho
      have HMF := Lib.hid ho.full
      have HMN := Lib.hid (fun k hk => Nat.le_trans HS.out.mf.size (ho.new k hk))
      have HML := Lib.hid hml
      clear HK; have HK := Lib.hid hk
      clear HS; have HS := Lib.hid (show (fun u => Kg w (fun _ => False) [Th.cel bp 24 p.cells] [] u) _ from hk.tail.sub (by simp))
      clear hk ho hml
      refine hK.out _ _ (fun _ => HS.out) ?_
      clear hK K'
      (try simp only [Act.put, lsA, lsB, lsC])
      refine Draws.take 5 (v := ?v2) HS.out rfl (by kernel_rfl) (fun _ _ _ h => h) (Or.inl ⟨rfl, ?h2⟩) ?r2
      case h2 => intro w' hw'; go_simp; (try with_reducible rfl)
      (try simp only [Act.put, lsA, lsB, lsC])
      refine Draws.take 6 (v := ?v3) HS.out rfl (by kernel_rfl) (fun _ _ _ h => h) (Or.inl ⟨rfl, ?h3⟩) ?r3
      case h3 => intro w' hw'; go_simp; (try with_reducible rfl)
      (try simp only [Act.put, lsA, lsB, lsC])
      refine Draws.take 7 (v := ?v4) HS.out rfl (by kernel_rfl) (fun _ _ _ h => h) (Or.inl ⟨rfl, ?h4⟩) ?r4
      case h4 => intro w' hw'; go_simp; (try with_reducible rfl)
      (try simp only [Act.put, lsA, lsB, lsC])
      refine Draws.take 8 (v := ?v5) HS.out rfl (by kernel_rfl) (fun _ _ _ h => h) (Or.inl ⟨rfl, ?h5⟩) ?r5
      case h5 => intro w' hw'; go_simp; (try with_reducible rfl)
      (try simp only [Act.put, lsA, lsB, lsC])
      refine Draws.take 9 (v := ?v6) HS.out rfl (by kernel_rfl) (fun _ _ _ h => h) (Or.inl ⟨rfl, ?h6⟩) ?r6
      case h6 => intro w' hw'; go_simp; (try with_reducible rfl)
      (try simp only [Act.put, lsA, lsB, lsC])
      refine Draws.done (by kernel_rfl) ?_
      go_wp2_with (first
        | (go_at_call 42; (with_reducible refine (parts3_any p bp _ _ _ qs hn _ ((HK.out.celAt 1 rfl).range Pl.all) (HD.out.below HK.out.mf.bel)).mono ?_); rintro e u ⟨v3, rs, rfl, ho, hpf⟩; obtain ⟨A3, c3, rfl, _, _⟩ := ho.fr; have hk := HK.out.ofAdd ho; have HRF := Lib.hid ho.full; have HRN := Lib.hid (fun k hk => Nat.le_trans HK.out.mf.size (ho.new k hk)); have HPR := Lib.hid (show pfs rs = restP (pfs qs) p from hpf); have HLL := Lib.hid (show ms.length + rs.length ≤ 1000 by rw [← pfs_len ms, HML.out, ← pfs_len rs, hpf]; exact Nat.le_trans (Nat.add_le_add (mkL_len _ p) (List.length_filter_le _ _)) (by rw [HPL.out]; omega)); clear ho hpf; clear HK; have HK := Lib.hid hk; clear hk)
        | ((with_reducible refine appF_k HK.out 1 0 rfl rfl rfl HRF.out HLL.out rfl _ _ rfl rfl rfl ?_); intro v4 u hk; simp only [List.set_cons_zero, List.set_cons_succ] at hk; clear HK; have HK := Lib.hid hk; clear hk)
        | (go_at_call 53; (with_reducible refine (fsort_any _ 0 v4 (ms ++ rs) (fun x hx => (List.mem_append.1 hx).elim (HMF.out x) (HRF.out x)) (HK.out.ogAt 1 rfl) (by have := HLL.out; rw [List.length_append]; omega)).mono ?_); rintro e u ⟨rfl, xs, hso, hpm, hup, hmf2⟩; have hk := HK.out.sortedF 1 rfl hso hmf2; simp only [List.set_cons_zero, List.set_cons_succ] at hk; have HPM := Lib.hid hpm; have HUP := Lib.hid hup; clear hso hpm hup hmf2; clear HK; have HK := Lib.hid hk; clear hk))
      go_ret2
      have hk := HK.out.only 1 rfl
      have hk2 := (((hk.sub (ro' := [Th.hq rs, Th.hq ms]) (by simp)).hqJoin).hqPerm HPM.out)
      refine ⟨_, xs, by rw [HAE.out, HME.out]; rfl, ⟨hk2, fun x hx => ?_, fun k hk' => ?_⟩, fun _ => ⟨?_, ?_⟩, fun h => absurd (by rw [HAE.out, HME.out]) h⟩
      · exact (List.mem_append.1 (HPM.out.mem_iff.1 hx)).elim (HMF.out x) (HRF.out x)
      · obtain ⟨x, hx, hr⟩ := hk'
        rcases List.mem_append.1 (HPM.out.mem_iff.1 hx) with hx | hx
        · exact HMN.out k ⟨x, hx, hr⟩
        · exact HRN.out k ⟨x, hx, hr⟩
      · have := HPM.out.map Prod.fst
        rw [List.map_append, show ms.map Prod.fst = mkL (aboutP (pfs qs) p) p from HML.out, show rs.map Prod.fst = restP (pfs qs) p from HPR.out] at this
        exact this
      · exact List.pairwise_map.2 HUP.out
    · obtain ⟨E, hE⟩ : ∃ E, mkE (aboutP (pfs qs) p) p = E := ⟨_, rfl⟩
      have HME := Lib.hid hE
      rw [hE] at h2
      have d0 : (E != 0) = true := by simpa using h2
      have HNE := Lib.hid h2
      clear hE h2
      go_enter Tryz.func20, Tryz.ntmps20
      go_wp2_with (first
        | ((with_reducible refine box_k (cs := p.cells) HK.out rfl _ rfl rfl ?_); intro bp u hk; clear HK; have HK := Lib.hid hk; clear hk)
        | (with_reducible refine load_kr (xs := p.cells) HK.out 0 Tryz.underlying24 rfl p_info _ rfl rfl rfl rfl Pl.all ?_)
        | (go_at_call 18; (with_reducible refine (hft _ (HD.out.below HK.out.mf.bel)).mono ?_); rintro e u ⟨rfl, hb⟩; have hk := HK.out.call hb; clear hb; clear HK; have HK := Lib.hid hk; clear hk))
      refine Draws.start (S := fun u => Kg w (fun _ => False) [Th.cel bp 24 p.cells] [] u) (n := 10) 10 rfl (by kernel_rfl) ?_
      have HS := Lib.hid (show (fun u => Kg w (fun _ => False) [Th.cel bp 24 p.cells] [] u) (World.drew _) from HK.out.drew)
      refine Draws.take 0 HS.out rfl (by kernel_rfl) (fun _ _ _ h => h) (yield_kr Tryz.underlying24 rfl p_info (fun _ h => (h.celAt 0 rfl).range Pl.all) _ rfl rfl rfl) ?_
      (try simp only [Act.put, lsA, lsB, lsC])
      refine Draws.take 1 (v := ?v7) HS.out rfl (by kernel_rfl) (fun _ _ _ h => h) (Or.inl ⟨rfl, ?h7⟩) ?r7
      case h7 => intro w' hw'; go_simp; (try with_reducible rfl)
      (try simp only [Act.put, lsA, lsB, lsC])
      refine Draws.take 2 HS.out rfl (by kernel_rfl) (fun _ _ _ h => h) (yield_mf rfl rfl rfl) ?_
      (try simp only [Act.put, lsA, lsB, lsC])
      refine Draws.does 3 rfl (by kernel_rfl) rfl (fun K' hK => ?_)
      go_simp
      go_at_call 42
      refine (parts2_any p bp _ _ _ qs hn _ ((HS.out.celAt 0 rfl).range Pl.all) (HD.out.below HS.out.mf.bel)).mono ?_
      rintro e u ⟨v, ab, rfl, ho, hpf⟩
      (try dsimp only)
      obtain ⟨A2, c2, rfl, hfr, hnew⟩ := ho.fr
      have hk := HS.out.frMade ho.bel hfr hnew
      clear HK; have HK := Lib.hid hk
      have HPF := Lib.hid (show pfs ab = aboutP (pfs qs) p from hpf)
      have HAL := Lib.hid (show 0 < ab.length ∧ ab.length ≤ 4 by rw [← pfs_len, HPF.out]; exact about_pos HFIT.out)
      have HAF := Lib.hid (hfr.1)
      clear HS; have HS := Lib.hid (show (fun u => Kg w (fun _ => False) [Th.cel bp 24 p.cells] [] u) _ from hk.sub (by simp))
      clear hk ho hpf hfr hnew
      refine hK.out _ _ (fun _ => HS.out) ?_
      clear hK K'
      (try simp only [Act.put, lsA, lsB, lsC])
      refine Draws.does 4 rfl (by kernel_rfl) rfl (fun K' hK => ?_)
      go_simp
      go_at_call 50
      refine (makes_any p hP HPP.out.1 HPP.out.2.1 HPP.out.2.2 A2 ab.length c2 ab HAL.out (fun x hx => right_ok (HRT.out _ (by rw [← HPF.out]; exact List.mem_map.2 ⟨x, hx, rfl⟩))) (fun s hs => by
        obtain ⟨y, hy, rfl⟩ := List.mem_map.1 hs
        exact right_bd (HRT.out y (by rw [← HPF.out]; exact hy))) _ (HK.out.fr 0 rfl)).mono ?_
      rintro e u ⟨v2, ms, rfl, ho, hml⟩
      (try dsimp only)
      rw [HPF.out, HME.out]
      rw [HPF.out] at hml
      have hk := HK.out.ofAdd ho
      have HMF := Lib.hid ho.full
      have HMN := Lib.hid (fun k hk => Nat.le_trans HS.out.mf.size (ho.new k hk))
      have HML := Lib.hid hml
      clear HK; have HK := Lib.hid hk
      clear HS; have HS := Lib.hid (show (fun u => Kg w (fun _ => False) [Th.cel bp 24 p.cells] [] u) _ from hk.tail.sub (by simp))
      clear hk ho hml
      refine hK.out _ _ (fun _ => HS.out) ?_
      clear hK K'
      (try simp only [Act.put, lsA, lsB, lsC])
      refine Draws.take 5 (v := ?v8) HS.out rfl (by kernel_rfl) (fun _ _ _ h => h) (Or.inl ⟨rfl, ?h8⟩) ?r8
      case h8 => intro w' hw'; go_simp; (try with_reducible rfl)
      (try simp only [Act.put, lsA, lsB, lsC])
      refine Draws.take 6 (v := ?v9) HS.out rfl (by kernel_rfl) (fun _ _ _ h => h) (Or.inl ⟨rfl, ?h9⟩) ?r9
      case h9 => intro w' hw'; go_simp; (try with_reducible rfl)
      (try simp only [Act.put, lsA, lsB, lsC])
      refine Draws.take 7 (v := ?v10) HS.out rfl (by kernel_rfl) (fun _ _ _ h => h) (Or.inl ⟨rfl, ?h10⟩) ?r10
      case h10 => intro w' hw'; go_simp; (try with_reducible rfl)
      (try simp only [Act.put, lsA, lsB, lsC])
      refine Draws.take 8 (v := ?v11) HS.out rfl (by kernel_rfl) (fun _ _ _ h => h) (Or.inl ⟨rfl, ?h11⟩) ?r11
      case h11 => intro w' hw'; go_simp; (try with_reducible rfl)
      (try simp only [Act.put, lsA, lsB, lsC])
      refine Draws.take 9 (v := ?v12) HS.out rfl (by kernel_rfl) (fun _ _ _ h => h) (Or.inl ⟨rfl, ?h12⟩) ?r12
      case h12 => intro w' hw'; go_simp; (try with_reducible rfl)
      (try simp only [Act.put, lsA, lsB, lsC])
      refine Draws.done (by kernel_rfl) ?_
      go_wp2_with fail
      go_ret2
      exact ⟨_, by rw [HAE.out, HME.out]; rfl, [], OF.none HK.out.mf.bel, fun h => by rw [HAE.out, HME.out] at h; exact absurd h HNE.out, fun _ => rfl⟩
  · obtain ⟨E, hE⟩ : ∃ E, fitE (pfs qs) p = E := ⟨_, rfl⟩
    rw [hE] at hft h1
    have d0 : (E != 0) = true := by simpa using h1
    have HNE := Lib.hid h1
    have HAE := Lib.hid (show appE (pfs qs) p = E by rw [appE, hE, if_pos h1])
    clear h1 hE hN
    go_enter Tryz.func20, Tryz.ntmps20
    go_wp2_with (first
      | ((with_reducible refine box_k (cs := p.cells) HK.out rfl _ rfl rfl ?_); intro bp u hk; clear HK; have HK := Lib.hid hk; clear hk)
      | (with_reducible refine load_kr (xs := p.cells) HK.out 0 Tryz.underlying24 rfl p_info _ rfl rfl rfl rfl Pl.all ?_)
      | (go_at_call 18; (with_reducible refine (hft _ (HD.out.below HK.out.mf.bel)).mono ?_); rintro e u ⟨rfl, hb⟩; have hk := HK.out.call hb; clear hb; clear HK; have HK := Lib.hid hk; clear hk))
    go_ret2
    exact ⟨_, [], by rw [HAE.out]; rfl, OF.none HK.out.mf.bel, fun h => by rw [HAE.out] at h; exact absurd h HNE.out, fun _ => rfl⟩

/-- A slice of fields that comes in, of any length. -/
def CR (w : World) (A : Option Addr) (n : Nat) (qs : List Q) : Prop :=
  qs.length = n ∧ (∀ x ∈ qs, x.1.full ∧ Came w x.2.1 x.1.hs.length x.1.hs ∧ okP x.1) ∧ (n = 0 ∨ ∃ b off : Nat, A = some ⟨b, off, none⟩ ∧ ∀ i x, qs[i]? = some x → w.rangeAt b (off + i * 587) (x.1.fd x.2.1 x.2.2).cells)
theorem CR.fr {w : World} {A : Option Addr} {n : Nat} {qs : List Q} (h : CR w A n qs) (hl : ∀ x ∈ qs, x.1.hs.length ≤ 1000) : FR w A n qs := ⟨h.1, fun x hx => ⟨(h.2.1 x hx).1, (h.2.1 x hx).2.1.row (hl x hx)⟩, h.2.2⟩
theorem CR.ok {w : World} {A : Option Addr} {n : Nat} {qs : List Q} (h : CR w A n qs) : ∀ x ∈ qs, okP x.1 := fun x hx => (h.2.1 x hx).2.2
instance : Inhabited Pf := ⟨zP⟩
theorem open_fs {H : Type} {enc : TypeId × Value → H} {W : World} {b b' : Nat} {sp : Nat → Bool} {held : Bool} {v : Value} {d : DataW H} {ps : List MemPlace} (hval : Value.okWide Tryz.prog W .any b' 22 v)
    (h : DataW.Trod enc Tryz.prog W b sp held 22 v d ps) : ∃ A n c qs, v = .slice A n c ∧ CR W A n qs ∧ n ≤ c := by
  have cf : Tryz.prog.cellsOf 43 = 587 := by kernel_rfl
  obtain ⟨A0, n0, c0, rfl⟩ := okWide_slice Tryz.underlying22 hval
  obtain ⟨fuel, hf⟩ := h
  rcases Deep.open_slice Tryz.underlying22 hf with ⟨hcs, _⟩ | ⟨a, n, c, m, k, DD, P', hcs, _, hl, hm, hmm, _, hel⟩
  · have e : Value.slice A0 n0 c0 = .slice none 0 0 := by simpa [Value.cells] using hcs
    exact ⟨none, 0, 0, [], e, ⟨rfl, by simp, .inl rfl⟩, Nat.le_refl _⟩
  · have e : Value.slice A0 n0 c0 = .slice (some a) n c := by simpa [Value.cells] using hcs
    have hlm : n ≤ m := by rw [hmm]; split <;> omega
    have hcell : ∀ i, i < n → ∃ x : Q, (x.1.full ∧ Came W x.2.1 x.1.hs.length x.1.hs ∧ okP x.1) ∧ ∀ j v, (x.1.fd x.2.1 x.2.2).cells[j]? = some v → W.cell? (a.add (i * 587 + j)) = some v := fun i hi => by
      obtain ⟨cs', h1, h2⟩ := hel i (by omega)
      rw [cf] at h1
      obtain ⟨_, h3, h4⟩ := World.cells?_some h1
      obtain ⟨p, B, d', e1, hp, hd, _, hw⟩ := row_f h3 h2
      refine ⟨(p, B, d'), ⟨hp, hd, ok_of_wf hw⟩, fun j v hv => ?_⟩
      have hj : j < 587 := by
        have := (List.getElem?_eq_some_iff.1 hv).1
        rwa [Pf.len hp] at this
      have h5 := h4 j hj
      rw [Deep.add_add] at h5
      rw [h5, e1]; exact hv
    obtain ⟨f, hfn⟩ := Deep.choose_lt hcell
    refine ⟨some a, n, c, (List.range n).map f, e, ⟨by simp, ?_, ?_⟩, hl⟩
    · intro x hx
      obtain ⟨i, hi, rfl⟩ := List.mem_map.1 hx
      exact (hfn i (List.mem_range.1 hi)).1
    · rcases Nat.eq_zero_or_pos n with h0 | h0
      · exact .inl h0
      · refine .inr ?_
        obtain ⟨b0, off, path⟩ := a
        have hc0 := (hfn 0 h0).2 0 _ Pf.cn
        have hp : path = none := by simpa [Addr.add] using World.cell?_spot hc0
        subst hp
        refine ⟨b0, off, rfl, fun i x hx j v hv => ?_⟩
        have hi : i < n := by simpa using (List.getElem?_eq_some_iff.1 hx).1
        have hxi : f i = x := by simpa [hi] using hx
        subst hxi
        have := (hfn i hi).2 j v hv
        rw [Go.WideShapes.add_plain] at this
        rw [Nat.add_assoc]; exact this
/-! ### What is gone through. -/
def fewF (x : Pf) : Bool := decide (x.nm.size ≤ 100) && decide (x.hs.length ≤ 40)
def fewsF (qs : List Q) : Bool := (pfs qs).all fewF
def fewLF (n : Nat) (qs : List Q) (p : Pl) : Bool := decide (n ≤ 8) && (fewsF qs && (decide (p.nm.size ≤ 100) && decide (p.ot.size ≤ 100)))
theorem fewf_no {qs : List Q} {m : Nat} {x : Q} (hx : qs[m]? = some x) (h : fewF x.1 = false) : fewsF qs = false := by
  rw [fewsF, List.all_eq_false]
  exact ⟨x.1, List.mem_map.2 ⟨x, List.mem_of_getElem? hx, rfl⟩, by rw [h]; simp⟩
theorem fewf_all {qs : List Q} (h : ∀ (j : Nat) (x : Q), qs[j]? = some x → fewF x.1 = true) : fewsF qs = true := by
  rw [fewsF, List.all_eq_true]
  intro p hp
  obtain ⟨x, hx, rfl⟩ := List.mem_map.1 hp
  obtain ⟨j, hj⟩ := List.mem_iff_getElem?.1 hx
  exact h j x hj
theorem fewf_is {n : Nat} {qs : List Q} {p : Pl} (h : fewLF n qs p = true) : n ≤ 8 ∧ (∀ x ∈ qs, x.1.nm.size ≤ 100 ∧ x.1.hs.length ≤ 40) ∧ p.nm.size ≤ 100 ∧ p.ot.size ≤ 100 := by
  simp only [fewLF, fewsF, Bool.and_eq_true, decide_eq_true_eq, List.all_eq_true] at h
  obtain ⟨h1, h2, h3, h4⟩ := h
  refine ⟨h1, fun x hx => ?_, h3, h4⟩
  have := h2 x.1 (List.mem_map.2 ⟨x, hx, rfl⟩)
  simpa only [fewF, Bool.and_eq_true, decide_eq_true_eq] using this
set_option maxHeartbeats 2000000 in
theorem few7_any (A : Option Addr) (n c : Nat) (qs : List Q) (hn : n ≤ 8) (w : World) (hd : CR w A n qs) :
    Calls Tryz.prog 27 #[.slice A n c] w fun e w' => e = .returned (.bool (fewsF qs)) ∧ Below w.heap.size w w' := by
  have HD := Lib.hid hd
  have HL := Lib.hid hd.1
  clear hd
  have HK := Lib.hid (Kg.start w)
  go_enter Tryz.func27, Tryz.ntmps27
  go_wp2
  go_loopw [7] (fun i wr => ∃ m : Nat, m ≤ n ∧ i = .int .i64 m ∧ (∀ (j : Nat) (x : Q), j < m → qs[j]? = some x → fewF x.1 = true) ∧ Kg w (fun _ => False) [] [] wr) (fun i _ => n - (intOf i).toNat)
  case atStart => exact ⟨0, by omega, rfl, fun j x hj => by omega, HK.out⟩
  case round =>
    obtain ⟨m, hm, rfl, hq, hk⟩ := hrel
    have HQ := Lib.hid hq; clear hq
    clear HK; have HK := Lib.hid hk; clear hk
    by_cases hlt : m < n
    · obtain ⟨x, hx⟩ : ∃ x, qs[m]? = some x := ⟨_, List.getElem?_eq_getElem (by rw [HL.out]; exact hlt)⟩
      obtain ⟨b, off, rfl, hr⟩ := HD.out.2.2.resolve_left (by omega)
      have HM := Lib.hid hlt
      have HX := Lib.hid hx
      have HF := Lib.hid ((HD.out.2.1 x (List.mem_of_getElem? hx)).1)
      have HR := Lib.hid (hr m x hx)
      have i1 : (0 : Int) ≤ (m : Int) := by omega
      have i2 : (m : Int) < (n : Int) := by omega
      clear hr hx
      by_cases h1 : x.1.nm.size ≤ 100
      · have d1 : decide ((100 : Int) < (x.1.nm.size : Int)) = false := by simp; omega
        by_cases h2 : x.1.hs.length ≤ 40
        · have d2 : decide ((40 : Int) < (x.1.hs.length : Int)) = false := by simp; omega
          have HT := Lib.hid (show fewF x.1 = true by simp [fewF, h1, h2])
          clear h1 h2
          go_wp2_with (first
            | (with_reducible refine load_kg Tryz.underlying43 rfl (Pf.infoF HF.out) _ rfl (rng_below HR.out HK.out.mf.bel) rfl rfl ?_)
            | ((with_reducible refine alloc_k HK.out f_zeroP rfl rfl ?_); intro b4 u hk; clear HK; have HK := Lib.hid hk; clear hk)
            | ((with_reducible refine store_kr HK.out 0 (Pf.infoF HF.out) (Fd.one _) rfl rfl _ _ rfl rfl rfl rfl (Fd.leP zP_full HF.out) (Fd.setAllP zP_full HF.out) ?_); intro u hk; simp only [List.set_cons_zero] at hk; clear HK; have HK := Lib.hid hk; clear hk)
            | (with_reducible refine load_k1 HK.out 0 ckS _ rfl rfl rfl rfl Pf.cn ?_)
            | (with_reducible refine load_k1 HK.out 0 ckH _ rfl rfl rfl rfl (Pf.cH HF.out) ?_))
          go_roundw
          case rel => exact ⟨m + 1, by have := HM.out; omega, by go_num, fun j y hj hy => by
            rcases Nat.lt_or_ge j m with h3 | h3
            · exact HQ.out j y h3 hy
            · obtain rfl : m = j := by omega
              rw [HX.out] at hy
              injection hy with hy
              rw [← hy]; exact HT.out, HK.out.tail⟩
          case measure => have := HM.out; simp [intOf]; omega
        · have d2 : decide ((40 : Int) < (x.1.hs.length : Int)) = true := by simp; omega
          have HB := Lib.hid (fewf_no HX.out (show fewF x.1 = false by simp [fewF, h2]))
          clear h1 h2
          go_wp2_with (first
            | (with_reducible refine load_kg Tryz.underlying43 rfl (Pf.infoF HF.out) _ rfl (rng_below HR.out HK.out.mf.bel) rfl rfl ?_)
            | ((with_reducible refine alloc_k HK.out f_zeroP rfl rfl ?_); intro b4 u hk; clear HK; have HK := Lib.hid hk; clear hk)
            | ((with_reducible refine store_kr HK.out 0 (Pf.infoF HF.out) (Fd.one _) rfl rfl _ _ rfl rfl rfl rfl (Fd.leP zP_full HF.out) (Fd.setAllP zP_full HF.out) ?_); intro u hk; simp only [List.set_cons_zero] at hk; clear HK; have HK := Lib.hid hk; clear hk)
            | (with_reducible refine load_k1 HK.out 0 ckS _ rfl rfl rfl rfl Pf.cn ?_)
            | (with_reducible refine load_k1 HK.out 0 ckH _ rfl rfl rfl rfl (Pf.cH HF.out) ?_))
          go_ret
          exact ⟨by rw [HB.out]; rfl, HK.out.mf.bel⟩
      · have d1 : decide ((100 : Int) < (x.1.nm.size : Int)) = true := by simp; omega
        have HB := Lib.hid (fewf_no HX.out (show fewF x.1 = false by simp [fewF, h1]))
        clear h1
        go_wp2_with (first
          | (with_reducible refine load_kg Tryz.underlying43 rfl (Pf.infoF HF.out) _ rfl (rng_below HR.out HK.out.mf.bel) rfl rfl ?_)
          | ((with_reducible refine alloc_k HK.out f_zeroP rfl rfl ?_); intro b4 u hk; clear HK; have HK := Lib.hid hk; clear hk)
          | ((with_reducible refine store_kr HK.out 0 (Pf.infoF HF.out) (Fd.one _) rfl rfl _ _ rfl rfl rfl rfl (Fd.leP zP_full HF.out) (Fd.setAllP zP_full HF.out) ?_); intro u hk; simp only [List.set_cons_zero] at hk; clear HK; have HK := Lib.hid hk; clear hk)
          | (with_reducible refine load_k1 HK.out 0 ckS _ rfl rfl rfl rfl Pf.cn ?_)
          | (with_reducible refine load_k1 HK.out 0 ckH _ rfl rfl rfl rfl (Pf.cH HF.out) ?_))
        go_ret
        exact ⟨by rw [HB.out]; rfl, HK.out.mf.bel⟩
    · obtain rfl : m = n := by omega
      have HB := Lib.hid (fewf_all (qs := qs) fun j x hj => HQ.out j x (by have := (List.getElem?_eq_some_iff.1 hj).1; rw [HL.out] at this; exact this) hj)
      go_wp2
      go_ret
      exact ⟨by rw [HB.out]; rfl, HK.out.mf.bel⟩
theorem cr_below {w u : World} {A : Option Addr} {n : Nat} {qs : List Q} (h : CR w A n qs) (hb : Below w.heap.size w u) : CR u A n qs := by
  obtain ⟨h1, h2, h3⟩ := h
  refine ⟨h1, fun x hx => ⟨(h2 x hx).1, ?_, (h2 x hx).2.2⟩, ?_⟩
  · obtain ⟨g1, g2, g3⟩ := (h2 x hx).2.1
    refine ⟨g1, g2, ?_⟩
    rcases g3 with g3 | ⟨b, off, e, g3⟩
    · exact .inl g3
    · exact .inr ⟨b, off, e, fun k hk => rng_below (g3 k hk) hb⟩
  · rcases h3 with h3 | ⟨b, off, e, h3⟩
    · exact .inl h3
    · exact .inr ⟨b, off, e, fun i x hx => rng_below (h3 i x hx) hb⟩
set_option maxHeartbeats 2000000 in
theorem few13_any (p : Pl) (A : Option Addr) (n c : Nat) (qs : List Q) (w : World) (hd : CR w A n qs) :
    Calls Tryz.prog 8 #[.slice A n c, .agg p.cells.toArray] w fun e w' => e = .returned (.bool (fewLF n qs p)) ∧ Below w.heap.size w w' := by
  have HD := Lib.hid hd
  clear hd
  have HK := Lib.hid (Kg.start w)
  by_cases h8 : n ≤ 8
  · have d8 : decide ((n : Int) ≤ 8) = true := by simp; omega
    have hf7 := fun w h => few7_any A n c qs h8 w h
    cases hq : fewsF qs with
    | false =>
      rw [hq] at hf7
      have HB := Lib.hid (show fewLF n qs p = false by rw [fewLF, hq]; simp)
      clear hq
      clear h8
      go_enter Tryz.func8, Tryz.ntmps8
      go_wp2_with (first
        | ((with_reducible refine box_k (cs := p.cells) HK.out rfl _ rfl rfl ?_); intro bp u hk; clear HK; have HK := Lib.hid hk; clear hk)
        | (go_at_call 27; (with_reducible refine (hf7 _ (cr_below HD.out HK.out.mf.bel)).mono ?_); rintro e u ⟨rfl, hb⟩; have hk := HK.out.call hb; clear hb; clear HK; have HK := Lib.hid hk; clear hk)
        | (with_reducible refine load_k1 HK.out 0 ckS _ rfl rfl rfl rfl Pl.c1 ?_)
        | (with_reducible refine load_k1 HK.out 0 ckS _ rfl rfl rfl rfl Pl.c2 ?_))
      go_ret
      exact ⟨by rw [HB.out]; rfl, HK.out.mf.bel⟩
    | true =>
      rw [hq] at hf7
      by_cases h1 : p.nm.size ≤ 100
      · have d1 : decide ((p.nm.size : Int) ≤ 100) = true := by simp; omega
        by_cases h2 : p.ot.size ≤ 100
        · have d2 : decide ((p.ot.size : Int) ≤ 100) = true := by simp; omega
          have HB := Lib.hid (show fewLF n qs p = true by rw [fewLF, hq]; simp [h8, h1, h2])
          clear hq h1 h2
          clear h8
          go_enter Tryz.func8, Tryz.ntmps8
          go_wp2_with (first
            | ((with_reducible refine box_k (cs := p.cells) HK.out rfl _ rfl rfl ?_); intro bp u hk; clear HK; have HK := Lib.hid hk; clear hk)
            | (go_at_call 27; (with_reducible refine (hf7 _ (cr_below HD.out HK.out.mf.bel)).mono ?_); rintro e u ⟨rfl, hb⟩; have hk := HK.out.call hb; clear hb; clear HK; have HK := Lib.hid hk; clear hk)
            | (with_reducible refine load_k1 HK.out 0 ckS _ rfl rfl rfl rfl Pl.c1 ?_)
            | (with_reducible refine load_k1 HK.out 0 ckS _ rfl rfl rfl rfl Pl.c2 ?_))
          go_ret
          exact ⟨by rw [HB.out]; rfl, HK.out.mf.bel⟩
        · have d2 : decide ((p.ot.size : Int) ≤ 100) = false := by simp; omega
          have HB := Lib.hid (show fewLF n qs p = false by rw [fewLF, hq]; simp [h2])
          clear hq h1 h2
          clear h8
          go_enter Tryz.func8, Tryz.ntmps8
          go_wp2_with (first
            | ((with_reducible refine box_k (cs := p.cells) HK.out rfl _ rfl rfl ?_); intro bp u hk; clear HK; have HK := Lib.hid hk; clear hk)
            | (go_at_call 27; (with_reducible refine (hf7 _ (cr_below HD.out HK.out.mf.bel)).mono ?_); rintro e u ⟨rfl, hb⟩; have hk := HK.out.call hb; clear hb; clear HK; have HK := Lib.hid hk; clear hk)
            | (with_reducible refine load_k1 HK.out 0 ckS _ rfl rfl rfl rfl Pl.c1 ?_)
            | (with_reducible refine load_k1 HK.out 0 ckS _ rfl rfl rfl rfl Pl.c2 ?_))
          go_ret
          exact ⟨by rw [HB.out]; rfl, HK.out.mf.bel⟩
      · have d1 : decide ((p.nm.size : Int) ≤ 100) = false := by simp; omega
        have HB := Lib.hid (show fewLF n qs p = false by rw [fewLF, hq]; simp [h1])
        clear hq h1
        clear h8
        go_enter Tryz.func8, Tryz.ntmps8
        go_wp2_with (first
          | ((with_reducible refine box_k (cs := p.cells) HK.out rfl _ rfl rfl ?_); intro bp u hk; clear HK; have HK := Lib.hid hk; clear hk)
          | (go_at_call 27; (with_reducible refine (hf7 _ (cr_below HD.out HK.out.mf.bel)).mono ?_); rintro e u ⟨rfl, hb⟩; have hk := HK.out.call hb; clear hb; clear HK; have HK := Lib.hid hk; clear hk)
          | (with_reducible refine load_k1 HK.out 0 ckS _ rfl rfl rfl rfl Pl.c1 ?_)
          | (with_reducible refine load_k1 HK.out 0 ckS _ rfl rfl rfl rfl Pl.c2 ?_))
        go_ret
        exact ⟨by rw [HB.out]; rfl, HK.out.mf.bel⟩
  · have d8 : decide ((n : Int) ≤ 8) = false := by simp; omega
    have HB := Lib.hid (show fewLF n qs p = false by simp [fewLF, h8])
    clear h8
    go_enter Tryz.func8, Tryz.ntmps8
    go_wp2_with (first
      | ((with_reducible refine box_k (cs := p.cells) HK.out rfl _ rfl rfl ?_); intro bp u hk; clear HK; have HK := Lib.hid hk; clear hk)
      | (go_at_call 27; (with_reducible refine (hf7 _ (cr_below HD.out HK.out.mf.bel)).mono ?_); rintro e u ⟨rfl, hb⟩; have hk := HK.out.call hb; clear hb; clear HK; have HK := Lib.hid hk; clear hk)
      | (with_reducible refine load_k1 HK.out 0 ckS _ rfl rfl rfl rfl Pl.c1 ?_)
      | (with_reducible refine load_k1 HK.out 0 ckS _ rfl rfl rfl rfl Pl.c2 ?_))
    go_ret
    exact ⟨by rw [HB.out]; rfl, HK.out.mf.bel⟩

end Go.Proofs.YtgblnlpfgdbnnaaGreat
