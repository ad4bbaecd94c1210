/- Plain facts of what a plan makes.; awake. -/
import Derived.Test.YtgblnlpfgdbnnaaGreatZ35
namespace Go.Proofs.YtgblnlpfgdbnnaaGreat
set_option maxRecDepth 100000
open Go.ChangeShapes Go.WideShapes Go.ChangeAt Go.RowKit

theorem one_right {R : List Int} {x : Int} (hR : R.length = 288) (h0 : 0 ≤ x) (h1 : x ≤ 1099511627776) (hg : ∀ p, p < 288 → R.getD p 0 = if p = 0 then x else 0) : rightsB R = true := by
  rw [rightsB_iff]
  refine ⟨fun j hj => (rightB_iff (seg_length (by omega))).2 fun k hk => ?_, fun j hj => ?_⟩
  · rw [seg_get hk, hg _ (by omega)]; split <;> omega
  · rw [hg _ (by omega), if_neg (by omega)]
theorem new_right {i l h : Int} (hb : newB i l h = true) : rightC (newC i l h) = true := by
  obtain ⟨b1, b2, b3, b4, b5⟩ := newB_iff.1 hb
  have hl := newC_length i l h
  obtain ⟨d1, d2⟩ := isB_iff.1 b5
  have r1 : rightsB (dnR (newC i l h)) = true := one_right (x := i - l) (dnR_length hl) (by omega) (by omega) fun p hp => by
    rw [dnR, seg_get hp, newC_get]
    by_cases e : p = 0
    · subst e; rfl
    · rw [if_neg (by omega), if_neg (by omega), if_neg (by omega), if_neg (by omega), if_neg (by omega), if_neg e]
  have r2 : rightsB (upR (newC i l h)) = true := one_right (x := h - i) (upR_length hl) (by omega) (by omega) fun p hp => by
    rw [upR, seg_get hp, newC_get]
    by_cases e : p = 0
    · subst e; rfl
    · rw [if_neg (by omega), if_neg (by omega), if_neg (by omega), if_neg (by omega), if_neg (by omega), if_neg e]
  have t1 : tot (seg (newC i l h) 3 16) = i - l := by
    rw [show seg (newC i l h) 3 16 = [i - l, 0, 0, 0, 0, 0, 0, 0, 0, 0, 0, 0, 0, 0, 0, 0] by kernel_rfl]; simp [tot]
  have t2 : tot (seg (newC i l h) 291 16) = h - i := by
    rw [show seg (newC i l h) 291 16 = [h - i, 0, 0, 0, 0, 0, 0, 0, 0, 0, 0, 0, 0, 0, 0, 0] by kernel_rfl]; simp [tot]
  have t3 : tot (seg (newC i l h) 307 16) = 0 := by rw [show seg (newC i l h) 307 16 = zer 16 by kernel_rfl]; rfl
  have t4 : tot (seg (newC i l h) 19 16) = 0 := by rw [show seg (newC i l h) 19 16 = zer 16 by kernel_rfl]; rfl
  have g0 : (newC i l h).getD 0 0 = i := by rw [newC_get]; rfl
  have g1 : (newC i l h).getD 1 0 = l := by rw [newC_get]; rfl
  have g2 : (newC i l h).getD 2 0 = h := by rw [newC_get]; rfl
  unfold rightC tieB
  rw [r1, r2, t1, t2, t3, t4, g0, g1, g2, b1, b2, decide_eq_true b3, decide_eq_true b4, decide_eq_true (show i - l ≤ 1099511627776 by omega), decide_eq_true (show h - i ≤ 1099511627776 by omega), decide_eq_true (show i - l = i - l + 0 by omega), decide_eq_true (show h - i = h - i + 0 by omega)]
  rfl
theorem sumFrom_zer : ∀ (n : Nat) (acc : Int), isB acc = true → sumFrom acc (zer n) = some acc
  | 0, acc, _ => rfl
  | n + 1, acc, h => by
    have e : zer (n + 1) = 0 :: zer n := rfl
    rw [e, sumFrom, if_pos (okB_iff.2 ⟨h, isB_zero, by rw [Int.add_zero]; exact h⟩), Int.add_zero]
    exact sumFrom_zer n acc h
theorem new_val {i l h : Int} (hb : newB i l h = true) : sumN (valL (newC i l h)) = i := by
  obtain ⟨b1, b2, b3, b4, b5⟩ := newB_iff.1 hb
  have hi : isB i = true := by
    have h1 := isB_iff.1 b1
    have h2 := isB_iff.1 b2
    exact isB_iff.2 (by omega)
  have e : valL (newC i l h) = i :: zer 32 := by kernel_rfl
  have s : sumFrom 0 (i :: zer 32) = some i := by
    rw [sumFrom, if_pos (okB_iff.2 ⟨isB_zero, hi, by rw [Int.zero_add]; exact hi⟩), Int.zero_add]
    exact sumFrom_zer 32 i hi
  rw [e]
  exact (sumN_some s).1
/-- Where a counter began. -/
def inP (p : Pf) : Int := p.C.getD 0 0
structure Made (d : Dr) (ep : Int) (x : Pf) : Prop where
  right : rightP x = true
  nm : x.nm = d.nm
  k : x.k = d.k
  e : x.e = ep
  hs : x.hs = []
  v : vN x = d.v
  ve : vE x = 0
  lo : loP x = d.lo
  hi : hiP x = d.hi
  init : d.k = 1 → inP x = d.v
theorem great_no {d : Dr} (h : greatB d = false) : isB d.v = true ∧ isB d.lo = true ∧ isB d.hi = true ∧ isB (d.hi - d.lo) = true := by
  simpa [greatB] using h
theorem beyond_no {d : Dr} (h : beyondB d = false) (hk : d.k = 1) : d.lo ≤ d.v ∧ d.v ≤ d.hi := by
  simpa [beyondB, hk] using h
theorem repBK_0 : repBK 0 = true := by decide
/-- What is made of a draft that isn't too great, nor beyond its bounds. -/
theorem made_is {d : Dr} {ep : Int} (hn : nameB d.nm = true) (hep : epB ep = true) (hk : d.k = 1 ∨ (d.k = 2 ∧ d.lo = 0 ∧ d.hi = 0)) (hg : greatB d = false) (hb : beyondB d = false) : Made d ep (bldP d ep) := by
  obtain ⟨g1, g2, g3, g4⟩ := great_no hg
  rcases hk with hk | ⟨hk, h0, h1⟩
  · obtain ⟨b1, b2⟩ := beyond_no hb hk
    have hB : newB d.v d.lo d.hi = true := newB_iff.2 ⟨g2, g3, b1, b2, g4⟩
    have e : ctPE d.nm d.v d.lo d.hi = 0 := by simp [ctPE, hn, newE, hB]
    have e1 : bldP d ep = ⟨d.nm, 1, ep, newC d.v d.lo d.hi, zL, []⟩ := by
      rw [bldP, if_neg (by omega), ctP, e, toldP_0, newA, if_pos hB]; rfl
    rw [e1]
    have hv : vN ⟨d.nm, 1, ep, newC d.v d.lo d.hi, zL, []⟩ = sumN (valL (newC d.v d.lo d.hi)) := (view_1 (f := Pf.fd ⟨d.nm, 1, ep, newC d.v d.lo d.hi, zL, []⟩ none 0) rfl).1
    have hve : vE ⟨d.nm, 1, ep, newC d.v d.lo d.hi, zL, []⟩ = sumE (valL (newC d.v d.lo d.hi)) := (view_1 (f := Pf.fd ⟨d.nm, 1, ep, newC d.v d.lo d.hi, zL, []⟩ none 0) rfl).2
    refine ⟨right_mk hn hep (.inl ⟨rfl, new_right hB, (by decide : rightsL [] = true), rfl⟩), rfl, hk.symm, rfl, rfl, hv.trans (new_val hB), ?_, ?_, ?_, fun _ => ?_⟩
    · have e3 : valL (newC d.v d.lo d.hi) = d.v :: zer 32 := by kernel_rfl
      have s : sumFrom 0 (d.v :: zer 32) = some d.v := by
        rw [sumFrom, if_pos (okB_iff.2 ⟨isB_zero, g1, by rw [Int.zero_add]; exact g1⟩), Int.zero_add]
        exact sumFrom_zer 32 d.v g1
      rw [hve, e3]
      exact (sumN_some s).2
    · show (newC d.v d.lo d.hi).getD 1 0 = d.lo
      rw [newC_get]; rfl
    · show (newC d.v d.lo d.hi).getD 2 0 = d.hi
      rw [newC_get]; rfl
    · show (newC d.v d.lo d.hi).getD 0 0 = d.v
      rw [newC_get]; rfl
  · have e : newEK 0 d.v = 0 := by simp [newEK, repBK_0, g1]
    have e0 : lkPE d.nm 0 d.v = 0 := by rw [lkPE, if_pos hn, e]
    have e1 : bldP d ep = ⟨d.nm, 2, ep, zer 579, ⟨0, 0, 0, d.v⟩, []⟩ := by
      rw [bldP, if_pos hk, lkP, e0, toldP_0, (new_zero e).2.2]; rfl
    rw [e1]
    have hl : rightL ⟨0, 0, 0, d.v⟩ = true := rightL_iff.2 (by have := isB_iff.1 g1; exact ⟨Int.le_refl 0, (by decide : (0:Int) ≤ 1099511627776), Int.le_refl 0, (by decide : (0:Int) ≤ 1099511627776), Int.le_refl 0, (by decide : (0:Int) ≤ 15), this.1, this.2⟩)
    have hv := view_2 (f := Pf.fd ⟨d.nm, 2, ep, zer 579, ⟨0, 0, 0, d.v⟩, []⟩ none 0) rfl
    refine ⟨right_mk hn hep (.inr ⟨rfl, hl, rfl, rfl⟩), rfl, hk.symm, rfl, rfl, hv.1, hv.2, ?_, ?_, fun h => by omega⟩
    · rw [h0]; exact zer_getP _ _
    · rw [h1]; exact zer_getP _ _
/-! ### Sums. -/
/-! ### Epochs. -/
theorem ep_from : ∀ (ps : List Pf) (a : Int), a ≤ ps.foldl (fun a p => max a p.e) a ∧ ∀ x ∈ ps, x.e ≤ ps.foldl (fun a p => max a p.e) a
  | [], a => ⟨Int.le_refl _, by simp⟩
  | p :: ps, a => by
    obtain ⟨h1, h2⟩ := ep_from ps (max a p.e)
    rw [List.foldl_cons]
    refine ⟨by omega, fun x hx => ?_⟩
    rcases List.mem_cons.1 hx with rfl | hx
    · omega
    · exact h2 x hx
theorem ep_0 (ps : List Pf) : 0 ≤ epP ps := (ep_from ps 0).1
theorem ep_le {ps : List Pf} {x : Pf} (hx : x ∈ ps) : x.e ≤ epP ps := (ep_from ps 0).2 x hx
/-! ### What is applied. -/
structure Goes (ps : List Pf) (p : Pl) : Prop where
  fit : Fit ps p
  err : errP (aboutP ps p) = 0
  add : addE (epP (aboutP ps p)) 1 = 0
  great : (draftsP p ((aboutP ps p).map spanP)).any greatB = false
  beyond : (draftsP p ((aboutP ps p).map spanP)).any beyondB = false
theorem goes_mk {ps : List Pf} {p : Pl} (h : Goes ps p) : mkE (aboutP ps p) p = 0 := by
  unfold mkE
  rw [if_neg (by rw [h.err]; simp), if_neg (by rw [h.add]; simp), h.great, h.beyond]; rfl
theorem fit_mk {ps : List Pf} {p : Pl} (h : Fit ps p) : fitE ps p = 0 := by
  rw [fitE, if_neg (by rw [h.fs]; simp), if_neg (by rw [h.pl]; simp), if_neg (by rw [h.at_]; simp), if_neg (by rw [h.kinds]; simp), if_neg (by rw [h.free]; simp)]
theorem app_mk {ps : List Pf} {p : Pl} (h : Goes ps p) : appE ps p = 0 := by
  rw [appE, if_neg (by rw [fit_mk h.fit]; simp), goes_mk h]
theorem Pf.c3 {p : Pf} {A : Option Addr} {c : Nat} (h : p.full) : (p.fd A c).cells[3]? = some (.int .i64 (inP p)) := Fd.cI (f := p.fd A c) h (j := 0) (by omega)
def dsP (ps : List Pf) (p : Pl) : List Dr := draftsP p ((aboutP ps p).map spanP)
def neP (ps : List Pf) (p : Pl) : Int := epP (aboutP ps p) + 1
theorem goes_ep {ps : List Pf} {p : Pl} (h : Goes ps p) : addN (epP (aboutP ps p)) 1 = neP ps p ∧ epB (neP ps p) = true ∧ 1 ≤ neP ps p ∧ ∀ x ∈ aboutP ps p, x.e < neP ps p := by
  have ha := h.add
  unfold addE at ha
  split at ha
  · rename_i hk
    refine ⟨by rw [addN, if_pos hk]; rfl, ?_, ?_, ?_⟩
    · have := (okB_iff.1 hk).2.2
      have h0 := ep_0 (aboutP ps p)
      simp only [epB, Bool.and_eq_true, decide_eq_true_eq]
      exact ⟨by unfold neP; omega, this⟩
    · have h0 := ep_0 (aboutP ps p)
      unfold neP; omega
    · intro x hx
      have := ep_le hx
      unfold neP; omega
  · cases ha
theorem goes_L {ps : List Pf} {p : Pl} (h : Goes ps p) : mkL (aboutP ps p) p = (dsP ps p).map fun d => bldP d (neP ps p) := by
  rw [mkL, if_pos (goes_mk h), (goes_ep h).1]; rfl
/-- The names of what is made, and its kinds. -/
theorem ds_nm {ps : List Pf} {p : Pl} (hp : planB p = true) {d : Dr} (hd : d ∈ dsP ps p) : nameB d.nm = true ∧ touchB p d.nm = true ∧ (d.k = 1 ∨ (d.k = 2 ∧ d.lo = 0 ∧ d.hi = 0)) := by
  obtain ⟨hk, h1, _, _, hr⟩ := plan_parts hp
  have t1 : touchB p p.nm = true := by rw [touchB, eqS_self]; rfl
  unfold dsP draftsP at hd
  simp only at hd
  have two : ∀ {d' : Dr}, d = d' → d'.nm = p.nm → (d'.k = 1 ∨ (d'.k = 2 ∧ d'.lo = 0 ∧ d'.hi = 0)) → nameB d.nm = true ∧ touchB p d.nm = true ∧ (d.k = 1 ∨ (d.k = 2 ∧ d.lo = 0 ∧ d.hi = 0)) := by
    rintro d' rfl e hk; rw [e]; exact ⟨h1, t1, hk⟩
  split at hd
  · exact two (List.mem_singleton.1 hd) rfl (.inl rfl)
  · split at hd
    · exact two (List.mem_singleton.1 hd) rfl (.inl rfl)
    · split at hd
      · exact two (List.mem_singleton.1 hd) rfl (.inr ⟨rfl, rfl, rfl⟩)
      · split at hd
        · exact two (List.mem_singleton.1 hd) rfl (.inl rfl)
        · split at hd
          · rename_i h5
            rcases List.mem_cons.1 hd with hd | hd
            · exact two hd rfl (.inl rfl)
            · have hd := List.mem_singleton.1 hd
              rcases rule_ot hr with ⟨h6, _⟩ | ⟨_, h7, h8⟩
              · omega
              · subst hd
                refine ⟨h7, ?_, .inl rfl⟩
                show touchB p p.ot = true
                rw [touchB, name_ne h7, eqS_self]; simp
          · exact two (List.mem_singleton.1 hd) rfl (.inl rfl)
theorem goes_made {ps : List Pf} {p : Pl} (h : Goes ps p) {d : Dr} (hd : d ∈ dsP ps p) : Made d (neP ps p) (bldP d (neP ps p)) := by
  obtain ⟨h1, _, h3⟩ := ds_nm h.fit.pl hd
  exact made_is h1 (goes_ep h).2.1 h3 (by simpa using List.any_eq_false.1 h.great d hd) (by simpa using List.any_eq_false.1 h.beyond d hd)
theorem ds_ne {ps : List Pf} {p : Pl} (hp : planB p = true) : (dsP ps p).Pairwise fun a b => a.nm ≠ b.nm := by
  obtain ⟨hk, h1, _, _, hr⟩ := plan_parts hp
  unfold dsP draftsP
  simp only
  split
  · exact List.pairwise_singleton _ _
  · split
    · exact List.pairwise_singleton _ _
    · split
      · exact List.pairwise_singleton _ _
      · split
        · exact List.pairwise_singleton _ _
        · split
          · rcases rule_ot hr with ⟨h6, _⟩ | ⟨_, h7, h8⟩
            · omega
            · rw [List.pairwise_pair]; exact fun e => h8 e.symm
          · exact List.pairwise_singleton _ _
theorem rest_sub {ps : List Pf} {p : Pl} {x : Pf} (h : x ∈ restP ps p) : x ∈ ps ∧ touchB p x.nm = false := by
  simpa [restP] using h
/-- What is applied: fields that may be, in order. -/
theorem app_mem {ps xs : List Pf} {p : Pl} (h : Goes ps p) (ha : Applied ps p xs) {x : Pf} : x ∈ xs ↔ (∃ d ∈ dsP ps p, x = bldP d (neP ps p)) ∨ x ∈ restP ps p := by
  rw [ha.1.mem_iff, goes_L h, List.mem_append, List.mem_map]
  exact or_congr ⟨fun ⟨d, h1, h2⟩ => ⟨d, h1, h2.symm⟩, fun ⟨d, h1, h2⟩ => ⟨d, h1, h2.symm⟩⟩ Iff.rfl
theorem pw_perm {α : Type} {R : α → α → Prop} (hs : ∀ a b, R a b → R b a) {l l' : List α} (h : l.Perm l') (hp : l'.Pairwise R) : l.Pairwise R := (h.pairwise_iff fun {a b} => hs a b).2 hp
theorem app_names {ps xs : List Pf} {p : Pl} (h : Goes ps p) (ha : Applied ps p xs) : xs.Pairwise fun a b => a.nm ≠ b.nm := by
  refine pw_perm (fun a b h => h.symm) ha.1 ?_
  rw [goes_L h, List.pairwise_append]
  refine ⟨?_, ?_, ?_⟩
  · rw [List.pairwise_map]
    refine (ds_ne h.fit.pl).imp_of_mem fun {a b} ma mb hab => ?_
    rw [(goes_made h ma).nm, (goes_made h mb).nm]; exact hab
  · exact ((fields_is h.fit.fs).2.2.imp fun hab => ltS_ne hab).filter _
  · intro a hma b hb e
    obtain ⟨d, hd, rfl⟩ := List.mem_map.1 hma
    have h1 := (ds_nm h.fit.pl hd).2.1
    have h2 := (rest_sub hb).2
    rw [← e, (goes_made h hd).nm, h1] at h2; cases h2
theorem app_sorted {ps xs : List Pf} {p : Pl} (h : Goes ps p) (ha : Applied ps p xs) : xs.Pairwise fun a b => ltS a.nm b.nm = true := by
  refine ((app_names h ha).and ha.2).imp fun {a b} ⟨h1, h2⟩ => ?_
  cases h3 : ltS a.nm b.nm with
  | true => rfl
  | false => exact absurd (ltS_tri h3 h2) h1
/-- Lists in order, of the same members, are one. -/
theorem sorted_one : ∀ {a b : List Pf}, (a.Pairwise fun x y => ltS x.nm y.nm = true) → (b.Pairwise fun x y => ltS x.nm y.nm = true) → (∀ x, x ∈ a ↔ x ∈ b) → a = b
  | [], [], _, _, _ => rfl
  | [], y :: b, _, _, h => absurd ((h y).2 List.mem_cons_self) (by simp)
  | x :: a, [], _, _, h => absurd ((h x).1 List.mem_cons_self) (by simp)
  | x :: a, y :: b, ha, hb, h => by
    rw [List.pairwise_cons] at ha hb
    have irr : ∀ {s : ByteArray}, ltS s s = true → False := fun h => ltS_ne h rfl
    have e : x = y := by
      rcases List.mem_cons.1 ((h x).1 List.mem_cons_self) with h1 | h1
      · exact h1
      · rcases List.mem_cons.1 ((h y).2 List.mem_cons_self) with h2 | h2
        · exact h2.symm
        · exact (irr (ltS_trans (hb.1 x h1) (ha.1 y h2))).elim
    subst e
    congr 1
    refine sorted_one ha.2 hb.2 fun z => ⟨fun hz => ?_, fun hz => ?_⟩
    · rcases List.mem_cons.1 ((h z).1 (List.mem_cons_of_mem _ hz)) with h1 | h1
      · subst h1; exact (irr (ha.1 z hz)).elim
      · exact h1
    · rcases List.mem_cons.1 ((h z).2 (List.mem_cons_of_mem _ hz)) with h1 | h1
      · subst h1; exact (irr (hb.1 z hz)).elim
      · exact h1
/-! ### Whom a plan is about. -/

def ga : Pf := ⟨⟨#[97]⟩, 1, 0, newC 7 0 10, zL, []⟩
def pa : Pl := ⟨5, ⟨#[97]⟩, ⟨#[98]⟩, 5, 0⟩
def gd : Dr := ⟨⟨#[97]⟩, 1, 7, 0, 10⟩
def d1 : Dr := ⟨⟨#[97]⟩, 1, 5, 0, 5⟩
def d2 : Dr := ⟨⟨#[98]⟩, 1, 2, 0, 5⟩
theorem aw_n : nameB ⟨#[97]⟩ = true := by decide +kernel
theorem aw_n2 : nameB ⟨#[98]⟩ = true := by decide +kernel
theorem aw_B : newB 7 0 10 = true := by decide +kernel
theorem aw_1 : ctP ⟨#[97]⟩ 7 0 10 = ga ∧ ctPE ⟨#[97]⟩ 7 0 10 = 0 := by
  have e : ctPE ⟨#[97]⟩ 7 0 10 = 0 := by rw [ctPE, if_pos aw_n, newE, if_pos aw_B]
  exact ⟨by rw [ctP, e, toldP_0, newA, if_pos aw_B]; rfl, e⟩
theorem ga_made : Made gd 0 ga := by
  have h := made_is (d := gd) (ep := 0) aw_n (by decide) (.inl rfl) (by decide) (by decide)
  have e : bldP gd 0 = ga := by
    rw [bldP, if_neg (by decide), show ctP gd.nm gd.v gd.lo gd.hi = ga from aw_1.1]; rfl
  rwa [e] at h
theorem ga_full : ga.full := newC_length 7 0 10
theorem aw_ne : (⟨#[98]⟩ : ByteArray) ≠ ⟨#[97]⟩ := fun h => by
  injection h with h
  exact absurd h (by decide)
theorem aw_lt : ltS ⟨#[97]⟩ ⟨#[98]⟩ = true := by
  rw [ltS, Lib.toList_data, Lib.toList_data]; decide
theorem aw_eq : eqS ⟨#[98]⟩ ⟨#[97]⟩ = false := by
  rw [← Bool.not_eq_true, eqS_iff]; exact aw_ne
theorem pa_right : planB pa = true := by
  have e1 : pairB pa = true := by
    rw [pairB, show pa.ot = ⟨#[98]⟩ from rfl, show pa.nm = ⟨#[97]⟩ from rfl, aw_n2, aw_eq]; rfl
  have e2 : ruleB pa = true := by
    rw [ruleB, if_neg (by decide), if_neg (by decide), if_neg (by decide), if_pos (by decide), splitB, e1]; decide
  rw [planB, e2, show pa.nm = ⟨#[97]⟩ from rfl, aw_n]; decide
theorem aw_about : aboutP [ga] pa = [ga] := by
  rw [aboutP, List.filter_cons, if_pos (by rw [touchB, show ga.nm = pa.nm from rfl, eqS_self]; rfl)]; rfl
theorem aw_fit : Fit [ga] pa where
  fs := fields_of (by decide) (fun p hp => by rw [List.mem_singleton.1 hp]; exact ga_made.right) (List.pairwise_singleton _ _)
  pl := pa_right
  at_ := by
    have h1 : isP [ga] pa.nm = true := isP_iff.2 ⟨ga, by simp, rfl⟩
    have h2 : isP [ga] pa.ot = false := by
      rw [← Bool.not_eq_true, isP_iff]
      rintro ⟨q, hq, e⟩
      rw [List.mem_singleton.1 hq] at e
      exact aw_ne e.symm
    rw [placeE, h1, h2]; rfl
  kinds := by rw [aw_about]; rfl
  free := by rw [aw_about]; rfl
theorem ga_span : spanP ga = ⟨7, 0, 10⟩ := by
  rw [spanP, ga_made.v, ga_made.lo, ga_made.hi]; rfl
theorem aw_ds : dsP [ga] pa = [d1, d2] := by
  rw [dsP, aw_about, List.map_cons, List.map_nil, ga_span]; rfl
theorem aw_ne1 : neP [ga] pa = 1 := by rw [neP, aw_about]; rfl
theorem aw_goes : Goes [ga] pa where
  fit := aw_fit
  err := by rw [aw_about, errP, List.map_cons, List.map_nil, ga_made.ve]; rfl
  add := by rw [aw_about]; decide
  great := by
    have : (dsP [ga] pa).any greatB = false := by rw [aw_ds]; decide
    exact this
  beyond := by
    have : (dsP [ga] pa).any beyondB = false := by rw [aw_ds]; decide
    exact this
theorem aw_e : appE [ga] pa = 0 := app_mk aw_goes
theorem aw_xs {xs : List Pf} (h : Applied [ga] pa xs) : xs = [bldP d1 1, bldP d2 1] ∧ Made d1 1 (bldP d1 1) ∧ Made d2 1 (bldP d2 1) := by
  have m1 : Made d1 1 (bldP d1 1) := by
    have := goes_made aw_goes (d := d1) (by rw [aw_ds]; simp)
    rwa [aw_ne1] at this
  have m2 : Made d2 1 (bldP d2 1) := by
    have := goes_made aw_goes (d := d2) (by rw [aw_ds]; simp)
    rwa [aw_ne1] at this
  refine ⟨sorted_one (app_sorted aw_goes h) (by rw [List.pairwise_pair, m1.nm, m2.nm]; exact aw_lt) fun z => ?_, m1, m2⟩
  rw [app_mem aw_goes h, aw_ds, aw_ne1]
  constructor
  · rintro (⟨d, hd, rfl⟩ | hz)
    · rcases List.mem_cons.1 hd with rfl | hd
      · simp
      · rw [List.mem_singleton.1 hd]; simp
    · obtain ⟨h1, h2⟩ := rest_sub hz
      rw [List.mem_singleton.1 h1, touchB, show ga.nm = pa.nm from rfl, eqS_self] at h2
      cases h2
  · intro hz
    rcases List.mem_cons.1 hz with rfl | hz
    · exact .inl ⟨d1, by simp, rfl⟩
    · rw [List.mem_singleton.1 hz]; exact .inl ⟨d2, by simp, rfl⟩
theorem aw_tot : totN [bldP d1 1, bldP d2 1] = 7 ∧ totE [bldP d1 1, bldP d2 1] = 0 := by
  obtain ⟨_, m1, m2⟩ := aw_xs (xs := [bldP d1 1, bldP d2 1]) (by
    refine ⟨?_, ?_⟩
    · rw [goes_L aw_goes, aw_ds, aw_ne1, restP, List.filter_cons, if_neg (by rw [touchB, show ga.nm = pa.nm from rfl, eqS_self]; simp)]
      exact List.Perm.refl _
    · have h1 : (bldP d1 1).nm = ⟨#[97]⟩ := by rfl
      have h2 : (bldP d2 1).nm = ⟨#[98]⟩ := by rfl
      rw [List.pairwise_pair, h1, h2]
      exact ltS_asym aw_lt)
  have e : errP [bldP d1 1, bldP d2 1] = 0 := by
    rw [errP, List.map_cons, List.map_cons, List.map_nil, m1.ve, m2.ve]; rfl
  rw [totN, totE, if_pos e, if_pos e, List.map_cons, List.map_cons, List.map_nil, m1.v, m2.v]
  exact ⟨by decide, by decide⟩
theorem fr_one {u : World} {b : Nat} {p : Pf} {A : Option Addr} {c : Nat} (h : Cel u b 43 (p.fd A c).cells) (hp : p.full) (hr : Row u A p.hs.length p.hs) : FR u (some ⟨b, 0, none⟩) 1 [(p, A, c)] := by
  refine ⟨rfl, fun x hx => by rw [List.mem_singleton.1 hx]; exact ⟨hp, hr⟩, .inr ⟨b, 0, rfl, fun i x hx => ?_⟩⟩
  cases i with
  | zero =>
    have e : (p, A, c) = x := by simpa using hx
    subst e
    exact h.range Pf.all
  | succ i => simp at hx
theorem pa_ok : PlOk pa := ⟨by decide, by decide, by decide⟩
theorem awc (w : World) : Calls Tryz.prog 28 #[.string ⟨#[97]⟩, .int .i64 7, .int .i64 0, .int .i64 10] w fun e w' => e = .returned (.tuple #[.agg (ga.fd none 0).cells.toArray, .int .i64 0]) ∧ Below w.heap.size w w' := by
  have := fcounter_any ⟨#[97]⟩ (by decide) 7 0 10 w
  rwa [aw_1.1, aw_1.2] at this
/-- What is split: two fields. -/
theorem awa (b : Nat) (w : World) (h : Cel w b 43 (ga.fd none 0).cells) : Calls Tryz.prog 20 #[.slice (some ⟨b, 0, none⟩) 1 1, .agg pa.cells.toArray] w fun e u => ∃ (A : Option Addr) (c b' off : Nat) (xs : List Q), e = .returned (.tuple #[.slice A 2 c, .int .i64 0]) ∧ Below w.heap.size w u ∧ FR u A 2 xs ∧ (∀ k, (Th.fr A 2 xs).foot k → w.heap.size ≤ k) ∧ pfs xs = [bldP d1 1, bldP d2 1] ∧ A = some ⟨b', off, none⟩ ∧ u.cell? ⟨b', off + 3, none⟩ = some (.int .i64 5) ∧ u.cell? ⟨b', off + 590, none⟩ = some (.int .i64 2) ∧ u.cell? ⟨b', off + 592, none⟩ = some (.int .i64 5) := by
  refine (apply_any pa pa_ok (some ⟨b, 0, none⟩) 1 1 [(ga, none, 0)] (by decide) (by decide) (fun x hx => by rw [List.mem_singleton.1 hx]; decide) w (fr_one h ga_full (Row.nil _ _))).mono ?_
  rintro e u ⟨v, xs, rfl, ho, hap, _⟩
  have e0 : appE (pfs [(ga, none, 0)]) pa = 0 := aw_e
  rw [e0]
  obtain ⟨hxs, m1, m2⟩ := aw_xs (hap e0)
  obtain ⟨A, c, rfl, hfr, hnew⟩ := ho.fr
  have hl : xs.length = 2 := by rw [← pfs_len, hxs]; rfl
  rw [hl] at hfr hnew ⊢
  obtain ⟨b', off, hA, hr⟩ := hfr.base (by decide)
  obtain ⟨x0, hx0⟩ := hfr.get (i := 0) (by decide)
  obtain ⟨x1, hx1⟩ := hfr.get (i := 1) (by decide)
  have y0 : x0.1 = bldP d1 1 := by have := pfs_at hx0; rw [hxs] at this; simpa using this.symm
  have y1 : x1.1 = bldP d2 1 := by have := pfs_at hx1; rw [hxs] at this; simpa using this.symm
  refine ⟨A, c, b', off, xs, rfl, ho.bel, hfr, hnew, hxs, hA, ?_, ?_, ?_⟩
  · have := hr 0 x0 hx0 3 _ (Pf.c3 (hfr.full hx0))
    rw [y0, show inP (bldP d1 1) = 5 from m1.init rfl] at this
    simpa using this
  · have := hr 1 x1 hx1 3 _ (Pf.c3 (hfr.full hx1))
    rw [y1, show inP (bldP d2 1) = 2 from m2.init rfl] at this
    simpa [Nat.add_assoc] using this
  · have := hr 1 x1 hx1 5 _ (Pf.c5 (hfr.full hx1))
    rw [y1, show hiP (bldP d2 1) = 5 from m2.hi] at this
    simpa [Nat.add_assoc] using this
theorem awt (A : Option Addr) (c : Nat) (xs : List Q) (hx : pfs xs = [bldP d1 1, bldP d2 1]) (w : World) (hd : FR w A 2 xs) : Calls Tryz.prog 10 #[.slice A 2 c] w fun e w' => e = .returned (.tuple #[.int .i64 7, .int .i64 0]) ∧ Below w.heap.size w w' := by
  have h := total_any A 2 c xs (by decide) (fun x hm => ?_) w hd
  · rwa [hx, aw_tot.1, aw_tot.2] at h
  · have hm : x.1 ∈ pfs xs := List.mem_map.2 ⟨x, hm, rfl⟩
    rw [hx] at hm
    rcases List.mem_cons.1 hm with e | hm
    · rw [e]; exact right_ok (made_is (d := d1) (ep := 1) aw_n (by decide) (.inl rfl) (by decide) (by decide)).right
    · rw [List.mem_singleton.1 hm]; exact right_ok (made_is (d := d2) (ep := 1) aw_n2 (by decide) (.inl rfl) (by decide) (by decide)).right
set_option maxHeartbeats 4000000 in
theorem awake_any (w : World) : Calls Tryz.prog 9 #[] w fun e w' => e = .returned (.bool true) ∧ Below w.heap.size w w' := by
  have HK := Lib.hid (Kg.start w)
  go_enter Tryz.func9, Tryz.ntmps9
  go_wp2_with (first
    | (go_at_call 28; (with_reducible refine (awc _).mono ?_); rintro e u ⟨rfl, hb⟩; have hk := HK.out.call hb; clear hb; clear HK; have HK := Lib.hid hk; clear hk)
    | ((with_reducible refine alloc_k HK.out f_zeroP rfl rfl ?_); intro b4 u hk; clear HK; have HK := Lib.hid hk; clear hk)
    | ((with_reducible refine store_kr HK.out 0 (Pf.infoF ga_full) (Fd.one _) rfl rfl _ _ rfl rfl rfl rfl (Fd.leP zP_full ga_full) (Fd.setAllP zP_full ga_full) ?_); intro u hk; simp only [List.set_cons_zero] at hk; clear HK; have HK := Lib.hid hk; clear hk)
    | (with_reducible refine load_kr HK.out 0 Tryz.underlying43 rfl (Pf.infoF ga_full) _ rfl rfl rfl rfl Pf.all ?_)
    | ((with_reducible refine buildF_k HK.out rfl _ rfl (Pf.len ga_full) rfl ?_); intro b5 u hk; clear HK; have HK := Lib.hid hk; clear hk)
    | (go_at_call 20; (refine (awa b5 _ (HK.out.celAt 0 rfl)).mono ?_); rintro e u ⟨A, c, b', off, xs, rfl, hb, hfr, hnew, hxs, rfl, hc0, hc1, hc2⟩; have hk := (HK.out.frMade hb hfr hnew); have HXS := Lib.hid hxs; have H0 := Lib.hid hc0; have H1 := Lib.hid hc1; have H2 := Lib.hid hc2; have HKA := Lib.hid hk; clear hb hfr hnew hxs hc0 hc1 hc2; clear HK; have HK := Lib.hid hk; clear hk)
    | (go_at_call 10; (with_reducible refine (awt _ _ _ HXS.out _ (HK.out.fr 0 rfl)).mono ?_); rintro e u ⟨rfl, hb⟩; have hk := HK.out.call hb; have H3 := Lib.hid ((hb.cell (cell_lt H0.out)).trans H0.out); have H4 := Lib.hid ((hb.cell (cell_lt H1.out)).trans H1.out); have H5 := Lib.hid ((hb.cell (cell_lt H2.out)).trans H2.out); clear hb; clear HK; have HK := Lib.hid hk; clear hk)
    | (with_reducible refine load_kt ckI _ rfl (H3.out) rfl rfl ?_)
    | (with_reducible refine load_kt ckI _ rfl (H4.out) rfl rfl ?_)
    | (with_reducible refine load_kt ckI _ rfl (H5.out) rfl rfl ?_))
  go_ret
  exact ⟨rfl, HK.out.mf.bel⟩

end Go.Proofs.YtgblnlpfgdbnnaaGreat
