/- Slices of fields in memory: rows that are read, and rows of the call's own; what the operations on kept things do.; Plain facts of what a plan makes.; What is applied, and copied, as slices that are read; the field of a name.; A split, and a merge of both parts; plans that are made. -/
import Derived.Test.YtgblnlpfgdbnnaaGreatZ08
import Derived.Test.YtgblnlpfgdbnnaaGreatZ40
namespace Go.Proofs.YtgblnlpfgdbnnaaGreat
set_option maxRecDepth 100000
open Go.ChangeShapes Go.WideShapes Go.ChangeAt Go.RowKit

/-! ### Slices of fields that are read. -/

/-! ### What the operations on kept things do. -/
section
variable {w u : World} {F : Nat → Prop} {own ro : List Th}
theorem results_k2 {fn : Func} {p q : Tmp} {ty : TypeId} {d : TypeDesc} {cs : List Value} (h : fn.results = #[.cell p ty, .tmp q]) (hu : Tryz.prog.underlying ty = some d) (hd : d.isRow = true) (hs : (Tryz.prog.info? ty).map (·.size) = some cs.length) (tmps : Array Value) (hk : Kg w F own ro u) (i : Nat) {b : Nat} (v : Value)
    (hi : own[i]? = some (Th.cel b ty cs)) (hp : tmps.getD p undef = .pointer (some ⟨b, 0, none⟩)) (hq : tmps.getD q undef = v) : (results fn tmps).run Tryz.prog u = .ok (.tuple #[.agg cs.toArray, v]) u := by
  have hp' : tmps[p]?.getD undef = .pointer (some ⟨b, 0, none⟩) := by simpa using hp
  have hq' : tmps[q]?.getD undef = v := by simpa using hq
  have hr := run_loadVar_row (P := Tryz.prog) u b _ ty _ (0, 0) _ (hk.celAt i hi) hu (by cases d <;> simp_all) (by rw [List.size_toArray]; exact hs)
  simp [results, h, hp', hq', asAddr, hr]
end

/-! ### Sums. -/
theorem sumS_lo (ps : List Pf) : (sumS (ps.map spanP)).lo = (ps.map loP).sum := by
  rw [sumS_f (fun s => s.lo) (fun _ _ => rfl) rfl, List.map_map]; rfl
theorem sumS_hi (ps : List Pf) : (sumS (ps.map spanP)).hi = (ps.map hiP).sum := by
  rw [sumS_f (fun s => s.hi) (fun _ _ => rfl) rfl, List.map_map]; rfl
/-! ### Epochs. -/
/-! ### What is applied. -/
/-! ### Whom a plan is about. -/
theorem sum_two {ps : List Pf} {x y : Pf} (f : Pf → Int) (ho : ps.Pairwise fun a b => ltS a.nm b.nm = true) (h : ∀ z, z ∈ ps ↔ z = x ∨ z = y) (hxy : x.nm ≠ y.nm) : (ps.map f).sum = f x + f y ∧ ps.length = 2 := by
  have h3 : ltS x.nm y.nm = true ∨ ltS y.nm x.nm = true := by
    cases g1 : ltS x.nm y.nm with
    | true => exact .inl rfl
    | false =>
      cases g2 : ltS y.nm x.nm with
      | true => exact .inr rfl
      | false => exact absurd (ltS_tri g1 g2) hxy
  rcases h3 with h1 | h1
  · have e : ps = [x, y] := sorted_one ho (by rw [List.pairwise_pair]; exact h1) fun z => by rw [h]; simp
    subst e; exact ⟨by simp, rfl⟩
  · have e : ps = [y, x] := sorted_one ho (by rw [List.pairwise_pair]; exact h1) fun z => by rw [h]; simp [or_comm]
    subst e
    refine ⟨?_, rfl⟩
    simp only [List.map_cons, List.map_nil, List.sum_cons, List.sum_nil]; omega
theorem about_two {ps : List Pf} {p : Pl} (h : Fit ps p) (hk : p.k = 6) {x y : Pf} (hx : x ∈ ps) (hn : x.nm = p.nm) (hy : y ∈ ps) (hm : y.nm = p.ot) : (∀ z, z ∈ aboutP ps p ↔ z = x ∨ z = y) ∧ x.nm ≠ y.nm ∧ (aboutP ps p).Pairwise fun a b => ltS a.nm b.nm = true := by
  obtain ⟨_, _, hord⟩ := fields_is h.fs
  rcases rule_ot (plan_parts h.pl).2.2.2.2 with ⟨h4, _⟩ | ⟨_, h4, h5⟩
  · omega
  · refine ⟨fun z => ⟨fun hz => ?_, fun hz => ?_⟩, by rw [hn, hm]; exact fun e => h5 e.symm, hord.filter _⟩
    · obtain ⟨h1, h2⟩ := about_sub hz
      simp only [touchB, Bool.or_eq_true, Bool.and_eq_true, Bool.not_eq_true'] at h2
      rcases h2 with h2 | ⟨_, h2⟩
      · exact .inl (nm_inj hord h1 hx ((eqS_iff.1 h2).trans hn.symm))
      · exact .inr (nm_inj hord h1 hy ((eqS_iff.1 h2).trans hm.symm))
    · rw [aboutP, List.mem_filter]
      rcases hz with rfl | rfl
      · exact ⟨hx, by rw [touchB, hn, eqS_self]; rfl⟩
      · exact ⟨hy, by rw [touchB, hm, eqS_self, name_ne h4]; simp⟩
/-- The field of a name. -/
theorem app_nm {ps xs : List Pf} {p : Pl} (h : Goes ps p) (ha : Applied ps p xs) {d : Dr} (hd : d ∈ dsP ps p) : isP xs d.nm = true ∧ xs[findP xs d.nm]? = some (bldP d (neP ps p)) := by
  have h1 : bldP d (neP ps p) ∈ xs := (app_mem h ha).2 (.inl ⟨d, hd, rfl⟩)
  have h2 := (goes_made h hd).nm
  have h3 : isP xs d.nm = true := isP_iff.2 ⟨_, h1, h2⟩
  exact ⟨h3, find_in h3 (app_sorted h ha) h1 h2⟩

set_option maxHeartbeats 2000000 in
theorem one_hit (A : Option Addr) (n c : Nat) (qs : List Q) (s : ByteArray) (hn : n ≤ 1000) (k : Nat) (q : Q) (hb : ∀ (j : Nat) (y : Q), j < k → qs[j]? = some y → eqS y.1.nm s = false) (hq : qs[k]? = some q) (hqs : eqS q.1.nm s = true) (w : World) (hd : FR w A n qs) :
    Calls Tryz.prog 23 #[.slice A n c, .string s] w fun e w' => e = .returned (.tuple #[.agg (q.1.fd q.2.1 q.2.2).cells.toArray, .bool true]) ∧ Below w.heap.size w w' := by
  have HD := Lib.hid hd
  have HK := Lib.hid (Kg.start w)
  have HB := Lib.hid hb; have HQ := Lib.hid hq; have HS := Lib.hid hqs
  have hk0 : k < n := by have := (List.getElem?_eq_some_iff.1 hq).1; have := hd.1; omega
  obtain ⟨b, off, rfl⟩ := hd.ptr hq
  clear hb hq hqs hd
  have T1 := True.intro
  go_enter Tryz.func23, Tryz.ntmps23
  go_wp2_with (first
    | (clear T1; (with_reducible refine alloc_k HK.out f_zeroP rfl rfl ?_); intro b3 u hk; clear HK; have HK := Lib.hid hk; clear hk))
  go_loopw [10] (fun i wr => ∃ m : Nat, m ≤ k ∧ i = .int .i64 m ∧ Kg w (fun _ => False) [Th.cel b3 43 (zP.fd none 0).cells] [] wr) (fun i _ => n - (intOf i).toNat)
  case atStart => exact ⟨0, by omega, rfl, HK.out⟩
  case round =>
    obtain ⟨m, hm, rfl, hk⟩ := hrel
    clear HK; have HK := Lib.hid hk; clear hk
    have hlt : m < n := by omega
    obtain ⟨x, hx⟩ := HD.out.get hlt
    have HF := Lib.hid (HD.out.full hx)
    have HR := Lib.hid (HD.out.rng hx)
    have i1 : (0 : Int) ≤ (m : Int) := by omega
    have i2 : (m : Int) < (n : Int) := by omega
    by_cases hmk : m = k
    · obtain rfl : q = x := by
        have := HQ.out
        rw [← hmk, hx] at this
        injection this with this
        exact this.symm
      have G : (q.1.nm.toList == s.toList) = true := HS.out
      clear hx hmk
      go_wp2_with (first
        | (with_reducible refine load_kg Tryz.underlying43 rfl (Pf.infoF HF.out) _ rfl (rng_below HR.out HK.out.mf.bel) rfl rfl ?_)
        | ((with_reducible refine alloc_k HK.out f_zeroP rfl rfl ?_); intro b4 u hk; clear HK; have HK := Lib.hid hk; clear hk)
        | ((refine store_kr HK.out 0 (Pf.infoF HF.out) (Fd.one _) rfl rfl _ _ rfl rfl rfl rfl (Fd.leP zP_full HF.out) (Fd.setAllP zP_full HF.out) ?_); intro u hk; simp only [List.set_cons_zero] at hk; clear HK; have HK := Lib.hid hk; clear hk)
        | (with_reducible refine load_k1 HK.out 0 ckS _ rfl rfl rfl rfl Pf.cn ?_)
        | (with_reducible refine load_kr HK.out 0 Tryz.underlying43 rfl (Pf.infoF HF.out) _ rfl rfl rfl rfl Pf.all ?_)
        | ((refine store_kr HK.out 1 (Pf.infoF HF.out) (Fd.one _) rfl rfl _ _ rfl rfl rfl rfl (Fd.leP zP_full HF.out) (Fd.setAllP zP_full HF.out) ?_); intro u hk; simp only [List.set_cons_zero, List.set_cons_succ] at hk; clear HK; have HK := Lib.hid hk; clear hk))
      refine bodyPost_ret (results_k2 rfl Tryz.underlying43 rfl (Pf.infoF HF.out) _ HK.out 1 _ rfl rfl rfl) rfl ?_
      exact ⟨rfl, HK.out.mf.bel⟩
    · have G : (x.1.nm.toList == s.toList) = false := HB.out m x (by omega) hx
      have hmk' : m < k := by omega
      clear hx hmk
      go_wp2_with (first
        | (with_reducible refine load_kg Tryz.underlying43 rfl (Pf.infoF HF.out) _ rfl (rng_below HR.out HK.out.mf.bel) rfl rfl ?_)
        | ((with_reducible refine alloc_k HK.out f_zeroP rfl rfl ?_); intro b4 u hk; clear HK; have HK := Lib.hid hk; clear hk)
        | ((refine store_kr HK.out 0 (Pf.infoF HF.out) (Fd.one _) rfl rfl _ _ rfl rfl rfl rfl (Fd.leP zP_full HF.out) (Fd.setAllP zP_full HF.out) ?_); intro u hk; simp only [List.set_cons_zero] at hk; clear HK; have HK := Lib.hid hk; clear hk)
        | (with_reducible refine load_k1 HK.out 0 ckS _ rfl rfl rfl rfl Pf.cn ?_)
        | (with_reducible refine load_kr HK.out 0 Tryz.underlying43 rfl (Pf.infoF HF.out) _ rfl rfl rfl rfl Pf.all ?_)
        | ((refine store_kr HK.out 1 (Pf.infoF HF.out) (Fd.one _) rfl rfl _ _ rfl rfl rfl rfl (Fd.leP zP_full HF.out) (Fd.setAllP zP_full HF.out) ?_); intro u hk; simp only [List.set_cons_zero, List.set_cons_succ] at hk; clear HK; have HK := Lib.hid hk; clear hk))
      go_roundw
      case rel => exact ⟨m + 1, by omega, by go_num, HK.out.tail⟩
      case measure => simp [intOf]; omega
/-- The field of a name, in order. -/
theorem one_any (A : Option Addr) (n c : Nat) (qs : List Q) (s : ByteArray) (hn : n ≤ 1000) (q : Q) (hi : isP (pfs qs) s = true) (hq : qs[findP (pfs qs) s]? = some q) (w : World) (hd : FR w A n qs) :
    Calls Tryz.prog 23 #[.slice A n c, .string s] w fun e w' => e = .returned (.tuple #[.agg (q.1.fd q.2.1 q.2.2).cells.toArray, .bool true]) ∧ Below w.heap.size w w' := by
  obtain ⟨y, hy, e, _⟩ := isP_at hi
  have hy' := pfs_at hq
  rw [hy'] at hy
  injection hy with hy
  subst hy
  refine one_hit A n c qs s hn _ q (fun j y hj hy => ?_) hq e w hd
  have h1 := List.not_of_lt_findIdx (p := fun p : Pf => eqS p.nm s) (xs := pfs qs) (i := j) hj
  have h2 := pfs_at hy
  obtain ⟨h3, h4⟩ := List.getElem?_eq_some_iff.1 h2
  rw [h4] at h1
  simpa using h1

theorem Pl.one {p : Pl} : p.cells.toArray.all (·.oneCell') = true := by simp [Pl.cells, Value.oneCell']
theorem Pl.le {p q : Pl} : 0 + q.cells.length ≤ p.cells.length := Nat.le_refl 5
theorem Pl.put {p q : Pl} : spl p.cells 0 q.cells = q.cells := rfl
theorem ds_split {ps : List Pf} {p : Pl} (h : Fit ps p) (hk : p.k = 5) {x : Pf} (hx : x ∈ ps) (hn : x.nm = p.nm) : dsP ps p = [⟨p.nm, 1, vN x - max 0 (vN x - (hiP x - p.a)), loP x, hiP x - p.a⟩, ⟨p.ot, 1, max 0 (vN x - (hiP x - p.a)), 0, p.a⟩] := by
  rw [dsP, about_one h (by omega) hx hn]
  unfold draftsP
  simp only
  rw [if_neg (by omega), if_neg (by omega), if_neg (by omega), if_neg (by omega), if_pos hk]
  rfl
theorem ds_merge {ps : List Pf} {p : Pl} (hk : p.k = 6) : dsP ps p = [⟨p.nm, 1, (sumS ((aboutP ps p).map spanP)).v, (sumS ((aboutP ps p).map spanP)).lo, (sumS ((aboutP ps p).map spanP)).hi⟩] := by
  unfold dsP draftsP
  simp only
  rw [if_neg (by omega), if_neg (by omega), if_neg (by omega), if_neg (by omega), if_neg (by omega)]

end Go.Proofs.YtgblnlpfgdbnnaaGreat
