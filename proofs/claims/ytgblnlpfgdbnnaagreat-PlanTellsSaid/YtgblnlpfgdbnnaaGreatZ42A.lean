/- The document's Fits. -/
import Derived.Test.YtgblnlpfgdbnnaaGreatZ02
import Derived.Test.YtgblnlpfgdbnnaaGreatZ12
import Derived.Test.YtgblnlpfgdbnnaaGreatZ27A
import Derived.Test.YtgblnlpfgdbnnaaGreatZ41A
namespace Go.Proofs.YtgblnlpfgdbnnaaGreat
set_option maxRecDepth 100000
open Go.ChangeShapes Go.WideShapes Go.ChangeAt Go.RowKit

theorem rheld_any (p : Pf) (hp : p.full) (A : Option Addr) (c : Nat) (r : Bool) (hr : heldP p = r) (w : World) (hd : Row w A p.hs.length p.hs) : Calls Tryz.prog 49 #[.agg (p.fd A c).cells.toArray] w fun e w' => e = .returned (.bool r) ∧ Below w.heap.size w w' := by
  have HK := Lib.hid (Kg.start w)
  have HF := Lib.hid hp
  have HD := Lib.hid hd
  have HRR := Lib.hid hr
  have HLN := Lib.hid hd.2.1
  clear hp hd hr
  go_enter Tryz.func49, Tryz.ntmps49
  go_wp2_with (first
    | ((with_reducible refine box_k (cs := (p.fd A c).cells) HK.out rfl _ rfl rfl ?_); intro b1 u hk; clear HK; have HK := Lib.hid hk; clear hk))
  go_loopw [3] (fun i wr => ∃ m : Nat, m ≤ p.hs.length ∧ i = .int .i64 m ∧ (∀ j x, j < m → p.hs[j]? = some x → (x.s == 1) = false) ∧ Kg w (fun _ => False) [Th.cel b1 43 (p.fd A c).cells] [] wr) (fun i _ => p.hs.length - (intOf i).toNat)
  case atStart => exact ⟨0, by omega, rfl, fun j x hj => by omega, HK.out⟩
  case round =>
    obtain ⟨m, hm, rfl, hq, hk⟩ := hrel
    have HQ := Lib.hid hq; clear hq
    clear HK; have HK := Lib.hid hk; clear hk
    have i3 : p.hs.length ≤ 1000 := HLN.out
    by_cases hlt : m < p.hs.length
    · obtain ⟨b, off, rfl, hr⟩ := HD.out.at hlt
      obtain ⟨x, hx⟩ : ∃ x, p.hs[m]? = some x := ⟨_, List.getElem?_eq_getElem hlt⟩
      have HX := Lib.hid hx
      have HM := Lib.hid hlt
      have hr := hr m hlt
      rw [show p.hs.getD m z5 = x by rw [List.getD, hx]; rfl] at hr
      have HR := Lib.hid (show w.cell? ⟨b, off + m * 5 + 4, none⟩ = some (.int .i64 x.s) from hr 4 _ rfl)
      have i1 : (0 : Int) ≤ (m : Int) := by omega
      have i2 : (m : Int) < (p.hs.length : Int) := by omega
      clear hr hx
      cases ht : (x.s == 1) with
      | true =>
        have HT := Lib.hid (show r = true by rw [← HRR.out]; exact any_hit (P := fun x : Ho => x.s == 1) HX.out ht)
        go_wp2_with (first
          | (with_reducible refine load_k1 HK.out 0 ckH _ rfl rfl rfl rfl (Pf.cH HF.out) ?_)
          | (with_reducible refine load_kt ckI _ rfl ((HK.out.mf.bel.cell (cell_lt HR.out)).trans HR.out) rfl rfl ?_))
        go_ret
        exact ⟨by rw [HT.out]; rfl, HK.out.mf.bel⟩
      | false =>
        have HT := Lib.hid ht
        go_wp2_with (first
          | (with_reducible refine load_k1 HK.out 0 ckH _ rfl rfl rfl rfl (Pf.cH HF.out) ?_)
          | (with_reducible refine load_kt ckI _ rfl ((HK.out.mf.bel.cell (cell_lt HR.out)).trans HR.out) rfl rfl ?_))
        go_roundw
        case rel => exact ⟨m + 1, by have := HM.out; omega, by go_num, fun j y hj hy => by
          rcases Nat.lt_or_ge j m with h3 | h3
          · exact HQ.out j y h3 hy
          · obtain rfl : m = j := by omega
            rw [HX.out] at hy
            injection hy with hy
            rw [← hy]; exact HT.out, HK.out⟩
        case measure => have := HM.out; simp [intOf]; omega
    · have HT := Lib.hid (show r = false by rw [← HRR.out]; exact any_noneQ (l := p.hs) (P := fun x : Ho => x.s == 1) fun j x hj => HQ.out j x (by omega))
      go_wp2_with (first
        | (with_reducible refine load_k1 HK.out 0 ckH _ rfl rfl rfl rfl (Pf.cH HF.out) ?_))
      go_ret
      exact ⟨by rw [HT.out]; rfl, HK.out.mf.bel⟩
/-- Which fields a plan is about: the one of its name, and, of Merge, the other one. -/
theorem about_any {ps : List Pf} {p : Pl} (hf : fieldsB ps = true) (hp : planB p = true) (h0 : placeE ps p = 0) {x : Pf} (hx : ps[findP ps p.nm]? = some x) {y : Pf} (hy : p.k = 6 → ps[findP ps p.ot]? = some y) (P : Pf → Bool) : (aboutP ps p).any P = (P x || ((p.k == 6) && P y)) := by
  obtain ⟨h1, h2, h3⟩ := place_is h0
  obtain ⟨x', hx', ex, _⟩ := isP_at h1
  rw [hx] at hx'
  injection hx' with hx'
  subst hx'
  have hxn : x.nm = p.nm := eqS_iff.1 ex
  have hxm := List.mem_of_getElem? hx
  have hord := (fields_is hf).2.2
  rw [Bool.eq_iff_iff, List.any_eq_true]
  simp only [Bool.or_eq_true, Bool.and_eq_true, beq_iff_eq]
  constructor
  · rintro ⟨z, hz, hPz⟩
    obtain ⟨hzm, hzt⟩ := about_sub hz
    simp only [touchB, Bool.or_eq_true, Bool.and_eq_true, Bool.not_eq_true'] at hzt
    rcases hzt with hzt | ⟨hzo, hzt⟩
    · have := nm_inj hord hzm hxm ((eqS_iff.1 hzt).trans hxn.symm)
      subst this
      exact .inl hPz
    · have ezo := eqS_iff.1 hzt
      rcases rule_ot (plan_parts hp).2.2.2.2 with ⟨_, h5⟩ | ⟨h5, _, _⟩
      · rw [h5] at hzo; cases hzo
      · rcases h5 with h5 | h5
        · have := (h3 h5).1
          rw [isP_iff.2 ⟨z, hzm, ezo⟩] at this; cases this
        · refine .inr ⟨h5, ?_⟩
          obtain ⟨y', hy', ey, _⟩ := isP_at (h2 h5)
          rw [hy h5] at hy'
          injection hy' with hy'
          subst hy'
          have := nm_inj hord hzm (List.mem_of_getElem? (hy h5)) (ezo.trans (eqS_iff.1 ey).symm)
          subst this
          exact hPz
  · rintro (hPx | ⟨h6, hPy⟩)
    · refine ⟨x, ?_, hPx⟩
      rw [aboutP, List.mem_filter]
      exact ⟨hxm, by rw [touchB, hxn, eqS_self]; rfl⟩
    · obtain ⟨y', hy', ey, _⟩ := isP_at (h2 h6)
      rw [hy h6] at hy'
      injection hy' with hy'
      subst hy'
      refine ⟨y, ?_, hPy⟩
      rw [aboutP, List.mem_filter]
      refine ⟨List.mem_of_getElem? (hy h6), ?_⟩
      have hn : noS p.ot = false := by
        rcases rule_ot (plan_parts hp).2.2.2.2 with ⟨h5, _⟩ | ⟨_, h5, _⟩
        · omega
        · exact name_ne h5
      rw [touchB, hn, eqS_iff.1 ey, eqS_self]; simp
set_option maxHeartbeats 8000000 in
theorem rfits_any (p : Pl) (hP : PlOk p) (A : Option Addr) (n c : Nat) (qs : List Q) (hn : n ≤ 1000) (hN : Fits1000 qs) (w : World) (hd : FR w A n qs) :
    Calls Tryz.prog 19 #[.slice A n c, .agg p.cells.toArray] w fun e w' => e = .returned (.int .i64 (fitE (pfs qs) p)) ∧ Below w.heap.size w w' := by
  have HK := Lib.hid (Kg.start w)
  have HPL := Lib.hid (show (pfs qs).length = n by rw [pfs_len]; exact hd.1)
  have HD := Lib.hid hd; clear hd
  have hfd := fun w h => rfields_any A n c qs hn hN w h
  have hpr := fun w => rpright_any p hP.nm hP.ot w
  cases h1 : fieldsB (pfs qs) with
  | false =>
    rw [h1] at hfd
    have HT := Lib.hid (show fitE (pfs qs) p = 1 by simp [fitE, h1])
    
    go_enter Tryz.func19, Tryz.ntmps19
    go_wp2_with (first
      | ((with_reducible refine box_k (cs := p.cells) HK.out rfl _ rfl rfl ?_); intro bp u hk; clear HK; have HK := Lib.hid hk; clear hk)
      | (with_reducible refine load_kr (xs := p.cells) HK.out 0 Tryz.underlying24 rfl p_info _ rfl rfl rfl rfl Pl.all ?_)
      | (with_reducible refine load_k1 HK.out 0 ckI _ rfl rfl rfl rfl Pl.c0 ?_)
      | (with_reducible refine load_k1 HK.out 0 ckS _ rfl rfl rfl rfl Pl.c1 ?_)
      | (with_reducible refine load_k1 HK.out 0 ckS _ rfl rfl rfl rfl Pl.c2 ?_)
      | (go_at_call 15; (with_reducible refine (hfd _ (HD.out.below HK.out.mf.bel)).mono ?_); rintro e u ⟨rfl, hb⟩; have hk := HK.out.call hb; clear hb; clear HK; have HK := Lib.hid hk; clear hk)
      | (go_at_call 17; (with_reducible refine (hpr _).mono ?_); rintro e u ⟨rfl, hb⟩; have hk := HK.out.call hb; clear hb; clear HK; have HK := Lib.hid hk; clear hk)
      | (go_at_call 48; (with_reducible refine (hat1 _ (HD.out.below HK.out.mf.bel)).mono ?_); rintro e u ⟨rfl, hb⟩; have hk := HK.out.call hb; clear hb; clear HK; have HK := Lib.hid hk; clear hk)
      | (go_at_call 48; (with_reducible refine (hat2 _ (HD.out.below HK.out.mf.bel)).mono ?_); rintro e u ⟨rfl, hb⟩; have hk := HK.out.call hb; clear hb; clear HK; have HK := Lib.hid hk; clear hk))
    go_ret
    exact ⟨by rw [HT.out]; rfl, HK.out.mf.bel⟩
  | true =>
    rw [h1] at hfd
    cases h2 : planB p with
    | false =>
      rw [h2] at hpr
      have HT := Lib.hid (show fitE (pfs qs) p = 14 by simp [fitE, h1, h2])
      
      go_enter Tryz.func19, Tryz.ntmps19
      go_wp2_with (first
        | ((with_reducible refine box_k (cs := p.cells) HK.out rfl _ rfl rfl ?_); intro bp u hk; clear HK; have HK := Lib.hid hk; clear hk)
        | (with_reducible refine load_kr (xs := p.cells) HK.out 0 Tryz.underlying24 rfl p_info _ rfl rfl rfl rfl Pl.all ?_)
        | (with_reducible refine load_k1 HK.out 0 ckI _ rfl rfl rfl rfl Pl.c0 ?_)
        | (with_reducible refine load_k1 HK.out 0 ckS _ rfl rfl rfl rfl Pl.c1 ?_)
        | (with_reducible refine load_k1 HK.out 0 ckS _ rfl rfl rfl rfl Pl.c2 ?_)
        | (go_at_call 15; (with_reducible refine (hfd _ (HD.out.below HK.out.mf.bel)).mono ?_); rintro e u ⟨rfl, hb⟩; have hk := HK.out.call hb; clear hb; clear HK; have HK := Lib.hid hk; clear hk)
        | (go_at_call 17; (with_reducible refine (hpr _).mono ?_); rintro e u ⟨rfl, hb⟩; have hk := HK.out.call hb; clear hb; clear HK; have HK := Lib.hid hk; clear hk)
        | (go_at_call 48; (with_reducible refine (hat1 _ (HD.out.below HK.out.mf.bel)).mono ?_); rintro e u ⟨rfl, hb⟩; have hk := HK.out.call hb; clear hb; clear HK; have HK := Lib.hid hk; clear hk)
        | (go_at_call 48; (with_reducible refine (hat2 _ (HD.out.below HK.out.mf.bel)).mono ?_); rintro e u ⟨rfl, hb⟩; have hk := HK.out.call hb; clear hb; clear HK; have HK := Lib.hid hk; clear hk))
      go_ret
      exact ⟨by rw [HT.out]; rfl, HK.out.mf.bel⟩
    | true =>
      rw [h2] at hpr
      have hlen : n ≤ 4 := by have := (fields_is h1).1; rw [HPL.out] at this; exact this
      cases hn1 : isP (pfs qs) p.nm with
      | false =>
        have hat1 := fun w h => at_any A n c qs p.nm hn (-1) (by rw [hn1]; rfl) w h
        obtain ⟨k2, hk2⟩ : ∃ k : Int, (if isP (pfs qs) p.ot then (findP (pfs qs) p.ot : Int) else -1) = k := ⟨_, rfl⟩
        have hat2 := fun w h => at_any A n c qs p.ot hn k2 hk2 w h
        have hpe : placeE (pfs qs) p = 10 := by simp [placeE, hn1]
        have HT := Lib.hid (show fitE (pfs qs) p = 10 by rw [fitE, if_neg (by rw [h1]; simp), if_neg (by rw [h2]; simp), if_pos (by rw [hpe]; decide), hpe])
        clear hpe hk2
        go_enter Tryz.func19, Tryz.ntmps19
        go_wp2_with (first
          | ((with_reducible refine box_k (cs := p.cells) HK.out rfl _ rfl rfl ?_); intro bp u hk; clear HK; have HK := Lib.hid hk; clear hk)
          | (with_reducible refine load_kr (xs := p.cells) HK.out 0 Tryz.underlying24 rfl p_info _ rfl rfl rfl rfl Pl.all ?_)
          | (with_reducible refine load_k1 HK.out 0 ckI _ rfl rfl rfl rfl Pl.c0 ?_)
          | (with_reducible refine load_k1 HK.out 0 ckS _ rfl rfl rfl rfl Pl.c1 ?_)
          | (with_reducible refine load_k1 HK.out 0 ckS _ rfl rfl rfl rfl Pl.c2 ?_)
          | (go_at_call 15; (with_reducible refine (hfd _ (HD.out.below HK.out.mf.bel)).mono ?_); rintro e u ⟨rfl, hb⟩; have hk := HK.out.call hb; clear hb; clear HK; have HK := Lib.hid hk; clear hk)
          | (go_at_call 17; (with_reducible refine (hpr _).mono ?_); rintro e u ⟨rfl, hb⟩; have hk := HK.out.call hb; clear hb; clear HK; have HK := Lib.hid hk; clear hk)
          | (go_at_call 48; (with_reducible refine (hat1 _ (HD.out.below HK.out.mf.bel)).mono ?_); rintro e u ⟨rfl, hb⟩; have hk := HK.out.call hb; clear hb; clear HK; have HK := Lib.hid hk; clear hk)
          | (go_at_call 48; (with_reducible refine (hat2 _ (HD.out.below HK.out.mf.bel)).mono ?_); rintro e u ⟨rfl, hb⟩; have hk := HK.out.call hb; clear hb; clear HK; have HK := Lib.hid hk; clear hk))
        go_ret
        exact ⟨by rw [HT.out]; rfl, HK.out.mf.bel⟩
      | true =>
        obtain ⟨x0, hx0, _, hlt1⟩ := isP_at hn1
        obtain ⟨m1, hm1⟩ : ∃ m, findP (pfs qs) p.nm = m := ⟨_, rfl⟩
        rw [hm1] at hx0 hlt1
        rw [HPL.out] at hlt1
        obtain ⟨x, hx⟩ := HD.out.get hlt1
        have hxx : (pfs qs)[findP (pfs qs) p.nm]? = some x.1 := by rw [hm1]; exact pfs_at hx
        obtain ⟨b, off, eA, hr⟩ := HD.out.base (by omega)
        subst eA
        have HF := Lib.hid (HD.out.full hx)
        have HR := Lib.hid (hr m1 x hx)
        have HRW := Lib.hid (HD.out.row hx)
        have hat1 := fun w h => at_any (some ⟨b, off, none⟩) n c qs p.nm hn (m1 : Int) (by rw [hn1, hm1]; rfl) w h
        have i1 : (0 : Int) ≤ (m1 : Int) := by omega
        have i2 : (m1 : Int) < (n : Int) := by omega
        have i3 : decide ((m1 : Int) < 0) = false := by rw [decide_eq_false_iff_not]; omega
        cases h6 : (p.k == 6) with
        | true =>
          have h6' : p.k = 6 := by simpa using h6
          have h4 : (p.k == 4) = false := by simp [h6']
          have h5 : (p.k == 5) = false := by simp [h6']
          have HC := Lib.hid (show chgP p.k = 1 by rw [h6']; rfl)
          cases hn2 : isP (pfs qs) p.ot with
          | false =>
            have hat2 := fun w h => at_any (some ⟨b, off, none⟩) n c qs p.ot hn (-1) (by rw [hn2]; rfl) w h
            have hpe : placeE (pfs qs) p = 10 := by simp [placeE, hn2, h6]
            clear h6'
            have HT := Lib.hid (show fitE (pfs qs) p = 10 by rw [fitE, if_neg (by rw [h1]; simp), if_neg (by rw [h2]; simp), if_pos (by rw [hpe]; decide), hpe])
            clear hpe
            go_enter Tryz.func19, Tryz.ntmps19
            go_wp2_with (first
              | ((with_reducible refine box_k (cs := p.cells) HK.out rfl _ rfl rfl ?_); intro bp u hk; clear HK; have HK := Lib.hid hk; clear hk)
              | (with_reducible refine load_kr (xs := p.cells) HK.out 0 Tryz.underlying24 rfl p_info _ rfl rfl rfl rfl Pl.all ?_)
              | (with_reducible refine load_k1 HK.out 0 ckI _ rfl rfl rfl rfl Pl.c0 ?_)
              | (with_reducible refine load_k1 HK.out 0 ckS _ rfl rfl rfl rfl Pl.c1 ?_)
              | (with_reducible refine load_k1 HK.out 0 ckS _ rfl rfl rfl rfl Pl.c2 ?_)
              | (go_at_call 15; (with_reducible refine (hfd _ (HD.out.below HK.out.mf.bel)).mono ?_); rintro e u ⟨rfl, hb⟩; have hk := HK.out.call hb; clear hb; clear HK; have HK := Lib.hid hk; clear hk)
              | (go_at_call 17; (with_reducible refine (hpr _).mono ?_); rintro e u ⟨rfl, hb⟩; have hk := HK.out.call hb; clear hb; clear HK; have HK := Lib.hid hk; clear hk)
              | (go_at_call 48; (with_reducible refine (hat1 _ (HD.out.below HK.out.mf.bel)).mono ?_); rintro e u ⟨rfl, hb⟩; have hk := HK.out.call hb; clear hb; clear HK; have HK := Lib.hid hk; clear hk)
              | (go_at_call 48; (with_reducible refine (hat2 _ (HD.out.below HK.out.mf.bel)).mono ?_); rintro e u ⟨rfl, hb⟩; have hk := HK.out.call hb; clear hb; clear HK; have HK := Lib.hid hk; clear hk))
            go_ret
            exact ⟨by rw [HT.out]; rfl, HK.out.mf.bel⟩
          | true =>
            obtain ⟨y0, hy0, _, hlt2⟩ := isP_at hn2
            obtain ⟨m2, hm2⟩ : ∃ m, findP (pfs qs) p.ot = m := ⟨_, rfl⟩
            rw [hm2] at hy0 hlt2
            rw [HPL.out] at hlt2
            obtain ⟨y, hy⟩ := HD.out.get hlt2
            have hyy : (pfs qs)[findP (pfs qs) p.ot]? = some y.1 := by rw [hm2]; exact pfs_at hy
            have HG := Lib.hid (HD.out.full hy)
            have HY := Lib.hid (hr m2 y hy)
            have HYW := Lib.hid (HD.out.row hy)
            have hat2 := fun w h => at_any (some ⟨b, off, none⟩) n c qs p.ot hn (m2 : Int) (by rw [hn2, hm2]; rfl) w h
            have j1 : (0 : Int) ≤ (m2 : Int) := by omega
            have j2 : (m2 : Int) < (n : Int) := by omega
            have j3 : decide ((m2 : Int) < 0) = false := by rw [decide_eq_false_iff_not]; omega
            have hpe : placeE (pfs qs) p = 0 := by simp [placeE, hn1, hn2, h6, h5]
            have hanyW := about_any h1 h2 hpe hxx (y := y.1) (fun _ => hyy) (fun x : Pf => x.k != chgP p.k)
            have hanyH := about_any h1 h2 hpe hxx (y := y.1) (fun _ => hyy) heldP
            clear hr hx hxx hm1 hx0 hlt1 hy hyy hm2 hy0 hlt2 h6'
            cases hw : (x.1.k != 1) with
            | true =>
              have HT := Lib.hid (show fitE (pfs qs) p = 17 by rw [fitE, if_neg (by rw [h1]; simp), if_neg (by rw [h2]; simp), if_neg (fun h => h hpe), if_pos (by rw [hanyW, HC.out]; simp [hw])])
              clear hanyW hanyH
              go_enter Tryz.func19, Tryz.ntmps19
              go_wp2_with (first
                | ((with_reducible refine box_k (cs := p.cells) HK.out rfl _ rfl rfl ?_); intro bp u hk; clear HK; have HK := Lib.hid hk; clear hk)
                | (with_reducible refine load_kr (xs := p.cells) HK.out 0 Tryz.underlying24 rfl p_info _ rfl rfl rfl rfl Pl.all ?_)
                | (with_reducible refine load_k1 HK.out 0 ckI _ rfl rfl rfl rfl Pl.c0 ?_)
                | (with_reducible refine load_k1 HK.out 0 ckS _ rfl rfl rfl rfl Pl.c1 ?_)
                | (with_reducible refine load_k1 HK.out 0 ckS _ rfl rfl rfl rfl Pl.c2 ?_)
                | (go_at_call 15; (with_reducible refine (hfd _ (HD.out.below HK.out.mf.bel)).mono ?_); rintro e u ⟨rfl, hb⟩; have hk := HK.out.call hb; clear hb; clear HK; have HK := Lib.hid hk; clear hk)
                | (go_at_call 17; (with_reducible refine (hpr _).mono ?_); rintro e u ⟨rfl, hb⟩; have hk := HK.out.call hb; clear hb; clear HK; have HK := Lib.hid hk; clear hk)
                | (go_at_call 48; (with_reducible refine (hat1 _ (HD.out.below HK.out.mf.bel)).mono ?_); rintro e u ⟨rfl, hb⟩; have hk := HK.out.call hb; clear hb; clear HK; have HK := Lib.hid hk; clear hk)
                | (go_at_call 48; (with_reducible refine (hat2 _ (HD.out.below HK.out.mf.bel)).mono ?_); rintro e u ⟨rfl, hb⟩; have hk := HK.out.call hb; clear hb; clear HK; have HK := Lib.hid hk; clear hk)
                | (with_reducible refine load_kt ckI _ rfl ((HK.out.mf.bel.cell (cell_lt (rng1 HR.out))).trans (rng1 HR.out)) rfl rfl ?_)
                | (with_reducible refine load_kg Tryz.underlying43 rfl (Pf.infoF HF.out) _ rfl (rng_below HR.out HK.out.mf.bel) rfl rfl ?_)
                | (go_at_call 49; (with_reducible refine (hh1 _ (HRW.out.below HK.out.mf.bel (Nat.le_refl _))).mono ?_); rintro e u ⟨rfl, hb⟩; have hk := HK.out.call hb; clear hb; clear HK; have HK := Lib.hid hk; clear hk)
                | (with_reducible refine load_kt ckI _ rfl ((HK.out.mf.bel.cell (cell_lt (rng1 HY.out))).trans (rng1 HY.out)) rfl rfl ?_)
                | (with_reducible refine load_kg Tryz.underlying43 rfl (Pf.infoF HG.out) _ rfl (rng_below HY.out HK.out.mf.bel) rfl rfl ?_)
                | (go_at_call 49; (with_reducible refine (hh2 _ (HYW.out.below HK.out.mf.bel (Nat.le_refl _))).mono ?_); rintro e u ⟨rfl, hb⟩; have hk := HK.out.call hb; clear hb; clear HK; have HK := Lib.hid hk; clear hk))
              go_ret
              exact ⟨by rw [HT.out]; rfl, HK.out.mf.bel⟩
            | false =>
              cases hw2 : (y.1.k != 1) with
              | true =>
                have HT := Lib.hid (show fitE (pfs qs) p = 17 by rw [fitE, if_neg (by rw [h1]; simp), if_neg (by rw [h2]; simp), if_neg (fun h => h hpe), if_pos (by rw [hanyW, HC.out]; simp [hw2, h6])])
                clear hanyW hanyH
                go_enter Tryz.func19, Tryz.ntmps19
                go_wp2_with (first
                  | ((with_reducible refine box_k (cs := p.cells) HK.out rfl _ rfl rfl ?_); intro bp u hk; clear HK; have HK := Lib.hid hk; clear hk)
                  | (with_reducible refine load_kr (xs := p.cells) HK.out 0 Tryz.underlying24 rfl p_info _ rfl rfl rfl rfl Pl.all ?_)
                  | (with_reducible refine load_k1 HK.out 0 ckI _ rfl rfl rfl rfl Pl.c0 ?_)
                  | (with_reducible refine load_k1 HK.out 0 ckS _ rfl rfl rfl rfl Pl.c1 ?_)
                  | (with_reducible refine load_k1 HK.out 0 ckS _ rfl rfl rfl rfl Pl.c2 ?_)
                  | (go_at_call 15; (with_reducible refine (hfd _ (HD.out.below HK.out.mf.bel)).mono ?_); rintro e u ⟨rfl, hb⟩; have hk := HK.out.call hb; clear hb; clear HK; have HK := Lib.hid hk; clear hk)
                  | (go_at_call 17; (with_reducible refine (hpr _).mono ?_); rintro e u ⟨rfl, hb⟩; have hk := HK.out.call hb; clear hb; clear HK; have HK := Lib.hid hk; clear hk)
                  | (go_at_call 48; (with_reducible refine (hat1 _ (HD.out.below HK.out.mf.bel)).mono ?_); rintro e u ⟨rfl, hb⟩; have hk := HK.out.call hb; clear hb; clear HK; have HK := Lib.hid hk; clear hk)
                  | (go_at_call 48; (with_reducible refine (hat2 _ (HD.out.below HK.out.mf.bel)).mono ?_); rintro e u ⟨rfl, hb⟩; have hk := HK.out.call hb; clear hb; clear HK; have HK := Lib.hid hk; clear hk)
                  | (with_reducible refine load_kt ckI _ rfl ((HK.out.mf.bel.cell (cell_lt (rng1 HR.out))).trans (rng1 HR.out)) rfl rfl ?_)
                  | (with_reducible refine load_kg Tryz.underlying43 rfl (Pf.infoF HF.out) _ rfl (rng_below HR.out HK.out.mf.bel) rfl rfl ?_)
                  | (go_at_call 49; (with_reducible refine (hh1 _ (HRW.out.below HK.out.mf.bel (Nat.le_refl _))).mono ?_); rintro e u ⟨rfl, hb⟩; have hk := HK.out.call hb; clear hb; clear HK; have HK := Lib.hid hk; clear hk)
                  | (with_reducible refine load_kt ckI _ rfl ((HK.out.mf.bel.cell (cell_lt (rng1 HY.out))).trans (rng1 HY.out)) rfl rfl ?_)
                  | (with_reducible refine load_kg Tryz.underlying43 rfl (Pf.infoF HG.out) _ rfl (rng_below HY.out HK.out.mf.bel) rfl rfl ?_)
                  | (go_at_call 49; (with_reducible refine (hh2 _ (HYW.out.below HK.out.mf.bel (Nat.le_refl _))).mono ?_); rintro e u ⟨rfl, hb⟩; have hk := HK.out.call hb; clear hb; clear HK; have HK := Lib.hid hk; clear hk))
                go_ret
                exact ⟨by rw [HT.out]; rfl, HK.out.mf.bel⟩
              | false =>
                cases hh : heldP x.1 with
                | true =>
                  have hh1 := fun w h => rheld_any x.1 HF.out x.2.1 x.2.2 true hh w h
                  have HT := Lib.hid (show fitE (pfs qs) p = 12 by rw [fitE, if_neg (by rw [h1]; simp), if_neg (by rw [h2]; simp), if_neg (fun h => h hpe), if_neg (by rw [hanyW, HC.out]; simp [hw, hw2]), if_pos (by rw [hanyH]; simp [hh])])
                  clear hanyW hanyH
                  go_enter Tryz.func19, Tryz.ntmps19
                  go_wp2_with (first
                    | ((with_reducible refine box_k (cs := p.cells) HK.out rfl _ rfl rfl ?_); intro bp u hk; clear HK; have HK := Lib.hid hk; clear hk)
                    | (with_reducible refine load_kr (xs := p.cells) HK.out 0 Tryz.underlying24 rfl p_info _ rfl rfl rfl rfl Pl.all ?_)
                    | (with_reducible refine load_k1 HK.out 0 ckI _ rfl rfl rfl rfl Pl.c0 ?_)
                    | (with_reducible refine load_k1 HK.out 0 ckS _ rfl rfl rfl rfl Pl.c1 ?_)
                    | (with_reducible refine load_k1 HK.out 0 ckS _ rfl rfl rfl rfl Pl.c2 ?_)
                    | (go_at_call 15; (with_reducible refine (hfd _ (HD.out.below HK.out.mf.bel)).mono ?_); rintro e u ⟨rfl, hb⟩; have hk := HK.out.call hb; clear hb; clear HK; have HK := Lib.hid hk; clear hk)
                    | (go_at_call 17; (with_reducible refine (hpr _).mono ?_); rintro e u ⟨rfl, hb⟩; have hk := HK.out.call hb; clear hb; clear HK; have HK := Lib.hid hk; clear hk)
                    | (go_at_call 48; (with_reducible refine (hat1 _ (HD.out.below HK.out.mf.bel)).mono ?_); rintro e u ⟨rfl, hb⟩; have hk := HK.out.call hb; clear hb; clear HK; have HK := Lib.hid hk; clear hk)
                    | (go_at_call 48; (with_reducible refine (hat2 _ (HD.out.below HK.out.mf.bel)).mono ?_); rintro e u ⟨rfl, hb⟩; have hk := HK.out.call hb; clear hb; clear HK; have HK := Lib.hid hk; clear hk)
                    | (with_reducible refine load_kt ckI _ rfl ((HK.out.mf.bel.cell (cell_lt (rng1 HR.out))).trans (rng1 HR.out)) rfl rfl ?_)
                    | (with_reducible refine load_kg Tryz.underlying43 rfl (Pf.infoF HF.out) _ rfl (rng_below HR.out HK.out.mf.bel) rfl rfl ?_)
                    | (go_at_call 49; (with_reducible refine (hh1 _ (HRW.out.below HK.out.mf.bel (Nat.le_refl _))).mono ?_); rintro e u ⟨rfl, hb⟩; have hk := HK.out.call hb; clear hb; clear HK; have HK := Lib.hid hk; clear hk)
                    | (with_reducible refine load_kt ckI _ rfl ((HK.out.mf.bel.cell (cell_lt (rng1 HY.out))).trans (rng1 HY.out)) rfl rfl ?_)
                    | (with_reducible refine load_kg Tryz.underlying43 rfl (Pf.infoF HG.out) _ rfl (rng_below HY.out HK.out.mf.bel) rfl rfl ?_)
                    | (go_at_call 49; (with_reducible refine (hh2 _ (HYW.out.below HK.out.mf.bel (Nat.le_refl _))).mono ?_); rintro e u ⟨rfl, hb⟩; have hk := HK.out.call hb; clear hb; clear HK; have HK := Lib.hid hk; clear hk))
                  go_ret
                  exact ⟨by rw [HT.out]; rfl, HK.out.mf.bel⟩
                | false =>
                  have hh1 := fun w h => rheld_any x.1 HF.out x.2.1 x.2.2 false hh w h
                  cases hg : heldP y.1 with
                  | true =>
                    have hh2 := fun w h => rheld_any y.1 HG.out y.2.1 y.2.2 true hg w h
                    have HT := Lib.hid (show fitE (pfs qs) p = 12 by rw [fitE, if_neg (by rw [h1]; simp), if_neg (by rw [h2]; simp), if_neg (fun h => h hpe), if_neg (by rw [hanyW, HC.out]; simp [hw, hw2]), if_pos (by rw [hanyH]; simp [hg, h6])])
                    clear hanyW hanyH
                    go_enter Tryz.func19, Tryz.ntmps19
                    go_wp2_with (first
                      | ((with_reducible refine box_k (cs := p.cells) HK.out rfl _ rfl rfl ?_); intro bp u hk; clear HK; have HK := Lib.hid hk; clear hk)
                      | (with_reducible refine load_kr (xs := p.cells) HK.out 0 Tryz.underlying24 rfl p_info _ rfl rfl rfl rfl Pl.all ?_)
                      | (with_reducible refine load_k1 HK.out 0 ckI _ rfl rfl rfl rfl Pl.c0 ?_)
                      | (with_reducible refine load_k1 HK.out 0 ckS _ rfl rfl rfl rfl Pl.c1 ?_)
                      | (with_reducible refine load_k1 HK.out 0 ckS _ rfl rfl rfl rfl Pl.c2 ?_)
                      | (go_at_call 15; (with_reducible refine (hfd _ (HD.out.below HK.out.mf.bel)).mono ?_); rintro e u ⟨rfl, hb⟩; have hk := HK.out.call hb; clear hb; clear HK; have HK := Lib.hid hk; clear hk)
                      | (go_at_call 17; (with_reducible refine (hpr _).mono ?_); rintro e u ⟨rfl, hb⟩; have hk := HK.out.call hb; clear hb; clear HK; have HK := Lib.hid hk; clear hk)
                      | (go_at_call 48; (with_reducible refine (hat1 _ (HD.out.below HK.out.mf.bel)).mono ?_); rintro e u ⟨rfl, hb⟩; have hk := HK.out.call hb; clear hb; clear HK; have HK := Lib.hid hk; clear hk)
                      | (go_at_call 48; (with_reducible refine (hat2 _ (HD.out.below HK.out.mf.bel)).mono ?_); rintro e u ⟨rfl, hb⟩; have hk := HK.out.call hb; clear hb; clear HK; have HK := Lib.hid hk; clear hk)
                      | (with_reducible refine load_kt ckI _ rfl ((HK.out.mf.bel.cell (cell_lt (rng1 HR.out))).trans (rng1 HR.out)) rfl rfl ?_)
                      | (with_reducible refine load_kg Tryz.underlying43 rfl (Pf.infoF HF.out) _ rfl (rng_below HR.out HK.out.mf.bel) rfl rfl ?_)
                      | (go_at_call 49; (with_reducible refine (hh1 _ (HRW.out.below HK.out.mf.bel (Nat.le_refl _))).mono ?_); rintro e u ⟨rfl, hb⟩; have hk := HK.out.call hb; clear hb; clear HK; have HK := Lib.hid hk; clear hk)
                      | (with_reducible refine load_kt ckI _ rfl ((HK.out.mf.bel.cell (cell_lt (rng1 HY.out))).trans (rng1 HY.out)) rfl rfl ?_)
                      | (with_reducible refine load_kg Tryz.underlying43 rfl (Pf.infoF HG.out) _ rfl (rng_below HY.out HK.out.mf.bel) rfl rfl ?_)
                      | (go_at_call 49; (with_reducible refine (hh2 _ (HYW.out.below HK.out.mf.bel (Nat.le_refl _))).mono ?_); rintro e u ⟨rfl, hb⟩; have hk := HK.out.call hb; clear hb; clear HK; have HK := Lib.hid hk; clear hk))
                    go_ret
                    exact ⟨by rw [HT.out]; rfl, HK.out.mf.bel⟩
                  | false =>
                    have hh2 := fun w h => rheld_any y.1 HG.out y.2.1 y.2.2 false hg w h
                    have HT := Lib.hid (show fitE (pfs qs) p = 0 by rw [fitE, if_neg (by rw [h1]; simp), if_neg (by rw [h2]; simp), if_neg (fun h => h hpe), if_neg (by rw [hanyW, HC.out]; simp [hw, hw2]), if_neg (by rw [hanyH]; simp [hh, hg])])
                    clear hanyW hanyH
                    go_enter Tryz.func19, Tryz.ntmps19
                    go_wp2_with (first
                      | ((with_reducible refine box_k (cs := p.cells) HK.out rfl _ rfl rfl ?_); intro bp u hk; clear HK; have HK := Lib.hid hk; clear hk)
                      | (with_reducible refine load_kr (xs := p.cells) HK.out 0 Tryz.underlying24 rfl p_info _ rfl rfl rfl rfl Pl.all ?_)
                      | (with_reducible refine load_k1 HK.out 0 ckI _ rfl rfl rfl rfl Pl.c0 ?_)
                      | (with_reducible refine load_k1 HK.out 0 ckS _ rfl rfl rfl rfl Pl.c1 ?_)
                      | (with_reducible refine load_k1 HK.out 0 ckS _ rfl rfl rfl rfl Pl.c2 ?_)
                      | (go_at_call 15; (with_reducible refine (hfd _ (HD.out.below HK.out.mf.bel)).mono ?_); rintro e u ⟨rfl, hb⟩; have hk := HK.out.call hb; clear hb; clear HK; have HK := Lib.hid hk; clear hk)
                      | (go_at_call 17; (with_reducible refine (hpr _).mono ?_); rintro e u ⟨rfl, hb⟩; have hk := HK.out.call hb; clear hb; clear HK; have HK := Lib.hid hk; clear hk)
                      | (go_at_call 48; (with_reducible refine (hat1 _ (HD.out.below HK.out.mf.bel)).mono ?_); rintro e u ⟨rfl, hb⟩; have hk := HK.out.call hb; clear hb; clear HK; have HK := Lib.hid hk; clear hk)
                      | (go_at_call 48; (with_reducible refine (hat2 _ (HD.out.below HK.out.mf.bel)).mono ?_); rintro e u ⟨rfl, hb⟩; have hk := HK.out.call hb; clear hb; clear HK; have HK := Lib.hid hk; clear hk)
                      | (with_reducible refine load_kt ckI _ rfl ((HK.out.mf.bel.cell (cell_lt (rng1 HR.out))).trans (rng1 HR.out)) rfl rfl ?_)
                      | (with_reducible refine load_kg Tryz.underlying43 rfl (Pf.infoF HF.out) _ rfl (rng_below HR.out HK.out.mf.bel) rfl rfl ?_)
                      | (go_at_call 49; (with_reducible refine (hh1 _ (HRW.out.below HK.out.mf.bel (Nat.le_refl _))).mono ?_); rintro e u ⟨rfl, hb⟩; have hk := HK.out.call hb; clear hb; clear HK; have HK := Lib.hid hk; clear hk)
                      | (with_reducible refine load_kt ckI _ rfl ((HK.out.mf.bel.cell (cell_lt (rng1 HY.out))).trans (rng1 HY.out)) rfl rfl ?_)
                      | (with_reducible refine load_kg Tryz.underlying43 rfl (Pf.infoF HG.out) _ rfl (rng_below HY.out HK.out.mf.bel) rfl rfl ?_)
                      | (go_at_call 49; (with_reducible refine (hh2 _ (HYW.out.below HK.out.mf.bel (Nat.le_refl _))).mono ?_); rintro e u ⟨rfl, hb⟩; have hk := HK.out.call hb; clear hb; clear HK; have HK := Lib.hid hk; clear hk))
                    go_ret
                    exact ⟨by rw [HT.out]; rfl, HK.out.mf.bel⟩
        | false =>
          have h6' : ¬ p.k = 6 := by simpa using h6
          cases h5 : (p.k == 5) with
          | true =>
            have h5' : p.k = 5 := by simpa using h5
            have h4 : (p.k == 4) = false := by simp [h5']
            have HC := Lib.hid (show chgP p.k = 1 by rw [h5']; rfl)
            cases hn2 : isP (pfs qs) p.ot with
            | true =>
              obtain ⟨y0, hy0, _, hlt2⟩ := isP_at hn2
              obtain ⟨m2, hm2⟩ : ∃ m, findP (pfs qs) p.ot = m := ⟨_, rfl⟩
              have hat2 := fun w h => at_any (some ⟨b, off, none⟩) n c qs p.ot hn (m2 : Int) (by rw [hn2, hm2]; rfl) w h
              have j3 : decide ((0 : Int) ≤ (m2 : Int)) = true := by rw [decide_eq_true_eq]; omega
              have hpe : placeE (pfs qs) p = 11 := by simp [placeE, hn1, hn2, h6, h5]
              clear hr hx hxx hm1 hx0 hlt1 hy0 hlt2 h6' h5' hm2
              have HT := Lib.hid (show fitE (pfs qs) p = 11 by rw [fitE, if_neg (by rw [h1]; simp), if_neg (by rw [h2]; simp), if_pos (by rw [hpe]; decide), hpe])
              clear hpe
              go_enter Tryz.func19, Tryz.ntmps19
              go_wp2_with (first
                | ((with_reducible refine box_k (cs := p.cells) HK.out rfl _ rfl rfl ?_); intro bp u hk; clear HK; have HK := Lib.hid hk; clear hk)
                | (with_reducible refine load_kr (xs := p.cells) HK.out 0 Tryz.underlying24 rfl p_info _ rfl rfl rfl rfl Pl.all ?_)
                | (with_reducible refine load_k1 HK.out 0 ckI _ rfl rfl rfl rfl Pl.c0 ?_)
                | (with_reducible refine load_k1 HK.out 0 ckS _ rfl rfl rfl rfl Pl.c1 ?_)
                | (with_reducible refine load_k1 HK.out 0 ckS _ rfl rfl rfl rfl Pl.c2 ?_)
                | (go_at_call 15; (with_reducible refine (hfd _ (HD.out.below HK.out.mf.bel)).mono ?_); rintro e u ⟨rfl, hb⟩; have hk := HK.out.call hb; clear hb; clear HK; have HK := Lib.hid hk; clear hk)
                | (go_at_call 17; (with_reducible refine (hpr _).mono ?_); rintro e u ⟨rfl, hb⟩; have hk := HK.out.call hb; clear hb; clear HK; have HK := Lib.hid hk; clear hk)
                | (go_at_call 48; (with_reducible refine (hat1 _ (HD.out.below HK.out.mf.bel)).mono ?_); rintro e u ⟨rfl, hb⟩; have hk := HK.out.call hb; clear hb; clear HK; have HK := Lib.hid hk; clear hk)
                | (go_at_call 48; (with_reducible refine (hat2 _ (HD.out.below HK.out.mf.bel)).mono ?_); rintro e u ⟨rfl, hb⟩; have hk := HK.out.call hb; clear hb; clear HK; have HK := Lib.hid hk; clear hk))
              go_ret
              exact ⟨by rw [HT.out]; rfl, HK.out.mf.bel⟩
            | false =>
              have hat2 := fun w h => at_any (some ⟨b, off, none⟩) n c qs p.ot hn (-1) (by rw [hn2]; rfl) w h
              by_cases hn4 : n = 4
              · have hpe : placeE (pfs qs) p = 7 := by simp only [placeE, hn1, hn2, h6, h5, HPL.out, hn4]; rfl
                have d4 : decide ((4 : Int) ≤ (n : Int)) = true := by rw [decide_eq_true_eq]; omega
                have d5 : 4 ≤ n := by omega
                clear hr hx hxx hm1 hx0 hlt1 h6' h5' hn4
                have HT := Lib.hid (show fitE (pfs qs) p = 7 by rw [fitE, if_neg (by rw [h1]; simp), if_neg (by rw [h2]; simp), if_pos (by rw [hpe]; decide), hpe])
                clear hpe
                go_enter Tryz.func19, Tryz.ntmps19
                go_wp2_with (first
                  | ((with_reducible refine box_k (cs := p.cells) HK.out rfl _ rfl rfl ?_); intro bp u hk; clear HK; have HK := Lib.hid hk; clear hk)
                  | (with_reducible refine load_kr (xs := p.cells) HK.out 0 Tryz.underlying24 rfl p_info _ rfl rfl rfl rfl Pl.all ?_)
                  | (with_reducible refine load_k1 HK.out 0 ckI _ rfl rfl rfl rfl Pl.c0 ?_)
                  | (with_reducible refine load_k1 HK.out 0 ckS _ rfl rfl rfl rfl Pl.c1 ?_)
                  | (with_reducible refine load_k1 HK.out 0 ckS _ rfl rfl rfl rfl Pl.c2 ?_)
                  | (go_at_call 15; (with_reducible refine (hfd _ (HD.out.below HK.out.mf.bel)).mono ?_); rintro e u ⟨rfl, hb⟩; have hk := HK.out.call hb; clear hb; clear HK; have HK := Lib.hid hk; clear hk)
                  | (go_at_call 17; (with_reducible refine (hpr _).mono ?_); rintro e u ⟨rfl, hb⟩; have hk := HK.out.call hb; clear hb; clear HK; have HK := Lib.hid hk; clear hk)
                  | (go_at_call 48; (with_reducible refine (hat1 _ (HD.out.below HK.out.mf.bel)).mono ?_); rintro e u ⟨rfl, hb⟩; have hk := HK.out.call hb; clear hb; clear HK; have HK := Lib.hid hk; clear hk)
                  | (go_at_call 48; (with_reducible refine (hat2 _ (HD.out.below HK.out.mf.bel)).mono ?_); rintro e u ⟨rfl, hb⟩; have hk := HK.out.call hb; clear hb; clear HK; have HK := Lib.hid hk; clear hk))
                go_ret
                exact ⟨by rw [HT.out]; rfl, HK.out.mf.bel⟩
              · have hpe : placeE (pfs qs) p = 0 := by simp only [placeE, hn1, hn2, h6, h5, HPL.out]; simp [hn4]
                have d4 : decide ((4 : Int) ≤ (n : Int)) = false := by rw [decide_eq_false_iff_not]; omega
                have d5 : ¬ 4 ≤ n := by omega
                have hanyW := about_any h1 h2 hpe hxx (y := x.1) (fun h => absurd h h6') (fun x : Pf => x.k != chgP p.k)
                have hanyH := about_any h1 h2 hpe hxx (y := x.1) (fun h => absurd h h6') heldP
                clear hr hx hxx hm1 hx0 hlt1 h6' h5' hn4
                cases hw : (x.1.k != 1) with
                | true =>
                  have HT := Lib.hid (show fitE (pfs qs) p = 17 by rw [fitE, if_neg (by rw [h1]; simp), if_neg (by rw [h2]; simp), if_neg (fun h => h hpe), if_pos (by rw [hanyW, HC.out]; simp [hw])])
                  clear hanyW hanyH
                  go_enter Tryz.func19, Tryz.ntmps19
                  go_wp2_with (first
                    | ((with_reducible refine box_k (cs := p.cells) HK.out rfl _ rfl rfl ?_); intro bp u hk; clear HK; have HK := Lib.hid hk; clear hk)
                    | (with_reducible refine load_kr (xs := p.cells) HK.out 0 Tryz.underlying24 rfl p_info _ rfl rfl rfl rfl Pl.all ?_)
                    | (with_reducible refine load_k1 HK.out 0 ckI _ rfl rfl rfl rfl Pl.c0 ?_)
                    | (with_reducible refine load_k1 HK.out 0 ckS _ rfl rfl rfl rfl Pl.c1 ?_)
                    | (with_reducible refine load_k1 HK.out 0 ckS _ rfl rfl rfl rfl Pl.c2 ?_)
                    | (go_at_call 15; (with_reducible refine (hfd _ (HD.out.below HK.out.mf.bel)).mono ?_); rintro e u ⟨rfl, hb⟩; have hk := HK.out.call hb; clear hb; clear HK; have HK := Lib.hid hk; clear hk)
                    | (go_at_call 17; (with_reducible refine (hpr _).mono ?_); rintro e u ⟨rfl, hb⟩; have hk := HK.out.call hb; clear hb; clear HK; have HK := Lib.hid hk; clear hk)
                    | (go_at_call 48; (with_reducible refine (hat1 _ (HD.out.below HK.out.mf.bel)).mono ?_); rintro e u ⟨rfl, hb⟩; have hk := HK.out.call hb; clear hb; clear HK; have HK := Lib.hid hk; clear hk)
                    | (go_at_call 48; (with_reducible refine (hat2 _ (HD.out.below HK.out.mf.bel)).mono ?_); rintro e u ⟨rfl, hb⟩; have hk := HK.out.call hb; clear hb; clear HK; have HK := Lib.hid hk; clear hk)
                    | (with_reducible refine load_kt ckI _ rfl ((HK.out.mf.bel.cell (cell_lt (rng1 HR.out))).trans (rng1 HR.out)) rfl rfl ?_)
                    | (with_reducible refine load_kg Tryz.underlying43 rfl (Pf.infoF HF.out) _ rfl (rng_below HR.out HK.out.mf.bel) rfl rfl ?_)
                    | (go_at_call 49; (with_reducible refine (hh1 _ (HRW.out.below HK.out.mf.bel (Nat.le_refl _))).mono ?_); rintro e u ⟨rfl, hb⟩; have hk := HK.out.call hb; clear hb; clear HK; have HK := Lib.hid hk; clear hk))
                  go_ret
                  exact ⟨by rw [HT.out]; rfl, HK.out.mf.bel⟩
                | false =>
                  cases hh : heldP x.1 with
                  | true =>
                    have hh1 := fun w h => rheld_any x.1 HF.out x.2.1 x.2.2 true hh w h
                    have HT := Lib.hid (show fitE (pfs qs) p = 12 by rw [fitE, if_neg (by rw [h1]; simp), if_neg (by rw [h2]; simp), if_neg (fun h => h hpe), if_neg (by rw [hanyW, HC.out]; simp [hw, h6]), if_pos (by rw [hanyH]; simp [hh])])
                    clear hanyW hanyH
                    go_enter Tryz.func19, Tryz.ntmps19
                    go_wp2_with (first
                      | ((with_reducible refine box_k (cs := p.cells) HK.out rfl _ rfl rfl ?_); intro bp u hk; clear HK; have HK := Lib.hid hk; clear hk)
                      | (with_reducible refine load_kr (xs := p.cells) HK.out 0 Tryz.underlying24 rfl p_info _ rfl rfl rfl rfl Pl.all ?_)
                      | (with_reducible refine load_k1 HK.out 0 ckI _ rfl rfl rfl rfl Pl.c0 ?_)
                      | (with_reducible refine load_k1 HK.out 0 ckS _ rfl rfl rfl rfl Pl.c1 ?_)
                      | (with_reducible refine load_k1 HK.out 0 ckS _ rfl rfl rfl rfl Pl.c2 ?_)
                      | (go_at_call 15; (with_reducible refine (hfd _ (HD.out.below HK.out.mf.bel)).mono ?_); rintro e u ⟨rfl, hb⟩; have hk := HK.out.call hb; clear hb; clear HK; have HK := Lib.hid hk; clear hk)
                      | (go_at_call 17; (with_reducible refine (hpr _).mono ?_); rintro e u ⟨rfl, hb⟩; have hk := HK.out.call hb; clear hb; clear HK; have HK := Lib.hid hk; clear hk)
                      | (go_at_call 48; (with_reducible refine (hat1 _ (HD.out.below HK.out.mf.bel)).mono ?_); rintro e u ⟨rfl, hb⟩; have hk := HK.out.call hb; clear hb; clear HK; have HK := Lib.hid hk; clear hk)
                      | (go_at_call 48; (with_reducible refine (hat2 _ (HD.out.below HK.out.mf.bel)).mono ?_); rintro e u ⟨rfl, hb⟩; have hk := HK.out.call hb; clear hb; clear HK; have HK := Lib.hid hk; clear hk)
                      | (with_reducible refine load_kt ckI _ rfl ((HK.out.mf.bel.cell (cell_lt (rng1 HR.out))).trans (rng1 HR.out)) rfl rfl ?_)
                      | (with_reducible refine load_kg Tryz.underlying43 rfl (Pf.infoF HF.out) _ rfl (rng_below HR.out HK.out.mf.bel) rfl rfl ?_)
                      | (go_at_call 49; (with_reducible refine (hh1 _ (HRW.out.below HK.out.mf.bel (Nat.le_refl _))).mono ?_); rintro e u ⟨rfl, hb⟩; have hk := HK.out.call hb; clear hb; clear HK; have HK := Lib.hid hk; clear hk))
                    go_ret
                    exact ⟨by rw [HT.out]; rfl, HK.out.mf.bel⟩
                  | false =>
                    have hh1 := fun w h => rheld_any x.1 HF.out x.2.1 x.2.2 false hh w h
                    have HT := Lib.hid (show fitE (pfs qs) p = 0 by rw [fitE, if_neg (by rw [h1]; simp), if_neg (by rw [h2]; simp), if_neg (fun h => h hpe), if_neg (by rw [hanyW, HC.out]; simp [hw, h6]), if_neg (by rw [hanyH]; simp [hh, h6])])
                    clear hanyW hanyH
                    go_enter Tryz.func19, Tryz.ntmps19
                    go_wp2_with (first
                      | ((with_reducible refine box_k (cs := p.cells) HK.out rfl _ rfl rfl ?_); intro bp u hk; clear HK; have HK := Lib.hid hk; clear hk)
                      | (with_reducible refine load_kr (xs := p.cells) HK.out 0 Tryz.underlying24 rfl p_info _ rfl rfl rfl rfl Pl.all ?_)
                      | (with_reducible refine load_k1 HK.out 0 ckI _ rfl rfl rfl rfl Pl.c0 ?_)
                      | (with_reducible refine load_k1 HK.out 0 ckS _ rfl rfl rfl rfl Pl.c1 ?_)
                      | (with_reducible refine load_k1 HK.out 0 ckS _ rfl rfl rfl rfl Pl.c2 ?_)
                      | (go_at_call 15; (with_reducible refine (hfd _ (HD.out.below HK.out.mf.bel)).mono ?_); rintro e u ⟨rfl, hb⟩; have hk := HK.out.call hb; clear hb; clear HK; have HK := Lib.hid hk; clear hk)
                      | (go_at_call 17; (with_reducible refine (hpr _).mono ?_); rintro e u ⟨rfl, hb⟩; have hk := HK.out.call hb; clear hb; clear HK; have HK := Lib.hid hk; clear hk)
                      | (go_at_call 48; (with_reducible refine (hat1 _ (HD.out.below HK.out.mf.bel)).mono ?_); rintro e u ⟨rfl, hb⟩; have hk := HK.out.call hb; clear hb; clear HK; have HK := Lib.hid hk; clear hk)
                      | (go_at_call 48; (with_reducible refine (hat2 _ (HD.out.below HK.out.mf.bel)).mono ?_); rintro e u ⟨rfl, hb⟩; have hk := HK.out.call hb; clear hb; clear HK; have HK := Lib.hid hk; clear hk)
                      | (with_reducible refine load_kt ckI _ rfl ((HK.out.mf.bel.cell (cell_lt (rng1 HR.out))).trans (rng1 HR.out)) rfl rfl ?_)
                      | (with_reducible refine load_kg Tryz.underlying43 rfl (Pf.infoF HF.out) _ rfl (rng_below HR.out HK.out.mf.bel) rfl rfl ?_)
                      | (go_at_call 49; (with_reducible refine (hh1 _ (HRW.out.below HK.out.mf.bel (Nat.le_refl _))).mono ?_); rintro e u ⟨rfl, hb⟩; have hk := HK.out.call hb; clear hb; clear HK; have HK := Lib.hid hk; clear hk))
                    go_ret
                    exact ⟨by rw [HT.out]; rfl, HK.out.mf.bel⟩
          | false =>
            obtain ⟨k2, hk2⟩ : ∃ k : Int, (if isP (pfs qs) p.ot then (findP (pfs qs) p.ot : Int) else -1) = k := ⟨_, rfl⟩
            have hat2 := fun w h => at_any (some ⟨b, off, none⟩) n c qs p.ot hn k2 hk2 w h
            have hpe : placeE (pfs qs) p = 0 := by simp [placeE, hn1, h6, h5]
            have hanyW := about_any h1 h2 hpe hxx (y := x.1) (fun h => absurd h h6') (fun x : Pf => x.k != chgP p.k)
            have hanyH := about_any h1 h2 hpe hxx (y := x.1) (fun h => absurd h h6') heldP
            cases h4 : (p.k == 4) with
            | true =>
              have HC := Lib.hid (show chgP p.k = 2 from if_pos (by simpa using h4))
              clear hr hx hxx hm1 hx0 hlt1 h6' hk2
              cases hw : (x.1.k != 2) with
              | true =>
                have HT := Lib.hid (show fitE (pfs qs) p = 17 by rw [fitE, if_neg (by rw [h1]; simp), if_neg (by rw [h2]; simp), if_neg (fun h => h hpe), if_pos (by rw [hanyW, HC.out]; simp [hw])])
                clear hanyW hanyH
                go_enter Tryz.func19, Tryz.ntmps19
                go_wp2_with (first
                  | ((with_reducible refine box_k (cs := p.cells) HK.out rfl _ rfl rfl ?_); intro bp u hk; clear HK; have HK := Lib.hid hk; clear hk)
                  | (with_reducible refine load_kr (xs := p.cells) HK.out 0 Tryz.underlying24 rfl p_info _ rfl rfl rfl rfl Pl.all ?_)
                  | (with_reducible refine load_k1 HK.out 0 ckI _ rfl rfl rfl rfl Pl.c0 ?_)
                  | (with_reducible refine load_k1 HK.out 0 ckS _ rfl rfl rfl rfl Pl.c1 ?_)
                  | (with_reducible refine load_k1 HK.out 0 ckS _ rfl rfl rfl rfl Pl.c2 ?_)
                  | (go_at_call 15; (with_reducible refine (hfd _ (HD.out.below HK.out.mf.bel)).mono ?_); rintro e u ⟨rfl, hb⟩; have hk := HK.out.call hb; clear hb; clear HK; have HK := Lib.hid hk; clear hk)
                  | (go_at_call 17; (with_reducible refine (hpr _).mono ?_); rintro e u ⟨rfl, hb⟩; have hk := HK.out.call hb; clear hb; clear HK; have HK := Lib.hid hk; clear hk)
                  | (go_at_call 48; (with_reducible refine (hat1 _ (HD.out.below HK.out.mf.bel)).mono ?_); rintro e u ⟨rfl, hb⟩; have hk := HK.out.call hb; clear hb; clear HK; have HK := Lib.hid hk; clear hk)
                  | (go_at_call 48; (with_reducible refine (hat2 _ (HD.out.below HK.out.mf.bel)).mono ?_); rintro e u ⟨rfl, hb⟩; have hk := HK.out.call hb; clear hb; clear HK; have HK := Lib.hid hk; clear hk)
                  | (with_reducible refine load_kt ckI _ rfl ((HK.out.mf.bel.cell (cell_lt (rng1 HR.out))).trans (rng1 HR.out)) rfl rfl ?_)
                  | (with_reducible refine load_kg Tryz.underlying43 rfl (Pf.infoF HF.out) _ rfl (rng_below HR.out HK.out.mf.bel) rfl rfl ?_)
                  | (go_at_call 49; (with_reducible refine (hh1 _ (HRW.out.below HK.out.mf.bel (Nat.le_refl _))).mono ?_); rintro e u ⟨rfl, hb⟩; have hk := HK.out.call hb; clear hb; clear HK; have HK := Lib.hid hk; clear hk))
                go_ret
                exact ⟨by rw [HT.out]; rfl, HK.out.mf.bel⟩
              | false =>
                cases hh : heldP x.1 with
                | true =>
                  have hh1 := fun w h => rheld_any x.1 HF.out x.2.1 x.2.2 true hh w h
                  have HT := Lib.hid (show fitE (pfs qs) p = 12 by rw [fitE, if_neg (by rw [h1]; simp), if_neg (by rw [h2]; simp), if_neg (fun h => h hpe), if_neg (by rw [hanyW, HC.out]; simp [hw, h6]), if_pos (by rw [hanyH]; simp [hh])])
                  clear hanyW hanyH
                  go_enter Tryz.func19, Tryz.ntmps19
                  go_wp2_with (first
                    | ((with_reducible refine box_k (cs := p.cells) HK.out rfl _ rfl rfl ?_); intro bp u hk; clear HK; have HK := Lib.hid hk; clear hk)
                    | (with_reducible refine load_kr (xs := p.cells) HK.out 0 Tryz.underlying24 rfl p_info _ rfl rfl rfl rfl Pl.all ?_)
                    | (with_reducible refine load_k1 HK.out 0 ckI _ rfl rfl rfl rfl Pl.c0 ?_)
                    | (with_reducible refine load_k1 HK.out 0 ckS _ rfl rfl rfl rfl Pl.c1 ?_)
                    | (with_reducible refine load_k1 HK.out 0 ckS _ rfl rfl rfl rfl Pl.c2 ?_)
                    | (go_at_call 15; (with_reducible refine (hfd _ (HD.out.below HK.out.mf.bel)).mono ?_); rintro e u ⟨rfl, hb⟩; have hk := HK.out.call hb; clear hb; clear HK; have HK := Lib.hid hk; clear hk)
                    | (go_at_call 17; (with_reducible refine (hpr _).mono ?_); rintro e u ⟨rfl, hb⟩; have hk := HK.out.call hb; clear hb; clear HK; have HK := Lib.hid hk; clear hk)
                    | (go_at_call 48; (with_reducible refine (hat1 _ (HD.out.below HK.out.mf.bel)).mono ?_); rintro e u ⟨rfl, hb⟩; have hk := HK.out.call hb; clear hb; clear HK; have HK := Lib.hid hk; clear hk)
                    | (go_at_call 48; (with_reducible refine (hat2 _ (HD.out.below HK.out.mf.bel)).mono ?_); rintro e u ⟨rfl, hb⟩; have hk := HK.out.call hb; clear hb; clear HK; have HK := Lib.hid hk; clear hk)
                    | (with_reducible refine load_kt ckI _ rfl ((HK.out.mf.bel.cell (cell_lt (rng1 HR.out))).trans (rng1 HR.out)) rfl rfl ?_)
                    | (with_reducible refine load_kg Tryz.underlying43 rfl (Pf.infoF HF.out) _ rfl (rng_below HR.out HK.out.mf.bel) rfl rfl ?_)
                    | (go_at_call 49; (with_reducible refine (hh1 _ (HRW.out.below HK.out.mf.bel (Nat.le_refl _))).mono ?_); rintro e u ⟨rfl, hb⟩; have hk := HK.out.call hb; clear hb; clear HK; have HK := Lib.hid hk; clear hk))
                  go_ret
                  exact ⟨by rw [HT.out]; rfl, HK.out.mf.bel⟩
                | false =>
                  have hh1 := fun w h => rheld_any x.1 HF.out x.2.1 x.2.2 false hh w h
                  have HT := Lib.hid (show fitE (pfs qs) p = 0 by rw [fitE, if_neg (by rw [h1]; simp), if_neg (by rw [h2]; simp), if_neg (fun h => h hpe), if_neg (by rw [hanyW, HC.out]; simp [hw, h6]), if_neg (by rw [hanyH]; simp [hh, h6])])
                  clear hanyW hanyH
                  go_enter Tryz.func19, Tryz.ntmps19
                  go_wp2_with (first
                    | ((with_reducible refine box_k (cs := p.cells) HK.out rfl _ rfl rfl ?_); intro bp u hk; clear HK; have HK := Lib.hid hk; clear hk)
                    | (with_reducible refine load_kr (xs := p.cells) HK.out 0 Tryz.underlying24 rfl p_info _ rfl rfl rfl rfl Pl.all ?_)
                    | (with_reducible refine load_k1 HK.out 0 ckI _ rfl rfl rfl rfl Pl.c0 ?_)
                    | (with_reducible refine load_k1 HK.out 0 ckS _ rfl rfl rfl rfl Pl.c1 ?_)
                    | (with_reducible refine load_k1 HK.out 0 ckS _ rfl rfl rfl rfl Pl.c2 ?_)
                    | (go_at_call 15; (with_reducible refine (hfd _ (HD.out.below HK.out.mf.bel)).mono ?_); rintro e u ⟨rfl, hb⟩; have hk := HK.out.call hb; clear hb; clear HK; have HK := Lib.hid hk; clear hk)
                    | (go_at_call 17; (with_reducible refine (hpr _).mono ?_); rintro e u ⟨rfl, hb⟩; have hk := HK.out.call hb; clear hb; clear HK; have HK := Lib.hid hk; clear hk)
                    | (go_at_call 48; (with_reducible refine (hat1 _ (HD.out.below HK.out.mf.bel)).mono ?_); rintro e u ⟨rfl, hb⟩; have hk := HK.out.call hb; clear hb; clear HK; have HK := Lib.hid hk; clear hk)
                    | (go_at_call 48; (with_reducible refine (hat2 _ (HD.out.below HK.out.mf.bel)).mono ?_); rintro e u ⟨rfl, hb⟩; have hk := HK.out.call hb; clear hb; clear HK; have HK := Lib.hid hk; clear hk)
                    | (with_reducible refine load_kt ckI _ rfl ((HK.out.mf.bel.cell (cell_lt (rng1 HR.out))).trans (rng1 HR.out)) rfl rfl ?_)
                    | (with_reducible refine load_kg Tryz.underlying43 rfl (Pf.infoF HF.out) _ rfl (rng_below HR.out HK.out.mf.bel) rfl rfl ?_)
                    | (go_at_call 49; (with_reducible refine (hh1 _ (HRW.out.below HK.out.mf.bel (Nat.le_refl _))).mono ?_); rintro e u ⟨rfl, hb⟩; have hk := HK.out.call hb; clear hb; clear HK; have HK := Lib.hid hk; clear hk))
                  go_ret
                  exact ⟨by rw [HT.out]; rfl, HK.out.mf.bel⟩
            | false =>
              have HC := Lib.hid (show chgP p.k = 1 from if_neg (by simpa using h4))
              clear hr hx hxx hm1 hx0 hlt1 h6' hk2
              cases hw : (x.1.k != 1) with
              | true =>
                have HT := Lib.hid (show fitE (pfs qs) p = 17 by rw [fitE, if_neg (by rw [h1]; simp), if_neg (by rw [h2]; simp), if_neg (fun h => h hpe), if_pos (by rw [hanyW, HC.out]; simp [hw])])
                clear hanyW hanyH
                go_enter Tryz.func19, Tryz.ntmps19
                go_wp2_with (first
                  | ((with_reducible refine box_k (cs := p.cells) HK.out rfl _ rfl rfl ?_); intro bp u hk; clear HK; have HK := Lib.hid hk; clear hk)
                  | (with_reducible refine load_kr (xs := p.cells) HK.out 0 Tryz.underlying24 rfl p_info _ rfl rfl rfl rfl Pl.all ?_)
                  | (with_reducible refine load_k1 HK.out 0 ckI _ rfl rfl rfl rfl Pl.c0 ?_)
                  | (with_reducible refine load_k1 HK.out 0 ckS _ rfl rfl rfl rfl Pl.c1 ?_)
                  | (with_reducible refine load_k1 HK.out 0 ckS _ rfl rfl rfl rfl Pl.c2 ?_)
                  | (go_at_call 15; (with_reducible refine (hfd _ (HD.out.below HK.out.mf.bel)).mono ?_); rintro e u ⟨rfl, hb⟩; have hk := HK.out.call hb; clear hb; clear HK; have HK := Lib.hid hk; clear hk)
                  | (go_at_call 17; (with_reducible refine (hpr _).mono ?_); rintro e u ⟨rfl, hb⟩; have hk := HK.out.call hb; clear hb; clear HK; have HK := Lib.hid hk; clear hk)
                  | (go_at_call 48; (with_reducible refine (hat1 _ (HD.out.below HK.out.mf.bel)).mono ?_); rintro e u ⟨rfl, hb⟩; have hk := HK.out.call hb; clear hb; clear HK; have HK := Lib.hid hk; clear hk)
                  | (go_at_call 48; (with_reducible refine (hat2 _ (HD.out.below HK.out.mf.bel)).mono ?_); rintro e u ⟨rfl, hb⟩; have hk := HK.out.call hb; clear hb; clear HK; have HK := Lib.hid hk; clear hk)
                  | (with_reducible refine load_kt ckI _ rfl ((HK.out.mf.bel.cell (cell_lt (rng1 HR.out))).trans (rng1 HR.out)) rfl rfl ?_)
                  | (with_reducible refine load_kg Tryz.underlying43 rfl (Pf.infoF HF.out) _ rfl (rng_below HR.out HK.out.mf.bel) rfl rfl ?_)
                  | (go_at_call 49; (with_reducible refine (hh1 _ (HRW.out.below HK.out.mf.bel (Nat.le_refl _))).mono ?_); rintro e u ⟨rfl, hb⟩; have hk := HK.out.call hb; clear hb; clear HK; have HK := Lib.hid hk; clear hk))
                go_ret
                exact ⟨by rw [HT.out]; rfl, HK.out.mf.bel⟩
              | false =>
                cases hh : heldP x.1 with
                | true =>
                  have hh1 := fun w h => rheld_any x.1 HF.out x.2.1 x.2.2 true hh w h
                  have HT := Lib.hid (show fitE (pfs qs) p = 12 by rw [fitE, if_neg (by rw [h1]; simp), if_neg (by rw [h2]; simp), if_neg (fun h => h hpe), if_neg (by rw [hanyW, HC.out]; simp [hw, h6]), if_pos (by rw [hanyH]; simp [hh])])
                  clear hanyW hanyH
                  go_enter Tryz.func19, Tryz.ntmps19
                  go_wp2_with (first
                    | ((with_reducible refine box_k (cs := p.cells) HK.out rfl _ rfl rfl ?_); intro bp u hk; clear HK; have HK := Lib.hid hk; clear hk)
                    | (with_reducible refine load_kr (xs := p.cells) HK.out 0 Tryz.underlying24 rfl p_info _ rfl rfl rfl rfl Pl.all ?_)
                    | (with_reducible refine load_k1 HK.out 0 ckI _ rfl rfl rfl rfl Pl.c0 ?_)
                    | (with_reducible refine load_k1 HK.out 0 ckS _ rfl rfl rfl rfl Pl.c1 ?_)
                    | (with_reducible refine load_k1 HK.out 0 ckS _ rfl rfl rfl rfl Pl.c2 ?_)
                    | (go_at_call 15; (with_reducible refine (hfd _ (HD.out.below HK.out.mf.bel)).mono ?_); rintro e u ⟨rfl, hb⟩; have hk := HK.out.call hb; clear hb; clear HK; have HK := Lib.hid hk; clear hk)
                    | (go_at_call 17; (with_reducible refine (hpr _).mono ?_); rintro e u ⟨rfl, hb⟩; have hk := HK.out.call hb; clear hb; clear HK; have HK := Lib.hid hk; clear hk)
                    | (go_at_call 48; (with_reducible refine (hat1 _ (HD.out.below HK.out.mf.bel)).mono ?_); rintro e u ⟨rfl, hb⟩; have hk := HK.out.call hb; clear hb; clear HK; have HK := Lib.hid hk; clear hk)
                    | (go_at_call 48; (with_reducible refine (hat2 _ (HD.out.below HK.out.mf.bel)).mono ?_); rintro e u ⟨rfl, hb⟩; have hk := HK.out.call hb; clear hb; clear HK; have HK := Lib.hid hk; clear hk)
                    | (with_reducible refine load_kt ckI _ rfl ((HK.out.mf.bel.cell (cell_lt (rng1 HR.out))).trans (rng1 HR.out)) rfl rfl ?_)
                    | (with_reducible refine load_kg Tryz.underlying43 rfl (Pf.infoF HF.out) _ rfl (rng_below HR.out HK.out.mf.bel) rfl rfl ?_)
                    | (go_at_call 49; (with_reducible refine (hh1 _ (HRW.out.below HK.out.mf.bel (Nat.le_refl _))).mono ?_); rintro e u ⟨rfl, hb⟩; have hk := HK.out.call hb; clear hb; clear HK; have HK := Lib.hid hk; clear hk))
                  go_ret
                  exact ⟨by rw [HT.out]; rfl, HK.out.mf.bel⟩
                | false =>
                  have hh1 := fun w h => rheld_any x.1 HF.out x.2.1 x.2.2 false hh w h
                  have HT := Lib.hid (show fitE (pfs qs) p = 0 by rw [fitE, if_neg (by rw [h1]; simp), if_neg (by rw [h2]; simp), if_neg (fun h => h hpe), if_neg (by rw [hanyW, HC.out]; simp [hw, h6]), if_neg (by rw [hanyH]; simp [hh, h6])])
                  clear hanyW hanyH
                  go_enter Tryz.func19, Tryz.ntmps19
                  go_wp2_with (first
                    | ((with_reducible refine box_k (cs := p.cells) HK.out rfl _ rfl rfl ?_); intro bp u hk; clear HK; have HK := Lib.hid hk; clear hk)
                    | (with_reducible refine load_kr (xs := p.cells) HK.out 0 Tryz.underlying24 rfl p_info _ rfl rfl rfl rfl Pl.all ?_)
                    | (with_reducible refine load_k1 HK.out 0 ckI _ rfl rfl rfl rfl Pl.c0 ?_)
                    | (with_reducible refine load_k1 HK.out 0 ckS _ rfl rfl rfl rfl Pl.c1 ?_)
                    | (with_reducible refine load_k1 HK.out 0 ckS _ rfl rfl rfl rfl Pl.c2 ?_)
                    | (go_at_call 15; (with_reducible refine (hfd _ (HD.out.below HK.out.mf.bel)).mono ?_); rintro e u ⟨rfl, hb⟩; have hk := HK.out.call hb; clear hb; clear HK; have HK := Lib.hid hk; clear hk)
                    | (go_at_call 17; (with_reducible refine (hpr _).mono ?_); rintro e u ⟨rfl, hb⟩; have hk := HK.out.call hb; clear hb; clear HK; have HK := Lib.hid hk; clear hk)
                    | (go_at_call 48; (with_reducible refine (hat1 _ (HD.out.below HK.out.mf.bel)).mono ?_); rintro e u ⟨rfl, hb⟩; have hk := HK.out.call hb; clear hb; clear HK; have HK := Lib.hid hk; clear hk)
                    | (go_at_call 48; (with_reducible refine (hat2 _ (HD.out.below HK.out.mf.bel)).mono ?_); rintro e u ⟨rfl, hb⟩; have hk := HK.out.call hb; clear hb; clear HK; have HK := Lib.hid hk; clear hk)
                    | (with_reducible refine load_kt ckI _ rfl ((HK.out.mf.bel.cell (cell_lt (rng1 HR.out))).trans (rng1 HR.out)) rfl rfl ?_)
                    | (with_reducible refine load_kg Tryz.underlying43 rfl (Pf.infoF HF.out) _ rfl (rng_below HR.out HK.out.mf.bel) rfl rfl ?_)
                    | (go_at_call 49; (with_reducible refine (hh1 _ (HRW.out.below HK.out.mf.bel (Nat.le_refl _))).mono ?_); rintro e u ⟨rfl, hb⟩; have hk := HK.out.call hb; clear hb; clear HK; have HK := Lib.hid hk; clear hk))
                  go_ret
                  exact ⟨by rw [HT.out]; rfl, HK.out.mf.bel⟩

end Go.Proofs.YtgblnlpfgdbnnaaGreat
