/- The document's Right of a plan. -/
import Derived.Test.YtgblnlpfgdbnnaaGreatZ14
import Derived.Test.YtgblnlpfgdbnnaaGreatZ29A
namespace Go.Proofs.YtgblnlpfgdbnnaaGreat
set_option maxRecDepth 100000
open Go.ChangeShapes Go.WideShapes Go.ChangeAt Go.RowKit

theorem shift_zero {p : Pl} (hn : noS p.ot = true) (ha : 0 ≤ p.a) (hc : ¬ 0 < p.a) (hb : 0 ≤ p.b) : shiftB p = decide (0 < p.b) := by
  have ha0 : p.a = 0 := by omega
  by_cases hz : p.b = 0
  · simp [shiftB, ha0, bareB, hz]
  · simp [shiftB, aloneB, hn, ha0, bareB, hz, show 0 < p.b by omega, hb]
set_option maxHeartbeats 4000000 in
theorem rright_early (p : Pl) (hnam : p.nm.size ≤ 1000) (hot : p.ot.size ≤ 1000) (h : ¬ (1 ≤ p.k ∧ p.k ≤ 6) ∨ nameB p.nm = false ∨ isB p.a = false ∨ isB p.b = false) (w : World) :
    Calls Tryz.prog 17 #[.agg p.cells.toArray] w fun e w' => e = .returned (.bool (planB p)) ∧ Below w.heap.size w w' := by
  have HK := Lib.hid (Kg.start w)
  have hnm := rfname_any p.nm hnam
  have hno := rfname_any p.ot hot
  have hia := fun w => ris_eq p.a _ rfl w
  have hib := fun w => ris_eq p.b _ rfl w
  clear hnam hot
  have HT := Lib.hid (show planB p = false by
    rcases h with h | h | h | h
    · have : ruleB p = false := by
        unfold ruleB
        rw [if_neg (by omega), if_neg (by omega), if_neg (by omega), if_neg (by omega), if_neg (by omega)]
      simp [planB, this]
    · simp [planB, h]
    · simp [planB, h]
    · simp [planB, h])
  cases k1 : decide (p.k < 1) with
  | true =>
    go_enter Tryz.func17, Tryz.ntmps17
    go_wp2_with (first
      | ((with_reducible refine box_k (cs := p.cells) HK.out rfl _ rfl rfl ?_); intro bp u hk; clear HK; have HK := Lib.hid hk; clear hk)
      | (with_reducible refine load_k1 HK.out 0 ckI _ rfl rfl rfl rfl Pl.c0 ?_)
      | (with_reducible refine load_k1 HK.out 0 ckS _ rfl rfl rfl rfl Pl.c1 ?_)
      | (with_reducible refine load_k1 HK.out 0 ckS _ rfl rfl rfl rfl Pl.c2 ?_)
      | (with_reducible refine load_k1 HK.out 0 ckI _ rfl rfl rfl rfl Pl.c3 ?_)
      | (with_reducible refine load_k1 HK.out 0 ckI _ rfl rfl rfl rfl Pl.c4 ?_)
      | (go_at_call 39; (with_reducible refine (hnm _).mono ?_); rintro e u ⟨rfl, hb⟩; have hk := HK.out.call hb; clear hb; clear HK; have HK := Lib.hid hk; clear hk)
      | (go_at_call 39; (with_reducible refine (hno _).mono ?_); rintro e u ⟨rfl, hb⟩; have hk := HK.out.call hb; clear hb; clear HK; have HK := Lib.hid hk; clear hk)
      | (go_at_call 40; (with_reducible refine (hia _).mono ?_); rintro e u ⟨rfl, rfl⟩)
      | (go_at_call 40; (with_reducible refine (hib _).mono ?_); rintro e u ⟨rfl, rfl⟩))
    go_ret
    exact ⟨by rw [HT.out]; first | rfl | simp, HK.out.mf.bel⟩
  | false =>
    cases k2 : decide (6 < p.k) with
    | true =>
      go_enter Tryz.func17, Tryz.ntmps17
      go_wp2_with (first
        | ((with_reducible refine box_k (cs := p.cells) HK.out rfl _ rfl rfl ?_); intro bp u hk; clear HK; have HK := Lib.hid hk; clear hk)
        | (with_reducible refine load_k1 HK.out 0 ckI _ rfl rfl rfl rfl Pl.c0 ?_)
        | (with_reducible refine load_k1 HK.out 0 ckS _ rfl rfl rfl rfl Pl.c1 ?_)
        | (with_reducible refine load_k1 HK.out 0 ckS _ rfl rfl rfl rfl Pl.c2 ?_)
        | (with_reducible refine load_k1 HK.out 0 ckI _ rfl rfl rfl rfl Pl.c3 ?_)
        | (with_reducible refine load_k1 HK.out 0 ckI _ rfl rfl rfl rfl Pl.c4 ?_)
        | (go_at_call 39; (with_reducible refine (hnm _).mono ?_); rintro e u ⟨rfl, hb⟩; have hk := HK.out.call hb; clear hb; clear HK; have HK := Lib.hid hk; clear hk)
        | (go_at_call 39; (with_reducible refine (hno _).mono ?_); rintro e u ⟨rfl, hb⟩; have hk := HK.out.call hb; clear hb; clear HK; have HK := Lib.hid hk; clear hk)
        | (go_at_call 40; (with_reducible refine (hia _).mono ?_); rintro e u ⟨rfl, rfl⟩)
        | (go_at_call 40; (with_reducible refine (hib _).mono ?_); rintro e u ⟨rfl, rfl⟩))
      go_ret
      exact ⟨by rw [HT.out]; first | rfl | simp, HK.out.mf.bel⟩
    | false =>
      have hk : 1 ≤ p.k ∧ p.k ≤ 6 := by simp at k1 k2; omega
      have h := h.resolve_left (fun h => h hk)
      clear hk
      cases h1 : nameB p.nm with
      | false =>
        rw [h1] at hnm
        clear h
        go_enter Tryz.func17, Tryz.ntmps17
        go_wp2_with (first
          | ((with_reducible refine box_k (cs := p.cells) HK.out rfl _ rfl rfl ?_); intro bp u hk; clear HK; have HK := Lib.hid hk; clear hk)
          | (with_reducible refine load_k1 HK.out 0 ckI _ rfl rfl rfl rfl Pl.c0 ?_)
          | (with_reducible refine load_k1 HK.out 0 ckS _ rfl rfl rfl rfl Pl.c1 ?_)
          | (with_reducible refine load_k1 HK.out 0 ckS _ rfl rfl rfl rfl Pl.c2 ?_)
          | (with_reducible refine load_k1 HK.out 0 ckI _ rfl rfl rfl rfl Pl.c3 ?_)
          | (with_reducible refine load_k1 HK.out 0 ckI _ rfl rfl rfl rfl Pl.c4 ?_)
          | (go_at_call 39; (with_reducible refine (hnm _).mono ?_); rintro e u ⟨rfl, hb⟩; have hk := HK.out.call hb; clear hb; clear HK; have HK := Lib.hid hk; clear hk)
          | (go_at_call 39; (with_reducible refine (hno _).mono ?_); rintro e u ⟨rfl, hb⟩; have hk := HK.out.call hb; clear hb; clear HK; have HK := Lib.hid hk; clear hk)
          | (go_at_call 40; (with_reducible refine (hia _).mono ?_); rintro e u ⟨rfl, rfl⟩)
          | (go_at_call 40; (with_reducible refine (hib _).mono ?_); rintro e u ⟨rfl, rfl⟩))
        go_ret
        exact ⟨by rw [HT.out]; first | rfl | simp, HK.out.mf.bel⟩
      | true =>
        rw [h1] at hnm
        have h := h.resolve_left (by rw [h1]; simp)
        cases h2 : isB p.a with
        | false =>
          rw [h2] at hia
          clear h
          go_enter Tryz.func17, Tryz.ntmps17
          go_wp2_with (first
            | ((with_reducible refine box_k (cs := p.cells) HK.out rfl _ rfl rfl ?_); intro bp u hk; clear HK; have HK := Lib.hid hk; clear hk)
            | (with_reducible refine load_k1 HK.out 0 ckI _ rfl rfl rfl rfl Pl.c0 ?_)
            | (with_reducible refine load_k1 HK.out 0 ckS _ rfl rfl rfl rfl Pl.c1 ?_)
            | (with_reducible refine load_k1 HK.out 0 ckS _ rfl rfl rfl rfl Pl.c2 ?_)
            | (with_reducible refine load_k1 HK.out 0 ckI _ rfl rfl rfl rfl Pl.c3 ?_)
            | (with_reducible refine load_k1 HK.out 0 ckI _ rfl rfl rfl rfl Pl.c4 ?_)
            | (go_at_call 39; (with_reducible refine (hnm _).mono ?_); rintro e u ⟨rfl, hb⟩; have hk := HK.out.call hb; clear hb; clear HK; have HK := Lib.hid hk; clear hk)
            | (go_at_call 39; (with_reducible refine (hno _).mono ?_); rintro e u ⟨rfl, hb⟩; have hk := HK.out.call hb; clear hb; clear HK; have HK := Lib.hid hk; clear hk)
            | (go_at_call 40; (with_reducible refine (hia _).mono ?_); rintro e u ⟨rfl, rfl⟩)
            | (go_at_call 40; (with_reducible refine (hib _).mono ?_); rintro e u ⟨rfl, rfl⟩))
          go_ret
          exact ⟨by rw [HT.out]; first | rfl | simp, HK.out.mf.bel⟩
        | true =>
          rw [h2] at hia
          have h3 := h.resolve_left (by rw [h2]; simp)
          rw [h3] at hib
          clear h
          go_enter Tryz.func17, Tryz.ntmps17
          go_wp2_with (first
            | ((with_reducible refine box_k (cs := p.cells) HK.out rfl _ rfl rfl ?_); intro bp u hk; clear HK; have HK := Lib.hid hk; clear hk)
            | (with_reducible refine load_k1 HK.out 0 ckI _ rfl rfl rfl rfl Pl.c0 ?_)
            | (with_reducible refine load_k1 HK.out 0 ckS _ rfl rfl rfl rfl Pl.c1 ?_)
            | (with_reducible refine load_k1 HK.out 0 ckS _ rfl rfl rfl rfl Pl.c2 ?_)
            | (with_reducible refine load_k1 HK.out 0 ckI _ rfl rfl rfl rfl Pl.c3 ?_)
            | (with_reducible refine load_k1 HK.out 0 ckI _ rfl rfl rfl rfl Pl.c4 ?_)
            | (go_at_call 39; (with_reducible refine (hnm _).mono ?_); rintro e u ⟨rfl, hb⟩; have hk := HK.out.call hb; clear hb; clear HK; have HK := Lib.hid hk; clear hk)
            | (go_at_call 39; (with_reducible refine (hno _).mono ?_); rintro e u ⟨rfl, hb⟩; have hk := HK.out.call hb; clear hb; clear HK; have HK := Lib.hid hk; clear hk)
            | (go_at_call 40; (with_reducible refine (hia _).mono ?_); rintro e u ⟨rfl, rfl⟩)
            | (go_at_call 40; (with_reducible refine (hib _).mono ?_); rintro e u ⟨rfl, rfl⟩))
          go_ret
          exact ⟨by rw [HT.out]; first | rfl | simp, HK.out.mf.bel⟩
set_option maxHeartbeats 4000000 in
theorem rright_12 (p : Pl) (hnam : p.nm.size ≤ 1000) (hot : p.ot.size ≤ 1000) (hin : 1 ≤ p.k ∧ p.k ≤ 6) (h1 : nameB p.nm = true) (h2 : isB p.a = true) (h3 : isB p.b = true) (h0 : p.k = 1 ∨ p.k = 2) (w : World) :
    Calls Tryz.prog 17 #[.agg p.cells.toArray] w fun e w' => e = .returned (.bool (planB p)) ∧ Below w.heap.size w w' := by
  have HK := Lib.hid (Kg.start w)
  have hnm := rfname_any p.nm hnam
  have hno := rfname_any p.ot hot
  have hia := fun w => ris_eq p.a _ rfl w
  have hib := fun w => ris_eq p.b _ rfl w
  clear hnam hot
  have k1 : decide (p.k < 1) = false := by simp; omega
  have k2 : decide (6 < p.k) = false := by simp; omega
  have HP := Lib.hid (show planB p = ruleB p by simp [planB, h1, h2, h3])
  rw [h1] at hnm; rw [h2] at hia; rw [h3] at hib
  have k3 : decide (p.k ≤ 2) = true := by simp; omega
  have HRU := Lib.hid (show ruleB p = shiftB p from if_pos h0)
  clear h0 hin h1 h2 h3
  cases ho : nameB p.ot with
  | false =>
    rw [ho] at hno
    cases hn : noS p.ot with
    | false =>
      obtain ⟨e1, e2⟩ := no_list hn
      have HT := Lib.hid (show planB p = (false) by rw [HP.out]; rw [HRU.out]; simp [shiftB, aloneB, hn])
      clear HP
      go_enter Tryz.func17, Tryz.ntmps17
      go_wp2_with (first
        | ((with_reducible refine box_k (cs := p.cells) HK.out rfl _ rfl rfl ?_); intro bp u hk; clear HK; have HK := Lib.hid hk; clear hk)
        | (with_reducible refine load_k1 HK.out 0 ckI _ rfl rfl rfl rfl Pl.c0 ?_)
        | (with_reducible refine load_k1 HK.out 0 ckS _ rfl rfl rfl rfl Pl.c1 ?_)
        | (with_reducible refine load_k1 HK.out 0 ckS _ rfl rfl rfl rfl Pl.c2 ?_)
        | (with_reducible refine load_k1 HK.out 0 ckI _ rfl rfl rfl rfl Pl.c3 ?_)
        | (with_reducible refine load_k1 HK.out 0 ckI _ rfl rfl rfl rfl Pl.c4 ?_)
        | (go_at_call 39; (with_reducible refine (hnm _).mono ?_); rintro e u ⟨rfl, hb⟩; have hk := HK.out.call hb; clear hb; clear HK; have HK := Lib.hid hk; clear hk)
        | (go_at_call 39; (with_reducible refine (hno _).mono ?_); rintro e u ⟨rfl, hb⟩; have hk := HK.out.call hb; clear hb; clear HK; have HK := Lib.hid hk; clear hk)
        | (go_at_call 40; (with_reducible refine (hia _).mono ?_); rintro e u ⟨rfl, rfl⟩)
        | (go_at_call 40; (with_reducible refine (hib _).mono ?_); rintro e u ⟨rfl, rfl⟩))
      go_ret
      exact ⟨by rw [HT.out]; first | rfl | simp, HK.out.mf.bel⟩
    | true =>
      obtain ⟨e1, e2⟩ := no_list hn
      cases ha : decide (0 ≤ p.a) with
      | false =>
        have HT := Lib.hid (show planB p = (false) by rw [HP.out]; rw [HRU.out]; simp [shiftB, ha])
        clear HP
        go_enter Tryz.func17, Tryz.ntmps17
        go_wp2_with (first
          | ((with_reducible refine box_k (cs := p.cells) HK.out rfl _ rfl rfl ?_); intro bp u hk; clear HK; have HK := Lib.hid hk; clear hk)
          | (with_reducible refine load_k1 HK.out 0 ckI _ rfl rfl rfl rfl Pl.c0 ?_)
          | (with_reducible refine load_k1 HK.out 0 ckS _ rfl rfl rfl rfl Pl.c1 ?_)
          | (with_reducible refine load_k1 HK.out 0 ckS _ rfl rfl rfl rfl Pl.c2 ?_)
          | (with_reducible refine load_k1 HK.out 0 ckI _ rfl rfl rfl rfl Pl.c3 ?_)
          | (with_reducible refine load_k1 HK.out 0 ckI _ rfl rfl rfl rfl Pl.c4 ?_)
          | (go_at_call 39; (with_reducible refine (hnm _).mono ?_); rintro e u ⟨rfl, hb⟩; have hk := HK.out.call hb; clear hb; clear HK; have HK := Lib.hid hk; clear hk)
          | (go_at_call 39; (with_reducible refine (hno _).mono ?_); rintro e u ⟨rfl, hb⟩; have hk := HK.out.call hb; clear hb; clear HK; have HK := Lib.hid hk; clear hk)
          | (go_at_call 40; (with_reducible refine (hia _).mono ?_); rintro e u ⟨rfl, rfl⟩)
          | (go_at_call 40; (with_reducible refine (hib _).mono ?_); rintro e u ⟨rfl, rfl⟩))
        go_ret
        exact ⟨by rw [HT.out]; first | rfl | simp, HK.out.mf.bel⟩
      | true =>
        cases hb : decide (0 ≤ p.b) with
        | false =>
          have HT := Lib.hid (show planB p = (false) by rw [HP.out]; rw [HRU.out]; simp [shiftB, hb])
          clear HP
          go_enter Tryz.func17, Tryz.ntmps17
          go_wp2_with (first
            | ((with_reducible refine box_k (cs := p.cells) HK.out rfl _ rfl rfl ?_); intro bp u hk; clear HK; have HK := Lib.hid hk; clear hk)
            | (with_reducible refine load_k1 HK.out 0 ckI _ rfl rfl rfl rfl Pl.c0 ?_)
            | (with_reducible refine load_k1 HK.out 0 ckS _ rfl rfl rfl rfl Pl.c1 ?_)
            | (with_reducible refine load_k1 HK.out 0 ckS _ rfl rfl rfl rfl Pl.c2 ?_)
            | (with_reducible refine load_k1 HK.out 0 ckI _ rfl rfl rfl rfl Pl.c3 ?_)
            | (with_reducible refine load_k1 HK.out 0 ckI _ rfl rfl rfl rfl Pl.c4 ?_)
            | (go_at_call 39; (with_reducible refine (hnm _).mono ?_); rintro e u ⟨rfl, hb⟩; have hk := HK.out.call hb; clear hb; clear HK; have HK := Lib.hid hk; clear hk)
            | (go_at_call 39; (with_reducible refine (hno _).mono ?_); rintro e u ⟨rfl, hb⟩; have hk := HK.out.call hb; clear hb; clear HK; have HK := Lib.hid hk; clear hk)
            | (go_at_call 40; (with_reducible refine (hia _).mono ?_); rintro e u ⟨rfl, rfl⟩)
            | (go_at_call 40; (with_reducible refine (hib _).mono ?_); rintro e u ⟨rfl, rfl⟩))
          go_ret
          exact ⟨by rw [HT.out]; first | rfl | simp, HK.out.mf.bel⟩
        | true =>
          cases hc : decide (0 < p.a) with
          | true =>
            have HT := Lib.hid (show planB p = (true) by rw [HP.out]; rw [HRU.out]; simp only [decide_eq_true_eq] at hc; simp [shiftB, aloneB, hn, ha, hb, bareB]; omega)
            clear HP
            go_enter Tryz.func17, Tryz.ntmps17
            go_wp2_with (first
              | ((with_reducible refine box_k (cs := p.cells) HK.out rfl _ rfl rfl ?_); intro bp u hk; clear HK; have HK := Lib.hid hk; clear hk)
              | (with_reducible refine load_k1 HK.out 0 ckI _ rfl rfl rfl rfl Pl.c0 ?_)
              | (with_reducible refine load_k1 HK.out 0 ckS _ rfl rfl rfl rfl Pl.c1 ?_)
              | (with_reducible refine load_k1 HK.out 0 ckS _ rfl rfl rfl rfl Pl.c2 ?_)
              | (with_reducible refine load_k1 HK.out 0 ckI _ rfl rfl rfl rfl Pl.c3 ?_)
              | (with_reducible refine load_k1 HK.out 0 ckI _ rfl rfl rfl rfl Pl.c4 ?_)
              | (go_at_call 39; (with_reducible refine (hnm _).mono ?_); rintro e u ⟨rfl, hb⟩; have hk := HK.out.call hb; clear hb; clear HK; have HK := Lib.hid hk; clear hk)
              | (go_at_call 39; (with_reducible refine (hno _).mono ?_); rintro e u ⟨rfl, hb⟩; have hk := HK.out.call hb; clear hb; clear HK; have HK := Lib.hid hk; clear hk)
              | (go_at_call 40; (with_reducible refine (hia _).mono ?_); rintro e u ⟨rfl, rfl⟩)
              | (go_at_call 40; (with_reducible refine (hib _).mono ?_); rintro e u ⟨rfl, rfl⟩))
            go_ret
            exact ⟨by rw [HT.out]; first | rfl | simp, HK.out.mf.bel⟩
          | false =>
            have HT := Lib.hid (show planB p = (decide (0 < p.b)) by rw [HP.out]; rw [HRU.out]; exact shift_zero hn (by simpa using ha) (by simpa using hc) (by simpa using hb))
            clear HP
            go_enter Tryz.func17, Tryz.ntmps17
            go_wp2_with (first
              | ((with_reducible refine box_k (cs := p.cells) HK.out rfl _ rfl rfl ?_); intro bp u hk; clear HK; have HK := Lib.hid hk; clear hk)
              | (with_reducible refine load_k1 HK.out 0 ckI _ rfl rfl rfl rfl Pl.c0 ?_)
              | (with_reducible refine load_k1 HK.out 0 ckS _ rfl rfl rfl rfl Pl.c1 ?_)
              | (with_reducible refine load_k1 HK.out 0 ckS _ rfl rfl rfl rfl Pl.c2 ?_)
              | (with_reducible refine load_k1 HK.out 0 ckI _ rfl rfl rfl rfl Pl.c3 ?_)
              | (with_reducible refine load_k1 HK.out 0 ckI _ rfl rfl rfl rfl Pl.c4 ?_)
              | (go_at_call 39; (with_reducible refine (hnm _).mono ?_); rintro e u ⟨rfl, hb⟩; have hk := HK.out.call hb; clear hb; clear HK; have HK := Lib.hid hk; clear hk)
              | (go_at_call 39; (with_reducible refine (hno _).mono ?_); rintro e u ⟨rfl, hb⟩; have hk := HK.out.call hb; clear hb; clear HK; have HK := Lib.hid hk; clear hk)
              | (go_at_call 40; (with_reducible refine (hia _).mono ?_); rintro e u ⟨rfl, rfl⟩)
              | (go_at_call 40; (with_reducible refine (hib _).mono ?_); rintro e u ⟨rfl, rfl⟩))
            go_ret
            exact ⟨by rw [HT.out]; first | rfl | simp, HK.out.mf.bel⟩
  | true =>
    rw [ho] at hno
    cases hn : noS p.ot with
    | false =>
      obtain ⟨e1, e2⟩ := no_list hn
      have HT := Lib.hid (show planB p = (false) by rw [HP.out]; rw [HRU.out]; simp [shiftB, aloneB, hn])
      clear HP
      go_enter Tryz.func17, Tryz.ntmps17
      go_wp2_with (first
        | ((with_reducible refine box_k (cs := p.cells) HK.out rfl _ rfl rfl ?_); intro bp u hk; clear HK; have HK := Lib.hid hk; clear hk)
        | (with_reducible refine load_k1 HK.out 0 ckI _ rfl rfl rfl rfl Pl.c0 ?_)
        | (with_reducible refine load_k1 HK.out 0 ckS _ rfl rfl rfl rfl Pl.c1 ?_)
        | (with_reducible refine load_k1 HK.out 0 ckS _ rfl rfl rfl rfl Pl.c2 ?_)
        | (with_reducible refine load_k1 HK.out 0 ckI _ rfl rfl rfl rfl Pl.c3 ?_)
        | (with_reducible refine load_k1 HK.out 0 ckI _ rfl rfl rfl rfl Pl.c4 ?_)
        | (go_at_call 39; (with_reducible refine (hnm _).mono ?_); rintro e u ⟨rfl, hb⟩; have hk := HK.out.call hb; clear hb; clear HK; have HK := Lib.hid hk; clear hk)
        | (go_at_call 39; (with_reducible refine (hno _).mono ?_); rintro e u ⟨rfl, hb⟩; have hk := HK.out.call hb; clear hb; clear HK; have HK := Lib.hid hk; clear hk)
        | (go_at_call 40; (with_reducible refine (hia _).mono ?_); rintro e u ⟨rfl, rfl⟩)
        | (go_at_call 40; (with_reducible refine (hib _).mono ?_); rintro e u ⟨rfl, rfl⟩))
      go_ret
      exact ⟨by rw [HT.out]; first | rfl | simp, HK.out.mf.bel⟩
    | true =>
      obtain ⟨e1, e2⟩ := no_list hn
      cases ha : decide (0 ≤ p.a) with
      | false =>
        have HT := Lib.hid (show planB p = (false) by rw [HP.out]; rw [HRU.out]; simp [shiftB, ha])
        clear HP
        go_enter Tryz.func17, Tryz.ntmps17
        go_wp2_with (first
          | ((with_reducible refine box_k (cs := p.cells) HK.out rfl _ rfl rfl ?_); intro bp u hk; clear HK; have HK := Lib.hid hk; clear hk)
          | (with_reducible refine load_k1 HK.out 0 ckI _ rfl rfl rfl rfl Pl.c0 ?_)
          | (with_reducible refine load_k1 HK.out 0 ckS _ rfl rfl rfl rfl Pl.c1 ?_)
          | (with_reducible refine load_k1 HK.out 0 ckS _ rfl rfl rfl rfl Pl.c2 ?_)
          | (with_reducible refine load_k1 HK.out 0 ckI _ rfl rfl rfl rfl Pl.c3 ?_)
          | (with_reducible refine load_k1 HK.out 0 ckI _ rfl rfl rfl rfl Pl.c4 ?_)
          | (go_at_call 39; (with_reducible refine (hnm _).mono ?_); rintro e u ⟨rfl, hb⟩; have hk := HK.out.call hb; clear hb; clear HK; have HK := Lib.hid hk; clear hk)
          | (go_at_call 39; (with_reducible refine (hno _).mono ?_); rintro e u ⟨rfl, hb⟩; have hk := HK.out.call hb; clear hb; clear HK; have HK := Lib.hid hk; clear hk)
          | (go_at_call 40; (with_reducible refine (hia _).mono ?_); rintro e u ⟨rfl, rfl⟩)
          | (go_at_call 40; (with_reducible refine (hib _).mono ?_); rintro e u ⟨rfl, rfl⟩))
        go_ret
        exact ⟨by rw [HT.out]; first | rfl | simp, HK.out.mf.bel⟩
      | true =>
        cases hb : decide (0 ≤ p.b) with
        | false =>
          have HT := Lib.hid (show planB p = (false) by rw [HP.out]; rw [HRU.out]; simp [shiftB, hb])
          clear HP
          go_enter Tryz.func17, Tryz.ntmps17
          go_wp2_with (first
            | ((with_reducible refine box_k (cs := p.cells) HK.out rfl _ rfl rfl ?_); intro bp u hk; clear HK; have HK := Lib.hid hk; clear hk)
            | (with_reducible refine load_k1 HK.out 0 ckI _ rfl rfl rfl rfl Pl.c0 ?_)
            | (with_reducible refine load_k1 HK.out 0 ckS _ rfl rfl rfl rfl Pl.c1 ?_)
            | (with_reducible refine load_k1 HK.out 0 ckS _ rfl rfl rfl rfl Pl.c2 ?_)
            | (with_reducible refine load_k1 HK.out 0 ckI _ rfl rfl rfl rfl Pl.c3 ?_)
            | (with_reducible refine load_k1 HK.out 0 ckI _ rfl rfl rfl rfl Pl.c4 ?_)
            | (go_at_call 39; (with_reducible refine (hnm _).mono ?_); rintro e u ⟨rfl, hb⟩; have hk := HK.out.call hb; clear hb; clear HK; have HK := Lib.hid hk; clear hk)
            | (go_at_call 39; (with_reducible refine (hno _).mono ?_); rintro e u ⟨rfl, hb⟩; have hk := HK.out.call hb; clear hb; clear HK; have HK := Lib.hid hk; clear hk)
            | (go_at_call 40; (with_reducible refine (hia _).mono ?_); rintro e u ⟨rfl, rfl⟩)
            | (go_at_call 40; (with_reducible refine (hib _).mono ?_); rintro e u ⟨rfl, rfl⟩))
          go_ret
          exact ⟨by rw [HT.out]; first | rfl | simp, HK.out.mf.bel⟩
        | true =>
          cases hc : decide (0 < p.a) with
          | true =>
            have HT := Lib.hid (show planB p = (true) by rw [HP.out]; rw [HRU.out]; simp only [decide_eq_true_eq] at hc; simp [shiftB, aloneB, hn, ha, hb, bareB]; omega)
            clear HP
            go_enter Tryz.func17, Tryz.ntmps17
            go_wp2_with (first
              | ((with_reducible refine box_k (cs := p.cells) HK.out rfl _ rfl rfl ?_); intro bp u hk; clear HK; have HK := Lib.hid hk; clear hk)
              | (with_reducible refine load_k1 HK.out 0 ckI _ rfl rfl rfl rfl Pl.c0 ?_)
              | (with_reducible refine load_k1 HK.out 0 ckS _ rfl rfl rfl rfl Pl.c1 ?_)
              | (with_reducible refine load_k1 HK.out 0 ckS _ rfl rfl rfl rfl Pl.c2 ?_)
              | (with_reducible refine load_k1 HK.out 0 ckI _ rfl rfl rfl rfl Pl.c3 ?_)
              | (with_reducible refine load_k1 HK.out 0 ckI _ rfl rfl rfl rfl Pl.c4 ?_)
              | (go_at_call 39; (with_reducible refine (hnm _).mono ?_); rintro e u ⟨rfl, hb⟩; have hk := HK.out.call hb; clear hb; clear HK; have HK := Lib.hid hk; clear hk)
              | (go_at_call 39; (with_reducible refine (hno _).mono ?_); rintro e u ⟨rfl, hb⟩; have hk := HK.out.call hb; clear hb; clear HK; have HK := Lib.hid hk; clear hk)
              | (go_at_call 40; (with_reducible refine (hia _).mono ?_); rintro e u ⟨rfl, rfl⟩)
              | (go_at_call 40; (with_reducible refine (hib _).mono ?_); rintro e u ⟨rfl, rfl⟩))
            go_ret
            exact ⟨by rw [HT.out]; first | rfl | simp, HK.out.mf.bel⟩
          | false =>
            have HT := Lib.hid (show planB p = (decide (0 < p.b)) by rw [HP.out]; rw [HRU.out]; exact shift_zero hn (by simpa using ha) (by simpa using hc) (by simpa using hb))
            clear HP
            go_enter Tryz.func17, Tryz.ntmps17
            go_wp2_with (first
              | ((with_reducible refine box_k (cs := p.cells) HK.out rfl _ rfl rfl ?_); intro bp u hk; clear HK; have HK := Lib.hid hk; clear hk)
              | (with_reducible refine load_k1 HK.out 0 ckI _ rfl rfl rfl rfl Pl.c0 ?_)
              | (with_reducible refine load_k1 HK.out 0 ckS _ rfl rfl rfl rfl Pl.c1 ?_)
              | (with_reducible refine load_k1 HK.out 0 ckS _ rfl rfl rfl rfl Pl.c2 ?_)
              | (with_reducible refine load_k1 HK.out 0 ckI _ rfl rfl rfl rfl Pl.c3 ?_)
              | (with_reducible refine load_k1 HK.out 0 ckI _ rfl rfl rfl rfl Pl.c4 ?_)
              | (go_at_call 39; (with_reducible refine (hnm _).mono ?_); rintro e u ⟨rfl, hb⟩; have hk := HK.out.call hb; clear hb; clear HK; have HK := Lib.hid hk; clear hk)
              | (go_at_call 39; (with_reducible refine (hno _).mono ?_); rintro e u ⟨rfl, hb⟩; have hk := HK.out.call hb; clear hb; clear HK; have HK := Lib.hid hk; clear hk)
              | (go_at_call 40; (with_reducible refine (hia _).mono ?_); rintro e u ⟨rfl, rfl⟩)
              | (go_at_call 40; (with_reducible refine (hib _).mono ?_); rintro e u ⟨rfl, rfl⟩))
            go_ret
            exact ⟨by rw [HT.out]; first | rfl | simp, HK.out.mf.bel⟩
set_option maxHeartbeats 4000000 in
theorem rright_3 (p : Pl) (hnam : p.nm.size ≤ 1000) (hot : p.ot.size ≤ 1000) (_hin : 1 ≤ p.k ∧ p.k ≤ 6) (h1 : nameB p.nm = true) (h2 : isB p.a = true) (h3 : isB p.b = true) (h0 : p.k = 3) (w : World) :
    Calls Tryz.prog 17 #[.agg p.cells.toArray] w fun e w' => e = .returned (.bool (planB p)) ∧ Below w.heap.size w w' := by
  have HK := Lib.hid (Kg.start w)
  have hnm := rfname_any p.nm hnam
  have hno := rfname_any p.ot hot
  have hia := fun w => ris_eq p.a _ rfl w
  have hib := fun w => ris_eq p.b _ rfl w
  clear hnam hot
  have k1 : decide (p.k < 1) = false := by simp; omega
  have k2 : decide (6 < p.k) = false := by simp; omega
  have HP := Lib.hid (show planB p = ruleB p by simp [planB, h1, h2, h3])
  rw [h1] at hnm; rw [h2] at hia; rw [h3] at hib
  have n3 : (p.k == 3) = true := by simp [h0]
  have k3 : decide (p.k ≤ 2) = false := by simp [h0]
  have HRU := Lib.hid (show ruleB p = lockB p by simp [ruleB, h0])
  clear h0 _hin h1 h2 h3
  cases ho : nameB p.ot with
  | false =>
    rw [ho] at hno
    cases hn : noS p.ot with
    | false =>
      obtain ⟨e1, e2⟩ := no_list hn
      have HT := Lib.hid (show planB p = (false) by rw [HP.out]; rw [HRU.out]; simp [lockB, aloneB, hn])
      clear HP
      go_enter Tryz.func17, Tryz.ntmps17
      go_wp2_with (first
        | ((with_reducible refine box_k (cs := p.cells) HK.out rfl _ rfl rfl ?_); intro bp u hk; clear HK; have HK := Lib.hid hk; clear hk)
        | (with_reducible refine load_k1 HK.out 0 ckI _ rfl rfl rfl rfl Pl.c0 ?_)
        | (with_reducible refine load_k1 HK.out 0 ckS _ rfl rfl rfl rfl Pl.c1 ?_)
        | (with_reducible refine load_k1 HK.out 0 ckS _ rfl rfl rfl rfl Pl.c2 ?_)
        | (with_reducible refine load_k1 HK.out 0 ckI _ rfl rfl rfl rfl Pl.c3 ?_)
        | (with_reducible refine load_k1 HK.out 0 ckI _ rfl rfl rfl rfl Pl.c4 ?_)
        | (go_at_call 39; (with_reducible refine (hnm _).mono ?_); rintro e u ⟨rfl, hb⟩; have hk := HK.out.call hb; clear hb; clear HK; have HK := Lib.hid hk; clear hk)
        | (go_at_call 39; (with_reducible refine (hno _).mono ?_); rintro e u ⟨rfl, hb⟩; have hk := HK.out.call hb; clear hb; clear HK; have HK := Lib.hid hk; clear hk)
        | (go_at_call 40; (with_reducible refine (hia _).mono ?_); rintro e u ⟨rfl, rfl⟩)
        | (go_at_call 40; (with_reducible refine (hib _).mono ?_); rintro e u ⟨rfl, rfl⟩))
      go_ret
      exact ⟨by rw [HT.out]; first | rfl | simp, HK.out.mf.bel⟩
    | true =>
      obtain ⟨e1, e2⟩ := no_list hn
      cases ha : (p.a == 0) with
      | false =>
        have HT := Lib.hid (show planB p = (false) by rw [HP.out]; rw [HRU.out]; simp [lockB, bareB, ha])
        clear HP
        go_enter Tryz.func17, Tryz.ntmps17
        go_wp2_with (first
          | ((with_reducible refine box_k (cs := p.cells) HK.out rfl _ rfl rfl ?_); intro bp u hk; clear HK; have HK := Lib.hid hk; clear hk)
          | (with_reducible refine load_k1 HK.out 0 ckI _ rfl rfl rfl rfl Pl.c0 ?_)
          | (with_reducible refine load_k1 HK.out 0 ckS _ rfl rfl rfl rfl Pl.c1 ?_)
          | (with_reducible refine load_k1 HK.out 0 ckS _ rfl rfl rfl rfl Pl.c2 ?_)
          | (with_reducible refine load_k1 HK.out 0 ckI _ rfl rfl rfl rfl Pl.c3 ?_)
          | (with_reducible refine load_k1 HK.out 0 ckI _ rfl rfl rfl rfl Pl.c4 ?_)
          | (go_at_call 39; (with_reducible refine (hnm _).mono ?_); rintro e u ⟨rfl, hb⟩; have hk := HK.out.call hb; clear hb; clear HK; have HK := Lib.hid hk; clear hk)
          | (go_at_call 39; (with_reducible refine (hno _).mono ?_); rintro e u ⟨rfl, hb⟩; have hk := HK.out.call hb; clear hb; clear HK; have HK := Lib.hid hk; clear hk)
          | (go_at_call 40; (with_reducible refine (hia _).mono ?_); rintro e u ⟨rfl, rfl⟩)
          | (go_at_call 40; (with_reducible refine (hib _).mono ?_); rintro e u ⟨rfl, rfl⟩))
        go_ret
        exact ⟨by rw [HT.out]; first | rfl | simp, HK.out.mf.bel⟩
      | true =>
        have HT := Lib.hid (show planB p = (p.b == 0) by rw [HP.out]; rw [HRU.out]; simp [lockB, aloneB, hn, bareB, ha])
        clear HP
        go_enter Tryz.func17, Tryz.ntmps17
        go_wp2_with (first
          | ((with_reducible refine box_k (cs := p.cells) HK.out rfl _ rfl rfl ?_); intro bp u hk; clear HK; have HK := Lib.hid hk; clear hk)
          | (with_reducible refine load_k1 HK.out 0 ckI _ rfl rfl rfl rfl Pl.c0 ?_)
          | (with_reducible refine load_k1 HK.out 0 ckS _ rfl rfl rfl rfl Pl.c1 ?_)
          | (with_reducible refine load_k1 HK.out 0 ckS _ rfl rfl rfl rfl Pl.c2 ?_)
          | (with_reducible refine load_k1 HK.out 0 ckI _ rfl rfl rfl rfl Pl.c3 ?_)
          | (with_reducible refine load_k1 HK.out 0 ckI _ rfl rfl rfl rfl Pl.c4 ?_)
          | (go_at_call 39; (with_reducible refine (hnm _).mono ?_); rintro e u ⟨rfl, hb⟩; have hk := HK.out.call hb; clear hb; clear HK; have HK := Lib.hid hk; clear hk)
          | (go_at_call 39; (with_reducible refine (hno _).mono ?_); rintro e u ⟨rfl, hb⟩; have hk := HK.out.call hb; clear hb; clear HK; have HK := Lib.hid hk; clear hk)
          | (go_at_call 40; (with_reducible refine (hia _).mono ?_); rintro e u ⟨rfl, rfl⟩)
          | (go_at_call 40; (with_reducible refine (hib _).mono ?_); rintro e u ⟨rfl, rfl⟩))
        go_ret
        exact ⟨by rw [HT.out]; first | rfl | simp, HK.out.mf.bel⟩
  | true =>
    rw [ho] at hno
    cases hn : noS p.ot with
    | false =>
      obtain ⟨e1, e2⟩ := no_list hn
      have HT := Lib.hid (show planB p = (false) by rw [HP.out]; rw [HRU.out]; simp [lockB, aloneB, hn])
      clear HP
      go_enter Tryz.func17, Tryz.ntmps17
      go_wp2_with (first
        | ((with_reducible refine box_k (cs := p.cells) HK.out rfl _ rfl rfl ?_); intro bp u hk; clear HK; have HK := Lib.hid hk; clear hk)
        | (with_reducible refine load_k1 HK.out 0 ckI _ rfl rfl rfl rfl Pl.c0 ?_)
        | (with_reducible refine load_k1 HK.out 0 ckS _ rfl rfl rfl rfl Pl.c1 ?_)
        | (with_reducible refine load_k1 HK.out 0 ckS _ rfl rfl rfl rfl Pl.c2 ?_)
        | (with_reducible refine load_k1 HK.out 0 ckI _ rfl rfl rfl rfl Pl.c3 ?_)
        | (with_reducible refine load_k1 HK.out 0 ckI _ rfl rfl rfl rfl Pl.c4 ?_)
        | (go_at_call 39; (with_reducible refine (hnm _).mono ?_); rintro e u ⟨rfl, hb⟩; have hk := HK.out.call hb; clear hb; clear HK; have HK := Lib.hid hk; clear hk)
        | (go_at_call 39; (with_reducible refine (hno _).mono ?_); rintro e u ⟨rfl, hb⟩; have hk := HK.out.call hb; clear hb; clear HK; have HK := Lib.hid hk; clear hk)
        | (go_at_call 40; (with_reducible refine (hia _).mono ?_); rintro e u ⟨rfl, rfl⟩)
        | (go_at_call 40; (with_reducible refine (hib _).mono ?_); rintro e u ⟨rfl, rfl⟩))
      go_ret
      exact ⟨by rw [HT.out]; first | rfl | simp, HK.out.mf.bel⟩
    | true =>
      obtain ⟨e1, e2⟩ := no_list hn
      cases ha : (p.a == 0) with
      | false =>
        have HT := Lib.hid (show planB p = (false) by rw [HP.out]; rw [HRU.out]; simp [lockB, bareB, ha])
        clear HP
        go_enter Tryz.func17, Tryz.ntmps17
        go_wp2_with (first
          | ((with_reducible refine box_k (cs := p.cells) HK.out rfl _ rfl rfl ?_); intro bp u hk; clear HK; have HK := Lib.hid hk; clear hk)
          | (with_reducible refine load_k1 HK.out 0 ckI _ rfl rfl rfl rfl Pl.c0 ?_)
          | (with_reducible refine load_k1 HK.out 0 ckS _ rfl rfl rfl rfl Pl.c1 ?_)
          | (with_reducible refine load_k1 HK.out 0 ckS _ rfl rfl rfl rfl Pl.c2 ?_)
          | (with_reducible refine load_k1 HK.out 0 ckI _ rfl rfl rfl rfl Pl.c3 ?_)
          | (with_reducible refine load_k1 HK.out 0 ckI _ rfl rfl rfl rfl Pl.c4 ?_)
          | (go_at_call 39; (with_reducible refine (hnm _).mono ?_); rintro e u ⟨rfl, hb⟩; have hk := HK.out.call hb; clear hb; clear HK; have HK := Lib.hid hk; clear hk)
          | (go_at_call 39; (with_reducible refine (hno _).mono ?_); rintro e u ⟨rfl, hb⟩; have hk := HK.out.call hb; clear hb; clear HK; have HK := Lib.hid hk; clear hk)
          | (go_at_call 40; (with_reducible refine (hia _).mono ?_); rintro e u ⟨rfl, rfl⟩)
          | (go_at_call 40; (with_reducible refine (hib _).mono ?_); rintro e u ⟨rfl, rfl⟩))
        go_ret
        exact ⟨by rw [HT.out]; first | rfl | simp, HK.out.mf.bel⟩
      | true =>
        have HT := Lib.hid (show planB p = (p.b == 0) by rw [HP.out]; rw [HRU.out]; simp [lockB, aloneB, hn, bareB, ha])
        clear HP
        go_enter Tryz.func17, Tryz.ntmps17
        go_wp2_with (first
          | ((with_reducible refine box_k (cs := p.cells) HK.out rfl _ rfl rfl ?_); intro bp u hk; clear HK; have HK := Lib.hid hk; clear hk)
          | (with_reducible refine load_k1 HK.out 0 ckI _ rfl rfl rfl rfl Pl.c0 ?_)
          | (with_reducible refine load_k1 HK.out 0 ckS _ rfl rfl rfl rfl Pl.c1 ?_)
          | (with_reducible refine load_k1 HK.out 0 ckS _ rfl rfl rfl rfl Pl.c2 ?_)
          | (with_reducible refine load_k1 HK.out 0 ckI _ rfl rfl rfl rfl Pl.c3 ?_)
          | (with_reducible refine load_k1 HK.out 0 ckI _ rfl rfl rfl rfl Pl.c4 ?_)
          | (go_at_call 39; (with_reducible refine (hnm _).mono ?_); rintro e u ⟨rfl, hb⟩; have hk := HK.out.call hb; clear hb; clear HK; have HK := Lib.hid hk; clear hk)
          | (go_at_call 39; (with_reducible refine (hno _).mono ?_); rintro e u ⟨rfl, hb⟩; have hk := HK.out.call hb; clear hb; clear HK; have HK := Lib.hid hk; clear hk)
          | (go_at_call 40; (with_reducible refine (hia _).mono ?_); rintro e u ⟨rfl, rfl⟩)
          | (go_at_call 40; (with_reducible refine (hib _).mono ?_); rintro e u ⟨rfl, rfl⟩))
        go_ret
        exact ⟨by rw [HT.out]; first | rfl | simp, HK.out.mf.bel⟩
set_option maxHeartbeats 4000000 in
theorem rright_4 (p : Pl) (hnam : p.nm.size ≤ 1000) (hot : p.ot.size ≤ 1000) (_hin : 1 ≤ p.k ∧ p.k ≤ 6) (h1 : nameB p.nm = true) (h2 : isB p.a = true) (h3 : isB p.b = true) (h0 : p.k = 4) (w : World) :
    Calls Tryz.prog 17 #[.agg p.cells.toArray] w fun e w' => e = .returned (.bool (planB p)) ∧ Below w.heap.size w w' := by
  have HK := Lib.hid (Kg.start w)
  have hnm := rfname_any p.nm hnam
  have hno := rfname_any p.ot hot
  have hia := fun w => ris_eq p.a _ rfl w
  have hib := fun w => ris_eq p.b _ rfl w
  clear hnam hot
  have k1 : decide (p.k < 1) = false := by simp; omega
  have k2 : decide (6 < p.k) = false := by simp; omega
  have HP := Lib.hid (show planB p = ruleB p by simp [planB, h1, h2, h3])
  rw [h1] at hnm; rw [h2] at hia; rw [h3] at hib
  have n3 : (p.k == 3) = false := by simp [h0]
  have n4 : (p.k == 4) = true := by simp [h0]
  have k3 : decide (p.k ≤ 2) = false := by simp [h0]
  have HRU := Lib.hid (show ruleB p = countB p by simp [ruleB, h0])
  clear h0 _hin h1 h2 h3
  cases ho : nameB p.ot with
  | false =>
    rw [ho] at hno
    cases hn : noS p.ot with
    | false =>
      obtain ⟨e1, e2⟩ := no_list hn
      have HT := Lib.hid (show planB p = (false) by rw [HP.out]; rw [HRU.out]; simp [countB, aloneB, hn])
      clear HP
      go_enter Tryz.func17, Tryz.ntmps17
      go_wp2_with (first
        | ((with_reducible refine box_k (cs := p.cells) HK.out rfl _ rfl rfl ?_); intro bp u hk; clear HK; have HK := Lib.hid hk; clear hk)
        | (with_reducible refine load_k1 HK.out 0 ckI _ rfl rfl rfl rfl Pl.c0 ?_)
        | (with_reducible refine load_k1 HK.out 0 ckS _ rfl rfl rfl rfl Pl.c1 ?_)
        | (with_reducible refine load_k1 HK.out 0 ckS _ rfl rfl rfl rfl Pl.c2 ?_)
        | (with_reducible refine load_k1 HK.out 0 ckI _ rfl rfl rfl rfl Pl.c3 ?_)
        | (with_reducible refine load_k1 HK.out 0 ckI _ rfl rfl rfl rfl Pl.c4 ?_)
        | (go_at_call 39; (with_reducible refine (hnm _).mono ?_); rintro e u ⟨rfl, hb⟩; have hk := HK.out.call hb; clear hb; clear HK; have HK := Lib.hid hk; clear hk)
        | (go_at_call 39; (with_reducible refine (hno _).mono ?_); rintro e u ⟨rfl, hb⟩; have hk := HK.out.call hb; clear hb; clear HK; have HK := Lib.hid hk; clear hk)
        | (go_at_call 40; (with_reducible refine (hia _).mono ?_); rintro e u ⟨rfl, rfl⟩)
        | (go_at_call 40; (with_reducible refine (hib _).mono ?_); rintro e u ⟨rfl, rfl⟩))
      go_ret
      exact ⟨by rw [HT.out]; first | rfl | simp, HK.out.mf.bel⟩
    | true =>
      obtain ⟨e1, e2⟩ := no_list hn
      have HT := Lib.hid (show planB p = (decide (p.a ≤ p.b)) by rw [HP.out]; rw [HRU.out]; simp [countB, aloneB, hn])
      clear HP
      go_enter Tryz.func17, Tryz.ntmps17
      go_wp2_with (first
        | ((with_reducible refine box_k (cs := p.cells) HK.out rfl _ rfl rfl ?_); intro bp u hk; clear HK; have HK := Lib.hid hk; clear hk)
        | (with_reducible refine load_k1 HK.out 0 ckI _ rfl rfl rfl rfl Pl.c0 ?_)
        | (with_reducible refine load_k1 HK.out 0 ckS _ rfl rfl rfl rfl Pl.c1 ?_)
        | (with_reducible refine load_k1 HK.out 0 ckS _ rfl rfl rfl rfl Pl.c2 ?_)
        | (with_reducible refine load_k1 HK.out 0 ckI _ rfl rfl rfl rfl Pl.c3 ?_)
        | (with_reducible refine load_k1 HK.out 0 ckI _ rfl rfl rfl rfl Pl.c4 ?_)
        | (go_at_call 39; (with_reducible refine (hnm _).mono ?_); rintro e u ⟨rfl, hb⟩; have hk := HK.out.call hb; clear hb; clear HK; have HK := Lib.hid hk; clear hk)
        | (go_at_call 39; (with_reducible refine (hno _).mono ?_); rintro e u ⟨rfl, hb⟩; have hk := HK.out.call hb; clear hb; clear HK; have HK := Lib.hid hk; clear hk)
        | (go_at_call 40; (with_reducible refine (hia _).mono ?_); rintro e u ⟨rfl, rfl⟩)
        | (go_at_call 40; (with_reducible refine (hib _).mono ?_); rintro e u ⟨rfl, rfl⟩))
      go_ret
      exact ⟨by rw [HT.out]; first | rfl | simp, HK.out.mf.bel⟩
  | true =>
    rw [ho] at hno
    cases hn : noS p.ot with
    | false =>
      obtain ⟨e1, e2⟩ := no_list hn
      have HT := Lib.hid (show planB p = (false) by rw [HP.out]; rw [HRU.out]; simp [countB, aloneB, hn])
      clear HP
      go_enter Tryz.func17, Tryz.ntmps17
      go_wp2_with (first
        | ((with_reducible refine box_k (cs := p.cells) HK.out rfl _ rfl rfl ?_); intro bp u hk; clear HK; have HK := Lib.hid hk; clear hk)
        | (with_reducible refine load_k1 HK.out 0 ckI _ rfl rfl rfl rfl Pl.c0 ?_)
        | (with_reducible refine load_k1 HK.out 0 ckS _ rfl rfl rfl rfl Pl.c1 ?_)
        | (with_reducible refine load_k1 HK.out 0 ckS _ rfl rfl rfl rfl Pl.c2 ?_)
        | (with_reducible refine load_k1 HK.out 0 ckI _ rfl rfl rfl rfl Pl.c3 ?_)
        | (with_reducible refine load_k1 HK.out 0 ckI _ rfl rfl rfl rfl Pl.c4 ?_)
        | (go_at_call 39; (with_reducible refine (hnm _).mono ?_); rintro e u ⟨rfl, hb⟩; have hk := HK.out.call hb; clear hb; clear HK; have HK := Lib.hid hk; clear hk)
        | (go_at_call 39; (with_reducible refine (hno _).mono ?_); rintro e u ⟨rfl, hb⟩; have hk := HK.out.call hb; clear hb; clear HK; have HK := Lib.hid hk; clear hk)
        | (go_at_call 40; (with_reducible refine (hia _).mono ?_); rintro e u ⟨rfl, rfl⟩)
        | (go_at_call 40; (with_reducible refine (hib _).mono ?_); rintro e u ⟨rfl, rfl⟩))
      go_ret
      exact ⟨by rw [HT.out]; first | rfl | simp, HK.out.mf.bel⟩
    | true =>
      obtain ⟨e1, e2⟩ := no_list hn
      have HT := Lib.hid (show planB p = (decide (p.a ≤ p.b)) by rw [HP.out]; rw [HRU.out]; simp [countB, aloneB, hn])
      clear HP
      go_enter Tryz.func17, Tryz.ntmps17
      go_wp2_with (first
        | ((with_reducible refine box_k (cs := p.cells) HK.out rfl _ rfl rfl ?_); intro bp u hk; clear HK; have HK := Lib.hid hk; clear hk)
        | (with_reducible refine load_k1 HK.out 0 ckI _ rfl rfl rfl rfl Pl.c0 ?_)
        | (with_reducible refine load_k1 HK.out 0 ckS _ rfl rfl rfl rfl Pl.c1 ?_)
        | (with_reducible refine load_k1 HK.out 0 ckS _ rfl rfl rfl rfl Pl.c2 ?_)
        | (with_reducible refine load_k1 HK.out 0 ckI _ rfl rfl rfl rfl Pl.c3 ?_)
        | (with_reducible refine load_k1 HK.out 0 ckI _ rfl rfl rfl rfl Pl.c4 ?_)
        | (go_at_call 39; (with_reducible refine (hnm _).mono ?_); rintro e u ⟨rfl, hb⟩; have hk := HK.out.call hb; clear hb; clear HK; have HK := Lib.hid hk; clear hk)
        | (go_at_call 39; (with_reducible refine (hno _).mono ?_); rintro e u ⟨rfl, hb⟩; have hk := HK.out.call hb; clear hb; clear HK; have HK := Lib.hid hk; clear hk)
        | (go_at_call 40; (with_reducible refine (hia _).mono ?_); rintro e u ⟨rfl, rfl⟩)
        | (go_at_call 40; (with_reducible refine (hib _).mono ?_); rintro e u ⟨rfl, rfl⟩))
      go_ret
      exact ⟨by rw [HT.out]; first | rfl | simp, HK.out.mf.bel⟩
set_option maxHeartbeats 4000000 in
theorem rright_5 (p : Pl) (hnam : p.nm.size ≤ 1000) (hot : p.ot.size ≤ 1000) (_hin : 1 ≤ p.k ∧ p.k ≤ 6) (h1 : nameB p.nm = true) (h2 : isB p.a = true) (h3 : isB p.b = true) (h0 : p.k = 5) (w : World) :
    Calls Tryz.prog 17 #[.agg p.cells.toArray] w fun e w' => e = .returned (.bool (planB p)) ∧ Below w.heap.size w w' := by
  have HK := Lib.hid (Kg.start w)
  have hnm := rfname_any p.nm hnam
  have hno := rfname_any p.ot hot
  have hia := fun w => ris_eq p.a _ rfl w
  have hib := fun w => ris_eq p.b _ rfl w
  clear hnam hot
  have k1 : decide (p.k < 1) = false := by simp; omega
  have k2 : decide (6 < p.k) = false := by simp; omega
  have HP := Lib.hid (show planB p = ruleB p by simp [planB, h1, h2, h3])
  rw [h1] at hnm; rw [h2] at hia; rw [h3] at hib
  have n3 : (p.k == 3) = false := by simp [h0]
  have n4 : (p.k == 4) = false := by simp [h0]
  have n5 : (p.k == 5) = true := by simp [h0]
  have k3 : decide (p.k ≤ 2) = false := by simp [h0]
  have HRU := Lib.hid (show ruleB p = splitB p by simp [ruleB, h0])
  clear h0 _hin h1 h2 h3
  cases ho : nameB p.ot with
  | false =>
    rw [ho] at hno
    have HT := Lib.hid (show planB p = (false) by rw [HP.out]; rw [HRU.out]; simp [splitB, pairB, ho])
    clear HP
    go_enter Tryz.func17, Tryz.ntmps17
    go_wp2_with (first
      | ((with_reducible refine box_k (cs := p.cells) HK.out rfl _ rfl rfl ?_); intro bp u hk; clear HK; have HK := Lib.hid hk; clear hk)
      | (with_reducible refine load_k1 HK.out 0 ckI _ rfl rfl rfl rfl Pl.c0 ?_)
      | (with_reducible refine load_k1 HK.out 0 ckS _ rfl rfl rfl rfl Pl.c1 ?_)
      | (with_reducible refine load_k1 HK.out 0 ckS _ rfl rfl rfl rfl Pl.c2 ?_)
      | (with_reducible refine load_k1 HK.out 0 ckI _ rfl rfl rfl rfl Pl.c3 ?_)
      | (with_reducible refine load_k1 HK.out 0 ckI _ rfl rfl rfl rfl Pl.c4 ?_)
      | (go_at_call 39; (with_reducible refine (hnm _).mono ?_); rintro e u ⟨rfl, hb⟩; have hk := HK.out.call hb; clear hb; clear HK; have HK := Lib.hid hk; clear hk)
      | (go_at_call 39; (with_reducible refine (hno _).mono ?_); rintro e u ⟨rfl, hb⟩; have hk := HK.out.call hb; clear hb; clear HK; have HK := Lib.hid hk; clear hk)
      | (go_at_call 40; (with_reducible refine (hia _).mono ?_); rintro e u ⟨rfl, rfl⟩)
      | (go_at_call 40; (with_reducible refine (hib _).mono ?_); rintro e u ⟨rfl, rfl⟩))
    go_ret
    exact ⟨by rw [HT.out]; first | rfl | simp, HK.out.mf.bel⟩
  | true =>
    rw [ho] at hno
    cases hq : (p.ot.toList == p.nm.toList) with
    | true =>
      have HT := Lib.hid (show planB p = (false) by rw [HP.out]; rw [HRU.out]; simp [splitB, pairB, eqS, hq])
      clear HP
      go_enter Tryz.func17, Tryz.ntmps17
      go_wp2_with (first
        | ((with_reducible refine box_k (cs := p.cells) HK.out rfl _ rfl rfl ?_); intro bp u hk; clear HK; have HK := Lib.hid hk; clear hk)
        | (with_reducible refine load_k1 HK.out 0 ckI _ rfl rfl rfl rfl Pl.c0 ?_)
        | (with_reducible refine load_k1 HK.out 0 ckS _ rfl rfl rfl rfl Pl.c1 ?_)
        | (with_reducible refine load_k1 HK.out 0 ckS _ rfl rfl rfl rfl Pl.c2 ?_)
        | (with_reducible refine load_k1 HK.out 0 ckI _ rfl rfl rfl rfl Pl.c3 ?_)
        | (with_reducible refine load_k1 HK.out 0 ckI _ rfl rfl rfl rfl Pl.c4 ?_)
        | (go_at_call 39; (with_reducible refine (hnm _).mono ?_); rintro e u ⟨rfl, hb⟩; have hk := HK.out.call hb; clear hb; clear HK; have HK := Lib.hid hk; clear hk)
        | (go_at_call 39; (with_reducible refine (hno _).mono ?_); rintro e u ⟨rfl, hb⟩; have hk := HK.out.call hb; clear hb; clear HK; have HK := Lib.hid hk; clear hk)
        | (go_at_call 40; (with_reducible refine (hia _).mono ?_); rintro e u ⟨rfl, rfl⟩)
        | (go_at_call 40; (with_reducible refine (hib _).mono ?_); rintro e u ⟨rfl, rfl⟩))
      go_ret
      exact ⟨by rw [HT.out]; first | rfl | simp, HK.out.mf.bel⟩
    | false =>
      cases ha : decide (0 < p.a) with
      | false =>
        have HT := Lib.hid (show planB p = (false) by rw [HP.out]; rw [HRU.out]; simp only [decide_eq_false_iff_not] at ha; simp [splitB]; omega)
        clear HP
        go_enter Tryz.func17, Tryz.ntmps17
        go_wp2_with (first
          | ((with_reducible refine box_k (cs := p.cells) HK.out rfl _ rfl rfl ?_); intro bp u hk; clear HK; have HK := Lib.hid hk; clear hk)
          | (with_reducible refine load_k1 HK.out 0 ckI _ rfl rfl rfl rfl Pl.c0 ?_)
          | (with_reducible refine load_k1 HK.out 0 ckS _ rfl rfl rfl rfl Pl.c1 ?_)
          | (with_reducible refine load_k1 HK.out 0 ckS _ rfl rfl rfl rfl Pl.c2 ?_)
          | (with_reducible refine load_k1 HK.out 0 ckI _ rfl rfl rfl rfl Pl.c3 ?_)
          | (with_reducible refine load_k1 HK.out 0 ckI _ rfl rfl rfl rfl Pl.c4 ?_)
          | (go_at_call 39; (with_reducible refine (hnm _).mono ?_); rintro e u ⟨rfl, hb⟩; have hk := HK.out.call hb; clear hb; clear HK; have HK := Lib.hid hk; clear hk)
          | (go_at_call 39; (with_reducible refine (hno _).mono ?_); rintro e u ⟨rfl, hb⟩; have hk := HK.out.call hb; clear hb; clear HK; have HK := Lib.hid hk; clear hk)
          | (go_at_call 40; (with_reducible refine (hia _).mono ?_); rintro e u ⟨rfl, rfl⟩)
          | (go_at_call 40; (with_reducible refine (hib _).mono ?_); rintro e u ⟨rfl, rfl⟩))
        go_ret
        exact ⟨by rw [HT.out]; first | rfl | simp, HK.out.mf.bel⟩
      | true =>
        have HT := Lib.hid (show planB p = (p.b == 0) by rw [HP.out]; rw [HRU.out]; simp only [decide_eq_true_eq] at ha; simp [splitB, pairB, eqS, ho, hq, show 1 ≤ p.a from ha])
        clear HP
        go_enter Tryz.func17, Tryz.ntmps17
        go_wp2_with (first
          | ((with_reducible refine box_k (cs := p.cells) HK.out rfl _ rfl rfl ?_); intro bp u hk; clear HK; have HK := Lib.hid hk; clear hk)
          | (with_reducible refine load_k1 HK.out 0 ckI _ rfl rfl rfl rfl Pl.c0 ?_)
          | (with_reducible refine load_k1 HK.out 0 ckS _ rfl rfl rfl rfl Pl.c1 ?_)
          | (with_reducible refine load_k1 HK.out 0 ckS _ rfl rfl rfl rfl Pl.c2 ?_)
          | (with_reducible refine load_k1 HK.out 0 ckI _ rfl rfl rfl rfl Pl.c3 ?_)
          | (with_reducible refine load_k1 HK.out 0 ckI _ rfl rfl rfl rfl Pl.c4 ?_)
          | (go_at_call 39; (with_reducible refine (hnm _).mono ?_); rintro e u ⟨rfl, hb⟩; have hk := HK.out.call hb; clear hb; clear HK; have HK := Lib.hid hk; clear hk)
          | (go_at_call 39; (with_reducible refine (hno _).mono ?_); rintro e u ⟨rfl, hb⟩; have hk := HK.out.call hb; clear hb; clear HK; have HK := Lib.hid hk; clear hk)
          | (go_at_call 40; (with_reducible refine (hia _).mono ?_); rintro e u ⟨rfl, rfl⟩)
          | (go_at_call 40; (with_reducible refine (hib _).mono ?_); rintro e u ⟨rfl, rfl⟩))
        go_ret
        exact ⟨by rw [HT.out]; first | rfl | simp, HK.out.mf.bel⟩
set_option maxHeartbeats 4000000 in
theorem rright_6 (p : Pl) (hnam : p.nm.size ≤ 1000) (hot : p.ot.size ≤ 1000) (_hin : 1 ≤ p.k ∧ p.k ≤ 6) (h1 : nameB p.nm = true) (h2 : isB p.a = true) (h3 : isB p.b = true) (h0 : p.k = 6) (w : World) :
    Calls Tryz.prog 17 #[.agg p.cells.toArray] w fun e w' => e = .returned (.bool (planB p)) ∧ Below w.heap.size w w' := by
  have HK := Lib.hid (Kg.start w)
  have hnm := rfname_any p.nm hnam
  have hno := rfname_any p.ot hot
  have hia := fun w => ris_eq p.a _ rfl w
  have hib := fun w => ris_eq p.b _ rfl w
  clear hnam hot
  have k1 : decide (p.k < 1) = false := by simp; omega
  have k2 : decide (6 < p.k) = false := by simp; omega
  have HP := Lib.hid (show planB p = ruleB p by simp [planB, h1, h2, h3])
  rw [h1] at hnm; rw [h2] at hia; rw [h3] at hib
  have n3 : (p.k == 3) = false := by simp [h0]
  have n4 : (p.k == 4) = false := by simp [h0]
  have n5 : (p.k == 5) = false := by simp [h0]
  have k3 : decide (p.k ≤ 2) = false := by simp [h0]
  have HRU := Lib.hid (show ruleB p = mergeB p by simp [ruleB, h0])
  clear h0 _hin h1 h2 h3
  cases ho : nameB p.ot with
  | false =>
    rw [ho] at hno
    have HT := Lib.hid (show planB p = (false) by rw [HP.out]; rw [HRU.out]; simp [mergeB, pairB, ho])
    clear HP
    go_enter Tryz.func17, Tryz.ntmps17
    go_wp2_with (first
      | ((with_reducible refine box_k (cs := p.cells) HK.out rfl _ rfl rfl ?_); intro bp u hk; clear HK; have HK := Lib.hid hk; clear hk)
      | (with_reducible refine load_k1 HK.out 0 ckI _ rfl rfl rfl rfl Pl.c0 ?_)
      | (with_reducible refine load_k1 HK.out 0 ckS _ rfl rfl rfl rfl Pl.c1 ?_)
      | (with_reducible refine load_k1 HK.out 0 ckS _ rfl rfl rfl rfl Pl.c2 ?_)
      | (with_reducible refine load_k1 HK.out 0 ckI _ rfl rfl rfl rfl Pl.c3 ?_)
      | (with_reducible refine load_k1 HK.out 0 ckI _ rfl rfl rfl rfl Pl.c4 ?_)
      | (go_at_call 39; (with_reducible refine (hnm _).mono ?_); rintro e u ⟨rfl, hb⟩; have hk := HK.out.call hb; clear hb; clear HK; have HK := Lib.hid hk; clear hk)
      | (go_at_call 39; (with_reducible refine (hno _).mono ?_); rintro e u ⟨rfl, hb⟩; have hk := HK.out.call hb; clear hb; clear HK; have HK := Lib.hid hk; clear hk)
      | (go_at_call 40; (with_reducible refine (hia _).mono ?_); rintro e u ⟨rfl, rfl⟩)
      | (go_at_call 40; (with_reducible refine (hib _).mono ?_); rintro e u ⟨rfl, rfl⟩))
    go_ret
    exact ⟨by rw [HT.out]; first | rfl | simp, HK.out.mf.bel⟩
  | true =>
    rw [ho] at hno
    cases hq : (p.ot.toList == p.nm.toList) with
    | true =>
      have HT := Lib.hid (show planB p = (false) by rw [HP.out]; rw [HRU.out]; simp [mergeB, pairB, eqS, hq])
      clear HP
      go_enter Tryz.func17, Tryz.ntmps17
      go_wp2_with (first
        | ((with_reducible refine box_k (cs := p.cells) HK.out rfl _ rfl rfl ?_); intro bp u hk; clear HK; have HK := Lib.hid hk; clear hk)
        | (with_reducible refine load_k1 HK.out 0 ckI _ rfl rfl rfl rfl Pl.c0 ?_)
        | (with_reducible refine load_k1 HK.out 0 ckS _ rfl rfl rfl rfl Pl.c1 ?_)
        | (with_reducible refine load_k1 HK.out 0 ckS _ rfl rfl rfl rfl Pl.c2 ?_)
        | (with_reducible refine load_k1 HK.out 0 ckI _ rfl rfl rfl rfl Pl.c3 ?_)
        | (with_reducible refine load_k1 HK.out 0 ckI _ rfl rfl rfl rfl Pl.c4 ?_)
        | (go_at_call 39; (with_reducible refine (hnm _).mono ?_); rintro e u ⟨rfl, hb⟩; have hk := HK.out.call hb; clear hb; clear HK; have HK := Lib.hid hk; clear hk)
        | (go_at_call 39; (with_reducible refine (hno _).mono ?_); rintro e u ⟨rfl, hb⟩; have hk := HK.out.call hb; clear hb; clear HK; have HK := Lib.hid hk; clear hk)
        | (go_at_call 40; (with_reducible refine (hia _).mono ?_); rintro e u ⟨rfl, rfl⟩)
        | (go_at_call 40; (with_reducible refine (hib _).mono ?_); rintro e u ⟨rfl, rfl⟩))
      go_ret
      exact ⟨by rw [HT.out]; first | rfl | simp, HK.out.mf.bel⟩
    | false =>
      cases ha : (p.a == 0) with
      | false =>
        have HT := Lib.hid (show planB p = (false) by rw [HP.out]; rw [HRU.out]; simp [mergeB, bareB, ha])
        clear HP
        go_enter Tryz.func17, Tryz.ntmps17
        go_wp2_with (first
          | ((with_reducible refine box_k (cs := p.cells) HK.out rfl _ rfl rfl ?_); intro bp u hk; clear HK; have HK := Lib.hid hk; clear hk)
          | (with_reducible refine load_k1 HK.out 0 ckI _ rfl rfl rfl rfl Pl.c0 ?_)
          | (with_reducible refine load_k1 HK.out 0 ckS _ rfl rfl rfl rfl Pl.c1 ?_)
          | (with_reducible refine load_k1 HK.out 0 ckS _ rfl rfl rfl rfl Pl.c2 ?_)
          | (with_reducible refine load_k1 HK.out 0 ckI _ rfl rfl rfl rfl Pl.c3 ?_)
          | (with_reducible refine load_k1 HK.out 0 ckI _ rfl rfl rfl rfl Pl.c4 ?_)
          | (go_at_call 39; (with_reducible refine (hnm _).mono ?_); rintro e u ⟨rfl, hb⟩; have hk := HK.out.call hb; clear hb; clear HK; have HK := Lib.hid hk; clear hk)
          | (go_at_call 39; (with_reducible refine (hno _).mono ?_); rintro e u ⟨rfl, hb⟩; have hk := HK.out.call hb; clear hb; clear HK; have HK := Lib.hid hk; clear hk)
          | (go_at_call 40; (with_reducible refine (hia _).mono ?_); rintro e u ⟨rfl, rfl⟩)
          | (go_at_call 40; (with_reducible refine (hib _).mono ?_); rintro e u ⟨rfl, rfl⟩))
        go_ret
        exact ⟨by rw [HT.out]; first | rfl | simp, HK.out.mf.bel⟩
      | true =>
        have HT := Lib.hid (show planB p = (p.b == 0) by rw [HP.out]; rw [HRU.out]; simp [mergeB, pairB, eqS, ho, hq, bareB, ha])
        clear HP
        go_enter Tryz.func17, Tryz.ntmps17
        go_wp2_with (first
          | ((with_reducible refine box_k (cs := p.cells) HK.out rfl _ rfl rfl ?_); intro bp u hk; clear HK; have HK := Lib.hid hk; clear hk)
          | (with_reducible refine load_k1 HK.out 0 ckI _ rfl rfl rfl rfl Pl.c0 ?_)
          | (with_reducible refine load_k1 HK.out 0 ckS _ rfl rfl rfl rfl Pl.c1 ?_)
          | (with_reducible refine load_k1 HK.out 0 ckS _ rfl rfl rfl rfl Pl.c2 ?_)
          | (with_reducible refine load_k1 HK.out 0 ckI _ rfl rfl rfl rfl Pl.c3 ?_)
          | (with_reducible refine load_k1 HK.out 0 ckI _ rfl rfl rfl rfl Pl.c4 ?_)
          | (go_at_call 39; (with_reducible refine (hnm _).mono ?_); rintro e u ⟨rfl, hb⟩; have hk := HK.out.call hb; clear hb; clear HK; have HK := Lib.hid hk; clear hk)
          | (go_at_call 39; (with_reducible refine (hno _).mono ?_); rintro e u ⟨rfl, hb⟩; have hk := HK.out.call hb; clear hb; clear HK; have HK := Lib.hid hk; clear hk)
          | (go_at_call 40; (with_reducible refine (hia _).mono ?_); rintro e u ⟨rfl, rfl⟩)
          | (go_at_call 40; (with_reducible refine (hib _).mono ?_); rintro e u ⟨rfl, rfl⟩))
        go_ret
        exact ⟨by rw [HT.out]; first | rfl | simp, HK.out.mf.bel⟩
theorem rpright_any (p : Pl) (hnam : p.nm.size ≤ 1000) (hot : p.ot.size ≤ 1000) (w : World) :
    Calls Tryz.prog 17 #[.agg p.cells.toArray] w fun e w' => e = .returned (.bool (planB p)) ∧ Below w.heap.size w w' := by
  by_cases hin : 1 ≤ p.k ∧ p.k ≤ 6
  · cases h1 : nameB p.nm with
    | false => exact rright_early p hnam hot (.inr (.inl h1)) w
    | true =>
      cases h2 : isB p.a with
      | false => exact rright_early p hnam hot (.inr (.inr (.inl h2))) w
      | true =>
        cases h3 : isB p.b with
        | false => exact rright_early p hnam hot (.inr (.inr (.inr h3))) w
        | true =>
          have : (p.k = 1 ∨ p.k = 2) ∨ p.k = 3 ∨ p.k = 4 ∨ p.k = 5 ∨ p.k = 6 := by omega
          rcases this with h0 | h0 | h0 | h0 | h0
          · exact rright_12 p hnam hot hin h1 h2 h3 h0 w
          · exact rright_3 p hnam hot hin h1 h2 h3 h0 w
          · exact rright_4 p hnam hot hin h1 h2 h3 h0 w
          · exact rright_5 p hnam hot hin h1 h2 h3 h0 w
          · exact rright_6 p hnam hot hin h1 h2 h3 h0 w
  · exact rright_early p hnam hot (.inl hin) w

end Go.Proofs.YtgblnlpfgdbnnaaGreat
