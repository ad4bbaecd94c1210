/- What a kind asks of a plan: the closures of plan.rules, and the map of them; plan.Right; the document's Right. -/
import Derived.Test.YtgblnlpfgdbnnaaGreatZ24
namespace Go.Proofs.YtgblnlpfgdbnnaaGreat
set_option maxRecDepth 100000
open Go.ChangeShapes Go.WideShapes Go.ChangeAt Go.RowKit

def aloneB (p : Pl) : Bool := noS p.ot
def pairB (p : Pl) : Bool := nameB p.ot && !(eqS p.ot p.nm)
def bareB (p : Pl) : Bool := (p.a == 0) && (p.b == 0)
def shiftB (p : Pl) : Bool := aloneB p && (decide (0 ≤ p.a) && (decide (0 ≤ p.b) && !(bareB p)))
def lockB (p : Pl) : Bool := aloneB p && bareB p
def countB (p : Pl) : Bool := aloneB p && decide (p.a ≤ p.b)
def splitB (p : Pl) : Bool := pairB p && (decide (1 ≤ p.a) && (p.b == 0))
def mergeB (p : Pl) : Bool := pairB p && bareB p
def ruleB (p : Pl) : Bool := if p.k = 1 ∨ p.k = 2 then shiftB p else if p.k = 3 then lockB p else if p.k = 4 then countB p else if p.k = 5 then splitB p else if p.k = 6 then mergeB p else false
def planB (p : Pl) : Bool := ruleB p && (nameB p.nm && (isB p.a && isB p.b))
theorem rk1_any (p : Pl) (w : World) : Calls Tryz.prog 72 #[.agg p.cells.toArray] w fun e w' => e = .returned (.bool (aloneB p)) ∧ Below w.heap.size w w' := by
  have HK := Lib.hid (Kg.start w)
  cases h2 : noS p.ot with
  | true =>
    have HT := Lib.hid (show aloneB p = true from h2)
    obtain ⟨h3, h4⟩ := no_list h2
    go_enter Tryz.func72, Tryz.ntmps72
    go_wp2_with (first
      | ((with_reducible refine box_k (cs := p.cells) HK.out rfl _ rfl rfl ?_); intro bp u hk; clear HK; have HK := Lib.hid hk; clear hk)
      | (with_reducible refine load_k1 HK.out 0 ckS _ rfl rfl rfl rfl Pl.c2 ?_))
    go_ret
    exact ⟨by rw [HT.out]; rfl, HK.out.mf.bel⟩
  | false =>
    have HT := Lib.hid (show aloneB p = false from h2)
    obtain ⟨h3, h4⟩ := no_list h2
    go_enter Tryz.func72, Tryz.ntmps72
    go_wp2_with (first
      | ((with_reducible refine box_k (cs := p.cells) HK.out rfl _ rfl rfl ?_); intro bp u hk; clear HK; have HK := Lib.hid hk; clear hk)
      | (with_reducible refine load_k1 HK.out 0 ckS _ rfl rfl rfl rfl Pl.c2 ?_))
    go_ret
    exact ⟨by rw [HT.out]; rfl, HK.out.mf.bel⟩
theorem rk2_any (p : Pl) (hs : p.ot.size ≤ 1000) (w : World) :
    Calls Tryz.prog 73 #[.agg p.cells.toArray] w fun e w' => e = .returned (.bool (pairB p)) ∧ Below w.heap.size w w' := by
  have HK := Lib.hid (Kg.start w)
  have hnm := fname_any p.ot hs
  clear hs
  cases h1 : nameB p.ot with
  | false =>
    have HT := Lib.hid (show pairB p = false by simp [pairB, eqS, h1])
    rw [h1] at hnm
    go_enter Tryz.func73, Tryz.ntmps73
    go_wp2_with (first
      | ((with_reducible refine box_k (cs := p.cells) HK.out rfl _ rfl rfl ?_); intro bp u hk; clear HK; have HK := Lib.hid hk; clear hk)
      | (with_reducible refine load_k1 HK.out 0 ckS _ rfl rfl rfl rfl Pl.c2 ?_)
      | (with_reducible refine load_k1 HK.out 0 ckS _ rfl rfl rfl rfl Pl.c1 ?_)
      | (go_at_call 37; (with_reducible refine (hnm _).mono ?_); rintro e u ⟨rfl, hb⟩; have hk := HK.out.call hb; clear hb; clear HK; have HK := Lib.hid hk; clear hk))
    go_ret
    exact ⟨by rw [HT.out]; rfl, HK.out.mf.bel⟩
  | true =>
    rw [h1] at hnm
    cases h2 : (!(p.ot.toList == p.nm.toList)) with
    | false =>
      have HT := Lib.hid (show pairB p = false by simp [pairB, eqS, h1, h2])
      have h3 : (p.ot.toList == p.nm.toList) = true := by simpa using h2
      go_enter Tryz.func73, Tryz.ntmps73
      go_wp2_with (first
        | ((with_reducible refine box_k (cs := p.cells) HK.out rfl _ rfl rfl ?_); intro bp u hk; clear HK; have HK := Lib.hid hk; clear hk)
        | (with_reducible refine load_k1 HK.out 0 ckS _ rfl rfl rfl rfl Pl.c2 ?_)
        | (with_reducible refine load_k1 HK.out 0 ckS _ rfl rfl rfl rfl Pl.c1 ?_)
        | (go_at_call 37; (with_reducible refine (hnm _).mono ?_); rintro e u ⟨rfl, hb⟩; have hk := HK.out.call hb; clear hb; clear HK; have HK := Lib.hid hk; clear hk))
      go_ret
      exact ⟨by rw [HT.out]; rfl, HK.out.mf.bel⟩
    | true =>
      have h3 : (p.ot.toList == p.nm.toList) = false := by simpa using h2
      have HT := Lib.hid (show pairB p = true by simp [pairB, eqS, h1, h2])
      go_enter Tryz.func73, Tryz.ntmps73
      go_wp2_with (first
        | ((with_reducible refine box_k (cs := p.cells) HK.out rfl _ rfl rfl ?_); intro bp u hk; clear HK; have HK := Lib.hid hk; clear hk)
        | (with_reducible refine load_k1 HK.out 0 ckS _ rfl rfl rfl rfl Pl.c2 ?_)
        | (with_reducible refine load_k1 HK.out 0 ckS _ rfl rfl rfl rfl Pl.c1 ?_)
        | (go_at_call 37; (with_reducible refine (hnm _).mono ?_); rintro e u ⟨rfl, hb⟩; have hk := HK.out.call hb; clear hb; clear HK; have HK := Lib.hid hk; clear hk))
      go_ret
      exact ⟨by rw [HT.out]; rfl, HK.out.mf.bel⟩
theorem rk3_any (p : Pl) (w : World) :
    Calls Tryz.prog 74 #[.agg p.cells.toArray] w fun e w' => e = .returned (.bool (bareB p)) ∧ Below w.heap.size w w' := by
  have HK := Lib.hid (Kg.start w)
  cases h1 : (p.a == 0) with
  | false =>
    have HT := Lib.hid (show bareB p = false by simp [bareB, h1])
    go_enter Tryz.func74, Tryz.ntmps74
    go_wp2_with (first
      | ((with_reducible refine box_k (cs := p.cells) HK.out rfl _ rfl rfl ?_); intro bp u hk; clear HK; have HK := Lib.hid hk; clear hk)
      | (with_reducible refine load_k1 HK.out 0 ckI _ rfl rfl rfl rfl Pl.c3 ?_)
      | (with_reducible refine load_k1 HK.out 0 ckI _ rfl rfl rfl rfl Pl.c4 ?_))
    go_ret
    exact ⟨by rw [HT.out]; rfl, HK.out.mf.bel⟩
  | true =>
    cases h2 : (p.b == 0) with
    | false =>
      have HT := Lib.hid (show bareB p = false by simp [bareB, h1, h2])
      go_enter Tryz.func74, Tryz.ntmps74
      go_wp2_with (first
        | ((with_reducible refine box_k (cs := p.cells) HK.out rfl _ rfl rfl ?_); intro bp u hk; clear HK; have HK := Lib.hid hk; clear hk)
        | (with_reducible refine load_k1 HK.out 0 ckI _ rfl rfl rfl rfl Pl.c3 ?_)
        | (with_reducible refine load_k1 HK.out 0 ckI _ rfl rfl rfl rfl Pl.c4 ?_))
      go_ret
      exact ⟨by rw [HT.out]; rfl, HK.out.mf.bel⟩
    | true =>
      have HT := Lib.hid (show bareB p = true by simp [bareB, h1, h2])
      go_enter Tryz.func74, Tryz.ntmps74
      go_wp2_with (first
        | ((with_reducible refine box_k (cs := p.cells) HK.out rfl _ rfl rfl ?_); intro bp u hk; clear HK; have HK := Lib.hid hk; clear hk)
        | (with_reducible refine load_k1 HK.out 0 ckI _ rfl rfl rfl rfl Pl.c3 ?_)
        | (with_reducible refine load_k1 HK.out 0 ckI _ rfl rfl rfl rfl Pl.c4 ?_))
      go_ret
      exact ⟨by rw [HT.out]; rfl, HK.out.mf.bel⟩
set_option maxHeartbeats 1000000 in
theorem rk4_any (p : Pl) (q1 q3 : Nat) (w : World) (hq1 : w.cell? ⟨q1, 0, none⟩ = some (.func (.func 72) #[] #[])) (hq3 : w.cell? ⟨q3, 0, none⟩ = some (.func (.func 74) #[] #[])) :
    Calls Tryz.prog 75 #[.agg p.cells.toArray, .pointer (some ⟨q1, 0, none⟩), .pointer (some ⟨q3, 0, none⟩)] w fun e w' => e = .returned (.bool (shiftB p)) ∧ Below w.heap.size w w' := by
  have HK := Lib.hid (Kg.start w)
  have HQ1 := Lib.hid hq1; clear hq1
  have HQ3 := Lib.hid hq3; clear hq3
  have hr1 := rk1_any p; have hr3 := rk3_any p
  cases h1 : aloneB p with
  | false =>
    have HT := Lib.hid (show shiftB p = false by simp [shiftB, h1])
    rw [h1] at hr1
    go_enter Tryz.func75, Tryz.ntmps75
    go_wp2_with (first
      | ((with_reducible refine box_k (cs := p.cells) HK.out rfl _ rfl rfl ?_); intro bp u hk; clear HK; have HK := Lib.hid hk; clear hk)
      | (with_reducible refine load_kt ckR _ rfl ((HK.out.mf.bel.cell (cell_lt HQ1.out)).trans HQ1.out) rfl rfl ?_)
      | (with_reducible refine load_kt ckR _ rfl ((HK.out.mf.bel.cell (cell_lt HQ3.out)).trans HQ3.out) rfl rfl ?_)
      | (with_reducible refine load_kr (xs := p.cells) HK.out 0 Tryz.underlying24 rfl p_info _ rfl rfl rfl rfl Pl.all ?_)
      | (with_reducible refine load_k1 HK.out 0 ckI _ rfl rfl rfl rfl Pl.c3 ?_)
      | (with_reducible refine load_k1 HK.out 0 ckI _ rfl rfl rfl rfl Pl.c4 ?_)
      | (go_at_call 72; (with_reducible refine (hr1 _).mono ?_); rintro e u ⟨rfl, hb⟩; have hk := HK.out.call hb; clear hb; clear HK; have HK := Lib.hid hk; clear hk)
      | (go_at_call 74; (with_reducible refine (hr3 _).mono ?_); rintro e u ⟨rfl, hb⟩; have hk := HK.out.call hb; clear hb; clear HK; have HK := Lib.hid hk; clear hk))
    go_ret
    exact ⟨by rw [HT.out]; rfl, HK.out.mf.bel⟩
  | true =>
    rw [h1] at hr1
    cases h2 : decide (0 ≤ p.a) with
    | false =>
      have HT := Lib.hid (show shiftB p = false by simp [shiftB, h1, h2])
      go_enter Tryz.func75, Tryz.ntmps75
      go_wp2_with (first
        | ((with_reducible refine box_k (cs := p.cells) HK.out rfl _ rfl rfl ?_); intro bp u hk; clear HK; have HK := Lib.hid hk; clear hk)
        | (with_reducible refine load_kt ckR _ rfl ((HK.out.mf.bel.cell (cell_lt HQ1.out)).trans HQ1.out) rfl rfl ?_)
        | (with_reducible refine load_kt ckR _ rfl ((HK.out.mf.bel.cell (cell_lt HQ3.out)).trans HQ3.out) rfl rfl ?_)
        | (with_reducible refine load_kr (xs := p.cells) HK.out 0 Tryz.underlying24 rfl p_info _ rfl rfl rfl rfl Pl.all ?_)
        | (with_reducible refine load_k1 HK.out 0 ckI _ rfl rfl rfl rfl Pl.c3 ?_)
        | (with_reducible refine load_k1 HK.out 0 ckI _ rfl rfl rfl rfl Pl.c4 ?_)
        | (go_at_call 72; (with_reducible refine (hr1 _).mono ?_); rintro e u ⟨rfl, hb⟩; have hk := HK.out.call hb; clear hb; clear HK; have HK := Lib.hid hk; clear hk)
        | (go_at_call 74; (with_reducible refine (hr3 _).mono ?_); rintro e u ⟨rfl, hb⟩; have hk := HK.out.call hb; clear hb; clear HK; have HK := Lib.hid hk; clear hk))
      go_ret
      exact ⟨by rw [HT.out]; rfl, HK.out.mf.bel⟩
    | true =>
      cases h3 : decide (0 ≤ p.b) with
      | false =>
        have HT := Lib.hid (show shiftB p = false by simp [shiftB, h1, h2, h3])
        go_enter Tryz.func75, Tryz.ntmps75
        go_wp2_with (first
          | ((with_reducible refine box_k (cs := p.cells) HK.out rfl _ rfl rfl ?_); intro bp u hk; clear HK; have HK := Lib.hid hk; clear hk)
          | (with_reducible refine load_kt ckR _ rfl ((HK.out.mf.bel.cell (cell_lt HQ1.out)).trans HQ1.out) rfl rfl ?_)
          | (with_reducible refine load_kt ckR _ rfl ((HK.out.mf.bel.cell (cell_lt HQ3.out)).trans HQ3.out) rfl rfl ?_)
          | (with_reducible refine load_kr (xs := p.cells) HK.out 0 Tryz.underlying24 rfl p_info _ rfl rfl rfl rfl Pl.all ?_)
          | (with_reducible refine load_k1 HK.out 0 ckI _ rfl rfl rfl rfl Pl.c3 ?_)
          | (with_reducible refine load_k1 HK.out 0 ckI _ rfl rfl rfl rfl Pl.c4 ?_)
          | (go_at_call 72; (with_reducible refine (hr1 _).mono ?_); rintro e u ⟨rfl, hb⟩; have hk := HK.out.call hb; clear hb; clear HK; have HK := Lib.hid hk; clear hk)
          | (go_at_call 74; (with_reducible refine (hr3 _).mono ?_); rintro e u ⟨rfl, hb⟩; have hk := HK.out.call hb; clear hb; clear HK; have HK := Lib.hid hk; clear hk))
        go_ret
        exact ⟨by rw [HT.out]; rfl, HK.out.mf.bel⟩
      | true =>
        cases h4 : (!(bareB p)) with
        | false =>
          have HT := Lib.hid (show shiftB p = false by simp [shiftB, h1, h2, h3, h4])
          have h5 : bareB p = true := by simpa using h4
          rw [h5] at hr3
          go_enter Tryz.func75, Tryz.ntmps75
          go_wp2_with (first
            | ((with_reducible refine box_k (cs := p.cells) HK.out rfl _ rfl rfl ?_); intro bp u hk; clear HK; have HK := Lib.hid hk; clear hk)
            | (with_reducible refine load_kt ckR _ rfl ((HK.out.mf.bel.cell (cell_lt HQ1.out)).trans HQ1.out) rfl rfl ?_)
            | (with_reducible refine load_kt ckR _ rfl ((HK.out.mf.bel.cell (cell_lt HQ3.out)).trans HQ3.out) rfl rfl ?_)
            | (with_reducible refine load_kr (xs := p.cells) HK.out 0 Tryz.underlying24 rfl p_info _ rfl rfl rfl rfl Pl.all ?_)
            | (with_reducible refine load_k1 HK.out 0 ckI _ rfl rfl rfl rfl Pl.c3 ?_)
            | (with_reducible refine load_k1 HK.out 0 ckI _ rfl rfl rfl rfl Pl.c4 ?_)
            | (go_at_call 72; (with_reducible refine (hr1 _).mono ?_); rintro e u ⟨rfl, hb⟩; have hk := HK.out.call hb; clear hb; clear HK; have HK := Lib.hid hk; clear hk)
            | (go_at_call 74; (with_reducible refine (hr3 _).mono ?_); rintro e u ⟨rfl, hb⟩; have hk := HK.out.call hb; clear hb; clear HK; have HK := Lib.hid hk; clear hk))
          go_ret
          exact ⟨by rw [HT.out]; rfl, HK.out.mf.bel⟩
        | true =>
          have h5 : bareB p = false := by simpa using h4
          rw [h5] at hr3
          have HT := Lib.hid (show shiftB p = true by simp [shiftB, h1, h2, h3, h4])
          go_enter Tryz.func75, Tryz.ntmps75
          go_wp2_with (first
            | ((with_reducible refine box_k (cs := p.cells) HK.out rfl _ rfl rfl ?_); intro bp u hk; clear HK; have HK := Lib.hid hk; clear hk)
            | (with_reducible refine load_kt ckR _ rfl ((HK.out.mf.bel.cell (cell_lt HQ1.out)).trans HQ1.out) rfl rfl ?_)
            | (with_reducible refine load_kt ckR _ rfl ((HK.out.mf.bel.cell (cell_lt HQ3.out)).trans HQ3.out) rfl rfl ?_)
            | (with_reducible refine load_kr (xs := p.cells) HK.out 0 Tryz.underlying24 rfl p_info _ rfl rfl rfl rfl Pl.all ?_)
            | (with_reducible refine load_k1 HK.out 0 ckI _ rfl rfl rfl rfl Pl.c3 ?_)
            | (with_reducible refine load_k1 HK.out 0 ckI _ rfl rfl rfl rfl Pl.c4 ?_)
            | (go_at_call 72; (with_reducible refine (hr1 _).mono ?_); rintro e u ⟨rfl, hb⟩; have hk := HK.out.call hb; clear hb; clear HK; have HK := Lib.hid hk; clear hk)
            | (go_at_call 74; (with_reducible refine (hr3 _).mono ?_); rintro e u ⟨rfl, hb⟩; have hk := HK.out.call hb; clear hb; clear HK; have HK := Lib.hid hk; clear hk))
          go_ret
          exact ⟨by rw [HT.out]; rfl, HK.out.mf.bel⟩
theorem rk5_any (p : Pl) (q1 q3 : Nat) (w : World) (hq1 : w.cell? ⟨q1, 0, none⟩ = some (.func (.func 72) #[] #[])) (hq3 : w.cell? ⟨q3, 0, none⟩ = some (.func (.func 74) #[] #[])) :
    Calls Tryz.prog 76 #[.agg p.cells.toArray, .pointer (some ⟨q1, 0, none⟩), .pointer (some ⟨q3, 0, none⟩)] w fun e w' => e = .returned (.bool (lockB p)) ∧ Below w.heap.size w w' := by
  have HK := Lib.hid (Kg.start w)
  have HQ1 := Lib.hid hq1; clear hq1
  have HQ3 := Lib.hid hq3; clear hq3
  have hr1 := rk1_any p; have hr3 := rk3_any p
  cases h1 : aloneB p with
  | false =>
    have HT := Lib.hid (show lockB p = false by simp [lockB, h1])
    rw [h1] at hr1
    go_enter Tryz.func76, Tryz.ntmps76
    go_wp2_with (first
      | ((with_reducible refine box_k (cs := p.cells) HK.out rfl _ rfl rfl ?_); intro bp u hk; clear HK; have HK := Lib.hid hk; clear hk)
      | (with_reducible refine load_kt ckR _ rfl ((HK.out.mf.bel.cell (cell_lt HQ1.out)).trans HQ1.out) rfl rfl ?_)
      | (with_reducible refine load_kt ckR _ rfl ((HK.out.mf.bel.cell (cell_lt HQ3.out)).trans HQ3.out) rfl rfl ?_)
      | (with_reducible refine load_kr (xs := p.cells) HK.out 0 Tryz.underlying24 rfl p_info _ rfl rfl rfl rfl Pl.all ?_)
      | (go_at_call 72; (with_reducible refine (hr1 _).mono ?_); rintro e u ⟨rfl, hb⟩; have hk := HK.out.call hb; clear hb; clear HK; have HK := Lib.hid hk; clear hk)
      | (go_at_call 74; (with_reducible refine (hr3 _).mono ?_); rintro e u ⟨rfl, hb⟩; have hk := HK.out.call hb; clear hb; clear HK; have HK := Lib.hid hk; clear hk))
    go_ret
    exact ⟨by rw [HT.out]; rfl, HK.out.mf.bel⟩
  | true =>
    rw [h1] at hr1
    cases h4 : bareB p with
    | false =>
      have HT := Lib.hid (show lockB p = false by simp [lockB, h1, h4])
      rw [h4] at hr3
      go_enter Tryz.func76, Tryz.ntmps76
      go_wp2_with (first
        | ((with_reducible refine box_k (cs := p.cells) HK.out rfl _ rfl rfl ?_); intro bp u hk; clear HK; have HK := Lib.hid hk; clear hk)
        | (with_reducible refine load_kt ckR _ rfl ((HK.out.mf.bel.cell (cell_lt HQ1.out)).trans HQ1.out) rfl rfl ?_)
        | (with_reducible refine load_kt ckR _ rfl ((HK.out.mf.bel.cell (cell_lt HQ3.out)).trans HQ3.out) rfl rfl ?_)
        | (with_reducible refine load_kr (xs := p.cells) HK.out 0 Tryz.underlying24 rfl p_info _ rfl rfl rfl rfl Pl.all ?_)
        | (go_at_call 72; (with_reducible refine (hr1 _).mono ?_); rintro e u ⟨rfl, hb⟩; have hk := HK.out.call hb; clear hb; clear HK; have HK := Lib.hid hk; clear hk)
        | (go_at_call 74; (with_reducible refine (hr3 _).mono ?_); rintro e u ⟨rfl, hb⟩; have hk := HK.out.call hb; clear hb; clear HK; have HK := Lib.hid hk; clear hk))
      go_ret
      exact ⟨by rw [HT.out]; rfl, HK.out.mf.bel⟩
    | true =>
      rw [h4] at hr3
      have HT := Lib.hid (show lockB p = true by simp [lockB, h1, h4])
      go_enter Tryz.func76, Tryz.ntmps76
      go_wp2_with (first
        | ((with_reducible refine box_k (cs := p.cells) HK.out rfl _ rfl rfl ?_); intro bp u hk; clear HK; have HK := Lib.hid hk; clear hk)
        | (with_reducible refine load_kt ckR _ rfl ((HK.out.mf.bel.cell (cell_lt HQ1.out)).trans HQ1.out) rfl rfl ?_)
        | (with_reducible refine load_kt ckR _ rfl ((HK.out.mf.bel.cell (cell_lt HQ3.out)).trans HQ3.out) rfl rfl ?_)
        | (with_reducible refine load_kr (xs := p.cells) HK.out 0 Tryz.underlying24 rfl p_info _ rfl rfl rfl rfl Pl.all ?_)
        | (go_at_call 72; (with_reducible refine (hr1 _).mono ?_); rintro e u ⟨rfl, hb⟩; have hk := HK.out.call hb; clear hb; clear HK; have HK := Lib.hid hk; clear hk)
        | (go_at_call 74; (with_reducible refine (hr3 _).mono ?_); rintro e u ⟨rfl, hb⟩; have hk := HK.out.call hb; clear hb; clear HK; have HK := Lib.hid hk; clear hk))
      go_ret
      exact ⟨by rw [HT.out]; rfl, HK.out.mf.bel⟩
theorem rk6_any (p : Pl) (q1 : Nat) (w : World) (hq1 : w.cell? ⟨q1, 0, none⟩ = some (.func (.func 72) #[] #[])) :
    Calls Tryz.prog 77 #[.agg p.cells.toArray, .pointer (some ⟨q1, 0, none⟩)] w fun e w' => e = .returned (.bool (countB p)) ∧ Below w.heap.size w w' := by
  have HK := Lib.hid (Kg.start w)
  have HQ1 := Lib.hid hq1; clear hq1
  have hr1 := rk1_any p
  cases h1 : aloneB p with
  | false =>
    have HT := Lib.hid (show countB p = false by simp [countB, h1])
    rw [h1] at hr1
    go_enter Tryz.func77, Tryz.ntmps77
    go_wp2_with (first
      | ((with_reducible refine box_k (cs := p.cells) HK.out rfl _ rfl rfl ?_); intro bp u hk; clear HK; have HK := Lib.hid hk; clear hk)
      | (with_reducible refine load_kt ckR _ rfl ((HK.out.mf.bel.cell (cell_lt HQ1.out)).trans HQ1.out) rfl rfl ?_)
      | (with_reducible refine load_kr (xs := p.cells) HK.out 0 Tryz.underlying24 rfl p_info _ rfl rfl rfl rfl Pl.all ?_)
      | (with_reducible refine load_k1 HK.out 0 ckI _ rfl rfl rfl rfl Pl.c3 ?_)
      | (with_reducible refine load_k1 HK.out 0 ckI _ rfl rfl rfl rfl Pl.c4 ?_)
      | (go_at_call 72; (with_reducible refine (hr1 _).mono ?_); rintro e u ⟨rfl, hb⟩; have hk := HK.out.call hb; clear hb; clear HK; have HK := Lib.hid hk; clear hk))
    go_ret
    exact ⟨by rw [HT.out]; rfl, HK.out.mf.bel⟩
  | true =>
    rw [h1] at hr1
    cases h2 : decide (p.a ≤ p.b) with
    | false =>
      have HT := Lib.hid (show countB p = false by simp [countB, h1, h2])
      go_enter Tryz.func77, Tryz.ntmps77
      go_wp2_with (first
        | ((with_reducible refine box_k (cs := p.cells) HK.out rfl _ rfl rfl ?_); intro bp u hk; clear HK; have HK := Lib.hid hk; clear hk)
        | (with_reducible refine load_kt ckR _ rfl ((HK.out.mf.bel.cell (cell_lt HQ1.out)).trans HQ1.out) rfl rfl ?_)
        | (with_reducible refine load_kr (xs := p.cells) HK.out 0 Tryz.underlying24 rfl p_info _ rfl rfl rfl rfl Pl.all ?_)
        | (with_reducible refine load_k1 HK.out 0 ckI _ rfl rfl rfl rfl Pl.c3 ?_)
        | (with_reducible refine load_k1 HK.out 0 ckI _ rfl rfl rfl rfl Pl.c4 ?_)
        | (go_at_call 72; (with_reducible refine (hr1 _).mono ?_); rintro e u ⟨rfl, hb⟩; have hk := HK.out.call hb; clear hb; clear HK; have HK := Lib.hid hk; clear hk))
      go_ret
      exact ⟨by rw [HT.out]; rfl, HK.out.mf.bel⟩
    | true =>
      have HT := Lib.hid (show countB p = true by simp [countB, h1, h2])
      go_enter Tryz.func77, Tryz.ntmps77
      go_wp2_with (first
        | ((with_reducible refine box_k (cs := p.cells) HK.out rfl _ rfl rfl ?_); intro bp u hk; clear HK; have HK := Lib.hid hk; clear hk)
        | (with_reducible refine load_kt ckR _ rfl ((HK.out.mf.bel.cell (cell_lt HQ1.out)).trans HQ1.out) rfl rfl ?_)
        | (with_reducible refine load_kr (xs := p.cells) HK.out 0 Tryz.underlying24 rfl p_info _ rfl rfl rfl rfl Pl.all ?_)
        | (with_reducible refine load_k1 HK.out 0 ckI _ rfl rfl rfl rfl Pl.c3 ?_)
        | (with_reducible refine load_k1 HK.out 0 ckI _ rfl rfl rfl rfl Pl.c4 ?_)
        | (go_at_call 72; (with_reducible refine (hr1 _).mono ?_); rintro e u ⟨rfl, hb⟩; have hk := HK.out.call hb; clear hb; clear HK; have HK := Lib.hid hk; clear hk))
      go_ret
      exact ⟨by rw [HT.out]; rfl, HK.out.mf.bel⟩
theorem rk7_any (p : Pl) (hs : p.ot.size ≤ 1000) (q2 : Nat) (w : World) (hq2 : w.cell? ⟨q2, 0, none⟩ = some (.func (.func 73) #[] #[])) :
    Calls Tryz.prog 78 #[.agg p.cells.toArray, .pointer (some ⟨q2, 0, none⟩)] w fun e w' => e = .returned (.bool (splitB p)) ∧ Below w.heap.size w w' := by
  have HK := Lib.hid (Kg.start w)
  have HQ2 := Lib.hid hq2; clear hq2
  have hr2 := rk2_any p hs
  clear hs
  cases h1 : pairB p with
  | false =>
    have HT := Lib.hid (show splitB p = false by simp [splitB, h1])
    rw [h1] at hr2
    go_enter Tryz.func78, Tryz.ntmps78
    go_wp2_with (first
      | ((with_reducible refine box_k (cs := p.cells) HK.out rfl _ rfl rfl ?_); intro bp u hk; clear HK; have HK := Lib.hid hk; clear hk)
      | (with_reducible refine load_kt ckR _ rfl ((HK.out.mf.bel.cell (cell_lt HQ2.out)).trans HQ2.out) rfl rfl ?_)
      | (with_reducible refine load_kr (xs := p.cells) HK.out 0 Tryz.underlying24 rfl p_info _ rfl rfl rfl rfl Pl.all ?_)
      | (with_reducible refine load_k1 HK.out 0 ckI _ rfl rfl rfl rfl Pl.c3 ?_)
      | (with_reducible refine load_k1 HK.out 0 ckI _ rfl rfl rfl rfl Pl.c4 ?_)
      | (go_at_call 73; (with_reducible refine (hr2 _).mono ?_); rintro e u ⟨rfl, hb⟩; have hk := HK.out.call hb; clear hb; clear HK; have HK := Lib.hid hk; clear hk))
    go_ret
    exact ⟨by rw [HT.out]; rfl, HK.out.mf.bel⟩
  | true =>
    rw [h1] at hr2
    cases h2 : decide (1 ≤ p.a) with
    | false =>
      have HT := Lib.hid (show splitB p = false by simp [splitB, h1, h2])
      go_enter Tryz.func78, Tryz.ntmps78
      go_wp2_with (first
        | ((with_reducible refine box_k (cs := p.cells) HK.out rfl _ rfl rfl ?_); intro bp u hk; clear HK; have HK := Lib.hid hk; clear hk)
        | (with_reducible refine load_kt ckR _ rfl ((HK.out.mf.bel.cell (cell_lt HQ2.out)).trans HQ2.out) rfl rfl ?_)
        | (with_reducible refine load_kr (xs := p.cells) HK.out 0 Tryz.underlying24 rfl p_info _ rfl rfl rfl rfl Pl.all ?_)
        | (with_reducible refine load_k1 HK.out 0 ckI _ rfl rfl rfl rfl Pl.c3 ?_)
        | (with_reducible refine load_k1 HK.out 0 ckI _ rfl rfl rfl rfl Pl.c4 ?_)
        | (go_at_call 73; (with_reducible refine (hr2 _).mono ?_); rintro e u ⟨rfl, hb⟩; have hk := HK.out.call hb; clear hb; clear HK; have HK := Lib.hid hk; clear hk))
      go_ret
      exact ⟨by rw [HT.out]; rfl, HK.out.mf.bel⟩
    | true =>
      cases h3 : (p.b == 0) with
      | false =>
        have HT := Lib.hid (show splitB p = false by simp [splitB, h1, h2, h3])
        go_enter Tryz.func78, Tryz.ntmps78
        go_wp2_with (first
          | ((with_reducible refine box_k (cs := p.cells) HK.out rfl _ rfl rfl ?_); intro bp u hk; clear HK; have HK := Lib.hid hk; clear hk)
          | (with_reducible refine load_kt ckR _ rfl ((HK.out.mf.bel.cell (cell_lt HQ2.out)).trans HQ2.out) rfl rfl ?_)
          | (with_reducible refine load_kr (xs := p.cells) HK.out 0 Tryz.underlying24 rfl p_info _ rfl rfl rfl rfl Pl.all ?_)
          | (with_reducible refine load_k1 HK.out 0 ckI _ rfl rfl rfl rfl Pl.c3 ?_)
          | (with_reducible refine load_k1 HK.out 0 ckI _ rfl rfl rfl rfl Pl.c4 ?_)
          | (go_at_call 73; (with_reducible refine (hr2 _).mono ?_); rintro e u ⟨rfl, hb⟩; have hk := HK.out.call hb; clear hb; clear HK; have HK := Lib.hid hk; clear hk))
        go_ret
        exact ⟨by rw [HT.out]; rfl, HK.out.mf.bel⟩
      | true =>
        have HT := Lib.hid (show splitB p = true by simp [splitB, h1, h2, h3])
        go_enter Tryz.func78, Tryz.ntmps78
        go_wp2_with (first
          | ((with_reducible refine box_k (cs := p.cells) HK.out rfl _ rfl rfl ?_); intro bp u hk; clear HK; have HK := Lib.hid hk; clear hk)
          | (with_reducible refine load_kt ckR _ rfl ((HK.out.mf.bel.cell (cell_lt HQ2.out)).trans HQ2.out) rfl rfl ?_)
          | (with_reducible refine load_kr (xs := p.cells) HK.out 0 Tryz.underlying24 rfl p_info _ rfl rfl rfl rfl Pl.all ?_)
          | (with_reducible refine load_k1 HK.out 0 ckI _ rfl rfl rfl rfl Pl.c3 ?_)
          | (with_reducible refine load_k1 HK.out 0 ckI _ rfl rfl rfl rfl Pl.c4 ?_)
          | (go_at_call 73; (with_reducible refine (hr2 _).mono ?_); rintro e u ⟨rfl, hb⟩; have hk := HK.out.call hb; clear hb; clear HK; have HK := Lib.hid hk; clear hk))
        go_ret
        exact ⟨by rw [HT.out]; rfl, HK.out.mf.bel⟩
theorem rk8_any (p : Pl) (hs : p.ot.size ≤ 1000) (q2 q3 : Nat) (w : World) (hq2 : w.cell? ⟨q2, 0, none⟩ = some (.func (.func 73) #[] #[])) (hq3 : w.cell? ⟨q3, 0, none⟩ = some (.func (.func 74) #[] #[])) :
    Calls Tryz.prog 79 #[.agg p.cells.toArray, .pointer (some ⟨q2, 0, none⟩), .pointer (some ⟨q3, 0, none⟩)] w fun e w' => e = .returned (.bool (mergeB p)) ∧ Below w.heap.size w w' := by
  have HK := Lib.hid (Kg.start w)
  have HQ2 := Lib.hid hq2; clear hq2
  have HQ3 := Lib.hid hq3; clear hq3
  have hr2 := rk2_any p hs; have hr3 := rk3_any p
  clear hs
  cases h1 : pairB p with
  | false =>
    have HT := Lib.hid (show mergeB p = false by simp [mergeB, h1])
    rw [h1] at hr2
    go_enter Tryz.func79, Tryz.ntmps79
    go_wp2_with (first
      | ((with_reducible refine box_k (cs := p.cells) HK.out rfl _ rfl rfl ?_); intro bp u hk; clear HK; have HK := Lib.hid hk; clear hk)
      | (with_reducible refine load_kt ckR _ rfl ((HK.out.mf.bel.cell (cell_lt HQ2.out)).trans HQ2.out) rfl rfl ?_)
      | (with_reducible refine load_kt ckR _ rfl ((HK.out.mf.bel.cell (cell_lt HQ3.out)).trans HQ3.out) rfl rfl ?_)
      | (with_reducible refine load_kr (xs := p.cells) HK.out 0 Tryz.underlying24 rfl p_info _ rfl rfl rfl rfl Pl.all ?_)
      | (go_at_call 73; (with_reducible refine (hr2 _).mono ?_); rintro e u ⟨rfl, hb⟩; have hk := HK.out.call hb; clear hb; clear HK; have HK := Lib.hid hk; clear hk)
      | (go_at_call 74; (with_reducible refine (hr3 _).mono ?_); rintro e u ⟨rfl, hb⟩; have hk := HK.out.call hb; clear hb; clear HK; have HK := Lib.hid hk; clear hk))
    go_ret
    exact ⟨by rw [HT.out]; rfl, HK.out.mf.bel⟩
  | true =>
    rw [h1] at hr2
    cases h4 : bareB p with
    | false =>
      have HT := Lib.hid (show mergeB p = false by simp [mergeB, h1, h4])
      rw [h4] at hr3
      go_enter Tryz.func79, Tryz.ntmps79
      go_wp2_with (first
        | ((with_reducible refine box_k (cs := p.cells) HK.out rfl _ rfl rfl ?_); intro bp u hk; clear HK; have HK := Lib.hid hk; clear hk)
        | (with_reducible refine load_kt ckR _ rfl ((HK.out.mf.bel.cell (cell_lt HQ2.out)).trans HQ2.out) rfl rfl ?_)
        | (with_reducible refine load_kt ckR _ rfl ((HK.out.mf.bel.cell (cell_lt HQ3.out)).trans HQ3.out) rfl rfl ?_)
        | (with_reducible refine load_kr (xs := p.cells) HK.out 0 Tryz.underlying24 rfl p_info _ rfl rfl rfl rfl Pl.all ?_)
        | (go_at_call 73; (with_reducible refine (hr2 _).mono ?_); rintro e u ⟨rfl, hb⟩; have hk := HK.out.call hb; clear hb; clear HK; have HK := Lib.hid hk; clear hk)
        | (go_at_call 74; (with_reducible refine (hr3 _).mono ?_); rintro e u ⟨rfl, hb⟩; have hk := HK.out.call hb; clear hb; clear HK; have HK := Lib.hid hk; clear hk))
      go_ret
      exact ⟨by rw [HT.out]; rfl, HK.out.mf.bel⟩
    | true =>
      rw [h4] at hr3
      have HT := Lib.hid (show mergeB p = true by simp [mergeB, h1, h4])
      go_enter Tryz.func79, Tryz.ntmps79
      go_wp2_with (first
        | ((with_reducible refine box_k (cs := p.cells) HK.out rfl _ rfl rfl ?_); intro bp u hk; clear HK; have HK := Lib.hid hk; clear hk)
        | (with_reducible refine load_kt ckR _ rfl ((HK.out.mf.bel.cell (cell_lt HQ2.out)).trans HQ2.out) rfl rfl ?_)
        | (with_reducible refine load_kt ckR _ rfl ((HK.out.mf.bel.cell (cell_lt HQ3.out)).trans HQ3.out) rfl rfl ?_)
        | (with_reducible refine load_kr (xs := p.cells) HK.out 0 Tryz.underlying24 rfl p_info _ rfl rfl rfl rfl Pl.all ?_)
        | (go_at_call 73; (with_reducible refine (hr2 _).mono ?_); rintro e u ⟨rfl, hb⟩; have hk := HK.out.call hb; clear hb; clear HK; have HK := Lib.hid hk; clear hk)
        | (go_at_call 74; (with_reducible refine (hr3 _).mono ?_); rintro e u ⟨rfl, hb⟩; have hk := HK.out.call hb; clear hb; clear HK; have HK := Lib.hid hk; clear hk))
      go_ret
      exact ⟨by rw [HT.out]; rfl, HK.out.mf.bel⟩
def rvs (q1 q3 : Nat) : Value := .func (.func 75) #[] #[.pointer (some ⟨q1, 0, none⟩), .pointer (some ⟨q3, 0, none⟩)]
def rv5 (q1 q3 : Nat) : Value := .func (.func 76) #[] #[.pointer (some ⟨q1, 0, none⟩), .pointer (some ⟨q3, 0, none⟩)]
def rv6 (q1 : Nat) : Value := .func (.func 77) #[] #[.pointer (some ⟨q1, 0, none⟩)]
def rv7 (q2 : Nat) : Value := .func (.func 78) #[] #[.pointer (some ⟨q2, 0, none⟩)]
def rv8 (q2 q3 : Nat) : Value := .func (.func 79) #[] #[.pointer (some ⟨q2, 0, none⟩), .pointer (some ⟨q3, 0, none⟩)]
def rtab (q1 q2 q3 : Nat) (k : Int) : Option Value := if k = 1 ∨ k = 2 then some (rvs q1 q3) else if k = 3 then some (rv5 q1 q3) else if k = 4 then some (rv6 q1) else if k = 5 then some (rv7 q2) else if k = 6 then some (rv8 q2 q3) else none
/-- What plan.rules made. -/
structure RM (w : World) (b q1 q2 q3 : Nat) (u : World) : Prop where
  bel : Below w.heap.size w u
  map : FM u b 6 (rtab q1 q2 q3)
  new : w.heap.size ≤ b
  n1 : w.heap.size ≤ q1
  n2 : w.heap.size ≤ q2
  n3 : w.heap.size ≤ q3
  c1 : u.cell? ⟨q1, 0, none⟩ = some (.func (.func 72) #[] #[])
  c2 : u.cell? ⟨q2, 0, none⟩ = some (.func (.func 73) #[] #[])
  c3 : u.cell? ⟨q3, 0, none⟩ = some (.func (.func 74) #[] #[])
theorem fnR_zero : (Tryz.prog.info? 46).bind (·.zero) = some .nilFunc := by kernel_rfl
set_option maxHeartbeats 1000000 in
theorem rules_any (w : World) : Calls Tryz.prog 36 #[] w fun e u => ∃ b q1 q2 q3, e = .returned (.map (some b)) ∧ RM w b q1 q2 q3 u := by
  have hmf : ∀ (fn : Fn) (first cap : Array Value) (w : World), (Instr.makeFunc fn first cap).run Tryz.prog w = .ok (.func fn first cap) w := fun _ _ _ _ => rfl
  have HK := Lib.hid (Kg.start w)
  have T1 := True.intro; have T2 := True.intro; have T3 := True.intro
  go_enter Tryz.func36, Tryz.ntmps36
  go_wp2_with (first
    | (clear T1; (with_reducible refine alloc_kf HK.out fnR_zero rfl rfl ?_); intro q1 u hk; clear HK; have HK := Lib.hid hk; clear hk)
    | (clear T2; (with_reducible refine alloc_kf HK.out fnR_zero rfl rfl ?_); intro q2 u hk; clear HK; have HK := Lib.hid hk; clear hk)
    | (clear T3; (with_reducible refine alloc_kf HK.out fnR_zero rfl rfl ?_); intro q3 u hk; clear HK; have HK := Lib.hid hk; clear hk)
    | ((with_reducible refine store_kf HK.out 0 (.inl rfl) rfl rfl _ _ rfl rfl rfl rfl ?_); intro u hk; simp only [List.set_cons_zero] at hk; clear HK; have HK := Lib.hid hk; clear hk)
    | (with_reducible refine load_k1 HK.out 0 ckR _ rfl rfl rfl rfl rfl ?_)
    | ((with_reducible refine make_fmR HK.out rfl rfl ?_); intro b u hk; clear HK; have HK := Lib.hid hk; clear hk)
    | ((with_reducible refine put_fmR HK.out 0 rfl (by decide) rfl rfl _ _ _ rfl (by decide) rfl rfl rfl ?_); intro u hk; simp only [List.set_cons_zero] at hk; clear HK; have HK := Lib.hid hk; clear hk))
  go_ret
  exact ⟨b, q1, q2, q3, rfl, HK.out.mf.bel, (HK.out.fm 0 rfl).as fun k => (by
    unfold rtab rvs rv5 rv6 rv7 rv8
    by_cases h1 : k = 1
    · subst h1; rfl
    · by_cases h2 : k = 2
      · subst h2; rfl
      · by_cases h3 : k = 3
        · subst h3; rfl
        · by_cases h4 : k = 4
          · subst h4; rfl
          · by_cases h5 : k = 5
            · subst h5; rfl
            · by_cases h6 : k = 6
              · subst h6; rfl
              · simp [h1, h2, h3, h4, h5, h6]), (HK.out.cov _ List.mem_cons_self _ rfl).resolve_left id, (HK.out.cov _ (List.mem_of_getElem? (i := 3) rfl) _ rfl).resolve_left id, (HK.out.cov _ (List.mem_of_getElem? (i := 2) rfl) _ rfl).resolve_left id, (HK.out.cov _ (List.mem_of_getElem? (i := 1) rfl) _ rfl).resolve_left id, (HK.out.celAt 3 rfl).cell rfl, (HK.out.celAt 2 rfl).cell rfl, (HK.out.celAt 1 rfl).cell rfl⟩

end Go.Proofs.YtgblnlpfgdbnnaaGreat
