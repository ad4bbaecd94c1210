/- usufructlaw10.WireJoins returns true for every input: what is left of a join is the join of what is left; its residue's holds are the join of the residues' holds. No condition. -/
import Derived.Test.YtofngihdnjgmeaaGreatY01
import Derived.Test.YtofngihdnjgmeaaGreatY02
import Derived.Test.YtofngihdnjgmeaaGreatY03
import Derived.Test.YtofngihdnjgmeaaGreatY06
import Derived.Test.YtofngihdnjgmeaaGreatY07
import Derived.Test.YtofngihdnjgmeaaGreatY09
import Derived.Test.YtofngihdnjgmeaaGreatY11
import Derived.Test.YtofngihdnjgmeaaGreatY12
import Derived.Test.YtofngihdnjgmeaaGreatY14
import Derived.Test.YtofngihdnjgmeaaGreatY18
import Derived.Test.YtofngihdnjgmeaaGreatY21
import Derived.Test.YtofngihdnjgmeaaGreatY26
import Derived.Test.YtofngihdnjgmeaaGreatY27A
import Derived.Test.YtofngihdnjgmeaaGreatY28
import Derived.Test.YtofngihdnjgmeaaGreatY31
import Derived.Test.YtofngihdnjgmeaaGreatY32
import Derived.Test.YtofngihdnjgmeaaGreatY39
import Derived.Test.YtofngihdnjgmeaaGreatY40
import Derived.Test.YtofngihdnjgmeaaGreatY41
import Derived.WalkKit
import Derived.ProofKit
import Derived.OpenShut
import Derived.ChangeOld
import Derived.Below
import Derived.Maps.OwnSet
import Derived.Maps.Views
import Derived.Maps.AppendAt
import Derived.OwnWalk
import Derived.Laws.OwnMore
import Derived.Deep.Slices
import Derived.ChangeSlices
import Derived.Laws.AppendOwn
import Derived.Lib.Hide
import Derived.Deep.RegionHeld3
import Derived.Deep.MidRow
import Derived.Deep.QuietTactic
import Derived.BigQuiet
import Derived.Laws.StructEq
import Derived.WalkMore
import Derived.LoopTactic
import Derived.Defers
import Derived.Recover
import Derived.WalkSmall
import Derived.Lib.AppendZeros
import Derived.Deep.OwnRows
import Derived.Lib.SliceRun
import Derived.Shelf.SlSortCmp.WholeK
import Derived.Shelf.SlSortCmp.NoneTotal
import Derived.DeepKeys4
namespace Go.Proofs.YtofngihdnjgmeaaGreat.wireJoins
open Go.ChangeShapes Go.WideShapes Go.ChangeAt Go.RowKit
set_option linter.unusedVariables false

theorem own : ownKnob Tryz.prog.godebug = none := by kernel_rfl
theorem laidOut : laidOutB Tryz.prog = true := by kernel_rfl

set_option maxRecDepth 100000 in
set_option maxHeartbeats 4000000 in
theorem walk (w : World) (a0 : Int) (w0 : (Lit.int .i64 a0).wf = true) (p1 : Pf) (A1 : Option Addr) (c1 : Nat) (hp1 : p1.full) (hd1 : Came w A1 p1.hs.length p1.hs) (hc1 : p1.hs.length ≤ c1) (hw1 : ∀ z ∈ p1.C, (Lit.int .i64 z).wf = true) (p2 : Pf) (A2 : Option Addr) (c2 : Nat) (hp2 : p2.full) (hd2 : Came w A2 p2.hs.length p2.hs) (hc2 : p2.hs.length ≤ c2) (hw2 : ∀ z ∈ p2.C, (Lit.int .i64 z).wf = true) :
    Calls Tryz.prog 6 #[.int .i64 a0, .agg (p1.fd A1 c1).cells.toArray, .agg (p2.fd A2 c2).cells.toArray] w fun e w' => e = .returned (.bool true) ∧ Below w.heap.size w w' := by
  have HK0 := KeepF.start (w := w) (rows := []) (by simp)
  have TJ := True.intro; have TX := True.intro; have TY := True.intro; have TZ := True.intro; have TK := True.intro; have RP := True.intro; have RQ := True.intro; have RR := True.intro
  cases hfew : (fewP p1 && fewP p2) with
  | false =>
    have HFEW := Lib.hid hfew
    have HF := Lib.hid hp1; have HG := Lib.hid hp2; clear hp1 hp2
    have HK := Lib.hid HK0
    clear hd1 hd2 HK0 hfew
    go_enter Tryz.func6, Tryz.ntmps6
    go_wp2_with (first
      | (with_reducible refine box_f HK.out rfl _ rfl rfl ?_; intro b1 u hk; clear HK; have HK := Lib.hid hk; clear hk; with_reducible refine box_f HK.out rfl _ rfl rfl ?_; intro b2 u hk; clear HK; have HK := Lib.hid hk; clear hk)
      | (with_reducible refine load_fr HK.out 1 Tryz.underlying33 rfl (Pf.infoF HF.out) _ rfl rfl rfl rfl Pf.all ?_)
      | (with_reducible refine load_fr HK.out 0 Tryz.underlying33 rfl (Pf.infoF HG.out) _ rfl rfl rfl rfl Pf.all ?_)
      | (with_reducible refine build_f2 HK.out rfl _ _ rfl HF.out HG.out rfl rfl ?_; intro bs u hk; clear HK; have HK := Lib.hid hk; clear hk)
      | (go_at_call 8; (with_reducible refine (few_f2 p1 p2 HF.out HG.out A1 A2 c1 c2 _ _ HFEW.out _ (HK.out.get 0 rfl)).mono ?_); rintro e u ⟨rfl, hb⟩; have hk := HK.out.call hb; clear hb; clear HK; have HK := Lib.hid hk; clear hk)
      | (go_at_call 9; (with_reducible refine (awake_any _).mono ?_); rintro e u ⟨rfl, hb⟩; have hk := HK.out.call hb; clear hb; clear HK; have HK := Lib.hid hk; clear hk))
    go_ret
    exact ⟨rfl, HK.out.bel⟩
  | true =>
    have hfe : fewP p1 = true ∧ fewP p2 = true := by simpa using hfew
    obtain ⟨z1, z2⟩ := few_parts hfe.1
    obtain ⟨z3, z4⟩ := few_parts hfe.2
    have hrow1 := hd1.row (by omega)
    have hrow2 := hd2.row (by omega)
    have HFEW := Lib.hid hfew
    have HF := Lib.hid hp1; have HG := Lib.hid hp2
    have HK := Lib.hid (KeepF.start (w := w) (rows := [(A1, p1.hs.length, p1.hs), (A2, p2.hs.length, p2.hs)]) (by simpa using ⟨hrow1, hrow2⟩))
    have hN1 : p1.nm.size ≤ 1000 := by omega
    have hN2 : p2.nm.size ≤ 1000 := by omega
    clear HK0 hd1 hd2 hrow1 hrow2 hfew hfe z1 z2 z3 z4
    by_cases h1 : a0 < 1
    · have G1 := Lib.hid (show decide (a0 < 1) = true by simpa using h1)
      clear hp1 hp2 hN1 hN2 h1
      go_enter Tryz.func6, Tryz.ntmps6
      go_wp2_with (first
        | (with_reducible refine box_f HK.out rfl _ rfl rfl ?_; intro b1 u hk; clear HK; have HK := Lib.hid hk; clear hk; with_reducible refine box_f HK.out rfl _ rfl rfl ?_; intro b2 u hk; clear HK; have HK := Lib.hid hk; clear hk)
        | (with_reducible refine load_fr HK.out 1 Tryz.underlying33 rfl (Pf.infoF HF.out) _ rfl rfl rfl rfl Pf.all ?_)
        | (with_reducible refine load_fr HK.out 0 Tryz.underlying33 rfl (Pf.infoF HG.out) _ rfl rfl rfl rfl Pf.all ?_)
        | (with_reducible refine build_f2 HK.out rfl _ _ rfl HF.out HG.out rfl rfl ?_; intro bs u hk; clear HK; have HK := Lib.hid hk; clear hk)
        | (go_at_call 8; (with_reducible refine (few_f2 p1 p2 HF.out HG.out A1 A2 c1 c2 _ _ HFEW.out _ (HK.out.get 0 rfl)).mono ?_); rintro e u ⟨rfl, hb⟩; have hk := HK.out.call hb; clear hb; clear HK; have HK := Lib.hid hk; clear hk)
        | (with_reducible refine lss_want G1.out _ _ _ rfl rfl rfl rfl ?_)
        | (go_at_call 9; (with_reducible refine (awake_any _).mono ?_); rintro e u ⟨rfl, hb⟩; have hk := HK.out.call hb; clear hb; clear HK; have HK := Lib.hid hk; clear hk))
      go_ret
      exact ⟨rfl, HK.out.bel⟩
    by_cases h3 : 3 < a0
    · have G1 := Lib.hid (show decide (a0 < 1) = false by simpa using h1)
      have G3 := Lib.hid (show decide (3 < a0) = true by simpa using h3)
      clear hp1 hp2 hN1 hN2 h1 h3
      go_enter Tryz.func6, Tryz.ntmps6
      go_wp2_with (first
        | (with_reducible refine box_f HK.out rfl _ rfl rfl ?_; intro b1 u hk; clear HK; have HK := Lib.hid hk; clear hk; with_reducible refine box_f HK.out rfl _ rfl rfl ?_; intro b2 u hk; clear HK; have HK := Lib.hid hk; clear hk)
        | (with_reducible refine load_fr HK.out 1 Tryz.underlying33 rfl (Pf.infoF HF.out) _ rfl rfl rfl rfl Pf.all ?_)
        | (with_reducible refine load_fr HK.out 0 Tryz.underlying33 rfl (Pf.infoF HG.out) _ rfl rfl rfl rfl Pf.all ?_)
        | (with_reducible refine build_f2 HK.out rfl _ _ rfl HF.out HG.out rfl rfl ?_; intro bs u hk; clear HK; have HK := Lib.hid hk; clear hk)
        | (go_at_call 8; (with_reducible refine (few_f2 p1 p2 HF.out HG.out A1 A2 c1 c2 _ _ HFEW.out _ (HK.out.get 0 rfl)).mono ?_); rintro e u ⟨rfl, hb⟩; have hk := HK.out.call hb; clear hb; clear HK; have HK := Lib.hid hk; clear hk)
        | (with_reducible refine lss_want G1.out _ _ _ rfl rfl rfl rfl ?_)
        | (with_reducible refine gtr_want G3.out _ _ _ rfl rfl rfl rfl ?_)
        | (go_at_call 9; (with_reducible refine (awake_any _).mono ?_); rintro e u ⟨rfl, hb⟩; have hk := HK.out.call hb; clear hb; clear HK; have HK := Lib.hid hk; clear hk))
      go_ret
      exact ⟨rfl, HK.out.bel⟩
    have G1 := Lib.hid (show decide (a0 < 1) = false by simpa using h1)
    have G3 := Lib.hid (show decide (3 < a0) = false by simpa using h3)
    have hvb : verB a0 = true := by simp [verB]; omega
    clear h1 h3
    cases hr1 : rightP p1 with
    | false =>
      have hra := fun w h => rright_p p1 hp1 hN1 A1 c1 false hr1 w h
      clear hp1 hp2 hN1 hN2 hr1 hvb
      go_enter Tryz.func6, Tryz.ntmps6
      go_wp2_with (first
        | (with_reducible refine box_f HK.out rfl _ rfl rfl ?_; intro b1 u hk; clear HK; have HK := Lib.hid hk; clear hk; with_reducible refine box_f HK.out rfl _ rfl rfl ?_; intro b2 u hk; clear HK; have HK := Lib.hid hk; clear hk)
        | (with_reducible refine load_fr HK.out 1 Tryz.underlying33 rfl (Pf.infoF HF.out) _ rfl rfl rfl rfl Pf.all ?_)
        | (with_reducible refine load_fr HK.out 0 Tryz.underlying33 rfl (Pf.infoF HG.out) _ rfl rfl rfl rfl Pf.all ?_)
        | (with_reducible refine build_f2 HK.out rfl _ _ rfl HF.out HG.out rfl rfl ?_; intro bs u hk; clear HK; have HK := Lib.hid hk; clear hk)
        | (go_at_call 8; (with_reducible refine (few_f2 p1 p2 HF.out HG.out A1 A2 c1 c2 _ _ HFEW.out _ (HK.out.get 0 rfl)).mono ?_); rintro e u ⟨rfl, hb⟩; have hk := HK.out.call hb; clear hb; clear HK; have HK := Lib.hid hk; clear hk)
        | (with_reducible refine lss_want G1.out _ _ _ rfl rfl rfl rfl ?_)
        | (with_reducible refine gtr_want G3.out _ _ _ rfl rfl rfl rfl ?_)
        | (with_reducible refine load_fr HK.out 2 Tryz.underlying33 rfl (Pf.infoF HF.out) _ rfl rfl rfl rfl Pf.all ?_)
        | (go_at_call 16; (with_reducible refine (hra _ (HK.out.rowAt 0 rfl)).mono ?_); rintro e u ⟨rfl, hb⟩; have hk := HK.out.call hb; clear hb; clear HK; have HK := Lib.hid hk; clear hk)
        | (go_at_call 9; (with_reducible refine (awake_any _).mono ?_); rintro e u ⟨rfl, hb⟩; have hk := HK.out.call hb; clear hb; clear HK; have HK := Lib.hid hk; clear hk))
      go_ret
      exact ⟨rfl, HK.out.bel⟩
    | true =>
      have hra := fun w h => rright_p p1 hp1 hN1 A1 c1 true hr1 w h
      cases hr2 : rightP p2 with
      | false =>
        have hrb := fun w h => rright_p p2 hp2 hN2 A2 c2 false hr2 w h
        clear hp1 hp2 hN1 hN2 hr1 hr2 hvb
        go_enter Tryz.func6, Tryz.ntmps6
        go_wp2_with (first
          | (with_reducible refine box_f HK.out rfl _ rfl rfl ?_; intro b1 u hk; clear HK; have HK := Lib.hid hk; clear hk; with_reducible refine box_f HK.out rfl _ rfl rfl ?_; intro b2 u hk; clear HK; have HK := Lib.hid hk; clear hk)
          | (with_reducible refine load_fr HK.out 1 Tryz.underlying33 rfl (Pf.infoF HF.out) _ rfl rfl rfl rfl Pf.all ?_)
          | (with_reducible refine load_fr HK.out 0 Tryz.underlying33 rfl (Pf.infoF HG.out) _ rfl rfl rfl rfl Pf.all ?_)
          | (with_reducible refine build_f2 HK.out rfl _ _ rfl HF.out HG.out rfl rfl ?_; intro bs u hk; clear HK; have HK := Lib.hid hk; clear hk)
          | (go_at_call 8; (with_reducible refine (few_f2 p1 p2 HF.out HG.out A1 A2 c1 c2 _ _ HFEW.out _ (HK.out.get 0 rfl)).mono ?_); rintro e u ⟨rfl, hb⟩; have hk := HK.out.call hb; clear hb; clear HK; have HK := Lib.hid hk; clear hk)
          | (with_reducible refine lss_want G1.out _ _ _ rfl rfl rfl rfl ?_)
          | (with_reducible refine gtr_want G3.out _ _ _ rfl rfl rfl rfl ?_)
          | (with_reducible refine load_fr HK.out 2 Tryz.underlying33 rfl (Pf.infoF HF.out) _ rfl rfl rfl rfl Pf.all ?_)
          | (go_at_call 16; (with_reducible refine (hra _ (HK.out.rowAt 0 rfl)).mono ?_); rintro e u ⟨rfl, hb⟩; have hk := HK.out.call hb; clear hb; clear HK; have HK := Lib.hid hk; clear hk)
          | (with_reducible refine load_fr HK.out 1 Tryz.underlying33 rfl (Pf.infoF HG.out) _ rfl rfl rfl rfl Pf.all ?_)
          | (go_at_call 16; (with_reducible refine (hrb _ (HK.out.rowAt 1 rfl)).mono ?_); rintro e u ⟨rfl, hb⟩; have hk := HK.out.call hb; clear hb; clear HK; have HK := Lib.hid hk; clear hk)
          | (go_at_call 9; (with_reducible refine (awake_any _).mono ?_); rintro e u ⟨rfl, hb⟩; have hk := HK.out.call hb; clear hb; clear HK; have HK := Lib.hid hk; clear hk))
        go_ret
        exact ⟨rfl, HK.out.bel⟩
      | true =>
        have hrb := fun w h => rright_p p2 hp2 hN2 A2 c2 true hr2 w h
        have hj0 := fun w h k => rfjoin_any p1 p2 hp1 hp2 A1 A2 c1 c2 w h k
        have HJ := Lib.hid (joinP_full (q := p2) hp1)
        by_cases he : joinPE p1 p2 = 0
        · cases hr3 : rightP (joinP p1 p2) with
          | false =>
            have hNJ : (joinP p1 p2).nm.size ≤ 1000 := by rw [join_is he]; exact hN1
            have hrj := fun A c w h => rright_p (joinP p1 p2) HJ.out hNJ A c false hr3 w h
            have hj := hj0
            rw [he] at hj
            generalize joinP p1 p2 = J at hj HJ hrj
            clear hj0 he hr3 hNJ hp1 hp2 hN1 hN2 hr1 hr2 hvb
            go_enter Tryz.func6, Tryz.ntmps6
            go_wp2_with (first
              | (with_reducible refine box_f HK.out rfl _ rfl rfl ?_; intro b1 u hk; clear HK; have HK := Lib.hid hk; clear hk; with_reducible refine box_f HK.out rfl _ rfl rfl ?_; intro b2 u hk; clear HK; have HK := Lib.hid hk; clear hk)
              | (with_reducible refine load_fr HK.out 1 Tryz.underlying33 rfl (Pf.infoF HF.out) _ rfl rfl rfl rfl Pf.all ?_)
              | (with_reducible refine load_fr HK.out 0 Tryz.underlying33 rfl (Pf.infoF HG.out) _ rfl rfl rfl rfl Pf.all ?_)
              | (with_reducible refine build_f2 HK.out rfl _ _ rfl HF.out HG.out rfl rfl ?_; intro bs u hk; clear HK; have HK := Lib.hid hk; clear hk)
              | (go_at_call 8; (with_reducible refine (few_f2 p1 p2 HF.out HG.out A1 A2 c1 c2 _ _ HFEW.out _ (HK.out.get 0 rfl)).mono ?_); rintro e u ⟨rfl, hb⟩; have hk := HK.out.call hb; clear hb; clear HK; have HK := Lib.hid hk; clear hk)
              | (with_reducible refine lss_want G1.out _ _ _ rfl rfl rfl rfl ?_)
              | (with_reducible refine gtr_want G3.out _ _ _ rfl rfl rfl rfl ?_)
              | (with_reducible refine load_fr HK.out 2 Tryz.underlying33 rfl (Pf.infoF HF.out) _ rfl rfl rfl rfl Pf.all ?_)
              | (go_at_call 16; (with_reducible refine (hra _ (HK.out.rowAt 0 rfl)).mono ?_); rintro e u ⟨rfl, hb⟩; have hk := HK.out.call hb; clear hb; clear HK; have HK := Lib.hid hk; clear hk)
              | (with_reducible refine load_fr HK.out 1 Tryz.underlying33 rfl (Pf.infoF HG.out) _ rfl rfl rfl rfl Pf.all ?_)
              | (go_at_call 16; (with_reducible refine (hrb _ (HK.out.rowAt 1 rfl)).mono ?_); rintro e u ⟨rfl, hb⟩; have hk := HK.out.call hb; clear hb; clear HK; have HK := Lib.hid hk; clear hk)
              | (go_at_call 17; (with_reducible refine (hj _ (HK.out.rowAt 0 rfl) (HK.out.rowAt 1 rfl)).mono ?_); rintro e u ⟨A7, c7, rfl, r1, f1, hb⟩; have hk := HK.out.fresh hb r1 f1; clear hb r1 f1; clear HK; have HK := Lib.hid hk; clear hk)
              | (with_reducible refine alloc_f HK.out f_zeroP rfl rfl ?_; clear TJ; intro bj u hk; clear HK; have HK := Lib.hid hk; clear hk)
              | (with_reducible refine store_fr HK.out 0 (Pf.infoF HJ.out) (Fd.one _) rfl rfl _ _ rfl rfl rfl rfl (Fd.leP zP_full HJ.out) (Fd.setAllP zP_full HJ.out) ?_; intro u hk; simp only [List.set_cons_zero] at hk; clear HK; have HK := Lib.hid hk; clear hk)
              | (with_reducible refine load_fr HK.out 0 Tryz.underlying33 rfl (Pf.infoF HJ.out) _ rfl rfl rfl rfl Pf.all ?_)
              | (go_at_call 16; (with_reducible refine (hrj _ _ _ (HK.out.rowAt 0 rfl)).mono ?_); rintro e u ⟨rfl, hb⟩; have hk := HK.out.call hb; clear hb; clear HK; have HK := Lib.hid hk; clear hk)
              | (go_at_call 9; (with_reducible refine (awake_any _).mono ?_); rintro e u ⟨rfl, hb⟩; have hk := HK.out.call hb; clear hb; clear HK; have HK := Lib.hid hk; clear hk))
            go_ret
            exact ⟨rfl, HK.out.bel⟩
          | true =>
            have hNJ : (joinP p1 p2).nm.size ≤ 1000 := by rw [join_is he]; exact hN1
            have hrj := fun A c w h => rright_p (joinP p1 p2) HJ.out hNJ A c true hr3 w h
            have D := dn_join hvb he hr1 hr2 hr3
            have hda0 := dn_t a0 w0 p1 hp1 hN1
            have hdb0 := dn_t a0 w0 p2 hp2 hN2
            have hdj0 := dn_t a0 w0 (joinP p1 p2) HJ.out hNJ
            rw [show dnErr a0 p1 = 0 by simp [dnErr, hr1, hvb]] at hda0
            rw [show dnErr a0 p2 = 0 by simp [dnErr, hr2, hvb]] at hdb0
            rw [show dnErr a0 (joinP p1 p2) = 0 by simp [dnErr, hr3, hvb], D.ep] at hdj0
            have HX := Lib.hid (dP_full hp1 a0)
            have HY := Lib.hid (dP_full hp2 a0)
            have HZ := Lib.hid (dP_full HJ.out a0)
            have hfj := fun A B c d w h k => fjoin_any (dP a0 p1) (dP a0 p2) HX.out HY.out D.nm D.k D.e A B c d w h k
            rw [D.is, D.err] at hfj
            have hhj := fun A B c d w h k => rjoin_sl A B (dH a0 p1).length c (dH a0 p2).length d (dH a0 p1) (dH a0 p2) w h k
            rw [D.his, D.herr] at hhj
            have hsm := fun A B c d w k1 k2 => rsame_any (dP a0 (joinP p1 p2)) HZ.out A B c d w k1 k2
            have HLE := Lib.hid (show (dH a0 (joinP p1 p2)).length ≤ 1000 by rw [← D.his]; have := joinL_lenH (dH a0 p1) (dH a0 p2); omega)
            have hda := hda0 A1 c1
            have hdb := hdb0 A2 c2
            have hdj := fun A c w h => hdj0 A c w h
            have hj := hj0
            rw [he] at hj
            clear hda0 hdb0 hdj0 D hj0 he hp1 hp2 hN1 hN2 hNJ hr1 hr2 hr3 hvb
            generalize dP a0 (joinP p1 p2) = z at hdj HZ hfj hsm
            generalize dH a0 (joinP p1 p2) = H3 at hdj hhj HLE
            generalize joinP p1 p2 = J at hj HJ hrj hdj
            generalize dP a0 p1 = x at hda HX hfj
            generalize dP a0 p2 = y at hdb HY hfj
            generalize dE a0 p1 = E1 at hda hdj
            generalize dE a0 p2 = E2 at hdb
            generalize dH a0 p1 = H1 at hda hhj
            generalize dH a0 p2 = H2 at hdb hhj
            go_enter Tryz.func6, Tryz.ntmps6
            go_wp2_with (first
              | (with_reducible refine box_f HK.out rfl _ rfl rfl ?_; intro b1 u hk; clear HK; have HK := Lib.hid hk; clear hk; with_reducible refine box_f HK.out rfl _ rfl rfl ?_; intro b2 u hk; clear HK; have HK := Lib.hid hk; clear hk)
              | (with_reducible refine load_fr HK.out 1 Tryz.underlying33 rfl (Pf.infoF HF.out) _ rfl rfl rfl rfl Pf.all ?_)
              | (with_reducible refine load_fr HK.out 0 Tryz.underlying33 rfl (Pf.infoF HG.out) _ rfl rfl rfl rfl Pf.all ?_)
              | (with_reducible refine build_f2 HK.out rfl _ _ rfl HF.out HG.out rfl rfl ?_; intro bs u hk; clear HK; have HK := Lib.hid hk; clear hk)
              | (go_at_call 8; (with_reducible refine (few_f2 p1 p2 HF.out HG.out A1 A2 c1 c2 _ _ HFEW.out _ (HK.out.get 0 rfl)).mono ?_); rintro e u ⟨rfl, hb⟩; have hk := HK.out.call hb; clear hb; clear HK; have HK := Lib.hid hk; clear hk)
              | (with_reducible refine lss_want G1.out _ _ _ rfl rfl rfl rfl ?_)
              | (with_reducible refine gtr_want G3.out _ _ _ rfl rfl rfl rfl ?_)
              | (with_reducible refine load_fr HK.out 2 Tryz.underlying33 rfl (Pf.infoF HF.out) _ rfl rfl rfl rfl Pf.all ?_)
              | (go_at_call 16; (with_reducible refine (hra _ (HK.out.rowAt 0 rfl)).mono ?_); rintro e u ⟨rfl, hb⟩; have hk := HK.out.call hb; clear hb; clear HK; have HK := Lib.hid hk; clear hk)
              | (with_reducible refine load_fr HK.out 1 Tryz.underlying33 rfl (Pf.infoF HG.out) _ rfl rfl rfl rfl Pf.all ?_)
              | (go_at_call 16; (with_reducible refine (hrb _ (HK.out.rowAt 1 rfl)).mono ?_); rintro e u ⟨rfl, hb⟩; have hk := HK.out.call hb; clear hb; clear HK; have HK := Lib.hid hk; clear hk)
              | (go_at_call 17; (with_reducible refine (hj _ (HK.out.rowAt 0 rfl) (HK.out.rowAt 1 rfl)).mono ?_); rintro e u ⟨A7, c7, rfl, r1, f1, hb⟩; have hk := HK.out.fresh hb r1 f1; clear hb r1 f1; clear HK; have HK := Lib.hid hk; clear hk)
              | (with_reducible refine alloc_f HK.out f_zeroP rfl rfl ?_; clear TJ; intro bj u hk; clear HK; have HK := Lib.hid hk; clear hk)
              | (with_reducible refine store_fr HK.out 0 (Pf.infoF HJ.out) (Fd.one _) rfl rfl _ _ rfl rfl rfl rfl (Fd.leP zP_full HJ.out) (Fd.setAllP zP_full HJ.out) ?_; intro u hk; simp only [List.set_cons_zero] at hk; clear HK; have HK := Lib.hid hk; clear hk)
              | (with_reducible refine load_fr HK.out 0 Tryz.underlying33 rfl (Pf.infoF HJ.out) _ rfl rfl rfl rfl Pf.all ?_)
              | (go_at_call 16; (with_reducible refine (hrj _ _ _ (HK.out.rowAt 0 rfl)).mono ?_); rintro e u ⟨rfl, hb⟩; have hk := HK.out.call hb; clear hb; clear HK; have HK := Lib.hid hk; clear hk)
              | (with_reducible refine load_fr HK.out 3 Tryz.underlying33 rfl (Pf.infoF HF.out) _ rfl rfl rfl rfl Pf.all ?_)
              | (go_at_call 18; (with_reducible refine (hda _ (HK.out.rowAt 1 rfl)).mono ?_); rintro e u ⟨A5, c5, B5, d5, rfl, r1, f1, r2, f2, hb⟩; have hk := HK.out.fresh2 hb r1 f1 r2 f2; clear hb r1 f1 r2 f2; clear HK; have HK := Lib.hid hk; clear hk)
              | (with_reducible refine alloc_f HK.out f_zeroP rfl rfl ?_; clear TX; intro bx u hk; clear HK; have HK := Lib.hid hk; clear hk)
              | (with_reducible refine alloc_f HK.out rs_zero rfl rfl ?_; clear RP; intro bp u hk; clear HK; have HK := Lib.hid hk; clear hk)
              | (with_reducible refine store_fr HK.out 1 (Pf.infoF HX.out) (Fd.one _) rfl rfl _ _ rfl rfl rfl rfl (Fd.leP zP_full HX.out) (Fd.setAllP zP_full HX.out) ?_; intro u hk; simp only [List.set_cons_zero, List.set_cons_succ] at hk; clear HK; have HK := Lib.hid hk; clear hk)
              | (with_reducible refine store_fr HK.out 0 (rs_info _ _ _ _) (rs_one _ _ _ _) rfl rfl _ _ rfl rfl rfl rfl (rs_le _ _ _ _ _ _ _ _) (rs_put _ _ _ _ _ _ _ _) ?_; intro u hk; simp only [List.set_cons_zero] at hk; clear HK; have HK := Lib.hid hk; clear hk)
              | (with_reducible refine load_fr HK.out 4 Tryz.underlying33 rfl (Pf.infoF HG.out) _ rfl rfl rfl rfl Pf.all ?_)
              | (go_at_call 18; (with_reducible refine (hdb _ (HK.out.rowAt 4 rfl)).mono ?_); rintro e u ⟨A6, c6, B6, d6, rfl, r1, f1, r2, f2, hb⟩; have hk := HK.out.fresh2 hb r1 f1 r2 f2; clear hb r1 f1 r2 f2; clear HK; have HK := Lib.hid hk; clear hk)
              | (with_reducible refine alloc_f HK.out f_zeroP rfl rfl ?_; clear TY; intro bY u hk; clear HK; have HK := Lib.hid hk; clear hk)
              | (with_reducible refine alloc_f HK.out rs_zero rfl rfl ?_; clear RQ; intro bq u hk; clear HK; have HK := Lib.hid hk; clear hk)
              | (with_reducible refine alloc_f HK.out f_zeroP rfl rfl ?_; clear TZ; intro bz u hk; clear HK; have HK := Lib.hid hk; clear hk)
              | (with_reducible refine alloc_f HK.out rs_zero rfl rfl ?_; clear RR; intro br u hk; clear HK; have HK := Lib.hid hk; clear hk)
              | (with_reducible refine alloc_f HK.out f_zeroP rfl rfl ?_; clear TK; intro bk u hk; clear HK; have HK := Lib.hid hk; clear hk)
              | (with_reducible refine load_fr HK.out 4 Tryz.underlying33 rfl (Pf.infoF HJ.out) _ rfl rfl rfl rfl Pf.all ?_)
              | (go_at_call 18; (with_reducible refine (hdj _ _ _ (HK.out.rowAt 4 rfl)).mono ?_); rintro e u ⟨A8, c8, B8, d8, rfl, r1, f1, r2, f2, hb⟩; have hk := HK.out.fresh2 hb r1 f1 r2 f2; clear hb r1 f1 r2 f2; clear HK; have HK := Lib.hid hk; clear hk)
              | (with_reducible refine store_fr HK.out 1 (Pf.infoF HY.out) (Fd.one _) rfl rfl _ _ rfl rfl rfl rfl (Fd.leP zP_full HY.out) (Fd.setAllP zP_full HY.out) ?_; intro u hk; simp only [List.set_cons_zero, List.set_cons_succ] at hk; clear HK; have HK := Lib.hid hk; clear hk)
              | (with_reducible refine store_fr HK.out 1 (Pf.infoF HZ.out) (Fd.one _) rfl rfl _ _ rfl rfl rfl rfl (Fd.leP zP_full HZ.out) (Fd.setAllP zP_full HZ.out) ?_; intro u hk; simp only [List.set_cons_zero, List.set_cons_succ] at hk; clear HK; have HK := Lib.hid hk; clear hk)
              | (with_reducible refine load_fr HK.out 5 Tryz.underlying33 rfl (Pf.infoF HX.out) _ rfl rfl rfl rfl Pf.all ?_)
              | (with_reducible refine load_fr HK.out 3 Tryz.underlying33 rfl (Pf.infoF HY.out) _ rfl rfl rfl rfl Pf.all ?_)
              | (go_at_call 19; (with_reducible refine (hfj _ _ _ _ _ (HK.out.rowAt 4 rfl) (HK.out.rowAt 2 rfl)).mono ?_); rintro e u ⟨A9, c9, rfl, hg, hb⟩; have hk := HK.out.got hb 4 rfl hg; clear hb hg; clear HK; have HK := Lib.hid hk; clear hk)
              | (with_reducible refine store_fr HK.out 0 (Pf.infoF HZ.out) (Fd.one _) rfl rfl _ _ rfl rfl rfl rfl (Fd.leP zP_full HZ.out) (Fd.setAllP zP_full HZ.out) ?_; intro u hk; simp only [List.set_cons_zero] at hk; clear HK; have HK := Lib.hid hk; clear hk)
              | (with_reducible refine load_f1 HK.out 5 cbH _ rfl rfl rfl rfl rs_c1 ?_)
              | (with_reducible refine load_f1 HK.out 3 cbH _ rfl rfl rfl rfl rs_c1 ?_)
              | (go_at_call 20; (with_reducible refine (hhj _ _ _ _ _ (HK.out.rowAt 6 rfl) (HK.out.rowAt 4 rfl)).mono ?_); rintro e u ⟨A10, c10, rfl, ho, hb⟩; have hk := HK.out.own hb ho HLE.out; clear hb ho; clear HK; have HK := Lib.hid hk; clear hk)
              | (with_reducible refine load_fr HK.out 0 Tryz.underlying33 rfl (Pf.infoF HZ.out) _ rfl rfl rfl rfl Pf.all ?_)
              | (with_reducible refine load_fr HK.out 2 Tryz.underlying33 rfl (Pf.infoF HZ.out) _ rfl rfl rfl rfl Pf.all ?_)
              | (go_at_call 15; (with_reducible refine (hsm _ _ _ _ _ (HK.out.rowAt 1 rfl) (HK.out.rowAt 2 rfl)).mono ?_); rintro e u ⟨rfl, hb⟩; have hk := HK.out.call hb; clear hb; clear HK; have HK := Lib.hid hk; clear hk)
              | (with_reducible refine load_f1 HK.out 1 cbI _ rfl rfl rfl rfl rs_c0 ?_)
              | (with_reducible refine load_f1 HK.out 5 cbI _ rfl rfl rfl rfl rs_c0 ?_)
              | (with_reducible refine load_f1 HK.out 1 cbH _ rfl rfl rfl rfl rs_c1 ?_))
            go_loopw [137] (fun i wr => ∃ m : Nat, m ≤ H3.length ∧ i = .int .i64 m ∧ KeepF w [(br, 49, rsc E1 B8 H3.length d8)] [(A10, H3.length, H3), (B8, H3.length, H3)] wr) (fun i _ => H3.length - (intOf i).toNat)
            case atStart => exact ⟨0, by omega, rfl, keep_two HK.out⟩
            case round =>
              obtain ⟨m, hm, rfl, hk⟩ := hrel
              clear HK; have HK := Lib.hid hk; clear hk
              have hle := HLE.out
              by_cases hlt : m < H3.length
              · obtain ⟨g1, o1, rfl, _⟩ := (HK.out.rowAt 0 rfl).at hlt
                obtain ⟨g2, o2, rfl, _⟩ := (HK.out.rowAt 1 rfl).at hlt
                have HLT := Lib.hid hlt
                obtain ⟨h, hh⟩ : ∃ h, H3.getD m z5 = h := ⟨_, rfl⟩
                have HE := Lib.hid hh; clear hh
                have i1 : (0 : Int) ≤ (m : Int) := by omega
                have i2 : (m : Int) < (H3.length : Int) := by omega
                go_wp2
                refine Draws.start (S := fun u => KeepF w [(br, 49, rsc E1 (some ⟨g2, o2, none⟩) H3.length d8)] [(some ⟨g1, o1, none⟩, H3.length, H3), (some ⟨g2, o2, none⟩, H3.length, H3)] u) (n := 10) 10 rfl (by kernel_rfl) ?_
                have hk := HK.out.drew
                clear HK; have HK := Lib.hid hk; clear hk
                have HS := Lib.hid (show (fun u => KeepF w [(br, 49, rsc E1 (some ⟨g2, o2, none⟩) H3.length d8)] [(some ⟨g1, o1, none⟩, H3.length, H3), (some ⟨g2, o2, none⟩, H3.length, H3)] u) _ from HK.out)
                refine Draws.take 0 (v := ?v1) HS.out rfl (by kernel_rfl) (fun _ _ _ h => h) (Or.inl ⟨rfl, ?h1⟩) ?r1
                case h1 => intro w' hw'; go_simp; (try with_reducible rfl)
                (try simp only [Act.put, List.setIfInBounds_toArray, List.set_cons_zero, List.set_cons_succ])
                refine Draws.take 1 (v := ?v2) HS.out rfl (by kernel_rfl) (fun _ _ _ h => h) (Or.inl ⟨rfl, ?h2⟩) ?r2
                case h2 => intro w' hw'; go_simp; (try with_reducible rfl)
                (try simp only [Act.put, List.setIfInBounds_toArray, List.set_cons_zero, List.set_cons_succ])
                refine Draws.take 2 (v := ?v3) HS.out rfl (by kernel_rfl) (fun _ _ _ h => h) (Or.inl ⟨rfl, ?h3⟩) ?r3
                case h3 => intro w' hw'; go_simp; (try with_reducible rfl)
                (try simp only [Act.put, List.setIfInBounds_toArray, List.set_cons_zero, List.set_cons_succ])
                refine Draws.take 3 HS.out rfl (by kernel_rfl) (fun _ _ _ h => h) (yield_hold (fun _ h => Row.rng (h.rowAt 0 rfl) HLT.out HE.out) _ rfl rfl rfl) ?_
                (try simp only [Act.put, List.setIfInBounds_toArray, List.set_cons_zero, List.set_cons_succ])
                refine Draws.take 4 (v := ?v4) HS.out rfl (by kernel_rfl) (fun _ _ _ h => h) (Or.inl ⟨rfl, ?h4⟩) ?r4
                case h4 => intro w' hw'; go_simp; (try with_reducible rfl)
                (try simp only [Act.put, List.setIfInBounds_toArray, List.set_cons_zero, List.set_cons_succ])
                refine Draws.take 5 HS.out rfl (by kernel_rfl) (fun _ _ _ h => h) (yield_c cbH (fun _ h => h.cellAt 0 rfl rs_c1) _ rfl rfl rfl) ?_
                (try simp only [Act.put, List.setIfInBounds_toArray, List.set_cons_zero, List.set_cons_succ])
                refine Draws.take 6 (v := ?v5) HS.out rfl (by kernel_rfl) (fun _ _ _ h => h) (Or.inl ⟨rfl, ?h5⟩) ?r5
                case h5 => intro w' hw'; go_simp; (try with_reducible rfl)
                (try simp only [Act.put, List.setIfInBounds_toArray, List.set_cons_zero, List.set_cons_succ])
                refine Draws.take 7 (v := ?v6) HS.out rfl (by kernel_rfl) (fun _ _ _ h => h) (Or.inl ⟨rfl, ?h6⟩) ?r6
                case h6 => intro w' hw'; go_simp; (try with_reducible rfl)
                (try simp only [Act.put, List.setIfInBounds_toArray, List.set_cons_zero, List.set_cons_succ])
                refine Draws.take 8 HS.out rfl (by kernel_rfl) (fun _ _ _ h => h) (yield_hold (fun _ h => Row.rng (h.rowAt 1 rfl) HLT.out HE.out) _ rfl rfl rfl) ?_
                (try simp only [Act.put, List.setIfInBounds_toArray, List.set_cons_zero, List.set_cons_succ])
                refine Draws.take 9 HS.out rfl (by kernel_rfl) (fun _ _ _ h => h) (yield_neqh (Ho.same _) _ _ _ rfl rfl rfl rfl) ?_
                (try simp only [Act.put, List.setIfInBounds_toArray, List.set_cons_zero, List.set_cons_succ])
                refine Draws.done (by kernel_rfl) ?_
                clear HS
                go_wp2
                go_roundw
                case rel => exact ⟨m + 1, by omega, by go_num, HK.out⟩
                case measure => simp [intOf]; omega
              · obtain rfl : m = H3.length := by omega
                go_wp2_with (first
                  | (go_at_call 9; (with_reducible refine (awake_any _).mono ?_); rintro e u ⟨rfl, hb⟩; have hk := HK.out.call hb; clear hb; clear HK; have HK := Lib.hid hk; clear hk))
                go_ret
                exact ⟨rfl, HK.out.bel⟩
        · have d1 : (joinPE p1 p2 != 0) = true := by simpa using he
          have hj := hj0
          generalize joinPE p1 p2 = E at hj d1 he
          generalize joinP p1 p2 = J at hj HJ
          clear hj0 hp1 hp2 hN1 hN2 hr1 hr2 hvb
          go_enter Tryz.func6, Tryz.ntmps6
          go_wp2_with (first
            | (with_reducible refine box_f HK.out rfl _ rfl rfl ?_; intro b1 u hk; clear HK; have HK := Lib.hid hk; clear hk; with_reducible refine box_f HK.out rfl _ rfl rfl ?_; intro b2 u hk; clear HK; have HK := Lib.hid hk; clear hk)
            | (with_reducible refine load_fr HK.out 1 Tryz.underlying33 rfl (Pf.infoF HF.out) _ rfl rfl rfl rfl Pf.all ?_)
            | (with_reducible refine load_fr HK.out 0 Tryz.underlying33 rfl (Pf.infoF HG.out) _ rfl rfl rfl rfl Pf.all ?_)
            | (with_reducible refine build_f2 HK.out rfl _ _ rfl HF.out HG.out rfl rfl ?_; intro bs u hk; clear HK; have HK := Lib.hid hk; clear hk)
            | (go_at_call 8; (with_reducible refine (few_f2 p1 p2 HF.out HG.out A1 A2 c1 c2 _ _ HFEW.out _ (HK.out.get 0 rfl)).mono ?_); rintro e u ⟨rfl, hb⟩; have hk := HK.out.call hb; clear hb; clear HK; have HK := Lib.hid hk; clear hk)
            | (with_reducible refine lss_want G1.out _ _ _ rfl rfl rfl rfl ?_)
            | (with_reducible refine gtr_want G3.out _ _ _ rfl rfl rfl rfl ?_)
            | (with_reducible refine load_fr HK.out 2 Tryz.underlying33 rfl (Pf.infoF HF.out) _ rfl rfl rfl rfl Pf.all ?_)
            | (go_at_call 16; (with_reducible refine (hra _ (HK.out.rowAt 0 rfl)).mono ?_); rintro e u ⟨rfl, hb⟩; have hk := HK.out.call hb; clear hb; clear HK; have HK := Lib.hid hk; clear hk)
            | (with_reducible refine load_fr HK.out 1 Tryz.underlying33 rfl (Pf.infoF HG.out) _ rfl rfl rfl rfl Pf.all ?_)
            | (go_at_call 16; (with_reducible refine (hrb _ (HK.out.rowAt 1 rfl)).mono ?_); rintro e u ⟨rfl, hb⟩; have hk := HK.out.call hb; clear hb; clear HK; have HK := Lib.hid hk; clear hk)
            | (go_at_call 17; (with_reducible refine (hj _ (HK.out.rowAt 0 rfl) (HK.out.rowAt 1 rfl)).mono ?_); rintro e u ⟨A7, c7, rfl, r1, f1, hb⟩; have hk := HK.out.fresh hb r1 f1; clear hb r1 f1; clear HK; have HK := Lib.hid hk; clear hk)
            | (with_reducible refine alloc_f HK.out f_zeroP rfl rfl ?_; clear TJ; intro bj u hk; clear HK; have HK := Lib.hid hk; clear hk)
            | (with_reducible refine store_fr HK.out 0 (Pf.infoF HJ.out) (Fd.one _) rfl rfl _ _ rfl rfl rfl rfl (Fd.leP zP_full HJ.out) (Fd.setAllP zP_full HJ.out) ?_; intro u hk; simp only [List.set_cons_zero] at hk; clear HK; have HK := Lib.hid hk; clear hk)
            | (go_at_call 9; (with_reducible refine (awake_any _).mono ?_); rintro e u ⟨rfl, hb⟩; have hk := HK.out.call hb; clear hb; clear HK; have HK := Lib.hid hk; clear hk))
          go_ret
          exact ⟨rfl, HK.out.bel⟩

set_option maxRecDepth 100000 in
theorem lifted (os : Os) (started : os.Started) (H : Type) (enc : TypeId × Value → H) :
    ReturnsInHanded {} Tryz.checked os 6 .any (Rows.wireJoinsSpec.pre6 enc Tryz.prog Tryz.f6 Rows.wireJoinsRow.domain false) (Rows.wireJoinsSpec.post enc Tryz.prog Tryz.f6 false true false false) := by
  refine returnsInHanded_of_change (C := Tryz.checked) own started (by kernel_rfl) Tryz.func6
    (ChangeSpec.witness6 (enc := enc) (C := Tryz.checked) false ⟨#[], #[.int .i64 0, .agg (zP.fd none 0).cells.toArray, .agg (zP.fd none 0).cells.toArray], []⟩ 12 (by kernel_rfl) (by kernel_rfl) (by kernel_rfl) (by kernel_rfl)) ?_
  intro W base args ds gs before hval0 hW hcnd _
  have hval : ∀ (j : Nat) t v, Tryz.f6.params[j]? = some t → args[j]? = some v → Value.okWide Tryz.prog W .any base t v := hval0
  have hW' := hW
  obtain ⟨p, q, hA0, hV, rfl, hfz, hnd⟩ := hW
  have hA : DataW.TrodAll enc Tryz.prog W 0 (fun _ => true) true Tryz.f6.params.toList args.toList ds p := hA0
  rw [Tryz.params6] at hA hval
  obtain ⟨v0, vs0, d0, ds0, q0, r0, hargs, rfl, rfl, h0, t0⟩ := trodAll_cons hA
  obtain ⟨v1, vs1, d1, ds1, q1, r1, rfl, rfl, rfl, h1, t1⟩ := trodAll_cons t0
  obtain ⟨v2, vs2, d2, ds2, q2, r2, rfl, rfl, rfl, h2, t2⟩ := trodAll_cons t1
  obtain ⟨rfl, rfl, rfl⟩ := trodAll_nil t2
  obtain rfl : args = #[v0, v1, v2] := by cases args; simp_all
  obtain ⟨rfl, rfl⟩ := trodVars_none hV
  have k0 := h0
  have lt0 : ∀ x ∈ q0, x.block < W.heap.size := by obtain ⟨m, hm⟩ := k0; exact DataW.trod_lt m _ _ _ hm
  obtain ⟨a0, rfl, rfl, rfl, w0⟩ := open_int Tryz.underlying3 (hval 0 3 v0 rfl rfl) h0
  have k1 := h1
  have lt1 : ∀ x ∈ q1, x.block < W.heap.size := by obtain ⟨m, hm⟩ := k1; exact DataW.trod_lt m _ _ _ hm
  obtain ⟨p1, A1, c1, rfl, hp1, hd1, hc1, hw1⟩ := open_f (hval 1 33 v1 rfl rfl) h1
  have k2 := h2
  have lt2 : ∀ x ∈ q2, x.block < W.heap.size := by obtain ⟨m, hm⟩ := k2; exact DataW.trod_lt m _ _ _ hm
  obtain ⟨p2, A2, c2, rfl, hp2, hd2, hc2, hw2⟩ := open_f (hval 2 33 v2 rfl rfl) h2
  clear hA0 hval0
  refine (walk W a0 w0 p1 A1 c1 hp1 hd1 hc1 hw1 p2 A2 c2 hp2 hd2 hc2 hw2).mono fun e W' ⟨he, bel⟩ => ?_
  subst he
  exact ⟨_, rfl, _, _, _, [], _, [], hW', trodAll_mk1 (shut_bool Tryz.underlying4 _), (trodAll_cons_mk (Below.trod laidOut (by kernel_rfl) (of_decide_eq_true (by kernel_rfl)) k0 bel lt0) (trodAll_cons_mk (Below.trod laidOut (by kernel_rfl) (of_decide_eq_true (by kernel_rfl)) k1 bel lt1) (trodAll_cons_mk (Below.trod laidOut (by kernel_rfl) (of_decide_eq_true (by kernel_rfl)) k2 bel lt2) trodAll_mk0))), rfl, bel.frame _, fun h => by cases h⟩

theorem over : Rows.wireJoinsRow.holds Tryz.pinned (OpenSpec.ofChange Rows.wireJoinsSpec) :=
  OpenClaim.holds_of_wide 6 Tryz.f6 rfl rfl rfl rfl rfl rfl rfl ⟨rfl, rfl, rfl, rfl, rfl⟩ rfl rfl rfl rfl rfl (by kernel_rfl) Tryz.func6 (by kernel_rfl)
    (of_decide_eq_true (by kernel_rfl)) (by unfold Func.isWrapper; first | (rw [if_pos (by decide +kernel)]; kernel_rfl) | (rw [if_neg (by decide +kernel)]; exact ⟨rfl, rfl⟩))
    (fun os started H enc _ => lifted os started H enc)

theorem proved : Rows.WireJoinsSaid := over
#print axioms proved
end Go.Proofs.YtofngihdnjgmeaaGreat.wireJoins
