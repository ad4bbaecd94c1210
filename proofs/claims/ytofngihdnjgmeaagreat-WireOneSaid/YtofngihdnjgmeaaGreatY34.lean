/- The document's Encode tells what the program's tells (layer 10). -/
import Derived.Test.YtofngihdnjgmeaaGreatY01
import Derived.Test.YtofngihdnjgmeaaGreatY04
import Derived.Test.YtofngihdnjgmeaaGreatY07
import Derived.Test.YtofngihdnjgmeaaGreatY09
import Derived.Test.YtofngihdnjgmeaaGreatY12
import Derived.Test.YtofngihdnjgmeaaGreatY13
import Derived.Test.YtofngihdnjgmeaaGreatY18
import Derived.Test.YtofngihdnjgmeaaGreatY21
import Derived.Test.YtofngihdnjgmeaaGreatY22A
import Derived.Test.YtofngihdnjgmeaaGreatY25
import Derived.Test.YtofngihdnjgmeaaGreatY27A
import Derived.Test.YtofngihdnjgmeaaGreatY28
import Derived.Test.YtofngihdnjgmeaaGreatY29
import Derived.Test.YtofngihdnjgmeaaGreatY33
import Derived.WalkKit
import Derived.ProofKit
import Derived.Lib.Hide
import Derived.Deep.RegionHeld3
import Derived.Below
import Derived.Deep.MidRow
import Derived.Deep.QuietTactic
import Derived.BigQuiet
import Derived.Laws.StructEq
import Derived.Laws.OwnMore
import Derived.Maps.AppendAt
import Derived.OwnWalk
import Derived.OpenShut
import Derived.ChangeOld
import Derived.Deep.Slices
import Derived.ChangeSlices
import Derived.Laws.AppendOwn
import Derived.WalkMore
import Derived.LoopTactic
import Derived.Defers
import Derived.Recover
import Derived.WalkSmall
import Derived.Lib.AppendZeros
import Derived.Deep.OwnRows
import Derived.Lib.SliceRun
import Derived.Shelf.SlSortCmp.WholeK
import Derived.Shelf.SlSortCmp.NoneTotal
import Derived.Laws.Cover3
import Derived.Lib.AppendStr
import Derived.Laws.IdiomStrings
import Derived.Maps.OwnSet
import Derived.Maps.Views
namespace Go.Proofs.YtofngihdnjgmeaaGreat
set_option maxRecDepth 100000
open Go.ChangeShapes Go.WideShapes Go.ChangeAt Go.RowKit

set_option maxHeartbeats 4000000 in
theorem renc_any (v : Int) (p : Pf) (hp : p.full) (hN : p.nm.size ≤ 100) (A : Option Addr) (c : Nat) (w : World) (hd : Row w A p.hs.length p.hs) :
    Calls Tryz.prog 11 #[.int .i64 v, .agg (p.fd A c).cells.toArray] w fun e u => ∃ A1 c1, e = .returned (.tuple #[.slice A1 (encB v p).length c1, .int .i64 (encE v p)]) ∧ (encB v p).length ≤ c1 ∧ oct.Bys u A1 (encB v p) ∧ Below w.heap.size w u := by
  cases hr : rightP p with
  | false =>
    have e1 : encE v p = 1 := by
      simp [encE, dnErr, hr]
    have e2 : encB v p = [] := by simp [encB, e1]
    rw [e1, e2]
    have hrt := fun w h => rright_p p hp (by omega) A c false hr w h
    have HF := Lib.hid hp
    have HR := Lib.hid hd
    have HB := Lib.hid (Nat.le_refl w.heap.size)
    have HO := Lib.hid (oct.Own.nil w w.heap.size)
    have HS := Lib.hid (Stays.refl w w)
    clear hp hd e1 e2 hr
    go_enter Tryz.func11, Tryz.ntmps11
    go_wp2_with (first
      | (with_reducible refine box_cel rfl _ rfl rfl ?_; intro b1 u hb hc; have ho := HO.out.below hb; have hst := Stays.below HB.out hb; have hs' := HS.out.trans hst; have hb' := Nat.le_trans HB.out hst.size; clear HO HS HB; have HO := Lib.hid ho; have HS := Lib.hid hs'; have HB := Lib.hid hb'; clear ho hst hs' hb'; have HC := Lib.hid hc; clear hb hc)
      | (with_reducible refine load_pt HC.out Tryz.underlying33 rfl (Pf.infoF HF.out) Pf.all _ rfl rfl rfl ?_)
      | (go_at_call 16; (with_reducible refine (hrt _ (HR.out.below HS.out.bel (Nat.le_refl _))).mono ?_); rintro e u ⟨rfl, hb⟩; have ho := HO.out.below hb; have hst := Stays.below HB.out hb; have qHC := hst.cel (by decide) HC.out; clear HC; have HC := Lib.hid qHC; clear qHC; have hs' := HS.out.trans hst; have hb' := Nat.le_trans HB.out hst.size; clear HO HS HB; have HO := Lib.hid ho; have HS := Lib.hid hs'; have HB := Lib.hid hb'; clear ho hst hs' hb'; clear hb))
    go_ret2
    exact ⟨none, 0, rfl, Nat.zero_le _, oct.Own.bys HO.out, HS.out.bel⟩
  | true =>
    cases hs : saysR v p with
    | false =>
      have e1 : encE v p = 18 := by
        cases hb : verB v <;> simp [encE, dnErr, hr, hb, says_eq, hs]
      have e2 : encB v p = [] := by simp [encB, e1]
      rw [e1, e2]
      have hrt := fun w h => rright_p p hp (by omega) A c true hr w h
      have hsy := fun w h => rsays_any v p hp (by omega) A c false hs w h
      have HF := Lib.hid hp
      have HR := Lib.hid hd
      have HB := Lib.hid (Nat.le_refl w.heap.size)
      have HO := Lib.hid (oct.Own.nil w w.heap.size)
      have HS := Lib.hid (Stays.refl w w)
      clear hp hd e1 e2 hr hs
      go_enter Tryz.func11, Tryz.ntmps11
      go_wp2_with (first
        | (with_reducible refine box_cel rfl _ rfl rfl ?_; intro b1 u hb hc; have ho := HO.out.below hb; have hst := Stays.below HB.out hb; have hs' := HS.out.trans hst; have hb' := Nat.le_trans HB.out hst.size; clear HO HS HB; have HO := Lib.hid ho; have HS := Lib.hid hs'; have HB := Lib.hid hb'; clear ho hst hs' hb'; have HC := Lib.hid hc; clear hb hc)
        | (with_reducible refine load_pt HC.out Tryz.underlying33 rfl (Pf.infoF HF.out) Pf.all _ rfl rfl rfl ?_)
        | (go_at_call 16; (with_reducible refine (hrt _ (HR.out.below HS.out.bel (Nat.le_refl _))).mono ?_); rintro e u ⟨rfl, hb⟩; have ho := HO.out.below hb; have hst := Stays.below HB.out hb; have qHC := hst.cel (by decide) HC.out; clear HC; have HC := Lib.hid qHC; clear qHC; have hs' := HS.out.trans hst; have hb' := Nat.le_trans HB.out hst.size; clear HO HS HB; have HO := Lib.hid ho; have HS := Lib.hid hs'; have HB := Lib.hid hb'; clear ho hst hs' hb'; clear hb)
        | (go_at_call 13; (with_reducible refine (hsy _ (HR.out.below HS.out.bel (Nat.le_refl _))).mono ?_); rintro e u ⟨rfl, hb⟩; have ho := HO.out.below hb; have hst := Stays.below HB.out hb; have qHC := hst.cel (by decide) HC.out; clear HC; have HC := Lib.hid qHC; clear qHC; have hs' := HS.out.trans hst; have hb' := Nat.le_trans HB.out hst.size; clear HO HS HB; have HO := Lib.hid ho; have HS := Lib.hid hs'; have HB := Lib.hid hb'; clear ho hst hs' hb'; clear hb))
      go_ret2
      exact ⟨none, 0, rfl, Nat.zero_le _, oct.Own.bys HO.out, HS.out.bel⟩
    | true =>
      have hb := (says_parts hs).2
      have e1 : encE v p = 0 := by simp [encE, dnErr, hr, hb, says_eq, hs]
      have hk := kind_of hr
      have e2 : encB v p = wireR v p := by
        rw [encB, if_pos e1]
        exact wire_eq (by rcases ver_cases hb with h | h | h <;> omega) hp hk
      rw [e1, e2]
      have hh := right_holds hr
      rcases ver_cases hb with rfl | rfl | rfl <;> rcases hk with hk | hk
      · exact renc_11 p hp hN hk hr hs hh A c w hd
      · exact renc_12 p hp hN hk hr hs hh A c w hd
      · exact renc_21 p hp hN hk hr hs hh A c w hd
      · exact renc_22 p hp hN hk hr hs hh A c w hd
      · exact renc_31 p hp hN hk hr hs hh A c w hd
      · exact renc_32 p hp hN hk hr hs hh A c w hd
end Go.Proofs.YtofngihdnjgmeaaGreat
