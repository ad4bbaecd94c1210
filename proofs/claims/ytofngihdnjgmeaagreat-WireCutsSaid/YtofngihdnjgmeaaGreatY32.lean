/- awake. -/
import Derived.Test.YtofngihdnjgmeaaGreatY01
import Derived.Test.YtofngihdnjgmeaaGreatY07
import Derived.Test.YtofngihdnjgmeaaGreatY09
import Derived.Test.YtofngihdnjgmeaaGreatY11
import Derived.Test.YtofngihdnjgmeaaGreatY12
import Derived.Test.YtofngihdnjgmeaaGreatY18
import Derived.Test.YtofngihdnjgmeaaGreatY21
import Derived.Test.YtofngihdnjgmeaaGreatY26
import Derived.Test.YtofngihdnjgmeaaGreatY27A
import Derived.Test.YtofngihdnjgmeaaGreatY29
import Derived.Test.YtofngihdnjgmeaaGreatY30A
import Derived.Maps.OwnSet
import Derived.Maps.Views
import Derived.Maps.AppendAt
import Derived.OwnWalk
import Derived.Laws.OwnMore
import Derived.WalkKit
import Derived.ProofKit
import Derived.OpenShut
import Derived.ChangeOld
import Derived.Deep.Slices
import Derived.ChangeSlices
import Derived.Laws.AppendOwn
import Derived.Lib.Hide
import Derived.Deep.RegionHeld3
import Derived.Below
import Derived.Deep.MidRow
import Derived.Deep.QuietTactic
import Derived.BigQuiet
import Derived.Laws.StructEq
import Derived.WalkMore
import Derived.LoopTactic
import Derived.Defers
import Derived.Recover
import Derived.WalkSmall
import Derived.Lib.AppendZeros
import Derived.Deep.OwnRows
import Derived.Lib.SliceRun
import Derived.Shelf.SlSortCmp.WholeK
import Derived.Shelf.SlSortCmp.NoneTotal
namespace Go.Proofs.YtofngihdnjgmeaaGreat
set_option maxRecDepth 100000
open Go.ChangeShapes Go.WideShapes Go.ChangeAt Go.RowKit

set_option maxHeartbeats 4000000 in
theorem awake_x (p1 p2 : Pf) (F1 : p1.full) (F2 : p2.full) (n2 : p2.hs.length = 1)
    (hc1 : ∀ w, Calls Tryz.prog 21 #[.string ⟨#[97]⟩, .int .i64 5, .int .i64 0, .int .i64 10] w fun e u => e = .returned (.tuple #[.agg (p1.fd none 0).cells.toArray, .int .i64 0]) ∧ Below w.heap.size w u)
    (hc2 : ∀ w, Calls Tryz.prog 22 #[.agg (p1.fd none 0).cells.toArray, .int .i64 0, .int .i64 3, .int .i64 9] w fun e u => ∃ A1 c1, e = .returned (.tuple #[.agg (p2.fd A1 c1).cells.toArray, .int .i64 1, .int .i64 0]) ∧ Row u A1 p2.hs.length p2.hs ∧ Fresh w.heap.size A1 c1 p2.hs ∧ Below w.heap.size w u)
    (hc3 : ∀ A c w, Row w A p2.hs.length p2.hs → Calls Tryz.prog 18 #[.int .i64 1, .agg (p2.fd A c).cells.toArray] w fun e u => ∃ A1 c1, e = .returned (.tuple #[.agg (((p2.setE 0).setH []).fd none 0).cells.toArray, .agg (rsc p2.e A1 p2.hs.length c1).toArray, .int .i64 0]) ∧ Row u A1 p2.hs.length p2.hs ∧ Fresh w.heap.size A1 c1 p2.hs ∧ Below w.heap.size w u)
    (hc4 : ∀ A c w, Row w A p2.hs.length p2.hs → Calls Tryz.prog 23 #[.agg (((p2.setE 0).setH []).fd none 0).cells.toArray, .agg (rsc p2.e A p2.hs.length c).toArray] w fun e u => ∃ A1 c1, e = .returned (.tuple #[.agg (p2.fd A1 c1).cells.toArray, .int .i64 0]) ∧ Row u A1 p2.hs.length p2.hs ∧ Fresh w.heap.size A1 c1 p2.hs ∧ Below w.heap.size w u)
    (hs1 : ∀ A c w, Row w A p2.hs.length p2.hs → Calls Tryz.prog 12 #[.int .i64 1, .agg (p2.fd A c).cells.toArray] w fun e u => e = .returned (.bool false) ∧ Below w.heap.size w u)
    (hs2 : ∀ A c w, Row w A p2.hs.length p2.hs → Calls Tryz.prog 12 #[.int .i64 2, .agg (p2.fd A c).cells.toArray] w fun e u => e = .returned (.bool true) ∧ Below w.heap.size w u)
    (hsm : ∀ A B c d w, Row w A p2.hs.length p2.hs → Row w B p2.hs.length p2.hs → Calls Tryz.prog 24 #[.agg (p2.fd A c).cells.toArray, .agg (p2.fd B d).cells.toArray] w fun e u => e = .returned (.bool true) ∧ Below w.heap.size w u)
    (w : World) : Calls Tryz.prog 9 #[] w fun e u => e = .returned (.bool true) ∧ Below w.heap.size w u := by
  have HK := Lib.hid (KeepF.start (w := w) (rows := []) (by simp))
  have HZ := Lib.hid zP_full
  have HF1 := Lib.hid F1; have HF2 := Lib.hid F2
  have HG := Lib.hid (show ((p2.setE 0).setH []).full from F2)
  have HN := Lib.hid (show (((p2.setE 0).setH []).fd none 0).cells[586]? = some (.slice none 0 0) from Pf.cHn (p := (p2.setE 0).setH []) F2 rfl)
  have HR := Lib.hid (show ∀ A c, (rsc p2.e A p2.hs.length c)[1]? = some (.slice A 1 c) from fun A c => by rw [n2]; rfl)
  clear F1 F2 n2
  go_enter Tryz.func9, Tryz.ntmps9
  go_wp2_with (first
    | (go_at_call 21; (with_reducible refine (hc1 _).mono ?_); rintro e u ⟨rfl, hb⟩; have hk := HK.out.call hb; clear hb; clear HK; have HK := Lib.hid hk; clear hk)
    | (with_reducible refine alloc_f (l := []) HK.out f_zeroP rfl rfl ?_; intro b1 u hk; clear HK; have HK := Lib.hid hk; clear hk)
    | (with_reducible refine store_fr HK.out 0 (Pf.infoF HF1.out) (Fd.one _) rfl rfl _ _ rfl rfl rfl rfl (Fd.leP HZ.out HF1.out) (Fd.setAllP HZ.out HF1.out) ?_; intro u hk; simp only [List.set_cons_zero] at hk; clear HK; have HK := Lib.hid hk; clear hk)
    | (with_reducible refine load_fr HK.out 0 Tryz.underlying33 rfl (Pf.infoF HF1.out) _ rfl rfl rfl rfl Pf.all ?_)
    | (go_at_call 22; (with_reducible refine (hc2 _).mono ?_); rintro e u ⟨A1, c1, rfl, hr, hf, hb⟩; have hk := HK.out.fresh hb hr hf; clear hb hr hf; clear HK; have HK := Lib.hid hk; clear hk)
    | (with_reducible refine alloc_f (l := [_]) HK.out f_zeroP rfl rfl ?_; intro b3 u hk; clear HK; have HK := Lib.hid hk; clear hk)
    | (with_reducible refine store_fr HK.out 0 (Pf.infoF HF2.out) (Fd.one _) rfl rfl _ _ rfl rfl rfl rfl (Fd.leP HZ.out HF2.out) (Fd.setAllP HZ.out HF2.out) ?_; intro u hk; simp only [List.set_cons_zero] at hk; clear HK; have HK := Lib.hid hk; clear hk)
    | (with_reducible refine load_fr HK.out 0 Tryz.underlying33 rfl (Pf.infoF HF2.out) _ rfl rfl rfl rfl Pf.all ?_)
    | (go_at_call 18; (with_reducible refine (hc3 _ _ _ (HK.out.rowAt 0 rfl)).mono ?_); rintro e u ⟨A2, c2, rfl, hr, hf, hb⟩; have hk := HK.out.fresh hb hr hf; clear hb hr hf; clear HK; have HK := Lib.hid hk; clear hk)
    | (with_reducible refine alloc_f (l := [_, _]) HK.out f_zeroP rfl rfl ?_; intro b6 u hk; clear HK; have HK := Lib.hid hk; clear hk)
    | (with_reducible refine alloc_f (l := [_, _, _]) HK.out rs_zero rfl rfl ?_; intro b7 u hk; clear HK; have HK := Lib.hid hk; clear hk)
    | (with_reducible refine store_fr HK.out 1 (Pf.infoF HG.out) (Fd.one _) rfl rfl _ _ rfl rfl rfl rfl (Fd.leP HZ.out HG.out) (Fd.setAllP HZ.out HG.out) ?_; intro u hk; simp only [List.set_cons_zero, List.set_cons_succ] at hk; clear HK; have HK := Lib.hid hk; clear hk)
    | (with_reducible refine store_fr HK.out 0 (rs_info _ _ _ _) (rs_one _ _ _ _) rfl rfl _ _ rfl rfl rfl rfl (rs_le _ _ _ _ _ _ _ _) (rs_put _ _ _ _ _ _ _ _) ?_; intro u hk; simp only [List.set_cons_zero] at hk; clear HK; have HK := Lib.hid hk; clear hk)
    | (with_reducible refine load_fr HK.out 1 Tryz.underlying33 rfl (Pf.infoF HG.out) _ rfl rfl rfl rfl Pf.all ?_)
    | (with_reducible refine load_fr HK.out 0 Tryz.underlying49 rfl (rs_info _ _ _ _) _ rfl rfl rfl rfl rs_all ?_)
    | (go_at_call 23; (with_reducible refine (hc4 _ _ _ (HK.out.rowAt 0 rfl)).mono ?_); rintro e u ⟨A3, c3, rfl, hr, hf, hb⟩; have hk := HK.out.fresh hb hr hf; clear hb hr hf; clear HK; have HK := Lib.hid hk; clear hk)
    | (with_reducible refine alloc_f (l := [_, _, _, _]) HK.out f_zeroP rfl rfl ?_; intro b9 u hk; clear HK; have HK := Lib.hid hk; clear hk)
    | (with_reducible refine store_fr HK.out 0 (Pf.infoF HF2.out) (Fd.one _) rfl rfl _ _ rfl rfl rfl rfl (Fd.leP HZ.out HF2.out) (Fd.setAllP HZ.out HF2.out) ?_; intro u hk; simp only [List.set_cons_zero, List.set_cons_succ] at hk; clear HK; have HK := Lib.hid hk; clear hk)
    | (with_reducible refine load_fr HK.out 3 Tryz.underlying33 rfl (Pf.infoF HF2.out) _ rfl rfl rfl rfl Pf.all ?_)
    | (go_at_call 12; (with_reducible refine (hs1 _ _ _ (HK.out.rowAt 2 rfl)).mono ?_); rintro e u ⟨rfl, hb⟩; have hk := HK.out.call hb; clear hb; clear HK; have HK := Lib.hid hk; clear hk)
    | (go_at_call 12; (with_reducible refine (hs2 _ _ _ (HK.out.rowAt 2 rfl)).mono ?_); rintro e u ⟨rfl, hb⟩; have hk := HK.out.call hb; clear hb; clear HK; have HK := Lib.hid hk; clear hk)
    | (with_reducible refine load_f1 HK.out 1 cbH _ rfl rfl rfl rfl (HR.out _ _) ?_)
    | (with_reducible refine load_f1 HK.out 2 cbH _ rfl rfl rfl rfl HN.out ?_)
    | (go_at_call 24; (with_reducible refine (hsm _ _ _ _ _ (HK.out.rowAt 0 rfl) (HK.out.rowAt 2 rfl)).mono ?_); rintro e u ⟨rfl, hb⟩; have hk := HK.out.call hb; clear hb; clear HK; have HK := Lib.hid hk; clear hk)
    | (with_reducible refine load_fr HK.out 0 Tryz.underlying33 rfl (Pf.infoF HF2.out) _ rfl rfl rfl rfl Pf.all ?_))
  go_ret
  exact ⟨rfl, HK.out.bel⟩
theorem awx_r : rightP af2 = true := by
  have e1 : nameB ⟨#[97]⟩ = true := by decide +kernel
  have e2 : rightsL [⟨0, 1, 3, 9, 1⟩] = true := by decide +kernel
  have e4 : rightC af2.C = true := by decide +kernel
  refine right_mk (p := af2) e1 ep_zero (.inl ⟨rfl, e4, e2, rfl⟩)
theorem awx_n : af2.nm.size ≤ 1000 := by decide
theorem awx_s1 : saysB 1 af2 = false := by rw [says_eq, saysR, awx_r]; decide
theorem awx_s2 : saysB 2 af2 = true := by rw [says_eq, saysR, awx_r]; decide
theorem awx_up : upErr ((af2.setE 0).setH []) af2.e af2.hs = 0 ∧ uP ((af2.setE 0).setH []) af2.e af2.hs = af2 := by
  have e0 := (dn_right (v := 1) awx_r rfl).2
  have e1 : dP 1 af2 = (af2.setE 0).setH [] := by simp [dP, e0]
  have e2 : dE 1 af2 = af2.e := by simp [dE, e0]
  have e3 : dH 1 af2 = af2.hs := by simp [dH, e0]
  have h := up_dn (v := 1) awx_r rfl
  rw [e1, e2, e3] at h
  exact h
theorem awake_any (w : World) : Calls Tryz.prog 9 #[] w fun e u => e = .returned (.bool true) ∧ Below w.heap.size w u :=
  awake_x af1 af2 af1_full af2_full rfl afc_1
    (fun w => (afc_2 none 0 w (Row.nil _ _)).mono fun e u ⟨A1, c1, he, hg, hb⟩ => ⟨A1, c1, he, hg.row, ⟨hg.cap, fun a ha h0 => by
      rcases hg.new a ha h0 with h | ⟨_, h⟩
      · exact h
      · cases h⟩, hb⟩)
    (fun A c w h => down_1 af2 af2_full awx_n awx_r A c w h)
    (fun A c w h => by
      have := up_any ((af2.setE 0).setH []) af2_full awx_n none 0 af2.e (by decide) A c af2.hs (by decide) w (Row.nil _ _) h
      rw [awx_up.1, awx_up.2] at this
      exact this)
    (fun A c w h => says_any 1 (by decide) af2 af2_full awx_n A c false awx_s1 w h)
    (fun A c w h => says_any 2 (by decide) af2 af2_full awx_n A c true awx_s2 w h)
    (fun A B c d w h1 h2 => fsame2_any af2 af2_full A B c d w h1 h2)
    w
end Go.Proofs.YtofngihdnjgmeaaGreat
