/- Contract of wire.Up. -/
import Derived.Test.YtofngihdnjgmeaaGreatY01
import Derived.Test.YtofngihdnjgmeaaGreatY07
import Derived.Test.YtofngihdnjgmeaaGreatY09
import Derived.Test.YtofngihdnjgmeaaGreatY11
import Derived.Test.YtofngihdnjgmeaaGreatY12
import Derived.Test.YtofngihdnjgmeaaGreatY18
import Derived.Test.YtofngihdnjgmeaaGreatY21
import Derived.Test.YtofngihdnjgmeaaGreatY26
import Derived.Test.YtofngihdnjgmeaaGreatY27A
import Derived.Test.YtofngihdnjgmeaaGreatY29
import Derived.Maps.OwnSet
import Derived.Maps.Views
import Derived.Maps.AppendAt
import Derived.OwnWalk
import Derived.Laws.OwnMore
import Derived.WalkKit
import Derived.ProofKit
import Derived.OpenShut
import Derived.ChangeOld
import Derived.Deep.Slices
import Derived.ChangeSlices
import Derived.Laws.AppendOwn
import Derived.Lib.Hide
import Derived.Deep.RegionHeld3
import Derived.Below
import Derived.Deep.MidRow
import Derived.Deep.QuietTactic
import Derived.BigQuiet
import Derived.Laws.StructEq
import Derived.WalkMore
import Derived.LoopTactic
import Derived.Defers
import Derived.Recover
import Derived.WalkSmall
import Derived.Lib.AppendZeros
import Derived.Deep.OwnRows
import Derived.Lib.SliceRun
import Derived.Shelf.SlSortCmp.WholeK
import Derived.Shelf.SlSortCmp.NoneTotal
namespace Go.Proofs.YtofngihdnjgmeaaGreat
set_option maxRecDepth 100000
open Go.ChangeShapes Go.WideShapes Go.ChangeAt Go.RowKit

set_option maxHeartbeats 2000000 in
theorem up_no (p : Pf) (hp : p.full) (A : Option Addr) (c : Nat) (e : Int) (B : Option Addr) (d : Nat) (hs : List Ho) (hl : p.hs.length + hs.length ≤ 1000) (hrt : ∀ w, Row w A p.hs.length p.hs → Calls Tryz.prog 38 #[.agg (p.fd A c).cells.toArray] w fun e w' => e = .returned (.bool false) ∧ Below w.heap.size w w') (w : World) (hd : Row w A p.hs.length p.hs) (hd2 : Row w B hs.length hs) :
    Calls Tryz.prog 23 #[.agg (p.fd A c).cells.toArray, .agg (rsc e B hs.length d).toArray] w fun x u => ∃ A1 c1, x = .returned (.tuple #[.agg ((zP).fd A1 c1).cells.toArray, .int .i64 1]) ∧ Row u A1 (zP).hs.length (zP).hs ∧ Fresh w.heap.size A1 c1 (zP).hs ∧ Below w.heap.size w u := by
  have HK := Lib.hid (KeepF.start (w := w) (rows := [(A, p.hs.length, p.hs), (B, hs.length, hs)]) (by simp [hd, hd2]))
  have HF := Lib.hid hp
  have HZ := Lib.hid zP_full
  have HN := Lib.hid hl
  have hzr : ∀ u : World, Row u none zP.hs.length zP.hs := fun u => Row.nil u none
  clear hd hd2 hp hl
  go_enter Tryz.func23, Tryz.ntmps23
  go_wp2_with (first
    | (with_reducible refine box_f HK.out rfl _ rfl rfl ?_; intro b1 u hk; clear HK; have HK := Lib.hid hk; clear hk)
    | (with_reducible refine alloc_f HK.out f_zeroP rfl rfl ?_; intro b4 u hk; clear HK; have HK := Lib.hid hk; clear hk)
    | (with_reducible refine load_fr HK.out 2 Tryz.underlying33 rfl (Pf.infoF HF.out) _ rfl rfl rfl rfl Pf.all ?_)
    | (go_at_call 38; (with_reducible refine (hrt _ (HK.out.rowAt 0 rfl)).mono ?_); rintro e u ⟨rfl, hb⟩; have hk := HK.out.call hb; clear hb; clear HK; have HK := Lib.hid hk; clear hk)
    | (with_reducible refine build_f f_buildP rfl rfl ?_)
    | (with_reducible refine store_fr HK.out 0 (Pf.infoF HZ.out) (Fd.one _) rfl rfl _ _ rfl rfl rfl rfl (Fd.leP HZ.out HZ.out) (Fd.setAllP HZ.out HZ.out) ?_; intro u hk; simp only [List.set_cons_zero] at hk; clear HK; have HK := Lib.hid hk; clear hk))
  exact bodyPost_ret (results_f2 rfl Tryz.underlying33 rfl (Pf.infoF HZ.out) _ HK.out 0 _ rfl rfl rfl) rfl ⟨none, 0, rfl, hzr _, Fresh.none0 _, HK.out.bel⟩
set_option maxHeartbeats 2000000 in
theorem up_ep (p : Pf) (hp : p.full) (A : Option Addr) (c : Nat) (e : Int) (B : Option Addr) (d : Nat) (hs : List Ho) (hl : p.hs.length + hs.length ≤ 1000) (hrt : ∀ w, Row w A p.hs.length p.hs → Calls Tryz.prog 38 #[.agg (p.fd A c).cells.toArray] w fun e w' => e = .returned (.bool true) ∧ Below w.heap.size w w') (e1 : (p.e != 0) = true) (e2 : (e != 0) = true) (w : World) (hd : Row w A p.hs.length p.hs) (hd2 : Row w B hs.length hs) :
    Calls Tryz.prog 23 #[.agg (p.fd A c).cells.toArray, .agg (rsc e B hs.length d).toArray] w fun x u => ∃ A1 c1, x = .returned (.tuple #[.agg ((zP).fd A1 c1).cells.toArray, .int .i64 1]) ∧ Row u A1 (zP).hs.length (zP).hs ∧ Fresh w.heap.size A1 c1 (zP).hs ∧ Below w.heap.size w u := by
  have HK := Lib.hid (KeepF.start (w := w) (rows := [(A, p.hs.length, p.hs), (B, hs.length, hs)]) (by simp [hd, hd2]))
  have HF := Lib.hid hp
  have HZ := Lib.hid zP_full
  have HN := Lib.hid hl
  have hzr : ∀ u : World, Row u none zP.hs.length zP.hs := fun u => Row.nil u none
  clear hd hd2 hp hl
  have E1 := Lib.hid e1; clear e1
  have E2 := Lib.hid e2; clear e2
  go_enter Tryz.func23, Tryz.ntmps23
  go_wp2_with (first
    | (with_reducible refine box_f HK.out rfl _ rfl rfl ?_; intro b1 u hk; clear HK; have HK := Lib.hid hk; clear hk)
    | (with_reducible refine alloc_f HK.out f_zeroP rfl rfl ?_; intro b4 u hk; clear HK; have HK := Lib.hid hk; clear hk)
    | (with_reducible refine load_fr HK.out 2 Tryz.underlying33 rfl (Pf.infoF HF.out) _ rfl rfl rfl rfl Pf.all ?_)
    | (go_at_call 38; (with_reducible refine (hrt _ (HK.out.rowAt 0 rfl)).mono ?_); rintro e u ⟨rfl, hb⟩; have hk := HK.out.call hb; clear hb; clear HK; have HK := Lib.hid hk; clear hk)
    | (with_reducible refine load_f1 HK.out 2 cbI _ rfl rfl rfl rfl Pf.ce ?_)
    | (with_reducible refine load_f1 HK.out 1 cbI _ rfl rfl rfl rfl rs_c0 ?_)
    | (with_reducible refine neq_want E1.out _ _ _ rfl rfl rfl rfl ?_)
    | (with_reducible refine neq_want E2.out _ _ _ rfl rfl rfl rfl ?_)
    | (with_reducible refine build_f f_buildP rfl rfl ?_)
    | (with_reducible refine store_fr HK.out 0 (Pf.infoF HZ.out) (Fd.one _) rfl rfl _ _ rfl rfl rfl rfl (Fd.leP HZ.out HZ.out) (Fd.setAllP HZ.out HZ.out) ?_; intro u hk; simp only [List.set_cons_zero] at hk; clear HK; have HK := Lib.hid hk; clear hk))
  exact bodyPost_ret (results_f2 rfl Tryz.underlying33 rfl (Pf.infoF HZ.out) _ HK.out 0 _ rfl rfl rfl) rfl ⟨none, 0, rfl, hzr _, Fresh.none0 _, HK.out.bel⟩
set_option maxHeartbeats 2000000 in
theorem up_ho1 (p : Pf) (hp : p.full) (A : Option Addr) (c : Nat) (e : Int) (B : Option Addr) (d : Nat) (hs : List Ho) (hl : p.hs.length + hs.length ≤ 1000) (hrt : ∀ w, Row w A p.hs.length p.hs → Calls Tryz.prog 38 #[.agg (p.fd A c).cells.toArray] w fun e w' => e = .returned (.bool true) ∧ Below w.heap.size w w') (e1 : (p.e != 0) = true) (e2 : (e != 0) = false) (d1 : decide ((0 : Int) < (p.hs.length : Int)) = true) (d2 : decide ((0 : Int) < (hs.length : Int)) = true) (w : World) (hd : Row w A p.hs.length p.hs) (hd2 : Row w B hs.length hs) :
    Calls Tryz.prog 23 #[.agg (p.fd A c).cells.toArray, .agg (rsc e B hs.length d).toArray] w fun x u => ∃ A1 c1, x = .returned (.tuple #[.agg ((zP).fd A1 c1).cells.toArray, .int .i64 1]) ∧ Row u A1 (zP).hs.length (zP).hs ∧ Fresh w.heap.size A1 c1 (zP).hs ∧ Below w.heap.size w u := by
  have HK := Lib.hid (KeepF.start (w := w) (rows := [(A, p.hs.length, p.hs), (B, hs.length, hs)]) (by simp [hd, hd2]))
  have HF := Lib.hid hp
  have HZ := Lib.hid zP_full
  have HN := Lib.hid hl
  have hzr : ∀ u : World, Row u none zP.hs.length zP.hs := fun u => Row.nil u none
  clear hd hd2 hp hl
  have E1 := Lib.hid e1; clear e1
  have E2 := Lib.hid e2; clear e2
  have D1 := Lib.hid d1; clear d1
  have D2 := Lib.hid d2; clear d2
  go_enter Tryz.func23, Tryz.ntmps23
  go_wp2_with (first
    | (with_reducible refine box_f HK.out rfl _ rfl rfl ?_; intro b1 u hk; clear HK; have HK := Lib.hid hk; clear hk)
    | (with_reducible refine alloc_f HK.out f_zeroP rfl rfl ?_; intro b4 u hk; clear HK; have HK := Lib.hid hk; clear hk)
    | (with_reducible refine load_fr HK.out 2 Tryz.underlying33 rfl (Pf.infoF HF.out) _ rfl rfl rfl rfl Pf.all ?_)
    | (go_at_call 38; (with_reducible refine (hrt _ (HK.out.rowAt 0 rfl)).mono ?_); rintro e u ⟨rfl, hb⟩; have hk := HK.out.call hb; clear hb; clear HK; have HK := Lib.hid hk; clear hk)
    | (with_reducible refine load_f1 HK.out 2 cbI _ rfl rfl rfl rfl Pf.ce ?_)
    | (with_reducible refine load_f1 HK.out 1 cbI _ rfl rfl rfl rfl rs_c0 ?_)
    | (with_reducible refine load_f1 HK.out 2 cbH _ rfl rfl rfl rfl (Pf.cH HF.out) ?_)
    | (with_reducible refine load_f1 HK.out 1 cbH _ rfl rfl rfl rfl rs_c1 ?_)
    | (with_reducible refine neq_want E1.out _ _ _ rfl rfl rfl rfl ?_)
    | (with_reducible refine neq_want E2.out _ _ _ rfl rfl rfl rfl ?_)
    | (with_reducible refine gtr_want D1.out _ _ _ rfl rfl rfl rfl ?_)
    | (with_reducible refine gtr_want D2.out _ _ _ rfl rfl rfl rfl ?_)
    | (with_reducible refine build_f f_buildP rfl rfl ?_)
    | (with_reducible refine store_fr HK.out 0 (Pf.infoF HZ.out) (Fd.one _) rfl rfl _ _ rfl rfl rfl rfl (Fd.leP HZ.out HZ.out) (Fd.setAllP HZ.out HZ.out) ?_; intro u hk; simp only [List.set_cons_zero] at hk; clear HK; have HK := Lib.hid hk; clear hk))
  exact bodyPost_ret (results_f2 rfl Tryz.underlying33 rfl (Pf.infoF HZ.out) _ HK.out 0 _ rfl rfl rfl) rfl ⟨none, 0, rfl, hzr _, Fresh.none0 _, HK.out.bel⟩
set_option maxHeartbeats 2000000 in
theorem up_r11true (p : Pf) (hp : p.full) (A : Option Addr) (c : Nat) (e : Int) (B : Option Addr) (d : Nat) (hs : List Ho) (hl : p.hs.length + hs.length ≤ 1000) (hrt : ∀ w, Row w A p.hs.length p.hs → Calls Tryz.prog 38 #[.agg (p.fd A c).cells.toArray] w fun e w' => e = .returned (.bool true) ∧ Below w.heap.size w w') (e1 : (p.e != 0) = true) (e2 : (e != 0) = false) (d1 : decide ((0 : Int) < (p.hs.length : Int)) = true) (d2 : decide ((0 : Int) < (hs.length : Int)) = false) (S : Int) (R : List Ho) (hM : R.length ≤ 1000) (hcc : ∀ w b, Cel w b 31 [.slice A p.hs.length c, .slice B hs.length d] → Row w A p.hs.length p.hs → Row w B hs.length hs → Calls Tryz.prog 58 #[.slice (some ⟨b, 0, none⟩) 2 2] w fun e w' => ∃ A1 c1, e = .returned (.slice A1 R.length c1) ∧ Own w' w.heap.size (.slice A1 R.length c1) R ∧ Below w.heap.size w w') (hS : IntKind.i64.wrap (p.e + e) = S) (hrq : ∀ A c w, Row w A ((p.setE S).setH R).hs.length ((p.setE S).setH R).hs → Calls Tryz.prog 38 #[.agg (((p.setE S).setH R).fd A c).cells.toArray] w fun e w' => e = .returned (.bool true) ∧ Below w.heap.size w w') (w : World) (hd : Row w A p.hs.length p.hs) (hd2 : Row w B hs.length hs) :
    Calls Tryz.prog 23 #[.agg (p.fd A c).cells.toArray, .agg (rsc e B hs.length d).toArray] w fun x u => ∃ A1 c1, x = .returned (.tuple #[.agg ((((p.setE S).setH R)).fd A1 c1).cells.toArray, .int .i64 0]) ∧ Row u A1 (((p.setE S).setH R)).hs.length (((p.setE S).setH R)).hs ∧ Fresh w.heap.size A1 c1 (((p.setE S).setH R)).hs ∧ Below w.heap.size w u := by
  have HK := Lib.hid (KeepF.start (w := w) (rows := [(A, p.hs.length, p.hs), (B, hs.length, hs)]) (by simp [hd, hd2]))
  have HF := Lib.hid hp
  have HZ := Lib.hid zP_full
  have HN := Lib.hid hl
  have hzr : ∀ u : World, Row u none zP.hs.length zP.hs := fun u => Row.nil u none
  clear hd hd2 hp hl
  have E1 := Lib.hid e1; clear e1
  have E2 := Lib.hid e2; clear e2
  have D1 := Lib.hid d1; clear d1
  have D2 := Lib.hid d2; clear d2
  have HG := Lib.hid (show (p.setE S).full from HF.out)
  have HI := Lib.hid (show ((p.setE S).setH R).full from HF.out)
  go_enter Tryz.func23, Tryz.ntmps23
  go_wp2_with (first
    | (with_reducible refine box_f HK.out rfl _ rfl rfl ?_; intro b1 u hk; clear HK; have HK := Lib.hid hk; clear hk)
    | (with_reducible refine alloc_f HK.out f_zeroP rfl rfl ?_; intro b4 u hk; clear HK; have HK := Lib.hid hk; clear hk)
    | (with_reducible refine load_fr HK.out 2 Tryz.underlying33 rfl (Pf.infoF HF.out) _ rfl rfl rfl rfl Pf.all ?_)
    | (go_at_call 38; (with_reducible refine (hrt _ (HK.out.rowAt 0 rfl)).mono ?_); rintro e u ⟨rfl, hb⟩; have hk := HK.out.call hb; clear hb; clear HK; have HK := Lib.hid hk; clear hk)
    | (with_reducible refine load_f1 HK.out 2 cbI _ rfl rfl rfl rfl Pf.ce ?_)
    | (with_reducible refine load_f1 HK.out 1 cbI _ rfl rfl rfl rfl rs_c0 ?_)
    | (with_reducible refine load_f1 HK.out 2 cbH _ rfl rfl rfl rfl (Pf.cH HF.out) ?_)
    | (with_reducible refine load_f1 HK.out 1 cbH _ rfl rfl rfl rfl rs_c1 ?_)
    | (with_reducible refine neq_want E1.out _ _ _ rfl rfl rfl rfl ?_)
    | (with_reducible refine neq_want E2.out _ _ _ rfl rfl rfl rfl ?_)
    | (with_reducible refine gtr_want D1.out _ _ _ rfl rfl rfl rfl ?_)
    | (with_reducible refine gtr_want D2.out _ _ _ rfl rfl rfl rfl ?_)
    | (with_reducible refine store_f1 HK.out 2 cbI rfl rfl _ _ rfl rfl rfl rfl rfl (Pf.lt2 HF.out) (Pf.toE' S) ?_; intro u hk; simp only [List.set_cons_zero, List.set_cons_succ] at hk; clear HK; have HK := Lib.hid hk; clear hk)
    | (with_reducible refine load_f1 HK.out 2 cbH _ rfl rfl rfl rfl (Pf.cH HG.out) ?_)
    | (with_reducible refine load_f1 HK.out 1 cbH _ rfl rfl rfl rfl rs_c1 ?_)
    | (with_reducible refine build_2s HK.out rfl _ _ rfl rfl rfl ?_; intro b8 u hk; clear HK; have HK := Lib.hid hk; clear hk)
    | (go_at_call 58; (with_reducible refine (hcc _ _ (HK.out.get 0 rfl) (HK.out.rowAt 0 rfl) (HK.out.rowAt 1 rfl)).mono ?_); rintro e u ⟨A1, c1, rfl, ho, hb⟩; have HX := Lib.hid ((Fresh.own ho).mono HK.out.bel.size); have hk := HK.out.own hb ho hM; clear hb ho; clear HK; have HK := Lib.hid hk; clear hk)
    | (with_reducible refine store_f1 HK.out 3 cbH rfl rfl _ _ rfl rfl rfl rfl rfl (Fd.ltH HG.out) (Pf.toH HG.out A1 c1 R) ?_; intro u hk; simp only [List.set_cons_zero, List.set_cons_succ] at hk; clear HK; have HK := Lib.hid hk; clear hk)
    | (with_reducible refine load_fr HK.out 3 Tryz.underlying33 rfl (Pf.infoF HI.out) _ rfl rfl rfl rfl Pf.all ?_)
    | (go_at_call 38; (with_reducible refine (hrq _ _ _ (HK.out.rowAt 0 rfl)).mono ?_); rintro e u ⟨rfl, hb⟩; have hk := HK.out.call hb; clear hb; clear HK; have HK := Lib.hid hk; clear hk)
    | (with_reducible refine store_fr HK.out 1 (Pf.infoF HI.out) (Fd.one _) rfl rfl _ _ rfl rfl rfl rfl (Fd.leP HZ.out HI.out) (Fd.setAllP HZ.out HI.out) ?_; intro u hk; simp only [List.set_cons_zero, List.set_cons_succ] at hk; clear HK; have HK := Lib.hid hk; clear hk)
    | (with_reducible refine load_f1 HK.out 2 cbI _ rfl rfl rfl rfl Pf.ce ?_)
    | (with_reducible refine load_f1 HK.out 1 cbI _ rfl rfl rfl rfl rs_c0 ?_))
  exact bodyPost_ret (results_f2 rfl Tryz.underlying33 rfl (Pf.infoF HI.out) _ HK.out 1 _ rfl rfl rfl) rfl ⟨A1, c1, rfl, HK.out.rowAt 0 rfl, HX.out, HK.out.bel⟩
set_option maxHeartbeats 2000000 in
theorem up_r11false (p : Pf) (hp : p.full) (A : Option Addr) (c : Nat) (e : Int) (B : Option Addr) (d : Nat) (hs : List Ho) (hl : p.hs.length + hs.length ≤ 1000) (hrt : ∀ w, Row w A p.hs.length p.hs → Calls Tryz.prog 38 #[.agg (p.fd A c).cells.toArray] w fun e w' => e = .returned (.bool true) ∧ Below w.heap.size w w') (e1 : (p.e != 0) = true) (e2 : (e != 0) = false) (d1 : decide ((0 : Int) < (p.hs.length : Int)) = true) (d2 : decide ((0 : Int) < (hs.length : Int)) = false) (S : Int) (R : List Ho) (hM : R.length ≤ 1000) (hcc : ∀ w b, Cel w b 31 [.slice A p.hs.length c, .slice B hs.length d] → Row w A p.hs.length p.hs → Row w B hs.length hs → Calls Tryz.prog 58 #[.slice (some ⟨b, 0, none⟩) 2 2] w fun e w' => ∃ A1 c1, e = .returned (.slice A1 R.length c1) ∧ Own w' w.heap.size (.slice A1 R.length c1) R ∧ Below w.heap.size w w') (hS : IntKind.i64.wrap (p.e + e) = S) (hrq : ∀ A c w, Row w A ((p.setE S).setH R).hs.length ((p.setE S).setH R).hs → Calls Tryz.prog 38 #[.agg (((p.setE S).setH R).fd A c).cells.toArray] w fun e w' => e = .returned (.bool false) ∧ Below w.heap.size w w') (w : World) (hd : Row w A p.hs.length p.hs) (hd2 : Row w B hs.length hs) :
    Calls Tryz.prog 23 #[.agg (p.fd A c).cells.toArray, .agg (rsc e B hs.length d).toArray] w fun x u => ∃ A1 c1, x = .returned (.tuple #[.agg ((zP).fd A1 c1).cells.toArray, .int .i64 4]) ∧ Row u A1 (zP).hs.length (zP).hs ∧ Fresh w.heap.size A1 c1 (zP).hs ∧ Below w.heap.size w u := by
  have HK := Lib.hid (KeepF.start (w := w) (rows := [(A, p.hs.length, p.hs), (B, hs.length, hs)]) (by simp [hd, hd2]))
  have HF := Lib.hid hp
  have HZ := Lib.hid zP_full
  have HN := Lib.hid hl
  have hzr : ∀ u : World, Row u none zP.hs.length zP.hs := fun u => Row.nil u none
  clear hd hd2 hp hl
  have E1 := Lib.hid e1; clear e1
  have E2 := Lib.hid e2; clear e2
  have D1 := Lib.hid d1; clear d1
  have D2 := Lib.hid d2; clear d2
  have HG := Lib.hid (show (p.setE S).full from HF.out)
  have HI := Lib.hid (show ((p.setE S).setH R).full from HF.out)
  go_enter Tryz.func23, Tryz.ntmps23
  go_wp2_with (first
    | (with_reducible refine box_f HK.out rfl _ rfl rfl ?_; intro b1 u hk; clear HK; have HK := Lib.hid hk; clear hk)
    | (with_reducible refine alloc_f HK.out f_zeroP rfl rfl ?_; intro b4 u hk; clear HK; have HK := Lib.hid hk; clear hk)
    | (with_reducible refine load_fr HK.out 2 Tryz.underlying33 rfl (Pf.infoF HF.out) _ rfl rfl rfl rfl Pf.all ?_)
    | (go_at_call 38; (with_reducible refine (hrt _ (HK.out.rowAt 0 rfl)).mono ?_); rintro e u ⟨rfl, hb⟩; have hk := HK.out.call hb; clear hb; clear HK; have HK := Lib.hid hk; clear hk)
    | (with_reducible refine load_f1 HK.out 2 cbI _ rfl rfl rfl rfl Pf.ce ?_)
    | (with_reducible refine load_f1 HK.out 1 cbI _ rfl rfl rfl rfl rs_c0 ?_)
    | (with_reducible refine load_f1 HK.out 2 cbH _ rfl rfl rfl rfl (Pf.cH HF.out) ?_)
    | (with_reducible refine load_f1 HK.out 1 cbH _ rfl rfl rfl rfl rs_c1 ?_)
    | (with_reducible refine neq_want E1.out _ _ _ rfl rfl rfl rfl ?_)
    | (with_reducible refine neq_want E2.out _ _ _ rfl rfl rfl rfl ?_)
    | (with_reducible refine gtr_want D1.out _ _ _ rfl rfl rfl rfl ?_)
    | (with_reducible refine gtr_want D2.out _ _ _ rfl rfl rfl rfl ?_)
    | (with_reducible refine store_f1 HK.out 2 cbI rfl rfl _ _ rfl rfl rfl rfl rfl (Pf.lt2 HF.out) (Pf.toE' S) ?_; intro u hk; simp only [List.set_cons_zero, List.set_cons_succ] at hk; clear HK; have HK := Lib.hid hk; clear hk)
    | (with_reducible refine load_f1 HK.out 2 cbH _ rfl rfl rfl rfl (Pf.cH HG.out) ?_)
    | (with_reducible refine load_f1 HK.out 1 cbH _ rfl rfl rfl rfl rs_c1 ?_)
    | (with_reducible refine build_2s HK.out rfl _ _ rfl rfl rfl ?_; intro b8 u hk; clear HK; have HK := Lib.hid hk; clear hk)
    | (go_at_call 58; (with_reducible refine (hcc _ _ (HK.out.get 0 rfl) (HK.out.rowAt 0 rfl) (HK.out.rowAt 1 rfl)).mono ?_); rintro e u ⟨A1, c1, rfl, ho, hb⟩; have HX := Lib.hid ((Fresh.own ho).mono HK.out.bel.size); have hk := HK.out.own hb ho hM; clear hb ho; clear HK; have HK := Lib.hid hk; clear hk)
    | (with_reducible refine store_f1 HK.out 3 cbH rfl rfl _ _ rfl rfl rfl rfl rfl (Fd.ltH HG.out) (Pf.toH HG.out A1 c1 R) ?_; intro u hk; simp only [List.set_cons_zero, List.set_cons_succ] at hk; clear HK; have HK := Lib.hid hk; clear hk)
    | (with_reducible refine load_fr HK.out 3 Tryz.underlying33 rfl (Pf.infoF HI.out) _ rfl rfl rfl rfl Pf.all ?_)
    | (go_at_call 38; (with_reducible refine (hrq _ _ _ (HK.out.rowAt 0 rfl)).mono ?_); rintro e u ⟨rfl, hb⟩; have hk := HK.out.call hb; clear hb; clear HK; have HK := Lib.hid hk; clear hk)
    | (with_reducible refine build_f f_buildP rfl rfl ?_)
    | (with_reducible refine store_fr HK.out 1 (Pf.infoF HZ.out) (Fd.one _) rfl rfl _ _ rfl rfl rfl rfl (Fd.leP HZ.out HZ.out) (Fd.setAllP HZ.out HZ.out) ?_; intro u hk; simp only [List.set_cons_zero, List.set_cons_succ] at hk; clear HK; have HK := Lib.hid hk; clear hk)
    | (with_reducible refine load_f1 HK.out 2 cbI _ rfl rfl rfl rfl Pf.ce ?_)
    | (with_reducible refine load_f1 HK.out 1 cbI _ rfl rfl rfl rfl rs_c0 ?_))
  exact bodyPost_ret (results_f2 rfl Tryz.underlying33 rfl (Pf.infoF HZ.out) _ HK.out 1 _ rfl rfl rfl) rfl ⟨none, 0, rfl, hzr _, Fresh.none0 _, HK.out.bel⟩
set_option maxHeartbeats 2000000 in
theorem up_r10true (p : Pf) (hp : p.full) (A : Option Addr) (c : Nat) (e : Int) (B : Option Addr) (d : Nat) (hs : List Ho) (hl : p.hs.length + hs.length ≤ 1000) (hrt : ∀ w, Row w A p.hs.length p.hs → Calls Tryz.prog 38 #[.agg (p.fd A c).cells.toArray] w fun e w' => e = .returned (.bool true) ∧ Below w.heap.size w w') (e1 : (p.e != 0) = true) (e2 : (e != 0) = false) (d1 : decide ((0 : Int) < (p.hs.length : Int)) = false) (S : Int) (R : List Ho) (hM : R.length ≤ 1000) (hcc : ∀ w b, Cel w b 31 [.slice A p.hs.length c, .slice B hs.length d] → Row w A p.hs.length p.hs → Row w B hs.length hs → Calls Tryz.prog 58 #[.slice (some ⟨b, 0, none⟩) 2 2] w fun e w' => ∃ A1 c1, e = .returned (.slice A1 R.length c1) ∧ Own w' w.heap.size (.slice A1 R.length c1) R ∧ Below w.heap.size w w') (hS : IntKind.i64.wrap (p.e + e) = S) (hrq : ∀ A c w, Row w A ((p.setE S).setH R).hs.length ((p.setE S).setH R).hs → Calls Tryz.prog 38 #[.agg (((p.setE S).setH R).fd A c).cells.toArray] w fun e w' => e = .returned (.bool true) ∧ Below w.heap.size w w') (w : World) (hd : Row w A p.hs.length p.hs) (hd2 : Row w B hs.length hs) :
    Calls Tryz.prog 23 #[.agg (p.fd A c).cells.toArray, .agg (rsc e B hs.length d).toArray] w fun x u => ∃ A1 c1, x = .returned (.tuple #[.agg ((((p.setE S).setH R)).fd A1 c1).cells.toArray, .int .i64 0]) ∧ Row u A1 (((p.setE S).setH R)).hs.length (((p.setE S).setH R)).hs ∧ Fresh w.heap.size A1 c1 (((p.setE S).setH R)).hs ∧ Below w.heap.size w u := by
  have HK := Lib.hid (KeepF.start (w := w) (rows := [(A, p.hs.length, p.hs), (B, hs.length, hs)]) (by simp [hd, hd2]))
  have HF := Lib.hid hp
  have HZ := Lib.hid zP_full
  have HN := Lib.hid hl
  have hzr : ∀ u : World, Row u none zP.hs.length zP.hs := fun u => Row.nil u none
  clear hd hd2 hp hl
  have E1 := Lib.hid e1; clear e1
  have E2 := Lib.hid e2; clear e2
  have D1 := Lib.hid d1; clear d1
  have HG := Lib.hid (show (p.setE S).full from HF.out)
  have HI := Lib.hid (show ((p.setE S).setH R).full from HF.out)
  go_enter Tryz.func23, Tryz.ntmps23
  go_wp2_with (first
    | (with_reducible refine box_f HK.out rfl _ rfl rfl ?_; intro b1 u hk; clear HK; have HK := Lib.hid hk; clear hk)
    | (with_reducible refine alloc_f HK.out f_zeroP rfl rfl ?_; intro b4 u hk; clear HK; have HK := Lib.hid hk; clear hk)
    | (with_reducible refine load_fr HK.out 2 Tryz.underlying33 rfl (Pf.infoF HF.out) _ rfl rfl rfl rfl Pf.all ?_)
    | (go_at_call 38; (with_reducible refine (hrt _ (HK.out.rowAt 0 rfl)).mono ?_); rintro e u ⟨rfl, hb⟩; have hk := HK.out.call hb; clear hb; clear HK; have HK := Lib.hid hk; clear hk)
    | (with_reducible refine load_f1 HK.out 2 cbI _ rfl rfl rfl rfl Pf.ce ?_)
    | (with_reducible refine load_f1 HK.out 1 cbI _ rfl rfl rfl rfl rs_c0 ?_)
    | (with_reducible refine load_f1 HK.out 2 cbH _ rfl rfl rfl rfl (Pf.cH HF.out) ?_)
    | (with_reducible refine neq_want E1.out _ _ _ rfl rfl rfl rfl ?_)
    | (with_reducible refine neq_want E2.out _ _ _ rfl rfl rfl rfl ?_)
    | (with_reducible refine gtr_want D1.out _ _ _ rfl rfl rfl rfl ?_)
    | (with_reducible refine store_f1 HK.out 2 cbI rfl rfl _ _ rfl rfl rfl rfl rfl (Pf.lt2 HF.out) (Pf.toE' S) ?_; intro u hk; simp only [List.set_cons_zero, List.set_cons_succ] at hk; clear HK; have HK := Lib.hid hk; clear hk)
    | (with_reducible refine load_f1 HK.out 2 cbH _ rfl rfl rfl rfl (Pf.cH HG.out) ?_)
    | (with_reducible refine load_f1 HK.out 1 cbH _ rfl rfl rfl rfl rs_c1 ?_)
    | (with_reducible refine build_2s HK.out rfl _ _ rfl rfl rfl ?_; intro b8 u hk; clear HK; have HK := Lib.hid hk; clear hk)
    | (go_at_call 58; (with_reducible refine (hcc _ _ (HK.out.get 0 rfl) (HK.out.rowAt 0 rfl) (HK.out.rowAt 1 rfl)).mono ?_); rintro e u ⟨A1, c1, rfl, ho, hb⟩; have HX := Lib.hid ((Fresh.own ho).mono HK.out.bel.size); have hk := HK.out.own hb ho hM; clear hb ho; clear HK; have HK := Lib.hid hk; clear hk)
    | (with_reducible refine store_f1 HK.out 3 cbH rfl rfl _ _ rfl rfl rfl rfl rfl (Fd.ltH HG.out) (Pf.toH HG.out A1 c1 R) ?_; intro u hk; simp only [List.set_cons_zero, List.set_cons_succ] at hk; clear HK; have HK := Lib.hid hk; clear hk)
    | (with_reducible refine load_fr HK.out 3 Tryz.underlying33 rfl (Pf.infoF HI.out) _ rfl rfl rfl rfl Pf.all ?_)
    | (go_at_call 38; (with_reducible refine (hrq _ _ _ (HK.out.rowAt 0 rfl)).mono ?_); rintro e u ⟨rfl, hb⟩; have hk := HK.out.call hb; clear hb; clear HK; have HK := Lib.hid hk; clear hk)
    | (with_reducible refine store_fr HK.out 1 (Pf.infoF HI.out) (Fd.one _) rfl rfl _ _ rfl rfl rfl rfl (Fd.leP HZ.out HI.out) (Fd.setAllP HZ.out HI.out) ?_; intro u hk; simp only [List.set_cons_zero, List.set_cons_succ] at hk; clear HK; have HK := Lib.hid hk; clear hk)
    | (with_reducible refine load_f1 HK.out 2 cbI _ rfl rfl rfl rfl Pf.ce ?_)
    | (with_reducible refine load_f1 HK.out 1 cbI _ rfl rfl rfl rfl rs_c0 ?_))
  exact bodyPost_ret (results_f2 rfl Tryz.underlying33 rfl (Pf.infoF HI.out) _ HK.out 1 _ rfl rfl rfl) rfl ⟨A1, c1, rfl, HK.out.rowAt 0 rfl, HX.out, HK.out.bel⟩
set_option maxHeartbeats 2000000 in
theorem up_r10false (p : Pf) (hp : p.full) (A : Option Addr) (c : Nat) (e : Int) (B : Option Addr) (d : Nat) (hs : List Ho) (hl : p.hs.length + hs.length ≤ 1000) (hrt : ∀ w, Row w A p.hs.length p.hs → Calls Tryz.prog 38 #[.agg (p.fd A c).cells.toArray] w fun e w' => e = .returned (.bool true) ∧ Below w.heap.size w w') (e1 : (p.e != 0) = true) (e2 : (e != 0) = false) (d1 : decide ((0 : Int) < (p.hs.length : Int)) = false) (S : Int) (R : List Ho) (hM : R.length ≤ 1000) (hcc : ∀ w b, Cel w b 31 [.slice A p.hs.length c, .slice B hs.length d] → Row w A p.hs.length p.hs → Row w B hs.length hs → Calls Tryz.prog 58 #[.slice (some ⟨b, 0, none⟩) 2 2] w fun e w' => ∃ A1 c1, e = .returned (.slice A1 R.length c1) ∧ Own w' w.heap.size (.slice A1 R.length c1) R ∧ Below w.heap.size w w') (hS : IntKind.i64.wrap (p.e + e) = S) (hrq : ∀ A c w, Row w A ((p.setE S).setH R).hs.length ((p.setE S).setH R).hs → Calls Tryz.prog 38 #[.agg (((p.setE S).setH R).fd A c).cells.toArray] w fun e w' => e = .returned (.bool false) ∧ Below w.heap.size w w') (w : World) (hd : Row w A p.hs.length p.hs) (hd2 : Row w B hs.length hs) :
    Calls Tryz.prog 23 #[.agg (p.fd A c).cells.toArray, .agg (rsc e B hs.length d).toArray] w fun x u => ∃ A1 c1, x = .returned (.tuple #[.agg ((zP).fd A1 c1).cells.toArray, .int .i64 4]) ∧ Row u A1 (zP).hs.length (zP).hs ∧ Fresh w.heap.size A1 c1 (zP).hs ∧ Below w.heap.size w u := by
  have HK := Lib.hid (KeepF.start (w := w) (rows := [(A, p.hs.length, p.hs), (B, hs.length, hs)]) (by simp [hd, hd2]))
  have HF := Lib.hid hp
  have HZ := Lib.hid zP_full
  have HN := Lib.hid hl
  have hzr : ∀ u : World, Row u none zP.hs.length zP.hs := fun u => Row.nil u none
  clear hd hd2 hp hl
  have E1 := Lib.hid e1; clear e1
  have E2 := Lib.hid e2; clear e2
  have D1 := Lib.hid d1; clear d1
  have HG := Lib.hid (show (p.setE S).full from HF.out)
  have HI := Lib.hid (show ((p.setE S).setH R).full from HF.out)
  go_enter Tryz.func23, Tryz.ntmps23
  go_wp2_with (first
    | (with_reducible refine box_f HK.out rfl _ rfl rfl ?_; intro b1 u hk; clear HK; have HK := Lib.hid hk; clear hk)
    | (with_reducible refine alloc_f HK.out f_zeroP rfl rfl ?_; intro b4 u hk; clear HK; have HK := Lib.hid hk; clear hk)
    | (with_reducible refine load_fr HK.out 2 Tryz.underlying33 rfl (Pf.infoF HF.out) _ rfl rfl rfl rfl Pf.all ?_)
    | (go_at_call 38; (with_reducible refine (hrt _ (HK.out.rowAt 0 rfl)).mono ?_); rintro e u ⟨rfl, hb⟩; have hk := HK.out.call hb; clear hb; clear HK; have HK := Lib.hid hk; clear hk)
    | (with_reducible refine load_f1 HK.out 2 cbI _ rfl rfl rfl rfl Pf.ce ?_)
    | (with_reducible refine load_f1 HK.out 1 cbI _ rfl rfl rfl rfl rs_c0 ?_)
    | (with_reducible refine load_f1 HK.out 2 cbH _ rfl rfl rfl rfl (Pf.cH HF.out) ?_)
    | (with_reducible refine neq_want E1.out _ _ _ rfl rfl rfl rfl ?_)
    | (with_reducible refine neq_want E2.out _ _ _ rfl rfl rfl rfl ?_)
    | (with_reducible refine gtr_want D1.out _ _ _ rfl rfl rfl rfl ?_)
    | (with_reducible refine store_f1 HK.out 2 cbI rfl rfl _ _ rfl rfl rfl rfl rfl (Pf.lt2 HF.out) (Pf.toE' S) ?_; intro u hk; simp only [List.set_cons_zero, List.set_cons_succ] at hk; clear HK; have HK := Lib.hid hk; clear hk)
    | (with_reducible refine load_f1 HK.out 2 cbH _ rfl rfl rfl rfl (Pf.cH HG.out) ?_)
    | (with_reducible refine load_f1 HK.out 1 cbH _ rfl rfl rfl rfl rs_c1 ?_)
    | (with_reducible refine build_2s HK.out rfl _ _ rfl rfl rfl ?_; intro b8 u hk; clear HK; have HK := Lib.hid hk; clear hk)
    | (go_at_call 58; (with_reducible refine (hcc _ _ (HK.out.get 0 rfl) (HK.out.rowAt 0 rfl) (HK.out.rowAt 1 rfl)).mono ?_); rintro e u ⟨A1, c1, rfl, ho, hb⟩; have HX := Lib.hid ((Fresh.own ho).mono HK.out.bel.size); have hk := HK.out.own hb ho hM; clear hb ho; clear HK; have HK := Lib.hid hk; clear hk)
    | (with_reducible refine store_f1 HK.out 3 cbH rfl rfl _ _ rfl rfl rfl rfl rfl (Fd.ltH HG.out) (Pf.toH HG.out A1 c1 R) ?_; intro u hk; simp only [List.set_cons_zero, List.set_cons_succ] at hk; clear HK; have HK := Lib.hid hk; clear hk)
    | (with_reducible refine load_fr HK.out 3 Tryz.underlying33 rfl (Pf.infoF HI.out) _ rfl rfl rfl rfl Pf.all ?_)
    | (go_at_call 38; (with_reducible refine (hrq _ _ _ (HK.out.rowAt 0 rfl)).mono ?_); rintro e u ⟨rfl, hb⟩; have hk := HK.out.call hb; clear hb; clear HK; have HK := Lib.hid hk; clear hk)
    | (with_reducible refine build_f f_buildP rfl rfl ?_)
    | (with_reducible refine store_fr HK.out 1 (Pf.infoF HZ.out) (Fd.one _) rfl rfl _ _ rfl rfl rfl rfl (Fd.leP HZ.out HZ.out) (Fd.setAllP HZ.out HZ.out) ?_; intro u hk; simp only [List.set_cons_zero, List.set_cons_succ] at hk; clear HK; have HK := Lib.hid hk; clear hk)
    | (with_reducible refine load_f1 HK.out 2 cbI _ rfl rfl rfl rfl Pf.ce ?_)
    | (with_reducible refine load_f1 HK.out 1 cbI _ rfl rfl rfl rfl rs_c0 ?_))
  exact bodyPost_ret (results_f2 rfl Tryz.underlying33 rfl (Pf.infoF HZ.out) _ HK.out 1 _ rfl rfl rfl) rfl ⟨none, 0, rfl, hzr _, Fresh.none0 _, HK.out.bel⟩
set_option maxHeartbeats 2000000 in
theorem up_ho0 (p : Pf) (hp : p.full) (A : Option Addr) (c : Nat) (e : Int) (B : Option Addr) (d : Nat) (hs : List Ho) (hl : p.hs.length + hs.length ≤ 1000) (hrt : ∀ w, Row w A p.hs.length p.hs → Calls Tryz.prog 38 #[.agg (p.fd A c).cells.toArray] w fun e w' => e = .returned (.bool true) ∧ Below w.heap.size w w') (e1 : (p.e != 0) = false) (d1 : decide ((0 : Int) < (p.hs.length : Int)) = true) (d2 : decide ((0 : Int) < (hs.length : Int)) = true) (w : World) (hd : Row w A p.hs.length p.hs) (hd2 : Row w B hs.length hs) :
    Calls Tryz.prog 23 #[.agg (p.fd A c).cells.toArray, .agg (rsc e B hs.length d).toArray] w fun x u => ∃ A1 c1, x = .returned (.tuple #[.agg ((zP).fd A1 c1).cells.toArray, .int .i64 1]) ∧ Row u A1 (zP).hs.length (zP).hs ∧ Fresh w.heap.size A1 c1 (zP).hs ∧ Below w.heap.size w u := by
  have HK := Lib.hid (KeepF.start (w := w) (rows := [(A, p.hs.length, p.hs), (B, hs.length, hs)]) (by simp [hd, hd2]))
  have HF := Lib.hid hp
  have HZ := Lib.hid zP_full
  have HN := Lib.hid hl
  have hzr : ∀ u : World, Row u none zP.hs.length zP.hs := fun u => Row.nil u none
  clear hd hd2 hp hl
  have E1 := Lib.hid e1; clear e1
  have D1 := Lib.hid d1; clear d1
  have D2 := Lib.hid d2; clear d2
  go_enter Tryz.func23, Tryz.ntmps23
  go_wp2_with (first
    | (with_reducible refine box_f HK.out rfl _ rfl rfl ?_; intro b1 u hk; clear HK; have HK := Lib.hid hk; clear hk)
    | (with_reducible refine alloc_f HK.out f_zeroP rfl rfl ?_; intro b4 u hk; clear HK; have HK := Lib.hid hk; clear hk)
    | (with_reducible refine load_fr HK.out 2 Tryz.underlying33 rfl (Pf.infoF HF.out) _ rfl rfl rfl rfl Pf.all ?_)
    | (go_at_call 38; (with_reducible refine (hrt _ (HK.out.rowAt 0 rfl)).mono ?_); rintro e u ⟨rfl, hb⟩; have hk := HK.out.call hb; clear hb; clear HK; have HK := Lib.hid hk; clear hk)
    | (with_reducible refine load_f1 HK.out 2 cbI _ rfl rfl rfl rfl Pf.ce ?_)
    | (with_reducible refine load_f1 HK.out 2 cbH _ rfl rfl rfl rfl (Pf.cH HF.out) ?_)
    | (with_reducible refine load_f1 HK.out 1 cbH _ rfl rfl rfl rfl rs_c1 ?_)
    | (with_reducible refine neq_want E1.out _ _ _ rfl rfl rfl rfl ?_)
    | (with_reducible refine gtr_want D1.out _ _ _ rfl rfl rfl rfl ?_)
    | (with_reducible refine gtr_want D2.out _ _ _ rfl rfl rfl rfl ?_)
    | (with_reducible refine build_f f_buildP rfl rfl ?_)
    | (with_reducible refine store_fr HK.out 0 (Pf.infoF HZ.out) (Fd.one _) rfl rfl _ _ rfl rfl rfl rfl (Fd.leP HZ.out HZ.out) (Fd.setAllP HZ.out HZ.out) ?_; intro u hk; simp only [List.set_cons_zero] at hk; clear HK; have HK := Lib.hid hk; clear hk))
  exact bodyPost_ret (results_f2 rfl Tryz.underlying33 rfl (Pf.infoF HZ.out) _ HK.out 0 _ rfl rfl rfl) rfl ⟨none, 0, rfl, hzr _, Fresh.none0 _, HK.out.bel⟩
set_option maxHeartbeats 2000000 in
theorem up_r01true (p : Pf) (hp : p.full) (A : Option Addr) (c : Nat) (e : Int) (B : Option Addr) (d : Nat) (hs : List Ho) (hl : p.hs.length + hs.length ≤ 1000) (hrt : ∀ w, Row w A p.hs.length p.hs → Calls Tryz.prog 38 #[.agg (p.fd A c).cells.toArray] w fun e w' => e = .returned (.bool true) ∧ Below w.heap.size w w') (e1 : (p.e != 0) = false) (d1 : decide ((0 : Int) < (p.hs.length : Int)) = true) (d2 : decide ((0 : Int) < (hs.length : Int)) = false) (S : Int) (R : List Ho) (hM : R.length ≤ 1000) (hcc : ∀ w b, Cel w b 31 [.slice A p.hs.length c, .slice B hs.length d] → Row w A p.hs.length p.hs → Row w B hs.length hs → Calls Tryz.prog 58 #[.slice (some ⟨b, 0, none⟩) 2 2] w fun e w' => ∃ A1 c1, e = .returned (.slice A1 R.length c1) ∧ Own w' w.heap.size (.slice A1 R.length c1) R ∧ Below w.heap.size w w') (hS : IntKind.i64.wrap (p.e + e) = S) (hrq : ∀ A c w, Row w A ((p.setE S).setH R).hs.length ((p.setE S).setH R).hs → Calls Tryz.prog 38 #[.agg (((p.setE S).setH R).fd A c).cells.toArray] w fun e w' => e = .returned (.bool true) ∧ Below w.heap.size w w') (w : World) (hd : Row w A p.hs.length p.hs) (hd2 : Row w B hs.length hs) :
    Calls Tryz.prog 23 #[.agg (p.fd A c).cells.toArray, .agg (rsc e B hs.length d).toArray] w fun x u => ∃ A1 c1, x = .returned (.tuple #[.agg ((((p.setE S).setH R)).fd A1 c1).cells.toArray, .int .i64 0]) ∧ Row u A1 (((p.setE S).setH R)).hs.length (((p.setE S).setH R)).hs ∧ Fresh w.heap.size A1 c1 (((p.setE S).setH R)).hs ∧ Below w.heap.size w u := by
  have HK := Lib.hid (KeepF.start (w := w) (rows := [(A, p.hs.length, p.hs), (B, hs.length, hs)]) (by simp [hd, hd2]))
  have HF := Lib.hid hp
  have HZ := Lib.hid zP_full
  have HN := Lib.hid hl
  have hzr : ∀ u : World, Row u none zP.hs.length zP.hs := fun u => Row.nil u none
  clear hd hd2 hp hl
  have E1 := Lib.hid e1; clear e1
  have D1 := Lib.hid d1; clear d1
  have D2 := Lib.hid d2; clear d2
  have HG := Lib.hid (show (p.setE S).full from HF.out)
  have HI := Lib.hid (show ((p.setE S).setH R).full from HF.out)
  go_enter Tryz.func23, Tryz.ntmps23
  go_wp2_with (first
    | (with_reducible refine box_f HK.out rfl _ rfl rfl ?_; intro b1 u hk; clear HK; have HK := Lib.hid hk; clear hk)
    | (with_reducible refine alloc_f HK.out f_zeroP rfl rfl ?_; intro b4 u hk; clear HK; have HK := Lib.hid hk; clear hk)
    | (with_reducible refine load_fr HK.out 2 Tryz.underlying33 rfl (Pf.infoF HF.out) _ rfl rfl rfl rfl Pf.all ?_)
    | (go_at_call 38; (with_reducible refine (hrt _ (HK.out.rowAt 0 rfl)).mono ?_); rintro e u ⟨rfl, hb⟩; have hk := HK.out.call hb; clear hb; clear HK; have HK := Lib.hid hk; clear hk)
    | (with_reducible refine load_f1 HK.out 2 cbI _ rfl rfl rfl rfl Pf.ce ?_)
    | (with_reducible refine load_f1 HK.out 2 cbH _ rfl rfl rfl rfl (Pf.cH HF.out) ?_)
    | (with_reducible refine load_f1 HK.out 1 cbH _ rfl rfl rfl rfl rs_c1 ?_)
    | (with_reducible refine neq_want E1.out _ _ _ rfl rfl rfl rfl ?_)
    | (with_reducible refine gtr_want D1.out _ _ _ rfl rfl rfl rfl ?_)
    | (with_reducible refine gtr_want D2.out _ _ _ rfl rfl rfl rfl ?_)
    | (with_reducible refine store_f1 HK.out 2 cbI rfl rfl _ _ rfl rfl rfl rfl rfl (Pf.lt2 HF.out) (Pf.toE' S) ?_; intro u hk; simp only [List.set_cons_zero, List.set_cons_succ] at hk; clear HK; have HK := Lib.hid hk; clear hk)
    | (with_reducible refine load_f1 HK.out 2 cbH _ rfl rfl rfl rfl (Pf.cH HG.out) ?_)
    | (with_reducible refine load_f1 HK.out 1 cbH _ rfl rfl rfl rfl rs_c1 ?_)
    | (with_reducible refine build_2s HK.out rfl _ _ rfl rfl rfl ?_; intro b8 u hk; clear HK; have HK := Lib.hid hk; clear hk)
    | (go_at_call 58; (with_reducible refine (hcc _ _ (HK.out.get 0 rfl) (HK.out.rowAt 0 rfl) (HK.out.rowAt 1 rfl)).mono ?_); rintro e u ⟨A1, c1, rfl, ho, hb⟩; have HX := Lib.hid ((Fresh.own ho).mono HK.out.bel.size); have hk := HK.out.own hb ho hM; clear hb ho; clear HK; have HK := Lib.hid hk; clear hk)
    | (with_reducible refine store_f1 HK.out 3 cbH rfl rfl _ _ rfl rfl rfl rfl rfl (Fd.ltH HG.out) (Pf.toH HG.out A1 c1 R) ?_; intro u hk; simp only [List.set_cons_zero, List.set_cons_succ] at hk; clear HK; have HK := Lib.hid hk; clear hk)
    | (with_reducible refine load_fr HK.out 3 Tryz.underlying33 rfl (Pf.infoF HI.out) _ rfl rfl rfl rfl Pf.all ?_)
    | (go_at_call 38; (with_reducible refine (hrq _ _ _ (HK.out.rowAt 0 rfl)).mono ?_); rintro e u ⟨rfl, hb⟩; have hk := HK.out.call hb; clear hb; clear HK; have HK := Lib.hid hk; clear hk)
    | (with_reducible refine store_fr HK.out 1 (Pf.infoF HI.out) (Fd.one _) rfl rfl _ _ rfl rfl rfl rfl (Fd.leP HZ.out HI.out) (Fd.setAllP HZ.out HI.out) ?_; intro u hk; simp only [List.set_cons_zero, List.set_cons_succ] at hk; clear HK; have HK := Lib.hid hk; clear hk)
    | (with_reducible refine load_f1 HK.out 2 cbI _ rfl rfl rfl rfl Pf.ce ?_)
    | (with_reducible refine load_f1 HK.out 1 cbI _ rfl rfl rfl rfl rs_c0 ?_))
  exact bodyPost_ret (results_f2 rfl Tryz.underlying33 rfl (Pf.infoF HI.out) _ HK.out 1 _ rfl rfl rfl) rfl ⟨A1, c1, rfl, HK.out.rowAt 0 rfl, HX.out, HK.out.bel⟩
set_option maxHeartbeats 2000000 in
theorem up_r01false (p : Pf) (hp : p.full) (A : Option Addr) (c : Nat) (e : Int) (B : Option Addr) (d : Nat) (hs : List Ho) (hl : p.hs.length + hs.length ≤ 1000) (hrt : ∀ w, Row w A p.hs.length p.hs → Calls Tryz.prog 38 #[.agg (p.fd A c).cells.toArray] w fun e w' => e = .returned (.bool true) ∧ Below w.heap.size w w') (e1 : (p.e != 0) = false) (d1 : decide ((0 : Int) < (p.hs.length : Int)) = true) (d2 : decide ((0 : Int) < (hs.length : Int)) = false) (S : Int) (R : List Ho) (hM : R.length ≤ 1000) (hcc : ∀ w b, Cel w b 31 [.slice A p.hs.length c, .slice B hs.length d] → Row w A p.hs.length p.hs → Row w B hs.length hs → Calls Tryz.prog 58 #[.slice (some ⟨b, 0, none⟩) 2 2] w fun e w' => ∃ A1 c1, e = .returned (.slice A1 R.length c1) ∧ Own w' w.heap.size (.slice A1 R.length c1) R ∧ Below w.heap.size w w') (hS : IntKind.i64.wrap (p.e + e) = S) (hrq : ∀ A c w, Row w A ((p.setE S).setH R).hs.length ((p.setE S).setH R).hs → Calls Tryz.prog 38 #[.agg (((p.setE S).setH R).fd A c).cells.toArray] w fun e w' => e = .returned (.bool false) ∧ Below w.heap.size w w') (w : World) (hd : Row w A p.hs.length p.hs) (hd2 : Row w B hs.length hs) :
    Calls Tryz.prog 23 #[.agg (p.fd A c).cells.toArray, .agg (rsc e B hs.length d).toArray] w fun x u => ∃ A1 c1, x = .returned (.tuple #[.agg ((zP).fd A1 c1).cells.toArray, .int .i64 4]) ∧ Row u A1 (zP).hs.length (zP).hs ∧ Fresh w.heap.size A1 c1 (zP).hs ∧ Below w.heap.size w u := by
  have HK := Lib.hid (KeepF.start (w := w) (rows := [(A, p.hs.length, p.hs), (B, hs.length, hs)]) (by simp [hd, hd2]))
  have HF := Lib.hid hp
  have HZ := Lib.hid zP_full
  have HN := Lib.hid hl
  have hzr : ∀ u : World, Row u none zP.hs.length zP.hs := fun u => Row.nil u none
  clear hd hd2 hp hl
  have E1 := Lib.hid e1; clear e1
  have D1 := Lib.hid d1; clear d1
  have D2 := Lib.hid d2; clear d2
  have HG := Lib.hid (show (p.setE S).full from HF.out)
  have HI := Lib.hid (show ((p.setE S).setH R).full from HF.out)
  go_enter Tryz.func23, Tryz.ntmps23
  go_wp2_with (first
    | (with_reducible refine box_f HK.out rfl _ rfl rfl ?_; intro b1 u hk; clear HK; have HK := Lib.hid hk; clear hk)
    | (with_reducible refine alloc_f HK.out f_zeroP rfl rfl ?_; intro b4 u hk; clear HK; have HK := Lib.hid hk; clear hk)
    | (with_reducible refine load_fr HK.out 2 Tryz.underlying33 rfl (Pf.infoF HF.out) _ rfl rfl rfl rfl Pf.all ?_)
    | (go_at_call 38; (with_reducible refine (hrt _ (HK.out.rowAt 0 rfl)).mono ?_); rintro e u ⟨rfl, hb⟩; have hk := HK.out.call hb; clear hb; clear HK; have HK := Lib.hid hk; clear hk)
    | (with_reducible refine load_f1 HK.out 2 cbI _ rfl rfl rfl rfl Pf.ce ?_)
    | (with_reducible refine load_f1 HK.out 2 cbH _ rfl rfl rfl rfl (Pf.cH HF.out) ?_)
    | (with_reducible refine load_f1 HK.out 1 cbH _ rfl rfl rfl rfl rs_c1 ?_)
    | (with_reducible refine neq_want E1.out _ _ _ rfl rfl rfl rfl ?_)
    | (with_reducible refine gtr_want D1.out _ _ _ rfl rfl rfl rfl ?_)
    | (with_reducible refine gtr_want D2.out _ _ _ rfl rfl rfl rfl ?_)
    | (with_reducible refine store_f1 HK.out 2 cbI rfl rfl _ _ rfl rfl rfl rfl rfl (Pf.lt2 HF.out) (Pf.toE' S) ?_; intro u hk; simp only [List.set_cons_zero, List.set_cons_succ] at hk; clear HK; have HK := Lib.hid hk; clear hk)
    | (with_reducible refine load_f1 HK.out 2 cbH _ rfl rfl rfl rfl (Pf.cH HG.out) ?_)
    | (with_reducible refine load_f1 HK.out 1 cbH _ rfl rfl rfl rfl rs_c1 ?_)
    | (with_reducible refine build_2s HK.out rfl _ _ rfl rfl rfl ?_; intro b8 u hk; clear HK; have HK := Lib.hid hk; clear hk)
    | (go_at_call 58; (with_reducible refine (hcc _ _ (HK.out.get 0 rfl) (HK.out.rowAt 0 rfl) (HK.out.rowAt 1 rfl)).mono ?_); rintro e u ⟨A1, c1, rfl, ho, hb⟩; have HX := Lib.hid ((Fresh.own ho).mono HK.out.bel.size); have hk := HK.out.own hb ho hM; clear hb ho; clear HK; have HK := Lib.hid hk; clear hk)
    | (with_reducible refine store_f1 HK.out 3 cbH rfl rfl _ _ rfl rfl rfl rfl rfl (Fd.ltH HG.out) (Pf.toH HG.out A1 c1 R) ?_; intro u hk; simp only [List.set_cons_zero, List.set_cons_succ] at hk; clear HK; have HK := Lib.hid hk; clear hk)
    | (with_reducible refine load_fr HK.out 3 Tryz.underlying33 rfl (Pf.infoF HI.out) _ rfl rfl rfl rfl Pf.all ?_)
    | (go_at_call 38; (with_reducible refine (hrq _ _ _ (HK.out.rowAt 0 rfl)).mono ?_); rintro e u ⟨rfl, hb⟩; have hk := HK.out.call hb; clear hb; clear HK; have HK := Lib.hid hk; clear hk)
    | (with_reducible refine build_f f_buildP rfl rfl ?_)
    | (with_reducible refine store_fr HK.out 1 (Pf.infoF HZ.out) (Fd.one _) rfl rfl _ _ rfl rfl rfl rfl (Fd.leP HZ.out HZ.out) (Fd.setAllP HZ.out HZ.out) ?_; intro u hk; simp only [List.set_cons_zero, List.set_cons_succ] at hk; clear HK; have HK := Lib.hid hk; clear hk)
    | (with_reducible refine load_f1 HK.out 2 cbI _ rfl rfl rfl rfl Pf.ce ?_)
    | (with_reducible refine load_f1 HK.out 1 cbI _ rfl rfl rfl rfl rs_c0 ?_))
  exact bodyPost_ret (results_f2 rfl Tryz.underlying33 rfl (Pf.infoF HZ.out) _ HK.out 1 _ rfl rfl rfl) rfl ⟨none, 0, rfl, hzr _, Fresh.none0 _, HK.out.bel⟩
set_option maxHeartbeats 2000000 in
theorem up_r00true (p : Pf) (hp : p.full) (A : Option Addr) (c : Nat) (e : Int) (B : Option Addr) (d : Nat) (hs : List Ho) (hl : p.hs.length + hs.length ≤ 1000) (hrt : ∀ w, Row w A p.hs.length p.hs → Calls Tryz.prog 38 #[.agg (p.fd A c).cells.toArray] w fun e w' => e = .returned (.bool true) ∧ Below w.heap.size w w') (e1 : (p.e != 0) = false) (d1 : decide ((0 : Int) < (p.hs.length : Int)) = false) (S : Int) (R : List Ho) (hM : R.length ≤ 1000) (hcc : ∀ w b, Cel w b 31 [.slice A p.hs.length c, .slice B hs.length d] → Row w A p.hs.length p.hs → Row w B hs.length hs → Calls Tryz.prog 58 #[.slice (some ⟨b, 0, none⟩) 2 2] w fun e w' => ∃ A1 c1, e = .returned (.slice A1 R.length c1) ∧ Own w' w.heap.size (.slice A1 R.length c1) R ∧ Below w.heap.size w w') (hS : IntKind.i64.wrap (p.e + e) = S) (hrq : ∀ A c w, Row w A ((p.setE S).setH R).hs.length ((p.setE S).setH R).hs → Calls Tryz.prog 38 #[.agg (((p.setE S).setH R).fd A c).cells.toArray] w fun e w' => e = .returned (.bool true) ∧ Below w.heap.size w w') (w : World) (hd : Row w A p.hs.length p.hs) (hd2 : Row w B hs.length hs) :
    Calls Tryz.prog 23 #[.agg (p.fd A c).cells.toArray, .agg (rsc e B hs.length d).toArray] w fun x u => ∃ A1 c1, x = .returned (.tuple #[.agg ((((p.setE S).setH R)).fd A1 c1).cells.toArray, .int .i64 0]) ∧ Row u A1 (((p.setE S).setH R)).hs.length (((p.setE S).setH R)).hs ∧ Fresh w.heap.size A1 c1 (((p.setE S).setH R)).hs ∧ Below w.heap.size w u := by
  have HK := Lib.hid (KeepF.start (w := w) (rows := [(A, p.hs.length, p.hs), (B, hs.length, hs)]) (by simp [hd, hd2]))
  have HF := Lib.hid hp
  have HZ := Lib.hid zP_full
  have HN := Lib.hid hl
  have hzr : ∀ u : World, Row u none zP.hs.length zP.hs := fun u => Row.nil u none
  clear hd hd2 hp hl
  have E1 := Lib.hid e1; clear e1
  have D1 := Lib.hid d1; clear d1
  have HG := Lib.hid (show (p.setE S).full from HF.out)
  have HI := Lib.hid (show ((p.setE S).setH R).full from HF.out)
  go_enter Tryz.func23, Tryz.ntmps23
  go_wp2_with (first
    | (with_reducible refine box_f HK.out rfl _ rfl rfl ?_; intro b1 u hk; clear HK; have HK := Lib.hid hk; clear hk)
    | (with_reducible refine alloc_f HK.out f_zeroP rfl rfl ?_; intro b4 u hk; clear HK; have HK := Lib.hid hk; clear hk)
    | (with_reducible refine load_fr HK.out 2 Tryz.underlying33 rfl (Pf.infoF HF.out) _ rfl rfl rfl rfl Pf.all ?_)
    | (go_at_call 38; (with_reducible refine (hrt _ (HK.out.rowAt 0 rfl)).mono ?_); rintro e u ⟨rfl, hb⟩; have hk := HK.out.call hb; clear hb; clear HK; have HK := Lib.hid hk; clear hk)
    | (with_reducible refine load_f1 HK.out 2 cbI _ rfl rfl rfl rfl Pf.ce ?_)
    | (with_reducible refine load_f1 HK.out 2 cbH _ rfl rfl rfl rfl (Pf.cH HF.out) ?_)
    | (with_reducible refine neq_want E1.out _ _ _ rfl rfl rfl rfl ?_)
    | (with_reducible refine gtr_want D1.out _ _ _ rfl rfl rfl rfl ?_)
    | (with_reducible refine store_f1 HK.out 2 cbI rfl rfl _ _ rfl rfl rfl rfl rfl (Pf.lt2 HF.out) (Pf.toE' S) ?_; intro u hk; simp only [List.set_cons_zero, List.set_cons_succ] at hk; clear HK; have HK := Lib.hid hk; clear hk)
    | (with_reducible refine load_f1 HK.out 2 cbH _ rfl rfl rfl rfl (Pf.cH HG.out) ?_)
    | (with_reducible refine load_f1 HK.out 1 cbH _ rfl rfl rfl rfl rs_c1 ?_)
    | (with_reducible refine build_2s HK.out rfl _ _ rfl rfl rfl ?_; intro b8 u hk; clear HK; have HK := Lib.hid hk; clear hk)
    | (go_at_call 58; (with_reducible refine (hcc _ _ (HK.out.get 0 rfl) (HK.out.rowAt 0 rfl) (HK.out.rowAt 1 rfl)).mono ?_); rintro e u ⟨A1, c1, rfl, ho, hb⟩; have HX := Lib.hid ((Fresh.own ho).mono HK.out.bel.size); have hk := HK.out.own hb ho hM; clear hb ho; clear HK; have HK := Lib.hid hk; clear hk)
    | (with_reducible refine store_f1 HK.out 3 cbH rfl rfl _ _ rfl rfl rfl rfl rfl (Fd.ltH HG.out) (Pf.toH HG.out A1 c1 R) ?_; intro u hk; simp only [List.set_cons_zero, List.set_cons_succ] at hk; clear HK; have HK := Lib.hid hk; clear hk)
    | (with_reducible refine load_fr HK.out 3 Tryz.underlying33 rfl (Pf.infoF HI.out) _ rfl rfl rfl rfl Pf.all ?_)
    | (go_at_call 38; (with_reducible refine (hrq _ _ _ (HK.out.rowAt 0 rfl)).mono ?_); rintro e u ⟨rfl, hb⟩; have hk := HK.out.call hb; clear hb; clear HK; have HK := Lib.hid hk; clear hk)
    | (with_reducible refine store_fr HK.out 1 (Pf.infoF HI.out) (Fd.one _) rfl rfl _ _ rfl rfl rfl rfl (Fd.leP HZ.out HI.out) (Fd.setAllP HZ.out HI.out) ?_; intro u hk; simp only [List.set_cons_zero, List.set_cons_succ] at hk; clear HK; have HK := Lib.hid hk; clear hk)
    | (with_reducible refine load_f1 HK.out 2 cbI _ rfl rfl rfl rfl Pf.ce ?_)
    | (with_reducible refine load_f1 HK.out 1 cbI _ rfl rfl rfl rfl rs_c0 ?_))
  exact bodyPost_ret (results_f2 rfl Tryz.underlying33 rfl (Pf.infoF HI.out) _ HK.out 1 _ rfl rfl rfl) rfl ⟨A1, c1, rfl, HK.out.rowAt 0 rfl, HX.out, HK.out.bel⟩
set_option maxHeartbeats 2000000 in
theorem up_r00false (p : Pf) (hp : p.full) (A : Option Addr) (c : Nat) (e : Int) (B : Option Addr) (d : Nat) (hs : List Ho) (hl : p.hs.length + hs.length ≤ 1000) (hrt : ∀ w, Row w A p.hs.length p.hs → Calls Tryz.prog 38 #[.agg (p.fd A c).cells.toArray] w fun e w' => e = .returned (.bool true) ∧ Below w.heap.size w w') (e1 : (p.e != 0) = false) (d1 : decide ((0 : Int) < (p.hs.length : Int)) = false) (S : Int) (R : List Ho) (hM : R.length ≤ 1000) (hcc : ∀ w b, Cel w b 31 [.slice A p.hs.length c, .slice B hs.length d] → Row w A p.hs.length p.hs → Row w B hs.length hs → Calls Tryz.prog 58 #[.slice (some ⟨b, 0, none⟩) 2 2] w fun e w' => ∃ A1 c1, e = .returned (.slice A1 R.length c1) ∧ Own w' w.heap.size (.slice A1 R.length c1) R ∧ Below w.heap.size w w') (hS : IntKind.i64.wrap (p.e + e) = S) (hrq : ∀ A c w, Row w A ((p.setE S).setH R).hs.length ((p.setE S).setH R).hs → Calls Tryz.prog 38 #[.agg (((p.setE S).setH R).fd A c).cells.toArray] w fun e w' => e = .returned (.bool false) ∧ Below w.heap.size w w') (w : World) (hd : Row w A p.hs.length p.hs) (hd2 : Row w B hs.length hs) :
    Calls Tryz.prog 23 #[.agg (p.fd A c).cells.toArray, .agg (rsc e B hs.length d).toArray] w fun x u => ∃ A1 c1, x = .returned (.tuple #[.agg ((zP).fd A1 c1).cells.toArray, .int .i64 4]) ∧ Row u A1 (zP).hs.length (zP).hs ∧ Fresh w.heap.size A1 c1 (zP).hs ∧ Below w.heap.size w u := by
  have HK := Lib.hid (KeepF.start (w := w) (rows := [(A, p.hs.length, p.hs), (B, hs.length, hs)]) (by simp [hd, hd2]))
  have HF := Lib.hid hp
  have HZ := Lib.hid zP_full
  have HN := Lib.hid hl
  have hzr : ∀ u : World, Row u none zP.hs.length zP.hs := fun u => Row.nil u none
  clear hd hd2 hp hl
  have E1 := Lib.hid e1; clear e1
  have D1 := Lib.hid d1; clear d1
  have HG := Lib.hid (show (p.setE S).full from HF.out)
  have HI := Lib.hid (show ((p.setE S).setH R).full from HF.out)
  go_enter Tryz.func23, Tryz.ntmps23
  go_wp2_with (first
    | (with_reducible refine box_f HK.out rfl _ rfl rfl ?_; intro b1 u hk; clear HK; have HK := Lib.hid hk; clear hk)
    | (with_reducible refine alloc_f HK.out f_zeroP rfl rfl ?_; intro b4 u hk; clear HK; have HK := Lib.hid hk; clear hk)
    | (with_reducible refine load_fr HK.out 2 Tryz.underlying33 rfl (Pf.infoF HF.out) _ rfl rfl rfl rfl Pf.all ?_)
    | (go_at_call 38; (with_reducible refine (hrt _ (HK.out.rowAt 0 rfl)).mono ?_); rintro e u ⟨rfl, hb⟩; have hk := HK.out.call hb; clear hb; clear HK; have HK := Lib.hid hk; clear hk)
    | (with_reducible refine load_f1 HK.out 2 cbI _ rfl rfl rfl rfl Pf.ce ?_)
    | (with_reducible refine load_f1 HK.out 2 cbH _ rfl rfl rfl rfl (Pf.cH HF.out) ?_)
    | (with_reducible refine neq_want E1.out _ _ _ rfl rfl rfl rfl ?_)
    | (with_reducible refine gtr_want D1.out _ _ _ rfl rfl rfl rfl ?_)
    | (with_reducible refine store_f1 HK.out 2 cbI rfl rfl _ _ rfl rfl rfl rfl rfl (Pf.lt2 HF.out) (Pf.toE' S) ?_; intro u hk; simp only [List.set_cons_zero, List.set_cons_succ] at hk; clear HK; have HK := Lib.hid hk; clear hk)
    | (with_reducible refine load_f1 HK.out 2 cbH _ rfl rfl rfl rfl (Pf.cH HG.out) ?_)
    | (with_reducible refine load_f1 HK.out 1 cbH _ rfl rfl rfl rfl rs_c1 ?_)
    | (with_reducible refine build_2s HK.out rfl _ _ rfl rfl rfl ?_; intro b8 u hk; clear HK; have HK := Lib.hid hk; clear hk)
    | (go_at_call 58; (with_reducible refine (hcc _ _ (HK.out.get 0 rfl) (HK.out.rowAt 0 rfl) (HK.out.rowAt 1 rfl)).mono ?_); rintro e u ⟨A1, c1, rfl, ho, hb⟩; have HX := Lib.hid ((Fresh.own ho).mono HK.out.bel.size); have hk := HK.out.own hb ho hM; clear hb ho; clear HK; have HK := Lib.hid hk; clear hk)
    | (with_reducible refine store_f1 HK.out 3 cbH rfl rfl _ _ rfl rfl rfl rfl rfl (Fd.ltH HG.out) (Pf.toH HG.out A1 c1 R) ?_; intro u hk; simp only [List.set_cons_zero, List.set_cons_succ] at hk; clear HK; have HK := Lib.hid hk; clear hk)
    | (with_reducible refine load_fr HK.out 3 Tryz.underlying33 rfl (Pf.infoF HI.out) _ rfl rfl rfl rfl Pf.all ?_)
    | (go_at_call 38; (with_reducible refine (hrq _ _ _ (HK.out.rowAt 0 rfl)).mono ?_); rintro e u ⟨rfl, hb⟩; have hk := HK.out.call hb; clear hb; clear HK; have HK := Lib.hid hk; clear hk)
    | (with_reducible refine build_f f_buildP rfl rfl ?_)
    | (with_reducible refine store_fr HK.out 1 (Pf.infoF HZ.out) (Fd.one _) rfl rfl _ _ rfl rfl rfl rfl (Fd.leP HZ.out HZ.out) (Fd.setAllP HZ.out HZ.out) ?_; intro u hk; simp only [List.set_cons_zero, List.set_cons_succ] at hk; clear HK; have HK := Lib.hid hk; clear hk)
    | (with_reducible refine load_f1 HK.out 2 cbI _ rfl rfl rfl rfl Pf.ce ?_)
    | (with_reducible refine load_f1 HK.out 1 cbI _ rfl rfl rfl rfl rs_c0 ?_))
  exact bodyPost_ret (results_f2 rfl Tryz.underlying33 rfl (Pf.infoF HZ.out) _ HK.out 1 _ rfl rfl rfl) rfl ⟨none, 0, rfl, hzr _, Fresh.none0 _, HK.out.bel⟩
theorem up_any (p : Pf) (hp : p.full) (hN : p.nm.size ≤ 1000) (A : Option Addr) (c : Nat) (e : Int) (he : ok64W e) (B : Option Addr) (d : Nat) (hs : List Ho) (hl : p.hs.length + hs.length ≤ 1000) (w : World) (hd : Row w A p.hs.length p.hs) (hd2 : Row w B hs.length hs) :
    Calls Tryz.prog 23 #[.agg (p.fd A c).cells.toArray, .agg (rsc e B hs.length d).toArray] w fun x u => ∃ A1 c1, x = .returned (.tuple #[.agg ((uP p e hs).fd A1 c1).cells.toArray, .int .i64 (upErr p e hs)]) ∧ Row u A1 (uP p e hs).hs.length (uP p e hs).hs ∧ Fresh w.heap.size A1 c1 (uP p e hs).hs ∧ Below w.heap.size w u := by
  have pos : ∀ n : Nat, 0 < n → decide ((0 : Int) < (n : Int)) = true := fun n h => by rw [decide_eq_true_eq]; omega
  have neg : ∀ n : Nat, ¬ 0 < n → decide ((0 : Int) < (n : Int)) = false := fun n h => by rw [decide_eq_false_iff_not]; omega
  cases hq : rightP p with
  | false =>
    have hE : upErr p e hs = 1 := by simp [upErr, upArg, hq]
    rw [show uP p e hs = zP by simp [uP, hE], hE]
    exact up_no p hp A c e B d hs hl (fun w h => right_p p hp hN A c false hq w h) w hd hd2
  | true =>
    have hrt := fun w h => right_p p hp hN A c true hq w h
    by_cases hee : p.e ≠ 0 ∧ e ≠ 0
    · have hE : upErr p e hs = 1 := by simp [upErr, upArg, hee.1, hee.2]
      rw [show uP p e hs = zP by simp [uP, hE], hE]
      exact up_ep p hp A c e B d hs hl hrt (by simp [hee.1]) (by simp [hee.2]) w hd hd2
    · have hpe : IntKind.i64.wrap (p.e + e) = p.e + e := by
        have h1 : -9223372036854775808 ≤ e ∧ e ≤ 9223372036854775807 := by
          have h2 := he
          unfold ok64W at h2
          simp [Lit.wf] at h2
          first | exact h2 | (simp [IntKind.inRange] at h2; omega)
        have h2 : -1099511627776 ≤ p.e ∧ p.e ≤ 1099511627776 := by
          have := hq
          simp only [rightP, rightF, Bool.and_eq_true] at this
          have h3 := this.1.2
          simp only [epB, Bool.and_eq_true, decide_eq_true_eq] at h3
          exact isB_iff.1 h3.2
        simp [IntKind.wrap, IntKind.bits, IntKind.signed]; omega
      by_cases hh : 0 < p.hs.length ∧ 0 < hs.length
      · have hE : upErr p e hs = 1 := by simp only [upErr, upArg, hh.1, hh.2, decide_true, Bool.and_self, Bool.or_true, if_true]
        rw [show uP p e hs = zP by simp [uP, hE], hE]
        by_cases h0 : p.e = 0
        · exact up_ho0 p hp A c e B d hs hl hrt (by simp [h0]) (pos _ hh.1) (pos _ hh.2) w hd hd2
        · exact up_ho1 p hp A c e B d hs hl hrt (by simp [h0]) (by have : e = 0 := Classical.byContradiction fun h => hee ⟨h0, h⟩; simp [this]) (pos _ hh.1) (pos _ hh.2) w hd hd2
      · have hA : upArg p e hs = false := by
          have a1 : (decide (p.e ≠ 0) && decide (e ≠ 0)) = false := by
            rw [Bool.and_eq_false_iff]
            rcases Classical.em (p.e = 0) with h | h
            · exact .inl (by simp [h])
            · exact .inr (by have : e = 0 := Classical.byContradiction fun h' => hee ⟨h, h'⟩; simp [this])
          have a2 : (decide (0 < p.hs.length) && decide (0 < hs.length)) = false := by
            rw [Bool.and_eq_false_iff]
            rcases Classical.em (0 < p.hs.length) with h | h
            · exact .inr (by rw [decide_eq_false_iff_not]; exact fun h' => hh ⟨h, h'⟩)
            · exact .inl (by rw [decide_eq_false_iff_not]; exact h)
          rw [upArg, hq, a1, a2]; rfl
        have hM : (p.hs ++ hs).length ≤ 1000 := by rw [List.length_append]; exact hl
        have hcc : ∀ w b, Cel w b 31 [.slice A p.hs.length c, .slice B hs.length d] → Row w A p.hs.length p.hs → Row w B hs.length hs → Calls Tryz.prog 58 #[.slice (some ⟨b, 0, none⟩) 2 2] w fun e w' => ∃ A1 c1, e = .returned (.slice A1 (p.hs ++ hs).length c1) ∧ Own w' w.heap.size (.slice A1 (p.hs ++ hs).length c1) (p.hs ++ hs) ∧ Below w.heap.size w w' := fun w b h1 h2 h3 => concat_sl A B c d b p.hs hs hl w h1 h2 h3
        have key : ∀ r, rightP (upQ p e hs) = r → (∀ A c w, Row w A ((p.setE (p.e + e)).setH (p.hs ++ hs)).hs.length ((p.setE (p.e + e)).setH (p.hs ++ hs)).hs → Calls Tryz.prog 38 #[.agg (((p.setE (p.e + e)).setH (p.hs ++ hs)).fd A c).cells.toArray] w fun e w' => e = .returned (.bool r) ∧ Below w.heap.size w w') := fun r hr A c w h => right_p (upQ p e hs) hp hN A c r hr w h
        cases hq2 : rightP (upQ p e hs) with
        | true =>
          have hE : upErr p e hs = 0 := by rw [upErr, hA, hq2]; rfl
          rw [show uP p e hs = (p.setE (p.e + e)).setH (p.hs ++ hs) by rw [uP, hE]; rfl, hE]
          by_cases h0 : p.e = 0
          · by_cases h1 : 0 < p.hs.length
            · exact up_r01true p hp A c e B d hs hl hrt (by simp [h0]) (pos _ h1) (neg _ fun h => hh ⟨h1, h⟩) _ _ hM hcc hpe (key true hq2) w hd hd2
            · exact up_r00true p hp A c e B d hs hl hrt (by simp [h0]) (neg _ h1) _ _ hM hcc hpe (key true hq2) w hd hd2
          · have e2 : (e != 0) = false := by have : e = 0 := Classical.byContradiction fun h => hee ⟨h0, h⟩; simp [this]
            by_cases h1 : 0 < p.hs.length
            · exact up_r11true p hp A c e B d hs hl hrt (by simp [h0]) e2 (pos _ h1) (neg _ fun h => hh ⟨h1, h⟩) _ _ hM hcc hpe (key true hq2) w hd hd2
            · exact up_r10true p hp A c e B d hs hl hrt (by simp [h0]) e2 (neg _ h1) _ _ hM hcc hpe (key true hq2) w hd hd2
        | false =>
          have hE : upErr p e hs = 4 := by rw [upErr, hA, hq2]; rfl
          rw [show uP p e hs = zP by rw [uP, hE]; rfl, hE]
          by_cases h0 : p.e = 0
          · by_cases h1 : 0 < p.hs.length
            · exact up_r01false p hp A c e B d hs hl hrt (by simp [h0]) (pos _ h1) (neg _ fun h => hh ⟨h1, h⟩) _ _ hM hcc hpe (key false hq2) w hd hd2
            · exact up_r00false p hp A c e B d hs hl hrt (by simp [h0]) (neg _ h1) _ _ hM hcc hpe (key false hq2) w hd hd2
          · have e2 : (e != 0) = false := by have : e = 0 := Classical.byContradiction fun h => hee ⟨h0, h⟩; simp [this]
            by_cases h1 : 0 < p.hs.length
            · exact up_r11false p hp A c e B d hs hl hrt (by simp [h0]) e2 (pos _ h1) (neg _ fun h => hh ⟨h1, h⟩) _ _ hM hcc hpe (key false hq2) w hd hd2
            · exact up_r10false p hp A c e B d hs hl hrt (by simp [h0]) e2 (neg _ h1) _ _ hM hcc hpe (key false hq2) w hd hd2
end Go.Proofs.YtofngihdnjgmeaaGreat
