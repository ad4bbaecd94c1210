/- Contracts of field.Same and the document's Same of fields that are the same. -/
import Derived.Test.YtofngihdnjgmeaaGreatY01
import Derived.Test.YtofngihdnjgmeaaGreatY07
import Derived.Test.YtofngihdnjgmeaaGreatY09
import Derived.Test.YtofngihdnjgmeaaGreatY11
import Derived.Test.YtofngihdnjgmeaaGreatY12
import Derived.Test.YtofngihdnjgmeaaGreatY18
import Derived.Test.YtofngihdnjgmeaaGreatY21
import Derived.Maps.AppendAt
import Derived.OwnWalk
import Derived.Laws.OwnMore
import Derived.WalkKit
import Derived.ProofKit
import Derived.OpenShut
import Derived.ChangeOld
import Derived.Deep.Slices
import Derived.ChangeSlices
import Derived.Laws.AppendOwn
import Derived.Lib.Hide
import Derived.Deep.RegionHeld3
import Derived.Below
import Derived.Deep.MidRow
import Derived.Deep.QuietTactic
import Derived.BigQuiet
import Derived.Laws.StructEq
import Derived.WalkMore
import Derived.LoopTactic
import Derived.Defers
import Derived.Recover
import Derived.WalkSmall
import Derived.Lib.AppendZeros
import Derived.Deep.OwnRows
import Derived.Lib.SliceRun
import Derived.Shelf.SlSortCmp.WholeK
import Derived.Shelf.SlSortCmp.NoneTotal
namespace Go.Proofs.YtofngihdnjgmeaaGreat
set_option maxRecDepth 100000
open Go.ChangeShapes Go.WideShapes Go.ChangeAt Go.RowKit

section
variable {ops : Array Oper} {S : World → Prop} {o : Oper} {a : Act} {u : World} {rest : List Oper} {Q : Exit → Act → World → Prop}
theorem neq_same {ty : TypeId} {xs : List Value} (hge : Tryz.prog.eqGuardType Tryz.prog.depth ty = false) (hq : ∀ W, (Op.equalIn 10000 ty (.agg xs.toArray) (.agg xs.toArray)).run Tryz.prog W = .ok true W) (x y : Operand) (t : TypeId) (ho : o.op = .binOp .neq ty x y t) (hx : a.eval x = .agg xs.toArray) (hy : a.eval y = .agg xs.toArray) (hw : Region.wanted o (yielded ops a.tmps) = true)
    (h : wpList Tryz.prog ops Q rest (a.put o.dst (.bool false)) u) : wpList Tryz.prog ops Q (o :: rest) a u :=
  BigFrame.wpList_want hw fun K hK => by
    have := hK _ _ h
    unfold Oper.wp execOp
    simp only [ho, hx, hy]
    simp [go_sem, hq, hge]
    simpa [Act.put] using this
end
set_option maxHeartbeats 4000000 in
theorem rsame_any (p : Pf) (hp : p.full) (A B : Option Addr) (c d : Nat) (w : World) (h1 : Row w A p.hs.length p.hs) (h2 : Row w B p.hs.length p.hs) :
    Calls Tryz.prog 15 #[.agg (p.fd A c).cells.toArray, .agg (p.fd B d).cells.toArray] w fun e w' => e = .returned (.bool true) ∧ Below w.heap.size w w' := by
  have HCL := Lib.hid (show p.C.length = 579 from hp)
  have HF := Lib.hid hp; clear hp
  obtain ⟨n, hn⟩ : ∃ n, p.hs.length = n := ⟨_, rfl⟩
  have HL := Lib.hid hn
  rw [hn] at h1 h2
  have HK := Lib.hid (KeepF.start (w := w) (rows := [(A, n, p.hs), (B, n, p.hs)]) (by simpa using ⟨h1, h2⟩))
  have HD := Lib.hid h1; have HE := Lib.hid h2; have HNB := Lib.hid h1.2.1
  clear h1 h2 hn
  go_enter Tryz.func15, Tryz.ntmps15
  go_wp2_with (first
    | (with_reducible refine box_f HK.out rfl _ rfl rfl ?_; intro b1 u hk; clear HK; have HK := Lib.hid hk; clear hk; with_reducible refine box_f HK.out rfl _ rfl rfl ?_; intro b2 u hk; clear HK; have HK := Lib.hid hk; clear hk)
    | (with_reducible refine load_f1 HK.out 1 cbS _ rfl rfl rfl rfl Pf.cn ?_)
    | (with_reducible refine load_f1 HK.out 0 cbS _ rfl rfl rfl rfl Pf.cn ?_)
    | (with_reducible refine load_f1 HK.out 1 cbI _ rfl rfl rfl rfl Pf.ck ?_)
    | (with_reducible refine load_f1 HK.out 0 cbI _ rfl rfl rfl rfl Pf.ck ?_)
    | (with_reducible refine load_f1 HK.out 1 cbI _ rfl rfl rfl rfl Pf.ce ?_)
    | (with_reducible refine load_f1 HK.out 0 cbI _ rfl rfl rfl rfl Pf.ce ?_)
    | (with_reducible refine load_fr HK.out 1 Tryz.underlying28 rfl (Pf.infoC HF.out) _ rfl rfl rfl rfl Pf.cC ?_)
    | (with_reducible refine load_fr HK.out 0 Tryz.underlying28 rfl (Pf.infoC HF.out) _ rfl rfl rfl rfl Pf.cC ?_)
    | (with_reducible refine load_fr HK.out 1 Tryz.underlying30 rfl (l_infoF _) _ rfl rfl rfl rfl (Pf.cL HF.out) ?_)
    | (with_reducible refine load_fr HK.out 0 Tryz.underlying30 rfl (l_infoF _) _ rfl rfl rfl rfl (Pf.cL HF.out) ?_)
    | (with_reducible refine load_f1 HK.out 1 cbH _ rfl rfl rfl rfl (Pf.cHn HF.out HL.out) ?_)
    | (with_reducible refine load_f1 HK.out 0 cbH _ rfl rfl rfl rfl (Pf.cHn HF.out HL.out) ?_)
    | (with_reducible refine neq_same c_guardF (c_same _ HCL.out) _ _ _ rfl rfl rfl rfl ?_)
    | (with_reducible refine neq_same lk_guard (l_same _) _ _ _ rfl rfl rfl rfl ?_))
  go_loopw [5] (fun i wr => ∃ m : Nat, m ≤ n ∧ i = .int .i64 m ∧ KeepF w [(b2, 33, (p.fd B d).cells), (b1, 33, (p.fd A c).cells)] [(A, n, p.hs), (B, n, p.hs)] wr) (fun i _ => n - (intOf i).toNat)
  case atStart => exact ⟨0, by omega, rfl, HK.out⟩
  case round =>
    obtain ⟨m, hm, rfl, hk⟩ := hrel
    clear HK; have HK := Lib.hid hk; clear hk
    have hnb := HNB.out
    by_cases hlt : m < n
    · obtain ⟨g1, o1, rfl, hr1⟩ := HD.out.at hlt
      obtain ⟨g2, o2, rfl, hr2⟩ := HE.out.at hlt
      have hm1 := hr1 m hlt
      have hm2 := hr2 m hlt
      clear hr1 hr2
      generalize p.hs.getD m z5 = h at hm1 hm2
      have HR := Lib.hid hm1; have HC := Lib.hid (range_lt hm1)
      have HR2 := Lib.hid hm2; have HC2 := Lib.hid (range_lt hm2)
      clear hm1 hm2
      have i1 : (0 : Int) ≤ (m : Int) := by omega
      have i2 : (m : Int) < (n : Int) := by omega
      go_wp2_with (first
        | (with_reducible refine load_f1 HK.out 1 cbH _ rfl rfl rfl rfl (Pf.cHn HF.out HL.out) ?_)
        | (with_reducible refine load_f1 HK.out 0 cbH _ rfl rfl rfl rfl (Pf.cHn HF.out HL.out) ?_))
      refine Draws.start (S := fun u => KeepF w [(b2, 33, (p.fd (some ⟨g2, o2, none⟩) d).cells), (b1, 33, (p.fd (some ⟨g1, o1, none⟩) c).cells)] [(some ⟨g1, o1, none⟩, n, p.hs), (some ⟨g2, o2, none⟩, n, p.hs)] u) (n := 11) 11 rfl (by kernel_rfl) ?_
      have hk := HK.out.drew
      clear HK; have HK := Lib.hid hk; clear hk
      have HS := Lib.hid (show (fun u => KeepF w [(b2, 33, (p.fd (some ⟨g2, o2, none⟩) d).cells), (b1, 33, (p.fd (some ⟨g1, o1, none⟩) c).cells)] [(some ⟨g1, o1, none⟩, n, p.hs), (some ⟨g2, o2, none⟩, n, p.hs)] u) _ from HK.out)
      refine Draws.take 0 (v := ?v20) HS.out rfl (by kernel_rfl) (fun _ _ _ h => h) (Or.inl ⟨rfl, ?h20⟩) ?r20
      case h20 => intro w' hw'; go_simp; (try with_reducible rfl)
      (try simp only [Act.put, List.setIfInBounds_toArray, List.set_cons_zero, List.set_cons_succ])
      refine Draws.take 1 HS.out rfl (by kernel_rfl) (fun _ _ _ h => h) (yield_c cbH (fun _ h => h.cellAt 1 rfl (Pf.cHn HF.out HL.out)) _ rfl rfl rfl) ?_
      (try simp only [Act.put, List.setIfInBounds_toArray, List.set_cons_zero, List.set_cons_succ])
      refine Draws.take 2 (v := ?v21) HS.out rfl (by kernel_rfl) (fun _ _ _ h => h) (Or.inl ⟨rfl, ?h21⟩) ?r21
      case h21 => intro w' hw'; go_simp; (try with_reducible rfl)
      (try simp only [Act.put, List.setIfInBounds_toArray, List.set_cons_zero, List.set_cons_succ])
      refine Draws.take 3 (v := ?v22) HS.out rfl (by kernel_rfl) (fun _ _ _ h => h) (Or.inl ⟨rfl, ?h22⟩) ?r22
      case h22 => intro w' hw'; go_simp; (try with_reducible rfl)
      (try simp only [Act.put, List.setIfInBounds_toArray, List.set_cons_zero, List.set_cons_succ])
      refine Draws.take 4 HS.out rfl (by kernel_rfl) (fun _ _ _ h => h) (yield_hold (fun _ h => range_below HR.out h.bel HC.out) _ rfl rfl rfl) ?_
      (try simp only [Act.put, List.setIfInBounds_toArray, List.set_cons_zero, List.set_cons_succ])
      refine Draws.take 5 (v := ?v23) HS.out rfl (by kernel_rfl) (fun _ _ _ h => h) (Or.inl ⟨rfl, ?h23⟩) ?r23
      case h23 => intro w' hw'; go_simp; (try with_reducible rfl)
      (try simp only [Act.put, List.setIfInBounds_toArray, List.set_cons_zero, List.set_cons_succ])
      refine Draws.take 6 HS.out rfl (by kernel_rfl) (fun _ _ _ h => h) (yield_c cbH (fun _ h => h.cellAt 0 rfl (Pf.cHn HF.out HL.out)) _ rfl rfl rfl) ?_
      (try simp only [Act.put, List.setIfInBounds_toArray, List.set_cons_zero, List.set_cons_succ])
      refine Draws.take 7 (v := ?v24) HS.out rfl (by kernel_rfl) (fun _ _ _ h => h) (Or.inl ⟨rfl, ?h24⟩) ?r24
      case h24 => intro w' hw'; go_simp; (try with_reducible rfl)
      (try simp only [Act.put, List.setIfInBounds_toArray, List.set_cons_zero, List.set_cons_succ])
      refine Draws.take 8 (v := ?v25) HS.out rfl (by kernel_rfl) (fun _ _ _ h => h) (Or.inl ⟨rfl, ?h25⟩) ?r25
      case h25 => intro w' hw'; go_simp; (try with_reducible rfl)
      (try simp only [Act.put, List.setIfInBounds_toArray, List.set_cons_zero, List.set_cons_succ])
      refine Draws.take 9 HS.out rfl (by kernel_rfl) (fun _ _ _ h => h) (yield_hold (fun _ h => range_below HR2.out h.bel HC2.out) _ rfl rfl rfl) ?_
      (try simp only [Act.put, List.setIfInBounds_toArray, List.set_cons_zero, List.set_cons_succ])
      refine Draws.take 10 HS.out rfl (by kernel_rfl) (fun _ _ _ h => h) (yield_neqh (Ho.same _) _ _ _ rfl rfl rfl rfl) ?_
      (try simp only [Act.put, List.setIfInBounds_toArray, List.set_cons_zero, List.set_cons_succ])
      refine Draws.done (by kernel_rfl) ?_
      clear HS
      go_wp2
      go_roundw
      case rel => exact ⟨m + 1, by omega, by go_num, HK.out⟩
      case measure => simp [intOf]; omega
    · obtain rfl : m = n := by omega
      go_wp2_with (first
        | (with_reducible refine load_f1 HK.out 1 cbH _ rfl rfl rfl rfl (Pf.cHn HF.out HL.out) ?_)
        | (with_reducible refine load_f1 HK.out 0 cbH _ rfl rfl rfl rfl (Pf.cHn HF.out HL.out) ?_))
      go_ret
      exact ⟨rfl, HK.out.bel⟩
end Go.Proofs.YtofngihdnjgmeaaGreat
