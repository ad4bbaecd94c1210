/- Contracts of counter.Join, Room, between and New, and of the document's Join and New.; Contracts of the document's Put, Reserve, End and Expire.; A slice of two fields, and Few of it.; Plain arithmetic of layer 6, on: what joining tells. No program is spoken of here.; Contracts of lock.Join and of usufructlaw05.awake. -/
import Derived.Test.YtofngihdnjgmeaaGreatY01
import Derived.Test.YtofngihdnjgmeaaGreatY02
import Derived.Test.YtofngihdnjgmeaaGreatY03
import Derived.Test.YtofngihdnjgmeaaGreatY07
import Derived.Test.YtofngihdnjgmeaaGreatY09
import Derived.Test.YtofngihdnjgmeaaGreatY10
import Derived.Test.YtofngihdnjgmeaaGreatY11
import Derived.Test.YtofngihdnjgmeaaGreatY12
import Derived.Test.YtofngihdnjgmeaaGreatY16A
import Derived.Test.YtofngihdnjgmeaaGreatY18
import Derived.Test.YtofngihdnjgmeaaGreatY21
import Derived.Test.YtofngihdnjgmeaaGreatY26
import Derived.Test.YtofngihdnjgmeaaGreatY40
import Derived.WalkKit
import Derived.ProofKit
import Derived.Lib.Hide
import Derived.Deep.RegionHeld3
import Derived.Below
import Derived.Deep.MidRow
import Derived.Deep.QuietTactic
import Derived.BigQuiet
import Derived.Laws.StructEq
import Derived.Laws.OwnMore
import Derived.WalkMore
import Derived.OpenShut
import Derived.ChangeOld
import Derived.Maps.AppendAt
import Derived.OwnWalk
import Derived.LoopTactic
import Derived.Defers
import Derived.Recover
import Derived.WalkSmall
import Derived.Lib.AppendZeros
import Derived.Deep.OwnRows
import Derived.Lib.SliceRun
import Derived.Deep.Slices
import Derived.ChangeSlices
import Derived.Laws.AppendOwn
import Derived.Shelf.SlSortCmp.WholeK
import Derived.Shelf.SlSortCmp.NoneTotal
import Derived.Maps.OwnSet
import Derived.Maps.Views
namespace Go.Proofs.YtofngihdnjgmeaaGreat
set_option maxRecDepth 100000
open Go.ChangeShapes Go.WideShapes Go.ChangeAt Go.RowKit

set_option maxRecDepth 100000 in
set_option maxHeartbeats 1000000 in
theorem cjoin_any (A B : List Int) (hA : A.length = 579) (hB : B.length = 579) (w : World) :
    Calls Tryz.prog 48 #[.agg (vals A).toArray, .agg (vals B).toArray] w fun e w' => e = .returned (.tuple #[.agg (vals (cjA A B)).toArray, .int .i64 (cjE A B)]) ∧ Below w.heap.size w w' := by
  have HL1 := Lib.hid (show (seg A 3 288).length = 288 from dnR_length hA)
  have HL2 := Lib.hid (show (seg B 3 288).length = 288 from dnR_length hB)
  have HL3 := Lib.hid (show (seg A 291 288).length = 288 from upR_length hA)
  have HL4 := Lib.hid (show (seg B 291 288).length = 288 from upR_length hB)
  have HJ1 := Lib.hid (jl_length HL1.out HL2.out)
  have HJ2 := Lib.hid (jl_length HL3.out HL4.out)
  have HQ := Lib.hid (show seg (splice A 3 (joinL (seg A 3 288) (seg B 3 288))) 291 288 = seg A 291 288 from splice_seg_apart (by have := HJ1.out; omega) (by omega) (by have := HJ1.out; omega))
  have HA := Lib.hid hA; clear hA
  have HB := Lib.hid hB; clear hB
  have HK := Lib.hid (KeepR.start w)
  obtain ⟨p0, hp0⟩ : ∃ p, A.getD 0 0 = p := ⟨_, rfl⟩
  obtain ⟨q0, hq0⟩ : ∃ q, B.getD 0 0 = q := ⟨_, rfl⟩
  obtain ⟨p1, hp1⟩ : ∃ p, A.getD 1 0 = p := ⟨_, rfl⟩
  obtain ⟨q1, hq1⟩ : ∃ q, B.getD 1 0 = q := ⟨_, rfl⟩
  obtain ⟨p2, hp2⟩ : ∃ p, A.getD 2 0 = p := ⟨_, rfl⟩
  obtain ⟨q2, hq2⟩ : ∃ q, B.getD 2 0 = q := ⟨_, rfl⟩
  have hsb : sameB A B = ((p0 == q0) && (p1 == q1) && (p2 == q2)) := by simp only [sameB, hp0, hp1, hp2, hq0, hq1, hq2]
  have P0 := Lib.hid hp0; clear hp0
  have Q0 := Lib.hid hq0; clear hq0
  have P1 := Lib.hid hp1; clear hp1
  have Q1 := Lib.hid hq1; clear hq1
  have P2 := Lib.hid hp2; clear hp2
  have Q2 := Lib.hid hq2; clear hq2
  cases t0 : (p0 == q0) with
  | false =>
    have n0 : (p0 != q0) = true := by simp only [bne, t0, Bool.not_false]
    obtain ⟨e1, e2⟩ := cj_no (A := A) (B := B) (by rw [hsb]; simp only [t0, Bool.false_and])
    rw [e1, e2]; clear e1 e2
    go_enter Tryz.func48, Tryz.ntmps48
    go_wp2_with (first
      | (with_reducible refine box_new (R := A) HK.out rfl _ rfl rfl ?_; intro ba u hk hb; clear hb; clear HK; have HK := Lib.hid hk; clear hk)
      | (with_reducible refine box_new (R := B) HK.out rfl _ rfl rfl ?_; intro bb u hk hb; clear hb; clear HK; have HK := Lib.hid hk; clear hk)
      | (with_reducible refine alloc_zero HK.out 579 c_zero rfl rfl ?_; intro br u hn hk hb; clear hn hb; clear HK; have HK := Lib.hid hk; clear hk)
      | (with_reducible refine build_zero 579 c_build rfl rfl ?_)
      | (with_reducible refine load_val HK.out 2 rfl _ rfl rfl rfl P0.out (by have := HA.out; omega) ?_)
      | (with_reducible refine load_val HK.out 1 rfl _ rfl rfl rfl Q0.out (by have := HB.out; omega) ?_)
      | (with_reducible refine load_val HK.out 2 rfl _ rfl rfl rfl P1.out (by have := HA.out; omega) ?_)
      | (with_reducible refine load_val HK.out 1 rfl _ rfl rfl rfl Q1.out (by have := HB.out; omega) ?_)
      | (with_reducible refine load_val HK.out 2 rfl _ rfl rfl rfl P2.out (by have := HA.out; omega) ?_)
      | (with_reducible refine load_val HK.out 1 rfl _ rfl rfl rfl Q2.out (by have := HB.out; omega) ?_)
      | (with_reducible refine load_val_want HK.out 2 _ rfl rfl rfl rfl P0.out (by have := HA.out; omega) ?_)
      | (with_reducible refine load_val_want HK.out 1 _ rfl rfl rfl rfl Q0.out (by have := HB.out; omega) ?_)
      | (with_reducible refine load_val_want HK.out 2 _ rfl rfl rfl rfl P1.out (by have := HA.out; omega) ?_)
      | (with_reducible refine load_val_want HK.out 1 _ rfl rfl rfl rfl Q1.out (by have := HB.out; omega) ?_)
      | (with_reducible refine load_val_want HK.out 2 _ rfl rfl rfl rfl P2.out (by have := HA.out; omega) ?_)
      | (with_reducible refine load_val_want HK.out 1 _ rfl rfl rfl rfl Q2.out (by have := HB.out; omega) ?_)
      | (with_reducible refine store_all HK.out 0 579 c_info rfl rfl _ _ rfl rfl rfl rfl (zer_length 579) (zer_length 579) ?_; intro u hk hs; clear hs; simp only [List.set_cons_zero] at hk; clear HK; have HK := Lib.hid hk; clear hk))
    exact bodyPost_ret (results_2 rfl Tryz.underlying28 rfl c_info _ HK.out 0 _ rfl rfl rfl (zer_length 579)) rfl ⟨rfl, HK.out.bel⟩
  | true =>
    have n0 : (p0 != q0) = false := by simp only [bne, t0, Bool.not_true]
    cases t1 : (p1 == q1) with
    | false =>
      have n1 : (p1 != q1) = true := by simp only [bne, t1, Bool.not_false]
      obtain ⟨e1, e2⟩ := cj_no (A := A) (B := B) (by rw [hsb]; simp only [t0, t1, Bool.false_and, Bool.and_false])
      rw [e1, e2]; clear e1 e2
      go_enter Tryz.func48, Tryz.ntmps48
      go_wp2_with (first
        | (with_reducible refine box_new (R := A) HK.out rfl _ rfl rfl ?_; intro ba u hk hb; clear hb; clear HK; have HK := Lib.hid hk; clear hk)
        | (with_reducible refine box_new (R := B) HK.out rfl _ rfl rfl ?_; intro bb u hk hb; clear hb; clear HK; have HK := Lib.hid hk; clear hk)
        | (with_reducible refine alloc_zero HK.out 579 c_zero rfl rfl ?_; intro br u hn hk hb; clear hn hb; clear HK; have HK := Lib.hid hk; clear hk)
        | (with_reducible refine build_zero 579 c_build rfl rfl ?_)
        | (with_reducible refine load_val HK.out 2 rfl _ rfl rfl rfl P0.out (by have := HA.out; omega) ?_)
        | (with_reducible refine load_val HK.out 1 rfl _ rfl rfl rfl Q0.out (by have := HB.out; omega) ?_)
        | (with_reducible refine load_val HK.out 2 rfl _ rfl rfl rfl P1.out (by have := HA.out; omega) ?_)
        | (with_reducible refine load_val HK.out 1 rfl _ rfl rfl rfl Q1.out (by have := HB.out; omega) ?_)
        | (with_reducible refine load_val HK.out 2 rfl _ rfl rfl rfl P2.out (by have := HA.out; omega) ?_)
        | (with_reducible refine load_val HK.out 1 rfl _ rfl rfl rfl Q2.out (by have := HB.out; omega) ?_)
        | (with_reducible refine load_val_want HK.out 2 _ rfl rfl rfl rfl P0.out (by have := HA.out; omega) ?_)
        | (with_reducible refine load_val_want HK.out 1 _ rfl rfl rfl rfl Q0.out (by have := HB.out; omega) ?_)
        | (with_reducible refine load_val_want HK.out 2 _ rfl rfl rfl rfl P1.out (by have := HA.out; omega) ?_)
        | (with_reducible refine load_val_want HK.out 1 _ rfl rfl rfl rfl Q1.out (by have := HB.out; omega) ?_)
        | (with_reducible refine load_val_want HK.out 2 _ rfl rfl rfl rfl P2.out (by have := HA.out; omega) ?_)
        | (with_reducible refine load_val_want HK.out 1 _ rfl rfl rfl rfl Q2.out (by have := HB.out; omega) ?_)
        | (with_reducible refine store_all HK.out 0 579 c_info rfl rfl _ _ rfl rfl rfl rfl (zer_length 579) (zer_length 579) ?_; intro u hk hs; clear hs; simp only [List.set_cons_zero] at hk; clear HK; have HK := Lib.hid hk; clear hk))
      exact bodyPost_ret (results_2 rfl Tryz.underlying28 rfl c_info _ HK.out 0 _ rfl rfl rfl (zer_length 579)) rfl ⟨rfl, HK.out.bel⟩
    | true =>
      have n1 : (p1 != q1) = false := by simp only [bne, t1, Bool.not_true]
      cases t2 : (p2 == q2) with
      | false =>
        have n2 : (p2 != q2) = true := by simp only [bne, t2, Bool.not_false]
        obtain ⟨e1, e2⟩ := cj_no (A := A) (B := B) (by rw [hsb]; simp only [t0, t1, t2, Bool.true_and, Bool.and_false])
        rw [e1, e2]; clear e1 e2
        go_enter Tryz.func48, Tryz.ntmps48
        go_wp2_with (first
          | (with_reducible refine box_new (R := A) HK.out rfl _ rfl rfl ?_; intro ba u hk hb; clear hb; clear HK; have HK := Lib.hid hk; clear hk)
          | (with_reducible refine box_new (R := B) HK.out rfl _ rfl rfl ?_; intro bb u hk hb; clear hb; clear HK; have HK := Lib.hid hk; clear hk)
          | (with_reducible refine alloc_zero HK.out 579 c_zero rfl rfl ?_; intro br u hn hk hb; clear hn hb; clear HK; have HK := Lib.hid hk; clear hk)
          | (with_reducible refine build_zero 579 c_build rfl rfl ?_)
          | (with_reducible refine load_val HK.out 2 rfl _ rfl rfl rfl P0.out (by have := HA.out; omega) ?_)
          | (with_reducible refine load_val HK.out 1 rfl _ rfl rfl rfl Q0.out (by have := HB.out; omega) ?_)
          | (with_reducible refine load_val HK.out 2 rfl _ rfl rfl rfl P1.out (by have := HA.out; omega) ?_)
          | (with_reducible refine load_val HK.out 1 rfl _ rfl rfl rfl Q1.out (by have := HB.out; omega) ?_)
          | (with_reducible refine load_val HK.out 2 rfl _ rfl rfl rfl P2.out (by have := HA.out; omega) ?_)
          | (with_reducible refine load_val HK.out 1 rfl _ rfl rfl rfl Q2.out (by have := HB.out; omega) ?_)
          | (with_reducible refine load_val_want HK.out 2 _ rfl rfl rfl rfl P0.out (by have := HA.out; omega) ?_)
          | (with_reducible refine load_val_want HK.out 1 _ rfl rfl rfl rfl Q0.out (by have := HB.out; omega) ?_)
          | (with_reducible refine load_val_want HK.out 2 _ rfl rfl rfl rfl P1.out (by have := HA.out; omega) ?_)
          | (with_reducible refine load_val_want HK.out 1 _ rfl rfl rfl rfl Q1.out (by have := HB.out; omega) ?_)
          | (with_reducible refine load_val_want HK.out 2 _ rfl rfl rfl rfl P2.out (by have := HA.out; omega) ?_)
          | (with_reducible refine load_val_want HK.out 1 _ rfl rfl rfl rfl Q2.out (by have := HB.out; omega) ?_)
          | (with_reducible refine store_all HK.out 0 579 c_info rfl rfl _ _ rfl rfl rfl rfl (zer_length 579) (zer_length 579) ?_; intro u hk hs; clear hs; simp only [List.set_cons_zero] at hk; clear HK; have HK := Lib.hid hk; clear hk))
        exact bodyPost_ret (results_2 rfl Tryz.underlying28 rfl c_info _ HK.out 0 _ rfl rfl rfl (zer_length 579)) rfl ⟨rfl, HK.out.bel⟩
      | true =>
        have n2 : (p2 != q2) = false := by simp only [bne, t2, Bool.not_true]
        obtain ⟨e1, e2⟩ := cj_yes (A := A) (B := B) (by rw [hsb]; simp only [t0, t1, t2, Bool.and_self])
        rw [e1, e2]; clear e1 e2
        go_enter Tryz.func48, Tryz.ntmps48
        go_wp2_with (first
          | (with_reducible refine box_new (R := A) HK.out rfl _ rfl rfl ?_; intro ba u hk hb; clear hb; clear HK; have HK := Lib.hid hk; clear hk)
          | (with_reducible refine box_new (R := B) HK.out rfl _ rfl rfl ?_; intro bb u hk hb; clear hb; clear HK; have HK := Lib.hid hk; clear hk)
          | (with_reducible refine alloc_zero HK.out 579 c_zero rfl rfl ?_; intro br u hn hk hb; clear hn hb; clear HK; have HK := Lib.hid hk; clear hk)
          | (with_reducible refine build_zero 579 c_build rfl rfl ?_)
          | (with_reducible refine load_val HK.out 2 rfl _ rfl rfl rfl P0.out (by have := HA.out; omega) ?_)
          | (with_reducible refine load_val HK.out 1 rfl _ rfl rfl rfl Q0.out (by have := HB.out; omega) ?_)
          | (with_reducible refine load_val HK.out 2 rfl _ rfl rfl rfl P1.out (by have := HA.out; omega) ?_)
          | (with_reducible refine load_val HK.out 1 rfl _ rfl rfl rfl Q1.out (by have := HB.out; omega) ?_)
          | (with_reducible refine load_val HK.out 2 rfl _ rfl rfl rfl P2.out (by have := HA.out; omega) ?_)
          | (with_reducible refine load_val HK.out 1 rfl _ rfl rfl rfl Q2.out (by have := HB.out; omega) ?_)
          | (with_reducible refine load_val_want HK.out 2 _ rfl rfl rfl rfl P0.out (by have := HA.out; omega) ?_)
          | (with_reducible refine load_val_want HK.out 1 _ rfl rfl rfl rfl Q0.out (by have := HB.out; omega) ?_)
          | (with_reducible refine load_val_want HK.out 2 _ rfl rfl rfl rfl P1.out (by have := HA.out; omega) ?_)
          | (with_reducible refine load_val_want HK.out 1 _ rfl rfl rfl rfl Q1.out (by have := HB.out; omega) ?_)
          | (with_reducible refine load_val_want HK.out 2 _ rfl rfl rfl rfl P2.out (by have := HA.out; omega) ?_)
          | (with_reducible refine load_val_want HK.out 1 _ rfl rfl rfl rfl Q2.out (by have := HB.out; omega) ?_)
          | (with_reducible refine load_part HK.out 2 288 Tryz.underlying26 rfl r_info rfl _ rfl rfl rfl (by have := HA.out; omega) ?_)
          | (with_reducible refine load_part HK.out 2 288 Tryz.underlying26 rfl r_info rfl _ rfl rfl rfl (by rw [splice_length]; have := HA.out; omega) ?_; rw [HQ.out])
          | (with_reducible refine load_part HK.out 1 288 Tryz.underlying26 rfl r_info rfl _ rfl rfl rfl (by have := HB.out; omega) ?_)
          | (go_at_call 93; (with_reducible refine (join_r (seg A 3 288) (seg B 3 288) HL1.out HL2.out _).mono ?_); rintro e u ⟨rfl, hb⟩; have hk := HK.out.call hb; clear hb; clear HK; have HK := Lib.hid hk; clear hk)
          | (go_at_call 93; (with_reducible refine (join_r (seg A 291 288) (seg B 291 288) HL3.out HL4.out _).mono ?_); rintro e u ⟨rfl, hb⟩; have hk := HK.out.call hb; clear hb; clear HK; have HK := Lib.hid hk; clear hk)
          | (with_reducible refine store_part HK.out 2 288 r_info rfl rfl _ _ rfl rfl rfl rfl HJ1.out (by have := HA.out; omega) ?_; intro u hk hs; clear hs; simp only [List.set_cons_zero, List.set_cons_succ] at hk; clear HK; have HK := Lib.hid hk; clear hk)
          | (with_reducible refine store_part HK.out 2 288 r_info rfl rfl _ _ rfl rfl rfl rfl HJ2.out (by rw [splice_length]; have := HA.out; omega) ?_; intro u hk hs; clear hs; simp only [List.set_cons_zero, List.set_cons_succ] at hk; clear HK; have HK := Lib.hid hk; clear hk)
          | (with_reducible refine load_all HK.out 2 579 Tryz.underlying28 rfl c_info rfl _ rfl rfl rfl (by rw [splice_length, splice_length]; exact HA.out) ?_)
          | (with_reducible refine store_all HK.out 0 579 c_info rfl rfl _ _ rfl rfl rfl rfl (by rw [splice_length, splice_length]; exact HA.out) (zer_length 579) ?_; intro u hk hs; clear hs; simp only [List.set_cons_zero] at hk; clear HK; have HK := Lib.hid hk; clear hk))
        exact bodyPost_ret (results_2 rfl Tryz.underlying28 rfl c_info _ HK.out 0 _ rfl rfl rfl (by rw [splice_length, splice_length]; exact HA.out)) rfl ⟨rfl, HK.out.bel⟩
end Go.Proofs.YtofngihdnjgmeaaGreat

namespace Go.Proofs.YtofngihdnjgmeaaGreat
set_option maxRecDepth 100000
open Go.ChangeShapes Go.WideShapes Go.ChangeAt Go.RowKit

theorem slice_highH (a : Option Addr) (len cap K : Nat) (h : K ≤ cap) (W : World) : (Instr.slice 31 (.slice a len cap) none (some (.int .i64 (K : Int))) none).run Tryz.prog W = .ok (.slice (if cap = 0 then a else a.map (·.add 0)) K cap) W := by
  obtain ⟨i0, hi0, hz0, hz1, hz2⟩ := info_parts h_info3
  simp [Instr.slice, run_underlying Tryz.underlying31, Instr.sliceBounds, Instr.sliceBound, asIntOf, sizeOf, typeInfo, hi0, h]
theorem slice_lowH (a : Option Addr) (len cap K : Nat) (h : K ≤ len) (W : World) : (Instr.slice 31 (.slice a len cap) (some (.int .i64 (K : Int))) none none).run Tryz.prog W = .ok (.slice (if cap = K then a else a.map (·.add (K * 5))) (len - K) (cap - K)) W := by
  obtain ⟨i0, hi0, hz0, hz1, hz2⟩ := info_parts h_info3
  simp [Instr.slice, run_underlying Tryz.underlying31, Instr.sliceBounds, Instr.sliceBound, asIntOf, sizeOf, typeInfo, hi0, hz1, h]
theorem Row.upto {u : World} {A : Option Addr} {n c K : Nat} {hs : List Ho} (h : Row u A n hs) (hK : K ≤ n) (hc : n ≤ c) : Row u (if c = 0 then A else A.map (·.add 0)) K (hs.take K) := by
  obtain ⟨h1, h2, h3⟩ := h
  refine ⟨by simp; omega, by omega, ?_⟩
  rcases h3 with h0 | ⟨b, off, rfl, hr⟩
  · exact .inl (by omega)
  · rcases Nat.eq_zero_or_pos K with h0 | h0
    · exact .inl h0
    · refine .inr ⟨b, off, ?_, fun k hk => ?_⟩
      · rw [if_neg (by omega), Option.map_some, Go.WideShapes.add_plain]; simp
      · have := hr k (by omega)
        rwa [show (hs.take K).getD k z5 = hs.getD k z5 by simp [List.getD, hk]]
theorem slice_to {ops : Array Oper} {rest : List Oper} {o : Oper} {a : Act} {u : World} {Q : Exit → Act → World → Prop} {A : Option Addr} {n c K : Nat} {hs : List Ho} (hr : Row u A n hs) (hK : K ≤ n) (hc : n ≤ c) (hgd : o.guard = none) (x y : Operand) (ho : o.op = .slice 31 x none (some y) none) (hx : a.eval x = .slice A n c) (hy : a.eval y = .int .i64 (K : Int))
    (h : ∀ A', Row u A' K (hs.take K) → wpList Tryz.prog ops Q rest (a.put o.dst (.slice A' K c)) u) : wpList Tryz.prog ops Q (o :: rest) a u :=
  wpList_plain hgd fun K' hK' => by
    have := hK' _ _ (h _ (hr.upto hK hc))
    unfold Oper.wp execOp
    simp only [ho, hx, hy, Option.map_some, Option.map_none, Sem.run_bind, Sem.run_pure, Result.andThen_ok, run_sliceAt_slice (P := Tryz.prog) u 31 _ _ _ _ (by kernel_rfl), slice_highH A n c K (by omega)]
    exact this
theorem slice_from {ops : Array Oper} {rest : List Oper} {o : Oper} {a : Act} {u : World} {Q : Exit → Act → World → Prop} {A : Option Addr} {n c K : Nat} {hs : List Ho} (hr : Row u A n hs) (hK : K ≤ n) (hc : n ≤ c) (hgd : o.guard = none) (x y : Operand) (ho : o.op = .slice 31 x (some y) none none) (hx : a.eval x = .slice A n c) (hy : a.eval y = .int .i64 (K : Int))
    (h : ∀ A', Row u A' (n - K) (hs.drop K) → wpList Tryz.prog ops Q rest (a.put o.dst (.slice A' (n - K) (c - K))) u) : wpList Tryz.prog ops Q (o :: rest) a u :=
  wpList_plain hgd fun K' hK' => by
    have := hK' _ _ (h _ (hr.from hK hc))
    unfold Oper.wp execOp
    simp only [ho, hx, hy, Option.map_some, Option.map_none, Sem.run_bind, Sem.run_pure, Result.andThen_ok, run_sliceAt_slice (P := Tryz.prog) u 31 _ _ _ _ (by kernel_rfl), slice_lowH A n c K hK]
    exact this
theorem ins_eq {l : List Ho} {h : Ho} {m : Nat} (hc : cut l h = m) : [] ++ l.take m ++ [h] ++ l.drop m = insH l h := by
  subst hc; simp [insH]
set_option maxHeartbeats 4000000 in
set_option maxRecDepth 100000 in
theorem put_any (A : Option Addr) (n c : Nat) (hs : List Ho) (h : Ho) (w : World) (hd : Row w A n hs) (hc : n ≤ c) :
    Calls Tryz.prog 51 #[.slice A n c, .agg (vals h.l).toArray] w fun e w' => ∃ v, e = .returned v ∧ Own w' w.heap.size v (insH hs h) ∧ Below w.heap.size w w' := by
  have HD := Lib.hid hd; have HL := Lib.hid hd.1; have HNB := Lib.hid hd.2.1; have HCC := Lib.hid hc; clear hd hc
  have HK := Lib.hid (KeepR.start w)
  go_enter Tryz.func51, Tryz.ntmps51
  go_wp2_with (first
    | (with_reducible refine box_new (R := h.l) HK.out rfl _ rfl rfl ?_; intro bh u hk hb; clear hb; clear HK; have HK := Lib.hid hk; clear hk))
  go_loopw [5] (fun i wr => ∃ m : Nat, m ≤ n ∧ i = .int .i64 m ∧ (∀ j, j < m → ahB (hs.getD j z5) h = true) ∧ KeepR w [(bh, 55, h.l)] wr) (fun i _ => n - (intOf i).toNat)
  case atStart => exact ⟨0, by omega, rfl, by omega, HK.out⟩
  case round =>
    obtain ⟨m, hm, rfl, hu, hk⟩ := hrel
    clear HK
    have HK := Lib.hid hk; have HU := Lib.hid hu; have HM := Lib.hid hm
    clear hk hu
    have hnb := HNB.out
    by_cases hlt : m < n
    · obtain ⟨b, off, rfl, hr⟩ := HD.out.at hlt
      have hrm := hr m hlt
      clear hr
      obtain ⟨x, hh⟩ : ∃ x, hs.getD m z5 = x := ⟨_, rfl⟩
      rw [hh] at hrm
      have HH := Lib.hid hh
      have HR := Lib.hid hrm; have HC := Lib.hid (range_lt hrm)
      clear hrm hh
      have i1 : (0 : Int) ≤ (m : Int) := by omega
      have i2 : (m : Int) < (n : Int) := by omega
      have HLT := Lib.hid (show decide ((m : Int) < (n : Int)) = true by simp; omega)
      cases hah : ahB x h with
      | true =>
        have HAH := Lib.hid hah; clear hah
        go_wp2
        refine Draws.start (S := fun u => KeepR w [(bh, 55, h.l)] u) (n := 12) 12 rfl (by kernel_rfl) ?_
        have HS := Lib.hid (show (fun u => KeepR w [(bh, 55, h.l)] u) _ from HK.out.drew)
        refine Draws.take 0 (v := ?v13) HS.out rfl (by kernel_rfl) (fun _ _ _ h => h) (Or.inl ⟨rfl, ?h13⟩) ?r13
        case h13 => intro w' hw'; go_simp; (try with_reducible rfl)
        (try simp only [Act.put, List.setIfInBounds_toArray, List.set_cons_zero, List.set_cons_succ])
        refine Draws.take 1 (v := ?v14) HS.out rfl (by kernel_rfl) (fun _ _ _ h => h) (Or.inl ⟨rfl, ?h14⟩) ?r14
        case h14 => intro w' hw'; go_simp; (try with_reducible rfl)
        (try simp only [Act.put, List.setIfInBounds_toArray, List.set_cons_zero, List.set_cons_succ])
        refine Draws.take 2 (v := ?v15) HS.out rfl (by kernel_rfl) (fun _ _ _ h => h) (Or.inl ⟨rfl, ?h15⟩) ?r15
        case h15 => intro w' hw'; go_simp; (try with_reducible rfl)
        (try simp only [Act.put, List.setIfInBounds_toArray, List.set_cons_zero, List.set_cons_succ])
        refine Draws.take 3 HS.out rfl (by kernel_rfl) (fun _ _ _ h => h) (yield_lss HLT.out _ _ _ rfl rfl rfl rfl) ?_
        (try simp only [Act.put, List.setIfInBounds_toArray, List.set_cons_zero, List.set_cons_succ])
        refine Draws.take 4 (v := ?v16) HS.out rfl (by kernel_rfl) (fun _ _ _ h => h) (Or.inl ⟨rfl, ?h16⟩) ?r16
        case h16 => intro w' hw'; go_simp; (try with_reducible rfl)
        (try simp only [Act.put, List.setIfInBounds_toArray, List.set_cons_zero, List.set_cons_succ])
        refine Draws.take 5 (v := ?v17) HS.out rfl (by kernel_rfl) (fun _ _ _ h => h) (Or.inl ⟨rfl, ?h17⟩) ?r17
        case h17 => intro w' hw'; go_simp; (try with_reducible rfl)
        (try simp only [Act.put, List.setIfInBounds_toArray, List.set_cons_zero, List.set_cons_succ])
        refine Draws.take 6 (v := ?v18) HS.out rfl (by kernel_rfl) (fun _ _ _ h => h) (Or.inl ⟨rfl, ?h18⟩) ?r18
        case h18 => intro w' hw'; go_simp; (try with_reducible rfl)
        (try simp only [Act.put, List.setIfInBounds_toArray, List.set_cons_zero, List.set_cons_succ])
        refine Draws.take 7 (v := ?v19) HS.out rfl (by kernel_rfl) (fun _ _ _ h => h) (Or.inl ⟨rfl, ?h19⟩) ?r19
        case h19 => intro w' hw'; go_simp; (try with_reducible rfl)
        (try simp only [Act.put, List.setIfInBounds_toArray, List.set_cons_zero, List.set_cons_succ])
        refine Draws.take 8 HS.out rfl (by kernel_rfl) (fun _ _ _ h => h) (yield_hold (fun _ hu => range_below HR.out hu.bel HC.out) _ rfl rfl rfl) ?_
        (try simp only [Act.put, List.setIfInBounds_toArray, List.set_cons_zero, List.set_cons_succ])
        refine Draws.take 9 HS.out rfl (by kernel_rfl) (fun _ _ _ h => h) (yield_all (fun _ hu => hu) 0 5 Tryz.underlying55 rfl h_info rfl _ rfl rfl rfl (Ho.len _)) ?_
        (try simp only [Act.put, List.setIfInBounds_toArray, List.set_cons_zero, List.set_cons_succ])
        refine Draws.does 10 rfl (by kernel_rfl) rfl (fun K hK => ?_)
        go_simp
        go_at_call 90
        refine (aha_any _ _ _ HAH.out _).mono ?_
        rintro e u ⟨rfl, hb⟩
        (try dsimp only)
        refine hK.out _ _ (fun _ => HS.out.call hb) ?_
        clear hK K
        have hs : (fun u => KeepR w [(bh, 55, h.l)] u) u := HS.out.call hb
        clear HS
        have HS := Lib.hid hs; clear hs
        (try simp only [Act.put, List.setIfInBounds_toArray, List.set_cons_zero, List.set_cons_succ])
        clear hb
        refine Draws.take 11 (v := ?v20) HS.out rfl (by kernel_rfl) (fun _ _ _ h => h) (Or.inl ⟨rfl, ?h20⟩) ?r20
        case h20 => intro w' hw'; go_simp; (try with_reducible rfl)
        (try simp only [Act.put, List.setIfInBounds_toArray, List.set_cons_zero, List.set_cons_succ])
        refine Draws.done (by kernel_rfl) ?_
        clear HK
        have HK := HS
        clear HS
        go_wp2
        go_roundw
        case rel => exact ⟨m + 1, by omega, by go_num, fun j hj => by
          rcases Nat.lt_or_ge j m with h1 | h1
          · exact HU.out j h1
          · rw [show j = m by omega, HH.out]; exact HAH.out, HK.out⟩
        case measure => simp [intOf]; omega
      | false =>
        have HAH := Lib.hid hah; clear hah
        have HCUT := Lib.hid (show cut hs h = m from cut_eq (by have := HL.out; omega) HU.out (.inr (by rw [HH.out]; exact HAH.out)))
        go_wp2
        refine Draws.start (S := fun u => KeepR w [(bh, 55, h.l)] u) (n := 12) 12 rfl (by kernel_rfl) ?_
        have HS := Lib.hid (show (fun u => KeepR w [(bh, 55, h.l)] u) _ from HK.out.drew)
        refine Draws.take 0 (v := ?v21) HS.out rfl (by kernel_rfl) (fun _ _ _ h => h) (Or.inl ⟨rfl, ?h21⟩) ?r21
        case h21 => intro w' hw'; go_simp; (try with_reducible rfl)
        (try simp only [Act.put, List.setIfInBounds_toArray, List.set_cons_zero, List.set_cons_succ])
        refine Draws.take 1 (v := ?v22) HS.out rfl (by kernel_rfl) (fun _ _ _ h => h) (Or.inl ⟨rfl, ?h22⟩) ?r22
        case h22 => intro w' hw'; go_simp; (try with_reducible rfl)
        (try simp only [Act.put, List.setIfInBounds_toArray, List.set_cons_zero, List.set_cons_succ])
        refine Draws.take 2 (v := ?v23) HS.out rfl (by kernel_rfl) (fun _ _ _ h => h) (Or.inl ⟨rfl, ?h23⟩) ?r23
        case h23 => intro w' hw'; go_simp; (try with_reducible rfl)
        (try simp only [Act.put, List.setIfInBounds_toArray, List.set_cons_zero, List.set_cons_succ])
        refine Draws.take 3 HS.out rfl (by kernel_rfl) (fun _ _ _ h => h) (yield_lss HLT.out _ _ _ rfl rfl rfl rfl) ?_
        (try simp only [Act.put, List.setIfInBounds_toArray, List.set_cons_zero, List.set_cons_succ])
        refine Draws.take 4 (v := ?v24) HS.out rfl (by kernel_rfl) (fun _ _ _ h => h) (Or.inl ⟨rfl, ?h24⟩) ?r24
        case h24 => intro w' hw'; go_simp; (try with_reducible rfl)
        (try simp only [Act.put, List.setIfInBounds_toArray, List.set_cons_zero, List.set_cons_succ])
        refine Draws.take 5 (v := ?v25) HS.out rfl (by kernel_rfl) (fun _ _ _ h => h) (Or.inl ⟨rfl, ?h25⟩) ?r25
        case h25 => intro w' hw'; go_simp; (try with_reducible rfl)
        (try simp only [Act.put, List.setIfInBounds_toArray, List.set_cons_zero, List.set_cons_succ])
        refine Draws.take 6 (v := ?v26) HS.out rfl (by kernel_rfl) (fun _ _ _ h => h) (Or.inl ⟨rfl, ?h26⟩) ?r26
        case h26 => intro w' hw'; go_simp; (try with_reducible rfl)
        (try simp only [Act.put, List.setIfInBounds_toArray, List.set_cons_zero, List.set_cons_succ])
        refine Draws.take 7 (v := ?v27) HS.out rfl (by kernel_rfl) (fun _ _ _ h => h) (Or.inl ⟨rfl, ?h27⟩) ?r27
        case h27 => intro w' hw'; go_simp; (try with_reducible rfl)
        (try simp only [Act.put, List.setIfInBounds_toArray, List.set_cons_zero, List.set_cons_succ])
        refine Draws.take 8 HS.out rfl (by kernel_rfl) (fun _ _ _ h => h) (yield_hold (fun _ hu => range_below HR.out hu.bel HC.out) _ rfl rfl rfl) ?_
        (try simp only [Act.put, List.setIfInBounds_toArray, List.set_cons_zero, List.set_cons_succ])
        refine Draws.take 9 HS.out rfl (by kernel_rfl) (fun _ _ _ h => h) (yield_all (fun _ hu => hu) 0 5 Tryz.underlying55 rfl h_info rfl _ rfl rfl rfl (Ho.len _)) ?_
        (try simp only [Act.put, List.setIfInBounds_toArray, List.set_cons_zero, List.set_cons_succ])
        refine Draws.does 10 rfl (by kernel_rfl) rfl (fun K hK => ?_)
        go_simp
        go_at_call 90
        refine (aha_any _ _ _ HAH.out _).mono ?_
        rintro e u ⟨rfl, hb⟩
        (try dsimp only)
        refine hK.out _ _ (fun _ => HS.out.call hb) ?_
        clear hK K
        have hs : (fun u => KeepR w [(bh, 55, h.l)] u) u := HS.out.call hb
        clear HS
        have HS := Lib.hid hs; clear hs
        (try simp only [Act.put, List.setIfInBounds_toArray, List.set_cons_zero, List.set_cons_succ])
        clear hb
        refine Draws.take 11 (v := ?v28) HS.out rfl (by kernel_rfl) (fun _ _ _ h => h) (Or.inl ⟨rfl, ?h28⟩) ?r28
        case h28 => intro w' hw'; go_simp; (try with_reducible rfl)
        (try simp only [Act.put, List.setIfInBounds_toArray, List.set_cons_zero, List.set_cons_succ])
        refine Draws.done (by kernel_rfl) ?_
        clear HK
        have HK := HS
        clear HS
        go_wp2_with (first
          | (with_reducible refine build_none HK.out rfl rfl ?_; intro v1 u hk; clear HK; have HK := Lib.hid hk; clear hk)
          | (with_reducible refine slice_to (HD.out.below HK.out.keep.bel (Nat.le_refl _)) HM.out HCC.out rfl _ _ rfl rfl rfl ?_; intro A1 hrs; have HRS := Lib.hid hrs; clear hrs)
          | (refine app_hos HK.out rfl _ _ rfl rfl _ _ _ _ rfl HRS.out (by have := HNB.out; have := HM.out; have := HL.out; simp; omega) ?_; intro v2 u hk; clear HK; have HK := Lib.hid hk; clear hk)
          | (with_reducible refine load_all HK.out.keep 0 5 Tryz.underlying55 rfl h_info rfl _ rfl rfl rfl (Ho.len _) ?_)
          | (with_reducible refine build_one HK.out rfl _ rfl rfl ?_; intro b1 u hk hb; clear hb; clear HK; have HK := Lib.hid hk; clear hk)
          | (refine app_hos HK.out rfl _ _ rfl rfl _ _ _ _ rfl HK.out.one (by have := HNB.out; have := HM.out; have := HL.out; simp; omega) ?_; intro v3 u hk0; have hk := hk0.tail; clear hk0; clear HK; have HK := Lib.hid hk; clear hk)
          | (with_reducible refine slice_from (HD.out.below HK.out.keep.bel (Nat.le_refl _)) HM.out HCC.out rfl _ _ rfl rfl rfl ?_; intro A2 hrs; have HRS2 := Lib.hid hrs; clear hrs)
          | (refine app_hos HK.out rfl _ _ rfl rfl _ _ _ _ rfl HRS2.out (by have := HNB.out; have := HM.out; have := HL.out; simp; omega) ?_; intro v4 u hk; clear HK; have HK := Lib.hid hk; clear hk))
        go_ret
        exact ⟨_, rfl, by have h5 := HK.out.own; rw [ins_eq HCUT.out] at h5; exact h5, HK.out.keep.bel⟩
    · obtain rfl : m = n := by omega
      have HCUT := Lib.hid (show cut hs h = m from cut_eq (by have := HL.out; omega) HU.out (.inl HL.out.symm))
      have HLT := Lib.hid (show decide ((m : Int) < (m : Int)) = false by simp)
      go_wp2
      refine Draws.start (S := fun u => KeepR w [(bh, 55, h.l)] u) (n := 12) 12 rfl (by kernel_rfl) ?_
      have HS := Lib.hid (show (fun u => KeepR w [(bh, 55, h.l)] u) _ from HK.out.drew)
      refine Draws.take 0 (v := ?v29) HS.out rfl (by kernel_rfl) (fun _ _ _ h => h) (Or.inl ⟨rfl, ?h29⟩) ?r29
      case h29 => intro w' hw'; go_simp; (try with_reducible rfl)
      (try simp only [Act.put, List.setIfInBounds_toArray, List.set_cons_zero, List.set_cons_succ])
      refine Draws.take 1 (v := ?v30) HS.out rfl (by kernel_rfl) (fun _ _ _ h => h) (Or.inl ⟨rfl, ?h30⟩) ?r30
      case h30 => intro w' hw'; go_simp; (try with_reducible rfl)
      (try simp only [Act.put, List.setIfInBounds_toArray, List.set_cons_zero, List.set_cons_succ])
      refine Draws.take 2 (v := ?v31) HS.out rfl (by kernel_rfl) (fun _ _ _ h => h) (Or.inl ⟨rfl, ?h31⟩) ?r31
      case h31 => intro w' hw'; go_simp; (try with_reducible rfl)
      (try simp only [Act.put, List.setIfInBounds_toArray, List.set_cons_zero, List.set_cons_succ])
      refine Draws.take 3 HS.out rfl (by kernel_rfl) (fun _ _ _ h => h) (yield_lss HLT.out _ _ _ rfl rfl rfl rfl) ?_
      (try simp only [Act.put, List.setIfInBounds_toArray, List.set_cons_zero, List.set_cons_succ])
      refine Draws.take 4 (v := ?v32) HS.out rfl (by kernel_rfl) (fun _ _ _ h => h) (Or.inl ⟨rfl, ?h32⟩) ?r32
      case h32 => intro w' hw'; go_simp; (try with_reducible rfl)
      (try simp only [Act.put, List.setIfInBounds_toArray, List.set_cons_zero, List.set_cons_succ])
      refine Draws.take 5 HS.out rfl (by kernel_rfl) (fun _ _ _ h => h) (Or.inr ⟨rfl, rfl⟩) ?_
      (try simp only [Act.put, List.setIfInBounds_toArray, List.set_cons_zero, List.set_cons_succ])
      refine Draws.take 6 HS.out rfl (by kernel_rfl) (fun _ _ _ h => h) (Or.inr ⟨rfl, rfl⟩) ?_
      (try simp only [Act.put, List.setIfInBounds_toArray, List.set_cons_zero, List.set_cons_succ])
      refine Draws.take 7 HS.out rfl (by kernel_rfl) (fun _ _ _ h => h) (Or.inr ⟨rfl, rfl⟩) ?_
      (try simp only [Act.put, List.setIfInBounds_toArray, List.set_cons_zero, List.set_cons_succ])
      refine Draws.take 8 HS.out rfl (by kernel_rfl) (fun _ _ _ h => h) (Or.inr ⟨rfl, rfl⟩) ?_
      (try simp only [Act.put, List.setIfInBounds_toArray, List.set_cons_zero, List.set_cons_succ])
      refine Draws.take 9 HS.out rfl (by kernel_rfl) (fun _ _ _ h => h) (Or.inr ⟨rfl, rfl⟩) ?_
      (try simp only [Act.put, List.setIfInBounds_toArray, List.set_cons_zero, List.set_cons_succ])
      refine Draws.take 10 HS.out rfl (by kernel_rfl) (fun _ _ _ h => h) (Or.inr ⟨rfl, rfl⟩) ?_
      (try simp only [Act.put, List.setIfInBounds_toArray, List.set_cons_zero, List.set_cons_succ])
      refine Draws.take 11 (v := ?v33) HS.out rfl (by kernel_rfl) (fun _ _ _ h => h) (Or.inl ⟨rfl, ?h33⟩) ?r33
      case h33 => intro w' hw'; go_simp; (try with_reducible rfl)
      (try simp only [Act.put, List.setIfInBounds_toArray, List.set_cons_zero, List.set_cons_succ])
      refine Draws.done (by kernel_rfl) ?_
      clear HK
      have HK := HS
      clear HS
      go_wp2_with (first
        | (with_reducible refine build_none HK.out rfl rfl ?_; intro v1 u hk; clear HK; have HK := Lib.hid hk; clear hk)
        | (with_reducible refine slice_to (HD.out.below HK.out.keep.bel (Nat.le_refl _)) HM.out HCC.out rfl _ _ rfl rfl rfl ?_; intro A1 hrs; have HRS := Lib.hid hrs; clear hrs)
        | (refine app_hos HK.out rfl _ _ rfl rfl _ _ _ _ rfl HRS.out (by have := HNB.out; have := HM.out; have := HL.out; simp; omega) ?_; intro v2 u hk; clear HK; have HK := Lib.hid hk; clear hk)
        | (with_reducible refine load_all HK.out.keep 0 5 Tryz.underlying55 rfl h_info rfl _ rfl rfl rfl (Ho.len _) ?_)
        | (with_reducible refine build_one HK.out rfl _ rfl rfl ?_; intro b1 u hk hb; clear hb; clear HK; have HK := Lib.hid hk; clear hk)
        | (refine app_hos HK.out rfl _ _ rfl rfl _ _ _ _ rfl HK.out.one (by have := HNB.out; have := HM.out; have := HL.out; simp; omega) ?_; intro v3 u hk0; have hk := hk0.tail; clear hk0; clear HK; have HK := Lib.hid hk; clear hk)
        | (with_reducible refine slice_from (HD.out.below HK.out.keep.bel (Nat.le_refl _)) HM.out HCC.out rfl _ _ rfl rfl rfl ?_; intro A2 hrs; have HRS2 := Lib.hid hrs; clear hrs)
        | (refine app_hos HK.out rfl _ _ rfl rfl _ _ _ _ rfl HRS2.out (by have := HNB.out; have := HM.out; have := HL.out; simp; omega) ?_; intro v4 u hk; clear HK; have HK := Lib.hid hk; clear hk))
      go_ret
      exact ⟨_, rfl, by have h5 := HK.out.own; rw [ins_eq HCUT.out] at h5; exact h5, HK.out.keep.bel⟩

end Go.Proofs.YtofngihdnjgmeaaGreat

namespace Go.Proofs.YtofngihdnjgmeaaGreat
set_option maxRecDepth 100000
open Go.ChangeShapes Go.WideShapes Go.ChangeAt Go.RowKit

theorem run_build_f2 (cs ds : List Value) (hc : cs.length = 587) (hd : ds.length = 587) (u : World) : (Instr.buildSlice 58 2 #[(0, .agg cs.toArray), (1, .agg ds.toArray)]).run Tryz.prog u = .ok (.slice (some ⟨u.heap.size, 0, none⟩) 2 2) (u.alloc (.cells (cs ++ ds).toArray 33)) := by
  obtain ⟨i0, hi0, hz⟩ : ∃ i, Tryz.prog.info? 33 = some i ∧ i.zero = some (.agg (zP.fd none 0).cells.toArray) := by
    have := f_zeroP
    cases hq : Tryz.prog.info? 33 with
    | none => rw [hq] at this; cases this
    | some i => rw [hq] at this; exact ⟨i, rfl, this⟩
  have hfl : ∀ Z : Array Value, Z.size = 2 * 587 → Instr.fill (fun i => some (i * 587, 587)) Z [(0, .agg cs.toArray), (1, .agg ds.toArray)] = some (cs ++ ds).toArray := fun Z hZ => by
    obtain ⟨Z⟩ := Z
    have hZ' : Z.length = 2 * 587 := by simpa using hZ
    have e1 : spl Z (0 * 587) cs = cs ++ Z.drop 587 := by
      have := spl_mid cs (Z.take 587) [] (Z.drop 587) (by rw [List.length_take, hc]; omega)
      simpa using this
    have e2 : spl (cs ++ Z.drop 587) (1 * 587) ds = cs ++ ds := by
      have := spl_mid ds (Z.drop 587) cs [] (by rw [List.length_drop, hd]; omega)
      rw [List.append_nil, List.append_nil, hc] at this
      rw [Nat.one_mul]; exact this
    rw [show (⟨Z⟩ : Array Value) = Z.toArray from rfl, fill_one _ Z cs _ 0 (0 * 587) 587 _ rfl rfl hc (by omega), e1,
      fill_one _ _ ds _ 1 (1 * 587) 587 [] rfl rfl hd (by rw [List.length_append, List.length_drop, hc]; omega), e2, Instr.fill]
  have s := sz_f
  simp only [Instr.buildSlice, run_underlying Tryz.underlying58, Sem.run_bind, Result.andThen_ok, s]
  simp [zeroValue, typeInfo, hi0, hz, Value.cells, newRow, newObj]
  rw [hfl _ (by simp)]
  simp []
  rfl
section
variable {ops : Array Oper} {rest : List Oper} {o : Oper} {a : Act} {w u : World} {l : List (Nat × TypeId × List Value)} {rows : List (Option Addr × Nat × List Ho)} {Q : Exit → Act → World → Prop}
theorem build_f2 (hk : KeepF w l rows u) (hgd : o.guard = none) (x y : Operand) (ho : o.op = .buildSlice 58 2 #[(0, x), (1, y)]) {p q : Pf} {A B : Option Addr} {c d : Nat} (hp : p.full) (hq : q.full) (hx : a.eval x = .agg (p.fd A c).cells.toArray) (hy : a.eval y = .agg (q.fd B d).cells.toArray)
    (h : ∀ b u', KeepF w ((b, 33, (p.fd A c).cells ++ (q.fd B d).cells) :: l) rows u' → wpList Tryz.prog ops Q rest (a.put o.dst (.slice (some ⟨b, 0, none⟩) 2 2)) u') : wpList Tryz.prog ops Q (o :: rest) a u :=
  wpList_plain hgd fun K hK => by
    unfold Oper.wp execOp
    simp only [ho, List.map_toArray, List.map_cons, List.map_nil, hx, hy, Sem.run_bind, Sem.run_pure, Result.andThen_ok, run_build_f2 _ _ (Pf.len hp) (Pf.len hq)]
    exact hK _ _ (h _ _ (hk.new rfl))
end
theorem two_l {xs ys : List Value} : ∀ j v, xs[j]? = some v → (xs ++ ys)[0 + j]? = some v := fun j v h => by
  rw [Nat.zero_add, List.getElem?_append_left (List.getElem?_eq_some_iff.1 h).1]; exact h
theorem two_r {xs ys : List Value} (hx : xs.length = 587) : ∀ j v, ys[j]? = some v → (xs ++ ys)[587 + j]? = some v := fun j v h => by
  rw [List.getElem?_append_right (by omega), hx, Nat.add_sub_cancel_left]; exact h
set_option maxHeartbeats 2000000 in
theorem few_f2 (p q : Pf) (hp : p.full) (hq : q.full) (A B : Option Addr) (c d b : Nat) (r : Bool) (hr : (fewP p && fewP q) = r) (w : World) (hb : Cel w b 33 ((p.fd A c).cells ++ (q.fd B d).cells)) :
    Calls Tryz.prog 8 #[.slice (some ⟨b, 0, none⟩) 2 2] w fun e w' => e = .returned (.bool r) ∧ Below w.heap.size w w' := by
  have HK := Lib.hid (KeepF.start (w := w) (rows := []) (by simp))
  have HF := Lib.hid hp; have HG := Lib.hid hq
  have HL := Lib.hid (Pf.len (A := A) (c := c) hp); clear hp hq
  have HB := Lib.hid hb; clear hb
  subst hr
  go_enter Tryz.func8, Tryz.ntmps8
  go_wp2
  go_loopw [7] (fun i wr => ∃ m : Nat, m ≤ 2 ∧ i = .int .i64 m ∧ (1 ≤ m → fewP p = true) ∧ (m = 2 → fewP q = true) ∧ KeepF w [] [] wr) (fun i _ => 2 - (intOf i).toNat)
  case atStart => exact ⟨0, by omega, rfl, by omega, by omega, HK.out⟩
  case round =>
    obtain ⟨m, hm, rfl, hq1, hq2, hk⟩ := hrel
    clear HK; have HK := Lib.hid hk; clear hk
    rcases (by omega : m = 0 ∨ m = 1 ∨ m = 2) with rfl | rfl | rfl
    · clear hq1 hq2
      simp only [Int.natCast_zero]
      by_cases h1 : p.nm.size ≤ 100
      · have d1 : decide ((100 : Int) < (p.nm.size : Int)) = false := by rw [decide_eq_false_iff_not]; omega
        by_cases h2 : p.hs.length ≤ 40
        · have d2 : decide ((40 : Int) < (p.hs.length : Int)) = false := by rw [decide_eq_false_iff_not]; omega
          have HQ := Lib.hid (show fewP p = true by simp [fewP, h1, h2])
          go_wp2_with (first
            | (with_reducible refine load_rng Tryz.underlying33 rfl (Pf.infoF HF.out) _ rfl ((HB.out.below HK.out.bel HB.out.lt).range two_l) rfl rfl ?_)
            | (with_reducible refine alloc_f HK.out f_zeroP rfl rfl ?_; intro bf u hk; clear HK; have HK := Lib.hid hk; clear hk)
            | (with_reducible refine store_fr HK.out 0 (Pf.infoF HF.out) (Fd.one _) rfl rfl _ _ rfl rfl rfl rfl (Fd.leP zP_full HF.out) (Fd.setAllP zP_full HF.out) ?_; intro u hk; simp only [List.set_cons_zero] at hk; clear HK; have HK := Lib.hid hk; clear hk)
            | (with_reducible refine load_f1 HK.out 0 cbS _ rfl rfl rfl rfl Pf.cn ?_)
            | (with_reducible refine load_f1 HK.out 0 cbH _ rfl rfl rfl rfl (Pf.cH HF.out) ?_))
          go_roundw
          case rel => exact ⟨1, by omega, by go_num, fun _ => HQ.out, by omega, HK.out.tail⟩
          case measure => simp [intOf]
        · have d2 : decide ((40 : Int) < (p.hs.length : Int)) = true := by rw [decide_eq_true_eq]; omega
          have HQ := Lib.hid (show fewP p = false by simp [fewP, h2])
          go_wp2_with (first
            | (with_reducible refine load_rng Tryz.underlying33 rfl (Pf.infoF HF.out) _ rfl ((HB.out.below HK.out.bel HB.out.lt).range two_l) rfl rfl ?_)
            | (with_reducible refine alloc_f HK.out f_zeroP rfl rfl ?_; intro bf u hk; clear HK; have HK := Lib.hid hk; clear hk)
            | (with_reducible refine store_fr HK.out 0 (Pf.infoF HF.out) (Fd.one _) rfl rfl _ _ rfl rfl rfl rfl (Fd.leP zP_full HF.out) (Fd.setAllP zP_full HF.out) ?_; intro u hk; simp only [List.set_cons_zero] at hk; clear HK; have HK := Lib.hid hk; clear hk)
            | (with_reducible refine load_f1 HK.out 0 cbS _ rfl rfl rfl rfl Pf.cn ?_)
            | (with_reducible refine load_f1 HK.out 0 cbH _ rfl rfl rfl rfl (Pf.cH HF.out) ?_))
          go_ret
          exact ⟨by rw [HQ.out]; simp, HK.out.bel⟩
      · have d1 : decide ((100 : Int) < (p.nm.size : Int)) = true := by rw [decide_eq_true_eq]; omega
        have HQ := Lib.hid (show fewP p = false by simp [fewP, h1])
        go_wp2_with (first
          | (with_reducible refine load_rng Tryz.underlying33 rfl (Pf.infoF HF.out) _ rfl ((HB.out.below HK.out.bel HB.out.lt).range two_l) rfl rfl ?_)
          | (with_reducible refine alloc_f HK.out f_zeroP rfl rfl ?_; intro bf u hk; clear HK; have HK := Lib.hid hk; clear hk)
          | (with_reducible refine store_fr HK.out 0 (Pf.infoF HF.out) (Fd.one _) rfl rfl _ _ rfl rfl rfl rfl (Fd.leP zP_full HF.out) (Fd.setAllP zP_full HF.out) ?_; intro u hk; simp only [List.set_cons_zero] at hk; clear HK; have HK := Lib.hid hk; clear hk)
          | (with_reducible refine load_f1 HK.out 0 cbS _ rfl rfl rfl rfl Pf.cn ?_))
        go_ret
        exact ⟨by rw [HQ.out]; simp, HK.out.bel⟩
    · have HQ1 := Lib.hid (hq1 (by omega))
      clear hq1 hq2
      simp only [Int.natCast_one]
      by_cases h1 : q.nm.size ≤ 100
      · have d1 : decide ((100 : Int) < (q.nm.size : Int)) = false := by rw [decide_eq_false_iff_not]; omega
        by_cases h2 : q.hs.length ≤ 40
        · have d2 : decide ((40 : Int) < (q.hs.length : Int)) = false := by rw [decide_eq_false_iff_not]; omega
          have HQ := Lib.hid (show fewP q = true by simp [fewP, h1, h2])
          go_wp2_with (first
            | (with_reducible refine load_rng Tryz.underlying33 rfl (Pf.infoF HG.out) _ rfl ((HB.out.below HK.out.bel HB.out.lt).range (two_r HL.out)) rfl rfl ?_)
            | (with_reducible refine alloc_f HK.out f_zeroP rfl rfl ?_; intro bf u hk; clear HK; have HK := Lib.hid hk; clear hk)
            | (with_reducible refine store_fr HK.out 0 (Pf.infoF HG.out) (Fd.one _) rfl rfl _ _ rfl rfl rfl rfl (Fd.leP zP_full HG.out) (Fd.setAllP zP_full HG.out) ?_; intro u hk; simp only [List.set_cons_zero] at hk; clear HK; have HK := Lib.hid hk; clear hk)
            | (with_reducible refine load_f1 HK.out 0 cbS _ rfl rfl rfl rfl Pf.cn ?_)
            | (with_reducible refine load_f1 HK.out 0 cbH _ rfl rfl rfl rfl (Pf.cH HG.out) ?_))
          go_roundw
          case rel => exact ⟨2, by omega, by go_num, fun _ => HQ1.out, fun _ => HQ.out, HK.out.tail⟩
          case measure => simp [intOf]
        · have d2 : decide ((40 : Int) < (q.hs.length : Int)) = true := by rw [decide_eq_true_eq]; omega
          have HQ := Lib.hid (show fewP q = false by simp [fewP, h2])
          go_wp2_with (first
            | (with_reducible refine load_rng Tryz.underlying33 rfl (Pf.infoF HG.out) _ rfl ((HB.out.below HK.out.bel HB.out.lt).range (two_r HL.out)) rfl rfl ?_)
            | (with_reducible refine alloc_f HK.out f_zeroP rfl rfl ?_; intro bf u hk; clear HK; have HK := Lib.hid hk; clear hk)
            | (with_reducible refine store_fr HK.out 0 (Pf.infoF HG.out) (Fd.one _) rfl rfl _ _ rfl rfl rfl rfl (Fd.leP zP_full HG.out) (Fd.setAllP zP_full HG.out) ?_; intro u hk; simp only [List.set_cons_zero] at hk; clear HK; have HK := Lib.hid hk; clear hk)
            | (with_reducible refine load_f1 HK.out 0 cbS _ rfl rfl rfl rfl Pf.cn ?_)
            | (with_reducible refine load_f1 HK.out 0 cbH _ rfl rfl rfl rfl (Pf.cH HG.out) ?_))
          go_ret
          exact ⟨by rw [HQ.out]; simp, HK.out.bel⟩
      · have d1 : decide ((100 : Int) < (q.nm.size : Int)) = true := by rw [decide_eq_true_eq]; omega
        have HQ := Lib.hid (show fewP q = false by simp [fewP, h1])
        go_wp2_with (first
          | (with_reducible refine load_rng Tryz.underlying33 rfl (Pf.infoF HG.out) _ rfl ((HB.out.below HK.out.bel HB.out.lt).range (two_r HL.out)) rfl rfl ?_)
          | (with_reducible refine alloc_f HK.out f_zeroP rfl rfl ?_; intro bf u hk; clear HK; have HK := Lib.hid hk; clear hk)
          | (with_reducible refine store_fr HK.out 0 (Pf.infoF HG.out) (Fd.one _) rfl rfl _ _ rfl rfl rfl rfl (Fd.leP zP_full HG.out) (Fd.setAllP zP_full HG.out) ?_; intro u hk; simp only [List.set_cons_zero] at hk; clear HK; have HK := Lib.hid hk; clear hk)
          | (with_reducible refine load_f1 HK.out 0 cbS _ rfl rfl rfl rfl Pf.cn ?_))
        go_ret
        exact ⟨by rw [HQ.out]; simp, HK.out.bel⟩
    · have HQ1 := Lib.hid (hq1 (by omega))
      have HQ := Lib.hid (hq2 rfl)
      clear hq1 hq2
      simp only [show ((2 : Nat) : Int) = 2 from rfl]
      go_wp2
      go_ret
      exact ⟨by rw [HQ.out, HQ1.out]; rfl, HK.out.bel⟩
end Go.Proofs.YtofngihdnjgmeaaGreat

namespace Go.Proofs.YtofngihdnjgmeaaGreat

/-- What one knows, with what others know of it. -/
def upd (c : List Ho) (x : Ho) : Ho := match fnd c x.r x.n with
  | some y => setS x (max x.s y.s)
  | none => x
/-- Each of a, with what c knows of it, and then all of c that a has not. -/
def jraw (a c : List Ho) : List Ho := a.map (upd c) ++ c.filter fun y => (fnd a y.r y.n).isNone
/-- a has one of its name, of another amount or time. -/
def clB (a : List Ho) (y : Ho) : Bool := match fnd a y.r y.n with
  | some x => (x.a != y.a) || (x.d != y.d)
  | none => false
def joinE (a b : List Ho) : Int := if rightsL a && rightsL b then (if b.any (clB a) then 1 else if 16 < (jraw a b).length then 7 else 0) else 1
def joinLH (a b : List Ho) : List Ho := if joinE a b = 0 then isort (jraw a b) else []

theorem jraw_nil (a : List Ho) : jraw a [] = a := by
  unfold jraw
  rw [show upd [] = id from rfl]; simp
theorem upd_name (c : List Ho) (x : Ho) : (upd c x).r = x.r ∧ (upd c x).n = x.n ∧ (upd c x).a = x.a ∧ (upd c x).d = x.d := by
  unfold upd setS
  split <;> simp
theorem upd_none {c : List Ho} {x : Ho} (h : fnd c x.r x.n = none) : upd c x = x := by unfold upd; rw [h]
theorem upd_some {c : List Ho} {x y : Ho} (h : fnd c x.r x.n = some y) : upd c x = setS x (max x.s y.s) := by unfold upd; rw [h]
theorem fnd_append (c d : List Ho) (k n : Int) : fnd (c ++ d) k n = (fnd c k n).or (fnd d k n) := by
  unfold fnd
  rw [List.find?_append]
theorem fnd_one (h : Ho) (k n : Int) : fnd [h] k n = if nm k n h then some h else none := by
  unfold fnd
  cases hn : nm k n h <;> simp [hn]
theorem nm_SN {x y : Ho} : nm x.r x.n y = true ↔ SN y x := by rw [nm_iff]; rfl
theorem fnd_none_iff {c : List Ho} {x : Ho} : fnd c x.r x.n = none ↔ ∀ y ∈ c, ¬ SN y x := by
  constructor
  · intro h y hy hs
    exact fnd_none h hy hs
  · intro h
    rw [fnd, List.find?_eq_none]
    intro y hy e
    exact h y hy (nm_SN.1 e)
/-- One that a has not. -/
theorem jraw_new {a c : List Ho} {h : Ho} (hn : fnd a h.r h.n = none) : jraw a (c ++ [h]) = jraw a c ++ [h] := by
  unfold jraw
  have hu : a.map (upd (c ++ [h])) = a.map (upd c) := by
    apply List.map_congr_left
    intro x hx
    have hx' : nm x.r x.n h = false := by
      rw [← Bool.not_eq_true, nm_SN]
      exact fun hs => fnd_none_iff.1 hn x hx hs.symm
    unfold upd
    rw [fnd_append, fnd_one, hx']
    simp
  rw [hu, List.filter_append, List.append_assoc]
  simp [hn]
/-- One that a has. -/
theorem jraw_hit {a c : List Ho} {h : Ho} {i : Nat} (ha : a.Pairwise AH) (hi : i < a.length) (hx : SN (a.getD i z5) h) (hc : ∀ y ∈ c, ¬ SN y h) :
    jraw a (c ++ [h]) = (jraw a c).set i (setS (a.getD i z5) (max (a.getD i z5).s h.s)) ∧ (jraw a c).getD i z5 = a.getD i z5 := by
  have hfa : (fnd a h.r h.n).isNone = false := by
    cases hf : fnd a h.r h.n with
    | none => exact absurd hx (fnd_none_iff.1 hf _ (getD_mem hi))
    | some y => rfl
  have hfc : fnd c (a.getD i z5).r (a.getD i z5).n = none := by
    rw [hx.1, hx.2]
    exact fnd_none_iff.2 hc
  have hl : i < (a.map (upd c)).length := by simpa using hi
  refine ⟨?_, ?_⟩
  · unfold jraw
    rw [List.filter_append]
    have hf1 : [h].filter (fun y => (fnd a y.r y.n).isNone) = [] := by simp [hfa]
    rw [hf1, List.append_nil, List.set_append_left _ _ hl]
    congr 1
    apply List.ext_getElem
    · simp
    · intro j h1 h2
      simp only [List.length_map] at h1
      rw [List.getElem_map, List.getElem_set]
      by_cases hij : i = j
      · subst hij
        rw [if_pos rfl, ← getD_get h1]
        apply upd_some
        rw [fnd_append, hfc, fnd_one, if_pos (nm_SN.2 hx.symm)]
        rfl
      · rw [if_neg hij, List.getElem_map]
        have hns : ¬ SN a[j] h := by
          intro hs
          have h3 := (Apart.of_rises ha).one (List.getElem_mem h1) (getD_mem hi) (hs.trans hx.symm)
          rw [getD_get hi] at h3
          rcases Nat.lt_trichotomy i j with h4 | h4 | h4
          · have := List.pairwise_iff_getElem.1 ha i j hi h1 h4
            rw [h3] at this
            exact AH.irrefl _ this
          · exact hij h4
          · have := List.pairwise_iff_getElem.1 ha j i h1 hi h4
            rw [h3] at this
            exact AH.irrefl _ this
        have hx' : nm a[j].r a[j].n h = false := by
          rw [← Bool.not_eq_true, nm_SN]
          exact fun hs => hns hs.symm
        unfold upd
        rw [fnd_append, fnd_one, hx']
        simp
  · unfold jraw
    rw [getD_get (by simp; omega), List.getElem_append_left (by simpa using hi), List.getElem_map, ← getD_get hi]
    exact upd_none hfc
theorem jraw_length (a c : List Ho) : a.length ≤ (jraw a c).length ∧ (jraw a c).length ≤ a.length + c.length := by
  unfold jraw
  have := List.length_filter_le (fun y => (fnd a y.r y.n).isNone) c
  rw [List.length_append, List.length_map]
  omega
/-- Who is in the join. -/
theorem mem_jraw {a c : List Ho} {z : Ho} : z ∈ jraw a c ↔ (∃ x ∈ a, upd c x = z) ∨ (z ∈ c ∧ ∀ x ∈ a, ¬ SN x z) := by
  unfold jraw
  rw [List.mem_append, List.mem_map, List.mem_filter, Option.isNone_iff_eq_none, fnd_none_iff]
theorem jraw_apart {a c : List Ho} (ha : Apart a) (hc : Apart c) : Apart (jraw a c) := by
  unfold jraw
  unfold Apart at *
  rw [List.pairwise_append]
  refine ⟨?_, hc.sublist List.filter_sublist, ?_⟩
  · rw [List.pairwise_map]
    refine ha.imp fun {x y} h hs => h ?_
    obtain ⟨h1, h2⟩ := hs
    rw [(upd_name c x).1, (upd_name c y).1] at h1
    rw [(upd_name c x).2.1, (upd_name c y).2.1] at h2
    exact ⟨h1, h2⟩
  · intro x hx y hy hs
    obtain ⟨x0, hx0, rfl⟩ := List.mem_map.1 hx
    rw [List.mem_filter, Option.isNone_iff_eq_none, fnd_none_iff] at hy
    obtain ⟨h1, h2⟩ := hs
    rw [(upd_name c x0).1] at h1
    rw [(upd_name c x0).2.1] at h2
    exact hy.2 x0 hx0 ⟨h1, h2⟩
/-- In its place in a list that is in order. -/
theorem set_perm_cons {l : List Ho} {i : Nat} (hi : i < l.length) (y : Ho) : (l.set i y).Perm (y :: l.eraseIdx i) := by
  rw [List.set_eq_take_append_cons_drop, if_pos hi, List.eraseIdx_eq_take_drop_succ]
  exact List.perm_middle
theorem perm_cons_erase {l : List Ho} {i : Nat} (hi : i < l.length) : l.Perm (l.getD i z5 :: l.eraseIdx i) := by
  have := set_perm_cons hi (l.getD i z5)
  rw [getD_get hi, List.set_getElem_self] at this
  rw [getD_get hi]
  exact this
theorem set_perm {l m : List Ho} (h : l.Perm m) {i j : Nat} (hi : i < l.length) (hj : j < m.length) (he : l.getD i z5 = m.getD j z5) (y : Ho) : (l.set i y).Perm (m.set j y) := by
  have h1 := ((perm_cons_erase hi).symm.trans h).trans (perm_cons_erase hj)
  rw [he] at h1
  exact (set_perm_cons hi y).trans (((List.perm_cons _).1 h1 |>.cons y).trans (set_perm_cons hj y).symm)
theorem set_rises {l : List Ho} {i : Nat} (hl : l.Pairwise AH) (hi : i < l.length) {y : Ho} (hy : SN y (l.getD i z5)) : (l.set i y).Pairwise AH := by
  have hn : ∀ j (hj : j < l.length), ((l.set i y)[j]'(by simpa using hj)).r = l[j].r ∧ ((l.set i y)[j]'(by simpa using hj)).n = l[j].n := fun j hj => by
    rw [List.getElem_set]
    split
    · rename_i e; subst e
      rw [getD_get hi] at hy
      exact hy
    · exact ⟨rfl, rfl⟩
  rw [List.pairwise_iff_getElem] at *
  intro p q hp hq hpq
  simp only [List.length_set] at hp hq
  have := hl p q hp hq hpq
  unfold AH at *
  rw [(hn p hp).1, (hn p hp).2, (hn q hq).1, (hn q hq).2]
  exact this
/-- The document's own way: one that is not there goes to its place. -/
theorem isort_insert {L : List Ho} {h : Ho} (hL : Apart L) (hn : ∀ x ∈ L, ¬ SN x h) : insH (isort L) h = isort (L ++ [h]) := by
  have ha : Apart (L ++ [h]) := by
    unfold Apart
    rw [List.pairwise_append]
    refine ⟨hL, by simp, fun x hx y hy => ?_⟩
    rw [List.mem_singleton] at hy
    subst hy
    exact hn x hx
  refine (isort_eq ha (insH_rises (isort_rises hL) fun x hx => hn x ((isort_perm L).mem_iff.1 hx)) fun x => ?_).symm
  rw [mem_insH, (isort_perm L).mem_iff, List.mem_append, List.mem_singleton]
  exact Or.comm
/-- One that is there is changed where it is. -/
theorem isort_set {L : List Ho} {i j : Nat} {y : Ho} (hL : Apart L) (hi : i < (isort L).length) (hj : j < L.length) (he : (isort L).getD i z5 = L.getD j z5) (hy : SN y (L.getD j z5)) : (isort L).set i y = isort (L.set j y) := by
  have hp := set_perm (isort_perm L) hi hj he y
  have hr := set_rises (isort_rises hL) hi (y := y) (by rw [he]; exact hy)
  have ha : Apart (L.set j y) := hp.pairwise (Apart.of_rises hr) (fun {a b} h hs => h hs.symm)
  exact (isort_eq ha hr fun x => hp.mem_iff.symm).symm
end Go.Proofs.YtofngihdnjgmeaaGreat

namespace Go.Proofs.YtofngihdnjgmeaaGreat
set_option maxRecDepth 100000
open Go.ChangeShapes Go.WideShapes Go.ChangeAt Go.RowKit

theorem join_anyK (a b : Lk) (w : World) :
    Calls Tryz.prog 50 #[.agg (vals a.l).toArray, .agg (vals b.l).toArray] w fun e w' => e = .returned (.agg (vals (joinK a b).l).toArray) ∧ Below w.heap.size w w' := by
  have HK := Lib.hid (KeepR.start w)
  have hcp := compare_any b a
  by_cases h : 0 < cmpL b a
  · rw [show joinK a b = b from if_pos h]
    generalize cmpL b a = c at hcp h
    go_enter Tryz.func50, Tryz.ntmps50
    go_wp2_with (first
      | (with_reducible refine box_new (R := a.l) HK.out rfl _ rfl rfl ?_; intro ba u hk hb; clear hb; clear HK; have HK := Lib.hid hk; clear hk)
      | (with_reducible refine box_new (R := b.l) HK.out rfl _ rfl rfl ?_; intro bb u hk hb; clear hb; clear HK; have HK := Lib.hid hk; clear hk)
      | (with_reducible refine alloc_zero HK.out 4 lk_zero rfl rfl ?_; intro b u hn hk hb; clear hn; clear hb; clear HK; have HK := Lib.hid hk; clear hk)
      | (with_reducible refine load_all HK.out 2 4 Tryz.underlying30 rfl lk_info rfl _ rfl rfl rfl (Lk.len _) ?_)
      | (with_reducible refine load_all HK.out 1 4 Tryz.underlying30 rfl lk_info rfl _ rfl rfl rfl (Lk.len _) ?_)
      | (go_at_call 98; (with_reducible refine (hcp _).mono ?_); rintro e u ⟨rfl, hb⟩; have hk := HK.out.call hb; clear hb; clear HK; have HK := Lib.hid hk; clear hk)
      | (with_reducible refine store_all HK.out 0 4 lk_info rfl rfl _ _ rfl rfl rfl rfl (Lk.len _) (zer_length 4) ?_; intro u hk hs; clear hs; simp only [List.set_cons_zero] at hk; clear HK; have HK := Lib.hid hk; clear hk))
    exact bodyPost_ret (results_r rfl Tryz.underlying30 rfl lk_info _ HK.out 0 rfl rfl (Lk.len _)) rfl ⟨rfl, HK.out.bel⟩
  · rw [show joinK a b = a from if_neg h]
    generalize cmpL b a = c at hcp h
    go_enter Tryz.func50, Tryz.ntmps50
    go_wp2_with (first
      | (with_reducible refine box_new (R := a.l) HK.out rfl _ rfl rfl ?_; intro ba u hk hb; clear hb; clear HK; have HK := Lib.hid hk; clear hk)
      | (with_reducible refine box_new (R := b.l) HK.out rfl _ rfl rfl ?_; intro bb u hk hb; clear hb; clear HK; have HK := Lib.hid hk; clear hk)
      | (with_reducible refine alloc_zero HK.out 4 lk_zero rfl rfl ?_; intro b u hn hk hb; clear hn; clear hb; clear HK; have HK := Lib.hid hk; clear hk)
      | (with_reducible refine load_all HK.out 2 4 Tryz.underlying30 rfl lk_info rfl _ rfl rfl rfl (Lk.len _) ?_)
      | (with_reducible refine load_all HK.out 1 4 Tryz.underlying30 rfl lk_info rfl _ rfl rfl rfl (Lk.len _) ?_)
      | (go_at_call 98; (with_reducible refine (hcp _).mono ?_); rintro e u ⟨rfl, hb⟩; have hk := HK.out.call hb; clear hb; clear HK; have HK := Lib.hid hk; clear hk)
      | (with_reducible refine store_all HK.out 0 4 lk_info rfl rfl _ _ rfl rfl rfl rfl (Lk.len _) (zer_length 4) ?_; intro u hk hs; clear hs; simp only [List.set_cons_zero] at hk; clear HK; have HK := Lib.hid hk; clear hk))
    exact bodyPost_ret (results_r rfl Tryz.underlying30 rfl lk_info _ HK.out 0 rfl rfl (Lk.len _)) rfl ⟨rfl, HK.out.bel⟩
end Go.Proofs.YtofngihdnjgmeaaGreat
