/- usufructlaw10.WireCuts returns true for every input: bytes whose end is missing tell that, and bytes behind the end tell that. No condition. -/
import Derived.Test.YtofngihdnjgmeaaGreatY01
import Derived.Test.YtofngihdnjgmeaaGreatY02
import Derived.Test.YtofngihdnjgmeaaGreatY04
import Derived.Test.YtofngihdnjgmeaaGreatY07
import Derived.Test.YtofngihdnjgmeaaGreatY08
import Derived.Test.YtofngihdnjgmeaaGreatY09
import Derived.Test.YtofngihdnjgmeaaGreatY11
import Derived.Test.YtofngihdnjgmeaaGreatY12
import Derived.Test.YtofngihdnjgmeaaGreatY17
import Derived.Test.YtofngihdnjgmeaaGreatY18
import Derived.Test.YtofngihdnjgmeaaGreatY21
import Derived.Test.YtofngihdnjgmeaaGreatY22A
import Derived.Test.YtofngihdnjgmeaaGreatY23
import Derived.Test.YtofngihdnjgmeaaGreatY24
import Derived.Test.YtofngihdnjgmeaaGreatY25
import Derived.Test.YtofngihdnjgmeaaGreatY26
import Derived.Test.YtofngihdnjgmeaaGreatY32
import Derived.Test.YtofngihdnjgmeaaGreatY35
import Derived.Test.YtofngihdnjgmeaaGreatY37
import Derived.WalkKit
import Derived.ProofKit
import Derived.OpenShut
import Derived.ChangeOld
import Derived.Below
import Derived.Lib.Hide
import Derived.Deep.RegionHeld3
import Derived.Deep.MidRow
import Derived.Deep.QuietTactic
import Derived.BigQuiet
import Derived.Laws.StructEq
import Derived.Laws.OwnMore
import Derived.Maps.AppendAt
import Derived.OwnWalk
import Derived.Deep.Slices
import Derived.ChangeSlices
import Derived.Laws.AppendOwn
import Derived.WalkMore
import Derived.LoopTactic
import Derived.Defers
import Derived.Recover
import Derived.WalkSmall
import Derived.Lib.AppendZeros
import Derived.Deep.OwnRows
import Derived.Lib.SliceRun
import Derived.Shelf.SlSortCmp.WholeK
import Derived.Shelf.SlSortCmp.NoneTotal
import Derived.Laws.Cover3
import Derived.Lib.AppendStr
import Derived.Laws.IdiomStrings
import Derived.ShutString
import Derived.Maps.OwnSet
import Derived.Maps.Views
namespace Go.Proofs.YtofngihdnjgmeaaGreat.wireCuts
open Go.ChangeShapes Go.WideShapes Go.ChangeAt Go.RowKit
set_option linter.unusedVariables false

theorem own : ownKnob Tryz.prog.godebug = none := by kernel_rfl
theorem laidOut : laidOutB Tryz.prog = true := by kernel_rfl

set_option maxRecDepth 100000 in
set_option maxHeartbeats 4000000 in
theorem walk (w : World) (a0 : Int) (w0 : (Lit.int .i64 a0).wf = true) (p1 : Pf) (A1 : Option Addr) (c1 : Nat) (hp1 : p1.full) (hd1 : Came w A1 p1.hs.length p1.hs) (hc1 : p1.hs.length ≤ c1) (hw1 : ∀ z ∈ p1.C, (Lit.int .i64 z).wf = true) (a2 : Int) (w2 : (Lit.int .i64 a2).wf = true) (A3 : Option Addr) (n3 c3 : Nat) (l3 : List UInt8) (hl3 : l3.length = n3) (hc3 : n3 ≤ c3) (hd3 : oct.Bys w A3 l3) :
    Calls Tryz.prog 7 #[.int .i64 a0, .agg (p1.fd A1 c1).cells.toArray, .int .i64 a2, .slice A3 n3 c3] w fun e w' => e = .returned (.bool true) ∧ Below w.heap.size w w' := by
  have HK0 := KeepF.start (w := w) (rows := []) (by simp)
  cases hfew : fewP p1 with
  | false =>
    have HFEW := Lib.hid hfew
    have HF := Lib.hid hp1; clear hp1
    have HK := Lib.hid HK0
    clear hd1 HK0
    go_enter Tryz.func7, Tryz.ntmps7
    go_wp2_with (first
      | (with_reducible refine box_f HK.out rfl _ rfl rfl ?_; intro b1 u hk; clear HK; have HK := Lib.hid hk; clear hk)
      | (with_reducible refine load_fr HK.out 0 Tryz.underlying33 rfl (Pf.infoF HF.out) _ rfl rfl rfl rfl Pf.all ?_)
      | (with_reducible refine build_f1 HK.out rfl _ rfl HF.out rfl ?_; intro b2 u hk; clear HK; have HK := Lib.hid hk; clear hk)
      | (go_at_call 8; (with_reducible refine (few_f p1 HF.out A1 c1 _ _ HFEW.out _ (HK.out.get 0 rfl)).mono ?_); rintro e u ⟨rfl, hb⟩; have hk := HK.out.call hb; clear hb; clear HK; have HK := Lib.hid hk; clear hk)
      | (go_at_call 9; (with_reducible refine (awake_any _).mono ?_); rintro e u ⟨rfl, hb⟩; have hk := HK.out.call hb; clear hb; clear HK; have HK := Lib.hid hk; clear hk))
    go_ret
    exact ⟨rfl, HK.out.bel⟩
  | true =>
    obtain ⟨z1, z2⟩ := few_parts hfew
    have hrow := hd1.row (by omega)
    have HFEW := Lib.hid hfew
    have HF := Lib.hid hp1
    have HZ := Lib.hid zP_full
    clear HK0
    have HK := Lib.hid (KeepF.start (w := w) (rows := [(A1, p1.hs.length, p1.hs)]) (by simpa using hrow))
    have hen := fun w h => encode_any a0 w0 p1 hp1 z1 A1 c1 w h
    by_cases g1 : n3 < 1
    · have i1 : (n3 : Int) < 1 := by omega
      go_enter Tryz.func7, Tryz.ntmps7
      go_wp2_with (first
        | (with_reducible refine box_f HK.out rfl _ rfl rfl ?_; intro b1 u hk; clear HK; have HK := Lib.hid hk; clear hk)
        | (with_reducible refine load_fr HK.out 0 Tryz.underlying33 rfl (Pf.infoF HF.out) _ rfl rfl rfl rfl Pf.all ?_)
        | (with_reducible refine build_f1 HK.out rfl _ rfl HF.out rfl ?_; intro b2 u hk; clear HK; have HK := Lib.hid hk; clear hk)
        | (go_at_call 8; (with_reducible refine (few_f p1 HF.out A1 c1 _ _ HFEW.out _ (HK.out.get 0 rfl)).mono ?_); rintro e u ⟨rfl, hb⟩; have hk := HK.out.call hb; clear hb; clear HK; have HK := Lib.hid hk; clear hk)
        | (go_at_call 9; (with_reducible refine (awake_any _).mono ?_); rintro e u ⟨rfl, hb⟩; have hk := HK.out.call hb; clear hb; clear HK; have HK := Lib.hid hk; clear hk))
      go_ret
      exact ⟨rfl, HK.out.bel⟩
    have i1 : ¬ (n3 : Int) < 1 := by omega
    by_cases g2 : 20 < n3
    · have i2 : (20 : Int) < (n3 : Int) := by omega
      go_enter Tryz.func7, Tryz.ntmps7
      go_wp2_with (first
        | (with_reducible refine box_f HK.out rfl _ rfl rfl ?_; intro b1 u hk; clear HK; have HK := Lib.hid hk; clear hk)
        | (with_reducible refine load_fr HK.out 0 Tryz.underlying33 rfl (Pf.infoF HF.out) _ rfl rfl rfl rfl Pf.all ?_)
        | (with_reducible refine build_f1 HK.out rfl _ rfl HF.out rfl ?_; intro b2 u hk; clear HK; have HK := Lib.hid hk; clear hk)
        | (go_at_call 8; (with_reducible refine (few_f p1 HF.out A1 c1 _ _ HFEW.out _ (HK.out.get 0 rfl)).mono ?_); rintro e u ⟨rfl, hb⟩; have hk := HK.out.call hb; clear hb; clear HK; have HK := Lib.hid hk; clear hk)
        | (go_at_call 9; (with_reducible refine (awake_any _).mono ?_); rintro e u ⟨rfl, hb⟩; have hk := HK.out.call hb; clear hb; clear HK; have HK := Lib.hid hk; clear hk))
      go_ret
      exact ⟨rfl, HK.out.bel⟩
    have i2 : ¬ (20 : Int) < (n3 : Int) := by omega
    by_cases hE : encE a0 p1 = 0
    · have e1 := enc_wire hp1 hE
      have es := enc_says hE
      have hM := encB_len (v := a0) hp1
      rw [hE, e1] at hen
      rw [e1] at hM
      obtain ⟨k9, hk9⟩ : ∃ k9, ([] ++ wireR a0 p1 ++ l3).length = k9 := ⟨_, rfl⟩
      have hde2 := fun A c u h => decode_any A k9 c ([] ++ wireR a0 p1 ++ l3) hk9 (by rw [← hk9, List.nil_append, List.length_append]; omega) u h
      obtain ⟨d1, d2, d3⟩ := dc_more hp1 es (r := l3) (by rintro rfl; simp at hl3; omega)
      rw [show dcErr ([] ++ wireR a0 p1 ++ l3) = 5 from d1, show dcV ([] ++ wireR a0 p1 ++ l3) = 0 from d2, show dcG ([] ++ wireR a0 p1 ++ l3) = zP from d3] at hde2
      by_cases k0 : a2 < 0
      · clear hde2 d1 d2 d3 es e1
        go_enter Tryz.func7, Tryz.ntmps7
        go_wp2_with (first
          | (with_reducible refine box_f HK.out rfl _ rfl rfl ?_; intro b1 u hk; clear HK; have HK := Lib.hid hk; clear hk)
          | (with_reducible refine load_fr HK.out 0 Tryz.underlying33 rfl (Pf.infoF HF.out) _ rfl rfl rfl rfl Pf.all ?_)
          | (with_reducible refine build_f1 HK.out rfl _ rfl HF.out rfl ?_; intro b2 u hk; clear HK; have HK := Lib.hid hk; clear hk)
          | (go_at_call 8; (with_reducible refine (few_f p1 HF.out A1 c1 _ _ HFEW.out _ (HK.out.get 0 rfl)).mono ?_); rintro e u ⟨rfl, hb⟩; have hk := HK.out.call hb; clear hb; clear HK; have HK := Lib.hid hk; clear hk)
          | (with_reducible refine load_fr HK.out 1 Tryz.underlying33 rfl (Pf.infoF HF.out) _ rfl rfl rfl rfl Pf.all ?_)
          | (go_at_call 10; (with_reducible refine (hen _ (HK.out.rowAt 0 rfl)).mono ?_); rintro e u ⟨A5, c5, rfl, hcap, hy, hb⟩; have HY5 := Lib.hid hy; have hk := HK.out.call hb; clear hb hy; clear HK; have HK := Lib.hid hk; clear hk)
          | (go_at_call 9; (with_reducible refine (awake_any _).mono ?_); rintro e u ⟨rfl, hb⟩; have hk := HK.out.call hb; clear hb; clear HK; have HK := Lib.hid hk; clear hk))
        go_ret
        exact ⟨rfl, HK.out.bel⟩
      obtain ⟨K, rfl⟩ : ∃ K : Nat, a2 = (K : Int) := ⟨a2.toNat, by omega⟩
      by_cases k1 : K < (wireR a0 p1).length
      · have hde1 := fun A c u h => decode_any A K c ((wireR a0 p1).take K) (by rw [List.length_take]; omega) (by omega) u h
        have d4 := dc_cut hp1 es k1
        rw [show dcV ((wireR a0 p1).take K) = 0 by rw [dcV, d4]; rfl, show dcG ((wireR a0 p1).take K) = zP by rw [dcG, d4]; rfl, d4] at hde1
        have hsl : ∀ (A : Option Addr) (c : Nat), (wireR a0 p1).length ≤ c → ∀ W : World, (Instr.slice 36 (.slice A (wireR a0 p1).length c) none (some (.int .i64 (K : Int))) none).run Tryz.prog W = .ok (.slice A K c) W := fun A c h W => by
          have := oct.slice_high A (wireR a0 p1).length c K (by omega) W
          rw [oct.high0] at this
          exact this
        clear d1 d2 d3 d4 es e1 hfew hrow hd1 hE
        generalize wireR a0 p1 = M at *
        have HM := Lib.hid hM
        have hk1 : (K : Int) < (M.length : Int) := by omega
        go_enter Tryz.func7, Tryz.ntmps7
        go_wp2_with (first
          | (with_reducible refine box_f HK.out rfl _ rfl rfl ?_; intro b1 u hk; clear HK; have HK := Lib.hid hk; clear hk)
          | (with_reducible refine load_fr HK.out 0 Tryz.underlying33 rfl (Pf.infoF HF.out) _ rfl rfl rfl rfl Pf.all ?_)
          | (with_reducible refine build_f1 HK.out rfl _ rfl HF.out rfl ?_; intro b2 u hk; clear HK; have HK := Lib.hid hk; clear hk)
          | (go_at_call 8; (with_reducible refine (few_f p1 HF.out A1 c1 _ _ HFEW.out _ (HK.out.get 0 rfl)).mono ?_); rintro e u ⟨rfl, hb⟩; have hk := HK.out.call hb; clear hb; clear HK; have HK := Lib.hid hk; clear hk)
          | (with_reducible refine load_fr HK.out 1 Tryz.underlying33 rfl (Pf.infoF HF.out) _ rfl rfl rfl rfl Pf.all ?_)
          | (go_at_call 10; (with_reducible refine (hen _ (HK.out.rowAt 0 rfl)).mono ?_); rintro e u ⟨A5, c5, rfl, hcap, hy, hb⟩; have HY5 := Lib.hid hy; have hk := HK.out.call hb; have hs := hsl A5 c5 hcap; clear hb hy; clear HK; have HK := Lib.hid hk; clear hk)
          | (go_at_call 14; (with_reducible refine (hde1 _ _ _ (HY5.out.take K)).mono ?_); rintro e u1 ⟨A7, c7, rfl, _, _, hb⟩; have hy := HY5.out.below hb; have hw := HK.out.bel.trans (hb.mono HK.out.bel.size); clear HY5 HK; have HY := Lib.hid hy; have HW := Lib.hid hw; have HB := Lib.hid (Below.refl u1.heap.size u1); clear hb hy hw)
          | (with_reducible refine alloc_cel f_zeroP rfl rfl ?_; intro b8 u hn hb hc; have hn8 := Nat.le_trans HB.out.size hn; have hb2 := HB.out.trans (hb.mono HB.out.size); clear HB; have HB := Lib.hid hb2; have H8 := Lib.hid hc; have N8 := Lib.hid hn8; clear hn hb hc hn8 hb2)
          | (with_reducible refine store_cel H8.out (Pf.infoF HZ.out) (Fd.one _) (by rw [Pf.len HZ.out, Pf.len HZ.out]) (Fd.setAllP HZ.out HZ.out) rfl rfl _ _ rfl rfl rfl ?_; intro u h1 _ h3; have hb := h1 _ _ N8.out HB.out; clear HB H8 N8 h1 h3; have HB := Lib.hid hb; clear hb)
          | (with_reducible refine oct.build_none HB.out rfl rfl ?_; intro v9 u hko _; clear HB; have HO := Lib.hid hko; clear hko)
          | (with_reducible refine oct.app_more HO.out (HY.out.below HO.out.bel) rfl rfl _ _ rfl rfl rfl (by have := HM.out; rw [List.length_nil]; omega) ?_; intro v10 u hko; clear HO HY; have HO := Lib.hid hko; clear hko)
          | (with_reducible refine oct.app_more HO.out (hd3.below (HW.out.trans (HO.out.bel.mono HW.out.size))) hl3 rfl _ _ rfl rfl rfl (by have := HM.out; rw [List.nil_append]; omega) ?_; intro v11 u hko; obtain ⟨A9, c9, e9, _⟩ := hko.own.slice; rw [hk9] at e9; subst e9; have hy := hko.own.bys; have hb := hko.bel; clear HO; have HB := Lib.hid hb; have HY9 := Lib.hid hy; clear hko hb hy)
          | (go_at_call 14; (with_reducible refine (hde2 _ _ _ HY9.out).mono ?_); rintro e u ⟨A12, c12, rfl, _, _, hb⟩; have hb2 := HB.out.trans (hb.mono HB.out.size); clear HB HY9; have HB := Lib.hid hb2; clear hb hb2)
          | (go_at_call 9; (with_reducible refine (awake_any _).mono ?_); rintro e u ⟨rfl, hb⟩; have hb2 := HB.out.trans (hb.mono HB.out.size); clear HB; have HB := Lib.hid hb2; clear hb2 hb))
        go_ret
        exact ⟨rfl, HW.out.trans (HB.out.mono HW.out.size)⟩
      · have hk1 : (((wireR a0 p1).length : Nat) : Int) ≤ (K : Int) := by omega
        clear hde2 d1 d2 d3 es e1
        generalize wireR a0 p1 = M at *
        go_enter Tryz.func7, Tryz.ntmps7
        go_wp2_with (first
          | (with_reducible refine box_f HK.out rfl _ rfl rfl ?_; intro b1 u hk; clear HK; have HK := Lib.hid hk; clear hk)
          | (with_reducible refine load_fr HK.out 0 Tryz.underlying33 rfl (Pf.infoF HF.out) _ rfl rfl rfl rfl Pf.all ?_)
          | (with_reducible refine build_f1 HK.out rfl _ rfl HF.out rfl ?_; intro b2 u hk; clear HK; have HK := Lib.hid hk; clear hk)
          | (go_at_call 8; (with_reducible refine (few_f p1 HF.out A1 c1 _ _ HFEW.out _ (HK.out.get 0 rfl)).mono ?_); rintro e u ⟨rfl, hb⟩; have hk := HK.out.call hb; clear hb; clear HK; have HK := Lib.hid hk; clear hk)
          | (with_reducible refine load_fr HK.out 1 Tryz.underlying33 rfl (Pf.infoF HF.out) _ rfl rfl rfl rfl Pf.all ?_)
          | (go_at_call 10; (with_reducible refine (hen _ (HK.out.rowAt 0 rfl)).mono ?_); rintro e u ⟨A5, c5, rfl, hcap, hy, hb⟩; have HY5 := Lib.hid hy; have hk := HK.out.call hb; clear hb hy; clear HK; have HK := Lib.hid hk; clear hk)
          | (go_at_call 9; (with_reducible refine (awake_any _).mono ?_); rintro e u ⟨rfl, hb⟩; have hk := HK.out.call hb; clear hb; clear HK; have HK := Lib.hid hk; clear hk))
        go_ret
        exact ⟨rfl, HK.out.bel⟩
    · have e1 : encB a0 p1 = [] := by rw [encB, if_neg hE]
      rw [e1] at hen
      have hne : (encE a0 p1 != 0) = true := by simp [hE]
      have hne2 : (encE a0 p1 == 0) = false := by simp [hE]
      clear hrow hd1 hfew z1 z2 hp1 e1 hE
      generalize encE a0 p1 = E at *
      go_enter Tryz.func7, Tryz.ntmps7
      go_wp2_with (first
        | (with_reducible refine box_f HK.out rfl _ rfl rfl ?_; intro b1 u hk; clear HK; have HK := Lib.hid hk; clear hk)
        | (with_reducible refine load_fr HK.out 0 Tryz.underlying33 rfl (Pf.infoF HF.out) _ rfl rfl rfl rfl Pf.all ?_)
        | (with_reducible refine build_f1 HK.out rfl _ rfl HF.out rfl ?_; intro b2 u hk; clear HK; have HK := Lib.hid hk; clear hk)
        | (go_at_call 8; (with_reducible refine (few_f p1 HF.out A1 c1 _ _ HFEW.out _ (HK.out.get 0 rfl)).mono ?_); rintro e u ⟨rfl, hb⟩; have hk := HK.out.call hb; clear hb; clear HK; have HK := Lib.hid hk; clear hk)
        | (with_reducible refine load_fr HK.out 1 Tryz.underlying33 rfl (Pf.infoF HF.out) _ rfl rfl rfl rfl Pf.all ?_)
        | (go_at_call 10; (with_reducible refine (hen _ (HK.out.rowAt 0 rfl)).mono ?_); rintro e u ⟨A5, c5, rfl, hcap, hy, hb⟩; have HY5 := Lib.hid hy; have hk := HK.out.call hb; clear hb hy; clear HK; have HK := Lib.hid hk; clear hk)
        | (go_at_call 9; (with_reducible refine (awake_any _).mono ?_); rintro e u ⟨rfl, hb⟩; have hk := HK.out.call hb; clear hb; clear HK; have HK := Lib.hid hk; clear hk))
      go_ret
      exact ⟨rfl, HK.out.bel⟩

set_option maxRecDepth 100000 in
theorem lifted (os : Os) (started : os.Started) (H : Type) (enc : TypeId × Value → H) :
    ReturnsInHanded {} Tryz.checked os 7 .any (Rows.wireCutsSpec.pre6 enc Tryz.prog Tryz.f7 Rows.wireCutsRow.domain false) (Rows.wireCutsSpec.post enc Tryz.prog Tryz.f7 false true false false) := by
  refine returnsInHanded_of_change (C := Tryz.checked) own started (by kernel_rfl) Tryz.func7
    (ChangeSpec.witness6 (enc := enc) (C := Tryz.checked) false ⟨#[], #[.int .i64 0, .agg (zP.fd none 0).cells.toArray, .int .i64 0, .slice none 0 0], []⟩ 12 (by kernel_rfl) (by kernel_rfl) (by kernel_rfl) (by kernel_rfl)) ?_
  intro W base args ds gs before hval0 hW hcnd _
  have hval : ∀ (j : Nat) t v, Tryz.f7.params[j]? = some t → args[j]? = some v → Value.okWide Tryz.prog W .any base t v := hval0
  have hW' := hW
  obtain ⟨p, q, hA0, hV, rfl, hfz, hnd⟩ := hW
  have hA : DataW.TrodAll enc Tryz.prog W 0 (fun _ => true) true Tryz.f7.params.toList args.toList ds p := hA0
  rw [Tryz.params7] at hA hval
  obtain ⟨v0, vs0, d0, ds0, q0, r0, hargs, rfl, rfl, h0, t0⟩ := trodAll_cons hA
  obtain ⟨v1, vs1, d1, ds1, q1, r1, rfl, rfl, rfl, h1, t1⟩ := trodAll_cons t0
  obtain ⟨v2, vs2, d2, ds2, q2, r2, rfl, rfl, rfl, h2, t2⟩ := trodAll_cons t1
  obtain ⟨v3, vs3, d3, ds3, q3, r3, rfl, rfl, rfl, h3, t3⟩ := trodAll_cons t2
  obtain ⟨rfl, rfl, rfl⟩ := trodAll_nil t3
  obtain rfl : args = #[v0, v1, v2, v3] := by cases args; simp_all
  obtain ⟨rfl, rfl⟩ := trodVars_none hV
  have k0 := h0
  have lt0 : ∀ x ∈ q0, x.block < W.heap.size := by obtain ⟨m, hm⟩ := k0; exact DataW.trod_lt m _ _ _ hm
  obtain ⟨a0, rfl, rfl, rfl, w0⟩ := open_int Tryz.underlying3 (hval 0 3 v0 rfl rfl) h0
  have k1 := h1
  have lt1 : ∀ x ∈ q1, x.block < W.heap.size := by obtain ⟨m, hm⟩ := k1; exact DataW.trod_lt m _ _ _ hm
  obtain ⟨p1, A1, c1, rfl, hp1, hd1, hc1, hw1⟩ := open_f (hval 1 33 v1 rfl rfl) h1
  have k2 := h2
  have lt2 : ∀ x ∈ q2, x.block < W.heap.size := by obtain ⟨m, hm⟩ := k2; exact DataW.trod_lt m _ _ _ hm
  obtain ⟨a2, rfl, rfl, rfl, w2⟩ := open_int Tryz.underlying3 (hval 2 3 v2 rfl rfl) h2
  have k3 := h3
  have lt3 : ∀ x ∈ q3, x.block < W.heap.size := by obtain ⟨m, hm⟩ := k3; exact DataW.trod_lt m _ _ _ hm
  obtain ⟨A3, n3, c3, l3, rfl, hl3, hc3, _, hd3⟩ := oct.open_b (hval 3 36 v3 rfl rfl) h3
  clear hA0 hval0
  refine (walk W a0 w0 p1 A1 c1 hp1 hd1 hc1 hw1 a2 w2 A3 n3 c3 l3 hl3 hc3 hd3).mono fun e W' ⟨he, bel⟩ => ?_
  subst he
  exact ⟨_, rfl, _, _, _, [], _, [], hW', trodAll_mk1 (shut_bool Tryz.underlying4 _), (trodAll_cons_mk (Below.trod laidOut (by kernel_rfl) (of_decide_eq_true (by kernel_rfl)) k0 bel lt0) (trodAll_cons_mk (Below.trod laidOut (by kernel_rfl) (of_decide_eq_true (by kernel_rfl)) k1 bel lt1) (trodAll_cons_mk (Below.trod laidOut (by kernel_rfl) (of_decide_eq_true (by kernel_rfl)) k2 bel lt2) (trodAll_cons_mk (Below.trod laidOut (by kernel_rfl) (of_decide_eq_true (by kernel_rfl)) k3 bel lt3) trodAll_mk0)))), rfl, bel.frame _, fun h => by cases h⟩

theorem over : Rows.wireCutsRow.holds Tryz.pinned (OpenSpec.ofChange Rows.wireCutsSpec) :=
  OpenClaim.holds_of_wide 7 Tryz.f7 rfl rfl rfl rfl rfl rfl rfl ⟨rfl, rfl, rfl, rfl, rfl⟩ rfl rfl rfl rfl rfl (by kernel_rfl) Tryz.func7 (by kernel_rfl)
    (of_decide_eq_true (by kernel_rfl)) (by unfold Func.isWrapper; first | (rw [if_pos (by decide +kernel)]; kernel_rfl) | (rw [if_neg (by decide +kernel)]; exact ⟨rfl, rfl⟩))
    (fun os started H enc _ => lifted os started H enc)

theorem proved : Rows.WireCutsSaid := over
#print axioms proved
end Go.Proofs.YtofngihdnjgmeaaGreat.wireCuts
