/- usufructlaw10.WireOne returns true for every input: bytes that are read are the bytes of what was read; where nothing is read there is no field. No condition. -/
import Derived.Test.YtofngihdnjgmeaaGreatY01
import Derived.Test.YtofngihdnjgmeaaGreatY04
import Derived.Test.YtofngihdnjgmeaaGreatY05
import Derived.Test.YtofngihdnjgmeaaGreatY07
import Derived.Test.YtofngihdnjgmeaaGreatY09
import Derived.Test.YtofngihdnjgmeaaGreatY11
import Derived.Test.YtofngihdnjgmeaaGreatY12
import Derived.Test.YtofngihdnjgmeaaGreatY17
import Derived.Test.YtofngihdnjgmeaaGreatY18
import Derived.Test.YtofngihdnjgmeaaGreatY21
import Derived.Test.YtofngihdnjgmeaaGreatY22A
import Derived.Test.YtofngihdnjgmeaaGreatY25
import Derived.Test.YtofngihdnjgmeaaGreatY27A
import Derived.Test.YtofngihdnjgmeaaGreatY29
import Derived.Test.YtofngihdnjgmeaaGreatY31
import Derived.Test.YtofngihdnjgmeaaGreatY32
import Derived.Test.YtofngihdnjgmeaaGreatY34
import Derived.Test.YtofngihdnjgmeaaGreatY35
import Derived.Test.YtofngihdnjgmeaaGreatY37
import Derived.WalkKit
import Derived.ProofKit
import Derived.OpenShut
import Derived.ChangeOld
import Derived.Below
import Derived.Lib.Hide
import Derived.Deep.RegionHeld3
import Derived.Deep.MidRow
import Derived.Deep.QuietTactic
import Derived.BigQuiet
import Derived.Laws.StructEq
import Derived.Laws.OwnMore
import Derived.Maps.AppendAt
import Derived.OwnWalk
import Derived.Deep.Slices
import Derived.ChangeSlices
import Derived.Laws.AppendOwn
import Derived.WalkMore
import Derived.LoopTactic
import Derived.Defers
import Derived.Recover
import Derived.WalkSmall
import Derived.Lib.AppendZeros
import Derived.Deep.OwnRows
import Derived.Lib.SliceRun
import Derived.Shelf.SlSortCmp.WholeK
import Derived.Shelf.SlSortCmp.NoneTotal
import Derived.Laws.Cover3
import Derived.Lib.AppendStr
import Derived.Laws.IdiomStrings
import Derived.ShutString
import Derived.Maps.OwnSet
import Derived.Maps.Views
namespace Go.Proofs.YtofngihdnjgmeaaGreat.wireOne
open Go.ChangeShapes Go.WideShapes Go.ChangeAt Go.RowKit
set_option linter.unusedVariables false

theorem own : ownKnob Tryz.prog.godebug = none := by kernel_rfl
theorem laidOut : laidOutB Tryz.prog = true := by kernel_rfl

theorem says_enc {v : Int} {p : Pf} (h : saysR v p = true) : encE v p = 0 := by
  obtain ⟨hr, hb⟩ := says_parts h
  have e0 : dnErr v p = 0 := by simp [dnErr, hr, hb]
  rw [encE, if_pos e0, says_eq, if_pos h]

set_option maxRecDepth 100000 in
set_option maxHeartbeats 4000000 in
theorem walk (w : World) (A0 : Option Addr) (n0 c0 : Nat) (l0 : List UInt8) (hl0 : l0.length = n0) (hc0 : n0 ≤ c0) (hd0 : oct.Bys w A0 l0) :
    Calls Tryz.prog 5 #[.slice A0 n0 c0] w fun e w' => e = .returned (.bool true) ∧ Below w.heap.size w w' := by
  have HK := Lib.hid (KeepF.start (w := w) (rows := []) (by simp))
  by_cases h0 : 8000 < n0
  · have i0 : (8000 : Int) < (n0 : Int) := by omega
    go_enter Tryz.func5, Tryz.ntmps5
    go_wp2_with (first
      | (go_at_call 9; (with_reducible refine (awake_any _).mono ?_); rintro e u ⟨rfl, hb⟩; have hk := HK.out.call hb; clear hb; clear HK; have HK := Lib.hid hk; clear hk))
    go_ret
    exact ⟨rfl, HK.out.bel⟩
  · have i0 : ¬ (8000 : Int) < (n0 : Int) := by omega
    have hde := fun w h => decode_any A0 n0 c0 l0 hl0 (by omega) w h
    by_cases hE : dcErr l0 = 0
    · obtain ⟨e1, e2⟩ := dec_back hE
      have hP : (dcG l0).full := by rw [dcG, if_pos hE]; exact ofX_full (dcF_len l0)
      have hN : (dcG l0).nm.size ≤ 100 := by rw [dcG, if_pos hE]; have := dcP_nm l0; omega
      have hre := fun A c w h => renc_any (dcV l0) (dcG l0) hP hN A c w h
      have e3 := says_enc e2
      rw [e3, enc_wire hP e3, ← e1] at hre
      rw [hE] at hde
      have HF := Lib.hid hP
      have HQ := Lib.hid (show ((⟨l0.toArray⟩ : ByteArray).toList == (⟨l0.toArray⟩ : ByteArray).toList) = true by simp)
      clear e1 e2 e3 hN hP hE h0
      generalize dcV l0 = V at hde hre
      generalize dcG l0 = g at hde hre HF
      go_enter Tryz.func5, Tryz.ntmps5
      go_wp2_with (first
        | (go_at_call 14; (with_reducible refine (hde _ (hd0.below HK.out.bel)).mono ?_); rintro e u ⟨A7, c7, rfl, r1, f1, hb⟩; have hk := HK.out.fresh hb r1 f1; clear hb r1 f1; clear HK; have HK := Lib.hid hk; clear hk)
        | (with_reducible refine alloc_f HK.out f_zeroP rfl rfl ?_; intro b8 u hk; clear HK; have HK := Lib.hid hk; clear hk)
        | (with_reducible refine store_fr HK.out 0 (Pf.infoF HF.out) (Fd.one _) rfl rfl _ _ rfl rfl rfl rfl (Fd.leP zP_full HF.out) (Fd.setAllP zP_full HF.out) ?_; intro u hk; simp only [List.set_cons_zero] at hk; clear HK; have HK := Lib.hid hk; clear hk)
        | (with_reducible refine load_fr HK.out 0 Tryz.underlying33 rfl (Pf.infoF HF.out) _ rfl rfl rfl rfl Pf.all ?_)
        | (go_at_call 11; (with_reducible refine (hre _ _ _ (HK.out.rowAt 0 rfl)).mono ?_); rintro e u ⟨A6, c6, rfl, _, hy, hb⟩; have HY6 := Lib.hid hy; have hk := HK.out.call hb; clear hb hy; clear HK; have HK := Lib.hid hk; clear hk)
        | (refine oct.to_str_want (hd0.below HK.out.bel) hl0 _ rfl rfl rfl ?_)
        | (refine oct.to_str_want HY6.out hl0 _ rfl rfl rfl ?_)
        | (refine oct.eq_str_want HQ.out _ _ _ rfl rfl rfl rfl ?_)
        | (go_at_call 9; (with_reducible refine (awake_any _).mono ?_); rintro e u ⟨rfl, hb⟩; have hk := HK.out.call hb; clear hb; clear HK; have HK := Lib.hid hk; clear hk))
      go_ret
      exact ⟨rfl, HK.out.bel⟩
    · rw [show dcV l0 = 0 by rw [dcV, if_neg hE], show dcG l0 = zP by rw [dcG, if_neg hE]] at hde
      have hne : (dcErr l0 != 0) = true := by simp [hE]
      have hne2 : (dcErr l0 == 0) = false := by simp [hE]
      have hsm := fun A c w h1 h2 => rsame_any zP zP_full A none c 0 w h1 h2
      have HF := Lib.hid zP_full
      clear hE h0
      generalize dcErr l0 = E at *
      go_enter Tryz.func5, Tryz.ntmps5
      go_wp2_with (first
        | (go_at_call 14; (with_reducible refine (hde _ (hd0.below HK.out.bel)).mono ?_); rintro e u ⟨A7, c7, rfl, r1, f1, hb⟩; have hk := HK.out.fresh hb r1 f1; clear hb r1 f1; clear HK; have HK := Lib.hid hk; clear hk)
        | (with_reducible refine alloc_f HK.out f_zeroP rfl rfl ?_; intro b8 u hk; clear HK; have HK := Lib.hid hk; clear hk)
        | (with_reducible refine store_fr HK.out 0 (Pf.infoF HF.out) (Fd.one _) rfl rfl _ _ rfl rfl rfl rfl (Fd.leP zP_full HF.out) (Fd.setAllP zP_full HF.out) ?_; intro u hk; simp only [List.set_cons_zero] at hk; clear HK; have HK := Lib.hid hk; clear hk)
        | (with_reducible refine load_fr HK.out 0 Tryz.underlying33 rfl (Pf.infoF HF.out) _ rfl rfl rfl rfl Pf.all ?_)
        | (with_reducible refine build_fw f_buildP rfl rfl ?_)
        | (go_at_call 15; (with_reducible refine (hsm _ _ _ (HK.out.rowAt 0 rfl) (Row.nil _ _)).mono ?_); rintro e u ⟨rfl, hb⟩; have hk := HK.out.call hb; clear hb; clear HK; have HK := Lib.hid hk; clear hk)
        | (go_at_call 9; (with_reducible refine (awake_any _).mono ?_); rintro e u ⟨rfl, hb⟩; have hk := HK.out.call hb; clear hb; clear HK; have HK := Lib.hid hk; clear hk))
      go_ret
      exact ⟨rfl, HK.out.bel⟩

set_option maxRecDepth 100000 in
theorem lifted (os : Os) (started : os.Started) (H : Type) (enc : TypeId × Value → H) :
    ReturnsInHanded {} Tryz.checked os 5 .any (Rows.wireOneSpec.pre6 enc Tryz.prog Tryz.f5 Rows.wireOneRow.domain false) (Rows.wireOneSpec.post enc Tryz.prog Tryz.f5 false true false false) := by
  refine returnsInHanded_of_change (C := Tryz.checked) own started (by kernel_rfl) Tryz.func5
    (ChangeSpec.witness6 (enc := enc) (C := Tryz.checked) false ⟨#[], #[.slice none 0 0], []⟩ 12 (by kernel_rfl) (by kernel_rfl) (by kernel_rfl) (by kernel_rfl)) ?_
  intro W base args ds gs before hval0 hW hcnd _
  have hval : ∀ (j : Nat) t v, Tryz.f5.params[j]? = some t → args[j]? = some v → Value.okWide Tryz.prog W .any base t v := hval0
  have hW' := hW
  obtain ⟨p, q, hA0, hV, rfl, hfz, hnd⟩ := hW
  have hA : DataW.TrodAll enc Tryz.prog W 0 (fun _ => true) true Tryz.f5.params.toList args.toList ds p := hA0
  rw [Tryz.params5] at hA hval
  obtain ⟨v0, vs0, d0, ds0, q0, r0, hargs, rfl, rfl, h0, t0⟩ := trodAll_cons hA
  obtain ⟨rfl, rfl, rfl⟩ := trodAll_nil t0
  obtain rfl : args = #[v0] := by cases args; simp_all
  obtain ⟨rfl, rfl⟩ := trodVars_none hV
  have k0 := h0
  have lt0 : ∀ x ∈ q0, x.block < W.heap.size := by obtain ⟨m, hm⟩ := k0; exact DataW.trod_lt m _ _ _ hm
  obtain ⟨A0, n0, c0, l0, rfl, hl0, hc0, _, hd0⟩ := oct.open_b (hval 0 36 v0 rfl rfl) h0
  clear hA0 hval0
  refine (walk W A0 n0 c0 l0 hl0 hc0 hd0).mono fun e W' ⟨he, bel⟩ => ?_
  subst he
  exact ⟨_, rfl, _, _, _, [], _, [], hW', trodAll_mk1 (shut_bool Tryz.underlying4 _), (trodAll_cons_mk (Below.trod laidOut (by kernel_rfl) (of_decide_eq_true (by kernel_rfl)) k0 bel lt0) trodAll_mk0), rfl, bel.frame _, fun h => by cases h⟩

theorem over : Rows.wireOneRow.holds Tryz.pinned (OpenSpec.ofChange Rows.wireOneSpec) :=
  OpenClaim.holds_of_wide 5 Tryz.f5 rfl rfl rfl rfl rfl rfl rfl ⟨rfl, rfl, rfl, rfl, rfl⟩ rfl rfl rfl rfl rfl (by kernel_rfl) Tryz.func5 (by kernel_rfl)
    (of_decide_eq_true (by kernel_rfl)) (by unfold Func.isWrapper; first | (rw [if_pos (by decide +kernel)]; kernel_rfl) | (rw [if_neg (by decide +kernel)]; exact ⟨rfl, rfl⟩))
    (fun os started H enc _ => lifted os started H enc)

theorem proved : Rows.WireOneSaid := over
#print axioms proved
end Go.Proofs.YtofngihdnjgmeaaGreat.wireOne
