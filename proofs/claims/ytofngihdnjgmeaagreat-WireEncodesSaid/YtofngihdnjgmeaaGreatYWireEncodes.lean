/- usufructlaw10.WireEncodes returns true for every input: the bytes and the error are those that the words make, and what a format says is what the words say. No condition. -/
import Derived.Test.YtofngihdnjgmeaaGreatY01
import Derived.Test.YtofngihdnjgmeaaGreatY02
import Derived.Test.YtofngihdnjgmeaaGreatY04
import Derived.Test.YtofngihdnjgmeaaGreatY07
import Derived.Test.YtofngihdnjgmeaaGreatY08
import Derived.Test.YtofngihdnjgmeaaGreatY09
import Derived.Test.YtofngihdnjgmeaaGreatY11
import Derived.Test.YtofngihdnjgmeaaGreatY12
import Derived.Test.YtofngihdnjgmeaaGreatY13
import Derived.Test.YtofngihdnjgmeaaGreatY18
import Derived.Test.YtofngihdnjgmeaaGreatY21
import Derived.Test.YtofngihdnjgmeaaGreatY22A
import Derived.Test.YtofngihdnjgmeaaGreatY25
import Derived.Test.YtofngihdnjgmeaaGreatY29
import Derived.Test.YtofngihdnjgmeaaGreatY32
import Derived.Test.YtofngihdnjgmeaaGreatY34
import Derived.Test.YtofngihdnjgmeaaGreatY36
import Derived.WalkKit
import Derived.ProofKit
import Derived.OpenShut
import Derived.ChangeOld
import Derived.Below
import Derived.Lib.Hide
import Derived.Deep.RegionHeld3
import Derived.Deep.MidRow
import Derived.Deep.QuietTactic
import Derived.BigQuiet
import Derived.Laws.StructEq
import Derived.Laws.OwnMore
import Derived.Maps.AppendAt
import Derived.OwnWalk
import Derived.Deep.Slices
import Derived.ChangeSlices
import Derived.Laws.AppendOwn
import Derived.WalkMore
import Derived.LoopTactic
import Derived.Defers
import Derived.Recover
import Derived.WalkSmall
import Derived.Lib.AppendZeros
import Derived.Deep.OwnRows
import Derived.Lib.SliceRun
import Derived.Shelf.SlSortCmp.WholeK
import Derived.Shelf.SlSortCmp.NoneTotal
import Derived.Laws.Cover3
import Derived.Lib.AppendStr
import Derived.Laws.IdiomStrings
import Derived.Maps.OwnSet
import Derived.Maps.Views
import Derived.ShutString
namespace Go.Proofs.YtofngihdnjgmeaaGreat.wireEncodes
open Go.ChangeShapes Go.WideShapes Go.ChangeAt Go.RowKit
set_option linter.unusedVariables false

theorem own : ownKnob Tryz.prog.godebug = none := by kernel_rfl
theorem laidOut : laidOutB Tryz.prog = true := by kernel_rfl

set_option maxRecDepth 100000 in
set_option maxHeartbeats 4000000 in
theorem walk (w : World) (a0 : Int) (w0 : (Lit.int .i64 a0).wf = true) (p1 : Pf) (A1 : Option Addr) (c1 : Nat) (hp1 : p1.full) (hd1 : Came w A1 p1.hs.length p1.hs) (hc1 : p1.hs.length ≤ c1) (hw1 : ∀ z ∈ p1.C, (Lit.int .i64 z).wf = true) :
    Calls Tryz.prog 3 #[.int .i64 a0, .agg (p1.fd A1 c1).cells.toArray] w fun e w' => e = .returned (.bool true) ∧ Below w.heap.size w w' := by
  have HK0 := KeepF.start (w := w) (rows := []) (by simp)
  cases hfew : fewP p1 with
  | false =>
    have HFEW := Lib.hid hfew
    have HF := Lib.hid hp1; clear hp1
    have HK := Lib.hid HK0
    clear hd1 HK0
    go_enter Tryz.func3, Tryz.ntmps3
    go_wp2_with (first
      | (with_reducible refine box_f HK.out rfl _ rfl rfl ?_; intro b1 u hk; clear HK; have HK := Lib.hid hk; clear hk)
      | (with_reducible refine load_fr HK.out 0 Tryz.underlying33 rfl (Pf.infoF HF.out) _ rfl rfl rfl rfl Pf.all ?_)
      | (with_reducible refine build_f1 HK.out rfl _ rfl HF.out rfl ?_; intro b2 u hk; clear HK; have HK := Lib.hid hk; clear hk)
      | (go_at_call 8; (with_reducible refine (few_f p1 HF.out A1 c1 _ _ HFEW.out _ (HK.out.get 0 rfl)).mono ?_); rintro e u ⟨rfl, hb⟩; have hk := HK.out.call hb; clear hb; clear HK; have HK := Lib.hid hk; clear hk)
      | (go_at_call 9; (with_reducible refine (awake_any _).mono ?_); rintro e u ⟨rfl, hb⟩; have hk := HK.out.call hb; clear hb; clear HK; have HK := Lib.hid hk; clear hk))
    go_ret
    exact ⟨rfl, HK.out.bel⟩
  | true =>
    obtain ⟨z1, z2⟩ := few_parts hfew
    have hrow := hd1.row (by omega)
    have HFEW := Lib.hid hfew
    have HF := Lib.hid hp1
    clear HK0
    have HK := Lib.hid (KeepF.start (w := w) (rows := [(A1, p1.hs.length, p1.hs)]) (by simpa using hrow))
    have hN : p1.nm.size ≤ 1000 := by omega
    have hen := fun w h => encode_any a0 w0 p1 hp1 z1 A1 c1 w h
    have hre := fun w h => renc_any a0 p1 hp1 z1 A1 c1 w h
    have hsp := fun w h => says_any a0 w0 p1 hp1 hN A1 c1 (saysR a0 p1) (says_eq a0 p1) w h
    have hsr := fun w h => rsays_any a0 p1 hp1 hN A1 c1 (saysR a0 p1) rfl w h
    generalize encB a0 p1 = M at hen hre
    generalize encE a0 p1 = E at hen hre
    generalize saysR a0 p1 = r at hsp hsr
    clear hrow hd1 hfew z1 z2 hN hp1
    have HQ := Lib.hid (show ((⟨M.toArray⟩ : ByteArray).toList == (⟨M.toArray⟩ : ByteArray).toList) = true by simp)
    have HE := Lib.hid (show (E == E) = true by simp)
    have HRR := Lib.hid (show (r == r) = true by simp)
    go_enter Tryz.func3, Tryz.ntmps3
    go_wp2_with (first
      | (with_reducible refine box_f HK.out rfl _ rfl rfl ?_; intro b1 u hk; clear HK; have HK := Lib.hid hk; clear hk)
      | (with_reducible refine load_fr HK.out 0 Tryz.underlying33 rfl (Pf.infoF HF.out) _ rfl rfl rfl rfl Pf.all ?_)
      | (with_reducible refine build_f1 HK.out rfl _ rfl HF.out rfl ?_; intro b2 u hk; clear HK; have HK := Lib.hid hk; clear hk)
      | (go_at_call 8; (with_reducible refine (few_f p1 HF.out A1 c1 _ _ HFEW.out _ (HK.out.get 0 rfl)).mono ?_); rintro e u ⟨rfl, hb⟩; have hk := HK.out.call hb; clear hb; clear HK; have HK := Lib.hid hk; clear hk)
      | (with_reducible refine load_fr HK.out 1 Tryz.underlying33 rfl (Pf.infoF HF.out) _ rfl rfl rfl rfl Pf.all ?_)
      | (go_at_call 10; (with_reducible refine (hen _ (HK.out.rowAt 0 rfl)).mono ?_); rintro e u ⟨A5, c5, rfl, _, hy, hb⟩; have HY5 := Lib.hid hy; have hk := HK.out.call hb; clear hb hy; clear HK; have HK := Lib.hid hk; clear hk)
      | (go_at_call 11; (with_reducible refine (hre _ (HK.out.rowAt 0 rfl)).mono ?_); rintro e u ⟨A6, c6, rfl, _, hy, hb⟩; have HY6 := Lib.hid hy; have hy5 := HY5.out.below hb; clear HY5; have HY5 := Lib.hid hy5; have hk := HK.out.call hb; clear hb hy hy5; clear HK; have HK := Lib.hid hk; clear hk))
    refine Draws.start (S := fun u => Cel u b1 33 (p1.fd A1 c1).cells ∧ oct.Bys u A5 M ∧ oct.Bys u A6 M) (n := 23) 23 rfl (by kernel_rfl) ?_
    have hk := HK.out.drew
    clear HK; have HK := Lib.hid hk; clear hk
    have hy5 := HY5.out.drew; have hy6 := HY6.out.drew; clear HY5 HY6; have HY5 := Lib.hid hy5; have HY6 := Lib.hid hy6; clear hy5 hy6
    have HS := Lib.hid (show (fun u => Cel u b1 33 (p1.fd A1 c1).cells ∧ oct.Bys u A5 M ∧ oct.Bys u A6 M) _ from ⟨HK.out.get 1 rfl, HY5.out, HY6.out⟩)
    refine Draws.take 0 (v := ?v1) HS.out rfl (by kernel_rfl) (fun _ _ _ h => h) (Or.inl ⟨rfl, ?h1⟩) ?r1
    case h1 => intro w' hw'; go_simp; (try with_reducible rfl)
    (try simp only [Act.put, List.setIfInBounds_toArray, List.set_cons_zero, List.set_cons_succ])
    refine Draws.take 1 HS.out rfl (by kernel_rfl) (fun _ _ _ h => h) (oct.yield_str (fun _ h => h.2.1) rfl _ rfl rfl rfl) ?_
    (try simp only [Act.put, List.setIfInBounds_toArray, List.set_cons_zero, List.set_cons_succ])
    refine Draws.take 2 (v := ?v2) HS.out rfl (by kernel_rfl) (fun _ _ _ h => h) (Or.inl ⟨rfl, ?h2⟩) ?r2
    case h2 => intro w' hw'; go_simp; (try with_reducible rfl)
    (try simp only [Act.put, List.setIfInBounds_toArray, List.set_cons_zero, List.set_cons_succ])
    refine Draws.take 3 HS.out rfl (by kernel_rfl) (fun _ _ _ h => h) (oct.yield_str (fun _ h => h.2.2) rfl _ rfl rfl rfl) ?_
    (try simp only [Act.put, List.setIfInBounds_toArray, List.set_cons_zero, List.set_cons_succ])
    refine Draws.take 4 HS.out rfl (by kernel_rfl) (fun _ _ _ h => h) (oct.yield_eqs HQ.out _ _ _ rfl rfl rfl rfl) ?_
    (try simp only [Act.put, List.setIfInBounds_toArray, List.set_cons_zero, List.set_cons_succ])
    refine Draws.take 5 (v := ?v3) HS.out rfl (by kernel_rfl) (fun _ _ _ h => h) (Or.inl ⟨rfl, ?h3⟩) ?r3
    case h3 => intro w' hw'; go_simp; (try with_reducible rfl)
    (try simp only [Act.put, List.setIfInBounds_toArray, List.set_cons_zero, List.set_cons_succ])
    refine Draws.take 6 (v := ?v4) HS.out rfl (by kernel_rfl) (fun _ _ _ h => h) (Or.inl ⟨rfl, ?h4⟩) ?r4
    case h4 => intro w' hw'; go_simp; (try with_reducible rfl)
    (try simp only [Act.put, List.setIfInBounds_toArray, List.set_cons_zero, List.set_cons_succ])
    refine Draws.take 7 (v := ?v5) HS.out rfl (by kernel_rfl) (fun _ _ _ h => h) (Or.inl ⟨rfl, ?h5⟩) ?r5
    case h5 => intro w' hw'; go_simp; (try with_reducible rfl)
    (try simp only [Act.put, List.setIfInBounds_toArray, List.set_cons_zero, List.set_cons_succ])
    refine Draws.take 8 (v := ?v6) HS.out rfl (by kernel_rfl) (fun _ _ _ h => h) (Or.inl ⟨rfl, ?h6⟩) ?r6
    case h6 => intro w' hw'; go_simp; (try with_reducible rfl)
    (try simp only [Act.put, List.setIfInBounds_toArray, List.set_cons_zero, List.set_cons_succ])
    refine Draws.take 9 (v := ?v7) HS.out rfl (by kernel_rfl) (fun _ _ _ h => h) (Or.inl ⟨rfl, ?h7⟩) ?r7
    case h7 => intro w' hw'; go_simp; (try with_reducible rfl)
    (try simp only [Act.put, List.setIfInBounds_toArray, List.set_cons_zero, List.set_cons_succ])
    refine Draws.take 10 (v := ?v8) HS.out rfl (by kernel_rfl) (fun _ _ _ h => h) (Or.inl ⟨rfl, ?h8⟩) ?r8
    case h8 => intro w' hw'; go_simp; (try with_reducible rfl)
    (try simp only [Act.put, List.setIfInBounds_toArray, List.set_cons_zero, List.set_cons_succ])
    refine Draws.take 11 (v := ?v9) HS.out rfl (by kernel_rfl) (fun _ _ _ h => h) (Or.inl ⟨rfl, ?h9⟩) ?r9
    case h9 => intro w' hw'; go_simp; (try with_reducible rfl)
    (try simp only [Act.put, List.setIfInBounds_toArray, List.set_cons_zero, List.set_cons_succ])
    refine Draws.take 12 HS.out rfl (by kernel_rfl) (fun _ _ _ h => h) (yield_pt (fun _ h => h.1) Tryz.underlying33 rfl (Pf.infoF HF.out) Pf.all _ rfl rfl rfl) ?_
    (try simp only [Act.put, List.setIfInBounds_toArray, List.set_cons_zero, List.set_cons_succ])
    refine Draws.take 14 (v := ?v10) HS.out rfl (by kernel_rfl) (fun _ _ _ h => h) (Or.inl ⟨rfl, ?h10⟩) ?r10
    case h10 => intro w' hw'; go_simp; (try with_reducible rfl)
    (try simp only [Act.put, List.setIfInBounds_toArray, List.set_cons_zero, List.set_cons_succ])
    refine Draws.take 15 HS.out rfl (by kernel_rfl) (fun _ _ _ h => h) (yield_pt (fun _ h => h.1) Tryz.underlying33 rfl (Pf.infoF HF.out) Pf.all _ rfl rfl rfl) ?_
    (try simp only [Act.put, List.setIfInBounds_toArray, List.set_cons_zero, List.set_cons_succ])
    refine Draws.does 13 rfl (by kernel_rfl) rfl (fun K hK => ?_)
    go_simp
    go_at_call 12
    refine (hsp _ (HK.out.rowAt 0 rfl)).mono ?_
    rintro e u ⟨rfl, hb⟩
    (try dsimp only)
    have hk := HK.out.call hb; have hy5 := HY5.out.below hb; have hy6 := HY6.out.below hb; clear hb HY5 HY6; have HY5 := Lib.hid hy5; have HY6 := Lib.hid hy6; clear hy5 hy6; clear HK; have HK := Lib.hid hk; clear hk
    refine hK.out _ _ (fun _ => ⟨HK.out.get 1 rfl, HY5.out, HY6.out⟩) ?_
    clear hK K
    have hs : (fun u => Cel u b1 33 (p1.fd A1 c1).cells ∧ oct.Bys u A5 M ∧ oct.Bys u A6 M) u := ⟨HK.out.get 1 rfl, HY5.out, HY6.out⟩
    clear HS
    have HS := Lib.hid hs; clear hs
    (try simp only [Act.put, List.setIfInBounds_toArray, List.set_cons_zero, List.set_cons_succ])
    refine Draws.does 16 rfl (by kernel_rfl) rfl (fun K hK => ?_)
    go_simp
    go_at_call 13
    refine (hsr _ (HK.out.rowAt 0 rfl)).mono ?_
    rintro e u ⟨rfl, hb⟩
    (try dsimp only)
    have hk := HK.out.call hb; have hy5 := HY5.out.below hb; have hy6 := HY6.out.below hb; clear hb HY5 HY6; have HY5 := Lib.hid hy5; have HY6 := Lib.hid hy6; clear hy5 hy6; clear HK; have HK := Lib.hid hk; clear hk
    refine hK.out _ _ (fun _ => ⟨HK.out.get 1 rfl, HY5.out, HY6.out⟩) ?_
    clear hK K
    have hs : (fun u => Cel u b1 33 (p1.fd A1 c1).cells ∧ oct.Bys u A5 M ∧ oct.Bys u A6 M) u := ⟨HK.out.get 1 rfl, HY5.out, HY6.out⟩
    clear HS
    have HS := Lib.hid hs; clear hs
    (try simp only [Act.put, List.setIfInBounds_toArray, List.set_cons_zero, List.set_cons_succ])
    refine Draws.take 17 (v := ?v11) HS.out rfl (by kernel_rfl) (fun _ _ _ h => h) (Or.inl ⟨rfl, ?h11⟩) ?r11
    case h11 => intro w' hw'; go_simp; (try with_reducible rfl)
    (try simp only [Act.put, List.setIfInBounds_toArray, List.set_cons_zero, List.set_cons_succ])
    refine Draws.take 18 (v := ?v12) HS.out rfl (by kernel_rfl) (fun _ _ _ h => h) (Or.inl ⟨rfl, ?h12⟩) ?r12
    case h12 => intro w' hw'; go_simp; (try with_reducible rfl)
    (try simp only [Act.put, List.setIfInBounds_toArray, List.set_cons_zero, List.set_cons_succ])
    refine Draws.take 19 (v := ?v13) HS.out rfl (by kernel_rfl) (fun _ _ _ h => h) (Or.inl ⟨rfl, ?h13⟩) ?r13
    case h13 => intro w' hw'; go_simp; (try with_reducible rfl)
    (try simp only [Act.put, List.setIfInBounds_toArray, List.set_cons_zero, List.set_cons_succ])
    refine Draws.does 20 rfl (by kernel_rfl) rfl (fun K hK => ?_)
    go_simp
    go_at_call 9
    refine (awake_any _).mono ?_
    rintro e u ⟨rfl, hb⟩
    (try dsimp only)
    have hk := HK.out.call hb; have hy5 := HY5.out.below hb; have hy6 := HY6.out.below hb; clear hb HY5 HY6; have HY5 := Lib.hid hy5; have HY6 := Lib.hid hy6; clear hy5 hy6; clear HK; have HK := Lib.hid hk; clear hk
    refine hK.out _ _ (fun _ => ⟨HK.out.get 1 rfl, HY5.out, HY6.out⟩) ?_
    clear hK K
    have hs : (fun u => Cel u b1 33 (p1.fd A1 c1).cells ∧ oct.Bys u A5 M ∧ oct.Bys u A6 M) u := ⟨HK.out.get 1 rfl, HY5.out, HY6.out⟩
    clear HS
    have HS := Lib.hid hs; clear hs
    (try simp only [Act.put, List.setIfInBounds_toArray, List.set_cons_zero, List.set_cons_succ])
    refine Draws.take 21 (v := ?v14) HS.out rfl (by kernel_rfl) (fun _ _ _ h => h) (Or.inl ⟨rfl, ?h14⟩) ?r14
    case h14 => intro w' hw'; go_simp; (try with_reducible rfl)
    (try simp only [Act.put, List.setIfInBounds_toArray, List.set_cons_zero, List.set_cons_succ])
    refine Draws.does 22 rfl (by kernel_rfl) rfl (fun K hK => ?_)
    go_simp
    refine hK.out _ _ (fun _ => HS.out) ?_
    clear hK K
    (try simp only [Act.put, List.setIfInBounds_toArray, List.set_cons_zero, List.set_cons_succ])
    refine Draws.done (by kernel_rfl) ?_
    clear HS
    go_wp2_with fail
    go_ret
    exact ⟨rfl, HK.out.bel⟩

set_option maxRecDepth 100000 in
theorem lifted (os : Os) (started : os.Started) (H : Type) (enc : TypeId × Value → H) :
    ReturnsInHanded {} Tryz.checked os 3 .any (Rows.wireEncodesSpec.pre6 enc Tryz.prog Tryz.f3 Rows.wireEncodesRow.domain false) (Rows.wireEncodesSpec.post enc Tryz.prog Tryz.f3 false true false false) := by
  refine returnsInHanded_of_change (C := Tryz.checked) own started (by kernel_rfl) Tryz.func3
    (ChangeSpec.witness6 (enc := enc) (C := Tryz.checked) false ⟨#[], #[.int .i64 0, .agg (zP.fd none 0).cells.toArray], []⟩ 12 (by kernel_rfl) (by kernel_rfl) (by kernel_rfl) (by kernel_rfl)) ?_
  intro W base args ds gs before hval0 hW hcnd _
  have hval : ∀ (j : Nat) t v, Tryz.f3.params[j]? = some t → args[j]? = some v → Value.okWide Tryz.prog W .any base t v := hval0
  have hW' := hW
  obtain ⟨p, q, hA0, hV, rfl, hfz, hnd⟩ := hW
  have hA : DataW.TrodAll enc Tryz.prog W 0 (fun _ => true) true Tryz.f3.params.toList args.toList ds p := hA0
  rw [Tryz.params3] at hA hval
  obtain ⟨v0, vs0, d0, ds0, q0, r0, hargs, rfl, rfl, h0, t0⟩ := trodAll_cons hA
  obtain ⟨v1, vs1, d1, ds1, q1, r1, rfl, rfl, rfl, h1, t1⟩ := trodAll_cons t0
  obtain ⟨rfl, rfl, rfl⟩ := trodAll_nil t1
  obtain rfl : args = #[v0, v1] := by cases args; simp_all
  obtain ⟨rfl, rfl⟩ := trodVars_none hV
  have k0 := h0
  have lt0 : ∀ x ∈ q0, x.block < W.heap.size := by obtain ⟨m, hm⟩ := k0; exact DataW.trod_lt m _ _ _ hm
  obtain ⟨a0, rfl, rfl, rfl, w0⟩ := open_int Tryz.underlying3 (hval 0 3 v0 rfl rfl) h0
  have k1 := h1
  have lt1 : ∀ x ∈ q1, x.block < W.heap.size := by obtain ⟨m, hm⟩ := k1; exact DataW.trod_lt m _ _ _ hm
  obtain ⟨p1, A1, c1, rfl, hp1, hd1, hc1, hw1⟩ := open_f (hval 1 33 v1 rfl rfl) h1
  clear hA0 hval0
  refine (walk W a0 w0 p1 A1 c1 hp1 hd1 hc1 hw1).mono fun e W' ⟨he, bel⟩ => ?_
  subst he
  exact ⟨_, rfl, _, _, _, [], _, [], hW', trodAll_mk1 (shut_bool Tryz.underlying4 _), (trodAll_cons_mk (Below.trod laidOut (by kernel_rfl) (of_decide_eq_true (by kernel_rfl)) k0 bel lt0) (trodAll_cons_mk (Below.trod laidOut (by kernel_rfl) (of_decide_eq_true (by kernel_rfl)) k1 bel lt1) trodAll_mk0)), rfl, bel.frame _, fun h => by cases h⟩

theorem over : Rows.wireEncodesRow.holds Tryz.pinned (OpenSpec.ofChange Rows.wireEncodesSpec) :=
  OpenClaim.holds_of_wide 3 Tryz.f3 rfl rfl rfl rfl rfl rfl rfl ⟨rfl, rfl, rfl, rfl, rfl⟩ rfl rfl rfl rfl rfl (by kernel_rfl) Tryz.func3 (by kernel_rfl)
    (of_decide_eq_true (by kernel_rfl)) (by unfold Func.isWrapper; first | (rw [if_pos (by decide +kernel)]; kernel_rfl) | (rw [if_neg (by decide +kernel)]; exact ⟨rfl, rfl⟩))
    (fun os started H enc _ => lifted os started H enc)

theorem proved : Rows.WireEncodesSaid := over
#print axioms proved
end Go.Proofs.YtofngihdnjgmeaaGreat.wireEncodes
