/- A split, and a merge of both parts, have the old bounds, and the old value. No condition. -/
import Derived.Test.YtgblnlpfgdbnnaaGreatZ43
namespace Go.Proofs.YtgblnlpfgdbnnaaGreat.planSplits
open Go.ChangeShapes Go.WideShapes Go.ChangeAt Go.RowKit
set_option linter.unusedVariables false

theorem own : ownKnob Tryz.prog.godebug = none := by kernel_rfl
theorem laidOut : laidOutB Tryz.prog = true := by kernel_rfl

set_option maxRecDepth 100000 in
set_option maxHeartbeats 16000000 in
theorem walk (w : World) (A0 : Option Addr) (n0 c0 : Nat) (q0 : List Q) (hd0 : CR w A0 n0 q0) (s1 : ByteArray) (s2 : ByteArray) (a3 : Int) (w3 : (Lit.int .i64 a3).wf = true) :
    Calls Tryz.prog 6 #[.slice A0 n0 c0, .string s1, .string s2, .int .i64 a3] w fun e w' => e = .returned (.bool true) ∧ Below w.heap.size w w' := by
  have HK := Lib.hid (Kg.start w)
  have HC := Lib.hid hd0
  have hfw := fun w h => few13_any (⟨5, s1, s2, a3, 0⟩ : Pl) A0 n0 c0 q0 w h
  cases hf : fewLF n0 q0 (⟨5, s1, s2, a3, 0⟩ : Pl) with
  | false =>
    rw [hf] at hfw
    clear hf hd0
    go_enter Tryz.func6, Tryz.ntmps6
    go_wp2_with (first
      | ((with_reducible refine alloc_k (cs := zPl.cells) HK.out pl_zero rfl rfl ?_); intro bp u hk; clear HK; have HK := Lib.hid hk; clear hk)
      | ((refine store_kr (xs := Pl.cells ⟨5, s1, s2, a3, 0⟩) (ds := Pl.cells ⟨5, s1, s2, a3, 0⟩) HK.out 0 p_info Pl.one rfl rfl _ _ rfl rfl rfl rfl Pl.le Pl.put ?_); intro u hk; simp only [List.set_cons_zero] at hk; clear HK; have HK := Lib.hid hk; clear hk)
      | (with_reducible refine load_kr (xs := Pl.cells ⟨5, s1, s2, a3, 0⟩) HK.out 0 Tryz.underlying24 rfl p_info _ rfl rfl rfl rfl Pl.all ?_)
      | (go_at_call 8; (with_reducible refine (hfw _ (cr_below HC.out HK.out.mf.bel)).mono ?_); rintro e u ⟨rfl, hb⟩; have hk := HK.out.call hb; clear hb; clear HK; have HK := Lib.hid hk; clear hk)
      | (go_at_call 9; (with_reducible refine (awake_any _).mono ?_); rintro e u ⟨rfl, hb⟩; have hk := HK.out.call hb; clear hb; clear HK; have HK := Lib.hid hk; clear hk))
    go_ret
    exact ⟨rfl, HK.out.mf.bel⟩
  | true =>
    rw [hf] at hfw
    obtain ⟨hn, hq, hnm, hot⟩ := fewf_is hf
    clear hf
    have hnm : s1.size ≤ 100 := hnm
    have hot : s2.size ≤ 100 := hot
    have HD := Lib.hid (hd0.fr fun x hx => by have := (hq x hx).2; omega)
    have hN : Fits1000 q0 := fun x hx => by have := (hq x hx).1; omega
    have hP : PlOk (⟨5, s1, s2, a3, 0⟩ : Pl) := ⟨by show s1.size ≤ 1000; omega, by show s2.size ≤ 1000; omega, (by decide : ok64W 5)⟩
    have hPm : PlOk (unP (⟨5, s1, s2, a3, 0⟩ : Pl)) := ⟨by show s1.size ≤ 1000; omega, by show s2.size ≤ 1000; omega, (by decide : ok64W 6)⟩
    have hn' : n0 ≤ 1000 := by omega
    have HPL := Lib.hid (show (pfs q0).length = n0 by rw [pfs_len]; exact hd0.1)
    obtain ⟨E, hE⟩ : ∃ E, appE (pfs q0) (⟨5, s1, s2, a3, 0⟩ : Pl) = E := ⟨_, rfl⟩
    have HE := Lib.hid hE
    clear hE hq hnm hot hd0
    go_enter Tryz.func6, Tryz.ntmps6
    go_wp2_with (first
      | ((with_reducible refine alloc_k (cs := zPl.cells) HK.out pl_zero rfl rfl ?_); intro bp u hk; clear HK; have HK := Lib.hid hk; clear hk)
      | ((refine store_kr (xs := Pl.cells ⟨5, s1, s2, a3, 0⟩) (ds := Pl.cells ⟨5, s1, s2, a3, 0⟩) HK.out 0 p_info Pl.one rfl rfl _ _ rfl rfl rfl rfl Pl.le Pl.put ?_); intro u hk; simp only [List.set_cons_zero] at hk; clear HK; have HK := Lib.hid hk; clear hk)
      | (with_reducible refine load_kr (xs := Pl.cells ⟨5, s1, s2, a3, 0⟩) HK.out 0 Tryz.underlying24 rfl p_info _ rfl rfl rfl rfl Pl.all ?_)
      | (go_at_call 8; (with_reducible refine (hfw _ (cr_below HC.out HK.out.mf.bel)).mono ?_); rintro e u ⟨rfl, hb⟩; have hk := HK.out.call hb; clear hb; clear HK; have HK := Lib.hid hk; clear hk)
      | (go_at_call 9; (with_reducible refine (awake_any _).mono ?_); rintro e u ⟨rfl, hb⟩; have hk := HK.out.call hb; clear hb; clear HK; have HK := Lib.hid hk; clear hk))
    refine Draws.start (S := fun u => Kg w (fun _ => False) [Th.cel bp 24 (Pl.cells ⟨5, s1, s2, a3, 0⟩)] [] u) (n := 9) 9 rfl (by kernel_rfl) ?_
    have HS := Lib.hid (show (fun u => Kg w (fun _ => False) [Th.cel bp 24 (Pl.cells ⟨5, s1, s2, a3, 0⟩)] [] u) (World.drew _) from HK.out.drew)
    refine Draws.take 0 (v := ?v1) HS.out rfl (by kernel_rfl) (fun _ _ _ h => h) (Or.inl ⟨rfl, ?h1⟩) ?r1
    case h1 => intro w' hw'; go_simp; (try with_reducible rfl)
    (try simp only [Act.put, lsA, lsB, lsC])
    refine Draws.take 2 HS.out rfl (by kernel_rfl) (fun _ _ _ h => h) (yield_kr Tryz.underlying24 rfl p_info (fun _ h => (h.celAt 0 rfl).range Pl.all) _ rfl rfl rfl) ?_
    (try simp only [Act.put, lsA, lsB, lsC])
    refine Draws.does 1 rfl (by kernel_rfl) rfl (fun K' hK => ?_)
    go_simp
    go_at_call 21
    refine (ow_any A0 n0 c0 q0 hn' _ (HD.out.below HS.out.mf.bel)).mono ?_
    rintro e u ⟨A1, c1, q1, rfl, hb, hfr, hnew, hpf⟩
    (try dsimp only)
    have hk := HS.out.frMade hb hfr hnew
    have HPF := Lib.hid (show pfs q1 = pfs q0 from hpf)
    clear HK; have HK := Lib.hid hk
    clear HS; have HS := Lib.hid (show (fun u => Kg w (fun _ => False) [Th.cel bp 24 (Pl.cells ⟨5, s1, s2, a3, 0⟩)] [] u) _ from hk.sub (by simp))
    clear hk hb hfr hnew hpf
    refine hK.out _ _ (fun _ => HS.out) ?_
    clear hK K'
    (try simp only [Act.put, lsA, lsB, lsC])
    refine Draws.does 3 rfl (by kernel_rfl) rfl (fun K' hK => ?_)
    go_simp
    go_at_call 20
    refine (ap_any (⟨5, s1, s2, a3, 0⟩ : Pl) hP A1 n0 c1 q1 (by omega) (fits_of HPF.out hN) (pfs q0) HPF.out E HE.out _ (HK.out.fr 0 rfl)).mono ?_
    rintro e u ⟨A2, c2, xs, rfl, hb, hfr, hnew, h1, h2⟩
    (try dsimp only)
    have hk := HS.out.frMade hb hfr hnew
    have HAP := Lib.hid h1
    have HNO := Lib.hid h2
    clear HK; have HK := Lib.hid hk
    clear HS; have HS := Lib.hid (show (fun u => Kg w (fun _ => False) [Th.cel bp 24 (Pl.cells ⟨5, s1, s2, a3, 0⟩)] [] u) _ from hk.sub (by simp))
    clear hk hb hfr hnew h1 h2
    refine hK.out _ _ (fun _ => HS.out) ?_
    clear hK K'
    (try simp only [Act.put, lsA, lsB, lsC])
    refine Draws.take 4 (v := ?v2) HS.out rfl (by kernel_rfl) (fun _ _ _ h => h) (Or.inl ⟨rfl, ?h2⟩) ?r2
    case h2 => intro w' hw'; go_simp; (try with_reducible rfl)
    (try simp only [Act.put, lsA, lsB, lsC])
    refine Draws.take 5 (v := ?v3) HS.out rfl (by kernel_rfl) (fun _ _ _ h => h) (Or.inl ⟨rfl, ?h3⟩) ?r3
    case h3 => intro w' hw'; go_simp; (try with_reducible rfl)
    (try simp only [Act.put, lsA, lsB, lsC])
    refine Draws.take 6 (v := ?v4) HS.out rfl (by kernel_rfl) (fun _ _ _ h => h) (Or.inl ⟨rfl, ?h4⟩) ?r4
    case h4 => intro w' hw'; go_simp; (try with_reducible rfl)
    (try simp only [Act.put, lsA, lsB, lsC])
    refine Draws.take 7 (v := ?v5) HS.out rfl (by kernel_rfl) (fun _ _ _ h => h) (Or.inl ⟨rfl, ?h5⟩) ?r5
    case h5 => intro w' hw'; go_simp; (try with_reducible rfl)
    (try simp only [Act.put, lsA, lsB, lsC])
    refine Draws.take 8 (v := ?v6) HS.out rfl (by kernel_rfl) (fun _ _ _ h => h) (Or.inl ⟨rfl, ?h6⟩) ?r6
    case h6 => intro w' hw'; go_simp; (try with_reducible rfl)
    (try simp only [Act.put, lsA, lsB, lsC])
    refine Draws.done (by kernel_rfl) ?_
    by_cases he : E = 0
    · subst he
      have HG := Lib.hid (goes_of HE.out)
      have HAA := Lib.hid (HAP.out rfl)
      have HXF := Lib.hid (app_fields HG.out HAA.out)
      obtain ⟨hxN, hx4, _⟩ := fits_right HXF.out
      obtain ⟨X, hX⟩ := split_back HG.out rfl HAA.out
      have HBK := Lib.hid hX
      obtain ⟨N, hNN⟩ : ∃ N, xs.length = N := ⟨_, rfl⟩
      rw [hNN] at hx4
      simp only [hNN] at HK
      rw [hNN]
      clear HS hNN hX
      obtain ⟨E2, hE2⟩ : ∃ E, appE (pfs xs) (unP (⟨5, s1, s2, a3, 0⟩ : Pl)) = E := ⟨_, rfl⟩
      have HE2 := Lib.hid hE2
      have hor : E2 = 0 ∨ E2 = 2 := by rw [← hE2]; exact HBK.out.err
      clear hE2
      rcases hor with h0 | h0
      · subst h0
        go_wp2_with (first
          | (go_at_call 20; (refine (ap_any (unP (⟨5, s1, s2, a3, 0⟩ : Pl)) hPm A2 N c2 xs (by omega) hxN (pfs xs) rfl _ HE2.out _ (HK.out.fr 0 rfl)).mono ?_); rintro e u ⟨A4, c4, ys, rfl, hb, hfr, hnew, h1, h2⟩; have hk := HK.out.frMade hb hfr hnew; have HAY := Lib.hid h1; have HNY := Lib.hid h2; clear hb hfr hnew h1 h2; clear HK; have HK := Lib.hid hk; clear hk))
        obtain ⟨Y, hy1, hy2, hy3, hy4, hy5, hy6, hy7⟩ := HBK.out.back (pfs ys) HE2.out (HAY.out (by first | rfl | trivial))
        obtain ⟨x, hx, hxX⟩ := pfs_get HBK.out.atx
        obtain ⟨y, hy, hyY⟩ := pfs_get hy2
        have hly : ys.length = n0 := by rw [← pfs_len, hy6, HPL.out]
        have hon := fun w h => one_any A0 n0 c0 q0 s1 hn' x HBK.out.isx hx w h
        have hon2 := fun w h => one_any A4 ys.length c4 ys s1 (by omega) y hy1 hy w h
        have HFX := Lib.hid (HD.out.full hx)
        have HFY := Lib.hid ((HK.out.fr 0 rfl).full hy)
        have hv1 := fun w => rview_q x.1 HFX.out x.2.1 x.2.2 w
        have hv2 := fun w => rview_q y.1 HFY.out y.2.1 y.2.2 w
        rw [← hyY, ← hxX] at hy3 hy4 hy5
        simp only [hy3] at hv2
        have g4 : (loP y.1 == loP x.1) = true := by rw [hy4]; exact beq_self_eq_true _
        have g5 : (hiP y.1 == hiP x.1) = true := by rw [hy5]; exact beq_self_eq_true _
        have g6 : ((ys.length : Int) == (n0 : Int)) = true := by rw [hly]; exact beq_self_eq_true _
        have T1 := True.intro; have T2 := True.intro; have T3 := True.intro; have T4 := True.intro
        clear hy1 hy2 hy3 hy4 hy5 hy6 hy7 hx hxX hy hyY hly
        go_wp2_with (first
          | (go_at_call 23; (with_reducible refine (hon _ (HD.out.below HK.out.mf.bel)).mono ?_); rintro e u ⟨rfl, hb⟩; have hk := HK.out.call hb; clear hb; clear HK; have HK := Lib.hid hk; clear hk)
          | (clear T1; (with_reducible refine alloc_k HK.out f_zeroP rfl rfl ?_); intro b4 u hk; clear HK; have HK := Lib.hid hk; clear hk)
          | (clear T2; (refine store_kr HK.out 0 (Pf.infoF HFX.out) (Fd.one _) rfl rfl _ _ rfl rfl rfl rfl (Fd.leP zP_full HFX.out) (Fd.setAllP zP_full HFX.out) ?_); intro u hk; simp only [List.set_cons_zero] at hk; clear HK; have HK := Lib.hid hk; clear hk)
          | (go_at_call 23; (with_reducible refine (hon2 _ (HK.out.fr 0 rfl)).mono ?_); rintro e u ⟨rfl, hb⟩; have hk := HK.out.call hb; clear hb; clear HK; have HK := Lib.hid hk; clear hk)
          | (clear T3; (with_reducible refine alloc_k HK.out f_zeroP rfl rfl ?_); intro b5 u hk; clear HK; have HK := Lib.hid hk; clear hk)
          | (clear T4; (refine store_kr HK.out 0 (Pf.infoF HFY.out) (Fd.one _) rfl rfl _ _ rfl rfl rfl rfl (Fd.leP zP_full HFY.out) (Fd.setAllP zP_full HFY.out) ?_); intro u hk; simp only [List.set_cons_zero] at hk; clear HK; have HK := Lib.hid hk; clear hk)
          | (with_reducible refine load_kr HK.out 1 Tryz.underlying43 rfl (Pf.infoF HFX.out) _ rfl rfl rfl rfl Pf.all ?_)
          | (with_reducible refine load_kr HK.out 0 Tryz.underlying43 rfl (Pf.infoF HFY.out) _ rfl rfl rfl rfl Pf.all ?_)
          | (go_at_call 24; (with_reducible refine (hv1 _).mono ?_); rintro e u ⟨rfl, hb⟩; have hk := HK.out.call hb; clear hb; clear HK; have HK := Lib.hid hk; clear hk)
          | (go_at_call 24; (with_reducible refine (hv2 _).mono ?_); rintro e u ⟨rfl, hb⟩; have hk := HK.out.call hb; clear hb; clear HK; have HK := Lib.hid hk; clear hk)
          | (with_reducible refine load_k1 HK.out 0 ckI _ rfl rfl rfl rfl (Pf.c4 HFY.out) ?_)
          | (with_reducible refine load_k1 HK.out 1 ckI _ rfl rfl rfl rfl (Pf.c4 HFX.out) ?_)
          | (with_reducible refine load_k1 HK.out 0 ckI _ rfl rfl rfl rfl (Pf.c5 HFY.out) ?_)
          | (with_reducible refine load_k1 HK.out 1 ckI _ rfl rfl rfl rfl (Pf.c5 HFX.out) ?_)
          | (go_at_call 9; (with_reducible refine (awake_any _).mono ?_); rintro e u ⟨rfl, hb⟩; have hk := HK.out.call hb; clear hb; clear HK; have HK := Lib.hid hk; clear hk))
        go_ret
        exact ⟨rfl, HK.out.mf.bel⟩
      · subst h0
        go_wp2_with (first
          | (go_at_call 20; (refine (ap_any (unP (⟨5, s1, s2, a3, 0⟩ : Pl)) hPm A2 N c2 xs (by omega) hxN (pfs xs) rfl _ HE2.out _ (HK.out.fr 0 rfl)).mono ?_); rintro e u ⟨A4, c4, ys, rfl, hb, hfr, hnew, h1, h2⟩; have hk := HK.out.frMade hb hfr hnew; have HAY := Lib.hid h1; have HNY := Lib.hid h2; clear hb hfr hnew h1 h2; clear HK; have HK := Lib.hid hk; clear hk)
          | (go_at_call 9; (with_reducible refine (awake_any _).mono ?_); rintro e u ⟨rfl, hb⟩; have hk := HK.out.call hb; clear hb; clear HK; have HK := Lib.hid hk; clear hk))
        go_ret
        exact ⟨rfl, HK.out.mf.bel⟩
    · have he' : (E == 0) = false := by simpa using he
      obtain rfl := HNO.out he
      clear he HAP HNO
      go_wp2_with (first
        | (go_at_call 9; (with_reducible refine (awake_any _).mono ?_); rintro e u ⟨rfl, hb⟩; have hk := HK.out.call hb; clear hb; clear HK; have HK := Lib.hid hk; clear hk))
      go_ret
      exact ⟨rfl, HK.out.mf.bel⟩

set_option maxRecDepth 100000 in
theorem lifted (os : Os) (started : os.Started) (H : Type) (enc : TypeId × Value → H) :
    ReturnsInHanded {} Tryz.checked os 6 .any (Rows.planSplitsSpec.pre6 enc Tryz.prog Tryz.f6 Rows.planSplitsRow.domain false) (Rows.planSplitsSpec.post enc Tryz.prog Tryz.f6 false true false false) := by
  refine returnsInHanded_of_change (C := Tryz.checked) own started (by kernel_rfl) Tryz.func6
    (ChangeSpec.witness6 (enc := enc) (C := Tryz.checked) false ⟨#[], #[.slice none 0 0, .string ⟨#[]⟩, .string ⟨#[]⟩, .int .i64 0], []⟩ 12 (by kernel_rfl) (by kernel_rfl) (by kernel_rfl) (by kernel_rfl)) ?_
  intro W base args ds gs before hval0 hW hcnd _
  have hval : ∀ (j : Nat) t v, Tryz.f6.params[j]? = some t → args[j]? = some v → Value.okWide Tryz.prog W .any base t v := hval0
  have hW' := hW
  obtain ⟨p, q, hA0, hV, rfl, hfz, hnd⟩ := hW
  have hA : DataW.TrodAll enc Tryz.prog W 0 (fun _ => true) true Tryz.f6.params.toList args.toList ds p := hA0
  rw [Tryz.params6] at hA hval
  obtain ⟨v0, vs0, d0, ds0, q0, r0, hargs, rfl, rfl, h0, t0⟩ := trodAll_cons hA
  obtain ⟨v1, vs1, d1, ds1, q1, r1, rfl, rfl, rfl, h1, t1⟩ := trodAll_cons t0
  obtain ⟨v2, vs2, d2, ds2, q2, r2, rfl, rfl, rfl, h2, t2⟩ := trodAll_cons t1
  obtain ⟨v3, vs3, d3, ds3, q3, r3, rfl, rfl, rfl, h3, t3⟩ := trodAll_cons t2
  obtain ⟨rfl, rfl, rfl⟩ := trodAll_nil t3
  obtain rfl : args = #[v0, v1, v2, v3] := by cases args; simp_all
  obtain ⟨rfl, rfl⟩ := trodVars_none hV
  have k0 := h0
  have lt0 : ∀ x ∈ q0, x.block < W.heap.size := by obtain ⟨m, hm⟩ := k0; exact DataW.trod_lt m _ _ _ hm
  obtain ⟨A0, n0, c0, y0, rfl, hd0, _⟩ := open_fs (hval 0 22 v0 rfl rfl) h0
  have k1 := h1
  have lt1 : ∀ x ∈ q1, x.block < W.heap.size := by obtain ⟨m, hm⟩ := k1; exact DataW.trod_lt m _ _ _ hm
  obtain ⟨s1, rfl, rfl, rfl, hs1⟩ := Go.ChangeMaps.open_string Tryz.underlying9 (hval 1 9 v1 rfl rfl) h1
  have k2 := h2
  have lt2 : ∀ x ∈ q2, x.block < W.heap.size := by obtain ⟨m, hm⟩ := k2; exact DataW.trod_lt m _ _ _ hm
  obtain ⟨s2, rfl, rfl, rfl, hs2⟩ := Go.ChangeMaps.open_string Tryz.underlying9 (hval 2 9 v2 rfl rfl) h2
  have k3 := h3
  have lt3 : ∀ x ∈ q3, x.block < W.heap.size := by obtain ⟨m, hm⟩ := k3; exact DataW.trod_lt m _ _ _ hm
  obtain ⟨a3, rfl, rfl, rfl, w3⟩ := open_int Tryz.underlying3 (hval 3 3 v3 rfl rfl) h3
  clear hA0 hval0
  refine (walk W A0 n0 c0 y0 hd0 s1 s2 a3 w3).mono fun e W' ⟨he, bel⟩ => ?_
  subst he
  exact ⟨_, rfl, _, _, _, [], _, [], hW', trodAll_mk1 (shut_bool Tryz.underlying4 _), (trodAll_cons_mk (Below.trod laidOut (by kernel_rfl) (of_decide_eq_true (by kernel_rfl)) k0 bel lt0) (trodAll_cons_mk (Below.trod laidOut (by kernel_rfl) (of_decide_eq_true (by kernel_rfl)) k1 bel lt1) (trodAll_cons_mk (Below.trod laidOut (by kernel_rfl) (of_decide_eq_true (by kernel_rfl)) k2 bel lt2) (trodAll_cons_mk (Below.trod laidOut (by kernel_rfl) (of_decide_eq_true (by kernel_rfl)) k3 bel lt3) trodAll_mk0)))), rfl, bel.frame _, fun h => by cases h⟩

theorem over : Rows.planSplitsRow.holds Tryz.pinned (OpenSpec.ofChange Rows.planSplitsSpec) :=
  OpenClaim.holds_of_wide 6 Tryz.f6 rfl rfl rfl rfl rfl rfl rfl ⟨rfl, rfl, rfl, rfl, rfl⟩ rfl rfl rfl rfl rfl (by kernel_rfl) Tryz.func6 (by kernel_rfl)
    (of_decide_eq_true (by kernel_rfl)) (by unfold Func.isWrapper; first | (rw [if_pos (by decide +kernel)]; kernel_rfl) | (rw [if_neg (by decide +kernel)]; exact ⟨rfl, rfl⟩))
    (fun os started H enc _ => lifted os started H enc)

theorem proved : Rows.PlanSplitsSaid := over
#print axioms proved
end Go.Proofs.YtgblnlpfgdbnnaaGreat.planSplits
