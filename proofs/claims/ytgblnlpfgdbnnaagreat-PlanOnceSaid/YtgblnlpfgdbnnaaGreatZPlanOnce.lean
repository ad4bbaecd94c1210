/- A plan that fits and goes can be applied to what came of the same fields, joined with themselves, alike; fields that may not be, or plans, are told first. No condition. -/
import Derived.Test.YtgblnlpfgdbnnaaGreatZ27A
import Derived.Test.YtgblnlpfgdbnnaaGreatZ36
import Derived.Test.YtgblnlpfgdbnnaaGreatZ41A
import Derived.Test.YtgblnlpfgdbnnaaGreatZ44
namespace Go.Proofs.YtgblnlpfgdbnnaaGreat.planOnce
open Go.ChangeShapes Go.WideShapes Go.ChangeAt Go.RowKit
set_option linter.unusedVariables false

theorem own : ownKnob Tryz.prog.godebug = none := by kernel_rfl
theorem laidOut : laidOutB Tryz.prog = true := by kernel_rfl

set_option maxRecDepth 100000 in
set_option maxHeartbeats 16000000 in
theorem walk (w : World) (A0 : Option Addr) (n0 c0 : Nat) (q0 : List Q) (hd0 : CR w A0 n0 q0) (p1 : Pl) (hk1 : ok64W p1.k) (ha1 : ok64W p1.a) (hb1 : ok64W p1.b) :
    Calls Tryz.prog 7 #[.slice A0 n0 c0, .agg p1.cells.toArray] w fun e w' => e = .returned (.bool true) ∧ Below w.heap.size w w' := by
  have HK := Lib.hid (Kg.start w)
  have HC := Lib.hid hd0
  have hfw := fun w h => few13_any p1 A0 n0 c0 q0 w h
  cases hf : fewLF n0 q0 p1 with
  | false =>
    rw [hf] at hfw
    clear hf hd0
    go_enter Tryz.func7, Tryz.ntmps7
    go_wp2_with (first
      | ((with_reducible refine box_k (cs := p1.cells) HK.out rfl _ rfl rfl ?_); intro bp u hk; clear HK; have HK := Lib.hid hk; clear hk)
      | (with_reducible refine load_kr (xs := p1.cells) HK.out 0 Tryz.underlying24 rfl p_info _ rfl rfl rfl rfl Pl.all ?_)
      | (go_at_call 8; (with_reducible refine (hfw _ (cr_below HC.out HK.out.mf.bel)).mono ?_); rintro e u ⟨rfl, hb⟩; have hk := HK.out.call hb; clear hb; clear HK; have HK := Lib.hid hk; clear hk)
      | (go_at_call 9; (with_reducible refine (awake_any _).mono ?_); rintro e u ⟨rfl, hb⟩; have hk := HK.out.call hb; clear hb; clear HK; have HK := Lib.hid hk; clear hk))
    go_ret
    exact ⟨rfl, HK.out.mf.bel⟩
  | true =>
    rw [hf] at hfw
    obtain ⟨hn, hq, hnm, hot⟩ := fewf_is hf
    clear hf
    have HD := Lib.hid (hd0.fr fun x hx => by have := (hq x hx).2; omega)
    have hN : Fits1000 q0 := fun x hx => by have := (hq x hx).1; omega
    have hP : PlOk p1 := ⟨by omega, by omega, hk1⟩
    have hn' : n0 ≤ 1000 := by omega
    have HPL := Lib.hid (show (pfs q0).length = n0 by rw [pfs_len]; exact hd0.1)
    obtain ⟨E, hE⟩ : ∃ E, appE (pfs q0) p1 = E := ⟨_, rfl⟩
    have HE := Lib.hid hE
    clear hE hq hnm hot hd0 hk1 ha1 hb1
    have HFB : (fieldsB (pfs q0) = false → E = 1) ∧ (fieldsB (pfs q0) = true → planB p1 = false → E = 14) ∧ (E = 0 → fitE (pfs q0) p1 = 0 ∧ fieldsB (pfs q0) = true ∧ planB p1 = true) := by
      refine ⟨fun h => ?_, fun h g => ?_, fun h => ?_⟩
      · rw [← HE.out, appE, if_pos (by simp [fitE, h])]; simp [fitE, h]
      · rw [← HE.out, appE, if_pos (by simp [fitE, h, g])]; simp [fitE, h, g]
      · have := goes_of (HE.out.trans h)
        exact ⟨fit_mk this.fit, this.fit.fs, this.fit.pl⟩
    have HFB := Lib.hid HFB
    obtain ⟨B, hB⟩ : ∃ B, fieldsB (pfs q0) = B := ⟨_, rfl⟩
    obtain ⟨R, hR⟩ : ∃ R, planB p1 = R := ⟨_, rfl⟩
    obtain ⟨G, hG⟩ : ∃ G, fitE (pfs q0) p1 = G := ⟨_, rfl⟩
    have hrf := fun w h => rfields_any A0 n0 c0 q0 hn' hN w h
    have hrp := fun w => rpright_any p1 hP.nm hP.ot w
    have hft := fun w h => fits_any p1 hP A0 n0 c0 q0 hn' hN w h
    simp only [hB] at hrf
    simp only [hR] at hrp
    simp only [hG] at hft
    have HBR := Lib.hid (show (B = false → E = 1) ∧ (B = true → R = false → E = 14) ∧ (E = 0 → G = 0 ∧ B = true ∧ R = true) by rw [← hB, ← hR, ← hG]; exact HFB.out)
    have HBB := Lib.hid hB
    clear hB hR hG HFB
    go_enter Tryz.func7, Tryz.ntmps7
    go_wp2_with (first
      | ((with_reducible refine box_k (cs := p1.cells) HK.out rfl _ rfl rfl ?_); intro bp u hk; clear HK; have HK := Lib.hid hk; clear hk)
      | (with_reducible refine load_kr (xs := p1.cells) HK.out 0 Tryz.underlying24 rfl p_info _ rfl rfl rfl rfl Pl.all ?_)
      | (go_at_call 8; (with_reducible refine (hfw _ (cr_below HC.out HK.out.mf.bel)).mono ?_); rintro e u ⟨rfl, hb⟩; have hk := HK.out.call hb; clear hb; clear HK; have HK := Lib.hid hk; clear hk)
      | (go_at_call 9; (with_reducible refine (awake_any _).mono ?_); rintro e u ⟨rfl, hb⟩; have hk := HK.out.call hb; clear hb; clear HK; have HK := Lib.hid hk; clear hk))
    refine Draws.start (S := fun u => Kg w (fun _ => False) [Th.cel bp 24 p1.cells] [] u) (n := 9) 9 rfl (by kernel_rfl) ?_
    have HS := Lib.hid (show (fun u => Kg w (fun _ => False) [Th.cel bp 24 p1.cells] [] u) (World.drew _) from HK.out.drew)
    refine Draws.take 0 (v := ?v1) HS.out rfl (by kernel_rfl) (fun _ _ _ h => h) (Or.inl ⟨rfl, ?h1⟩) ?r1
    case h1 => intro w' hw'; go_simp; (try with_reducible rfl)
    (try simp only [Act.put, lsA, lsB, lsC])
    refine Draws.take 2 HS.out rfl (by kernel_rfl) (fun _ _ _ h => h) (yield_kr Tryz.underlying24 rfl p_info (fun _ h => (h.celAt 0 rfl).range Pl.all) _ rfl rfl rfl) ?_
    (try simp only [Act.put, lsA, lsB, lsC])
    refine Draws.does 1 rfl (by kernel_rfl) rfl (fun K' hK => ?_)
    go_simp
    go_at_call 21
    refine (ow_any A0 n0 c0 q0 hn' _ (HD.out.below HS.out.mf.bel)).mono ?_
    rintro e u ⟨A1, c1, q1, rfl, hb, hfr, hnew, hpf⟩
    (try dsimp only)
    have hk := HS.out.frMade hb hfr hnew
    have HPF := Lib.hid (show pfs q1 = pfs q0 from hpf)
    clear HK; have HK := Lib.hid hk
    clear HS; have HS := Lib.hid (show (fun u => Kg w (fun _ => False) [Th.cel bp 24 p1.cells] [] u) _ from hk.sub (by simp))
    clear hk hb hfr hnew hpf
    refine hK.out _ _ (fun _ => HS.out) ?_
    clear hK K'
    (try simp only [Act.put, lsA, lsB, lsC])
    refine Draws.does 3 rfl (by kernel_rfl) rfl (fun K' hK => ?_)
    go_simp
    go_at_call 20
    refine (ap_any p1 hP A1 n0 c1 q1 (by omega) (fits_of HPF.out hN) (pfs q0) HPF.out E HE.out _ (HK.out.fr 0 rfl)).mono ?_
    rintro e u ⟨A2, c2, xs, rfl, hb, hfr, hnew, h1, h2⟩
    (try dsimp only)
    have hk := HS.out.frMade hb hfr hnew
    have HAP := Lib.hid h1
    have HNO := Lib.hid h2
    clear HK; have HK := Lib.hid hk
    clear HS; have HS := Lib.hid (show (fun u => Kg w (fun _ => False) [Th.cel bp 24 p1.cells] [] u) _ from hk.sub (by simp))
    clear hk hb hfr hnew h1 h2
    refine hK.out _ _ (fun _ => HS.out) ?_
    clear hK K'
    (try simp only [Act.put, lsA, lsB, lsC])
    refine Draws.take 4 (v := ?v2) HS.out rfl (by kernel_rfl) (fun _ _ _ h => h) (Or.inl ⟨rfl, ?h2⟩) ?r2
    case h2 => intro w' hw'; go_simp; (try with_reducible rfl)
    (try simp only [Act.put, lsA, lsB, lsC])
    refine Draws.take 5 (v := ?v3) HS.out rfl (by kernel_rfl) (fun _ _ _ h => h) (Or.inl ⟨rfl, ?h3⟩) ?r3
    case h3 => intro w' hw'; go_simp; (try with_reducible rfl)
    (try simp only [Act.put, lsA, lsB, lsC])
    refine Draws.take 6 (v := ?v4) HS.out rfl (by kernel_rfl) (fun _ _ _ h => h) (Or.inl ⟨rfl, ?h4⟩) ?r4
    case h4 => intro w' hw'; go_simp; (try with_reducible rfl)
    (try simp only [Act.put, lsA, lsB, lsC])
    refine Draws.take 7 (v := ?v5) HS.out rfl (by kernel_rfl) (fun _ _ _ h => h) (Or.inl ⟨rfl, ?h5⟩) ?r5
    case h5 => intro w' hw'; go_simp; (try with_reducible rfl)
    (try simp only [Act.put, lsA, lsB, lsC])
    refine Draws.take 8 (v := ?v6) HS.out rfl (by kernel_rfl) (fun _ _ _ h => h) (Or.inl ⟨rfl, ?h6⟩) ?r6
    case h6 => intro w' hw'; go_simp; (try with_reducible rfl)
    (try simp only [Act.put, lsA, lsB, lsC])
    refine Draws.done (by kernel_rfl) ?_
    obtain ⟨N, hNN⟩ : ∃ N, xs.length = N := ⟨_, rfl⟩
    have HN1 := Lib.hid (show N ≤ 1000 by
      rw [← hNN]
      by_cases he : E = 0
      · have := (fits_right (app_fields (goes_of (HE.out.trans he)) (HAP.out he))).2.1
        omega
      · rw [HNO.out he]; exact Nat.zero_le _)
    simp only [hNN] at HK
    rw [hNN]
    have HNN := Lib.hid hNN
    clear HS hNN
    have hk := HK.out.hqNil.add (t := Th.of (.slice none 0 0) []) (Below.refl _ _) (og_nil _ _ _) (fun k hk => by cases hk)
    clear HK; have HK := Lib.hid hk; clear hk
    go_wp2
    go_loopw [7, 28] (fun v i wr => ∃ (m : Nat) (ts : List Q), m ≤ n0 ∧ i = .int .i64 m ∧ pfs ts = (pfs q0).take m ∧ (∀ x ∈ ts, x.1.full) ∧ Kg w (fun _ => False) [Th.of v ts, Th.cel bp 24 p1.cells] [Th.hq ts, Th.fr A2 N xs] wr) (fun _ i _ => n0 - (intOf i).toNat)
    case atStart => exact ⟨0, [], by omega, rfl, by simp, by simp, HK.out.sub (by simp)⟩
    case round =>
      obtain ⟨m, ts, hm, rfl, hq, hf, hk⟩ := hrel
      clear HK; have HK := Lib.hid hk; clear hk
      have HTQ0 := Lib.hid hq
      have HTF := Lib.hid hf
      have HTL := Lib.hid (show ts.length = m by rw [← pfs_len, hq, List.length_take, HPL.out]; omega)
      have HLE := Lib.hid (show ts.length ≤ 1000 by have := HTL.out; omega)
      clear hq hf
      by_cases hlt : m < n0
      · obtain ⟨x, hx⟩ := HD.out.get hlt
        have HX := Lib.hid hx
        obtain ⟨b, off, rfl⟩ := HD.out.ptr hx
        have HF := Lib.hid (HD.out.full hx)
        have HR := Lib.hid (HD.out.rng hx)
        have HXR := Lib.hid (HD.out.row hx)
        have i1 : (0 : Int) ≤ (m : Int) := by omega
        have i2 : (m : Int) < (n0 : Int) := by omega
        clear hx
        have T1 := True.intro; have T2 := True.intro
        rcases join_me HF.out with hj | ⟨hj1, hj2, hj3⟩
        · have HJ := Lib.hid hj; clear hj
          go_wp2_with (first
            | (with_reducible refine load_kg Tryz.underlying43 rfl (Pf.infoF HF.out) _ rfl (rng_below HR.out HK.out.mf.bel) rfl rfl ?_)
            | (clear T1; (with_reducible refine alloc_k HK.out f_zeroP rfl rfl ?_); intro b4 u hk; clear HK; have HK := Lib.hid hk; clear hk)
            | (clear T2; (refine store_kr HK.out 0 (Pf.infoF HF.out) (Fd.one _) rfl rfl _ _ rfl rfl rfl rfl (Fd.leP zP_full HF.out) (Fd.setAllP zP_full HF.out) ?_); intro u hk; simp only [List.set_cons_zero] at hk; clear HK; have HK := Lib.hid hk; clear hk)
            | (with_reducible refine load_kr HK.out 0 Tryz.underlying43 rfl (Pf.infoF HF.out) _ rfl rfl rfl rfl Pf.all ?_)
            | (go_at_call 25; (with_reducible refine (jn_ok x.1 HF.out HJ.out _ _ _ (HXR.out.below HK.out.mf.bel (Nat.le_refl _))).mono ?_); rintro e u ⟨A1, c1, rfl, hg, hb⟩; have hk := HK.out.gotAdd hb hg HXR.out; clear hg hb; clear HK; have HK := Lib.hid hk; clear hk)
            | ((with_reducible refine alloc_k HK.out f_zeroP rfl rfl ?_); intro b5 u hk; clear HK; have HK := Lib.hid hk; clear hk)
            | ((refine store_kr HK.out 0 (Pf.infoF HF.out) (Fd.one _) rfl rfl _ _ rfl rfl rfl rfl (Fd.leP zP_full HF.out) (Fd.setAllP zP_full HF.out) ?_); intro u hk; simp only [List.set_cons_zero] at hk; clear HK; have HK := Lib.hid hk; clear hk)
            | ((with_reducible refine buildF_k HK.out rfl _ rfl (Pf.len HF.out) rfl ?_); intro b6 u hk; clear HK; have HK := Lib.hid hk; clear hk)
            | ((refine push_k HK.out 3 0 f_info4 f_zsize (by decide) (by decide) Tryz.underlying22 rfl rfl (Pf.len HF.out) fd_ones rfl _ _ rfl rfl rfl HLE.out ?_); intro v' u hk; simp only [List.set_cons_zero, List.set_cons_succ] at hk; clear HK; have HK := Lib.hid hk; clear hk))
          have hk := HK.out.tail.tail.tail
          rw [of_push v' ts (x.1, A1, c1)] at hk
          have hk := hk.hqMore (c := c1) rfl
          go_roundw
          case rel => exact ⟨m + 1, _, by omega, by go_num, by rw [pfs_app, HTQ0.out, pfs_take HX.out], fun y hy => by
            rcases List.mem_append.1 hy with hy | hy
            · exact HTF.out y hy
            · rw [List.mem_singleton.1 hy]; exact HF.out, hk⟩
          case measure => simp [intOf]; omega
        · have HJ := Lib.hid (show joinPE x.1 x.1 = 1 ∧ joinP x.1 x.1 = zP from ⟨hj1, hj2⟩)
          have hB0 : B = false := by
            rw [← HBB.out, ← Bool.not_eq_true]
            intro hb
            have := (fields_is hb).2.1 x.1 (List.mem_map.2 ⟨x, List.mem_of_getElem? HX.out, rfl⟩)
            rw [hj3] at this; cases this
          obtain rfl := HBR.out.1 hB0
          subst hB0
          clear hj1 hj2 hj3
          go_wp2_with (first
            | (with_reducible refine load_kg Tryz.underlying43 rfl (Pf.infoF HF.out) _ rfl (rng_below HR.out HK.out.mf.bel) rfl rfl ?_)
            | (clear T1; (with_reducible refine alloc_k HK.out f_zeroP rfl rfl ?_); intro b4 u hk; clear HK; have HK := Lib.hid hk; clear hk)
            | (clear T2; (refine store_kr HK.out 0 (Pf.infoF HF.out) (Fd.one _) rfl rfl _ _ rfl rfl rfl rfl (Fd.leP zP_full HF.out) (Fd.setAllP zP_full HF.out) ?_); intro u hk; simp only [List.set_cons_zero] at hk; clear HK; have HK := Lib.hid hk; clear hk)
            | (with_reducible refine load_kr HK.out 0 Tryz.underlying43 rfl (Pf.infoF HF.out) _ rfl rfl rfl rfl Pf.all ?_)
            | (go_at_call 25; (with_reducible refine (jn_no x.1 HF.out HJ.out _ _ _ (HXR.out.below HK.out.mf.bel (Nat.le_refl _))).mono ?_); rintro e u ⟨A1, c1, rfl, hb⟩; have hk := HK.out.call hb; clear hb; clear HK; have HK := Lib.hid hk; clear hk)
            | ((with_reducible refine alloc_k HK.out f_zeroP rfl rfl ?_); intro b5 u hk; clear HK; have HK := Lib.hid hk; clear hk)
            | ((refine store_kr HK.out 0 (Pf.infoF zP_full) (Fd.one _) rfl rfl _ _ rfl rfl rfl rfl (Fd.leP zP_full zP_full) (Fd.setAllP zP_full zP_full) ?_); intro u hk; simp only [List.set_cons_zero] at hk; clear HK; have HK := Lib.hid hk; clear hk)
            | (go_at_call 15; (with_reducible refine (hrf _ (HD.out.below HK.out.mf.bel)).mono ?_); rintro e u ⟨rfl, hb⟩; have hk := HK.out.call hb; clear hb; clear HK; have HK := Lib.hid hk; clear hk)
            | (go_at_call 9; (with_reducible refine (awake_any _).mono ?_); rintro e u ⟨rfl, hb⟩; have hk := HK.out.call hb; clear hb; clear HK; have HK := Lib.hid hk; clear hk))
          go_ret
          exact ⟨rfl, HK.out.mf.bel⟩
      · obtain rfl : m = n0 := by omega
        have HTQ := Lib.hid (show pfs ts = pfs q0 by rw [HTQ0.out, ← HPL.out]; exact List.take_length)
        obtain ⟨A3, c3, rfl⟩ := og_len (HK.out.ogAt 0 rfl)
        by_cases he : E = 0
        · subst he
          obtain ⟨hg, hb, hr⟩ := HBR.out.2.2 rfl
          subst hg; subst hb; subst hr
          go_wp2_with (first
            | (with_reducible refine load_kr (xs := p1.cells) HK.out 1 Tryz.underlying24 rfl p_info _ rfl rfl rfl rfl Pl.all ?_)
            | (go_at_call 20; (with_reducible refine (ap_any p1 hP A3 ts.length c3 ts (by have := HTL.out; omega) (fits_of HTQ.out hN) (pfs q0) HTQ.out _ HE.out _ (of_fr (HK.out.ogAt 0 rfl) HTF.out (HK.out.see 0 rfl))).mono ?_); rintro e u ⟨A4, c4, ys, rfl, hb, hfr, hnew, h1, h2⟩; have hk := HK.out.frMade hb hfr hnew; have HAY := Lib.hid h1; have HNY := Lib.hid h2; clear hb hfr hnew h1 h2; clear HK; have HK := Lib.hid hk; clear hk)
            | (go_at_call 18; (with_reducible refine (hft _ (HD.out.below HK.out.mf.bel)).mono ?_); rintro e u ⟨rfl, hb⟩; have hk := HK.out.call hb; clear hb; clear HK; have HK := Lib.hid hk; clear hk)
            | (go_at_call 15; (with_reducible refine (hrf _ (HD.out.below HK.out.mf.bel)).mono ?_); rintro e u ⟨rfl, hb⟩; have hk := HK.out.call hb; clear hb; clear HK; have HK := Lib.hid hk; clear hk)
            | (go_at_call 17; (with_reducible refine (hrp _).mono ?_); rintro e u ⟨rfl, hb⟩; have hk := HK.out.call hb; clear hb; clear HK; have HK := Lib.hid hk; clear hk)
            | (go_at_call 26; (with_reducible refine (same13_two _ _ N _ _ _ xs ys HN1.out (app_one (goes_of HE.out) (HAP.out (by first | rfl | trivial)) (HAY.out (by first | rfl | trivial))) _ (HK.out.fr 2 rfl) (HK.out.fr 0 rfl)).mono ?_); rintro e u ⟨rfl, hb⟩; have hk := HK.out.call hb; clear hb; clear HK; have HK := Lib.hid hk; clear hk)
            | (go_at_call 9; (with_reducible refine (awake_any _).mono ?_); rintro e u ⟨rfl, hb⟩; have hk := HK.out.call hb; clear hb; clear HK; have HK := Lib.hid hk; clear hk))
          go_ret
          exact ⟨rfl, HK.out.mf.bel⟩
        · cases B with
          | false =>
            obtain rfl := HBR.out.1 rfl
            go_wp2_with (first
              | (with_reducible refine load_kr (xs := p1.cells) HK.out 1 Tryz.underlying24 rfl p_info _ rfl rfl rfl rfl Pl.all ?_)
              | (go_at_call 20; (with_reducible refine (ap_any p1 hP A3 ts.length c3 ts (by have := HTL.out; omega) (fits_of HTQ.out hN) (pfs q0) HTQ.out _ HE.out _ (of_fr (HK.out.ogAt 0 rfl) HTF.out (HK.out.see 0 rfl))).mono ?_); rintro e u ⟨A4, c4, ys, rfl, hb, hfr, hnew, h1, h2⟩; have hk := HK.out.frMade hb hfr hnew; have HAY := Lib.hid h1; have HNY := Lib.hid h2; clear hb hfr hnew h1 h2; clear HK; have HK := Lib.hid hk; clear hk)
              | (go_at_call 18; (with_reducible refine (hft _ (HD.out.below HK.out.mf.bel)).mono ?_); rintro e u ⟨rfl, hb⟩; have hk := HK.out.call hb; clear hb; clear HK; have HK := Lib.hid hk; clear hk)
              | (go_at_call 15; (with_reducible refine (hrf _ (HD.out.below HK.out.mf.bel)).mono ?_); rintro e u ⟨rfl, hb⟩; have hk := HK.out.call hb; clear hb; clear HK; have HK := Lib.hid hk; clear hk)
              | (go_at_call 17; (with_reducible refine (hrp _).mono ?_); rintro e u ⟨rfl, hb⟩; have hk := HK.out.call hb; clear hb; clear HK; have HK := Lib.hid hk; clear hk)
              | (go_at_call 9; (with_reducible refine (awake_any _).mono ?_); rintro e u ⟨rfl, hb⟩; have hk := HK.out.call hb; clear hb; clear HK; have HK := Lib.hid hk; clear hk))
            go_ret
            exact ⟨rfl, HK.out.mf.bel⟩
          | true =>
            cases R with
            | false =>
              obtain rfl := HBR.out.2.1 rfl rfl
              have HHE := Lib.hid he
              clear he
              go_wp2_with (first
                | (with_reducible refine load_kr (xs := p1.cells) HK.out 1 Tryz.underlying24 rfl p_info _ rfl rfl rfl rfl Pl.all ?_)
                | (go_at_call 20; (with_reducible refine (ap_any p1 hP A3 ts.length c3 ts (by have := HTL.out; omega) (fits_of HTQ.out hN) (pfs q0) HTQ.out _ HE.out _ (of_fr (HK.out.ogAt 0 rfl) HTF.out (HK.out.see 0 rfl))).mono ?_); rintro e u ⟨A4, c4, ys, rfl, hb, hfr, hnew, h1, h2⟩; have hk := HK.out.frMade hb hfr hnew; have HAY := Lib.hid h1; have HNY := Lib.hid h2; clear hb hfr hnew h1 h2; clear HK; have HK := Lib.hid hk; clear hk)
                | (go_at_call 18; (with_reducible refine (hft _ (HD.out.below HK.out.mf.bel)).mono ?_); rintro e u ⟨rfl, hb⟩; have hk := HK.out.call hb; clear hb; clear HK; have HK := Lib.hid hk; clear hk)
                | (go_at_call 15; (with_reducible refine (hrf _ (HD.out.below HK.out.mf.bel)).mono ?_); rintro e u ⟨rfl, hb⟩; have hk := HK.out.call hb; clear hb; clear HK; have HK := Lib.hid hk; clear hk)
                | (go_at_call 17; (with_reducible refine (hrp _).mono ?_); rintro e u ⟨rfl, hb⟩; have hk := HK.out.call hb; clear hb; clear HK; have HK := Lib.hid hk; clear hk)
                | (go_at_call 26; (with_reducible refine (same13_two _ _ N _ _ _ xs ys HN1.out (by rw [HNO.out HHE.out, HNY.out HHE.out]) _ (HK.out.fr 2 rfl) (HK.out.fr 0 rfl)).mono ?_); rintro e u ⟨rfl, hb⟩; have hk := HK.out.call hb; clear hb; clear HK; have HK := Lib.hid hk; clear hk)
                | (go_at_call 9; (with_reducible refine (awake_any _).mono ?_); rintro e u ⟨rfl, hb⟩; have hk := HK.out.call hb; clear hb; clear HK; have HK := Lib.hid hk; clear hk))
              go_ret
              exact ⟨rfl, HK.out.mf.bel⟩
            | true =>
              have HHE := Lib.hid he
              have he' : (E == 0) = false := by simpa using he
              clear he
              go_wp2_with (first
                | (with_reducible refine load_kr (xs := p1.cells) HK.out 1 Tryz.underlying24 rfl p_info _ rfl rfl rfl rfl Pl.all ?_)
                | (go_at_call 20; (with_reducible refine (ap_any p1 hP A3 ts.length c3 ts (by have := HTL.out; omega) (fits_of HTQ.out hN) (pfs q0) HTQ.out _ HE.out _ (of_fr (HK.out.ogAt 0 rfl) HTF.out (HK.out.see 0 rfl))).mono ?_); rintro e u ⟨A4, c4, ys, rfl, hb, hfr, hnew, h1, h2⟩; have hk := HK.out.frMade hb hfr hnew; have HAY := Lib.hid h1; have HNY := Lib.hid h2; clear hb hfr hnew h1 h2; clear HK; have HK := Lib.hid hk; clear hk)
                | (go_at_call 18; (with_reducible refine (hft _ (HD.out.below HK.out.mf.bel)).mono ?_); rintro e u ⟨rfl, hb⟩; have hk := HK.out.call hb; clear hb; clear HK; have HK := Lib.hid hk; clear hk)
                | (go_at_call 15; (with_reducible refine (hrf _ (HD.out.below HK.out.mf.bel)).mono ?_); rintro e u ⟨rfl, hb⟩; have hk := HK.out.call hb; clear hb; clear HK; have HK := Lib.hid hk; clear hk)
                | (go_at_call 17; (with_reducible refine (hrp _).mono ?_); rintro e u ⟨rfl, hb⟩; have hk := HK.out.call hb; clear hb; clear HK; have HK := Lib.hid hk; clear hk)
                | (go_at_call 26; (with_reducible refine (same13_two _ _ N _ _ _ xs ys HN1.out (by rw [HNO.out HHE.out, HNY.out HHE.out]) _ (HK.out.fr 2 rfl) (HK.out.fr 0 rfl)).mono ?_); rintro e u ⟨rfl, hb⟩; have hk := HK.out.call hb; clear hb; clear HK; have HK := Lib.hid hk; clear hk)
                | (go_at_call 9; (with_reducible refine (awake_any _).mono ?_); rintro e u ⟨rfl, hb⟩; have hk := HK.out.call hb; clear hb; clear HK; have HK := Lib.hid hk; clear hk))
              go_ret
              exact ⟨rfl, HK.out.mf.bel⟩

set_option maxRecDepth 100000 in
theorem lifted (os : Os) (started : os.Started) (H : Type) (enc : TypeId × Value → H) :
    ReturnsInHanded {} Tryz.checked os 7 .any (Rows.planOnceSpec.pre6 enc Tryz.prog Tryz.f7 Rows.planOnceRow.domain false) (Rows.planOnceSpec.post enc Tryz.prog Tryz.f7 false true false false) := by
  refine returnsInHanded_of_change (C := Tryz.checked) own started (by kernel_rfl) Tryz.func7
    (ChangeSpec.witness6 (enc := enc) (C := Tryz.checked) false ⟨#[], #[.slice none 0 0, .agg (Pl.cells ⟨0, ⟨#[]⟩, ⟨#[]⟩, 0, 0⟩).toArray], []⟩ 12 (by kernel_rfl) (by kernel_rfl) (by kernel_rfl) (by kernel_rfl)) ?_
  intro W base args ds gs before hval0 hW hcnd _
  have hval : ∀ (j : Nat) t v, Tryz.f7.params[j]? = some t → args[j]? = some v → Value.okWide Tryz.prog W .any base t v := hval0
  have hW' := hW
  obtain ⟨p, q, hA0, hV, rfl, hfz, hnd⟩ := hW
  have hA : DataW.TrodAll enc Tryz.prog W 0 (fun _ => true) true Tryz.f7.params.toList args.toList ds p := hA0
  rw [Tryz.params7] at hA hval
  obtain ⟨v0, vs0, d0, ds0, q0, r0, hargs, rfl, rfl, h0, t0⟩ := trodAll_cons hA
  obtain ⟨v1, vs1, d1, ds1, q1, r1, rfl, rfl, rfl, h1, t1⟩ := trodAll_cons t0
  obtain ⟨rfl, rfl, rfl⟩ := trodAll_nil t1
  obtain rfl : args = #[v0, v1] := by cases args; simp_all
  obtain ⟨rfl, rfl⟩ := trodVars_none hV
  have k0 := h0
  have lt0 : ∀ x ∈ q0, x.block < W.heap.size := by obtain ⟨m, hm⟩ := k0; exact DataW.trod_lt m _ _ _ hm
  obtain ⟨A0, n0, c0, y0, rfl, hd0, _⟩ := open_fs (hval 0 22 v0 rfl rfl) h0
  have k1 := h1
  have lt1 : ∀ x ∈ q1, x.block < W.heap.size := by obtain ⟨m, hm⟩ := k1; exact DataW.trod_lt m _ _ _ hm
  obtain ⟨p1, rfl, hk1, ha1, hb1⟩ := open_p (hval 1 24 v1 rfl rfl) h1
  clear hA0 hval0
  refine (walk W A0 n0 c0 y0 hd0 p1 hk1 ha1 hb1).mono fun e W' ⟨he, bel⟩ => ?_
  subst he
  exact ⟨_, rfl, _, _, _, [], _, [], hW', trodAll_mk1 (shut_bool Tryz.underlying4 _), (trodAll_cons_mk (Below.trod laidOut (by kernel_rfl) (of_decide_eq_true (by kernel_rfl)) k0 bel lt0) (trodAll_cons_mk (Below.trod laidOut (by kernel_rfl) (of_decide_eq_true (by kernel_rfl)) k1 bel lt1) trodAll_mk0)), rfl, bel.frame _, fun h => by cases h⟩

theorem over : Rows.planOnceRow.holds Tryz.pinned (OpenSpec.ofChange Rows.planOnceSpec) :=
  OpenClaim.holds_of_wide 7 Tryz.f7 rfl rfl rfl rfl rfl rfl rfl ⟨rfl, rfl, rfl, rfl, rfl⟩ rfl rfl rfl rfl rfl (by kernel_rfl) Tryz.func7 (by kernel_rfl)
    (of_decide_eq_true (by kernel_rfl)) (by unfold Func.isWrapper; first | (rw [if_pos (by decide +kernel)]; kernel_rfl) | (rw [if_neg (by decide +kernel)]; exact ⟨rfl, rfl⟩))
    (fun os started H enc _ => lifted os started H enc)

theorem proved : Rows.PlanOnceSaid := over
#print axioms proved
end Go.Proofs.YtgblnlpfgdbnnaaGreat.planOnce
