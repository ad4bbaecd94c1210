/- Any values within the new bounds are, seen as the plan sees them, within the old ones; the value now is within the new ones. No condition. -/
import Derived.Test.YtgblnlpfgdbnnaaGreatZ21
import Derived.Test.YtgblnlpfgdbnnaaGreatZ36
namespace Go.Proofs.YtgblnlpfgdbnnaaGreat.planBounds
open Go.ChangeShapes Go.WideShapes Go.ChangeAt Go.RowKit
set_option linter.unusedVariables false

theorem own : ownKnob Tryz.prog.godebug = none := by kernel_rfl
theorem laidOut : laidOutB Tryz.prog = true := by kernel_rfl

set_option maxRecDepth 100000 in
set_option maxHeartbeats 16000000 in
theorem walk (w : World) (A0 : Option Addr) (n0 c0 : Nat) (q0 : List Q) (hd0 : CR w A0 n0 q0) (p1 : Pl) (hk1 : ok64W p1.k) (ha1 : ok64W p1.a) (hb1 : ok64W p1.b) (a2 : Int) (w2 : (Lit.int .i64 a2).wf = true) (a3 : Int) (w3 : (Lit.int .i64 a3).wf = true) :
    Calls Tryz.prog 5 #[.slice A0 n0 c0, .agg p1.cells.toArray, .int .i64 a2, .int .i64 a3] w fun e w' => e = .returned (.bool true) ∧ Below w.heap.size w w' := by
  have HK := Lib.hid (Kg.start w)
  have HC := Lib.hid hd0
  have hfw := fun w h => few13_any p1 A0 n0 c0 q0 w h
  cases hf : fewLF n0 q0 p1 with
  | false =>
    rw [hf] at hfw
    clear hf hd0
    go_enter Tryz.func5, Tryz.ntmps5
    go_wp2_with (first
      | ((with_reducible refine box_k (cs := p1.cells) HK.out rfl _ rfl rfl ?_); intro bp u hk; clear HK; have HK := Lib.hid hk; clear hk)
      | (with_reducible refine load_kr (xs := p1.cells) HK.out 0 Tryz.underlying24 rfl p_info _ rfl rfl rfl rfl Pl.all ?_)
      | (go_at_call 8; (with_reducible refine (hfw _ (cr_below HC.out HK.out.mf.bel)).mono ?_); rintro e u ⟨rfl, hb⟩; have hk := HK.out.call hb; clear hb; clear HK; have HK := Lib.hid hk; clear hk)
      | (go_at_call 9; (with_reducible refine (awake_any _).mono ?_); rintro e u ⟨rfl, hb⟩; have hk := HK.out.call hb; clear hb; clear HK; have HK := Lib.hid hk; clear hk))
    go_ret
    exact ⟨rfl, HK.out.mf.bel⟩
  | true =>
    rw [hf] at hfw
    obtain ⟨hn, hq, hnm, hot⟩ := fewf_is hf
    clear hf
    by_cases c1 : a2 < -2199023255552
    · have k1 : decide (a2 < -2199023255552) = true := decide_eq_true c1
      clear c1 hd0 hq
      go_enter Tryz.func5, Tryz.ntmps5
      go_wp2_with (first
        | ((with_reducible refine box_k (cs := p1.cells) HK.out rfl _ rfl rfl ?_); intro bp u hk; clear HK; have HK := Lib.hid hk; clear hk)
        | (with_reducible refine load_kr (xs := p1.cells) HK.out 0 Tryz.underlying24 rfl p_info _ rfl rfl rfl rfl Pl.all ?_)
        | (go_at_call 8; (with_reducible refine (hfw _ (cr_below HC.out HK.out.mf.bel)).mono ?_); rintro e u ⟨rfl, hb⟩; have hk := HK.out.call hb; clear hb; clear HK; have HK := Lib.hid hk; clear hk)
        | (go_at_call 9; (with_reducible refine (awake_any _).mono ?_); rintro e u ⟨rfl, hb⟩; have hk := HK.out.call hb; clear hb; clear HK; have HK := Lib.hid hk; clear hk))
      go_ret
      exact ⟨rfl, HK.out.mf.bel⟩
    · by_cases c2 : 2199023255552 < a2
      · have k1 : decide (a2 < -2199023255552) = false := decide_eq_false c1
        have k2 : decide (2199023255552 < a2) = true := decide_eq_true c2
        clear c1 c2 hd0 hq
        go_enter Tryz.func5, Tryz.ntmps5
        go_wp2_with (first
          | ((with_reducible refine box_k (cs := p1.cells) HK.out rfl _ rfl rfl ?_); intro bp u hk; clear HK; have HK := Lib.hid hk; clear hk)
          | (with_reducible refine load_kr (xs := p1.cells) HK.out 0 Tryz.underlying24 rfl p_info _ rfl rfl rfl rfl Pl.all ?_)
          | (go_at_call 8; (with_reducible refine (hfw _ (cr_below HC.out HK.out.mf.bel)).mono ?_); rintro e u ⟨rfl, hb⟩; have hk := HK.out.call hb; clear hb; clear HK; have HK := Lib.hid hk; clear hk)
          | (go_at_call 9; (with_reducible refine (awake_any _).mono ?_); rintro e u ⟨rfl, hb⟩; have hk := HK.out.call hb; clear hb; clear HK; have HK := Lib.hid hk; clear hk))
        go_ret
        exact ⟨rfl, HK.out.mf.bel⟩
      · by_cases c3 : a3 < -2199023255552
        · have k1 : decide (a2 < -2199023255552) = false := decide_eq_false c1
          have k2 : decide (2199023255552 < a2) = false := decide_eq_false c2
          have k3 : decide (a3 < -2199023255552) = true := decide_eq_true c3
          clear c1 c2 c3 hd0 hq
          go_enter Tryz.func5, Tryz.ntmps5
          go_wp2_with (first
            | ((with_reducible refine box_k (cs := p1.cells) HK.out rfl _ rfl rfl ?_); intro bp u hk; clear HK; have HK := Lib.hid hk; clear hk)
            | (with_reducible refine load_kr (xs := p1.cells) HK.out 0 Tryz.underlying24 rfl p_info _ rfl rfl rfl rfl Pl.all ?_)
            | (go_at_call 8; (with_reducible refine (hfw _ (cr_below HC.out HK.out.mf.bel)).mono ?_); rintro e u ⟨rfl, hb⟩; have hk := HK.out.call hb; clear hb; clear HK; have HK := Lib.hid hk; clear hk)
            | (go_at_call 9; (with_reducible refine (awake_any _).mono ?_); rintro e u ⟨rfl, hb⟩; have hk := HK.out.call hb; clear hb; clear HK; have HK := Lib.hid hk; clear hk))
          go_ret
          exact ⟨rfl, HK.out.mf.bel⟩
        · by_cases c4 : 2199023255552 < a3
          · have k1 : decide (a2 < -2199023255552) = false := decide_eq_false c1
            have k2 : decide (2199023255552 < a2) = false := decide_eq_false c2
            have k3 : decide (a3 < -2199023255552) = false := decide_eq_false c3
            have k4 : decide (2199023255552 < a3) = true := decide_eq_true c4
            clear c1 c2 c3 c4 hd0 hq
            go_enter Tryz.func5, Tryz.ntmps5
            go_wp2_with (first
              | ((with_reducible refine box_k (cs := p1.cells) HK.out rfl _ rfl rfl ?_); intro bp u hk; clear HK; have HK := Lib.hid hk; clear hk)
              | (with_reducible refine load_kr (xs := p1.cells) HK.out 0 Tryz.underlying24 rfl p_info _ rfl rfl rfl rfl Pl.all ?_)
              | (go_at_call 8; (with_reducible refine (hfw _ (cr_below HC.out HK.out.mf.bel)).mono ?_); rintro e u ⟨rfl, hb⟩; have hk := HK.out.call hb; clear hb; clear HK; have HK := Lib.hid hk; clear hk)
              | (go_at_call 9; (with_reducible refine (awake_any _).mono ?_); rintro e u ⟨rfl, hb⟩; have hk := HK.out.call hb; clear hb; clear HK; have HK := Lib.hid hk; clear hk))
            go_ret
            exact ⟨rfl, HK.out.mf.bel⟩
          · have k1 : decide (a2 < -2199023255552) = false := decide_eq_false c1
            have k2 : decide (2199023255552 < a2) = false := decide_eq_false c2
            have k3 : decide (a3 < -2199023255552) = false := decide_eq_false c3
            have k4 : decide (2199023255552 < a3) = false := decide_eq_false c4
            have HD := Lib.hid (hd0.fr fun x hx => by have := (hq x hx).2; omega)
            have hN : Fits1000 q0 := fun x hx => by have := (hq x hx).1; omega
            have hP : PlOk p1 := ⟨by omega, by omega, hk1⟩
            have hn' : n0 ≤ 1000 := by omega
            have HPL := Lib.hid (show (pfs q0).length = n0 by rw [pfs_len]; exact hd0.1)
            obtain ⟨E, hE⟩ : ∃ E, appE (pfs q0) p1 = E := ⟨_, rfl⟩
            have HE := Lib.hid hE
            clear hE hq hnm hot hd0 hk1 ha1 hb1
            go_enter Tryz.func5, Tryz.ntmps5
            go_wp2_with (first
              | ((with_reducible refine box_k (cs := p1.cells) HK.out rfl _ rfl rfl ?_); intro bp u hk; clear HK; have HK := Lib.hid hk; clear hk)
              | (with_reducible refine load_kr (xs := p1.cells) HK.out 0 Tryz.underlying24 rfl p_info _ rfl rfl rfl rfl Pl.all ?_)
              | (go_at_call 8; (with_reducible refine (hfw _ (cr_below HC.out HK.out.mf.bel)).mono ?_); rintro e u ⟨rfl, hb⟩; have hk := HK.out.call hb; clear hb; clear HK; have HK := Lib.hid hk; clear hk)
              | (go_at_call 9; (with_reducible refine (awake_any _).mono ?_); rintro e u ⟨rfl, hb⟩; have hk := HK.out.call hb; clear hb; clear HK; have HK := Lib.hid hk; clear hk))
            refine Draws.start (S := fun u => Kg w (fun _ => False) [Th.cel bp 24 p1.cells] [] u) (n := 9) 9 rfl (by kernel_rfl) ?_
            have HS := Lib.hid (show (fun u => Kg w (fun _ => False) [Th.cel bp 24 p1.cells] [] u) (World.drew _) from HK.out.drew)
            refine Draws.take 0 (v := ?v1) HS.out rfl (by kernel_rfl) (fun _ _ _ h => h) (Or.inl ⟨rfl, ?h1⟩) ?r1
            case h1 => intro w' hw'; go_simp; (try with_reducible rfl)
            (try simp only [Act.put, lsA, lsB, lsC])
            refine Draws.take 2 HS.out rfl (by kernel_rfl) (fun _ _ _ h => h) (yield_kr Tryz.underlying24 rfl p_info (fun _ h => (h.celAt 0 rfl).range Pl.all) _ rfl rfl rfl) ?_
            (try simp only [Act.put, lsA, lsB, lsC])
            refine Draws.does 1 rfl (by kernel_rfl) rfl (fun K' hK => ?_)
            go_simp
            go_at_call 21
            refine (ow_any A0 n0 c0 q0 hn' _ (HD.out.below HS.out.mf.bel)).mono ?_
            rintro e u ⟨A1, c1, q1, rfl, hb, hfr, hnew, hpf⟩
            (try dsimp only)
            have hk := HS.out.frMade hb hfr hnew
            have HPF := Lib.hid (show pfs q1 = pfs q0 from hpf)
            clear HK; have HK := Lib.hid hk
            clear HS; have HS := Lib.hid (show (fun u => Kg w (fun _ => False) [Th.cel bp 24 p1.cells] [] u) _ from hk.sub (by simp))
            clear hk hb hfr hnew hpf
            refine hK.out _ _ (fun _ => HS.out) ?_
            clear hK K'
            (try simp only [Act.put, lsA, lsB, lsC])
            refine Draws.does 3 rfl (by kernel_rfl) rfl (fun K' hK => ?_)
            go_simp
            go_at_call 20
            refine (ap_any p1 hP A1 n0 c1 q1 (by omega) (fits_of HPF.out hN) (pfs q0) HPF.out E HE.out _ (HK.out.fr 0 rfl)).mono ?_
            rintro e u ⟨A2, c2, xs, rfl, hb, hfr, hnew, h1, h2⟩
            (try dsimp only)
            have hk := HS.out.frMade hb hfr hnew
            have HAP := Lib.hid h1
            have HNO := Lib.hid h2
            clear HK; have HK := Lib.hid hk
            clear HS; have HS := Lib.hid (show (fun u => Kg w (fun _ => False) [Th.cel bp 24 p1.cells] [] u) _ from hk.sub (by simp))
            clear hk hb hfr hnew h1 h2
            refine hK.out _ _ (fun _ => HS.out) ?_
            clear hK K'
            (try simp only [Act.put, lsA, lsB, lsC])
            refine Draws.take 4 (v := ?v2) HS.out rfl (by kernel_rfl) (fun _ _ _ h => h) (Or.inl ⟨rfl, ?h2⟩) ?r2
            case h2 => intro w' hw'; go_simp; (try with_reducible rfl)
            (try simp only [Act.put, lsA, lsB, lsC])
            refine Draws.take 5 (v := ?v3) HS.out rfl (by kernel_rfl) (fun _ _ _ h => h) (Or.inl ⟨rfl, ?h3⟩) ?r3
            case h3 => intro w' hw'; go_simp; (try with_reducible rfl)
            (try simp only [Act.put, lsA, lsB, lsC])
            refine Draws.take 6 (v := ?v4) HS.out rfl (by kernel_rfl) (fun _ _ _ h => h) (Or.inl ⟨rfl, ?h4⟩) ?r4
            case h4 => intro w' hw'; go_simp; (try with_reducible rfl)
            (try simp only [Act.put, lsA, lsB, lsC])
            refine Draws.take 7 (v := ?v5) HS.out rfl (by kernel_rfl) (fun _ _ _ h => h) (Or.inl ⟨rfl, ?h5⟩) ?r5
            case h5 => intro w' hw'; go_simp; (try with_reducible rfl)
            (try simp only [Act.put, lsA, lsB, lsC])
            refine Draws.take 8 (v := ?v6) HS.out rfl (by kernel_rfl) (fun _ _ _ h => h) (Or.inl ⟨rfl, ?h6⟩) ?r6
            case h6 => intro w' hw'; go_simp; (try with_reducible rfl)
            (try simp only [Act.put, lsA, lsB, lsC])
            refine Draws.done (by kernel_rfl) ?_
            by_cases he : E = 0
            · subst he
              have HG := Lib.hid (goes_of HE.out)
              have HAA := Lib.hid (HAP.out rfl)
              have HXF := Lib.hid (app_fields HG.out HAA.out)
              obtain ⟨hxN, hx4, _⟩ := fits_right HXF.out
              obtain ⟨X, Y, hXY⟩ := bounds_of HG.out HAA.out
              have HBN := Lib.hid hXY
              obtain ⟨N, hNN⟩ : ∃ N, xs.length = N := ⟨_, rfl⟩
              rw [hNN] at hx4
              simp only [hNN] at HK
              rw [hNN]
              clear HS hNN hXY
              obtain ⟨x, hx, hxX⟩ := pfs_get HBN.out.atx
              obtain ⟨y, hy, hyY⟩ := pfs_get HBN.out.aty
              have HXX := Lib.hid hxX
              have HYY := Lib.hid hyY
              have hon := fun w h => one_any A0 n0 c0 q0 p1.nm hn' x HBN.out.isx hx w h
              have hon2 := fun w h => one_any A2 N c2 xs p1.nm (by omega) y HBN.out.isy hy w h
              have HFX := Lib.hid (HD.out.full hx)
              have HFY := Lib.hid ((HK.out.fr 0 rfl).full hy)
              have hv2 := fun w => rview_q y.1 HFY.out y.2.1 y.2.2 w
              have T1 := True.intro; have T2 := True.intro; have T3 := True.intro; have T4 := True.intro
              clear hx hy hxX hyY hxN
              go_wp2_with (first
                | (with_reducible refine load_k1 HK.out 0 ckS _ rfl rfl rfl rfl Pl.c1 ?_)
                | (with_reducible refine load_k1 HK.out 1 ckS _ rfl rfl rfl rfl Pl.c1 ?_)
                | (go_at_call 23; (with_reducible refine (hon _ (HD.out.below HK.out.mf.bel)).mono ?_); rintro e u ⟨rfl, hb⟩; have hk := HK.out.call hb; clear hb; clear HK; have HK := Lib.hid hk; clear hk)
                | (clear T1; (with_reducible refine alloc_k HK.out f_zeroP rfl rfl ?_); intro b4 u hk; clear HK; have HK := Lib.hid hk; clear hk)
                | (clear T2; (refine store_kr HK.out 0 (Pf.infoF HFX.out) (Fd.one _) rfl rfl _ _ rfl rfl rfl rfl (Fd.leP zP_full HFX.out) (Fd.setAllP zP_full HFX.out) ?_); intro u hk; simp only [List.set_cons_zero] at hk; clear HK; have HK := Lib.hid hk; clear hk)
                | (go_at_call 23; (with_reducible refine (hon2 _ (HK.out.fr 0 rfl)).mono ?_); rintro e u ⟨rfl, hb⟩; have hk := HK.out.call hb; clear hb; clear HK; have HK := Lib.hid hk; clear hk)
                | (clear T3; (with_reducible refine alloc_k HK.out f_zeroP rfl rfl ?_); intro b5 u hk; clear HK; have HK := Lib.hid hk; clear hk)
                | (clear T4; (refine store_kr HK.out 0 (Pf.infoF HFY.out) (Fd.one _) rfl rfl _ _ rfl rfl rfl rfl (Fd.leP zP_full HFY.out) (Fd.setAllP zP_full HFY.out) ?_); intro u hk; simp only [List.set_cons_zero] at hk; clear HK; have HK := Lib.hid hk; clear hk))
              have hk := HK.out.sub (ro' := [Th.fr A2 N xs]) (by simp)
              clear HK; have HK := Lib.hid hk; clear hk
              apply two_steps (C := fun b15 b16 u => Kg w (fun _ => False) [Th.cel b16 38 (vals y.1.C), Th.cel b15 38 (vals x.1.C), Th.cel b5 43 (y.1.fd y.2.1 y.2.2).cells, Th.cel b4 43 (x.1.fd x.2.1 x.2.2).cells, Th.cel bp 24 p1.cells] [Th.fr A2 N xs] u)
              case draw =>
                intro rest
                refine Draws.start (S := fun u => Kg w (fun _ => False) [Th.cel b5 43 (y.1.fd y.2.1 y.2.2).cells, Th.cel b4 43 (x.1.fd x.2.1 x.2.2).cells, Th.cel bp 24 p1.cells] [Th.fr A2 N xs] u) (n := 8) 8 rfl (by kernel_rfl) ?_
                have HS := Lib.hid (show (fun u => Kg w (fun _ => False) [Th.cel b5 43 (y.1.fd y.2.1 y.2.2).cells, Th.cel b4 43 (x.1.fd x.2.1 x.2.2).cells, Th.cel bp 24 p1.cells] [Th.fr A2 N xs] u) (World.drew _) from HK.out.drew)
                refine Draws.take 0 (v := ?v7) HS.out rfl (by kernel_rfl) (fun _ _ _ h => h) (Or.inl ⟨rfl, ?h7⟩) ?r7
                case h7 => intro w' hw'; go_simp; (try with_reducible rfl)
                (try simp only [Act.put, lsA, lsB, lsC])
                refine Draws.take 1 HS.out rfl (by kernel_rfl) (fun _ _ _ h => h) (yield_kr Tryz.underlying38 rfl (Pf.infoC HFX.out) (fun _ h => (h.celAt 1 rfl).range Pf.cC) _ rfl rfl rfl) ?_
                (try simp only [Act.put, lsA, lsB, lsC])
                refine Draws.take 2 (v := ?v8) HS.out rfl (by kernel_rfl) (fun _ _ _ h => h) (Or.inl ⟨rfl, ?h8⟩) ?r8
                case h8 => intro w' hw'; go_simp; (try with_reducible rfl)
                (try simp only [Act.put, lsA, lsB, lsC])
                refine Draws.take 3 HS.out rfl (by kernel_rfl) (fun _ _ _ h => h) (yield_kr Tryz.underlying38 rfl (Pf.infoC HFY.out) (fun _ h => (h.celAt 0 rfl).range Pf.cC) _ rfl rfl rfl) ?_
                (try simp only [Act.put, lsA, lsB, lsC])
                have HK := Lib.hid HS.out
                refine Draws.either 4 5 rfl rfl (by kernel_rfl) rfl rfl (fun K' hK => ?_) (fun K' hK => ?_)
                · refine wp_alloc_k HK.out c_zeroF rfl ?_
                  intro b15 u hk
                  have HK := Lib.hid hk; clear hk
                  clear HS; have HS := Lib.hid (show (fun u => Kg w (fun _ => False) [Th.cel b5 43 (y.1.fd y.2.1 y.2.2).cells, Th.cel b4 43 (x.1.fd x.2.1 x.2.2).cells, Th.cel bp 24 p1.cells] [Th.fr A2 N xs] u) _ from HK.out.tail)
                  refine hK.out _ _ (fun _ => HS.out) ?_
                  clear hK K'
                  (try simp only [Act.put, lsA, lsB, lsC])
                  refine Draws.does 5 rfl (by kernel_rfl) rfl (fun K' hK => ?_)
                  refine wp_alloc_k HK.out c_zeroF rfl ?_
                  intro b16 u hk
                  have HK := Lib.hid hk; clear hk
                  clear HS; have HS := Lib.hid (show (fun u => Kg w (fun _ => False) [Th.cel b5 43 (y.1.fd y.2.1 y.2.2).cells, Th.cel b4 43 (x.1.fd x.2.1 x.2.2).cells, Th.cel bp 24 p1.cells] [Th.fr A2 N xs] u) _ from HK.out.tail.tail)
                  refine hK.out _ _ (fun _ => HS.out) ?_
                  clear hK K'
                  (try simp only [Act.put, lsA, lsB, lsC])
                  refine Draws.does 6 rfl (by kernel_rfl) rfl (fun K' hK => ?_)
                  refine wp_store_kr HK.out 1 (Pf.infoC HFX.out) (vals_all _) rfl _ _ rfl rfl rfl rfl (vC_le HFX.out) (vC_put HFX.out) ?_
                  intro u hk
                  simp only [List.set_cons_zero, List.set_cons_succ] at hk
                  have HK := Lib.hid hk; clear hk
                  clear HS; have HS := Lib.hid (show (fun u => Kg w (fun _ => False) [Th.cel b5 43 (y.1.fd y.2.1 y.2.2).cells, Th.cel b4 43 (x.1.fd x.2.1 x.2.2).cells, Th.cel bp 24 p1.cells] [Th.fr A2 N xs] u) _ from HK.out.tail.tail)
                  refine hK.out _ _ (fun _ => HS.out) ?_
                  clear hK K'
                  (try simp only [Act.put, lsA, lsB, lsC])
                  refine Draws.does 7 rfl (by kernel_rfl) rfl (fun K' hK => ?_)
                  refine wp_store_kr HK.out 0 (Pf.infoC HFY.out) (vals_all _) rfl _ _ rfl rfl rfl rfl (vC_le HFY.out) (vC_put HFY.out) ?_
                  intro u hk
                  simp only [List.set_cons_zero] at hk
                  have HK := Lib.hid hk; clear hk
                  clear HS; have HS := Lib.hid (show (fun u => Kg w (fun _ => False) [Th.cel b5 43 (y.1.fd y.2.1 y.2.2).cells, Th.cel b4 43 (x.1.fd x.2.1 x.2.2).cells, Th.cel bp 24 p1.cells] [Th.fr A2 N xs] u) _ from HK.out.tail.tail)
                  refine hK.out _ _ (fun _ => HS.out) ?_
                  clear hK K'
                  (try simp only [Act.put, lsA, lsB, lsC])
                  refine Draws.done (by kernel_rfl) ?_
                  exact rest b15 b16 _ HK.out
                · refine wp_alloc_k HK.out c_zeroF rfl ?_
                  intro b16 u hk
                  have HK := Lib.hid hk; clear hk
                  clear HS; have HS := Lib.hid (show (fun u => Kg w (fun _ => False) [Th.cel b5 43 (y.1.fd y.2.1 y.2.2).cells, Th.cel b4 43 (x.1.fd x.2.1 x.2.2).cells, Th.cel bp 24 p1.cells] [Th.fr A2 N xs] u) _ from HK.out.tail)
                  refine hK.out _ _ (fun _ => HS.out) ?_
                  clear hK K'
                  (try simp only [Act.put, lsA, lsB, lsC])
                  refine Draws.does 4 rfl (by kernel_rfl) rfl (fun K' hK => ?_)
                  refine wp_alloc_k HK.out c_zeroF rfl ?_
                  intro b15 u hk
                  have HK := Lib.hid hk; clear hk
                  clear HS; have HS := Lib.hid (show (fun u => Kg w (fun _ => False) [Th.cel b5 43 (y.1.fd y.2.1 y.2.2).cells, Th.cel b4 43 (x.1.fd x.2.1 x.2.2).cells, Th.cel bp 24 p1.cells] [Th.fr A2 N xs] u) _ from HK.out.tail.tail)
                  refine hK.out _ _ (fun _ => HS.out) ?_
                  clear hK K'
                  (try simp only [Act.put, lsA, lsB, lsC])
                  refine Draws.does 6 rfl (by kernel_rfl) rfl (fun K' hK => ?_)
                  refine wp_store_kr HK.out 0 (Pf.infoC HFX.out) (vals_all _) rfl _ _ rfl rfl rfl rfl (vC_le HFX.out) (vC_put HFX.out) ?_
                  intro u hk
                  simp only [List.set_cons_zero] at hk
                  have HK := Lib.hid hk; clear hk
                  clear HS; have HS := Lib.hid (show (fun u => Kg w (fun _ => False) [Th.cel b5 43 (y.1.fd y.2.1 y.2.2).cells, Th.cel b4 43 (x.1.fd x.2.1 x.2.2).cells, Th.cel bp 24 p1.cells] [Th.fr A2 N xs] u) _ from HK.out.tail.tail)
                  refine hK.out _ _ (fun _ => HS.out) ?_
                  clear hK K'
                  (try simp only [Act.put, lsA, lsB, lsC])
                  refine Draws.does 7 rfl (by kernel_rfl) rfl (fun K' hK => ?_)
                  refine wp_store_kr HK.out 1 (Pf.infoC HFY.out) (vals_all _) rfl _ _ rfl rfl rfl rfl (vC_le HFY.out) (vC_put HFY.out) ?_
                  intro u hk
                  simp only [List.set_cons_zero, List.set_cons_succ] at hk
                  have HK := Lib.hid hk; clear hk
                  clear HS; have HS := Lib.hid (show (fun u => Kg w (fun _ => False) [Th.cel b5 43 (y.1.fd y.2.1 y.2.2).cells, Th.cel b4 43 (x.1.fd x.2.1 x.2.2).cells, Th.cel bp 24 p1.cells] [Th.fr A2 N xs] u) _ from HK.out.tail.tail)
                  refine hK.out _ _ (fun _ => HS.out) ?_
                  clear hK K'
                  (try simp only [Act.put, lsA, lsB, lsC])
                  refine Draws.done (by kernel_rfl) ?_
                  exact rest b15 b16 _ HK.out.swap
              case rest =>
                intro b15 b16 u hk
                have HK := Lib.hid hk; clear hk
                have okx := HBN.out.okx
                rw [← HXX.out] at okx
                by_cases hk1 : p1.k = 1
                · obtain ⟨hyk, e1, e2⟩ := HBN.out.k1 hk1
                  rw [← HYY.out] at hyk e1 e2
                  rw [← HXX.out] at e1 e2
                  obtain ⟨n1, n2⟩ := HBN.out.now (by rw [← HYY.out]; exact hyk)
                  rw [← HYY.out] at n1 n2
                  have m1 : decide (vN y.1 < loP y.1) = false := by rw [decide_eq_false_iff_not]; omega
                  have m2 : decide (hiP y.1 < vN y.1) = false := by rw [decide_eq_false_iff_not]; omega
                  have y1 : (y.1.k == 1) = true := by rw [hyk]; rfl
                  clear n1 n2 hyk
                  have q1 : (p1.k == 1) = true := by rw [hk1]; rfl
                  clear hk1
                  by_cases v1 : a2 < loP y.1
                  · have r1 : decide (a2 < loP y.1) = true := decide_eq_true v1
                    clear v1 e1 e2 okx
                    go_wp2_with (first
                      | (with_reducible refine load_kr HK.out 2 Tryz.underlying43 rfl (Pf.infoF HFY.out) _ rfl rfl rfl rfl Pf.all ?_)
                      | (go_at_call 24; (with_reducible refine (hv2 _).mono ?_); rintro e u ⟨rfl, hb⟩; have hk := HK.out.call hb; clear hb; clear HK; have HK := Lib.hid hk; clear hk)
                      | (with_reducible refine load_k1 HK.out 2 ckI _ rfl rfl rfl rfl Pf.ck ?_)
                      | (with_reducible refine load_k1 HK.out 4 ckI _ rfl rfl rfl rfl Pl.c0 ?_)
                      | (with_reducible refine load_k1 HK.out 0 ckI _ rfl rfl rfl rfl (vC1 HFY.out) ?_)
                      | (with_reducible refine load_k1 HK.out 0 ckI _ rfl rfl rfl rfl (vC2 HFY.out) ?_)
                      | (with_reducible refine load_k1 HK.out 1 ckI _ rfl rfl rfl rfl (vC1 HFX.out) ?_)
                      | (with_reducible refine load_k1 HK.out 1 ckI _ rfl rfl rfl rfl (vC2 HFX.out) ?_)
                      | (go_at_call 9; (with_reducible refine (awake_any _).mono ?_); rintro e u ⟨rfl, hb⟩; have hk := HK.out.call hb; clear hb; clear HK; have HK := Lib.hid hk; clear hk))
                    go_ret
                    exact ⟨rfl, HK.out.mf.bel⟩
                  · by_cases v2 : hiP y.1 < a2
                    · have r1 : decide (a2 < loP y.1) = false := decide_eq_false v1
                      have r2 : decide (hiP y.1 < a2) = true := decide_eq_true v2
                      clear v1 v2 e1 e2 okx
                      go_wp2_with (first
                        | (with_reducible refine load_kr HK.out 2 Tryz.underlying43 rfl (Pf.infoF HFY.out) _ rfl rfl rfl rfl Pf.all ?_)
                        | (go_at_call 24; (with_reducible refine (hv2 _).mono ?_); rintro e u ⟨rfl, hb⟩; have hk := HK.out.call hb; clear hb; clear HK; have HK := Lib.hid hk; clear hk)
                        | (with_reducible refine load_k1 HK.out 2 ckI _ rfl rfl rfl rfl Pf.ck ?_)
                        | (with_reducible refine load_k1 HK.out 4 ckI _ rfl rfl rfl rfl Pl.c0 ?_)
                        | (with_reducible refine load_k1 HK.out 0 ckI _ rfl rfl rfl rfl (vC1 HFY.out) ?_)
                        | (with_reducible refine load_k1 HK.out 0 ckI _ rfl rfl rfl rfl (vC2 HFY.out) ?_)
                        | (with_reducible refine load_k1 HK.out 1 ckI _ rfl rfl rfl rfl (vC1 HFX.out) ?_)
                        | (with_reducible refine load_k1 HK.out 1 ckI _ rfl rfl rfl rfl (vC2 HFX.out) ?_)
                        | (go_at_call 9; (with_reducible refine (awake_any _).mono ?_); rintro e u ⟨rfl, hb⟩; have hk := HK.out.call hb; clear hb; clear HK; have HK := Lib.hid hk; clear hk))
                      go_ret
                      exact ⟨rfl, HK.out.mf.bel⟩
                    · have r1 : decide (a2 < loP y.1) = false := decide_eq_false v1
                      have r2 : decide (hiP y.1 < a2) = false := decide_eq_false v2
                      have r3 : decide (loP x.1 ≤ a2) = true := decide_eq_true (by omega)
                      have r4 : decide (a2 ≤ hiP x.1) = true := decide_eq_true (by omega)
                      clear v1 v2 e1 e2 okx
                      go_wp2_with (first
                        | (with_reducible refine load_kr HK.out 2 Tryz.underlying43 rfl (Pf.infoF HFY.out) _ rfl rfl rfl rfl Pf.all ?_)
                        | (go_at_call 24; (with_reducible refine (hv2 _).mono ?_); rintro e u ⟨rfl, hb⟩; have hk := HK.out.call hb; clear hb; clear HK; have HK := Lib.hid hk; clear hk)
                        | (with_reducible refine load_k1 HK.out 2 ckI _ rfl rfl rfl rfl Pf.ck ?_)
                        | (with_reducible refine load_k1 HK.out 4 ckI _ rfl rfl rfl rfl Pl.c0 ?_)
                        | (with_reducible refine load_k1 HK.out 0 ckI _ rfl rfl rfl rfl (vC1 HFY.out) ?_)
                        | (with_reducible refine load_k1 HK.out 0 ckI _ rfl rfl rfl rfl (vC2 HFY.out) ?_)
                        | (with_reducible refine load_k1 HK.out 1 ckI _ rfl rfl rfl rfl (vC1 HFX.out) ?_)
                        | (with_reducible refine load_k1 HK.out 1 ckI _ rfl rfl rfl rfl (vC2 HFX.out) ?_)
                        | (go_at_call 9; (with_reducible refine (awake_any _).mono ?_); rintro e u ⟨rfl, hb⟩; have hk := HK.out.call hb; clear hb; clear HK; have HK := Lib.hid hk; clear hk))
                      go_ret
                      exact ⟨rfl, HK.out.mf.bel⟩
                · have q1 : (p1.k == 1) = false := by simpa using hk1
                  by_cases hk5 : p1.k = 5
                  · obtain ⟨hyk, Z, hz1, hz2, z1, z2, e1, e2⟩ := HBN.out.k5 hk5
                    obtain ⟨z, hz, hzz⟩ := pfs_get hz2
                    have hon3 := fun w h => one_any A2 N c2 xs p1.ot (by omega) z hz1 hz w h
                    have HFZ := Lib.hid ((HK.out.fr 0 rfl).full hz)
                    rw [← hzz] at z1 z2
                    rw [← HYY.out] at hyk e1 e2
                    rw [← HXX.out] at e1 e2
                    obtain ⟨n1, n2⟩ := HBN.out.now (by rw [← HYY.out]; exact hyk)
                    rw [← HYY.out] at n1 n2
                    have m1 : decide (vN y.1 < loP y.1) = false := by rw [decide_eq_false_iff_not]; omega
                    have m2 : decide (hiP y.1 < vN y.1) = false := by rw [decide_eq_false_iff_not]; omega
                    have y1 : (y.1.k == 1) = true := by rw [hyk]; rfl
                    clear n1 n2 hyk
                    have q5 : (p1.k == 5) = true := by rw [hk5]; rfl
                    have T5 := True.intro; have T6 := True.intro; have T7 := True.intro; have T8 := True.intro
                    clear hk1 hk5 hz1 hz2 hz hzz
                    by_cases v1 : a2 < loP y.1
                    · have r1 : decide (a2 < loP y.1) = true := decide_eq_true v1
                      clear v1 z1 z2 e1 e2 okx
                      go_wp2_with (first
                        | (with_reducible refine load_kr HK.out 2 Tryz.underlying43 rfl (Pf.infoF HFY.out) _ rfl rfl rfl rfl Pf.all ?_)
                        | (go_at_call 24; (with_reducible refine (hv2 _).mono ?_); rintro e u ⟨rfl, hb⟩; have hk := HK.out.call hb; clear hb; clear HK; have HK := Lib.hid hk; clear hk)
                        | (with_reducible refine load_k1 HK.out 2 ckI _ rfl rfl rfl rfl Pf.ck ?_)
                        | (with_reducible refine load_k1 HK.out 4 ckI _ rfl rfl rfl rfl Pl.c0 ?_)
                        | (with_reducible refine load_k1 HK.out 0 ckI _ rfl rfl rfl rfl (vC1 HFY.out) ?_)
                        | (with_reducible refine load_k1 HK.out 0 ckI _ rfl rfl rfl rfl (vC2 HFY.out) ?_)
                        | (with_reducible refine load_k1 HK.out 1 ckI _ rfl rfl rfl rfl (vC1 HFX.out) ?_)
                        | (with_reducible refine load_k1 HK.out 1 ckI _ rfl rfl rfl rfl (vC2 HFX.out) ?_)
                        | (with_reducible refine load_k1 HK.out 4 ckS _ rfl rfl rfl rfl Pl.c2 ?_)
                        | (go_at_call 23; (with_reducible refine (hon3 _ (HK.out.fr 0 rfl)).mono ?_); rintro e u ⟨rfl, hb⟩; have hk := HK.out.call hb; clear hb; clear HK; have HK := Lib.hid hk; clear hk)
                        | (clear T5; (with_reducible refine alloc_k HK.out f_zeroP rfl rfl ?_); intro b19 u hk; clear HK; have HK := Lib.hid hk; clear hk)
                        | (clear T6; (refine store_kr HK.out 0 (Pf.infoF HFZ.out) (Fd.one _) rfl rfl _ _ rfl rfl rfl rfl (Fd.leP zP_full HFZ.out) (Fd.setAllP zP_full HFZ.out) ?_); intro u hk; simp only [List.set_cons_zero] at hk; clear HK; have HK := Lib.hid hk; clear hk)
                        | (with_reducible refine load_kr HK.out 0 Tryz.underlying38 rfl (Pf.infoC HFZ.out) _ rfl rfl rfl rfl Pf.cC ?_)
                        | (clear T7; (with_reducible refine alloc_k HK.out c_zeroF rfl rfl ?_); intro b21 u hk; clear HK; have HK := Lib.hid hk; clear hk)
                        | (clear T8; (refine store_kr HK.out 0 (Pf.infoC HFZ.out) (vals_all _) rfl rfl _ _ rfl rfl rfl rfl (vC_le HFZ.out) (vC_put HFZ.out) ?_); intro u hk; simp only [List.set_cons_zero] at hk; clear HK; have HK := Lib.hid hk; clear hk)
                        | (with_reducible refine load_k1 HK.out 0 ckI _ rfl rfl rfl rfl (vC1 HFZ.out) ?_)
                        | (with_reducible refine load_k1 HK.out 0 ckI _ rfl rfl rfl rfl (vC2 HFZ.out) ?_)
                        | (with_reducible refine load_k1 HK.out 2 ckI _ rfl rfl rfl rfl (vC1 HFY.out) ?_)
                        | (with_reducible refine load_k1 HK.out 2 ckI _ rfl rfl rfl rfl (vC2 HFY.out) ?_)
                        | (with_reducible refine load_k1 HK.out 3 ckI _ rfl rfl rfl rfl (vC1 HFX.out) ?_)
                        | (with_reducible refine load_k1 HK.out 3 ckI _ rfl rfl rfl rfl (vC2 HFX.out) ?_)
                        | (go_at_call 9; (with_reducible refine (awake_any _).mono ?_); rintro e u ⟨rfl, hb⟩; have hk := HK.out.call hb; clear hb; clear HK; have HK := Lib.hid hk; clear hk))
                      go_ret
                      exact ⟨rfl, HK.out.mf.bel⟩
                    · by_cases v2 : hiP y.1 < a2
                      · have r1 : decide (a2 < loP y.1) = false := decide_eq_false v1
                        have r2 : decide (hiP y.1 < a2) = true := decide_eq_true v2
                        clear v1 v2 z1 z2 e1 e2 okx
                        go_wp2_with (first
                          | (with_reducible refine load_kr HK.out 2 Tryz.underlying43 rfl (Pf.infoF HFY.out) _ rfl rfl rfl rfl Pf.all ?_)
                          | (go_at_call 24; (with_reducible refine (hv2 _).mono ?_); rintro e u ⟨rfl, hb⟩; have hk := HK.out.call hb; clear hb; clear HK; have HK := Lib.hid hk; clear hk)
                          | (with_reducible refine load_k1 HK.out 2 ckI _ rfl rfl rfl rfl Pf.ck ?_)
                          | (with_reducible refine load_k1 HK.out 4 ckI _ rfl rfl rfl rfl Pl.c0 ?_)
                          | (with_reducible refine load_k1 HK.out 0 ckI _ rfl rfl rfl rfl (vC1 HFY.out) ?_)
                          | (with_reducible refine load_k1 HK.out 0 ckI _ rfl rfl rfl rfl (vC2 HFY.out) ?_)
                          | (with_reducible refine load_k1 HK.out 1 ckI _ rfl rfl rfl rfl (vC1 HFX.out) ?_)
                          | (with_reducible refine load_k1 HK.out 1 ckI _ rfl rfl rfl rfl (vC2 HFX.out) ?_)
                          | (with_reducible refine load_k1 HK.out 4 ckS _ rfl rfl rfl rfl Pl.c2 ?_)
                          | (go_at_call 23; (with_reducible refine (hon3 _ (HK.out.fr 0 rfl)).mono ?_); rintro e u ⟨rfl, hb⟩; have hk := HK.out.call hb; clear hb; clear HK; have HK := Lib.hid hk; clear hk)
                          | (clear T5; (with_reducible refine alloc_k HK.out f_zeroP rfl rfl ?_); intro b19 u hk; clear HK; have HK := Lib.hid hk; clear hk)
                          | (clear T6; (refine store_kr HK.out 0 (Pf.infoF HFZ.out) (Fd.one _) rfl rfl _ _ rfl rfl rfl rfl (Fd.leP zP_full HFZ.out) (Fd.setAllP zP_full HFZ.out) ?_); intro u hk; simp only [List.set_cons_zero] at hk; clear HK; have HK := Lib.hid hk; clear hk)
                          | (with_reducible refine load_kr HK.out 0 Tryz.underlying38 rfl (Pf.infoC HFZ.out) _ rfl rfl rfl rfl Pf.cC ?_)
                          | (clear T7; (with_reducible refine alloc_k HK.out c_zeroF rfl rfl ?_); intro b21 u hk; clear HK; have HK := Lib.hid hk; clear hk)
                          | (clear T8; (refine store_kr HK.out 0 (Pf.infoC HFZ.out) (vals_all _) rfl rfl _ _ rfl rfl rfl rfl (vC_le HFZ.out) (vC_put HFZ.out) ?_); intro u hk; simp only [List.set_cons_zero] at hk; clear HK; have HK := Lib.hid hk; clear hk)
                          | (with_reducible refine load_k1 HK.out 0 ckI _ rfl rfl rfl rfl (vC1 HFZ.out) ?_)
                          | (with_reducible refine load_k1 HK.out 0 ckI _ rfl rfl rfl rfl (vC2 HFZ.out) ?_)
                          | (with_reducible refine load_k1 HK.out 2 ckI _ rfl rfl rfl rfl (vC1 HFY.out) ?_)
                          | (with_reducible refine load_k1 HK.out 2 ckI _ rfl rfl rfl rfl (vC2 HFY.out) ?_)
                          | (with_reducible refine load_k1 HK.out 3 ckI _ rfl rfl rfl rfl (vC1 HFX.out) ?_)
                          | (with_reducible refine load_k1 HK.out 3 ckI _ rfl rfl rfl rfl (vC2 HFX.out) ?_)
                          | (go_at_call 9; (with_reducible refine (awake_any _).mono ?_); rintro e u ⟨rfl, hb⟩; have hk := HK.out.call hb; clear hb; clear HK; have HK := Lib.hid hk; clear hk))
                        go_ret
                        exact ⟨rfl, HK.out.mf.bel⟩
                      · by_cases v3 : a3 < loP z.1
                        · have r1 : decide (a2 < loP y.1) = false := decide_eq_false v1
                          have r2 : decide (hiP y.1 < a2) = false := decide_eq_false v2
                          have r3 : decide (a3 < loP z.1) = true := decide_eq_true v3
                          clear v1 v2 v3 z1 z2 e1 e2 okx
                          go_wp2_with (first
                            | (with_reducible refine load_kr HK.out 2 Tryz.underlying43 rfl (Pf.infoF HFY.out) _ rfl rfl rfl rfl Pf.all ?_)
                            | (go_at_call 24; (with_reducible refine (hv2 _).mono ?_); rintro e u ⟨rfl, hb⟩; have hk := HK.out.call hb; clear hb; clear HK; have HK := Lib.hid hk; clear hk)
                            | (with_reducible refine load_k1 HK.out 2 ckI _ rfl rfl rfl rfl Pf.ck ?_)
                            | (with_reducible refine load_k1 HK.out 4 ckI _ rfl rfl rfl rfl Pl.c0 ?_)
                            | (with_reducible refine load_k1 HK.out 0 ckI _ rfl rfl rfl rfl (vC1 HFY.out) ?_)
                            | (with_reducible refine load_k1 HK.out 0 ckI _ rfl rfl rfl rfl (vC2 HFY.out) ?_)
                            | (with_reducible refine load_k1 HK.out 1 ckI _ rfl rfl rfl rfl (vC1 HFX.out) ?_)
                            | (with_reducible refine load_k1 HK.out 1 ckI _ rfl rfl rfl rfl (vC2 HFX.out) ?_)
                            | (with_reducible refine load_k1 HK.out 4 ckS _ rfl rfl rfl rfl Pl.c2 ?_)
                            | (go_at_call 23; (with_reducible refine (hon3 _ (HK.out.fr 0 rfl)).mono ?_); rintro e u ⟨rfl, hb⟩; have hk := HK.out.call hb; clear hb; clear HK; have HK := Lib.hid hk; clear hk)
                            | (clear T5; (with_reducible refine alloc_k HK.out f_zeroP rfl rfl ?_); intro b19 u hk; clear HK; have HK := Lib.hid hk; clear hk)
                            | (clear T6; (refine store_kr HK.out 0 (Pf.infoF HFZ.out) (Fd.one _) rfl rfl _ _ rfl rfl rfl rfl (Fd.leP zP_full HFZ.out) (Fd.setAllP zP_full HFZ.out) ?_); intro u hk; simp only [List.set_cons_zero] at hk; clear HK; have HK := Lib.hid hk; clear hk)
                            | (with_reducible refine load_kr HK.out 0 Tryz.underlying38 rfl (Pf.infoC HFZ.out) _ rfl rfl rfl rfl Pf.cC ?_)
                            | (clear T7; (with_reducible refine alloc_k HK.out c_zeroF rfl rfl ?_); intro b21 u hk; clear HK; have HK := Lib.hid hk; clear hk)
                            | (clear T8; (refine store_kr HK.out 0 (Pf.infoC HFZ.out) (vals_all _) rfl rfl _ _ rfl rfl rfl rfl (vC_le HFZ.out) (vC_put HFZ.out) ?_); intro u hk; simp only [List.set_cons_zero] at hk; clear HK; have HK := Lib.hid hk; clear hk)
                            | (with_reducible refine load_k1 HK.out 0 ckI _ rfl rfl rfl rfl (vC1 HFZ.out) ?_)
                            | (with_reducible refine load_k1 HK.out 0 ckI _ rfl rfl rfl rfl (vC2 HFZ.out) ?_)
                            | (with_reducible refine load_k1 HK.out 2 ckI _ rfl rfl rfl rfl (vC1 HFY.out) ?_)
                            | (with_reducible refine load_k1 HK.out 2 ckI _ rfl rfl rfl rfl (vC2 HFY.out) ?_)
                            | (with_reducible refine load_k1 HK.out 3 ckI _ rfl rfl rfl rfl (vC1 HFX.out) ?_)
                            | (with_reducible refine load_k1 HK.out 3 ckI _ rfl rfl rfl rfl (vC2 HFX.out) ?_)
                            | (go_at_call 9; (with_reducible refine (awake_any _).mono ?_); rintro e u ⟨rfl, hb⟩; have hk := HK.out.call hb; clear hb; clear HK; have HK := Lib.hid hk; clear hk))
                          go_ret
                          exact ⟨rfl, HK.out.mf.bel⟩
                        · by_cases v4 : hiP z.1 < a3
                          · have r1 : decide (a2 < loP y.1) = false := decide_eq_false v1
                            have r2 : decide (hiP y.1 < a2) = false := decide_eq_false v2
                            have r3 : decide (a3 < loP z.1) = false := decide_eq_false v3
                            have r4 : decide (hiP z.1 < a3) = true := decide_eq_true v4
                            clear v1 v2 v3 v4 z1 z2 e1 e2 okx
                            go_wp2_with (first
                              | (with_reducible refine load_kr HK.out 2 Tryz.underlying43 rfl (Pf.infoF HFY.out) _ rfl rfl rfl rfl Pf.all ?_)
                              | (go_at_call 24; (with_reducible refine (hv2 _).mono ?_); rintro e u ⟨rfl, hb⟩; have hk := HK.out.call hb; clear hb; clear HK; have HK := Lib.hid hk; clear hk)
                              | (with_reducible refine load_k1 HK.out 2 ckI _ rfl rfl rfl rfl Pf.ck ?_)
                              | (with_reducible refine load_k1 HK.out 4 ckI _ rfl rfl rfl rfl Pl.c0 ?_)
                              | (with_reducible refine load_k1 HK.out 0 ckI _ rfl rfl rfl rfl (vC1 HFY.out) ?_)
                              | (with_reducible refine load_k1 HK.out 0 ckI _ rfl rfl rfl rfl (vC2 HFY.out) ?_)
                              | (with_reducible refine load_k1 HK.out 1 ckI _ rfl rfl rfl rfl (vC1 HFX.out) ?_)
                              | (with_reducible refine load_k1 HK.out 1 ckI _ rfl rfl rfl rfl (vC2 HFX.out) ?_)
                              | (with_reducible refine load_k1 HK.out 4 ckS _ rfl rfl rfl rfl Pl.c2 ?_)
                              | (go_at_call 23; (with_reducible refine (hon3 _ (HK.out.fr 0 rfl)).mono ?_); rintro e u ⟨rfl, hb⟩; have hk := HK.out.call hb; clear hb; clear HK; have HK := Lib.hid hk; clear hk)
                              | (clear T5; (with_reducible refine alloc_k HK.out f_zeroP rfl rfl ?_); intro b19 u hk; clear HK; have HK := Lib.hid hk; clear hk)
                              | (clear T6; (refine store_kr HK.out 0 (Pf.infoF HFZ.out) (Fd.one _) rfl rfl _ _ rfl rfl rfl rfl (Fd.leP zP_full HFZ.out) (Fd.setAllP zP_full HFZ.out) ?_); intro u hk; simp only [List.set_cons_zero] at hk; clear HK; have HK := Lib.hid hk; clear hk)
                              | (with_reducible refine load_kr HK.out 0 Tryz.underlying38 rfl (Pf.infoC HFZ.out) _ rfl rfl rfl rfl Pf.cC ?_)
                              | (clear T7; (with_reducible refine alloc_k HK.out c_zeroF rfl rfl ?_); intro b21 u hk; clear HK; have HK := Lib.hid hk; clear hk)
                              | (clear T8; (refine store_kr HK.out 0 (Pf.infoC HFZ.out) (vals_all _) rfl rfl _ _ rfl rfl rfl rfl (vC_le HFZ.out) (vC_put HFZ.out) ?_); intro u hk; simp only [List.set_cons_zero] at hk; clear HK; have HK := Lib.hid hk; clear hk)
                              | (with_reducible refine load_k1 HK.out 0 ckI _ rfl rfl rfl rfl (vC1 HFZ.out) ?_)
                              | (with_reducible refine load_k1 HK.out 0 ckI _ rfl rfl rfl rfl (vC2 HFZ.out) ?_)
                              | (with_reducible refine load_k1 HK.out 2 ckI _ rfl rfl rfl rfl (vC1 HFY.out) ?_)
                              | (with_reducible refine load_k1 HK.out 2 ckI _ rfl rfl rfl rfl (vC2 HFY.out) ?_)
                              | (with_reducible refine load_k1 HK.out 3 ckI _ rfl rfl rfl rfl (vC1 HFX.out) ?_)
                              | (with_reducible refine load_k1 HK.out 3 ckI _ rfl rfl rfl rfl (vC2 HFX.out) ?_)
                              | (go_at_call 9; (with_reducible refine (awake_any _).mono ?_); rintro e u ⟨rfl, hb⟩; have hk := HK.out.call hb; clear hb; clear HK; have HK := Lib.hid hk; clear hk))
                            go_ret
                            exact ⟨rfl, HK.out.mf.bel⟩
                          · have r1 : decide (a2 < loP y.1) = false := decide_eq_false v1
                            have r2 : decide (hiP y.1 < a2) = false := decide_eq_false v2
                            have r3 : decide (a3 < loP z.1) = false := decide_eq_false v3
                            have r4 : decide (hiP z.1 < a3) = false := decide_eq_false v4
                            have r5 : decide (loP x.1 ≤ a2 + a3) = true := decide_eq_true (by omega)
                            have r6 : decide (a2 + a3 ≤ hiP x.1) = true := decide_eq_true (by omega)
                            clear v1 v2 v3 v4 z1 z2 e1 e2 okx
                            go_wp2_with (first
                              | (with_reducible refine load_kr HK.out 2 Tryz.underlying43 rfl (Pf.infoF HFY.out) _ rfl rfl rfl rfl Pf.all ?_)
                              | (go_at_call 24; (with_reducible refine (hv2 _).mono ?_); rintro e u ⟨rfl, hb⟩; have hk := HK.out.call hb; clear hb; clear HK; have HK := Lib.hid hk; clear hk)
                              | (with_reducible refine load_k1 HK.out 2 ckI _ rfl rfl rfl rfl Pf.ck ?_)
                              | (with_reducible refine load_k1 HK.out 4 ckI _ rfl rfl rfl rfl Pl.c0 ?_)
                              | (with_reducible refine load_k1 HK.out 0 ckI _ rfl rfl rfl rfl (vC1 HFY.out) ?_)
                              | (with_reducible refine load_k1 HK.out 0 ckI _ rfl rfl rfl rfl (vC2 HFY.out) ?_)
                              | (with_reducible refine load_k1 HK.out 1 ckI _ rfl rfl rfl rfl (vC1 HFX.out) ?_)
                              | (with_reducible refine load_k1 HK.out 1 ckI _ rfl rfl rfl rfl (vC2 HFX.out) ?_)
                              | (with_reducible refine load_k1 HK.out 4 ckS _ rfl rfl rfl rfl Pl.c2 ?_)
                              | (go_at_call 23; (with_reducible refine (hon3 _ (HK.out.fr 0 rfl)).mono ?_); rintro e u ⟨rfl, hb⟩; have hk := HK.out.call hb; clear hb; clear HK; have HK := Lib.hid hk; clear hk)
                              | (clear T5; (with_reducible refine alloc_k HK.out f_zeroP rfl rfl ?_); intro b19 u hk; clear HK; have HK := Lib.hid hk; clear hk)
                              | (clear T6; (refine store_kr HK.out 0 (Pf.infoF HFZ.out) (Fd.one _) rfl rfl _ _ rfl rfl rfl rfl (Fd.leP zP_full HFZ.out) (Fd.setAllP zP_full HFZ.out) ?_); intro u hk; simp only [List.set_cons_zero] at hk; clear HK; have HK := Lib.hid hk; clear hk)
                              | (with_reducible refine load_kr HK.out 0 Tryz.underlying38 rfl (Pf.infoC HFZ.out) _ rfl rfl rfl rfl Pf.cC ?_)
                              | (clear T7; (with_reducible refine alloc_k HK.out c_zeroF rfl rfl ?_); intro b21 u hk; clear HK; have HK := Lib.hid hk; clear hk)
                              | (clear T8; (refine store_kr HK.out 0 (Pf.infoC HFZ.out) (vals_all _) rfl rfl _ _ rfl rfl rfl rfl (vC_le HFZ.out) (vC_put HFZ.out) ?_); intro u hk; simp only [List.set_cons_zero] at hk; clear HK; have HK := Lib.hid hk; clear hk)
                              | (with_reducible refine load_k1 HK.out 0 ckI _ rfl rfl rfl rfl (vC1 HFZ.out) ?_)
                              | (with_reducible refine load_k1 HK.out 0 ckI _ rfl rfl rfl rfl (vC2 HFZ.out) ?_)
                              | (with_reducible refine load_k1 HK.out 2 ckI _ rfl rfl rfl rfl (vC1 HFY.out) ?_)
                              | (with_reducible refine load_k1 HK.out 2 ckI _ rfl rfl rfl rfl (vC2 HFY.out) ?_)
                              | (with_reducible refine load_k1 HK.out 3 ckI _ rfl rfl rfl rfl (vC1 HFX.out) ?_)
                              | (with_reducible refine load_k1 HK.out 3 ckI _ rfl rfl rfl rfl (vC2 HFX.out) ?_)
                              | (go_at_call 9; (with_reducible refine (awake_any _).mono ?_); rintro e u ⟨rfl, hb⟩; have hk := HK.out.call hb; clear hb; clear HK; have HK := Lib.hid hk; clear hk))
                            go_ret
                            exact ⟨rfl, HK.out.mf.bel⟩
                  · have q5 : (p1.k == 5) = false := by simpa using hk5
                    by_cases hk6 : p1.k = 6
                    · obtain ⟨hyk, Z, hz1, hz2, e1, e2, okz⟩ := HBN.out.k6 hk6
                      obtain ⟨z, hz, hzz⟩ := pfs_get hz2
                      have hon3 := fun w h => one_any A0 n0 c0 q0 p1.ot hn' z hz1 hz w h
                      have HFZ := Lib.hid (HD.out.full hz)
                      rw [← hzz] at e1 e2 okz
                      rw [← HYY.out] at hyk e1 e2
                      rw [← HXX.out] at e1 e2
                      obtain ⟨n1, n2⟩ := HBN.out.now (by rw [← HYY.out]; exact hyk)
                      rw [← HYY.out] at n1 n2
                      have m1 : decide (vN y.1 < loP y.1) = false := by rw [decide_eq_false_iff_not]; omega
                      have m2 : decide (hiP y.1 < vN y.1) = false := by rw [decide_eq_false_iff_not]; omega
                      have y1 : (y.1.k == 1) = true := by rw [hyk]; rfl
                      clear n1 n2 hyk
                      have q6 : (p1.k == 6) = true := by rw [hk6]; rfl
                      have r1 : (loP y.1 == loP x.1 + loP z.1) = true := by rw [e1]; exact beq_self_eq_true _
                      have r2 : (hiP y.1 == hiP x.1 + hiP z.1) = true := by rw [e2]; exact beq_self_eq_true _
                      obtain ⟨⟨o1, o2⟩, o3, o4⟩ := okx
                      obtain ⟨⟨o5, o6⟩, o7, o8⟩ := okz
                      have T5 := True.intro; have T6 := True.intro; have T7 := True.intro; have T8 := True.intro
                      clear hk1 hk5 hk6 hz1 hz2 hz hzz e1 e2
                      go_wp2_with (first
                        | (with_reducible refine load_kr HK.out 2 Tryz.underlying43 rfl (Pf.infoF HFY.out) _ rfl rfl rfl rfl Pf.all ?_)
                        | (go_at_call 24; (with_reducible refine (hv2 _).mono ?_); rintro e u ⟨rfl, hb⟩; have hk := HK.out.call hb; clear hb; clear HK; have HK := Lib.hid hk; clear hk)
                        | (with_reducible refine load_k1 HK.out 2 ckI _ rfl rfl rfl rfl Pf.ck ?_)
                        | (with_reducible refine load_k1 HK.out 4 ckI _ rfl rfl rfl rfl Pl.c0 ?_)
                        | (with_reducible refine load_k1 HK.out 0 ckI _ rfl rfl rfl rfl (vC1 HFY.out) ?_)
                        | (with_reducible refine load_k1 HK.out 0 ckI _ rfl rfl rfl rfl (vC2 HFY.out) ?_)
                        | (with_reducible refine load_k1 HK.out 1 ckI _ rfl rfl rfl rfl (vC1 HFX.out) ?_)
                        | (with_reducible refine load_k1 HK.out 1 ckI _ rfl rfl rfl rfl (vC2 HFX.out) ?_)
                        | (with_reducible refine load_k1 HK.out 4 ckS _ rfl rfl rfl rfl Pl.c2 ?_)
                        | (go_at_call 23; (with_reducible refine (hon3 _ (HD.out.below HK.out.mf.bel)).mono ?_); rintro e u ⟨rfl, hb⟩; have hk := HK.out.call hb; clear hb; clear HK; have HK := Lib.hid hk; clear hk)
                        | (clear T5; (with_reducible refine alloc_k HK.out f_zeroP rfl rfl ?_); intro b19 u hk; clear HK; have HK := Lib.hid hk; clear hk)
                        | (clear T6; (refine store_kr HK.out 0 (Pf.infoF HFZ.out) (Fd.one _) rfl rfl _ _ rfl rfl rfl rfl (Fd.leP zP_full HFZ.out) (Fd.setAllP zP_full HFZ.out) ?_); intro u hk; simp only [List.set_cons_zero] at hk; clear HK; have HK := Lib.hid hk; clear hk)
                        | (with_reducible refine load_kr HK.out 0 Tryz.underlying38 rfl (Pf.infoC HFZ.out) _ rfl rfl rfl rfl Pf.cC ?_)
                        | (clear T7; (with_reducible refine alloc_k HK.out c_zeroF rfl rfl ?_); intro b21 u hk; clear HK; have HK := Lib.hid hk; clear hk)
                        | (clear T8; (refine store_kr HK.out 0 (Pf.infoC HFZ.out) (vals_all _) rfl rfl _ _ rfl rfl rfl rfl (vC_le HFZ.out) (vC_put HFZ.out) ?_); intro u hk; simp only [List.set_cons_zero] at hk; clear HK; have HK := Lib.hid hk; clear hk)
                        | (with_reducible refine load_k1 HK.out 0 ckI _ rfl rfl rfl rfl (vC1 HFZ.out) ?_)
                        | (with_reducible refine load_k1 HK.out 0 ckI _ rfl rfl rfl rfl (vC2 HFZ.out) ?_)
                        | (with_reducible refine load_k1 HK.out 2 ckI _ rfl rfl rfl rfl (vC1 HFY.out) ?_)
                        | (with_reducible refine load_k1 HK.out 2 ckI _ rfl rfl rfl rfl (vC2 HFY.out) ?_)
                        | (with_reducible refine load_k1 HK.out 3 ckI _ rfl rfl rfl rfl (vC1 HFX.out) ?_)
                        | (with_reducible refine load_k1 HK.out 3 ckI _ rfl rfl rfl rfl (vC2 HFX.out) ?_)
                        | (go_at_call 9; (with_reducible refine (awake_any _).mono ?_); rintro e u ⟨rfl, hb⟩; have hk := HK.out.call hb; clear hb; clear HK; have HK := Lib.hid hk; clear hk))
                      go_ret
                      exact ⟨rfl, HK.out.mf.bel⟩
                    · have q6 : (p1.k == 6) = false := by simpa using hk6
                      clear hk1 hk5 hk6 okx
                      by_cases hyk : y.1.k = 1
                      · obtain ⟨n1, n2⟩ := HBN.out.now (by rw [← HYY.out]; exact hyk)
                        rw [← HYY.out] at n1 n2
                        have m1 : decide (vN y.1 < loP y.1) = false := by rw [decide_eq_false_iff_not]; omega
                        have m2 : decide (hiP y.1 < vN y.1) = false := by rw [decide_eq_false_iff_not]; omega
                        have y1 : (y.1.k == 1) = true := by rw [hyk]; rfl
                        clear n1 n2 hyk
                        go_wp2_with (first
                          | (with_reducible refine load_kr HK.out 2 Tryz.underlying43 rfl (Pf.infoF HFY.out) _ rfl rfl rfl rfl Pf.all ?_)
                          | (go_at_call 24; (with_reducible refine (hv2 _).mono ?_); rintro e u ⟨rfl, hb⟩; have hk := HK.out.call hb; clear hb; clear HK; have HK := Lib.hid hk; clear hk)
                          | (with_reducible refine load_k1 HK.out 2 ckI _ rfl rfl rfl rfl Pf.ck ?_)
                          | (with_reducible refine load_k1 HK.out 4 ckI _ rfl rfl rfl rfl Pl.c0 ?_)
                          | (with_reducible refine load_k1 HK.out 0 ckI _ rfl rfl rfl rfl (vC1 HFY.out) ?_)
                          | (with_reducible refine load_k1 HK.out 0 ckI _ rfl rfl rfl rfl (vC2 HFY.out) ?_)
                          | (with_reducible refine load_k1 HK.out 1 ckI _ rfl rfl rfl rfl (vC1 HFX.out) ?_)
                          | (with_reducible refine load_k1 HK.out 1 ckI _ rfl rfl rfl rfl (vC2 HFX.out) ?_)
                          | (go_at_call 9; (with_reducible refine (awake_any _).mono ?_); rintro e u ⟨rfl, hb⟩; have hk := HK.out.call hb; clear hb; clear HK; have HK := Lib.hid hk; clear hk))
                        go_ret
                        exact ⟨rfl, HK.out.mf.bel⟩
                      · have y1 : (y.1.k == 1) = false := by simpa using hyk
                        clear hyk
                        go_wp2_with (first
                          | (with_reducible refine load_kr HK.out 2 Tryz.underlying43 rfl (Pf.infoF HFY.out) _ rfl rfl rfl rfl Pf.all ?_)
                          | (go_at_call 24; (with_reducible refine (hv2 _).mono ?_); rintro e u ⟨rfl, hb⟩; have hk := HK.out.call hb; clear hb; clear HK; have HK := Lib.hid hk; clear hk)
                          | (with_reducible refine load_k1 HK.out 2 ckI _ rfl rfl rfl rfl Pf.ck ?_)
                          | (with_reducible refine load_k1 HK.out 4 ckI _ rfl rfl rfl rfl Pl.c0 ?_)
                          | (with_reducible refine load_k1 HK.out 0 ckI _ rfl rfl rfl rfl (vC1 HFY.out) ?_)
                          | (with_reducible refine load_k1 HK.out 0 ckI _ rfl rfl rfl rfl (vC2 HFY.out) ?_)
                          | (with_reducible refine load_k1 HK.out 1 ckI _ rfl rfl rfl rfl (vC1 HFX.out) ?_)
                          | (with_reducible refine load_k1 HK.out 1 ckI _ rfl rfl rfl rfl (vC2 HFX.out) ?_)
                          | (go_at_call 9; (with_reducible refine (awake_any _).mono ?_); rintro e u ⟨rfl, hb⟩; have hk := HK.out.call hb; clear hb; clear HK; have HK := Lib.hid hk; clear hk))
                        go_ret
                        exact ⟨rfl, HK.out.mf.bel⟩
            · have he' : (E == 0) = false := by simpa using he
              obtain rfl := HNO.out he
              clear he HAP HNO
              go_wp2_with (first
                | (go_at_call 9; (with_reducible refine (awake_any _).mono ?_); rintro e u ⟨rfl, hb⟩; have hk := HK.out.call hb; clear hb; clear HK; have HK := Lib.hid hk; clear hk))
              go_ret
              exact ⟨rfl, HK.out.mf.bel⟩

set_option maxRecDepth 100000 in
theorem lifted (os : Os) (started : os.Started) (H : Type) (enc : TypeId × Value → H) :
    ReturnsInHanded {} Tryz.checked os 5 .any (Rows.planBoundsSpec.pre6 enc Tryz.prog Tryz.f5 Rows.planBoundsRow.domain false) (Rows.planBoundsSpec.post enc Tryz.prog Tryz.f5 false true false false) := by
  refine returnsInHanded_of_change (C := Tryz.checked) own started (by kernel_rfl) Tryz.func5
    (ChangeSpec.witness6 (enc := enc) (C := Tryz.checked) false ⟨#[], #[.slice none 0 0, .agg (Pl.cells ⟨0, ⟨#[]⟩, ⟨#[]⟩, 0, 0⟩).toArray, .int .i64 0, .int .i64 0], []⟩ 12 (by kernel_rfl) (by kernel_rfl) (by kernel_rfl) (by kernel_rfl)) ?_
  intro W base args ds gs before hval0 hW hcnd _
  have hval : ∀ (j : Nat) t v, Tryz.f5.params[j]? = some t → args[j]? = some v → Value.okWide Tryz.prog W .any base t v := hval0
  have hW' := hW
  obtain ⟨p, q, hA0, hV, rfl, hfz, hnd⟩ := hW
  have hA : DataW.TrodAll enc Tryz.prog W 0 (fun _ => true) true Tryz.f5.params.toList args.toList ds p := hA0
  rw [Tryz.params5] at hA hval
  obtain ⟨v0, vs0, d0, ds0, q0, r0, hargs, rfl, rfl, h0, t0⟩ := trodAll_cons hA
  obtain ⟨v1, vs1, d1, ds1, q1, r1, rfl, rfl, rfl, h1, t1⟩ := trodAll_cons t0
  obtain ⟨v2, vs2, d2, ds2, q2, r2, rfl, rfl, rfl, h2, t2⟩ := trodAll_cons t1
  obtain ⟨v3, vs3, d3, ds3, q3, r3, rfl, rfl, rfl, h3, t3⟩ := trodAll_cons t2
  obtain ⟨rfl, rfl, rfl⟩ := trodAll_nil t3
  obtain rfl : args = #[v0, v1, v2, v3] := by cases args; simp_all
  obtain ⟨rfl, rfl⟩ := trodVars_none hV
  have k0 := h0
  have lt0 : ∀ x ∈ q0, x.block < W.heap.size := by obtain ⟨m, hm⟩ := k0; exact DataW.trod_lt m _ _ _ hm
  obtain ⟨A0, n0, c0, y0, rfl, hd0, _⟩ := open_fs (hval 0 22 v0 rfl rfl) h0
  have k1 := h1
  have lt1 : ∀ x ∈ q1, x.block < W.heap.size := by obtain ⟨m, hm⟩ := k1; exact DataW.trod_lt m _ _ _ hm
  obtain ⟨p1, rfl, hk1, ha1, hb1⟩ := open_p (hval 1 24 v1 rfl rfl) h1
  have k2 := h2
  have lt2 : ∀ x ∈ q2, x.block < W.heap.size := by obtain ⟨m, hm⟩ := k2; exact DataW.trod_lt m _ _ _ hm
  obtain ⟨a2, rfl, rfl, rfl, w2⟩ := open_int Tryz.underlying3 (hval 2 3 v2 rfl rfl) h2
  have k3 := h3
  have lt3 : ∀ x ∈ q3, x.block < W.heap.size := by obtain ⟨m, hm⟩ := k3; exact DataW.trod_lt m _ _ _ hm
  obtain ⟨a3, rfl, rfl, rfl, w3⟩ := open_int Tryz.underlying3 (hval 3 3 v3 rfl rfl) h3
  clear hA0 hval0
  refine (walk W A0 n0 c0 y0 hd0 p1 hk1 ha1 hb1 a2 w2 a3 w3).mono fun e W' ⟨he, bel⟩ => ?_
  subst he
  exact ⟨_, rfl, _, _, _, [], _, [], hW', trodAll_mk1 (shut_bool Tryz.underlying4 _), (trodAll_cons_mk (Below.trod laidOut (by kernel_rfl) (of_decide_eq_true (by kernel_rfl)) k0 bel lt0) (trodAll_cons_mk (Below.trod laidOut (by kernel_rfl) (of_decide_eq_true (by kernel_rfl)) k1 bel lt1) (trodAll_cons_mk (Below.trod laidOut (by kernel_rfl) (of_decide_eq_true (by kernel_rfl)) k2 bel lt2) (trodAll_cons_mk (Below.trod laidOut (by kernel_rfl) (of_decide_eq_true (by kernel_rfl)) k3 bel lt3) trodAll_mk0)))), rfl, bel.frame _, fun h => by cases h⟩

theorem over : Rows.planBoundsRow.holds Tryz.pinned (OpenSpec.ofChange Rows.planBoundsSpec) :=
  OpenClaim.holds_of_wide 5 Tryz.f5 rfl rfl rfl rfl rfl rfl rfl ⟨rfl, rfl, rfl, rfl, rfl⟩ rfl rfl rfl rfl rfl (by kernel_rfl) Tryz.func5 (by kernel_rfl)
    (of_decide_eq_true (by kernel_rfl)) (by unfold Func.isWrapper; first | (rw [if_pos (by decide +kernel)]; kernel_rfl) | (rw [if_neg (by decide +kernel)]; exact ⟨rfl, rfl⟩))
    (fun os started H enc _ => lifted os started H enc)

theorem proved : Rows.PlanBoundsSaid := over
#print axioms proved
end Go.Proofs.YtgblnlpfgdbnnaaGreat.planBounds
