/- What is applied may be, and has the same sum of values, where both sums can be told; fields that a plan is not about stay; the epoch of the others is greater. No condition. -/
import Derived.Test.YtgblnlpfgdbnnaaGreatZ07
import Derived.Test.YtgblnlpfgdbnnaaGreatZ08
import Derived.Test.YtgblnlpfgdbnnaaGreatZ13
import Derived.Test.YtgblnlpfgdbnnaaGreatZ19
import Derived.Test.YtgblnlpfgdbnnaaGreatZ27A
import Derived.Test.YtgblnlpfgdbnnaaGreatZ36
namespace Go.Proofs.YtgblnlpfgdbnnaaGreat.planKeeps
open Go.ChangeShapes Go.WideShapes Go.ChangeAt Go.RowKit
set_option linter.unusedVariables false

theorem own : ownKnob Tryz.prog.godebug = none := by kernel_rfl
theorem laidOut : laidOutB Tryz.prog = true := by kernel_rfl

set_option maxRecDepth 100000 in
set_option maxHeartbeats 16000000 in
theorem walk (w : World) (A0 : Option Addr) (n0 c0 : Nat) (q0 : List Q) (hd0 : CR w A0 n0 q0) (p1 : Pl) (hk1 : ok64W p1.k) (ha1 : ok64W p1.a) (hb1 : ok64W p1.b) :
    Calls Tryz.prog 4 #[.slice A0 n0 c0, .agg p1.cells.toArray] w fun e w' => e = .returned (.bool true) ∧ Below w.heap.size w w' := by
  have HK := Lib.hid (Kg.start w)
  have HC := Lib.hid hd0
  have hfw := fun w h => few13_any p1 A0 n0 c0 q0 w h
  cases hf : fewLF n0 q0 p1 with
  | false =>
    rw [hf] at hfw
    clear hf hd0
    go_enter Tryz.func4, Tryz.ntmps4
    go_wp2_with (first
      | ((with_reducible refine box_k (cs := p1.cells) HK.out rfl _ rfl rfl ?_); intro bp u hk; clear HK; have HK := Lib.hid hk; clear hk)
      | (with_reducible refine load_kr (xs := p1.cells) HK.out 0 Tryz.underlying24 rfl p_info _ rfl rfl rfl rfl Pl.all ?_)
      | (go_at_call 8; (with_reducible refine (hfw _ (cr_below HC.out HK.out.mf.bel)).mono ?_); rintro e u ⟨rfl, hb⟩; have hk := HK.out.call hb; clear hb; clear HK; have HK := Lib.hid hk; clear hk)
      | (go_at_call 9; (with_reducible refine (awake_any _).mono ?_); rintro e u ⟨rfl, hb⟩; have hk := HK.out.call hb; clear hb; clear HK; have HK := Lib.hid hk; clear hk))
    go_ret
    exact ⟨rfl, HK.out.mf.bel⟩
  | true =>
    rw [hf] at hfw
    obtain ⟨hn, hq, hnm, hot⟩ := fewf_is hf
    clear hf
    have HD := Lib.hid (hd0.fr fun x hx => by have := (hq x hx).2; omega)
    have hN : Fits1000 q0 := fun x hx => by have := (hq x hx).1; omega
    have hP : PlOk p1 := ⟨by omega, by omega, hk1⟩
    have hn' : n0 ≤ 1000 := by omega
    have HPL := Lib.hid (show (pfs q0).length = n0 by rw [pfs_len]; exact hd0.1)
    obtain ⟨E, hE⟩ : ∃ E, appE (pfs q0) p1 = E := ⟨_, rfl⟩
    have HE := Lib.hid hE
    clear hE hq hnm hot hd0 hk1 ha1 hb1
    go_enter Tryz.func4, Tryz.ntmps4
    go_wp2_with (first
      | ((with_reducible refine box_k (cs := p1.cells) HK.out rfl _ rfl rfl ?_); intro bp u hk; clear HK; have HK := Lib.hid hk; clear hk)
      | (with_reducible refine load_kr (xs := p1.cells) HK.out 0 Tryz.underlying24 rfl p_info _ rfl rfl rfl rfl Pl.all ?_)
      | (go_at_call 8; (with_reducible refine (hfw _ (cr_below HC.out HK.out.mf.bel)).mono ?_); rintro e u ⟨rfl, hb⟩; have hk := HK.out.call hb; clear hb; clear HK; have HK := Lib.hid hk; clear hk)
      | (go_at_call 9; (with_reducible refine (awake_any _).mono ?_); rintro e u ⟨rfl, hb⟩; have hk := HK.out.call hb; clear hb; clear HK; have HK := Lib.hid hk; clear hk))
    refine Draws.start (S := fun u => Kg w (fun _ => False) [Th.cel bp 24 p1.cells] [] u) (n := 9) 9 rfl (by kernel_rfl) ?_
    have HS := Lib.hid (show (fun u => Kg w (fun _ => False) [Th.cel bp 24 p1.cells] [] u) (World.drew _) from HK.out.drew)
    refine Draws.take 0 (v := ?v1) HS.out rfl (by kernel_rfl) (fun _ _ _ h => h) (Or.inl ⟨rfl, ?h1⟩) ?r1
    case h1 => intro w' hw'; go_simp; (try with_reducible rfl)
    (try simp only [Act.put, lsA, lsB, lsC])
    refine Draws.take 2 HS.out rfl (by kernel_rfl) (fun _ _ _ h => h) (yield_kr Tryz.underlying24 rfl p_info (fun _ h => (h.celAt 0 rfl).range Pl.all) _ rfl rfl rfl) ?_
    (try simp only [Act.put, lsA, lsB, lsC])
    refine Draws.does 1 rfl (by kernel_rfl) rfl (fun K' hK => ?_)
    go_simp
    go_at_call 21
    refine (ow_any A0 n0 c0 q0 hn' _ (HD.out.below HS.out.mf.bel)).mono ?_
    rintro e u ⟨A1, c1, q1, rfl, hb, hfr, hnew, hpf⟩
    (try dsimp only)
    have hk := HS.out.frMade hb hfr hnew
    have HPF := Lib.hid (show pfs q1 = pfs q0 from hpf)
    clear HK; have HK := Lib.hid hk
    clear HS; have HS := Lib.hid (show (fun u => Kg w (fun _ => False) [Th.cel bp 24 p1.cells] [] u) _ from hk.sub (by simp))
    clear hk hb hfr hnew hpf
    refine hK.out _ _ (fun _ => HS.out) ?_
    clear hK K'
    (try simp only [Act.put, lsA, lsB, lsC])
    refine Draws.does 3 rfl (by kernel_rfl) rfl (fun K' hK => ?_)
    go_simp
    go_at_call 20
    refine (ap_any p1 hP A1 n0 c1 q1 (by omega) (fits_of HPF.out hN) (pfs q0) HPF.out E HE.out _ (HK.out.fr 0 rfl)).mono ?_
    rintro e u ⟨A2, c2, xs, rfl, hb, hfr, hnew, h1, h2⟩
    (try dsimp only)
    have hk := HS.out.frMade hb hfr hnew
    have HAP := Lib.hid h1
    have HNO := Lib.hid h2
    clear HK; have HK := Lib.hid hk
    clear HS; have HS := Lib.hid (show (fun u => Kg w (fun _ => False) [Th.cel bp 24 p1.cells] [] u) _ from hk.sub (by simp))
    clear hk hb hfr hnew h1 h2
    refine hK.out _ _ (fun _ => HS.out) ?_
    clear hK K'
    (try simp only [Act.put, lsA, lsB, lsC])
    refine Draws.take 4 (v := ?v2) HS.out rfl (by kernel_rfl) (fun _ _ _ h => h) (Or.inl ⟨rfl, ?h2⟩) ?r2
    case h2 => intro w' hw'; go_simp; (try with_reducible rfl)
    (try simp only [Act.put, lsA, lsB, lsC])
    refine Draws.take 5 (v := ?v3) HS.out rfl (by kernel_rfl) (fun _ _ _ h => h) (Or.inl ⟨rfl, ?h3⟩) ?r3
    case h3 => intro w' hw'; go_simp; (try with_reducible rfl)
    (try simp only [Act.put, lsA, lsB, lsC])
    refine Draws.take 6 (v := ?v4) HS.out rfl (by kernel_rfl) (fun _ _ _ h => h) (Or.inl ⟨rfl, ?h4⟩) ?r4
    case h4 => intro w' hw'; go_simp; (try with_reducible rfl)
    (try simp only [Act.put, lsA, lsB, lsC])
    refine Draws.take 7 (v := ?v5) HS.out rfl (by kernel_rfl) (fun _ _ _ h => h) (Or.inl ⟨rfl, ?h5⟩) ?r5
    case h5 => intro w' hw'; go_simp; (try with_reducible rfl)
    (try simp only [Act.put, lsA, lsB, lsC])
    refine Draws.take 8 (v := ?v6) HS.out rfl (by kernel_rfl) (fun _ _ _ h => h) (Or.inl ⟨rfl, ?h6⟩) ?r6
    case h6 => intro w' hw'; go_simp; (try with_reducible rfl)
    (try simp only [Act.put, lsA, lsB, lsC])
    refine Draws.done (by kernel_rfl) ?_
    by_cases he : E = 0
    · subst he
      have HG := Lib.hid (goes_of HE.out)
      have HAA := Lib.hid (HAP.out rfl)
      have HXF := Lib.hid (app_fields HG.out HAA.out)
      obtain ⟨hxN, hx4, _⟩ := fits_right HXF.out
      obtain ⟨x0, hx0⟩ : ∃ x0, xs[0]? = some x0 := by
        obtain ⟨d, hd⟩ : ∃ d, d ∈ dsP (pfs q0) p1 := List.exists_mem_of_length_pos (by rw [ds_len]; split <;> omega)
        have hm := (app_mem HG.out HAA.out).2 (.inl ⟨d, hd, rfl⟩)
        exact ⟨_, List.getElem?_eq_getElem (by rw [← pfs_len]; exact List.length_pos_of_mem hm)⟩
      obtain ⟨N, hNN⟩ : ∃ N, xs.length = N := ⟨_, rfl⟩
      rw [hNN] at hx4
      simp only [hNN] at HK
      rw [hNN]
      obtain ⟨b, off, rfl⟩ := (HK.out.fr 0 rfl).ptr hx0
      clear HS
      obtain ⟨T, hT⟩ : ∃ T, totN (pfs q0) = T := ⟨_, rfl⟩
      obtain ⟨G, hG⟩ : ∃ G, totE (pfs q0) = G := ⟨_, rfl⟩
      obtain ⟨T2, hT2⟩ : ∃ T2, totN (pfs xs) = T2 := ⟨_, rfl⟩
      obtain ⟨G2, hG2⟩ : ∃ G2, totE (pfs xs) = G2 := ⟨_, rfl⟩
      have hTT : G = 0 → G2 = 0 → T = T2 := fun h1 h2 => by rw [← hT, ← hT2]; exact app_tot HG.out HAA.out (hG.trans h1) (hG2.trans h2)
      have hrto := fun w h => rtotal_any A0 n0 c0 q0 hn' w h
      have hrt2 := fun w h => rtotal_any (some ⟨b, off, none⟩) N c2 xs (by omega) w h
      have hrf := fun w h => rfields_any (some ⟨b, off, none⟩) N c2 xs (by omega) hxN w h
      simp only [hT, hG] at hrto
      simp only [hT2, hG2] at hrt2
      simp only [HXF.out] at hrf
      clear hT hG hT2 hG2 hx0 hNN hxN
      by_cases g1 : G = 0
      · subst g1
        by_cases g2 : G2 = 0
        · subst g2
          obtain rfl := hTT rfl rfl
          clear hTT
          go_wp2_with (first
            | (go_at_call 11; (with_reducible refine (hrto _ (HD.out.below HK.out.mf.bel)).mono ?_); rintro e u ⟨rfl, hb⟩; have hk := HK.out.call hb; clear hb; clear HK; have HK := Lib.hid hk; clear hk)
            | (go_at_call 11; (with_reducible refine (hrt2 _ (HK.out.fr 0 rfl)).mono ?_); rintro e u ⟨rfl, hb⟩; have hk := HK.out.call hb; clear hb; clear HK; have HK := Lib.hid hk; clear hk)
            | (go_at_call 15; (with_reducible refine (hrf _ (HK.out.fr 0 rfl)).mono ?_); rintro e u ⟨rfl, hb⟩; have hk := HK.out.call hb; clear hb; clear HK; have HK := Lib.hid hk; clear hk))
          go_wp2
          go_loopw [63] (fun i wr => ∃ m : Nat, m ≤ N ∧ i = .int .i64 m ∧ Kg w (fun _ => False) [Th.cel bp 24 p1.cells] [Th.fr (some ⟨b, off, none⟩) N xs] wr) (fun i _ => N - (intOf i).toNat)
          case atStart => exact ⟨0, by omega, rfl, HK.out⟩
          case round =>
            obtain ⟨m, hm, rfl, hk⟩ := hrel
            clear HK; have HK := Lib.hid hk; clear hk
            by_cases hlt : m < N
            · obtain ⟨x, hx⟩ := (HK.out.fr 0 rfl).get hlt
              have HX := Lib.hid hx
              have HF := Lib.hid ((HK.out.fr 0 rfl).full hx)
              have i1 : (0 : Int) ≤ (m : Int) := by omega
              have i2 : (m : Int) < (N : Int) := by omega
              have hxm : x.1 ∈ pfs xs := List.mem_map.2 ⟨x, List.mem_of_getElem? hx, rfl⟩
              clear hx
              cases ht : touchB p1 x.1.nm with
              | true =>
                have htp := fun w => touched_any p1 x.1.nm w
                simp only [ht] at htp
                obtain ⟨_, hep1, hep2, hep3⟩ := goes_ep HG.out
                obtain ⟨d, hd, hxb, hmd⟩ := app_touch HG.out HAA.out hxm ht
                clear hxb
                have H1 := Lib.hid (show decide (x.1.e < 1) = false by rw [decide_eq_false_iff_not, hmd.e]; omega)
                have H3 := Lib.hid (show decide ((0 : Int) < (x.1.hs.length : Int)) = false by rw [hmd.hs]; rfl)
                cases hi : isP (pfs q0) x.1.nm with
                | true =>
                  obtain ⟨y0, hy0, hye, hyl⟩ := isP_at hi
                  obtain ⟨y, hy, hyy⟩ := pfs_get hy0
                  obtain ⟨k, hk⟩ : ∃ k, findP (pfs q0) x.1.nm = k := ⟨_, rfl⟩
                  rw [hk] at hy hyl
                  have hfi := fun w h => find_any A0 n0 c0 q0 x.1.nm hn' (k : Int) true (by rw [hi, hk]; rfl) hi w h
                  obtain ⟨b5, off5, rfl⟩ := HD.out.ptr hy
                  have HYE := Lib.hid ((HD.out.rng hy) 2 _ Pf.ce)
                  have H2 := Lib.hid (show decide (x.1.e ≤ y.1.e) = false by
                    rw [decide_eq_false_iff_not, hmd.e, hyy]
                    have := hep3 y0 (by
                      rw [aboutP, List.mem_filter]
                      exact ⟨List.mem_of_getElem? hy0, by rw [eqS_iff.1 hye]; exact ht⟩)
                    omega)
                  have j1 : (0 : Int) ≤ (k : Int) := by omega
                  have j2 : (k : Int) < (n0 : Int) := by rw [HPL.out] at hyl; omega
                  clear hy0 hye hyl hy hyy hk hep1 hep2 hep3 hd hmd ht hi hxm
                  go_wp2_with (first
                    | (with_reducible refine load_kg Tryz.underlying43 rfl (Pf.infoF HF.out) _ rfl ((HK.out.fr 0 rfl).rng HX.out) rfl rfl ?_)
                    | ((with_reducible refine alloc_k HK.out f_zeroP rfl rfl ?_); intro b4 u hk; clear HK; have HK := Lib.hid hk; clear hk)
                    | ((refine store_kr HK.out 0 (Pf.infoF HF.out) (Fd.one _) rfl rfl _ _ rfl rfl rfl rfl (Fd.leP zP_full HF.out) (Fd.setAllP zP_full HF.out) ?_); intro u hk; simp only [List.set_cons_zero] at hk; clear HK; have HK := Lib.hid hk; clear hk)
                    | (with_reducible refine load_k1 HK.out 0 ckS _ rfl rfl rfl rfl Pf.cn ?_)
                    | (go_at_call 12; (with_reducible refine (hfi _ (HD.out.below HK.out.mf.bel)).mono ?_); rintro e u ⟨rfl, hb⟩; have hk := HK.out.call hb; clear hb; clear HK; have HK := Lib.hid hk; clear hk))
                  refine Draws.start (S := fun u => Kg w (fun _ => False) [Th.cel b4 43 (x.1.fd x.2.1 x.2.2).cells, Th.cel bp 24 p1.cells] [Th.fr (some ⟨b, off, none⟩) N xs] u) (n := 18) 18 rfl (by kernel_rfl) ?_
                  have HS := Lib.hid (show (fun u => Kg w (fun _ => False) [Th.cel b4 43 (x.1.fd x.2.1 x.2.2).cells, Th.cel bp 24 p1.cells] [Th.fr (some ⟨b, off, none⟩) N xs] u) (World.drew _) from HK.out.drew)
                  refine Draws.take 0 HS.out rfl (by kernel_rfl) (fun _ _ _ h => h) (yield_kr Tryz.underlying24 rfl p_info (fun _ h => (h.celAt 1 rfl).range Pl.all) _ rfl rfl rfl) ?_
                  (try simp only [Act.put, lsA, lsB, lsC])
                  refine Draws.take 1 (v := ?v7) HS.out rfl (by kernel_rfl) (fun _ _ _ h => h) (Or.inl ⟨rfl, ?h7⟩) ?r7
                  case h7 => intro w' hw'; go_simp; (try with_reducible rfl)
                  (try simp only [Act.put, lsA, lsB, lsC])
                  refine Draws.take 2 HS.out rfl (by kernel_rfl) (fun _ _ _ h => h) (yield_k ckS (fun _ h => (h.celAt 0 rfl).cell Pf.cn) _ rfl rfl rfl) ?_
                  (try simp only [Act.put, lsA, lsB, lsC])
                  refine Draws.does 3 rfl (by kernel_rfl) rfl (fun K' hK => ?_)
                  go_simp
                  go_at_call 13
                  refine (htp _).mono ?_
                  rintro e u ⟨rfl, hb⟩
                  (try dsimp only)
                  have hk := HS.out.call hb; clear hb
                  clear HS; have HS := Lib.hid (show (fun u => Kg w (fun _ => False) [Th.cel b4 43 (x.1.fd x.2.1 x.2.2).cells, Th.cel bp 24 p1.cells] [Th.fr (some ⟨b, off, none⟩) N xs] u) _ from hk); clear hk
                  refine hK.out _ _ (fun _ => HS.out) ?_
                  clear hK K'
                  (try simp only [Act.put, lsA, lsB, lsC])
                  refine Draws.take 4 (v := ?v8) HS.out rfl (by kernel_rfl) (fun _ _ _ h => h) (Or.inl ⟨rfl, ?h8⟩) ?r8
                  case h8 => intro w' hw'; go_simp; (try with_reducible rfl)
                  (try simp only [Act.put, lsA, lsB, lsC])
                  refine Draws.take 5 (v := ?v9) HS.out rfl (by kernel_rfl) (fun _ _ _ h => h) (Or.inl ⟨rfl, ?h9⟩) ?r9
                  case h9 => intro w' hw'; go_simp; (try with_reducible rfl)
                  (try simp only [Act.put, lsA, lsB, lsC])
                  refine Draws.take 6 HS.out rfl (by kernel_rfl) (fun _ _ _ h => h) (Or.inr ⟨rfl, rfl⟩) ?_
                  (try simp only [Act.put, lsA, lsB, lsC])
                  refine Draws.take 7 HS.out rfl (by kernel_rfl) (fun _ _ _ h => h) (Or.inr ⟨rfl, rfl⟩) ?_
                  (try simp only [Act.put, lsA, lsB, lsC])
                  refine Draws.take 8 HS.out rfl (by kernel_rfl) (fun _ _ _ h => h) (Or.inr ⟨rfl, rfl⟩) ?_
                  (try simp only [Act.put, lsA, lsB, lsC])
                  refine Draws.take 9 HS.out rfl (by kernel_rfl) (fun _ _ _ h => h) (Or.inr ⟨rfl, rfl⟩) ?_
                  (try simp only [Act.put, lsA, lsB, lsC])
                  refine Draws.take 10 HS.out rfl (by kernel_rfl) (fun _ _ _ h => h) (Or.inr ⟨rfl, rfl⟩) ?_
                  (try simp only [Act.put, lsA, lsB, lsC])
                  refine Draws.take 11 HS.out rfl (by kernel_rfl) (fun _ _ _ h => h) (Or.inr ⟨rfl, rfl⟩) ?_
                  (try simp only [Act.put, lsA, lsB, lsC])
                  refine Draws.take 12 HS.out rfl (by kernel_rfl) (fun _ _ _ h => h) (Or.inr ⟨rfl, rfl⟩) ?_
                  (try simp only [Act.put, lsA, lsB, lsC])
                  refine Draws.take 13 HS.out rfl (by kernel_rfl) (fun _ _ _ h => h) (Or.inr ⟨rfl, rfl⟩) ?_
                  (try simp only [Act.put, lsA, lsB, lsC])
                  refine Draws.take 14 HS.out rfl (by kernel_rfl) (fun _ _ _ h => h) (Or.inr ⟨rfl, rfl⟩) ?_
                  (try simp only [Act.put, lsA, lsB, lsC])
                  refine Draws.take 15 HS.out rfl (by kernel_rfl) (fun _ _ _ h => h) (Or.inr ⟨rfl, rfl⟩) ?_
                  (try simp only [Act.put, lsA, lsB, lsC])
                  refine Draws.take 16 HS.out rfl (by kernel_rfl) (fun _ _ _ h => h) (Or.inr ⟨rfl, rfl⟩) ?_
                  (try simp only [Act.put, lsA, lsB, lsC])
                  refine Draws.take 17 (v := ?v10) HS.out rfl (by kernel_rfl) (fun _ _ _ h => h) (Or.inl ⟨rfl, ?h10⟩) ?r10
                  case h10 => intro w' hw'; go_simp; (try with_reducible rfl)
                  (try simp only [Act.put, lsA, lsB, lsC])
                  refine Draws.done (by kernel_rfl) ?_
                  clear HK; have HK := Lib.hid (show (fun u => Kg w (fun _ => False) [Th.cel b4 43 (x.1.fd x.2.1 x.2.2).cells, Th.cel bp 24 p1.cells] [Th.fr (some ⟨b, off, none⟩) N xs] u) _ from HS.out); clear HS
                  go_wp2
                  refine Draws.start (S := fun u => Kg w (fun _ => False) [Th.cel b4 43 (x.1.fd x.2.1 x.2.2).cells, Th.cel bp 24 p1.cells] [Th.fr (some ⟨b, off, none⟩) N xs] u) (n := 28) 28 rfl (by kernel_rfl) ?_
                  have HS := Lib.hid (show (fun u => Kg w (fun _ => False) [Th.cel b4 43 (x.1.fd x.2.1 x.2.2).cells, Th.cel bp 24 p1.cells] [Th.fr (some ⟨b, off, none⟩) N xs] u) (World.drew _) from HK.out.drew)
                  refine Draws.take 0 HS.out rfl (by kernel_rfl) (fun _ _ _ h => h) (yield_kr Tryz.underlying24 rfl p_info (fun _ h => (h.celAt 1 rfl).range Pl.all) _ rfl rfl rfl) ?_
                  (try simp only [Act.put, lsA, lsB, lsC])
                  refine Draws.take 1 (v := ?v11) HS.out rfl (by kernel_rfl) (fun _ _ _ h => h) (Or.inl ⟨rfl, ?h11⟩) ?r11
                  case h11 => intro w' hw'; go_simp; (try with_reducible rfl)
                  (try simp only [Act.put, lsA, lsB, lsC])
                  refine Draws.take 2 HS.out rfl (by kernel_rfl) (fun _ _ _ h => h) (yield_k ckS (fun _ h => (h.celAt 0 rfl).cell Pf.cn) _ rfl rfl rfl) ?_
                  (try simp only [Act.put, lsA, lsB, lsC])
                  refine Draws.does 3 rfl (by kernel_rfl) rfl (fun K' hK => ?_)
                  go_simp
                  go_at_call 13
                  refine (htp _).mono ?_
                  rintro e u ⟨rfl, hb⟩
                  (try dsimp only)
                  have hk := HS.out.call hb; clear hb
                  clear HS; have HS := Lib.hid (show (fun u => Kg w (fun _ => False) [Th.cel b4 43 (x.1.fd x.2.1 x.2.2).cells, Th.cel bp 24 p1.cells] [Th.fr (some ⟨b, off, none⟩) N xs] u) _ from hk); clear hk
                  refine hK.out _ _ (fun _ => HS.out) ?_
                  clear hK K'
                  (try simp only [Act.put, lsA, lsB, lsC])
                  refine Draws.take 4 (v := ?v12) HS.out rfl (by kernel_rfl) (fun _ _ _ h => h) (Or.inl ⟨rfl, ?h12⟩) ?r12
                  case h12 => intro w' hw'; go_simp; (try with_reducible rfl)
                  (try simp only [Act.put, lsA, lsB, lsC])
                  refine Draws.take 5 (v := ?v13) HS.out rfl (by kernel_rfl) (fun _ _ _ h => h) (Or.inl ⟨rfl, ?h13⟩) ?r13
                  case h13 => intro w' hw'; go_simp; (try with_reducible rfl)
                  (try simp only [Act.put, lsA, lsB, lsC])
                  refine Draws.take 6 (v := ?v14) HS.out rfl (by kernel_rfl) (fun _ _ _ h => h) (Or.inl ⟨rfl, ?h14⟩) ?r14
                  case h14 => intro w' hw'; go_simp; (try with_reducible rfl)
                  (try simp only [Act.put, lsA, lsB, lsC])
                  refine Draws.take 7 (v := ?v15) HS.out rfl (by kernel_rfl) (fun _ _ _ h => h) (Or.inl ⟨rfl, ?h15⟩) ?r15
                  case h15 => intro w' hw'; go_simp; (try with_reducible rfl)
                  (try simp only [Act.put, lsA, lsB, lsC])
                  refine Draws.take 8 HS.out rfl (by kernel_rfl) (fun _ _ _ h => h) (yield_k ckI (fun _ h => (h.celAt 0 rfl).cell Pf.ce) _ rfl rfl rfl) ?_
                  (try simp only [Act.put, lsA, lsB, lsC])
                  refine Draws.take 9 (v := ?v16) HS.out rfl (by kernel_rfl) (fun _ _ _ h => h) (Or.inl ⟨rfl, ?h16⟩) ?r16
                  case h16 => intro w' hw'; go_simp; (try with_reducible rfl)
                  (try simp only [Act.put, lsA, lsB, lsC])
                  refine Draws.take 10 (v := ?v17) HS.out rfl (by kernel_rfl) (fun _ _ _ h => h) (Or.inl ⟨rfl, ?h17⟩) ?r17
                  case h17 => intro w' hw'; go_simp; (try with_reducible rfl)
                  (try simp only [Act.put, lsA, lsB, lsC])
                  refine Draws.take 11 (v := ?v18) HS.out rfl (by kernel_rfl) (fun _ _ _ h => h) (Or.inl ⟨rfl, ?h18⟩) ?r18
                  case h18 => intro w' hw'; go_simp; (try with_reducible rfl)
                  (try simp only [Act.put, lsA, lsB, lsC])
                  refine Draws.take 12 (v := ?v19) HS.out rfl (by kernel_rfl) (fun _ _ _ h => h) (Or.inl ⟨rfl, ?h19⟩) ?r19
                  case h19 => intro w' hw'; go_simp; (try with_reducible rfl)
                  (try simp only [Act.put, lsA, lsB, lsC])
                  refine Draws.take 13 HS.out rfl (by kernel_rfl) (fun _ _ _ h => h) (yield_k ckI (fun _ h => (h.mf.bel.cell (cell_lt HYE.out)).trans HYE.out) _ rfl rfl rfl) ?_
                  (try simp only [Act.put, lsA, lsB, lsC])
                  refine Draws.take 14 HS.out rfl (by kernel_rfl) (fun _ _ _ h => h) (yield_leq H2.out _ _ _ rfl rfl rfl rfl) ?_
                  (try simp only [Act.put, lsA, lsB, lsC])
                  refine Draws.take 15 (v := ?v20) HS.out rfl (by kernel_rfl) (fun _ _ _ h => h) (Or.inl ⟨rfl, ?h20⟩) ?r20
                  case h20 => intro w' hw'; go_simp; (try with_reducible rfl)
                  (try simp only [Act.put, lsA, lsB, lsC])
                  refine Draws.take 16 (v := ?v21) HS.out rfl (by kernel_rfl) (fun _ _ _ h => h) (Or.inl ⟨rfl, ?h21⟩) ?r21
                  case h21 => intro w' hw'; go_simp; (try with_reducible rfl)
                  (try simp only [Act.put, lsA, lsB, lsC])
                  refine Draws.take 17 (v := ?v22) HS.out rfl (by kernel_rfl) (fun _ _ _ h => h) (Or.inl ⟨rfl, ?h22⟩) ?r22
                  case h22 => intro w' hw'; go_simp; (try with_reducible rfl)
                  (try simp only [Act.put, lsA, lsB, lsC])
                  refine Draws.take 18 HS.out rfl (by kernel_rfl) (fun _ _ _ h => h) (yield_k ckI (fun _ h => (h.celAt 0 rfl).cell Pf.ce) _ rfl rfl rfl) ?_
                  (try simp only [Act.put, lsA, lsB, lsC])
                  refine Draws.take 19 HS.out rfl (by kernel_rfl) (fun _ _ _ h => h) (yield_lss H1.out _ _ _ rfl rfl rfl rfl) ?_
                  (try simp only [Act.put, lsA, lsB, lsC])
                  refine Draws.take 20 (v := ?v23) HS.out rfl (by kernel_rfl) (fun _ _ _ h => h) (Or.inl ⟨rfl, ?h23⟩) ?r23
                  case h23 => intro w' hw'; go_simp; (try with_reducible rfl)
                  (try simp only [Act.put, lsA, lsB, lsC])
                  refine Draws.take 21 (v := ?v24) HS.out rfl (by kernel_rfl) (fun _ _ _ h => h) (Or.inl ⟨rfl, ?h24⟩) ?r24
                  case h24 => intro w' hw'; go_simp; (try with_reducible rfl)
                  (try simp only [Act.put, lsA, lsB, lsC])
                  refine Draws.take 22 (v := ?v25) HS.out rfl (by kernel_rfl) (fun _ _ _ h => h) (Or.inl ⟨rfl, ?h25⟩) ?r25
                  case h25 => intro w' hw'; go_simp; (try with_reducible rfl)
                  (try simp only [Act.put, lsA, lsB, lsC])
                  refine Draws.take 23 HS.out rfl (by kernel_rfl) (fun _ _ _ h => h) (yield_k ckH (fun _ h => (h.celAt 0 rfl).cell (Pf.cH HF.out)) _ rfl rfl rfl) ?_
                  (try simp only [Act.put, lsA, lsB, lsC])
                  refine Draws.take 24 (v := ?v26) HS.out rfl (by kernel_rfl) (fun _ _ _ h => h) (Or.inl ⟨rfl, ?h26⟩) ?r26
                  case h26 => intro w' hw'; go_simp; (try with_reducible rfl)
                  (try simp only [Act.put, lsA, lsB, lsC])
                  refine Draws.take 25 HS.out rfl (by kernel_rfl) (fun _ _ _ h => h) (yield_gtr H3.out _ _ _ rfl rfl rfl rfl) ?_
                  (try simp only [Act.put, lsA, lsB, lsC])
                  refine Draws.take 26 (v := ?v27) HS.out rfl (by kernel_rfl) (fun _ _ _ h => h) (Or.inl ⟨rfl, ?h27⟩) ?r27
                  case h27 => intro w' hw'; go_simp; (try with_reducible rfl)
                  (try simp only [Act.put, lsA, lsB, lsC])
                  refine Draws.take 27 (v := ?v28) HS.out rfl (by kernel_rfl) (fun _ _ _ h => h) (Or.inl ⟨rfl, ?h28⟩) ?r28
                  case h28 => intro w' hw'; go_simp; (try with_reducible rfl)
                  (try simp only [Act.put, lsA, lsB, lsC])
                  refine Draws.done (by kernel_rfl) ?_
                  clear HK; have HK := Lib.hid (show (fun u => Kg w (fun _ => False) [Th.cel b4 43 (x.1.fd x.2.1 x.2.2).cells, Th.cel bp 24 p1.cells] [Th.fr (some ⟨b, off, none⟩) N xs] u) _ from HS.out); clear HS
                  go_wp2
                  go_roundw
                  case rel => exact ⟨m + 1, by omega, by go_num, HK.out.tail⟩
                  case measure => simp [intOf]; omega
                | false =>
                  have hfi := fun w h => find_any A0 n0 c0 q0 x.1.nm hn' 0 false (by rw [hi]; rfl) hi w h
                  clear hep1 hep2 hep3 hd hmd ht hi hxm
                  go_wp2_with (first
                    | (with_reducible refine load_kg Tryz.underlying43 rfl (Pf.infoF HF.out) _ rfl ((HK.out.fr 0 rfl).rng HX.out) rfl rfl ?_)
                    | ((with_reducible refine alloc_k HK.out f_zeroP rfl rfl ?_); intro b4 u hk; clear HK; have HK := Lib.hid hk; clear hk)
                    | ((refine store_kr HK.out 0 (Pf.infoF HF.out) (Fd.one _) rfl rfl _ _ rfl rfl rfl rfl (Fd.leP zP_full HF.out) (Fd.setAllP zP_full HF.out) ?_); intro u hk; simp only [List.set_cons_zero] at hk; clear HK; have HK := Lib.hid hk; clear hk)
                    | (with_reducible refine load_k1 HK.out 0 ckS _ rfl rfl rfl rfl Pf.cn ?_)
                    | (go_at_call 12; (with_reducible refine (hfi _ (HD.out.below HK.out.mf.bel)).mono ?_); rintro e u ⟨rfl, hb⟩; have hk := HK.out.call hb; clear hb; clear HK; have HK := Lib.hid hk; clear hk))
                  refine Draws.start (S := fun u => Kg w (fun _ => False) [Th.cel b4 43 (x.1.fd x.2.1 x.2.2).cells, Th.cel bp 24 p1.cells] [Th.fr (some ⟨b, off, none⟩) N xs] u) (n := 18) 18 rfl (by kernel_rfl) ?_
                  have HS := Lib.hid (show (fun u => Kg w (fun _ => False) [Th.cel b4 43 (x.1.fd x.2.1 x.2.2).cells, Th.cel bp 24 p1.cells] [Th.fr (some ⟨b, off, none⟩) N xs] u) (World.drew _) from HK.out.drew)
                  refine Draws.take 0 HS.out rfl (by kernel_rfl) (fun _ _ _ h => h) (yield_kr Tryz.underlying24 rfl p_info (fun _ h => (h.celAt 1 rfl).range Pl.all) _ rfl rfl rfl) ?_
                  (try simp only [Act.put, lsA, lsB, lsC])
                  refine Draws.take 1 (v := ?v29) HS.out rfl (by kernel_rfl) (fun _ _ _ h => h) (Or.inl ⟨rfl, ?h29⟩) ?r29
                  case h29 => intro w' hw'; go_simp; (try with_reducible rfl)
                  (try simp only [Act.put, lsA, lsB, lsC])
                  refine Draws.take 2 HS.out rfl (by kernel_rfl) (fun _ _ _ h => h) (yield_k ckS (fun _ h => (h.celAt 0 rfl).cell Pf.cn) _ rfl rfl rfl) ?_
                  (try simp only [Act.put, lsA, lsB, lsC])
                  refine Draws.does 3 rfl (by kernel_rfl) rfl (fun K' hK => ?_)
                  go_simp
                  go_at_call 13
                  refine (htp _).mono ?_
                  rintro e u ⟨rfl, hb⟩
                  (try dsimp only)
                  have hk := HS.out.call hb; clear hb
                  clear HS; have HS := Lib.hid (show (fun u => Kg w (fun _ => False) [Th.cel b4 43 (x.1.fd x.2.1 x.2.2).cells, Th.cel bp 24 p1.cells] [Th.fr (some ⟨b, off, none⟩) N xs] u) _ from hk); clear hk
                  refine hK.out _ _ (fun _ => HS.out) ?_
                  clear hK K'
                  (try simp only [Act.put, lsA, lsB, lsC])
                  refine Draws.take 4 (v := ?v30) HS.out rfl (by kernel_rfl) (fun _ _ _ h => h) (Or.inl ⟨rfl, ?h30⟩) ?r30
                  case h30 => intro w' hw'; go_simp; (try with_reducible rfl)
                  (try simp only [Act.put, lsA, lsB, lsC])
                  refine Draws.take 5 (v := ?v31) HS.out rfl (by kernel_rfl) (fun _ _ _ h => h) (Or.inl ⟨rfl, ?h31⟩) ?r31
                  case h31 => intro w' hw'; go_simp; (try with_reducible rfl)
                  (try simp only [Act.put, lsA, lsB, lsC])
                  refine Draws.take 6 HS.out rfl (by kernel_rfl) (fun _ _ _ h => h) (Or.inr ⟨rfl, rfl⟩) ?_
                  (try simp only [Act.put, lsA, lsB, lsC])
                  refine Draws.take 7 HS.out rfl (by kernel_rfl) (fun _ _ _ h => h) (Or.inr ⟨rfl, rfl⟩) ?_
                  (try simp only [Act.put, lsA, lsB, lsC])
                  refine Draws.take 8 HS.out rfl (by kernel_rfl) (fun _ _ _ h => h) (Or.inr ⟨rfl, rfl⟩) ?_
                  (try simp only [Act.put, lsA, lsB, lsC])
                  refine Draws.take 9 HS.out rfl (by kernel_rfl) (fun _ _ _ h => h) (Or.inr ⟨rfl, rfl⟩) ?_
                  (try simp only [Act.put, lsA, lsB, lsC])
                  refine Draws.take 10 HS.out rfl (by kernel_rfl) (fun _ _ _ h => h) (Or.inr ⟨rfl, rfl⟩) ?_
                  (try simp only [Act.put, lsA, lsB, lsC])
                  refine Draws.take 11 HS.out rfl (by kernel_rfl) (fun _ _ _ h => h) (Or.inr ⟨rfl, rfl⟩) ?_
                  (try simp only [Act.put, lsA, lsB, lsC])
                  refine Draws.take 12 HS.out rfl (by kernel_rfl) (fun _ _ _ h => h) (Or.inr ⟨rfl, rfl⟩) ?_
                  (try simp only [Act.put, lsA, lsB, lsC])
                  refine Draws.take 13 HS.out rfl (by kernel_rfl) (fun _ _ _ h => h) (Or.inr ⟨rfl, rfl⟩) ?_
                  (try simp only [Act.put, lsA, lsB, lsC])
                  refine Draws.take 14 HS.out rfl (by kernel_rfl) (fun _ _ _ h => h) (Or.inr ⟨rfl, rfl⟩) ?_
                  (try simp only [Act.put, lsA, lsB, lsC])
                  refine Draws.take 15 HS.out rfl (by kernel_rfl) (fun _ _ _ h => h) (Or.inr ⟨rfl, rfl⟩) ?_
                  (try simp only [Act.put, lsA, lsB, lsC])
                  refine Draws.take 16 HS.out rfl (by kernel_rfl) (fun _ _ _ h => h) (Or.inr ⟨rfl, rfl⟩) ?_
                  (try simp only [Act.put, lsA, lsB, lsC])
                  refine Draws.take 17 (v := ?v32) HS.out rfl (by kernel_rfl) (fun _ _ _ h => h) (Or.inl ⟨rfl, ?h32⟩) ?r32
                  case h32 => intro w' hw'; go_simp; (try with_reducible rfl)
                  (try simp only [Act.put, lsA, lsB, lsC])
                  refine Draws.done (by kernel_rfl) ?_
                  clear HK; have HK := Lib.hid (show (fun u => Kg w (fun _ => False) [Th.cel b4 43 (x.1.fd x.2.1 x.2.2).cells, Th.cel bp 24 p1.cells] [Th.fr (some ⟨b, off, none⟩) N xs] u) _ from HS.out); clear HS
                  go_wp2
                  refine Draws.start (S := fun u => Kg w (fun _ => False) [Th.cel b4 43 (x.1.fd x.2.1 x.2.2).cells, Th.cel bp 24 p1.cells] [Th.fr (some ⟨b, off, none⟩) N xs] u) (n := 28) 28 rfl (by kernel_rfl) ?_
                  have HS := Lib.hid (show (fun u => Kg w (fun _ => False) [Th.cel b4 43 (x.1.fd x.2.1 x.2.2).cells, Th.cel bp 24 p1.cells] [Th.fr (some ⟨b, off, none⟩) N xs] u) (World.drew _) from HK.out.drew)
                  refine Draws.take 0 HS.out rfl (by kernel_rfl) (fun _ _ _ h => h) (yield_kr Tryz.underlying24 rfl p_info (fun _ h => (h.celAt 1 rfl).range Pl.all) _ rfl rfl rfl) ?_
                  (try simp only [Act.put, lsA, lsB, lsC])
                  refine Draws.take 1 (v := ?v33) HS.out rfl (by kernel_rfl) (fun _ _ _ h => h) (Or.inl ⟨rfl, ?h33⟩) ?r33
                  case h33 => intro w' hw'; go_simp; (try with_reducible rfl)
                  (try simp only [Act.put, lsA, lsB, lsC])
                  refine Draws.take 2 HS.out rfl (by kernel_rfl) (fun _ _ _ h => h) (yield_k ckS (fun _ h => (h.celAt 0 rfl).cell Pf.cn) _ rfl rfl rfl) ?_
                  (try simp only [Act.put, lsA, lsB, lsC])
                  refine Draws.does 3 rfl (by kernel_rfl) rfl (fun K' hK => ?_)
                  go_simp
                  go_at_call 13
                  refine (htp _).mono ?_
                  rintro e u ⟨rfl, hb⟩
                  (try dsimp only)
                  have hk := HS.out.call hb; clear hb
                  clear HS; have HS := Lib.hid (show (fun u => Kg w (fun _ => False) [Th.cel b4 43 (x.1.fd x.2.1 x.2.2).cells, Th.cel bp 24 p1.cells] [Th.fr (some ⟨b, off, none⟩) N xs] u) _ from hk); clear hk
                  refine hK.out _ _ (fun _ => HS.out) ?_
                  clear hK K'
                  (try simp only [Act.put, lsA, lsB, lsC])
                  refine Draws.take 4 (v := ?v34) HS.out rfl (by kernel_rfl) (fun _ _ _ h => h) (Or.inl ⟨rfl, ?h34⟩) ?r34
                  case h34 => intro w' hw'; go_simp; (try with_reducible rfl)
                  (try simp only [Act.put, lsA, lsB, lsC])
                  refine Draws.take 5 (v := ?v35) HS.out rfl (by kernel_rfl) (fun _ _ _ h => h) (Or.inl ⟨rfl, ?h35⟩) ?r35
                  case h35 => intro w' hw'; go_simp; (try with_reducible rfl)
                  (try simp only [Act.put, lsA, lsB, lsC])
                  refine Draws.take 6 (v := ?v36) HS.out rfl (by kernel_rfl) (fun _ _ _ h => h) (Or.inl ⟨rfl, ?h36⟩) ?r36
                  case h36 => intro w' hw'; go_simp; (try with_reducible rfl)
                  (try simp only [Act.put, lsA, lsB, lsC])
                  refine Draws.take 7 HS.out rfl (by kernel_rfl) (fun _ _ _ h => h) (Or.inr ⟨rfl, rfl⟩) ?_
                  (try simp only [Act.put, lsA, lsB, lsC])
                  refine Draws.take 8 HS.out rfl (by kernel_rfl) (fun _ _ _ h => h) (Or.inr ⟨rfl, rfl⟩) ?_
                  (try simp only [Act.put, lsA, lsB, lsC])
                  refine Draws.take 9 HS.out rfl (by kernel_rfl) (fun _ _ _ h => h) (Or.inr ⟨rfl, rfl⟩) ?_
                  (try simp only [Act.put, lsA, lsB, lsC])
                  refine Draws.take 10 HS.out rfl (by kernel_rfl) (fun _ _ _ h => h) (Or.inr ⟨rfl, rfl⟩) ?_
                  (try simp only [Act.put, lsA, lsB, lsC])
                  refine Draws.take 11 HS.out rfl (by kernel_rfl) (fun _ _ _ h => h) (Or.inr ⟨rfl, rfl⟩) ?_
                  (try simp only [Act.put, lsA, lsB, lsC])
                  refine Draws.take 12 HS.out rfl (by kernel_rfl) (fun _ _ _ h => h) (Or.inr ⟨rfl, rfl⟩) ?_
                  (try simp only [Act.put, lsA, lsB, lsC])
                  refine Draws.take 13 HS.out rfl (by kernel_rfl) (fun _ _ _ h => h) (Or.inr ⟨rfl, rfl⟩) ?_
                  (try simp only [Act.put, lsA, lsB, lsC])
                  refine Draws.take 14 HS.out rfl (by kernel_rfl) (fun _ _ _ h => h) (Or.inr ⟨rfl, rfl⟩) ?_
                  (try simp only [Act.put, lsA, lsB, lsC])
                  refine Draws.take 15 (v := ?v37) HS.out rfl (by kernel_rfl) (fun _ _ _ h => h) (Or.inl ⟨rfl, ?h37⟩) ?r37
                  case h37 => intro w' hw'; go_simp; (try with_reducible rfl)
                  (try simp only [Act.put, lsA, lsB, lsC])
                  refine Draws.take 16 (v := ?v38) HS.out rfl (by kernel_rfl) (fun _ _ _ h => h) (Or.inl ⟨rfl, ?h38⟩) ?r38
                  case h38 => intro w' hw'; go_simp; (try with_reducible rfl)
                  (try simp only [Act.put, lsA, lsB, lsC])
                  refine Draws.take 17 (v := ?v39) HS.out rfl (by kernel_rfl) (fun _ _ _ h => h) (Or.inl ⟨rfl, ?h39⟩) ?r39
                  case h39 => intro w' hw'; go_simp; (try with_reducible rfl)
                  (try simp only [Act.put, lsA, lsB, lsC])
                  refine Draws.take 18 HS.out rfl (by kernel_rfl) (fun _ _ _ h => h) (yield_k ckI (fun _ h => (h.celAt 0 rfl).cell Pf.ce) _ rfl rfl rfl) ?_
                  (try simp only [Act.put, lsA, lsB, lsC])
                  refine Draws.take 19 HS.out rfl (by kernel_rfl) (fun _ _ _ h => h) (yield_lss H1.out _ _ _ rfl rfl rfl rfl) ?_
                  (try simp only [Act.put, lsA, lsB, lsC])
                  refine Draws.take 20 (v := ?v40) HS.out rfl (by kernel_rfl) (fun _ _ _ h => h) (Or.inl ⟨rfl, ?h40⟩) ?r40
                  case h40 => intro w' hw'; go_simp; (try with_reducible rfl)
                  (try simp only [Act.put, lsA, lsB, lsC])
                  refine Draws.take 21 (v := ?v41) HS.out rfl (by kernel_rfl) (fun _ _ _ h => h) (Or.inl ⟨rfl, ?h41⟩) ?r41
                  case h41 => intro w' hw'; go_simp; (try with_reducible rfl)
                  (try simp only [Act.put, lsA, lsB, lsC])
                  refine Draws.take 22 (v := ?v42) HS.out rfl (by kernel_rfl) (fun _ _ _ h => h) (Or.inl ⟨rfl, ?h42⟩) ?r42
                  case h42 => intro w' hw'; go_simp; (try with_reducible rfl)
                  (try simp only [Act.put, lsA, lsB, lsC])
                  refine Draws.take 23 HS.out rfl (by kernel_rfl) (fun _ _ _ h => h) (yield_k ckH (fun _ h => (h.celAt 0 rfl).cell (Pf.cH HF.out)) _ rfl rfl rfl) ?_
                  (try simp only [Act.put, lsA, lsB, lsC])
                  refine Draws.take 24 (v := ?v43) HS.out rfl (by kernel_rfl) (fun _ _ _ h => h) (Or.inl ⟨rfl, ?h43⟩) ?r43
                  case h43 => intro w' hw'; go_simp; (try with_reducible rfl)
                  (try simp only [Act.put, lsA, lsB, lsC])
                  refine Draws.take 25 HS.out rfl (by kernel_rfl) (fun _ _ _ h => h) (yield_gtr H3.out _ _ _ rfl rfl rfl rfl) ?_
                  (try simp only [Act.put, lsA, lsB, lsC])
                  refine Draws.take 26 (v := ?v44) HS.out rfl (by kernel_rfl) (fun _ _ _ h => h) (Or.inl ⟨rfl, ?h44⟩) ?r44
                  case h44 => intro w' hw'; go_simp; (try with_reducible rfl)
                  (try simp only [Act.put, lsA, lsB, lsC])
                  refine Draws.take 27 (v := ?v45) HS.out rfl (by kernel_rfl) (fun _ _ _ h => h) (Or.inl ⟨rfl, ?h45⟩) ?r45
                  case h45 => intro w' hw'; go_simp; (try with_reducible rfl)
                  (try simp only [Act.put, lsA, lsB, lsC])
                  refine Draws.done (by kernel_rfl) ?_
                  clear HK; have HK := Lib.hid (show (fun u => Kg w (fun _ => False) [Th.cel b4 43 (x.1.fd x.2.1 x.2.2).cells, Th.cel bp 24 p1.cells] [Th.fr (some ⟨b, off, none⟩) N xs] u) _ from HS.out); clear HS
                  go_wp2
                  go_roundw
                  case rel => exact ⟨m + 1, by omega, by go_num, HK.out.tail⟩
                  case measure => simp [intOf]; omega
              | false =>
                have htp := fun w => touched_any p1 x.1.nm w
                simp only [ht] at htp
                have hxi := app_rest HG.out HAA.out hxm ht
                have hi : isP (pfs q0) x.1.nm = true := isP_iff.2 ⟨x.1, hxi, rfl⟩
                obtain ⟨k, hk⟩ : ∃ k, findP (pfs q0) x.1.nm = k := ⟨_, rfl⟩
                have hy0 := find_in hi (fields_is HG.out.fit.fs).2.2 hxi rfl
                rw [hk] at hy0
                obtain ⟨y, hy, hyy⟩ := pfs_get hy0
                have hfi := fun w h => find_any A0 n0 c0 q0 x.1.nm hn' (k : Int) true (by rw [hi, hk]; rfl) hi w h
                obtain ⟨b5, off5, rfl⟩ := HD.out.ptr hy
                have HY := Lib.hid (show w.rangeAt b5 (off5 + k * 587) (x.1.fd y.2.1 y.2.2).cells by rw [← hyy]; exact HD.out.rng hy)
                have HYR := Lib.hid (show Row w y.2.1 x.1.hs.length x.1.hs by rw [← hyy]; exact HD.out.row hy)
                have j1 : (0 : Int) ≤ (k : Int) := by omega
                have j2 : (k : Int) < (n0 : Int) := by have := (List.getElem?_eq_some_iff.1 hy).1; have := HD.out.1; omega
                clear hy0 hy hyy hk hxi ht hi hxm
                go_wp2_with (first
                  | (with_reducible refine load_kg Tryz.underlying43 rfl (Pf.infoF HF.out) _ rfl ((HK.out.fr 0 rfl).rng HX.out) rfl rfl ?_)
                  | ((with_reducible refine alloc_k HK.out f_zeroP rfl rfl ?_); intro b4 u hk; clear HK; have HK := Lib.hid hk; clear hk)
                  | ((refine store_kr HK.out 0 (Pf.infoF HF.out) (Fd.one _) rfl rfl _ _ rfl rfl rfl rfl (Fd.leP zP_full HF.out) (Fd.setAllP zP_full HF.out) ?_); intro u hk; simp only [List.set_cons_zero] at hk; clear HK; have HK := Lib.hid hk; clear hk)
                  | (with_reducible refine load_k1 HK.out 0 ckS _ rfl rfl rfl rfl Pf.cn ?_)
                  | (go_at_call 12; (with_reducible refine (hfi _ (HD.out.below HK.out.mf.bel)).mono ?_); rintro e u ⟨rfl, hb⟩; have hk := HK.out.call hb; clear hb; clear HK; have HK := Lib.hid hk; clear hk))
                refine Draws.start (S := fun u => Kg w (fun _ => False) [Th.cel b4 43 (x.1.fd x.2.1 x.2.2).cells, Th.cel bp 24 p1.cells] [Th.fr (some ⟨b, off, none⟩) N xs] u) (n := 18) 18 rfl (by kernel_rfl) ?_
                have HS := Lib.hid (show (fun u => Kg w (fun _ => False) [Th.cel b4 43 (x.1.fd x.2.1 x.2.2).cells, Th.cel bp 24 p1.cells] [Th.fr (some ⟨b, off, none⟩) N xs] u) (World.drew _) from HK.out.drew)
                refine Draws.take 0 HS.out rfl (by kernel_rfl) (fun _ _ _ h => h) (yield_kr Tryz.underlying24 rfl p_info (fun _ h => (h.celAt 1 rfl).range Pl.all) _ rfl rfl rfl) ?_
                (try simp only [Act.put, lsA, lsB, lsC])
                refine Draws.take 1 (v := ?v46) HS.out rfl (by kernel_rfl) (fun _ _ _ h => h) (Or.inl ⟨rfl, ?h46⟩) ?r46
                case h46 => intro w' hw'; go_simp; (try with_reducible rfl)
                (try simp only [Act.put, lsA, lsB, lsC])
                refine Draws.take 2 HS.out rfl (by kernel_rfl) (fun _ _ _ h => h) (yield_k ckS (fun _ h => (h.celAt 0 rfl).cell Pf.cn) _ rfl rfl rfl) ?_
                (try simp only [Act.put, lsA, lsB, lsC])
                refine Draws.does 3 rfl (by kernel_rfl) rfl (fun K' hK => ?_)
                go_simp
                go_at_call 13
                refine (htp _).mono ?_
                rintro e u ⟨rfl, hb⟩
                (try dsimp only)
                have hk := HS.out.call hb; clear hb
                clear HS; have HS := Lib.hid (show (fun u => Kg w (fun _ => False) [Th.cel b4 43 (x.1.fd x.2.1 x.2.2).cells, Th.cel bp 24 p1.cells] [Th.fr (some ⟨b, off, none⟩) N xs] u) _ from hk); clear hk
                refine hK.out _ _ (fun _ => HS.out) ?_
                clear hK K'
                (try simp only [Act.put, lsA, lsB, lsC])
                refine Draws.take 4 (v := ?v47) HS.out rfl (by kernel_rfl) (fun _ _ _ h => h) (Or.inl ⟨rfl, ?h47⟩) ?r47
                case h47 => intro w' hw'; go_simp; (try with_reducible rfl)
                (try simp only [Act.put, lsA, lsB, lsC])
                refine Draws.take 5 (v := ?v48) HS.out rfl (by kernel_rfl) (fun _ _ _ h => h) (Or.inl ⟨rfl, ?h48⟩) ?r48
                case h48 => intro w' hw'; go_simp; (try with_reducible rfl)
                (try simp only [Act.put, lsA, lsB, lsC])
                refine Draws.take 6 (v := ?v49) HS.out rfl (by kernel_rfl) (fun _ _ _ h => h) (Or.inl ⟨rfl, ?h49⟩) ?r49
                case h49 => intro w' hw'; go_simp; (try with_reducible rfl)
                (try simp only [Act.put, lsA, lsB, lsC])
                refine Draws.take 7 (v := ?v50) HS.out rfl (by kernel_rfl) (fun _ _ _ h => h) (Or.inl ⟨rfl, ?h50⟩) ?r50
                case h50 => intro w' hw'; go_simp; (try with_reducible rfl)
                (try simp only [Act.put, lsA, lsB, lsC])
                refine Draws.take 8 (v := ?v51) HS.out rfl (by kernel_rfl) (fun _ _ _ h => h) (Or.inl ⟨rfl, ?h51⟩) ?r51
                case h51 => intro w' hw'; go_simp; (try with_reducible rfl)
                (try simp only [Act.put, lsA, lsB, lsC])
                refine Draws.take 9 HS.out rfl (by kernel_rfl) (fun _ _ _ h => h) (yield_kr Tryz.underlying43 rfl (Pf.infoF HF.out) (fun _ h => (h.celAt 0 rfl).range Pf.all) _ rfl rfl rfl) ?_
                (try simp only [Act.put, lsA, lsB, lsC])
                refine Draws.take 10 (v := ?v52) HS.out rfl (by kernel_rfl) (fun _ _ _ h => h) (Or.inl ⟨rfl, ?h52⟩) ?r52
                case h52 => intro w' hw'; go_simp; (try with_reducible rfl)
                (try simp only [Act.put, lsA, lsB, lsC])
                refine Draws.take 11 (v := ?v53) HS.out rfl (by kernel_rfl) (fun _ _ _ h => h) (Or.inl ⟨rfl, ?h53⟩) ?r53
                case h53 => intro w' hw'; go_simp; (try with_reducible rfl)
                (try simp only [Act.put, lsA, lsB, lsC])
                refine Draws.take 12 (v := ?v54) HS.out rfl (by kernel_rfl) (fun _ _ _ h => h) (Or.inl ⟨rfl, ?h54⟩) ?r54
                case h54 => intro w' hw'; go_simp; (try with_reducible rfl)
                (try simp only [Act.put, lsA, lsB, lsC])
                refine Draws.take 13 HS.out rfl (by kernel_rfl) (fun _ _ _ h => h) (yield_kr Tryz.underlying43 rfl (Pf.infoF HF.out) (fun _ h => rng_below HY.out h.mf.bel) _ rfl rfl rfl) ?_
                (try simp only [Act.put, lsA, lsB, lsC])
                refine Draws.does 14 rfl (by kernel_rfl) rfl (fun K' hK => ?_)
                go_simp
                go_at_call 22
                refine (rsame_any x.1 HF.out _ _ _ _ _ ((HS.out.fr 0 rfl).row HX.out) (HYR.out.below HS.out.mf.bel (Nat.le_refl _))).mono ?_
                rintro e u ⟨rfl, hb⟩
                (try dsimp only)
                have hk := HS.out.call hb; clear hb
                clear HS; have HS := Lib.hid (show (fun u => Kg w (fun _ => False) [Th.cel b4 43 (x.1.fd x.2.1 x.2.2).cells, Th.cel bp 24 p1.cells] [Th.fr (some ⟨b, off, none⟩) N xs] u) _ from hk); clear hk
                refine hK.out _ _ (fun _ => HS.out) ?_
                clear hK K'
                (try simp only [Act.put, lsA, lsB, lsC])
                refine Draws.take 15 (v := ?v55) HS.out rfl (by kernel_rfl) (fun _ _ _ h => h) (Or.inl ⟨rfl, ?h55⟩) ?r55
                case h55 => intro w' hw'; go_simp; (try with_reducible rfl)
                (try simp only [Act.put, lsA, lsB, lsC])
                refine Draws.take 16 (v := ?v56) HS.out rfl (by kernel_rfl) (fun _ _ _ h => h) (Or.inl ⟨rfl, ?h56⟩) ?r56
                case h56 => intro w' hw'; go_simp; (try with_reducible rfl)
                (try simp only [Act.put, lsA, lsB, lsC])
                refine Draws.take 17 (v := ?v57) HS.out rfl (by kernel_rfl) (fun _ _ _ h => h) (Or.inl ⟨rfl, ?h57⟩) ?r57
                case h57 => intro w' hw'; go_simp; (try with_reducible rfl)
                (try simp only [Act.put, lsA, lsB, lsC])
                refine Draws.done (by kernel_rfl) ?_
                clear HK; have HK := Lib.hid (show (fun u => Kg w (fun _ => False) [Th.cel b4 43 (x.1.fd x.2.1 x.2.2).cells, Th.cel bp 24 p1.cells] [Th.fr (some ⟨b, off, none⟩) N xs] u) _ from HS.out); clear HS
                go_wp2
                refine Draws.start (S := fun u => Kg w (fun _ => False) [Th.cel b4 43 (x.1.fd x.2.1 x.2.2).cells, Th.cel bp 24 p1.cells] [Th.fr (some ⟨b, off, none⟩) N xs] u) (n := 28) 28 rfl (by kernel_rfl) ?_
                have HS := Lib.hid (show (fun u => Kg w (fun _ => False) [Th.cel b4 43 (x.1.fd x.2.1 x.2.2).cells, Th.cel bp 24 p1.cells] [Th.fr (some ⟨b, off, none⟩) N xs] u) (World.drew _) from HK.out.drew)
                refine Draws.take 0 HS.out rfl (by kernel_rfl) (fun _ _ _ h => h) (yield_kr Tryz.underlying24 rfl p_info (fun _ h => (h.celAt 1 rfl).range Pl.all) _ rfl rfl rfl) ?_
                (try simp only [Act.put, lsA, lsB, lsC])
                refine Draws.take 1 (v := ?v58) HS.out rfl (by kernel_rfl) (fun _ _ _ h => h) (Or.inl ⟨rfl, ?h58⟩) ?r58
                case h58 => intro w' hw'; go_simp; (try with_reducible rfl)
                (try simp only [Act.put, lsA, lsB, lsC])
                refine Draws.take 2 HS.out rfl (by kernel_rfl) (fun _ _ _ h => h) (yield_k ckS (fun _ h => (h.celAt 0 rfl).cell Pf.cn) _ rfl rfl rfl) ?_
                (try simp only [Act.put, lsA, lsB, lsC])
                refine Draws.does 3 rfl (by kernel_rfl) rfl (fun K' hK => ?_)
                go_simp
                go_at_call 13
                refine (htp _).mono ?_
                rintro e u ⟨rfl, hb⟩
                (try dsimp only)
                have hk := HS.out.call hb; clear hb
                clear HS; have HS := Lib.hid (show (fun u => Kg w (fun _ => False) [Th.cel b4 43 (x.1.fd x.2.1 x.2.2).cells, Th.cel bp 24 p1.cells] [Th.fr (some ⟨b, off, none⟩) N xs] u) _ from hk); clear hk
                refine hK.out _ _ (fun _ => HS.out) ?_
                clear hK K'
                (try simp only [Act.put, lsA, lsB, lsC])
                refine Draws.take 4 (v := ?v59) HS.out rfl (by kernel_rfl) (fun _ _ _ h => h) (Or.inl ⟨rfl, ?h59⟩) ?r59
                case h59 => intro w' hw'; go_simp; (try with_reducible rfl)
                (try simp only [Act.put, lsA, lsB, lsC])
                refine Draws.take 5 HS.out rfl (by kernel_rfl) (fun _ _ _ h => h) (Or.inr ⟨rfl, rfl⟩) ?_
                (try simp only [Act.put, lsA, lsB, lsC])
                refine Draws.take 6 HS.out rfl (by kernel_rfl) (fun _ _ _ h => h) (Or.inr ⟨rfl, rfl⟩) ?_
                (try simp only [Act.put, lsA, lsB, lsC])
                refine Draws.take 7 HS.out rfl (by kernel_rfl) (fun _ _ _ h => h) (Or.inr ⟨rfl, rfl⟩) ?_
                (try simp only [Act.put, lsA, lsB, lsC])
                refine Draws.take 8 HS.out rfl (by kernel_rfl) (fun _ _ _ h => h) (Or.inr ⟨rfl, rfl⟩) ?_
                (try simp only [Act.put, lsA, lsB, lsC])
                refine Draws.take 9 HS.out rfl (by kernel_rfl) (fun _ _ _ h => h) (Or.inr ⟨rfl, rfl⟩) ?_
                (try simp only [Act.put, lsA, lsB, lsC])
                refine Draws.take 10 HS.out rfl (by kernel_rfl) (fun _ _ _ h => h) (Or.inr ⟨rfl, rfl⟩) ?_
                (try simp only [Act.put, lsA, lsB, lsC])
                refine Draws.take 11 HS.out rfl (by kernel_rfl) (fun _ _ _ h => h) (Or.inr ⟨rfl, rfl⟩) ?_
                (try simp only [Act.put, lsA, lsB, lsC])
                refine Draws.take 12 HS.out rfl (by kernel_rfl) (fun _ _ _ h => h) (Or.inr ⟨rfl, rfl⟩) ?_
                (try simp only [Act.put, lsA, lsB, lsC])
                refine Draws.take 13 HS.out rfl (by kernel_rfl) (fun _ _ _ h => h) (Or.inr ⟨rfl, rfl⟩) ?_
                (try simp only [Act.put, lsA, lsB, lsC])
                refine Draws.take 14 HS.out rfl (by kernel_rfl) (fun _ _ _ h => h) (Or.inr ⟨rfl, rfl⟩) ?_
                (try simp only [Act.put, lsA, lsB, lsC])
                refine Draws.take 15 HS.out rfl (by kernel_rfl) (fun _ _ _ h => h) (Or.inr ⟨rfl, rfl⟩) ?_
                (try simp only [Act.put, lsA, lsB, lsC])
                refine Draws.take 16 HS.out rfl (by kernel_rfl) (fun _ _ _ h => h) (Or.inr ⟨rfl, rfl⟩) ?_
                (try simp only [Act.put, lsA, lsB, lsC])
                refine Draws.take 17 HS.out rfl (by kernel_rfl) (fun _ _ _ h => h) (Or.inr ⟨rfl, rfl⟩) ?_
                (try simp only [Act.put, lsA, lsB, lsC])
                refine Draws.take 18 HS.out rfl (by kernel_rfl) (fun _ _ _ h => h) (Or.inr ⟨rfl, rfl⟩) ?_
                (try simp only [Act.put, lsA, lsB, lsC])
                refine Draws.take 19 HS.out rfl (by kernel_rfl) (fun _ _ _ h => h) (Or.inr ⟨rfl, rfl⟩) ?_
                (try simp only [Act.put, lsA, lsB, lsC])
                refine Draws.take 20 HS.out rfl (by kernel_rfl) (fun _ _ _ h => h) (Or.inr ⟨rfl, rfl⟩) ?_
                (try simp only [Act.put, lsA, lsB, lsC])
                refine Draws.take 21 HS.out rfl (by kernel_rfl) (fun _ _ _ h => h) (Or.inr ⟨rfl, rfl⟩) ?_
                (try simp only [Act.put, lsA, lsB, lsC])
                refine Draws.take 22 HS.out rfl (by kernel_rfl) (fun _ _ _ h => h) (Or.inr ⟨rfl, rfl⟩) ?_
                (try simp only [Act.put, lsA, lsB, lsC])
                refine Draws.take 23 HS.out rfl (by kernel_rfl) (fun _ _ _ h => h) (Or.inr ⟨rfl, rfl⟩) ?_
                (try simp only [Act.put, lsA, lsB, lsC])
                refine Draws.take 24 HS.out rfl (by kernel_rfl) (fun _ _ _ h => h) (Or.inr ⟨rfl, rfl⟩) ?_
                (try simp only [Act.put, lsA, lsB, lsC])
                refine Draws.take 25 HS.out rfl (by kernel_rfl) (fun _ _ _ h => h) (Or.inr ⟨rfl, rfl⟩) ?_
                (try simp only [Act.put, lsA, lsB, lsC])
                refine Draws.take 26 HS.out rfl (by kernel_rfl) (fun _ _ _ h => h) (Or.inr ⟨rfl, rfl⟩) ?_
                (try simp only [Act.put, lsA, lsB, lsC])
                refine Draws.take 27 (v := ?v60) HS.out rfl (by kernel_rfl) (fun _ _ _ h => h) (Or.inl ⟨rfl, ?h60⟩) ?r60
                case h60 => intro w' hw'; go_simp; (try with_reducible rfl)
                (try simp only [Act.put, lsA, lsB, lsC])
                refine Draws.done (by kernel_rfl) ?_
                clear HK; have HK := Lib.hid (show (fun u => Kg w (fun _ => False) [Th.cel b4 43 (x.1.fd x.2.1 x.2.2).cells, Th.cel bp 24 p1.cells] [Th.fr (some ⟨b, off, none⟩) N xs] u) _ from HS.out); clear HS
                go_wp2
                go_roundw
                case rel => exact ⟨m + 1, by omega, by go_num, HK.out.tail⟩
                case measure => simp [intOf]; omega
            · obtain rfl : m = N := by omega
              go_wp2_with (first
                | (go_at_call 9; (with_reducible refine (awake_any _).mono ?_); rintro e u ⟨rfl, hb⟩; have hk := HK.out.call hb; clear hb; clear HK; have HK := Lib.hid hk; clear hk))
              go_ret
              exact ⟨rfl, HK.out.mf.bel⟩
        · have g2' : (G2 == 0) = false := by simpa using g2
          clear hTT g2
          go_wp2_with (first
            | (go_at_call 11; (with_reducible refine (hrto _ (HD.out.below HK.out.mf.bel)).mono ?_); rintro e u ⟨rfl, hb⟩; have hk := HK.out.call hb; clear hb; clear HK; have HK := Lib.hid hk; clear hk)
            | (go_at_call 11; (with_reducible refine (hrt2 _ (HK.out.fr 0 rfl)).mono ?_); rintro e u ⟨rfl, hb⟩; have hk := HK.out.call hb; clear hb; clear HK; have HK := Lib.hid hk; clear hk)
            | (go_at_call 15; (with_reducible refine (hrf _ (HK.out.fr 0 rfl)).mono ?_); rintro e u ⟨rfl, hb⟩; have hk := HK.out.call hb; clear hb; clear HK; have HK := Lib.hid hk; clear hk))
          go_wp2
          go_loopw [63] (fun i wr => ∃ m : Nat, m ≤ N ∧ i = .int .i64 m ∧ Kg w (fun _ => False) [Th.cel bp 24 p1.cells] [Th.fr (some ⟨b, off, none⟩) N xs] wr) (fun i _ => N - (intOf i).toNat)
          case atStart => exact ⟨0, by omega, rfl, HK.out⟩
          case round =>
            obtain ⟨m, hm, rfl, hk⟩ := hrel
            clear HK; have HK := Lib.hid hk; clear hk
            by_cases hlt : m < N
            · obtain ⟨x, hx⟩ := (HK.out.fr 0 rfl).get hlt
              have HX := Lib.hid hx
              have HF := Lib.hid ((HK.out.fr 0 rfl).full hx)
              have i1 : (0 : Int) ≤ (m : Int) := by omega
              have i2 : (m : Int) < (N : Int) := by omega
              have hxm : x.1 ∈ pfs xs := List.mem_map.2 ⟨x, List.mem_of_getElem? hx, rfl⟩
              clear hx
              cases ht : touchB p1 x.1.nm with
              | true =>
                have htp := fun w => touched_any p1 x.1.nm w
                simp only [ht] at htp
                obtain ⟨_, hep1, hep2, hep3⟩ := goes_ep HG.out
                obtain ⟨d, hd, hxb, hmd⟩ := app_touch HG.out HAA.out hxm ht
                clear hxb
                have H1 := Lib.hid (show decide (x.1.e < 1) = false by rw [decide_eq_false_iff_not, hmd.e]; omega)
                have H3 := Lib.hid (show decide ((0 : Int) < (x.1.hs.length : Int)) = false by rw [hmd.hs]; rfl)
                cases hi : isP (pfs q0) x.1.nm with
                | true =>
                  obtain ⟨y0, hy0, hye, hyl⟩ := isP_at hi
                  obtain ⟨y, hy, hyy⟩ := pfs_get hy0
                  obtain ⟨k, hk⟩ : ∃ k, findP (pfs q0) x.1.nm = k := ⟨_, rfl⟩
                  rw [hk] at hy hyl
                  have hfi := fun w h => find_any A0 n0 c0 q0 x.1.nm hn' (k : Int) true (by rw [hi, hk]; rfl) hi w h
                  obtain ⟨b5, off5, rfl⟩ := HD.out.ptr hy
                  have HYE := Lib.hid ((HD.out.rng hy) 2 _ Pf.ce)
                  have H2 := Lib.hid (show decide (x.1.e ≤ y.1.e) = false by
                    rw [decide_eq_false_iff_not, hmd.e, hyy]
                    have := hep3 y0 (by
                      rw [aboutP, List.mem_filter]
                      exact ⟨List.mem_of_getElem? hy0, by rw [eqS_iff.1 hye]; exact ht⟩)
                    omega)
                  have j1 : (0 : Int) ≤ (k : Int) := by omega
                  have j2 : (k : Int) < (n0 : Int) := by rw [HPL.out] at hyl; omega
                  clear hy0 hye hyl hy hyy hk hep1 hep2 hep3 hd hmd ht hi hxm
                  go_wp2_with (first
                    | (with_reducible refine load_kg Tryz.underlying43 rfl (Pf.infoF HF.out) _ rfl ((HK.out.fr 0 rfl).rng HX.out) rfl rfl ?_)
                    | ((with_reducible refine alloc_k HK.out f_zeroP rfl rfl ?_); intro b4 u hk; clear HK; have HK := Lib.hid hk; clear hk)
                    | ((refine store_kr HK.out 0 (Pf.infoF HF.out) (Fd.one _) rfl rfl _ _ rfl rfl rfl rfl (Fd.leP zP_full HF.out) (Fd.setAllP zP_full HF.out) ?_); intro u hk; simp only [List.set_cons_zero] at hk; clear HK; have HK := Lib.hid hk; clear hk)
                    | (with_reducible refine load_k1 HK.out 0 ckS _ rfl rfl rfl rfl Pf.cn ?_)
                    | (go_at_call 12; (with_reducible refine (hfi _ (HD.out.below HK.out.mf.bel)).mono ?_); rintro e u ⟨rfl, hb⟩; have hk := HK.out.call hb; clear hb; clear HK; have HK := Lib.hid hk; clear hk))
                  refine Draws.start (S := fun u => Kg w (fun _ => False) [Th.cel b4 43 (x.1.fd x.2.1 x.2.2).cells, Th.cel bp 24 p1.cells] [Th.fr (some ⟨b, off, none⟩) N xs] u) (n := 18) 18 rfl (by kernel_rfl) ?_
                  have HS := Lib.hid (show (fun u => Kg w (fun _ => False) [Th.cel b4 43 (x.1.fd x.2.1 x.2.2).cells, Th.cel bp 24 p1.cells] [Th.fr (some ⟨b, off, none⟩) N xs] u) (World.drew _) from HK.out.drew)
                  refine Draws.take 0 HS.out rfl (by kernel_rfl) (fun _ _ _ h => h) (yield_kr Tryz.underlying24 rfl p_info (fun _ h => (h.celAt 1 rfl).range Pl.all) _ rfl rfl rfl) ?_
                  (try simp only [Act.put, lsA, lsB, lsC])
                  refine Draws.take 1 (v := ?v61) HS.out rfl (by kernel_rfl) (fun _ _ _ h => h) (Or.inl ⟨rfl, ?h61⟩) ?r61
                  case h61 => intro w' hw'; go_simp; (try with_reducible rfl)
                  (try simp only [Act.put, lsA, lsB, lsC])
                  refine Draws.take 2 HS.out rfl (by kernel_rfl) (fun _ _ _ h => h) (yield_k ckS (fun _ h => (h.celAt 0 rfl).cell Pf.cn) _ rfl rfl rfl) ?_
                  (try simp only [Act.put, lsA, lsB, lsC])
                  refine Draws.does 3 rfl (by kernel_rfl) rfl (fun K' hK => ?_)
                  go_simp
                  go_at_call 13
                  refine (htp _).mono ?_
                  rintro e u ⟨rfl, hb⟩
                  (try dsimp only)
                  have hk := HS.out.call hb; clear hb
                  clear HS; have HS := Lib.hid (show (fun u => Kg w (fun _ => False) [Th.cel b4 43 (x.1.fd x.2.1 x.2.2).cells, Th.cel bp 24 p1.cells] [Th.fr (some ⟨b, off, none⟩) N xs] u) _ from hk); clear hk
                  refine hK.out _ _ (fun _ => HS.out) ?_
                  clear hK K'
                  (try simp only [Act.put, lsA, lsB, lsC])
                  refine Draws.take 4 (v := ?v62) HS.out rfl (by kernel_rfl) (fun _ _ _ h => h) (Or.inl ⟨rfl, ?h62⟩) ?r62
                  case h62 => intro w' hw'; go_simp; (try with_reducible rfl)
                  (try simp only [Act.put, lsA, lsB, lsC])
                  refine Draws.take 5 (v := ?v63) HS.out rfl (by kernel_rfl) (fun _ _ _ h => h) (Or.inl ⟨rfl, ?h63⟩) ?r63
                  case h63 => intro w' hw'; go_simp; (try with_reducible rfl)
                  (try simp only [Act.put, lsA, lsB, lsC])
                  refine Draws.take 6 HS.out rfl (by kernel_rfl) (fun _ _ _ h => h) (Or.inr ⟨rfl, rfl⟩) ?_
                  (try simp only [Act.put, lsA, lsB, lsC])
                  refine Draws.take 7 HS.out rfl (by kernel_rfl) (fun _ _ _ h => h) (Or.inr ⟨rfl, rfl⟩) ?_
                  (try simp only [Act.put, lsA, lsB, lsC])
                  refine Draws.take 8 HS.out rfl (by kernel_rfl) (fun _ _ _ h => h) (Or.inr ⟨rfl, rfl⟩) ?_
                  (try simp only [Act.put, lsA, lsB, lsC])
                  refine Draws.take 9 HS.out rfl (by kernel_rfl) (fun _ _ _ h => h) (Or.inr ⟨rfl, rfl⟩) ?_
                  (try simp only [Act.put, lsA, lsB, lsC])
                  refine Draws.take 10 HS.out rfl (by kernel_rfl) (fun _ _ _ h => h) (Or.inr ⟨rfl, rfl⟩) ?_
                  (try simp only [Act.put, lsA, lsB, lsC])
                  refine Draws.take 11 HS.out rfl (by kernel_rfl) (fun _ _ _ h => h) (Or.inr ⟨rfl, rfl⟩) ?_
                  (try simp only [Act.put, lsA, lsB, lsC])
                  refine Draws.take 12 HS.out rfl (by kernel_rfl) (fun _ _ _ h => h) (Or.inr ⟨rfl, rfl⟩) ?_
                  (try simp only [Act.put, lsA, lsB, lsC])
                  refine Draws.take 13 HS.out rfl (by kernel_rfl) (fun _ _ _ h => h) (Or.inr ⟨rfl, rfl⟩) ?_
                  (try simp only [Act.put, lsA, lsB, lsC])
                  refine Draws.take 14 HS.out rfl (by kernel_rfl) (fun _ _ _ h => h) (Or.inr ⟨rfl, rfl⟩) ?_
                  (try simp only [Act.put, lsA, lsB, lsC])
                  refine Draws.take 15 HS.out rfl (by kernel_rfl) (fun _ _ _ h => h) (Or.inr ⟨rfl, rfl⟩) ?_
                  (try simp only [Act.put, lsA, lsB, lsC])
                  refine Draws.take 16 HS.out rfl (by kernel_rfl) (fun _ _ _ h => h) (Or.inr ⟨rfl, rfl⟩) ?_
                  (try simp only [Act.put, lsA, lsB, lsC])
                  refine Draws.take 17 (v := ?v64) HS.out rfl (by kernel_rfl) (fun _ _ _ h => h) (Or.inl ⟨rfl, ?h64⟩) ?r64
                  case h64 => intro w' hw'; go_simp; (try with_reducible rfl)
                  (try simp only [Act.put, lsA, lsB, lsC])
                  refine Draws.done (by kernel_rfl) ?_
                  clear HK; have HK := Lib.hid (show (fun u => Kg w (fun _ => False) [Th.cel b4 43 (x.1.fd x.2.1 x.2.2).cells, Th.cel bp 24 p1.cells] [Th.fr (some ⟨b, off, none⟩) N xs] u) _ from HS.out); clear HS
                  go_wp2
                  refine Draws.start (S := fun u => Kg w (fun _ => False) [Th.cel b4 43 (x.1.fd x.2.1 x.2.2).cells, Th.cel bp 24 p1.cells] [Th.fr (some ⟨b, off, none⟩) N xs] u) (n := 28) 28 rfl (by kernel_rfl) ?_
                  have HS := Lib.hid (show (fun u => Kg w (fun _ => False) [Th.cel b4 43 (x.1.fd x.2.1 x.2.2).cells, Th.cel bp 24 p1.cells] [Th.fr (some ⟨b, off, none⟩) N xs] u) (World.drew _) from HK.out.drew)
                  refine Draws.take 0 HS.out rfl (by kernel_rfl) (fun _ _ _ h => h) (yield_kr Tryz.underlying24 rfl p_info (fun _ h => (h.celAt 1 rfl).range Pl.all) _ rfl rfl rfl) ?_
                  (try simp only [Act.put, lsA, lsB, lsC])
                  refine Draws.take 1 (v := ?v65) HS.out rfl (by kernel_rfl) (fun _ _ _ h => h) (Or.inl ⟨rfl, ?h65⟩) ?r65
                  case h65 => intro w' hw'; go_simp; (try with_reducible rfl)
                  (try simp only [Act.put, lsA, lsB, lsC])
                  refine Draws.take 2 HS.out rfl (by kernel_rfl) (fun _ _ _ h => h) (yield_k ckS (fun _ h => (h.celAt 0 rfl).cell Pf.cn) _ rfl rfl rfl) ?_
                  (try simp only [Act.put, lsA, lsB, lsC])
                  refine Draws.does 3 rfl (by kernel_rfl) rfl (fun K' hK => ?_)
                  go_simp
                  go_at_call 13
                  refine (htp _).mono ?_
                  rintro e u ⟨rfl, hb⟩
                  (try dsimp only)
                  have hk := HS.out.call hb; clear hb
                  clear HS; have HS := Lib.hid (show (fun u => Kg w (fun _ => False) [Th.cel b4 43 (x.1.fd x.2.1 x.2.2).cells, Th.cel bp 24 p1.cells] [Th.fr (some ⟨b, off, none⟩) N xs] u) _ from hk); clear hk
                  refine hK.out _ _ (fun _ => HS.out) ?_
                  clear hK K'
                  (try simp only [Act.put, lsA, lsB, lsC])
                  refine Draws.take 4 (v := ?v66) HS.out rfl (by kernel_rfl) (fun _ _ _ h => h) (Or.inl ⟨rfl, ?h66⟩) ?r66
                  case h66 => intro w' hw'; go_simp; (try with_reducible rfl)
                  (try simp only [Act.put, lsA, lsB, lsC])
                  refine Draws.take 5 (v := ?v67) HS.out rfl (by kernel_rfl) (fun _ _ _ h => h) (Or.inl ⟨rfl, ?h67⟩) ?r67
                  case h67 => intro w' hw'; go_simp; (try with_reducible rfl)
                  (try simp only [Act.put, lsA, lsB, lsC])
                  refine Draws.take 6 (v := ?v68) HS.out rfl (by kernel_rfl) (fun _ _ _ h => h) (Or.inl ⟨rfl, ?h68⟩) ?r68
                  case h68 => intro w' hw'; go_simp; (try with_reducible rfl)
                  (try simp only [Act.put, lsA, lsB, lsC])
                  refine Draws.take 7 (v := ?v69) HS.out rfl (by kernel_rfl) (fun _ _ _ h => h) (Or.inl ⟨rfl, ?h69⟩) ?r69
                  case h69 => intro w' hw'; go_simp; (try with_reducible rfl)
                  (try simp only [Act.put, lsA, lsB, lsC])
                  refine Draws.take 8 HS.out rfl (by kernel_rfl) (fun _ _ _ h => h) (yield_k ckI (fun _ h => (h.celAt 0 rfl).cell Pf.ce) _ rfl rfl rfl) ?_
                  (try simp only [Act.put, lsA, lsB, lsC])
                  refine Draws.take 9 (v := ?v70) HS.out rfl (by kernel_rfl) (fun _ _ _ h => h) (Or.inl ⟨rfl, ?h70⟩) ?r70
                  case h70 => intro w' hw'; go_simp; (try with_reducible rfl)
                  (try simp only [Act.put, lsA, lsB, lsC])
                  refine Draws.take 10 (v := ?v71) HS.out rfl (by kernel_rfl) (fun _ _ _ h => h) (Or.inl ⟨rfl, ?h71⟩) ?r71
                  case h71 => intro w' hw'; go_simp; (try with_reducible rfl)
                  (try simp only [Act.put, lsA, lsB, lsC])
                  refine Draws.take 11 (v := ?v72) HS.out rfl (by kernel_rfl) (fun _ _ _ h => h) (Or.inl ⟨rfl, ?h72⟩) ?r72
                  case h72 => intro w' hw'; go_simp; (try with_reducible rfl)
                  (try simp only [Act.put, lsA, lsB, lsC])
                  refine Draws.take 12 (v := ?v73) HS.out rfl (by kernel_rfl) (fun _ _ _ h => h) (Or.inl ⟨rfl, ?h73⟩) ?r73
                  case h73 => intro w' hw'; go_simp; (try with_reducible rfl)
                  (try simp only [Act.put, lsA, lsB, lsC])
                  refine Draws.take 13 HS.out rfl (by kernel_rfl) (fun _ _ _ h => h) (yield_k ckI (fun _ h => (h.mf.bel.cell (cell_lt HYE.out)).trans HYE.out) _ rfl rfl rfl) ?_
                  (try simp only [Act.put, lsA, lsB, lsC])
                  refine Draws.take 14 HS.out rfl (by kernel_rfl) (fun _ _ _ h => h) (yield_leq H2.out _ _ _ rfl rfl rfl rfl) ?_
                  (try simp only [Act.put, lsA, lsB, lsC])
                  refine Draws.take 15 (v := ?v74) HS.out rfl (by kernel_rfl) (fun _ _ _ h => h) (Or.inl ⟨rfl, ?h74⟩) ?r74
                  case h74 => intro w' hw'; go_simp; (try with_reducible rfl)
                  (try simp only [Act.put, lsA, lsB, lsC])
                  refine Draws.take 16 (v := ?v75) HS.out rfl (by kernel_rfl) (fun _ _ _ h => h) (Or.inl ⟨rfl, ?h75⟩) ?r75
                  case h75 => intro w' hw'; go_simp; (try with_reducible rfl)
                  (try simp only [Act.put, lsA, lsB, lsC])
                  refine Draws.take 17 (v := ?v76) HS.out rfl (by kernel_rfl) (fun _ _ _ h => h) (Or.inl ⟨rfl, ?h76⟩) ?r76
                  case h76 => intro w' hw'; go_simp; (try with_reducible rfl)
                  (try simp only [Act.put, lsA, lsB, lsC])
                  refine Draws.take 18 HS.out rfl (by kernel_rfl) (fun _ _ _ h => h) (yield_k ckI (fun _ h => (h.celAt 0 rfl).cell Pf.ce) _ rfl rfl rfl) ?_
                  (try simp only [Act.put, lsA, lsB, lsC])
                  refine Draws.take 19 HS.out rfl (by kernel_rfl) (fun _ _ _ h => h) (yield_lss H1.out _ _ _ rfl rfl rfl rfl) ?_
                  (try simp only [Act.put, lsA, lsB, lsC])
                  refine Draws.take 20 (v := ?v77) HS.out rfl (by kernel_rfl) (fun _ _ _ h => h) (Or.inl ⟨rfl, ?h77⟩) ?r77
                  case h77 => intro w' hw'; go_simp; (try with_reducible rfl)
                  (try simp only [Act.put, lsA, lsB, lsC])
                  refine Draws.take 21 (v := ?v78) HS.out rfl (by kernel_rfl) (fun _ _ _ h => h) (Or.inl ⟨rfl, ?h78⟩) ?r78
                  case h78 => intro w' hw'; go_simp; (try with_reducible rfl)
                  (try simp only [Act.put, lsA, lsB, lsC])
                  refine Draws.take 22 (v := ?v79) HS.out rfl (by kernel_rfl) (fun _ _ _ h => h) (Or.inl ⟨rfl, ?h79⟩) ?r79
                  case h79 => intro w' hw'; go_simp; (try with_reducible rfl)
                  (try simp only [Act.put, lsA, lsB, lsC])
                  refine Draws.take 23 HS.out rfl (by kernel_rfl) (fun _ _ _ h => h) (yield_k ckH (fun _ h => (h.celAt 0 rfl).cell (Pf.cH HF.out)) _ rfl rfl rfl) ?_
                  (try simp only [Act.put, lsA, lsB, lsC])
                  refine Draws.take 24 (v := ?v80) HS.out rfl (by kernel_rfl) (fun _ _ _ h => h) (Or.inl ⟨rfl, ?h80⟩) ?r80
                  case h80 => intro w' hw'; go_simp; (try with_reducible rfl)
                  (try simp only [Act.put, lsA, lsB, lsC])
                  refine Draws.take 25 HS.out rfl (by kernel_rfl) (fun _ _ _ h => h) (yield_gtr H3.out _ _ _ rfl rfl rfl rfl) ?_
                  (try simp only [Act.put, lsA, lsB, lsC])
                  refine Draws.take 26 (v := ?v81) HS.out rfl (by kernel_rfl) (fun _ _ _ h => h) (Or.inl ⟨rfl, ?h81⟩) ?r81
                  case h81 => intro w' hw'; go_simp; (try with_reducible rfl)
                  (try simp only [Act.put, lsA, lsB, lsC])
                  refine Draws.take 27 (v := ?v82) HS.out rfl (by kernel_rfl) (fun _ _ _ h => h) (Or.inl ⟨rfl, ?h82⟩) ?r82
                  case h82 => intro w' hw'; go_simp; (try with_reducible rfl)
                  (try simp only [Act.put, lsA, lsB, lsC])
                  refine Draws.done (by kernel_rfl) ?_
                  clear HK; have HK := Lib.hid (show (fun u => Kg w (fun _ => False) [Th.cel b4 43 (x.1.fd x.2.1 x.2.2).cells, Th.cel bp 24 p1.cells] [Th.fr (some ⟨b, off, none⟩) N xs] u) _ from HS.out); clear HS
                  go_wp2
                  go_roundw
                  case rel => exact ⟨m + 1, by omega, by go_num, HK.out.tail⟩
                  case measure => simp [intOf]; omega
                | false =>
                  have hfi := fun w h => find_any A0 n0 c0 q0 x.1.nm hn' 0 false (by rw [hi]; rfl) hi w h
                  clear hep1 hep2 hep3 hd hmd ht hi hxm
                  go_wp2_with (first
                    | (with_reducible refine load_kg Tryz.underlying43 rfl (Pf.infoF HF.out) _ rfl ((HK.out.fr 0 rfl).rng HX.out) rfl rfl ?_)
                    | ((with_reducible refine alloc_k HK.out f_zeroP rfl rfl ?_); intro b4 u hk; clear HK; have HK := Lib.hid hk; clear hk)
                    | ((refine store_kr HK.out 0 (Pf.infoF HF.out) (Fd.one _) rfl rfl _ _ rfl rfl rfl rfl (Fd.leP zP_full HF.out) (Fd.setAllP zP_full HF.out) ?_); intro u hk; simp only [List.set_cons_zero] at hk; clear HK; have HK := Lib.hid hk; clear hk)
                    | (with_reducible refine load_k1 HK.out 0 ckS _ rfl rfl rfl rfl Pf.cn ?_)
                    | (go_at_call 12; (with_reducible refine (hfi _ (HD.out.below HK.out.mf.bel)).mono ?_); rintro e u ⟨rfl, hb⟩; have hk := HK.out.call hb; clear hb; clear HK; have HK := Lib.hid hk; clear hk))
                  refine Draws.start (S := fun u => Kg w (fun _ => False) [Th.cel b4 43 (x.1.fd x.2.1 x.2.2).cells, Th.cel bp 24 p1.cells] [Th.fr (some ⟨b, off, none⟩) N xs] u) (n := 18) 18 rfl (by kernel_rfl) ?_
                  have HS := Lib.hid (show (fun u => Kg w (fun _ => False) [Th.cel b4 43 (x.1.fd x.2.1 x.2.2).cells, Th.cel bp 24 p1.cells] [Th.fr (some ⟨b, off, none⟩) N xs] u) (World.drew _) from HK.out.drew)
                  refine Draws.take 0 HS.out rfl (by kernel_rfl) (fun _ _ _ h => h) (yield_kr Tryz.underlying24 rfl p_info (fun _ h => (h.celAt 1 rfl).range Pl.all) _ rfl rfl rfl) ?_
                  (try simp only [Act.put, lsA, lsB, lsC])
                  refine Draws.take 1 (v := ?v83) HS.out rfl (by kernel_rfl) (fun _ _ _ h => h) (Or.inl ⟨rfl, ?h83⟩) ?r83
                  case h83 => intro w' hw'; go_simp; (try with_reducible rfl)
                  (try simp only [Act.put, lsA, lsB, lsC])
                  refine Draws.take 2 HS.out rfl (by kernel_rfl) (fun _ _ _ h => h) (yield_k ckS (fun _ h => (h.celAt 0 rfl).cell Pf.cn) _ rfl rfl rfl) ?_
                  (try simp only [Act.put, lsA, lsB, lsC])
                  refine Draws.does 3 rfl (by kernel_rfl) rfl (fun K' hK => ?_)
                  go_simp
                  go_at_call 13
                  refine (htp _).mono ?_
                  rintro e u ⟨rfl, hb⟩
                  (try dsimp only)
                  have hk := HS.out.call hb; clear hb
                  clear HS; have HS := Lib.hid (show (fun u => Kg w (fun _ => False) [Th.cel b4 43 (x.1.fd x.2.1 x.2.2).cells, Th.cel bp 24 p1.cells] [Th.fr (some ⟨b, off, none⟩) N xs] u) _ from hk); clear hk
                  refine hK.out _ _ (fun _ => HS.out) ?_
                  clear hK K'
                  (try simp only [Act.put, lsA, lsB, lsC])
                  refine Draws.take 4 (v := ?v84) HS.out rfl (by kernel_rfl) (fun _ _ _ h => h) (Or.inl ⟨rfl, ?h84⟩) ?r84
                  case h84 => intro w' hw'; go_simp; (try with_reducible rfl)
                  (try simp only [Act.put, lsA, lsB, lsC])
                  refine Draws.take 5 (v := ?v85) HS.out rfl (by kernel_rfl) (fun _ _ _ h => h) (Or.inl ⟨rfl, ?h85⟩) ?r85
                  case h85 => intro w' hw'; go_simp; (try with_reducible rfl)
                  (try simp only [Act.put, lsA, lsB, lsC])
                  refine Draws.take 6 HS.out rfl (by kernel_rfl) (fun _ _ _ h => h) (Or.inr ⟨rfl, rfl⟩) ?_
                  (try simp only [Act.put, lsA, lsB, lsC])
                  refine Draws.take 7 HS.out rfl (by kernel_rfl) (fun _ _ _ h => h) (Or.inr ⟨rfl, rfl⟩) ?_
                  (try simp only [Act.put, lsA, lsB, lsC])
                  refine Draws.take 8 HS.out rfl (by kernel_rfl) (fun _ _ _ h => h) (Or.inr ⟨rfl, rfl⟩) ?_
                  (try simp only [Act.put, lsA, lsB, lsC])
                  refine Draws.take 9 HS.out rfl (by kernel_rfl) (fun _ _ _ h => h) (Or.inr ⟨rfl, rfl⟩) ?_
                  (try simp only [Act.put, lsA, lsB, lsC])
                  refine Draws.take 10 HS.out rfl (by kernel_rfl) (fun _ _ _ h => h) (Or.inr ⟨rfl, rfl⟩) ?_
                  (try simp only [Act.put, lsA, lsB, lsC])
                  refine Draws.take 11 HS.out rfl (by kernel_rfl) (fun _ _ _ h => h) (Or.inr ⟨rfl, rfl⟩) ?_
                  (try simp only [Act.put, lsA, lsB, lsC])
                  refine Draws.take 12 HS.out rfl (by kernel_rfl) (fun _ _ _ h => h) (Or.inr ⟨rfl, rfl⟩) ?_
                  (try simp only [Act.put, lsA, lsB, lsC])
                  refine Draws.take 13 HS.out rfl (by kernel_rfl) (fun _ _ _ h => h) (Or.inr ⟨rfl, rfl⟩) ?_
                  (try simp only [Act.put, lsA, lsB, lsC])
                  refine Draws.take 14 HS.out rfl (by kernel_rfl) (fun _ _ _ h => h) (Or.inr ⟨rfl, rfl⟩) ?_
                  (try simp only [Act.put, lsA, lsB, lsC])
                  refine Draws.take 15 HS.out rfl (by kernel_rfl) (fun _ _ _ h => h) (Or.inr ⟨rfl, rfl⟩) ?_
                  (try simp only [Act.put, lsA, lsB, lsC])
                  refine Draws.take 16 HS.out rfl (by kernel_rfl) (fun _ _ _ h => h) (Or.inr ⟨rfl, rfl⟩) ?_
                  (try simp only [Act.put, lsA, lsB, lsC])
                  refine Draws.take 17 (v := ?v86) HS.out rfl (by kernel_rfl) (fun _ _ _ h => h) (Or.inl ⟨rfl, ?h86⟩) ?r86
                  case h86 => intro w' hw'; go_simp; (try with_reducible rfl)
                  (try simp only [Act.put, lsA, lsB, lsC])
                  refine Draws.done (by kernel_rfl) ?_
                  clear HK; have HK := Lib.hid (show (fun u => Kg w (fun _ => False) [Th.cel b4 43 (x.1.fd x.2.1 x.2.2).cells, Th.cel bp 24 p1.cells] [Th.fr (some ⟨b, off, none⟩) N xs] u) _ from HS.out); clear HS
                  go_wp2
                  refine Draws.start (S := fun u => Kg w (fun _ => False) [Th.cel b4 43 (x.1.fd x.2.1 x.2.2).cells, Th.cel bp 24 p1.cells] [Th.fr (some ⟨b, off, none⟩) N xs] u) (n := 28) 28 rfl (by kernel_rfl) ?_
                  have HS := Lib.hid (show (fun u => Kg w (fun _ => False) [Th.cel b4 43 (x.1.fd x.2.1 x.2.2).cells, Th.cel bp 24 p1.cells] [Th.fr (some ⟨b, off, none⟩) N xs] u) (World.drew _) from HK.out.drew)
                  refine Draws.take 0 HS.out rfl (by kernel_rfl) (fun _ _ _ h => h) (yield_kr Tryz.underlying24 rfl p_info (fun _ h => (h.celAt 1 rfl).range Pl.all) _ rfl rfl rfl) ?_
                  (try simp only [Act.put, lsA, lsB, lsC])
                  refine Draws.take 1 (v := ?v87) HS.out rfl (by kernel_rfl) (fun _ _ _ h => h) (Or.inl ⟨rfl, ?h87⟩) ?r87
                  case h87 => intro w' hw'; go_simp; (try with_reducible rfl)
                  (try simp only [Act.put, lsA, lsB, lsC])
                  refine Draws.take 2 HS.out rfl (by kernel_rfl) (fun _ _ _ h => h) (yield_k ckS (fun _ h => (h.celAt 0 rfl).cell Pf.cn) _ rfl rfl rfl) ?_
                  (try simp only [Act.put, lsA, lsB, lsC])
                  refine Draws.does 3 rfl (by kernel_rfl) rfl (fun K' hK => ?_)
                  go_simp
                  go_at_call 13
                  refine (htp _).mono ?_
                  rintro e u ⟨rfl, hb⟩
                  (try dsimp only)
                  have hk := HS.out.call hb; clear hb
                  clear HS; have HS := Lib.hid (show (fun u => Kg w (fun _ => False) [Th.cel b4 43 (x.1.fd x.2.1 x.2.2).cells, Th.cel bp 24 p1.cells] [Th.fr (some ⟨b, off, none⟩) N xs] u) _ from hk); clear hk
                  refine hK.out _ _ (fun _ => HS.out) ?_
                  clear hK K'
                  (try simp only [Act.put, lsA, lsB, lsC])
                  refine Draws.take 4 (v := ?v88) HS.out rfl (by kernel_rfl) (fun _ _ _ h => h) (Or.inl ⟨rfl, ?h88⟩) ?r88
                  case h88 => intro w' hw'; go_simp; (try with_reducible rfl)
                  (try simp only [Act.put, lsA, lsB, lsC])
                  refine Draws.take 5 (v := ?v89) HS.out rfl (by kernel_rfl) (fun _ _ _ h => h) (Or.inl ⟨rfl, ?h89⟩) ?r89
                  case h89 => intro w' hw'; go_simp; (try with_reducible rfl)
                  (try simp only [Act.put, lsA, lsB, lsC])
                  refine Draws.take 6 (v := ?v90) HS.out rfl (by kernel_rfl) (fun _ _ _ h => h) (Or.inl ⟨rfl, ?h90⟩) ?r90
                  case h90 => intro w' hw'; go_simp; (try with_reducible rfl)
                  (try simp only [Act.put, lsA, lsB, lsC])
                  refine Draws.take 7 HS.out rfl (by kernel_rfl) (fun _ _ _ h => h) (Or.inr ⟨rfl, rfl⟩) ?_
                  (try simp only [Act.put, lsA, lsB, lsC])
                  refine Draws.take 8 HS.out rfl (by kernel_rfl) (fun _ _ _ h => h) (Or.inr ⟨rfl, rfl⟩) ?_
                  (try simp only [Act.put, lsA, lsB, lsC])
                  refine Draws.take 9 HS.out rfl (by kernel_rfl) (fun _ _ _ h => h) (Or.inr ⟨rfl, rfl⟩) ?_
                  (try simp only [Act.put, lsA, lsB, lsC])
                  refine Draws.take 10 HS.out rfl (by kernel_rfl) (fun _ _ _ h => h) (Or.inr ⟨rfl, rfl⟩) ?_
                  (try simp only [Act.put, lsA, lsB, lsC])
                  refine Draws.take 11 HS.out rfl (by kernel_rfl) (fun _ _ _ h => h) (Or.inr ⟨rfl, rfl⟩) ?_
                  (try simp only [Act.put, lsA, lsB, lsC])
                  refine Draws.take 12 HS.out rfl (by kernel_rfl) (fun _ _ _ h => h) (Or.inr ⟨rfl, rfl⟩) ?_
                  (try simp only [Act.put, lsA, lsB, lsC])
                  refine Draws.take 13 HS.out rfl (by kernel_rfl) (fun _ _ _ h => h) (Or.inr ⟨rfl, rfl⟩) ?_
                  (try simp only [Act.put, lsA, lsB, lsC])
                  refine Draws.take 14 HS.out rfl (by kernel_rfl) (fun _ _ _ h => h) (Or.inr ⟨rfl, rfl⟩) ?_
                  (try simp only [Act.put, lsA, lsB, lsC])
                  refine Draws.take 15 (v := ?v91) HS.out rfl (by kernel_rfl) (fun _ _ _ h => h) (Or.inl ⟨rfl, ?h91⟩) ?r91
                  case h91 => intro w' hw'; go_simp; (try with_reducible rfl)
                  (try simp only [Act.put, lsA, lsB, lsC])
                  refine Draws.take 16 (v := ?v92) HS.out rfl (by kernel_rfl) (fun _ _ _ h => h) (Or.inl ⟨rfl, ?h92⟩) ?r92
                  case h92 => intro w' hw'; go_simp; (try with_reducible rfl)
                  (try simp only [Act.put, lsA, lsB, lsC])
                  refine Draws.take 17 (v := ?v93) HS.out rfl (by kernel_rfl) (fun _ _ _ h => h) (Or.inl ⟨rfl, ?h93⟩) ?r93
                  case h93 => intro w' hw'; go_simp; (try with_reducible rfl)
                  (try simp only [Act.put, lsA, lsB, lsC])
                  refine Draws.take 18 HS.out rfl (by kernel_rfl) (fun _ _ _ h => h) (yield_k ckI (fun _ h => (h.celAt 0 rfl).cell Pf.ce) _ rfl rfl rfl) ?_
                  (try simp only [Act.put, lsA, lsB, lsC])
                  refine Draws.take 19 HS.out rfl (by kernel_rfl) (fun _ _ _ h => h) (yield_lss H1.out _ _ _ rfl rfl rfl rfl) ?_
                  (try simp only [Act.put, lsA, lsB, lsC])
                  refine Draws.take 20 (v := ?v94) HS.out rfl (by kernel_rfl) (fun _ _ _ h => h) (Or.inl ⟨rfl, ?h94⟩) ?r94
                  case h94 => intro w' hw'; go_simp; (try with_reducible rfl)
                  (try simp only [Act.put, lsA, lsB, lsC])
                  refine Draws.take 21 (v := ?v95) HS.out rfl (by kernel_rfl) (fun _ _ _ h => h) (Or.inl ⟨rfl, ?h95⟩) ?r95
                  case h95 => intro w' hw'; go_simp; (try with_reducible rfl)
                  (try simp only [Act.put, lsA, lsB, lsC])
                  refine Draws.take 22 (v := ?v96) HS.out rfl (by kernel_rfl) (fun _ _ _ h => h) (Or.inl ⟨rfl, ?h96⟩) ?r96
                  case h96 => intro w' hw'; go_simp; (try with_reducible rfl)
                  (try simp only [Act.put, lsA, lsB, lsC])
                  refine Draws.take 23 HS.out rfl (by kernel_rfl) (fun _ _ _ h => h) (yield_k ckH (fun _ h => (h.celAt 0 rfl).cell (Pf.cH HF.out)) _ rfl rfl rfl) ?_
                  (try simp only [Act.put, lsA, lsB, lsC])
                  refine Draws.take 24 (v := ?v97) HS.out rfl (by kernel_rfl) (fun _ _ _ h => h) (Or.inl ⟨rfl, ?h97⟩) ?r97
                  case h97 => intro w' hw'; go_simp; (try with_reducible rfl)
                  (try simp only [Act.put, lsA, lsB, lsC])
                  refine Draws.take 25 HS.out rfl (by kernel_rfl) (fun _ _ _ h => h) (yield_gtr H3.out _ _ _ rfl rfl rfl rfl) ?_
                  (try simp only [Act.put, lsA, lsB, lsC])
                  refine Draws.take 26 (v := ?v98) HS.out rfl (by kernel_rfl) (fun _ _ _ h => h) (Or.inl ⟨rfl, ?h98⟩) ?r98
                  case h98 => intro w' hw'; go_simp; (try with_reducible rfl)
                  (try simp only [Act.put, lsA, lsB, lsC])
                  refine Draws.take 27 (v := ?v99) HS.out rfl (by kernel_rfl) (fun _ _ _ h => h) (Or.inl ⟨rfl, ?h99⟩) ?r99
                  case h99 => intro w' hw'; go_simp; (try with_reducible rfl)
                  (try simp only [Act.put, lsA, lsB, lsC])
                  refine Draws.done (by kernel_rfl) ?_
                  clear HK; have HK := Lib.hid (show (fun u => Kg w (fun _ => False) [Th.cel b4 43 (x.1.fd x.2.1 x.2.2).cells, Th.cel bp 24 p1.cells] [Th.fr (some ⟨b, off, none⟩) N xs] u) _ from HS.out); clear HS
                  go_wp2
                  go_roundw
                  case rel => exact ⟨m + 1, by omega, by go_num, HK.out.tail⟩
                  case measure => simp [intOf]; omega
              | false =>
                have htp := fun w => touched_any p1 x.1.nm w
                simp only [ht] at htp
                have hxi := app_rest HG.out HAA.out hxm ht
                have hi : isP (pfs q0) x.1.nm = true := isP_iff.2 ⟨x.1, hxi, rfl⟩
                obtain ⟨k, hk⟩ : ∃ k, findP (pfs q0) x.1.nm = k := ⟨_, rfl⟩
                have hy0 := find_in hi (fields_is HG.out.fit.fs).2.2 hxi rfl
                rw [hk] at hy0
                obtain ⟨y, hy, hyy⟩ := pfs_get hy0
                have hfi := fun w h => find_any A0 n0 c0 q0 x.1.nm hn' (k : Int) true (by rw [hi, hk]; rfl) hi w h
                obtain ⟨b5, off5, rfl⟩ := HD.out.ptr hy
                have HY := Lib.hid (show w.rangeAt b5 (off5 + k * 587) (x.1.fd y.2.1 y.2.2).cells by rw [← hyy]; exact HD.out.rng hy)
                have HYR := Lib.hid (show Row w y.2.1 x.1.hs.length x.1.hs by rw [← hyy]; exact HD.out.row hy)
                have j1 : (0 : Int) ≤ (k : Int) := by omega
                have j2 : (k : Int) < (n0 : Int) := by have := (List.getElem?_eq_some_iff.1 hy).1; have := HD.out.1; omega
                clear hy0 hy hyy hk hxi ht hi hxm
                go_wp2_with (first
                  | (with_reducible refine load_kg Tryz.underlying43 rfl (Pf.infoF HF.out) _ rfl ((HK.out.fr 0 rfl).rng HX.out) rfl rfl ?_)
                  | ((with_reducible refine alloc_k HK.out f_zeroP rfl rfl ?_); intro b4 u hk; clear HK; have HK := Lib.hid hk; clear hk)
                  | ((refine store_kr HK.out 0 (Pf.infoF HF.out) (Fd.one _) rfl rfl _ _ rfl rfl rfl rfl (Fd.leP zP_full HF.out) (Fd.setAllP zP_full HF.out) ?_); intro u hk; simp only [List.set_cons_zero] at hk; clear HK; have HK := Lib.hid hk; clear hk)
                  | (with_reducible refine load_k1 HK.out 0 ckS _ rfl rfl rfl rfl Pf.cn ?_)
                  | (go_at_call 12; (with_reducible refine (hfi _ (HD.out.below HK.out.mf.bel)).mono ?_); rintro e u ⟨rfl, hb⟩; have hk := HK.out.call hb; clear hb; clear HK; have HK := Lib.hid hk; clear hk))
                refine Draws.start (S := fun u => Kg w (fun _ => False) [Th.cel b4 43 (x.1.fd x.2.1 x.2.2).cells, Th.cel bp 24 p1.cells] [Th.fr (some ⟨b, off, none⟩) N xs] u) (n := 18) 18 rfl (by kernel_rfl) ?_
                have HS := Lib.hid (show (fun u => Kg w (fun _ => False) [Th.cel b4 43 (x.1.fd x.2.1 x.2.2).cells, Th.cel bp 24 p1.cells] [Th.fr (some ⟨b, off, none⟩) N xs] u) (World.drew _) from HK.out.drew)
                refine Draws.take 0 HS.out rfl (by kernel_rfl) (fun _ _ _ h => h) (yield_kr Tryz.underlying24 rfl p_info (fun _ h => (h.celAt 1 rfl).range Pl.all) _ rfl rfl rfl) ?_
                (try simp only [Act.put, lsA, lsB, lsC])
                refine Draws.take 1 (v := ?v100) HS.out rfl (by kernel_rfl) (fun _ _ _ h => h) (Or.inl ⟨rfl, ?h100⟩) ?r100
                case h100 => intro w' hw'; go_simp; (try with_reducible rfl)
                (try simp only [Act.put, lsA, lsB, lsC])
                refine Draws.take 2 HS.out rfl (by kernel_rfl) (fun _ _ _ h => h) (yield_k ckS (fun _ h => (h.celAt 0 rfl).cell Pf.cn) _ rfl rfl rfl) ?_
                (try simp only [Act.put, lsA, lsB, lsC])
                refine Draws.does 3 rfl (by kernel_rfl) rfl (fun K' hK => ?_)
                go_simp
                go_at_call 13
                refine (htp _).mono ?_
                rintro e u ⟨rfl, hb⟩
                (try dsimp only)
                have hk := HS.out.call hb; clear hb
                clear HS; have HS := Lib.hid (show (fun u => Kg w (fun _ => False) [Th.cel b4 43 (x.1.fd x.2.1 x.2.2).cells, Th.cel bp 24 p1.cells] [Th.fr (some ⟨b, off, none⟩) N xs] u) _ from hk); clear hk
                refine hK.out _ _ (fun _ => HS.out) ?_
                clear hK K'
                (try simp only [Act.put, lsA, lsB, lsC])
                refine Draws.take 4 (v := ?v101) HS.out rfl (by kernel_rfl) (fun _ _ _ h => h) (Or.inl ⟨rfl, ?h101⟩) ?r101
                case h101 => intro w' hw'; go_simp; (try with_reducible rfl)
                (try simp only [Act.put, lsA, lsB, lsC])
                refine Draws.take 5 (v := ?v102) HS.out rfl (by kernel_rfl) (fun _ _ _ h => h) (Or.inl ⟨rfl, ?h102⟩) ?r102
                case h102 => intro w' hw'; go_simp; (try with_reducible rfl)
                (try simp only [Act.put, lsA, lsB, lsC])
                refine Draws.take 6 (v := ?v103) HS.out rfl (by kernel_rfl) (fun _ _ _ h => h) (Or.inl ⟨rfl, ?h103⟩) ?r103
                case h103 => intro w' hw'; go_simp; (try with_reducible rfl)
                (try simp only [Act.put, lsA, lsB, lsC])
                refine Draws.take 7 (v := ?v104) HS.out rfl (by kernel_rfl) (fun _ _ _ h => h) (Or.inl ⟨rfl, ?h104⟩) ?r104
                case h104 => intro w' hw'; go_simp; (try with_reducible rfl)
                (try simp only [Act.put, lsA, lsB, lsC])
                refine Draws.take 8 (v := ?v105) HS.out rfl (by kernel_rfl) (fun _ _ _ h => h) (Or.inl ⟨rfl, ?h105⟩) ?r105
                case h105 => intro w' hw'; go_simp; (try with_reducible rfl)
                (try simp only [Act.put, lsA, lsB, lsC])
                refine Draws.take 9 HS.out rfl (by kernel_rfl) (fun _ _ _ h => h) (yield_kr Tryz.underlying43 rfl (Pf.infoF HF.out) (fun _ h => (h.celAt 0 rfl).range Pf.all) _ rfl rfl rfl) ?_
                (try simp only [Act.put, lsA, lsB, lsC])
                refine Draws.take 10 (v := ?v106) HS.out rfl (by kernel_rfl) (fun _ _ _ h => h) (Or.inl ⟨rfl, ?h106⟩) ?r106
                case h106 => intro w' hw'; go_simp; (try with_reducible rfl)
                (try simp only [Act.put, lsA, lsB, lsC])
                refine Draws.take 11 (v := ?v107) HS.out rfl (by kernel_rfl) (fun _ _ _ h => h) (Or.inl ⟨rfl, ?h107⟩) ?r107
                case h107 => intro w' hw'; go_simp; (try with_reducible rfl)
                (try simp only [Act.put, lsA, lsB, lsC])
                refine Draws.take 12 (v := ?v108) HS.out rfl (by kernel_rfl) (fun _ _ _ h => h) (Or.inl ⟨rfl, ?h108⟩) ?r108
                case h108 => intro w' hw'; go_simp; (try with_reducible rfl)
                (try simp only [Act.put, lsA, lsB, lsC])
                refine Draws.take 13 HS.out rfl (by kernel_rfl) (fun _ _ _ h => h) (yield_kr Tryz.underlying43 rfl (Pf.infoF HF.out) (fun _ h => rng_below HY.out h.mf.bel) _ rfl rfl rfl) ?_
                (try simp only [Act.put, lsA, lsB, lsC])
                refine Draws.does 14 rfl (by kernel_rfl) rfl (fun K' hK => ?_)
                go_simp
                go_at_call 22
                refine (rsame_any x.1 HF.out _ _ _ _ _ ((HS.out.fr 0 rfl).row HX.out) (HYR.out.below HS.out.mf.bel (Nat.le_refl _))).mono ?_
                rintro e u ⟨rfl, hb⟩
                (try dsimp only)
                have hk := HS.out.call hb; clear hb
                clear HS; have HS := Lib.hid (show (fun u => Kg w (fun _ => False) [Th.cel b4 43 (x.1.fd x.2.1 x.2.2).cells, Th.cel bp 24 p1.cells] [Th.fr (some ⟨b, off, none⟩) N xs] u) _ from hk); clear hk
                refine hK.out _ _ (fun _ => HS.out) ?_
                clear hK K'
                (try simp only [Act.put, lsA, lsB, lsC])
                refine Draws.take 15 (v := ?v109) HS.out rfl (by kernel_rfl) (fun _ _ _ h => h) (Or.inl ⟨rfl, ?h109⟩) ?r109
                case h109 => intro w' hw'; go_simp; (try with_reducible rfl)
                (try simp only [Act.put, lsA, lsB, lsC])
                refine Draws.take 16 (v := ?v110) HS.out rfl (by kernel_rfl) (fun _ _ _ h => h) (Or.inl ⟨rfl, ?h110⟩) ?r110
                case h110 => intro w' hw'; go_simp; (try with_reducible rfl)
                (try simp only [Act.put, lsA, lsB, lsC])
                refine Draws.take 17 (v := ?v111) HS.out rfl (by kernel_rfl) (fun _ _ _ h => h) (Or.inl ⟨rfl, ?h111⟩) ?r111
                case h111 => intro w' hw'; go_simp; (try with_reducible rfl)
                (try simp only [Act.put, lsA, lsB, lsC])
                refine Draws.done (by kernel_rfl) ?_
                clear HK; have HK := Lib.hid (show (fun u => Kg w (fun _ => False) [Th.cel b4 43 (x.1.fd x.2.1 x.2.2).cells, Th.cel bp 24 p1.cells] [Th.fr (some ⟨b, off, none⟩) N xs] u) _ from HS.out); clear HS
                go_wp2
                refine Draws.start (S := fun u => Kg w (fun _ => False) [Th.cel b4 43 (x.1.fd x.2.1 x.2.2).cells, Th.cel bp 24 p1.cells] [Th.fr (some ⟨b, off, none⟩) N xs] u) (n := 28) 28 rfl (by kernel_rfl) ?_
                have HS := Lib.hid (show (fun u => Kg w (fun _ => False) [Th.cel b4 43 (x.1.fd x.2.1 x.2.2).cells, Th.cel bp 24 p1.cells] [Th.fr (some ⟨b, off, none⟩) N xs] u) (World.drew _) from HK.out.drew)
                refine Draws.take 0 HS.out rfl (by kernel_rfl) (fun _ _ _ h => h) (yield_kr Tryz.underlying24 rfl p_info (fun _ h => (h.celAt 1 rfl).range Pl.all) _ rfl rfl rfl) ?_
                (try simp only [Act.put, lsA, lsB, lsC])
                refine Draws.take 1 (v := ?v112) HS.out rfl (by kernel_rfl) (fun _ _ _ h => h) (Or.inl ⟨rfl, ?h112⟩) ?r112
                case h112 => intro w' hw'; go_simp; (try with_reducible rfl)
                (try simp only [Act.put, lsA, lsB, lsC])
                refine Draws.take 2 HS.out rfl (by kernel_rfl) (fun _ _ _ h => h) (yield_k ckS (fun _ h => (h.celAt 0 rfl).cell Pf.cn) _ rfl rfl rfl) ?_
                (try simp only [Act.put, lsA, lsB, lsC])
                refine Draws.does 3 rfl (by kernel_rfl) rfl (fun K' hK => ?_)
                go_simp
                go_at_call 13
                refine (htp _).mono ?_
                rintro e u ⟨rfl, hb⟩
                (try dsimp only)
                have hk := HS.out.call hb; clear hb
                clear HS; have HS := Lib.hid (show (fun u => Kg w (fun _ => False) [Th.cel b4 43 (x.1.fd x.2.1 x.2.2).cells, Th.cel bp 24 p1.cells] [Th.fr (some ⟨b, off, none⟩) N xs] u) _ from hk); clear hk
                refine hK.out _ _ (fun _ => HS.out) ?_
                clear hK K'
                (try simp only [Act.put, lsA, lsB, lsC])
                refine Draws.take 4 (v := ?v113) HS.out rfl (by kernel_rfl) (fun _ _ _ h => h) (Or.inl ⟨rfl, ?h113⟩) ?r113
                case h113 => intro w' hw'; go_simp; (try with_reducible rfl)
                (try simp only [Act.put, lsA, lsB, lsC])
                refine Draws.take 5 HS.out rfl (by kernel_rfl) (fun _ _ _ h => h) (Or.inr ⟨rfl, rfl⟩) ?_
                (try simp only [Act.put, lsA, lsB, lsC])
                refine Draws.take 6 HS.out rfl (by kernel_rfl) (fun _ _ _ h => h) (Or.inr ⟨rfl, rfl⟩) ?_
                (try simp only [Act.put, lsA, lsB, lsC])
                refine Draws.take 7 HS.out rfl (by kernel_rfl) (fun _ _ _ h => h) (Or.inr ⟨rfl, rfl⟩) ?_
                (try simp only [Act.put, lsA, lsB, lsC])
                refine Draws.take 8 HS.out rfl (by kernel_rfl) (fun _ _ _ h => h) (Or.inr ⟨rfl, rfl⟩) ?_
                (try simp only [Act.put, lsA, lsB, lsC])
                refine Draws.take 9 HS.out rfl (by kernel_rfl) (fun _ _ _ h => h) (Or.inr ⟨rfl, rfl⟩) ?_
                (try simp only [Act.put, lsA, lsB, lsC])
                refine Draws.take 10 HS.out rfl (by kernel_rfl) (fun _ _ _ h => h) (Or.inr ⟨rfl, rfl⟩) ?_
                (try simp only [Act.put, lsA, lsB, lsC])
                refine Draws.take 11 HS.out rfl (by kernel_rfl) (fun _ _ _ h => h) (Or.inr ⟨rfl, rfl⟩) ?_
                (try simp only [Act.put, lsA, lsB, lsC])
                refine Draws.take 12 HS.out rfl (by kernel_rfl) (fun _ _ _ h => h) (Or.inr ⟨rfl, rfl⟩) ?_
                (try simp only [Act.put, lsA, lsB, lsC])
                refine Draws.take 13 HS.out rfl (by kernel_rfl) (fun _ _ _ h => h) (Or.inr ⟨rfl, rfl⟩) ?_
                (try simp only [Act.put, lsA, lsB, lsC])
                refine Draws.take 14 HS.out rfl (by kernel_rfl) (fun _ _ _ h => h) (Or.inr ⟨rfl, rfl⟩) ?_
                (try simp only [Act.put, lsA, lsB, lsC])
                refine Draws.take 15 HS.out rfl (by kernel_rfl) (fun _ _ _ h => h) (Or.inr ⟨rfl, rfl⟩) ?_
                (try simp only [Act.put, lsA, lsB, lsC])
                refine Draws.take 16 HS.out rfl (by kernel_rfl) (fun _ _ _ h => h) (Or.inr ⟨rfl, rfl⟩) ?_
                (try simp only [Act.put, lsA, lsB, lsC])
                refine Draws.take 17 HS.out rfl (by kernel_rfl) (fun _ _ _ h => h) (Or.inr ⟨rfl, rfl⟩) ?_
                (try simp only [Act.put, lsA, lsB, lsC])
                refine Draws.take 18 HS.out rfl (by kernel_rfl) (fun _ _ _ h => h) (Or.inr ⟨rfl, rfl⟩) ?_
                (try simp only [Act.put, lsA, lsB, lsC])
                refine Draws.take 19 HS.out rfl (by kernel_rfl) (fun _ _ _ h => h) (Or.inr ⟨rfl, rfl⟩) ?_
                (try simp only [Act.put, lsA, lsB, lsC])
                refine Draws.take 20 HS.out rfl (by kernel_rfl) (fun _ _ _ h => h) (Or.inr ⟨rfl, rfl⟩) ?_
                (try simp only [Act.put, lsA, lsB, lsC])
                refine Draws.take 21 HS.out rfl (by kernel_rfl) (fun _ _ _ h => h) (Or.inr ⟨rfl, rfl⟩) ?_
                (try simp only [Act.put, lsA, lsB, lsC])
                refine Draws.take 22 HS.out rfl (by kernel_rfl) (fun _ _ _ h => h) (Or.inr ⟨rfl, rfl⟩) ?_
                (try simp only [Act.put, lsA, lsB, lsC])
                refine Draws.take 23 HS.out rfl (by kernel_rfl) (fun _ _ _ h => h) (Or.inr ⟨rfl, rfl⟩) ?_
                (try simp only [Act.put, lsA, lsB, lsC])
                refine Draws.take 24 HS.out rfl (by kernel_rfl) (fun _ _ _ h => h) (Or.inr ⟨rfl, rfl⟩) ?_
                (try simp only [Act.put, lsA, lsB, lsC])
                refine Draws.take 25 HS.out rfl (by kernel_rfl) (fun _ _ _ h => h) (Or.inr ⟨rfl, rfl⟩) ?_
                (try simp only [Act.put, lsA, lsB, lsC])
                refine Draws.take 26 HS.out rfl (by kernel_rfl) (fun _ _ _ h => h) (Or.inr ⟨rfl, rfl⟩) ?_
                (try simp only [Act.put, lsA, lsB, lsC])
                refine Draws.take 27 (v := ?v114) HS.out rfl (by kernel_rfl) (fun _ _ _ h => h) (Or.inl ⟨rfl, ?h114⟩) ?r114
                case h114 => intro w' hw'; go_simp; (try with_reducible rfl)
                (try simp only [Act.put, lsA, lsB, lsC])
                refine Draws.done (by kernel_rfl) ?_
                clear HK; have HK := Lib.hid (show (fun u => Kg w (fun _ => False) [Th.cel b4 43 (x.1.fd x.2.1 x.2.2).cells, Th.cel bp 24 p1.cells] [Th.fr (some ⟨b, off, none⟩) N xs] u) _ from HS.out); clear HS
                go_wp2
                go_roundw
                case rel => exact ⟨m + 1, by omega, by go_num, HK.out.tail⟩
                case measure => simp [intOf]; omega
            · obtain rfl : m = N := by omega
              go_wp2_with (first
                | (go_at_call 9; (with_reducible refine (awake_any _).mono ?_); rintro e u ⟨rfl, hb⟩; have hk := HK.out.call hb; clear hb; clear HK; have HK := Lib.hid hk; clear hk))
              go_ret
              exact ⟨rfl, HK.out.mf.bel⟩
      · have g1' : (G == 0) = false := by simpa using g1
        clear hTT g1
        go_wp2_with (first
          | (go_at_call 11; (with_reducible refine (hrto _ (HD.out.below HK.out.mf.bel)).mono ?_); rintro e u ⟨rfl, hb⟩; have hk := HK.out.call hb; clear hb; clear HK; have HK := Lib.hid hk; clear hk)
          | (go_at_call 11; (with_reducible refine (hrt2 _ (HK.out.fr 0 rfl)).mono ?_); rintro e u ⟨rfl, hb⟩; have hk := HK.out.call hb; clear hb; clear HK; have HK := Lib.hid hk; clear hk)
          | (go_at_call 15; (with_reducible refine (hrf _ (HK.out.fr 0 rfl)).mono ?_); rintro e u ⟨rfl, hb⟩; have hk := HK.out.call hb; clear hb; clear HK; have HK := Lib.hid hk; clear hk))
        go_wp2
        go_loopw [63] (fun i wr => ∃ m : Nat, m ≤ N ∧ i = .int .i64 m ∧ Kg w (fun _ => False) [Th.cel bp 24 p1.cells] [Th.fr (some ⟨b, off, none⟩) N xs] wr) (fun i _ => N - (intOf i).toNat)
        case atStart => exact ⟨0, by omega, rfl, HK.out⟩
        case round =>
          obtain ⟨m, hm, rfl, hk⟩ := hrel
          clear HK; have HK := Lib.hid hk; clear hk
          by_cases hlt : m < N
          · obtain ⟨x, hx⟩ := (HK.out.fr 0 rfl).get hlt
            have HX := Lib.hid hx
            have HF := Lib.hid ((HK.out.fr 0 rfl).full hx)
            have i1 : (0 : Int) ≤ (m : Int) := by omega
            have i2 : (m : Int) < (N : Int) := by omega
            have hxm : x.1 ∈ pfs xs := List.mem_map.2 ⟨x, List.mem_of_getElem? hx, rfl⟩
            clear hx
            cases ht : touchB p1 x.1.nm with
            | true =>
              have htp := fun w => touched_any p1 x.1.nm w
              simp only [ht] at htp
              obtain ⟨_, hep1, hep2, hep3⟩ := goes_ep HG.out
              obtain ⟨d, hd, hxb, hmd⟩ := app_touch HG.out HAA.out hxm ht
              clear hxb
              have H1 := Lib.hid (show decide (x.1.e < 1) = false by rw [decide_eq_false_iff_not, hmd.e]; omega)
              have H3 := Lib.hid (show decide ((0 : Int) < (x.1.hs.length : Int)) = false by rw [hmd.hs]; rfl)
              cases hi : isP (pfs q0) x.1.nm with
              | true =>
                obtain ⟨y0, hy0, hye, hyl⟩ := isP_at hi
                obtain ⟨y, hy, hyy⟩ := pfs_get hy0
                obtain ⟨k, hk⟩ : ∃ k, findP (pfs q0) x.1.nm = k := ⟨_, rfl⟩
                rw [hk] at hy hyl
                have hfi := fun w h => find_any A0 n0 c0 q0 x.1.nm hn' (k : Int) true (by rw [hi, hk]; rfl) hi w h
                obtain ⟨b5, off5, rfl⟩ := HD.out.ptr hy
                have HYE := Lib.hid ((HD.out.rng hy) 2 _ Pf.ce)
                have H2 := Lib.hid (show decide (x.1.e ≤ y.1.e) = false by
                  rw [decide_eq_false_iff_not, hmd.e, hyy]
                  have := hep3 y0 (by
                    rw [aboutP, List.mem_filter]
                    exact ⟨List.mem_of_getElem? hy0, by rw [eqS_iff.1 hye]; exact ht⟩)
                  omega)
                have j1 : (0 : Int) ≤ (k : Int) := by omega
                have j2 : (k : Int) < (n0 : Int) := by rw [HPL.out] at hyl; omega
                clear hy0 hye hyl hy hyy hk hep1 hep2 hep3 hd hmd ht hi hxm
                go_wp2_with (first
                  | (with_reducible refine load_kg Tryz.underlying43 rfl (Pf.infoF HF.out) _ rfl ((HK.out.fr 0 rfl).rng HX.out) rfl rfl ?_)
                  | ((with_reducible refine alloc_k HK.out f_zeroP rfl rfl ?_); intro b4 u hk; clear HK; have HK := Lib.hid hk; clear hk)
                  | ((refine store_kr HK.out 0 (Pf.infoF HF.out) (Fd.one _) rfl rfl _ _ rfl rfl rfl rfl (Fd.leP zP_full HF.out) (Fd.setAllP zP_full HF.out) ?_); intro u hk; simp only [List.set_cons_zero] at hk; clear HK; have HK := Lib.hid hk; clear hk)
                  | (with_reducible refine load_k1 HK.out 0 ckS _ rfl rfl rfl rfl Pf.cn ?_)
                  | (go_at_call 12; (with_reducible refine (hfi _ (HD.out.below HK.out.mf.bel)).mono ?_); rintro e u ⟨rfl, hb⟩; have hk := HK.out.call hb; clear hb; clear HK; have HK := Lib.hid hk; clear hk))
                refine Draws.start (S := fun u => Kg w (fun _ => False) [Th.cel b4 43 (x.1.fd x.2.1 x.2.2).cells, Th.cel bp 24 p1.cells] [Th.fr (some ⟨b, off, none⟩) N xs] u) (n := 18) 18 rfl (by kernel_rfl) ?_
                have HS := Lib.hid (show (fun u => Kg w (fun _ => False) [Th.cel b4 43 (x.1.fd x.2.1 x.2.2).cells, Th.cel bp 24 p1.cells] [Th.fr (some ⟨b, off, none⟩) N xs] u) (World.drew _) from HK.out.drew)
                refine Draws.take 0 HS.out rfl (by kernel_rfl) (fun _ _ _ h => h) (yield_kr Tryz.underlying24 rfl p_info (fun _ h => (h.celAt 1 rfl).range Pl.all) _ rfl rfl rfl) ?_
                (try simp only [Act.put, lsA, lsB, lsC])
                refine Draws.take 1 (v := ?v115) HS.out rfl (by kernel_rfl) (fun _ _ _ h => h) (Or.inl ⟨rfl, ?h115⟩) ?r115
                case h115 => intro w' hw'; go_simp; (try with_reducible rfl)
                (try simp only [Act.put, lsA, lsB, lsC])
                refine Draws.take 2 HS.out rfl (by kernel_rfl) (fun _ _ _ h => h) (yield_k ckS (fun _ h => (h.celAt 0 rfl).cell Pf.cn) _ rfl rfl rfl) ?_
                (try simp only [Act.put, lsA, lsB, lsC])
                refine Draws.does 3 rfl (by kernel_rfl) rfl (fun K' hK => ?_)
                go_simp
                go_at_call 13
                refine (htp _).mono ?_
                rintro e u ⟨rfl, hb⟩
                (try dsimp only)
                have hk := HS.out.call hb; clear hb
                clear HS; have HS := Lib.hid (show (fun u => Kg w (fun _ => False) [Th.cel b4 43 (x.1.fd x.2.1 x.2.2).cells, Th.cel bp 24 p1.cells] [Th.fr (some ⟨b, off, none⟩) N xs] u) _ from hk); clear hk
                refine hK.out _ _ (fun _ => HS.out) ?_
                clear hK K'
                (try simp only [Act.put, lsA, lsB, lsC])
                refine Draws.take 4 (v := ?v116) HS.out rfl (by kernel_rfl) (fun _ _ _ h => h) (Or.inl ⟨rfl, ?h116⟩) ?r116
                case h116 => intro w' hw'; go_simp; (try with_reducible rfl)
                (try simp only [Act.put, lsA, lsB, lsC])
                refine Draws.take 5 (v := ?v117) HS.out rfl (by kernel_rfl) (fun _ _ _ h => h) (Or.inl ⟨rfl, ?h117⟩) ?r117
                case h117 => intro w' hw'; go_simp; (try with_reducible rfl)
                (try simp only [Act.put, lsA, lsB, lsC])
                refine Draws.take 6 HS.out rfl (by kernel_rfl) (fun _ _ _ h => h) (Or.inr ⟨rfl, rfl⟩) ?_
                (try simp only [Act.put, lsA, lsB, lsC])
                refine Draws.take 7 HS.out rfl (by kernel_rfl) (fun _ _ _ h => h) (Or.inr ⟨rfl, rfl⟩) ?_
                (try simp only [Act.put, lsA, lsB, lsC])
                refine Draws.take 8 HS.out rfl (by kernel_rfl) (fun _ _ _ h => h) (Or.inr ⟨rfl, rfl⟩) ?_
                (try simp only [Act.put, lsA, lsB, lsC])
                refine Draws.take 9 HS.out rfl (by kernel_rfl) (fun _ _ _ h => h) (Or.inr ⟨rfl, rfl⟩) ?_
                (try simp only [Act.put, lsA, lsB, lsC])
                refine Draws.take 10 HS.out rfl (by kernel_rfl) (fun _ _ _ h => h) (Or.inr ⟨rfl, rfl⟩) ?_
                (try simp only [Act.put, lsA, lsB, lsC])
                refine Draws.take 11 HS.out rfl (by kernel_rfl) (fun _ _ _ h => h) (Or.inr ⟨rfl, rfl⟩) ?_
                (try simp only [Act.put, lsA, lsB, lsC])
                refine Draws.take 12 HS.out rfl (by kernel_rfl) (fun _ _ _ h => h) (Or.inr ⟨rfl, rfl⟩) ?_
                (try simp only [Act.put, lsA, lsB, lsC])
                refine Draws.take 13 HS.out rfl (by kernel_rfl) (fun _ _ _ h => h) (Or.inr ⟨rfl, rfl⟩) ?_
                (try simp only [Act.put, lsA, lsB, lsC])
                refine Draws.take 14 HS.out rfl (by kernel_rfl) (fun _ _ _ h => h) (Or.inr ⟨rfl, rfl⟩) ?_
                (try simp only [Act.put, lsA, lsB, lsC])
                refine Draws.take 15 HS.out rfl (by kernel_rfl) (fun _ _ _ h => h) (Or.inr ⟨rfl, rfl⟩) ?_
                (try simp only [Act.put, lsA, lsB, lsC])
                refine Draws.take 16 HS.out rfl (by kernel_rfl) (fun _ _ _ h => h) (Or.inr ⟨rfl, rfl⟩) ?_
                (try simp only [Act.put, lsA, lsB, lsC])
                refine Draws.take 17 (v := ?v118) HS.out rfl (by kernel_rfl) (fun _ _ _ h => h) (Or.inl ⟨rfl, ?h118⟩) ?r118
                case h118 => intro w' hw'; go_simp; (try with_reducible rfl)
                (try simp only [Act.put, lsA, lsB, lsC])
                refine Draws.done (by kernel_rfl) ?_
                clear HK; have HK := Lib.hid (show (fun u => Kg w (fun _ => False) [Th.cel b4 43 (x.1.fd x.2.1 x.2.2).cells, Th.cel bp 24 p1.cells] [Th.fr (some ⟨b, off, none⟩) N xs] u) _ from HS.out); clear HS
                go_wp2
                refine Draws.start (S := fun u => Kg w (fun _ => False) [Th.cel b4 43 (x.1.fd x.2.1 x.2.2).cells, Th.cel bp 24 p1.cells] [Th.fr (some ⟨b, off, none⟩) N xs] u) (n := 28) 28 rfl (by kernel_rfl) ?_
                have HS := Lib.hid (show (fun u => Kg w (fun _ => False) [Th.cel b4 43 (x.1.fd x.2.1 x.2.2).cells, Th.cel bp 24 p1.cells] [Th.fr (some ⟨b, off, none⟩) N xs] u) (World.drew _) from HK.out.drew)
                refine Draws.take 0 HS.out rfl (by kernel_rfl) (fun _ _ _ h => h) (yield_kr Tryz.underlying24 rfl p_info (fun _ h => (h.celAt 1 rfl).range Pl.all) _ rfl rfl rfl) ?_
                (try simp only [Act.put, lsA, lsB, lsC])
                refine Draws.take 1 (v := ?v119) HS.out rfl (by kernel_rfl) (fun _ _ _ h => h) (Or.inl ⟨rfl, ?h119⟩) ?r119
                case h119 => intro w' hw'; go_simp; (try with_reducible rfl)
                (try simp only [Act.put, lsA, lsB, lsC])
                refine Draws.take 2 HS.out rfl (by kernel_rfl) (fun _ _ _ h => h) (yield_k ckS (fun _ h => (h.celAt 0 rfl).cell Pf.cn) _ rfl rfl rfl) ?_
                (try simp only [Act.put, lsA, lsB, lsC])
                refine Draws.does 3 rfl (by kernel_rfl) rfl (fun K' hK => ?_)
                go_simp
                go_at_call 13
                refine (htp _).mono ?_
                rintro e u ⟨rfl, hb⟩
                (try dsimp only)
                have hk := HS.out.call hb; clear hb
                clear HS; have HS := Lib.hid (show (fun u => Kg w (fun _ => False) [Th.cel b4 43 (x.1.fd x.2.1 x.2.2).cells, Th.cel bp 24 p1.cells] [Th.fr (some ⟨b, off, none⟩) N xs] u) _ from hk); clear hk
                refine hK.out _ _ (fun _ => HS.out) ?_
                clear hK K'
                (try simp only [Act.put, lsA, lsB, lsC])
                refine Draws.take 4 (v := ?v120) HS.out rfl (by kernel_rfl) (fun _ _ _ h => h) (Or.inl ⟨rfl, ?h120⟩) ?r120
                case h120 => intro w' hw'; go_simp; (try with_reducible rfl)
                (try simp only [Act.put, lsA, lsB, lsC])
                refine Draws.take 5 (v := ?v121) HS.out rfl (by kernel_rfl) (fun _ _ _ h => h) (Or.inl ⟨rfl, ?h121⟩) ?r121
                case h121 => intro w' hw'; go_simp; (try with_reducible rfl)
                (try simp only [Act.put, lsA, lsB, lsC])
                refine Draws.take 6 (v := ?v122) HS.out rfl (by kernel_rfl) (fun _ _ _ h => h) (Or.inl ⟨rfl, ?h122⟩) ?r122
                case h122 => intro w' hw'; go_simp; (try with_reducible rfl)
                (try simp only [Act.put, lsA, lsB, lsC])
                refine Draws.take 7 (v := ?v123) HS.out rfl (by kernel_rfl) (fun _ _ _ h => h) (Or.inl ⟨rfl, ?h123⟩) ?r123
                case h123 => intro w' hw'; go_simp; (try with_reducible rfl)
                (try simp only [Act.put, lsA, lsB, lsC])
                refine Draws.take 8 HS.out rfl (by kernel_rfl) (fun _ _ _ h => h) (yield_k ckI (fun _ h => (h.celAt 0 rfl).cell Pf.ce) _ rfl rfl rfl) ?_
                (try simp only [Act.put, lsA, lsB, lsC])
                refine Draws.take 9 (v := ?v124) HS.out rfl (by kernel_rfl) (fun _ _ _ h => h) (Or.inl ⟨rfl, ?h124⟩) ?r124
                case h124 => intro w' hw'; go_simp; (try with_reducible rfl)
                (try simp only [Act.put, lsA, lsB, lsC])
                refine Draws.take 10 (v := ?v125) HS.out rfl (by kernel_rfl) (fun _ _ _ h => h) (Or.inl ⟨rfl, ?h125⟩) ?r125
                case h125 => intro w' hw'; go_simp; (try with_reducible rfl)
                (try simp only [Act.put, lsA, lsB, lsC])
                refine Draws.take 11 (v := ?v126) HS.out rfl (by kernel_rfl) (fun _ _ _ h => h) (Or.inl ⟨rfl, ?h126⟩) ?r126
                case h126 => intro w' hw'; go_simp; (try with_reducible rfl)
                (try simp only [Act.put, lsA, lsB, lsC])
                refine Draws.take 12 (v := ?v127) HS.out rfl (by kernel_rfl) (fun _ _ _ h => h) (Or.inl ⟨rfl, ?h127⟩) ?r127
                case h127 => intro w' hw'; go_simp; (try with_reducible rfl)
                (try simp only [Act.put, lsA, lsB, lsC])
                refine Draws.take 13 HS.out rfl (by kernel_rfl) (fun _ _ _ h => h) (yield_k ckI (fun _ h => (h.mf.bel.cell (cell_lt HYE.out)).trans HYE.out) _ rfl rfl rfl) ?_
                (try simp only [Act.put, lsA, lsB, lsC])
                refine Draws.take 14 HS.out rfl (by kernel_rfl) (fun _ _ _ h => h) (yield_leq H2.out _ _ _ rfl rfl rfl rfl) ?_
                (try simp only [Act.put, lsA, lsB, lsC])
                refine Draws.take 15 (v := ?v128) HS.out rfl (by kernel_rfl) (fun _ _ _ h => h) (Or.inl ⟨rfl, ?h128⟩) ?r128
                case h128 => intro w' hw'; go_simp; (try with_reducible rfl)
                (try simp only [Act.put, lsA, lsB, lsC])
                refine Draws.take 16 (v := ?v129) HS.out rfl (by kernel_rfl) (fun _ _ _ h => h) (Or.inl ⟨rfl, ?h129⟩) ?r129
                case h129 => intro w' hw'; go_simp; (try with_reducible rfl)
                (try simp only [Act.put, lsA, lsB, lsC])
                refine Draws.take 17 (v := ?v130) HS.out rfl (by kernel_rfl) (fun _ _ _ h => h) (Or.inl ⟨rfl, ?h130⟩) ?r130
                case h130 => intro w' hw'; go_simp; (try with_reducible rfl)
                (try simp only [Act.put, lsA, lsB, lsC])
                refine Draws.take 18 HS.out rfl (by kernel_rfl) (fun _ _ _ h => h) (yield_k ckI (fun _ h => (h.celAt 0 rfl).cell Pf.ce) _ rfl rfl rfl) ?_
                (try simp only [Act.put, lsA, lsB, lsC])
                refine Draws.take 19 HS.out rfl (by kernel_rfl) (fun _ _ _ h => h) (yield_lss H1.out _ _ _ rfl rfl rfl rfl) ?_
                (try simp only [Act.put, lsA, lsB, lsC])
                refine Draws.take 20 (v := ?v131) HS.out rfl (by kernel_rfl) (fun _ _ _ h => h) (Or.inl ⟨rfl, ?h131⟩) ?r131
                case h131 => intro w' hw'; go_simp; (try with_reducible rfl)
                (try simp only [Act.put, lsA, lsB, lsC])
                refine Draws.take 21 (v := ?v132) HS.out rfl (by kernel_rfl) (fun _ _ _ h => h) (Or.inl ⟨rfl, ?h132⟩) ?r132
                case h132 => intro w' hw'; go_simp; (try with_reducible rfl)
                (try simp only [Act.put, lsA, lsB, lsC])
                refine Draws.take 22 (v := ?v133) HS.out rfl (by kernel_rfl) (fun _ _ _ h => h) (Or.inl ⟨rfl, ?h133⟩) ?r133
                case h133 => intro w' hw'; go_simp; (try with_reducible rfl)
                (try simp only [Act.put, lsA, lsB, lsC])
                refine Draws.take 23 HS.out rfl (by kernel_rfl) (fun _ _ _ h => h) (yield_k ckH (fun _ h => (h.celAt 0 rfl).cell (Pf.cH HF.out)) _ rfl rfl rfl) ?_
                (try simp only [Act.put, lsA, lsB, lsC])
                refine Draws.take 24 (v := ?v134) HS.out rfl (by kernel_rfl) (fun _ _ _ h => h) (Or.inl ⟨rfl, ?h134⟩) ?r134
                case h134 => intro w' hw'; go_simp; (try with_reducible rfl)
                (try simp only [Act.put, lsA, lsB, lsC])
                refine Draws.take 25 HS.out rfl (by kernel_rfl) (fun _ _ _ h => h) (yield_gtr H3.out _ _ _ rfl rfl rfl rfl) ?_
                (try simp only [Act.put, lsA, lsB, lsC])
                refine Draws.take 26 (v := ?v135) HS.out rfl (by kernel_rfl) (fun _ _ _ h => h) (Or.inl ⟨rfl, ?h135⟩) ?r135
                case h135 => intro w' hw'; go_simp; (try with_reducible rfl)
                (try simp only [Act.put, lsA, lsB, lsC])
                refine Draws.take 27 (v := ?v136) HS.out rfl (by kernel_rfl) (fun _ _ _ h => h) (Or.inl ⟨rfl, ?h136⟩) ?r136
                case h136 => intro w' hw'; go_simp; (try with_reducible rfl)
                (try simp only [Act.put, lsA, lsB, lsC])
                refine Draws.done (by kernel_rfl) ?_
                clear HK; have HK := Lib.hid (show (fun u => Kg w (fun _ => False) [Th.cel b4 43 (x.1.fd x.2.1 x.2.2).cells, Th.cel bp 24 p1.cells] [Th.fr (some ⟨b, off, none⟩) N xs] u) _ from HS.out); clear HS
                go_wp2
                go_roundw
                case rel => exact ⟨m + 1, by omega, by go_num, HK.out.tail⟩
                case measure => simp [intOf]; omega
              | false =>
                have hfi := fun w h => find_any A0 n0 c0 q0 x.1.nm hn' 0 false (by rw [hi]; rfl) hi w h
                clear hep1 hep2 hep3 hd hmd ht hi hxm
                go_wp2_with (first
                  | (with_reducible refine load_kg Tryz.underlying43 rfl (Pf.infoF HF.out) _ rfl ((HK.out.fr 0 rfl).rng HX.out) rfl rfl ?_)
                  | ((with_reducible refine alloc_k HK.out f_zeroP rfl rfl ?_); intro b4 u hk; clear HK; have HK := Lib.hid hk; clear hk)
                  | ((refine store_kr HK.out 0 (Pf.infoF HF.out) (Fd.one _) rfl rfl _ _ rfl rfl rfl rfl (Fd.leP zP_full HF.out) (Fd.setAllP zP_full HF.out) ?_); intro u hk; simp only [List.set_cons_zero] at hk; clear HK; have HK := Lib.hid hk; clear hk)
                  | (with_reducible refine load_k1 HK.out 0 ckS _ rfl rfl rfl rfl Pf.cn ?_)
                  | (go_at_call 12; (with_reducible refine (hfi _ (HD.out.below HK.out.mf.bel)).mono ?_); rintro e u ⟨rfl, hb⟩; have hk := HK.out.call hb; clear hb; clear HK; have HK := Lib.hid hk; clear hk))
                refine Draws.start (S := fun u => Kg w (fun _ => False) [Th.cel b4 43 (x.1.fd x.2.1 x.2.2).cells, Th.cel bp 24 p1.cells] [Th.fr (some ⟨b, off, none⟩) N xs] u) (n := 18) 18 rfl (by kernel_rfl) ?_
                have HS := Lib.hid (show (fun u => Kg w (fun _ => False) [Th.cel b4 43 (x.1.fd x.2.1 x.2.2).cells, Th.cel bp 24 p1.cells] [Th.fr (some ⟨b, off, none⟩) N xs] u) (World.drew _) from HK.out.drew)
                refine Draws.take 0 HS.out rfl (by kernel_rfl) (fun _ _ _ h => h) (yield_kr Tryz.underlying24 rfl p_info (fun _ h => (h.celAt 1 rfl).range Pl.all) _ rfl rfl rfl) ?_
                (try simp only [Act.put, lsA, lsB, lsC])
                refine Draws.take 1 (v := ?v137) HS.out rfl (by kernel_rfl) (fun _ _ _ h => h) (Or.inl ⟨rfl, ?h137⟩) ?r137
                case h137 => intro w' hw'; go_simp; (try with_reducible rfl)
                (try simp only [Act.put, lsA, lsB, lsC])
                refine Draws.take 2 HS.out rfl (by kernel_rfl) (fun _ _ _ h => h) (yield_k ckS (fun _ h => (h.celAt 0 rfl).cell Pf.cn) _ rfl rfl rfl) ?_
                (try simp only [Act.put, lsA, lsB, lsC])
                refine Draws.does 3 rfl (by kernel_rfl) rfl (fun K' hK => ?_)
                go_simp
                go_at_call 13
                refine (htp _).mono ?_
                rintro e u ⟨rfl, hb⟩
                (try dsimp only)
                have hk := HS.out.call hb; clear hb
                clear HS; have HS := Lib.hid (show (fun u => Kg w (fun _ => False) [Th.cel b4 43 (x.1.fd x.2.1 x.2.2).cells, Th.cel bp 24 p1.cells] [Th.fr (some ⟨b, off, none⟩) N xs] u) _ from hk); clear hk
                refine hK.out _ _ (fun _ => HS.out) ?_
                clear hK K'
                (try simp only [Act.put, lsA, lsB, lsC])
                refine Draws.take 4 (v := ?v138) HS.out rfl (by kernel_rfl) (fun _ _ _ h => h) (Or.inl ⟨rfl, ?h138⟩) ?r138
                case h138 => intro w' hw'; go_simp; (try with_reducible rfl)
                (try simp only [Act.put, lsA, lsB, lsC])
                refine Draws.take 5 (v := ?v139) HS.out rfl (by kernel_rfl) (fun _ _ _ h => h) (Or.inl ⟨rfl, ?h139⟩) ?r139
                case h139 => intro w' hw'; go_simp; (try with_reducible rfl)
                (try simp only [Act.put, lsA, lsB, lsC])
                refine Draws.take 6 HS.out rfl (by kernel_rfl) (fun _ _ _ h => h) (Or.inr ⟨rfl, rfl⟩) ?_
                (try simp only [Act.put, lsA, lsB, lsC])
                refine Draws.take 7 HS.out rfl (by kernel_rfl) (fun _ _ _ h => h) (Or.inr ⟨rfl, rfl⟩) ?_
                (try simp only [Act.put, lsA, lsB, lsC])
                refine Draws.take 8 HS.out rfl (by kernel_rfl) (fun _ _ _ h => h) (Or.inr ⟨rfl, rfl⟩) ?_
                (try simp only [Act.put, lsA, lsB, lsC])
                refine Draws.take 9 HS.out rfl (by kernel_rfl) (fun _ _ _ h => h) (Or.inr ⟨rfl, rfl⟩) ?_
                (try simp only [Act.put, lsA, lsB, lsC])
                refine Draws.take 10 HS.out rfl (by kernel_rfl) (fun _ _ _ h => h) (Or.inr ⟨rfl, rfl⟩) ?_
                (try simp only [Act.put, lsA, lsB, lsC])
                refine Draws.take 11 HS.out rfl (by kernel_rfl) (fun _ _ _ h => h) (Or.inr ⟨rfl, rfl⟩) ?_
                (try simp only [Act.put, lsA, lsB, lsC])
                refine Draws.take 12 HS.out rfl (by kernel_rfl) (fun _ _ _ h => h) (Or.inr ⟨rfl, rfl⟩) ?_
                (try simp only [Act.put, lsA, lsB, lsC])
                refine Draws.take 13 HS.out rfl (by kernel_rfl) (fun _ _ _ h => h) (Or.inr ⟨rfl, rfl⟩) ?_
                (try simp only [Act.put, lsA, lsB, lsC])
                refine Draws.take 14 HS.out rfl (by kernel_rfl) (fun _ _ _ h => h) (Or.inr ⟨rfl, rfl⟩) ?_
                (try simp only [Act.put, lsA, lsB, lsC])
                refine Draws.take 15 HS.out rfl (by kernel_rfl) (fun _ _ _ h => h) (Or.inr ⟨rfl, rfl⟩) ?_
                (try simp only [Act.put, lsA, lsB, lsC])
                refine Draws.take 16 HS.out rfl (by kernel_rfl) (fun _ _ _ h => h) (Or.inr ⟨rfl, rfl⟩) ?_
                (try simp only [Act.put, lsA, lsB, lsC])
                refine Draws.take 17 (v := ?v140) HS.out rfl (by kernel_rfl) (fun _ _ _ h => h) (Or.inl ⟨rfl, ?h140⟩) ?r140
                case h140 => intro w' hw'; go_simp; (try with_reducible rfl)
                (try simp only [Act.put, lsA, lsB, lsC])
                refine Draws.done (by kernel_rfl) ?_
                clear HK; have HK := Lib.hid (show (fun u => Kg w (fun _ => False) [Th.cel b4 43 (x.1.fd x.2.1 x.2.2).cells, Th.cel bp 24 p1.cells] [Th.fr (some ⟨b, off, none⟩) N xs] u) _ from HS.out); clear HS
                go_wp2
                refine Draws.start (S := fun u => Kg w (fun _ => False) [Th.cel b4 43 (x.1.fd x.2.1 x.2.2).cells, Th.cel bp 24 p1.cells] [Th.fr (some ⟨b, off, none⟩) N xs] u) (n := 28) 28 rfl (by kernel_rfl) ?_
                have HS := Lib.hid (show (fun u => Kg w (fun _ => False) [Th.cel b4 43 (x.1.fd x.2.1 x.2.2).cells, Th.cel bp 24 p1.cells] [Th.fr (some ⟨b, off, none⟩) N xs] u) (World.drew _) from HK.out.drew)
                refine Draws.take 0 HS.out rfl (by kernel_rfl) (fun _ _ _ h => h) (yield_kr Tryz.underlying24 rfl p_info (fun _ h => (h.celAt 1 rfl).range Pl.all) _ rfl rfl rfl) ?_
                (try simp only [Act.put, lsA, lsB, lsC])
                refine Draws.take 1 (v := ?v141) HS.out rfl (by kernel_rfl) (fun _ _ _ h => h) (Or.inl ⟨rfl, ?h141⟩) ?r141
                case h141 => intro w' hw'; go_simp; (try with_reducible rfl)
                (try simp only [Act.put, lsA, lsB, lsC])
                refine Draws.take 2 HS.out rfl (by kernel_rfl) (fun _ _ _ h => h) (yield_k ckS (fun _ h => (h.celAt 0 rfl).cell Pf.cn) _ rfl rfl rfl) ?_
                (try simp only [Act.put, lsA, lsB, lsC])
                refine Draws.does 3 rfl (by kernel_rfl) rfl (fun K' hK => ?_)
                go_simp
                go_at_call 13
                refine (htp _).mono ?_
                rintro e u ⟨rfl, hb⟩
                (try dsimp only)
                have hk := HS.out.call hb; clear hb
                clear HS; have HS := Lib.hid (show (fun u => Kg w (fun _ => False) [Th.cel b4 43 (x.1.fd x.2.1 x.2.2).cells, Th.cel bp 24 p1.cells] [Th.fr (some ⟨b, off, none⟩) N xs] u) _ from hk); clear hk
                refine hK.out _ _ (fun _ => HS.out) ?_
                clear hK K'
                (try simp only [Act.put, lsA, lsB, lsC])
                refine Draws.take 4 (v := ?v142) HS.out rfl (by kernel_rfl) (fun _ _ _ h => h) (Or.inl ⟨rfl, ?h142⟩) ?r142
                case h142 => intro w' hw'; go_simp; (try with_reducible rfl)
                (try simp only [Act.put, lsA, lsB, lsC])
                refine Draws.take 5 (v := ?v143) HS.out rfl (by kernel_rfl) (fun _ _ _ h => h) (Or.inl ⟨rfl, ?h143⟩) ?r143
                case h143 => intro w' hw'; go_simp; (try with_reducible rfl)
                (try simp only [Act.put, lsA, lsB, lsC])
                refine Draws.take 6 (v := ?v144) HS.out rfl (by kernel_rfl) (fun _ _ _ h => h) (Or.inl ⟨rfl, ?h144⟩) ?r144
                case h144 => intro w' hw'; go_simp; (try with_reducible rfl)
                (try simp only [Act.put, lsA, lsB, lsC])
                refine Draws.take 7 HS.out rfl (by kernel_rfl) (fun _ _ _ h => h) (Or.inr ⟨rfl, rfl⟩) ?_
                (try simp only [Act.put, lsA, lsB, lsC])
                refine Draws.take 8 HS.out rfl (by kernel_rfl) (fun _ _ _ h => h) (Or.inr ⟨rfl, rfl⟩) ?_
                (try simp only [Act.put, lsA, lsB, lsC])
                refine Draws.take 9 HS.out rfl (by kernel_rfl) (fun _ _ _ h => h) (Or.inr ⟨rfl, rfl⟩) ?_
                (try simp only [Act.put, lsA, lsB, lsC])
                refine Draws.take 10 HS.out rfl (by kernel_rfl) (fun _ _ _ h => h) (Or.inr ⟨rfl, rfl⟩) ?_
                (try simp only [Act.put, lsA, lsB, lsC])
                refine Draws.take 11 HS.out rfl (by kernel_rfl) (fun _ _ _ h => h) (Or.inr ⟨rfl, rfl⟩) ?_
                (try simp only [Act.put, lsA, lsB, lsC])
                refine Draws.take 12 HS.out rfl (by kernel_rfl) (fun _ _ _ h => h) (Or.inr ⟨rfl, rfl⟩) ?_
                (try simp only [Act.put, lsA, lsB, lsC])
                refine Draws.take 13 HS.out rfl (by kernel_rfl) (fun _ _ _ h => h) (Or.inr ⟨rfl, rfl⟩) ?_
                (try simp only [Act.put, lsA, lsB, lsC])
                refine Draws.take 14 HS.out rfl (by kernel_rfl) (fun _ _ _ h => h) (Or.inr ⟨rfl, rfl⟩) ?_
                (try simp only [Act.put, lsA, lsB, lsC])
                refine Draws.take 15 (v := ?v145) HS.out rfl (by kernel_rfl) (fun _ _ _ h => h) (Or.inl ⟨rfl, ?h145⟩) ?r145
                case h145 => intro w' hw'; go_simp; (try with_reducible rfl)
                (try simp only [Act.put, lsA, lsB, lsC])
                refine Draws.take 16 (v := ?v146) HS.out rfl (by kernel_rfl) (fun _ _ _ h => h) (Or.inl ⟨rfl, ?h146⟩) ?r146
                case h146 => intro w' hw'; go_simp; (try with_reducible rfl)
                (try simp only [Act.put, lsA, lsB, lsC])
                refine Draws.take 17 (v := ?v147) HS.out rfl (by kernel_rfl) (fun _ _ _ h => h) (Or.inl ⟨rfl, ?h147⟩) ?r147
                case h147 => intro w' hw'; go_simp; (try with_reducible rfl)
                (try simp only [Act.put, lsA, lsB, lsC])
                refine Draws.take 18 HS.out rfl (by kernel_rfl) (fun _ _ _ h => h) (yield_k ckI (fun _ h => (h.celAt 0 rfl).cell Pf.ce) _ rfl rfl rfl) ?_
                (try simp only [Act.put, lsA, lsB, lsC])
                refine Draws.take 19 HS.out rfl (by kernel_rfl) (fun _ _ _ h => h) (yield_lss H1.out _ _ _ rfl rfl rfl rfl) ?_
                (try simp only [Act.put, lsA, lsB, lsC])
                refine Draws.take 20 (v := ?v148) HS.out rfl (by kernel_rfl) (fun _ _ _ h => h) (Or.inl ⟨rfl, ?h148⟩) ?r148
                case h148 => intro w' hw'; go_simp; (try with_reducible rfl)
                (try simp only [Act.put, lsA, lsB, lsC])
                refine Draws.take 21 (v := ?v149) HS.out rfl (by kernel_rfl) (fun _ _ _ h => h) (Or.inl ⟨rfl, ?h149⟩) ?r149
                case h149 => intro w' hw'; go_simp; (try with_reducible rfl)
                (try simp only [Act.put, lsA, lsB, lsC])
                refine Draws.take 22 (v := ?v150) HS.out rfl (by kernel_rfl) (fun _ _ _ h => h) (Or.inl ⟨rfl, ?h150⟩) ?r150
                case h150 => intro w' hw'; go_simp; (try with_reducible rfl)
                (try simp only [Act.put, lsA, lsB, lsC])
                refine Draws.take 23 HS.out rfl (by kernel_rfl) (fun _ _ _ h => h) (yield_k ckH (fun _ h => (h.celAt 0 rfl).cell (Pf.cH HF.out)) _ rfl rfl rfl) ?_
                (try simp only [Act.put, lsA, lsB, lsC])
                refine Draws.take 24 (v := ?v151) HS.out rfl (by kernel_rfl) (fun _ _ _ h => h) (Or.inl ⟨rfl, ?h151⟩) ?r151
                case h151 => intro w' hw'; go_simp; (try with_reducible rfl)
                (try simp only [Act.put, lsA, lsB, lsC])
                refine Draws.take 25 HS.out rfl (by kernel_rfl) (fun _ _ _ h => h) (yield_gtr H3.out _ _ _ rfl rfl rfl rfl) ?_
                (try simp only [Act.put, lsA, lsB, lsC])
                refine Draws.take 26 (v := ?v152) HS.out rfl (by kernel_rfl) (fun _ _ _ h => h) (Or.inl ⟨rfl, ?h152⟩) ?r152
                case h152 => intro w' hw'; go_simp; (try with_reducible rfl)
                (try simp only [Act.put, lsA, lsB, lsC])
                refine Draws.take 27 (v := ?v153) HS.out rfl (by kernel_rfl) (fun _ _ _ h => h) (Or.inl ⟨rfl, ?h153⟩) ?r153
                case h153 => intro w' hw'; go_simp; (try with_reducible rfl)
                (try simp only [Act.put, lsA, lsB, lsC])
                refine Draws.done (by kernel_rfl) ?_
                clear HK; have HK := Lib.hid (show (fun u => Kg w (fun _ => False) [Th.cel b4 43 (x.1.fd x.2.1 x.2.2).cells, Th.cel bp 24 p1.cells] [Th.fr (some ⟨b, off, none⟩) N xs] u) _ from HS.out); clear HS
                go_wp2
                go_roundw
                case rel => exact ⟨m + 1, by omega, by go_num, HK.out.tail⟩
                case measure => simp [intOf]; omega
            | false =>
              have htp := fun w => touched_any p1 x.1.nm w
              simp only [ht] at htp
              have hxi := app_rest HG.out HAA.out hxm ht
              have hi : isP (pfs q0) x.1.nm = true := isP_iff.2 ⟨x.1, hxi, rfl⟩
              obtain ⟨k, hk⟩ : ∃ k, findP (pfs q0) x.1.nm = k := ⟨_, rfl⟩
              have hy0 := find_in hi (fields_is HG.out.fit.fs).2.2 hxi rfl
              rw [hk] at hy0
              obtain ⟨y, hy, hyy⟩ := pfs_get hy0
              have hfi := fun w h => find_any A0 n0 c0 q0 x.1.nm hn' (k : Int) true (by rw [hi, hk]; rfl) hi w h
              obtain ⟨b5, off5, rfl⟩ := HD.out.ptr hy
              have HY := Lib.hid (show w.rangeAt b5 (off5 + k * 587) (x.1.fd y.2.1 y.2.2).cells by rw [← hyy]; exact HD.out.rng hy)
              have HYR := Lib.hid (show Row w y.2.1 x.1.hs.length x.1.hs by rw [← hyy]; exact HD.out.row hy)
              have j1 : (0 : Int) ≤ (k : Int) := by omega
              have j2 : (k : Int) < (n0 : Int) := by have := (List.getElem?_eq_some_iff.1 hy).1; have := HD.out.1; omega
              clear hy0 hy hyy hk hxi ht hi hxm
              go_wp2_with (first
                | (with_reducible refine load_kg Tryz.underlying43 rfl (Pf.infoF HF.out) _ rfl ((HK.out.fr 0 rfl).rng HX.out) rfl rfl ?_)
                | ((with_reducible refine alloc_k HK.out f_zeroP rfl rfl ?_); intro b4 u hk; clear HK; have HK := Lib.hid hk; clear hk)
                | ((refine store_kr HK.out 0 (Pf.infoF HF.out) (Fd.one _) rfl rfl _ _ rfl rfl rfl rfl (Fd.leP zP_full HF.out) (Fd.setAllP zP_full HF.out) ?_); intro u hk; simp only [List.set_cons_zero] at hk; clear HK; have HK := Lib.hid hk; clear hk)
                | (with_reducible refine load_k1 HK.out 0 ckS _ rfl rfl rfl rfl Pf.cn ?_)
                | (go_at_call 12; (with_reducible refine (hfi _ (HD.out.below HK.out.mf.bel)).mono ?_); rintro e u ⟨rfl, hb⟩; have hk := HK.out.call hb; clear hb; clear HK; have HK := Lib.hid hk; clear hk))
              refine Draws.start (S := fun u => Kg w (fun _ => False) [Th.cel b4 43 (x.1.fd x.2.1 x.2.2).cells, Th.cel bp 24 p1.cells] [Th.fr (some ⟨b, off, none⟩) N xs] u) (n := 18) 18 rfl (by kernel_rfl) ?_
              have HS := Lib.hid (show (fun u => Kg w (fun _ => False) [Th.cel b4 43 (x.1.fd x.2.1 x.2.2).cells, Th.cel bp 24 p1.cells] [Th.fr (some ⟨b, off, none⟩) N xs] u) (World.drew _) from HK.out.drew)
              refine Draws.take 0 HS.out rfl (by kernel_rfl) (fun _ _ _ h => h) (yield_kr Tryz.underlying24 rfl p_info (fun _ h => (h.celAt 1 rfl).range Pl.all) _ rfl rfl rfl) ?_
              (try simp only [Act.put, lsA, lsB, lsC])
              refine Draws.take 1 (v := ?v154) HS.out rfl (by kernel_rfl) (fun _ _ _ h => h) (Or.inl ⟨rfl, ?h154⟩) ?r154
              case h154 => intro w' hw'; go_simp; (try with_reducible rfl)
              (try simp only [Act.put, lsA, lsB, lsC])
              refine Draws.take 2 HS.out rfl (by kernel_rfl) (fun _ _ _ h => h) (yield_k ckS (fun _ h => (h.celAt 0 rfl).cell Pf.cn) _ rfl rfl rfl) ?_
              (try simp only [Act.put, lsA, lsB, lsC])
              refine Draws.does 3 rfl (by kernel_rfl) rfl (fun K' hK => ?_)
              go_simp
              go_at_call 13
              refine (htp _).mono ?_
              rintro e u ⟨rfl, hb⟩
              (try dsimp only)
              have hk := HS.out.call hb; clear hb
              clear HS; have HS := Lib.hid (show (fun u => Kg w (fun _ => False) [Th.cel b4 43 (x.1.fd x.2.1 x.2.2).cells, Th.cel bp 24 p1.cells] [Th.fr (some ⟨b, off, none⟩) N xs] u) _ from hk); clear hk
              refine hK.out _ _ (fun _ => HS.out) ?_
              clear hK K'
              (try simp only [Act.put, lsA, lsB, lsC])
              refine Draws.take 4 (v := ?v155) HS.out rfl (by kernel_rfl) (fun _ _ _ h => h) (Or.inl ⟨rfl, ?h155⟩) ?r155
              case h155 => intro w' hw'; go_simp; (try with_reducible rfl)
              (try simp only [Act.put, lsA, lsB, lsC])
              refine Draws.take 5 (v := ?v156) HS.out rfl (by kernel_rfl) (fun _ _ _ h => h) (Or.inl ⟨rfl, ?h156⟩) ?r156
              case h156 => intro w' hw'; go_simp; (try with_reducible rfl)
              (try simp only [Act.put, lsA, lsB, lsC])
              refine Draws.take 6 (v := ?v157) HS.out rfl (by kernel_rfl) (fun _ _ _ h => h) (Or.inl ⟨rfl, ?h157⟩) ?r157
              case h157 => intro w' hw'; go_simp; (try with_reducible rfl)
              (try simp only [Act.put, lsA, lsB, lsC])
              refine Draws.take 7 (v := ?v158) HS.out rfl (by kernel_rfl) (fun _ _ _ h => h) (Or.inl ⟨rfl, ?h158⟩) ?r158
              case h158 => intro w' hw'; go_simp; (try with_reducible rfl)
              (try simp only [Act.put, lsA, lsB, lsC])
              refine Draws.take 8 (v := ?v159) HS.out rfl (by kernel_rfl) (fun _ _ _ h => h) (Or.inl ⟨rfl, ?h159⟩) ?r159
              case h159 => intro w' hw'; go_simp; (try with_reducible rfl)
              (try simp only [Act.put, lsA, lsB, lsC])
              refine Draws.take 9 HS.out rfl (by kernel_rfl) (fun _ _ _ h => h) (yield_kr Tryz.underlying43 rfl (Pf.infoF HF.out) (fun _ h => (h.celAt 0 rfl).range Pf.all) _ rfl rfl rfl) ?_
              (try simp only [Act.put, lsA, lsB, lsC])
              refine Draws.take 10 (v := ?v160) HS.out rfl (by kernel_rfl) (fun _ _ _ h => h) (Or.inl ⟨rfl, ?h160⟩) ?r160
              case h160 => intro w' hw'; go_simp; (try with_reducible rfl)
              (try simp only [Act.put, lsA, lsB, lsC])
              refine Draws.take 11 (v := ?v161) HS.out rfl (by kernel_rfl) (fun _ _ _ h => h) (Or.inl ⟨rfl, ?h161⟩) ?r161
              case h161 => intro w' hw'; go_simp; (try with_reducible rfl)
              (try simp only [Act.put, lsA, lsB, lsC])
              refine Draws.take 12 (v := ?v162) HS.out rfl (by kernel_rfl) (fun _ _ _ h => h) (Or.inl ⟨rfl, ?h162⟩) ?r162
              case h162 => intro w' hw'; go_simp; (try with_reducible rfl)
              (try simp only [Act.put, lsA, lsB, lsC])
              refine Draws.take 13 HS.out rfl (by kernel_rfl) (fun _ _ _ h => h) (yield_kr Tryz.underlying43 rfl (Pf.infoF HF.out) (fun _ h => rng_below HY.out h.mf.bel) _ rfl rfl rfl) ?_
              (try simp only [Act.put, lsA, lsB, lsC])
              refine Draws.does 14 rfl (by kernel_rfl) rfl (fun K' hK => ?_)
              go_simp
              go_at_call 22
              refine (rsame_any x.1 HF.out _ _ _ _ _ ((HS.out.fr 0 rfl).row HX.out) (HYR.out.below HS.out.mf.bel (Nat.le_refl _))).mono ?_
              rintro e u ⟨rfl, hb⟩
              (try dsimp only)
              have hk := HS.out.call hb; clear hb
              clear HS; have HS := Lib.hid (show (fun u => Kg w (fun _ => False) [Th.cel b4 43 (x.1.fd x.2.1 x.2.2).cells, Th.cel bp 24 p1.cells] [Th.fr (some ⟨b, off, none⟩) N xs] u) _ from hk); clear hk
              refine hK.out _ _ (fun _ => HS.out) ?_
              clear hK K'
              (try simp only [Act.put, lsA, lsB, lsC])
              refine Draws.take 15 (v := ?v163) HS.out rfl (by kernel_rfl) (fun _ _ _ h => h) (Or.inl ⟨rfl, ?h163⟩) ?r163
              case h163 => intro w' hw'; go_simp; (try with_reducible rfl)
              (try simp only [Act.put, lsA, lsB, lsC])
              refine Draws.take 16 (v := ?v164) HS.out rfl (by kernel_rfl) (fun _ _ _ h => h) (Or.inl ⟨rfl, ?h164⟩) ?r164
              case h164 => intro w' hw'; go_simp; (try with_reducible rfl)
              (try simp only [Act.put, lsA, lsB, lsC])
              refine Draws.take 17 (v := ?v165) HS.out rfl (by kernel_rfl) (fun _ _ _ h => h) (Or.inl ⟨rfl, ?h165⟩) ?r165
              case h165 => intro w' hw'; go_simp; (try with_reducible rfl)
              (try simp only [Act.put, lsA, lsB, lsC])
              refine Draws.done (by kernel_rfl) ?_
              clear HK; have HK := Lib.hid (show (fun u => Kg w (fun _ => False) [Th.cel b4 43 (x.1.fd x.2.1 x.2.2).cells, Th.cel bp 24 p1.cells] [Th.fr (some ⟨b, off, none⟩) N xs] u) _ from HS.out); clear HS
              go_wp2
              refine Draws.start (S := fun u => Kg w (fun _ => False) [Th.cel b4 43 (x.1.fd x.2.1 x.2.2).cells, Th.cel bp 24 p1.cells] [Th.fr (some ⟨b, off, none⟩) N xs] u) (n := 28) 28 rfl (by kernel_rfl) ?_
              have HS := Lib.hid (show (fun u => Kg w (fun _ => False) [Th.cel b4 43 (x.1.fd x.2.1 x.2.2).cells, Th.cel bp 24 p1.cells] [Th.fr (some ⟨b, off, none⟩) N xs] u) (World.drew _) from HK.out.drew)
              refine Draws.take 0 HS.out rfl (by kernel_rfl) (fun _ _ _ h => h) (yield_kr Tryz.underlying24 rfl p_info (fun _ h => (h.celAt 1 rfl).range Pl.all) _ rfl rfl rfl) ?_
              (try simp only [Act.put, lsA, lsB, lsC])
              refine Draws.take 1 (v := ?v166) HS.out rfl (by kernel_rfl) (fun _ _ _ h => h) (Or.inl ⟨rfl, ?h166⟩) ?r166
              case h166 => intro w' hw'; go_simp; (try with_reducible rfl)
              (try simp only [Act.put, lsA, lsB, lsC])
              refine Draws.take 2 HS.out rfl (by kernel_rfl) (fun _ _ _ h => h) (yield_k ckS (fun _ h => (h.celAt 0 rfl).cell Pf.cn) _ rfl rfl rfl) ?_
              (try simp only [Act.put, lsA, lsB, lsC])
              refine Draws.does 3 rfl (by kernel_rfl) rfl (fun K' hK => ?_)
              go_simp
              go_at_call 13
              refine (htp _).mono ?_
              rintro e u ⟨rfl, hb⟩
              (try dsimp only)
              have hk := HS.out.call hb; clear hb
              clear HS; have HS := Lib.hid (show (fun u => Kg w (fun _ => False) [Th.cel b4 43 (x.1.fd x.2.1 x.2.2).cells, Th.cel bp 24 p1.cells] [Th.fr (some ⟨b, off, none⟩) N xs] u) _ from hk); clear hk
              refine hK.out _ _ (fun _ => HS.out) ?_
              clear hK K'
              (try simp only [Act.put, lsA, lsB, lsC])
              refine Draws.take 4 (v := ?v167) HS.out rfl (by kernel_rfl) (fun _ _ _ h => h) (Or.inl ⟨rfl, ?h167⟩) ?r167
              case h167 => intro w' hw'; go_simp; (try with_reducible rfl)
              (try simp only [Act.put, lsA, lsB, lsC])
              refine Draws.take 5 HS.out rfl (by kernel_rfl) (fun _ _ _ h => h) (Or.inr ⟨rfl, rfl⟩) ?_
              (try simp only [Act.put, lsA, lsB, lsC])
              refine Draws.take 6 HS.out rfl (by kernel_rfl) (fun _ _ _ h => h) (Or.inr ⟨rfl, rfl⟩) ?_
              (try simp only [Act.put, lsA, lsB, lsC])
              refine Draws.take 7 HS.out rfl (by kernel_rfl) (fun _ _ _ h => h) (Or.inr ⟨rfl, rfl⟩) ?_
              (try simp only [Act.put, lsA, lsB, lsC])
              refine Draws.take 8 HS.out rfl (by kernel_rfl) (fun _ _ _ h => h) (Or.inr ⟨rfl, rfl⟩) ?_
              (try simp only [Act.put, lsA, lsB, lsC])
              refine Draws.take 9 HS.out rfl (by kernel_rfl) (fun _ _ _ h => h) (Or.inr ⟨rfl, rfl⟩) ?_
              (try simp only [Act.put, lsA, lsB, lsC])
              refine Draws.take 10 HS.out rfl (by kernel_rfl) (fun _ _ _ h => h) (Or.inr ⟨rfl, rfl⟩) ?_
              (try simp only [Act.put, lsA, lsB, lsC])
              refine Draws.take 11 HS.out rfl (by kernel_rfl) (fun _ _ _ h => h) (Or.inr ⟨rfl, rfl⟩) ?_
              (try simp only [Act.put, lsA, lsB, lsC])
              refine Draws.take 12 HS.out rfl (by kernel_rfl) (fun _ _ _ h => h) (Or.inr ⟨rfl, rfl⟩) ?_
              (try simp only [Act.put, lsA, lsB, lsC])
              refine Draws.take 13 HS.out rfl (by kernel_rfl) (fun _ _ _ h => h) (Or.inr ⟨rfl, rfl⟩) ?_
              (try simp only [Act.put, lsA, lsB, lsC])
              refine Draws.take 14 HS.out rfl (by kernel_rfl) (fun _ _ _ h => h) (Or.inr ⟨rfl, rfl⟩) ?_
              (try simp only [Act.put, lsA, lsB, lsC])
              refine Draws.take 15 HS.out rfl (by kernel_rfl) (fun _ _ _ h => h) (Or.inr ⟨rfl, rfl⟩) ?_
              (try simp only [Act.put, lsA, lsB, lsC])
              refine Draws.take 16 HS.out rfl (by kernel_rfl) (fun _ _ _ h => h) (Or.inr ⟨rfl, rfl⟩) ?_
              (try simp only [Act.put, lsA, lsB, lsC])
              refine Draws.take 17 HS.out rfl (by kernel_rfl) (fun _ _ _ h => h) (Or.inr ⟨rfl, rfl⟩) ?_
              (try simp only [Act.put, lsA, lsB, lsC])
              refine Draws.take 18 HS.out rfl (by kernel_rfl) (fun _ _ _ h => h) (Or.inr ⟨rfl, rfl⟩) ?_
              (try simp only [Act.put, lsA, lsB, lsC])
              refine Draws.take 19 HS.out rfl (by kernel_rfl) (fun _ _ _ h => h) (Or.inr ⟨rfl, rfl⟩) ?_
              (try simp only [Act.put, lsA, lsB, lsC])
              refine Draws.take 20 HS.out rfl (by kernel_rfl) (fun _ _ _ h => h) (Or.inr ⟨rfl, rfl⟩) ?_
              (try simp only [Act.put, lsA, lsB, lsC])
              refine Draws.take 21 HS.out rfl (by kernel_rfl) (fun _ _ _ h => h) (Or.inr ⟨rfl, rfl⟩) ?_
              (try simp only [Act.put, lsA, lsB, lsC])
              refine Draws.take 22 HS.out rfl (by kernel_rfl) (fun _ _ _ h => h) (Or.inr ⟨rfl, rfl⟩) ?_
              (try simp only [Act.put, lsA, lsB, lsC])
              refine Draws.take 23 HS.out rfl (by kernel_rfl) (fun _ _ _ h => h) (Or.inr ⟨rfl, rfl⟩) ?_
              (try simp only [Act.put, lsA, lsB, lsC])
              refine Draws.take 24 HS.out rfl (by kernel_rfl) (fun _ _ _ h => h) (Or.inr ⟨rfl, rfl⟩) ?_
              (try simp only [Act.put, lsA, lsB, lsC])
              refine Draws.take 25 HS.out rfl (by kernel_rfl) (fun _ _ _ h => h) (Or.inr ⟨rfl, rfl⟩) ?_
              (try simp only [Act.put, lsA, lsB, lsC])
              refine Draws.take 26 HS.out rfl (by kernel_rfl) (fun _ _ _ h => h) (Or.inr ⟨rfl, rfl⟩) ?_
              (try simp only [Act.put, lsA, lsB, lsC])
              refine Draws.take 27 (v := ?v168) HS.out rfl (by kernel_rfl) (fun _ _ _ h => h) (Or.inl ⟨rfl, ?h168⟩) ?r168
              case h168 => intro w' hw'; go_simp; (try with_reducible rfl)
              (try simp only [Act.put, lsA, lsB, lsC])
              refine Draws.done (by kernel_rfl) ?_
              clear HK; have HK := Lib.hid (show (fun u => Kg w (fun _ => False) [Th.cel b4 43 (x.1.fd x.2.1 x.2.2).cells, Th.cel bp 24 p1.cells] [Th.fr (some ⟨b, off, none⟩) N xs] u) _ from HS.out); clear HS
              go_wp2
              go_roundw
              case rel => exact ⟨m + 1, by omega, by go_num, HK.out.tail⟩
              case measure => simp [intOf]; omega
          · obtain rfl : m = N := by omega
            go_wp2_with (first
              | (go_at_call 9; (with_reducible refine (awake_any _).mono ?_); rintro e u ⟨rfl, hb⟩; have hk := HK.out.call hb; clear hb; clear HK; have HK := Lib.hid hk; clear hk))
            go_ret
            exact ⟨rfl, HK.out.mf.bel⟩
    · have he' : (E == 0) = false := by simpa using he
      obtain rfl := HNO.out he
      clear he HAP HNO
      go_wp2_with (first
        | (go_at_call 9; (with_reducible refine (awake_any _).mono ?_); rintro e u ⟨rfl, hb⟩; have hk := HK.out.call hb; clear hb; clear HK; have HK := Lib.hid hk; clear hk))
      go_ret
      exact ⟨rfl, HK.out.mf.bel⟩

set_option maxRecDepth 100000 in
theorem lifted (os : Os) (started : os.Started) (H : Type) (enc : TypeId × Value → H) :
    ReturnsInHanded {} Tryz.checked os 4 .any (Rows.planKeepsSpec.pre6 enc Tryz.prog Tryz.f4 Rows.planKeepsRow.domain false) (Rows.planKeepsSpec.post enc Tryz.prog Tryz.f4 false true false false) := by
  refine returnsInHanded_of_change (C := Tryz.checked) own started (by kernel_rfl) Tryz.func4
    (ChangeSpec.witness6 (enc := enc) (C := Tryz.checked) false ⟨#[], #[.slice none 0 0, .agg (Pl.cells ⟨0, ⟨#[]⟩, ⟨#[]⟩, 0, 0⟩).toArray], []⟩ 12 (by kernel_rfl) (by kernel_rfl) (by kernel_rfl) (by kernel_rfl)) ?_
  intro W base args ds gs before hval0 hW hcnd _
  have hval : ∀ (j : Nat) t v, Tryz.f4.params[j]? = some t → args[j]? = some v → Value.okWide Tryz.prog W .any base t v := hval0
  have hW' := hW
  obtain ⟨p, q, hA0, hV, rfl, hfz, hnd⟩ := hW
  have hA : DataW.TrodAll enc Tryz.prog W 0 (fun _ => true) true Tryz.f4.params.toList args.toList ds p := hA0
  rw [Tryz.params4] at hA hval
  obtain ⟨v0, vs0, d0, ds0, q0, r0, hargs, rfl, rfl, h0, t0⟩ := trodAll_cons hA
  obtain ⟨v1, vs1, d1, ds1, q1, r1, rfl, rfl, rfl, h1, t1⟩ := trodAll_cons t0
  obtain ⟨rfl, rfl, rfl⟩ := trodAll_nil t1
  obtain rfl : args = #[v0, v1] := by cases args; simp_all
  obtain ⟨rfl, rfl⟩ := trodVars_none hV
  have k0 := h0
  have lt0 : ∀ x ∈ q0, x.block < W.heap.size := by obtain ⟨m, hm⟩ := k0; exact DataW.trod_lt m _ _ _ hm
  obtain ⟨A0, n0, c0, y0, rfl, hd0, _⟩ := open_fs (hval 0 22 v0 rfl rfl) h0
  have k1 := h1
  have lt1 : ∀ x ∈ q1, x.block < W.heap.size := by obtain ⟨m, hm⟩ := k1; exact DataW.trod_lt m _ _ _ hm
  obtain ⟨p1, rfl, hk1, ha1, hb1⟩ := open_p (hval 1 24 v1 rfl rfl) h1
  clear hA0 hval0
  refine (walk W A0 n0 c0 y0 hd0 p1 hk1 ha1 hb1).mono fun e W' ⟨he, bel⟩ => ?_
  subst he
  exact ⟨_, rfl, _, _, _, [], _, [], hW', trodAll_mk1 (shut_bool Tryz.underlying4 _), (trodAll_cons_mk (Below.trod laidOut (by kernel_rfl) (of_decide_eq_true (by kernel_rfl)) k0 bel lt0) (trodAll_cons_mk (Below.trod laidOut (by kernel_rfl) (of_decide_eq_true (by kernel_rfl)) k1 bel lt1) trodAll_mk0)), rfl, bel.frame _, fun h => by cases h⟩

theorem over : Rows.planKeepsRow.holds Tryz.pinned (OpenSpec.ofChange Rows.planKeepsSpec) :=
  OpenClaim.holds_of_wide 4 Tryz.f4 rfl rfl rfl rfl rfl rfl rfl ⟨rfl, rfl, rfl, rfl, rfl⟩ rfl rfl rfl rfl rfl (by kernel_rfl) Tryz.func4 (by kernel_rfl)
    (of_decide_eq_true (by kernel_rfl)) (by unfold Func.isWrapper; first | (rw [if_pos (by decide +kernel)]; kernel_rfl) | (rw [if_neg (by decide +kernel)]; exact ⟨rfl, rfl⟩))
    (fun os started H enc _ => lifted os started H enc)

theorem proved : Rows.PlanKeepsSaid := over
#print axioms proved
end Go.Proofs.YtgblnlpfgdbnnaaGreat.planKeeps
