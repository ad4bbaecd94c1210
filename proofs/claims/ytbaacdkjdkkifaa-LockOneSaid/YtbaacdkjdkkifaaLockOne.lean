/- For every holder and value and every slice of steps usufructlaw05.LockOne returns true, and each argument reads as before. No condition. -/
import Derived.Test.YtbaacdkjdkkifaaLkJoin
import Derived.Test.YtbaacdkjdkkifaaLkMap
import Derived.WalkKit
import Derived.ProofKit
import Derived.OpenShut
import Derived.ChangeOld
import Derived.Below
namespace Go.Proofs.Ytbaacdkjdkkifaa.lockOne
open Go.ChangeShapes Go.WideShapes Go.ChangeAt Go.RowKit
set_option linter.unusedVariables false

theorem own : ownKnob Try.prog.godebug = none := by kernel_rfl
theorem laidOut : laidOutB Try.prog = true := by kernel_rfl

theorem cells4 {u : World} {b : Nat} {t : TypeId} {p q r s : Int} (h : Blk u b t [p, q, r, s]) : u.cell? ⟨b, 0, none⟩ = some (.int .i64 p) ∧ u.cell? ⟨b, 1, none⟩ = some (.int .i64 q) ∧ u.cell? ⟨b, 2, none⟩ = some (.int .i64 r) ∧ u.cell? ⟨b, 3, none⟩ = some (.int .i64 s) :=
  ⟨h.cell (k := 0) (by simp), h.cell (k := 1) (by simp), h.cell (k := 2) (by simp), h.cell (k := 3) (by simp)⟩
theorem d_info4 (a b c d : Int) : (Try.prog.info? 37).map (·.size) = some (vals [a, b, c, d]).length := d_info
theorem fill_step {S : List Int} {X : Lk} {m : Nat} (hS : S.length = 64) (hm : m < 16) (h : ∀ j, j < m → st S j = X) : (splice S (m * 4) X.l).length = 64 ∧ ∀ j, j < m + 1 → st (splice S (m * 4) X.l) j = X := by
  refine ⟨by rw [splice_length]; exact hS, fun j hj => ?_⟩
  rw [st_splice (by omega)]
  split
  · rfl
  · exact h j (by omega)
theorem cmp_after {a b : Lk} (h : ltL b a) : cmpL a b = 1 := by
  have h1 := cmp_pos.2 h
  have h2 := cmp_three a b
  omega
theorem wr_ok {a : Lk} {k n : Int} (h : wrE a k n = 0) (hs : ok64 a.s) : ok64 (wrA a k n).s ∧ ok64 (wrA a k n).v := by
  obtain ⟨_, _, _, hv, e⟩ := wr_zero h
  rw [e]; exact ⟨hs, ok64_of hv⟩
theorem ps_ok {a : Lk} {k t : Int} (h : psE a k t = 0) : ok64 (psA a k t).s ∧ ok64 (psA a k t).v := by
  obtain ⟨_, _, _, hv, e⟩ := ps_zero h
  rw [e]; exact ⟨ok64_of hv, ok64_of isB_zero⟩

set_option maxRecDepth 100000 in
set_option maxHeartbeats 16000000 in
theorem walk (w : World) (a0 : Int) (w0 : (Lit.int .i64 a0).wf = true) (a1 : Int) (w1 : (Lit.int .i64 a1).wf = true) (A2 : Option Addr) (nn c2 : Nat) (x2 : List Int) (hd2 : Steps w A2 nn x2) :
    Calls Try.prog 4 #[.int .i64 a0, .int .i64 a1, .slice A2 nn c2] w fun e w' => e = .returned (.bool true) ∧ Below w.heap.size w w' := by
  have n1 := lnew_any a0 a1
  have HST := Lib.hid hd2; clear hd2
  have HK := Lib.hid (KeepR.start w)
  by_cases h0 : newE a0 a1 = 0
  · obtain ⟨hr0, _, hA⟩ := new_zero h0
    rw [hA, h0] at n1
    clear hA h0
    have HR0 := Lib.hid hr0; clear hr0
    obtain ⟨X0, hX0⟩ : ∃ X : Lk, X = ⟨0, 0, a0, a1⟩ := ⟨_, rfl⟩
    have HF := Lib.hid (show repB X0.h = true by rw [hX0]; exact HR0.out)
    have HXS := Lib.hid (show X0.s = 0 by rw [hX0])
    have HXV := Lib.hid (show X0.v = 0 by rw [hX0])
    rw [← hX0] at n1
    clear hX0
    by_cases hn : nn ≤ 80
    · have hn' : ¬ (80 : Int) < (nn : Int) := by omega
      have hn3 : decide ((80 : Int) < (nn : Int)) = false := by simp; omega
      go_enter Try.func4, Try.ntmps4
      go_wp2_with (first
        | (with_reducible refine alloc_zero (l := []) HK.out 4 lk_zero rfl rfl ?_; intro bf u hnn hk hb; clear hnn hb; clear HK; have HK := Lib.hid hk; clear hk)
        | (go_at_call 14; (with_reducible refine (n1 _).mono ?_); rintro e u ⟨rfl, hb⟩; have hk := HK.out.call hb; clear hb; clear HK; have HK := Lib.hid hk; clear hk)
        | (with_reducible refine store_all HK.out 0 4 lk_info rfl rfl _ _ rfl rfl rfl rfl (Lk.len _) (zer_length 4) ?_; intro u hk hs; clear hs; simp only [List.set_cons_zero] at hk; clear HK; have HK := Lib.hid hk; clear hk)
        | (with_reducible refine alloc_zero HK.out 64 s_zero rfl rfl ?_; intro bs u hnn hk hb; clear hnn hb; clear HK; have HK := Lib.hid hk; clear hk))
      clear hn3 n1
      go_loopw [36] (fun i wr => ∃ (m : Nat) (S : List Int), m ≤ 16 ∧ i = .int .i64 m ∧ S.length = 64 ∧ (∀ j, j < m → st S j = X0) ∧ KeepR w [(bs, 33, S), (bf, 23, X0.l)] wr) (fun i _ => 16 - (intOf i).toNat)
      case atStart => exact ⟨0, zer 64, by omega, rfl, zer_length 64, fun j hj => absurd hj (by omega), HK.out⟩
      case round =>
        obtain ⟨m, S, hm, rfl, hS, hall, hk⟩ := hrel
        clear HK
        have HK := Lib.hid hk; have HS := Lib.hid hS; have HA := Lib.hid hall
        clear hk hS hall
        by_cases hlt : m < 16
        · have j1 : (0 : Int) ≤ (m : Int) := by omega
          have j2 : (m : Int) < 16 := by omega
          have HN := Lib.hid (fill_step HS.out hlt HA.out)
          go_wp2_with (first
            | (with_reducible refine load_all HK.out 1 4 Try.underlying23 rfl lk_info rfl _ rfl rfl rfl (Lk.len _) ?_)
            | (with_reducible refine store_part HK.out 0 4 lk_info rfl rfl _ _ rfl rfl rfl rfl (Lk.len _) (by have := HS.out; omega) ?_; intro u hk hs; clear hs; simp only [List.set_cons_zero] at hk; clear HK; have HK := Lib.hid hk; clear hk))
          go_roundw
          case rel => exact ⟨m + 1, _, by omega, by go_num, HN.out.1, HN.out.2, HK.out⟩
          case measure => simp [intOf]; omega
        · obtain rfl : m = 16 := by omega
          have HI := Lib.hid (LI.begin HA.out HF.out)
          clear HA
          simp only [show ((16 : Nat) : Int) = 16 from rfl]
          go_wp2_with (first
            | (with_reducible refine load_all HK.out 1 4 Try.underlying23 rfl lk_info rfl _ rfl rfl rfl (Lk.len _) ?_)
            | (with_reducible refine map_new HK.out rfl rfl ?_; intro bm u hw0 hk hm; have HW := Lib.hid hw0; clear hw0; have HM := Lib.hid hm; clear hm; clear HK; have HK := Lib.hid hk; clear hk)
            | (with_reducible refine build_key rfl _ _ rfl rfl rfl ?_)
            | (with_reducible refine map_first HK.out HM.out HW.out HXS.out HXV.out rfl _ _ _ rfl rfl rfl rfl rfl ?_; intro u hk hm; clear HM; have HM := Lib.hid hm; clear hm; clear HK; have HK := Lib.hid hk; clear hk)
            | (with_reducible refine alloc_zero HK.out 4 lk_zero rfl rfl ?_; intro bl u hnn hk hb; clear hnn; have hm := HM.out.below hb; clear hb; clear HM; have HM := Lib.hid hm; clear hm; clear HK; have HK := Lib.hid hk; clear hk)
            | (with_reducible refine store_all HK.out 0 4 lk_info rfl rfl _ _ rfl rfl rfl rfl (Lk.len _) (zer_length 4) ?_; intro u hk hs; have hm := HM.out.store (HK.out.get 0 rfl) hs; clear hs; clear HM; have HM := Lib.hid hm; clear hm; simp only [List.set_cons_zero] at hk; clear HK; have HK := Lib.hid hk; clear hk))
          generalize hS0 : S = S0 at HK HS HI
          go_loopw [50] (fun i wr => ∃ k : Nat, k ≤ nn ∧ i = .int .i64 k ∧ ∃ (S : List Int) (L : Lk) (seen : List Lk), S.length = 64 ∧ LI seen L (st S) ∧ X0 ∈ seen ∧ MapAt wr bm (k + 1) seen ∧ KeepR w [(bl, 23, L.l), (bs, 33, S), (bf, 23, X0.l)] wr) (fun i _ => nn - (intOf i).toNat)
          case atStart => exact ⟨0, by omega, rfl, S0, X0, [X0], HS.out, HI.out, List.mem_singleton.2 rfl, HM.out, HK.out⟩
          case round =>
            obtain ⟨k, hk0, rfl, S, L, seen, hS, hI, hF0, hM, hk⟩ := hrel
            clear HK HS HI HM
            have HK := Lib.hid hk; have HS := Lib.hid hS; have HI := Lib.hid hI; have HM := Lib.hid hM; have HF0 := Lib.hid hF0
            clear hk hS hI hM hF0
            by_cases hlt : k < nn
            · obtain ⟨hmx, h0 | ⟨b, off, hAA, hx, hc⟩⟩ := HST.out
              · omega
              subst hAA
              clear hmx
              have hrg := reads_steps hx hc hlt
              have hsg := seg4 (x := x2) (o := k * 4) (by omega)
              have HC := Lib.hid (cell_lt (hc (k * 4) (by omega)))
              rw [hsg] at hrg
              generalize x2.getD (k * 4) 0 = dv at hrg
              generalize x2.getD (k * 4 + 1) 0 = di at hrg
              generalize x2.getD (k * 4 + 2) 0 = dk at hrg
              generalize x2.getD (k * 4 + 3) 0 = dn at hrg
              have HRG := Lib.hid hrg
              clear hsg hx hc hrg HST
              have i1 : (0 : Int) ≤ (k : Int) := by omega
              have i2 : (k : Int) < (nn : Int) := by omega
              have hc0 := Lib.hid True.intro
              have hc1 := Lib.hid True.intro
              have hc2 := Lib.hid True.intro
              have hc3 := Lib.hid True.intro
              by_cases t1 : di < 0
              · skip
                go_wp2_with (first
                  | (with_reducible refine wpList_load_mid rfl _ _ rfl _ _ rfl _ _ (range_below HRG.out HK.out.bel HC.out) Try.underlying37 rfl (d_info4 _ _ _ _) ?_)
                  | (with_reducible refine alloc_zero HK.out 4 d_zero rfl rfl ?_; intro bd u hnn hk hb; clear hnn; have hm := HM.out.below hb; clear hb; clear HM; have HM := Lib.hid hm; clear hm; clear HK; have HK := Lib.hid hk; clear hk)
                  | (with_reducible refine store_all HK.out 0 4 d_info rfl rfl _ _ rfl rfl rfl rfl rfl (zer_length 4) ?_; intro u hk hs; have hm := HM.out.store (HK.out.get 0 rfl) hs; clear hs; clear HM; have HM := Lib.hid hm; clear hm; simp only [List.set_cons_zero] at hk; clear hc0 hc1 hc2 hc3; obtain ⟨hc0, hc1, hc2, hc3⟩ := cells4 (hk.get 0 rfl); clear HK; have HK := Lib.hid hk; clear hk))
                go_roundw
                case rel => exact ⟨k + 1, by omega, by go_num, S, L, seen, HS.out, HI.out, HF0.out, HM.out.mono (by omega), HK.out.tail⟩
                case measure => simp [intOf]; omega
              · by_cases t2 : 15 < di
                · skip
                  go_wp2_with (first
                    | (with_reducible refine wpList_load_mid rfl _ _ rfl _ _ rfl _ _ (range_below HRG.out HK.out.bel HC.out) Try.underlying37 rfl (d_info4 _ _ _ _) ?_)
                    | (with_reducible refine alloc_zero HK.out 4 d_zero rfl rfl ?_; intro bd u hnn hk hb; clear hnn; have hm := HM.out.below hb; clear hb; clear HM; have HM := Lib.hid hm; clear hm; clear HK; have HK := Lib.hid hk; clear hk)
                    | (with_reducible refine store_all HK.out 0 4 d_info rfl rfl _ _ rfl rfl rfl rfl rfl (zer_length 4) ?_; intro u hk hs; have hm := HM.out.store (HK.out.get 0 rfl) hs; clear hs; clear HM; have HM := Lib.hid hm; clear hm; simp only [List.set_cons_zero] at hk; clear hc0 hc1 hc2 hc3; obtain ⟨hc0, hc1, hc2, hc3⟩ := cells4 (hk.get 0 rfl); clear HK; have HK := Lib.hid hk; clear hk))
                  go_roundw
                  case rel => exact ⟨k + 1, by omega, by go_num, S, L, seen, HS.out, HI.out, HF0.out, HM.out.mono (by omega), HK.out.tail⟩
                  case measure => simp [intOf]; omega
                · obtain ⟨a, rfl⟩ : ∃ a : Nat, di = a := ⟨di.toNat, by omega⟩
                  have ha : a < 16 := by omega
                  have a1 : (0 : Int) ≤ (a : Int) := by omega
                  have a2 : (a : Int) < 16 := by omega
                  have HLS := Lib.hid (show a * 4 + 4 ≤ S.length by have := HS.out; omega)
                  obtain ⟨X, hX⟩ : ∃ X : Lk, st S a = X := ⟨_, rfl⟩
                  have HX := Lib.hid hX
                  have HXM := Lib.hid (show X ∈ seen by rw [← hX]; exact HI.out.own a ha)
                  clear hX
                  have hge := lk_guard
                  by_cases v0 : dv = 0
                  · subst v0
                    by_cases t3 : dn < -1000
                    · skip
                      go_wp2_with (first
                        | (with_reducible refine wpList_load_mid rfl _ _ rfl _ _ rfl _ _ (range_below HRG.out HK.out.bel HC.out) Try.underlying37 rfl (d_info4 _ _ _ _) ?_)
                        | (with_reducible refine alloc_zero HK.out 4 d_zero rfl rfl ?_; intro bd u hnn hk hb; clear hnn; have hm := HM.out.below hb; clear hb; clear HM; have HM := Lib.hid hm; clear hm; clear HK; have HK := Lib.hid hk; clear hk)
                        | (with_reducible refine store_all HK.out 0 4 d_info rfl rfl _ _ rfl rfl rfl rfl rfl (zer_length 4) ?_; intro u hk hs; have hm := HM.out.store (HK.out.get 0 rfl) hs; clear hs; clear HM; have HM := Lib.hid hm; clear hm; simp only [List.set_cons_zero] at hk; clear hc0 hc1 hc2 hc3; obtain ⟨hc0, hc1, hc2, hc3⟩ := cells4 (hk.get 0 rfl); clear HK; have HK := Lib.hid hk; clear hk)
                        | (with_reducible refine load_lk HK.out 2 HX.out HLS.out rfl _ rfl rfl rfl ?_)
                        | (with_reducible refine alloc_zero HK.out 4 lk_zero rfl rfl ?_; intro bx u hnn hk hb; clear hnn; have hm := HM.out.below hb; clear hb; clear HM; have HM := Lib.hid hm; clear hm; clear hc0 hc1 hc2 hc3; obtain ⟨hc0, hc1, hc2, hc3⟩ := cells4 (hk.get 1 rfl); clear HK; have HK := Lib.hid hk; clear hk)
                        | (with_reducible refine store_all HK.out 0 4 lk_info rfl rfl _ _ rfl rfl rfl rfl (Lk.len _) (zer_length 4) ?_; intro u hk hs; have hm := HM.out.store (HK.out.get 0 rfl) hs; clear hs; clear HM; have HM := Lib.hid hm; clear hm; simp only [List.set_cons_zero] at hk; clear hc0 hc1 hc2 hc3; obtain ⟨hc0, hc1, hc2, hc3⟩ := cells4 (hk.get 1 rfl); clear HK; have HK := Lib.hid hk; clear hk)
                        | (with_reducible refine load_all HK.out 0 4 Try.underlying23 rfl lk_info rfl _ rfl rfl rfl (Lk.len _) ?_))
                      go_roundw
                      case rel => exact ⟨k + 1, by omega, by go_num, S, L, seen, HS.out, HI.out, HF0.out, HM.out.mono (by omega), HK.out.tail.tail⟩
                      case measure => simp [intOf]; omega
                    · by_cases t4 : 1000 < dn
                      · skip
                        go_wp2_with (first
                          | (with_reducible refine wpList_load_mid rfl _ _ rfl _ _ rfl _ _ (range_below HRG.out HK.out.bel HC.out) Try.underlying37 rfl (d_info4 _ _ _ _) ?_)
                          | (with_reducible refine alloc_zero HK.out 4 d_zero rfl rfl ?_; intro bd u hnn hk hb; clear hnn; have hm := HM.out.below hb; clear hb; clear HM; have HM := Lib.hid hm; clear hm; clear HK; have HK := Lib.hid hk; clear hk)
                          | (with_reducible refine store_all HK.out 0 4 d_info rfl rfl _ _ rfl rfl rfl rfl rfl (zer_length 4) ?_; intro u hk hs; have hm := HM.out.store (HK.out.get 0 rfl) hs; clear hs; clear HM; have HM := Lib.hid hm; clear hm; simp only [List.set_cons_zero] at hk; clear hc0 hc1 hc2 hc3; obtain ⟨hc0, hc1, hc2, hc3⟩ := cells4 (hk.get 0 rfl); clear HK; have HK := Lib.hid hk; clear hk)
                          | (with_reducible refine load_lk HK.out 2 HX.out HLS.out rfl _ rfl rfl rfl ?_)
                          | (with_reducible refine alloc_zero HK.out 4 lk_zero rfl rfl ?_; intro bx u hnn hk hb; clear hnn; have hm := HM.out.below hb; clear hb; clear HM; have HM := Lib.hid hm; clear hm; clear hc0 hc1 hc2 hc3; obtain ⟨hc0, hc1, hc2, hc3⟩ := cells4 (hk.get 1 rfl); clear HK; have HK := Lib.hid hk; clear hk)
                          | (with_reducible refine store_all HK.out 0 4 lk_info rfl rfl _ _ rfl rfl rfl rfl (Lk.len _) (zer_length 4) ?_; intro u hk hs; have hm := HM.out.store (HK.out.get 0 rfl) hs; clear hs; clear HM; have HM := Lib.hid hm; clear hm; simp only [List.set_cons_zero] at hk; clear hc0 hc1 hc2 hc3; obtain ⟨hc0, hc1, hc2, hc3⟩ := cells4 (hk.get 1 rfl); clear HK; have HK := Lib.hid hk; clear hk)
                          | (with_reducible refine load_all HK.out 0 4 Try.underlying23 rfl lk_info rfl _ rfl rfl rfl (Lk.len _) ?_))
                        go_roundw
                        case rel => exact ⟨k + 1, by omega, by go_num, S, L, seen, HS.out, HI.out, HF0.out, HM.out.mono (by omega), HK.out.tail.tail⟩
                        case measure => simp [intOf]; omega
                      · skip
                        have hcl := write_any X a dn
                        by_cases hE : wrE X a dn = 0
                        · rw [hE] at hcl
                          have hok := wr_ok hE (HM.out.ok HXM.out).1
                          rw [← HX.out] at hE
                          obtain ⟨e1, e2, e3, e4, e5⟩ := LI.writes HI.out ha hE
                          clear e1 e2
                          rw [HX.out] at e3 e4 e5
                          have HN := Lib.hid e5
                          have HKEY := Lib.hid e4
                          have HO1 := Lib.hid hok.1; have HO2 := Lib.hid hok.2
                          have hcmp := compare_any (wrA X a dn) L
                          rw [cmp_after e3] at hcmp
                          clear hE e3 e4 e5 hok
                          generalize wrA X a dn = G at hcl HN HKEY HO1 HO2 hcmp
                          have HONE := Lib.hid (fun y (hy : y ∈ seen) (e1 : y.s = G.s) (e2 : y.v = G.v) => (HKEY.out y hy e1 e2).elim (C := y = G))
                          go_wp2_with (first
                            | (with_reducible refine wpList_load_mid rfl _ _ rfl _ _ rfl _ _ (range_below HRG.out HK.out.bel HC.out) Try.underlying37 rfl (d_info4 _ _ _ _) ?_)
                            | (with_reducible refine alloc_zero HK.out 4 d_zero rfl rfl ?_; intro bd u hnn hk hb; clear hnn; have hm := HM.out.below hb; clear hb; clear HM; have HM := Lib.hid hm; clear hm; clear HK; have HK := Lib.hid hk; clear hk)
                            | (with_reducible refine store_all HK.out 0 4 d_info rfl rfl _ _ rfl rfl rfl rfl rfl (zer_length 4) ?_; intro u hk hs; have hm := HM.out.store (HK.out.get 0 rfl) hs; clear hs; clear HM; have HM := Lib.hid hm; clear hm; simp only [List.set_cons_zero] at hk; clear hc0 hc1 hc2 hc3; obtain ⟨hc0, hc1, hc2, hc3⟩ := cells4 (hk.get 0 rfl); clear HK; have HK := Lib.hid hk; clear hk)
                            | (with_reducible refine load_lk HK.out 2 HX.out HLS.out rfl _ rfl rfl rfl ?_)
                            | (with_reducible refine alloc_zero HK.out 4 lk_zero rfl rfl ?_; intro bx u hnn hk hb; clear hnn; have hm := HM.out.below hb; clear hb; clear HM; have HM := Lib.hid hm; clear hm; clear hc0 hc1 hc2 hc3; obtain ⟨hc0, hc1, hc2, hc3⟩ := cells4 (hk.get 1 rfl); clear HK; have HK := Lib.hid hk; clear hk)
                            | (with_reducible refine store_all HK.out 0 4 lk_info rfl rfl _ _ rfl rfl rfl rfl (Lk.len _) (zer_length 4) ?_; intro u hk hs; have hm := HM.out.store (HK.out.get 0 rfl) hs; clear hs; clear HM; have HM := Lib.hid hm; clear hm; simp only [List.set_cons_zero] at hk; clear hc0 hc1 hc2 hc3; obtain ⟨hc0, hc1, hc2, hc3⟩ := cells4 (hk.get 1 rfl); clear HK; have HK := Lib.hid hk; clear hk)
                            | (with_reducible refine load_all HK.out 0 4 Try.underlying23 rfl lk_info rfl _ rfl rfl rfl (Lk.len _) ?_)
                            | (go_at_call 15; (with_reducible refine (hcl _).mono ?_); rintro e u ⟨rfl, hb⟩; have hk := HK.out.call hb; have hm := HM.out.below hb; clear hb; clear HM; have HM := Lib.hid hm; clear hm; clear hc0 hc1 hc2 hc3; obtain ⟨hc0, hc1, hc2, hc3⟩ := cells4 (hk.get 1 rfl); clear HK; have HK := Lib.hid hk; clear hk)
                            | (with_reducible refine store_all HK.out 0 4 lk_info rfl rfl _ _ rfl rfl rfl rfl (Lk.len _) (Lk.len _) ?_; intro u hk hs; have hm := HM.out.store (HK.out.get 0 rfl) hs; clear hs; clear HM; have HM := Lib.hid hm; clear hm; simp only [List.set_cons_zero] at hk; clear hc0 hc1 hc2 hc3; obtain ⟨hc0, hc1, hc2, hc3⟩ := cells4 (hk.get 1 rfl); clear HK; have HK := Lib.hid hk; clear hk)
                            | (with_reducible refine map_miss HM.out HO1.out HO2.out HKEY.out rfl _ _ rfl rfl rfl ?_)
                            | (with_reducible refine store_part HK.out 3 4 lk_info rfl rfl _ _ rfl rfl rfl rfl (Lk.len _) HLS.out ?_; intro u hk hs; have hm := HM.out.store (HK.out.get 3 rfl) hs; clear hs; clear HM; have HM := Lib.hid hm; clear hm; simp only [List.set_cons_zero, List.set_cons_succ] at hk; clear HK; have HK := Lib.hid hk; clear hk)
                            | (with_reducible refine load_all HK.out 0 4 Try.underlying23 rfl lk_info rfl _ rfl rfl rfl (Lk.len _) ?_)
                            | (with_reducible refine load_val HK.out 0 rfl _ rfl rfl rfl (Lk.g0 _) (Lk.p0 _) ?_)
                            | (with_reducible refine load_val HK.out 0 rfl _ rfl rfl rfl (Lk.g1 _) (Lk.p1 _) ?_)
                            | (with_reducible refine build_key rfl _ _ rfl rfl rfl ?_)
                            | (with_reducible refine alloc_zero HK.out 4 lk_zero rfl rfl ?_; intro bw u hnn hk hb; clear hnn; have hm := HM.out.below hb; clear hb; clear HM; have HM := Lib.hid hm; clear hm; clear HK; have HK := Lib.hid hk; clear hk)
                            | (with_reducible refine store_all HK.out 0 4 lk_info rfl rfl _ _ rfl rfl rfl rfl (Lk.len _) (zer_length 4) ?_; intro u hk hs; have hm := HM.out.store (HK.out.get 0 rfl) hs; clear hs; clear HM; have HM := Lib.hid hm; clear hm; simp only [List.set_cons_zero, List.set_cons_succ] at hk; clear HK; have HK := Lib.hid hk; clear hk)
                            | (refine load_all_want HK.out 0 4 Try.underlying23 rfl lk_info _ rfl rfl rfl rfl (Lk.len _) ?_)
                            | (refine load_all_want HK.out 1 4 Try.underlying23 rfl lk_info _ rfl rfl rfl rfl (Lk.len _) ?_)
                            | (with_reducible refine load_val HK.out 1 rfl _ rfl rfl rfl (Lk.g0 _) (Lk.p0 _) ?_)
                            | (with_reducible refine load_val HK.out 1 rfl _ rfl rfl rfl (Lk.g1 _) (Lk.p1 _) ?_)
                            | (with_reducible refine load_all HK.out 1 4 Try.underlying23 rfl lk_info rfl _ rfl rfl rfl (Lk.len _) ?_)
                            | (with_reducible refine map_put HK.out HM.out HW.out (by omega) HO1.out HO2.out HONE.out rfl _ _ _ rfl rfl rfl rfl rfl ?_; intro u hk hm; clear HM; have HM := Lib.hid hm; clear hm; clear HK; have HK := Lib.hid hk; clear hk)
                            | (refine load_all_want HK.out 3 4 Try.underlying23 rfl lk_info _ rfl rfl rfl rfl (Lk.len _) ?_)
                            | (go_at_call 10; (with_reducible refine (hcmp _).mono ?_); rintro e u ⟨rfl, hb⟩; have hk := HK.out.call hb; have hm := HM.out.below hb; clear hb; clear HM; have HM := Lib.hid hm; clear hm; clear HK; have HK := Lib.hid hk; clear hk)
                            | (with_reducible refine store_all HK.out 3 4 lk_info rfl rfl _ _ rfl rfl rfl rfl (Lk.len _) (Lk.len _) ?_; intro u hk hs; have hm := HM.out.store (HK.out.get 3 rfl) hs; clear hs; clear HM; have HM := Lib.hid hm; clear hm; simp only [List.set_cons_zero, List.set_cons_succ] at hk; clear HK; have HK := Lib.hid hk; clear hk))
                          go_roundw
                          case rel => exact ⟨k + 1, by omega, by go_num, _, G, _, (by rw [splice_length]; exact HS.out), (by rw [st_upd HLS.out]; exact HN.out), (List.mem_cons_of_mem _ HF0.out), HM.out, HK.out.tail.tail.tail⟩
                          case measure => simp [intOf]; omega
                        · generalize wrA X a dn = G at hcl
                          generalize wrE X a dn = ee at hE hcl
                          go_wp2_with (first
                            | (with_reducible refine wpList_load_mid rfl _ _ rfl _ _ rfl _ _ (range_below HRG.out HK.out.bel HC.out) Try.underlying37 rfl (d_info4 _ _ _ _) ?_)
                            | (with_reducible refine alloc_zero HK.out 4 d_zero rfl rfl ?_; intro bd u hnn hk hb; clear hnn; have hm := HM.out.below hb; clear hb; clear HM; have HM := Lib.hid hm; clear hm; clear HK; have HK := Lib.hid hk; clear hk)
                            | (with_reducible refine store_all HK.out 0 4 d_info rfl rfl _ _ rfl rfl rfl rfl rfl (zer_length 4) ?_; intro u hk hs; have hm := HM.out.store (HK.out.get 0 rfl) hs; clear hs; clear HM; have HM := Lib.hid hm; clear hm; simp only [List.set_cons_zero] at hk; clear hc0 hc1 hc2 hc3; obtain ⟨hc0, hc1, hc2, hc3⟩ := cells4 (hk.get 0 rfl); clear HK; have HK := Lib.hid hk; clear hk)
                            | (with_reducible refine load_lk HK.out 2 HX.out HLS.out rfl _ rfl rfl rfl ?_)
                            | (with_reducible refine alloc_zero HK.out 4 lk_zero rfl rfl ?_; intro bx u hnn hk hb; clear hnn; have hm := HM.out.below hb; clear hb; clear HM; have HM := Lib.hid hm; clear hm; clear hc0 hc1 hc2 hc3; obtain ⟨hc0, hc1, hc2, hc3⟩ := cells4 (hk.get 1 rfl); clear HK; have HK := Lib.hid hk; clear hk)
                            | (with_reducible refine store_all HK.out 0 4 lk_info rfl rfl _ _ rfl rfl rfl rfl (Lk.len _) (zer_length 4) ?_; intro u hk hs; have hm := HM.out.store (HK.out.get 0 rfl) hs; clear hs; clear HM; have HM := Lib.hid hm; clear hm; simp only [List.set_cons_zero] at hk; clear hc0 hc1 hc2 hc3; obtain ⟨hc0, hc1, hc2, hc3⟩ := cells4 (hk.get 1 rfl); clear HK; have HK := Lib.hid hk; clear hk)
                            | (with_reducible refine load_all HK.out 0 4 Try.underlying23 rfl lk_info rfl _ rfl rfl rfl (Lk.len _) ?_)
                            | (go_at_call 15; (with_reducible refine (hcl _).mono ?_); rintro e u ⟨rfl, hb⟩; have hk := HK.out.call hb; have hm := HM.out.below hb; clear hb; clear HM; have HM := Lib.hid hm; clear hm; clear hc0 hc1 hc2 hc3; obtain ⟨hc0, hc1, hc2, hc3⟩ := cells4 (hk.get 1 rfl); clear HK; have HK := Lib.hid hk; clear hk)
                            | (with_reducible refine store_all HK.out 0 4 lk_info rfl rfl _ _ rfl rfl rfl rfl (Lk.len _) (Lk.len _) ?_; intro u hk hs; have hm := HM.out.store (HK.out.get 0 rfl) hs; clear hs; clear HM; have HM := Lib.hid hm; clear hm; simp only [List.set_cons_zero] at hk; clear hc0 hc1 hc2 hc3; obtain ⟨hc0, hc1, hc2, hc3⟩ := cells4 (hk.get 1 rfl); clear HK; have HK := Lib.hid hk; clear hk))
                          go_roundw
                          case rel => exact ⟨k + 1, by omega, by go_num, S, L, seen, HS.out, HI.out, HF0.out, HM.out.mono (by omega), HK.out.tail.tail⟩
                          case measure => simp [intOf]; omega
                  · by_cases v1 : dv = 1
                    · subst v1
                      have hcl := pass_any X a dn
                      by_cases hE : psE X a dn = 0
                      · rw [hE] at hcl
                        have hok := ps_ok hE
                        rw [← HX.out] at hE
                        obtain ⟨e1, e2, e3, e4, e5⟩ := LI.passes HI.out ha hE
                        clear e1 e2
                        rw [HX.out] at e3 e4 e5
                        have HN := Lib.hid e5
                        have HKEY := Lib.hid e4
                        have HO1 := Lib.hid hok.1; have HO2 := Lib.hid hok.2
                        have hcmp := compare_any (psA X a dn) L
                        rw [cmp_after e3] at hcmp
                        clear hE e3 e4 e5 hok
                        generalize psA X a dn = G at hcl HN HKEY HO1 HO2 hcmp
                        have HONE := Lib.hid (fun y (hy : y ∈ seen) (e1 : y.s = G.s) (e2 : y.v = G.v) => (HKEY.out y hy e1 e2).elim (C := y = G))
                        go_wp2_with (first
                          | (with_reducible refine wpList_load_mid rfl _ _ rfl _ _ rfl _ _ (range_below HRG.out HK.out.bel HC.out) Try.underlying37 rfl (d_info4 _ _ _ _) ?_)
                          | (with_reducible refine alloc_zero HK.out 4 d_zero rfl rfl ?_; intro bd u hnn hk hb; clear hnn; have hm := HM.out.below hb; clear hb; clear HM; have HM := Lib.hid hm; clear hm; clear HK; have HK := Lib.hid hk; clear hk)
                          | (with_reducible refine store_all HK.out 0 4 d_info rfl rfl _ _ rfl rfl rfl rfl rfl (zer_length 4) ?_; intro u hk hs; have hm := HM.out.store (HK.out.get 0 rfl) hs; clear hs; clear HM; have HM := Lib.hid hm; clear hm; simp only [List.set_cons_zero] at hk; clear hc0 hc1 hc2 hc3; obtain ⟨hc0, hc1, hc2, hc3⟩ := cells4 (hk.get 0 rfl); clear HK; have HK := Lib.hid hk; clear hk)
                          | (with_reducible refine load_lk HK.out 2 HX.out HLS.out rfl _ rfl rfl rfl ?_)
                          | (with_reducible refine alloc_zero HK.out 4 lk_zero rfl rfl ?_; intro bx u hnn hk hb; clear hnn; have hm := HM.out.below hb; clear hb; clear HM; have HM := Lib.hid hm; clear hm; clear hc0 hc1 hc2 hc3; obtain ⟨hc0, hc1, hc2, hc3⟩ := cells4 (hk.get 1 rfl); clear HK; have HK := Lib.hid hk; clear hk)
                          | (with_reducible refine store_all HK.out 0 4 lk_info rfl rfl _ _ rfl rfl rfl rfl (Lk.len _) (zer_length 4) ?_; intro u hk hs; have hm := HM.out.store (HK.out.get 0 rfl) hs; clear hs; clear HM; have HM := Lib.hid hm; clear hm; simp only [List.set_cons_zero] at hk; clear hc0 hc1 hc2 hc3; obtain ⟨hc0, hc1, hc2, hc3⟩ := cells4 (hk.get 1 rfl); clear HK; have HK := Lib.hid hk; clear hk)
                          | (with_reducible refine load_all HK.out 0 4 Try.underlying23 rfl lk_info rfl _ rfl rfl rfl (Lk.len _) ?_)
                          | (go_at_call 16; (with_reducible refine (hcl _).mono ?_); rintro e u ⟨rfl, hb⟩; have hk := HK.out.call hb; have hm := HM.out.below hb; clear hb; clear HM; have HM := Lib.hid hm; clear hm; clear hc0 hc1 hc2 hc3; obtain ⟨hc0, hc1, hc2, hc3⟩ := cells4 (hk.get 1 rfl); clear HK; have HK := Lib.hid hk; clear hk)
                          | (with_reducible refine store_all HK.out 0 4 lk_info rfl rfl _ _ rfl rfl rfl rfl (Lk.len _) (Lk.len _) ?_; intro u hk hs; have hm := HM.out.store (HK.out.get 0 rfl) hs; clear hs; clear HM; have HM := Lib.hid hm; clear hm; simp only [List.set_cons_zero] at hk; clear hc0 hc1 hc2 hc3; obtain ⟨hc0, hc1, hc2, hc3⟩ := cells4 (hk.get 1 rfl); clear HK; have HK := Lib.hid hk; clear hk)
                          | (with_reducible refine map_miss HM.out HO1.out HO2.out HKEY.out rfl _ _ rfl rfl rfl ?_)
                          | (with_reducible refine store_part HK.out 3 4 lk_info rfl rfl _ _ rfl rfl rfl rfl (Lk.len _) HLS.out ?_; intro u hk hs; have hm := HM.out.store (HK.out.get 3 rfl) hs; clear hs; clear HM; have HM := Lib.hid hm; clear hm; simp only [List.set_cons_zero, List.set_cons_succ] at hk; clear HK; have HK := Lib.hid hk; clear hk)
                          | (with_reducible refine load_all HK.out 0 4 Try.underlying23 rfl lk_info rfl _ rfl rfl rfl (Lk.len _) ?_)
                          | (with_reducible refine load_val HK.out 0 rfl _ rfl rfl rfl (Lk.g0 _) (Lk.p0 _) ?_)
                          | (with_reducible refine load_val HK.out 0 rfl _ rfl rfl rfl (Lk.g1 _) (Lk.p1 _) ?_)
                          | (with_reducible refine build_key rfl _ _ rfl rfl rfl ?_)
                          | (with_reducible refine alloc_zero HK.out 4 lk_zero rfl rfl ?_; intro bw u hnn hk hb; clear hnn; have hm := HM.out.below hb; clear hb; clear HM; have HM := Lib.hid hm; clear hm; clear HK; have HK := Lib.hid hk; clear hk)
                          | (with_reducible refine store_all HK.out 0 4 lk_info rfl rfl _ _ rfl rfl rfl rfl (Lk.len _) (zer_length 4) ?_; intro u hk hs; have hm := HM.out.store (HK.out.get 0 rfl) hs; clear hs; clear HM; have HM := Lib.hid hm; clear hm; simp only [List.set_cons_zero, List.set_cons_succ] at hk; clear HK; have HK := Lib.hid hk; clear hk)
                          | (refine load_all_want HK.out 0 4 Try.underlying23 rfl lk_info _ rfl rfl rfl rfl (Lk.len _) ?_)
                          | (refine load_all_want HK.out 1 4 Try.underlying23 rfl lk_info _ rfl rfl rfl rfl (Lk.len _) ?_)
                          | (with_reducible refine load_val HK.out 1 rfl _ rfl rfl rfl (Lk.g0 _) (Lk.p0 _) ?_)
                          | (with_reducible refine load_val HK.out 1 rfl _ rfl rfl rfl (Lk.g1 _) (Lk.p1 _) ?_)
                          | (with_reducible refine load_all HK.out 1 4 Try.underlying23 rfl lk_info rfl _ rfl rfl rfl (Lk.len _) ?_)
                          | (with_reducible refine map_put HK.out HM.out HW.out (by omega) HO1.out HO2.out HONE.out rfl _ _ _ rfl rfl rfl rfl rfl ?_; intro u hk hm; clear HM; have HM := Lib.hid hm; clear hm; clear HK; have HK := Lib.hid hk; clear hk)
                          | (refine load_all_want HK.out 3 4 Try.underlying23 rfl lk_info _ rfl rfl rfl rfl (Lk.len _) ?_)
                          | (go_at_call 10; (with_reducible refine (hcmp _).mono ?_); rintro e u ⟨rfl, hb⟩; have hk := HK.out.call hb; have hm := HM.out.below hb; clear hb; clear HM; have HM := Lib.hid hm; clear hm; clear HK; have HK := Lib.hid hk; clear hk)
                          | (with_reducible refine store_all HK.out 3 4 lk_info rfl rfl _ _ rfl rfl rfl rfl (Lk.len _) (Lk.len _) ?_; intro u hk hs; have hm := HM.out.store (HK.out.get 3 rfl) hs; clear hs; clear HM; have HM := Lib.hid hm; clear hm; simp only [List.set_cons_zero, List.set_cons_succ] at hk; clear HK; have HK := Lib.hid hk; clear hk))
                        go_roundw
                        case rel => exact ⟨k + 1, by omega, by go_num, _, G, _, (by rw [splice_length]; exact HS.out), (by rw [st_upd HLS.out]; exact HN.out), (List.mem_cons_of_mem _ HF0.out), HM.out, HK.out.tail.tail.tail⟩
                        case measure => simp [intOf]; omega
                      · generalize psA X a dn = G at hcl
                        generalize psE X a dn = ee at hE hcl
                        go_wp2_with (first
                          | (with_reducible refine wpList_load_mid rfl _ _ rfl _ _ rfl _ _ (range_below HRG.out HK.out.bel HC.out) Try.underlying37 rfl (d_info4 _ _ _ _) ?_)
                          | (with_reducible refine alloc_zero HK.out 4 d_zero rfl rfl ?_; intro bd u hnn hk hb; clear hnn; have hm := HM.out.below hb; clear hb; clear HM; have HM := Lib.hid hm; clear hm; clear HK; have HK := Lib.hid hk; clear hk)
                          | (with_reducible refine store_all HK.out 0 4 d_info rfl rfl _ _ rfl rfl rfl rfl rfl (zer_length 4) ?_; intro u hk hs; have hm := HM.out.store (HK.out.get 0 rfl) hs; clear hs; clear HM; have HM := Lib.hid hm; clear hm; simp only [List.set_cons_zero] at hk; clear hc0 hc1 hc2 hc3; obtain ⟨hc0, hc1, hc2, hc3⟩ := cells4 (hk.get 0 rfl); clear HK; have HK := Lib.hid hk; clear hk)
                          | (with_reducible refine load_lk HK.out 2 HX.out HLS.out rfl _ rfl rfl rfl ?_)
                          | (with_reducible refine alloc_zero HK.out 4 lk_zero rfl rfl ?_; intro bx u hnn hk hb; clear hnn; have hm := HM.out.below hb; clear hb; clear HM; have HM := Lib.hid hm; clear hm; clear hc0 hc1 hc2 hc3; obtain ⟨hc0, hc1, hc2, hc3⟩ := cells4 (hk.get 1 rfl); clear HK; have HK := Lib.hid hk; clear hk)
                          | (with_reducible refine store_all HK.out 0 4 lk_info rfl rfl _ _ rfl rfl rfl rfl (Lk.len _) (zer_length 4) ?_; intro u hk hs; have hm := HM.out.store (HK.out.get 0 rfl) hs; clear hs; clear HM; have HM := Lib.hid hm; clear hm; simp only [List.set_cons_zero] at hk; clear hc0 hc1 hc2 hc3; obtain ⟨hc0, hc1, hc2, hc3⟩ := cells4 (hk.get 1 rfl); clear HK; have HK := Lib.hid hk; clear hk)
                          | (with_reducible refine load_all HK.out 0 4 Try.underlying23 rfl lk_info rfl _ rfl rfl rfl (Lk.len _) ?_)
                          | (go_at_call 16; (with_reducible refine (hcl _).mono ?_); rintro e u ⟨rfl, hb⟩; have hk := HK.out.call hb; have hm := HM.out.below hb; clear hb; clear HM; have HM := Lib.hid hm; clear hm; clear hc0 hc1 hc2 hc3; obtain ⟨hc0, hc1, hc2, hc3⟩ := cells4 (hk.get 1 rfl); clear HK; have HK := Lib.hid hk; clear hk)
                          | (with_reducible refine store_all HK.out 0 4 lk_info rfl rfl _ _ rfl rfl rfl rfl (Lk.len _) (Lk.len _) ?_; intro u hk hs; have hm := HM.out.store (HK.out.get 0 rfl) hs; clear hs; clear HM; have HM := Lib.hid hm; clear hm; simp only [List.set_cons_zero] at hk; clear hc0 hc1 hc2 hc3; obtain ⟨hc0, hc1, hc2, hc3⟩ := cells4 (hk.get 1 rfl); clear HK; have HK := Lib.hid hk; clear hk))
                        go_roundw
                        case rel => exact ⟨k + 1, by omega, by go_num, S, L, seen, HS.out, HI.out, HF0.out, HM.out.mono (by omega), HK.out.tail.tail⟩
                        case measure => simp [intOf]; omega
                    · by_cases v2 : dv = 2
                      · subst v2
                        by_cases kk : 0 ≤ dk ∧ dk ≤ 15
                        · obtain ⟨k0, k1⟩ := kk
                          obtain ⟨bb, rfl⟩ : ∃ bb : Nat, dk = bb := ⟨dk.toNat, by omega⟩
                          have hbb : bb < 16 := by omega
                          have bb1 : (bb : Int) < 16 := by omega
                          have HLB := Lib.hid (show bb * 4 + 4 ≤ S.length by have := HS.out; omega)
                          obtain ⟨hg, hN⟩ := HI.out.hears ha hbb
                          rw [HX.out] at hg hN
                          have hcl := join_any X (st S bb)
                          obtain ⟨Y, hY⟩ : ∃ Y : Lk, st S bb = Y := ⟨_, rfl⟩
                          rw [hY] at hg hN hcl
                          have HY := Lib.hid hY; have HN := Lib.hid hN; have HG := Lib.hid hg
                          clear hY hN hg
                          generalize joinK X Y = G at hcl HN HG
                          have HO1 := Lib.hid (HM.out.ok HG.out).1
                          have HO2 := Lib.hid (HM.out.ok HG.out).2
                          have HONE := Lib.hid (fun y (hy : y ∈ seen) (e1 : y.s = G.s) (e2 : y.v = G.v) => HI.out.key y hy G HG.out e1 e2)
                          have q := eql_lk G G
                          rw [Lk.same] at q
                          go_wp2_with (first
                            | (with_reducible refine wpList_load_mid rfl _ _ rfl _ _ rfl _ _ (range_below HRG.out HK.out.bel HC.out) Try.underlying37 rfl (d_info4 _ _ _ _) ?_)
                            | (with_reducible refine alloc_zero HK.out 4 d_zero rfl rfl ?_; intro bd u hnn hk hb; clear hnn; have hm := HM.out.below hb; clear hb; clear HM; have HM := Lib.hid hm; clear hm; clear HK; have HK := Lib.hid hk; clear hk)
                            | (with_reducible refine store_all HK.out 0 4 d_info rfl rfl _ _ rfl rfl rfl rfl rfl (zer_length 4) ?_; intro u hk hs; have hm := HM.out.store (HK.out.get 0 rfl) hs; clear hs; clear HM; have HM := Lib.hid hm; clear hm; simp only [List.set_cons_zero] at hk; clear hc0 hc1 hc2 hc3; obtain ⟨hc0, hc1, hc2, hc3⟩ := cells4 (hk.get 0 rfl); clear HK; have HK := Lib.hid hk; clear hk)
                            | (with_reducible refine load_lk HK.out 2 HX.out HLS.out rfl _ rfl rfl rfl ?_)
                            | (with_reducible refine alloc_zero HK.out 4 lk_zero rfl rfl ?_; intro bx u hnn hk hb; clear hnn; have hm := HM.out.below hb; clear hb; clear HM; have HM := Lib.hid hm; clear hm; clear hc0 hc1 hc2 hc3; obtain ⟨hc0, hc1, hc2, hc3⟩ := cells4 (hk.get 1 rfl); clear HK; have HK := Lib.hid hk; clear hk)
                            | (with_reducible refine store_all HK.out 0 4 lk_info rfl rfl _ _ rfl rfl rfl rfl (Lk.len _) (zer_length 4) ?_; intro u hk hs; have hm := HM.out.store (HK.out.get 0 rfl) hs; clear hs; clear HM; have HM := Lib.hid hm; clear hm; simp only [List.set_cons_zero] at hk; clear hc0 hc1 hc2 hc3; obtain ⟨hc0, hc1, hc2, hc3⟩ := cells4 (hk.get 1 rfl); clear HK; have HK := Lib.hid hk; clear hk)
                            | (with_reducible refine load_all HK.out 0 4 Try.underlying23 rfl lk_info rfl _ rfl rfl rfl (Lk.len _) ?_))
                          refine Draws.start (S := fun u => KeepR w [(bx, 23, X.l), (bd, 37, [2, (a : Int), (bb : Int), dn]), (bl, 23, L.l), (bs, 33, S), (bf, 23, X0.l)] u ∧ MapAt u bm (k + 1) seen) (n := 6) 7 rfl (by kernel_rfl) ?_
                          have HSS := Lib.hid ((⟨HK.out.drew, HM.out.drew⟩ : (fun u => KeepR w [(bx, 23, X.l), (bd, 37, [2, (a : Int), (bb : Int), dn]), (bl, 23, L.l), (bs, 33, S), (bf, 23, X0.l)] u ∧ MapAt u bm (k + 1) seen) _))
                          refine Draws.take 0 HSS.out rfl (by kernel_rfl) (fun _ _ _ h => h) (yield_all (fun _ h => h.1) 0 4 Try.underlying23 rfl lk_info rfl _ rfl rfl rfl (Lk.len _)) ?_
                          (try simp only [Act.put, List.setIfInBounds_toArray, List.set_cons_zero, List.set_cons_succ])
                          refine Draws.take 1 (v := ?v1) HSS.out rfl (by kernel_rfl) (fun _ _ _ h => h) (Or.inl ⟨rfl, ?h1⟩) ?r1
                          case h1 => intro w' hw'; go_simp; (try with_reducible rfl)
                          (try simp only [Act.put, List.setIfInBounds_toArray, List.set_cons_zero, List.set_cons_succ])
                          refine Draws.take 2 (v := ?v2) HSS.out rfl (by kernel_rfl) (fun _ _ _ h => h) (Or.inl ⟨rfl, ?h2⟩) ?r2
                          case h2 => intro w' hw'; have hc := (cells4 (hw'.1.get 1 rfl)).2.2.1; go_simp; (try with_reducible rfl)
                          (try simp only [Act.put, List.setIfInBounds_toArray, List.set_cons_zero, List.set_cons_succ])
                          refine Draws.take 3 (v := ?v3) HSS.out rfl (by kernel_rfl) (fun _ _ _ h => h) (Or.inl ⟨rfl, ?h3⟩) ?r3
                          case h3 => intro w' hw'; go_simp; (try with_reducible rfl)
                          (try simp only [Act.put, List.setIfInBounds_toArray, List.set_cons_zero, List.set_cons_succ])
                          refine Draws.take 4 HSS.out rfl (by kernel_rfl) (fun _ _ _ h => h) (yield_lk (fun _ h => h.1) 3 HY.out HLB.out rfl _ rfl rfl rfl) ?_
                          (try simp only [Act.put, List.setIfInBounds_toArray, List.set_cons_zero, List.set_cons_succ])
                          refine Draws.does 5 rfl (by kernel_rfl) rfl (fun K hK => ?_)
                          go_simp
                          go_at_call 9
                          refine (hcl _).mono ?_
                          rintro e u ⟨rfl, hb⟩
                          (try dsimp only)
                          refine hK.out _ _ (fun _ => ⟨HSS.out.1.call hb, HSS.out.2.below hb⟩) ?_
                          clear hK K
                          have hs : (fun u => KeepR w [(bx, 23, X.l), (bd, 37, [2, (a : Int), (bb : Int), dn]), (bl, 23, L.l), (bs, 33, S), (bf, 23, X0.l)] u ∧ MapAt u bm (k + 1) seen) u := ⟨HSS.out.1.call hb, HSS.out.2.below hb⟩
                          clear HSS
                          have HSS := Lib.hid hs; clear hs
                          (try simp only [Act.put, List.setIfInBounds_toArray, List.set_cons_zero, List.set_cons_succ])
                          clear hb
                          refine Draws.does 6 rfl (by kernel_rfl) rfl (fun K hK => ?_)
                          refine wp_store_else HSS.out.1 0 4 lk_info rfl _ _ rfl rfl rfl rfl (Lk.len _) (by rw [Lk.len]; omega) ?_
                          intro u hk hs
                          have hm := HSS.out.2.store (HSS.out.1.get 0 rfl) hs
                          rw [splice_all (by rw [Lk.len, Lk.len])] at hk
                          simp only [List.set_cons_zero] at hk
                          refine hK.out _ _ (fun h => absurd h (by omega)) ?_
                          clear hK K HSS HK HM hs
                          clear hc0 hc1 hc2 hc3
                          obtain ⟨hc0, hc1, hc2, hc3⟩ := cells4 (hk.get 1 rfl)
                          have HK := Lib.hid hk; have HM := Lib.hid hm; clear hk hm
                          refine Draws.done (by kernel_rfl) ?_
                          go_wp2_with (first
                            | (with_reducible refine map_hit HM.out HG.out rfl _ _ rfl rfl rfl ?_)
                            | (with_reducible refine store_part HK.out 3 4 lk_info rfl rfl _ _ rfl rfl rfl rfl (Lk.len _) HLS.out ?_; intro u hk hs; have hm := HM.out.store (HK.out.get 3 rfl) hs; clear hs; clear HM; have HM := Lib.hid hm; clear hm; simp only [List.set_cons_zero, List.set_cons_succ] at hk; clear HK; have HK := Lib.hid hk; clear hk)
                            | (with_reducible refine load_all HK.out 0 4 Try.underlying23 rfl lk_info rfl _ rfl rfl rfl (Lk.len _) ?_)
                            | (with_reducible refine load_val HK.out 0 rfl _ rfl rfl rfl (Lk.g0 _) (Lk.p0 _) ?_)
                            | (with_reducible refine load_val HK.out 0 rfl _ rfl rfl rfl (Lk.g1 _) (Lk.p1 _) ?_)
                            | (with_reducible refine build_key rfl _ _ rfl rfl rfl ?_)
                            | (with_reducible refine alloc_zero HK.out 4 lk_zero rfl rfl ?_; intro bw u hnn hk hb; clear hnn; have hm := HM.out.below hb; clear hb; clear HM; have HM := Lib.hid hm; clear hm; clear HK; have HK := Lib.hid hk; clear hk)
                            | (with_reducible refine store_all HK.out 0 4 lk_info rfl rfl _ _ rfl rfl rfl rfl (Lk.len _) (zer_length 4) ?_; intro u hk hs; have hm := HM.out.store (HK.out.get 0 rfl) hs; clear hs; clear HM; have HM := Lib.hid hm; clear hm; simp only [List.set_cons_zero] at hk; clear HK; have HK := Lib.hid hk; clear hk)
                            | (refine load_all_want HK.out 0 4 Try.underlying23 rfl lk_info _ rfl rfl rfl rfl (Lk.len _) ?_)
                            | (refine load_all_want HK.out 1 4 Try.underlying23 rfl lk_info _ rfl rfl rfl rfl (Lk.len _) ?_)
                            | (with_reducible refine load_val HK.out 1 rfl _ rfl rfl rfl (Lk.g0 _) (Lk.p0 _) ?_)
                            | (with_reducible refine load_val HK.out 1 rfl _ rfl rfl rfl (Lk.g1 _) (Lk.p1 _) ?_)
                            | (with_reducible refine load_all HK.out 1 4 Try.underlying23 rfl lk_info rfl _ rfl rfl rfl (Lk.len _) ?_)
                            | (with_reducible refine map_put HK.out HM.out HW.out (by omega) HO1.out HO2.out HONE.out rfl _ _ _ rfl rfl rfl rfl rfl ?_; intro u hk hm; clear HM; have HM := Lib.hid hm; clear hm; clear HK; have HK := Lib.hid hk; clear hk))
                          go_roundw
                          case rel => exact ⟨k + 1, by omega, by go_num, _, L, seen, (by rw [splice_length]; exact HS.out), (by rw [st_upd HLS.out]; exact HN.out), HF0.out, HM.out.again HG.out, HK.out.tail.tail.tail⟩
                          case measure => simp [intOf]; omega
                        · by_cases k0 : 0 ≤ dk
                          · have k1 : ¬ dk ≤ 15 := fun h => kk ⟨k0, h⟩
                            clear kk
                            have HG := Lib.hid HXM.out
                            have HO1 := Lib.hid (HM.out.ok HG.out).1
                            have HO2 := Lib.hid (HM.out.ok HG.out).2
                            have HONE := Lib.hid (fun y (hy : y ∈ seen) (e1 : y.s = X.s) (e2 : y.v = X.v) => HI.out.key y hy X HG.out e1 e2)
                            have q := eql_lk X X
                            rw [Lk.same] at q
                            go_wp2_with (first
                              | (with_reducible refine wpList_load_mid rfl _ _ rfl _ _ rfl _ _ (range_below HRG.out HK.out.bel HC.out) Try.underlying37 rfl (d_info4 _ _ _ _) ?_)
                              | (with_reducible refine alloc_zero HK.out 4 d_zero rfl rfl ?_; intro bd u hnn hk hb; clear hnn; have hm := HM.out.below hb; clear hb; clear HM; have HM := Lib.hid hm; clear hm; clear HK; have HK := Lib.hid hk; clear hk)
                              | (with_reducible refine store_all HK.out 0 4 d_info rfl rfl _ _ rfl rfl rfl rfl rfl (zer_length 4) ?_; intro u hk hs; have hm := HM.out.store (HK.out.get 0 rfl) hs; clear hs; clear HM; have HM := Lib.hid hm; clear hm; simp only [List.set_cons_zero] at hk; clear hc0 hc1 hc2 hc3; obtain ⟨hc0, hc1, hc2, hc3⟩ := cells4 (hk.get 0 rfl); clear HK; have HK := Lib.hid hk; clear hk)
                              | (with_reducible refine load_lk HK.out 2 HX.out HLS.out rfl _ rfl rfl rfl ?_)
                              | (with_reducible refine alloc_zero HK.out 4 lk_zero rfl rfl ?_; intro bx u hnn hk hb; clear hnn; have hm := HM.out.below hb; clear hb; clear HM; have HM := Lib.hid hm; clear hm; clear hc0 hc1 hc2 hc3; obtain ⟨hc0, hc1, hc2, hc3⟩ := cells4 (hk.get 1 rfl); clear HK; have HK := Lib.hid hk; clear hk)
                              | (with_reducible refine store_all HK.out 0 4 lk_info rfl rfl _ _ rfl rfl rfl rfl (Lk.len _) (zer_length 4) ?_; intro u hk hs; have hm := HM.out.store (HK.out.get 0 rfl) hs; clear hs; clear HM; have HM := Lib.hid hm; clear hm; simp only [List.set_cons_zero] at hk; clear hc0 hc1 hc2 hc3; obtain ⟨hc0, hc1, hc2, hc3⟩ := cells4 (hk.get 1 rfl); clear HK; have HK := Lib.hid hk; clear hk)
                              | (with_reducible refine load_all HK.out 0 4 Try.underlying23 rfl lk_info rfl _ rfl rfl rfl (Lk.len _) ?_)
                              | (with_reducible refine map_hit HM.out HG.out rfl _ _ rfl rfl rfl ?_)
                              | (with_reducible refine store_part HK.out 3 4 lk_info rfl rfl _ _ rfl rfl rfl rfl (Lk.len _) HLS.out ?_; intro u hk hs; have hm := HM.out.store (HK.out.get 3 rfl) hs; clear hs; clear HM; have HM := Lib.hid hm; clear hm; simp only [List.set_cons_zero, List.set_cons_succ] at hk; clear HK; have HK := Lib.hid hk; clear hk)
                              | (with_reducible refine load_all HK.out 0 4 Try.underlying23 rfl lk_info rfl _ rfl rfl rfl (Lk.len _) ?_)
                              | (with_reducible refine load_val HK.out 0 rfl _ rfl rfl rfl (Lk.g0 _) (Lk.p0 _) ?_)
                              | (with_reducible refine load_val HK.out 0 rfl _ rfl rfl rfl (Lk.g1 _) (Lk.p1 _) ?_)
                              | (with_reducible refine build_key rfl _ _ rfl rfl rfl ?_)
                              | (with_reducible refine alloc_zero HK.out 4 lk_zero rfl rfl ?_; intro bw u hnn hk hb; clear hnn; have hm := HM.out.below hb; clear hb; clear HM; have HM := Lib.hid hm; clear hm; clear HK; have HK := Lib.hid hk; clear hk)
                              | (with_reducible refine store_all HK.out 0 4 lk_info rfl rfl _ _ rfl rfl rfl rfl (Lk.len _) (zer_length 4) ?_; intro u hk hs; have hm := HM.out.store (HK.out.get 0 rfl) hs; clear hs; clear HM; have HM := Lib.hid hm; clear hm; simp only [List.set_cons_zero, List.set_cons_succ] at hk; clear HK; have HK := Lib.hid hk; clear hk)
                              | (refine load_all_want HK.out 0 4 Try.underlying23 rfl lk_info _ rfl rfl rfl rfl (Lk.len _) ?_)
                              | (refine load_all_want HK.out 1 4 Try.underlying23 rfl lk_info _ rfl rfl rfl rfl (Lk.len _) ?_)
                              | (with_reducible refine load_val HK.out 1 rfl _ rfl rfl rfl (Lk.g0 _) (Lk.p0 _) ?_)
                              | (with_reducible refine load_val HK.out 1 rfl _ rfl rfl rfl (Lk.g1 _) (Lk.p1 _) ?_)
                              | (with_reducible refine load_all HK.out 1 4 Try.underlying23 rfl lk_info rfl _ rfl rfl rfl (Lk.len _) ?_)
                              | (with_reducible refine map_put HK.out HM.out HW.out (by omega) HO1.out HO2.out HONE.out rfl _ _ _ rfl rfl rfl rfl rfl ?_; intro u hk hm; clear HM; have HM := Lib.hid hm; clear hm; clear HK; have HK := Lib.hid hk; clear hk))
                            go_roundw
                            case rel => exact ⟨k + 1, by omega, by go_num, _, L, seen, (by rw [splice_length]; exact HS.out), (by rw [st_upd HLS.out, ← HX.out, upd_same]; exact HI.out), HF0.out, HM.out.again HG.out, HK.out.tail.tail.tail⟩
                            case measure => simp [intOf]; omega
                          · clear kk
                            have HG := Lib.hid HXM.out
                            have HO1 := Lib.hid (HM.out.ok HG.out).1
                            have HO2 := Lib.hid (HM.out.ok HG.out).2
                            have HONE := Lib.hid (fun y (hy : y ∈ seen) (e1 : y.s = X.s) (e2 : y.v = X.v) => HI.out.key y hy X HG.out e1 e2)
                            have q := eql_lk X X
                            rw [Lk.same] at q
                            go_wp2_with (first
                              | (with_reducible refine wpList_load_mid rfl _ _ rfl _ _ rfl _ _ (range_below HRG.out HK.out.bel HC.out) Try.underlying37 rfl (d_info4 _ _ _ _) ?_)
                              | (with_reducible refine alloc_zero HK.out 4 d_zero rfl rfl ?_; intro bd u hnn hk hb; clear hnn; have hm := HM.out.below hb; clear hb; clear HM; have HM := Lib.hid hm; clear hm; clear HK; have HK := Lib.hid hk; clear hk)
                              | (with_reducible refine store_all HK.out 0 4 d_info rfl rfl _ _ rfl rfl rfl rfl rfl (zer_length 4) ?_; intro u hk hs; have hm := HM.out.store (HK.out.get 0 rfl) hs; clear hs; clear HM; have HM := Lib.hid hm; clear hm; simp only [List.set_cons_zero] at hk; clear hc0 hc1 hc2 hc3; obtain ⟨hc0, hc1, hc2, hc3⟩ := cells4 (hk.get 0 rfl); clear HK; have HK := Lib.hid hk; clear hk)
                              | (with_reducible refine load_lk HK.out 2 HX.out HLS.out rfl _ rfl rfl rfl ?_)
                              | (with_reducible refine alloc_zero HK.out 4 lk_zero rfl rfl ?_; intro bx u hnn hk hb; clear hnn; have hm := HM.out.below hb; clear hb; clear HM; have HM := Lib.hid hm; clear hm; clear hc0 hc1 hc2 hc3; obtain ⟨hc0, hc1, hc2, hc3⟩ := cells4 (hk.get 1 rfl); clear HK; have HK := Lib.hid hk; clear hk)
                              | (with_reducible refine store_all HK.out 0 4 lk_info rfl rfl _ _ rfl rfl rfl rfl (Lk.len _) (zer_length 4) ?_; intro u hk hs; have hm := HM.out.store (HK.out.get 0 rfl) hs; clear hs; clear HM; have HM := Lib.hid hm; clear hm; simp only [List.set_cons_zero] at hk; clear hc0 hc1 hc2 hc3; obtain ⟨hc0, hc1, hc2, hc3⟩ := cells4 (hk.get 1 rfl); clear HK; have HK := Lib.hid hk; clear hk)
                              | (with_reducible refine load_all HK.out 0 4 Try.underlying23 rfl lk_info rfl _ rfl rfl rfl (Lk.len _) ?_)
                              | (with_reducible refine map_hit HM.out HG.out rfl _ _ rfl rfl rfl ?_)
                              | (with_reducible refine store_part HK.out 3 4 lk_info rfl rfl _ _ rfl rfl rfl rfl (Lk.len _) HLS.out ?_; intro u hk hs; have hm := HM.out.store (HK.out.get 3 rfl) hs; clear hs; clear HM; have HM := Lib.hid hm; clear hm; simp only [List.set_cons_zero, List.set_cons_succ] at hk; clear HK; have HK := Lib.hid hk; clear hk)
                              | (with_reducible refine load_all HK.out 0 4 Try.underlying23 rfl lk_info rfl _ rfl rfl rfl (Lk.len _) ?_)
                              | (with_reducible refine load_val HK.out 0 rfl _ rfl rfl rfl (Lk.g0 _) (Lk.p0 _) ?_)
                              | (with_reducible refine load_val HK.out 0 rfl _ rfl rfl rfl (Lk.g1 _) (Lk.p1 _) ?_)
                              | (with_reducible refine build_key rfl _ _ rfl rfl rfl ?_)
                              | (with_reducible refine alloc_zero HK.out 4 lk_zero rfl rfl ?_; intro bw u hnn hk hb; clear hnn; have hm := HM.out.below hb; clear hb; clear HM; have HM := Lib.hid hm; clear hm; clear HK; have HK := Lib.hid hk; clear hk)
                              | (with_reducible refine store_all HK.out 0 4 lk_info rfl rfl _ _ rfl rfl rfl rfl (Lk.len _) (zer_length 4) ?_; intro u hk hs; have hm := HM.out.store (HK.out.get 0 rfl) hs; clear hs; clear HM; have HM := Lib.hid hm; clear hm; simp only [List.set_cons_zero, List.set_cons_succ] at hk; clear HK; have HK := Lib.hid hk; clear hk)
                              | (refine load_all_want HK.out 0 4 Try.underlying23 rfl lk_info _ rfl rfl rfl rfl (Lk.len _) ?_)
                              | (refine load_all_want HK.out 1 4 Try.underlying23 rfl lk_info _ rfl rfl rfl rfl (Lk.len _) ?_)
                              | (with_reducible refine load_val HK.out 1 rfl _ rfl rfl rfl (Lk.g0 _) (Lk.p0 _) ?_)
                              | (with_reducible refine load_val HK.out 1 rfl _ rfl rfl rfl (Lk.g1 _) (Lk.p1 _) ?_)
                              | (with_reducible refine load_all HK.out 1 4 Try.underlying23 rfl lk_info rfl _ rfl rfl rfl (Lk.len _) ?_)
                              | (with_reducible refine map_put HK.out HM.out HW.out (by omega) HO1.out HO2.out HONE.out rfl _ _ _ rfl rfl rfl rfl rfl ?_; intro u hk hm; clear HM; have HM := Lib.hid hm; clear hm; clear HK; have HK := Lib.hid hk; clear hk))
                            go_roundw
                            case rel => exact ⟨k + 1, by omega, by go_num, _, L, seen, (by rw [splice_length]; exact HS.out), (by rw [st_upd HLS.out, ← HX.out, upd_same]; exact HI.out), HF0.out, HM.out.again HG.out, HK.out.tail.tail.tail⟩
                            case measure => simp [intOf]; omega
                      · skip
                        have HG := Lib.hid HXM.out
                        have HO1 := Lib.hid (HM.out.ok HG.out).1
                        have HO2 := Lib.hid (HM.out.ok HG.out).2
                        have HONE := Lib.hid (fun y (hy : y ∈ seen) (e1 : y.s = X.s) (e2 : y.v = X.v) => HI.out.key y hy X HG.out e1 e2)
                        have q := eql_lk X X
                        rw [Lk.same] at q
                        go_wp2_with (first
                          | (with_reducible refine wpList_load_mid rfl _ _ rfl _ _ rfl _ _ (range_below HRG.out HK.out.bel HC.out) Try.underlying37 rfl (d_info4 _ _ _ _) ?_)
                          | (with_reducible refine alloc_zero HK.out 4 d_zero rfl rfl ?_; intro bd u hnn hk hb; clear hnn; have hm := HM.out.below hb; clear hb; clear HM; have HM := Lib.hid hm; clear hm; clear HK; have HK := Lib.hid hk; clear hk)
                          | (with_reducible refine store_all HK.out 0 4 d_info rfl rfl _ _ rfl rfl rfl rfl rfl (zer_length 4) ?_; intro u hk hs; have hm := HM.out.store (HK.out.get 0 rfl) hs; clear hs; clear HM; have HM := Lib.hid hm; clear hm; simp only [List.set_cons_zero] at hk; clear hc0 hc1 hc2 hc3; obtain ⟨hc0, hc1, hc2, hc3⟩ := cells4 (hk.get 0 rfl); clear HK; have HK := Lib.hid hk; clear hk)
                          | (with_reducible refine load_lk HK.out 2 HX.out HLS.out rfl _ rfl rfl rfl ?_)
                          | (with_reducible refine alloc_zero HK.out 4 lk_zero rfl rfl ?_; intro bx u hnn hk hb; clear hnn; have hm := HM.out.below hb; clear hb; clear HM; have HM := Lib.hid hm; clear hm; clear hc0 hc1 hc2 hc3; obtain ⟨hc0, hc1, hc2, hc3⟩ := cells4 (hk.get 1 rfl); clear HK; have HK := Lib.hid hk; clear hk)
                          | (with_reducible refine store_all HK.out 0 4 lk_info rfl rfl _ _ rfl rfl rfl rfl (Lk.len _) (zer_length 4) ?_; intro u hk hs; have hm := HM.out.store (HK.out.get 0 rfl) hs; clear hs; clear HM; have HM := Lib.hid hm; clear hm; simp only [List.set_cons_zero] at hk; clear hc0 hc1 hc2 hc3; obtain ⟨hc0, hc1, hc2, hc3⟩ := cells4 (hk.get 1 rfl); clear HK; have HK := Lib.hid hk; clear hk)
                          | (with_reducible refine load_all HK.out 0 4 Try.underlying23 rfl lk_info rfl _ rfl rfl rfl (Lk.len _) ?_)
                          | (with_reducible refine map_hit HM.out HG.out rfl _ _ rfl rfl rfl ?_)
                          | (with_reducible refine store_part HK.out 3 4 lk_info rfl rfl _ _ rfl rfl rfl rfl (Lk.len _) HLS.out ?_; intro u hk hs; have hm := HM.out.store (HK.out.get 3 rfl) hs; clear hs; clear HM; have HM := Lib.hid hm; clear hm; simp only [List.set_cons_zero, List.set_cons_succ] at hk; clear HK; have HK := Lib.hid hk; clear hk)
                          | (with_reducible refine load_all HK.out 0 4 Try.underlying23 rfl lk_info rfl _ rfl rfl rfl (Lk.len _) ?_)
                          | (with_reducible refine load_val HK.out 0 rfl _ rfl rfl rfl (Lk.g0 _) (Lk.p0 _) ?_)
                          | (with_reducible refine load_val HK.out 0 rfl _ rfl rfl rfl (Lk.g1 _) (Lk.p1 _) ?_)
                          | (with_reducible refine build_key rfl _ _ rfl rfl rfl ?_)
                          | (with_reducible refine alloc_zero HK.out 4 lk_zero rfl rfl ?_; intro bw u hnn hk hb; clear hnn; have hm := HM.out.below hb; clear hb; clear HM; have HM := Lib.hid hm; clear hm; clear HK; have HK := Lib.hid hk; clear hk)
                          | (with_reducible refine store_all HK.out 0 4 lk_info rfl rfl _ _ rfl rfl rfl rfl (Lk.len _) (zer_length 4) ?_; intro u hk hs; have hm := HM.out.store (HK.out.get 0 rfl) hs; clear hs; clear HM; have HM := Lib.hid hm; clear hm; simp only [List.set_cons_zero, List.set_cons_succ] at hk; clear HK; have HK := Lib.hid hk; clear hk)
                          | (refine load_all_want HK.out 0 4 Try.underlying23 rfl lk_info _ rfl rfl rfl rfl (Lk.len _) ?_)
                          | (refine load_all_want HK.out 1 4 Try.underlying23 rfl lk_info _ rfl rfl rfl rfl (Lk.len _) ?_)
                          | (with_reducible refine load_val HK.out 1 rfl _ rfl rfl rfl (Lk.g0 _) (Lk.p0 _) ?_)
                          | (with_reducible refine load_val HK.out 1 rfl _ rfl rfl rfl (Lk.g1 _) (Lk.p1 _) ?_)
                          | (with_reducible refine load_all HK.out 1 4 Try.underlying23 rfl lk_info rfl _ rfl rfl rfl (Lk.len _) ?_)
                          | (with_reducible refine map_put HK.out HM.out HW.out (by omega) HO1.out HO2.out HONE.out rfl _ _ _ rfl rfl rfl rfl rfl ?_; intro u hk hm; clear HM; have HM := Lib.hid hm; clear hm; clear HK; have HK := Lib.hid hk; clear hk))
                        go_roundw
                        case rel => exact ⟨k + 1, by omega, by go_num, _, L, seen, (by rw [splice_length]; exact HS.out), (by rw [st_upd HLS.out, ← HX.out, upd_same]; exact HI.out), HF0.out, HM.out.again HG.out, HK.out.tail.tail.tail⟩
                        case measure => simp [intOf]; omega
            · obtain rfl : k = nn := by omega
              clear HM HST
              go_wp2_with (first
                | (with_reducible refine load_all HK.out 2 4 Try.underlying23 rfl lk_info rfl _ rfl rfl rfl (Lk.len _) ?_)
                | (with_reducible refine alloc_zero HK.out 4 lk_zero rfl rfl ?_; intro bA u hnn hk hb; clear hnn hb; clear HK; have HK := Lib.hid hk; clear hk)
                | (with_reducible refine store_all HK.out 0 4 lk_info rfl rfl _ _ rfl rfl rfl rfl (Lk.len _) (zer_length 4) ?_; intro u hk hs; clear hs; simp only [List.set_cons_zero] at hk; clear HK; have HK := Lib.hid hk; clear hk)
                | (with_reducible refine load_all HK.out 2 64 Try.underlying33 rfl s_info rfl _ rfl rfl rfl HS.out ?_))
              go_loopw [159] (fun i wr => ∃ (m : Nat) (A : Lk), m ≤ 16 ∧ i = .int .i64 m ∧ A ∈ seen ∧ (∀ j, j < m → ¬ ltL A (st S j)) ∧ KeepR w [(bA, 23, A.l), (bl, 23, L.l), (bs, 33, S), (bf, 23, X0.l)] wr) (fun i _ => 16 - (intOf i).toNat)
              case atStart => exact ⟨0, X0, by omega, rfl, HF0.out, fun j hj => absurd hj (by omega), HK.out⟩
              case round =>
                obtain ⟨m, A, hm, rfl, hA, hj, hk⟩ := hrel
                clear HK
                have HK := Lib.hid hk; have HA := Lib.hid hA; have HJ := Lib.hid hj
                clear hk hA hj
                by_cases hlt : m < 16
                · have j1 : (0 : Int) ≤ (m : Int) := by omega
                  have j2 : (m : Int) < 16 := by omega
                  have hix : ∀ W : World, (Instr.index 33 (.agg (vals S).toArray) (.int .i64 (m : Int))).run Try.prog W = .ok (.agg (vals (st S m).l).toArray) W := fun W => index_st HS.out hlt W
                  have hN := join_more HA.out (HI.out.own m hlt) HJ.out
                  have hcl := join_any A (st S m)
                  have HN := Lib.hid hN; clear hN
                  generalize st S m = Y at hix hcl HN
                  generalize joinK A Y = G at hcl HN
                  go_wp2_with (first
                    | (with_reducible refine alloc_zero HK.out 4 lk_zero rfl rfl ?_; intro br u hnn hk hb; clear hnn hb; clear HK; have HK := Lib.hid hk; clear hk)
                    | (with_reducible refine store_all HK.out 0 4 lk_info rfl rfl _ _ rfl rfl rfl rfl (Lk.len _) (zer_length 4) ?_; intro u hk hs; clear hs; simp only [List.set_cons_zero] at hk; clear HK; have HK := Lib.hid hk; clear hk)
                    | (with_reducible refine load_all HK.out 1 4 Try.underlying23 rfl lk_info rfl _ rfl rfl rfl (Lk.len _) ?_)
                    | (with_reducible refine load_all HK.out 0 4 Try.underlying23 rfl lk_info rfl _ rfl rfl rfl (Lk.len _) ?_)
                    | (go_at_call 9; (with_reducible refine (hcl _).mono ?_); rintro e u ⟨rfl, hb⟩; have hk := HK.out.call hb; clear hb; clear HK; have HK := Lib.hid hk; clear hk)
                    | (with_reducible refine store_all HK.out 1 4 lk_info rfl rfl _ _ rfl rfl rfl rfl (Lk.len _) (Lk.len _) ?_; intro u hk hs; clear hs; simp only [List.set_cons_zero, List.set_cons_succ] at hk; clear HK; have HK := Lib.hid hk; clear hk))
                  go_roundw
                  case rel => exact ⟨m + 1, G, by omega, by go_num, HN.out.1, HN.out.2, HK.out.tail⟩
                  case measure => simp [intOf]; omega
                · obtain rfl : m = 16 := by omega
                  have he := HI.out.ends HA.out HJ.out
                  have q := eql_lk A L
                  rw [Lk.beq_iff.2 he] at q
                  have hge := lk_guard
                  clear he HJ HA
                  simp only [show ((16 : Nat) : Int) = 16 from rfl]
                  go_wp2_with (first
                    | (with_reducible refine load_all HK.out 0 4 Try.underlying23 rfl lk_info rfl _ rfl rfl rfl (Lk.len _) ?_)
                    | (with_reducible refine load_all HK.out 1 4 Try.underlying23 rfl lk_info rfl _ rfl rfl rfl (Lk.len _) ?_)
                    | (go_at_call 13; (with_reducible refine (awake5 _).mono ?_); rintro e u ⟨rfl, hb⟩; have hk := HK.out.call hb; clear hb; clear HK; have HK := Lib.hid hk; clear hk))
                  go_ret
                  exact ⟨rfl, HK.out.bel⟩
    · have hn' : (80 : Int) < (nn : Int) := by omega
      have hn3 : decide ((80 : Int) < (nn : Int)) = true := by simp; omega
      clear HST
      go_enter Try.func4, Try.ntmps4
      go_wp2_with (first
        | (with_reducible refine alloc_zero HK.out 4 lk_zero rfl rfl ?_; intro bf u hnn hk hb; clear hnn hb; clear HK; have HK := Lib.hid hk; clear hk)
        | (go_at_call 14; (with_reducible refine (n1 _).mono ?_); rintro e u ⟨rfl, hb⟩; have hk := HK.out.call hb; clear hb; clear HK; have HK := Lib.hid hk; clear hk)
        | (with_reducible refine store_all HK.out 0 4 lk_info rfl rfl _ _ rfl rfl rfl rfl (Lk.len _) (zer_length 4) ?_; intro u hk hs; clear hs; simp only [List.set_cons_zero] at hk; clear HK; have HK := Lib.hid hk; clear hk)
        | (go_at_call 13; (with_reducible refine (awake5 _).mono ?_); rintro e u ⟨rfl, hb⟩; have hk := HK.out.call hb; clear hb; clear HK; have HK := Lib.hid hk; clear hk))
      go_ret
      exact ⟨rfl, HK.out.bel⟩
  · have h0' : (newE a0 a1 == 0) = false := by simp [h0]
    generalize newE a0 a1 = e at n1 h0 h0'
    generalize newA a0 a1 = N at n1
    clear HST
    go_enter Try.func4, Try.ntmps4
    go_wp2_with (first
      | (with_reducible refine alloc_zero HK.out 4 lk_zero rfl rfl ?_; intro bf u hnn hk hb; clear hnn hb; clear HK; have HK := Lib.hid hk; clear hk)
      | (go_at_call 14; (with_reducible refine (n1 _).mono ?_); rintro e u ⟨rfl, hb⟩; have hk := HK.out.call hb; clear hb; clear HK; have HK := Lib.hid hk; clear hk)
      | (with_reducible refine store_all HK.out 0 4 lk_info rfl rfl _ _ rfl rfl rfl rfl (Lk.len _) (zer_length 4) ?_; intro u hk hs; clear hs; simp only [List.set_cons_zero] at hk; clear HK; have HK := Lib.hid hk; clear hk)
      | (go_at_call 13; (with_reducible refine (awake5 _).mono ?_); rintro e u ⟨rfl, hb⟩; have hk := HK.out.call hb; clear hb; clear HK; have HK := Lib.hid hk; clear hk))
    go_ret
    exact ⟨rfl, HK.out.bel⟩

set_option maxRecDepth 100000 in
theorem lifted (os : Os) (started : os.Started) (H : Type) (enc : TypeId × Value → H) :
    ReturnsInHanded {} Try.checked os 4 .any (Rows.lockOneSpec.pre6 enc Try.prog Try.f4 Rows.lockOneRow.domain false) (Rows.lockOneSpec.post enc Try.prog Try.f4 false true false false) := by
  refine returnsInHanded_of_change (C := Try.checked) own started (by kernel_rfl) Try.func4
    (ChangeSpec.witness6 (enc := enc) (C := Try.checked) false ⟨#[], #[.int .i64 0, .int .i64 0, .slice none 0 0], []⟩ 12 (by kernel_rfl) (by kernel_rfl) (by kernel_rfl) (by kernel_rfl)) ?_
  intro W base args ds gs before hval0 hW hcnd _
  have hval : ∀ (j : Nat) t v, Try.f4.params[j]? = some t → args[j]? = some v → Value.okWide Try.prog W .any base t v := hval0
  have hW' := hW
  obtain ⟨p, q, hA0, hV, rfl, hfz, hnd⟩ := hW
  have hA : DataW.TrodAll enc Try.prog W 0 (fun _ => true) true Try.f4.params.toList args.toList ds p := hA0
  rw [Try.params4] at hA hval
  obtain ⟨v0, vs0, d0, ds0, p0, q0, hargs, rfl, rfl, h0, r0⟩ := trodAll_cons hA
  obtain ⟨v1, vs1, d1, ds1, p1, q1, rfl, rfl, rfl, h1, r1⟩ := trodAll_cons r0
  obtain ⟨v2, vs2, d2, ds2, p2, q2, rfl, rfl, rfl, h2, r2⟩ := trodAll_cons r1
  obtain ⟨rfl, rfl, rfl⟩ := trodAll_nil r2
  obtain rfl : args = #[v0, v1, v2] := by cases args; simp_all
  obtain ⟨rfl, rfl⟩ := trodVars_none hV
  have k0 := h0
  have lt0 : ∀ x ∈ p0, x.block < W.heap.size := by obtain ⟨m, hm⟩ := k0; exact DataW.trod_lt m _ _ _ hm
  obtain ⟨a0, rfl, rfl, rfl, w0⟩ := open_int Try.underlying3 (hval 0 3 v0 rfl rfl) h0
  have k1 := h1
  have lt1 : ∀ x ∈ p1, x.block < W.heap.size := by obtain ⟨m, hm⟩ := k1; exact DataW.trod_lt m _ _ _ hm
  obtain ⟨a1, rfl, rfl, rfl, w1⟩ := open_int Try.underlying3 (hval 1 3 v1 rfl rfl) h1
  have k2 := h2
  have lt2 : ∀ x ∈ p2, x.block < W.heap.size := by obtain ⟨m, hm⟩ := k2; exact DataW.trod_lt m _ _ _ hm
  obtain ⟨A2, n2, c2, x2, rfl, hd2⟩ := open_steps (hval 2 29 v2 rfl rfl) h2
  clear hA0 hval0
  refine (walk W a0 w0 a1 w1 A2 n2 c2 x2 hd2).mono fun e W' ⟨he, bel⟩ => ?_
  subst he
  exact ⟨_, rfl, _, _, _, [], _, [], hW', trodAll_mk1 (shut_bool Try.underlying4 _), (trodAll_cons_mk (Below.trod laidOut (by kernel_rfl) (of_decide_eq_true (by kernel_rfl)) k0 bel lt0) (trodAll_cons_mk (Below.trod laidOut (by kernel_rfl) (of_decide_eq_true (by kernel_rfl)) k1 bel lt1) (trodAll_cons_mk (Below.trod laidOut (by kernel_rfl) (of_decide_eq_true (by kernel_rfl)) k2 bel lt2) trodAll_mk0))), rfl, bel.frame _, fun h => by cases h⟩

theorem over : Rows.lockOneRow.holds Try.pinned (OpenSpec.ofChange Rows.lockOneSpec) :=
  OpenClaim.holds_of_wide 4 Try.f4 rfl rfl rfl rfl rfl rfl rfl ⟨rfl, rfl, rfl, rfl, rfl⟩ rfl rfl rfl rfl rfl (by kernel_rfl) Try.func4 (by kernel_rfl)
    (of_decide_eq_true (by kernel_rfl)) (by unfold Func.isWrapper; first | (rw [if_pos (by decide +kernel)]; kernel_rfl) | (rw [if_neg (by decide +kernel)]; exact ⟨rfl, rfl⟩))
    (fun os started H enc _ => lifted os started H enc)

theorem proved : Rows.LockOneSaid := over
#print axioms proved
end Go.Proofs.Ytbaacdkjdkkifaa.lockOne
