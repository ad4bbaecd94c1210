/- For every holder and every slice of steps usufructlaw05.LockHolds returns true, and each argument reads as before. No condition. -/
import Derived.Test.YtbaacdkjdkkifaaLkJoin
import Derived.Test.YtbaacdkjdkkifaaLkInv
import Derived.WalkKit
import Derived.ProofKit
import Derived.OpenShut
import Derived.ChangeOld
import Derived.Below
namespace Go.Proofs.Ytbaacdkjdkkifaa.lockHolds
open Go.ChangeShapes Go.WideShapes Go.ChangeAt Go.RowKit
set_option linter.unusedVariables false

theorem own : ownKnob Try.prog.godebug = none := by kernel_rfl
theorem laidOut : laidOutB Try.prog = true := by kernel_rfl

theorem cells4 {u : World} {b : Nat} {t : TypeId} {p q r s : Int} (h : Blk u b t [p, q, r, s]) : u.cell? ⟨b, 0, none⟩ = some (.int .i64 p) ∧ u.cell? ⟨b, 1, none⟩ = some (.int .i64 q) ∧ u.cell? ⟨b, 2, none⟩ = some (.int .i64 r) ∧ u.cell? ⟨b, 3, none⟩ = some (.int .i64 s) :=
  ⟨h.cell (k := 0) (by simp), h.cell (k := 1) (by simp), h.cell (k := 2) (by simp), h.cell (k := 3) (by simp)⟩
theorem d_info4 (a b c d : Int) : (Try.prog.info? 37).map (·.size) = some (vals [a, b, c, d]).length := d_info
theorem fill_step {S : List Int} {X : Lk} {m : Nat} (hS : S.length = 64) (hm : m < 16) (h : ∀ j, j < m → st S j = X) : (splice S (m * 4) X.l).length = 64 ∧ ∀ j, j < m + 1 → st (splice S (m * 4) X.l) j = X := by
  refine ⟨by rw [splice_length]; exact hS, fun j hj => ?_⟩
  rw [st_splice (by omega)]
  split
  · rfl
  · exact h j (by omega)

set_option maxRecDepth 100000 in
set_option maxHeartbeats 4000000 in
theorem walk (w : World) (a0 : Int) (w0 : (Lit.int .i64 a0).wf = true) (A1 : Option Addr) (nn c1 : Nat) (x1 : List Int) (hd1 : Steps w A1 nn x1) :
    Calls Try.prog 5 #[.int .i64 a0, .slice A1 nn c1] w fun e w' => e = .returned (.bool true) ∧ Below w.heap.size w w' := by
  have n1 := lnew_any a0 0
  have HST := Lib.hid hd1; clear hd1
  have HK := Lib.hid (KeepR.start w)
  by_cases h0 : newE a0 0 = 0
  · obtain ⟨hr0, _, hA⟩ := new_zero h0
    rw [hA, h0] at n1
    clear hA h0
    have HR0 := Lib.hid hr0; clear hr0
    obtain ⟨X0, hX0⟩ : ∃ X : Lk, X = ⟨0, 0, a0, 0⟩ := ⟨_, rfl⟩
    have HF := Lib.hid (show repB X0.h = true by rw [hX0]; exact HR0.out)
    rw [← hX0] at n1
    clear hX0
    by_cases hn : nn ≤ 80
    · have hn' : ¬ (80 : Int) < (nn : Int) := by omega
      have hn3 : decide ((80 : Int) < (nn : Int)) = false := by simp; omega
      go_enter Try.func5, Try.ntmps5
      go_wp2_with (first
        | (with_reducible refine alloc_zero (l := []) HK.out 4 lk_zero rfl rfl ?_; intro bf u hnn hk hb; clear hnn hb; clear HK; have HK := Lib.hid hk; clear hk)
        | (go_at_call 14; (with_reducible refine (n1 _).mono ?_); rintro e u ⟨rfl, hb⟩; have hk := HK.out.call hb; clear hb; clear HK; have HK := Lib.hid hk; clear hk)
        | (with_reducible refine store_all HK.out 0 4 lk_info rfl rfl _ _ rfl rfl rfl rfl (Lk.len _) (zer_length 4) ?_; intro u hk hs; clear hs; simp only [List.set_cons_zero] at hk; clear HK; have HK := Lib.hid hk; clear hk)
        | (with_reducible refine alloc_zero HK.out 64 s_zero rfl rfl ?_; intro bs u hnn hk hb; clear hnn hb; clear HK; have HK := Lib.hid hk; clear hk))
      clear hn3 n1
      go_loopw [27] (fun i wr => ∃ (m : Nat) (S : List Int), m ≤ 16 ∧ i = .int .i64 m ∧ S.length = 64 ∧ (∀ j, j < m → st S j = X0) ∧ KeepR w [(bs, 33, S), (bf, 23, X0.l)] wr) (fun i _ => 16 - (intOf i).toNat)
      case atStart => exact ⟨0, zer 64, by omega, rfl, zer_length 64, fun j hj => absurd hj (by omega), HK.out⟩
      case round =>
        obtain ⟨m, S, hm, rfl, hS, hall, hk⟩ := hrel
        clear HK
        have HK := Lib.hid hk; have HS := Lib.hid hS; have HA := Lib.hid hall
        clear hk hS hall
        by_cases hlt : m < 16
        · have j1 : (0 : Int) ≤ (m : Int) := by omega
          have j2 : (m : Int) < 16 := by omega
          have HN := Lib.hid (fill_step HS.out hlt HA.out)
          go_wp2_with (first
            | (with_reducible refine load_all HK.out 1 4 Try.underlying23 rfl lk_info rfl _ rfl rfl rfl (Lk.len _) ?_)
            | (with_reducible refine store_part HK.out 0 4 lk_info rfl rfl _ _ rfl rfl rfl rfl (Lk.len _) (by have := HS.out; omega) ?_; intro u hk hs; clear hs; simp only [List.set_cons_zero] at hk; clear HK; have HK := Lib.hid hk; clear hk))
          go_roundw
          case rel => exact ⟨m + 1, _, by omega, by go_num, HN.out.1, HN.out.2, HK.out⟩
          case measure => simp [intOf]; omega
        · obtain rfl : m = 16 := by omega
          have HI := Lib.hid (LI.begin HA.out HF.out)
          clear HA
          simp only [show ((16 : Nat) : Int) = 16 from rfl]
          go_wp2_with (first
            | (with_reducible refine load_all HK.out 1 4 Try.underlying23 rfl lk_info rfl _ rfl rfl rfl (Lk.len _) ?_)
            | (with_reducible refine alloc_zero HK.out 4 lk_zero rfl rfl ?_; intro ba u hnn hk hb; clear hnn hb; clear HK; have HK := Lib.hid hk; clear hk)
            | (with_reducible refine store_all HK.out 0 4 lk_info rfl rfl _ _ rfl rfl rfl rfl (Lk.len _) (zer_length 4) ?_; intro u hk hs; clear hs; simp only [List.set_cons_zero] at hk; clear HK; have HK := Lib.hid hk; clear hk))
          generalize hS0 : S = S0 at HK HS HI
          go_loopw [37] (fun i wr => ∃ k : Nat, k ≤ nn ∧ i = .int .i64 k ∧ ∃ (S : List Int) (L : Lk) (seen : List Lk), S.length = 64 ∧ LI seen L (st S) ∧ KeepR w [(ba, 23, L.l), (bs, 33, S), (bf, 23, X0.l)] wr) (fun i _ => nn - (intOf i).toNat)
          case atStart => exact ⟨0, by omega, rfl, S0, X0, _, HS.out, HI.out, HK.out⟩
          case round =>
            obtain ⟨k, hk0, rfl, S, L, seen, hS, hI, hk⟩ := hrel
            clear HK HS HI
            have HK := Lib.hid hk; have HS := Lib.hid hS; have HI := Lib.hid hI
            clear hk hS hI
            by_cases hlt : k < nn
            · obtain ⟨hmx, h0 | ⟨b, off, hAA, hx, hc⟩⟩ := HST.out
              · omega
              subst hAA
              clear hmx
              have hrg := reads_steps hx hc hlt
              have hsg := seg4 (x := x1) (o := k * 4) (by omega)
              have HC := Lib.hid (cell_lt (hc (k * 4) (by omega)))
              rw [hsg] at hrg
              generalize x1.getD (k * 4) 0 = dv at hrg
              generalize x1.getD (k * 4 + 1) 0 = di at hrg
              generalize x1.getD (k * 4 + 2) 0 = dk at hrg
              generalize x1.getD (k * 4 + 3) 0 = dn at hrg
              have HRG := Lib.hid hrg
              clear hsg hx hc hrg HST
              have i1 : (0 : Int) ≤ (k : Int) := by omega
              have i2 : (k : Int) < (nn : Int) := by omega
              have hc0 := Lib.hid True.intro
              have hc1 := Lib.hid True.intro
              have hc2 := Lib.hid True.intro
              have hc3 := Lib.hid True.intro
              by_cases t1 : di < 0
              · skip
                go_wp2_with (first
                  | (with_reducible refine wpList_load_mid rfl _ _ rfl _ _ rfl _ _ (range_below HRG.out HK.out.bel HC.out) Try.underlying37 rfl (d_info4 _ _ _ _) ?_)
                  | (with_reducible refine alloc_zero HK.out 4 d_zero rfl rfl ?_; intro bd u hnn hk hb; clear hnn hb; clear HK; have HK := Lib.hid hk; clear hk)
                  | (with_reducible refine store_all HK.out 0 4 d_info rfl rfl _ _ rfl rfl rfl rfl rfl (zer_length 4) ?_; intro u hk hs; clear hs; simp only [List.set_cons_zero] at hk; clear hc0 hc1 hc2 hc3; obtain ⟨hc0, hc1, hc2, hc3⟩ := cells4 (hk.get 0 rfl); clear HK; have HK := Lib.hid hk; clear hk))
                go_roundw
                case rel => exact ⟨k + 1, by omega, by go_num, S, L, seen, HS.out, HI.out, HK.out.tail⟩
                case measure => simp [intOf]; omega
              · by_cases t2 : 15 < di
                · skip
                  go_wp2_with (first
                    | (with_reducible refine wpList_load_mid rfl _ _ rfl _ _ rfl _ _ (range_below HRG.out HK.out.bel HC.out) Try.underlying37 rfl (d_info4 _ _ _ _) ?_)
                    | (with_reducible refine alloc_zero HK.out 4 d_zero rfl rfl ?_; intro bd u hnn hk hb; clear hnn hb; clear HK; have HK := Lib.hid hk; clear hk)
                    | (with_reducible refine store_all HK.out 0 4 d_info rfl rfl _ _ rfl rfl rfl rfl rfl (zer_length 4) ?_; intro u hk hs; clear hs; simp only [List.set_cons_zero] at hk; clear hc0 hc1 hc2 hc3; obtain ⟨hc0, hc1, hc2, hc3⟩ := cells4 (hk.get 0 rfl); clear HK; have HK := Lib.hid hk; clear hk))
                  go_roundw
                  case rel => exact ⟨k + 1, by omega, by go_num, S, L, seen, HS.out, HI.out, HK.out.tail⟩
                  case measure => simp [intOf]; omega
                · by_cases t3 : dn < -1000
                  · skip
                    go_wp2_with (first
                      | (with_reducible refine wpList_load_mid rfl _ _ rfl _ _ rfl _ _ (range_below HRG.out HK.out.bel HC.out) Try.underlying37 rfl (d_info4 _ _ _ _) ?_)
                      | (with_reducible refine alloc_zero HK.out 4 d_zero rfl rfl ?_; intro bd u hnn hk hb; clear hnn hb; clear HK; have HK := Lib.hid hk; clear hk)
                      | (with_reducible refine store_all HK.out 0 4 d_info rfl rfl _ _ rfl rfl rfl rfl rfl (zer_length 4) ?_; intro u hk hs; clear hs; simp only [List.set_cons_zero] at hk; clear hc0 hc1 hc2 hc3; obtain ⟨hc0, hc1, hc2, hc3⟩ := cells4 (hk.get 0 rfl); clear HK; have HK := Lib.hid hk; clear hk))
                    go_roundw
                    case rel => exact ⟨k + 1, by omega, by go_num, S, L, seen, HS.out, HI.out, HK.out.tail⟩
                    case measure => simp [intOf]; omega
                  · by_cases t4 : 1000 < dn
                    · skip
                      go_wp2_with (first
                        | (with_reducible refine wpList_load_mid rfl _ _ rfl _ _ rfl _ _ (range_below HRG.out HK.out.bel HC.out) Try.underlying37 rfl (d_info4 _ _ _ _) ?_)
                        | (with_reducible refine alloc_zero HK.out 4 d_zero rfl rfl ?_; intro bd u hnn hk hb; clear hnn hb; clear HK; have HK := Lib.hid hk; clear hk)
                        | (with_reducible refine store_all HK.out 0 4 d_info rfl rfl _ _ rfl rfl rfl rfl rfl (zer_length 4) ?_; intro u hk hs; clear hs; simp only [List.set_cons_zero] at hk; clear hc0 hc1 hc2 hc3; obtain ⟨hc0, hc1, hc2, hc3⟩ := cells4 (hk.get 0 rfl); clear HK; have HK := Lib.hid hk; clear hk))
                      go_roundw
                      case rel => exact ⟨k + 1, by omega, by go_num, S, L, seen, HS.out, HI.out, HK.out.tail⟩
                      case measure => simp [intOf]; omega
                    · obtain ⟨a, rfl⟩ : ∃ a : Nat, di = a := ⟨di.toNat, by omega⟩
                      have ha : a < 16 := by omega
                      have a1 : (0 : Int) ≤ (a : Int) := by omega
                      have a2 : (a : Int) < 16 := by omega
                      have HLS := Lib.hid (show a * 4 + 4 ≤ S.length by have := HS.out; omega)
                      obtain ⟨X, hX⟩ : ∃ X : Lk, st S a = X := ⟨_, rfl⟩
                      have HX := Lib.hid hX
                      clear hX
                      by_cases v0 : dv = 0
                      · subst v0
                        have hcl := write_any X a dn
                        by_cases hE : wrE X a dn = 0
                        · rw [hE] at hcl
                          rw [← HX.out] at hE
                          obtain ⟨e1, e2, _, _, e5⟩ := LI.writes HI.out ha hE
                          rw [HX.out] at e1 e5
                          subst e1
                          have HN := Lib.hid e5
                          have HH := Lib.hid e2.symm
                          clear hE e2 e5
                          generalize wrA X a dn = G at hcl HN
                          have q := eql_lk X X
                          rw [Lk.same] at q
                          have hge := lk_guard
                          go_wp2_with (first
                            | (with_reducible refine wpList_load_mid rfl _ _ rfl _ _ rfl _ _ (range_below HRG.out HK.out.bel HC.out) Try.underlying37 rfl (d_info4 _ _ _ _) ?_)
                            | (with_reducible refine alloc_zero HK.out 4 d_zero rfl rfl ?_; intro bd u hnn hk hb; clear hnn hb; clear HK; have HK := Lib.hid hk; clear hk)
                            | (with_reducible refine store_all HK.out 0 4 d_info rfl rfl _ _ rfl rfl rfl rfl rfl (zer_length 4) ?_; intro u hk hs; clear hs; simp only [List.set_cons_zero] at hk; clear hc0 hc1 hc2 hc3; obtain ⟨hc0, hc1, hc2, hc3⟩ := cells4 (hk.get 0 rfl); clear HK; have HK := Lib.hid hk; clear hk)
                            | (with_reducible refine load_lk HK.out 2 HX.out HLS.out rfl _ rfl rfl rfl ?_)
                            | (with_reducible refine alloc_zero HK.out 4 lk_zero rfl rfl ?_; intro bx u hnn hk hb; clear hnn hb; clear hc0 hc1 hc2 hc3; obtain ⟨hc0, hc1, hc2, hc3⟩ := cells4 (hk.get 1 rfl); clear HK; have HK := Lib.hid hk; clear hk)
                            | (with_reducible refine store_all HK.out 0 4 lk_info rfl rfl _ _ rfl rfl rfl rfl (Lk.len _) (zer_length 4) ?_; intro u hk hs; clear hs; simp only [List.set_cons_zero] at hk; clear hc0 hc1 hc2 hc3; obtain ⟨hc0, hc1, hc2, hc3⟩ := cells4 (hk.get 1 rfl); clear HK; have HK := Lib.hid hk; clear hk)
                            | (with_reducible refine load_all HK.out 0 4 Try.underlying23 rfl lk_info rfl _ rfl rfl rfl (Lk.len _) ?_)
                            | (go_at_call 15; (with_reducible refine (hcl _).mono ?_); rintro e u ⟨rfl, hb⟩; have hk := HK.out.call hb; clear hb; clear hc0 hc1 hc2 hc3; obtain ⟨hc0, hc1, hc2, hc3⟩ := cells4 (hk.get 1 rfl); clear HK; have HK := Lib.hid hk; clear hk)
                            | (with_reducible refine store_all HK.out 0 4 lk_info rfl rfl _ _ rfl rfl rfl rfl (Lk.len _) (Lk.len _) ?_; intro u hk hs; clear hs; simp only [List.set_cons_zero] at hk; clear hc0 hc1 hc2 hc3; obtain ⟨hc0, hc1, hc2, hc3⟩ := cells4 (hk.get 1 rfl); clear HK; have HK := Lib.hid hk; clear hk))
                          refine Draws.start (S := fun u => KeepR w [(bx, 23, G.l), (bd, 37, [0, (a : Int), dk, dn]), (ba, 23, X.l), (bs, 33, S), (bf, 23, X0.l)] u) (n := 13) 13 rfl (by kernel_rfl) ?_
                          have HSS := Lib.hid ((HK.out.drew : (fun u => KeepR w [(bx, 23, G.l), (bd, 37, [0, (a : Int), dk, dn]), (ba, 23, X.l), (bs, 33, S), (bf, 23, X0.l)] u) _))
                          refine Draws.take 0 (v := ?v1) HSS.out rfl (by kernel_rfl) (fun _ _ _ h => h) (Or.inl ⟨rfl, ?h1⟩) ?r1
                          case h1 => intro w' hw'; go_simp; (try with_reducible rfl)
                          (try simp only [Act.put, List.setIfInBounds_toArray, List.set_cons_zero, List.set_cons_succ])
                          refine Draws.take 1 (v := ?v2) HSS.out rfl (by kernel_rfl) (fun _ _ _ h => h) (Or.inl ⟨rfl, ?h2⟩) ?r2
                          case h2 => intro w' hw'; have hc := (cells4 (hw'.get 1 rfl)).2.1; go_simp; (try with_reducible rfl)
                          (try simp only [Act.put, List.setIfInBounds_toArray, List.set_cons_zero, List.set_cons_succ])
                          refine Draws.take 2 (v := ?v3) HSS.out rfl (by kernel_rfl) (fun _ _ _ h => h) (Or.inl ⟨rfl, ?h3⟩) ?r3
                          case h3 => intro w' hw'; go_simp; (try with_reducible rfl)
                          (try simp only [Act.put, List.setIfInBounds_toArray, List.set_cons_zero, List.set_cons_succ])
                          refine Draws.take 3 (v := ?v4) HSS.out rfl (by kernel_rfl) (fun _ _ _ h => h) (Or.inl ⟨rfl, ?h4⟩) ?r4
                          case h4 => intro w' hw'; have hc := (hw'.get 2 rfl).cell (k := 2) (Lk.p2 _); rw [Lk.g2, HH.out] at hc; go_simp; (try with_reducible rfl)
                          (try simp only [Act.put, List.setIfInBounds_toArray, List.set_cons_zero, List.set_cons_succ])
                          refine Draws.take 4 (v := ?v5) HSS.out rfl (by kernel_rfl) (fun _ _ _ h => h) (Or.inl ⟨rfl, ?h5⟩) ?r5
                          case h5 => intro w' hw'; go_simp; (try with_reducible rfl)
                          (try simp only [Act.put, List.setIfInBounds_toArray, List.set_cons_zero, List.set_cons_succ])
                          refine Draws.take 5 (v := ?v6) HSS.out rfl (by kernel_rfl) (fun _ _ _ h => h) (Or.inl ⟨rfl, ?h6⟩) ?r6
                          case h6 => intro w' hw'; go_simp; (try with_reducible rfl)
                          (try simp only [Act.put, List.setIfInBounds_toArray, List.set_cons_zero, List.set_cons_succ])
                          refine Draws.take 6 (v := ?v7) HSS.out rfl (by kernel_rfl) (fun _ _ _ h => h) (Or.inl ⟨rfl, ?h7⟩) ?r7
                          case h7 => intro w' hw'; go_simp; (try with_reducible rfl)
                          (try simp only [Act.put, List.setIfInBounds_toArray, List.set_cons_zero, List.set_cons_succ])
                          refine Draws.take 7 (v := ?v8) HSS.out rfl (by kernel_rfl) (fun _ _ _ h => h) (Or.inl ⟨rfl, ?h8⟩) ?r8
                          case h8 => intro w' hw'; have hc := (cells4 (hw'.get 1 rfl)).2.1; go_simp; (try with_reducible rfl)
                          (try simp only [Act.put, List.setIfInBounds_toArray, List.set_cons_zero, List.set_cons_succ])
                          refine Draws.take 8 (v := ?v9) HSS.out rfl (by kernel_rfl) (fun _ _ _ h => h) (Or.inl ⟨rfl, ?h9⟩) ?r9
                          case h9 => intro w' hw'; go_simp; (try with_reducible rfl)
                          (try simp only [Act.put, List.setIfInBounds_toArray, List.set_cons_zero, List.set_cons_succ])
                          refine Draws.take 9 HSS.out rfl (by kernel_rfl) (fun _ _ _ h => h) (yield_lk (fun _ h => h) 3 HX.out HLS.out rfl _ rfl rfl rfl) ?_
                          (try simp only [Act.put, List.setIfInBounds_toArray, List.set_cons_zero, List.set_cons_succ])
                          refine Draws.take 10 HSS.out rfl (by kernel_rfl) (fun _ _ _ h => h) (yield_all (fun _ h => h) 2 4 Try.underlying23 rfl lk_info rfl _ rfl rfl rfl (Lk.len _)) ?_
                          (try simp only [Act.put, List.setIfInBounds_toArray, List.set_cons_zero, List.set_cons_succ])
                          refine Draws.take 11 (v := ?v10) HSS.out rfl (by kernel_rfl) (fun _ _ _ h => h) (Or.inl ⟨rfl, ?h10⟩) ?r10
                          case h10 => intro w' hw'; go_simp; (try with_reducible rfl)
                          (try simp only [Act.put, List.setIfInBounds_toArray, List.set_cons_zero, List.set_cons_succ])
                          refine Draws.take 12 (v := ?v11) HSS.out rfl (by kernel_rfl) (fun _ _ _ h => h) (Or.inl ⟨rfl, ?h11⟩) ?r11
                          case h11 => intro w' hw'; go_simp; (try with_reducible rfl)
                          (try simp only [Act.put, List.setIfInBounds_toArray, List.set_cons_zero, List.set_cons_succ])
                          refine Draws.done (by kernel_rfl) ?_
                          clear HK
                          have hk := HSS.out; clear HSS
                          clear hc0 hc1 hc2 hc3
                          obtain ⟨hc0, hc1, hc2, hc3⟩ := cells4 (hk.get 1 rfl)
                          have HK := Lib.hid hk; clear hk
                          go_wp2
                          have HFU := Lib.hid (HK.out.drew)
                          refine Draws.start (S := fun u => KeepR w [(bx, 23, G.l), (bd, 37, [0, (a : Int), dk, dn])] u) (n := 6) 7 rfl (by kernel_rfl) ?_
                          have HSS := Lib.hid ((HFU.out.sub (by simp) : (fun u => KeepR w [(bx, 23, G.l), (bd, 37, [0, (a : Int), dk, dn])] u) _))
                          refine Draws.take 0 (v := ?v12) HSS.out rfl (by kernel_rfl) (fun _ _ _ h => h) (Or.inl ⟨rfl, ?h12⟩) ?r12
                          case h12 => intro w' hw'; go_simp; (try with_reducible rfl)
                          (try simp only [Act.put, List.setIfInBounds_toArray, List.set_cons_zero, List.set_cons_succ])
                          refine Draws.take 1 (v := ?v13) HSS.out rfl (by kernel_rfl) (fun _ _ _ h => h) (Or.inl ⟨rfl, ?h13⟩) ?r13
                          case h13 => intro w' hw'; have hc := (cells4 (hw'.get 1 rfl)).2.1; go_simp; (try with_reducible rfl)
                          (try simp only [Act.put, List.setIfInBounds_toArray, List.set_cons_zero, List.set_cons_succ])
                          refine Draws.take 2 HSS.out rfl (by kernel_rfl) (fun _ _ _ h => h) (yield_all (fun _ h => h) 0 4 Try.underlying23 rfl lk_info rfl _ rfl rfl rfl (Lk.len _)) ?_
                          (try simp only [Act.put, List.setIfInBounds_toArray, List.set_cons_zero, List.set_cons_succ])
                          refine Draws.take 3 HSS.out rfl (by kernel_rfl) (fun _ _ _ h => h) (yield_all (fun _ h => h) 0 4 Try.underlying23 rfl lk_info rfl _ rfl rfl rfl (Lk.len _)) ?_
                          (try simp only [Act.put, List.setIfInBounds_toArray, List.set_cons_zero, List.set_cons_succ])
                          refine Draws.take 4 (v := ?v14) HSS.out rfl (by kernel_rfl) (fun _ _ _ h => h) (Or.inl ⟨rfl, ?h14⟩) ?r14
                          case h14 => intro w' hw'; go_simp; (try with_reducible rfl)
                          (try simp only [Act.put, List.setIfInBounds_toArray, List.set_cons_zero, List.set_cons_succ])
                          refine Draws.does 5 rfl (by kernel_rfl) rfl (fun K hK => ?_)
                          refine wp_store_part HFU.out 3 4 lk_info rfl _ _ rfl rfl rfl rfl (Lk.len _) HLS.out ?_
                          intro u hk
                          simp only [List.set_cons_zero, List.set_cons_succ] at hk
                          refine hK.out _ _ (fun _ => hk.sub (by simp)) ?_
                          clear hK K HSS HFU HK
                          have HFU := Lib.hid hk; clear hk
                          (try simp only [Act.put, List.setIfInBounds_toArray, List.set_cons_zero, List.set_cons_succ])
                          refine Draws.does 6 rfl (by kernel_rfl) rfl (fun K hK => ?_)
                          refine wp_store_part HFU.out 2 4 lk_info rfl _ _ rfl rfl rfl rfl (Lk.len _) (by rw [Lk.len]; omega) ?_
                          intro u hk
                          rw [splice_all (by rw [Lk.len, Lk.len])] at hk
                          simp only [List.set_cons_zero, List.set_cons_succ] at hk
                          refine hK.out _ _ (fun h => absurd h (by omega)) ?_
                          clear hK K HFU
                          clear hc0 hc1 hc2 hc3
                          obtain ⟨hc0, hc1, hc2, hc3⟩ := cells4 (hk.get 1 rfl)
                          have HK := Lib.hid hk; clear hk
                          refine Draws.done (by kernel_rfl) ?_
                          go_wp2
                          go_roundw
                          case rel => exact ⟨k + 1, by omega, by go_num, _, G, _, (by rw [splice_length]; exact HS.out), (by rw [st_upd HLS.out]; exact HN.out), HK.out.tail.tail⟩
                          case measure => simp [intOf]; omega
                        · generalize wrA X a dn = G at hcl
                          generalize wrE X a dn = ee at hE hcl
                          go_wp2_with (first
                            | (with_reducible refine wpList_load_mid rfl _ _ rfl _ _ rfl _ _ (range_below HRG.out HK.out.bel HC.out) Try.underlying37 rfl (d_info4 _ _ _ _) ?_)
                            | (with_reducible refine alloc_zero HK.out 4 d_zero rfl rfl ?_; intro bd u hnn hk hb; clear hnn hb; clear HK; have HK := Lib.hid hk; clear hk)
                            | (with_reducible refine store_all HK.out 0 4 d_info rfl rfl _ _ rfl rfl rfl rfl rfl (zer_length 4) ?_; intro u hk hs; clear hs; simp only [List.set_cons_zero] at hk; clear hc0 hc1 hc2 hc3; obtain ⟨hc0, hc1, hc2, hc3⟩ := cells4 (hk.get 0 rfl); clear HK; have HK := Lib.hid hk; clear hk)
                            | (with_reducible refine load_lk HK.out 2 HX.out HLS.out rfl _ rfl rfl rfl ?_)
                            | (with_reducible refine alloc_zero HK.out 4 lk_zero rfl rfl ?_; intro bx u hnn hk hb; clear hnn hb; clear hc0 hc1 hc2 hc3; obtain ⟨hc0, hc1, hc2, hc3⟩ := cells4 (hk.get 1 rfl); clear HK; have HK := Lib.hid hk; clear hk)
                            | (with_reducible refine store_all HK.out 0 4 lk_info rfl rfl _ _ rfl rfl rfl rfl (Lk.len _) (zer_length 4) ?_; intro u hk hs; clear hs; simp only [List.set_cons_zero] at hk; clear hc0 hc1 hc2 hc3; obtain ⟨hc0, hc1, hc2, hc3⟩ := cells4 (hk.get 1 rfl); clear HK; have HK := Lib.hid hk; clear hk)
                            | (with_reducible refine load_all HK.out 0 4 Try.underlying23 rfl lk_info rfl _ rfl rfl rfl (Lk.len _) ?_)
                            | (go_at_call 15; (with_reducible refine (hcl _).mono ?_); rintro e u ⟨rfl, hb⟩; have hk := HK.out.call hb; clear hb; clear hc0 hc1 hc2 hc3; obtain ⟨hc0, hc1, hc2, hc3⟩ := cells4 (hk.get 1 rfl); clear HK; have HK := Lib.hid hk; clear hk)
                            | (with_reducible refine store_all HK.out 0 4 lk_info rfl rfl _ _ rfl rfl rfl rfl (Lk.len _) (Lk.len _) ?_; intro u hk hs; clear hs; simp only [List.set_cons_zero] at hk; clear hc0 hc1 hc2 hc3; obtain ⟨hc0, hc1, hc2, hc3⟩ := cells4 (hk.get 1 rfl); clear HK; have HK := Lib.hid hk; clear hk))
                          go_roundw
                          case rel => exact ⟨k + 1, by omega, by go_num, S, L, seen, HS.out, HI.out, HK.out.tail.tail⟩
                          case measure => simp [intOf]; omega
                      · by_cases v1 : dv = 1
                        · subst v1
                          have hcl := pass_any X a dn
                          by_cases hE : psE X a dn = 0
                          · rw [hE] at hcl
                            rw [← HX.out] at hE
                            obtain ⟨e1, e2, _, _, e5⟩ := LI.passes HI.out ha hE
                            rw [HX.out] at e1 e5
                            subst e1
                            have HN := Lib.hid e5
                            have HH := Lib.hid e2.symm
                            clear hE e2 e5
                            generalize psA X a dn = G at hcl HN
                            have q := eql_lk X X
                            rw [Lk.same] at q
                            have hge := lk_guard
                            go_wp2_with (first
                              | (with_reducible refine wpList_load_mid rfl _ _ rfl _ _ rfl _ _ (range_below HRG.out HK.out.bel HC.out) Try.underlying37 rfl (d_info4 _ _ _ _) ?_)
                              | (with_reducible refine alloc_zero HK.out 4 d_zero rfl rfl ?_; intro bd u hnn hk hb; clear hnn hb; clear HK; have HK := Lib.hid hk; clear hk)
                              | (with_reducible refine store_all HK.out 0 4 d_info rfl rfl _ _ rfl rfl rfl rfl rfl (zer_length 4) ?_; intro u hk hs; clear hs; simp only [List.set_cons_zero] at hk; clear hc0 hc1 hc2 hc3; obtain ⟨hc0, hc1, hc2, hc3⟩ := cells4 (hk.get 0 rfl); clear HK; have HK := Lib.hid hk; clear hk)
                              | (with_reducible refine load_lk HK.out 2 HX.out HLS.out rfl _ rfl rfl rfl ?_)
                              | (with_reducible refine alloc_zero HK.out 4 lk_zero rfl rfl ?_; intro bx u hnn hk hb; clear hnn hb; clear hc0 hc1 hc2 hc3; obtain ⟨hc0, hc1, hc2, hc3⟩ := cells4 (hk.get 1 rfl); clear HK; have HK := Lib.hid hk; clear hk)
                              | (with_reducible refine store_all HK.out 0 4 lk_info rfl rfl _ _ rfl rfl rfl rfl (Lk.len _) (zer_length 4) ?_; intro u hk hs; clear hs; simp only [List.set_cons_zero] at hk; clear hc0 hc1 hc2 hc3; obtain ⟨hc0, hc1, hc2, hc3⟩ := cells4 (hk.get 1 rfl); clear HK; have HK := Lib.hid hk; clear hk)
                              | (with_reducible refine load_all HK.out 0 4 Try.underlying23 rfl lk_info rfl _ rfl rfl rfl (Lk.len _) ?_)
                              | (go_at_call 16; (with_reducible refine (hcl _).mono ?_); rintro e u ⟨rfl, hb⟩; have hk := HK.out.call hb; clear hb; clear hc0 hc1 hc2 hc3; obtain ⟨hc0, hc1, hc2, hc3⟩ := cells4 (hk.get 1 rfl); clear HK; have HK := Lib.hid hk; clear hk)
                              | (with_reducible refine store_all HK.out 0 4 lk_info rfl rfl _ _ rfl rfl rfl rfl (Lk.len _) (Lk.len _) ?_; intro u hk hs; clear hs; simp only [List.set_cons_zero] at hk; clear hc0 hc1 hc2 hc3; obtain ⟨hc0, hc1, hc2, hc3⟩ := cells4 (hk.get 1 rfl); clear HK; have HK := Lib.hid hk; clear hk))
                            refine Draws.start (S := fun u => KeepR w [(bx, 23, G.l), (bd, 37, [1, (a : Int), dk, dn]), (ba, 23, X.l), (bs, 33, S), (bf, 23, X0.l)] u) (n := 13) 13 rfl (by kernel_rfl) ?_
                            have HSS := Lib.hid ((HK.out.drew : (fun u => KeepR w [(bx, 23, G.l), (bd, 37, [1, (a : Int), dk, dn]), (ba, 23, X.l), (bs, 33, S), (bf, 23, X0.l)] u) _))
                            refine Draws.take 0 (v := ?v15) HSS.out rfl (by kernel_rfl) (fun _ _ _ h => h) (Or.inl ⟨rfl, ?h15⟩) ?r15
                            case h15 => intro w' hw'; go_simp; (try with_reducible rfl)
                            (try simp only [Act.put, List.setIfInBounds_toArray, List.set_cons_zero, List.set_cons_succ])
                            refine Draws.take 1 (v := ?v16) HSS.out rfl (by kernel_rfl) (fun _ _ _ h => h) (Or.inl ⟨rfl, ?h16⟩) ?r16
                            case h16 => intro w' hw'; have hc := (cells4 (hw'.get 1 rfl)).2.1; go_simp; (try with_reducible rfl)
                            (try simp only [Act.put, List.setIfInBounds_toArray, List.set_cons_zero, List.set_cons_succ])
                            refine Draws.take 2 (v := ?v17) HSS.out rfl (by kernel_rfl) (fun _ _ _ h => h) (Or.inl ⟨rfl, ?h17⟩) ?r17
                            case h17 => intro w' hw'; go_simp; (try with_reducible rfl)
                            (try simp only [Act.put, List.setIfInBounds_toArray, List.set_cons_zero, List.set_cons_succ])
                            refine Draws.take 3 (v := ?v18) HSS.out rfl (by kernel_rfl) (fun _ _ _ h => h) (Or.inl ⟨rfl, ?h18⟩) ?r18
                            case h18 => intro w' hw'; have hc := (hw'.get 2 rfl).cell (k := 2) (Lk.p2 _); rw [Lk.g2, HH.out] at hc; go_simp; (try with_reducible rfl)
                            (try simp only [Act.put, List.setIfInBounds_toArray, List.set_cons_zero, List.set_cons_succ])
                            refine Draws.take 4 (v := ?v19) HSS.out rfl (by kernel_rfl) (fun _ _ _ h => h) (Or.inl ⟨rfl, ?h19⟩) ?r19
                            case h19 => intro w' hw'; go_simp; (try with_reducible rfl)
                            (try simp only [Act.put, List.setIfInBounds_toArray, List.set_cons_zero, List.set_cons_succ])
                            refine Draws.take 5 (v := ?v20) HSS.out rfl (by kernel_rfl) (fun _ _ _ h => h) (Or.inl ⟨rfl, ?h20⟩) ?r20
                            case h20 => intro w' hw'; go_simp; (try with_reducible rfl)
                            (try simp only [Act.put, List.setIfInBounds_toArray, List.set_cons_zero, List.set_cons_succ])
                            refine Draws.take 6 (v := ?v21) HSS.out rfl (by kernel_rfl) (fun _ _ _ h => h) (Or.inl ⟨rfl, ?h21⟩) ?r21
                            case h21 => intro w' hw'; go_simp; (try with_reducible rfl)
                            (try simp only [Act.put, List.setIfInBounds_toArray, List.set_cons_zero, List.set_cons_succ])
                            refine Draws.take 7 (v := ?v22) HSS.out rfl (by kernel_rfl) (fun _ _ _ h => h) (Or.inl ⟨rfl, ?h22⟩) ?r22
                            case h22 => intro w' hw'; have hc := (cells4 (hw'.get 1 rfl)).2.1; go_simp; (try with_reducible rfl)
                            (try simp only [Act.put, List.setIfInBounds_toArray, List.set_cons_zero, List.set_cons_succ])
                            refine Draws.take 8 (v := ?v23) HSS.out rfl (by kernel_rfl) (fun _ _ _ h => h) (Or.inl ⟨rfl, ?h23⟩) ?r23
                            case h23 => intro w' hw'; go_simp; (try with_reducible rfl)
                            (try simp only [Act.put, List.setIfInBounds_toArray, List.set_cons_zero, List.set_cons_succ])
                            refine Draws.take 9 HSS.out rfl (by kernel_rfl) (fun _ _ _ h => h) (yield_lk (fun _ h => h) 3 HX.out HLS.out rfl _ rfl rfl rfl) ?_
                            (try simp only [Act.put, List.setIfInBounds_toArray, List.set_cons_zero, List.set_cons_succ])
                            refine Draws.take 10 HSS.out rfl (by kernel_rfl) (fun _ _ _ h => h) (yield_all (fun _ h => h) 2 4 Try.underlying23 rfl lk_info rfl _ rfl rfl rfl (Lk.len _)) ?_
                            (try simp only [Act.put, List.setIfInBounds_toArray, List.set_cons_zero, List.set_cons_succ])
                            refine Draws.take 11 (v := ?v24) HSS.out rfl (by kernel_rfl) (fun _ _ _ h => h) (Or.inl ⟨rfl, ?h24⟩) ?r24
                            case h24 => intro w' hw'; go_simp; (try with_reducible rfl)
                            (try simp only [Act.put, List.setIfInBounds_toArray, List.set_cons_zero, List.set_cons_succ])
                            refine Draws.take 12 (v := ?v25) HSS.out rfl (by kernel_rfl) (fun _ _ _ h => h) (Or.inl ⟨rfl, ?h25⟩) ?r25
                            case h25 => intro w' hw'; go_simp; (try with_reducible rfl)
                            (try simp only [Act.put, List.setIfInBounds_toArray, List.set_cons_zero, List.set_cons_succ])
                            refine Draws.done (by kernel_rfl) ?_
                            clear HK
                            have hk := HSS.out; clear HSS
                            clear hc0 hc1 hc2 hc3
                            obtain ⟨hc0, hc1, hc2, hc3⟩ := cells4 (hk.get 1 rfl)
                            have HK := Lib.hid hk; clear hk
                            go_wp2
                            have HFU := Lib.hid (HK.out.drew)
                            refine Draws.start (S := fun u => KeepR w [(bx, 23, G.l), (bd, 37, [1, (a : Int), dk, dn])] u) (n := 6) 7 rfl (by kernel_rfl) ?_
                            have HSS := Lib.hid ((HFU.out.sub (by simp) : (fun u => KeepR w [(bx, 23, G.l), (bd, 37, [1, (a : Int), dk, dn])] u) _))
                            refine Draws.take 0 (v := ?v26) HSS.out rfl (by kernel_rfl) (fun _ _ _ h => h) (Or.inl ⟨rfl, ?h26⟩) ?r26
                            case h26 => intro w' hw'; go_simp; (try with_reducible rfl)
                            (try simp only [Act.put, List.setIfInBounds_toArray, List.set_cons_zero, List.set_cons_succ])
                            refine Draws.take 1 (v := ?v27) HSS.out rfl (by kernel_rfl) (fun _ _ _ h => h) (Or.inl ⟨rfl, ?h27⟩) ?r27
                            case h27 => intro w' hw'; have hc := (cells4 (hw'.get 1 rfl)).2.1; go_simp; (try with_reducible rfl)
                            (try simp only [Act.put, List.setIfInBounds_toArray, List.set_cons_zero, List.set_cons_succ])
                            refine Draws.take 2 HSS.out rfl (by kernel_rfl) (fun _ _ _ h => h) (yield_all (fun _ h => h) 0 4 Try.underlying23 rfl lk_info rfl _ rfl rfl rfl (Lk.len _)) ?_
                            (try simp only [Act.put, List.setIfInBounds_toArray, List.set_cons_zero, List.set_cons_succ])
                            refine Draws.take 3 HSS.out rfl (by kernel_rfl) (fun _ _ _ h => h) (yield_all (fun _ h => h) 0 4 Try.underlying23 rfl lk_info rfl _ rfl rfl rfl (Lk.len _)) ?_
                            (try simp only [Act.put, List.setIfInBounds_toArray, List.set_cons_zero, List.set_cons_succ])
                            refine Draws.take 4 (v := ?v28) HSS.out rfl (by kernel_rfl) (fun _ _ _ h => h) (Or.inl ⟨rfl, ?h28⟩) ?r28
                            case h28 => intro w' hw'; go_simp; (try with_reducible rfl)
                            (try simp only [Act.put, List.setIfInBounds_toArray, List.set_cons_zero, List.set_cons_succ])
                            refine Draws.does 5 rfl (by kernel_rfl) rfl (fun K hK => ?_)
                            refine wp_store_part HFU.out 3 4 lk_info rfl _ _ rfl rfl rfl rfl (Lk.len _) HLS.out ?_
                            intro u hk
                            simp only [List.set_cons_zero, List.set_cons_succ] at hk
                            refine hK.out _ _ (fun _ => hk.sub (by simp)) ?_
                            clear hK K HSS HFU HK
                            have HFU := Lib.hid hk; clear hk
                            (try simp only [Act.put, List.setIfInBounds_toArray, List.set_cons_zero, List.set_cons_succ])
                            refine Draws.does 6 rfl (by kernel_rfl) rfl (fun K hK => ?_)
                            refine wp_store_part HFU.out 2 4 lk_info rfl _ _ rfl rfl rfl rfl (Lk.len _) (by rw [Lk.len]; omega) ?_
                            intro u hk
                            rw [splice_all (by rw [Lk.len, Lk.len])] at hk
                            simp only [List.set_cons_zero, List.set_cons_succ] at hk
                            refine hK.out _ _ (fun h => absurd h (by omega)) ?_
                            clear hK K HFU
                            clear hc0 hc1 hc2 hc3
                            obtain ⟨hc0, hc1, hc2, hc3⟩ := cells4 (hk.get 1 rfl)
                            have HK := Lib.hid hk; clear hk
                            refine Draws.done (by kernel_rfl) ?_
                            go_wp2
                            go_roundw
                            case rel => exact ⟨k + 1, by omega, by go_num, _, G, _, (by rw [splice_length]; exact HS.out), (by rw [st_upd HLS.out]; exact HN.out), HK.out.tail.tail⟩
                            case measure => simp [intOf]; omega
                          · generalize psA X a dn = G at hcl
                            generalize psE X a dn = ee at hE hcl
                            go_wp2_with (first
                              | (with_reducible refine wpList_load_mid rfl _ _ rfl _ _ rfl _ _ (range_below HRG.out HK.out.bel HC.out) Try.underlying37 rfl (d_info4 _ _ _ _) ?_)
                              | (with_reducible refine alloc_zero HK.out 4 d_zero rfl rfl ?_; intro bd u hnn hk hb; clear hnn hb; clear HK; have HK := Lib.hid hk; clear hk)
                              | (with_reducible refine store_all HK.out 0 4 d_info rfl rfl _ _ rfl rfl rfl rfl rfl (zer_length 4) ?_; intro u hk hs; clear hs; simp only [List.set_cons_zero] at hk; clear hc0 hc1 hc2 hc3; obtain ⟨hc0, hc1, hc2, hc3⟩ := cells4 (hk.get 0 rfl); clear HK; have HK := Lib.hid hk; clear hk)
                              | (with_reducible refine load_lk HK.out 2 HX.out HLS.out rfl _ rfl rfl rfl ?_)
                              | (with_reducible refine alloc_zero HK.out 4 lk_zero rfl rfl ?_; intro bx u hnn hk hb; clear hnn hb; clear hc0 hc1 hc2 hc3; obtain ⟨hc0, hc1, hc2, hc3⟩ := cells4 (hk.get 1 rfl); clear HK; have HK := Lib.hid hk; clear hk)
                              | (with_reducible refine store_all HK.out 0 4 lk_info rfl rfl _ _ rfl rfl rfl rfl (Lk.len _) (zer_length 4) ?_; intro u hk hs; clear hs; simp only [List.set_cons_zero] at hk; clear hc0 hc1 hc2 hc3; obtain ⟨hc0, hc1, hc2, hc3⟩ := cells4 (hk.get 1 rfl); clear HK; have HK := Lib.hid hk; clear hk)
                              | (with_reducible refine load_all HK.out 0 4 Try.underlying23 rfl lk_info rfl _ rfl rfl rfl (Lk.len _) ?_)
                              | (go_at_call 16; (with_reducible refine (hcl _).mono ?_); rintro e u ⟨rfl, hb⟩; have hk := HK.out.call hb; clear hb; clear hc0 hc1 hc2 hc3; obtain ⟨hc0, hc1, hc2, hc3⟩ := cells4 (hk.get 1 rfl); clear HK; have HK := Lib.hid hk; clear hk)
                              | (with_reducible refine store_all HK.out 0 4 lk_info rfl rfl _ _ rfl rfl rfl rfl (Lk.len _) (Lk.len _) ?_; intro u hk hs; clear hs; simp only [List.set_cons_zero] at hk; clear hc0 hc1 hc2 hc3; obtain ⟨hc0, hc1, hc2, hc3⟩ := cells4 (hk.get 1 rfl); clear HK; have HK := Lib.hid hk; clear hk))
                            go_roundw
                            case rel => exact ⟨k + 1, by omega, by go_num, S, L, seen, HS.out, HI.out, HK.out.tail.tail⟩
                            case measure => simp [intOf]; omega
                        · by_cases v2 : dv = 2
                          · subst v2
                            by_cases kk : 0 ≤ dk ∧ dk ≤ 15
                            · obtain ⟨k0, k1⟩ := kk
                              obtain ⟨bb, rfl⟩ : ∃ bb : Nat, dk = bb := ⟨dk.toNat, by omega⟩
                              have hbb : bb < 16 := by omega
                              have bb1 : (bb : Int) < 16 := by omega
                              have HLB := Lib.hid (show bb * 4 + 4 ≤ S.length by have := HS.out; omega)
                              have hN := (HI.out.hears ha hbb).2
                              rw [HX.out] at hN
                              have hcl := join_any X (st S bb)
                              obtain ⟨Y, hY⟩ : ∃ Y : Lk, st S bb = Y := ⟨_, rfl⟩
                              rw [hY] at hN hcl
                              have HY := Lib.hid hY; have HN := Lib.hid hN
                              clear hY hN
                              generalize joinK X Y = G at hcl HN
                              go_wp2_with (first
                                | (with_reducible refine wpList_load_mid rfl _ _ rfl _ _ rfl _ _ (range_below HRG.out HK.out.bel HC.out) Try.underlying37 rfl (d_info4 _ _ _ _) ?_)
                                | (with_reducible refine alloc_zero HK.out 4 d_zero rfl rfl ?_; intro bd u hnn hk hb; clear hnn hb; clear HK; have HK := Lib.hid hk; clear hk)
                                | (with_reducible refine store_all HK.out 0 4 d_info rfl rfl _ _ rfl rfl rfl rfl rfl (zer_length 4) ?_; intro u hk hs; clear hs; simp only [List.set_cons_zero] at hk; clear hc0 hc1 hc2 hc3; obtain ⟨hc0, hc1, hc2, hc3⟩ := cells4 (hk.get 0 rfl); clear HK; have HK := Lib.hid hk; clear hk)
                                | (with_reducible refine load_lk HK.out 2 HX.out HLS.out rfl _ rfl rfl rfl ?_)
                                | (with_reducible refine alloc_zero HK.out 4 lk_zero rfl rfl ?_; intro bx u hnn hk hb; clear hnn hb; clear hc0 hc1 hc2 hc3; obtain ⟨hc0, hc1, hc2, hc3⟩ := cells4 (hk.get 1 rfl); clear HK; have HK := Lib.hid hk; clear hk)
                                | (with_reducible refine store_all HK.out 0 4 lk_info rfl rfl _ _ rfl rfl rfl rfl (Lk.len _) (zer_length 4) ?_; intro u hk hs; clear hs; simp only [List.set_cons_zero] at hk; clear hc0 hc1 hc2 hc3; obtain ⟨hc0, hc1, hc2, hc3⟩ := cells4 (hk.get 1 rfl); clear HK; have HK := Lib.hid hk; clear hk)
                                | (with_reducible refine load_all HK.out 0 4 Try.underlying23 rfl lk_info rfl _ rfl rfl rfl (Lk.len _) ?_))
                              refine Draws.start (S := fun u => KeepR w [(bx, 23, X.l), (bd, 37, [2, (a : Int), (bb : Int), dn]), (ba, 23, L.l), (bs, 33, S), (bf, 23, X0.l)] u) (n := 9) 10 rfl (by kernel_rfl) ?_
                              have HSS := Lib.hid ((HK.out.drew : (fun u => KeepR w [(bx, 23, X.l), (bd, 37, [2, (a : Int), (bb : Int), dn]), (ba, 23, L.l), (bs, 33, S), (bf, 23, X0.l)] u) _))
                              refine Draws.take 0 (v := ?v29) HSS.out rfl (by kernel_rfl) (fun _ _ _ h => h) (Or.inl ⟨rfl, ?h29⟩) ?r29
                              case h29 => intro w' hw'; go_simp; (try with_reducible rfl)
                              (try simp only [Act.put, List.setIfInBounds_toArray, List.set_cons_zero, List.set_cons_succ])
                              refine Draws.take 1 (v := ?v30) HSS.out rfl (by kernel_rfl) (fun _ _ _ h => h) (Or.inl ⟨rfl, ?h30⟩) ?r30
                              case h30 => intro w' hw'; have hc := (cells4 (hw'.get 1 rfl)).2.1; go_simp; (try with_reducible rfl)
                              (try simp only [Act.put, List.setIfInBounds_toArray, List.set_cons_zero, List.set_cons_succ])
                              refine Draws.take 2 HSS.out rfl (by kernel_rfl) (fun _ _ _ h => h) (yield_all (fun _ h => h) 0 4 Try.underlying23 rfl lk_info rfl _ rfl rfl rfl (Lk.len _)) ?_
                              (try simp only [Act.put, List.setIfInBounds_toArray, List.set_cons_zero, List.set_cons_succ])
                              refine Draws.take 3 (v := ?v31) HSS.out rfl (by kernel_rfl) (fun _ _ _ h => h) (Or.inl ⟨rfl, ?h31⟩) ?r31
                              case h31 => intro w' hw'; go_simp; (try with_reducible rfl)
                              (try simp only [Act.put, List.setIfInBounds_toArray, List.set_cons_zero, List.set_cons_succ])
                              refine Draws.take 4 (v := ?v32) HSS.out rfl (by kernel_rfl) (fun _ _ _ h => h) (Or.inl ⟨rfl, ?h32⟩) ?r32
                              case h32 => intro w' hw'; have hc := (cells4 (hw'.get 1 rfl)).2.2.1; go_simp; (try with_reducible rfl)
                              (try simp only [Act.put, List.setIfInBounds_toArray, List.set_cons_zero, List.set_cons_succ])
                              refine Draws.take 5 (v := ?v33) HSS.out rfl (by kernel_rfl) (fun _ _ _ h => h) (Or.inl ⟨rfl, ?h33⟩) ?r33
                              case h33 => intro w' hw'; go_simp; (try with_reducible rfl)
                              (try simp only [Act.put, List.setIfInBounds_toArray, List.set_cons_zero, List.set_cons_succ])
                              refine Draws.take 6 HSS.out rfl (by kernel_rfl) (fun _ _ _ h => h) (yield_lk (fun _ h => h) 3 HY.out HLB.out rfl _ rfl rfl rfl) ?_
                              (try simp only [Act.put, List.setIfInBounds_toArray, List.set_cons_zero, List.set_cons_succ])
                              refine Draws.does 7 rfl (by kernel_rfl) rfl (fun K hK => ?_)
                              go_simp
                              go_at_call 9
                              refine (hcl _).mono ?_
                              rintro e u ⟨rfl, hb⟩
                              (try dsimp only)
                              refine hK.out _ _ (fun _ => HSS.out.call hb) ?_
                              clear hK K
                              have hs : (fun u => KeepR w [(bx, 23, X.l), (bd, 37, [2, (a : Int), (bb : Int), dn]), (ba, 23, L.l), (bs, 33, S), (bf, 23, X0.l)] u) u := HSS.out.call hb
                              clear HSS
                              have HSS := Lib.hid hs; clear hs
                              (try simp only [Act.put, List.setIfInBounds_toArray, List.set_cons_zero, List.set_cons_succ])
                              clear hb
                              refine Draws.take 8 (v := ?v34) HSS.out rfl (by kernel_rfl) (fun _ _ _ h => h) (Or.inl ⟨rfl, ?h34⟩) ?r34
                              case h34 => intro w' hw'; go_simp; (try with_reducible rfl)
                              (try simp only [Act.put, List.setIfInBounds_toArray, List.set_cons_zero, List.set_cons_succ])
                              refine Draws.does 9 rfl (by kernel_rfl) rfl (fun K hK => ?_)
                              refine wp_store_part HSS.out 3 4 lk_info rfl _ _ rfl rfl rfl rfl (Lk.len _) HLS.out ?_
                              intro u hk
                              simp only [List.set_cons_zero, List.set_cons_succ] at hk
                              refine hK.out _ _ (fun h => absurd h (by omega)) ?_
                              clear hK K HSS HK
                              clear hc0 hc1 hc2 hc3
                              obtain ⟨hc0, hc1, hc2, hc3⟩ := cells4 (hk.get 1 rfl)
                              have HK := Lib.hid hk; clear hk
                              refine Draws.done (by kernel_rfl) ?_
                              go_wp2
                              go_roundw
                              case rel => exact ⟨k + 1, by omega, by go_num, _, L, seen, (by rw [splice_length]; exact HS.out), (by rw [st_upd HLS.out]; exact HN.out), HK.out.tail.tail⟩
                              case measure => simp [intOf]; omega
                            · by_cases k0 : 0 ≤ dk
                              · have k1 : ¬ dk ≤ 15 := fun h => kk ⟨k0, h⟩
                                clear kk
                                go_wp2_with (first
                                  | (with_reducible refine wpList_load_mid rfl _ _ rfl _ _ rfl _ _ (range_below HRG.out HK.out.bel HC.out) Try.underlying37 rfl (d_info4 _ _ _ _) ?_)
                                  | (with_reducible refine alloc_zero HK.out 4 d_zero rfl rfl ?_; intro bd u hnn hk hb; clear hnn hb; clear HK; have HK := Lib.hid hk; clear hk)
                                  | (with_reducible refine store_all HK.out 0 4 d_info rfl rfl _ _ rfl rfl rfl rfl rfl (zer_length 4) ?_; intro u hk hs; clear hs; simp only [List.set_cons_zero] at hk; clear hc0 hc1 hc2 hc3; obtain ⟨hc0, hc1, hc2, hc3⟩ := cells4 (hk.get 0 rfl); clear HK; have HK := Lib.hid hk; clear hk)
                                  | (with_reducible refine load_lk HK.out 2 HX.out HLS.out rfl _ rfl rfl rfl ?_)
                                  | (with_reducible refine alloc_zero HK.out 4 lk_zero rfl rfl ?_; intro bx u hnn hk hb; clear hnn hb; clear hc0 hc1 hc2 hc3; obtain ⟨hc0, hc1, hc2, hc3⟩ := cells4 (hk.get 1 rfl); clear HK; have HK := Lib.hid hk; clear hk)
                                  | (with_reducible refine store_all HK.out 0 4 lk_info rfl rfl _ _ rfl rfl rfl rfl (Lk.len _) (zer_length 4) ?_; intro u hk hs; clear hs; simp only [List.set_cons_zero] at hk; clear hc0 hc1 hc2 hc3; obtain ⟨hc0, hc1, hc2, hc3⟩ := cells4 (hk.get 1 rfl); clear HK; have HK := Lib.hid hk; clear hk)
                                  | (with_reducible refine load_all HK.out 0 4 Try.underlying23 rfl lk_info rfl _ rfl rfl rfl (Lk.len _) ?_))
                                go_roundw
                                case rel => exact ⟨k + 1, by omega, by go_num, S, L, seen, HS.out, HI.out, HK.out.tail.tail⟩
                                case measure => simp [intOf]; omega
                              · clear kk
                                go_wp2_with (first
                                  | (with_reducible refine wpList_load_mid rfl _ _ rfl _ _ rfl _ _ (range_below HRG.out HK.out.bel HC.out) Try.underlying37 rfl (d_info4 _ _ _ _) ?_)
                                  | (with_reducible refine alloc_zero HK.out 4 d_zero rfl rfl ?_; intro bd u hnn hk hb; clear hnn hb; clear HK; have HK := Lib.hid hk; clear hk)
                                  | (with_reducible refine store_all HK.out 0 4 d_info rfl rfl _ _ rfl rfl rfl rfl rfl (zer_length 4) ?_; intro u hk hs; clear hs; simp only [List.set_cons_zero] at hk; clear hc0 hc1 hc2 hc3; obtain ⟨hc0, hc1, hc2, hc3⟩ := cells4 (hk.get 0 rfl); clear HK; have HK := Lib.hid hk; clear hk)
                                  | (with_reducible refine load_lk HK.out 2 HX.out HLS.out rfl _ rfl rfl rfl ?_)
                                  | (with_reducible refine alloc_zero HK.out 4 lk_zero rfl rfl ?_; intro bx u hnn hk hb; clear hnn hb; clear hc0 hc1 hc2 hc3; obtain ⟨hc0, hc1, hc2, hc3⟩ := cells4 (hk.get 1 rfl); clear HK; have HK := Lib.hid hk; clear hk)
                                  | (with_reducible refine store_all HK.out 0 4 lk_info rfl rfl _ _ rfl rfl rfl rfl (Lk.len _) (zer_length 4) ?_; intro u hk hs; clear hs; simp only [List.set_cons_zero] at hk; clear hc0 hc1 hc2 hc3; obtain ⟨hc0, hc1, hc2, hc3⟩ := cells4 (hk.get 1 rfl); clear HK; have HK := Lib.hid hk; clear hk)
                                  | (with_reducible refine load_all HK.out 0 4 Try.underlying23 rfl lk_info rfl _ rfl rfl rfl (Lk.len _) ?_))
                                go_roundw
                                case rel => exact ⟨k + 1, by omega, by go_num, S, L, seen, HS.out, HI.out, HK.out.tail.tail⟩
                                case measure => simp [intOf]; omega
                          · skip
                            go_wp2_with (first
                              | (with_reducible refine wpList_load_mid rfl _ _ rfl _ _ rfl _ _ (range_below HRG.out HK.out.bel HC.out) Try.underlying37 rfl (d_info4 _ _ _ _) ?_)
                              | (with_reducible refine alloc_zero HK.out 4 d_zero rfl rfl ?_; intro bd u hnn hk hb; clear hnn hb; clear HK; have HK := Lib.hid hk; clear hk)
                              | (with_reducible refine store_all HK.out 0 4 d_info rfl rfl _ _ rfl rfl rfl rfl rfl (zer_length 4) ?_; intro u hk hs; clear hs; simp only [List.set_cons_zero] at hk; clear hc0 hc1 hc2 hc3; obtain ⟨hc0, hc1, hc2, hc3⟩ := cells4 (hk.get 0 rfl); clear HK; have HK := Lib.hid hk; clear hk)
                              | (with_reducible refine load_lk HK.out 2 HX.out HLS.out rfl _ rfl rfl rfl ?_)
                              | (with_reducible refine alloc_zero HK.out 4 lk_zero rfl rfl ?_; intro bx u hnn hk hb; clear hnn hb; clear hc0 hc1 hc2 hc3; obtain ⟨hc0, hc1, hc2, hc3⟩ := cells4 (hk.get 1 rfl); clear HK; have HK := Lib.hid hk; clear hk)
                              | (with_reducible refine store_all HK.out 0 4 lk_info rfl rfl _ _ rfl rfl rfl rfl (Lk.len _) (zer_length 4) ?_; intro u hk hs; clear hs; simp only [List.set_cons_zero] at hk; clear hc0 hc1 hc2 hc3; obtain ⟨hc0, hc1, hc2, hc3⟩ := cells4 (hk.get 1 rfl); clear HK; have HK := Lib.hid hk; clear hk)
                              | (with_reducible refine load_all HK.out 0 4 Try.underlying23 rfl lk_info rfl _ rfl rfl rfl (Lk.len _) ?_))
                            go_roundw
                            case rel => exact ⟨k + 1, by omega, by go_num, S, L, seen, HS.out, HI.out, HK.out.tail.tail⟩
                            case measure => simp [intOf]; omega
            · obtain rfl : k = nn := by omega
              go_wp2_with (first
                | (go_at_call 13; (with_reducible refine (awake5 _).mono ?_); rintro e u ⟨rfl, hb⟩; have hk := HK.out.call hb; clear hb; clear HK; have HK := Lib.hid hk; clear hk))
              go_ret
              exact ⟨rfl, HK.out.bel⟩
    · have hn' : (80 : Int) < (nn : Int) := by omega
      have hn3 : decide ((80 : Int) < (nn : Int)) = true := by simp; omega
      clear HST
      go_enter Try.func5, Try.ntmps5
      go_wp2_with (first
        | (with_reducible refine alloc_zero HK.out 4 lk_zero rfl rfl ?_; intro bf u hnn hk hb; clear hnn hb; clear HK; have HK := Lib.hid hk; clear hk)
        | (go_at_call 14; (with_reducible refine (n1 _).mono ?_); rintro e u ⟨rfl, hb⟩; have hk := HK.out.call hb; clear hb; clear HK; have HK := Lib.hid hk; clear hk)
        | (with_reducible refine store_all HK.out 0 4 lk_info rfl rfl _ _ rfl rfl rfl rfl (Lk.len _) (zer_length 4) ?_; intro u hk hs; clear hs; simp only [List.set_cons_zero] at hk; clear HK; have HK := Lib.hid hk; clear hk)
        | (go_at_call 13; (with_reducible refine (awake5 _).mono ?_); rintro e u ⟨rfl, hb⟩; have hk := HK.out.call hb; clear hb; clear HK; have HK := Lib.hid hk; clear hk))
      go_ret
      exact ⟨rfl, HK.out.bel⟩
  · have h0' : (newE a0 0 == 0) = false := by simp [h0]
    generalize newE a0 0 = e at n1 h0 h0'
    generalize newA a0 0 = N at n1
    clear HST
    go_enter Try.func5, Try.ntmps5
    go_wp2_with (first
      | (with_reducible refine alloc_zero HK.out 4 lk_zero rfl rfl ?_; intro bf u hnn hk hb; clear hnn hb; clear HK; have HK := Lib.hid hk; clear hk)
      | (go_at_call 14; (with_reducible refine (n1 _).mono ?_); rintro e u ⟨rfl, hb⟩; have hk := HK.out.call hb; clear hb; clear HK; have HK := Lib.hid hk; clear hk)
      | (with_reducible refine store_all HK.out 0 4 lk_info rfl rfl _ _ rfl rfl rfl rfl (Lk.len _) (zer_length 4) ?_; intro u hk hs; clear hs; simp only [List.set_cons_zero] at hk; clear HK; have HK := Lib.hid hk; clear hk)
      | (go_at_call 13; (with_reducible refine (awake5 _).mono ?_); rintro e u ⟨rfl, hb⟩; have hk := HK.out.call hb; clear hb; clear HK; have HK := Lib.hid hk; clear hk))
    go_ret
    exact ⟨rfl, HK.out.bel⟩

set_option maxRecDepth 100000 in
theorem lifted (os : Os) (started : os.Started) (H : Type) (enc : TypeId × Value → H) :
    ReturnsInHanded {} Try.checked os 5 .any (Rows.lockHoldsSpec.pre6 enc Try.prog Try.f5 Rows.lockHoldsRow.domain false) (Rows.lockHoldsSpec.post enc Try.prog Try.f5 false true false false) := by
  refine returnsInHanded_of_change (C := Try.checked) own started (by kernel_rfl) Try.func5
    (ChangeSpec.witness6 (enc := enc) (C := Try.checked) false ⟨#[], #[.int .i64 0, .slice none 0 0], []⟩ 12 (by kernel_rfl) (by kernel_rfl) (by kernel_rfl) (by kernel_rfl)) ?_
  intro W base args ds gs before hval0 hW hcnd _
  have hval : ∀ (j : Nat) t v, Try.f5.params[j]? = some t → args[j]? = some v → Value.okWide Try.prog W .any base t v := hval0
  have hW' := hW
  obtain ⟨p, q, hA0, hV, rfl, hfz, hnd⟩ := hW
  have hA : DataW.TrodAll enc Try.prog W 0 (fun _ => true) true Try.f5.params.toList args.toList ds p := hA0
  rw [Try.params5] at hA hval
  obtain ⟨v0, vs0, d0, ds0, p0, q0, hargs, rfl, rfl, h0, r0⟩ := trodAll_cons hA
  obtain ⟨v1, vs1, d1, ds1, p1, q1, rfl, rfl, rfl, h1, r1⟩ := trodAll_cons r0
  obtain ⟨rfl, rfl, rfl⟩ := trodAll_nil r1
  obtain rfl : args = #[v0, v1] := by cases args; simp_all
  obtain ⟨rfl, rfl⟩ := trodVars_none hV
  have k0 := h0
  have lt0 : ∀ x ∈ p0, x.block < W.heap.size := by obtain ⟨m, hm⟩ := k0; exact DataW.trod_lt m _ _ _ hm
  obtain ⟨a0, rfl, rfl, rfl, w0⟩ := open_int Try.underlying3 (hval 0 3 v0 rfl rfl) h0
  have k1 := h1
  have lt1 : ∀ x ∈ p1, x.block < W.heap.size := by obtain ⟨m, hm⟩ := k1; exact DataW.trod_lt m _ _ _ hm
  obtain ⟨A1, n1, c1, x1, rfl, hd1⟩ := open_steps (hval 1 29 v1 rfl rfl) h1
  clear hA0 hval0
  refine (walk W a0 w0 A1 n1 c1 x1 hd1).mono fun e W' ⟨he, bel⟩ => ?_
  subst he
  exact ⟨_, rfl, _, _, _, [], _, [], hW', trodAll_mk1 (shut_bool Try.underlying4 _), (trodAll_cons_mk (Below.trod laidOut (by kernel_rfl) (of_decide_eq_true (by kernel_rfl)) k0 bel lt0) (trodAll_cons_mk (Below.trod laidOut (by kernel_rfl) (of_decide_eq_true (by kernel_rfl)) k1 bel lt1) trodAll_mk0)), rfl, bel.frame _, fun h => by cases h⟩

theorem over : Rows.lockHoldsRow.holds Try.pinned (OpenSpec.ofChange Rows.lockHoldsSpec) :=
  OpenClaim.holds_of_wide 5 Try.f5 rfl rfl rfl rfl rfl rfl rfl ⟨rfl, rfl, rfl, rfl, rfl⟩ rfl rfl rfl rfl rfl (by kernel_rfl) Try.func5 (by kernel_rfl)
    (of_decide_eq_true (by kernel_rfl)) (by unfold Func.isWrapper; first | (rw [if_pos (by decide +kernel)]; kernel_rfl) | (rw [if_neg (by decide +kernel)]; exact ⟨rfl, rfl⟩))
    (fun os started H enc _ => lifted os started H enc)

theorem proved : Rows.LockHoldsSaid := over
#print axioms proved
end Go.Proofs.Ytbaacdkjdkkifaa.lockHolds
