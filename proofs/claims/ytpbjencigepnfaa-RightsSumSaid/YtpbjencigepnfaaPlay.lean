/- A contract of usufructlaw03.Play. -/
import Derived.Test.YtpbjencigepnfaaPlayB
namespace Go.Proofs.Ytpbjencigepnfaa
open Go.ChangeShapes Go.WideShapes Go.ChangeAt Go.RowKit

theorem cells4 {u : World} {b : Nat} {t : TypeId} {p q r s : Int} (h : Blk u b t [p, q, r, s]) : u.cell? ⟨b, 0, none⟩ = some (.int .i64 p) ∧ u.cell? ⟨b, 1, none⟩ = some (.int .i64 q) ∧ u.cell? ⟨b, 2, none⟩ = some (.int .i64 r) ∧ u.cell? ⟨b, 3, none⟩ = some (.int .i64 s) :=
  ⟨h.cell (k := 0) (by simp), h.cell (k := 1) (by simp), h.cell (k := 2) (by simp), h.cell (k := 3) (by simp)⟩
theorem d_info4 (a b c d : Int) : (Try.prog.info? 67).map (·.size) = some (vals [a, b, c, d]).length := d_info
set_option maxRecDepth 100000 in
set_option maxHeartbeats 8000000 in
theorem play_any (A : Option Addr) (n c : Nat) (x : List Int) (hn : n ≤ 60) (w : World) (hs : Steps w A n x) :
    Calls Try.prog 28 #[.slice A n c] w fun e w' => ∃ S : List Int, e = .returned (.agg (vals S).toArray) ∧ S.length = 4608 ∧ Inv 60 (st S) ∧ Below w.heap.size w w' := by
  have HST := Lib.hid hs; clear hs
  have HK := Lib.hid (KeepR.start w)
  go_enter Try.func28, Try.ntmps28
  go_wp2_with (first
    | (with_reducible refine alloc_zero (l := []) HK.out 4608 s_zero rfl rfl ?_; intro b2 u hnn hk hb; clear hnn hb; clear HK; have HK := Lib.hid hk; clear hk)
    | (with_reducible refine alloc_zero HK.out 4608 s_zero rfl rfl ?_; intro b3 u hnn hk hb; clear hnn hb; clear HK; have HK := Lib.hid hk; clear hk))
  go_loopw [10] (fun i wr => ∃ k : Nat, k ≤ n ∧ i = .int .i64 k ∧ ∃ S : List Int, S.length = 4608 ∧ Inv k (st S) ∧ KeepR w [(b3, 42, S), (b2, 42, zer 4608)] wr) (fun i _ => n - (intOf i).toNat)
  case atStart => exact ⟨0, by omega, rfl, zer 4608, zer_length 4608, st_zero, HK.out⟩
  case round =>
    obtain ⟨k, hk0, rfl, S, hS, hI, hk⟩ := hrel
    clear HK
    have HK := Lib.hid hk; have HS := Lib.hid hS; have HI := Lib.hid hI
    clear hk hS hI
    by_cases hlt : k < n
    · obtain ⟨hmx, h0 | ⟨b, off, rfl, hx, hc⟩⟩ := HST.out
      · omega
      clear hmx
      have hrg := reads_steps hx hc hlt
      have hsg := seg4 (x := x) (o := k * 4) (by omega)
      have HC := Lib.hid (cell_lt (hc (k * 4) (by omega)))
      rw [hsg] at hrg
      generalize x.getD (k * 4) 0 = dv at hrg
      generalize x.getD (k * 4 + 1) 0 = di at hrg
      generalize x.getD (k * 4 + 2) 0 = dk at hrg
      generalize x.getD (k * 4 + 3) 0 = dn at hrg
      have HRG := Lib.hid hrg
      clear hsg hx hc hrg
      have i1 : (0 : Int) ≤ (k : Int) := by omega
      have i2 : (k : Int) < (n : Int) := by omega
      have hc0 := Lib.hid True.intro
      have hc1 := Lib.hid True.intro
      have hc2 := Lib.hid True.intro
      have hc3 := Lib.hid True.intro
      by_cases t1 : di < 0
      · skip
        go_wp2_with (first
          | (with_reducible refine wpList_load_mid rfl _ _ rfl _ _ rfl _ _ (range_below HRG.out HK.out.bel HC.out) Try.underlying67 rfl (d_info4 _ _ _ _) ?_)
          | (with_reducible refine alloc_zero HK.out 4 d_zero rfl rfl ?_; intro b5 u hnn hk hb; clear hnn hb; clear HK; have HK := Lib.hid hk; clear hk)
          | (with_reducible refine store_all HK.out 0 4 d_info rfl rfl _ _ rfl rfl rfl rfl rfl (zer_length 4) ?_; intro u hk hs; clear hs; simp only [List.set_cons_zero] at hk; clear hc0 hc1 hc2 hc3; obtain ⟨hc0, hc1, hc2, hc3⟩ := cells4 (hk.get 0 rfl); clear HK; have HK := Lib.hid hk; clear hk))
        go_roundw
        case rel => exact ⟨k + 1, by omega, by go_num, S, HS.out, HI.out.later (Nat.le_succ k), HK.out.tail⟩
        case measure => simp [intOf]; omega
      · by_cases t2 : 15 < di
        · skip
          go_wp2_with (first
            | (with_reducible refine wpList_load_mid rfl _ _ rfl _ _ rfl _ _ (range_below HRG.out HK.out.bel HC.out) Try.underlying67 rfl (d_info4 _ _ _ _) ?_)
            | (with_reducible refine alloc_zero HK.out 4 d_zero rfl rfl ?_; intro b5 u hnn hk hb; clear hnn hb; clear HK; have HK := Lib.hid hk; clear hk)
            | (with_reducible refine store_all HK.out 0 4 d_info rfl rfl _ _ rfl rfl rfl rfl rfl (zer_length 4) ?_; intro u hk hs; clear hs; simp only [List.set_cons_zero] at hk; clear hc0 hc1 hc2 hc3; obtain ⟨hc0, hc1, hc2, hc3⟩ := cells4 (hk.get 0 rfl); clear HK; have HK := Lib.hid hk; clear hk))
          go_roundw
          case rel => exact ⟨k + 1, by omega, by go_num, S, HS.out, HI.out.later (Nat.le_succ k), HK.out.tail⟩
          case measure => simp [intOf]; omega
        · by_cases t3 : 1000 < dn
          · skip
            go_wp2_with (first
              | (with_reducible refine wpList_load_mid rfl _ _ rfl _ _ rfl _ _ (range_below HRG.out HK.out.bel HC.out) Try.underlying67 rfl (d_info4 _ _ _ _) ?_)
              | (with_reducible refine alloc_zero HK.out 4 d_zero rfl rfl ?_; intro b5 u hnn hk hb; clear hnn hb; clear HK; have HK := Lib.hid hk; clear hk)
              | (with_reducible refine store_all HK.out 0 4 d_info rfl rfl _ _ rfl rfl rfl rfl rfl (zer_length 4) ?_; intro u hk hs; clear hs; simp only [List.set_cons_zero] at hk; clear hc0 hc1 hc2 hc3; obtain ⟨hc0, hc1, hc2, hc3⟩ := cells4 (hk.get 0 rfl); clear HK; have HK := Lib.hid hk; clear hk))
            go_roundw
            case rel => exact ⟨k + 1, by omega, by go_num, S, HS.out, HI.out.later (Nat.le_succ k), HK.out.tail⟩
            case measure => simp [intOf]; omega
          · obtain ⟨a, rfl⟩ : ∃ a : Nat, di = a := ⟨di.toNat, by omega⟩
            have ha : a < 16 := by omega
            have a1 : (0 : Int) ≤ (a : Int) := by omega
            have a2 : (a : Int) < 16 := by omega
            have HL := Lib.hid (seg_length (R := S) (o := a * 288) (n := 288) (by have := HS.out; omega))
            by_cases v0 : dv = 0
            · subst v0
              have hcl := give_any (seg S (a * 288) 288) HL.out a dn
              by_cases hE : grE (seg S (a * 288) 288) 0 a dn = 0
              · rw [hE] at hcl
                have HA := Lib.hid (grA_length HL.out 0 a dn)
                have HN := Lib.hid (step_give HI.out HS.out ha (by omega) hE)
                generalize hG : grA (seg S (a * 288) 288) 0 a dn = G at hcl HA HN
                clear hE hG
                go_wp2_with (first
                  | (with_reducible refine wpList_load_mid rfl _ _ rfl _ _ rfl _ _ (range_below HRG.out HK.out.bel HC.out) Try.underlying67 rfl (d_info4 _ _ _ _) ?_)
                  | (with_reducible refine alloc_zero HK.out 4 d_zero rfl rfl ?_; intro b5 u hnn hk hb; clear hnn hb; clear HK; have HK := Lib.hid hk; clear hk)
                  | (with_reducible refine store_all HK.out 0 4 d_info rfl rfl _ _ rfl rfl rfl rfl rfl (zer_length 4) ?_; intro u hk hs; clear hs; simp only [List.set_cons_zero] at hk; clear hc0 hc1 hc2 hc3; obtain ⟨hc0, hc1, hc2, hc3⟩ := cells4 (hk.get 0 rfl); clear HK; have HK := Lib.hid hk; clear hk)
                  | (with_reducible refine load_part HK.out 1 288 Try.underlying26 rfl r_info rfl _ rfl rfl rfl (by have := HS.out; omega) ?_)
                  | (with_reducible refine alloc_zero HK.out 288 r_zero rfl rfl ?_; intro b6 u hnn hk hb; clear hnn hb; clear hc0 hc1 hc2 hc3; obtain ⟨hc0, hc1, hc2, hc3⟩ := cells4 (hk.get 1 rfl); clear HK; have HK := Lib.hid hk; clear hk)
                  | (with_reducible refine store_all HK.out 0 288 r_info rfl rfl _ _ rfl rfl rfl rfl HL.out (zer_length 288) ?_; intro u hk hs; clear hs; simp only [List.set_cons_zero] at hk; clear hc0 hc1 hc2 hc3; obtain ⟨hc0, hc1, hc2, hc3⟩ := cells4 (hk.get 1 rfl); clear HK; have HK := Lib.hid hk; clear hk)
                  | (with_reducible refine load_all HK.out 0 288 Try.underlying26 rfl r_info rfl _ rfl rfl rfl HL.out ?_)
                  | (go_at_call 18; (with_reducible refine (hcl _).mono ?_); rintro e u ⟨rfl, hb⟩; have hk := HK.out.call hb; clear hb; clear hc0 hc1 hc2 hc3; obtain ⟨hc0, hc1, hc2, hc3⟩ := cells4 (hk.get 1 rfl); clear HK; have HK := Lib.hid hk; clear hk)
                  | (with_reducible refine store_all HK.out 0 288 r_info rfl rfl _ _ rfl rfl rfl rfl HA.out HL.out ?_; intro u hk hs; clear hs; simp only [List.set_cons_zero] at hk; clear hc0 hc1 hc2 hc3; obtain ⟨hc0, hc1, hc2, hc3⟩ := cells4 (hk.get 1 rfl); clear HK; have HK := Lib.hid hk; clear hk)
                  | (with_reducible refine load_all HK.out 0 288 Try.underlying26 rfl r_info rfl _ rfl rfl rfl HA.out ?_)
                  | (with_reducible refine store_part HK.out 2 288 r_info rfl rfl _ _ rfl rfl rfl rfl HA.out (by have := HS.out; omega) ?_; intro u hk hs; clear hs; simp only [List.set_cons_zero, List.set_cons_succ] at hk; clear HK; have HK := Lib.hid hk; clear hk))
                go_roundw
                case rel => exact ⟨k + 1, by omega, by go_num, _, by rw [splice_length]; exact HS.out, HN.out, HK.out.tail.tail⟩
                case measure => simp [intOf]; omega
              · have HA := Lib.hid (grA_length HL.out 0 a dn)
                generalize grA (seg S (a * 288) 288) 0 a dn = G at hcl HA
                generalize grE (seg S (a * 288) 288) 0 a dn = ee at hE hcl
                go_wp2_with (first
                  | (with_reducible refine wpList_load_mid rfl _ _ rfl _ _ rfl _ _ (range_below HRG.out HK.out.bel HC.out) Try.underlying67 rfl (d_info4 _ _ _ _) ?_)
                  | (with_reducible refine alloc_zero HK.out 4 d_zero rfl rfl ?_; intro b5 u hnn hk hb; clear hnn hb; clear HK; have HK := Lib.hid hk; clear hk)
                  | (with_reducible refine store_all HK.out 0 4 d_info rfl rfl _ _ rfl rfl rfl rfl rfl (zer_length 4) ?_; intro u hk hs; clear hs; simp only [List.set_cons_zero] at hk; clear hc0 hc1 hc2 hc3; obtain ⟨hc0, hc1, hc2, hc3⟩ := cells4 (hk.get 0 rfl); clear HK; have HK := Lib.hid hk; clear hk)
                  | (with_reducible refine load_part HK.out 1 288 Try.underlying26 rfl r_info rfl _ rfl rfl rfl (by have := HS.out; omega) ?_)
                  | (with_reducible refine alloc_zero HK.out 288 r_zero rfl rfl ?_; intro b6 u hnn hk hb; clear hnn hb; clear hc0 hc1 hc2 hc3; obtain ⟨hc0, hc1, hc2, hc3⟩ := cells4 (hk.get 1 rfl); clear HK; have HK := Lib.hid hk; clear hk)
                  | (with_reducible refine store_all HK.out 0 288 r_info rfl rfl _ _ rfl rfl rfl rfl HL.out (zer_length 288) ?_; intro u hk hs; clear hs; simp only [List.set_cons_zero] at hk; clear hc0 hc1 hc2 hc3; obtain ⟨hc0, hc1, hc2, hc3⟩ := cells4 (hk.get 1 rfl); clear HK; have HK := Lib.hid hk; clear hk)
                  | (with_reducible refine load_all HK.out 0 288 Try.underlying26 rfl r_info rfl _ rfl rfl rfl HL.out ?_)
                  | (go_at_call 18; (with_reducible refine (hcl _).mono ?_); rintro e u ⟨rfl, hb⟩; have hk := HK.out.call hb; clear hb; clear hc0 hc1 hc2 hc3; obtain ⟨hc0, hc1, hc2, hc3⟩ := cells4 (hk.get 1 rfl); clear HK; have HK := Lib.hid hk; clear hk)
                  | (with_reducible refine store_all HK.out 0 288 r_info rfl rfl _ _ rfl rfl rfl rfl HA.out HL.out ?_; intro u hk hs; clear hs; simp only [List.set_cons_zero] at hk; clear hc0 hc1 hc2 hc3; obtain ⟨hc0, hc1, hc2, hc3⟩ := cells4 (hk.get 1 rfl); clear HK; have HK := Lib.hid hk; clear hk))
                go_roundw
                case rel => exact ⟨k + 1, by omega, by go_num, S, HS.out, HI.out.later (Nat.le_succ k), HK.out.tail.tail⟩
                case measure => simp [intOf]; omega
            · by_cases v1 : dv = 1
              · subst v1
                have hcl := use_any (seg S (a * 288) 288) HL.out a dn
                by_cases hE : useE (seg S (a * 288) 288) a dn = 0
                · rw [hE] at hcl
                  have HA := Lib.hid (useA_length HL.out a dn)
                  have HN := Lib.hid (step_use HI.out (by omega) HS.out ha (by omega) hE)
                  generalize hG : useA (seg S (a * 288) 288) a dn = G at hcl HA HN
                  clear hE hG
                  go_wp2_with (first
                    | (with_reducible refine wpList_load_mid rfl _ _ rfl _ _ rfl _ _ (range_below HRG.out HK.out.bel HC.out) Try.underlying67 rfl (d_info4 _ _ _ _) ?_)
                    | (with_reducible refine alloc_zero HK.out 4 d_zero rfl rfl ?_; intro b5 u hnn hk hb; clear hnn hb; clear HK; have HK := Lib.hid hk; clear hk)
                    | (with_reducible refine store_all HK.out 0 4 d_info rfl rfl _ _ rfl rfl rfl rfl rfl (zer_length 4) ?_; intro u hk hs; clear hs; simp only [List.set_cons_zero] at hk; clear hc0 hc1 hc2 hc3; obtain ⟨hc0, hc1, hc2, hc3⟩ := cells4 (hk.get 0 rfl); clear HK; have HK := Lib.hid hk; clear hk)
                    | (with_reducible refine load_part HK.out 1 288 Try.underlying26 rfl r_info rfl _ rfl rfl rfl (by have := HS.out; omega) ?_)
                    | (with_reducible refine alloc_zero HK.out 288 r_zero rfl rfl ?_; intro b6 u hnn hk hb; clear hnn hb; clear hc0 hc1 hc2 hc3; obtain ⟨hc0, hc1, hc2, hc3⟩ := cells4 (hk.get 1 rfl); clear HK; have HK := Lib.hid hk; clear hk)
                    | (with_reducible refine store_all HK.out 0 288 r_info rfl rfl _ _ rfl rfl rfl rfl HL.out (zer_length 288) ?_; intro u hk hs; clear hs; simp only [List.set_cons_zero] at hk; clear hc0 hc1 hc2 hc3; obtain ⟨hc0, hc1, hc2, hc3⟩ := cells4 (hk.get 1 rfl); clear HK; have HK := Lib.hid hk; clear hk)
                    | (with_reducible refine load_all HK.out 0 288 Try.underlying26 rfl r_info rfl _ rfl rfl rfl HL.out ?_)
                    | (go_at_call 20; (with_reducible refine (hcl _).mono ?_); rintro e u ⟨rfl, hb⟩; have hk := HK.out.call hb; clear hb; clear hc0 hc1 hc2 hc3; obtain ⟨hc0, hc1, hc2, hc3⟩ := cells4 (hk.get 1 rfl); clear HK; have HK := Lib.hid hk; clear hk)
                    | (with_reducible refine store_all HK.out 0 288 r_info rfl rfl _ _ rfl rfl rfl rfl HA.out HL.out ?_; intro u hk hs; clear hs; simp only [List.set_cons_zero] at hk; clear hc0 hc1 hc2 hc3; obtain ⟨hc0, hc1, hc2, hc3⟩ := cells4 (hk.get 1 rfl); clear HK; have HK := Lib.hid hk; clear hk)
                    | (with_reducible refine load_all HK.out 0 288 Try.underlying26 rfl r_info rfl _ rfl rfl rfl HA.out ?_)
                    | (with_reducible refine store_part HK.out 2 288 r_info rfl rfl _ _ rfl rfl rfl rfl HA.out (by have := HS.out; omega) ?_; intro u hk hs; clear hs; simp only [List.set_cons_zero, List.set_cons_succ] at hk; clear HK; have HK := Lib.hid hk; clear hk))
                  go_roundw
                  case rel => exact ⟨k + 1, by omega, by go_num, _, by rw [splice_length]; exact HS.out, HN.out, HK.out.tail.tail⟩
                  case measure => simp [intOf]; omega
                · have HA := Lib.hid (useA_length HL.out a dn)
                  generalize useA (seg S (a * 288) 288) a dn = G at hcl HA
                  generalize useE (seg S (a * 288) 288) a dn = ee at hE hcl
                  go_wp2_with (first
                    | (with_reducible refine wpList_load_mid rfl _ _ rfl _ _ rfl _ _ (range_below HRG.out HK.out.bel HC.out) Try.underlying67 rfl (d_info4 _ _ _ _) ?_)
                    | (with_reducible refine alloc_zero HK.out 4 d_zero rfl rfl ?_; intro b5 u hnn hk hb; clear hnn hb; clear HK; have HK := Lib.hid hk; clear hk)
                    | (with_reducible refine store_all HK.out 0 4 d_info rfl rfl _ _ rfl rfl rfl rfl rfl (zer_length 4) ?_; intro u hk hs; clear hs; simp only [List.set_cons_zero] at hk; clear hc0 hc1 hc2 hc3; obtain ⟨hc0, hc1, hc2, hc3⟩ := cells4 (hk.get 0 rfl); clear HK; have HK := Lib.hid hk; clear hk)
                    | (with_reducible refine load_part HK.out 1 288 Try.underlying26 rfl r_info rfl _ rfl rfl rfl (by have := HS.out; omega) ?_)
                    | (with_reducible refine alloc_zero HK.out 288 r_zero rfl rfl ?_; intro b6 u hnn hk hb; clear hnn hb; clear hc0 hc1 hc2 hc3; obtain ⟨hc0, hc1, hc2, hc3⟩ := cells4 (hk.get 1 rfl); clear HK; have HK := Lib.hid hk; clear hk)
                    | (with_reducible refine store_all HK.out 0 288 r_info rfl rfl _ _ rfl rfl rfl rfl HL.out (zer_length 288) ?_; intro u hk hs; clear hs; simp only [List.set_cons_zero] at hk; clear hc0 hc1 hc2 hc3; obtain ⟨hc0, hc1, hc2, hc3⟩ := cells4 (hk.get 1 rfl); clear HK; have HK := Lib.hid hk; clear hk)
                    | (with_reducible refine load_all HK.out 0 288 Try.underlying26 rfl r_info rfl _ rfl rfl rfl HL.out ?_)
                    | (go_at_call 20; (with_reducible refine (hcl _).mono ?_); rintro e u ⟨rfl, hb⟩; have hk := HK.out.call hb; clear hb; clear hc0 hc1 hc2 hc3; obtain ⟨hc0, hc1, hc2, hc3⟩ := cells4 (hk.get 1 rfl); clear HK; have HK := Lib.hid hk; clear hk)
                    | (with_reducible refine store_all HK.out 0 288 r_info rfl rfl _ _ rfl rfl rfl rfl HA.out HL.out ?_; intro u hk hs; clear hs; simp only [List.set_cons_zero] at hk; clear hc0 hc1 hc2 hc3; obtain ⟨hc0, hc1, hc2, hc3⟩ := cells4 (hk.get 1 rfl); clear HK; have HK := Lib.hid hk; clear hk))
                  go_roundw
                  case rel => exact ⟨k + 1, by omega, by go_num, S, HS.out, HI.out.later (Nat.le_succ k), HK.out.tail.tail⟩
                  case measure => simp [intOf]; omega
              · by_cases v2 : dv = 2
                · subst v2
                  have hcl := move_any (seg S (a * 288) 288) HL.out a dk dn
                  by_cases hE : moveE (seg S (a * 288) 288) a dk dn = 0
                  · rw [hE] at hcl
                    have HA := Lib.hid (moveA_length HL.out a dk dn)
                    have HN := Lib.hid (step_move HI.out (by omega) HS.out ha (by omega) hE)
                    generalize hG : moveA (seg S (a * 288) 288) a dk dn = G at hcl HA HN
                    clear hE hG
                    go_wp2_with (first
                      | (with_reducible refine wpList_load_mid rfl _ _ rfl _ _ rfl _ _ (range_below HRG.out HK.out.bel HC.out) Try.underlying67 rfl (d_info4 _ _ _ _) ?_)
                      | (with_reducible refine alloc_zero HK.out 4 d_zero rfl rfl ?_; intro b5 u hnn hk hb; clear hnn hb; clear HK; have HK := Lib.hid hk; clear hk)
                      | (with_reducible refine store_all HK.out 0 4 d_info rfl rfl _ _ rfl rfl rfl rfl rfl (zer_length 4) ?_; intro u hk hs; clear hs; simp only [List.set_cons_zero] at hk; clear hc0 hc1 hc2 hc3; obtain ⟨hc0, hc1, hc2, hc3⟩ := cells4 (hk.get 0 rfl); clear HK; have HK := Lib.hid hk; clear hk)
                      | (with_reducible refine load_part HK.out 1 288 Try.underlying26 rfl r_info rfl _ rfl rfl rfl (by have := HS.out; omega) ?_)
                      | (with_reducible refine alloc_zero HK.out 288 r_zero rfl rfl ?_; intro b6 u hnn hk hb; clear hnn hb; clear hc0 hc1 hc2 hc3; obtain ⟨hc0, hc1, hc2, hc3⟩ := cells4 (hk.get 1 rfl); clear HK; have HK := Lib.hid hk; clear hk)
                      | (with_reducible refine store_all HK.out 0 288 r_info rfl rfl _ _ rfl rfl rfl rfl HL.out (zer_length 288) ?_; intro u hk hs; clear hs; simp only [List.set_cons_zero] at hk; clear hc0 hc1 hc2 hc3; obtain ⟨hc0, hc1, hc2, hc3⟩ := cells4 (hk.get 1 rfl); clear HK; have HK := Lib.hid hk; clear hk)
                      | (with_reducible refine load_all HK.out 0 288 Try.underlying26 rfl r_info rfl _ rfl rfl rfl HL.out ?_)
                      | (go_at_call 22; (with_reducible refine (hcl _).mono ?_); rintro e u ⟨rfl, hb⟩; have hk := HK.out.call hb; clear hb; clear hc0 hc1 hc2 hc3; obtain ⟨hc0, hc1, hc2, hc3⟩ := cells4 (hk.get 1 rfl); clear HK; have HK := Lib.hid hk; clear hk)
                      | (with_reducible refine store_all HK.out 0 288 r_info rfl rfl _ _ rfl rfl rfl rfl HA.out HL.out ?_; intro u hk hs; clear hs; simp only [List.set_cons_zero] at hk; clear hc0 hc1 hc2 hc3; obtain ⟨hc0, hc1, hc2, hc3⟩ := cells4 (hk.get 1 rfl); clear HK; have HK := Lib.hid hk; clear hk)
                      | (with_reducible refine load_all HK.out 0 288 Try.underlying26 rfl r_info rfl _ rfl rfl rfl HA.out ?_)
                      | (with_reducible refine store_part HK.out 2 288 r_info rfl rfl _ _ rfl rfl rfl rfl HA.out (by have := HS.out; omega) ?_; intro u hk hs; clear hs; simp only [List.set_cons_zero, List.set_cons_succ] at hk; clear HK; have HK := Lib.hid hk; clear hk))
                    go_roundw
                    case rel => exact ⟨k + 1, by omega, by go_num, _, by rw [splice_length]; exact HS.out, HN.out, HK.out.tail.tail⟩
                    case measure => simp [intOf]; omega
                  · have HA := Lib.hid (moveA_length HL.out a dk dn)
                    generalize moveA (seg S (a * 288) 288) a dk dn = G at hcl HA
                    generalize moveE (seg S (a * 288) 288) a dk dn = ee at hE hcl
                    go_wp2_with (first
                      | (with_reducible refine wpList_load_mid rfl _ _ rfl _ _ rfl _ _ (range_below HRG.out HK.out.bel HC.out) Try.underlying67 rfl (d_info4 _ _ _ _) ?_)
                      | (with_reducible refine alloc_zero HK.out 4 d_zero rfl rfl ?_; intro b5 u hnn hk hb; clear hnn hb; clear HK; have HK := Lib.hid hk; clear hk)
                      | (with_reducible refine store_all HK.out 0 4 d_info rfl rfl _ _ rfl rfl rfl rfl rfl (zer_length 4) ?_; intro u hk hs; clear hs; simp only [List.set_cons_zero] at hk; clear hc0 hc1 hc2 hc3; obtain ⟨hc0, hc1, hc2, hc3⟩ := cells4 (hk.get 0 rfl); clear HK; have HK := Lib.hid hk; clear hk)
                      | (with_reducible refine load_part HK.out 1 288 Try.underlying26 rfl r_info rfl _ rfl rfl rfl (by have := HS.out; omega) ?_)
                      | (with_reducible refine alloc_zero HK.out 288 r_zero rfl rfl ?_; intro b6 u hnn hk hb; clear hnn hb; clear hc0 hc1 hc2 hc3; obtain ⟨hc0, hc1, hc2, hc3⟩ := cells4 (hk.get 1 rfl); clear HK; have HK := Lib.hid hk; clear hk)
                      | (with_reducible refine store_all HK.out 0 288 r_info rfl rfl _ _ rfl rfl rfl rfl HL.out (zer_length 288) ?_; intro u hk hs; clear hs; simp only [List.set_cons_zero] at hk; clear hc0 hc1 hc2 hc3; obtain ⟨hc0, hc1, hc2, hc3⟩ := cells4 (hk.get 1 rfl); clear HK; have HK := Lib.hid hk; clear hk)
                      | (with_reducible refine load_all HK.out 0 288 Try.underlying26 rfl r_info rfl _ rfl rfl rfl HL.out ?_)
                      | (go_at_call 22; (with_reducible refine (hcl _).mono ?_); rintro e u ⟨rfl, hb⟩; have hk := HK.out.call hb; clear hb; clear hc0 hc1 hc2 hc3; obtain ⟨hc0, hc1, hc2, hc3⟩ := cells4 (hk.get 1 rfl); clear HK; have HK := Lib.hid hk; clear hk)
                      | (with_reducible refine store_all HK.out 0 288 r_info rfl rfl _ _ rfl rfl rfl rfl HA.out HL.out ?_; intro u hk hs; clear hs; simp only [List.set_cons_zero] at hk; clear hc0 hc1 hc2 hc3; obtain ⟨hc0, hc1, hc2, hc3⟩ := cells4 (hk.get 1 rfl); clear HK; have HK := Lib.hid hk; clear hk))
                    go_roundw
                    case rel => exact ⟨k + 1, by omega, by go_num, S, HS.out, HI.out.later (Nat.le_succ k), HK.out.tail.tail⟩
                    case measure => simp [intOf]; omega
                · by_cases v3 : dv = 3
                  · subst v3
                    by_cases kk : 0 ≤ dk ∧ dk ≤ 15
                    · obtain ⟨k0, k1⟩ := kk
                      obtain ⟨bb, rfl⟩ : ∃ bb : Nat, dk = bb := ⟨dk.toNat, by omega⟩
                      have hbb : bb < 16 := by omega
                      have bb1 : (bb : Int) < 16 := by omega
                      have HL2 := Lib.hid (seg_length (R := S) (o := bb * 288) (n := 288) (by have := HS.out; omega))
                      have HJ := Lib.hid (joinL_len HL.out HL2.out)
                      have HN := Lib.hid (step_hear HI.out HS.out ha hbb)
                      have HS0 := Lib.hid HS.out
                      go_wp2_with (first
                        | (with_reducible refine wpList_load_mid rfl _ _ rfl _ _ rfl _ _ (range_below HRG.out HK.out.bel HC.out) Try.underlying67 rfl (d_info4 _ _ _ _) ?_)
                        | (with_reducible refine alloc_zero HK.out 4 d_zero rfl rfl ?_; intro b5 u hnn hk hb; clear hnn hb; clear HK; have HK := Lib.hid hk; clear hk)
                        | (with_reducible refine store_all HK.out 0 4 d_info rfl rfl _ _ rfl rfl rfl rfl rfl (zer_length 4) ?_; intro u hk hs; clear hs; simp only [List.set_cons_zero] at hk; clear hc0 hc1 hc2 hc3; obtain ⟨hc0, hc1, hc2, hc3⟩ := cells4 (hk.get 0 rfl); clear HK; have HK := Lib.hid hk; clear hk)
                        | (with_reducible refine load_part HK.out 1 288 Try.underlying26 rfl r_info rfl _ rfl rfl rfl (by have := HS.out; omega) ?_)
                        | (with_reducible refine alloc_zero HK.out 288 r_zero rfl rfl ?_; intro b6 u hnn hk hb; clear hnn hb; clear hc0 hc1 hc2 hc3; obtain ⟨hc0, hc1, hc2, hc3⟩ := cells4 (hk.get 1 rfl); clear HK; have HK := Lib.hid hk; clear hk)
                        | (with_reducible refine store_all HK.out 0 288 r_info rfl rfl _ _ rfl rfl rfl rfl HL.out (zer_length 288) ?_; intro u hk hs; clear hs; simp only [List.set_cons_zero] at hk; clear hc0 hc1 hc2 hc3; obtain ⟨hc0, hc1, hc2, hc3⟩ := cells4 (hk.get 1 rfl); clear HK; have HK := Lib.hid hk; clear hk)
                        | (with_reducible refine load_all HK.out 0 288 Try.underlying26 rfl r_info rfl _ rfl rfl rfl HL.out ?_))
                      refine Draws.start (S := fun u => KeepR w [(b6, 26, seg S (a * 288) 288), (b5, 67, [3, (a : Int), (bb : Int), dn]), (b3, 42, S), (b2, 42, zer 4608)] u) (n := 6) 7 rfl (by kernel_rfl) ?_
                      have HS := Lib.hid ((HK.out.drew : (fun u => KeepR w [(b6, 26, seg S (a * 288) 288), (b5, 67, [3, (a : Int), (bb : Int), dn]), (b3, 42, S), (b2, 42, zer 4608)] u) _))
                      refine Draws.take 0 HS.out rfl (by kernel_rfl) (fun _ _ _ h => h) (yield_all (fun _ h => h) 0 288 Try.underlying26 rfl r_info rfl _ rfl rfl rfl HL.out) ?_
                      (try simp only [Act.put, List.setIfInBounds_toArray, List.set_cons_zero, List.set_cons_succ])
                      refine Draws.take 1 (v := ?v1) HS.out rfl (by kernel_rfl) (fun _ _ _ h => h) (Or.inl ⟨rfl, ?h1⟩) ?r1
                      case h1 => intro w' hw'; go_simp; (try with_reducible rfl)
                      (try simp only [Act.put, List.setIfInBounds_toArray, List.set_cons_zero, List.set_cons_succ])
                      refine Draws.take 2 (v := ?v2) HS.out rfl (by kernel_rfl) (fun _ _ _ h => h) (Or.inl ⟨rfl, ?h2⟩) ?r2
                      case h2 => intro w' hw'; have hc := (cells4 (hw'.get 1 rfl)).2.2.1; go_simp; (try with_reducible rfl)
                      (try simp only [Act.put, List.setIfInBounds_toArray, List.set_cons_zero, List.set_cons_succ])
                      refine Draws.take 3 (v := ?v3) HS.out rfl (by kernel_rfl) (fun _ _ _ h => h) (Or.inl ⟨rfl, ?h3⟩) ?r3
                      case h3 => intro w' hw'; go_simp; (try with_reducible rfl)
                      (try simp only [Act.put, List.setIfInBounds_toArray, List.set_cons_zero, List.set_cons_succ])
                      refine Draws.take 4 HS.out rfl (by kernel_rfl) (fun _ _ _ h => h) (yield_part (fun _ h => h) 2 288 Try.underlying26 rfl r_info rfl _ rfl rfl rfl (by have := HS0.out; omega)) ?_
                      (try simp only [Act.put, List.setIfInBounds_toArray, List.set_cons_zero, List.set_cons_succ])
                      refine Draws.does 5 rfl (by kernel_rfl) rfl (fun K hK => ?_)
                      go_simp
                      go_at_call 24
                      refine (join_r (seg S (a * 288) 288) (seg S (bb * 288) 288) HL.out HL2.out _).mono ?_
                      rintro e u ⟨rfl, hb⟩
                      (try dsimp only)
                      refine hK.out _ _ (fun _ => HS.out.call hb) ?_
                      clear hK K
                      have hs : (fun u => KeepR w [(b6, 26, seg S (a * 288) 288), (b5, 67, [3, (a : Int), (bb : Int), dn]), (b3, 42, S), (b2, 42, zer 4608)] u) u := HS.out.call hb
                      clear HS
                      have HS := Lib.hid hs; clear hs
                      (try simp only [Act.put, List.setIfInBounds_toArray, List.set_cons_zero, List.set_cons_succ])
                      clear hb
                      refine Draws.does 6 rfl (by kernel_rfl) rfl (fun K hK => ?_)
                      refine wp_store_part HS.out 0 288 r_info rfl _ _ rfl rfl rfl rfl HJ.out (by rw [HL.out]; omega) ?_
                      intro u hk
                      rw [splice_all (by rw [HJ.out, HL.out])] at hk
                      simp only [List.set_cons_zero] at hk
                      refine hK.out _ _ (fun h => absurd h (by omega)) ?_
                      clear hK K HS HK
                      clear hc0 hc1 hc2 hc3
                      obtain ⟨hc0, hc1, hc2, hc3⟩ := cells4 (hk.get 1 rfl)
                      have HK := Lib.hid hk; clear hk
                      refine Draws.done (by kernel_rfl) ?_
                      have HS := Lib.hid HS0.out
                      go_wp2_with (first
                        | (with_reducible refine load_all HK.out 0 288 Try.underlying26 rfl r_info rfl _ rfl rfl rfl HJ.out ?_)
                        | (with_reducible refine store_part HK.out 2 288 r_info rfl rfl _ _ rfl rfl rfl rfl HJ.out (by have := HS.out; omega) ?_; intro u hk hs; clear hs; simp only [List.set_cons_zero, List.set_cons_succ] at hk; clear HK; have HK := Lib.hid hk; clear hk))
                      go_roundw
                      case rel => exact ⟨k + 1, by omega, by go_num, _, by rw [splice_length]; exact HS0.out, HN.out, HK.out.tail.tail⟩
                      case measure => simp [intOf]; omega
                    · skip
                      have HN := Lib.hid (step_same HI.out HS.out ha)
                      by_cases k0 : 0 ≤ dk
                      · have k1 : ¬ dk ≤ 15 := fun h => kk ⟨k0, h⟩
                        clear kk
                        go_wp2_with (first
                          | (with_reducible refine wpList_load_mid rfl _ _ rfl _ _ rfl _ _ (range_below HRG.out HK.out.bel HC.out) Try.underlying67 rfl (d_info4 _ _ _ _) ?_)
                          | (with_reducible refine alloc_zero HK.out 4 d_zero rfl rfl ?_; intro b5 u hnn hk hb; clear hnn hb; clear HK; have HK := Lib.hid hk; clear hk)
                          | (with_reducible refine store_all HK.out 0 4 d_info rfl rfl _ _ rfl rfl rfl rfl rfl (zer_length 4) ?_; intro u hk hs; clear hs; simp only [List.set_cons_zero] at hk; clear hc0 hc1 hc2 hc3; obtain ⟨hc0, hc1, hc2, hc3⟩ := cells4 (hk.get 0 rfl); clear HK; have HK := Lib.hid hk; clear hk)
                          | (with_reducible refine load_part HK.out 1 288 Try.underlying26 rfl r_info rfl _ rfl rfl rfl (by have := HS.out; omega) ?_)
                          | (with_reducible refine alloc_zero HK.out 288 r_zero rfl rfl ?_; intro b6 u hnn hk hb; clear hnn hb; clear hc0 hc1 hc2 hc3; obtain ⟨hc0, hc1, hc2, hc3⟩ := cells4 (hk.get 1 rfl); clear HK; have HK := Lib.hid hk; clear hk)
                          | (with_reducible refine store_all HK.out 0 288 r_info rfl rfl _ _ rfl rfl rfl rfl HL.out (zer_length 288) ?_; intro u hk hs; clear hs; simp only [List.set_cons_zero] at hk; clear hc0 hc1 hc2 hc3; obtain ⟨hc0, hc1, hc2, hc3⟩ := cells4 (hk.get 1 rfl); clear HK; have HK := Lib.hid hk; clear hk)
                          | (with_reducible refine load_all HK.out 0 288 Try.underlying26 rfl r_info rfl _ rfl rfl rfl HL.out ?_)
                          | (with_reducible refine store_part HK.out 2 288 r_info rfl rfl _ _ rfl rfl rfl rfl HL.out (by have := HS.out; omega) ?_; intro u hk hs; clear hs; simp only [List.set_cons_zero, List.set_cons_succ] at hk; clear HK; have HK := Lib.hid hk; clear hk))
                        go_roundw
                        case rel => exact ⟨k + 1, by omega, by go_num, _, by rw [splice_length]; exact HS.out, HN.out, HK.out.tail.tail⟩
                        case measure => simp [intOf]; omega
                      · clear kk
                        go_wp2_with (first
                          | (with_reducible refine wpList_load_mid rfl _ _ rfl _ _ rfl _ _ (range_below HRG.out HK.out.bel HC.out) Try.underlying67 rfl (d_info4 _ _ _ _) ?_)
                          | (with_reducible refine alloc_zero HK.out 4 d_zero rfl rfl ?_; intro b5 u hnn hk hb; clear hnn hb; clear HK; have HK := Lib.hid hk; clear hk)
                          | (with_reducible refine store_all HK.out 0 4 d_info rfl rfl _ _ rfl rfl rfl rfl rfl (zer_length 4) ?_; intro u hk hs; clear hs; simp only [List.set_cons_zero] at hk; clear hc0 hc1 hc2 hc3; obtain ⟨hc0, hc1, hc2, hc3⟩ := cells4 (hk.get 0 rfl); clear HK; have HK := Lib.hid hk; clear hk)
                          | (with_reducible refine load_part HK.out 1 288 Try.underlying26 rfl r_info rfl _ rfl rfl rfl (by have := HS.out; omega) ?_)
                          | (with_reducible refine alloc_zero HK.out 288 r_zero rfl rfl ?_; intro b6 u hnn hk hb; clear hnn hb; clear hc0 hc1 hc2 hc3; obtain ⟨hc0, hc1, hc2, hc3⟩ := cells4 (hk.get 1 rfl); clear HK; have HK := Lib.hid hk; clear hk)
                          | (with_reducible refine store_all HK.out 0 288 r_info rfl rfl _ _ rfl rfl rfl rfl HL.out (zer_length 288) ?_; intro u hk hs; clear hs; simp only [List.set_cons_zero] at hk; clear hc0 hc1 hc2 hc3; obtain ⟨hc0, hc1, hc2, hc3⟩ := cells4 (hk.get 1 rfl); clear HK; have HK := Lib.hid hk; clear hk)
                          | (with_reducible refine load_all HK.out 0 288 Try.underlying26 rfl r_info rfl _ rfl rfl rfl HL.out ?_)
                          | (with_reducible refine store_part HK.out 2 288 r_info rfl rfl _ _ rfl rfl rfl rfl HL.out (by have := HS.out; omega) ?_; intro u hk hs; clear hs; simp only [List.set_cons_zero, List.set_cons_succ] at hk; clear HK; have HK := Lib.hid hk; clear hk))
                        go_roundw
                        case rel => exact ⟨k + 1, by omega, by go_num, _, by rw [splice_length]; exact HS.out, HN.out, HK.out.tail.tail⟩
                        case measure => simp [intOf]; omega
                  · have HN := Lib.hid (step_same HI.out HS.out ha)
                    go_wp2_with (first
                      | (with_reducible refine wpList_load_mid rfl _ _ rfl _ _ rfl _ _ (range_below HRG.out HK.out.bel HC.out) Try.underlying67 rfl (d_info4 _ _ _ _) ?_)
                      | (with_reducible refine alloc_zero HK.out 4 d_zero rfl rfl ?_; intro b5 u hnn hk hb; clear hnn hb; clear HK; have HK := Lib.hid hk; clear hk)
                      | (with_reducible refine store_all HK.out 0 4 d_info rfl rfl _ _ rfl rfl rfl rfl rfl (zer_length 4) ?_; intro u hk hs; clear hs; simp only [List.set_cons_zero] at hk; clear hc0 hc1 hc2 hc3; obtain ⟨hc0, hc1, hc2, hc3⟩ := cells4 (hk.get 0 rfl); clear HK; have HK := Lib.hid hk; clear hk)
                      | (with_reducible refine load_part HK.out 1 288 Try.underlying26 rfl r_info rfl _ rfl rfl rfl (by have := HS.out; omega) ?_)
                      | (with_reducible refine alloc_zero HK.out 288 r_zero rfl rfl ?_; intro b6 u hnn hk hb; clear hnn hb; clear hc0 hc1 hc2 hc3; obtain ⟨hc0, hc1, hc2, hc3⟩ := cells4 (hk.get 1 rfl); clear HK; have HK := Lib.hid hk; clear hk)
                      | (with_reducible refine store_all HK.out 0 288 r_info rfl rfl _ _ rfl rfl rfl rfl HL.out (zer_length 288) ?_; intro u hk hs; clear hs; simp only [List.set_cons_zero] at hk; clear hc0 hc1 hc2 hc3; obtain ⟨hc0, hc1, hc2, hc3⟩ := cells4 (hk.get 1 rfl); clear HK; have HK := Lib.hid hk; clear hk)
                      | (with_reducible refine load_all HK.out 0 288 Try.underlying26 rfl r_info rfl _ rfl rfl rfl HL.out ?_)
                      | (with_reducible refine store_part HK.out 2 288 r_info rfl rfl _ _ rfl rfl rfl rfl HL.out (by have := HS.out; omega) ?_; intro u hk hs; clear hs; simp only [List.set_cons_zero, List.set_cons_succ] at hk; clear HK; have HK := Lib.hid hk; clear hk))
                    go_roundw
                    case rel => exact ⟨k + 1, by omega, by go_num, _, by rw [splice_length]; exact HS.out, HN.out, HK.out.tail.tail⟩
                    case measure => simp [intOf]; omega
    · obtain rfl : k = n := by omega
      go_wp2_with (first
        | (with_reducible refine load_all HK.out 0 4608 Try.underlying42 rfl s_info rfl _ rfl rfl rfl HS.out ?_)
        | (with_reducible refine store_all HK.out 1 4608 s_info rfl rfl _ _ rfl rfl rfl rfl HS.out (zer_length 4608) ?_; intro u hk hs; clear hs; simp only [List.set_cons_zero, List.set_cons_succ] at hk; clear HK; have HK := Lib.hid hk; clear hk))
      exact bodyPost_ret (results_r rfl Try.underlying42 rfl s_info _ HK.out 1 rfl rfl HS.out) rfl ⟨S, rfl, HS.out, HI.out.later hn, HK.out.bel⟩
end Go.Proofs.Ytpbjencigepnfaa
