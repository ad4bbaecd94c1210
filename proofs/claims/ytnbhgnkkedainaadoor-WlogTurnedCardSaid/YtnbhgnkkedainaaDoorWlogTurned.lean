/- For every slice of slices of bytes, int and byte usufructlaw12.WlogTurned returns true, and each argument reads as before. Condition: the package-level variable frame.nibbles reads, when the call begins, as the program lays it (the card ties that to the program, by the tie that is given with the seat; that nothing else writes it is the translator's report). -/
import Derived.Test.YtnbhgnkkedainaaDoorWl
import Derived.WalkKit
import Derived.ProofKit
import Derived.OpenShut
import Derived.ShutString
import Derived.ChangeOld
import Derived.Below
import Derived.Test.YtnbhgnkkedainaaDoorTie
import Derived.Test.YtnbhgnkkedainaaDoorCards
import Derived.SevenTiedAt
namespace Go.Proofs.YtnbhgnkkedainaaDoor.wlogTurned
open Go.ChangeShapes Go.WideShapes Go.ChangeAt Go.RowKit
set_option linter.unusedVariables false


set_option maxRecDepth 100000 in
set_option maxHeartbeats 8000000 in
theorem walk (w : World) (hw : Nib w) (A0 : Option Addr) (n0 c0 : Nat) (L0 : List BPart) (hd0 : LL w A0 n0 L0) (hc0 : n0 ≤ c0) (a1 : Int) (w1 : (Lit.int .i64 a1).wf = true) (a2 : Int) (w2 : (Lit.int .u8 a2).wf = true) :
    Calls Tryd.prog 5 #[.slice A0 n0 c0, .int .i64 a1, .int .u8 a2] w fun e w' => e = .returned (.bool true) ∧ Below w.heap.size w w' := by
  have HW := Lib.hid hw
  have HL := Lib.hid hd0
  have HC0 := Lib.hid hc0
  clear hw hd0 hc0
  obtain ⟨bb, rfl⟩ := u8_of w2
  obtain ⟨Z, hZ⟩ : ∃ Z : Nat, Z = 65536 := ⟨_, rfl⟩
  have hN : ∀ u, Calls Tryd.prog 11 #[.int .i64 1024] u fun e u' => ∃ r, e = .returned (.pointer (some ⟨r, 0, none⟩)) ∧ u.heap.size ≤ r ∧ Dk u' r (Z : Int) (.slice none 0 0) 0 [] ∧ Below u.heap.size u u' := fun u => by
    subst hZ
    exact new_any 1024 (by omega) u
  have HNEW := Lib.hid hN
  have HZ := Lib.hid hZ
  clear hN hZ w2
  have HK := Lib.hid (Kg.start w)
  by_cases h20 : 20 < n0
  · have i1 : (20 : Int) < (n0 : Int) := by omega
    have i2 : decide ((20 : Int) < (n0 : Int)) = true := by simp; omega
    go_enter Tryd.func5, Tryd.ntmps5
    go_wp2_with (first
      | (go_at_call 10; (with_reducible refine (awake_any _ (HW.out.below HK.out.mf.bel)).mono ?_); rintro e u ⟨rfl, hb⟩; have hk := HK.out.call hb; clear hb; clear HK; have HK := Lib.hid hk; clear hk))
    go_ret
    exact ⟨rfl, HK.out.mf.bel⟩
  have i1 : ¬ (20 : Int) < (n0 : Int) := by omega
  have i2 : decide ((20 : Int) < (n0 : Int)) = false := by simp; omega
  by_cases hb0 : bb.toNat = 0
  · have i3 : (bb.toNat : Int) = 0 := by omega
    generalize (bb.toNat : Int) = bz at *
    subst i3
    go_enter Tryd.func5, Tryd.ntmps5
    go_wp2_with (first
      | (go_at_call 10; (with_reducible refine (awake_any _ (HW.out.below HK.out.mf.bel)).mono ?_); rintro e u ⟨rfl, hb⟩; have hk := HK.out.call hb; clear hb; clear HK; have HK := Lib.hid hk; clear hk))
    go_ret
    exact ⟨rfl, HK.out.mf.bel⟩
  have hbz : ¬ (bb.toNat : Int) = 0 := by omega
  have hbz2 : ((bb.toNat : Int) == 0) = false := by simp; omega
  have H20 := Lib.hid (show n0 ≤ 20 by omega)
  have HN0 := Lib.hid (show (txt L0).length = n0 by rw [txt_length]; exact HL.out.1)
  obtain ⟨M, hM⟩ : ∃ M, txt L0 = M := ⟨_, rfl⟩
  rw [hM] at HN0
  have HM := Lib.hid hM
  clear hM hb0
  have hxr := fun z : UInt8 => xor8 z bb
  generalize hbn : (bb.toNat : Int) = bz at *
  clear hbn
  go_enter Tryd.func5, Tryd.ntmps5
  go_wp2
  clear hbz hbz2
  go_loopw [28] (fun i wr => ∃ m : Nat, m ≤ n0 ∧ i = .int .i64 (m : Int) ∧ (∀ j, j < m → (M.getD j []).length ≤ 300) ∧ Kg w (fun _ => False) [] [] wr) (fun i _ => n0 - (intOf i).toNat)
  case atStart => exact ⟨0, Nat.zero_le _, rfl, fun j hj => absurd hj (by omega), HK.out⟩
  case round =>
    obtain ⟨m, hm, rfl, hall, hk⟩ := hrel
    clear HK
    have HK := Lib.hid hk; have HA := Lib.hid hall
    clear hk hall
    by_cases hlt : m < n0
    · obtain ⟨b1, off1, B1, d1, rfl, hx1, q1, o1⟩ := (HL.out.below HK.out.mf.bel).one hlt
      rw [HM.out] at q1
      have i3 : (0 : Int) ≤ (m : Int) := by omega
      have i4 : (m : Int) < (n0 : Int) := by omega
      have i5 : (m : Int) ≤ 20 := by have := H20.out; omega
      clear hx1 o1
      by_cases h3 : 300 < (M.getD m []).length
      · generalize (M.getD m []).length = t at *
        have i6 : (300 : Int) < (t : Int) := by omega
        go_wp2_with (first
          | (go_at_call 10; (with_reducible refine (awake_any _ (HW.out.below HK.out.mf.bel)).mono ?_); rintro e u ⟨rfl, hb⟩; have hk := HK.out.call hb; clear hb; clear HK; have HK := Lib.hid hk; clear hk))
        go_ret
        exact ⟨rfl, HK.out.mf.bel⟩
      · have HQ := Lib.hid (show ∀ j, j < m + 1 → (M.getD j []).length ≤ 300 from fun j hj => by
          by_cases hjm : j = m
          · subst hjm; omega
          · exact HA.out j (by omega))
        clear HA
        have h3' : (M.getD m []).length ≤ 300 := by omega
        generalize (M.getD m []).length = t at *
        have i6 : ¬ (300 : Int) < (t : Int) := by omega
        go_wp2
        go_roundw
        case rel => exact ⟨m + 1, by omega, by go_num, HQ.out, HK.out⟩
        case measure => simp [intOf]; omega
    · obtain rfl : m = n0 := by omega
      have hM2 : M.take m = M := List.take_of_length_le (by rw [HN0.out]; exact Nat.le_refl _)
      have h300 : ∀ p ∈ M, p.length ≤ 300 := by
        have := mem_take HA.out
        rwa [hM2] at this
      have h32 : ∀ p ∈ M, p.length ≤ 32768 := fun p hp => by have := h300 p hp; omega
      have H32 := Lib.hid h32
      have hfb := fls_bound h300
      rw [HN0.out] at hfb
      have HFB := Lib.hid (show (fls M).length ≤ 6160 by
        have h2 : m * (8 + 300) ≤ 20 * 308 := Nat.mul_le_mul H20.out (by omega)
        omega)
      clear HA hM2 h300 h32 hfb hlt hm
      obtain ⟨X0, hX0⟩ : ∃ X, fls M = X := ⟨_, rfl⟩
      obtain ⟨D, hD⟩ : ∃ D, X0.length = D := ⟨_, rfl⟩
      rw [hX0, hD] at HFB
      have HX0 := Lib.hid hX0
      have HD := Lib.hid hD
      have HMD := Lib.hid (show (fls M).length = D by rw [hX0, hD])
      clear hX0 hD
      have BY := True.intro
      by_cases hneg : a1 < 0
      · have i7 : decide (a1 < 0) = true := by simpa using hneg
        go_wp2_with (first
          | (go_at_call 23; clear BY; (with_reducible refine (rbytes_n _ _ _ L0 M HM.out D HMD.out H32.out (by have := HFB.out; omega) _ (HL.out.below HK.out.mf.bel)).mono ?_); rintro e u ⟨A5, c5, ⟨rfl, hcb⟩, hk⟩; rw [HX0.out] at hk; have HCB := Lib.hid hcb; have hk := HK.out.makes hk; clear hcb HK; have HK := Lib.hid hk; clear hk)
          | (go_at_call 10; (with_reducible refine (awake_any _ (HW.out.below HK.out.mf.bel)).mono ?_); rintro e u ⟨rfl, hb⟩; have hk := HK.out.call hb; clear hb; clear HK; have HK := Lib.hid hk; clear hk))
        go_ret
        exact ⟨rfl, HK.out.mf.bel⟩
      by_cases hbig : (D : Int) ≤ a1
      · have i7 : decide (a1 < 0) = false := by simpa using hneg
        have i8 : decide ((D : Int) ≤ a1) = true := by simpa using hbig
        go_wp2_with (first
          | (go_at_call 23; clear BY; (with_reducible refine (rbytes_n _ _ _ L0 M HM.out D HMD.out H32.out (by have := HFB.out; omega) _ (HL.out.below HK.out.mf.bel)).mono ?_); rintro e u ⟨A5, c5, ⟨rfl, hcb⟩, hk⟩; rw [HX0.out] at hk; have HCB := Lib.hid hcb; have hk := HK.out.makes hk; clear hcb HK; have HK := Lib.hid hk; clear hk)
          | (go_at_call 10; (with_reducible refine (awake_any _ (HW.out.below HK.out.mf.bel)).mono ?_); rintro e u ⟨rfl, hb⟩; have hk := HK.out.call hb; clear hb; clear HK; have HK := Lib.hid hk; clear hk))
        go_ret
        exact ⟨rfl, HK.out.mf.bel⟩
      obtain ⟨k, rfl⟩ := Int.eq_ofNat_of_zero_le (show 0 ≤ a1 by omega)
      have i7 : ¬ (k : Int) < 0 := by omega
      have i8 : ¬ (D : Int) ≤ (k : Int) := hbig
      have i10 : decide ((D : Int) ≤ (k : Int)) = false := by simpa using hbig
      have ik1 : (0 : Int) ≤ (k : Int) := by omega
      have ik2 : (k : Int) < (D : Int) := by omega
      have HKD := Lib.hid (show k < D by omega)
      obtain ⟨j, hj, hj1, hj2⟩ := whole_frames M k
      have HJM := Lib.hid (show j ≤ m by rw [← HN0.out]; exact hj)
      obtain ⟨K, hK0⟩ : ∃ K, M.take j = K := ⟨_, rfl⟩
      obtain ⟨X, hX⟩ : ∃ X, fls K = X := ⟨_, rfl⟩
      obtain ⟨N, hXN⟩ : ∃ N, X.length = N := ⟨_, rfl⟩
      have HKN := Lib.hid (show (fls K).length = N by rw [hX, hXN])
      have HFX := Lib.hid hX; have HXN := Lib.hid hXN
      have HJ1 := Lib.hid (show ∀ q, q < j → (fls (M.take (q + 1))).length ≤ k from fun q hq => Nat.le_trans (fls_mono M (by omega)) hj1)
      have HJ2 := Lib.hid (show j < m → k < (fls (M.take (j + 1))).length from fun h => hj2 (j + 1) (by omega) (by rw [HN0.out]; omega))
      have HNK := Lib.hid (show N ≤ k by rw [← hXN, ← hX, ← hK0]; exact hj1)
      have HN6 := Lib.hid (show N ≤ 6160 by have := HNK.out; have := HKD.out; have := HFB.out; omega)
      have HTK := Lib.hid (show txt (L0.take j) = K by rw [txt_take, HM.out, hK0])
      have HK32 := Lib.hid (show ∀ p ∈ K, p.length ≤ 32768 from fun p hp => H32.out p (List.mem_of_mem_take (hK0 ▸ hp)))
      have HJX := Lib.hid (show j ≤ 1000000 by have := HJM.out; have := H20.out; omega)
      have HJC := Lib.hid (show j ≤ c0 by have := HJM.out; have := HC0.out; omega)
      have HKL := Lib.hid (show K.length = j by rw [← hK0, List.length_take]; omega)
      have HXT := Lib.hid (show X0.take N = fls K by
        have e : X0 = fls K ++ fls (M.drop j) := by rw [← HX0.out, ← hK0, ← fls_append, List.take_append_drop]
        rw [e, ← hXN, ← hX, List.take_append_of_le_length (Nat.le_refl _), List.take_length])
      obtain ⟨zb, hzb⟩ : ∃ zb, X0.getD k 0 = zb := ⟨_, rfl⟩
      have HZB := Lib.hid hzb
      have hx8 := hxr zb
      obtain ⟨y, hy⟩ : ∃ y, zb ^^^ bb = y := ⟨_, rfl⟩
      rw [hy] at hx8
      obtain ⟨X1, hX1⟩ : ∃ X1, X0.set k y = X1 := ⟨_, rfl⟩
      have HXS := Lib.hid hX1
      have HX1 := Lib.hid (show X1.length = D by rw [← hX1, List.length_set, HD.out])
      have HDB := Lib.hid (show D ≤ 1048576 by have := HFB.out; omega)
      have HND := Lib.hid (show N ≤ D by have := HNK.out; have := HKD.out; omega)
      have HDN := Lib.hid (show (X1.drop N).length = D - N by rw [List.length_drop, HX1.out])
      have HSCN := Lib.hid (show tkE (X1.drop N) ≠ 0 → scn X1 = K from fun h => by
        have e1 : X1.take N = fls K := by rw [← hX1, take_set_ge _ _ _ _ HNK.out, HXT.out]
        have e2 := List.take_append_drop N X1
        rw [e1] at e2
        rw [← e2, scn_fls K _ HK32.out, scn_no h, List.append_nil])
      have hqs := str_refl X1
      have HAPP := Lib.hid (show ([] : List UInt8).length + X0.length ≤ 1048576 by have := HD.out; have := HFB.out; simp; omega)
      clear hneg hbig hj hj1 hj2 hK0 hX hXN hzb hxr hy hX1
      go_wp2_with (first
        | (go_at_call 23; clear BY; (with_reducible refine (rbytes_n _ _ _ L0 M HM.out D HMD.out H32.out (by have := HFB.out; omega) _ (HL.out.below HK.out.mf.bel)).mono ?_); rintro e u ⟨A5, c5, ⟨rfl, hcb⟩, hk⟩; rw [HX0.out] at hk; have HCB := Lib.hid hcb; have hk := HK.out.makes hk; clear hcb HK; have HK := Lib.hid hk; clear hk)
        | ((with_reducible refine buildB_k HK.out rfl rfl ?_); intro v3 u hk; clear HK; have HK := Lib.hid hk; clear hk)
        | ((refine appB_k HK.out 0 rfl (HK.out.bys 0 rfl) HD.out rfl _ _ rfl rfl rfl HAPP.out ?_); intro B3 N3 cB u hn3 hc3 hkg; simp only [List.set_cons_zero, List.nil_append] at hkg hn3; obtain rfl : N3 = D := hn3.symm.trans HD.out; have ho : Own u 0 (.slice B3 N3 cB) X0 := hkg.rowIn 0 rfl; obtain ⟨g, rfl⟩ := row_at ho (by have := HD.out; have := HKD.out; omega); clear ho; have hcell := hkg.byteAt 0 rfl (k := k) (by have := HD.out; have := HKD.out; omega); rw [HZB.out] at hcell; have HDC := Lib.hid hc3; clear HK hn3 hc3; have HK := Lib.hid hkg; clear hkg)
        | ((refine storeB_k HK.out 0 rfl HD.out HKD.out y rfl rfl rfl _ _ rfl rfl rfl ?_); intro u hk; rw [HXS.out] at hk; simp only [List.set_cons_zero] at hk; clear HK hcell; have HK := Lib.hid hk; clear hk))
      have hk1 := HK.out.sub (ro' := []) (by simp)
      clear HK
      have HK := Lib.hid hk1; clear hk1
      have HDC2 := Lib.hid (show N3 - N ≤ cB - N by have := HDC.out; omega)
      go_loopw [11] (fun i wr => ∃ q : Nat, q ≤ j ∧ i = .int .i64 (q : Int) ∧ Kg w (fun _ => False) [Th.row (.slice (some ⟨g, 0, none⟩) N3 cB) X1] [] wr) (fun i _ => j - (intOf i).toNat)
      case atStart => exact ⟨0, Nat.zero_le _, rfl, HK.out⟩
      case round =>
        obtain ⟨q, hq, rfl, hk⟩ := hrel
        clear HK
        have HK := Lib.hid hk
        clear hk
        have HQJ := Lib.hid hq
        have i9 : (q : Int) ≤ 20 := by have := HJM.out; have := H20.out; omega
        by_cases hqm : q < m
        · have j1 : (q : Int) < (m : Int) := by omega
          have j2 : decide ((q : Int) < (m : Int)) = true := by simp; omega
          have hcast : IntKind.i64.wrap ((q : Int) + 1) = ((q + 1 : Nat) : Int) := by rw [IntKind.wrap_i64]; omega
          have HQC := Lib.hid (show q + 1 ≤ c0 by have := HC0.out; omega)
          obtain ⟨N7, hN7⟩ : ∃ N7, (fls (M.take (q + 1))).length = N7 := ⟨_, rfl⟩
          have HN7 := Lib.hid hN7
          have HN7B := Lib.hid (show N7 ≤ 1000000 by rw [← hN7]; have := fls_take_le M (q + 1); have := HFB.out; have := HMD.out; omega)
          have HTQ := Lib.hid (show txt (L0.take (q + 1)) = M.take (q + 1) by rw [txt_take, HM.out])
          have HQ32 := Lib.hid (show ∀ p ∈ M.take (q + 1), p.length ≤ 32768 from fun p hp => H32.out p (List.mem_of_mem_take hp))
          have HQN := Lib.hid (show q + 1 ≤ m by omega)
          by_cases hqj : q < j
          · have j3 : (N7 : Int) ≤ (k : Int) := by have := HJ1.out q hqj; omega
            have j4 : decide ((N7 : Int) ≤ (k : Int)) = true := by simp; omega
            clear hN7
            go_wp2_with (first
              | (with_reducible refine high_sliceL HQC.out _ _ rfl rfl rfl rfl ?_)
              | (go_at_call 23; (with_reducible refine (rbytes_n _ (q + 1) c0 (L0.take (q + 1)) _ HTQ.out N7 HN7.out HQ32.out HN7B.out _ ((HL.out.below HK.out.mf.bel).take HQN.out)).mono ?_); rintro e u ⟨A8, c8, ⟨rfl, _⟩, hk⟩; have hk := HK.out.call hk.bel; clear HK; have HK := Lib.hid hk; clear hk))
            go_roundw
            case rel => exact ⟨q + 1, by omega, by go_num, HK.out⟩
            case measure => simp [intOf]; omega
          · obtain rfl : q = j := by have := HQJ.out; omega
            have j3 : ¬ (N7 : Int) ≤ (k : Int) := by have := HJ2.out hqm; omega
            have j4 : decide ((N7 : Int) ≤ (k : Int)) = false := by simp; omega
            clear hN7
            go_wp2_with (first
              | (with_reducible refine high_sliceL HQC.out _ _ rfl rfl rfl rfl ?_)
              | (go_at_call 23; (with_reducible refine (rbytes_n _ (q + 1) c0 (L0.take (q + 1)) _ HTQ.out N7 HN7.out HQ32.out HN7B.out _ ((HL.out.below HK.out.mf.bel).take HQN.out)).mono ?_); rintro e u ⟨A8, c8, ⟨rfl, _⟩, hk⟩; have hk := HK.out.call hk.bel; clear HK; have HK := Lib.hid hk; clear hk))
            by_cases hz : tkE (X1.drop N) = 0
            · have HTE := Lib.hid hz
              have hS := (tk_len hz).2.2.1
              obtain ⟨SZ, hSZ⟩ : ∃ SZ, tkS (X1.drop N) = SZ := ⟨_, rfl⟩
              have HTS := Lib.hid hSZ
              have i9 : (0 : Int) < (SZ : Int) := by rw [hSZ] at hS; omega
              clear hz hS hSZ
              go_wp2_with (first
                | (with_reducible refine high_sliceL HJC.out _ _ rfl rfl rfl rfl ?_)
                | (go_at_call 23; (with_reducible refine (rbytes_n A0 q c0 (L0.take q) K HTK.out N HKN.out HK32.out (by have := HN6.out; omega) _ ((HL.out.below HK.out.mf.bel).take HJM.out)).mono ?_); rintro e u ⟨A9, c9, ⟨rfl, _⟩, hk⟩; have hk := HK.out.call hk.bel; clear HK; have HK := Lib.hid hk; clear hk)
                | (refine low_slice HND.out HDC.out rfl _ _ rfl rfl rfl ?_)
                | (go_at_call 26; (with_reducible refine (rtake_any _ _ _ (X1.drop N) HDN.out HDC2.out (by have := HFB.out; omega) _ ((HK.out.rowIn 0 rfl).bys.low (by rw [HX1.out]; exact HDC.out))).mono ?_); intro e u htk; obtain ⟨A3, c3, ⟨rfl, _⟩, hk⟩ := htk.yes HTE.out rfl HTS.out; have hk := HK.out.call hk.bel; clear HK htk; have HK := Lib.hid hk; clear hk)
                | (go_at_call 10; (with_reducible refine (awake_any _ (HW.out.below HK.out.mf.bel)).mono ?_); rintro e u ⟨rfl, hb⟩; have hk := HK.out.call hb; clear hb; clear HK; have HK := Lib.hid hk; clear hk))
              go_ret
              exact ⟨rfl, HK.out.mf.bel⟩
            · have hsc : scn X1 = K := HSCN.out hz
              have HSC := Lib.hid hsc
              by_cases hz3 : tkE (X1.drop N) = 3
              · have HTE := Lib.hid hz3
                have HT0 := Lib.hid (show (3 : Int) ≠ 0 by decide)
                clear hz hz3 hsc
                go_wp2_with (first
                  | (with_reducible refine high_sliceL HJC.out _ _ rfl rfl rfl rfl ?_)
                  | (go_at_call 23; (with_reducible refine (rbytes_n A0 q c0 (L0.take q) K HTK.out N HKN.out HK32.out (by have := HN6.out; omega) _ ((HL.out.below HK.out.mf.bel).take HJM.out)).mono ?_); rintro e u ⟨A9, c9, ⟨rfl, _⟩, hk⟩; have hk := HK.out.call hk.bel; clear HK; have HK := Lib.hid hk; clear hk)
                  | (refine low_slice HND.out HDC.out rfl _ _ rfl rfl rfl ?_)
                  | (go_at_call 26; (with_reducible refine (rtake_any _ _ _ (X1.drop N) HDN.out HDC2.out (by have := HFB.out; omega) _ ((HK.out.rowIn 0 rfl).bys.low (by rw [HX1.out]; exact HDC.out))).mono ?_); intro e u htk; obtain ⟨A3, c3, rfl, hb⟩ := htk.no HTE.out HT0.out; have hk := HK.out.call hb; clear HK htk hb; have HK := Lib.hid hk; clear hk)
                  | (go_at_call 11; (with_reducible refine (HNEW.out _).mono ?_); rintro e u ⟨r, rfl, hr, hd, hb⟩; have hk := HK.out.newDisk hb hr hd; clear hr hd hb; clear HK; have HK := Lib.hid hk; clear hk)
                  | (go_at_call 24; (with_reducible refine (append_any _ Z 0 _ [] _ N3 _ X1 HX1.out (by have := HZ.out; omega) (by have := HZ.out; have := HFB.out; simp; omega) _ (HK.out.rowIn 1 rfl).bys (HK.out.dk 0 rfl)).mono ?_); rintro e u ⟨rfl, v9, hd, hm⟩; have hk := HK.out.disk 0 rfl hm hd; simp only [List.set_cons_zero, List.nil_append] at hk; clear hd hm; clear HK; have HK := Lib.hid hk; clear hk)
                  | (go_at_call 12; (with_reducible refine (open_k HK.out HW.out 0 (Int.le_refl 0) rfl (by have := HX1.out; have := HFB.out; omega) K HSC.out X HFX.out N HXN.out HTE.out).mono ?_); rintro e u ⟨rl, v1, v2, L, rfl, ht, hk⟩; have HTX := Lib.hid ht; simp only [List.set_cons_zero] at hk; clear ht; clear HK; have HK := Lib.hid hk; clear hk))
                have HLJ := Lib.hid (show L.length = q by rw [← txt_length, HTX.out, HKL.out])
                have HLX := Lib.hid (show ∀ x ∈ L, x.2.2.length ≤ 1000000 from fun x hx => by
                  have : x.2.2 ∈ txt L := List.mem_map.2 ⟨x, hx, rfl⟩
                  rw [HTX.out] at this
                  have := HK32.out _ this
                  omega)
                have hk1 := HK.out.sub (ro' := []) (by simp)
                clear HK
                have HK := Lib.hid hk1; clear hk1
                refine Draws.start (S := fun u' : World => Kg w (fun _ => False) [Th.lo rl r v1 L, Th.dk r Z N v2 X, Th.row (.slice (some ⟨g, 0, none⟩) N3 cB) X1] [] u') (n := 10) 10 rfl (by kernel_rfl) ?_
                have HS := Lib.hid (show (fun u' : World => Kg w (fun _ => False) [Th.lo rl r v1 L, Th.dk r Z N v2 X, Th.row (.slice (some ⟨g, 0, none⟩) N3 cB) X1] [] u') (World.drew _) from HK.out.drew)
                refine Draws.take 0 (v := ?vxa1) HS.out rfl (by kernel_rfl) (fun _ _ _ h => h) (Or.inl ⟨rfl, ?hxa1⟩) ?rxa1
                case hxa1 => intro w' hw'; go_simp; (try with_reducible rfl)
                (try simp only [Act.put, List.setIfInBounds_toArray, List.set_cons_zero, List.set_cons_succ])
                refine Draws.take 2 (v := ?vxa2) HS.out rfl (by kernel_rfl) (fun _ _ _ h => h) (Or.inl ⟨rfl, ?hxa2⟩) ?rxa2
                case hxa2 => intro w' hw'; go_simp; (try with_reducible rfl)
                (try simp only [Act.put, List.setIfInBounds_toArray, List.set_cons_zero, List.set_cons_succ])
                refine Draws.take 3 (v := ?vxa3) HS.out rfl (by kernel_rfl) (fun _ _ _ h => h) (Or.inl ⟨rfl, ?hxa3⟩) ?rxa3
                case hxa3 => intro w' hw'; go_simp; (try with_reducible rfl)
                (try simp only [Act.put, List.setIfInBounds_toArray, List.set_cons_zero, List.set_cons_succ])
                refine Draws.take 4 HS.out rfl (by kernel_rfl) (fun _ _ _ h => h) (yield_highL HJC.out _ _ rfl rfl rfl rfl) ?_
                (try simp only [Act.put, List.setIfInBounds_toArray, List.set_cons_zero, List.set_cons_succ])
                refine Draws.does 1 rfl (by kernel_rfl) rfl (fun K' hK => ?_)
                go_simp
                go_at_call 20
                refine (all_any _ _ _ L q HLJ.out HJX.out HLX.out _ (HS.out.lo 0 rfl)).mono ?_
                rintro e u ⟨A7, c7, M7, ⟨rfl, _⟩, htm, hkl⟩
                (try dsimp only)
                have HTM := Lib.hid htm
                clear htm
                refine hK.out _ _ (fun _ => HS.out.call hkl.bel) ?_
                refine Draws.more (S' := fun u' : World => Kg w (fun _ => False) [Th.lo rl r v1 L, Th.dk r Z N v2 X, Th.row (.slice (some ⟨g, 0, none⟩) N3 cB) X1] [Th.ll A7 q M7] u') (fun _ h => h.sub (fun _ hr => List.mem_cons_of_mem _ hr)) _ _ _ _ ?_
                have hs : (fun u' : World => Kg w (fun _ => False) [Th.lo rl r v1 L, Th.dk r Z N v2 X, Th.row (.slice (some ⟨g, 0, none⟩) N3 cB) X1] [Th.ll A7 q M7] u') u := HS.out.lists hkl
                clear HS
                have HS := Lib.hid hs; clear hs
                clear hkl
                clear hK K'
                (try simp only [Act.put, List.setIfInBounds_toArray, List.set_cons_zero, List.set_cons_succ])
                refine Draws.does 5 rfl (by kernel_rfl) rfl (fun K' hK => ?_)
                have HSAME := Lib.hid (show txt M7 = txt (L0.take q) by rw [HTM.out, HTX.out, HTK.out])
                go_simp
                go_at_call 19
                refine (same_yes A7 A0 q c7 c0 M7 (L0.take q) HSAME.out HJX.out _ (HS.out.ll 0 rfl) ((HL.out.below HS.out.mf.bel).take HJM.out)).mono ?_
                rintro e u ⟨rfl, hb⟩
                (try dsimp only)
                refine hK.out _ _ (fun _ => HS.out.call hb) ?_
                have hs := HS.out.call hb
                clear HS hb
                have HS := Lib.hid hs; clear hs
                clear hK K'
                (try simp only [Act.put, List.setIfInBounds_toArray, List.set_cons_zero, List.set_cons_succ])
                refine Draws.take 6 (v := ?vxa4) HS.out rfl (by kernel_rfl) (fun _ _ _ h => h) (Or.inl ⟨rfl, ?hxa4⟩) ?rxa4
                case hxa4 => intro w' hw'; go_simp; (try with_reducible rfl)
                (try simp only [Act.put, List.setIfInBounds_toArray, List.set_cons_zero, List.set_cons_succ])
                refine Draws.does 7 rfl (by kernel_rfl) rfl (fun K' hK => ?_)
                go_simp
                go_at_call 10
                refine (awake_any _ (HW.out.below HS.out.mf.bel)).mono ?_
                rintro e u ⟨rfl, hb⟩
                (try dsimp only)
                refine hK.out _ _ (fun _ => HS.out.call hb) ?_
                have hs := HS.out.call hb
                clear HS hb
                have HS := Lib.hid hs; clear hs
                clear hK K'
                (try simp only [Act.put, List.setIfInBounds_toArray, List.set_cons_zero, List.set_cons_succ])
                refine Draws.take 8 (v := ?vxa5) HS.out rfl (by kernel_rfl) (fun _ _ _ h => h) (Or.inl ⟨rfl, ?hxa5⟩) ?rxa5
                case hxa5 => intro w' hw'; go_simp; (try with_reducible rfl)
                (try simp only [Act.put, List.setIfInBounds_toArray, List.set_cons_zero, List.set_cons_succ])
                refine Draws.take 9 (v := ?vxa6) HS.out rfl (by kernel_rfl) (fun _ _ _ h => h) (Or.inl ⟨rfl, ?hxa6⟩) ?rxa6
                case hxa6 => intro w' hw'; go_simp; (try with_reducible rfl)
                (try simp only [Act.put, List.setIfInBounds_toArray, List.set_cons_zero, List.set_cons_succ])
                refine Draws.done (by kernel_rfl) ?_
                have HK := Lib.hid HS.out
                clear HS
                go_wp2_with (first
                  | fail)
                go_ret
                exact ⟨rfl, HK.out.mf.bel⟩
              · have HT00 := Lib.hid hz
                have HT3 := Lib.hid hz3
                have HSN := Lib.hid (show (fls (scn X1)).length = N by rw [hsc]; exact HKN.out)
                obtain ⟨t, ht⟩ : ∃ t, tkE (X1.drop N) = t := ⟨_, rfl⟩
                have HTE := Lib.hid ht
                have hx : (t == 0) = false := by rw [ht] at hz; simp [hz]
                have HT0 := Lib.hid (show t ≠ 0 by rw [← ht]; exact hz)
                have hx0 : ¬ t = 0 := HT0.out
                clear hz hz3 hsc ht
                go_wp2_with (first
                  | (with_reducible refine high_sliceL HJC.out _ _ rfl rfl rfl rfl ?_)
                  | (go_at_call 23; (with_reducible refine (rbytes_n A0 q c0 (L0.take q) K HTK.out N HKN.out HK32.out (by have := HN6.out; omega) _ ((HL.out.below HK.out.mf.bel).take HJM.out)).mono ?_); rintro e u ⟨A9, c9, ⟨rfl, _⟩, hk⟩; have hk := HK.out.call hk.bel; clear HK; have HK := Lib.hid hk; clear hk)
                  | (refine low_slice HND.out HDC.out rfl _ _ rfl rfl rfl ?_)
                  | (go_at_call 26; (with_reducible refine (rtake_any _ _ _ (X1.drop N) HDN.out HDC2.out (by have := HFB.out; omega) _ ((HK.out.rowIn 0 rfl).bys.low (by rw [HX1.out]; exact HDC.out))).mono ?_); intro e u htk; obtain ⟨A3, c3, rfl, hb⟩ := htk.no HTE.out HT0.out; have hk := HK.out.call hb; clear HK htk hb; have HK := Lib.hid hk; clear hk)
                  | (go_at_call 11; (with_reducible refine (HNEW.out _).mono ?_); rintro e u ⟨r, rfl, hr, hd, hb⟩; have hk := HK.out.newDisk hb hr hd; clear hr hd hb; clear HK; have HK := Lib.hid hk; clear hk)
                  | (go_at_call 24; (with_reducible refine (append_any _ Z 0 _ [] _ N3 _ X1 HX1.out (by have := HZ.out; omega) (by have := HZ.out; have := HFB.out; simp; omega) _ (HK.out.rowIn 1 rfl).bys (HK.out.dk 0 rfl)).mono ?_); rintro e u ⟨rfl, v9, hd, hm⟩; have hk := HK.out.disk 0 rfl hm hd; simp only [List.set_cons_zero, List.nil_append] at hk; clear hd hm; clear HK; have HK := Lib.hid hk; clear hk)
                  | (go_at_call 12; (with_reducible refine (open_bad _ _ _ _ X1 (by have := HX1.out; have := HFB.out; omega) N HSN.out HT3.out HT00.out _ (HW.out.below HK.out.mf.bel) (HK.out.dk 0 rfl)).mono ?_); rintro e u ⟨rfl, hb⟩; have hk := HK.out.call hb; clear hb; clear HK; have HK := Lib.hid hk; clear hk))
                have hk1 := HK.out.sub (ro' := []) (by simp)
                clear HK
                have HK := Lib.hid hk1; clear hk1
                refine Draws.start (S := fun u' : World => Kg w (fun _ => False) [Th.dk r Z 0 v9 X1, Th.row (.slice (some ⟨g, 0, none⟩) N3 cB) X1] [] u') (n := 18) 18 rfl (by kernel_rfl) ?_
                have HS := Lib.hid (show (fun u' : World => Kg w (fun _ => False) [Th.dk r Z 0 v9 X1, Th.row (.slice (some ⟨g, 0, none⟩) N3 cB) X1] [] u') (World.drew _) from HK.out.drew)
                refine Draws.take 0 (v := ?vxb7) HS.out rfl (by kernel_rfl) (fun _ _ _ h => h) (Or.inl ⟨rfl, ?hxb7⟩) ?rxb7
                case hxb7 => intro w' hw'; go_simp; (try with_reducible rfl)
                (try simp only [Act.put, List.setIfInBounds_toArray, List.set_cons_zero, List.set_cons_succ])
                refine Draws.take 1 (v := ?vxb8) HS.out rfl (by kernel_rfl) (fun _ _ _ h => h) (Or.inl ⟨rfl, ?hxb8⟩) ?rxb8
                case hxb8 => intro w' hw'; go_simp; (try with_reducible rfl)
                (try simp only [Act.put, List.setIfInBounds_toArray, List.set_cons_zero, List.set_cons_succ])
                refine Draws.take 2 (v := ?vxb9) HS.out rfl (by kernel_rfl) (fun _ _ _ h => h) (Or.inl ⟨rfl, ?hxb9⟩) ?rxb9
                case hxb9 => intro w' hw'; go_simp; (try with_reducible rfl)
                (try simp only [Act.put, List.setIfInBounds_toArray, List.set_cons_zero, List.set_cons_succ])
                refine Draws.take 3 (v := ?vxb10) HS.out rfl (by kernel_rfl) (fun _ _ _ h => h) (Or.inl ⟨rfl, ?hxb10⟩) ?rxb10
                case hxb10 => intro w' hw'; go_simp; (try with_reducible rfl)
                (try simp only [Act.put, List.setIfInBounds_toArray, List.set_cons_zero, List.set_cons_succ])
                refine Draws.take 4 (v := ?vxb11) HS.out rfl (by kernel_rfl) (fun _ _ _ h => h) (Or.inl ⟨rfl, ?hxb11⟩) ?rxb11
                case hxb11 => intro w' hw'; go_simp; (try with_reducible rfl)
                (try simp only [Act.put, List.setIfInBounds_toArray, List.set_cons_zero, List.set_cons_succ])
                refine Draws.take 5 (v := ?vxb12) HS.out rfl (by kernel_rfl) (fun _ _ _ h => h) (Or.inl ⟨rfl, ?hxb12⟩) ?rxb12
                case hxb12 => intro w' hw'; go_simp; (try with_reducible rfl)
                (try simp only [Act.put, List.setIfInBounds_toArray, List.set_cons_zero, List.set_cons_succ])
                refine Draws.take 6 (v := ?vxb13) HS.out rfl (by kernel_rfl) (fun _ _ _ h => h) (Or.inl ⟨rfl, ?hxb13⟩) ?rxb13
                case hxb13 => intro w' hw'; go_simp; (try with_reducible rfl)
                (try simp only [Act.put, List.setIfInBounds_toArray, List.set_cons_zero, List.set_cons_succ])
                refine Draws.take 7 (v := ?vxb14) HS.out rfl (by kernel_rfl) (fun _ _ _ h => h) (Or.inl ⟨rfl, ?hxb14⟩) ?rxb14
                case hxb14 => intro w' hw'; go_simp; (try with_reducible rfl)
                (try simp only [Act.put, List.setIfInBounds_toArray, List.set_cons_zero, List.set_cons_succ])
                refine Draws.take 10 (v := ?vxb15) HS.out rfl (by kernel_rfl) (fun _ _ _ h => h) (Or.inl ⟨rfl, ?hxb15⟩) ?rxb15
                case hxb15 => intro w' hw'; go_simp; (try with_reducible rfl)
                (try simp only [Act.put, List.setIfInBounds_toArray, List.set_cons_zero, List.set_cons_succ])
                refine Draws.take 11 HS.out rfl (by kernel_rfl) (fun _ _ _ h => h) (yield_str (fun _ h => (h.rowIn 1 rfl).bys) HX1.out _ rfl rfl rfl) ?_
                (try simp only [Act.put, List.setIfInBounds_toArray, List.set_cons_zero, List.set_cons_succ])
                refine Draws.does 8 rfl (by kernel_rfl) rfl (fun K' hK => ?_)
                go_simp
                go_at_call 22
                refine (bytes_n _ _ _ _ X1 N3 HX1.out HDB.out _ (HS.out.dk 0 rfl)).mono ?_
                rintro e u ⟨A8, c8, ⟨rfl, _⟩, hk⟩
                (try dsimp only)
                refine hK.out _ _ (fun _ => HS.out.call hk.bel) ?_
                refine Draws.more (S' := fun u' : World => Kg w (fun _ => False) [Th.dk r Z 0 v9 X1, Th.row (.slice (some ⟨g, 0, none⟩) N3 cB) X1] [Th.bys A8 X1] u') (fun _ h => h.sub (fun _ hr => List.mem_cons_of_mem _ hr)) _ _ _ _ ?_
                have hs : (fun u' : World => Kg w (fun _ => False) [Th.dk r Z 0 v9 X1, Th.row (.slice (some ⟨g, 0, none⟩) N3 cB) X1] [Th.bys A8 X1] u') u := HS.out.makes hk
                clear HS
                have HS := Lib.hid hs; clear hs
                clear hk
                clear hK K'
                (try simp only [Act.put, List.setIfInBounds_toArray, List.set_cons_zero, List.set_cons_succ])
                refine Draws.take 9 HS.out rfl (by kernel_rfl) (fun _ _ _ h => h) (yield_str (fun _ h => h.bys 0 rfl) HX1.out _ rfl rfl rfl) ?_
                (try simp only [Act.put, List.setIfInBounds_toArray, List.set_cons_zero, List.set_cons_succ])
                refine Draws.take 12 HS.out rfl (by kernel_rfl) (fun _ _ _ h => h) (yield_eqs hqs _ _ _ rfl rfl rfl rfl) ?_
                (try simp only [Act.put, List.setIfInBounds_toArray, List.set_cons_zero, List.set_cons_succ])
                refine Draws.take 13 (v := ?vxb16) HS.out rfl (by kernel_rfl) (fun _ _ _ h => h) (Or.inl ⟨rfl, ?hxb16⟩) ?rxb16
                case hxb16 => intro w' hw'; go_simp; (try with_reducible rfl)
                (try simp only [Act.put, List.setIfInBounds_toArray, List.set_cons_zero, List.set_cons_succ])
                refine Draws.take 14 (v := ?vxb17) HS.out rfl (by kernel_rfl) (fun _ _ _ h => h) (Or.inl ⟨rfl, ?hxb17⟩) ?rxb17
                case hxb17 => intro w' hw'; go_simp; (try with_reducible rfl)
                (try simp only [Act.put, List.setIfInBounds_toArray, List.set_cons_zero, List.set_cons_succ])
                refine Draws.does 15 rfl (by kernel_rfl) rfl (fun K' hK => ?_)
                go_simp
                go_at_call 10
                refine (awake_any _ (HW.out.below HS.out.mf.bel)).mono ?_
                rintro e u ⟨rfl, hb⟩
                (try dsimp only)
                refine hK.out _ _ (fun _ => HS.out.call hb) ?_
                have hs := HS.out.call hb
                clear HS hb
                have HS := Lib.hid hs; clear hs
                clear hK K'
                (try simp only [Act.put, List.setIfInBounds_toArray, List.set_cons_zero, List.set_cons_succ])
                refine Draws.take 16 (v := ?vxb18) HS.out rfl (by kernel_rfl) (fun _ _ _ h => h) (Or.inl ⟨rfl, ?hxb18⟩) ?rxb18
                case hxb18 => intro w' hw'; go_simp; (try with_reducible rfl)
                (try simp only [Act.put, List.setIfInBounds_toArray, List.set_cons_zero, List.set_cons_succ])
                refine Draws.take 17 (v := ?vxb19) HS.out rfl (by kernel_rfl) (fun _ _ _ h => h) (Or.inl ⟨rfl, ?hxb19⟩) ?rxb19
                case hxb19 => intro w' hw'; go_simp; (try with_reducible rfl)
                (try simp only [Act.put, List.setIfInBounds_toArray, List.set_cons_zero, List.set_cons_succ])
                refine Draws.done (by kernel_rfl) ?_
                have HK := Lib.hid HS.out
                clear HS
                go_wp2_with (first
                  | fail)
                go_ret
                exact ⟨rfl, HK.out.mf.bel⟩
        · have j1 : ¬ (q : Int) < (m : Int) := by omega
          have j2 : decide ((q : Int) < (m : Int)) = false := by simp; omega
          have hqj : q = j := by have := HQJ.out; have := HJM.out; omega
          subst hqj
          go_wp2_with (first
            | fail)
          by_cases hz : tkE (X1.drop N) = 0
          · have HTE := Lib.hid hz
            have hS := (tk_len hz).2.2.1
            obtain ⟨SZ, hSZ⟩ : ∃ SZ, tkS (X1.drop N) = SZ := ⟨_, rfl⟩
            have HTS := Lib.hid hSZ
            have i9 : (0 : Int) < (SZ : Int) := by rw [hSZ] at hS; omega
            clear hz hS hSZ
            go_wp2_with (first
              | (with_reducible refine high_sliceL HJC.out _ _ rfl rfl rfl rfl ?_)
              | (go_at_call 23; (with_reducible refine (rbytes_n A0 q c0 (L0.take q) K HTK.out N HKN.out HK32.out (by have := HN6.out; omega) _ ((HL.out.below HK.out.mf.bel).take HJM.out)).mono ?_); rintro e u ⟨A9, c9, ⟨rfl, _⟩, hk⟩; have hk := HK.out.call hk.bel; clear HK; have HK := Lib.hid hk; clear hk)
              | (refine low_slice HND.out HDC.out rfl _ _ rfl rfl rfl ?_)
              | (go_at_call 26; (with_reducible refine (rtake_any _ _ _ (X1.drop N) HDN.out HDC2.out (by have := HFB.out; omega) _ ((HK.out.rowIn 0 rfl).bys.low (by rw [HX1.out]; exact HDC.out))).mono ?_); intro e u htk; obtain ⟨A3, c3, ⟨rfl, _⟩, hk⟩ := htk.yes HTE.out rfl HTS.out; have hk := HK.out.call hk.bel; clear HK htk; have HK := Lib.hid hk; clear hk)
              | (go_at_call 10; (with_reducible refine (awake_any _ (HW.out.below HK.out.mf.bel)).mono ?_); rintro e u ⟨rfl, hb⟩; have hk := HK.out.call hb; clear hb; clear HK; have HK := Lib.hid hk; clear hk))
            go_ret
            exact ⟨rfl, HK.out.mf.bel⟩
          · have hsc : scn X1 = K := HSCN.out hz
            have HSC := Lib.hid hsc
            by_cases hz3 : tkE (X1.drop N) = 3
            · have HTE := Lib.hid hz3
              have HT0 := Lib.hid (show (3 : Int) ≠ 0 by decide)
              clear hz hz3 hsc
              go_wp2_with (first
                | (with_reducible refine high_sliceL HJC.out _ _ rfl rfl rfl rfl ?_)
                | (go_at_call 23; (with_reducible refine (rbytes_n A0 q c0 (L0.take q) K HTK.out N HKN.out HK32.out (by have := HN6.out; omega) _ ((HL.out.below HK.out.mf.bel).take HJM.out)).mono ?_); rintro e u ⟨A9, c9, ⟨rfl, _⟩, hk⟩; have hk := HK.out.call hk.bel; clear HK; have HK := Lib.hid hk; clear hk)
                | (refine low_slice HND.out HDC.out rfl _ _ rfl rfl rfl ?_)
                | (go_at_call 26; (with_reducible refine (rtake_any _ _ _ (X1.drop N) HDN.out HDC2.out (by have := HFB.out; omega) _ ((HK.out.rowIn 0 rfl).bys.low (by rw [HX1.out]; exact HDC.out))).mono ?_); intro e u htk; obtain ⟨A3, c3, rfl, hb⟩ := htk.no HTE.out HT0.out; have hk := HK.out.call hb; clear HK htk hb; have HK := Lib.hid hk; clear hk)
                | (go_at_call 11; (with_reducible refine (HNEW.out _).mono ?_); rintro e u ⟨r, rfl, hr, hd, hb⟩; have hk := HK.out.newDisk hb hr hd; clear hr hd hb; clear HK; have HK := Lib.hid hk; clear hk)
                | (go_at_call 24; (with_reducible refine (append_any _ Z 0 _ [] _ N3 _ X1 HX1.out (by have := HZ.out; omega) (by have := HZ.out; have := HFB.out; simp; omega) _ (HK.out.rowIn 1 rfl).bys (HK.out.dk 0 rfl)).mono ?_); rintro e u ⟨rfl, v9, hd, hm⟩; have hk := HK.out.disk 0 rfl hm hd; simp only [List.set_cons_zero, List.nil_append] at hk; clear hd hm; clear HK; have HK := Lib.hid hk; clear hk)
                | (go_at_call 12; (with_reducible refine (open_k HK.out HW.out 0 (Int.le_refl 0) rfl (by have := HX1.out; have := HFB.out; omega) K HSC.out X HFX.out N HXN.out HTE.out).mono ?_); rintro e u ⟨rl, v1, v2, L, rfl, ht, hk⟩; have HTX := Lib.hid ht; simp only [List.set_cons_zero] at hk; clear ht; clear HK; have HK := Lib.hid hk; clear hk))
              have HLJ := Lib.hid (show L.length = q by rw [← txt_length, HTX.out, HKL.out])
              have HLX := Lib.hid (show ∀ x ∈ L, x.2.2.length ≤ 1000000 from fun x hx => by
                have : x.2.2 ∈ txt L := List.mem_map.2 ⟨x, hx, rfl⟩
                rw [HTX.out] at this
                have := HK32.out _ this
                omega)
              have hk1 := HK.out.sub (ro' := []) (by simp)
              clear HK
              have HK := Lib.hid hk1; clear hk1
              refine Draws.start (S := fun u' : World => Kg w (fun _ => False) [Th.lo rl r v1 L, Th.dk r Z N v2 X, Th.row (.slice (some ⟨g, 0, none⟩) N3 cB) X1] [] u') (n := 10) 10 rfl (by kernel_rfl) ?_
              have HS := Lib.hid (show (fun u' : World => Kg w (fun _ => False) [Th.lo rl r v1 L, Th.dk r Z N v2 X, Th.row (.slice (some ⟨g, 0, none⟩) N3 cB) X1] [] u') (World.drew _) from HK.out.drew)
              refine Draws.take 0 (v := ?vya1) HS.out rfl (by kernel_rfl) (fun _ _ _ h => h) (Or.inl ⟨rfl, ?hya1⟩) ?rya1
              case hya1 => intro w' hw'; go_simp; (try with_reducible rfl)
              (try simp only [Act.put, List.setIfInBounds_toArray, List.set_cons_zero, List.set_cons_succ])
              refine Draws.take 2 (v := ?vya2) HS.out rfl (by kernel_rfl) (fun _ _ _ h => h) (Or.inl ⟨rfl, ?hya2⟩) ?rya2
              case hya2 => intro w' hw'; go_simp; (try with_reducible rfl)
              (try simp only [Act.put, List.setIfInBounds_toArray, List.set_cons_zero, List.set_cons_succ])
              refine Draws.take 3 (v := ?vya3) HS.out rfl (by kernel_rfl) (fun _ _ _ h => h) (Or.inl ⟨rfl, ?hya3⟩) ?rya3
              case hya3 => intro w' hw'; go_simp; (try with_reducible rfl)
              (try simp only [Act.put, List.setIfInBounds_toArray, List.set_cons_zero, List.set_cons_succ])
              refine Draws.take 4 HS.out rfl (by kernel_rfl) (fun _ _ _ h => h) (yield_highL HJC.out _ _ rfl rfl rfl rfl) ?_
              (try simp only [Act.put, List.setIfInBounds_toArray, List.set_cons_zero, List.set_cons_succ])
              refine Draws.does 1 rfl (by kernel_rfl) rfl (fun K' hK => ?_)
              go_simp
              go_at_call 20
              refine (all_any _ _ _ L q HLJ.out HJX.out HLX.out _ (HS.out.lo 0 rfl)).mono ?_
              rintro e u ⟨A7, c7, M7, ⟨rfl, _⟩, htm, hkl⟩
              (try dsimp only)
              have HTM := Lib.hid htm
              clear htm
              refine hK.out _ _ (fun _ => HS.out.call hkl.bel) ?_
              refine Draws.more (S' := fun u' : World => Kg w (fun _ => False) [Th.lo rl r v1 L, Th.dk r Z N v2 X, Th.row (.slice (some ⟨g, 0, none⟩) N3 cB) X1] [Th.ll A7 q M7] u') (fun _ h => h.sub (fun _ hr => List.mem_cons_of_mem _ hr)) _ _ _ _ ?_
              have hs : (fun u' : World => Kg w (fun _ => False) [Th.lo rl r v1 L, Th.dk r Z N v2 X, Th.row (.slice (some ⟨g, 0, none⟩) N3 cB) X1] [Th.ll A7 q M7] u') u := HS.out.lists hkl
              clear HS
              have HS := Lib.hid hs; clear hs
              clear hkl
              clear hK K'
              (try simp only [Act.put, List.setIfInBounds_toArray, List.set_cons_zero, List.set_cons_succ])
              refine Draws.does 5 rfl (by kernel_rfl) rfl (fun K' hK => ?_)
              have HSAME := Lib.hid (show txt M7 = txt (L0.take q) by rw [HTM.out, HTX.out, HTK.out])
              go_simp
              go_at_call 19
              refine (same_yes A7 A0 q c7 c0 M7 (L0.take q) HSAME.out HJX.out _ (HS.out.ll 0 rfl) ((HL.out.below HS.out.mf.bel).take HJM.out)).mono ?_
              rintro e u ⟨rfl, hb⟩
              (try dsimp only)
              refine hK.out _ _ (fun _ => HS.out.call hb) ?_
              have hs := HS.out.call hb
              clear HS hb
              have HS := Lib.hid hs; clear hs
              clear hK K'
              (try simp only [Act.put, List.setIfInBounds_toArray, List.set_cons_zero, List.set_cons_succ])
              refine Draws.take 6 (v := ?vya4) HS.out rfl (by kernel_rfl) (fun _ _ _ h => h) (Or.inl ⟨rfl, ?hya4⟩) ?rya4
              case hya4 => intro w' hw'; go_simp; (try with_reducible rfl)
              (try simp only [Act.put, List.setIfInBounds_toArray, List.set_cons_zero, List.set_cons_succ])
              refine Draws.does 7 rfl (by kernel_rfl) rfl (fun K' hK => ?_)
              go_simp
              go_at_call 10
              refine (awake_any _ (HW.out.below HS.out.mf.bel)).mono ?_
              rintro e u ⟨rfl, hb⟩
              (try dsimp only)
              refine hK.out _ _ (fun _ => HS.out.call hb) ?_
              have hs := HS.out.call hb
              clear HS hb
              have HS := Lib.hid hs; clear hs
              clear hK K'
              (try simp only [Act.put, List.setIfInBounds_toArray, List.set_cons_zero, List.set_cons_succ])
              refine Draws.take 8 (v := ?vya5) HS.out rfl (by kernel_rfl) (fun _ _ _ h => h) (Or.inl ⟨rfl, ?hya5⟩) ?rya5
              case hya5 => intro w' hw'; go_simp; (try with_reducible rfl)
              (try simp only [Act.put, List.setIfInBounds_toArray, List.set_cons_zero, List.set_cons_succ])
              refine Draws.take 9 (v := ?vya6) HS.out rfl (by kernel_rfl) (fun _ _ _ h => h) (Or.inl ⟨rfl, ?hya6⟩) ?rya6
              case hya6 => intro w' hw'; go_simp; (try with_reducible rfl)
              (try simp only [Act.put, List.setIfInBounds_toArray, List.set_cons_zero, List.set_cons_succ])
              refine Draws.done (by kernel_rfl) ?_
              have HK := Lib.hid HS.out
              clear HS
              go_wp2_with (first
                | fail)
              go_ret
              exact ⟨rfl, HK.out.mf.bel⟩
            · have HT00 := Lib.hid hz
              have HT3 := Lib.hid hz3
              have HSN := Lib.hid (show (fls (scn X1)).length = N by rw [hsc]; exact HKN.out)
              obtain ⟨t, ht⟩ : ∃ t, tkE (X1.drop N) = t := ⟨_, rfl⟩
              have HTE := Lib.hid ht
              have hx : (t == 0) = false := by rw [ht] at hz; simp [hz]
              have HT0 := Lib.hid (show t ≠ 0 by rw [← ht]; exact hz)
              have hx0 : ¬ t = 0 := HT0.out
              clear hz hz3 hsc ht
              go_wp2_with (first
                | (with_reducible refine high_sliceL HJC.out _ _ rfl rfl rfl rfl ?_)
                | (go_at_call 23; (with_reducible refine (rbytes_n A0 q c0 (L0.take q) K HTK.out N HKN.out HK32.out (by have := HN6.out; omega) _ ((HL.out.below HK.out.mf.bel).take HJM.out)).mono ?_); rintro e u ⟨A9, c9, ⟨rfl, _⟩, hk⟩; have hk := HK.out.call hk.bel; clear HK; have HK := Lib.hid hk; clear hk)
                | (refine low_slice HND.out HDC.out rfl _ _ rfl rfl rfl ?_)
                | (go_at_call 26; (with_reducible refine (rtake_any _ _ _ (X1.drop N) HDN.out HDC2.out (by have := HFB.out; omega) _ ((HK.out.rowIn 0 rfl).bys.low (by rw [HX1.out]; exact HDC.out))).mono ?_); intro e u htk; obtain ⟨A3, c3, rfl, hb⟩ := htk.no HTE.out HT0.out; have hk := HK.out.call hb; clear HK htk hb; have HK := Lib.hid hk; clear hk)
                | (go_at_call 11; (with_reducible refine (HNEW.out _).mono ?_); rintro e u ⟨r, rfl, hr, hd, hb⟩; have hk := HK.out.newDisk hb hr hd; clear hr hd hb; clear HK; have HK := Lib.hid hk; clear hk)
                | (go_at_call 24; (with_reducible refine (append_any _ Z 0 _ [] _ N3 _ X1 HX1.out (by have := HZ.out; omega) (by have := HZ.out; have := HFB.out; simp; omega) _ (HK.out.rowIn 1 rfl).bys (HK.out.dk 0 rfl)).mono ?_); rintro e u ⟨rfl, v9, hd, hm⟩; have hk := HK.out.disk 0 rfl hm hd; simp only [List.set_cons_zero, List.nil_append] at hk; clear hd hm; clear HK; have HK := Lib.hid hk; clear hk)
                | (go_at_call 12; (with_reducible refine (open_bad _ _ _ _ X1 (by have := HX1.out; have := HFB.out; omega) N HSN.out HT3.out HT00.out _ (HW.out.below HK.out.mf.bel) (HK.out.dk 0 rfl)).mono ?_); rintro e u ⟨rfl, hb⟩; have hk := HK.out.call hb; clear hb; clear HK; have HK := Lib.hid hk; clear hk))
              have hk1 := HK.out.sub (ro' := []) (by simp)
              clear HK
              have HK := Lib.hid hk1; clear hk1
              refine Draws.start (S := fun u' : World => Kg w (fun _ => False) [Th.dk r Z 0 v9 X1, Th.row (.slice (some ⟨g, 0, none⟩) N3 cB) X1] [] u') (n := 18) 18 rfl (by kernel_rfl) ?_
              have HS := Lib.hid (show (fun u' : World => Kg w (fun _ => False) [Th.dk r Z 0 v9 X1, Th.row (.slice (some ⟨g, 0, none⟩) N3 cB) X1] [] u') (World.drew _) from HK.out.drew)
              refine Draws.take 0 (v := ?vyb7) HS.out rfl (by kernel_rfl) (fun _ _ _ h => h) (Or.inl ⟨rfl, ?hyb7⟩) ?ryb7
              case hyb7 => intro w' hw'; go_simp; (try with_reducible rfl)
              (try simp only [Act.put, List.setIfInBounds_toArray, List.set_cons_zero, List.set_cons_succ])
              refine Draws.take 1 (v := ?vyb8) HS.out rfl (by kernel_rfl) (fun _ _ _ h => h) (Or.inl ⟨rfl, ?hyb8⟩) ?ryb8
              case hyb8 => intro w' hw'; go_simp; (try with_reducible rfl)
              (try simp only [Act.put, List.setIfInBounds_toArray, List.set_cons_zero, List.set_cons_succ])
              refine Draws.take 2 (v := ?vyb9) HS.out rfl (by kernel_rfl) (fun _ _ _ h => h) (Or.inl ⟨rfl, ?hyb9⟩) ?ryb9
              case hyb9 => intro w' hw'; go_simp; (try with_reducible rfl)
              (try simp only [Act.put, List.setIfInBounds_toArray, List.set_cons_zero, List.set_cons_succ])
              refine Draws.take 3 (v := ?vyb10) HS.out rfl (by kernel_rfl) (fun _ _ _ h => h) (Or.inl ⟨rfl, ?hyb10⟩) ?ryb10
              case hyb10 => intro w' hw'; go_simp; (try with_reducible rfl)
              (try simp only [Act.put, List.setIfInBounds_toArray, List.set_cons_zero, List.set_cons_succ])
              refine Draws.take 4 (v := ?vyb11) HS.out rfl (by kernel_rfl) (fun _ _ _ h => h) (Or.inl ⟨rfl, ?hyb11⟩) ?ryb11
              case hyb11 => intro w' hw'; go_simp; (try with_reducible rfl)
              (try simp only [Act.put, List.setIfInBounds_toArray, List.set_cons_zero, List.set_cons_succ])
              refine Draws.take 5 (v := ?vyb12) HS.out rfl (by kernel_rfl) (fun _ _ _ h => h) (Or.inl ⟨rfl, ?hyb12⟩) ?ryb12
              case hyb12 => intro w' hw'; go_simp; (try with_reducible rfl)
              (try simp only [Act.put, List.setIfInBounds_toArray, List.set_cons_zero, List.set_cons_succ])
              refine Draws.take 6 (v := ?vyb13) HS.out rfl (by kernel_rfl) (fun _ _ _ h => h) (Or.inl ⟨rfl, ?hyb13⟩) ?ryb13
              case hyb13 => intro w' hw'; go_simp; (try with_reducible rfl)
              (try simp only [Act.put, List.setIfInBounds_toArray, List.set_cons_zero, List.set_cons_succ])
              refine Draws.take 7 (v := ?vyb14) HS.out rfl (by kernel_rfl) (fun _ _ _ h => h) (Or.inl ⟨rfl, ?hyb14⟩) ?ryb14
              case hyb14 => intro w' hw'; go_simp; (try with_reducible rfl)
              (try simp only [Act.put, List.setIfInBounds_toArray, List.set_cons_zero, List.set_cons_succ])
              refine Draws.take 10 (v := ?vyb15) HS.out rfl (by kernel_rfl) (fun _ _ _ h => h) (Or.inl ⟨rfl, ?hyb15⟩) ?ryb15
              case hyb15 => intro w' hw'; go_simp; (try with_reducible rfl)
              (try simp only [Act.put, List.setIfInBounds_toArray, List.set_cons_zero, List.set_cons_succ])
              refine Draws.take 11 HS.out rfl (by kernel_rfl) (fun _ _ _ h => h) (yield_str (fun _ h => (h.rowIn 1 rfl).bys) HX1.out _ rfl rfl rfl) ?_
              (try simp only [Act.put, List.setIfInBounds_toArray, List.set_cons_zero, List.set_cons_succ])
              refine Draws.does 8 rfl (by kernel_rfl) rfl (fun K' hK => ?_)
              go_simp
              go_at_call 22
              refine (bytes_n _ _ _ _ X1 N3 HX1.out HDB.out _ (HS.out.dk 0 rfl)).mono ?_
              rintro e u ⟨A8, c8, ⟨rfl, _⟩, hk⟩
              (try dsimp only)
              refine hK.out _ _ (fun _ => HS.out.call hk.bel) ?_
              refine Draws.more (S' := fun u' : World => Kg w (fun _ => False) [Th.dk r Z 0 v9 X1, Th.row (.slice (some ⟨g, 0, none⟩) N3 cB) X1] [Th.bys A8 X1] u') (fun _ h => h.sub (fun _ hr => List.mem_cons_of_mem _ hr)) _ _ _ _ ?_
              have hs : (fun u' : World => Kg w (fun _ => False) [Th.dk r Z 0 v9 X1, Th.row (.slice (some ⟨g, 0, none⟩) N3 cB) X1] [Th.bys A8 X1] u') u := HS.out.makes hk
              clear HS
              have HS := Lib.hid hs; clear hs
              clear hk
              clear hK K'
              (try simp only [Act.put, List.setIfInBounds_toArray, List.set_cons_zero, List.set_cons_succ])
              refine Draws.take 9 HS.out rfl (by kernel_rfl) (fun _ _ _ h => h) (yield_str (fun _ h => h.bys 0 rfl) HX1.out _ rfl rfl rfl) ?_
              (try simp only [Act.put, List.setIfInBounds_toArray, List.set_cons_zero, List.set_cons_succ])
              refine Draws.take 12 HS.out rfl (by kernel_rfl) (fun _ _ _ h => h) (yield_eqs hqs _ _ _ rfl rfl rfl rfl) ?_
              (try simp only [Act.put, List.setIfInBounds_toArray, List.set_cons_zero, List.set_cons_succ])
              refine Draws.take 13 (v := ?vyb16) HS.out rfl (by kernel_rfl) (fun _ _ _ h => h) (Or.inl ⟨rfl, ?hyb16⟩) ?ryb16
              case hyb16 => intro w' hw'; go_simp; (try with_reducible rfl)
              (try simp only [Act.put, List.setIfInBounds_toArray, List.set_cons_zero, List.set_cons_succ])
              refine Draws.take 14 (v := ?vyb17) HS.out rfl (by kernel_rfl) (fun _ _ _ h => h) (Or.inl ⟨rfl, ?hyb17⟩) ?ryb17
              case hyb17 => intro w' hw'; go_simp; (try with_reducible rfl)
              (try simp only [Act.put, List.setIfInBounds_toArray, List.set_cons_zero, List.set_cons_succ])
              refine Draws.does 15 rfl (by kernel_rfl) rfl (fun K' hK => ?_)
              go_simp
              go_at_call 10
              refine (awake_any _ (HW.out.below HS.out.mf.bel)).mono ?_
              rintro e u ⟨rfl, hb⟩
              (try dsimp only)
              refine hK.out _ _ (fun _ => HS.out.call hb) ?_
              have hs := HS.out.call hb
              clear HS hb
              have HS := Lib.hid hs; clear hs
              clear hK K'
              (try simp only [Act.put, List.setIfInBounds_toArray, List.set_cons_zero, List.set_cons_succ])
              refine Draws.take 16 (v := ?vyb18) HS.out rfl (by kernel_rfl) (fun _ _ _ h => h) (Or.inl ⟨rfl, ?hyb18⟩) ?ryb18
              case hyb18 => intro w' hw'; go_simp; (try with_reducible rfl)
              (try simp only [Act.put, List.setIfInBounds_toArray, List.set_cons_zero, List.set_cons_succ])
              refine Draws.take 17 (v := ?vyb19) HS.out rfl (by kernel_rfl) (fun _ _ _ h => h) (Or.inl ⟨rfl, ?hyb19⟩) ?ryb19
              case hyb19 => intro w' hw'; go_simp; (try with_reducible rfl)
              (try simp only [Act.put, List.setIfInBounds_toArray, List.set_cons_zero, List.set_cons_succ])
              refine Draws.done (by kernel_rfl) ?_
              have HK := Lib.hid HS.out
              clear HS
              go_wp2_with (first
                | fail)
              go_ret
              exact ⟨rfl, HK.out.mf.bel⟩

set_option maxRecDepth 100000 in
theorem lifted (os : Os) (started : os.Started) (H : Type) (enc : TypeId × Value → H) :
    ReturnsInHanded {} Tryd.checked os 5 .any (fun w args => (Rows.wlogTurnedSpec.pre enc Tryd.prog Tryd.f5 [] false w args ∧ laidMetH Tryd.prog laid w) ∧ sizedMet enc Tryd.prog Tryd.f5 (OpenSpec.ofChange Rows.wlogTurnedSpec) false w args)
      (Rows.wlogTurnedSpec.post enc Tryd.prog Tryd.f5 false true false false) := by
  refine returnsInHanded_of_change_and (C := Tryd.checked) (X := fun w _ => laidMetH Tryd.prog laid w) (fun _ _ _ hh h => h.of_heap hh) own started (by kernel_rfl) Tryd.func5
    (ChangeSpec.witness_shaped (enc := enc) (C := Tryd.checked) (os := os) (X := fun w _ => laidMetH Tryd.prog laid w) false (World.doorLaid Tryd.prog 400 os) #[.slice none 0 0, .int .i64 0, .int .u8 0] 12 rfl (World.shaped_of_RefB (by kernel_rfl) (by kernel_rfl)) (by kernel_rfl) (by kernel_rfl) (by kernel_rfl) (door_met os _)) ?_
  intro W base args ds gs before hval0 hW _ hsz0 hL _
  have hsz : (DataW.weightsEach Tryd.prog (Tryd.f5.params.toList ++ Rows.wlogTurnedSpec.plain.varTypes Tryd.prog) (ds ++ gs)).all (· ≤ reachBytes) = true := hsz0
  clear hsz0
  have hval : ∀ (j : Nat) t v, Tryd.f5.params[j]? = some t → args[j]? = some v → Value.okWide Tryd.prog W .any base t v := hval0
  have hW' := hW
  obtain ⟨p, q, hA0, hV, rfl, hfz, hnd⟩ := hW
  have hA : DataW.TrodAll enc Tryd.prog W 0 (fun _ => true) true Tryd.f5.params.toList args.toList ds p := hA0
  rw [Tryd.params5] at hA hval hsz
  obtain ⟨v0, vs0, d0, ds0, q0, r0, hargs, rfl, rfl, h0, t0⟩ := trodAll_cons hA
  obtain ⟨v1, vs1, d1, ds1, q1, r1, rfl, rfl, rfl, h1, t1⟩ := trodAll_cons t0
  obtain ⟨v2, vs2, d2, ds2, q2, r2, rfl, rfl, rfl, h2, t2⟩ := trodAll_cons t1
  obtain ⟨rfl, rfl, rfl⟩ := trodAll_nil t2
  obtain rfl : args = #[v0, v1, v2] := by cases args; simp_all
  obtain ⟨rfl, rfl⟩ := trodVars_none hV
  have k0 := h0
  have lt0 : ∀ x ∈ q0, x.block < W.heap.size := by obtain ⟨m, hm⟩ := k0; exact DataW.trod_lt m _ _ _ hm
  obtain ⟨A0, n0, c0, L0, rfl, hd0, hc0⟩ := open_B (hval 0 31 v0 rfl rfl) h0
  have k1 := h1
  have lt1 : ∀ x ∈ q1, x.block < W.heap.size := by obtain ⟨m, hm⟩ := k1; exact DataW.trod_lt m _ _ _ hm
  obtain ⟨a1, rfl, rfl, rfl, w1⟩ := open_int Tryd.underlying3 (hval 1 3 v1 rfl rfl) h1
  have k2 := h2
  have lt2 : ∀ x ∈ q2, x.block < W.heap.size := by obtain ⟨m, hm⟩ := k2; exact DataW.trod_lt m _ _ _ hm
  obtain ⟨a2, rfl, rfl, rfl, w2⟩ := open_int Tryd.underlying5 (hval 2 5 v2 rfl rfl) h2
  have hw := nib_of_laid hL
  clear hA0 hval0
  refine (walk W hw A0 n0 c0 L0 hd0 hc0 a1 w1 a2 w2).mono fun e W' ⟨he, bel⟩ => ?_
  subst he
  exact ⟨_, rfl, _, _, _, [], _, [], hW', trodAll_mk1 (shut_bool Tryd.underlying4 _), (trodAll_cons_mk (Below.trod laidOut (by kernel_rfl) (of_decide_eq_true (by kernel_rfl)) k0 bel lt0) (trodAll_cons_mk (Below.trod laidOut (by kernel_rfl) (of_decide_eq_true (by kernel_rfl)) k1 bel lt1) (trodAll_cons_mk (Below.trod laidOut (by kernel_rfl) (of_decide_eq_true (by kernel_rfl)) k2 bel lt2) trodAll_mk0))), rfl, bel.frame _, fun h => by cases h⟩

theorem over : Rows.wlogTurnedRow.holds Tryd.pinned (OpenSpec.ofChange Rows.wlogTurnedSpec) :=
  OpenClaim.holds_of_wide 5 Tryd.f5 rfl rfl rfl rfl rfl rfl rfl ⟨rfl, rfl, rfl, rfl, rfl⟩ rfl rfl rfl rfl rfl (by kernel_rfl) Tryd.func5 (by kernel_rfl)
    (of_decide_eq_true (by kernel_rfl)) (by unfold Func.isWrapper; first | (rw [if_pos (by decide +kernel)]; kernel_rfl) | (rw [if_neg (by decide +kernel)]; exact ⟨rfl, rfl⟩))
    (fun os started H enc _ => lifted os started H enc)

theorem card_holds : Claim7.holds Tryd.pinned (.plain (OpenSpec.ofChange Rows.wlogTurnedSpec)) Rows.wlogTurnedCard :=
  Claim7.holds_tied_plain_at .later [] [.data] true (true, "d3e7dd077b2e06c46c2b53d199e040de6fbe0416fbc1dc24a646ef2f7b35c331") false
    over (fun _ h => by cases h) (by kernel_rfl) (fun _ h => by cases h) wlogTurned_row_tie rfl ⟨rfl, rfl⟩ (by kernel_rfl) rfl
    (fun f fn hf hfn => by
      obtain rfl : f = 5 := Option.some.inj ((show Tryd.prog.funcNamed "usufruct/usufructlaw12.WlogTurned" = some 5 by kernel_rfl).symm.trans hf) |>.symm
      obtain rfl : fn = Tryd.f5 := (Option.some.inj (Tryd.func5.symm.trans hfn)).symm
      exact ⟨by kernel_rfl, fun j t ht => by
        rw [Tryd.params5] at ht
        have hm : t ∈ [31, 3, 5] := by simpa using Array.mem_of_getElem? ht
        have hall : ([31, 3, 5].all fun u => !Tryd.prog.wantsStandIn u) = true := by kernel_rfl
        exact (show Tryd.prog.wantsStandIn t = false by simpa using List.all_eq_true.1 hall t hm)⟩)
    (by kernel_rfl)
theorem proved : Rows.WlogTurnedCardSaid := card_holds
#print axioms proved
end Go.Proofs.YtnbhgnkkedainaaDoor.wlogTurned
