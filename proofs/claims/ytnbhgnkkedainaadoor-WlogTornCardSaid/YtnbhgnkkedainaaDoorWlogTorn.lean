/- For every slice of slices of bytes and int usufructlaw12.WlogTorn returns true, and each argument reads as before. Condition: the package-level variable frame.nibbles reads, when the call begins, as the program lays it (the card ties that to the program, by the tie that is given with the seat; that nothing else writes it is the translator's report). -/
import Derived.Test.YtnbhgnkkedainaaDoorWl
import Derived.WalkKit
import Derived.ProofKit
import Derived.OpenShut
import Derived.ShutString
import Derived.ChangeOld
import Derived.Below
import Derived.Test.YtnbhgnkkedainaaDoorTie
import Derived.Test.YtnbhgnkkedainaaDoorCards
import Derived.SevenTiedAt
namespace Go.Proofs.YtnbhgnkkedainaaDoor.wlogTorn
open Go.ChangeShapes Go.WideShapes Go.ChangeAt Go.RowKit
set_option linter.unusedVariables false


set_option maxRecDepth 100000 in
set_option maxHeartbeats 8000000 in
theorem walk (w : World) (hw : Nib w) (A0 : Option Addr) (n0 c0 : Nat) (L0 : List BPart) (hd0 : LL w A0 n0 L0) (hc0 : n0 ≤ c0) (a1 : Int) (w1 : (Lit.int .i64 a1).wf = true) :
    Calls Tryd.prog 4 #[.slice A0 n0 c0, .int .i64 a1] w fun e w' => e = .returned (.bool true) ∧ Below w.heap.size w w' := by
  have HW := Lib.hid hw
  have HL := Lib.hid hd0
  have HC0 := Lib.hid hc0
  clear hw hd0 hc0
  obtain ⟨Z, hZ⟩ : ∃ Z : Nat, Z = 65536 := ⟨_, rfl⟩
  have hN : ∀ u, Calls Tryd.prog 11 #[.int .i64 1024] u fun e u' => ∃ r, e = .returned (.pointer (some ⟨r, 0, none⟩)) ∧ u.heap.size ≤ r ∧ Dk u' r (Z : Int) (.slice none 0 0) 0 [] ∧ Below u.heap.size u u' := fun u => by
    subst hZ
    exact new_any 1024 (by omega) u
  have HNEW := Lib.hid hN
  have HZ := Lib.hid hZ
  clear hN hZ
  have HK := Lib.hid (Kg.start w)
  by_cases h20 : 20 < n0
  · have i1 : (20 : Int) < (n0 : Int) := by omega
    have i2 : decide ((20 : Int) < (n0 : Int)) = true := by simp; omega
    go_enter Tryd.func4, Tryd.ntmps4
    go_wp2_with (first
      | (go_at_call 10; (with_reducible refine (awake_any _ (HW.out.below HK.out.mf.bel)).mono ?_); rintro e u ⟨rfl, hb⟩; have hk := HK.out.call hb; clear hb; clear HK; have HK := Lib.hid hk; clear hk))
    go_ret
    exact ⟨rfl, HK.out.mf.bel⟩
  have i1 : ¬ (20 : Int) < (n0 : Int) := by omega
  have i2 : decide ((20 : Int) < (n0 : Int)) = false := by simp; omega
  have H20 := Lib.hid (show n0 ≤ 20 by omega)
  have HN0 := Lib.hid (show (txt L0).length = n0 by rw [txt_length]; exact HL.out.1)
  obtain ⟨M, hM⟩ : ∃ M, txt L0 = M := ⟨_, rfl⟩
  rw [hM] at HN0
  have HM := Lib.hid hM
  clear hM
  go_enter Tryd.func4, Tryd.ntmps4
  go_wp2
  go_loopw [18] (fun i wr => ∃ m : Nat, m ≤ n0 ∧ i = .int .i64 (m : Int) ∧ (∀ j, j < m → (M.getD j []).length ≤ 300) ∧ Kg w (fun _ => False) [] [] wr) (fun i _ => n0 - (intOf i).toNat)
  case atStart => exact ⟨0, Nat.zero_le _, rfl, fun j hj => absurd hj (by omega), HK.out⟩
  case round =>
    obtain ⟨m, hm, rfl, hall, hk⟩ := hrel
    clear HK
    have HK := Lib.hid hk; have HA := Lib.hid hall
    clear hk hall
    by_cases hlt : m < n0
    · obtain ⟨b1, off1, B1, d1, rfl, hx1, q1, o1⟩ := (HL.out.below HK.out.mf.bel).one hlt
      rw [HM.out] at q1
      have i3 : (0 : Int) ≤ (m : Int) := by omega
      have i4 : (m : Int) < (n0 : Int) := by omega
      have i5 : (m : Int) ≤ 20 := by have := H20.out; omega
      clear hx1 o1
      by_cases h3 : 300 < (M.getD m []).length
      · generalize (M.getD m []).length = t at *
        have i6 : (300 : Int) < (t : Int) := by omega
        go_wp2_with (first
          | (go_at_call 10; (with_reducible refine (awake_any _ (HW.out.below HK.out.mf.bel)).mono ?_); rintro e u ⟨rfl, hb⟩; have hk := HK.out.call hb; clear hb; clear HK; have HK := Lib.hid hk; clear hk))
        go_ret
        exact ⟨rfl, HK.out.mf.bel⟩
      · have HQ := Lib.hid (show ∀ j, j < m + 1 → (M.getD j []).length ≤ 300 from fun j hj => by
          by_cases hjm : j = m
          · subst hjm; omega
          · exact HA.out j (by omega))
        clear HA
        have h3' : (M.getD m []).length ≤ 300 := by omega
        generalize (M.getD m []).length = t at *
        have i6 : ¬ (300 : Int) < (t : Int) := by omega
        go_wp2
        go_roundw
        case rel => exact ⟨m + 1, by omega, by go_num, HQ.out, HK.out⟩
        case measure => simp [intOf]; omega
    · obtain rfl : m = n0 := by omega
      have hM2 : M.take m = M := List.take_of_length_le (by rw [HN0.out]; exact Nat.le_refl _)
      have h300 : ∀ p ∈ M, p.length ≤ 300 := by
        have := mem_take HA.out
        rwa [hM2] at this
      have h32 : ∀ p ∈ M, p.length ≤ 32768 := fun p hp => by have := h300 p hp; omega
      have H32 := Lib.hid h32
      have hfb := fls_bound h300
      rw [HN0.out] at hfb
      have HFB := Lib.hid (show (fls M).length ≤ 6160 by
        have h2 : m * (8 + 300) ≤ 20 * 308 := Nat.mul_le_mul H20.out (by omega)
        omega)
      clear HA hM2 h300 h32 hfb hlt hm
      obtain ⟨X0, hX0⟩ : ∃ X, fls M = X := ⟨_, rfl⟩
      obtain ⟨D, hD⟩ : ∃ D, X0.length = D := ⟨_, rfl⟩
      rw [hX0, hD] at HFB
      have HX0 := Lib.hid hX0
      have HD := Lib.hid hD
      have HMD := Lib.hid (show (fls M).length = D by rw [hX0, hD])
      clear hX0 hD
      have BY := True.intro
      by_cases hneg : a1 < 0
      · have i7 : decide (a1 < 0) = true := by simpa using hneg
        go_wp2_with (first
          | (go_at_call 23; clear BY; (with_reducible refine (rbytes_n _ _ _ L0 M HM.out D HMD.out H32.out (by have := HFB.out; omega) _ (HL.out.below HK.out.mf.bel)).mono ?_); rintro e u ⟨A5, c5, ⟨rfl, hcb⟩, hk⟩; rw [HX0.out] at hk; have HCB := Lib.hid hcb; have hk := HK.out.makes hk; clear hcb HK; have HK := Lib.hid hk; clear hk)
          | (go_at_call 10; (with_reducible refine (awake_any _ (HW.out.below HK.out.mf.bel)).mono ?_); rintro e u ⟨rfl, hb⟩; have hk := HK.out.call hb; clear hb; clear HK; have HK := Lib.hid hk; clear hk))
        go_ret
        exact ⟨rfl, HK.out.mf.bel⟩
      by_cases hbig : (D : Int) < a1
      · have i7 : decide (a1 < 0) = false := by simpa using hneg
        have i8 : decide ((D : Int) < a1) = true := by simpa using hbig
        go_wp2_with (first
          | (go_at_call 23; clear BY; (with_reducible refine (rbytes_n _ _ _ L0 M HM.out D HMD.out H32.out (by have := HFB.out; omega) _ (HL.out.below HK.out.mf.bel)).mono ?_); rintro e u ⟨A5, c5, ⟨rfl, hcb⟩, hk⟩; rw [HX0.out] at hk; have HCB := Lib.hid hcb; have hk := HK.out.makes hk; clear hcb HK; have HK := Lib.hid hk; clear hk)
          | (go_at_call 10; (with_reducible refine (awake_any _ (HW.out.below HK.out.mf.bel)).mono ?_); rintro e u ⟨rfl, hb⟩; have hk := HK.out.call hb; clear hb; clear HK; have HK := Lib.hid hk; clear hk))
        go_ret
        exact ⟨rfl, HK.out.mf.bel⟩
      obtain ⟨k, rfl⟩ := Int.eq_ofNat_of_zero_le (show 0 ≤ a1 by omega)
      have i7 : ¬ (k : Int) < 0 := by omega
      have i8 : ¬ (D : Int) < (k : Int) := hbig
      have HKD := Lib.hid (show k ≤ D by omega)
      obtain ⟨j, hj, hj1, hj2⟩ := whole_frames M k
      have HXK := Lib.hid (show (X0.take k).length = k by rw [List.length_take, HD.out]; have := HKD.out; omega)
      have hsc := cut_frames H32.out hj hj1 hj2
      have htl := torn_tail H32.out hj hj1 hj2
      rw [HX0.out] at hsc htl
      have HJM := Lib.hid (show j ≤ m by rw [← HN0.out]; exact hj)
      obtain ⟨K, hK0⟩ : ∃ K, M.take j = K := ⟨_, rfl⟩
      obtain ⟨X, hX⟩ : ∃ X, fls K = X := ⟨_, rfl⟩
      obtain ⟨N, hXN⟩ : ∃ N, X.length = N := ⟨_, rfl⟩
      rw [hK0] at hsc htl
      rw [hX, hXN] at htl
      have HSC := Lib.hid hsc; have HTL := Lib.hid htl
      have HKN := Lib.hid (show (fls K).length = N by rw [hX, hXN])
      have HFX := Lib.hid hX; have HXN := Lib.hid hXN
      have HJ1 := Lib.hid (show ∀ q, q < j → (fls (M.take (q + 1))).length ≤ k from fun q hq => Nat.le_trans (fls_mono M (by omega)) hj1)
      have HJ2 := Lib.hid (show j < m → k < (fls (M.take (j + 1))).length from fun h => hj2 (j + 1) (by omega) (by rw [HN0.out]; omega))
      have HN6 := Lib.hid (show N ≤ 6160 by
        have := hj1
        rw [hK0, hX, hXN] at this
        have := HKD.out; have := HFB.out; omega)
      have HNB := Lib.hid (show N ≤ 1048576 by have := HN6.out; omega)
      have HTK := Lib.hid (show txt (L0.take j) = K by rw [txt_take, HM.out, hK0])
      have HK32 := Lib.hid (show ∀ p ∈ K, p.length ≤ 32768 from fun p hp => H32.out p (List.mem_of_mem_take (hK0 ▸ hp)))
      have HJX := Lib.hid (show j ≤ 1000000 by have := HJM.out; have := H20.out; omega)
      have HJC := Lib.hid (show j ≤ c0 by have := HJM.out; have := HC0.out; omega)
      have HKT := Lib.hid hK0
      have HKL := Lib.hid (show K.length = j by rw [← hK0, List.length_take]; omega)
      clear hneg hbig hj hj1 hj2 hsc htl hK0 hX hXN
      have HKC := Lib.hid (show ∀ c, D ≤ c → k ≤ c from fun c h => by have := HKD.out; omega)
      go_wp2_with (first
        | (go_at_call 23; clear BY; (with_reducible refine (rbytes_n _ _ _ L0 M HM.out D HMD.out H32.out (by have := HFB.out; omega) _ (HL.out.below HK.out.mf.bel)).mono ?_); rintro e u ⟨A5, c5, ⟨rfl, hcb⟩, hk⟩; rw [HX0.out] at hk; have HCB := Lib.hid hcb; have hk := HK.out.makes hk; clear hcb HK; have HK := Lib.hid hk; clear hk)
        | (go_at_call 11; (with_reducible refine (HNEW.out _).mono ?_); rintro e u ⟨r, rfl, hr, hd, hb⟩; have hk := HK.out.newDisk hb hr hd; clear hr hd hb; clear HK; have HK := Lib.hid hk; clear hk)
        | (with_reducible refine high_slice (HKC.out _ HCB.out) rfl _ _ rfl rfl rfl ?_)
        | (go_at_call 24; (with_reducible refine (append_any _ Z 0 _ [] _ k _ (X0.take k) HXK.out (by have := HZ.out; omega) (by have := HZ.out; have := HFB.out; have := HKD.out; simp; omega) _ ((HK.out.bys 0 rfl).take k) (HK.out.dk 0 rfl)).mono ?_); rintro e u ⟨rfl, v9, hd, hm⟩; have hk := HK.out.disk 0 rfl hm hd; simp only [List.set_cons_zero, List.nil_append] at hk; clear hd hm; clear HK; have HK := Lib.hid hk; clear hk)
        | (go_at_call 12; (with_reducible refine (open_k HK.out HW.out 0 (Int.le_refl 0) rfl (by have := HXK.out; have := HKD.out; have := HFB.out; omega) K HSC.out X HFX.out N HXN.out HTL.out).mono ?_); rintro e u ⟨rl, v1, v2, L, rfl, ht, hk⟩; have HTX := Lib.hid ht; simp only [List.set_cons_zero] at hk; clear ht; clear HK; have HK := Lib.hid hk; clear hk))
      have hk1 := HK.out.sub (ro' := []) (by simp)
      clear HK
      have HK := Lib.hid hk1; clear hk1
      have HLJ := Lib.hid (show L.length = j by rw [← txt_length, HTX.out, HKL.out])
      have HLX := Lib.hid (show ∀ x ∈ L, x.2.2.length ≤ 1000000 from fun x hx => by
        have : x.2.2 ∈ txt L := List.mem_map.2 ⟨x, hx, rfl⟩
        rw [HTX.out] at this
        have := HK32.out _ this
        omega)
      go_loopw [11] (fun i wr => ∃ q : Nat, q ≤ j ∧ i = .int .i64 (q : Int) ∧ Kg w (fun _ => False) [Th.lo rl r v1 L, Th.dk r Z N v2 X] [] wr) (fun i _ => j - (intOf i).toNat)
      case atStart => exact ⟨0, Nat.zero_le _, rfl, HK.out⟩
      case round =>
        obtain ⟨q, hq, rfl, hk⟩ := hrel
        clear HK
        have HK := Lib.hid hk
        clear hk
        have HQJ := Lib.hid hq
        have i9 : (q : Int) ≤ 20 := by have := HJM.out; have := H20.out; omega
        by_cases hqm : q < m
        · have j1 : (q : Int) < (m : Int) := by omega
          have j2 : decide ((q : Int) < (m : Int)) = true := by simp; omega
          have hcast : IntKind.i64.wrap ((q : Int) + 1) = ((q + 1 : Nat) : Int) := by rw [IntKind.wrap_i64]; omega
          have HQC := Lib.hid (show q + 1 ≤ c0 by have := HC0.out; omega)
          obtain ⟨N7, hN7⟩ : ∃ N7, (fls (M.take (q + 1))).length = N7 := ⟨_, rfl⟩
          have HN7 := Lib.hid hN7
          have HN7B := Lib.hid (show N7 ≤ 1000000 by rw [← hN7]; have := fls_take_le M (q + 1); have := HFB.out; have := HMD.out; omega)
          have HTQ := Lib.hid (show txt (L0.take (q + 1)) = M.take (q + 1) by rw [txt_take, HM.out])
          have HQ32 := Lib.hid (show ∀ p ∈ M.take (q + 1), p.length ≤ 32768 from fun p hp => H32.out p (List.mem_of_mem_take hp))
          have HQN := Lib.hid (show q + 1 ≤ m by omega)
          by_cases hqj : q < j
          · have j3 : (N7 : Int) ≤ (k : Int) := by have := HJ1.out q hqj; omega
            have j4 : decide ((N7 : Int) ≤ (k : Int)) = true := by simp; omega
            clear hN7
            go_wp2_with (first
              | (with_reducible refine high_sliceL HQC.out _ _ rfl rfl rfl rfl ?_)
              | (go_at_call 23; (with_reducible refine (rbytes_n _ (q + 1) c0 (L0.take (q + 1)) _ HTQ.out N7 HN7.out HQ32.out HN7B.out _ ((HL.out.below HK.out.mf.bel).take HQN.out)).mono ?_); rintro e u ⟨A8, c8, ⟨rfl, _⟩, hk⟩; have hk := HK.out.call hk.bel; clear HK; have HK := Lib.hid hk; clear hk))
            go_roundw
            case rel => exact ⟨q + 1, by omega, by go_num, HK.out⟩
            case measure => simp [intOf]; omega
          · obtain rfl : q = j := by have := HQJ.out; omega
            have j3 : ¬ (N7 : Int) ≤ (k : Int) := by have := HJ2.out hqm; omega
            have j4 : decide ((N7 : Int) ≤ (k : Int)) = false := by simp; omega
            clear hN7
            go_wp2_with (first
              | (with_reducible refine high_sliceL HQC.out _ _ rfl rfl rfl rfl ?_)
              | (go_at_call 23; (with_reducible refine (rbytes_n _ (q + 1) c0 (L0.take (q + 1)) _ HTQ.out N7 HN7.out HQ32.out HN7B.out _ ((HL.out.below HK.out.mf.bel).take HQN.out)).mono ?_); rintro e u ⟨A8, c8, ⟨rfl, _⟩, hk⟩; have hk := HK.out.call hk.bel; clear HK; have HK := Lib.hid hk; clear hk))
            refine Draws.start (S := fun u' : World => Kg w (fun _ => False) [Th.lo rl r v1 L, Th.dk r Z N v2 X] [] u') (n := 29) 29 rfl (by kernel_rfl) ?_
            have HS := Lib.hid (show (fun u' : World => Kg w (fun _ => False) [Th.lo rl r v1 L, Th.dk r Z N v2 X] [] u') (World.drew _) from HK.out.drew)
            refine Draws.take 0 (v := ?v1) HS.out rfl (by kernel_rfl) (fun _ _ _ h => h) (Or.inl ⟨rfl, ?h1⟩) ?r1
            case h1 => intro w' hw'; go_simp; (try with_reducible rfl)
            (try simp only [Act.put, List.setIfInBounds_toArray, List.set_cons_zero, List.set_cons_succ])
            refine Draws.take 2 (v := ?v2) HS.out rfl (by kernel_rfl) (fun _ _ _ h => h) (Or.inl ⟨rfl, ?h2⟩) ?r2
            case h2 => intro w' hw'; go_simp; (try with_reducible rfl)
            (try simp only [Act.put, List.setIfInBounds_toArray, List.set_cons_zero, List.set_cons_succ])
            refine Draws.take 3 (v := ?v3) HS.out rfl (by kernel_rfl) (fun _ _ _ h => h) (Or.inl ⟨rfl, ?h3⟩) ?r3
            case h3 => intro w' hw'; go_simp; (try with_reducible rfl)
            (try simp only [Act.put, List.setIfInBounds_toArray, List.set_cons_zero, List.set_cons_succ])
            refine Draws.take 4 HS.out rfl (by kernel_rfl) (fun _ _ _ h => h) (yield_highL HJC.out _ _ rfl rfl rfl rfl) ?_
            (try simp only [Act.put, List.setIfInBounds_toArray, List.set_cons_zero, List.set_cons_succ])
            refine Draws.does 1 rfl (by kernel_rfl) rfl (fun K' hK => ?_)
            go_simp
            go_at_call 20
            refine (all_any _ _ _ L q HLJ.out HJX.out HLX.out _ (HS.out.lo 0 rfl)).mono ?_
            rintro e u ⟨A7, c7, M7, ⟨rfl, _⟩, htm, hkl⟩
            (try dsimp only)
            have HTM := Lib.hid htm
            clear htm
            refine hK.out _ _ (fun _ => HS.out.call hkl.bel) ?_
            refine Draws.more (S' := fun u' : World => Kg w (fun _ => False) [Th.lo rl r v1 L, Th.dk r Z N v2 X] [Th.ll A7 q M7] u') (fun _ h => h.sub (fun _ hr => List.mem_cons_of_mem _ hr)) _ _ _ _ ?_
            have hs : (fun u' : World => Kg w (fun _ => False) [Th.lo rl r v1 L, Th.dk r Z N v2 X] [Th.ll A7 q M7] u') u := HS.out.lists hkl
            clear HS
            have HS := Lib.hid hs; clear hs
            clear hkl
            clear hK K'
            (try simp only [Act.put, List.setIfInBounds_toArray, List.set_cons_zero, List.set_cons_succ])
            refine Draws.does 5 rfl (by kernel_rfl) rfl (fun K' hK => ?_)
            have HSAME := Lib.hid (show txt M7 = txt (L0.take q) by rw [HTM.out, HTX.out, HTK.out])
            go_simp
            go_at_call 19
            refine (same_yes A7 A0 q c7 c0 M7 (L0.take q) HSAME.out HJX.out _ (HS.out.ll 0 rfl) ((HL.out.below HS.out.mf.bel).take HJM.out)).mono ?_
            rintro e u ⟨rfl, hb⟩
            (try dsimp only)
            refine hK.out _ _ (fun _ => HS.out.call hb) ?_
            have hs := HS.out.call hb
            clear HS hb
            have HS := Lib.hid hs; clear hs
            clear hK K'
            (try simp only [Act.put, List.setIfInBounds_toArray, List.set_cons_zero, List.set_cons_succ])
            refine Draws.take 6 (v := ?v4) HS.out rfl (by kernel_rfl) (fun _ _ _ h => h) (Or.inl ⟨rfl, ?h4⟩) ?r4
            case h4 => intro w' hw'; go_simp; (try with_reducible rfl)
            (try simp only [Act.put, List.setIfInBounds_toArray, List.set_cons_zero, List.set_cons_succ])
            refine Draws.take 7 (v := ?v5) HS.out rfl (by kernel_rfl) (fun _ _ _ h => h) (Or.inl ⟨rfl, ?h5⟩) ?r5
            case h5 => intro w' hw'; go_simp; (try with_reducible rfl)
            (try simp only [Act.put, List.setIfInBounds_toArray, List.set_cons_zero, List.set_cons_succ])
            refine Draws.take 10 (v := ?v6) HS.out rfl (by kernel_rfl) (fun _ _ _ h => h) (Or.inl ⟨rfl, ?h6⟩) ?r6
            case h6 => intro w' hw'; go_simp; (try with_reducible rfl)
            (try simp only [Act.put, List.setIfInBounds_toArray, List.set_cons_zero, List.set_cons_succ])
            refine Draws.take 11 (v := ?v7) HS.out rfl (by kernel_rfl) (fun _ _ _ h => h) (Or.inl ⟨rfl, ?h7⟩) ?r7
            case h7 => intro w' hw'; go_simp; (try with_reducible rfl)
            (try simp only [Act.put, List.setIfInBounds_toArray, List.set_cons_zero, List.set_cons_succ])
            refine Draws.take 12 HS.out rfl (by kernel_rfl) (fun _ _ _ h => h) (yield_highL HJC.out _ _ rfl rfl rfl rfl) ?_
            (try simp only [Act.put, List.setIfInBounds_toArray, List.set_cons_zero, List.set_cons_succ])
            refine Draws.does 8 rfl (by kernel_rfl) rfl (fun K' hK => ?_)
            go_simp
            go_at_call 22
            refine (bytes_n _ _ _ _ X N HXN.out HNB.out _ (HS.out.dk 1 rfl)).mono ?_
            rintro e u ⟨A8, c8, ⟨rfl, _⟩, hk⟩
            (try dsimp only)
            refine hK.out _ _ (fun _ => HS.out.call hk.bel) ?_
            have hs := HS.out.call hk.bel
            clear HS hk
            have HS := Lib.hid hs; clear hs
            clear hK K'
            (try simp only [Act.put, List.setIfInBounds_toArray, List.set_cons_zero, List.set_cons_succ])
            refine Draws.take 9 (v := ?v8) HS.out rfl (by kernel_rfl) (fun _ _ _ h => h) (Or.inl ⟨rfl, ?h8⟩) ?r8
            case h8 => intro w' hw'; go_simp; (try with_reducible rfl)
            (try simp only [Act.put, List.setIfInBounds_toArray, List.set_cons_zero, List.set_cons_succ])
            refine Draws.does 13 rfl (by kernel_rfl) rfl (fun K' hK => ?_)
            go_simp
            go_at_call 23
            refine (rbytes_n A0 q c0 (L0.take q) K HTK.out N HKN.out HK32.out (by have := HNB.out; have := HN6.out; omega) _ ((HL.out.below HS.out.mf.bel).take HJM.out)).mono ?_
            rintro e u ⟨A9, c9, ⟨rfl, _⟩, hk⟩
            (try dsimp only)
            refine hK.out _ _ (fun _ => HS.out.call hk.bel) ?_
            have hs := HS.out.call hk.bel
            clear HS hk
            have HS := Lib.hid hs; clear hs
            clear hK K'
            (try simp only [Act.put, List.setIfInBounds_toArray, List.set_cons_zero, List.set_cons_succ])
            refine Draws.take 14 (v := ?v9) HS.out rfl (by kernel_rfl) (fun _ _ _ h => h) (Or.inl ⟨rfl, ?h9⟩) ?r9
            case h9 => intro w' hw'; go_simp; (try with_reducible rfl)
            (try simp only [Act.put, List.setIfInBounds_toArray, List.set_cons_zero, List.set_cons_succ])
            refine Draws.take 15 HS.out rfl (by kernel_rfl) (fun _ _ _ h => h) (yield_eqi _ _ _ rfl rfl rfl rfl) ?_
            (try simp only [Act.put, List.setIfInBounds_toArray, List.set_cons_zero, List.set_cons_succ])
            refine Draws.take 16 (v := ?v10) HS.out rfl (by kernel_rfl) (fun _ _ _ h => h) (Or.inl ⟨rfl, ?h10⟩) ?r10
            case h10 => intro w' hw'; go_simp; (try with_reducible rfl)
            (try simp only [Act.put, List.setIfInBounds_toArray, List.set_cons_zero, List.set_cons_succ])
            refine Draws.take 17 (v := ?v11) HS.out rfl (by kernel_rfl) (fun _ _ _ h => h) (Or.inl ⟨rfl, ?h11⟩) ?r11
            case h11 => intro w' hw'; go_simp; (try with_reducible rfl)
            (try simp only [Act.put, List.setIfInBounds_toArray, List.set_cons_zero, List.set_cons_succ])
            refine Draws.take 18 (v := ?v12) HS.out rfl (by kernel_rfl) (fun _ _ _ h => h) (Or.inl ⟨rfl, ?h12⟩) ?r12
            case h12 => intro w' hw'; go_simp; (try with_reducible rfl)
            (try simp only [Act.put, List.setIfInBounds_toArray, List.set_cons_zero, List.set_cons_succ])
            refine Draws.take 20 (v := ?v13) HS.out rfl (by kernel_rfl) (fun _ _ _ h => h) (Or.inl ⟨rfl, ?h13⟩) ?r13
            case h13 => intro w' hw'; go_simp; (try with_reducible rfl)
            (try simp only [Act.put, List.setIfInBounds_toArray, List.set_cons_zero, List.set_cons_succ])
            refine Draws.does 19 rfl (by kernel_rfl) rfl (fun K' hK => ?_)
            go_simp
            go_at_call 25
            refine (safe_any _ _ _ _ _ _ (HS.out.dk 1 rfl)).mono ?_
            rintro e u ⟨rfl, rfl⟩
            (try dsimp only)
            refine hK.out _ _ (fun _ => HS.out) ?_
            clear hK K'
            (try simp only [Act.put, List.setIfInBounds_toArray, List.set_cons_zero, List.set_cons_succ])
            refine Draws.does 21 rfl (by kernel_rfl) rfl (fun K' hK => ?_)
            go_simp
            go_at_call 22
            refine (bytes_n _ _ _ _ X N HXN.out HNB.out _ (HS.out.dk 1 rfl)).mono ?_
            rintro e u ⟨A10, c10, ⟨rfl, _⟩, hk⟩
            (try dsimp only)
            refine hK.out _ _ (fun _ => HS.out.call hk.bel) ?_
            have hs := HS.out.call hk.bel
            clear HS hk
            have HS := Lib.hid hs; clear hs
            clear hK K'
            (try simp only [Act.put, List.setIfInBounds_toArray, List.set_cons_zero, List.set_cons_succ])
            refine Draws.take 22 (v := ?v14) HS.out rfl (by kernel_rfl) (fun _ _ _ h => h) (Or.inl ⟨rfl, ?h14⟩) ?r14
            case h14 => intro w' hw'; go_simp; (try with_reducible rfl)
            (try simp only [Act.put, List.setIfInBounds_toArray, List.set_cons_zero, List.set_cons_succ])
            refine Draws.take 23 HS.out rfl (by kernel_rfl) (fun _ _ _ h => h) (yield_eqi _ _ _ rfl rfl rfl rfl) ?_
            (try simp only [Act.put, List.setIfInBounds_toArray, List.set_cons_zero, List.set_cons_succ])
            refine Draws.take 24 (v := ?v15) HS.out rfl (by kernel_rfl) (fun _ _ _ h => h) (Or.inl ⟨rfl, ?h15⟩) ?r15
            case h15 => intro w' hw'; go_simp; (try with_reducible rfl)
            (try simp only [Act.put, List.setIfInBounds_toArray, List.set_cons_zero, List.set_cons_succ])
            refine Draws.take 25 (v := ?v16) HS.out rfl (by kernel_rfl) (fun _ _ _ h => h) (Or.inl ⟨rfl, ?h16⟩) ?r16
            case h16 => intro w' hw'; go_simp; (try with_reducible rfl)
            (try simp only [Act.put, List.setIfInBounds_toArray, List.set_cons_zero, List.set_cons_succ])
            refine Draws.does 26 rfl (by kernel_rfl) rfl (fun K' hK => ?_)
            go_simp
            go_at_call 10
            refine (awake_any _ (HW.out.below HS.out.mf.bel)).mono ?_
            rintro e u ⟨rfl, hb⟩
            (try dsimp only)
            refine hK.out _ _ (fun _ => HS.out.call hb) ?_
            have hs := HS.out.call hb
            clear HS hb
            have HS := Lib.hid hs; clear hs
            clear hK K'
            (try simp only [Act.put, List.setIfInBounds_toArray, List.set_cons_zero, List.set_cons_succ])
            refine Draws.take 27 (v := ?v17) HS.out rfl (by kernel_rfl) (fun _ _ _ h => h) (Or.inl ⟨rfl, ?h17⟩) ?r17
            case h17 => intro w' hw'; go_simp; (try with_reducible rfl)
            (try simp only [Act.put, List.setIfInBounds_toArray, List.set_cons_zero, List.set_cons_succ])
            refine Draws.take 28 (v := ?v18) HS.out rfl (by kernel_rfl) (fun _ _ _ h => h) (Or.inl ⟨rfl, ?h18⟩) ?r18
            case h18 => intro w' hw'; go_simp; (try with_reducible rfl)
            (try simp only [Act.put, List.setIfInBounds_toArray, List.set_cons_zero, List.set_cons_succ])
            refine Draws.done (by kernel_rfl) ?_
            have HK := Lib.hid HS.out
            clear HS
            go_wp2_with (first
              | fail)
            go_ret
            exact ⟨rfl, HK.out.mf.bel⟩
        · have j1 : ¬ (q : Int) < (m : Int) := by omega
          have j2 : decide ((q : Int) < (m : Int)) = false := by simp; omega
          have hqj : q = j := by have := HQJ.out; have := HJM.out; omega
          subst hqj
          go_wp2_with (first
            | fail)
          refine Draws.start (S := fun u' : World => Kg w (fun _ => False) [Th.lo rl r v1 L, Th.dk r Z N v2 X] [] u') (n := 29) 29 rfl (by kernel_rfl) ?_
          have HS := Lib.hid (show (fun u' : World => Kg w (fun _ => False) [Th.lo rl r v1 L, Th.dk r Z N v2 X] [] u') (World.drew _) from HK.out.drew)
          refine Draws.take 0 (v := ?vv1) HS.out rfl (by kernel_rfl) (fun _ _ _ h => h) (Or.inl ⟨rfl, ?hh1⟩) ?rr1
          case hh1 => intro w' hw'; go_simp; (try with_reducible rfl)
          (try simp only [Act.put, List.setIfInBounds_toArray, List.set_cons_zero, List.set_cons_succ])
          refine Draws.take 2 (v := ?vv2) HS.out rfl (by kernel_rfl) (fun _ _ _ h => h) (Or.inl ⟨rfl, ?hh2⟩) ?rr2
          case hh2 => intro w' hw'; go_simp; (try with_reducible rfl)
          (try simp only [Act.put, List.setIfInBounds_toArray, List.set_cons_zero, List.set_cons_succ])
          refine Draws.take 3 (v := ?vv3) HS.out rfl (by kernel_rfl) (fun _ _ _ h => h) (Or.inl ⟨rfl, ?hh3⟩) ?rr3
          case hh3 => intro w' hw'; go_simp; (try with_reducible rfl)
          (try simp only [Act.put, List.setIfInBounds_toArray, List.set_cons_zero, List.set_cons_succ])
          refine Draws.take 4 HS.out rfl (by kernel_rfl) (fun _ _ _ h => h) (yield_highL HJC.out _ _ rfl rfl rfl rfl) ?_
          (try simp only [Act.put, List.setIfInBounds_toArray, List.set_cons_zero, List.set_cons_succ])
          refine Draws.does 1 rfl (by kernel_rfl) rfl (fun K' hK => ?_)
          go_simp
          go_at_call 20
          refine (all_any _ _ _ L q HLJ.out HJX.out HLX.out _ (HS.out.lo 0 rfl)).mono ?_
          rintro e u ⟨A7, c7, M7, ⟨rfl, _⟩, htm, hkl⟩
          (try dsimp only)
          have HTM := Lib.hid htm
          clear htm
          refine hK.out _ _ (fun _ => HS.out.call hkl.bel) ?_
          refine Draws.more (S' := fun u' : World => Kg w (fun _ => False) [Th.lo rl r v1 L, Th.dk r Z N v2 X] [Th.ll A7 q M7] u') (fun _ h => h.sub (fun _ hr => List.mem_cons_of_mem _ hr)) _ _ _ _ ?_
          have hs : (fun u' : World => Kg w (fun _ => False) [Th.lo rl r v1 L, Th.dk r Z N v2 X] [Th.ll A7 q M7] u') u := HS.out.lists hkl
          clear HS
          have HS := Lib.hid hs; clear hs
          clear hkl
          clear hK K'
          (try simp only [Act.put, List.setIfInBounds_toArray, List.set_cons_zero, List.set_cons_succ])
          refine Draws.does 5 rfl (by kernel_rfl) rfl (fun K' hK => ?_)
          have HSAME := Lib.hid (show txt M7 = txt (L0.take q) by rw [HTM.out, HTX.out, HTK.out])
          go_simp
          go_at_call 19
          refine (same_yes A7 A0 q c7 c0 M7 (L0.take q) HSAME.out HJX.out _ (HS.out.ll 0 rfl) ((HL.out.below HS.out.mf.bel).take HJM.out)).mono ?_
          rintro e u ⟨rfl, hb⟩
          (try dsimp only)
          refine hK.out _ _ (fun _ => HS.out.call hb) ?_
          have hs := HS.out.call hb
          clear HS hb
          have HS := Lib.hid hs; clear hs
          clear hK K'
          (try simp only [Act.put, List.setIfInBounds_toArray, List.set_cons_zero, List.set_cons_succ])
          refine Draws.take 6 (v := ?vv4) HS.out rfl (by kernel_rfl) (fun _ _ _ h => h) (Or.inl ⟨rfl, ?hh4⟩) ?rr4
          case hh4 => intro w' hw'; go_simp; (try with_reducible rfl)
          (try simp only [Act.put, List.setIfInBounds_toArray, List.set_cons_zero, List.set_cons_succ])
          refine Draws.take 7 (v := ?vv5) HS.out rfl (by kernel_rfl) (fun _ _ _ h => h) (Or.inl ⟨rfl, ?hh5⟩) ?rr5
          case hh5 => intro w' hw'; go_simp; (try with_reducible rfl)
          (try simp only [Act.put, List.setIfInBounds_toArray, List.set_cons_zero, List.set_cons_succ])
          refine Draws.take 10 (v := ?vv6) HS.out rfl (by kernel_rfl) (fun _ _ _ h => h) (Or.inl ⟨rfl, ?hh6⟩) ?rr6
          case hh6 => intro w' hw'; go_simp; (try with_reducible rfl)
          (try simp only [Act.put, List.setIfInBounds_toArray, List.set_cons_zero, List.set_cons_succ])
          refine Draws.take 11 (v := ?vv7) HS.out rfl (by kernel_rfl) (fun _ _ _ h => h) (Or.inl ⟨rfl, ?hh7⟩) ?rr7
          case hh7 => intro w' hw'; go_simp; (try with_reducible rfl)
          (try simp only [Act.put, List.setIfInBounds_toArray, List.set_cons_zero, List.set_cons_succ])
          refine Draws.take 12 HS.out rfl (by kernel_rfl) (fun _ _ _ h => h) (yield_highL HJC.out _ _ rfl rfl rfl rfl) ?_
          (try simp only [Act.put, List.setIfInBounds_toArray, List.set_cons_zero, List.set_cons_succ])
          refine Draws.does 8 rfl (by kernel_rfl) rfl (fun K' hK => ?_)
          go_simp
          go_at_call 22
          refine (bytes_n _ _ _ _ X N HXN.out HNB.out _ (HS.out.dk 1 rfl)).mono ?_
          rintro e u ⟨A8, c8, ⟨rfl, _⟩, hk⟩
          (try dsimp only)
          refine hK.out _ _ (fun _ => HS.out.call hk.bel) ?_
          have hs := HS.out.call hk.bel
          clear HS hk
          have HS := Lib.hid hs; clear hs
          clear hK K'
          (try simp only [Act.put, List.setIfInBounds_toArray, List.set_cons_zero, List.set_cons_succ])
          refine Draws.take 9 (v := ?vv8) HS.out rfl (by kernel_rfl) (fun _ _ _ h => h) (Or.inl ⟨rfl, ?hh8⟩) ?rr8
          case hh8 => intro w' hw'; go_simp; (try with_reducible rfl)
          (try simp only [Act.put, List.setIfInBounds_toArray, List.set_cons_zero, List.set_cons_succ])
          refine Draws.does 13 rfl (by kernel_rfl) rfl (fun K' hK => ?_)
          go_simp
          go_at_call 23
          refine (rbytes_n A0 q c0 (L0.take q) K HTK.out N HKN.out HK32.out (by have := HNB.out; have := HN6.out; omega) _ ((HL.out.below HS.out.mf.bel).take HJM.out)).mono ?_
          rintro e u ⟨A9, c9, ⟨rfl, _⟩, hk⟩
          (try dsimp only)
          refine hK.out _ _ (fun _ => HS.out.call hk.bel) ?_
          have hs := HS.out.call hk.bel
          clear HS hk
          have HS := Lib.hid hs; clear hs
          clear hK K'
          (try simp only [Act.put, List.setIfInBounds_toArray, List.set_cons_zero, List.set_cons_succ])
          refine Draws.take 14 (v := ?vv9) HS.out rfl (by kernel_rfl) (fun _ _ _ h => h) (Or.inl ⟨rfl, ?hh9⟩) ?rr9
          case hh9 => intro w' hw'; go_simp; (try with_reducible rfl)
          (try simp only [Act.put, List.setIfInBounds_toArray, List.set_cons_zero, List.set_cons_succ])
          refine Draws.take 15 HS.out rfl (by kernel_rfl) (fun _ _ _ h => h) (yield_eqi _ _ _ rfl rfl rfl rfl) ?_
          (try simp only [Act.put, List.setIfInBounds_toArray, List.set_cons_zero, List.set_cons_succ])
          refine Draws.take 16 (v := ?vv10) HS.out rfl (by kernel_rfl) (fun _ _ _ h => h) (Or.inl ⟨rfl, ?hh10⟩) ?rr10
          case hh10 => intro w' hw'; go_simp; (try with_reducible rfl)
          (try simp only [Act.put, List.setIfInBounds_toArray, List.set_cons_zero, List.set_cons_succ])
          refine Draws.take 17 (v := ?vv11) HS.out rfl (by kernel_rfl) (fun _ _ _ h => h) (Or.inl ⟨rfl, ?hh11⟩) ?rr11
          case hh11 => intro w' hw'; go_simp; (try with_reducible rfl)
          (try simp only [Act.put, List.setIfInBounds_toArray, List.set_cons_zero, List.set_cons_succ])
          refine Draws.take 18 (v := ?vv12) HS.out rfl (by kernel_rfl) (fun _ _ _ h => h) (Or.inl ⟨rfl, ?hh12⟩) ?rr12
          case hh12 => intro w' hw'; go_simp; (try with_reducible rfl)
          (try simp only [Act.put, List.setIfInBounds_toArray, List.set_cons_zero, List.set_cons_succ])
          refine Draws.take 20 (v := ?vv13) HS.out rfl (by kernel_rfl) (fun _ _ _ h => h) (Or.inl ⟨rfl, ?hh13⟩) ?rr13
          case hh13 => intro w' hw'; go_simp; (try with_reducible rfl)
          (try simp only [Act.put, List.setIfInBounds_toArray, List.set_cons_zero, List.set_cons_succ])
          refine Draws.does 19 rfl (by kernel_rfl) rfl (fun K' hK => ?_)
          go_simp
          go_at_call 25
          refine (safe_any _ _ _ _ _ _ (HS.out.dk 1 rfl)).mono ?_
          rintro e u ⟨rfl, rfl⟩
          (try dsimp only)
          refine hK.out _ _ (fun _ => HS.out) ?_
          clear hK K'
          (try simp only [Act.put, List.setIfInBounds_toArray, List.set_cons_zero, List.set_cons_succ])
          refine Draws.does 21 rfl (by kernel_rfl) rfl (fun K' hK => ?_)
          go_simp
          go_at_call 22
          refine (bytes_n _ _ _ _ X N HXN.out HNB.out _ (HS.out.dk 1 rfl)).mono ?_
          rintro e u ⟨A10, c10, ⟨rfl, _⟩, hk⟩
          (try dsimp only)
          refine hK.out _ _ (fun _ => HS.out.call hk.bel) ?_
          have hs := HS.out.call hk.bel
          clear HS hk
          have HS := Lib.hid hs; clear hs
          clear hK K'
          (try simp only [Act.put, List.setIfInBounds_toArray, List.set_cons_zero, List.set_cons_succ])
          refine Draws.take 22 (v := ?vv14) HS.out rfl (by kernel_rfl) (fun _ _ _ h => h) (Or.inl ⟨rfl, ?hh14⟩) ?rr14
          case hh14 => intro w' hw'; go_simp; (try with_reducible rfl)
          (try simp only [Act.put, List.setIfInBounds_toArray, List.set_cons_zero, List.set_cons_succ])
          refine Draws.take 23 HS.out rfl (by kernel_rfl) (fun _ _ _ h => h) (yield_eqi _ _ _ rfl rfl rfl rfl) ?_
          (try simp only [Act.put, List.setIfInBounds_toArray, List.set_cons_zero, List.set_cons_succ])
          refine Draws.take 24 (v := ?vv15) HS.out rfl (by kernel_rfl) (fun _ _ _ h => h) (Or.inl ⟨rfl, ?hh15⟩) ?rr15
          case hh15 => intro w' hw'; go_simp; (try with_reducible rfl)
          (try simp only [Act.put, List.setIfInBounds_toArray, List.set_cons_zero, List.set_cons_succ])
          refine Draws.take 25 (v := ?vv16) HS.out rfl (by kernel_rfl) (fun _ _ _ h => h) (Or.inl ⟨rfl, ?hh16⟩) ?rr16
          case hh16 => intro w' hw'; go_simp; (try with_reducible rfl)
          (try simp only [Act.put, List.setIfInBounds_toArray, List.set_cons_zero, List.set_cons_succ])
          refine Draws.does 26 rfl (by kernel_rfl) rfl (fun K' hK => ?_)
          go_simp
          go_at_call 10
          refine (awake_any _ (HW.out.below HS.out.mf.bel)).mono ?_
          rintro e u ⟨rfl, hb⟩
          (try dsimp only)
          refine hK.out _ _ (fun _ => HS.out.call hb) ?_
          have hs := HS.out.call hb
          clear HS hb
          have HS := Lib.hid hs; clear hs
          clear hK K'
          (try simp only [Act.put, List.setIfInBounds_toArray, List.set_cons_zero, List.set_cons_succ])
          refine Draws.take 27 (v := ?vv17) HS.out rfl (by kernel_rfl) (fun _ _ _ h => h) (Or.inl ⟨rfl, ?hh17⟩) ?rr17
          case hh17 => intro w' hw'; go_simp; (try with_reducible rfl)
          (try simp only [Act.put, List.setIfInBounds_toArray, List.set_cons_zero, List.set_cons_succ])
          refine Draws.take 28 (v := ?vv18) HS.out rfl (by kernel_rfl) (fun _ _ _ h => h) (Or.inl ⟨rfl, ?hh18⟩) ?rr18
          case hh18 => intro w' hw'; go_simp; (try with_reducible rfl)
          (try simp only [Act.put, List.setIfInBounds_toArray, List.set_cons_zero, List.set_cons_succ])
          refine Draws.done (by kernel_rfl) ?_
          have HK := Lib.hid HS.out
          clear HS
          go_wp2_with (first
            | fail)
          go_ret
          exact ⟨rfl, HK.out.mf.bel⟩

set_option maxRecDepth 100000 in
theorem lifted (os : Os) (started : os.Started) (H : Type) (enc : TypeId × Value → H) :
    ReturnsInHanded {} Tryd.checked os 4 .any (fun w args => (Rows.wlogTornSpec.pre enc Tryd.prog Tryd.f4 [] false w args ∧ laidMetH Tryd.prog laid w) ∧ sizedMet enc Tryd.prog Tryd.f4 (OpenSpec.ofChange Rows.wlogTornSpec) false w args)
      (Rows.wlogTornSpec.post enc Tryd.prog Tryd.f4 false true false false) := by
  refine returnsInHanded_of_change_and (C := Tryd.checked) (X := fun w _ => laidMetH Tryd.prog laid w) (fun _ _ _ hh h => h.of_heap hh) own started (by kernel_rfl) Tryd.func4
    (ChangeSpec.witness_shaped (enc := enc) (C := Tryd.checked) (os := os) (X := fun w _ => laidMetH Tryd.prog laid w) false (World.doorLaid Tryd.prog 400 os) #[.slice none 0 0, .int .i64 0] 12 rfl (World.shaped_of_RefB (by kernel_rfl) (by kernel_rfl)) (by kernel_rfl) (by kernel_rfl) (by kernel_rfl) (door_met os _)) ?_
  intro W base args ds gs before hval0 hW _ hsz0 hL _
  have hsz : (DataW.weightsEach Tryd.prog (Tryd.f4.params.toList ++ Rows.wlogTornSpec.plain.varTypes Tryd.prog) (ds ++ gs)).all (· ≤ reachBytes) = true := hsz0
  clear hsz0
  have hval : ∀ (j : Nat) t v, Tryd.f4.params[j]? = some t → args[j]? = some v → Value.okWide Tryd.prog W .any base t v := hval0
  have hW' := hW
  obtain ⟨p, q, hA0, hV, rfl, hfz, hnd⟩ := hW
  have hA : DataW.TrodAll enc Tryd.prog W 0 (fun _ => true) true Tryd.f4.params.toList args.toList ds p := hA0
  rw [Tryd.params4] at hA hval hsz
  obtain ⟨v0, vs0, d0, ds0, q0, r0, hargs, rfl, rfl, h0, t0⟩ := trodAll_cons hA
  obtain ⟨v1, vs1, d1, ds1, q1, r1, rfl, rfl, rfl, h1, t1⟩ := trodAll_cons t0
  obtain ⟨rfl, rfl, rfl⟩ := trodAll_nil t1
  obtain rfl : args = #[v0, v1] := by cases args; simp_all
  obtain ⟨rfl, rfl⟩ := trodVars_none hV
  have k0 := h0
  have lt0 : ∀ x ∈ q0, x.block < W.heap.size := by obtain ⟨m, hm⟩ := k0; exact DataW.trod_lt m _ _ _ hm
  obtain ⟨A0, n0, c0, L0, rfl, hd0, hc0⟩ := open_B (hval 0 31 v0 rfl rfl) h0
  have k1 := h1
  have lt1 : ∀ x ∈ q1, x.block < W.heap.size := by obtain ⟨m, hm⟩ := k1; exact DataW.trod_lt m _ _ _ hm
  obtain ⟨a1, rfl, rfl, rfl, w1⟩ := open_int Tryd.underlying3 (hval 1 3 v1 rfl rfl) h1
  have hw := nib_of_laid hL
  clear hA0 hval0
  refine (walk W hw A0 n0 c0 L0 hd0 hc0 a1 w1).mono fun e W' ⟨he, bel⟩ => ?_
  subst he
  exact ⟨_, rfl, _, _, _, [], _, [], hW', trodAll_mk1 (shut_bool Tryd.underlying4 _), (trodAll_cons_mk (Below.trod laidOut (by kernel_rfl) (of_decide_eq_true (by kernel_rfl)) k0 bel lt0) (trodAll_cons_mk (Below.trod laidOut (by kernel_rfl) (of_decide_eq_true (by kernel_rfl)) k1 bel lt1) trodAll_mk0)), rfl, bel.frame _, fun h => by cases h⟩

theorem over : Rows.wlogTornRow.holds Tryd.pinned (OpenSpec.ofChange Rows.wlogTornSpec) :=
  OpenClaim.holds_of_wide 4 Tryd.f4 rfl rfl rfl rfl rfl rfl rfl ⟨rfl, rfl, rfl, rfl, rfl⟩ rfl rfl rfl rfl rfl (by kernel_rfl) Tryd.func4 (by kernel_rfl)
    (of_decide_eq_true (by kernel_rfl)) (by unfold Func.isWrapper; first | (rw [if_pos (by decide +kernel)]; kernel_rfl) | (rw [if_neg (by decide +kernel)]; exact ⟨rfl, rfl⟩))
    (fun os started H enc _ => lifted os started H enc)

theorem card_holds : Claim7.holds Tryd.pinned (.plain (OpenSpec.ofChange Rows.wlogTornSpec)) Rows.wlogTornCard :=
  Claim7.holds_tied_plain_at .later [] [.data] true (true, "d3e7dd077b2e06c46c2b53d199e040de6fbe0416fbc1dc24a646ef2f7b35c331") false
    over (fun _ h => by cases h) (by kernel_rfl) (fun _ h => by cases h) wlogTorn_row_tie rfl ⟨rfl, rfl⟩ (by kernel_rfl) rfl
    (fun f fn hf hfn => by
      obtain rfl : f = 4 := Option.some.inj ((show Tryd.prog.funcNamed "usufruct/usufructlaw12.WlogTorn" = some 4 by kernel_rfl).symm.trans hf) |>.symm
      obtain rfl : fn = Tryd.f4 := (Option.some.inj (Tryd.func4.symm.trans hfn)).symm
      exact ⟨by kernel_rfl, fun j t ht => by
        rw [Tryd.params4] at ht
        have hm : t ∈ [31, 3] := by simpa using Array.mem_of_getElem? ht
        have hall : ([31, 3].all fun u => !Tryd.prog.wantsStandIn u) = true := by kernel_rfl
        exact (show Tryd.prog.wantsStandIn t = false by simpa using List.all_eq_true.1 hall t hm)⟩)
    (by kernel_rfl)
theorem proved : Rows.WlogTornCardSaid := card_holds
#print axioms proved
end Go.Proofs.YtnbhgnkkedainaaDoor.wlogTorn
