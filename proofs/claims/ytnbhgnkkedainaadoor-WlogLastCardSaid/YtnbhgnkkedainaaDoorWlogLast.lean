/- For every slice of slices of bytes and ints usufructlaw12.WlogLast returns true, and each argument reads as before. Condition: the package-level variable frame.nibbles reads, when the call begins, as the program lays it (the card ties that to the program, by the tie that is given with the seat; that nothing else writes it is the translator's report). -/
import Derived.Test.YtnbhgnkkedainaaDoorWk
import Derived.WalkKit
import Derived.ProofKit
import Derived.OpenShut
import Derived.ShutString
import Derived.ChangeOld
import Derived.Below
import Derived.Test.YtnbhgnkkedainaaDoorTie
import Derived.Test.YtnbhgnkkedainaaDoorCards
import Derived.SevenTiedAt
namespace Go.Proofs.YtnbhgnkkedainaaDoor.wlogLast
open Go.ChangeShapes Go.WideShapes Go.ChangeAt Go.RowKit
set_option linter.unusedVariables false


set_option maxRecDepth 100000 in
set_option maxHeartbeats 8000000 in
theorem walk (w : World) (hw : Nib w) (A0 : Option Addr) (n0 c0 : Nat) (L0 : List BPart) (hd0 : LL w A0 n0 L0) (hc0 : n0 ≤ c0) (a1 : Int) (w1 : (Lit.int .i64 a1).wf = true) (a2 : Int) (w2 : (Lit.int .i64 a2).wf = true) :
    Calls Tryd.prog 7 #[.slice A0 n0 c0, .int .i64 a1, .int .i64 a2] w fun e w' => e = .returned (.bool true) ∧ Below w.heap.size w w' := by
  have HW := Lib.hid hw
  have HL := Lib.hid hd0
  clear hw hd0
  obtain ⟨Z, hZ⟩ : ∃ Z : Nat, Z = 262144 := ⟨_, rfl⟩
  have hN : ∀ u, Calls Tryd.prog 11 #[.int .i64 4096] u fun e u' => ∃ r, e = .returned (.pointer (some ⟨r, 0, none⟩)) ∧ u.heap.size ≤ r ∧ Dk u' r (Z : Int) (.slice none 0 0) 0 [] ∧ Below u.heap.size u u' := fun u => by
    subst hZ
    exact new_any 4096 (by omega) u
  have HNEW := Lib.hid hN
  have HZ := Lib.hid hZ
  clear hN hZ
  have HK := Lib.hid (Kg.start w)
  by_cases h20 : 20 < n0
  · have i1 : (20 : Int) < (n0 : Int) := by omega
    have i2 : decide ((20 : Int) < (n0 : Int)) = true := by simp; omega
    go_enter Tryd.func7, Tryd.ntmps7
    go_wp2_with (first
      | (go_at_call 11; (with_reducible refine (HNEW.out _).mono ?_); rintro e u ⟨r, rfl, hr, hd, hb⟩; have hk := HK.out.newDisk hb hr hd; clear hr hd hb; clear HK; have HK := Lib.hid hk; clear hk)
      | (go_at_call 12; (with_reducible refine (open_k HK.out HW.out 0 (Int.le_refl 0) rfl (by simp) [] scn_nil [] rfl 0 rfl tk_nil0).mono ?_); rintro e u ⟨rl, v1, v2, L1, rfl, ht, hk⟩; obtain rfl := txt_none ht; simp only [List.set_cons_zero] at hk; clear ht; clear HK; have HK := Lib.hid hk; clear hk)
      | (go_at_call 10; (with_reducible refine (awake_any _ (HW.out.below HK.out.mf.bel)).mono ?_); rintro e u ⟨rfl, hb⟩; have hk := HK.out.call hb; clear hb; clear HK; have HK := Lib.hid hk; clear hk))
    go_ret
    exact ⟨rfl, HK.out.mf.bel⟩
  have i1 : ¬ (20 : Int) < (n0 : Int) := by omega
  have i2 : decide ((20 : Int) < (n0 : Int)) = false := by simp; omega
  have H20 := Lib.hid (show n0 ≤ 20 by omega)
  have HN0 := Lib.hid (show (txt L0).length = n0 by rw [txt_length]; exact HL.out.1)
  go_enter Tryd.func7, Tryd.ntmps7
  go_wp2_with (first
    | (go_at_call 11; (with_reducible refine (HNEW.out _).mono ?_); rintro e u ⟨r, rfl, hr, hd, hb⟩; have hk := HK.out.newDisk hb hr hd; clear hr hd hb; clear HK; have HK := Lib.hid hk; clear hk)
    | (go_at_call 12; (with_reducible refine (open_k HK.out HW.out 0 (Int.le_refl 0) rfl (by simp) [] scn_nil [] rfl 0 rfl tk_nil0).mono ?_); rintro e u ⟨rl, v1, v2, L1, rfl, ht, hk⟩; obtain rfl := txt_none ht; simp only [List.set_cons_zero] at hk; clear ht; clear HK; have HK := Lib.hid hk; clear hk))
  have hsy : Sy w rl r Z v1 v2 [] [] [] 0 u := ⟨HK.out, rfl, rfl, rfl⟩
  have HSY := Lib.hid hsy
  clear HK hsy
  obtain ⟨M, hM⟩ : ∃ M, txt L0 = M := ⟨_, rfl⟩
  rw [hM] at HN0
  have HM := Lib.hid hM
  clear hM
  go_loopw [39] (fun i wr => ∃ (m N : Nat) (P : List UInt8) (L : List BPart) (v vd : Value), m ≤ n0 ∧ i = .int .i64 (m : Int) ∧ (∀ j, j < m → (M.getD j []).length ≤ 300) ∧ Sy w rl r Z v vd L (M.take m) P N wr) (fun i _ => n0 - (intOf i).toNat)
  case atStart => exact ⟨0, 0, [], [], _, _, Nat.zero_le _, rfl, fun j hj => absurd hj (by omega), by rw [List.take_zero]; exact HSY.out⟩
  case round =>
    obtain ⟨m, N, P, L, v, vd, hm, rfl, hall, hsy⟩ := hrel
    clear HSY
    have HK := Lib.hid hsy.kg
    have HTX := Lib.hid hsy.tx; have HFP := Lib.hid hsy.fp; have HPN := Lib.hid hsy.pn; have HA := Lib.hid hall
    clear hsy hall
    have HLM := Lib.hid (show L.length = m by
      have := congrArg List.length HTX.out
      rw [txt_length, List.length_take, HN0.out] at this
      omega)
    have HNB := Lib.hid (show N ≤ 20 * 308 by
      have h1 := fls_bound (mem_take HA.out)
      rw [HFP.out, HPN.out, List.length_take, HN0.out] at h1
      have := H20.out
      have h2 : min m n0 * (8 + 300) ≤ 20 * 308 := Nat.mul_le_mul (by omega) (by omega)
      omega)
    by_cases hlt : m < n0
    · obtain ⟨b1, off1, B1, d1, rfl, hx1, q1, o1⟩ := (HL.out.below HK.out.mf.bel).one hlt
      have o1' : Bys w B1 ((txt L0).getD m []) := HL.out.part (List.mem_of_getElem? hx1)
      rw [HM.out] at q1 o1 o1'
      have i3 : (0 : Int) ≤ (m : Int) := by omega
      have i4 : (m : Int) < (n0 : Int) := by omega
      have i5 : (m : Int) ≤ 20 := by have := H20.out; omega
      have ht1 := take_snoc (M := M) (m := m) (by rw [HN0.out]; exact hlt)
      have hf1 := fls_take (M := M) (m := m) (by rw [HN0.out]; exact hlt)
      rw [HFP.out] at hf1
      by_cases h3 : 300 < (M.getD m []).length
      · generalize (M.getD m []).length = t at *
        have i6 : (300 : Int) < (t : Int) := by omega
        clear hx1 o1 o1' ht1 hf1
        go_wp2_with (first
          | (go_at_call 10; (with_reducible refine (awake_any _ (HW.out.below HK.out.mf.bel)).mono ?_); rintro e u ⟨rfl, hb⟩; have hk := HK.out.call hb; clear hb; clear HK; have HK := Lib.hid hk; clear hk))
        go_ret
        exact ⟨rfl, HK.out.mf.bel⟩
      · have HQ := Lib.hid (show ∀ j, j < m + 1 → (M.getD j []).length ≤ 300 from fun j hj => by
          by_cases hjm : j = m
          · subst hjm; omega
          · exact HA.out j (by omega))
        have HT1 := Lib.hid ht1
        have HF1 := Lib.hid hf1
        have hk := HK.out.old (t := Th.bys B1 (M.getD m [])) o1'
        clear HK hx1 o1 o1' ht1 hf1 HA
        have HK := Lib.hid hk; clear hk
        generalize hT : M.getD m [] = T at *
        clear hT
        have h3' : T.length ≤ 300 := by omega
        clear h3
        obtain ⟨t, ht⟩ : ∃ t, T.length = t := ⟨_, rfl⟩
        rw [ht] at q1 h3'
        have HTL := Lib.hid ht
        clear ht
        have i6 : ¬ (300 : Int) < (t : Int) := by omega
        obtain ⟨P2, hP2⟩ : ∃ P2, P ++ frm T = P2 := ⟨_, rfl⟩
        have HP2 := Lib.hid hP2
        have HF2 := Lib.hid (show fls (M.take (m + 1)) = P2 by rw [HF1.out, hP2])
        have HN2 := Lib.hid (show P2.length = N + (8 + t) by rw [← hP2, List.length_append, frm_length, HPN.out, HTL.out])
        clear hP2
        generalize N + (8 + t) = N2 at *
        have hqs := str_refl T
        go_wp2_with (first
          | (go_at_call 14; (with_reducible refine (append_k HK.out HW.out 0 1 rfl rfl (by decide) 0 rfl HTL.out (by omega) (by have := HZ.out; omega) (by have := HZ.out; have := HNB.out; have := HPN.out; omega) (by have := HLM.out; have := H20.out; omega) P2 HP2.out N2 HN2.out).mono ?_); rintro e u ⟨rfl, v3, v4, A3, c3, hk⟩; simp only [List.set_cons_zero, List.set_cons_succ] at hk; clear HK; have HK := Lib.hid hk; clear hk)
          | (go_at_call 18; (with_reducible refine (last_any _ _ _ (L ++ [(A3, c3, T)]) L.length (by simp) (by have := HLM.out; have := H20.out; omega) A3 c3 T getLast_at (by have := HTL.out; omega) _ (HK.out.lo 0 rfl)).mono ?_); rintro e u ⟨A6, c6, ⟨rfl, _⟩, hk⟩; have hk := HK.out.makes hk; clear HK; have HK := Lib.hid hk; clear hk)
          | (with_reducible refine to_str_want (HK.out.bys 0 rfl) rfl _ rfl rfl rfl ?_)
          | (with_reducible refine to_str_want (HK.out.bys 1 rfl) HTL.out _ rfl rfl rfl ?_)
          | (with_reducible refine ne_str_want hqs _ _ _ rfl rfl rfl rfl ?_))
        go_roundw
        case rel => exact ⟨m + 1, N2, P2, L ++ [(A3, c3, T)], _, _, by omega, by go_num, HQ.out, ⟨HK.out.sub (by simp), by rw [txt_append, HTX.out, HT1.out]; rfl, HF2.out, HN2.out⟩⟩
        case measure => simp [intOf]; omega
    · obtain rfl : m = n0 := by omega
      have hM2 : M.take m = M := List.take_of_length_le (by rw [HN0.out]; exact Nat.le_refl _)
      have htx := HTX.out
      have hfp := HFP.out
      rw [hM2] at htx hfp
      clear HTX HFP
      have HZN := Lib.hid (show Z ≤ 1048576 by have := HZ.out; omega)
      have HNN := Lib.hid (show N ≤ 1048576 by have := HNB.out; omega)
      rcases Nat.eq_zero_or_pos m with h0 | h0
      · obtain rfl : M = [] := List.eq_nil_of_length_eq_zero (by rw [HN0.out, h0])
        obtain rfl : L = [] := List.eq_nil_of_length_eq_zero (by rw [HLM.out, h0])
        obtain ⟨hs1, hs2⟩ := scn_own (M := []) (by simp) hfp HPN.out
        have HS1 := Lib.hid hs1; have HS2 := Lib.hid hs2; have HFP := Lib.hid hfp
        have HMIN := Lib.hid (show min (m : Int) 1 = 0 by omega)
        have HGT := Lib.hid (show decide ((0 : Int) < (m : Int)) = false by simp; omega)
        clear hs1 hs2 hfp htx hM2 h0 hlt hm
        have T1 := True.intro
        go_wp2_with (first
          | (go_at_call 16; (with_reducible refine (compact_none _ _ _ _ (HK.out.lo 0 rfl)).mono ?_); rintro e u ⟨rfl, rfl⟩)
          | (go_at_call 21; clear T1; (with_reducible refine (len_any _ _ _ [] 0 rfl _ (HK.out.lo 0 rfl)).mono ?_); rintro e u ⟨rfl, rfl⟩)
          | (with_reducible refine min_law HMIN.out _ _ rfl rfl rfl rfl ?_)
          | (go_at_call 17; (with_reducible refine (crash_safe _ _ _ P N HPN.out a1 a2 HNN.out _ (HK.out.dk 1 rfl)).mono ?_); rintro e u ⟨rfl, v5, hd, hm⟩; have hk := HK.out.disk 1 rfl hm hd; simp only [List.set_cons_zero, List.set_cons_succ] at hk; clear hd hm; clear HK; have HK := Lib.hid hk; clear hk)
          | (go_at_call 12; (with_reducible refine (open_k HK.out HW.out 1 (Int.natCast_nonneg _) rfl (by have := HPN.out; have := HNB.out; omega) [] HS1.out P HFP.out N HPN.out HS2.out).mono ?_); rintro e u ⟨rl2, v6, v7, L2, rfl, ht, hk⟩; obtain rfl := txt_none ht; simp only [List.set_cons_zero, List.set_cons_succ] at hk; clear ht HK; have HK := Lib.hid hk; clear hk; have T2 := True.intro)
          | (go_at_call 21; clear T2; (with_reducible refine (len_any _ _ _ [] 0 rfl _ (HK.out.lo 0 rfl)).mono ?_); rintro e u ⟨rfl, rfl⟩)
          | (go_at_call 21; (with_reducible refine (len_any _ _ _ [] 0 rfl _ (HK.out.lo 1 rfl)).mono ?_); rintro e u ⟨rfl, rfl⟩)
          | (go_at_call 18; (with_reducible refine (last_none _ _ _ _ (HK.out.lo 0 rfl)).mono ?_); rintro e u ⟨rfl, rfl⟩))
        refine Draws.start (S := fun u' : World => Kg w (fun _ => False) [Th.lo rl2 r v6 [], Th.lo rl r v [], Th.dk r Z N v7 P] [] u') (n := 25) 25 rfl (by kernel_rfl) ?_
        have HS := Lib.hid (show (fun u' : World => Kg w (fun _ => False) [Th.lo rl2 r v6 [], Th.lo rl r v [], Th.dk r Z N v7 P] [] u') (World.drew _) from HK.out.drew)
        refine Draws.take 0 (v := ?v1) HS.out rfl (by kernel_rfl) (fun _ _ _ h => h) (Or.inl ⟨rfl, ?h1⟩) ?r1
        case h1 => intro w' hw'; go_simp; (try with_reducible rfl)
        (try simp only [Act.put, List.setIfInBounds_toArray, List.set_cons_zero, List.set_cons_succ])
        refine Draws.take 1 (v := ?v2) HS.out rfl (by kernel_rfl) (fun _ _ _ h => h) (Or.inl ⟨rfl, ?h2⟩) ?r2
        case h2 => intro w' hw'; go_simp; (try with_reducible rfl)
        (try simp only [Act.put, List.setIfInBounds_toArray, List.set_cons_zero, List.set_cons_succ])
        refine Draws.take 2 (v := ?v3) HS.out rfl (by kernel_rfl) (fun _ _ _ h => h) (Or.inl ⟨rfl, ?h3⟩) ?r3
        case h3 => intro w' hw'; go_simp; (try with_reducible rfl)
        (try simp only [Act.put, List.setIfInBounds_toArray, List.set_cons_zero, List.set_cons_succ])
        refine Draws.take 3 HS.out rfl (by kernel_rfl) (fun _ _ _ h => h) (yield_gtr HGT.out _ _ _ rfl rfl rfl rfl) ?_
        (try simp only [Act.put, List.setIfInBounds_toArray, List.set_cons_zero, List.set_cons_succ])
        refine Draws.take 4 (v := ?v4) HS.out rfl (by kernel_rfl) (fun _ _ _ h => h) (Or.inl ⟨rfl, ?h4⟩) ?r4
        case h4 => intro w' hw'; go_simp; (try with_reducible rfl)
        (try simp only [Act.put, List.setIfInBounds_toArray, List.set_cons_zero, List.set_cons_succ])
        refine Draws.take 5 (v := ?v5) HS.out rfl (by kernel_rfl) (fun _ _ _ h => h) (Or.inl ⟨rfl, ?h5⟩) ?r5
        case h5 => intro w' hw'; go_simp; (try with_reducible rfl)
        (try simp only [Act.put, List.setIfInBounds_toArray, List.set_cons_zero, List.set_cons_succ])
        refine Draws.take 6 (v := ?v6) HS.out rfl (by kernel_rfl) (fun _ _ _ h => h) (Or.inl ⟨rfl, ?h6⟩) ?r6
        case h6 => intro w' hw'; go_simp; (try with_reducible rfl)
        (try simp only [Act.put, List.setIfInBounds_toArray, List.set_cons_zero, List.set_cons_succ])
        refine Draws.take 7 (v := ?v7) HS.out rfl (by kernel_rfl) (fun _ _ _ h => h) (Or.inl ⟨rfl, ?h7⟩) ?r7
        case h7 => intro w' hw'; go_simp; (try with_reducible rfl)
        (try simp only [Act.put, List.setIfInBounds_toArray, List.set_cons_zero, List.set_cons_succ])
        refine Draws.take 8 (v := ?v8) HS.out rfl (by kernel_rfl) (fun _ _ _ h => h) (Or.inl ⟨rfl, ?h8⟩) ?r8
        case h8 => intro w' hw'; go_simp; (try with_reducible rfl)
        (try simp only [Act.put, List.setIfInBounds_toArray, List.set_cons_zero, List.set_cons_succ])
        refine Draws.take 9 HS.out rfl (by kernel_rfl) (fun _ _ _ h => h) (Or.inr ⟨rfl, rfl⟩) ?_
        (try simp only [Act.put, List.setIfInBounds_toArray, List.set_cons_zero, List.set_cons_succ])
        refine Draws.take 10 HS.out rfl (by kernel_rfl) (fun _ _ _ h => h) (Or.inr ⟨rfl, rfl⟩) ?_
        (try simp only [Act.put, List.setIfInBounds_toArray, List.set_cons_zero, List.set_cons_succ])
        refine Draws.take 11 HS.out rfl (by kernel_rfl) (fun _ _ _ h => h) (Or.inr ⟨rfl, rfl⟩) ?_
        (try simp only [Act.put, List.setIfInBounds_toArray, List.set_cons_zero, List.set_cons_succ])
        refine Draws.take 12 HS.out rfl (by kernel_rfl) (fun _ _ _ h => h) (Or.inr ⟨rfl, rfl⟩) ?_
        (try simp only [Act.put, List.setIfInBounds_toArray, List.set_cons_zero, List.set_cons_succ])
        refine Draws.take 13 HS.out rfl (by kernel_rfl) (fun _ _ _ h => h) (Or.inr ⟨rfl, rfl⟩) ?_
        (try simp only [Act.put, List.setIfInBounds_toArray, List.set_cons_zero, List.set_cons_succ])
        refine Draws.take 14 HS.out rfl (by kernel_rfl) (fun _ _ _ h => h) (Or.inr ⟨rfl, rfl⟩) ?_
        (try simp only [Act.put, List.setIfInBounds_toArray, List.set_cons_zero, List.set_cons_succ])
        refine Draws.take 15 HS.out rfl (by kernel_rfl) (fun _ _ _ h => h) (Or.inr ⟨rfl, rfl⟩) ?_
        (try simp only [Act.put, List.setIfInBounds_toArray, List.set_cons_zero, List.set_cons_succ])
        refine Draws.take 16 HS.out rfl (by kernel_rfl) (fun _ _ _ h => h) (Or.inr ⟨rfl, rfl⟩) ?_
        (try simp only [Act.put, List.setIfInBounds_toArray, List.set_cons_zero, List.set_cons_succ])
        refine Draws.take 17 HS.out rfl (by kernel_rfl) (fun _ _ _ h => h) (Or.inr ⟨rfl, rfl⟩) ?_
        (try simp only [Act.put, List.setIfInBounds_toArray, List.set_cons_zero, List.set_cons_succ])
        refine Draws.take 18 HS.out rfl (by kernel_rfl) (fun _ _ _ h => h) (Or.inr ⟨rfl, rfl⟩) ?_
        (try simp only [Act.put, List.setIfInBounds_toArray, List.set_cons_zero, List.set_cons_succ])
        refine Draws.take 19 (v := ?v9) HS.out rfl (by kernel_rfl) (fun _ _ _ h => h) (Or.inl ⟨rfl, ?h9⟩) ?r9
        case h9 => intro w' hw'; go_simp; (try with_reducible rfl)
        (try simp only [Act.put, List.setIfInBounds_toArray, List.set_cons_zero, List.set_cons_succ])
        refine Draws.take 20 (v := ?v10) HS.out rfl (by kernel_rfl) (fun _ _ _ h => h) (Or.inl ⟨rfl, ?h10⟩) ?r10
        case h10 => intro w' hw'; go_simp; (try with_reducible rfl)
        (try simp only [Act.put, List.setIfInBounds_toArray, List.set_cons_zero, List.set_cons_succ])
        refine Draws.take 21 (v := ?v11) HS.out rfl (by kernel_rfl) (fun _ _ _ h => h) (Or.inl ⟨rfl, ?h11⟩) ?r11
        case h11 => intro w' hw'; go_simp; (try with_reducible rfl)
        (try simp only [Act.put, List.setIfInBounds_toArray, List.set_cons_zero, List.set_cons_succ])
        refine Draws.does 22 rfl (by kernel_rfl) rfl (fun K' hK => ?_)
        go_simp
        go_at_call 10
        refine (awake_any _ (HW.out.below HS.out.mf.bel)).mono ?_
        rintro e u ⟨rfl, hb⟩
        (try dsimp only)
        refine hK.out _ _ (fun _ => HS.out.call hb) ?_
        have hs := HS.out.call hb
        clear HS hb
        have HS := Lib.hid hs; clear hs
        clear hK K'
        (try simp only [Act.put, List.setIfInBounds_toArray, List.set_cons_zero, List.set_cons_succ])
        refine Draws.take 23 (v := ?v12) HS.out rfl (by kernel_rfl) (fun _ _ _ h => h) (Or.inl ⟨rfl, ?h12⟩) ?r12
        case h12 => intro w' hw'; go_simp; (try with_reducible rfl)
        (try simp only [Act.put, List.setIfInBounds_toArray, List.set_cons_zero, List.set_cons_succ])
        refine Draws.take 24 (v := ?v13) HS.out rfl (by kernel_rfl) (fun _ _ _ h => h) (Or.inl ⟨rfl, ?h13⟩) ?r13
        case h13 => intro w' hw'; go_simp; (try with_reducible rfl)
        (try simp only [Act.put, List.setIfInBounds_toArray, List.set_cons_zero, List.set_cons_succ])
        refine Draws.done (by kernel_rfl) ?_
        have HK := Lib.hid HS.out
        clear HS
        go_wp2_with (first
          | fail)
        go_ret
        exact ⟨rfl, HK.out.mf.bel⟩
      · obtain ⟨k, hkm⟩ : ∃ k, m = k + 1 := ⟨m - 1, by omega⟩
        have HKM := Lib.hid hkm
        obtain ⟨b1, off1, B1, d1, rfl, hx1, q1, o1⟩ := HL.out.one (show k < m by omega)
        rw [HM.out] at q1 o1
        obtain ⟨A2, c2, hxl⟩ := txt_get htx (show k < M.length by rw [HN0.out]; omega)
        have hT3 := HA.out k (by omega)
        have HN1 := Lib.hid (show IntKind.i64.wrap ((m : Int) - 1) = (k : Int) by have := H20.out; rw [IntKind.wrap_i64]; omega)
        have HMIN := Lib.hid (show min (m : Int) 1 = 1 by omega)
        have HGT := Lib.hid (show decide ((0 : Int) < (m : Int)) = true by simp; omega)
        have HKB := Lib.hid (show k ≤ 20 by have := H20.out; omega)
        have ik1 : (0 : Int) ≤ (k : Int) := by omega
        have ik2 : (k : Int) < (m : Int) := by omega
        clear HA hx1
        generalize M.getD k [] = T at *
        have HXL := Lib.hid hxl; have HQ1 := Lib.hid q1; have HO1 := Lib.hid o1
        obtain ⟨t, ht⟩ : ∃ t, T.length = t := ⟨_, rfl⟩
        have HT3 := Lib.hid hT3
        have HTL := Lib.hid ht
        obtain ⟨P2, hP2⟩ : ∃ P2, frm T = P2 := ⟨_, rfl⟩
        obtain ⟨N2, hN2⟩ : ∃ N2, P2.length = N2 := ⟨_, rfl⟩
        have HNB2 := Lib.hid (show N2 ≤ 308 by rw [← hN2, ← hP2, frm_length]; omega)
        have HFP := Lib.hid (show fls [T] = P2 by rw [fls_one, hP2])
        have HPF := Lib.hid hP2; have HPN2 := Lib.hid hN2
        obtain ⟨hs1, hs2⟩ := scn_own (M := [T]) (by intro p hp; obtain rfl := List.mem_singleton.1 hp; omega) HFP.out hN2
        have HS1 := Lib.hid hs1; have HS2 := Lib.hid hs2
        have hqs := str_refl T
        rw [ht] at q1
        clear hs1 hs2 hfp htx hM2 h0 hlt hm hxl o1 hT3 ht hP2 hN2 hkm
        go_wp2_with (first
          | (go_at_call 16; (with_reducible refine (compact_k HK.out HW.out 0 1 rfl rfl (by decide) k (HLM.out.trans HKM.out) (by have := HKB.out; omega) HXL.out (by have := HT3.out; omega) HZN.out (by have := HT3.out; have := HZ.out; omega) P2 HPF.out N2 HPN2.out).mono ?_); rintro e u ⟨rfl, v3, v4, A3, c3, hk⟩; simp only [List.set_cons_zero, List.set_cons_succ] at hk; clear HK; have HK := Lib.hid hk; clear hk; have T1 := True.intro)
          | (go_at_call 21; clear T1; (with_reducible refine (len_any _ _ _ [(A3, c3, T)] 1 rfl _ (HK.out.lo 0 rfl)).mono ?_); rintro e u ⟨rfl, rfl⟩)
          | (with_reducible refine min_law HMIN.out _ _ rfl rfl rfl rfl ?_)
          | (go_at_call 17; (with_reducible refine (crash_safe _ _ _ P2 N2 HPN2.out a1 a2 (by have := HNB2.out; omega) _ (HK.out.dk 1 rfl)).mono ?_); rintro e u ⟨rfl, v5, hd, hm⟩; have hk := HK.out.disk 1 rfl hm hd; simp only [List.set_cons_zero, List.set_cons_succ] at hk; clear hd hm; clear HK; have HK := Lib.hid hk; clear hk)
          | (go_at_call 12; (with_reducible refine (open_k HK.out HW.out 1 (Int.natCast_nonneg _) rfl (by have := HPN2.out; have := HNB2.out; omega) [T] HS1.out P2 HFP.out N2 HPN2.out HS2.out).mono ?_); rintro e u ⟨rl2, v6, v7, L2, rfl, ht, hk⟩; obtain ⟨A5, c5, rfl⟩ := txt_one ht; simp only [List.set_cons_zero, List.set_cons_succ] at hk; clear ht HK; have HK := Lib.hid hk; clear hk; have T2 := True.intro)
          | (go_at_call 21; clear T2; (with_reducible refine (len_any _ _ _ [(A5, c5, T)] 1 rfl _ (HK.out.lo 0 rfl)).mono ?_); rintro e u ⟨rfl, rfl⟩)
          | (go_at_call 21; (with_reducible refine (len_any _ _ _ [(A3, c3, T)] 1 rfl _ (HK.out.lo 1 rfl)).mono ?_); rintro e u ⟨rfl, rfl⟩)
          | (go_at_call 18; (with_reducible refine (last_any _ _ _ [(A5, c5, T)] 0 rfl (by decide) A5 c5 T rfl (by have := HT3.out; omega) _ (HK.out.lo 0 rfl)).mono ?_); rintro e u ⟨A6, c6, ⟨rfl, _⟩, hk⟩; have hk := HK.out.makes hk; clear HK; have HK := Lib.hid hk; clear hk))
        have hk1 := HK.out.sub (ro' := [Th.bys A6 T]) (by simp)
        clear HK
        have HK := Lib.hid hk1; clear hk1
        refine Draws.start (S := fun u' : World => Kg w (fun _ => False) [Th.lo rl2 r v6 [(A5, c5, T)], Th.lo rl r v3 [(A3, c3, T)], Th.dk r Z N2 v7 P2] [Th.bys A6 T] u') (n := 25) 25 rfl (by kernel_rfl) ?_
        have HS := Lib.hid (show (fun u' : World => Kg w (fun _ => False) [Th.lo rl2 r v6 [(A5, c5, T)], Th.lo rl r v3 [(A3, c3, T)], Th.dk r Z N2 v7 P2] [Th.bys A6 T] u') (World.drew _) from HK.out.drew)
        refine Draws.take 0 (v := ?v14) HS.out rfl (by kernel_rfl) (fun _ _ _ h => h) (Or.inl ⟨rfl, ?h14⟩) ?r14
        case h14 => intro w' hw'; go_simp; (try with_reducible rfl)
        (try simp only [Act.put, List.setIfInBounds_toArray, List.set_cons_zero, List.set_cons_succ])
        refine Draws.take 1 (v := ?v15) HS.out rfl (by kernel_rfl) (fun _ _ _ h => h) (Or.inl ⟨rfl, ?h15⟩) ?r15
        case h15 => intro w' hw'; go_simp; (try with_reducible rfl)
        (try simp only [Act.put, List.setIfInBounds_toArray, List.set_cons_zero, List.set_cons_succ])
        refine Draws.take 2 (v := ?v16) HS.out rfl (by kernel_rfl) (fun _ _ _ h => h) (Or.inl ⟨rfl, ?h16⟩) ?r16
        case h16 => intro w' hw'; go_simp; (try with_reducible rfl)
        (try simp only [Act.put, List.setIfInBounds_toArray, List.set_cons_zero, List.set_cons_succ])
        refine Draws.take 3 HS.out rfl (by kernel_rfl) (fun _ _ _ h => h) (yield_gtr HGT.out _ _ _ rfl rfl rfl rfl) ?_
        (try simp only [Act.put, List.setIfInBounds_toArray, List.set_cons_zero, List.set_cons_succ])
        refine Draws.take 4 (v := ?v17) HS.out rfl (by kernel_rfl) (fun _ _ _ h => h) (Or.inl ⟨rfl, ?h17⟩) ?r17
        case h17 => intro w' hw'; go_simp; (try with_reducible rfl)
        (try simp only [Act.put, List.setIfInBounds_toArray, List.set_cons_zero, List.set_cons_succ])
        refine Draws.take 5 (v := ?v18) HS.out rfl (by kernel_rfl) (fun _ _ _ h => h) (Or.inl ⟨rfl, ?h18⟩) ?r18
        case h18 => intro w' hw'; go_simp; (try with_reducible rfl)
        (try simp only [Act.put, List.setIfInBounds_toArray, List.set_cons_zero, List.set_cons_succ])
        refine Draws.take 6 (v := ?v19) HS.out rfl (by kernel_rfl) (fun _ _ _ h => h) (Or.inl ⟨rfl, ?h19⟩) ?r19
        case h19 => intro w' hw'; go_simp; (try with_reducible rfl)
        (try simp only [Act.put, List.setIfInBounds_toArray, List.set_cons_zero, List.set_cons_succ])
        refine Draws.take 7 (v := ?v20) HS.out rfl (by kernel_rfl) (fun _ _ _ h => h) (Or.inl ⟨rfl, ?h20⟩) ?r20
        case h20 => intro w' hw'; go_simp; (try with_reducible rfl)
        (try simp only [Act.put, List.setIfInBounds_toArray, List.set_cons_zero, List.set_cons_succ])
        refine Draws.take 8 (v := ?v21) HS.out rfl (by kernel_rfl) (fun _ _ _ h => h) (Or.inl ⟨rfl, ?h21⟩) ?r21
        case h21 => intro w' hw'; go_simp; (try with_reducible rfl)
        (try simp only [Act.put, List.setIfInBounds_toArray, List.set_cons_zero, List.set_cons_succ])
        refine Draws.take 9 (v := ?v22) HS.out rfl (by kernel_rfl) (fun _ _ _ h => h) (Or.inl ⟨rfl, ?h22⟩) ?r22
        case h22 => intro w' hw'; go_simp; (try with_reducible rfl)
        (try simp only [Act.put, List.setIfInBounds_toArray, List.set_cons_zero, List.set_cons_succ])
        refine Draws.take 10 HS.out rfl (by kernel_rfl) (fun _ _ _ h => h) (yield_str (fun _ h => h.bys 0 rfl) rfl _ rfl rfl rfl) ?_
        (try simp only [Act.put, List.setIfInBounds_toArray, List.set_cons_zero, List.set_cons_succ])
        refine Draws.take 11 (v := ?v23) HS.out rfl (by kernel_rfl) (fun _ _ _ h => h) (Or.inl ⟨rfl, ?h23⟩) ?r23
        case h23 => intro w' hw'; go_simp; (try with_reducible rfl)
        (try simp only [Act.put, List.setIfInBounds_toArray, List.set_cons_zero, List.set_cons_succ])
        refine Draws.take 12 (v := ?v24) HS.out rfl (by kernel_rfl) (fun _ _ _ h => h) (Or.inl ⟨rfl, ?h24⟩) ?r24
        case h24 => intro w' hw'; go_simp; (try with_reducible rfl)
        (try simp only [Act.put, List.setIfInBounds_toArray, List.set_cons_zero, List.set_cons_succ])
        refine Draws.take 13 (v := ?v25) HS.out rfl (by kernel_rfl) (fun _ _ _ h => h) (Or.inl ⟨rfl, ?h25⟩) ?r25
        case h25 => intro w' hw'; go_simp; (try with_reducible rfl)
        (try simp only [Act.put, List.setIfInBounds_toArray, List.set_cons_zero, List.set_cons_succ])
        refine Draws.take 14 HS.out rfl (by kernel_rfl) (fun _ _ _ h => h) (yield_sub HN1.out _ _ _ rfl rfl rfl rfl) ?_
        (try simp only [Act.put, List.setIfInBounds_toArray, List.set_cons_zero, List.set_cons_succ])
        refine Draws.take 15 (v := ?v26) HS.out rfl (by kernel_rfl) (fun _ _ _ h => h) (Or.inl ⟨rfl, ?h26⟩) ?r26
        case h26 => intro w' hw'; go_simp; (try with_reducible rfl)
        (try simp only [Act.put, List.setIfInBounds_toArray, List.set_cons_zero, List.set_cons_succ])
        refine Draws.take 16 HS.out rfl (by kernel_rfl) (fun _ _ _ h => h) (yield_t rfl (fun _ h => (h.mf.bel.cell (cell_lt HQ1.out)).trans HQ1.out) _ rfl rfl rfl) ?_
        (try simp only [Act.put, List.setIfInBounds_toArray, List.set_cons_zero, List.set_cons_succ])
        refine Draws.take 17 HS.out rfl (by kernel_rfl) (fun _ _ _ h => h) (yield_str (fun _ h => HO1.out.below h.mf.bel) rfl _ rfl rfl rfl) ?_
        (try simp only [Act.put, List.setIfInBounds_toArray, List.set_cons_zero, List.set_cons_succ])
        refine Draws.take 18 HS.out rfl (by kernel_rfl) (fun _ _ _ h => h) (yield_eqs hqs _ _ _ rfl rfl rfl rfl) ?_
        (try simp only [Act.put, List.setIfInBounds_toArray, List.set_cons_zero, List.set_cons_succ])
        refine Draws.take 19 (v := ?v27) HS.out rfl (by kernel_rfl) (fun _ _ _ h => h) (Or.inl ⟨rfl, ?h27⟩) ?r27
        case h27 => intro w' hw'; go_simp; (try with_reducible rfl)
        (try simp only [Act.put, List.setIfInBounds_toArray, List.set_cons_zero, List.set_cons_succ])
        refine Draws.take 20 (v := ?v28) HS.out rfl (by kernel_rfl) (fun _ _ _ h => h) (Or.inl ⟨rfl, ?h28⟩) ?r28
        case h28 => intro w' hw'; go_simp; (try with_reducible rfl)
        (try simp only [Act.put, List.setIfInBounds_toArray, List.set_cons_zero, List.set_cons_succ])
        refine Draws.take 21 (v := ?v29) HS.out rfl (by kernel_rfl) (fun _ _ _ h => h) (Or.inl ⟨rfl, ?h29⟩) ?r29
        case h29 => intro w' hw'; go_simp; (try with_reducible rfl)
        (try simp only [Act.put, List.setIfInBounds_toArray, List.set_cons_zero, List.set_cons_succ])
        refine Draws.does 22 rfl (by kernel_rfl) rfl (fun K' hK => ?_)
        go_simp
        go_at_call 10
        refine (awake_any _ (HW.out.below HS.out.mf.bel)).mono ?_
        rintro e u ⟨rfl, hb⟩
        (try dsimp only)
        refine hK.out _ _ (fun _ => HS.out.call hb) ?_
        have hs := HS.out.call hb
        clear HS hb
        have HS := Lib.hid hs; clear hs
        clear hK K'
        (try simp only [Act.put, List.setIfInBounds_toArray, List.set_cons_zero, List.set_cons_succ])
        refine Draws.take 23 (v := ?v30) HS.out rfl (by kernel_rfl) (fun _ _ _ h => h) (Or.inl ⟨rfl, ?h30⟩) ?r30
        case h30 => intro w' hw'; go_simp; (try with_reducible rfl)
        (try simp only [Act.put, List.setIfInBounds_toArray, List.set_cons_zero, List.set_cons_succ])
        refine Draws.take 24 (v := ?v31) HS.out rfl (by kernel_rfl) (fun _ _ _ h => h) (Or.inl ⟨rfl, ?h31⟩) ?r31
        case h31 => intro w' hw'; go_simp; (try with_reducible rfl)
        (try simp only [Act.put, List.setIfInBounds_toArray, List.set_cons_zero, List.set_cons_succ])
        refine Draws.done (by kernel_rfl) ?_
        have HK := Lib.hid HS.out
        clear HS
        go_wp2_with (first
          | fail)
        go_ret
        exact ⟨rfl, HK.out.mf.bel⟩

set_option maxRecDepth 100000 in
theorem lifted (os : Os) (started : os.Started) (H : Type) (enc : TypeId × Value → H) :
    ReturnsInHanded {} Tryd.checked os 7 .any (fun w args => (Rows.wlogLastSpec.pre enc Tryd.prog Tryd.f7 [] false w args ∧ laidMetH Tryd.prog laid w) ∧ sizedMet enc Tryd.prog Tryd.f7 (OpenSpec.ofChange Rows.wlogLastSpec) false w args)
      (Rows.wlogLastSpec.post enc Tryd.prog Tryd.f7 false true false false) := by
  refine returnsInHanded_of_change_and (C := Tryd.checked) (X := fun w _ => laidMetH Tryd.prog laid w) (fun _ _ _ hh h => h.of_heap hh) own started (by kernel_rfl) Tryd.func7
    (ChangeSpec.witness_shaped (enc := enc) (C := Tryd.checked) (os := os) (X := fun w _ => laidMetH Tryd.prog laid w) false (World.doorLaid Tryd.prog 400 os) #[.slice none 0 0, .int .i64 0, .int .i64 0] 12 rfl (World.shaped_of_RefB (by kernel_rfl) (by kernel_rfl)) (by kernel_rfl) (by kernel_rfl) (by kernel_rfl) (door_met os _)) ?_
  intro W base args ds gs before hval0 hW _ hsz0 hL _
  have hsz : (DataW.weightsEach Tryd.prog (Tryd.f7.params.toList ++ Rows.wlogLastSpec.plain.varTypes Tryd.prog) (ds ++ gs)).all (· ≤ reachBytes) = true := hsz0
  clear hsz0
  have hval : ∀ (j : Nat) t v, Tryd.f7.params[j]? = some t → args[j]? = some v → Value.okWide Tryd.prog W .any base t v := hval0
  have hW' := hW
  obtain ⟨p, q, hA0, hV, rfl, hfz, hnd⟩ := hW
  have hA : DataW.TrodAll enc Tryd.prog W 0 (fun _ => true) true Tryd.f7.params.toList args.toList ds p := hA0
  rw [Tryd.params7] at hA hval hsz
  obtain ⟨v0, vs0, d0, ds0, q0, r0, hargs, rfl, rfl, h0, t0⟩ := trodAll_cons hA
  obtain ⟨v1, vs1, d1, ds1, q1, r1, rfl, rfl, rfl, h1, t1⟩ := trodAll_cons t0
  obtain ⟨v2, vs2, d2, ds2, q2, r2, rfl, rfl, rfl, h2, t2⟩ := trodAll_cons t1
  obtain ⟨rfl, rfl, rfl⟩ := trodAll_nil t2
  obtain rfl : args = #[v0, v1, v2] := by cases args; simp_all
  obtain ⟨rfl, rfl⟩ := trodVars_none hV
  have k0 := h0
  have lt0 : ∀ x ∈ q0, x.block < W.heap.size := by obtain ⟨m, hm⟩ := k0; exact DataW.trod_lt m _ _ _ hm
  obtain ⟨A0, n0, c0, L0, rfl, hd0, hc0⟩ := open_B (hval 0 31 v0 rfl rfl) h0
  have k1 := h1
  have lt1 : ∀ x ∈ q1, x.block < W.heap.size := by obtain ⟨m, hm⟩ := k1; exact DataW.trod_lt m _ _ _ hm
  obtain ⟨a1, rfl, rfl, rfl, w1⟩ := open_int Tryd.underlying3 (hval 1 3 v1 rfl rfl) h1
  have k2 := h2
  have lt2 : ∀ x ∈ q2, x.block < W.heap.size := by obtain ⟨m, hm⟩ := k2; exact DataW.trod_lt m _ _ _ hm
  obtain ⟨a2, rfl, rfl, rfl, w2⟩ := open_int Tryd.underlying3 (hval 2 3 v2 rfl rfl) h2
  have hw := nib_of_laid hL
  clear hA0 hval0
  refine (walk W hw A0 n0 c0 L0 hd0 hc0 a1 w1 a2 w2).mono fun e W' ⟨he, bel⟩ => ?_
  subst he
  exact ⟨_, rfl, _, _, _, [], _, [], hW', trodAll_mk1 (shut_bool Tryd.underlying4 _), (trodAll_cons_mk (Below.trod laidOut (by kernel_rfl) (of_decide_eq_true (by kernel_rfl)) k0 bel lt0) (trodAll_cons_mk (Below.trod laidOut (by kernel_rfl) (of_decide_eq_true (by kernel_rfl)) k1 bel lt1) (trodAll_cons_mk (Below.trod laidOut (by kernel_rfl) (of_decide_eq_true (by kernel_rfl)) k2 bel lt2) trodAll_mk0))), rfl, bel.frame _, fun h => by cases h⟩

theorem over : Rows.wlogLastRow.holds Tryd.pinned (OpenSpec.ofChange Rows.wlogLastSpec) :=
  OpenClaim.holds_of_wide 7 Tryd.f7 rfl rfl rfl rfl rfl rfl rfl ⟨rfl, rfl, rfl, rfl, rfl⟩ rfl rfl rfl rfl rfl (by kernel_rfl) Tryd.func7 (by kernel_rfl)
    (of_decide_eq_true (by kernel_rfl)) (by unfold Func.isWrapper; first | (rw [if_pos (by decide +kernel)]; kernel_rfl) | (rw [if_neg (by decide +kernel)]; exact ⟨rfl, rfl⟩))
    (fun os started H enc _ => lifted os started H enc)

theorem card_holds : Claim7.holds Tryd.pinned (.plain (OpenSpec.ofChange Rows.wlogLastSpec)) Rows.wlogLastCard :=
  Claim7.holds_tied_plain_at .later [] [.data] true (true, "d3e7dd077b2e06c46c2b53d199e040de6fbe0416fbc1dc24a646ef2f7b35c331") false
    over (fun _ h => by cases h) (by kernel_rfl) (fun _ h => by cases h) wlogLast_row_tie rfl ⟨rfl, rfl⟩ (by kernel_rfl) rfl
    (fun f fn hf hfn => by
      obtain rfl : f = 7 := Option.some.inj ((show Tryd.prog.funcNamed "usufruct/usufructlaw12.WlogLast" = some 7 by kernel_rfl).symm.trans hf) |>.symm
      obtain rfl : fn = Tryd.f7 := (Option.some.inj (Tryd.func7.symm.trans hfn)).symm
      exact ⟨by kernel_rfl, fun j t ht => by
        rw [Tryd.params7] at ht
        have hm : t ∈ [31, 3, 3] := by simpa using Array.mem_of_getElem? ht
        have hall : ([31, 3, 3].all fun u => !Tryd.prog.wantsStandIn u) = true := by kernel_rfl
        exact (show Tryd.prog.wantsStandIn t = false by simpa using List.all_eq_true.1 hall t hm)⟩)
    (by kernel_rfl)
theorem proved : Rows.WlogLastCardSaid := card_holds
#print axioms proved
end Go.Proofs.YtnbhgnkkedainaaDoor.wlogLast
