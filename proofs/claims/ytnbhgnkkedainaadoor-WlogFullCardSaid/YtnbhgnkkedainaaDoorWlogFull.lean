/- For every int and slice of slices of bytes usufructlaw12.WlogFull returns true, and each argument reads as before. Condition: the package-level variable frame.nibbles reads, when the call begins, as the program lays it (the card ties that to the program, by the tie that is given with the seat; that nothing else writes it is the translator's report). -/
import Derived.Test.YtnbhgnkkedainaaDoorWk
import Derived.WalkKit
import Derived.ProofKit
import Derived.OpenShut
import Derived.ShutString
import Derived.ChangeOld
import Derived.Below
import Derived.Test.YtnbhgnkkedainaaDoorTie
import Derived.Test.YtnbhgnkkedainaaDoorCards
import Derived.SevenTiedAt
namespace Go.Proofs.YtnbhgnkkedainaaDoor.wlogFull
open Go.ChangeShapes Go.WideShapes Go.ChangeAt Go.RowKit
set_option linter.unusedVariables false


set_option maxRecDepth 100000 in
set_option maxHeartbeats 4000000 in
theorem walk (w : World) (hw : Nib w) (a0 : Int) (w0 : (Lit.int .i64 a0).wf = true) (A1 : Option Addr) (n1 c1 : Nat) (L1 : List BPart) (hd1 : LL w A1 n1 L1) (hc1 : n1 ≤ c1) :
    Calls Tryd.prog 8 #[.int .i64 a0, .slice A1 n1 c1] w fun e w' => e = .returned (.bool true) ∧ Below w.heap.size w w' := by
  have HW := Lib.hid hw
  have HL := Lib.hid hd1
  clear hw hd1
  have HK := Lib.hid (Kg.start w)
  by_cases hs0 : a0 < 0
  · have j1 : decide (a0 < 0) = true := by simpa using hs0
    go_enter Tryd.func8, Tryd.ntmps8
    go_wp2_with (first
      | (go_at_call 10; (with_reducible refine (awake_any _ (HW.out.below HK.out.mf.bel)).mono ?_); rintro e u ⟨rfl, hb⟩; have hk := HK.out.call hb; clear hb; clear HK; have HK := Lib.hid hk; clear hk))
    go_ret
    exact ⟨rfl, HK.out.mf.bel⟩
  by_cases hs1 : 16384 < a0
  · have j1 : decide (a0 < 0) = false := by simpa using hs0
    have j2 : decide ((16384 : Int) < a0) = true := by simpa using hs1
    go_enter Tryd.func8, Tryd.ntmps8
    go_wp2_with (first
      | (go_at_call 10; (with_reducible refine (awake_any _ (HW.out.below HK.out.mf.bel)).mono ?_); rintro e u ⟨rfl, hb⟩; have hk := HK.out.call hb; clear hb; clear HK; have HK := Lib.hid hk; clear hk))
    go_ret
    exact ⟨rfl, HK.out.mf.bel⟩
  obtain ⟨s, rfl⟩ : ∃ s : Nat, a0 = (s : Int) := ⟨a0.toNat, by omega⟩
  have hs1 : s ≤ 16384 := by omega
  obtain ⟨z, hz⟩ : ∃ z : Nat, z = 64 * s := ⟨_, rfl⟩
  have hN := new_any s hs1
  rw [← hz] at hN
  have HNEW := Lib.hid hN
  have hwz : IntKind.i64.wrap (64 * (s : Int)) = (z : Int) := by rw [IntKind.wrap_i64]; omega
  have HZ := Lib.hid (show z ≤ 1048576 by omega)
  have j1 : decide ((s : Int) < 0) = false := by simp
  have j2 : decide ((16384 : Int) < (s : Int)) = false := by simp; omega
  have j3 : ¬ (s : Int) < 0 := by omega
  have j4 : ¬ (16384 : Int) < (s : Int) := by omega
  clear hN hz hs0 w0
  by_cases h20 : 20 < n1
  · have i1 : (20 : Int) < (n1 : Int) := by omega
    have i2 : decide ((20 : Int) < (n1 : Int)) = true := by simp; omega
    go_enter Tryd.func8, Tryd.ntmps8
    go_wp2_with (first
      | (go_at_call 10; (with_reducible refine (awake_any _ (HW.out.below HK.out.mf.bel)).mono ?_); rintro e u ⟨rfl, hb⟩; have hk := HK.out.call hb; clear hb; clear HK; have HK := Lib.hid hk; clear hk))
    go_ret
    exact ⟨rfl, HK.out.mf.bel⟩
  have i1 : ¬ (20 : Int) < (n1 : Int) := by omega
  have i2 : decide ((20 : Int) < (n1 : Int)) = false := by simp; omega
  have H20 := Lib.hid (show n1 ≤ 20 by omega)
  have HN0 := Lib.hid (show (txt L1).length = n1 by rw [txt_length]; exact HL.out.1)
  go_enter Tryd.func8, Tryd.ntmps8
  go_wp2_with (first
    | (go_at_call 11; (with_reducible refine (HNEW.out _).mono ?_); rintro e u ⟨r, rfl, hr, hd, hb⟩; have hk := HK.out.newDisk hb hr hd; clear hr hd hb; clear HK; have HK := Lib.hid hk; clear hk)
    | (go_at_call 12; (with_reducible refine (open_k HK.out HW.out 0 (Int.le_refl 0) rfl (by simp) [] scn_nil [] rfl 0 rfl tk_nil0).mono ?_); rintro e u ⟨rl, v1, v2, L9, rfl, ht, hk⟩; obtain rfl := txt_none ht; simp only [List.set_cons_zero] at hk; clear ht; clear HK; have HK := Lib.hid hk; clear hk))
  have hsy : Sy w rl r z v1 v2 [] [] [] 0 u := ⟨HK.out, rfl, rfl, rfl⟩
  have HSY := Lib.hid hsy
  clear HK hsy j1 j2 j3 j4 hs1
  go_loopw [7, 8, 34] (fun us la i wr => ∃ (m N l : Nat) (P : List UInt8) (M : List (List UInt8)) (L : List BPart) (v vd : Value), m ≤ n1 ∧ i = .int .i64 (m : Int) ∧ us = .int .i64 (N : Int) ∧ la = .int .i64 (l : Int) ∧ (∀ p ∈ M, p.length ≤ 300) ∧ M.length ≤ m ∧ N ≤ z ∧ (M = [] → l = 0) ∧ (∀ k, M.length = k + 1 → l = 8 + (M.getD k []).length) ∧ Sy w rl r z v vd L M P N wr) (fun _ _ i _ => n1 - (intOf i).toNat)
  case atStart => exact ⟨0, 0, 0, [], [], [], _, _, Nat.zero_le _, rfl, rfl, rfl, by simp, Nat.le_refl _, Nat.zero_le _, (fun _ => rfl), (fun k hk => by simp at hk), HSY.out⟩
  case round =>
    obtain ⟨m, N, l, P, M, L, v, vd, hm, rfl, rfl, rfl, h300, hMm, hNz, hl0, hl1, hsy⟩ := hrel
    clear HSY
    have HK := Lib.hid hsy.kg
    have HTX := Lib.hid hsy.tx; have HFP := Lib.hid hsy.fp; have HPN := Lib.hid hsy.pn; have H300 := Lib.hid h300
    have HMM := Lib.hid hMm; have HNZ := Lib.hid hNz; have HL0 := Lib.hid hl0; have HL1 := Lib.hid hl1
    clear hsy h300 hMm hNz hl0 hl1
    have HLE := Lib.hid (show L.length = M.length by rw [← HTX.out, txt_length])
    have HLM := Lib.hid (show L.length ≤ n1 by have := HLE.out; have := HMM.out; omega)
    have HPZ := Lib.hid (show P.length ≤ z by rw [HPN.out]; exact HNZ.out)
    by_cases hlt : m < n1
    · obtain ⟨b1, off1, B1, d1, rfl, hx1, q1, o1⟩ := (HL.out.below HK.out.mf.bel).one hlt
      have o1' : Bys w B1 ((txt L1).getD m []) := HL.out.part (List.mem_of_getElem? hx1)
      have i3 : (0 : Int) ≤ (m : Int) := by omega
      have i4 : (m : Int) < (n1 : Int) := by omega
      have i5 : (m : Int) ≤ 20 := by have := H20.out; omega
      clear hx1 o1
      generalize (txt L1).getD m [] = T at *
      obtain ⟨t, ht⟩ : ∃ t, T.length = t := ⟨_, rfl⟩
      rw [ht] at q1
      have HTL := Lib.hid ht
      clear ht
      by_cases h3 : 300 < t
      · have i6 : (300 : Int) < (t : Int) := by omega
        clear o1'
        go_wp2_with (first
          | (go_at_call 10; (with_reducible refine (awake_any _ (HW.out.below HK.out.mf.bel)).mono ?_); rintro e u ⟨rfl, hb⟩; have hk := HK.out.call hb; clear hb; clear HK; have HK := Lib.hid hk; clear hk))
        go_ret
        exact ⟨rfl, HK.out.mf.bel⟩
      have i6 : ¬ (300 : Int) < (t : Int) := by omega
      have i7 : (t : Int) ≤ 300 := by omega
      have h3' : t ≤ 300 := by omega
      have hk := HK.out.old (t := Th.bys B1 T) o1'
      clear HK o1' h3
      have HK := Lib.hid hk; clear hk
      have w1 : IntKind.i64.wrap ((N : Int) + (t : Int)) = ((N + t : Nat) : Int) := by have := HNZ.out; have := HZ.out; rw [IntKind.wrap_i64]; omega
      have w2 : IntKind.i64.wrap (((N + t : Nat) : Int) + 8) = ((N + t + 8 : Nat) : Int) := by have := HNZ.out; have := HZ.out; rw [IntKind.wrap_i64]; omega
      by_cases hroom : z < N + t + 8
      · have i8 : (z : Int) < ((N + t + 8 : Nat) : Int) := by omega
        have i9 : decide ((z : Int) < ((N + t + 8 : Nat) : Int)) = true := by simp; omega
        have HROOM := Lib.hid (show z < P.length + (8 + t) by rw [HPN.out]; omega)
        generalize N + t + 8 = s2 at *
        generalize N + t = s1 at *
        clear hroom
        rcases Nat.eq_zero_or_pos M.length with h0 | h0
        · obtain rfl : M = [] := List.eq_nil_of_length_eq_zero h0
          obtain rfl : L = [] := List.eq_nil_of_length_eq_zero (by rw [HLE.out]; rfl)
          have HF0 := Lib.hid (show N = 0 by rw [← HPN.out, ← HFP.out]; rfl)
          have HLZ := Lib.hid (HL0.out rfl)
          clear HL0 HL1
          go_wp2_with (first
            | (go_at_call 14; (with_reducible refine (append_noroom _ _ z _ _ _ _ P _ t _ T HTL.out (by omega) HZ.out HPZ.out HROOM.out _ (HW.out.below HK.out.mf.bel) (HK.out.bys 0 rfl) (HK.out.lo 0 rfl) (HK.out.dk 1 rfl)).mono ?_); rintro e u ⟨rfl, hb⟩; have hk := HK.out.call hb; clear hb; clear HK; have HK := Lib.hid hk; clear hk)
            | (go_at_call 16; (with_reducible refine (compact_none _ _ _ _ (HK.out.lo 0 rfl)).mono ?_); rintro e u ⟨rfl, rfl⟩)
            | (go_at_call 21; (with_reducible refine (len_any _ _ _ [] 0 rfl _ (HK.out.lo 0 rfl)).mono ?_); rintro e u ⟨rfl, rfl⟩))
          go_roundw
          case rel => exact ⟨m + 1, N, l, P, [], [], _, _, by omega, by go_num, by rw [HLZ.out, HF0.out], rfl, by simp, Nat.zero_le _, HNZ.out, (fun _ => HLZ.out), (fun k hk => by simp at hk), ⟨HK.out.sub (by simp), rfl, HFP.out, HPN.out⟩⟩
          case measure => simp [intOf]; omega
        · obtain ⟨k, hkm⟩ : ∃ k, M.length = k + 1 := ⟨M.length - 1, by omega⟩
          have HKM := Lib.hid hkm
          have HLK := Lib.hid (show L.length = k + 1 by rw [HLE.out, hkm])
          obtain ⟨A2, c2, hxl⟩ := txt_get HTX.out (show k < M.length by omega)
          have hT3 := H300.out (M.getD k []) (by rw [List.getD_eq_getElem?_getD, List.getElem?_eq_getElem (by omega)]; exact List.getElem_mem (by omega))
          have HKB := Lib.hid (show k ≤ 20 by have := HLM.out; have := H20.out; have := HLK.out; omega)
          have hla := HL1.out k hkm
          have hfr := fls_take_le M (k + 1)
          rw [fls_take (by omega), List.length_append, frm_length, HFP.out, HPN.out] at hfr
          generalize M.getD k [] = T2 at *
          have HXL := Lib.hid hxl; have HT3 := Lib.hid hT3; have HLA := Lib.hid hla
          obtain ⟨P3, hP3⟩ : ∃ P3, frm T2 = P3 := ⟨_, rfl⟩
          obtain ⟨N3, hN3⟩ : ∃ N3, P3.length = N3 := ⟨_, rfl⟩
          have HN3L := Lib.hid (show N3 = l by rw [← hN3, ← hP3, frm_length, hla])
          have HZ3 := Lib.hid (show 8 + T2.length ≤ z by have := HNZ.out; omega)
          have HFP3 := Lib.hid (show fls [T2] = P3 by rw [fls_one, hP3])
          have HPF := Lib.hid hP3; have HPN3 := Lib.hid hN3
          clear h0 hkm hxl hT3 hla hfr hP3 hN3
          go_wp2_with (first
            | (go_at_call 14; (with_reducible refine (append_noroom _ _ z _ _ _ _ P _ t _ T HTL.out (by omega) HZ.out HPZ.out HROOM.out _ (HW.out.below HK.out.mf.bel) (HK.out.bys 0 rfl) (HK.out.lo 0 rfl) (HK.out.dk 1 rfl)).mono ?_); rintro e u ⟨rfl, hb⟩; have hk := HK.out.call hb; clear hb; clear HK; have HK := Lib.hid hk; clear hk)
            | (go_at_call 16; (with_reducible refine (compact_k HK.out HW.out 0 1 rfl rfl (by decide) k HLK.out (by have := HKB.out; omega) HXL.out (by have := HT3.out; omega) HZ.out HZ3.out P3 HPF.out N3 HPN3.out).mono ?_); rintro e u ⟨rfl, v3, v4, A3, c3, hk⟩; simp only [List.set_cons_zero, List.set_cons_succ] at hk; clear HK; have HK := Lib.hid hk; clear hk)
            | (go_at_call 21; (with_reducible refine (len_any _ _ _ [(A3, c3, T2)] 1 rfl _ (HK.out.lo 0 rfl)).mono ?_); rintro e u ⟨rfl, rfl⟩))
          go_roundw
          case rel => exact ⟨m + 1, N3, l, P3, [T2], [(A3, c3, T2)], _, _, by omega, by go_num, by rw [HN3L.out], rfl, (by intro p hp; obtain rfl := List.mem_singleton.1 hp; exact HT3.out), (by simp), by rw [← HPN3.out, ← HPF.out, frm_length]; exact HZ3.out, (fun h => by cases h), (fun j hj => by
            have : j = 0 := by simp at hj; omega
            subst this
            exact HLA.out), ⟨HK.out.sub (by simp), rfl, HFP3.out, HPN3.out⟩⟩
          case measure => simp [intOf]; omega
      · have i8 : ¬ (z : Int) < ((N + t + 8 : Nat) : Int) := by omega
        have i9 : decide ((z : Int) < ((N + t + 8 : Nat) : Int)) = false := by simp; omega
        have HROOM := Lib.hid (show P.length + (8 + t) ≤ z by rw [HPN.out]; omega)
        obtain ⟨P2, hP2⟩ : ∃ P2, P ++ frm T = P2 := ⟨_, rfl⟩
        have HP2 := Lib.hid hP2
        have HF2 := Lib.hid (show fls (M ++ [T]) = P2 by rw [fls_append, HFP.out, fls_one, hP2])
        obtain ⟨N2, hN2⟩ : ∃ N2, N2 = N + t + 8 := ⟨_, rfl⟩
        have HN2 := Lib.hid (show P2.length = N2 by rw [← hP2, List.length_append, frm_length, HPN.out, HTL.out, hN2]; omega)
        obtain ⟨l2, hl2⟩ : ∃ l2, l2 = t + 8 := ⟨_, rfl⟩
        have w3 : IntKind.i64.wrap ((t : Int) + 8) = (l2 : Int) := by rw [IntKind.wrap_i64]; omega
        have w4 : IntKind.i64.wrap ((N : Int) + (l2 : Int)) = (N2 : Int) := by have := HNZ.out; have := HZ.out; rw [IntKind.wrap_i64]; omega
        have HL2 := Lib.hid (show l2 = 8 + T.length by rw [HTL.out]; omega)
        have HN2Z := Lib.hid (show N2 ≤ z by omega)
        rw [← hN2] at i8 i9 w2
        generalize N + t = s1 at *
        clear hroom hP2 hl2 hN2
        go_wp2_with (first
          | (go_at_call 14; (with_reducible refine (append_k HK.out HW.out 0 1 rfl rfl (by decide) 0 rfl HTL.out (by omega) HZ.out HROOM.out (by have := HLM.out; have := H20.out; omega) P2 HP2.out N2 HN2.out).mono ?_); rintro e u ⟨rfl, v3, v4, A3, c3, hk⟩; simp only [List.set_cons_zero, List.set_cons_succ] at hk; clear HK; have HK := Lib.hid hk; clear hk))
        go_roundw
        case rel => exact ⟨m + 1, N2, l2, P2, M ++ [T], L ++ [(A3, c3, T)], _, _, by omega, by go_num, by go_num, by go_num, (by
          intro p hp
          rcases List.mem_append.1 hp with hp | hp
          · exact H300.out p hp
          · obtain rfl := List.mem_singleton.1 hp
            rw [HTL.out]; exact h3'), by rw [List.length_append]; have := HMM.out; simp; omega, HN2Z.out, (fun h => by simp at h), (fun k hk => by
          rw [List.length_append] at hk
          obtain rfl : k = M.length := by simp at hk; omega
          rw [HL2.out]; simp [List.getD]), ⟨HK.out.sub (by simp), by rw [txt_append, HTX.out]; rfl, HF2.out, HN2.out⟩⟩
        case measure => simp [intOf]; omega
    · obtain rfl : m = n1 := by omega
      clear hlt hm
      go_wp2_with (first
        | (go_at_call 10; (with_reducible refine (awake_any _ (HW.out.below HK.out.mf.bel)).mono ?_); rintro e u ⟨rfl, hb⟩; have hk := HK.out.call hb; clear hb; clear HK; have HK := Lib.hid hk; clear hk))
      go_ret
      exact ⟨rfl, HK.out.mf.bel⟩

set_option maxRecDepth 100000 in
theorem lifted (os : Os) (started : os.Started) (H : Type) (enc : TypeId × Value → H) :
    ReturnsInHanded {} Tryd.checked os 8 .any (fun w args => (Rows.wlogFullSpec.pre enc Tryd.prog Tryd.f8 [] false w args ∧ laidMetH Tryd.prog laid w) ∧ sizedMet enc Tryd.prog Tryd.f8 (OpenSpec.ofChange Rows.wlogFullSpec) false w args)
      (Rows.wlogFullSpec.post enc Tryd.prog Tryd.f8 false true false false) := by
  refine returnsInHanded_of_change_and (C := Tryd.checked) (X := fun w _ => laidMetH Tryd.prog laid w) (fun _ _ _ hh h => h.of_heap hh) own started (by kernel_rfl) Tryd.func8
    (ChangeSpec.witness_shaped (enc := enc) (C := Tryd.checked) (os := os) (X := fun w _ => laidMetH Tryd.prog laid w) false (World.doorLaid Tryd.prog 400 os) #[.int .i64 0, .slice none 0 0] 12 rfl (World.shaped_of_RefB (by kernel_rfl) (by kernel_rfl)) (by kernel_rfl) (by kernel_rfl) (by kernel_rfl) (door_met os _)) ?_
  intro W base args ds gs before hval0 hW _ hsz0 hL _
  have hsz : (DataW.weightsEach Tryd.prog (Tryd.f8.params.toList ++ Rows.wlogFullSpec.plain.varTypes Tryd.prog) (ds ++ gs)).all (· ≤ reachBytes) = true := hsz0
  clear hsz0
  have hval : ∀ (j : Nat) t v, Tryd.f8.params[j]? = some t → args[j]? = some v → Value.okWide Tryd.prog W .any base t v := hval0
  have hW' := hW
  obtain ⟨p, q, hA0, hV, rfl, hfz, hnd⟩ := hW
  have hA : DataW.TrodAll enc Tryd.prog W 0 (fun _ => true) true Tryd.f8.params.toList args.toList ds p := hA0
  rw [Tryd.params8] at hA hval hsz
  obtain ⟨v0, vs0, d0, ds0, q0, r0, hargs, rfl, rfl, h0, t0⟩ := trodAll_cons hA
  obtain ⟨v1, vs1, d1, ds1, q1, r1, rfl, rfl, rfl, h1, t1⟩ := trodAll_cons t0
  obtain ⟨rfl, rfl, rfl⟩ := trodAll_nil t1
  obtain rfl : args = #[v0, v1] := by cases args; simp_all
  obtain ⟨rfl, rfl⟩ := trodVars_none hV
  have k0 := h0
  have lt0 : ∀ x ∈ q0, x.block < W.heap.size := by obtain ⟨m, hm⟩ := k0; exact DataW.trod_lt m _ _ _ hm
  obtain ⟨a0, rfl, rfl, rfl, w0⟩ := open_int Tryd.underlying3 (hval 0 3 v0 rfl rfl) h0
  have k1 := h1
  have lt1 : ∀ x ∈ q1, x.block < W.heap.size := by obtain ⟨m, hm⟩ := k1; exact DataW.trod_lt m _ _ _ hm
  obtain ⟨A1, n1, c1, L1, rfl, hd1, hc1⟩ := open_B (hval 1 31 v1 rfl rfl) h1
  have hw := nib_of_laid hL
  clear hA0 hval0
  refine (walk W hw a0 w0 A1 n1 c1 L1 hd1 hc1).mono fun e W' ⟨he, bel⟩ => ?_
  subst he
  exact ⟨_, rfl, _, _, _, [], _, [], hW', trodAll_mk1 (shut_bool Tryd.underlying4 _), (trodAll_cons_mk (Below.trod laidOut (by kernel_rfl) (of_decide_eq_true (by kernel_rfl)) k0 bel lt0) (trodAll_cons_mk (Below.trod laidOut (by kernel_rfl) (of_decide_eq_true (by kernel_rfl)) k1 bel lt1) trodAll_mk0)), rfl, bel.frame _, fun h => by cases h⟩

theorem over : Rows.wlogFullRow.holds Tryd.pinned (OpenSpec.ofChange Rows.wlogFullSpec) :=
  OpenClaim.holds_of_wide 8 Tryd.f8 rfl rfl rfl rfl rfl rfl rfl ⟨rfl, rfl, rfl, rfl, rfl⟩ rfl rfl rfl rfl rfl (by kernel_rfl) Tryd.func8 (by kernel_rfl)
    (of_decide_eq_true (by kernel_rfl)) (by unfold Func.isWrapper; first | (rw [if_pos (by decide +kernel)]; kernel_rfl) | (rw [if_neg (by decide +kernel)]; exact ⟨rfl, rfl⟩))
    (fun os started H enc _ => lifted os started H enc)

theorem card_holds : Claim7.holds Tryd.pinned (.plain (OpenSpec.ofChange Rows.wlogFullSpec)) Rows.wlogFullCard :=
  Claim7.holds_tied_plain_at .later [] [.data] true (true, "d3e7dd077b2e06c46c2b53d199e040de6fbe0416fbc1dc24a646ef2f7b35c331") false
    over (fun _ h => by cases h) (by kernel_rfl) (fun _ h => by cases h) wlogFull_row_tie rfl ⟨rfl, rfl⟩ (by kernel_rfl) rfl
    (fun f fn hf hfn => by
      obtain rfl : f = 8 := Option.some.inj ((show Tryd.prog.funcNamed "usufruct/usufructlaw12.WlogFull" = some 8 by kernel_rfl).symm.trans hf) |>.symm
      obtain rfl : fn = Tryd.f8 := (Option.some.inj (Tryd.func8.symm.trans hfn)).symm
      exact ⟨by kernel_rfl, fun j t ht => by
        rw [Tryd.params8] at ht
        have hm : t ∈ [3, 31] := by simpa using Array.mem_of_getElem? ht
        have hall : ([3, 31].all fun u => !Tryd.prog.wantsStandIn u) = true := by kernel_rfl
        exact (show Tryd.prog.wantsStandIn t = false by simpa using List.all_eq_true.1 hall t hm)⟩)
    (by kernel_rfl)
theorem proved : Rows.WlogFullCardSaid := card_holds
#print axioms proved
end Go.Proofs.YtnbhgnkkedainaaDoor.wlogFull
