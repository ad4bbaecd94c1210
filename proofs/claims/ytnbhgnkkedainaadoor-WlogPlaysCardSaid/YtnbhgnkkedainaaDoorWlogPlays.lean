/- For every int and steps usufructlaw12.WlogPlays returns true, and each argument reads as before. Condition: the package-level variable frame.nibbles reads, when the call begins, as the program lays it (the card ties that to the program, by the tie that is given with the seat; that nothing else writes it is the translator's report). -/
import Derived.Test.YtnbhgnkkedainaaDoorWm
import Derived.WalkKit
import Derived.ProofKit
import Derived.OpenShut
import Derived.ShutString
import Derived.ChangeOld
import Derived.Below
import Derived.Test.YtnbhgnkkedainaaDoorTie
import Derived.Test.YtnbhgnkkedainaaDoorCards
import Derived.SevenTiedAt
namespace Go.Proofs.YtnbhgnkkedainaaDoor.wlogPlays
open Go.ChangeShapes Go.WideShapes Go.ChangeAt Go.RowKit
set_option linter.unusedVariables false


theorem g_build1 (z : Int) (W : World) : (Instr.build 33 #[(0, .int .i64 z)]).run Tryd.prog W = .ok (.agg #[.int .i64 z, .slice none 0 0]) W := by
  simp [Instr.build, go_sem]

set_option maxRecDepth 100000 in
set_option maxHeartbeats 16000000 in
theorem walk (w : World) (hw : Nib w) (a0 : Int) (w0 : (Lit.int .i64 a0).wf = true) (A1 : Option Addr) (n1 c1 : Nat) (L1 : List Sp) (hd1 : Steps w A1 n1 L1) (hr1 : ∀ s ∈ L1, s.b.length ≤ 140737488351232) :
    Calls Tryd.prog 3 #[.int .i64 a0, .slice A1 n1 c1] w fun e w' => e = .returned (.bool true) ∧ Below w.heap.size w w' := by
  have HW := Lib.hid hw
  have HST := Lib.hid hd1
  have HRE := Lib.hid hr1
  clear hw hd1 hr1
  have HK := Lib.hid (Kg.start w)
  by_cases hp : ¬ Few a0 n1 L1
  · have HP := Lib.hid hp
    clear hp
    go_enter Tryd.func3, Tryd.ntmps3
    go_wp2_with (first
      | (go_at_call 9; (with_reducible refine (few_no _ _ _ _ _ _ (HST.out.below HK.out.mf.bel) HP.out).mono ?_); rintro e u ⟨rfl, hb⟩; have hk := HK.out.call hb; clear hb; clear HK; have HK := Lib.hid hk; clear hk)
      | (go_at_call 10; (with_reducible refine (awake_any _ (HW.out.below HK.out.mf.bel)).mono ?_); rintro e u ⟨rfl, hb⟩; have hk := HK.out.call hb; clear hb; clear HK; have HK := Lib.hid hk; clear hk))
    go_ret
    exact ⟨rfl, HK.out.mf.bel⟩
  have hp := Classical.not_not.1 hp
  obtain ⟨s, rfl⟩ : ∃ s : Nat, a0 = (s : Int) := ⟨a0.toNat, by have := hp.2.1; omega⟩
  have hs1 : s ≤ 16384 := by have := hp.2.2.1; omega
  have HP := Lib.hid hp
  obtain ⟨z, hz⟩ : ∃ z : Nat, z = 64 * s := ⟨_, rfl⟩
  have hN := new_any s hs1
  rw [← hz] at hN
  have HNEW := Lib.hid hN
  have hwz : IntKind.i64.wrap (64 * (s : Int)) = (z : Int) := by rw [IntKind.wrap_i64]; omega
  have HZ := Lib.hid (show z ≤ 1048576 by omega)
  have H20 := Lib.hid hp.1
  have hmx : n1 ≤ 20 := hp.1
  clear hN hz hs1 hp w0
  have hb1 : ∀ W : World, (Instr.build 33 #[(0, .int .i64 (z : Int))]).run Tryd.prog W = .ok (.agg #[.int .i64 (z : Int), .slice none 0 0]) W := fun W => g_build1 z W
  go_enter Tryd.func3, Tryd.ntmps3
  go_wp2_with (first
    | (go_at_call 9; (with_reducible refine (few_yes _ _ _ _ _ _ (HST.out.below HK.out.mf.bel) HP.out).mono ?_); rintro e u ⟨rfl, hb⟩; have hk := HK.out.call hb; clear hb; clear HK; have HK := Lib.hid hk; clear hk)
    | (go_at_call 11; (with_reducible refine (HNEW.out _).mono ?_); rintro e u ⟨r, rfl, hr, hd, hb⟩; have hk := HK.out.newDisk hb hr hd; clear hr hd hb; clear HK; have HK := Lib.hid hk; clear hk)
    | (go_at_call 12; (with_reducible refine (open_k HK.out HW.out 0 (Int.le_refl 0) rfl (by simp) [] scn_nil [] rfl 0 rfl tk_nil0).mono ?_); rintro e u ⟨rl0, v1, v2, L9, rfl, ht, hk⟩; obtain rfl := txt_none ht; simp only [List.set_cons_zero] at hk; clear ht; clear HK; have HK := Lib.hid hk; clear hk)
    | ((with_reducible refine alloc_k HK.out g_zero rfl rfl ?_); intro b8 u hk; clear HK; have HK := Lib.hid hk; clear hk)
    | ((with_reducible refine store_kr (xs := [.int .i64 z, .slice none 0 0]) HK.out 0 g_info rfl rfl _ _ rfl rfl rfl rfl (by simp) (by simp) (by simp [Value.oneCell']) ?_); intro u hk; simp only [List.set_cons_zero] at hk; clear HK; have HK := Lib.hid hk; clear hk))
  have hpl : Pl w r z b8 0 rl0 0 [] [] [] [] none 0 0 v1 v2 u :=
    ⟨HK.out.also (t := Th.ll none 0 []) ⟨rfl, .inl rfl⟩ (fun e _ k hk => by rcases hk with ⟨h, _⟩ | ⟨x, hx, _⟩; exact absurd rfl h; simp at hx), rfl, rfl, rfl, rfl, by simp, Nat.le_refl _, Nat.zero_le _, Nat.le_refl _, rfl⟩
  clear HK
  have HPL := Lib.hid hpl
  clear hpl
  go_loopw [6, 42] (fun x i wr => ∃ (m rl N : Nat) (P : List UInt8) (M : List (List UInt8)) (L La : List BPart) (A : Option Addr) (n c : Nat) (v vd : Value), m ≤ n1 ∧ i = .int .i64 (m : Int) ∧ x = .pointer (some ⟨rl, 0, none⟩) ∧ Pl w r z b8 m rl N P M L La A n c v vd wr) (fun _ i _ => n1 - (intOf i).toNat)
  case atStart => exact ⟨0, _, _, _, _, _, _, _, _, _, _, _, Nat.zero_le _, rfl, rfl, HPL.out⟩
  case round =>
    obtain ⟨m, rl, N, P, M, L, La, A, n, c, v, vd, hm, rfl, rfl, hpl⟩ := hrel
    clear HPL
    have HPL := Lib.hid hpl
    have HK := Lib.hid hpl.kg
    clear hpl
    by_cases hlt : m < n1
    · obtain ⟨b, off, s0, hA, hs, hr, hsb, _⟩ := HST.out.one hlt
      have hsl := HP.out.2.2.2 s0 (List.mem_of_getElem? hs)
      have hre := HRE.out s0 (List.mem_of_getElem? hs)
      subst hA
      have hrr := Below.rangeAt HK.out.mf.bel hr (cell_lt (hr 0 _ rfl))
      have i1 : (0 : Int) ≤ (m : Int) := by omega
      have i2 : (m : Int) < (n1 : Int) := by omega
      obtain ⟨vb, sn, sm, sA, sc, sb⟩ := s0
      obtain ⟨k, hk0⟩ : ∃ k, sb.length = k := ⟨_, rfl⟩
      simp only [okS] at hsl
      simp only [Sp.cells] at hrr
      rw [hk0] at hrr hsl
      simp only [hk0] at hre
      have hk := HK.out.old (t := Th.bys sA sb) hsb
      clear HK
      have HK := Lib.hid hk
      have HR := Lib.hid hrr; have HSL := Lib.hid hsl; have HKL := Lib.hid hk0; have HRB := Lib.hid hre
      clear hs hr hrr hsl hk hsb hk0 hre
      go_upto_block 2 with (first
        | (with_reducible refine load_at Tryd.underlying36 rfl d_info HR.out (by simp []) _ rfl rfl rfl ?_)
        | ((with_reducible refine alloc_k HK.out d_zero rfl rfl ?_); intro b10 u hk; clear HK; have HK := Lib.hid hk; clear hk)
        | ((with_reducible refine store_kr (xs := [.int .i64 vb, .int .i64 sn, .int .i64 sm, .slice sA k sc]) HK.out 0 d_info rfl rfl _ _ rfl rfl rfl rfl (by simp) (by simp) (by simp [Value.oneCell']) ?_); intro u hk; simp only [List.set_cons_zero] at hk; clear HK; have HK := Lib.hid hk; clear hk)
        | (with_reducible refine load_k1 HK.out 0 rfl _ rfl rfl rfl rfl rfl ?_))
      (try simp only [Act.put, List.setIfInBounds_toArray, List.set_cons_zero, List.set_cons_succ])
      go_cut [6, 11, 12, 13, 14, 15, 16] (fun x6 _ _ _ _ _ _ wx => ∃ (rl N : Nat) (P : List UInt8) (M : List (List UInt8)) (L La : List BPart) (A : Option Addr) (n c : Nat) (v vd : Value), x6 = .pointer (some ⟨rl, 0, none⟩) ∧ Pl w r z b8 (m + 1) rl N P M L La A n c v vd wx)
      case first =>
        have HTX := Lib.hid HPL.out.tx; have HTA := Lib.hid HPL.out.ta; have HFP := Lib.hid HPL.out.fp; have HPN := Lib.hid HPL.out.pn; have H3 := Lib.hid HPL.out.h3
        have HM := Lib.hid HPL.out.hm; have HNZ := Lib.hid HPL.out.nz; have HNC := Lib.hid HPL.out.nc; have HML := Lib.hid HPL.out.ml
        clear HPL
        have HLN := Lib.hid (show L.length = n by rw [← txt_length, HTX.out, HML.out])
        have HNX := Lib.hid (show n ≤ 20 by have := HM.out; have := HML.out; omega)
        have H32 := Lib.hid (show ∀ p ∈ M, p.length ≤ 32768 from fun p hp => by have := H3.out p hp; omega)
        have HFN := Lib.hid (show (fls M).length = N by rw [HFP.out, HPN.out])
        have HNB := Lib.hid (show N ≤ 1000000 by
          have h1 := fls_bound H3.out
          rw [HFN.out, HML.out] at h1
          have := HNX.out
          have h2 : n * (8 + 300) ≤ 20 * 308 := Nat.mul_le_mul (by omega) (by omega)
          omega)
        have HNM := Lib.hid (show N ≤ 1048576 by have := HNB.out; omega)
        have HLX := Lib.hid (show L.length ≤ 1000000 by have := HLN.out; have := HNX.out; omega)
        have HPZ := Lib.hid (show P.length ≤ z by rw [HPN.out]; exact HNZ.out)
        have HAPP := Lib.hid (show ([] : List UInt8).length + sb.length ≤ 140737488351232 by rw [HKL.out]; simpa using HRB.out)
        by_cases h0 : vb = 0
        · subst h0
          rcases HSL.out with h300 | hbig
          · have HK32 := Lib.hid (show k ≤ 32768 by omega)
            have HK300 := Lib.hid h300
            clear h300
            by_cases hroom : z < N + k + 8
            · have HROOMA := Lib.hid hroom
              have HROOM0 := Lib.hid (show z < P.length + (8 + k) by rw [HPN.out]; omega)
              clear hroom
              go_wp2_with (first
                | (with_reducible refine load_kr HK.out 1 Tryd.underlying33 rfl g_info _ rfl rfl rfl rfl rfl ?_)
                | (with_reducible refine load_k1 HK.out 0 rfl _ rfl rfl rfl rfl rfl ?_)
                | (go_at_call 13; (with_reducible refine (radd_full z HZ.out A n c La M HTA.out H32.out N HFN.out HNB.out sA k sc HK32.out HROOMA.out _ (HK.out.ll 1 rfl)).mono ?_); rintro e u ⟨rfl, hb⟩; have hk := HK.out.call hb; clear hb; clear HK; have HK := Lib.hid hk; clear hk)
                | ((with_reducible refine alloc_k HK.out g_zero rfl rfl ?_); intro b11 u hk; clear HK; have HK := Lib.hid hk; clear hk)
                | ((with_reducible refine store_kr (xs := [.int .i64 z, .slice A n c]) HK.out 0 g_info rfl rfl _ _ rfl rfl rfl rfl (by simp) (by simp) (by simp [Value.oneCell']) ?_); intro u hk; simp only [List.set_cons_zero] at hk; clear HK; have HK := Lib.hid hk; clear hk)
                | (with_reducible refine load_kr HK.out 0 Tryd.underlying33 rfl g_info _ rfl rfl rfl rfl rfl ?_)
                | ((with_reducible refine store_kr (xs := [.int .i64 z, .slice A n c]) HK.out 2 g_info rfl rfl _ _ rfl rfl rfl rfl (by simp) (by simp) (by simp [Value.oneCell']) ?_); intro u hk; simp only [List.set_cons_zero, List.set_cons_succ] at hk; clear HK; have HK := Lib.hid hk; clear hk)
                | ((with_reducible refine buildB_k HK.out rfl rfl ?_); intro v9 u hk; clear HK; have HK := Lib.hid hk; clear hk)
                | (with_reducible refine load_k1 HK.out 2 rfl _ rfl rfl rfl rfl rfl ?_)
                | ((refine appB_big HK.out 0 rfl (HK.out.bys 0 rfl) HKL.out rfl _ _ rfl rfl rfl HAPP.out ?_); intro O KO cO u hn3 hc3 hkg; simp only [List.set_cons_zero, List.nil_append] at hkg hn3; obtain rfl : KO = k := hn3.symm.trans HKL.out; clear HK hn3 hc3; have HK := Lib.hid hkg; clear hkg)
                | (go_at_call 14; (with_reducible refine (append_noroom rl r z _ _ _ L P O KO cO sb HKL.out HK32.out HZ.out HPZ.out HROOM0.out _ (HW.out.below HK.out.mf.bel) (HK.out.rowIn 0 rfl).bys (HK.out.lo 4 rfl) (HK.out.dk 5 rfl)).mono ?_); rintro e u ⟨rfl, hb⟩; have hk := HK.out.call hb; clear hb; clear HK; have HK := Lib.hid hk; clear hk))
              go_loopw [69] (fun i wr => ∃ (q : Nat) (l9 : List UInt8), q ≤ KO ∧ i = .int .i64 (q : Int) ∧ l9.length = KO ∧ Kg w (fun _ => False) (Th.row (.slice O KO cO) l9 :: [Th.cel b11 33 [.int .i64 z, .slice A n c], Th.cel b10 36 [.int .i64 0, .int .i64 sn, .int .i64 sm, .slice sA KO sc], Th.cel b8 33 [.int .i64 z, .slice A n c], Th.lo rl r v L, Th.dk r z N vd P]) [Th.bys sA sb, Th.ll A n La] wr) (fun i _ => KO - (intOf i).toNat)
              case atStart => exact ⟨0, sb, Nat.zero_le _, rfl, HKL.out, HK.out⟩
              case round =>
                obtain ⟨q, l9, hq, rfl, hl9, hk⟩ := hrel
                clear HK
                have HK := Lib.hid hk; have HL9 := Lib.hid hl9
                clear hk hl9
                have hrb := HRB.out
                by_cases hqk : q < KO
                · have ho : Own _ 0 (.slice O KO cO) l9 := HK.out.rowIn 0 rfl
                  obtain ⟨g, rfl⟩ := row_at ho (by rw [HL9.out]; omega)
                  clear ho
                  have hcell := HK.out.byteAt 0 rfl (k := q) (by rw [HL9.out]; exact hqk)
                  generalize ((l9.getD q 0).toNat : Int) = x8 at hcell
                  obtain ⟨d8, hd8⟩ := u8_wrap (x8 + 1)
                  have q1 : (0 : Int) ≤ (q : Int) := by omega
                  have q2 : (q : Int) < (KO : Int) := by omega
                  have q3 : (q : Int) ≤ 140737488351232 := by omega
                  go_wp2_with (first
                    | (refine storeB_k HK.out 0 rfl HL9.out (k := q) hqk d8 rfl rfl rfl _ _ rfl rfl rfl ?_; intro u hk; simp only [List.set_cons_zero] at hk; clear hcell; clear HK; have HK := Lib.hid hk; clear hk))
                  go_roundw
                  case rel => exact ⟨q + 1, l9.set q d8, by omega, by go_num, by rw [List.length_set]; exact HL9.out, HK.out⟩
                  case measure => simp [intOf]; omega
                · obtain rfl : q = KO := by omega
                  clear hrb
                  go_wp2_with (first
                    | fail)
                  go_meet
                  exact ⟨_, _, _, _, _, _, _, _, _, _, _, rfl, ⟨HK.out.three 3 4 5 rfl rfl rfl (by decide) (by decide) (by decide) (by simp), HTX.out, HTA.out, HFP.out, HPN.out, H3.out, Nat.le_succ_of_le HM.out, HNZ.out, HNC.out, HML.out⟩⟩
            · have HROOM2 := Lib.hid (show N + k + 8 ≤ z by omega)
              have HROOM := Lib.hid (show P.length + (8 + k) ≤ z by rw [HPN.out]; omega)
              clear hroom
              obtain ⟨P2, hP2⟩ : ∃ P2, P ++ frm sb = P2 := ⟨_, rfl⟩
              have HP2 := Lib.hid hP2
              obtain ⟨N2, hN2⟩ : ∃ N2, P2.length = N2 := ⟨_, rfl⟩
              have HN2 := Lib.hid hN2
              have HF2 := Lib.hid (show fls (M ++ [sb]) = P2 by rw [fls_append, HFP.out, fls_one, hP2])
              have HN2Z := Lib.hid (show N2 ≤ z by rw [← hN2, ← hP2, List.length_append, frm_length, HKL.out]; exact HROOM.out)
              clear hP2 hN2
              go_wp2_with (first
                | (with_reducible refine load_kr HK.out 1 Tryd.underlying33 rfl g_info _ rfl rfl rfl rfl rfl ?_)
                | (with_reducible refine load_k1 HK.out 0 rfl _ rfl rfl rfl rfl rfl ?_)
                | (go_at_call 13; (with_reducible refine (radd_any z HZ.out A n c La M HTA.out H32.out N HFN.out HNB.out sA k sc sb HKL.out HK32.out HROOM2.out _ (HK.out.ll 1 rfl) (HK.out.bys 0 rfl)).mono ?_); rintro e u ⟨A5, c5, rfl, hc5, hb, hl5, ha5⟩; have hk := HK.out.added 1 0 (x := (sA, sc, sb)) rfl rfl hb hl5 ha5; have HC5 := Lib.hid hc5; clear hb hl5 ha5 hc5; clear HK; have HK := Lib.hid hk; clear hk)
                | ((with_reducible refine alloc_k HK.out g_zero rfl rfl ?_); intro b11 u hk; clear HK; have HK := Lib.hid hk; clear hk)
                | ((with_reducible refine store_kr (xs := [.int .i64 z, .slice A5 (n + 1) c5]) HK.out 0 g_info rfl rfl _ _ rfl rfl rfl rfl (by simp) (by simp) (by simp [Value.oneCell']) ?_); intro u hk; simp only [List.set_cons_zero] at hk; clear HK; have HK := Lib.hid hk; clear hk)
                | (with_reducible refine load_kr HK.out 0 Tryd.underlying33 rfl g_info _ rfl rfl rfl rfl rfl ?_)
                | ((with_reducible refine store_kr (xs := [.int .i64 z, .slice A5 (n + 1) c5]) HK.out 2 g_info rfl rfl _ _ rfl rfl rfl rfl (by simp) (by simp) (by simp [Value.oneCell']) ?_); intro u hk; simp only [List.set_cons_zero, List.set_cons_succ] at hk; clear HK; have HK := Lib.hid hk; clear hk)
                | ((with_reducible refine buildB_k HK.out rfl rfl ?_); intro v9 u hk; clear HK; have HK := Lib.hid hk; clear hk)
                | (with_reducible refine load_k1 HK.out 2 rfl _ rfl rfl rfl rfl rfl ?_)
                | ((refine appB_big HK.out 0 rfl (HK.out.bys 1 rfl) HKL.out rfl _ _ rfl rfl rfl HAPP.out ?_); intro O KO cO u hn3 hc3 hkg; simp only [List.set_cons_zero, List.nil_append] at hkg hn3; obtain rfl : KO = k := hn3.symm.trans HKL.out; clear HK hn3 hc3; have HK := Lib.hid hkg; clear hkg)
                | (go_at_call 14; (with_reducible refine (append_r HK.out HW.out 4 5 0 rfl rfl (by decide) rfl (by decide) (by decide) HKL.out HK32.out HZ.out HROOM.out HLX.out P2 HP2.out N2 HN2.out).mono ?_); rintro e u ⟨rfl, v3, v4, A3, c3, hk⟩; simp only [List.set_cons_zero, List.set_cons_succ] at hk; clear HK; have HK := Lib.hid hk; clear hk))
              go_loopw [69] (fun i wr => ∃ (q : Nat) (l9 : List UInt8), q ≤ KO ∧ i = .int .i64 (q : Int) ∧ l9.length = KO ∧ Kg w (fun _ => False) (Th.row (.slice O KO cO) l9 :: [Th.cel b11 33 [.int .i64 z, .slice A5 (n + 1) c5], Th.cel b10 36 [.int .i64 0, .int .i64 sn, .int .i64 sm, .slice sA KO sc], Th.cel b8 33 [.int .i64 z, .slice A5 (n + 1) c5], Th.lo rl r v3 (L ++ [(A3, c3, sb)]), Th.dk r z N2 v4 P2]) [Th.ll A5 (n + 1) (La ++ [(sA, sc, sb)]), Th.bys sA sb, Th.ll A n La] wr) (fun i _ => KO - (intOf i).toNat)
              case atStart => exact ⟨0, sb, Nat.zero_le _, rfl, HKL.out, HK.out⟩
              case round =>
                obtain ⟨q, l9, hq, rfl, hl9, hk⟩ := hrel
                clear HK
                have HK := Lib.hid hk; have HL9 := Lib.hid hl9
                clear hk hl9
                have hrb := HRB.out
                by_cases hqk : q < KO
                · have ho : Own _ 0 (.slice O KO cO) l9 := HK.out.rowIn 0 rfl
                  obtain ⟨g, rfl⟩ := row_at ho (by rw [HL9.out]; omega)
                  clear ho
                  have hcell := HK.out.byteAt 0 rfl (k := q) (by rw [HL9.out]; exact hqk)
                  generalize ((l9.getD q 0).toNat : Int) = x8 at hcell
                  obtain ⟨d8, hd8⟩ := u8_wrap (x8 + 1)
                  have q1 : (0 : Int) ≤ (q : Int) := by omega
                  have q2 : (q : Int) < (KO : Int) := by omega
                  have q3 : (q : Int) ≤ 140737488351232 := by omega
                  go_wp2_with (first
                    | (refine storeB_k HK.out 0 rfl HL9.out (k := q) hqk d8 rfl rfl rfl _ _ rfl rfl rfl ?_; intro u hk; simp only [List.set_cons_zero] at hk; clear hcell; clear HK; have HK := Lib.hid hk; clear hk))
                  go_roundw
                  case rel => exact ⟨q + 1, l9.set q d8, by omega, by go_num, by rw [List.length_set]; exact HL9.out, HK.out⟩
                  case measure => simp [intOf]; omega
                · obtain rfl : q = KO := by omega
                  clear hrb
                  go_wp2_with (first
                    | fail)
                  go_meet
                  exact ⟨_, _, _, M ++ [sb], L ++ [(A3, c3, sb)], La ++ [(sA, sc, sb)], _, _, _, _, _, rfl, ⟨HK.out.three 3 4 5 rfl rfl rfl (by decide) (by decide) (by decide) (by simp), by rw [txt_append, HTX.out]; rfl, by rw [txt_append, HTA.out]; rfl, HF2.out, HN2.out, (by
                    intro p hp
                    rcases List.mem_append.1 hp with hp | hp
                    · exact H3.out p hp
                    · obtain rfl := List.mem_singleton.1 hp
                      rw [HKL.out]; exact HK300.out), (by rw [List.length_append]; have := HM.out; simp; omega), HN2Z.out, HC5.out, (by rw [List.length_append, HML.out]; rfl)⟩⟩
          · have HLG := Lib.hid hbig
            clear hbig
            go_wp2_with (first
              | (with_reducible refine load_kr HK.out 1 Tryd.underlying33 rfl g_info _ rfl rfl rfl rfl rfl ?_)
              | (with_reducible refine load_k1 HK.out 0 rfl _ rfl rfl rfl rfl rfl ?_)
              | (go_at_call 13; (with_reducible refine (radd_long z A n c sA k sc HLG.out _).mono ?_); rintro e u ⟨rfl, hb⟩; have hk := HK.out.call hb; clear hb; clear HK; have HK := Lib.hid hk; clear hk)
              | ((with_reducible refine alloc_k HK.out g_zero rfl rfl ?_); intro b11 u hk; clear HK; have HK := Lib.hid hk; clear hk)
              | ((with_reducible refine store_kr (xs := [.int .i64 z, .slice A n c]) HK.out 0 g_info rfl rfl _ _ rfl rfl rfl rfl (by simp) (by simp) (by simp [Value.oneCell']) ?_); intro u hk; simp only [List.set_cons_zero] at hk; clear HK; have HK := Lib.hid hk; clear hk)
              | (with_reducible refine load_kr HK.out 0 Tryd.underlying33 rfl g_info _ rfl rfl rfl rfl rfl ?_)
              | ((with_reducible refine store_kr (xs := [.int .i64 z, .slice A n c]) HK.out 2 g_info rfl rfl _ _ rfl rfl rfl rfl (by simp) (by simp) (by simp [Value.oneCell']) ?_); intro u hk; simp only [List.set_cons_zero, List.set_cons_succ] at hk; clear HK; have HK := Lib.hid hk; clear hk)
              | ((with_reducible refine buildB_k HK.out rfl rfl ?_); intro v9 u hk; clear HK; have HK := Lib.hid hk; clear hk)
              | (with_reducible refine load_k1 HK.out 2 rfl _ rfl rfl rfl rfl rfl ?_)
              | ((refine appB_big HK.out 0 rfl (HK.out.bys 0 rfl) HKL.out rfl _ _ rfl rfl rfl HAPP.out ?_); intro O KO cO u hn3 hc3 hkg; simp only [List.set_cons_zero, List.nil_append] at hkg hn3; obtain rfl : KO = k := hn3.symm.trans HKL.out; clear HK hn3 hc3; have HK := Lib.hid hkg; clear hkg)
              | (go_at_call 14; (with_reducible refine (append_long rl O KO cO HLG.out _).mono ?_); rintro e u ⟨rfl, rfl⟩))
            go_loopw [69] (fun i wr => ∃ (q : Nat) (l9 : List UInt8), q ≤ KO ∧ i = .int .i64 (q : Int) ∧ l9.length = KO ∧ Kg w (fun _ => False) (Th.row (.slice O KO cO) l9 :: [Th.cel b11 33 [.int .i64 z, .slice A n c], Th.cel b10 36 [.int .i64 0, .int .i64 sn, .int .i64 sm, .slice sA KO sc], Th.cel b8 33 [.int .i64 z, .slice A n c], Th.lo rl r v L, Th.dk r z N vd P]) [Th.bys sA sb, Th.ll A n La] wr) (fun i _ => KO - (intOf i).toNat)
            case atStart => exact ⟨0, sb, Nat.zero_le _, rfl, HKL.out, HK.out⟩
            case round =>
              obtain ⟨q, l9, hq, rfl, hl9, hk⟩ := hrel
              clear HK
              have HK := Lib.hid hk; have HL9 := Lib.hid hl9
              clear hk hl9
              have hrb := HRB.out
              by_cases hqk : q < KO
              · have ho : Own _ 0 (.slice O KO cO) l9 := HK.out.rowIn 0 rfl
                obtain ⟨g, rfl⟩ := row_at ho (by rw [HL9.out]; omega)
                clear ho
                have hcell := HK.out.byteAt 0 rfl (k := q) (by rw [HL9.out]; exact hqk)
                generalize ((l9.getD q 0).toNat : Int) = x8 at hcell
                obtain ⟨d8, hd8⟩ := u8_wrap (x8 + 1)
                have q1 : (0 : Int) ≤ (q : Int) := by omega
                have q2 : (q : Int) < (KO : Int) := by omega
                have q3 : (q : Int) ≤ 140737488351232 := by omega
                go_wp2_with (first
                  | (refine storeB_k HK.out 0 rfl HL9.out (k := q) hqk d8 rfl rfl rfl _ _ rfl rfl rfl ?_; intro u hk; simp only [List.set_cons_zero] at hk; clear hcell; clear HK; have HK := Lib.hid hk; clear hk))
                go_roundw
                case rel => exact ⟨q + 1, l9.set q d8, by omega, by go_num, by rw [List.length_set]; exact HL9.out, HK.out⟩
                case measure => simp [intOf]; omega
              · obtain rfl : q = KO := by omega
                clear hrb
                go_wp2_with (first
                  | fail)
                go_meet
                exact ⟨_, _, _, _, _, _, _, _, _, _, _, rfl, ⟨HK.out.three 3 4 5 rfl rfl rfl (by decide) (by decide) (by decide) (by simp), HTX.out, HTA.out, HFP.out, HPN.out, H3.out, Nat.le_succ_of_le HM.out, HNZ.out, HNC.out, HML.out⟩⟩
        by_cases h1 : vb = 1
        · subst h1
          rcases Nat.eq_zero_or_pos n with hn0 | hn0
          · obtain rfl : M = [] := List.eq_nil_of_length_eq_zero (by rw [HML.out, hn0])
            obtain rfl : L = [] := List.eq_nil_of_length_eq_zero (by rw [HLN.out, hn0])
            subst hn0
            go_wp2_with (first
              | (with_reducible refine load_kr HK.out 1 Tryd.underlying33 rfl g_info _ rfl rfl rfl rfl rfl ?_)
              | (go_at_call 15; (with_reducible refine (rshort_none z A c _).mono ?_); rintro e u ⟨rfl, hb⟩; have hk := HK.out.call hb; clear hb; clear HK; have HK := Lib.hid hk; clear hk)
              | ((with_reducible refine store_kr (xs := [.int .i64 z, .slice A 0 c]) HK.out 1 g_info rfl rfl _ _ rfl rfl rfl rfl (by simp) (by simp) (by simp [Value.oneCell']) ?_); intro u hk; simp only [List.set_cons_zero, List.set_cons_succ] at hk; clear HK; have HK := Lib.hid hk; clear hk)
              | (go_at_call 16; (with_reducible refine (compact_none _ _ _ _ (HK.out.lo 2 rfl)).mono ?_); rintro e u ⟨rfl, rfl⟩))
            go_meet
            exact ⟨_, _, _, _, _, _, _, _, _, _, _, rfl, ⟨HK.out.three 1 2 3 rfl rfl rfl (by decide) (by decide) (by decide) (by simp), HTX.out, HTA.out, HFP.out, HPN.out, H3.out, Nat.le_succ_of_le HM.out, HNZ.out, HNC.out, HML.out⟩⟩
          · obtain ⟨n, rfl⟩ : ∃ n', n = n' + 1 := ⟨n - 1, by omega⟩
            obtain ⟨A2, c2, hxl⟩ := txt_get HTX.out (show n < M.length by rw [HML.out]; omega)
            have hT3 := H3.out (M.getD n []) (by rw [List.getD_eq_getElem?_getD, List.getElem?_eq_getElem (by rw [HML.out]; omega)]; exact List.getElem_mem (by rw [HML.out]; omega))
            have hfr := fls_take_le M (n + 1)
            rw [fls_take (by rw [HML.out]; omega), List.length_append, frm_length, HFP.out, HPN.out] at hfr
            have hdl := drop_last HML.out
            have hda : txt (La.drop n) = M.drop n := by rw [← HTA.out]; simp [txt]
            rw [hdl] at hda
            generalize M.getD n [] = T at *
            have HXL := Lib.hid hxl; have HT3 := Lib.hid hT3; have HDA := Lib.hid hda
            obtain ⟨P3, hP3⟩ : ∃ P3, frm T = P3 := ⟨_, rfl⟩
            obtain ⟨N3, hN3⟩ : ∃ N3, P3.length = N3 := ⟨_, rfl⟩
            have HT0 := Lib.hid (show 8 + T.length ≤ z by have := HNZ.out; omega)
            have HN3Z := Lib.hid (show N3 ≤ z by rw [← hN3, ← hP3, frm_length]; exact HT0.out)
            have HPF := Lib.hid hP3; have HPN3 := Lib.hid hN3
            have HFP3 := Lib.hid (show fls [T] = P3 by rw [fls_one, hP3])
            have HE1 := Lib.hid (show n + 1 - n = 1 by omega)
            have HCN := Lib.hid (show 1 ≤ c - n by have := HNC.out; omega)
            clear hxl hT3 hfr hdl hda hP3 hN3 hn0
            go_wp2_with (first
              | (with_reducible refine load_kr HK.out 1 Tryd.underlying33 rfl g_info _ rfl rfl rfl rfl rfl ?_)
              | (go_at_call 15; (with_reducible refine (rshort_any z A n c HNC.out (by have := HNX.out; omega) _).mono ?_); rintro e u ⟨rfl, hb⟩; have hk := HK.out.call hb; clear hb; clear HK; have HK := Lib.hid hk; clear hk)
              | ((with_reducible refine store_kr (xs := [.int .i64 z, .slice (lowA A c n) 1 (c - n)]) HK.out 1 g_info rfl rfl _ _ rfl rfl rfl rfl (by simp) (by simp) (by simp [Value.oneCell']) ?_); intro u hk; simp only [List.set_cons_zero, List.set_cons_succ] at hk; clear HK; have HK := Lib.hid hk; clear hk)
              | (go_at_call 16; (with_reducible refine (compact_k HK.out HW.out 2 3 rfl rfl (by decide) n HLN.out (by have := HNX.out; omega) HXL.out (by have := HT3.out; omega) HZ.out HT0.out P3 HPF.out N3 HPN3.out).mono ?_); rintro e u ⟨rfl, v3, v4, A3, c3, hk⟩; simp only [List.set_cons_zero, List.set_cons_succ] at hk; clear HK; have HK := Lib.hid hk; clear hk))
            have hkl := HK.out.lowered 1 (k := n) rfl HNC.out (by omega)
            rw [HE1.out] at hkl
            go_meet
            exact ⟨_, _, _, [T], _, _, _, _, _, _, _, rfl, ⟨hkl.three 1 2 3 rfl rfl rfl (by decide) (by decide) (by decide) (by simp), rfl, HDA.out, HFP3.out, HPN3.out, (by intro p hp; obtain rfl := List.mem_singleton.1 hp; exact HT3.out), (by simp), HN3Z.out, HCN.out, rfl⟩⟩
        by_cases h2 : vb = 2
        · subst h2
          obtain ⟨hs1, hs2⟩ := scn_own H32.out HFP.out HPN.out
          have HSC := Lib.hid hs1; have HS3 := Lib.hid hs2
          clear hs1 hs2
          go_wp2_with (first
            | (with_reducible refine load_k1 HK.out 0 rfl _ rfl rfl rfl rfl rfl ?_)
            | (go_at_call 17; (with_reducible refine (crash_safe _ _ _ P N HPN.out sn sm HNM.out _ (HK.out.dk 3 rfl)).mono ?_); rintro e u ⟨rfl, v5, hd, hm⟩; have hk := HK.out.disk 3 rfl hm hd; simp only [List.set_cons_zero, List.set_cons_succ] at hk; clear hd hm; clear HK; have HK := Lib.hid hk; clear hk)
            | (go_at_call 12; (with_reducible refine (open_k HK.out HW.out 3 (Int.natCast_nonneg _) rfl (by have := HPN.out; have := HNB.out; omega) M HSC.out P HFP.out N HPN.out HS3.out).mono ?_); rintro e u ⟨rl2, v6, v7, L2, rfl, ht, hk⟩; have HT2 := Lib.hid ht; simp only [List.set_cons_zero, List.set_cons_succ] at hk; clear ht; clear HK; have HK := Lib.hid hk; clear hk))
          go_meet
          exact ⟨_, _, _, _, _, _, _, _, _, _, _, rfl, ⟨HK.out.three 2 0 4 rfl rfl rfl (by decide) (by decide) (by decide) (by simp), HT2.out, HTA.out, HFP.out, HPN.out, H3.out, Nat.le_succ_of_le HM.out, HNZ.out, HNC.out, HML.out⟩⟩
        have b0 : decide (vb = 0) = false := by simpa using h0
        have b1 : decide (vb = 1) = false := by simpa using h1
        have b2 : decide (vb = 2) = false := by simpa using h2
        have b3 : (vb == 0) = false := by simpa using h0
        have b4 : (vb == 1) = false := by simpa using h1
        have b5 : (vb == 2) = false := by simpa using h2
        go_wp2_with (first
          | fail)
        go_meet
        exact ⟨_, _, _, _, _, _, _, _, _, _, _, rfl, ⟨HK.out.three 1 2 3 rfl rfl rfl (by decide) (by decide) (by decide) (by simp), HTX.out, HTA.out, HFP.out, HPN.out, H3.out, Nat.le_succ_of_le HM.out, HNZ.out, HNC.out, HML.out⟩⟩
      case rest =>
        clear HPL HK HR HSL HKL HRB
        obtain ⟨rl, N, P, M, L, La, A, n, c, v, vd, rfl, hpl⟩ := hcut
        have HTX := Lib.hid hpl.tx; have HTA := Lib.hid hpl.ta; have HFP := Lib.hid hpl.fp; have HPN := Lib.hid hpl.pn; have H3 := Lib.hid hpl.h3
        have HM := Lib.hid hpl.hm; have HNZ := Lib.hid hpl.nz; have HNC := Lib.hid hpl.nc; have HML := Lib.hid hpl.ml
        have HK := Lib.hid hpl.kg
        clear hpl
        have HLN := Lib.hid (show L.length = n by rw [← txt_length, HTX.out, HML.out])
        have HNX := Lib.hid (show n ≤ 21 by have := HM.out; have := HML.out; omega)
        have HNM0 := Lib.hid (show n ≤ 1000000 by have := HNX.out; omega)
        have H32 := Lib.hid (show ∀ p ∈ M, p.length ≤ 32768 from fun p hp => by have := H3.out p hp; omega)
        have HFN := Lib.hid (show (fls M).length = N by rw [HFP.out, HPN.out])
        have HNB := Lib.hid (show N ≤ 1000000 by
          have h1 := fls_bound H3.out
          rw [HFN.out, HML.out] at h1
          have := HNX.out
          have h2 : n * (8 + 300) ≤ 21 * 308 := Nat.mul_le_mul (by omega) (by omega)
          omega)
        have HNM := Lib.hid (show N ≤ 1048576 by have := HNB.out; omega)
        have HXM := Lib.hid (show ∀ x ∈ L, x.2.2.length ≤ 1000000 from fun x hx => by
          have h1 : x.2.2 ∈ txt L := List.mem_map.2 ⟨x, hx, rfl⟩
          rw [HTX.out] at h1
          have := H3.out _ h1
          omega)
        have hqp := str_refl P
        rcases Nat.eq_zero_or_pos n with hn0 | hn0
        · obtain rfl : L = [] := List.eq_nil_of_length_eq_zero (by rw [HLN.out, hn0])
          have HGT := Lib.hid (show decide ((0 : Int) < (n : Int)) = false by simp; omega)
          clear hn0
          go_wp2_with (first
            | (go_at_call 18; (with_reducible refine (last_none _ _ _ _ (HK.out.lo 1 rfl)).mono ?_); rintro e u ⟨rfl, rfl⟩))
          refine Draws.start (S := fun u' : World => Kg w (fun _ => False) [Th.cel b8 33 [.int .i64 z, .slice A n c], Th.lo rl r v [], Th.dk r z N vd P] [Th.ll A n La] u') (n := 49) 49 rfl (by kernel_rfl) ?_
          have HS := Lib.hid (show (fun u' : World => Kg w (fun _ => False) [Th.cel b8 33 [.int .i64 z, .slice A n c], Th.lo rl r v [], Th.dk r z N vd P] [Th.ll A n La] u') (World.drew _) from HK.out.drew)
          refine Draws.take 0 (v := ?vp1) HS.out rfl (by kernel_rfl) (fun _ _ _ h => h) (Or.inl ⟨rfl, ?hp1⟩) ?rp1
          case hp1 => intro w' hw'; go_simp; (try with_reducible rfl)
          (try simp only [Act.put, List.setIfInBounds_toArray, List.set_cons_zero, List.set_cons_succ])
          refine Draws.take 2 (v := ?vp2) HS.out rfl (by kernel_rfl) (fun _ _ _ h => h) (Or.inl ⟨rfl, ?hp2⟩) ?rp2
          case hp2 => intro w' hw'; go_simp; (try with_reducible rfl)
          (try simp only [Act.put, List.setIfInBounds_toArray, List.set_cons_zero, List.set_cons_succ])
          refine Draws.take 3 HS.out rfl (by kernel_rfl) (fun _ _ _ h => h) (yield_t rfl (fun _ h => (h.celAt 0 rfl).cell rfl) _ rfl rfl rfl) ?_
          (try simp only [Act.put, List.setIfInBounds_toArray, List.set_cons_zero, List.set_cons_succ])
          refine Draws.does 1 rfl (by kernel_rfl) rfl (fun K' hK => ?_)
          go_simp
          go_at_call 20
          refine (all_any _ _ _ [] n HLN.out HNM0.out HXM.out _ (HS.out.lo 1 rfl)).mono ?_
          rintro e u ⟨A7, c7, M7, ⟨rfl, _⟩, htm, hkl⟩
          (try dsimp only)
          have HTM := Lib.hid htm
          clear htm
          refine hK.out _ _ (fun _ => HS.out.call hkl.bel) ?_
          refine Draws.more (S' := fun u' : World => Kg w (fun _ => False) [Th.cel b8 33 [.int .i64 z, .slice A n c], Th.lo rl r v [], Th.dk r z N vd P] [Th.ll A7 n M7, Th.ll A n La] u') (fun _ h => h.sub (fun _ hr => List.mem_cons_of_mem _ hr)) _ _ _ _ ?_
          have hs : (fun u' : World => Kg w (fun _ => False) [Th.cel b8 33 [.int .i64 z, .slice A n c], Th.lo rl r v [], Th.dk r z N vd P] [Th.ll A7 n M7, Th.ll A n La] u') u := HS.out.lists hkl
          clear HS
          have HS := Lib.hid hs; clear hs
          clear hkl
          clear hK K'
          (try simp only [Act.put, List.setIfInBounds_toArray, List.set_cons_zero, List.set_cons_succ])
          refine Draws.does 4 rfl (by kernel_rfl) rfl (fun K' hK => ?_)
          have HSAME := Lib.hid (show txt M7 = txt La by rw [HTM.out, HTX.out, HTA.out])
          go_simp
          go_at_call 19
          refine (same_yes A7 A n c7 c M7 La HSAME.out HNM0.out _ (HS.out.ll 0 rfl) (HS.out.ll 1 rfl)).mono ?_
          rintro e u ⟨rfl, hb⟩
          (try dsimp only)
          refine hK.out _ _ (fun _ => HS.out.call hb) ?_
          have hs := HS.out.call hb
          clear HS hb
          have HS := Lib.hid hs; clear hs
          clear hK K'
          (try simp only [Act.put, List.setIfInBounds_toArray, List.set_cons_zero, List.set_cons_succ])
          refine Draws.take 5 (v := ?vp3) HS.out rfl (by kernel_rfl) (fun _ _ _ h => h) (Or.inl ⟨rfl, ?hp3⟩) ?rp3
          case hp3 => intro w' hw'; go_simp; (try with_reducible rfl)
          (try simp only [Act.put, List.setIfInBounds_toArray, List.set_cons_zero, List.set_cons_succ])
          refine Draws.take 6 (v := ?vp4) HS.out rfl (by kernel_rfl) (fun _ _ _ h => h) (Or.inl ⟨rfl, ?hp4⟩) ?rp4
          case hp4 => intro w' hw'; go_simp; (try with_reducible rfl)
          (try simp only [Act.put, List.setIfInBounds_toArray, List.set_cons_zero, List.set_cons_succ])
          refine Draws.take 7 (v := ?vp5) HS.out rfl (by kernel_rfl) (fun _ _ _ h => h) (Or.inl ⟨rfl, ?hp5⟩) ?rp5
          case hp5 => intro w' hw'; go_simp; (try with_reducible rfl)
          (try simp only [Act.put, List.setIfInBounds_toArray, List.set_cons_zero, List.set_cons_succ])
          refine Draws.take 9 (v := ?vp6) HS.out rfl (by kernel_rfl) (fun _ _ _ h => h) (Or.inl ⟨rfl, ?hp6⟩) ?rp6
          case hp6 => intro w' hw'; go_simp; (try with_reducible rfl)
          (try simp only [Act.put, List.setIfInBounds_toArray, List.set_cons_zero, List.set_cons_succ])
          refine Draws.take 10 HS.out rfl (by kernel_rfl) (fun _ _ _ h => h) (yield_t rfl (fun _ h => (h.celAt 0 rfl).cell rfl) _ rfl rfl rfl) ?_
          (try simp only [Act.put, List.setIfInBounds_toArray, List.set_cons_zero, List.set_cons_succ])
          refine Draws.take 11 (v := ?vp7) HS.out rfl (by kernel_rfl) (fun _ _ _ h => h) (Or.inl ⟨rfl, ?hp7⟩) ?rp7
          case hp7 => intro w' hw'; go_simp; (try with_reducible rfl)
          (try simp only [Act.put, List.setIfInBounds_toArray, List.set_cons_zero, List.set_cons_succ])
          refine Draws.does 8 rfl (by kernel_rfl) rfl (fun K' hK => ?_)
          go_simp
          go_at_call 21
          refine (len_any _ _ _ [] n HLN.out _ (HS.out.lo 1 rfl)).mono ?_
          rintro e u ⟨rfl, rfl⟩
          (try dsimp only)
          refine hK.out _ _ (fun _ => HS.out) ?_
          clear hK K'
          (try simp only [Act.put, List.setIfInBounds_toArray, List.set_cons_zero, List.set_cons_succ])
          refine Draws.take 12 HS.out rfl (by kernel_rfl) (fun _ _ _ h => h) (yield_nei rfl _ _ _ rfl rfl rfl rfl) ?_
          (try simp only [Act.put, List.setIfInBounds_toArray, List.set_cons_zero, List.set_cons_succ])
          refine Draws.take 13 (v := ?vp8) HS.out rfl (by kernel_rfl) (fun _ _ _ h => h) (Or.inl ⟨rfl, ?hp8⟩) ?rp8
          case hp8 => intro w' hw'; go_simp; (try with_reducible rfl)
          (try simp only [Act.put, List.setIfInBounds_toArray, List.set_cons_zero, List.set_cons_succ])
          refine Draws.take 14 (v := ?vp9) HS.out rfl (by kernel_rfl) (fun _ _ _ h => h) (Or.inl ⟨rfl, ?hp9⟩) ?rp9
          case hp9 => intro w' hw'; go_simp; (try with_reducible rfl)
          (try simp only [Act.put, List.setIfInBounds_toArray, List.set_cons_zero, List.set_cons_succ])
          refine Draws.take 15 (v := ?vp10) HS.out rfl (by kernel_rfl) (fun _ _ _ h => h) (Or.inl ⟨rfl, ?hp10⟩) ?rp10
          case hp10 => intro w' hw'; go_simp; (try with_reducible rfl)
          (try simp only [Act.put, List.setIfInBounds_toArray, List.set_cons_zero, List.set_cons_succ])
          refine Draws.take 18 (v := ?vp11) HS.out rfl (by kernel_rfl) (fun _ _ _ h => h) (Or.inl ⟨rfl, ?hp11⟩) ?rp11
          case hp11 => intro w' hw'; go_simp; (try with_reducible rfl)
          (try simp only [Act.put, List.setIfInBounds_toArray, List.set_cons_zero, List.set_cons_succ])
          refine Draws.take 19 HS.out rfl (by kernel_rfl) (fun _ _ _ h => h) (yield_t rfl (fun _ h => (h.celAt 0 rfl).cell rfl) _ rfl rfl rfl) ?_
          (try simp only [Act.put, List.setIfInBounds_toArray, List.set_cons_zero, List.set_cons_succ])
          refine Draws.does 16 rfl (by kernel_rfl) rfl (fun K' hK => ?_)
          go_simp
          go_at_call 22
          refine (bytes_n _ _ _ _ P N HPN.out HNM.out _ (HS.out.dk 2 rfl)).mono ?_
          rintro e u ⟨A8, c8, ⟨rfl, _⟩, hk⟩
          (try dsimp only)
          refine hK.out _ _ (fun _ => HS.out.call hk.bel) ?_
          refine Draws.more (S' := fun u' : World => Kg w (fun _ => False) [Th.cel b8 33 [.int .i64 z, .slice A n c], Th.lo rl r v [], Th.dk r z N vd P] [Th.bys A8 P, Th.ll A7 n M7, Th.ll A n La] u') (fun _ h => h.sub (fun _ hr => List.mem_cons_of_mem _ hr)) _ _ _ _ ?_
          have hs : (fun u' : World => Kg w (fun _ => False) [Th.cel b8 33 [.int .i64 z, .slice A n c], Th.lo rl r v [], Th.dk r z N vd P] [Th.bys A8 P, Th.ll A7 n M7, Th.ll A n La] u') u := HS.out.makes hk
          clear HS
          have HS := Lib.hid hs; clear hs
          clear hk
          clear hK K'
          (try simp only [Act.put, List.setIfInBounds_toArray, List.set_cons_zero, List.set_cons_succ])
          refine Draws.take 17 HS.out rfl (by kernel_rfl) (fun _ _ _ h => h) (yield_str (fun _ h => h.bys 0 rfl) HPN.out _ rfl rfl rfl) ?_
          (try simp only [Act.put, List.setIfInBounds_toArray, List.set_cons_zero, List.set_cons_succ])
          refine Draws.does 20 rfl (by kernel_rfl) rfl (fun K' hK => ?_)
          go_simp
          go_at_call 23
          refine (rbytes_n A n c La M HTA.out N HFN.out H32.out HNB.out _ (HS.out.ll 2 rfl)).mono ?_
          rintro e u ⟨A9, c9, ⟨rfl, _⟩, hk⟩
          (try dsimp only)
          rw [HFP.out] at hk
          refine hK.out _ _ (fun _ => HS.out.call hk.bel) ?_
          refine Draws.more (S' := fun u' : World => Kg w (fun _ => False) [Th.cel b8 33 [.int .i64 z, .slice A n c], Th.lo rl r v [], Th.dk r z N vd P] [Th.bys A9 P, Th.bys A8 P, Th.ll A7 n M7, Th.ll A n La] u') (fun _ h => h.sub (fun _ hr => List.mem_cons_of_mem _ hr)) _ _ _ _ ?_
          have hs : (fun u' : World => Kg w (fun _ => False) [Th.cel b8 33 [.int .i64 z, .slice A n c], Th.lo rl r v [], Th.dk r z N vd P] [Th.bys A9 P, Th.bys A8 P, Th.ll A7 n M7, Th.ll A n La] u') u := HS.out.makes hk
          clear HS
          have HS := Lib.hid hs; clear hs
          clear hk
          clear hK K'
          (try simp only [Act.put, List.setIfInBounds_toArray, List.set_cons_zero, List.set_cons_succ])
          refine Draws.take 21 HS.out rfl (by kernel_rfl) (fun _ _ _ h => h) (yield_str (fun _ h => h.bys 0 rfl) HPN.out _ rfl rfl rfl) ?_
          (try simp only [Act.put, List.setIfInBounds_toArray, List.set_cons_zero, List.set_cons_succ])
          refine Draws.take 22 HS.out rfl (by kernel_rfl) (fun _ _ _ h => h) (yield_nes hqp _ _ _ rfl rfl rfl rfl) ?_
          (try simp only [Act.put, List.setIfInBounds_toArray, List.set_cons_zero, List.set_cons_succ])
          refine Draws.take 23 (v := ?vp12) HS.out rfl (by kernel_rfl) (fun _ _ _ h => h) (Or.inl ⟨rfl, ?hp12⟩) ?rp12
          case hp12 => intro w' hw'; go_simp; (try with_reducible rfl)
          (try simp only [Act.put, List.setIfInBounds_toArray, List.set_cons_zero, List.set_cons_succ])
          refine Draws.take 24 (v := ?vp13) HS.out rfl (by kernel_rfl) (fun _ _ _ h => h) (Or.inl ⟨rfl, ?hp13⟩) ?rp13
          case hp13 => intro w' hw'; go_simp; (try with_reducible rfl)
          (try simp only [Act.put, List.setIfInBounds_toArray, List.set_cons_zero, List.set_cons_succ])
          refine Draws.take 25 (v := ?vp14) HS.out rfl (by kernel_rfl) (fun _ _ _ h => h) (Or.inl ⟨rfl, ?hp14⟩) ?rp14
          case hp14 => intro w' hw'; go_simp; (try with_reducible rfl)
          (try simp only [Act.put, List.setIfInBounds_toArray, List.set_cons_zero, List.set_cons_succ])
          refine Draws.take 26 (v := ?vp15) HS.out rfl (by kernel_rfl) (fun _ _ _ h => h) (Or.inl ⟨rfl, ?hp15⟩) ?rp15
          case hp15 => intro w' hw'; go_simp; (try with_reducible rfl)
          (try simp only [Act.put, List.setIfInBounds_toArray, List.set_cons_zero, List.set_cons_succ])
          refine Draws.take 27 HS.out rfl (by kernel_rfl) (fun _ _ _ h => h) (yield_t rfl (fun _ h => (h.celAt 0 rfl).cell rfl) _ rfl rfl rfl) ?_
          (try simp only [Act.put, List.setIfInBounds_toArray, List.set_cons_zero, List.set_cons_succ])
          refine Draws.take 28 (v := ?vp16) HS.out rfl (by kernel_rfl) (fun _ _ _ h => h) (Or.inl ⟨rfl, ?hp16⟩) ?rp16
          case hp16 => intro w' hw'; go_simp; (try with_reducible rfl)
          (try simp only [Act.put, List.setIfInBounds_toArray, List.set_cons_zero, List.set_cons_succ])
          refine Draws.take 29 HS.out rfl (by kernel_rfl) (fun _ _ _ h => h) (yield_gtr HGT.out _ _ _ rfl rfl rfl rfl) ?_
          (try simp only [Act.put, List.setIfInBounds_toArray, List.set_cons_zero, List.set_cons_succ])
          refine Draws.take 30 (v := ?vp17) HS.out rfl (by kernel_rfl) (fun _ _ _ h => h) (Or.inl ⟨rfl, ?hp17⟩) ?rp17
          case hp17 => intro w' hw'; go_simp; (try with_reducible rfl)
          (try simp only [Act.put, List.setIfInBounds_toArray, List.set_cons_zero, List.set_cons_succ])
          refine Draws.take 31 (v := ?vp18) HS.out rfl (by kernel_rfl) (fun _ _ _ h => h) (Or.inl ⟨rfl, ?hp18⟩) ?rp18
          case hp18 => intro w' hw'; go_simp; (try with_reducible rfl)
          (try simp only [Act.put, List.setIfInBounds_toArray, List.set_cons_zero, List.set_cons_succ])
          refine Draws.take 32 (v := ?vp19) HS.out rfl (by kernel_rfl) (fun _ _ _ h => h) (Or.inl ⟨rfl, ?hp19⟩) ?rp19
          case hp19 => intro w' hw'; go_simp; (try with_reducible rfl)
          (try simp only [Act.put, List.setIfInBounds_toArray, List.set_cons_zero, List.set_cons_succ])
          refine Draws.take 33 (v := ?vp20) HS.out rfl (by kernel_rfl) (fun _ _ _ h => h) (Or.inl ⟨rfl, ?hp20⟩) ?rp20
          case hp20 => intro w' hw'; go_simp; (try with_reducible rfl)
          (try simp only [Act.put, List.setIfInBounds_toArray, List.set_cons_zero, List.set_cons_succ])
          refine Draws.take 34 (v := ?vp21) HS.out rfl (by kernel_rfl) (fun _ _ _ h => h) (Or.inl ⟨rfl, ?hp21⟩) ?rp21
          case hp21 => intro w' hw'; go_simp; (try with_reducible rfl)
          (try simp only [Act.put, List.setIfInBounds_toArray, List.set_cons_zero, List.set_cons_succ])
          refine Draws.take 35 HS.out rfl (by kernel_rfl) (fun _ _ _ h => h) (Or.inr ⟨rfl, rfl⟩) ?_
          (try simp only [Act.put, List.setIfInBounds_toArray, List.set_cons_zero, List.set_cons_succ])
          refine Draws.take 36 HS.out rfl (by kernel_rfl) (fun _ _ _ h => h) (Or.inr ⟨rfl, rfl⟩) ?_
          (try simp only [Act.put, List.setIfInBounds_toArray, List.set_cons_zero, List.set_cons_succ])
          refine Draws.take 37 HS.out rfl (by kernel_rfl) (fun _ _ _ h => h) (Or.inr ⟨rfl, rfl⟩) ?_
          (try simp only [Act.put, List.setIfInBounds_toArray, List.set_cons_zero, List.set_cons_succ])
          refine Draws.take 38 HS.out rfl (by kernel_rfl) (fun _ _ _ h => h) (Or.inr ⟨rfl, rfl⟩) ?_
          (try simp only [Act.put, List.setIfInBounds_toArray, List.set_cons_zero, List.set_cons_succ])
          refine Draws.take 39 HS.out rfl (by kernel_rfl) (fun _ _ _ h => h) (Or.inr ⟨rfl, rfl⟩) ?_
          (try simp only [Act.put, List.setIfInBounds_toArray, List.set_cons_zero, List.set_cons_succ])
          refine Draws.take 40 HS.out rfl (by kernel_rfl) (fun _ _ _ h => h) (Or.inr ⟨rfl, rfl⟩) ?_
          (try simp only [Act.put, List.setIfInBounds_toArray, List.set_cons_zero, List.set_cons_succ])
          refine Draws.take 41 HS.out rfl (by kernel_rfl) (fun _ _ _ h => h) (Or.inr ⟨rfl, rfl⟩) ?_
          (try simp only [Act.put, List.setIfInBounds_toArray, List.set_cons_zero, List.set_cons_succ])
          refine Draws.take 42 HS.out rfl (by kernel_rfl) (fun _ _ _ h => h) (Or.inr ⟨rfl, rfl⟩) ?_
          (try simp only [Act.put, List.setIfInBounds_toArray, List.set_cons_zero, List.set_cons_succ])
          refine Draws.take 43 HS.out rfl (by kernel_rfl) (fun _ _ _ h => h) (Or.inr ⟨rfl, rfl⟩) ?_
          (try simp only [Act.put, List.setIfInBounds_toArray, List.set_cons_zero, List.set_cons_succ])
          refine Draws.take 44 HS.out rfl (by kernel_rfl) (fun _ _ _ h => h) (Or.inr ⟨rfl, rfl⟩) ?_
          (try simp only [Act.put, List.setIfInBounds_toArray, List.set_cons_zero, List.set_cons_succ])
          refine Draws.take 45 HS.out rfl (by kernel_rfl) (fun _ _ _ h => h) (Or.inr ⟨rfl, rfl⟩) ?_
          (try simp only [Act.put, List.setIfInBounds_toArray, List.set_cons_zero, List.set_cons_succ])
          refine Draws.take 46 HS.out rfl (by kernel_rfl) (fun _ _ _ h => h) (Or.inr ⟨rfl, rfl⟩) ?_
          (try simp only [Act.put, List.setIfInBounds_toArray, List.set_cons_zero, List.set_cons_succ])
          refine Draws.take 47 (v := ?vp22) HS.out rfl (by kernel_rfl) (fun _ _ _ h => h) (Or.inl ⟨rfl, ?hp22⟩) ?rp22
          case hp22 => intro w' hw'; go_simp; (try with_reducible rfl)
          (try simp only [Act.put, List.setIfInBounds_toArray, List.set_cons_zero, List.set_cons_succ])
          refine Draws.take 48 (v := ?vp23) HS.out rfl (by kernel_rfl) (fun _ _ _ h => h) (Or.inl ⟨rfl, ?hp23⟩) ?rp23
          case hp23 => intro w' hw'; go_simp; (try with_reducible rfl)
          (try simp only [Act.put, List.setIfInBounds_toArray, List.set_cons_zero, List.set_cons_succ])
          refine Draws.done (by kernel_rfl) ?_
          have hk := HS.out
          clear HS HK
          have HK := Lib.hid hk; clear hk
          go_wp2_with (first
            | fail)
          go_roundw
          case rel => exact ⟨m + 1, rl, N, P, M, [], La, A, n, c, v, vd, by omega, by go_num, rfl, ⟨HK.out.sub (fun x hx => by obtain rfl := List.mem_singleton.1 hx; simp), HTX.out, HTA.out, HFP.out, HPN.out, H3.out, HM.out, HNZ.out, HNC.out, HML.out⟩⟩
          case measure => simp [intOf]; omega
        · obtain ⟨k, hkn⟩ : ∃ k, n = k + 1 := ⟨n - 1, by omega⟩
          have HKK := Lib.hid hkn
          have HKX := Lib.hid (show k ≤ 1000000 by have := HNX.out; omega)
          obtain ⟨A2, c2, hxl⟩ := txt_get HTX.out (show k < M.length by rw [HML.out]; omega)
          obtain ⟨b3, off3, B3, d3, rfl, hx3, q3, o3⟩ := (HK.out.ll 0 rfl).one (show k < n by omega)
          rw [HTA.out] at hx3
          have hT3 := H3.out (M.getD k []) (by rw [List.getD_eq_getElem?_getD, List.getElem?_eq_getElem (by rw [HML.out]; omega)]; exact List.getElem_mem (by rw [HML.out]; omega))
          clear q3 o3
          generalize M.getD k [] = T at *
          have HXL := Lib.hid hxl; have HX3 := Lib.hid hx3
          have HT1 := Lib.hid (show T.length ≤ 1000000 by omega)
          have HGT := Lib.hid (show decide ((0 : Int) < (n : Int)) = true by simp; omega)
          have HN1 := Lib.hid (show IntKind.i64.wrap ((n : Int) - 1) = (k : Int) by have := HNX.out; rw [IntKind.wrap_i64]; omega)
          have ik1 : (0 : Int) ≤ (k : Int) := by omega
          have ik2 : (k : Int) < (n : Int) := by omega
          have hqt := str_refl T
          clear hkn hxl hx3 hT3 hn0
          go_wp2_with (first
            | (go_at_call 18; (with_reducible refine (last_any _ _ _ L k (HLN.out.trans HKK.out) HKX.out A2 c2 T HXL.out HT1.out _ (HK.out.lo 1 rfl)).mono ?_); rintro e u ⟨A6, c6, ⟨rfl, _⟩, hk⟩; have hk := HK.out.makes hk; clear HK; have HK := Lib.hid hk; clear hk))
          refine Draws.start (S := fun u' : World => Kg w (fun _ => False) [Th.cel b8 33 [.int .i64 z, .slice (some ⟨b3, off3, none⟩) n c], Th.lo rl r v L, Th.dk r z N vd P] [Th.bys A6 T, Th.ll (some ⟨b3, off3, none⟩) n La] u') (n := 49) 49 rfl (by kernel_rfl) ?_
          have HS := Lib.hid (show (fun u' : World => Kg w (fun _ => False) [Th.cel b8 33 [.int .i64 z, .slice (some ⟨b3, off3, none⟩) n c], Th.lo rl r v L, Th.dk r z N vd P] [Th.bys A6 T, Th.ll (some ⟨b3, off3, none⟩) n La] u') (World.drew _) from HK.out.drew)
          refine Draws.take 0 (v := ?vq24) HS.out rfl (by kernel_rfl) (fun _ _ _ h => h) (Or.inl ⟨rfl, ?hq24⟩) ?rq24
          case hq24 => intro w' hw'; go_simp; (try with_reducible rfl)
          (try simp only [Act.put, List.setIfInBounds_toArray, List.set_cons_zero, List.set_cons_succ])
          refine Draws.take 2 (v := ?vq25) HS.out rfl (by kernel_rfl) (fun _ _ _ h => h) (Or.inl ⟨rfl, ?hq25⟩) ?rq25
          case hq25 => intro w' hw'; go_simp; (try with_reducible rfl)
          (try simp only [Act.put, List.setIfInBounds_toArray, List.set_cons_zero, List.set_cons_succ])
          refine Draws.take 3 HS.out rfl (by kernel_rfl) (fun _ _ _ h => h) (yield_t rfl (fun _ h => (h.celAt 0 rfl).cell rfl) _ rfl rfl rfl) ?_
          (try simp only [Act.put, List.setIfInBounds_toArray, List.set_cons_zero, List.set_cons_succ])
          refine Draws.does 1 rfl (by kernel_rfl) rfl (fun K' hK => ?_)
          go_simp
          go_at_call 20
          refine (all_any _ _ _ L n HLN.out HNM0.out HXM.out _ (HS.out.lo 1 rfl)).mono ?_
          rintro e u ⟨A7, c7, M7, ⟨rfl, _⟩, htm, hkl⟩
          (try dsimp only)
          have HTM := Lib.hid htm
          clear htm
          refine hK.out _ _ (fun _ => HS.out.call hkl.bel) ?_
          refine Draws.more (S' := fun u' : World => Kg w (fun _ => False) [Th.cel b8 33 [.int .i64 z, .slice (some ⟨b3, off3, none⟩) n c], Th.lo rl r v L, Th.dk r z N vd P] [Th.ll A7 n M7, Th.bys A6 T, Th.ll (some ⟨b3, off3, none⟩) n La] u') (fun _ h => h.sub (fun _ hr => List.mem_cons_of_mem _ hr)) _ _ _ _ ?_
          have hs : (fun u' : World => Kg w (fun _ => False) [Th.cel b8 33 [.int .i64 z, .slice (some ⟨b3, off3, none⟩) n c], Th.lo rl r v L, Th.dk r z N vd P] [Th.ll A7 n M7, Th.bys A6 T, Th.ll (some ⟨b3, off3, none⟩) n La] u') u := HS.out.lists hkl
          clear HS
          have HS := Lib.hid hs; clear hs
          clear hkl
          clear hK K'
          (try simp only [Act.put, List.setIfInBounds_toArray, List.set_cons_zero, List.set_cons_succ])
          refine Draws.does 4 rfl (by kernel_rfl) rfl (fun K' hK => ?_)
          have HSAME := Lib.hid (show txt M7 = txt La by rw [HTM.out, HTX.out, HTA.out])
          go_simp
          go_at_call 19
          refine (same_yes A7 (some ⟨b3, off3, none⟩) n c7 c M7 La HSAME.out HNM0.out _ (HS.out.ll 0 rfl) (HS.out.ll 2 rfl)).mono ?_
          rintro e u ⟨rfl, hb⟩
          (try dsimp only)
          refine hK.out _ _ (fun _ => HS.out.call hb) ?_
          have hs := HS.out.call hb
          clear HS hb
          have HS := Lib.hid hs; clear hs
          clear hK K'
          (try simp only [Act.put, List.setIfInBounds_toArray, List.set_cons_zero, List.set_cons_succ])
          refine Draws.take 5 (v := ?vq26) HS.out rfl (by kernel_rfl) (fun _ _ _ h => h) (Or.inl ⟨rfl, ?hq26⟩) ?rq26
          case hq26 => intro w' hw'; go_simp; (try with_reducible rfl)
          (try simp only [Act.put, List.setIfInBounds_toArray, List.set_cons_zero, List.set_cons_succ])
          refine Draws.take 6 (v := ?vq27) HS.out rfl (by kernel_rfl) (fun _ _ _ h => h) (Or.inl ⟨rfl, ?hq27⟩) ?rq27
          case hq27 => intro w' hw'; go_simp; (try with_reducible rfl)
          (try simp only [Act.put, List.setIfInBounds_toArray, List.set_cons_zero, List.set_cons_succ])
          refine Draws.take 7 (v := ?vq28) HS.out rfl (by kernel_rfl) (fun _ _ _ h => h) (Or.inl ⟨rfl, ?hq28⟩) ?rq28
          case hq28 => intro w' hw'; go_simp; (try with_reducible rfl)
          (try simp only [Act.put, List.setIfInBounds_toArray, List.set_cons_zero, List.set_cons_succ])
          refine Draws.take 9 (v := ?vq29) HS.out rfl (by kernel_rfl) (fun _ _ _ h => h) (Or.inl ⟨rfl, ?hq29⟩) ?rq29
          case hq29 => intro w' hw'; go_simp; (try with_reducible rfl)
          (try simp only [Act.put, List.setIfInBounds_toArray, List.set_cons_zero, List.set_cons_succ])
          refine Draws.take 10 HS.out rfl (by kernel_rfl) (fun _ _ _ h => h) (yield_t rfl (fun _ h => (h.celAt 0 rfl).cell rfl) _ rfl rfl rfl) ?_
          (try simp only [Act.put, List.setIfInBounds_toArray, List.set_cons_zero, List.set_cons_succ])
          refine Draws.take 11 (v := ?vq30) HS.out rfl (by kernel_rfl) (fun _ _ _ h => h) (Or.inl ⟨rfl, ?hq30⟩) ?rq30
          case hq30 => intro w' hw'; go_simp; (try with_reducible rfl)
          (try simp only [Act.put, List.setIfInBounds_toArray, List.set_cons_zero, List.set_cons_succ])
          refine Draws.does 8 rfl (by kernel_rfl) rfl (fun K' hK => ?_)
          go_simp
          go_at_call 21
          refine (len_any _ _ _ L n HLN.out _ (HS.out.lo 1 rfl)).mono ?_
          rintro e u ⟨rfl, rfl⟩
          (try dsimp only)
          refine hK.out _ _ (fun _ => HS.out) ?_
          clear hK K'
          (try simp only [Act.put, List.setIfInBounds_toArray, List.set_cons_zero, List.set_cons_succ])
          refine Draws.take 12 HS.out rfl (by kernel_rfl) (fun _ _ _ h => h) (yield_nei rfl _ _ _ rfl rfl rfl rfl) ?_
          (try simp only [Act.put, List.setIfInBounds_toArray, List.set_cons_zero, List.set_cons_succ])
          refine Draws.take 13 (v := ?vq31) HS.out rfl (by kernel_rfl) (fun _ _ _ h => h) (Or.inl ⟨rfl, ?hq31⟩) ?rq31
          case hq31 => intro w' hw'; go_simp; (try with_reducible rfl)
          (try simp only [Act.put, List.setIfInBounds_toArray, List.set_cons_zero, List.set_cons_succ])
          refine Draws.take 14 (v := ?vq32) HS.out rfl (by kernel_rfl) (fun _ _ _ h => h) (Or.inl ⟨rfl, ?hq32⟩) ?rq32
          case hq32 => intro w' hw'; go_simp; (try with_reducible rfl)
          (try simp only [Act.put, List.setIfInBounds_toArray, List.set_cons_zero, List.set_cons_succ])
          refine Draws.take 15 (v := ?vq33) HS.out rfl (by kernel_rfl) (fun _ _ _ h => h) (Or.inl ⟨rfl, ?hq33⟩) ?rq33
          case hq33 => intro w' hw'; go_simp; (try with_reducible rfl)
          (try simp only [Act.put, List.setIfInBounds_toArray, List.set_cons_zero, List.set_cons_succ])
          refine Draws.take 18 (v := ?vq34) HS.out rfl (by kernel_rfl) (fun _ _ _ h => h) (Or.inl ⟨rfl, ?hq34⟩) ?rq34
          case hq34 => intro w' hw'; go_simp; (try with_reducible rfl)
          (try simp only [Act.put, List.setIfInBounds_toArray, List.set_cons_zero, List.set_cons_succ])
          refine Draws.take 19 HS.out rfl (by kernel_rfl) (fun _ _ _ h => h) (yield_t rfl (fun _ h => (h.celAt 0 rfl).cell rfl) _ rfl rfl rfl) ?_
          (try simp only [Act.put, List.setIfInBounds_toArray, List.set_cons_zero, List.set_cons_succ])
          refine Draws.does 16 rfl (by kernel_rfl) rfl (fun K' hK => ?_)
          go_simp
          go_at_call 22
          refine (bytes_n _ _ _ _ P N HPN.out HNM.out _ (HS.out.dk 2 rfl)).mono ?_
          rintro e u ⟨A8, c8, ⟨rfl, _⟩, hk⟩
          (try dsimp only)
          refine hK.out _ _ (fun _ => HS.out.call hk.bel) ?_
          refine Draws.more (S' := fun u' : World => Kg w (fun _ => False) [Th.cel b8 33 [.int .i64 z, .slice (some ⟨b3, off3, none⟩) n c], Th.lo rl r v L, Th.dk r z N vd P] [Th.bys A8 P, Th.ll A7 n M7, Th.bys A6 T, Th.ll (some ⟨b3, off3, none⟩) n La] u') (fun _ h => h.sub (fun _ hr => List.mem_cons_of_mem _ hr)) _ _ _ _ ?_
          have hs : (fun u' : World => Kg w (fun _ => False) [Th.cel b8 33 [.int .i64 z, .slice (some ⟨b3, off3, none⟩) n c], Th.lo rl r v L, Th.dk r z N vd P] [Th.bys A8 P, Th.ll A7 n M7, Th.bys A6 T, Th.ll (some ⟨b3, off3, none⟩) n La] u') u := HS.out.makes hk
          clear HS
          have HS := Lib.hid hs; clear hs
          clear hk
          clear hK K'
          (try simp only [Act.put, List.setIfInBounds_toArray, List.set_cons_zero, List.set_cons_succ])
          refine Draws.take 17 HS.out rfl (by kernel_rfl) (fun _ _ _ h => h) (yield_str (fun _ h => h.bys 0 rfl) HPN.out _ rfl rfl rfl) ?_
          (try simp only [Act.put, List.setIfInBounds_toArray, List.set_cons_zero, List.set_cons_succ])
          refine Draws.does 20 rfl (by kernel_rfl) rfl (fun K' hK => ?_)
          go_simp
          go_at_call 23
          refine (rbytes_n (some ⟨b3, off3, none⟩) n c La M HTA.out N HFN.out H32.out HNB.out _ (HS.out.ll 3 rfl)).mono ?_
          rintro e u ⟨A9, c9, ⟨rfl, _⟩, hk⟩
          (try dsimp only)
          rw [HFP.out] at hk
          refine hK.out _ _ (fun _ => HS.out.call hk.bel) ?_
          refine Draws.more (S' := fun u' : World => Kg w (fun _ => False) [Th.cel b8 33 [.int .i64 z, .slice (some ⟨b3, off3, none⟩) n c], Th.lo rl r v L, Th.dk r z N vd P] [Th.bys A9 P, Th.bys A8 P, Th.ll A7 n M7, Th.bys A6 T, Th.ll (some ⟨b3, off3, none⟩) n La] u') (fun _ h => h.sub (fun _ hr => List.mem_cons_of_mem _ hr)) _ _ _ _ ?_
          have hs : (fun u' : World => Kg w (fun _ => False) [Th.cel b8 33 [.int .i64 z, .slice (some ⟨b3, off3, none⟩) n c], Th.lo rl r v L, Th.dk r z N vd P] [Th.bys A9 P, Th.bys A8 P, Th.ll A7 n M7, Th.bys A6 T, Th.ll (some ⟨b3, off3, none⟩) n La] u') u := HS.out.makes hk
          clear HS
          have HS := Lib.hid hs; clear hs
          clear hk
          clear hK K'
          (try simp only [Act.put, List.setIfInBounds_toArray, List.set_cons_zero, List.set_cons_succ])
          refine Draws.take 21 HS.out rfl (by kernel_rfl) (fun _ _ _ h => h) (yield_str (fun _ h => h.bys 0 rfl) HPN.out _ rfl rfl rfl) ?_
          (try simp only [Act.put, List.setIfInBounds_toArray, List.set_cons_zero, List.set_cons_succ])
          refine Draws.take 22 HS.out rfl (by kernel_rfl) (fun _ _ _ h => h) (yield_nes hqp _ _ _ rfl rfl rfl rfl) ?_
          (try simp only [Act.put, List.setIfInBounds_toArray, List.set_cons_zero, List.set_cons_succ])
          refine Draws.take 23 (v := ?vq35) HS.out rfl (by kernel_rfl) (fun _ _ _ h => h) (Or.inl ⟨rfl, ?hq35⟩) ?rq35
          case hq35 => intro w' hw'; go_simp; (try with_reducible rfl)
          (try simp only [Act.put, List.setIfInBounds_toArray, List.set_cons_zero, List.set_cons_succ])
          refine Draws.take 24 (v := ?vq36) HS.out rfl (by kernel_rfl) (fun _ _ _ h => h) (Or.inl ⟨rfl, ?hq36⟩) ?rq36
          case hq36 => intro w' hw'; go_simp; (try with_reducible rfl)
          (try simp only [Act.put, List.setIfInBounds_toArray, List.set_cons_zero, List.set_cons_succ])
          refine Draws.take 25 (v := ?vq37) HS.out rfl (by kernel_rfl) (fun _ _ _ h => h) (Or.inl ⟨rfl, ?hq37⟩) ?rq37
          case hq37 => intro w' hw'; go_simp; (try with_reducible rfl)
          (try simp only [Act.put, List.setIfInBounds_toArray, List.set_cons_zero, List.set_cons_succ])
          refine Draws.take 26 (v := ?vq38) HS.out rfl (by kernel_rfl) (fun _ _ _ h => h) (Or.inl ⟨rfl, ?hq38⟩) ?rq38
          case hq38 => intro w' hw'; go_simp; (try with_reducible rfl)
          (try simp only [Act.put, List.setIfInBounds_toArray, List.set_cons_zero, List.set_cons_succ])
          refine Draws.take 27 HS.out rfl (by kernel_rfl) (fun _ _ _ h => h) (yield_t rfl (fun _ h => (h.celAt 0 rfl).cell rfl) _ rfl rfl rfl) ?_
          (try simp only [Act.put, List.setIfInBounds_toArray, List.set_cons_zero, List.set_cons_succ])
          refine Draws.take 28 (v := ?vq39) HS.out rfl (by kernel_rfl) (fun _ _ _ h => h) (Or.inl ⟨rfl, ?hq39⟩) ?rq39
          case hq39 => intro w' hw'; go_simp; (try with_reducible rfl)
          (try simp only [Act.put, List.setIfInBounds_toArray, List.set_cons_zero, List.set_cons_succ])
          refine Draws.take 29 HS.out rfl (by kernel_rfl) (fun _ _ _ h => h) (yield_gtr HGT.out _ _ _ rfl rfl rfl rfl) ?_
          (try simp only [Act.put, List.setIfInBounds_toArray, List.set_cons_zero, List.set_cons_succ])
          refine Draws.take 30 (v := ?vq40) HS.out rfl (by kernel_rfl) (fun _ _ _ h => h) (Or.inl ⟨rfl, ?hq40⟩) ?rq40
          case hq40 => intro w' hw'; go_simp; (try with_reducible rfl)
          (try simp only [Act.put, List.setIfInBounds_toArray, List.set_cons_zero, List.set_cons_succ])
          refine Draws.take 31 (v := ?vq41) HS.out rfl (by kernel_rfl) (fun _ _ _ h => h) (Or.inl ⟨rfl, ?hq41⟩) ?rq41
          case hq41 => intro w' hw'; go_simp; (try with_reducible rfl)
          (try simp only [Act.put, List.setIfInBounds_toArray, List.set_cons_zero, List.set_cons_succ])
          refine Draws.take 32 (v := ?vq42) HS.out rfl (by kernel_rfl) (fun _ _ _ h => h) (Or.inl ⟨rfl, ?hq42⟩) ?rq42
          case hq42 => intro w' hw'; go_simp; (try with_reducible rfl)
          (try simp only [Act.put, List.setIfInBounds_toArray, List.set_cons_zero, List.set_cons_succ])
          refine Draws.take 33 (v := ?vq43) HS.out rfl (by kernel_rfl) (fun _ _ _ h => h) (Or.inl ⟨rfl, ?hq43⟩) ?rq43
          case hq43 => intro w' hw'; go_simp; (try with_reducible rfl)
          (try simp only [Act.put, List.setIfInBounds_toArray, List.set_cons_zero, List.set_cons_succ])
          refine Draws.take 34 (v := ?vq44) HS.out rfl (by kernel_rfl) (fun _ _ _ h => h) (Or.inl ⟨rfl, ?hq44⟩) ?rq44
          case hq44 => intro w' hw'; go_simp; (try with_reducible rfl)
          (try simp only [Act.put, List.setIfInBounds_toArray, List.set_cons_zero, List.set_cons_succ])
          refine Draws.take 35 (v := ?vq45) HS.out rfl (by kernel_rfl) (fun _ _ _ h => h) (Or.inl ⟨rfl, ?hq45⟩) ?rq45
          case hq45 => intro w' hw'; go_simp; (try with_reducible rfl)
          (try simp only [Act.put, List.setIfInBounds_toArray, List.set_cons_zero, List.set_cons_succ])
          refine Draws.take 36 HS.out rfl (by kernel_rfl) (fun _ _ _ h => h) (yield_str (fun _ h => h.bys 3 rfl) rfl _ rfl rfl rfl) ?_
          (try simp only [Act.put, List.setIfInBounds_toArray, List.set_cons_zero, List.set_cons_succ])
          refine Draws.take 37 (v := ?vq46) HS.out rfl (by kernel_rfl) (fun _ _ _ h => h) (Or.inl ⟨rfl, ?hq46⟩) ?rq46
          case hq46 => intro w' hw'; go_simp; (try with_reducible rfl)
          (try simp only [Act.put, List.setIfInBounds_toArray, List.set_cons_zero, List.set_cons_succ])
          refine Draws.take 38 HS.out rfl (by kernel_rfl) (fun _ _ _ h => h) (yield_t rfl (fun _ h => (h.celAt 0 rfl).cell rfl) _ rfl rfl rfl) ?_
          (try simp only [Act.put, List.setIfInBounds_toArray, List.set_cons_zero, List.set_cons_succ])
          refine Draws.take 39 (v := ?vq47) HS.out rfl (by kernel_rfl) (fun _ _ _ h => h) (Or.inl ⟨rfl, ?hq47⟩) ?rq47
          case hq47 => intro w' hw'; go_simp; (try with_reducible rfl)
          (try simp only [Act.put, List.setIfInBounds_toArray, List.set_cons_zero, List.set_cons_succ])
          refine Draws.take 40 HS.out rfl (by kernel_rfl) (fun _ _ _ h => h) (yield_t rfl (fun _ h => (h.celAt 0 rfl).cell rfl) _ rfl rfl rfl) ?_
          (try simp only [Act.put, List.setIfInBounds_toArray, List.set_cons_zero, List.set_cons_succ])
          refine Draws.take 41 (v := ?vq48) HS.out rfl (by kernel_rfl) (fun _ _ _ h => h) (Or.inl ⟨rfl, ?hq48⟩) ?rq48
          case hq48 => intro w' hw'; go_simp; (try with_reducible rfl)
          (try simp only [Act.put, List.setIfInBounds_toArray, List.set_cons_zero, List.set_cons_succ])
          refine Draws.take 42 HS.out rfl (by kernel_rfl) (fun _ _ _ h => h) (yield_sub HN1.out _ _ _ rfl rfl rfl rfl) ?_
          (try simp only [Act.put, List.setIfInBounds_toArray, List.set_cons_zero, List.set_cons_succ])
          refine Draws.take 43 (v := ?vq49) HS.out rfl (by kernel_rfl) (fun _ _ _ h => h) (Or.inl ⟨rfl, ?hq49⟩) ?rq49
          case hq49 => intro w' hw'; go_simp; (try with_reducible rfl)
          (try simp only [Act.put, List.setIfInBounds_toArray, List.set_cons_zero, List.set_cons_succ])
          refine Draws.take 44 HS.out rfl (by kernel_rfl) (fun _ _ _ h => h) (yield_t rfl (fun _ h => ((h.ll 4 rfl).at HX3.out).1) _ rfl rfl rfl) ?_
          (try simp only [Act.put, List.setIfInBounds_toArray, List.set_cons_zero, List.set_cons_succ])
          refine Draws.take 45 HS.out rfl (by kernel_rfl) (fun _ _ _ h => h) (yield_str (fun _ h => ((h.ll 4 rfl).at HX3.out).2) rfl _ rfl rfl rfl) ?_
          (try simp only [Act.put, List.setIfInBounds_toArray, List.set_cons_zero, List.set_cons_succ])
          refine Draws.take 46 HS.out rfl (by kernel_rfl) (fun _ _ _ h => h) (yield_nes hqt _ _ _ rfl rfl rfl rfl) ?_
          (try simp only [Act.put, List.setIfInBounds_toArray, List.set_cons_zero, List.set_cons_succ])
          refine Draws.take 47 (v := ?vq50) HS.out rfl (by kernel_rfl) (fun _ _ _ h => h) (Or.inl ⟨rfl, ?hq50⟩) ?rq50
          case hq50 => intro w' hw'; go_simp; (try with_reducible rfl)
          (try simp only [Act.put, List.setIfInBounds_toArray, List.set_cons_zero, List.set_cons_succ])
          refine Draws.take 48 (v := ?vq51) HS.out rfl (by kernel_rfl) (fun _ _ _ h => h) (Or.inl ⟨rfl, ?hq51⟩) ?rq51
          case hq51 => intro w' hw'; go_simp; (try with_reducible rfl)
          (try simp only [Act.put, List.setIfInBounds_toArray, List.set_cons_zero, List.set_cons_succ])
          refine Draws.done (by kernel_rfl) ?_
          have hk := HS.out
          clear HS HK
          have HK := Lib.hid hk; clear hk
          go_wp2_with (first
            | fail)
          go_roundw
          case rel => exact ⟨m + 1, rl, N, P, M, L, La, (some ⟨b3, off3, none⟩), n, c, v, vd, by omega, by go_num, rfl, ⟨HK.out.sub (fun x hx => by obtain rfl := List.mem_singleton.1 hx; simp), HTX.out, HTA.out, HFP.out, HPN.out, H3.out, HM.out, HNZ.out, HNC.out, HML.out⟩⟩
          case measure => simp [intOf]; omega
    · obtain rfl : m = n1 := by omega
      clear hlt hm
      go_wp2_with (first
        | (go_at_call 10; (with_reducible refine (awake_any _ (HW.out.below HK.out.mf.bel)).mono ?_); rintro e u ⟨rfl, hb⟩; have hk := HK.out.call hb; clear hb; clear HK; have HK := Lib.hid hk; clear hk))
      go_ret
      exact ⟨rfl, HK.out.mf.bel⟩

set_option maxRecDepth 100000 in
theorem lifted (os : Os) (started : os.Started) (H : Type) (enc : TypeId × Value → H) :
    ReturnsInHanded {} Tryd.checked os 3 .any (fun w args => (Rows.wlogPlaysSpec.pre enc Tryd.prog Tryd.f3 [] false w args ∧ laidMetH Tryd.prog laid w) ∧ sizedMet enc Tryd.prog Tryd.f3 (OpenSpec.ofChange Rows.wlogPlaysSpec) false w args)
      (Rows.wlogPlaysSpec.post enc Tryd.prog Tryd.f3 false true false false) := by
  refine returnsInHanded_of_change_and (C := Tryd.checked) (X := fun w _ => laidMetH Tryd.prog laid w) (fun _ _ _ hh h => h.of_heap hh) own started (by kernel_rfl) Tryd.func3
    (ChangeSpec.witness_shaped (enc := enc) (C := Tryd.checked) (os := os) (X := fun w _ => laidMetH Tryd.prog laid w) false (World.doorLaid Tryd.prog 400 os) #[.int .i64 0, .slice none 0 0] 12 rfl (World.shaped_of_RefB (by kernel_rfl) (by kernel_rfl)) (by kernel_rfl) (by kernel_rfl) (by kernel_rfl) (door_met os _)) ?_
  intro W base args ds gs before hval0 hW _ hsz0 hL _
  have hsz : (DataW.weightsEach Tryd.prog (Tryd.f3.params.toList ++ Rows.wlogPlaysSpec.plain.varTypes Tryd.prog) (ds ++ gs)).all (· ≤ reachBytes) = true := hsz0
  clear hsz0
  have hval : ∀ (j : Nat) t v, Tryd.f3.params[j]? = some t → args[j]? = some v → Value.okWide Tryd.prog W .any base t v := hval0
  have hW' := hW
  obtain ⟨p, q, hA0, hV, rfl, hfz, hnd⟩ := hW
  have hA : DataW.TrodAll enc Tryd.prog W 0 (fun _ => true) true Tryd.f3.params.toList args.toList ds p := hA0
  rw [Tryd.params3] at hA hval hsz
  obtain ⟨v0, vs0, d0, ds0, q0, r0, hargs, rfl, rfl, h0, t0⟩ := trodAll_cons hA
  obtain ⟨v1, vs1, d1, ds1, q1, r1, rfl, rfl, rfl, h1, t1⟩ := trodAll_cons t0
  obtain ⟨rfl, rfl, rfl⟩ := trodAll_nil t1
  obtain rfl : args = #[v0, v1] := by cases args; simp_all
  obtain ⟨rfl, rfl⟩ := trodVars_none hV
  have k0 := h0
  have lt0 : ∀ x ∈ q0, x.block < W.heap.size := by obtain ⟨m, hm⟩ := k0; exact DataW.trod_lt m _ _ _ hm
  obtain ⟨a0, rfl, rfl, rfl, w0⟩ := open_int Tryd.underlying3 (hval 0 3 v0 rfl rfl) h0
  have k1 := h1
  have lt1 : ∀ x ∈ q1, x.block < W.heap.size := by obtain ⟨m, hm⟩ := k1; exact DataW.trod_lt m _ _ _ hm
  obtain ⟨A1, n1, c1, L1, rfl, hd1, hr1⟩ := open_stepsR (hval 1 22 v1 rfl rfl) h1 hsz (jj := 1) rfl rfl
  have hw := nib_of_laid hL
  clear hA0 hval0
  refine (walk W hw a0 w0 A1 n1 c1 L1 hd1 hr1).mono fun e W' ⟨he, bel⟩ => ?_
  subst he
  exact ⟨_, rfl, _, _, _, [], _, [], hW', trodAll_mk1 (shut_bool Tryd.underlying4 _), (trodAll_cons_mk (Below.trod laidOut (by kernel_rfl) (of_decide_eq_true (by kernel_rfl)) k0 bel lt0) (trodAll_cons_mk (Below.trod laidOut (by kernel_rfl) (of_decide_eq_true (by kernel_rfl)) k1 bel lt1) trodAll_mk0)), rfl, bel.frame _, fun h => by cases h⟩

theorem over : Rows.wlogPlaysRow.holds Tryd.pinned (OpenSpec.ofChange Rows.wlogPlaysSpec) :=
  OpenClaim.holds_of_wide 3 Tryd.f3 rfl rfl rfl rfl rfl rfl rfl ⟨rfl, rfl, rfl, rfl, rfl⟩ rfl rfl rfl rfl rfl (by kernel_rfl) Tryd.func3 (by kernel_rfl)
    (of_decide_eq_true (by kernel_rfl)) (by unfold Func.isWrapper; first | (rw [if_pos (by decide +kernel)]; kernel_rfl) | (rw [if_neg (by decide +kernel)]; exact ⟨rfl, rfl⟩))
    (fun os started H enc _ => lifted os started H enc)

theorem card_holds : Claim7.holds Tryd.pinned (.plain (OpenSpec.ofChange Rows.wlogPlaysSpec)) Rows.wlogPlaysCard :=
  Claim7.holds_tied_plain_at .later [] [.data] true (true, "d3e7dd077b2e06c46c2b53d199e040de6fbe0416fbc1dc24a646ef2f7b35c331") false
    over (fun _ h => by cases h) (by kernel_rfl) (fun _ h => by cases h) wlogPlays_row_tie rfl ⟨rfl, rfl⟩ (by kernel_rfl) rfl
    (fun f fn hf hfn => by
      obtain rfl : f = 3 := Option.some.inj ((show Tryd.prog.funcNamed "usufruct/usufructlaw12.WlogPlays" = some 3 by kernel_rfl).symm.trans hf) |>.symm
      obtain rfl : fn = Tryd.f3 := (Option.some.inj (Tryd.func3.symm.trans hfn)).symm
      exact ⟨by kernel_rfl, fun j t ht => by
        rw [Tryd.params3] at ht
        have hm : t ∈ [3, 22] := by simpa using Array.mem_of_getElem? ht
        have hall : ([3, 22].all fun u => !Tryd.prog.wantsStandIn u) = true := by kernel_rfl
        exact (show Tryd.prog.wantsStandIn t = false by simpa using List.all_eq_true.1 hall t hm)⟩)
    (by kernel_rfl)
theorem proved : Rows.WlogPlaysCardSaid := card_holds
#print axioms proved
end Go.Proofs.YtnbhgnkkedainaaDoor.wlogPlays
