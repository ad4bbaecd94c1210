/- For every int, steps and four ints usufructlaw11.DiskMore returns true, and each argument reads as before. No condition. -/
import Derived.Test.YtglhjfcngpednaaDy
import Derived.WalkKit
import Derived.ProofKit
import Derived.OpenShut
import Derived.ShutString
import Derived.ChangeOld
import Derived.Below
namespace Go.Proofs.Ytglhjfcngpednaa.diskMore
open Go.ChangeShapes Go.WideShapes Go.ChangeAt Go.RowKit
set_option linter.unusedVariables false

theorem own : ownKnob Try.prog.godebug = none := by kernel_rfl
theorem laidOut : laidOutB Try.prog = true := by kernel_rfl

set_option maxRecDepth 100000 in
set_option maxHeartbeats 4000000 in
theorem walk (w : World) (a0 : Int) (w0 : (Lit.int .i64 a0).wf = true) (A1 : Option Addr) (n1 c1 : Nat) (L1 : List Sp) (hd1 : Steps w A1 n1 L1) (a2 : Int) (w2 : (Lit.int .i64 a2).wf = true) (a3 : Int) (w3 : (Lit.int .i64 a3).wf = true) (a4 : Int) (w4 : (Lit.int .i64 a4).wf = true) (a5 : Int) (w5 : (Lit.int .i64 a5).wf = true) :
    Calls Try.prog 7 #[.int .i64 a0, .slice A1 n1 c1, .int .i64 a2, .int .i64 a3, .int .i64 a4, .int .i64 a5] w fun e w' => e = .returned (.bool true) ∧ Below w.heap.size w w' := by
  have HK := Lib.hid (Kf.start w)
  by_cases hs0 : a0 < 0 ∨ 16384 < a0
  · have HS0 := Lib.hid hs0
    have j1 : (decide (a0 < 0) || decide (16384 < a0)) = true := by simpa using hs0
    clear hs0
    go_enter Try.func7, Try.ntmps7
    go_wp2_with (first
      | (go_at_call 9; (with_reducible refine (new_none a0 HS0.out _).mono ?_); rintro e u ⟨rfl, rfl⟩)
      | (go_at_call 11; (with_reducible refine (awake_any _).mono ?_); rintro e u ⟨rfl, hb⟩; have hk := HK.out.call hb; clear hb; clear HK; have HK := Lib.hid hk; clear hk))
    go_ret
    exact ⟨rfl, HK.out.mf.bel⟩
  obtain ⟨s, rfl⟩ : ∃ s : Nat, a0 = (s : Int) := ⟨a0.toNat, by omega⟩
  have hs1 : s ≤ 16384 := by omega
  obtain ⟨z, hz⟩ : ∃ z : Nat, z = 64 * s := ⟨_, rfl⟩
  have hN := new_any s hs1
  rw [← hz] at hN
  have HNEW := Lib.hid hN
  have hwz : IntKind.i64.wrap (64 * (s : Int)) = (z : Int) := by rw [IntKind.wrap_i64]; omega
  have HZ := Lib.hid (show z ≤ 1048576 by omega)
  have HZS := Lib.hid hz
  clear hN hz hs0 hs1 w0
  have HST := Lib.hid hd1
  clear hd1
  by_cases hp : ¬ (n1 ≤ 30 ∧ ∀ s ∈ L1, s.b.length ≤ 400)
  · have HP := Lib.hid hp
    clear hp
    go_enter Try.func7, Try.ntmps7
    have T1 := True.intro
    have T2 := True.intro
    have T3 := True.intro
    go_wp2_with (first
      | (go_at_call 9; clear T1; (with_reducible refine (HNEW.out _).mono ?_); rintro e u ⟨r1, rfl, hr, hd, hb⟩; have hk := HK.out.newDisk hb hr hd; clear hr hd hb; clear HK; have HK := Lib.hid hk; clear hk)
      | (go_at_call 9; clear T2; (with_reducible refine (HNEW.out _).mono ?_); rintro e u ⟨r2, rfl, hr, hd, hb⟩; have hk := HK.out.newDisk hb hr hd; clear hr hd hb; clear HK; have HK := Lib.hid hk; clear hk)
      | (go_at_call 9; clear T3; (with_reducible refine (HNEW.out _).mono ?_); rintro e u ⟨r3, rfl, hr, hd, hb⟩; have hk := HK.out.newDisk hb hr hd; clear hr hd hb; clear HK; have HK := Lib.hid hk; clear hk)
      | (go_at_call 10; (with_reducible refine (few_no _ _ _ _ _ (HST.out.below HK.out.mf.bel) HP.out).mono ?_); rintro e u ⟨rfl, hb⟩; have hk := HK.out.call hb; clear hb; clear HK; have HK := Lib.hid hk; clear hk)
      | (go_at_call 11; (with_reducible refine (awake_any _).mono ?_); rintro e u ⟨rfl, hb⟩; have hk := HK.out.call hb; clear hb; clear HK; have HK := Lib.hid hk; clear hk))
    go_ret
    exact ⟨rfl, HK.out.mf.bel⟩
  have HP := Lib.hid (Classical.not_not.1 hp)
  clear hp
  by_cases h4 : a3 < a2
  · have i4 : decide (a3 < a2) = true := by simp; omega
    have T1 := True.intro
    have T2 := True.intro
    have T3 := True.intro
    go_enter Try.func7, Try.ntmps7
    go_wp2_with (first
      | (go_at_call 9; clear T1; (with_reducible refine (HNEW.out _).mono ?_); rintro e u ⟨r1, rfl, hr, hd, hb⟩; have hk := HK.out.newDisk hb hr hd; clear hr hd hb; clear HK; have HK := Lib.hid hk; clear hk)
      | (go_at_call 9; clear T2; (with_reducible refine (HNEW.out _).mono ?_); rintro e u ⟨r2, rfl, hr, hd, hb⟩; have hk := HK.out.newDisk hb hr hd; clear hr hd hb; clear HK; have HK := Lib.hid hk; clear hk)
      | (go_at_call 9; clear T3; (with_reducible refine (HNEW.out _).mono ?_); rintro e u ⟨r3, rfl, hr, hd, hb⟩; have hk := HK.out.newDisk hb hr hd; clear hr hd hb; clear HK; have HK := Lib.hid hk; clear hk)
      | (go_at_call 10; (with_reducible refine (few_yes _ _ _ _ _ (HST.out.below HK.out.mf.bel) HP.out).mono ?_); rintro e u ⟨rfl, hb⟩; have hk := HK.out.call hb; clear hb; clear HK; have HK := Lib.hid hk; clear hk)
      | (go_at_call 11; (with_reducible refine (awake_any _).mono ?_); rintro e u ⟨rfl, hb⟩; have hk := HK.out.call hb; clear hb; clear HK; have HK := Lib.hid hk; clear hk))
    go_ret
    exact ⟨rfl, HK.out.mf.bel⟩
  have i4 : decide (a3 < a2) = false := by simp; omega
  by_cases h5 : a5 < a4
  · have i5 : decide (a5 < a4) = true := by simp; omega
    have T1 := True.intro
    have T2 := True.intro
    have T3 := True.intro
    go_enter Try.func7, Try.ntmps7
    go_wp2_with (first
      | (go_at_call 9; clear T1; (with_reducible refine (HNEW.out _).mono ?_); rintro e u ⟨r1, rfl, hr, hd, hb⟩; have hk := HK.out.newDisk hb hr hd; clear hr hd hb; clear HK; have HK := Lib.hid hk; clear hk)
      | (go_at_call 9; clear T2; (with_reducible refine (HNEW.out _).mono ?_); rintro e u ⟨r2, rfl, hr, hd, hb⟩; have hk := HK.out.newDisk hb hr hd; clear hr hd hb; clear HK; have HK := Lib.hid hk; clear hk)
      | (go_at_call 9; clear T3; (with_reducible refine (HNEW.out _).mono ?_); rintro e u ⟨r3, rfl, hr, hd, hb⟩; have hk := HK.out.newDisk hb hr hd; clear hr hd hb; clear HK; have HK := Lib.hid hk; clear hk)
      | (go_at_call 10; (with_reducible refine (few_yes _ _ _ _ _ (HST.out.below HK.out.mf.bel) HP.out).mono ?_); rintro e u ⟨rfl, hb⟩; have hk := HK.out.call hb; clear hb; clear HK; have HK := Lib.hid hk; clear hk)
      | (go_at_call 11; (with_reducible refine (awake_any _).mono ?_); rintro e u ⟨rfl, hb⟩; have hk := HK.out.call hb; clear hb; clear HK; have HK := Lib.hid hk; clear hk))
    go_ret
    exact ⟨rfl, HK.out.mf.bel⟩
  have i5 : decide (a5 < a4) = false := by simp; omega
  have hb1 := r_build1 z
  have T1 := True.intro
  have T2 := True.intro
  have T3 := True.intro
  go_enter Try.func7, Try.ntmps7
  go_wp2_with (first
    | (go_at_call 9; clear T1; (with_reducible refine (HNEW.out _).mono ?_); rintro e u ⟨r1, rfl, hr, hd, hb⟩; have hk := HK.out.newDisk hb hr hd; clear hr hd hb; clear HK; have HK := Lib.hid hk; clear hk)
    | (go_at_call 9; clear T2; (with_reducible refine (HNEW.out _).mono ?_); rintro e u ⟨r2, rfl, hr, hd, hb⟩; have hk := HK.out.newDisk hb hr hd; clear hr hd hb; clear HK; have HK := Lib.hid hk; clear hk)
    | (go_at_call 9; clear T3; (with_reducible refine (HNEW.out _).mono ?_); rintro e u ⟨r3, rfl, hr, hd, hb⟩; have hk := HK.out.newDisk hb hr hd; clear hr hd hb; clear HK; have HK := Lib.hid hk; clear hk)
    | (go_at_call 10; (with_reducible refine (few_yes _ _ _ _ _ (HST.out.below HK.out.mf.bel) HP.out).mono ?_); rintro e u ⟨rfl, hb⟩; have hk := HK.out.call hb; clear hb; clear HK; have HK := Lib.hid hk; clear hk)
    | ((with_reducible refine alloc_k HK.out rfl r_zero rfl rfl rfl ?_); intro b16 u hk; clear HK; have HK := Lib.hid hk; clear hk)
    | ((with_reducible refine store_kr (xs := [.int .i64 z, .int .i64 0, .slice none 0 0]) HK.out 0 r_info rfl rfl _ _ rfl rfl rfl rfl (by simp) (by simp) (by simp [noU, isU]) (by simp [Value.oneCell']) ?_); intro u hk; simp only [List.set_cons_zero] at hk; clear HK; have HK := Lib.hid hk; clear hk))
  clear i4 i5
  have hk := HK.out.also (A := none) (m := []) (.inl rfl) (by simp)
  clear HK; have HK := Lib.hid hk; clear hk
  go_loopw [49] (fun i wr => ∃ (m f : Nat) (d : List UInt8) (v1 v2 v3 : Value), m ≤ n1 ∧ i = .int .i64 (m : Int) ∧ f ≤ d.length ∧ d.length ≤ z ∧ Kf w (fun _ => False) [(b16, 29, [.int .i64 z, .int .i64 0, .slice none 0 0])] [⟨some r3, z, f, v3, d⟩, ⟨some r2, z, f, v2, d⟩, ⟨some r1, z, f, v1, d⟩] [(none, [])] wr) (fun i _ => n1 - (intOf i).toNat)
  case atStart => exact ⟨0, 0, [], _, _, _, Nat.zero_le _, rfl, Nat.zero_le _, Nat.zero_le _, HK.out⟩
  case round =>
    obtain ⟨m, f, d, v1, v2, v3, hm, rfl, hf, hdz, hk⟩ := hrel
    clear HK
    have HK := Lib.hid hk
    have HFN := Lib.hid hf; have HDZ := Lib.hid hdz
    clear hk hf hdz
    by_cases hlt : m < n1
    · have hmx : n1 ≤ 9223372036854775807 := HST.out.2.1
      obtain ⟨b, off, s, hA, hs, hr, hsb, _⟩ := HST.out.one hlt
      have hsl := HP.out.2 s (List.mem_of_getElem? hs)
      subst hA
      have hrr := Below.rangeAt HK.out.mf.bel hr (cell_lt (hr 0 _ rfl))
      have HR := Lib.hid hrr
      have hk := HK.out.old hsb
      clear HK
      have HK := Lib.hid hk
      have HSL := Lib.hid hsl
      have i1 : (0 : Int) ≤ (m : Int) := by omega
      have i2 : (m : Int) < (n1 : Int) := by omega
      clear hs hr hrr hsl hk hsb
      have T4 := True.intro
      have T5 := True.intro
      have T6 := True.intro
      go_wp2_with (first
        | (with_reducible refine load_at Try.underlying31 rfl s_info HR.out (by simp [Sp.cells]) _ rfl rfl rfl ?_)
        | ((with_reducible refine alloc_k HK.out rfl s_zero rfl rfl rfl ?_); intro b18 u hk; clear HK; have HK := Lib.hid hk; clear hk)
        | ((with_reducible refine store_kr (xs := s.cells) HK.out 0 s_info rfl rfl _ _ rfl rfl rfl rfl (by simp) (by simp [Sp.cells]) (by simp [Sp.cells, noU, isU]) (by simp [Sp.cells, Value.oneCell']) ?_); intro u hk; simp only [List.set_cons_zero] at hk; clear HK; have HK := Lib.hid hk; clear hk)
        | (with_reducible refine load_kr HK.out 0 Try.underlying31 rfl s_info _ rfl rfl (by simp [Sp.cells]) rfl rfl ?_)
        | (with_reducible refine load_kr HK.out 1 Try.underlying29 rfl r_info _ rfl rfl rfl rfl rfl ?_)
        | (go_at_call 12; clear T4; (refine (does_any _ r1 z f 0 _ d none 0 0 [] s (HK.out.din 2 rfl 1 0 rfl rfl HZ.out HDZ.out HFN.out rfl (Nat.zero_le _) (Nat.le_refl _) (Nat.le_refl _) rfl (by have := HSL.out; omega))).mono ?_); rintro e u ⟨B', n', c', bo, w1, rfl, _, _, _, hd', hm', _, _⟩; have hk := HK.out.disk 2 rfl hm' hd'; simp only [List.set_cons_zero, List.set_cons_succ] at hk; clear hd' hm'; clear HK; have HK := Lib.hid hk; clear hk)
        | (go_at_call 12; clear T5; (refine (does_any _ r2 z f 0 _ d none 0 0 [] s (HK.out.din 1 rfl 1 0 rfl rfl HZ.out HDZ.out HFN.out rfl (Nat.zero_le _) (Nat.le_refl _) (Nat.le_refl _) rfl (by have := HSL.out; omega))).mono ?_); rintro e u ⟨B', n', c', bo, w2, rfl, _, _, _, hd', hm', _, _⟩; have hk := HK.out.disk 1 rfl hm' hd'; simp only [List.set_cons_zero, List.set_cons_succ] at hk; clear hd' hm'; clear HK; have HK := Lib.hid hk; clear hk)
        | (go_at_call 12; clear T6; (refine (does_any _ r3 z f 0 _ d none 0 0 [] s (HK.out.din 0 rfl 1 0 rfl rfl HZ.out HDZ.out HFN.out rfl (Nat.zero_le _) (Nat.le_refl _) (Nat.le_refl _) rfl (by have := HSL.out; omega))).mono ?_); rintro e u ⟨B', n', c', bo, w3, rfl, _, _, _, hd', hm', _, _⟩; have hk := HK.out.disk 0 rfl hm' hd'; simp only [List.set_cons_zero] at hk; clear hd' hm'; clear HK; have HK := Lib.hid hk; clear hk))
      have hin := step_inv (z := z) (f := f) (d := d) HFN.out HDZ.out s
      go_roundw
      case rel => exact ⟨m + 1, nF z f d s, nD z f d s, _, _, _, by omega, by go_num, hin.1, hin.2, HK.out.tail.look (by simp)⟩
      case measure => simp [intOf]; omega
    · obtain rfl : m = n1 := by omega
      clear hlt hm
      obtain ⟨N, hN⟩ : ∃ N, d.length = N := ⟨_, rfl⟩
      have HN := Lib.hid hN
      clear hN
      have HNM := Lib.hid (show N ≤ 1048576 by have := HN.out; have := HDZ.out; have := HZ.out; omega)
      have HFM := Lib.hid (show f ≤ N by have := HN.out; have := HFN.out; omega)
      have HLE := Lib.hid (show cr f N a2 a4 ≤ cr f N a3 a5 by unfold cr; omega)
      have HL1 := Lib.hid (show (d.take (cr f N a2 a4)).length = cr f N a2 a4 by have := cr_le f N a2 a4; have := HN.out; rw [List.length_take]; omega)
      have HL2 := Lib.hid (show (d.take (cr f N a3 a5)).length = cr f N a3 a5 by have := cr_le f N a3 a5; have := HN.out; rw [List.length_take]; omega)
      have HM1 := Lib.hid (cr_le f N a2 a4)
      have HM2 := Lib.hid (cr_le f N a3 a5)
      have HC1 := Lib.hid (show cr f N a2 a4 = cr f N a2 a4 from rfl)
      obtain ⟨K1, hK1⟩ : ∃ K1, K1 = cr f N a2 a4 := ⟨_, rfl⟩
      obtain ⟨K2, hK2⟩ : ∃ K2, K2 = cr f N a3 a5 := ⟨_, rfl⟩
      rw [← hK1] at HLE HL1 HM1
      rw [← hK2] at HLE HL2 HM2
      have HK1 := Lib.hid hK1; have HK2 := Lib.hid hK2
      clear hK1 hK2 HC1 h4 h5
      have T1 := True.intro
      have T7 := True.intro
      have T8 := True.intro
      have T9 := True.intro
      go_wp2_with (first
        | (go_at_call 13; clear T1; (refine (bytes_n r3 _ _ _ d N HN.out HNM.out _ (HK.out.dk 0 rfl)).mono ?_); rintro e u ⟨A19, c19, ⟨rfl, _⟩, hk⟩; have hk := HK.out.makes hk; clear HK; have HK := Lib.hid hk; clear hk)
        | (go_at_call 16; clear T7; (refine (crash_any r1 z f _ d a2 a4 (by have := HN.out; have := HFM.out; omega) (by have := HN.out; have := HNM.out; omega) _ (HK.out.dk 2 rfl)).mono ?_); rintro e u ⟨rfl, w1, hd, hm⟩; rw [HN.out, ← HK1.out] at hd; have hk := HK.out.disk 2 rfl hm hd; simp only [List.set_cons_zero, List.set_cons_succ] at hk; clear hd hm; clear HK; have HK := Lib.hid hk; clear hk)
        | (go_at_call 16; clear T8; (refine (crash_any r2 z f _ d a3 a5 (by have := HN.out; have := HFM.out; omega) (by have := HN.out; have := HNM.out; omega) _ (HK.out.dk 1 rfl)).mono ?_); rintro e u ⟨rfl, w2, hd, hm⟩; rw [HN.out, ← HK2.out] at hd; have hk := HK.out.disk 1 rfl hm hd; simp only [List.set_cons_zero, List.set_cons_succ] at hk; clear hd hm; clear HK; have HK := Lib.hid hk; clear hk)
        | (go_at_call 16; clear T9; (refine (crash_all r3 z f _ d N HN.out HFM.out HNM.out _ (HK.out.dk 0 rfl)).mono ?_); rintro e u ⟨rfl, w3, hd, hm⟩; have hk := HK.out.disk 0 rfl hm hd; simp only [List.set_cons_zero] at hk; clear hd hm; clear HK; have HK := Lib.hid hk; clear hk))
      refine Draws.start (S := fun u' : World => Kf w (fun _ => False) [(b16, 29, [.int .i64 z, .int .i64 0, .slice none 0 0])] [⟨some r3, z, N, w3, d⟩, ⟨some r2, z, K2, w2, d.take K2⟩, ⟨some r1, z, K1, w1, d.take K1⟩] [(A19, d), (none, [])] u') (n := 19) 19 rfl (by kernel_rfl) ?_
      have HS := Lib.hid (show (fun u' : World => Kf w (fun _ => False) [(b16, 29, [.int .i64 z, .int .i64 0, .slice none 0 0])] [⟨some r3, z, N, w3, d⟩, ⟨some r2, z, K2, w2, d.take K2⟩, ⟨some r1, z, K1, w1, d.take K1⟩] [(A19, d), (none, [])] u') (World.drew _) from HK.out.drew)
      refine Draws.take 0 (v := ?v1) HS.out rfl (by kernel_rfl) (fun _ _ _ h => h) (Or.inl ⟨rfl, ?h1⟩) ?r1
      case h1 => intro w' hw'; go_simp; (try with_reducible rfl)
      (try simp only [Act.put, List.setIfInBounds_toArray, List.set_cons_zero, List.set_cons_succ])
      refine Draws.take 3 (v := ?v2) HS.out rfl (by kernel_rfl) (fun _ _ _ h => h) (Or.inl ⟨rfl, ?h2⟩) ?r2
      case h2 => intro w' hw'; go_simp; (try with_reducible rfl)
      (try simp only [Act.put, List.setIfInBounds_toArray, List.set_cons_zero, List.set_cons_succ])
      refine Draws.does 1 rfl (by kernel_rfl) rfl (fun K' hK => ?_)
      go_simp
      go_at_call 13
      refine (bytes_n _ _ _ _ _ K1 HL1.out (by have := HNM.out; have := HM1.out; omega) _ (HS.out.dk 2 rfl)).mono ?_
      rintro e u ⟨A7, c7, ⟨rfl, _⟩, hk⟩
      (try dsimp only)
      refine hK.out _ _ (fun _ => HS.out.call hk.bel) ?_
      clear hK K'
      refine Draws.more (S' := fun u' : World => Kf w (fun _ => False) [(b16, 29, [.int .i64 z, .int .i64 0, .slice none 0 0])] [⟨some r3, z, N, w3, d⟩, ⟨some r2, z, K2, w2, d.take K2⟩, ⟨some r1, z, K1, w1, d.take K1⟩] ((A7, d.take K1) :: [(A19, d), (none, [])]) u') (fun _ h => h.look (fun _ hr => List.mem_cons_of_mem _ hr)) _ _ _ _ ?_
      have hs : Kf w (fun _ => False) [(b16, 29, [.int .i64 z, .int .i64 0, .slice none 0 0])] [⟨some r3, z, N, w3, d⟩, ⟨some r2, z, K2, w2, d.take K2⟩, ⟨some r1, z, K1, w1, d.take K1⟩] ((A7, d.take K1) :: [(A19, d), (none, [])]) u := HS.out.makes hk
      clear HS hk
      have HS := Lib.hid hs; clear hs
      (try simp only [Act.put, List.setIfInBounds_toArray, List.set_cons_zero, List.set_cons_succ])
      refine Draws.take 2 (v := ?v3) HS.out rfl (by kernel_rfl) (fun _ _ _ h => h) (Or.inl ⟨rfl, ?h3⟩) ?r3
      case h3 => intro w' hw'; go_simp; (try with_reducible rfl)
      (try simp only [Act.put, List.setIfInBounds_toArray, List.set_cons_zero, List.set_cons_succ])
      refine Draws.does 4 rfl (by kernel_rfl) rfl (fun K' hK => ?_)
      go_simp
      go_at_call 13
      refine (bytes_n _ _ _ _ _ K2 HL2.out (by have := HNM.out; have := HM2.out; omega) _ (HS.out.dk 1 rfl)).mono ?_
      rintro e u ⟨A8, c8, ⟨rfl, _⟩, hk⟩
      (try dsimp only)
      refine hK.out _ _ (fun _ => HS.out.call hk.bel) ?_
      clear hK K'
      refine Draws.more (S' := fun u' : World => Kf w (fun _ => False) [(b16, 29, [.int .i64 z, .int .i64 0, .slice none 0 0])] [⟨some r3, z, N, w3, d⟩, ⟨some r2, z, K2, w2, d.take K2⟩, ⟨some r1, z, K1, w1, d.take K1⟩] ((A8, d.take K2) :: ((A7, d.take K1) :: [(A19, d), (none, [])])) u') (fun _ h => h.look (fun _ hr => List.mem_cons_of_mem _ hr)) _ _ _ _ ?_
      have hs : Kf w (fun _ => False) [(b16, 29, [.int .i64 z, .int .i64 0, .slice none 0 0])] [⟨some r3, z, N, w3, d⟩, ⟨some r2, z, K2, w2, d.take K2⟩, ⟨some r1, z, K1, w1, d.take K1⟩] ((A8, d.take K2) :: ((A7, d.take K1) :: [(A19, d), (none, [])])) u := HS.out.makes hk
      clear HS hk
      have HS := Lib.hid hs; clear hs
      (try simp only [Act.put, List.setIfInBounds_toArray, List.set_cons_zero, List.set_cons_succ])
      refine Draws.take 5 (v := ?v4) HS.out rfl (by kernel_rfl) (fun _ _ _ h => h) (Or.inl ⟨rfl, ?h4⟩) ?r4
      case h4 => intro w' hw'; go_simp; (try with_reducible rfl)
      (try simp only [Act.put, List.setIfInBounds_toArray, List.set_cons_zero, List.set_cons_succ])
      refine Draws.take 6 HS.out rfl (by kernel_rfl) (fun _ _ _ h => h) (yield_leq (by have := HLE.out; omega) _ _ _ rfl rfl rfl rfl) ?_
      (try simp only [Act.put, List.setIfInBounds_toArray, List.set_cons_zero, List.set_cons_succ])
      refine Draws.take 7 (v := ?v5) HS.out rfl (by kernel_rfl) (fun _ _ _ h => h) (Or.inl ⟨rfl, ?h5⟩) ?r5
      case h5 => intro w' hw'; go_simp; (try with_reducible rfl)
      (try simp only [Act.put, List.setIfInBounds_toArray, List.set_cons_zero, List.set_cons_succ])
      refine Draws.take 8 (v := ?v6) HS.out rfl (by kernel_rfl) (fun _ _ _ h => h) (Or.inl ⟨rfl, ?h6⟩) ?r6
      case h6 => intro w' hw'; go_simp; (try with_reducible rfl)
      (try simp only [Act.put, List.setIfInBounds_toArray, List.set_cons_zero, List.set_cons_succ])
      refine Draws.take 11 (v := ?v7) HS.out rfl (by kernel_rfl) (fun _ _ _ h => h) (Or.inl ⟨rfl, ?h7⟩) ?r7
      case h7 => intro w' hw'; go_simp; (try with_reducible rfl)
      (try simp only [Act.put, List.setIfInBounds_toArray, List.set_cons_zero, List.set_cons_succ])
      refine Draws.take 12 HS.out rfl (by kernel_rfl) (fun _ _ _ h => h) (yield_str (fun _ h => h.rowAt 2 rfl) HN.out _ rfl rfl rfl) ?_
      (try simp only [Act.put, List.setIfInBounds_toArray, List.set_cons_zero, List.set_cons_succ])
      refine Draws.does 9 rfl (by kernel_rfl) rfl (fun K' hK => ?_)
      go_simp
      go_at_call 13
      refine (bytes_n _ _ _ _ _ N HN.out HNM.out _ (HS.out.dk 0 rfl)).mono ?_
      rintro e u ⟨A9, c9, ⟨rfl, _⟩, hk⟩
      (try dsimp only)
      refine hK.out _ _ (fun _ => HS.out.call hk.bel) ?_
      clear hK K'
      refine Draws.more (S' := fun u' : World => Kf w (fun _ => False) [(b16, 29, [.int .i64 z, .int .i64 0, .slice none 0 0])] [⟨some r3, z, N, w3, d⟩, ⟨some r2, z, K2, w2, d.take K2⟩, ⟨some r1, z, K1, w1, d.take K1⟩] ((A9, d) :: ((A8, d.take K2) :: ((A7, d.take K1) :: [(A19, d), (none, [])]))) u') (fun _ h => h.look (fun _ hr => List.mem_cons_of_mem _ hr)) _ _ _ _ ?_
      have hs : Kf w (fun _ => False) [(b16, 29, [.int .i64 z, .int .i64 0, .slice none 0 0])] [⟨some r3, z, N, w3, d⟩, ⟨some r2, z, K2, w2, d.take K2⟩, ⟨some r1, z, K1, w1, d.take K1⟩] ((A9, d) :: ((A8, d.take K2) :: ((A7, d.take K1) :: [(A19, d), (none, [])]))) u := HS.out.makes hk
      clear HS hk
      have HS := Lib.hid hs; clear hs
      (try simp only [Act.put, List.setIfInBounds_toArray, List.set_cons_zero, List.set_cons_succ])
      refine Draws.take 10 HS.out rfl (by kernel_rfl) (fun _ _ _ h => h) (yield_str (fun _ h => h.rowAt 0 rfl) HN.out _ rfl rfl rfl) ?_
      (try simp only [Act.put, List.setIfInBounds_toArray, List.set_cons_zero, List.set_cons_succ])
      refine Draws.take 13 HS.out rfl (by kernel_rfl) (fun _ _ _ h => h) (yield_eqs _ _ _ rfl rfl rfl rfl) ?_
      (try simp only [Act.put, List.setIfInBounds_toArray, List.set_cons_zero, List.set_cons_succ])
      refine Draws.take 14 (v := ?v8) HS.out rfl (by kernel_rfl) (fun _ _ _ h => h) (Or.inl ⟨rfl, ?h8⟩) ?r8
      case h8 => intro w' hw'; go_simp; (try with_reducible rfl)
      (try simp only [Act.put, List.setIfInBounds_toArray, List.set_cons_zero, List.set_cons_succ])
      refine Draws.take 15 (v := ?v9) HS.out rfl (by kernel_rfl) (fun _ _ _ h => h) (Or.inl ⟨rfl, ?h9⟩) ?r9
      case h9 => intro w' hw'; go_simp; (try with_reducible rfl)
      (try simp only [Act.put, List.setIfInBounds_toArray, List.set_cons_zero, List.set_cons_succ])
      refine Draws.does 16 rfl (by kernel_rfl) rfl (fun K' hK => ?_)
      go_simp
      go_at_call 11
      refine (awake_any _).mono ?_
      rintro e u ⟨rfl, hb⟩
      (try dsimp only)
      refine hK.out _ _ (fun _ => HS.out.call hb) ?_
      clear hK K'
      have hs := HS.out.call hb
      clear HS hb
      have HS := Lib.hid hs; clear hs
      (try simp only [Act.put, List.setIfInBounds_toArray, List.set_cons_zero, List.set_cons_succ])
      refine Draws.take 17 (v := ?v10) HS.out rfl (by kernel_rfl) (fun _ _ _ h => h) (Or.inl ⟨rfl, ?h10⟩) ?r10
      case h10 => intro w' hw'; go_simp; (try with_reducible rfl)
      (try simp only [Act.put, List.setIfInBounds_toArray, List.set_cons_zero, List.set_cons_succ])
      refine Draws.take 18 (v := ?v11) HS.out rfl (by kernel_rfl) (fun _ _ _ h => h) (Or.inl ⟨rfl, ?h11⟩) ?r11
      case h11 => intro w' hw'; go_simp; (try with_reducible rfl)
      (try simp only [Act.put, List.setIfInBounds_toArray, List.set_cons_zero, List.set_cons_succ])
      refine Draws.done (by kernel_rfl) ?_
      go_wp2_with (first
        | fail)
      go_ret
      exact ⟨rfl, HS.out.mf.bel⟩

set_option maxRecDepth 100000 in
theorem lifted (os : Os) (started : os.Started) (H : Type) (enc : TypeId × Value → H) :
    ReturnsInHanded {} Try.checked os 7 .any (Rows.diskMoreSpec.pre6 enc Try.prog Try.f7 Rows.diskMoreRow.domain false) (Rows.diskMoreSpec.post enc Try.prog Try.f7 false true false false) := by
  refine returnsInHanded_of_change (C := Try.checked) own started (by kernel_rfl) Try.func7
    (ChangeSpec.witness6 (enc := enc) (C := Try.checked) false ⟨#[], #[.int .i64 0, .slice none 0 0, .int .i64 0, .int .i64 0, .int .i64 0, .int .i64 0], []⟩ 12 (by kernel_rfl) (by kernel_rfl) (by kernel_rfl) (by kernel_rfl)) ?_
  intro W base args ds gs before hval0 hW hcnd _
  have hval : ∀ (j : Nat) t v, Try.f7.params[j]? = some t → args[j]? = some v → Value.okWide Try.prog W .any base t v := hval0
  have hW' := hW
  obtain ⟨p, q, hA0, hV, rfl, hfz, hnd⟩ := hW
  have hA : DataW.TrodAll enc Try.prog W 0 (fun _ => true) true Try.f7.params.toList args.toList ds p := hA0
  rw [Try.params7] at hA hval
  obtain ⟨v0, vs0, d0, ds0, q0, r0, hargs, rfl, rfl, h0, t0⟩ := trodAll_cons hA
  obtain ⟨v1, vs1, d1, ds1, q1, r1, rfl, rfl, rfl, h1, t1⟩ := trodAll_cons t0
  obtain ⟨v2, vs2, d2, ds2, q2, r2, rfl, rfl, rfl, h2, t2⟩ := trodAll_cons t1
  obtain ⟨v3, vs3, d3, ds3, q3, r3, rfl, rfl, rfl, h3, t3⟩ := trodAll_cons t2
  obtain ⟨v4, vs4, d4, ds4, q4, r4, rfl, rfl, rfl, h4, t4⟩ := trodAll_cons t3
  obtain ⟨v5, vs5, d5, ds5, q5, r5, rfl, rfl, rfl, h5, t5⟩ := trodAll_cons t4
  obtain ⟨rfl, rfl, rfl⟩ := trodAll_nil t5
  obtain rfl : args = #[v0, v1, v2, v3, v4, v5] := by cases args; simp_all
  obtain ⟨rfl, rfl⟩ := trodVars_none hV
  have k0 := h0
  have lt0 : ∀ x ∈ q0, x.block < W.heap.size := by obtain ⟨m, hm⟩ := k0; exact DataW.trod_lt m _ _ _ hm
  obtain ⟨a0, rfl, rfl, rfl, w0⟩ := open_int Try.underlying3 (hval 0 3 v0 rfl rfl) h0
  have k1 := h1
  have lt1 : ∀ x ∈ q1, x.block < W.heap.size := by obtain ⟨m, hm⟩ := k1; exact DataW.trod_lt m _ _ _ hm
  obtain ⟨A1, n1, c1, L1, rfl, hd1⟩ := open_steps (hval 1 22 v1 rfl rfl) h1
  have k2 := h2
  have lt2 : ∀ x ∈ q2, x.block < W.heap.size := by obtain ⟨m, hm⟩ := k2; exact DataW.trod_lt m _ _ _ hm
  obtain ⟨a2, rfl, rfl, rfl, w2⟩ := open_int Try.underlying3 (hval 2 3 v2 rfl rfl) h2
  have k3 := h3
  have lt3 : ∀ x ∈ q3, x.block < W.heap.size := by obtain ⟨m, hm⟩ := k3; exact DataW.trod_lt m _ _ _ hm
  obtain ⟨a3, rfl, rfl, rfl, w3⟩ := open_int Try.underlying3 (hval 3 3 v3 rfl rfl) h3
  have k4 := h4
  have lt4 : ∀ x ∈ q4, x.block < W.heap.size := by obtain ⟨m, hm⟩ := k4; exact DataW.trod_lt m _ _ _ hm
  obtain ⟨a4, rfl, rfl, rfl, w4⟩ := open_int Try.underlying3 (hval 4 3 v4 rfl rfl) h4
  have k5 := h5
  have lt5 : ∀ x ∈ q5, x.block < W.heap.size := by obtain ⟨m, hm⟩ := k5; exact DataW.trod_lt m _ _ _ hm
  obtain ⟨a5, rfl, rfl, rfl, w5⟩ := open_int Try.underlying3 (hval 5 3 v5 rfl rfl) h5
  clear hA0 hval0
  refine (walk W a0 w0 A1 n1 c1 L1 hd1 a2 w2 a3 w3 a4 w4 a5 w5).mono fun e W' ⟨he, bel⟩ => ?_
  subst he
  exact ⟨_, rfl, _, _, _, [], _, [], hW', trodAll_mk1 (shut_bool Try.underlying4 _), (trodAll_cons_mk (Below.trod laidOut (by kernel_rfl) (of_decide_eq_true (by kernel_rfl)) k0 bel lt0) (trodAll_cons_mk (Below.trod laidOut (by kernel_rfl) (of_decide_eq_true (by kernel_rfl)) k1 bel lt1) (trodAll_cons_mk (Below.trod laidOut (by kernel_rfl) (of_decide_eq_true (by kernel_rfl)) k2 bel lt2) (trodAll_cons_mk (Below.trod laidOut (by kernel_rfl) (of_decide_eq_true (by kernel_rfl)) k3 bel lt3) (trodAll_cons_mk (Below.trod laidOut (by kernel_rfl) (of_decide_eq_true (by kernel_rfl)) k4 bel lt4) (trodAll_cons_mk (Below.trod laidOut (by kernel_rfl) (of_decide_eq_true (by kernel_rfl)) k5 bel lt5) trodAll_mk0)))))), rfl, bel.frame _, fun h => by cases h⟩

theorem over : Rows.diskMoreRow.holds Try.pinned (OpenSpec.ofChange Rows.diskMoreSpec) :=
  OpenClaim.holds_of_wide 7 Try.f7 rfl rfl rfl rfl rfl rfl rfl ⟨rfl, rfl, rfl, rfl, rfl⟩ rfl rfl rfl rfl rfl (by kernel_rfl) Try.func7 (by kernel_rfl)
    (of_decide_eq_true (by kernel_rfl)) (by unfold Func.isWrapper; first | (rw [if_pos (by decide +kernel)]; kernel_rfl) | (rw [if_neg (by decide +kernel)]; exact ⟨rfl, rfl⟩))
    (fun os started H enc _ => lifted os started H enc)

theorem proved : Rows.DiskMoreSaid := over
#print axioms proved
end Go.Proofs.Ytglhjfcngpednaa.diskMore
