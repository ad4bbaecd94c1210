/- For every int, steps, slice of bytes and two ints usufructlaw11.DiskSwaps returns true, and each argument reads as before. No condition. -/
import Derived.Test.YtglhjfcngpednaaDy
import Derived.WalkKit
import Derived.ProofKit
import Derived.OpenShut
import Derived.ShutString
import Derived.ChangeOld
import Derived.Below
namespace Go.Proofs.Ytglhjfcngpednaa.diskSwaps
open Go.ChangeShapes Go.WideShapes Go.ChangeAt Go.RowKit
set_option linter.unusedVariables false

theorem own : ownKnob Try.prog.godebug = none := by kernel_rfl
theorem laidOut : laidOutB Try.prog = true := by kernel_rfl

set_option maxRecDepth 100000 in
set_option maxHeartbeats 4000000 in
theorem walk (w : World) (a0 : Int) (w0 : (Lit.int .i64 a0).wf = true) (A1 : Option Addr) (n1 c1 : Nat) (L1 : List Sp) (hd1 : Steps w A1 n1 L1) (A2 : Option Addr) (n2 c2 : Nat) (l2 : List UInt8) (hl2 : l2.length = n2) (hc2 : n2 ≤ c2) (hm2 : c2 ≤ maxLen) (hd2 : Bys w A2 l2) (a3 : Int) (w3 : (Lit.int .i64 a3).wf = true) (a4 : Int) (w4 : (Lit.int .i64 a4).wf = true) :
    Calls Try.prog 8 #[.int .i64 a0, .slice A1 n1 c1, .slice A2 n2 c2, .int .i64 a3, .int .i64 a4] w fun e w' => e = .returned (.bool true) ∧ Below w.heap.size w w' := by
  have HK := Lib.hid (Kf.start w)
  by_cases hs0 : a0 < 0 ∨ 16384 < a0
  · have HS0 := Lib.hid hs0
    have j1 : (decide (a0 < 0) || decide (16384 < a0)) = true := by simpa using hs0
    clear hs0
    go_enter Try.func8, Try.ntmps8
    go_wp2_with (first
      | (go_at_call 9; (with_reducible refine (new_none a0 HS0.out _).mono ?_); rintro e u ⟨rfl, rfl⟩)
      | (go_at_call 11; (with_reducible refine (awake_any _).mono ?_); rintro e u ⟨rfl, hb⟩; have hk := HK.out.call hb; clear hb; clear HK; have HK := Lib.hid hk; clear hk))
    go_ret
    exact ⟨rfl, HK.out.mf.bel⟩
  obtain ⟨s, rfl⟩ : ∃ s : Nat, a0 = (s : Int) := ⟨a0.toNat, by omega⟩
  have hs1 : s ≤ 16384 := by omega
  obtain ⟨z, hz⟩ : ∃ z : Nat, z = 64 * s := ⟨_, rfl⟩
  have hN := new_any s hs1
  rw [← hz] at hN
  have HNEW := Lib.hid hN
  have hwz : IntKind.i64.wrap (64 * (s : Int)) = (z : Int) := by rw [IntKind.wrap_i64]; omega
  have HZ := Lib.hid (show z ≤ 1048576 by omega)
  have HZS := Lib.hid hz
  clear hN hz hs0 hs1 w0
  have HST := Lib.hid hd1
  clear hd1
  by_cases hp : ¬ (n1 ≤ 30 ∧ ∀ s ∈ L1, s.b.length ≤ 400)
  · have HP := Lib.hid hp
    clear hp
    go_enter Try.func8, Try.ntmps8
    go_wp2_with (first
      | (go_at_call 9; (with_reducible refine (HNEW.out _).mono ?_); rintro e u ⟨r, rfl, hr, hd, hb⟩; have hk := HK.out.newDisk hb hr hd; clear hr hd hb; clear HK; have HK := Lib.hid hk; clear hk)
      | (go_at_call 10; (with_reducible refine (few_no _ _ _ _ _ (HST.out.below HK.out.mf.bel) HP.out).mono ?_); rintro e u ⟨rfl, hb⟩; have hk := HK.out.call hb; clear hb; clear HK; have HK := Lib.hid hk; clear hk)
      | (go_at_call 11; (with_reducible refine (awake_any _).mono ?_); rintro e u ⟨rfl, hb⟩; have hk := HK.out.call hb; clear hb; clear HK; have HK := Lib.hid hk; clear hk))
    go_ret
    exact ⟨rfl, HK.out.mf.bel⟩
  have HP := Lib.hid (Classical.not_not.1 hp)
  clear hp
  have HL2 := Lib.hid hl2
  have HB2 := Lib.hid hd2
  clear hd2 hl2
  by_cases h4 : 400 < n2
  · have i3 : (400 : Int) < (n2 : Int) := by omega
    have i4 : decide ((400 : Int) < (n2 : Int)) = true := by simp; omega
    go_enter Try.func8, Try.ntmps8
    go_wp2_with (first
      | (go_at_call 9; (with_reducible refine (HNEW.out _).mono ?_); rintro e u ⟨r, rfl, hr, hd, hb⟩; have hk := HK.out.newDisk hb hr hd; clear hr hd hb; clear HK; have HK := Lib.hid hk; clear hk)
      | (go_at_call 10; (with_reducible refine (few_yes _ _ _ _ _ (HST.out.below HK.out.mf.bel) HP.out).mono ?_); rintro e u ⟨rfl, hb⟩; have hk := HK.out.call hb; clear hb; clear HK; have HK := Lib.hid hk; clear hk)
      | (go_at_call 11; (with_reducible refine (awake_any _).mono ?_); rintro e u ⟨rfl, hb⟩; have hk := HK.out.call hb; clear hb; clear HK; have HK := Lib.hid hk; clear hk))
    go_ret
    exact ⟨rfl, HK.out.mf.bel⟩
  have i3 : ¬ (400 : Int) < (n2 : Int) := by omega
  have i4 : decide ((400 : Int) < (n2 : Int)) = false := by simp; omega
  have hb1 := r_build1 z
  go_enter Try.func8, Try.ntmps8
  go_wp2_with (first
    | (go_at_call 9; (with_reducible refine (HNEW.out _).mono ?_); rintro e u ⟨r, rfl, hr, hd, hb⟩; have hk := HK.out.newDisk hb hr hd; clear hr hd hb; clear HK; have HK := Lib.hid hk; clear hk)
    | (go_at_call 10; (with_reducible refine (few_yes _ _ _ _ _ (HST.out.below HK.out.mf.bel) HP.out).mono ?_); rintro e u ⟨rfl, hb⟩; have hk := HK.out.call hb; clear hb; clear HK; have HK := Lib.hid hk; clear hk))
  clear i3 i4 h4
  have hk := HK.out.also (A := none) (m := []) (.inl rfl) (by simp)
  clear HK; have HK := Lib.hid hk; clear hk
  go_loopw [34] (fun i wr => ∃ (m f : Nat) (d : List UInt8) (v : Value), m ≤ n1 ∧ i = .int .i64 (m : Int) ∧ f ≤ d.length ∧ d.length ≤ z ∧ Kf w (fun _ => False) [] [⟨some r, z, f, v, d⟩] [(none, [])] wr) (fun i _ => n1 - (intOf i).toNat)
  case atStart => exact ⟨0, 0, [], _, Nat.zero_le _, rfl, Nat.zero_le _, Nat.zero_le _, HK.out⟩
  case round =>
    obtain ⟨m, f, d, v, hm, rfl, hf, hdz, hk⟩ := hrel
    clear HK
    have HK := Lib.hid hk
    have HFN := Lib.hid hf; have HDZ := Lib.hid hdz
    clear hk hf hdz
    by_cases hlt : m < n1
    · have hmx : n1 ≤ 9223372036854775807 := HST.out.2.1
      obtain ⟨b, off, s, hA, hs, hr, hsb, _⟩ := HST.out.one hlt
      have hsl := HP.out.2 s (List.mem_of_getElem? hs)
      subst hA
      have hrr := Below.rangeAt HK.out.mf.bel hr (cell_lt (hr 0 _ rfl))
      have HR := Lib.hid hrr
      have hk := HK.out.old hsb
      clear HK
      have HK := Lib.hid hk
      have HSL := Lib.hid hsl
      have i1 : (0 : Int) ≤ (m : Int) := by omega
      have i2 : (m : Int) < (n1 : Int) := by omega
      clear hs hr hrr hsl hk hsb
      go_wp2_with (first
        | (with_reducible refine load_at Try.underlying31 rfl s_info HR.out (by simp [Sp.cells]) _ rfl rfl rfl ?_)
        | ((with_reducible refine alloc_k HK.out rfl s_zero rfl rfl rfl ?_); intro b13 u hk; clear HK; have HK := Lib.hid hk; clear hk)
        | ((with_reducible refine store_kr (xs := s.cells) HK.out 0 s_info rfl rfl _ _ rfl rfl rfl rfl (by simp) (by simp [Sp.cells]) (by simp [Sp.cells, noU, isU]) (by simp [Sp.cells, Value.oneCell']) ?_); intro u hk; simp only [List.set_cons_zero] at hk; clear HK; have HK := Lib.hid hk; clear hk)
        | (with_reducible refine load_kr HK.out 0 Try.underlying31 rfl s_info _ rfl rfl (by simp [Sp.cells]) rfl rfl ?_)
        | (go_at_call 12; (refine (does_any _ r z f 0 v d none 0 0 [] s (HK.out.din 0 rfl 1 0 rfl rfl HZ.out HDZ.out HFN.out rfl (Nat.zero_le _) (Nat.le_refl _) (Nat.le_refl _) rfl (by have := HSL.out; omega))).mono ?_); rintro e u ⟨B', n', c', bo, v', rfl, _, _, _, hd', hm', _, _⟩; have hk := HK.out.disk 0 rfl hm' hd'; simp only [List.set_cons_zero] at hk; have hin := step_inv (z := z) (f := f) (d := d) HFN.out HDZ.out s; have HIN := Lib.hid hin; clear hd' hm' hin; clear HK; have HK := Lib.hid hk; clear hk; generalize nF z f d s = f1 at *; generalize nD z f d s = d1 at *))
      go_roundw
      case rel => exact ⟨m + 1, f1, d1, v', by omega, by go_num, HIN.out.1, HIN.out.2, HK.out.bare.look (by simp)⟩
      case measure => simp [intOf]; omega
    · obtain rfl : m = n1 := by omega
      clear hlt hm
      obtain ⟨N, hN⟩ : ∃ N, d.length = N := ⟨_, rfl⟩
      have HN := Lib.hid hN
      clear hN
      have hk := HK.out.old HB2.out
      clear HK; have HK := Lib.hid hk; clear hk
      by_cases g1 : z < n2
      · have i3 : (z : Int) < (n2 : Int) := by omega
        have i4 : decide ((z : Int) < (n2 : Int)) = true := by simp; omega
        go_wp2_with (first
          | (go_at_call 13; (refine (bytes_n r _ _ _ d N HN.out (by have := HN.out; have := HDZ.out; have := HZ.out; omega) _ (HK.out.dk 0 rfl)).mono ?_); rintro e u ⟨A14, c14, ⟨rfl, _⟩, hk⟩; have hk := HK.out.makes hk; clear HK; have HK := Lib.hid hk; clear hk)
          | (go_at_call 14; (refine (safe_any r _ _ _ _ _ (HK.out.dk 0 rfl)).mono ?_); rintro e u ⟨rfl, rfl⟩)
          | (go_at_call 19; (refine (swap_full r z f v d A2 n2 c2 g1 _ (HK.out.dk 0 rfl)).mono ?_); rintro e u ⟨rfl, rfl⟩))
        refine Draws.start (S := fun u' : World => Kf w (fun _ => False) [] [⟨some r, z, f, v, d⟩] [(A14, d), (A2, l2), (none, [])] u') (n := 20) 20 rfl (by kernel_rfl) ?_
        have HS := Lib.hid (show (fun u' : World => Kf w (fun _ => False) [] [⟨some r, z, f, v, d⟩] [(A14, d), (A2, l2), (none, [])] u') (World.drew _) from HK.out.drew)
        refine Draws.take 0 (v := ?v1) HS.out rfl (by kernel_rfl) (fun _ _ _ h => h) (Or.inl ⟨rfl, ?h1⟩) ?r1
        case h1 => intro w' hw'; go_simp; (try with_reducible rfl)
        (try simp only [Act.put, List.setIfInBounds_toArray, List.set_cons_zero, List.set_cons_succ])
        refine Draws.take 1 HS.out rfl (by kernel_rfl) (fun _ _ _ h => h) (yield_eqt rfl _ _ _ rfl rfl rfl rfl) ?_
        (try simp only [Act.put, List.setIfInBounds_toArray, List.set_cons_zero, List.set_cons_succ])
        refine Draws.take 2 (v := ?v2) HS.out rfl (by kernel_rfl) (fun _ _ _ h => h) (Or.inl ⟨rfl, ?h2⟩) ?r2
        case h2 => intro w' hw'; go_simp; (try with_reducible rfl)
        (try simp only [Act.put, List.setIfInBounds_toArray, List.set_cons_zero, List.set_cons_succ])
        refine Draws.take 3 (v := ?v3) HS.out rfl (by kernel_rfl) (fun _ _ _ h => h) (Or.inl ⟨rfl, ?h3⟩) ?r3
        case h3 => intro w' hw'; go_simp; (try with_reducible rfl)
        (try simp only [Act.put, List.setIfInBounds_toArray, List.set_cons_zero, List.set_cons_succ])
        refine Draws.take 6 (v := ?v4) HS.out rfl (by kernel_rfl) (fun _ _ _ h => h) (Or.inl ⟨rfl, ?h4⟩) ?r4
        case h4 => intro w' hw'; go_simp; (try with_reducible rfl)
        (try simp only [Act.put, List.setIfInBounds_toArray, List.set_cons_zero, List.set_cons_succ])
        refine Draws.take 7 HS.out rfl (by kernel_rfl) (fun _ _ _ h => h) (yield_str (fun _ h => h.rowAt 0 rfl) HN.out _ rfl rfl rfl) ?_
        (try simp only [Act.put, List.setIfInBounds_toArray, List.set_cons_zero, List.set_cons_succ])
        refine Draws.does 4 rfl (by kernel_rfl) rfl (fun K' hK => ?_)
        go_simp
        go_at_call 13
        refine (bytes_n _ _ _ _ _ N HN.out (by have := HN.out; have := HDZ.out; have := HZ.out; omega) _ (HS.out.dk 0 rfl)).mono ?_
        rintro e u ⟨A7, c7, ⟨rfl, _⟩, hk⟩
        (try dsimp only)
        refine hK.out _ _ (fun _ => HS.out.call hk.bel) ?_
        clear hK K'
        refine Draws.more (S' := fun u' : World => Kf w (fun _ => False) [] [⟨some r, z, f, v, d⟩] ((A7, d) :: [(A14, d), (A2, l2), (none, [])]) u') (fun _ h => h.look (fun _ hr => List.mem_cons_of_mem _ hr)) _ _ _ _ ?_
        have hs : Kf w (fun _ => False) [] [⟨some r, z, f, v, d⟩] ((A7, d) :: [(A14, d), (A2, l2), (none, [])]) u := HS.out.makes hk
        clear HS hk
        have HS := Lib.hid hs; clear hs
        (try simp only [Act.put, List.setIfInBounds_toArray, List.set_cons_zero, List.set_cons_succ])
        refine Draws.take 5 HS.out rfl (by kernel_rfl) (fun _ _ _ h => h) (yield_str (fun _ h => h.rowAt 0 rfl) HN.out _ rfl rfl rfl) ?_
        (try simp only [Act.put, List.setIfInBounds_toArray, List.set_cons_zero, List.set_cons_succ])
        refine Draws.take 8 HS.out rfl (by kernel_rfl) (fun _ _ _ h => h) (yield_eqs _ _ _ rfl rfl rfl rfl) ?_
        (try simp only [Act.put, List.setIfInBounds_toArray, List.set_cons_zero, List.set_cons_succ])
        refine Draws.take 9 (v := ?v5) HS.out rfl (by kernel_rfl) (fun _ _ _ h => h) (Or.inl ⟨rfl, ?h5⟩) ?r5
        case h5 => intro w' hw'; go_simp; (try with_reducible rfl)
        (try simp only [Act.put, List.setIfInBounds_toArray, List.set_cons_zero, List.set_cons_succ])
        refine Draws.take 10 (v := ?v6) HS.out rfl (by kernel_rfl) (fun _ _ _ h => h) (Or.inl ⟨rfl, ?h6⟩) ?r6
        case h6 => intro w' hw'; go_simp; (try with_reducible rfl)
        (try simp only [Act.put, List.setIfInBounds_toArray, List.set_cons_zero, List.set_cons_succ])
        refine Draws.take 11 (v := ?v7) HS.out rfl (by kernel_rfl) (fun _ _ _ h => h) (Or.inl ⟨rfl, ?h7⟩) ?r7
        case h7 => intro w' hw'; go_simp; (try with_reducible rfl)
        (try simp only [Act.put, List.setIfInBounds_toArray, List.set_cons_zero, List.set_cons_succ])
        refine Draws.take 13 (v := ?v8) HS.out rfl (by kernel_rfl) (fun _ _ _ h => h) (Or.inl ⟨rfl, ?h8⟩) ?r8
        case h8 => intro w' hw'; go_simp; (try with_reducible rfl)
        (try simp only [Act.put, List.setIfInBounds_toArray, List.set_cons_zero, List.set_cons_succ])
        refine Draws.does 12 rfl (by kernel_rfl) rfl (fun K' hK => ?_)
        go_simp
        go_at_call 14
        refine (safe_any _ _ _ _ _ _ (HS.out.dk 0 rfl)).mono ?_
        rintro e u ⟨rfl, rfl⟩
        (try dsimp only)
        refine hK.out _ _ (fun _ => HS.out) ?_
        clear hK K'
        (try simp only [Act.put, List.setIfInBounds_toArray, List.set_cons_zero, List.set_cons_succ])
        refine Draws.take 14 HS.out rfl (by kernel_rfl) (fun _ _ _ h => h) (yield_eqi rfl _ _ _ rfl rfl rfl rfl) ?_
        (try simp only [Act.put, List.setIfInBounds_toArray, List.set_cons_zero, List.set_cons_succ])
        refine Draws.take 15 (v := ?v9) HS.out rfl (by kernel_rfl) (fun _ _ _ h => h) (Or.inl ⟨rfl, ?h9⟩) ?r9
        case h9 => intro w' hw'; go_simp; (try with_reducible rfl)
        (try simp only [Act.put, List.setIfInBounds_toArray, List.set_cons_zero, List.set_cons_succ])
        refine Draws.take 16 (v := ?v10) HS.out rfl (by kernel_rfl) (fun _ _ _ h => h) (Or.inl ⟨rfl, ?h10⟩) ?r10
        case h10 => intro w' hw'; go_simp; (try with_reducible rfl)
        (try simp only [Act.put, List.setIfInBounds_toArray, List.set_cons_zero, List.set_cons_succ])
        refine Draws.does 17 rfl (by kernel_rfl) rfl (fun K' hK => ?_)
        go_simp
        go_at_call 11
        refine (awake_any _).mono ?_
        rintro e u ⟨rfl, hb⟩
        (try dsimp only)
        refine hK.out _ _ (fun _ => HS.out.call hb) ?_
        clear hK K'
        have hs := HS.out.call hb
        clear HS hb
        have HS := Lib.hid hs; clear hs
        (try simp only [Act.put, List.setIfInBounds_toArray, List.set_cons_zero, List.set_cons_succ])
        refine Draws.take 18 (v := ?v11) HS.out rfl (by kernel_rfl) (fun _ _ _ h => h) (Or.inl ⟨rfl, ?h11⟩) ?r11
        case h11 => intro w' hw'; go_simp; (try with_reducible rfl)
        (try simp only [Act.put, List.setIfInBounds_toArray, List.set_cons_zero, List.set_cons_succ])
        refine Draws.take 19 (v := ?v12) HS.out rfl (by kernel_rfl) (fun _ _ _ h => h) (Or.inl ⟨rfl, ?h12⟩) ?r12
        case h12 => intro w' hw'; go_simp; (try with_reducible rfl)
        (try simp only [Act.put, List.setIfInBounds_toArray, List.set_cons_zero, List.set_cons_succ])
        refine Draws.done (by kernel_rfl) ?_
        go_wp2_with (first
          | fail)
        go_ret
        exact ⟨rfl, HS.out.mf.bel⟩
      · have i3 : ¬ (z : Int) < (n2 : Int) := by omega
        have i4 : decide ((z : Int) < (n2 : Int)) = false := by simp; omega
        go_wp2_with (first
          | (go_at_call 13; (refine (bytes_n r _ _ _ d N HN.out (by have := HN.out; have := HDZ.out; have := HZ.out; omega) _ (HK.out.dk 0 rfl)).mono ?_); rintro e u ⟨A14, c14, ⟨rfl, _⟩, hk⟩; have hk := HK.out.makes hk; clear HK; have HK := Lib.hid hk; clear hk)
          | (go_at_call 14; (refine (safe_any r _ _ _ _ _ (HK.out.dk 0 rfl)).mono ?_); rintro e u ⟨rfl, rfl⟩)
          | (go_at_call 19; (refine (swap_any r z f v d A2 n2 c2 l2 HL2.out HZ.out (by omega) _ (HK.out.rowAt 1 rfl) (HK.out.dk 0 rfl)).mono ?_); rintro e u ⟨rfl, v2, hd, hm⟩; have hk := HK.out.disk 0 rfl hm hd; simp only [List.set_cons_zero] at hk; clear hd hm; clear HK; have HK := Lib.hid hk; clear hk)
          | (go_at_call 16; (refine (crash_any r z n2 v2 l2 a3 a4 (by have := HL2.out; omega) (by have := HL2.out; have := HZ.out; omega) _ (HK.out.dk 0 rfl)).mono ?_); rintro e u ⟨rfl, v3, hd, hm⟩; rw [HL2.out, show cr n2 n2 a3 a4 = n2 by unfold cr; omega, show l2.take n2 = l2 by rw [← HL2.out]; exact List.take_length] at hd; have hk := HK.out.disk 0 rfl hm hd; simp only [List.set_cons_zero] at hk; clear hd hm; clear HK; have HK := Lib.hid hk; clear hk))
        refine Draws.start (S := fun u' : World => Kf w (fun _ => False) [] [⟨some r, z, n2, v3, l2⟩] [(A14, d), (A2, l2), (none, [])] u') (n := 21) 21 rfl (by kernel_rfl) ?_
        have HS := Lib.hid (show (fun u' : World => Kf w (fun _ => False) [] [⟨some r, z, n2, v3, l2⟩] [(A14, d), (A2, l2), (none, [])] u') (World.drew _) from HK.out.drew)
        refine Draws.take 0 (v := ?v13) HS.out rfl (by kernel_rfl) (fun _ _ _ h => h) (Or.inl ⟨rfl, ?h13⟩) ?r13
        case h13 => intro w' hw'; go_simp; (try with_reducible rfl)
        (try simp only [Act.put, List.setIfInBounds_toArray, List.set_cons_zero, List.set_cons_succ])
        refine Draws.take 1 HS.out rfl (by kernel_rfl) (fun _ _ _ h => h) (yield_eqt rfl _ _ _ rfl rfl rfl rfl) ?_
        (try simp only [Act.put, List.setIfInBounds_toArray, List.set_cons_zero, List.set_cons_succ])
        refine Draws.take 2 (v := ?v14) HS.out rfl (by kernel_rfl) (fun _ _ _ h => h) (Or.inl ⟨rfl, ?h14⟩) ?r14
        case h14 => intro w' hw'; go_simp; (try with_reducible rfl)
        (try simp only [Act.put, List.setIfInBounds_toArray, List.set_cons_zero, List.set_cons_succ])
        refine Draws.take 3 (v := ?v15) HS.out rfl (by kernel_rfl) (fun _ _ _ h => h) (Or.inl ⟨rfl, ?h15⟩) ?r15
        case h15 => intro w' hw'; go_simp; (try with_reducible rfl)
        (try simp only [Act.put, List.setIfInBounds_toArray, List.set_cons_zero, List.set_cons_succ])
        refine Draws.take 6 (v := ?v16) HS.out rfl (by kernel_rfl) (fun _ _ _ h => h) (Or.inl ⟨rfl, ?h16⟩) ?r16
        case h16 => intro w' hw'; go_simp; (try with_reducible rfl)
        (try simp only [Act.put, List.setIfInBounds_toArray, List.set_cons_zero, List.set_cons_succ])
        refine Draws.take 7 HS.out rfl (by kernel_rfl) (fun _ _ _ h => h) (yield_str (fun _ h => h.rowAt 1 rfl) HL2.out _ rfl rfl rfl) ?_
        (try simp only [Act.put, List.setIfInBounds_toArray, List.set_cons_zero, List.set_cons_succ])
        refine Draws.does 4 rfl (by kernel_rfl) rfl (fun K' hK => ?_)
        go_simp
        go_at_call 13
        refine (bytes_n _ _ _ _ _ n2 HL2.out (by have := HZ.out; omega) _ (HS.out.dk 0 rfl)).mono ?_
        rintro e u ⟨A7, c7, ⟨rfl, _⟩, hk⟩
        (try dsimp only)
        refine hK.out _ _ (fun _ => HS.out.call hk.bel) ?_
        clear hK K'
        refine Draws.more (S' := fun u' : World => Kf w (fun _ => False) [] [⟨some r, z, n2, v3, l2⟩] ((A7, l2) :: [(A14, d), (A2, l2), (none, [])]) u') (fun _ h => h.look (fun _ hr => List.mem_cons_of_mem _ hr)) _ _ _ _ ?_
        have hs : Kf w (fun _ => False) [] [⟨some r, z, n2, v3, l2⟩] ((A7, l2) :: [(A14, d), (A2, l2), (none, [])]) u := HS.out.makes hk
        clear HS hk
        have HS := Lib.hid hs; clear hs
        (try simp only [Act.put, List.setIfInBounds_toArray, List.set_cons_zero, List.set_cons_succ])
        refine Draws.take 5 HS.out rfl (by kernel_rfl) (fun _ _ _ h => h) (yield_str (fun _ h => h.rowAt 0 rfl) HL2.out _ rfl rfl rfl) ?_
        (try simp only [Act.put, List.setIfInBounds_toArray, List.set_cons_zero, List.set_cons_succ])
        refine Draws.take 8 HS.out rfl (by kernel_rfl) (fun _ _ _ h => h) (yield_eqs _ _ _ rfl rfl rfl rfl) ?_
        (try simp only [Act.put, List.setIfInBounds_toArray, List.set_cons_zero, List.set_cons_succ])
        refine Draws.take 9 (v := ?v17) HS.out rfl (by kernel_rfl) (fun _ _ _ h => h) (Or.inl ⟨rfl, ?h17⟩) ?r17
        case h17 => intro w' hw'; go_simp; (try with_reducible rfl)
        (try simp only [Act.put, List.setIfInBounds_toArray, List.set_cons_zero, List.set_cons_succ])
        refine Draws.take 10 (v := ?v18) HS.out rfl (by kernel_rfl) (fun _ _ _ h => h) (Or.inl ⟨rfl, ?h18⟩) ?r18
        case h18 => intro w' hw'; go_simp; (try with_reducible rfl)
        (try simp only [Act.put, List.setIfInBounds_toArray, List.set_cons_zero, List.set_cons_succ])
        refine Draws.take 11 (v := ?v19) HS.out rfl (by kernel_rfl) (fun _ _ _ h => h) (Or.inl ⟨rfl, ?h19⟩) ?r19
        case h19 => intro w' hw'; go_simp; (try with_reducible rfl)
        (try simp only [Act.put, List.setIfInBounds_toArray, List.set_cons_zero, List.set_cons_succ])
        refine Draws.take 13 (v := ?v20) HS.out rfl (by kernel_rfl) (fun _ _ _ h => h) (Or.inl ⟨rfl, ?h20⟩) ?r20
        case h20 => intro w' hw'; go_simp; (try with_reducible rfl)
        (try simp only [Act.put, List.setIfInBounds_toArray, List.set_cons_zero, List.set_cons_succ])
        refine Draws.take 14 (v := ?v21) HS.out rfl (by kernel_rfl) (fun _ _ _ h => h) (Or.inl ⟨rfl, ?h21⟩) ?r21
        case h21 => intro w' hw'; go_simp; (try with_reducible rfl)
        (try simp only [Act.put, List.setIfInBounds_toArray, List.set_cons_zero, List.set_cons_succ])
        refine Draws.does 12 rfl (by kernel_rfl) rfl (fun K' hK => ?_)
        go_simp
        go_at_call 14
        refine (safe_any _ _ _ _ _ _ (HS.out.dk 0 rfl)).mono ?_
        rintro e u ⟨rfl, rfl⟩
        (try dsimp only)
        refine hK.out _ _ (fun _ => HS.out) ?_
        clear hK K'
        (try simp only [Act.put, List.setIfInBounds_toArray, List.set_cons_zero, List.set_cons_succ])
        refine Draws.take 15 HS.out rfl (by kernel_rfl) (fun _ _ _ h => h) (yield_eqi rfl _ _ _ rfl rfl rfl rfl) ?_
        (try simp only [Act.put, List.setIfInBounds_toArray, List.set_cons_zero, List.set_cons_succ])
        refine Draws.take 16 (v := ?v22) HS.out rfl (by kernel_rfl) (fun _ _ _ h => h) (Or.inl ⟨rfl, ?h22⟩) ?r22
        case h22 => intro w' hw'; go_simp; (try with_reducible rfl)
        (try simp only [Act.put, List.setIfInBounds_toArray, List.set_cons_zero, List.set_cons_succ])
        refine Draws.take 17 (v := ?v23) HS.out rfl (by kernel_rfl) (fun _ _ _ h => h) (Or.inl ⟨rfl, ?h23⟩) ?r23
        case h23 => intro w' hw'; go_simp; (try with_reducible rfl)
        (try simp only [Act.put, List.setIfInBounds_toArray, List.set_cons_zero, List.set_cons_succ])
        refine Draws.does 18 rfl (by kernel_rfl) rfl (fun K' hK => ?_)
        go_simp
        go_at_call 11
        refine (awake_any _).mono ?_
        rintro e u ⟨rfl, hb⟩
        (try dsimp only)
        refine hK.out _ _ (fun _ => HS.out.call hb) ?_
        clear hK K'
        have hs := HS.out.call hb
        clear HS hb
        have HS := Lib.hid hs; clear hs
        (try simp only [Act.put, List.setIfInBounds_toArray, List.set_cons_zero, List.set_cons_succ])
        refine Draws.take 19 (v := ?v24) HS.out rfl (by kernel_rfl) (fun _ _ _ h => h) (Or.inl ⟨rfl, ?h24⟩) ?r24
        case h24 => intro w' hw'; go_simp; (try with_reducible rfl)
        (try simp only [Act.put, List.setIfInBounds_toArray, List.set_cons_zero, List.set_cons_succ])
        refine Draws.take 20 (v := ?v25) HS.out rfl (by kernel_rfl) (fun _ _ _ h => h) (Or.inl ⟨rfl, ?h25⟩) ?r25
        case h25 => intro w' hw'; go_simp; (try with_reducible rfl)
        (try simp only [Act.put, List.setIfInBounds_toArray, List.set_cons_zero, List.set_cons_succ])
        refine Draws.done (by kernel_rfl) ?_
        go_wp2_with (first
          | fail)
        go_ret
        exact ⟨rfl, HS.out.mf.bel⟩

set_option maxRecDepth 100000 in
theorem lifted (os : Os) (started : os.Started) (H : Type) (enc : TypeId × Value → H) :
    ReturnsInHanded {} Try.checked os 8 .any (Rows.diskSwapsSpec.pre6 enc Try.prog Try.f8 Rows.diskSwapsRow.domain false) (Rows.diskSwapsSpec.post enc Try.prog Try.f8 false true false false) := by
  refine returnsInHanded_of_change (C := Try.checked) own started (by kernel_rfl) Try.func8
    (ChangeSpec.witness6 (enc := enc) (C := Try.checked) false ⟨#[], #[.int .i64 0, .slice none 0 0, .slice none 0 0, .int .i64 0, .int .i64 0], []⟩ 12 (by kernel_rfl) (by kernel_rfl) (by kernel_rfl) (by kernel_rfl)) ?_
  intro W base args ds gs before hval0 hW hcnd _
  have hval : ∀ (j : Nat) t v, Try.f8.params[j]? = some t → args[j]? = some v → Value.okWide Try.prog W .any base t v := hval0
  have hW' := hW
  obtain ⟨p, q, hA0, hV, rfl, hfz, hnd⟩ := hW
  have hA : DataW.TrodAll enc Try.prog W 0 (fun _ => true) true Try.f8.params.toList args.toList ds p := hA0
  rw [Try.params8] at hA hval
  obtain ⟨v0, vs0, d0, ds0, q0, r0, hargs, rfl, rfl, h0, t0⟩ := trodAll_cons hA
  obtain ⟨v1, vs1, d1, ds1, q1, r1, rfl, rfl, rfl, h1, t1⟩ := trodAll_cons t0
  obtain ⟨v2, vs2, d2, ds2, q2, r2, rfl, rfl, rfl, h2, t2⟩ := trodAll_cons t1
  obtain ⟨v3, vs3, d3, ds3, q3, r3, rfl, rfl, rfl, h3, t3⟩ := trodAll_cons t2
  obtain ⟨v4, vs4, d4, ds4, q4, r4, rfl, rfl, rfl, h4, t4⟩ := trodAll_cons t3
  obtain ⟨rfl, rfl, rfl⟩ := trodAll_nil t4
  obtain rfl : args = #[v0, v1, v2, v3, v4] := by cases args; simp_all
  obtain ⟨rfl, rfl⟩ := trodVars_none hV
  have k0 := h0
  have lt0 : ∀ x ∈ q0, x.block < W.heap.size := by obtain ⟨m, hm⟩ := k0; exact DataW.trod_lt m _ _ _ hm
  obtain ⟨a0, rfl, rfl, rfl, w0⟩ := open_int Try.underlying3 (hval 0 3 v0 rfl rfl) h0
  have k1 := h1
  have lt1 : ∀ x ∈ q1, x.block < W.heap.size := by obtain ⟨m, hm⟩ := k1; exact DataW.trod_lt m _ _ _ hm
  obtain ⟨A1, n1, c1, L1, rfl, hd1⟩ := open_steps (hval 1 22 v1 rfl rfl) h1
  have k2 := h2
  have lt2 : ∀ x ∈ q2, x.block < W.heap.size := by obtain ⟨m, hm⟩ := k2; exact DataW.trod_lt m _ _ _ hm
  obtain ⟨A2, n2, c2, l2, rfl, hl2, hc2, hm2, hd2⟩ := open_b (hval 2 27 v2 rfl rfl) h2
  have k3 := h3
  have lt3 : ∀ x ∈ q3, x.block < W.heap.size := by obtain ⟨m, hm⟩ := k3; exact DataW.trod_lt m _ _ _ hm
  obtain ⟨a3, rfl, rfl, rfl, w3⟩ := open_int Try.underlying3 (hval 3 3 v3 rfl rfl) h3
  have k4 := h4
  have lt4 : ∀ x ∈ q4, x.block < W.heap.size := by obtain ⟨m, hm⟩ := k4; exact DataW.trod_lt m _ _ _ hm
  obtain ⟨a4, rfl, rfl, rfl, w4⟩ := open_int Try.underlying3 (hval 4 3 v4 rfl rfl) h4
  clear hA0 hval0
  refine (walk W a0 w0 A1 n1 c1 L1 hd1 A2 n2 c2 l2 hl2 hc2 hm2 hd2 a3 w3 a4 w4).mono fun e W' ⟨he, bel⟩ => ?_
  subst he
  exact ⟨_, rfl, _, _, _, [], _, [], hW', trodAll_mk1 (shut_bool Try.underlying4 _), (trodAll_cons_mk (Below.trod laidOut (by kernel_rfl) (of_decide_eq_true (by kernel_rfl)) k0 bel lt0) (trodAll_cons_mk (Below.trod laidOut (by kernel_rfl) (of_decide_eq_true (by kernel_rfl)) k1 bel lt1) (trodAll_cons_mk (Below.trod laidOut (by kernel_rfl) (of_decide_eq_true (by kernel_rfl)) k2 bel lt2) (trodAll_cons_mk (Below.trod laidOut (by kernel_rfl) (of_decide_eq_true (by kernel_rfl)) k3 bel lt3) (trodAll_cons_mk (Below.trod laidOut (by kernel_rfl) (of_decide_eq_true (by kernel_rfl)) k4 bel lt4) trodAll_mk0))))), rfl, bel.frame _, fun h => by cases h⟩

theorem over : Rows.diskSwapsRow.holds Try.pinned (OpenSpec.ofChange Rows.diskSwapsSpec) :=
  OpenClaim.holds_of_wide 8 Try.f8 rfl rfl rfl rfl rfl rfl rfl ⟨rfl, rfl, rfl, rfl, rfl⟩ rfl rfl rfl rfl rfl (by kernel_rfl) Try.func8 (by kernel_rfl)
    (of_decide_eq_true (by kernel_rfl)) (by unfold Func.isWrapper; first | (rw [if_pos (by decide +kernel)]; kernel_rfl) | (rw [if_neg (by decide +kernel)]; exact ⟨rfl, rfl⟩))
    (fun os started H enc _ => lifted os started H enc)

theorem proved : Rows.DiskSwapsSaid := over
#print axioms proved
end Go.Proofs.Ytglhjfcngpednaa.diskSwaps
