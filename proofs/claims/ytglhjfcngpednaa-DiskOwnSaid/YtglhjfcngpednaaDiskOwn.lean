/- For every slice of bytes and int usufructlaw11.DiskOwn returns true, and each argument reads as before. No condition. -/
import Derived.Test.YtglhjfcngpednaaDz
import Derived.WalkKit
import Derived.ProofKit
import Derived.OpenShut
import Derived.ShutString
import Derived.ChangeOld
import Derived.Below
namespace Go.Proofs.Ytglhjfcngpednaa.diskOwn
open Go.ChangeShapes Go.WideShapes Go.ChangeAt Go.RowKit
set_option linter.unusedVariables false

theorem own : ownKnob Try.prog.godebug = none := by kernel_rfl
theorem laidOut : laidOutB Try.prog = true := by kernel_rfl

set_option maxRecDepth 100000 in
set_option maxHeartbeats 4000000 in
theorem walk (w : World) (A0 : Option Addr) (n0 c0 : Nat) (l0 : List UInt8) (hl0 : l0.length = n0) (hc0 : n0 ≤ c0) (hm0 : c0 ≤ maxLen) (hd0 : Bys w A0 l0) (a1 : Int) (w1 : (Lit.int .i64 a1).wf = true) :
    Calls Try.prog 5 #[.slice A0 n0 c0, .int .i64 a1] w fun e w' => e = .returned (.bool true) ∧ Below w.heap.size w w' := by
  have HK := Lib.hid (Kf.start w)
  have HL0 := Lib.hid hl0
  have hk := HK.out.old hd0
  clear HK
  have HK := Lib.hid hk
  clear hd0 hl0 hm0 hk
  by_cases h4 : 400 < n0
  · have i3 : (400 : Int) < (n0 : Int) := by omega
    have i4 : decide ((400 : Int) < (n0 : Int)) = true := by simp; omega
    go_enter Try.func5, Try.ntmps5
    go_wp2_with (first
      | (go_at_call 11; (with_reducible refine (awake_any _).mono ?_); rintro e u ⟨rfl, hb⟩; have hk := HK.out.call hb; clear hb; clear HK; have HK := Lib.hid hk; clear hk))
    go_ret
    exact ⟨rfl, HK.out.mf.bel⟩
  have i3 : ¬ (400 : Int) < (n0 : Int) := by omega
  have i4 : decide ((400 : Int) < (n0 : Int)) = false := by simp; omega
  obtain ⟨Z, hZ⟩ : ∃ Z : Nat, Z = 1280 := ⟨_, rfl⟩
  have hN : ∀ u, Calls Try.prog 9 #[.int .i64 20] u fun e u' => ∃ r, e = .returned (.pointer (some ⟨r, 0, none⟩)) ∧ u.heap.size ≤ r ∧ Dk u' r (Z : Int) (.slice none 0 0) 0 [] ∧ Below u.heap.size u u' := fun u => by
    subst hZ
    exact new_any 20 (by omega) u
  have HNEW := Lib.hid hN
  have HZ := Lib.hid hZ
  have HN0 := Lib.hid (show n0 ≤ 400 by omega)
  clear hN hZ h4
  go_enter Try.func5, Try.ntmps5
  go_wp2_with (first
    | (go_at_call 9; (with_reducible refine (HNEW.out _).mono ?_); rintro e u ⟨r, rfl, hr, hd, hb⟩; have hk := HK.out.newDisk hb hr hd; clear hr hd hb; clear HK; have HK := Lib.hid hk; clear hk)
    | ((with_reducible refine build_k HK.out rfl rfl ?_); intro v0 u hk; clear HK; have HK := Lib.hid hk; clear hk)
    | (refine app_k HK.out 0 rfl (HK.out.rowAt 0 rfl) HL0.out rfl _ _ rfl rfl rfl (by have := HL0.out; have := HN0.out; simp; omega) ?_; intro O N oc u hN _ hk; simp only [List.nil_append, List.set_cons_zero] at hk hN; rw [HL0.out] at hN; subst hN; clear HK; have HK := Lib.hid hk; clear hk)
    | (go_at_call 17; (refine (append_any r Z 0 _ [] O n0 oc l0 HL0.out (by have := HZ.out; omega) (by have := HN0.out; have := HZ.out; simp; omega) _ (HK.out.entAt 0 rfl).own.bys (HK.out.dk 1 rfl)).mono ?_); rintro e u ⟨rfl, v1, hd, hm⟩; have hk := HK.out.disk 1 rfl hm hd; simp only [List.set_cons_zero, List.set_cons_succ, List.nil_append] at hk; clear hd hm; clear HK; have HK := Lib.hid hk; clear hk))
  clear i3 i4
  go_loopw [25] (fun i wr => ∃ (m : Nat) (L : List UInt8), m ≤ n0 ∧ i = .int .i64 (m : Int) ∧ L.length = n0 ∧ Kf w (fun _ => False) [] [⟨none, 0, 0, .slice O n0 oc, L⟩, ⟨some r, Z, 0, v1, l0⟩] [(A0, l0)] wr) (fun i _ => n0 - (intOf i).toNat)
  case atStart => exact ⟨0, _, Nat.zero_le _, rfl, HL0.out, HK.out⟩
  case round =>
    obtain ⟨m, L, hm, rfl, hL, hk⟩ := hrel
    clear HK
    have HK := Lib.hid hk
    have HL := Lib.hid hL
    clear hk hL
    by_cases hlt : m < n0
    · have ho : Own wr 0 (.slice O n0 oc) L := (HK.out.entAt 0 rfl).own
      obtain ⟨g, hg⟩ := ho.row (by have := HL.out; omega)
      subst hg
      have hcell := ho.cell (k := m) (by have := HL.out; omega)
      clear ho
      have i1 : (0 : Int) ≤ (m : Int) := by omega
      have i2 : (m : Int) < (n0 : Int) := by omega
      have hmb : m ≤ 400 := by have := HN0.out; omega
      generalize ((L.getD m 0).toNat : Int) = x at hcell
      obtain ⟨d8, hd8⟩ := u8_of (x + 1)
      go_wp2_with (first
        | (refine store_b HK.out 0 rfl HL.out (k := m) (by omega) d8 rfl rfl rfl _ _ rfl rfl rfl ?_; intro u hk; simp only [List.set_cons_zero] at hk; clear hcell; clear HK; have HK := Lib.hid hk; clear hk))
      go_roundw
      case rel => exact ⟨m + 1, L.set m d8, by omega, by go_num, by rw [List.length_set]; exact HL.out, HK.out⟩
      case measure => simp [intOf]; omega
    · obtain rfl : n0 = m := by omega
      clear hlt hm
      go_wp2_with (first
        | (go_at_call 13; (refine (bytes_n r _ _ _ l0 n0 HL0.out (by have := HN0.out; omega) _ (HK.out.dk 1 rfl)).mono ?_); rintro e u ⟨A9, c9, ⟨rfl, _⟩, hk⟩; have hk := HK.out.made hk; clear HK; have HK := Lib.hid hk; clear hk; have hb9 : Bys u A9 l0 := (HK.out.entAt 0 rfl).own.bys; have HB9 := Lib.hid hb9; clear hb9)
        | (refine to_str_want HB9.out HL0.out _ rfl rfl rfl ?_)
        | (refine to_str_want (HK.out.rowAt 0 rfl) HL0.out _ rfl rfl rfl ?_)
        | (refine ne_str_want _ _ _ rfl rfl rfl rfl ?_))
      obtain ⟨L1, hL1⟩ : ∃ L1, L1 = L := ⟨_, rfl⟩
      rw [← hL1] at HK
      clear hL1 HL
      go_loopw [48] (fun i wr => ∃ (m : Nat) (L : List UInt8), m ≤ n0 ∧ i = .int .i64 (m : Int) ∧ L.length = n0 ∧ Kf w (fun _ => False) [] [⟨none, 0, 0, .slice A9 n0 c9, L⟩, ⟨none, 0, 0, .slice O n0 oc, L1⟩, ⟨some r, Z, 0, v1, l0⟩] [(A0, l0)] wr) (fun i _ => n0 - (intOf i).toNat)
      case atStart => exact ⟨0, _, Nat.zero_le _, rfl, HL0.out, HK.out⟩
      case round =>
        obtain ⟨m, L, hm, rfl, hL, hk⟩ := hrel
        clear HK
        have HK := Lib.hid hk
        have HL := Lib.hid hL
        clear hk hL
        by_cases hlt : m < n0
        · have ho : Own wr 0 (.slice A9 n0 c9) L := (HK.out.entAt 0 rfl).own
          obtain ⟨g, hg⟩ := ho.row (by have := HL.out; omega)
          subst hg
          have hcell := ho.cell (k := m) (by have := HL.out; omega)
          clear ho
          have i1 : (0 : Int) ≤ (m : Int) := by omega
          have i2 : (m : Int) < (n0 : Int) := by omega
          have hmb : m ≤ 400 := by have := HN0.out; omega
          generalize ((L.getD m 0).toNat : Int) = x at hcell
          obtain ⟨d8, hd8⟩ := u8_of (x + 1)
          go_wp2_with (first
            | (refine store_b HK.out 0 rfl HL.out (k := m) (by omega) d8 rfl rfl rfl _ _ rfl rfl rfl ?_; intro u hk; simp only [List.set_cons_zero] at hk; clear hcell; clear HK; have HK := Lib.hid hk; clear hk))
          go_roundw
          case rel => exact ⟨m + 1, L.set m d8, by omega, by go_num, by rw [List.length_set]; exact HL.out, HK.out⟩
          case measure => simp [intOf]; omega
        · obtain rfl : n0 = m := by omega
          clear hlt hm
          go_wp2_with (first
            | (go_at_call 18; (with_reducible refine (sync_no _).mono ?_); rintro e u ⟨rfl, rfl⟩)
            | (go_at_call 16; (with_reducible refine (crash_no _ _ _).mono ?_); rintro e u ⟨rfl, rfl⟩))
          refine Draws.start (S := fun u' : World => Kf w (fun _ => False) [] [⟨none, 0, 0, .slice A9 n0 c9, L⟩, ⟨none, 0, 0, .slice O n0 oc, L1⟩, ⟨some r, Z, 0, v1, l0⟩] [(A0, l0)] u') (n := 44) 44 rfl (by kernel_rfl) ?_
          have HS := Lib.hid (show (fun u' : World => Kf w (fun _ => False) [] [⟨none, 0, 0, .slice A9 n0 c9, L⟩, ⟨none, 0, 0, .slice O n0 oc, L1⟩, ⟨some r, Z, 0, v1, l0⟩] [(A0, l0)] u') (World.drew _) from HK.out.drew)
          refine Draws.take 0 (v := ?v1) HS.out rfl (by kernel_rfl) (fun _ _ _ h => h) (Or.inl ⟨rfl, ?h1⟩) ?r1
          case h1 => intro w' hw'; go_simp; (try with_reducible rfl)
          (try simp only [Act.put, List.setIfInBounds_toArray, List.set_cons_zero, List.set_cons_succ])
          refine Draws.take 3 (v := ?v2) HS.out rfl (by kernel_rfl) (fun _ _ _ h => h) (Or.inl ⟨rfl, ?h2⟩) ?r2
          case h2 => intro w' hw'; go_simp; (try with_reducible rfl)
          (try simp only [Act.put, List.setIfInBounds_toArray, List.set_cons_zero, List.set_cons_succ])
          refine Draws.take 4 HS.out rfl (by kernel_rfl) (fun _ _ _ h => h) (yield_str (fun _ h => h.rowAt 0 rfl) HL0.out _ rfl rfl rfl) ?_
          (try simp only [Act.put, List.setIfInBounds_toArray, List.set_cons_zero, List.set_cons_succ])
          refine Draws.does 1 rfl (by kernel_rfl) rfl (fun K' hK => ?_)
          go_simp
          go_at_call 13
          refine (bytes_n _ _ _ _ _ n0 HL0.out (by have := HN0.out; omega) _ (HS.out.dk 2 rfl)).mono ?_
          rintro e u ⟨A7, c7, ⟨rfl, _⟩, hk⟩
          (try dsimp only)
          refine hK.out _ _ (fun _ => HS.out.call hk.bel) ?_
          clear hK K'
          refine Draws.more (S' := fun u' : World => Kf w (fun _ => False) [] [⟨none, 0, 0, .slice A9 n0 c9, L⟩, ⟨none, 0, 0, .slice O n0 oc, L1⟩, ⟨some r, Z, 0, v1, l0⟩] ((A7, l0) :: [(A0, l0)]) u') (fun _ h => h.look (fun _ hr => List.mem_cons_of_mem _ hr)) _ _ _ _ ?_
          have hs : Kf w (fun _ => False) [] [⟨none, 0, 0, .slice A9 n0 c9, L⟩, ⟨none, 0, 0, .slice O n0 oc, L1⟩, ⟨some r, Z, 0, v1, l0⟩] ((A7, l0) :: [(A0, l0)]) u := HS.out.makes hk
          clear HS hk
          have HS := Lib.hid hs; clear hs
          (try simp only [Act.put, List.setIfInBounds_toArray, List.set_cons_zero, List.set_cons_succ])
          refine Draws.take 2 HS.out rfl (by kernel_rfl) (fun _ _ _ h => h) (yield_str (fun _ h => h.rowAt 0 rfl) HL0.out _ rfl rfl rfl) ?_
          (try simp only [Act.put, List.setIfInBounds_toArray, List.set_cons_zero, List.set_cons_succ])
          refine Draws.take 5 HS.out rfl (by kernel_rfl) (fun _ _ _ h => h) (yield_eqs _ _ _ rfl rfl rfl rfl) ?_
          (try simp only [Act.put, List.setIfInBounds_toArray, List.set_cons_zero, List.set_cons_succ])
          refine Draws.take 6 (v := ?v3) HS.out rfl (by kernel_rfl) (fun _ _ _ h => h) (Or.inl ⟨rfl, ?h3⟩) ?r3
          case h3 => intro w' hw'; go_simp; (try with_reducible rfl)
          (try simp only [Act.put, List.setIfInBounds_toArray, List.set_cons_zero, List.set_cons_succ])
          refine Draws.take 7 (v := ?v4) HS.out rfl (by kernel_rfl) (fun _ _ _ h => h) (Or.inl ⟨rfl, ?h4⟩) ?r4
          case h4 => intro w' hw'; go_simp; (try with_reducible rfl)
          (try simp only [Act.put, List.setIfInBounds_toArray, List.set_cons_zero, List.set_cons_succ])
          refine Draws.take 8 (v := ?v5) HS.out rfl (by kernel_rfl) (fun _ _ _ h => h) (Or.inl ⟨rfl, ?h5⟩) ?r5
          case h5 => intro w' hw'; go_simp; (try with_reducible rfl)
          (try simp only [Act.put, List.setIfInBounds_toArray, List.set_cons_zero, List.set_cons_succ])
          refine Draws.does 9 rfl (by kernel_rfl) rfl (fun K' hK => ?_)
          go_simp
          go_at_call 17
          refine (append_no _ _ _ _).mono ?_
          rintro e u ⟨rfl, rfl⟩
          (try dsimp only)
          refine hK.out _ _ (fun _ => HS.out) ?_
          clear hK K'
          (try simp only [Act.put, List.setIfInBounds_toArray, List.set_cons_zero, List.set_cons_succ])
          refine Draws.take 10 HS.out rfl (by kernel_rfl) (fun _ _ _ h => h) (yield_eqt rfl _ _ _ rfl rfl rfl rfl) ?_
          (try simp only [Act.put, List.setIfInBounds_toArray, List.set_cons_zero, List.set_cons_succ])
          refine Draws.take 11 (v := ?v6) HS.out rfl (by kernel_rfl) (fun _ _ _ h => h) (Or.inl ⟨rfl, ?h6⟩) ?r6
          case h6 => intro w' hw'; go_simp; (try with_reducible rfl)
          (try simp only [Act.put, List.setIfInBounds_toArray, List.set_cons_zero, List.set_cons_succ])
          refine Draws.take 12 (v := ?v7) HS.out rfl (by kernel_rfl) (fun _ _ _ h => h) (Or.inl ⟨rfl, ?h7⟩) ?r7
          case h7 => intro w' hw'; go_simp; (try with_reducible rfl)
          (try simp only [Act.put, List.setIfInBounds_toArray, List.set_cons_zero, List.set_cons_succ])
          refine Draws.take 13 (v := ?v8) HS.out rfl (by kernel_rfl) (fun _ _ _ h => h) (Or.inl ⟨rfl, ?h8⟩) ?r8
          case h8 => intro w' hw'; go_simp; (try with_reducible rfl)
          (try simp only [Act.put, List.setIfInBounds_toArray, List.set_cons_zero, List.set_cons_succ])
          refine Draws.take 14 (v := ?v9) HS.out rfl (by kernel_rfl) (fun _ _ _ h => h) (Or.inl ⟨rfl, ?h9⟩) ?r9
          case h9 => intro w' hw'; go_simp; (try with_reducible rfl)
          (try simp only [Act.put, List.setIfInBounds_toArray, List.set_cons_zero, List.set_cons_succ])
          refine Draws.does 15 rfl (by kernel_rfl) rfl (fun K' hK => ?_)
          go_simp
          go_at_call 19
          refine (swap_no _ _ _ _).mono ?_
          rintro e u ⟨rfl, rfl⟩
          (try dsimp only)
          refine hK.out _ _ (fun _ => HS.out) ?_
          clear hK K'
          (try simp only [Act.put, List.setIfInBounds_toArray, List.set_cons_zero, List.set_cons_succ])
          refine Draws.take 16 HS.out rfl (by kernel_rfl) (fun _ _ _ h => h) (yield_eqt rfl _ _ _ rfl rfl rfl rfl) ?_
          (try simp only [Act.put, List.setIfInBounds_toArray, List.set_cons_zero, List.set_cons_succ])
          refine Draws.take 17 (v := ?v10) HS.out rfl (by kernel_rfl) (fun _ _ _ h => h) (Or.inl ⟨rfl, ?h10⟩) ?r10
          case h10 => intro w' hw'; go_simp; (try with_reducible rfl)
          (try simp only [Act.put, List.setIfInBounds_toArray, List.set_cons_zero, List.set_cons_succ])
          refine Draws.take 18 (v := ?v11) HS.out rfl (by kernel_rfl) (fun _ _ _ h => h) (Or.inl ⟨rfl, ?h11⟩) ?r11
          case h11 => intro w' hw'; go_simp; (try with_reducible rfl)
          (try simp only [Act.put, List.setIfInBounds_toArray, List.set_cons_zero, List.set_cons_succ])
          refine Draws.take 19 (v := ?v12) HS.out rfl (by kernel_rfl) (fun _ _ _ h => h) (Or.inl ⟨rfl, ?h12⟩) ?r12
          case h12 => intro w' hw'; go_simp; (try with_reducible rfl)
          (try simp only [Act.put, List.setIfInBounds_toArray, List.set_cons_zero, List.set_cons_succ])
          refine Draws.take 20 (v := ?v13) HS.out rfl (by kernel_rfl) (fun _ _ _ h => h) (Or.inl ⟨rfl, ?h13⟩) ?r13
          case h13 => intro w' hw'; go_simp; (try with_reducible rfl)
          (try simp only [Act.put, List.setIfInBounds_toArray, List.set_cons_zero, List.set_cons_succ])
          refine Draws.does 21 rfl (by kernel_rfl) rfl (fun K' hK => ?_)
          go_simp
          go_at_call 20
          refine (cut_no _ _).mono ?_
          rintro e u ⟨rfl, rfl⟩
          (try dsimp only)
          refine hK.out _ _ (fun _ => HS.out) ?_
          clear hK K'
          (try simp only [Act.put, List.setIfInBounds_toArray, List.set_cons_zero, List.set_cons_succ])
          refine Draws.take 22 HS.out rfl (by kernel_rfl) (fun _ _ _ h => h) (yield_eqt rfl _ _ _ rfl rfl rfl rfl) ?_
          (try simp only [Act.put, List.setIfInBounds_toArray, List.set_cons_zero, List.set_cons_succ])
          refine Draws.take 23 (v := ?v14) HS.out rfl (by kernel_rfl) (fun _ _ _ h => h) (Or.inl ⟨rfl, ?h14⟩) ?r14
          case h14 => intro w' hw'; go_simp; (try with_reducible rfl)
          (try simp only [Act.put, List.setIfInBounds_toArray, List.set_cons_zero, List.set_cons_succ])
          refine Draws.take 24 (v := ?v15) HS.out rfl (by kernel_rfl) (fun _ _ _ h => h) (Or.inl ⟨rfl, ?h15⟩) ?r15
          case h15 => intro w' hw'; go_simp; (try with_reducible rfl)
          (try simp only [Act.put, List.setIfInBounds_toArray, List.set_cons_zero, List.set_cons_succ])
          refine Draws.take 25 (v := ?v16) HS.out rfl (by kernel_rfl) (fun _ _ _ h => h) (Or.inl ⟨rfl, ?h16⟩) ?r16
          case h16 => intro w' hw'; go_simp; (try with_reducible rfl)
          (try simp only [Act.put, List.setIfInBounds_toArray, List.set_cons_zero, List.set_cons_succ])
          refine Draws.does 26 rfl (by kernel_rfl) rfl (fun K' hK => ?_)
          go_simp
          go_at_call 13
          refine (bytes_no _).mono ?_
          rintro e u ⟨rfl, rfl⟩
          (try dsimp only)
          refine hK.out _ _ (fun _ => HS.out) ?_
          clear hK K'
          (try simp only [Act.put, List.setIfInBounds_toArray, List.set_cons_zero, List.set_cons_succ])
          refine Draws.take 27 (v := ?v17) HS.out rfl (by kernel_rfl) (fun _ _ _ h => h) (Or.inl ⟨rfl, ?h17⟩) ?r17
          case h17 => intro w' hw'; go_simp; (try with_reducible rfl)
          (try simp only [Act.put, List.setIfInBounds_toArray, List.set_cons_zero, List.set_cons_succ])
          refine Draws.take 28 HS.out rfl (by kernel_rfl) (fun _ _ _ h => h) (yield_eqi rfl _ _ _ rfl rfl rfl rfl) ?_
          (try simp only [Act.put, List.setIfInBounds_toArray, List.set_cons_zero, List.set_cons_succ])
          refine Draws.take 29 (v := ?v18) HS.out rfl (by kernel_rfl) (fun _ _ _ h => h) (Or.inl ⟨rfl, ?h18⟩) ?r18
          case h18 => intro w' hw'; go_simp; (try with_reducible rfl)
          (try simp only [Act.put, List.setIfInBounds_toArray, List.set_cons_zero, List.set_cons_succ])
          refine Draws.take 30 (v := ?v19) HS.out rfl (by kernel_rfl) (fun _ _ _ h => h) (Or.inl ⟨rfl, ?h19⟩) ?r19
          case h19 => intro w' hw'; go_simp; (try with_reducible rfl)
          (try simp only [Act.put, List.setIfInBounds_toArray, List.set_cons_zero, List.set_cons_succ])
          refine Draws.take 31 (v := ?v20) HS.out rfl (by kernel_rfl) (fun _ _ _ h => h) (Or.inl ⟨rfl, ?h20⟩) ?r20
          case h20 => intro w' hw'; go_simp; (try with_reducible rfl)
          (try simp only [Act.put, List.setIfInBounds_toArray, List.set_cons_zero, List.set_cons_succ])
          refine Draws.does 32 rfl (by kernel_rfl) rfl (fun K' hK => ?_)
          go_simp
          go_at_call 14
          refine (safe_no _).mono ?_
          rintro e u ⟨rfl, rfl⟩
          (try dsimp only)
          refine hK.out _ _ (fun _ => HS.out) ?_
          clear hK K'
          (try simp only [Act.put, List.setIfInBounds_toArray, List.set_cons_zero, List.set_cons_succ])
          refine Draws.take 33 HS.out rfl (by kernel_rfl) (fun _ _ _ h => h) (yield_eqi rfl _ _ _ rfl rfl rfl rfl) ?_
          (try simp only [Act.put, List.setIfInBounds_toArray, List.set_cons_zero, List.set_cons_succ])
          refine Draws.take 34 (v := ?v21) HS.out rfl (by kernel_rfl) (fun _ _ _ h => h) (Or.inl ⟨rfl, ?h21⟩) ?r21
          case h21 => intro w' hw'; go_simp; (try with_reducible rfl)
          (try simp only [Act.put, List.setIfInBounds_toArray, List.set_cons_zero, List.set_cons_succ])
          refine Draws.take 35 (v := ?v22) HS.out rfl (by kernel_rfl) (fun _ _ _ h => h) (Or.inl ⟨rfl, ?h22⟩) ?r22
          case h22 => intro w' hw'; go_simp; (try with_reducible rfl)
          (try simp only [Act.put, List.setIfInBounds_toArray, List.set_cons_zero, List.set_cons_succ])
          refine Draws.take 36 (v := ?v23) HS.out rfl (by kernel_rfl) (fun _ _ _ h => h) (Or.inl ⟨rfl, ?h23⟩) ?r23
          case h23 => intro w' hw'; go_simp; (try with_reducible rfl)
          (try simp only [Act.put, List.setIfInBounds_toArray, List.set_cons_zero, List.set_cons_succ])
          refine Draws.does 37 rfl (by kernel_rfl) rfl (fun K' hK => ?_)
          go_simp
          go_at_call 15
          refine (room_no _).mono ?_
          rintro e u ⟨rfl, rfl⟩
          (try dsimp only)
          refine hK.out _ _ (fun _ => HS.out) ?_
          clear hK K'
          (try simp only [Act.put, List.setIfInBounds_toArray, List.set_cons_zero, List.set_cons_succ])
          refine Draws.take 38 HS.out rfl (by kernel_rfl) (fun _ _ _ h => h) (yield_eqi rfl _ _ _ rfl rfl rfl rfl) ?_
          (try simp only [Act.put, List.setIfInBounds_toArray, List.set_cons_zero, List.set_cons_succ])
          refine Draws.take 39 (v := ?v24) HS.out rfl (by kernel_rfl) (fun _ _ _ h => h) (Or.inl ⟨rfl, ?h24⟩) ?r24
          case h24 => intro w' hw'; go_simp; (try with_reducible rfl)
          (try simp only [Act.put, List.setIfInBounds_toArray, List.set_cons_zero, List.set_cons_succ])
          refine Draws.take 40 (v := ?v25) HS.out rfl (by kernel_rfl) (fun _ _ _ h => h) (Or.inl ⟨rfl, ?h25⟩) ?r25
          case h25 => intro w' hw'; go_simp; (try with_reducible rfl)
          (try simp only [Act.put, List.setIfInBounds_toArray, List.set_cons_zero, List.set_cons_succ])
          refine Draws.does 41 rfl (by kernel_rfl) rfl (fun K' hK => ?_)
          go_simp
          go_at_call 11
          refine (awake_any _).mono ?_
          rintro e u ⟨rfl, hb⟩
          (try dsimp only)
          refine hK.out _ _ (fun _ => HS.out.call hb) ?_
          clear hK K'
          have hs := HS.out.call hb
          clear HS hb
          have HS := Lib.hid hs; clear hs
          (try simp only [Act.put, List.setIfInBounds_toArray, List.set_cons_zero, List.set_cons_succ])
          refine Draws.take 42 (v := ?v26) HS.out rfl (by kernel_rfl) (fun _ _ _ h => h) (Or.inl ⟨rfl, ?h26⟩) ?r26
          case h26 => intro w' hw'; go_simp; (try with_reducible rfl)
          (try simp only [Act.put, List.setIfInBounds_toArray, List.set_cons_zero, List.set_cons_succ])
          refine Draws.take 43 (v := ?v27) HS.out rfl (by kernel_rfl) (fun _ _ _ h => h) (Or.inl ⟨rfl, ?h27⟩) ?r27
          case h27 => intro w' hw'; go_simp; (try with_reducible rfl)
          (try simp only [Act.put, List.setIfInBounds_toArray, List.set_cons_zero, List.set_cons_succ])
          refine Draws.done (by kernel_rfl) ?_
          go_wp2_with (first
            | fail)
          go_ret
          exact ⟨rfl, HS.out.mf.bel⟩

set_option maxRecDepth 100000 in
theorem lifted (os : Os) (started : os.Started) (H : Type) (enc : TypeId × Value → H) :
    ReturnsInHanded {} Try.checked os 5 .any (Rows.diskOwnSpec.pre6 enc Try.prog Try.f5 Rows.diskOwnRow.domain false) (Rows.diskOwnSpec.post enc Try.prog Try.f5 false true false false) := by
  refine returnsInHanded_of_change (C := Try.checked) own started (by kernel_rfl) Try.func5
    (ChangeSpec.witness6 (enc := enc) (C := Try.checked) false ⟨#[], #[.slice none 0 0, .int .i64 0], []⟩ 12 (by kernel_rfl) (by kernel_rfl) (by kernel_rfl) (by kernel_rfl)) ?_
  intro W base args ds gs before hval0 hW hcnd _
  have hval : ∀ (j : Nat) t v, Try.f5.params[j]? = some t → args[j]? = some v → Value.okWide Try.prog W .any base t v := hval0
  have hW' := hW
  obtain ⟨p, q, hA0, hV, rfl, hfz, hnd⟩ := hW
  have hA : DataW.TrodAll enc Try.prog W 0 (fun _ => true) true Try.f5.params.toList args.toList ds p := hA0
  rw [Try.params5] at hA hval
  obtain ⟨v0, vs0, d0, ds0, q0, r0, hargs, rfl, rfl, h0, t0⟩ := trodAll_cons hA
  obtain ⟨v1, vs1, d1, ds1, q1, r1, rfl, rfl, rfl, h1, t1⟩ := trodAll_cons t0
  obtain ⟨rfl, rfl, rfl⟩ := trodAll_nil t1
  obtain rfl : args = #[v0, v1] := by cases args; simp_all
  obtain ⟨rfl, rfl⟩ := trodVars_none hV
  have k0 := h0
  have lt0 : ∀ x ∈ q0, x.block < W.heap.size := by obtain ⟨m, hm⟩ := k0; exact DataW.trod_lt m _ _ _ hm
  obtain ⟨A0, n0, c0, l0, rfl, hl0, hc0, hm0, hd0⟩ := open_b (hval 0 27 v0 rfl rfl) h0
  have k1 := h1
  have lt1 : ∀ x ∈ q1, x.block < W.heap.size := by obtain ⟨m, hm⟩ := k1; exact DataW.trod_lt m _ _ _ hm
  obtain ⟨a1, rfl, rfl, rfl, w1⟩ := open_int Try.underlying3 (hval 1 3 v1 rfl rfl) h1
  clear hA0 hval0
  refine (walk W A0 n0 c0 l0 hl0 hc0 hm0 hd0 a1 w1).mono fun e W' ⟨he, bel⟩ => ?_
  subst he
  exact ⟨_, rfl, _, _, _, [], _, [], hW', trodAll_mk1 (shut_bool Try.underlying4 _), (trodAll_cons_mk (Below.trod laidOut (by kernel_rfl) (of_decide_eq_true (by kernel_rfl)) k0 bel lt0) (trodAll_cons_mk (Below.trod laidOut (by kernel_rfl) (of_decide_eq_true (by kernel_rfl)) k1 bel lt1) trodAll_mk0)), rfl, bel.frame _, fun h => by cases h⟩

theorem over : Rows.diskOwnRow.holds Try.pinned (OpenSpec.ofChange Rows.diskOwnSpec) :=
  OpenClaim.holds_of_wide 5 Try.f5 rfl rfl rfl rfl rfl rfl rfl ⟨rfl, rfl, rfl, rfl, rfl⟩ rfl rfl rfl rfl rfl (by kernel_rfl) Try.func5 (by kernel_rfl)
    (of_decide_eq_true (by kernel_rfl)) (by unfold Func.isWrapper; first | (rw [if_pos (by decide +kernel)]; kernel_rfl) | (rw [if_neg (by decide +kernel)]; exact ⟨rfl, rfl⟩))
    (fun os started H enc _ => lifted os started H enc)

theorem proved : Rows.DiskOwnSaid := over
#print axioms proved
end Go.Proofs.Ytglhjfcngpednaa.diskOwn
