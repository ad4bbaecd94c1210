/- For every int and steps usufructlaw11.DiskPlays returns true, and each argument reads as before. No condition. -/
import Derived.Test.YtglhjfcngpednaaDy
import Derived.WalkKit
import Derived.ProofKit
import Derived.OpenShut
import Derived.ShutString
import Derived.ChangeOld
import Derived.Below
namespace Go.Proofs.Ytglhjfcngpednaa.diskPlays
open Go.ChangeShapes Go.WideShapes Go.ChangeAt Go.RowKit
set_option linter.unusedVariables false

theorem own : ownKnob Try.prog.godebug = none := by kernel_rfl
theorem laidOut : laidOutB Try.prog = true := by kernel_rfl

set_option maxRecDepth 100000 in
set_option maxHeartbeats 4000000 in
theorem walk (w : World) (a0 : Int) (w0 : (Lit.int .i64 a0).wf = true) (A1 : Option Addr) (n1 c1 : Nat) (L1 : List Sp) (hd1 : Steps w A1 n1 L1) :
    Calls Try.prog 3 #[.int .i64 a0, .slice A1 n1 c1] w fun e w' => e = .returned (.bool true) ∧ Below w.heap.size w w' := by
  have HK := Lib.hid (Kf.start w)
  by_cases hs0 : a0 < 0
  · have HS0 := Lib.hid (show a0 < 0 ∨ 16384 < a0 from .inl hs0)
    have j1 : decide (a0 < 0) = true := by simpa using hs0
    go_enter Try.func3, Try.ntmps3
    go_wp2_with (first
      | (go_at_call 9; (with_reducible refine (new_none a0 HS0.out _).mono ?_); rintro e u ⟨rfl, rfl⟩)
      | (go_at_call 11; (with_reducible refine (awake_any _).mono ?_); rintro e u ⟨rfl, hb⟩; have hk := HK.out.call hb; clear hb; clear HK; have HK := Lib.hid hk; clear hk))
    go_ret
    exact ⟨rfl, HK.out.mf.bel⟩
  by_cases hs1 : 16384 < a0
  · have HS0 := Lib.hid (show a0 < 0 ∨ 16384 < a0 from .inr hs1)
    have j1 : decide (a0 < 0) = false := by simpa using hs0
    have j2 : decide ((16384 : Int) < a0) = true := by simpa using hs1
    go_enter Try.func3, Try.ntmps3
    go_wp2_with (first
      | (go_at_call 9; (with_reducible refine (new_none a0 HS0.out _).mono ?_); rintro e u ⟨rfl, rfl⟩)
      | (go_at_call 11; (with_reducible refine (awake_any _).mono ?_); rintro e u ⟨rfl, hb⟩; have hk := HK.out.call hb; clear hb; clear HK; have HK := Lib.hid hk; clear hk))
    go_ret
    exact ⟨rfl, HK.out.mf.bel⟩
  obtain ⟨s, rfl⟩ : ∃ s : Nat, a0 = (s : Int) := ⟨a0.toNat, by omega⟩
  have hs1 : s ≤ 16384 := by omega
  obtain ⟨z, hz⟩ : ∃ z : Nat, z = 64 * s := ⟨_, rfl⟩
  have hN := new_any s hs1
  rw [← hz] at hN
  have HNEW := Lib.hid hN
  have hwz : IntKind.i64.wrap (64 * (s : Int)) = (z : Int) := by rw [IntKind.wrap_i64]; omega
  have HZ := Lib.hid (show z ≤ 1048576 by omega)
  have HZS := Lib.hid hz
  have j1 : decide ((s : Int) < 0) = false := by simp
  have j2 : decide ((16384 : Int) < (s : Int)) = false := by simp; omega
  have j3 : ¬ (s : Int) < 0 := by omega
  have j4 : ¬ (16384 : Int) < (s : Int) := by omega
  clear hN hz hs0 w0
  have HST := Lib.hid hd1
  clear hd1
  by_cases hp : ¬ (n1 ≤ 30 ∧ ∀ s ∈ L1, s.b.length ≤ 400)
  · have HP := Lib.hid hp
    clear hp
    go_enter Try.func3, Try.ntmps3
    go_wp2_with (first
      | (go_at_call 9; (with_reducible refine (HNEW.out _).mono ?_); rintro e u ⟨r, rfl, hr, hd, hb⟩; have hk := HK.out.newDisk hb hr hd; clear hr hd hb; clear HK; have HK := Lib.hid hk; clear hk)
      | (go_at_call 10; (with_reducible refine (few_no _ _ _ _ _ (HST.out.below HK.out.mf.bel) HP.out).mono ?_); rintro e u ⟨rfl, hb⟩; have hk := HK.out.call hb; clear hb; clear HK; have HK := Lib.hid hk; clear hk)
      | (go_at_call 11; (with_reducible refine (awake_any _).mono ?_); rintro e u ⟨rfl, hb⟩; have hk := HK.out.call hb; clear hb; clear HK; have HK := Lib.hid hk; clear hk))
    go_ret
    exact ⟨rfl, HK.out.mf.bel⟩
  have HP := Lib.hid (Classical.not_not.1 hp)
  clear hp
  clear j1 j2 j3 j4 hs1
  have hb1 := r_build1 z
  go_enter Try.func3, Try.ntmps3
  go_wp2_with (first
    | (go_at_call 9; (with_reducible refine (HNEW.out _).mono ?_); rintro e u ⟨r, rfl, hr, hd, hb⟩; have hk := HK.out.newDisk hb hr hd; clear hr hd hb; clear HK; have HK := Lib.hid hk; clear hk)
    | (go_at_call 10; (with_reducible refine (few_yes _ _ _ _ _ (HST.out.below HK.out.mf.bel) HP.out).mono ?_); rintro e u ⟨rfl, hb⟩; have hk := HK.out.call hb; clear hb; clear HK; have HK := Lib.hid hk; clear hk)
    | ((with_reducible refine alloc_k HK.out rfl r_zero rfl rfl rfl ?_); intro b6 u hk; clear HK; have HK := Lib.hid hk; clear hk)
    | ((with_reducible refine store_kr (xs := [.int .i64 z, .int .i64 0, .slice none 0 0]) HK.out 0 r_info rfl rfl _ _ rfl rfl rfl rfl (by simp) (by simp) (by simp [noU, isU]) (by simp [Value.oneCell']) ?_); intro u hk; simp only [List.set_cons_zero] at hk; clear HK; have HK := Lib.hid hk; clear hk))
  have hks : KS w r z b6 0 0 0 [] (.slice none 0 0) none u := ⟨HK.out.also (.inl rfl) (by simp), rfl, Nat.le_refl _, Nat.le_refl _, Nat.zero_le _⟩
  clear HK
  have HKS := Lib.hid hks
  clear hks
  go_loopw [37] (fun i wr => ∃ (m f nb cb : Nat) (d : List UInt8) (v : Value) (B : Option Addr), m ≤ n1 ∧ i = .int .i64 (m : Int) ∧ KS w r z b6 f nb cb d v B wr) (fun i _ => n1 - (intOf i).toNat)
  case atStart => exact ⟨0, 0, 0, 0, [], _, none, Nat.zero_le _, rfl, HKS.out⟩
  case round =>
    obtain ⟨m, f, nb, cb, d, v, B, hm, rfl, hks⟩ := hrel
    clear HKS
    have HK := Lib.hid hks.kf
    have HL := Lib.hid hks.hl; have HCB := Lib.hid hks.hc; have HFN := Lib.hid hks.hf; have HNZ := Lib.hid hks.hz
    clear hks
    by_cases hlt : m < n1
    · have hmx : n1 ≤ 9223372036854775807 := HST.out.2.1
      obtain ⟨b, off, s, hA, hs, hr, hsb, _⟩ := HST.out.one hlt
      have hsl := HP.out.2 s (List.mem_of_getElem? hs)
      subst hA
      have hrr := Below.rangeAt HK.out.mf.bel hr (cell_lt (hr 0 _ rfl))
      have HR := Lib.hid hrr
      have hk := HK.out.old hsb
      clear HK
      have HK := Lib.hid hk
      have HSL := Lib.hid hsl
      have i1 : (0 : Int) ≤ (m : Int) := by omega
      have i2 : (m : Int) < (n1 : Int) := by omega
      clear hs hr hrr hsl hk hsb
      go_wp2_with (first
        | (with_reducible refine load_at Try.underlying31 rfl s_info HR.out (by simp [Sp.cells]) _ rfl rfl rfl ?_)
        | ((with_reducible refine alloc_k HK.out rfl s_zero rfl rfl rfl ?_); intro b8 u hk; clear HK; have HK := Lib.hid hk; clear hk)
        | ((with_reducible refine store_kr (xs := s.cells) HK.out 0 s_info rfl rfl _ _ rfl rfl rfl rfl (by simp) (by simp [Sp.cells]) (by simp [Sp.cells, noU, isU]) (by simp [Sp.cells, Value.oneCell']) ?_); intro u hk; simp only [List.set_cons_zero] at hk; clear HK; have HK := Lib.hid hk; clear hk)
        | (with_reducible refine load_kr HK.out 0 Try.underlying31 rfl s_info _ rfl rfl (by simp [Sp.cells]) rfl rfl ?_)
        | (with_reducible refine load_kr HK.out 1 Try.underlying29 rfl r_info _ rfl rfl rfl rfl rfl ?_)
        | (go_at_call 12; (refine (does_any _ r z f f v d B nb cb d s (HK.out.din 0 rfl 1 0 rfl rfl HZ.out (by have := HL.out; have := HNZ.out; omega) (by have := HL.out; have := HFN.out; omega) HL.out HNZ.out HCB.out HFN.out rfl (by have := HSL.out; omega))).mono ?_); rintro e u ⟨B', n', c', bo, v', rfl, hl', hc', hbo, hd', hm', hb', hf'⟩; obtain rfl := hbo ⟨rfl, rfl⟩; have hk := (HK.out.disk 0 rfl hm' hd').also hb' (fun h0 a ha e he => by simp only [List.set_cons_zero, List.mem_singleton] at he; subst he; exact hf' h0 a ha); simp only [List.set_cons_zero] at hk; have hin := step_inv (z := z) (f := f) (d := d) (by have := HL.out; have := HFN.out; omega) (by have := HL.out; have := HNZ.out; omega) s; have HIN := Lib.hid hin; have HL' := Lib.hid hl'; have HC' := Lib.hid hc'; clear hd' hm' hb' hf' hin hl' hc' hbo; clear HK; have HK := Lib.hid hk; clear hk; generalize nF z f d s = f1 at *; generalize nD z f d s = d1 at *)
        | ((with_reducible refine alloc_k HK.out rfl r_zero rfl rfl rfl ?_); intro b9 u hk; clear HK; have HK := Lib.hid hk; clear hk)
        | ((with_reducible refine store_kr (xs := [.int .i64 z, .int .i64 (f1 : Int), .slice B' n' c']) HK.out 0 r_info rfl rfl _ _ rfl rfl rfl rfl (by simp) (by simp) (by simp [noU, isU]) (by simp [Value.oneCell']) ?_); intro u hk; simp only [List.set_cons_zero] at hk; clear HK; have HK := Lib.hid hk; clear hk)
        | (with_reducible refine load_kr HK.out 0 Try.underlying29 rfl r_info _ rfl rfl rfl rfl rfl ?_)
        | ((with_reducible refine store_kr (xs := [.int .i64 z, .int .i64 (f1 : Int), .slice B' n' c']) HK.out 2 r_info rfl rfl _ _ rfl rfl rfl rfl (by simp) (by simp) (by simp [noU, isU]) (by simp [Value.oneCell']) ?_); intro u hk; simp only [List.set_cons_zero, List.set_cons_succ] at hk; clear HK; have HK := Lib.hid hk; clear hk))
      have HSUB := Lib.hid (show IntKind.i64.wrap ((z : Int) - (n' : Int)) = (z : Int) - n' by have := HIN.out; have := HL'.out; have := HZ.out; rw [IntKind.wrap_i64]; omega)
      refine Draws.start (S := fun u' : World => Kf w (fun _ => False) [(b9, 29, [.int .i64 z, .int .i64 (f1 : Int), .slice B' n' c']), (b8, 31, s.cells), (b6, 29, [.int .i64 z, .int .i64 (f1 : Int), .slice B' n' c'])] [⟨some r, z, f1, v', d1⟩] [(B', d1), (s.A, s.b), (B, d)] u') (n := 29) 29 rfl (by kernel_rfl) ?_
      have HS := Lib.hid (show (fun u' : World => Kf w (fun _ => False) [(b9, 29, [.int .i64 z, .int .i64 (f1 : Int), .slice B' n' c']), (b8, 31, s.cells), (b6, 29, [.int .i64 z, .int .i64 (f1 : Int), .slice B' n' c'])] [⟨some r, z, f1, v', d1⟩] [(B', d1), (s.A, s.b), (B, d)] u') (World.drew _) from HK.out.drew)
      refine Draws.take 0 (v := ?v1) HS.out rfl (by kernel_rfl) (fun _ _ _ h => h) (Or.inl ⟨rfl, ?h1⟩) ?r1
      case h1 => intro w' hw'; go_simp; (try with_reducible rfl)
      (try simp only [Act.put, List.setIfInBounds_toArray, List.set_cons_zero, List.set_cons_succ])
      refine Draws.take 1 (v := ?v2) HS.out rfl (by kernel_rfl) (fun _ _ _ h => h) (Or.inl ⟨rfl, ?h2⟩) ?r2
      case h2 => intro w' hw'; go_simp; (try with_reducible rfl)
      (try simp only [Act.put, List.setIfInBounds_toArray, List.set_cons_zero, List.set_cons_succ])
      refine Draws.take 2 (v := ?v3) HS.out rfl (by kernel_rfl) (fun _ _ _ h => h) (Or.inl ⟨rfl, ?h3⟩) ?r3
      case h3 => intro w' hw'; go_simp; (try with_reducible rfl)
      (try simp only [Act.put, List.setIfInBounds_toArray, List.set_cons_zero, List.set_cons_succ])
      refine Draws.take 3 (v := ?v4) HS.out rfl (by kernel_rfl) (fun _ _ _ h => h) (Or.inl ⟨rfl, ?h4⟩) ?r4
      case h4 => intro w' hw'; go_simp; (try with_reducible rfl)
      (try simp only [Act.put, List.setIfInBounds_toArray, List.set_cons_zero, List.set_cons_succ])
      refine Draws.take 6 (v := ?v5) HS.out rfl (by kernel_rfl) (fun _ _ _ h => h) (Or.inl ⟨rfl, ?h5⟩) ?r5
      case h5 => intro w' hw'; go_simp; (try with_reducible rfl)
      (try simp only [Act.put, List.setIfInBounds_toArray, List.set_cons_zero, List.set_cons_succ])
      refine Draws.take 7 HS.out rfl (by kernel_rfl) (fun _ _ _ h => h) (yield_c rfl (fun _ h => (h.get 2 rfl).cell rfl) _ rfl rfl rfl) ?_
      (try simp only [Act.put, List.setIfInBounds_toArray, List.set_cons_zero, List.set_cons_succ])
      refine Draws.take 8 HS.out rfl (by kernel_rfl) (fun _ _ _ h => h) (yield_str (fun _ h => h.rowAt 0 rfl) HL'.out _ rfl rfl rfl) ?_
      (try simp only [Act.put, List.setIfInBounds_toArray, List.set_cons_zero, List.set_cons_succ])
      refine Draws.does 4 rfl (by kernel_rfl) rfl (fun K' hK => ?_)
      go_simp
      go_at_call 13
      refine (bytes_n _ _ _ _ _ n' HL'.out (by have := HIN.out; have := HL'.out; have := HZ.out; omega) _ (HS.out.dk 0 rfl)).mono ?_
      rintro e u ⟨A7, c7, ⟨rfl, _⟩, hk⟩
      (try dsimp only)
      refine hK.out _ _ (fun _ => HS.out.call hk.bel) ?_
      clear hK K'
      refine Draws.more (S' := fun u' : World => Kf w (fun _ => False) [(b9, 29, [.int .i64 z, .int .i64 (f1 : Int), .slice B' n' c']), (b8, 31, s.cells), (b6, 29, [.int .i64 z, .int .i64 (f1 : Int), .slice B' n' c'])] [⟨some r, z, f1, v', d1⟩] ((A7, d1) :: [(B', d1), (s.A, s.b), (B, d)]) u') (fun _ h => h.look (fun _ hr => List.mem_cons_of_mem _ hr)) _ _ _ _ ?_
      have hs : Kf w (fun _ => False) [(b9, 29, [.int .i64 z, .int .i64 (f1 : Int), .slice B' n' c']), (b8, 31, s.cells), (b6, 29, [.int .i64 z, .int .i64 (f1 : Int), .slice B' n' c'])] [⟨some r, z, f1, v', d1⟩] ((A7, d1) :: [(B', d1), (s.A, s.b), (B, d)]) u := HS.out.makes hk
      clear HS hk
      have HS := Lib.hid hs; clear hs
      (try simp only [Act.put, List.setIfInBounds_toArray, List.set_cons_zero, List.set_cons_succ])
      refine Draws.take 5 HS.out rfl (by kernel_rfl) (fun _ _ _ h => h) (yield_str (fun _ h => h.rowAt 0 rfl) HL'.out _ rfl rfl rfl) ?_
      (try simp only [Act.put, List.setIfInBounds_toArray, List.set_cons_zero, List.set_cons_succ])
      refine Draws.take 9 HS.out rfl (by kernel_rfl) (fun _ _ _ h => h) (yield_nes _ _ _ rfl rfl rfl rfl) ?_
      (try simp only [Act.put, List.setIfInBounds_toArray, List.set_cons_zero, List.set_cons_succ])
      refine Draws.take 10 (v := ?v6) HS.out rfl (by kernel_rfl) (fun _ _ _ h => h) (Or.inl ⟨rfl, ?h6⟩) ?r6
      case h6 => intro w' hw'; go_simp; (try with_reducible rfl)
      (try simp only [Act.put, List.setIfInBounds_toArray, List.set_cons_zero, List.set_cons_succ])
      refine Draws.take 11 (v := ?v7) HS.out rfl (by kernel_rfl) (fun _ _ _ h => h) (Or.inl ⟨rfl, ?h7⟩) ?r7
      case h7 => intro w' hw'; go_simp; (try with_reducible rfl)
      (try simp only [Act.put, List.setIfInBounds_toArray, List.set_cons_zero, List.set_cons_succ])
      refine Draws.take 12 (v := ?v8) HS.out rfl (by kernel_rfl) (fun _ _ _ h => h) (Or.inl ⟨rfl, ?h8⟩) ?r8
      case h8 => intro w' hw'; go_simp; (try with_reducible rfl)
      (try simp only [Act.put, List.setIfInBounds_toArray, List.set_cons_zero, List.set_cons_succ])
      refine Draws.take 14 (v := ?v9) HS.out rfl (by kernel_rfl) (fun _ _ _ h => h) (Or.inl ⟨rfl, ?h9⟩) ?r9
      case h9 => intro w' hw'; go_simp; (try with_reducible rfl)
      (try simp only [Act.put, List.setIfInBounds_toArray, List.set_cons_zero, List.set_cons_succ])
      refine Draws.take 15 HS.out rfl (by kernel_rfl) (fun _ _ _ h => h) (yield_c rfl (fun _ h => (h.get 2 rfl).cell rfl) _ rfl rfl rfl) ?_
      (try simp only [Act.put, List.setIfInBounds_toArray, List.set_cons_zero, List.set_cons_succ])
      refine Draws.does 13 rfl (by kernel_rfl) rfl (fun K' hK => ?_)
      go_simp
      go_at_call 14
      refine (safe_any _ _ _ _ _ _ (HS.out.dk 0 rfl)).mono ?_
      rintro e u ⟨rfl, rfl⟩
      (try dsimp only)
      refine hK.out _ _ (fun _ => HS.out) ?_
      clear hK K'
      (try simp only [Act.put, List.setIfInBounds_toArray, List.set_cons_zero, List.set_cons_succ])
      refine Draws.take 16 HS.out rfl (by kernel_rfl) (fun _ _ _ h => h) (yield_nei rfl _ _ _ rfl rfl rfl rfl) ?_
      (try simp only [Act.put, List.setIfInBounds_toArray, List.set_cons_zero, List.set_cons_succ])
      refine Draws.take 17 (v := ?v10) HS.out rfl (by kernel_rfl) (fun _ _ _ h => h) (Or.inl ⟨rfl, ?h10⟩) ?r10
      case h10 => intro w' hw'; go_simp; (try with_reducible rfl)
      (try simp only [Act.put, List.setIfInBounds_toArray, List.set_cons_zero, List.set_cons_succ])
      refine Draws.take 18 (v := ?v11) HS.out rfl (by kernel_rfl) (fun _ _ _ h => h) (Or.inl ⟨rfl, ?h11⟩) ?r11
      case h11 => intro w' hw'; go_simp; (try with_reducible rfl)
      (try simp only [Act.put, List.setIfInBounds_toArray, List.set_cons_zero, List.set_cons_succ])
      refine Draws.take 19 (v := ?v12) HS.out rfl (by kernel_rfl) (fun _ _ _ h => h) (Or.inl ⟨rfl, ?h12⟩) ?r12
      case h12 => intro w' hw'; go_simp; (try with_reducible rfl)
      (try simp only [Act.put, List.setIfInBounds_toArray, List.set_cons_zero, List.set_cons_succ])
      refine Draws.take 21 (v := ?v13) HS.out rfl (by kernel_rfl) (fun _ _ _ h => h) (Or.inl ⟨rfl, ?h13⟩) ?r13
      case h13 => intro w' hw'; go_simp; (try with_reducible rfl)
      (try simp only [Act.put, List.setIfInBounds_toArray, List.set_cons_zero, List.set_cons_succ])
      refine Draws.take 22 HS.out rfl (by kernel_rfl) (fun _ _ _ h => h) (yield_c rfl (fun _ h => (h.get 2 rfl).cell rfl) _ rfl rfl rfl) ?_
      (try simp only [Act.put, List.setIfInBounds_toArray, List.set_cons_zero, List.set_cons_succ])
      refine Draws.take 23 (v := ?v14) HS.out rfl (by kernel_rfl) (fun _ _ _ h => h) (Or.inl ⟨rfl, ?h14⟩) ?r14
      case h14 => intro w' hw'; go_simp; (try with_reducible rfl)
      (try simp only [Act.put, List.setIfInBounds_toArray, List.set_cons_zero, List.set_cons_succ])
      refine Draws.take 24 HS.out rfl (by kernel_rfl) (fun _ _ _ h => h) (yield_c rfl (fun _ h => (h.get 2 rfl).cell rfl) _ rfl rfl rfl) ?_
      (try simp only [Act.put, List.setIfInBounds_toArray, List.set_cons_zero, List.set_cons_succ])
      refine Draws.take 25 (v := ?v15) HS.out rfl (by kernel_rfl) (fun _ _ _ h => h) (Or.inl ⟨rfl, ?h15⟩) ?r15
      case h15 => intro w' hw'; go_simp; (try with_reducible rfl)
      (try simp only [Act.put, List.setIfInBounds_toArray, List.set_cons_zero, List.set_cons_succ])
      refine Draws.take 26 HS.out rfl (by kernel_rfl) (fun _ _ _ h => h) (yield_sub HSUB.out _ _ _ rfl rfl rfl rfl) ?_
      (try simp only [Act.put, List.setIfInBounds_toArray, List.set_cons_zero, List.set_cons_succ])
      refine Draws.does 20 rfl (by kernel_rfl) rfl (fun K' hK => ?_)
      go_simp
      go_at_call 15
      refine (room_any _ _ _ _ _ _ (HS.out.dk 0 rfl) _ HL'.out (by have := HIN.out; have := HL'.out; omega) (by have := HZ.out; omega)).mono ?_
      rintro e u ⟨rfl, q, rfl⟩
      (try dsimp only)
      refine hK.out _ _ (fun _ => HS.out.drewN q) ?_
      clear hK K'
      have hs := HS.out.drewN q
      clear HS
      have HS := Lib.hid hs; clear hs
      generalize World.drewN _ q = u at *
      (try simp only [Act.put, List.setIfInBounds_toArray, List.set_cons_zero, List.set_cons_succ])
      refine Draws.take 27 HS.out rfl (by kernel_rfl) (fun _ _ _ h => h) (yield_nei rfl _ _ _ rfl rfl rfl rfl) ?_
      (try simp only [Act.put, List.setIfInBounds_toArray, List.set_cons_zero, List.set_cons_succ])
      refine Draws.take 28 (v := ?v16) HS.out rfl (by kernel_rfl) (fun _ _ _ h => h) (Or.inl ⟨rfl, ?h16⟩) ?r16
      case h16 => intro w' hw'; go_simp; (try with_reducible rfl)
      (try simp only [Act.put, List.setIfInBounds_toArray, List.set_cons_zero, List.set_cons_succ])
      refine Draws.done (by kernel_rfl) ?_
      go_wp2_with (first
        | fail)
      go_roundw
      case rel => exact ⟨m + 1, f1, n', c', d1, v', B', by omega, by go_num, ⟨HS.out.tail.tail.look (by simp), HL'.out, HC'.out, by have := HIN.out; have := HL'.out; omega, by have := HIN.out; have := HL'.out; omega⟩⟩
      case measure => simp [intOf]; omega
    · obtain rfl : m = n1 := by omega
      clear hlt hm
      go_wp2_with (first
        | (go_at_call 11; (with_reducible refine (awake_any _).mono ?_); rintro e u ⟨rfl, hb⟩; have hk := HK.out.call hb; clear hb; clear HK; have HK := Lib.hid hk; clear hk))
      go_ret
      exact ⟨rfl, HK.out.mf.bel⟩

set_option maxRecDepth 100000 in
theorem lifted (os : Os) (started : os.Started) (H : Type) (enc : TypeId × Value → H) :
    ReturnsInHanded {} Try.checked os 3 .any (Rows.diskPlaysSpec.pre6 enc Try.prog Try.f3 Rows.diskPlaysRow.domain false) (Rows.diskPlaysSpec.post enc Try.prog Try.f3 false true false false) := by
  refine returnsInHanded_of_change (C := Try.checked) own started (by kernel_rfl) Try.func3
    (ChangeSpec.witness6 (enc := enc) (C := Try.checked) false ⟨#[], #[.int .i64 0, .slice none 0 0], []⟩ 12 (by kernel_rfl) (by kernel_rfl) (by kernel_rfl) (by kernel_rfl)) ?_
  intro W base args ds gs before hval0 hW hcnd _
  have hval : ∀ (j : Nat) t v, Try.f3.params[j]? = some t → args[j]? = some v → Value.okWide Try.prog W .any base t v := hval0
  have hW' := hW
  obtain ⟨p, q, hA0, hV, rfl, hfz, hnd⟩ := hW
  have hA : DataW.TrodAll enc Try.prog W 0 (fun _ => true) true Try.f3.params.toList args.toList ds p := hA0
  rw [Try.params3] at hA hval
  obtain ⟨v0, vs0, d0, ds0, q0, r0, hargs, rfl, rfl, h0, t0⟩ := trodAll_cons hA
  obtain ⟨v1, vs1, d1, ds1, q1, r1, rfl, rfl, rfl, h1, t1⟩ := trodAll_cons t0
  obtain ⟨rfl, rfl, rfl⟩ := trodAll_nil t1
  obtain rfl : args = #[v0, v1] := by cases args; simp_all
  obtain ⟨rfl, rfl⟩ := trodVars_none hV
  have k0 := h0
  have lt0 : ∀ x ∈ q0, x.block < W.heap.size := by obtain ⟨m, hm⟩ := k0; exact DataW.trod_lt m _ _ _ hm
  obtain ⟨a0, rfl, rfl, rfl, w0⟩ := open_int Try.underlying3 (hval 0 3 v0 rfl rfl) h0
  have k1 := h1
  have lt1 : ∀ x ∈ q1, x.block < W.heap.size := by obtain ⟨m, hm⟩ := k1; exact DataW.trod_lt m _ _ _ hm
  obtain ⟨A1, n1, c1, L1, rfl, hd1⟩ := open_steps (hval 1 22 v1 rfl rfl) h1
  clear hA0 hval0
  refine (walk W a0 w0 A1 n1 c1 L1 hd1).mono fun e W' ⟨he, bel⟩ => ?_
  subst he
  exact ⟨_, rfl, _, _, _, [], _, [], hW', trodAll_mk1 (shut_bool Try.underlying4 _), (trodAll_cons_mk (Below.trod laidOut (by kernel_rfl) (of_decide_eq_true (by kernel_rfl)) k0 bel lt0) (trodAll_cons_mk (Below.trod laidOut (by kernel_rfl) (of_decide_eq_true (by kernel_rfl)) k1 bel lt1) trodAll_mk0)), rfl, bel.frame _, fun h => by cases h⟩

theorem over : Rows.diskPlaysRow.holds Try.pinned (OpenSpec.ofChange Rows.diskPlaysSpec) :=
  OpenClaim.holds_of_wide 3 Try.f3 rfl rfl rfl rfl rfl rfl rfl ⟨rfl, rfl, rfl, rfl, rfl⟩ rfl rfl rfl rfl rfl (by kernel_rfl) Try.func3 (by kernel_rfl)
    (of_decide_eq_true (by kernel_rfl)) (by unfold Func.isWrapper; first | (rw [if_pos (by decide +kernel)]; kernel_rfl) | (rw [if_neg (by decide +kernel)]; exact ⟨rfl, rfl⟩))
    (fun os started H enc _ => lifted os started H enc)

theorem proved : Rows.DiskPlaysSaid := over
#print axioms proved
end Go.Proofs.Ytglhjfcngpednaa.diskPlays
