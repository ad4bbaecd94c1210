/- Words of four bytes: coded, decoded, and the document's four and number. -/
import Derived.Test.YtnbhgnkkedainaaDoorFr
import Derived.Deep.QuietTactic
import Derived.BigQuiet
namespace Go.Proofs.YtnbhgnkkedainaaDoor
open Go.ChangeShapes Go.WideShapes Go.ChangeAt Go.RowKit

theorem cod_cells {n : Nat} {a b c d : Int} (ha : a = ((n % 256 : Nat) : Int)) (hb : b = ((n / 256 % 256 : Nat) : Int)) (hc : c = ((n / 65536 % 256 : Nat) : Int)) (hd : d = ((n / 16777216 % 256 : Nat) : Int)) :
    #[Value.int .u8 a, .int .u8 b, .int .u8 c, .int .u8 d] = (bys (cod n)).toArray := by
  subst ha; subst hb; subst hc; subst hd
  simp [bys, cod]
theorem makes_new (w : World) (cs : Array Value) (l : List UInt8) (h : cs = (bys l).toArray) (hm : l.length ≤ maxLen) : Makes w l (.returned (.slice (some ⟨w.heap.size, 0, none⟩) l.length l.length)) (w.alloc (.cells cs 5)) := makes_of (ko_new w cs l h hm)
theorem coded_any (n : Nat) (hn : n < 4294967296) (w : World) : Calls Tryd.prog 42 #[.int .u32 (n : Int)] w (Makes w (cod n)) := by
  go_enter Tryd.func42, Tryd.ntmps42
  go_wp2
  go_ret
  exact makes_new w _ (cod n) (cod_cells (by omega) (by omega) (by omega) (by omega)) (by simp [cod, maxLen])
theorem or_add {i a y : Nat} (h : a < 2 ^ i) (ht : a + y * 2 ^ i < 4294967296) : bits .or .u32 (a : Int) ((y * 2 ^ i : Nat) : Int) = ((a + y * 2 ^ i : Nat) : Int) := by
  have e := Nat.two_pow_add_eq_or_of_lt h y
  have h1 := u32_or_nat a (y * 2 ^ i) (by omega) (by omega)
  rw [h1, Nat.or_comm, Nat.mul_comm, ← e, Nat.add_comm]
theorem or_four {y0 y1 y2 y3 : Nat} (z0 : y0 < 256) (z1 : y1 < 256) (z2 : y2 < 256) (z3 : y3 < 256) :
    bits .or .u32 (bits .or .u32 (bits .or .u32 (y0 : Int) ((y1 : Int) * 256)) ((y2 : Int) * 65536)) ((y3 : Int) * 16777216) = ((y0 + 256 * y1 + 65536 * y2 + 16777216 * y3 : Nat) : Int) := by
  have h1 := or_add (i := 8) (a := y0) (y := y1) (by omega) (by omega)
  have h2 := or_add (i := 16) (a := y0 + y1 * 2 ^ 8) (y := y2) (by omega) (by omega)
  have h3 := or_add (i := 24) (a := y0 + y1 * 2 ^ 8 + y2 * 2 ^ 16) (y := y3) (by omega) (by omega)
  rw [show (y1 : Int) * 256 = ((y1 * 2 ^ 8 : Nat) : Int) by omega, h1, show (y2 : Int) * 65536 = ((y2 * 2 ^ 16 : Nat) : Int) by omega, h2, show (y3 : Int) * 16777216 = ((y3 * 2 ^ 24 : Nat) : Int) by omega, h3]
  omega
theorem decoded_any (A : Option Addr) (n c : Nat) (l : List UInt8) (hn : l.length = n) (h4 : 4 ≤ n) (w : World) (hd : Bys w A l) :
    Calls Tryd.prog 39 #[.slice A n c] w fun e w' => e = .returned (.int .u32 (dcd l : Int)) ∧ ∃ q, w' = w.drewN q := by
  subst hn
  obtain ⟨b, off, rfl, c0⟩ := hd.at (k := 0) (by omega)
  obtain ⟨b', off', e', c1⟩ := hd.at (k := 1) (by omega)
  injection e' with e'; injection e' with e1 e2; subst e1; subst e2
  obtain ⟨b', off', e', c2⟩ := hd.at (k := 2) (by omega)
  injection e' with e'; injection e' with e1 e2; subst e1; subst e2
  obtain ⟨b', off', e', c3⟩ := hd.at (k := 3) (by omega)
  injection e' with e'; injection e' with e1 e2; subst e1; subst e2
  clear hd
  have HE := Lib.hid (show dcd l = (l.getD 0 0).toNat + 256 * (l.getD 1 0).toNat + 65536 * (l.getD 2 0).toNat + 16777216 * (l.getD 3 0).toNat from rfl)
  have z0 := (l.getD 0 0).toNat_lt; have z1 := (l.getD 1 0).toNat_lt; have z2 := (l.getD 2 0).toNat_lt; have z3 := (l.getD 3 0).toNat_lt
  generalize (l.getD 0 0).toNat = y0 at *
  generalize (l.getD 1 0).toNat = y1 at *
  generalize (l.getD 2 0).toNat = y2 at *
  generalize (l.getD 3 0).toNat = y3 at *
  generalize dcd l = D at *
  generalize l.length = n at *
  have i0 : (0 : Int) < (n : Int) := by omega
  have i1 : (1 : Int) < (n : Int) := by omega
  have i2 : (2 : Int) < (n : Int) := by omega
  have i3 : (3 : Int) < (n : Int) := by omega
  rw [Nat.add_zero] at c0
  go_enter Tryd.func39, Tryd.ntmps39
  go_wp2_with fail
  go_quiet (fail)
  go_wp2
  go_ret
  exact ⟨by rw [HE.out, or_four z0 z1 z2 z3]; rfl, _, rfl⟩
theorem number_any (A : Option Addr) (n c : Nat) (l : List UInt8) (hn : l.length = n) (h4 : 4 ≤ n) (w : World) (hd : Bys w A l) :
    Calls Tryd.prog 37 #[.slice A n c] w fun e w' => e = .returned (.int .i64 (dcd l : Int)) ∧ ∃ q, w' = w.drewN q := by
  subst hn
  obtain ⟨b, off, rfl, c0⟩ := hd.at (k := 0) (by omega)
  obtain ⟨b', off', e', c1⟩ := hd.at (k := 1) (by omega)
  injection e' with e'; injection e' with e1 e2; subst e1; subst e2
  obtain ⟨b', off', e', c2⟩ := hd.at (k := 2) (by omega)
  injection e' with e'; injection e' with e1 e2; subst e1; subst e2
  obtain ⟨b', off', e', c3⟩ := hd.at (k := 3) (by omega)
  injection e' with e'; injection e' with e1 e2; subst e1; subst e2
  clear hd
  have HE := Lib.hid (show dcd l = (l.getD 0 0).toNat + 256 * (l.getD 1 0).toNat + 65536 * (l.getD 2 0).toNat + 16777216 * (l.getD 3 0).toNat from rfl)
  have z0 := (l.getD 0 0).toNat_lt; have z1 := (l.getD 1 0).toNat_lt; have z2 := (l.getD 2 0).toNat_lt; have z3 := (l.getD 3 0).toNat_lt
  generalize (l.getD 0 0).toNat = y0 at *
  generalize (l.getD 1 0).toNat = y1 at *
  generalize (l.getD 2 0).toNat = y2 at *
  generalize (l.getD 3 0).toNat = y3 at *
  generalize dcd l = D at *
  generalize l.length = n at *
  have i0 : (0 : Int) < (n : Int) := by omega
  have i1 : (1 : Int) < (n : Int) := by omega
  have i2 : (2 : Int) < (n : Int) := by omega
  have i3 : (3 : Int) < (n : Int) := by omega
  rw [Nat.add_zero] at c0
  go_enter Tryd.func37, Tryd.ntmps37
  go_wp2_with fail
  go_quiet (fail)
  go_wp2
  go_ret
  exact ⟨by rw [HE.out]; exact congrArg (fun z : Int => Ending.returned (.int .i64 z)) (show (y0 : Int) + (y1 : Int) * 256 + (y2 : Int) * 65536 + (y3 : Int) * 16777216 = _ by omega), _, rfl⟩
set_option maxHeartbeats 1000000 in
theorem four_any (n : Nat) (hn : n < 4294967296) (w : World) : Calls Tryd.prog 43 #[.int .u32 (n : Int)] w (Makes w (cod n)) := by
  have HK := Lib.hid (KO.start w)
  have HN := Lib.hid hn
  go_enter Tryd.func43, Tryd.ntmps43
  go_wp2
  go_loopw [3, 0, 4] (fun v x i wr => ∃ k : Nat, k ≤ 4 ∧ i = .int .i64 k ∧ x = .int .u32 ((n / 256 ^ k : Nat) : Int) ∧ KO w v ((cod n).take k) wr) (fun _ _ i _ => 4 - (intOf i).toNat)
  case atStart => exact ⟨0, by omega, rfl, by simp, by simpa using HK.out⟩
  case round =>
    obtain ⟨k, hk, rfl, rfl, ho⟩ := hrel
    clear HK
    have HK := Lib.hid ho; clear ho
    by_cases hlt : k < 4
    · have hX : n / 256 ^ k < 4294967296 := Nat.lt_of_le_of_lt (Nat.div_le_self _ _) HN.out
      have HQ := Lib.hid (show (cod n).take (k + 1) = (cod n).take k ++ [UInt8.ofNat (n / 256 ^ k)] by
        match k, hlt with
        | 0, _ => simp [cod]
        | 1, _ => simp [cod]
        | 2, _ => simp [cod]
        | 3, _ => simp [cod])
      have HL := Lib.hid (show ((cod n).take k).length ≤ 4 by simp [cod]; omega)
      have HD := Lib.hid (show n / 256 ^ (k + 1) = n / 256 ^ k / 256 by rw [Nat.pow_succ, Nat.div_div_eq_div_mul])
      generalize n / 256 ^ k = X at *
      have k2 : (k : Int) < 4 := by omega
      have HE := Lib.hid (show (X : Int) % 256 = ((UInt8.ofNat X).toNat : Int) by simp)
      go_wp2_with (first
        | (refine app_one HK.out (UInt8.ofNat X) HE.out rfl _ _ rfl rfl rfl (by have := HL.out; omega) ?_; intro v' u hk; clear HK; have HK := Lib.hid hk; clear hk))
      go_roundw
      case rel => exact ⟨k + 1, by omega, by go_num, by rw [HD.out, show ((X / 256 : Nat) : Int) = (X : Int) / 256 by omega], by rw [HQ.out]; exact HK.out⟩
      case measure => simp [intOf]; omega
    · obtain rfl : k = 4 := by omega
      have ho := HK.out
      rw [show (cod n).take 4 = cod n from rfl] at ho
      clear HK
      have HK := Lib.hid ho; clear ho
      go_wp2
      go_ret
      exact makes_of HK.out
end Go.Proofs.YtnbhgnkkedainaaDoor
