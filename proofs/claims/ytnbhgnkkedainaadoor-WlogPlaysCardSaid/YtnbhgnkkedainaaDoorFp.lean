/- frame.Put and the document's Put. -/
import Derived.Test.YtnbhgnkkedainaaDoorFw
namespace Go.Proofs.YtnbhgnkkedainaaDoor
open Go.ChangeShapes Go.WideShapes Go.ChangeAt Go.RowKit

/-- What a call ends with that makes bytes and tells no error. -/
def MakesE (w : World) (l : List UInt8) (e : Ending) (w' : World) : Prop := ∃ A c, (e = .returned (.tuple #[.slice A l.length c, .int .i64 0]) ∧ l.length ≤ c) ∧ KO w (.slice A l.length c) l w'
theorem concat3e (b cap : Nat) (A A2 A3 : Option Addr) (c c2 c3 : Nat) (l m n F : List UInt8) (hF : F = l ++ m ++ n) (h0 : 0 < l.length) (h1 : l.length + m.length + n.length ≤ 100000) (w : World) (hp : PartsAt w b [(A, c, l), (A2, c2, m), (A3, c3, n)]) :
    Calls Tryd.prog 41 #[.slice (some ⟨b, 0, none⟩) 3 cap] w (Makes w F) := by subst hF; exact concat3 b cap A A2 A3 c c2 c3 l m n h0 h1 w hp
set_option maxHeartbeats 1000000 in
theorem put_any (A : Option Addr) (n c : Nat) (l : List UInt8) (hl : l.length = n) (hm : n ≤ 32768) (w : World) (hd : Bys w A l) (hw : Nib w) :
    Calls Tryd.prog 31 #[.slice A n c] w (MakesE w (frm l)) := by
  have HE := Lib.hid (show frm l = cod n ++ cod (crc l) ++ l by rw [frm, hl])
  have HT := Lib.hid (show (cod n).length + (cod (crc l)).length + l.length ≤ 100000 by rw [cod_length, cod_length]; omega)
  have HD := Lib.hid hd; have HL := Lib.hid hl; have HW := Lib.hid hw; have HM := Lib.hid hm
  clear hd hl hw
  have H1 := Lib.hid True.intro; have H2 := Lib.hid True.intro
  have i1 : ¬ (32768 : Int) < (n : Int) := by omega
  have i2 : (n : Int) ≤ 32768 := by omega
  go_enter Tryd.func31, Tryd.ntmps31
  go_wp2_with (first
    | (go_at_call 42; (with_reducible refine (coded_any n (by have := HM.out; omega) _).mono ?_); rintro e u ⟨A1, c1, ⟨rfl, _⟩, hk⟩; clear H1; have H1 := Lib.hid hk; clear hk)
    | (go_at_call 40; (with_reducible refine (sum_any _ _ _ l HL.out (by have := HM.out; omega) _ (HD.out.below H1.out.bel) (HW.out.below H1.out.bel)).mono ?_); rintro e u ⟨rfl, rfl⟩)
    | (go_at_call 42; (with_reducible refine (coded_any (crc l) (crc_lt l) _).mono ?_); rintro e u ⟨A2, c2, ⟨rfl, _⟩, hk⟩; have h1 := H1.out.call hk.bel; have h2 := hk.own.bys; clear H1 H2 hk; have H1 := Lib.hid h1; have H2 := Lib.hid h2; clear h1 h2)
    | (go_at_call 41; (refine (concat3e _ _ A1 A2 A c1 c2 c (cod n) (cod (crc l)) l (frm l) HE.out (by rw [cod_length]; decide) HT.out _ (parts3 rfl rfl HL.out H1.out.own.bys H2.out (HD.out.below H1.out.bel))).mono ?_); rintro e u ⟨A3, c3, ⟨rfl, hc3⟩, hk⟩; have hk := hk.lift (H1.out.bel.trans ((below_new _ _).mono H1.out.bel.size)); clear H1; have H1 := Lib.hid hk; have HC := Lib.hid hc3; clear hk hc3))
  go_ret2
  exact ⟨A3, c3, ⟨rfl, HC.out⟩, H1.out⟩
set_option maxHeartbeats 1000000 in
theorem rput_any (A : Option Addr) (n c : Nat) (l : List UInt8) (hl : l.length = n) (hm : n ≤ 32768) (w : World) (hd : Bys w A l) :
    Calls Tryd.prog 35 #[.slice A n c] w (Makes w (frm l)) := by
  have HE := Lib.hid (show frm l = cod n ++ cod (crc l) ++ l by rw [frm, hl])
  have HT := Lib.hid (show (cod n).length + (cod (crc l)).length ≤ 1048576 by rw [cod_length, cod_length]; omega)
  have HU := Lib.hid (show (cod n ++ cod (crc l)).length + l.length ≤ 1048576 by rw [List.length_append, cod_length, cod_length]; omega)
  have HD := Lib.hid hd; have HL := Lib.hid hl; have HM := Lib.hid hm
  clear hd hl
  have H1 := Lib.hid True.intro; have H2 := Lib.hid True.intro
  have i1 : ¬ (32768 : Int) < (n : Int) := by omega
  have i2 : (n : Int) ≤ 32768 := by omega
  go_enter Tryd.func35, Tryd.ntmps35
  go_wp2_with (first
    | (go_at_call 43; (with_reducible refine (four_any n (by have := HM.out; omega) _).mono ?_); rintro e u ⟨A1, c1, ⟨rfl, _⟩, hk⟩; clear H1; have H1 := Lib.hid hk; clear hk)
    | (go_at_call 38; (with_reducible refine (rsum_any _ _ _ l HL.out (by have := HM.out; omega) _ (HD.out.below H1.out.bel)).mono ?_); rintro e u ⟨rfl, rfl⟩)
    | (go_at_call 43; (with_reducible refine (four_any (crc l) (crc_lt l) _).mono ?_); rintro e u ⟨A2, c2, ⟨rfl, _⟩, hk⟩; have h1 := H1.out.call hk.bel; have h2 := hk.own.bys; clear H1 H2 hk; have H1 := Lib.hid h1; have H2 := Lib.hid h2; clear h1 h2)
    | (refine app_more H1.out H2.out rfl rfl _ _ rfl rfl rfl HT.out ?_; intro v' u hk; clear H1; have H1 := Lib.hid hk; clear hk)
    | (refine app_more H1.out (HD.out.below H1.out.bel) HL.out rfl _ _ rfl rfl rfl HU.out ?_; intro v' u hk; clear H1; have H1 := Lib.hid hk; clear hk))
  go_ret
  rw [HE.out]
  exact makes_of H1.out
/-- A payload that is too long. -/
theorem put_long (A : Option Addr) (n c : Nat) (hm : 32768 < n) (w : World) :
    Calls Tryd.prog 31 #[.slice A n c] w fun e w' => e = .returned (.tuple #[.slice none 0 0, .int .i64 2]) ∧ w = w' := by
  have i1 : (32768 : Int) < (n : Int) := by omega
  go_enter Tryd.func31, Tryd.ntmps31
  go_wp2
  go_ret2
  exact ⟨rfl, rfl⟩
end Go.Proofs.YtnbhgnkkedainaaDoor
