/- Contracts of a Reader's Number, and of its Count and Text where they tell something. -/
import Derived.Test.YtphoaklbjljfnaaOr
namespace Go.Proofs.Ytphoaklbjljfnaa
open Go.ChangeShapes Go.WideShapes Go.ChangeAt Go.RowKit

def rnN (l : List UInt8) (er : Int) : Int := if er = 0 then decN l else 0
def rnE (l : List UInt8) (er : Int) : Int := if er = 0 then decE l else er
def rnL (l : List UInt8) (er : Int) : List UInt8 := if er = 0 then l.drop (decS l) else l
theorem rnum_any (r : Nat) (l : List UInt8) (er : Int) (hm : l.length ≤ 1048576) (w : World) (h : Rd w r l er) :
    Calls Try.prog 14 #[.pointer (some ⟨r, 0, none⟩)] w fun e w' => e = .returned (.int .i64 (rnN l er)) ∧ Rd w' r (rnL l er) (rnE l er) ∧ Only r w w' := by
  have HR := Lib.hid h
  by_cases h0 : er = 0
  · subst h0
    rw [show rnN l 0 = decN l from rfl, show rnE l 0 = decE l from rfl, show rnL l 0 = l.drop (decS l) from rfl]
    obtain ⟨A, c, h1, hnc, hb⟩ := h
    have c0 := Rd.cell0 h1
    have c1 := Rd.cell1 h1
    have f1 := Rd.fz h1 1
    have hdc := decoded_any A l.length c l rfl hm hnc w hb
    clear h1 hb
    by_cases hE : decE l = 0
    · have hz := dec_zero hE
      have HK := Lib.hid (show decS l ≤ l.length by have h1 := hz.1; have h2 := hz.2.1; omega)
      clear hz
      rw [hE] at hdc ⊢
      clear hE
      generalize decN l = N at *
      generalize decS l = K at *
      generalize l.length = n at c0 hnc hm hdc
      go_enter Try.func14, Try.ntmps14
      go_wp2_with (first
        | (go_at_call 17; (with_reducible refine (err_any _ _ _ _ HR.out).mono ?_); rintro e u ⟨rfl, rfl⟩)
        | (go_at_call 22; (with_reducible refine hdc.mono ?_); rintro e u ⟨rfl, rfl⟩)
        | (go_at_call 23; (with_reducible refine (goOn_any _ _ _ _ HK.out _ HR.out).mono ?_); rintro e u ⟨rfl, hr, ho⟩; clear HR; have HR := Lib.hid hr; have HO := Lib.hid ho; clear hr ho))
      go_ret
      exact ⟨rfl, HR.out, HO.out⟩
    · rw [show decS l = 0 by rw [decS, if_neg hE], List.drop_zero, dec_not hE]
      rw [show decS l = 0 by rw [decS, if_neg hE], dec_not hE] at hdc
      have hE1 : (decE l != 0) = true := by simp [hE]
      have hE2 : (decE l == 0) = false := by simp [hE]
      clear hE
      generalize decE l = E at *
      generalize l.length = n at c0 hnc hm hdc
      go_enter Try.func14, Try.ntmps14
      go_wp2_with (first
        | (go_at_call 17; (with_reducible refine (err_any _ _ _ _ HR.out).mono ?_); rintro e u ⟨rfl, rfl⟩)
        | (go_at_call 22; (with_reducible refine hdc.mono ?_); rintro e u ⟨rfl, rfl⟩)
        | (go_at_call 23; (with_reducible refine (goOn_any _ _ _ _ HK.out _ HR.out).mono ?_); rintro e u ⟨rfl, hr, ho⟩; clear HR; have HR := Lib.hid hr; have HO := Lib.hid ho; clear hr ho))
      go_ret
      exact ⟨rfl, HR.out.setErr E, (Only.refl r w).setCell 1 _⟩
  · rw [show rnN l er = 0 by rw [rnN, if_neg h0], show rnE l er = er by rw [rnE, if_neg h0], show rnL l er = l by rw [rnL, if_neg h0]]
    have h1 : (er != 0) = true := by simp [h0]
    have h2 : (er == 0) = false := by simp [h0]
    clear h
    go_enter Try.func14, Try.ntmps14
    go_wp2_with (first
      | (go_at_call 17; (with_reducible refine (err_any _ _ _ _ HR.out).mono ?_); rintro e u ⟨rfl, rfl⟩))
    go_ret
    exact ⟨rfl, HR.out, Only.refl r w⟩
theorem rnum_ok (r : Nat) (l m : List UInt8) (n : Int) (hN : decN l = n) (hE : decE l = 0) (hL : l.drop (decS l) = m) (hm : l.length ≤ 1048576) (w : World) (h : Rd w r l 0) :
    Calls Try.prog 14 #[.pointer (some ⟨r, 0, none⟩)] w fun e w' => e = .returned (.int .i64 n) ∧ Rd w' r m 0 ∧ Only r w w' := by
  have := rnum_any r l 0 hm w h
  rw [show rnN l 0 = n from hN, show rnE l 0 = 0 from hE, show rnL l 0 = m from hL] at this
  exact this
/-- A number that was put is read. -/
theorem rnum_enc (r : Nat) (n : Int) (m : List UInt8) (hm : m.length ≤ 1000000) (w : World) (h : Rd w r (enc (fold n) ++ m) 0) :
    Calls Try.prog 14 #[.pointer (some ⟨r, 0, none⟩)] w fun e w' => e = .returned (.int .i64 (may n)) ∧ Rd w' r m 0 ∧ Only r w w' := by
  obtain ⟨h1, h2, h3⟩ := dec_enc n m
  have h6 := enc_six (fold_lt n)
  exact rnum_ok r _ m _ h2 h1 (by rw [h3]; simp) (by rw [List.length_append]; omega) w h
theorem count_ok (r : Nat) (l m : List UInt8) (n most : Int) (hn0 : 0 ≤ n) (hn : n ≤ most) (w : World) (h : Rd w r l 0)
    (hc : Calls Try.prog 14 #[.pointer (some ⟨r, 0, none⟩)] w fun e w' => e = .returned (.int .i64 n) ∧ Rd w' r m 0 ∧ Only r w w') :
    Calls Try.prog 24 #[.pointer (some ⟨r, 0, none⟩), .int .i64 most] w fun e w' => e = .returned (.int .i64 n) ∧ Rd w' r m 0 ∧ Only r w w' := by
  have HR := Lib.hid h
  clear h
  have HO := Lib.hid True.intro
  have h1 : ¬ n < 0 := by omega
  have h2 : ¬ most < n := by omega
  go_enter Try.func24, Try.ntmps24
  go_wp2_with (first
    | (go_at_call 14; (with_reducible refine hc.mono ?_); rintro e u ⟨rfl, hr, ho⟩; clear HR HO; have HR := Lib.hid hr; have HO := Lib.hid ho; clear hr ho)
    | (go_at_call 17; (with_reducible refine (err_any _ _ _ _ HR.out).mono ?_); rintro e u ⟨rfl, rfl⟩))
  go_ret
  exact ⟨rfl, HR.out, HO.out⟩
theorem rtext_ok (r : Nat) (l : List UInt8) (s m : List UInt8) (most : Int) (w : World) (_h : Rd w r l 0)
    (hc : Calls Try.prog 24 #[.pointer (some ⟨r, 0, none⟩), .int .i64 most] w fun e w' => e = .returned (.int .i64 (s.length : Int)) ∧ Rd w' r (s ++ m) 0 ∧ Only r w w') :
    Calls Try.prog 15 #[.pointer (some ⟨r, 0, none⟩), .int .i64 most] w fun e w' => e = .returned (.string ⟨s.toArray⟩) ∧ Rd w' r m 0 ∧ Only r w w' := by
  clear _h
  have HO := Lib.hid True.intro; have HR := Lib.hid True.intro
  have HT := Lib.hid (show (s ++ m).take s.length = s by simp)
  have HU := Lib.hid (show (s ++ m).drop s.length = m by simp)
  have HV := Lib.hid (show ((s ++ m).take s.length).length = s.length by rw [HT.out])
  have hlen : s.length ≤ (s ++ m).length := by rw [List.length_append]; omega
  have HK := Lib.hid hlen
  generalize s ++ m = L at *
  generalize hsl : s.length = k at *
  clear hsl
  go_enter Try.func15, Try.ntmps15
  go_wp2_with (first
    | (go_at_call 24; (with_reducible refine hc.mono ?_); rintro e u ⟨rfl, hr, ho⟩; clear HR HO; have HR := Lib.hid hr; have HO := Lib.hid ho; clear ho; obtain ⟨A, c, hh, hcc, hb⟩ := hr; have c0 := Rd.cell0 hh; have HB := Lib.hid hb; have HX := Lib.hid hcc; clear hh hb; obtain ⟨n, hn⟩ : ∃ n, n = L.length := ⟨_, rfl⟩; have hn2 := hn; rw [← hn] at c0 hlen hcc; clear hn; have HN := Lib.hid hn2; clear hn2; have hk' : ¬ (n : Int) < (k : Int) := (by omega); have hk2 : (k : Int) ≤ (c : Int) := (by omega); have hs := slice_high A n c k (by omega))
    | (go_at_call 17; (with_reducible refine (err_any _ _ _ _ HR.out).mono ?_); rintro e u ⟨rfl, rfl⟩)
    | (refine to_str (l := L.take k) (by first | exact HB.out.take k | (simp only [Option.map_id', id]; exact HB.out.take k)) HV.out rfl _ rfl rfl ?_)
    | (go_at_call 23; (with_reducible refine (goOn_any _ _ _ _ HK.out _ HR.out).mono ?_); rintro e u ⟨rfl, hr, ho⟩; have hp := HO.out.trans ho; clear HR HO ho; have HR := Lib.hid hr; have HO := Lib.hid hp; clear hr hp))
  go_ret
  have hr := HR.out
  rw [HU.out] at hr
  exact ⟨by rw [← HT.out]; rfl, hr, HO.out⟩
end Go.Proofs.Ytphoaklbjljfnaa
