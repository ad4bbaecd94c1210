/- same of lists that are one; the document's bytes of a list. -/
import Derived.Test.YtnbhgnkkedainaaDoorWe
namespace Go.Proofs.YtnbhgnkkedainaaDoor
open Go.ChangeShapes Go.WideShapes Go.ChangeAt Go.RowKit

theorem LL.below {w w' : World} {A : Option Addr} {n : Nat} {L : List BPart} (h : LL w A n L) (hb : Below w.heap.size w w') : LL w' A n L := (Th.ll A n L).stay h fun k hk => hb.block k ((Th.ll A n L).lt h hk)
theorem same_yes (A B : Option Addr) (n c c' : Nat) (L M : List BPart) (hLM : txt L = txt M) (hmx : n ≤ 1000000) (w : World) (hL : LL w A n L) (hM : LL w B n M) :
    Calls Tryd.prog 19 #[.slice A n c, .slice B n c'] w fun e w' => e = .returned (.bool true) ∧ Below w.heap.size w w' := by
  have HL := Lib.hid hL; have HM := Lib.hid hM; have HE := Lib.hid hLM
  clear hL hM hLM
  go_enter Tryd.func19, Tryd.ntmps19
  go_wp2
  have HB := Lib.hid (Below.refl w.heap.size w)
  go_loopw [13] (fun i wr => ∃ m : Nat, m ≤ n ∧ i = .int .i64 (m : Int) ∧ Below w.heap.size w wr) (fun i _ => n - (intOf i).toNat)
  case atStart => exact ⟨0, by omega, rfl, HB.out⟩
  case round =>
    obtain ⟨m, hm, rfl, hb⟩ := hrel
    clear HB
    have HB := Lib.hid hb
    clear hb
    by_cases hlt : m < n
    · obtain ⟨b1, off1, B1, d1, rfl, hx1, q1, o1⟩ := (HL.out.below HB.out).one hlt
      obtain ⟨b2, off2, B2, d2, rfl, hx2, q2, o2⟩ := (HM.out.below HB.out).one hlt
      rw [HE.out] at q1 o1
      generalize (txt M).getD m [] = T at *
      have s1 := fun q : Nat => run_str (o1.drewN q) d1
      have s2 := fun q : Nat => run_str (o2.drewN q) d2
      have hq2 : ((⟨T.toArray⟩ : ByteArray).toList == (⟨T.toArray⟩ : ByteArray).toList) = true := by simp
      have i2 : (0 : Int) ≤ (m : Int) := by omega
      have i3 : (m : Int) < (n : Int) := by omega
      have i4 : (m : Int) ≤ 1000000 := by omega
      clear hx1 hx2 o1 o2
      generalize T.length = t at *
      go_wp2_with fail
      go_quiet (fail)
      have hb := HB.out.trans ((below_dn _ nq).mono HB.out.size)
      clear HB
      have HB := Lib.hid hb
      clear hb s1 s2 q1 q2
      go_wp2_with fail
      go_roundw
      case rel => exact ⟨m + 1, by omega, by go_num, HB.out⟩
      case measure => simp [intOf]; omega
    · obtain rfl : m = n := by omega
      go_wp2
      go_ret
      exact ⟨rfl, HB.out⟩
theorem rput_n (A : Option Addr) (n c : Nat) (l P : List UInt8) (hP : frm l = P) (hl : l.length = n) (hm : n ≤ 32768) (w : World) (hd : Bys w A l) :
    Calls Tryd.prog 35 #[.slice A n c] w (Makes w P) := by
  subst hP
  exact rput_any A n c l hl hm w hd
theorem fls_take {M : List (List UInt8)} {m : Nat} (h : m < M.length) : fls (M.take (m + 1)) = fls (M.take m) ++ frm (M.getD m []) := by
  rw [List.take_add_one, List.getElem?_eq_getElem h, fls_append]
  simp [List.getD, h, fls_one]
theorem fls_take_le (M : List (List UInt8)) (m : Nat) : (fls (M.take m)).length ≤ (fls M).length := by
  conv => rhs; rw [← List.take_append_drop m M, fls_append, List.length_append]
  omega
/-- The document's bytes of a list. -/
theorem rbytes_any (A : Option Addr) (n c : Nat) (L : List BPart) (M : List (List UInt8)) (hLM : txt L = M) (hp : ∀ p ∈ M, p.length ≤ 32768) (hf : (fls M).length ≤ 1000000) (w : World) (hL : LL w A n L) :
    Calls Tryd.prog 23 #[.slice A n c] w (Makes w (fls M)) := by
  have hn : M.length = n := by rw [← hLM, txt_length]; exact hL.1
  have hmx : n ≤ 1000000 := by have := fls_le M; omega
  have HL := Lib.hid hL; have HN := Lib.hid hn; have HP := Lib.hid hp; have HF := Lib.hid hf; have HE := Lib.hid hLM
  clear hL hn hp hf hLM
  go_enter Tryd.func23, Tryd.ntmps23
  go_wp2
  go_loopw [3, 4] (fun v i wr => ∃ m : Nat, m ≤ n ∧ i = .int .i64 (m : Int) ∧ KO w v (fls (M.take m)) wr) (fun _ i _ => n - (intOf i).toNat)
  case atStart => exact ⟨0, by omega, rfl, by simpa [fls] using KO.start w⟩
  case round =>
    obtain ⟨m, hm, rfl, hk⟩ := hrel
    have HK := Lib.hid hk
    clear hk
    by_cases hlt : m < n
    · obtain ⟨b1, off1, B1, d1, rfl, hx1, q1, o1⟩ := (HL.out.below HK.out.bel).one hlt
      rw [HE.out] at q1 o1
      have ht := fls_take (M := M) (m := m) (by rw [HN.out]; exact hlt)
      have hle := fls_take_le M (m + 1)
      rw [ht, List.length_append] at hle
      have hT : (M.getD m []).length ≤ 32768 := by
        have := HN.out
        rw [List.getD_eq_getElem?_getD, List.getElem?_eq_getElem (by omega)]
        exact HP.out _ (List.getElem_mem (by omega))
      have HT := Lib.hid ht
      generalize M.getD m [] = T at *
      obtain ⟨P, hPP⟩ : ∃ P, frm T = P := ⟨_, rfl⟩
      rw [hPP] at hle
      have HLE := Lib.hid (show (fls (M.take m)).length + P.length ≤ 1048576 by have := HF.out; omega)
      have hT2 := HT.out
      rw [hPP] at hT2
      have HT2 := Lib.hid hT2
      have HPP := Lib.hid hPP
      have HT3 := Lib.hid hT
      have HY := Lib.hid o1
      have i2 : (0 : Int) ≤ (m : Int) := by omega
      have i3 : (m : Int) < (n : Int) := by omega
      have i4 : (m : Int) ≤ 1000000 := by omega
      clear ht hle hT2 hPP hT HT o1 hx1
      generalize hTL : T.length = t at *
      have HTL := Lib.hid hTL
      clear hTL
      go_wp2_with (first
        | (go_at_call 35; (with_reducible refine (rput_n _ _ _ T P HPP.out HTL.out HT3.out _ HY.out).mono ?_); rintro e u ⟨A2, c2, ⟨rfl, _⟩, hk⟩; have hy := hk.own.bys; have hx := HK.out.call hk.bel; clear HK HY hk; have HK := Lib.hid hx; have HY := Lib.hid hy; clear hx hy)
        | (refine app_more HK.out HY.out rfl rfl _ _ rfl rfl rfl HLE.out ?_; intro v' u hk; rw [← HT2.out] at hk; clear HK; have HK := Lib.hid hk; clear hk))
      go_roundw
      case rel => exact ⟨m + 1, by omega, by go_num, HK.out⟩
      case measure => simp [intOf]; omega
    · obtain rfl : m = n := by omega
      have hk := HK.out
      rw [show M.take m = M from List.take_of_length_le (by rw [HN.out]; exact Nat.le_refl _)] at hk
      clear HK
      have HK := Lib.hid hk
      clear hk
      go_wp2
      go_ret
      exact makes_of HK.out
end Go.Proofs.YtnbhgnkkedainaaDoor
