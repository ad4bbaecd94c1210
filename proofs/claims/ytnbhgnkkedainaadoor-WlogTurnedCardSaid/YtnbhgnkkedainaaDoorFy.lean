/- frame.Scan and the document's Scan. -/
import Derived.Test.YtnbhgnkkedainaaDoorFx
namespace Go.Proofs.YtnbhgnkkedainaaDoor
open Go.ChangeShapes Go.WideShapes Go.ChangeAt Go.RowKit

/-- Where b[k:] lies. -/
def lowA (A : Option Addr) (c k : Nat) : Option Addr := if c - k = 0 then A else A.map (·.add k)
theorem Bys.low {w : World} {A : Option Addr} {l : List UInt8} (h : Bys w A l) {c k : Nat} (hc : l.length ≤ c) : Bys w (lowA A c k) (l.drop k) := by
  unfold lowA
  split
  · exact .inl (List.drop_eq_nil_of_le (by omega))
  · exact h.drop k
theorem slice_low (a : Option Addr) (len cap K : Nat) (h : K ≤ len) (h2 : len ≤ cap) (W : World) : (Instr.slice 34 (.slice a len cap) (some (.int .i64 (K : Int))) none none).run Tryd.prog W = .ok (.slice (lowA a cap K) (len - K) (cap - K)) W := by
  obtain ⟨i0, hi0, hz0, hz1, hz2⟩ := info_parts b_info
  simp [Instr.slice, run_underlying Tryd.underlying34, Instr.sliceBounds, Instr.sliceBound, asIntOf, sizeOf, typeInfo, hi0, h, lowA, hz1]
  by_cases h3 : cap = K
  · simp [h3]
  · rw [if_neg h3, if_neg (by omega)]
theorem low_slice {w : World} {ops : Array Oper} {rest : List Oper} {o : Oper} {a : Act} {Q : Exit → Act → World → Prop} {A : Option Addr} {n c K : Nat} (hK : K ≤ n) (hn : n ≤ c) (hgd : o.guard = none) (x y : Operand) (ho : o.op = .slice 34 x (some y) none none) (hx : a.eval x = .slice A n c) (hy : a.eval y = .int .i64 (K : Int))
    (h : wpList Tryd.prog ops Q rest (a.put o.dst (.slice (lowA A c K) (n - K) (c - K))) w) : wpList Tryd.prog ops Q (o :: rest) a w :=
  wpList_plain hgd fun _ hQ => by
    have e := slice_low A n c K hK hn w
    unfold Oper.wp execOp
    simp only [ho, hx, Option.map_some, Option.map_none, hy, Sem.run_bind]
    simp [Instr.sliceAt, e]
    exact hQ _ _ h
theorem Takes.yes {w w' : World} {l : List UInt8} {e : Ending} (h : Takes w l e w') (hz : tkE l = 0) {P : List UInt8} {S : Nat} (hP : tkP l = P) (hS : tkS l = S) : ∃ A c, (e = .returned (.tuple #[.slice A P.length c, .int .i64 (S : Int), .int .i64 0]) ∧ P.length ≤ c) ∧ KO w (.slice A P.length c) P w' := by
  subst hP; subst hS
  unfold Takes at h
  rw [hz] at h
  exact h
theorem Takes.no {w w' : World} {l : List UInt8} {e : Ending} (h : Takes w l e w') {z : Int} (hz : tkE l = z) (h0 : z ≠ 0) : ∃ A c, e = .returned (.tuple #[.slice A 0 c, .int .i64 0, .int .i64 z]) ∧ Below w.heap.size w w' := by
  obtain ⟨h1, h2⟩ := tk_none (l := l) (by rw [hz]; exact h0)
  unfold Takes at h
  rw [hz, h1, h2] at h
  obtain ⟨A, c, ⟨h3, _⟩, h4⟩ := h
  exact ⟨A, c, h3, h4.bel⟩
theorem fls_le : ∀ M : List (List UInt8), M.length ≤ (fls M).length
  | [] => Nat.le_refl _
  | p :: M => by rw [fls_cons, List.length_append, List.length_cons, frm_length]; have := fls_le M; omega
/-- What scanning ends with. -/
def Scans (w : World) (l : List UInt8) (e : Ending) (w' : World) : Prop := ∃ A c L, (e = .returned (.tuple #[.slice A L.length c, .int .i64 ((fls (scn l)).length : Int)]) ∧ L.length ≤ c) ∧ txt L = scn l ∧ KL w (.slice A L.length c) L w'
theorem scans_of {w w' : World} {v : Value} {l : List UInt8} {L : List BPart} {k : Nat} (h : KL w v L w') (hs : scn l = txt L) (hf : k = (fls (txt L)).length) : Scans w l (.returned (.tuple #[v, .int .i64 (k : Int)])) w' := by
  obtain ⟨A, c, rfl, hc⟩ := h.slice
  subst hf
  exact ⟨A, c, L, ⟨by rw [hs], hc⟩, hs.symm, h⟩
set_option maxHeartbeats 1000000 in
theorem scan_any (A : Option Addr) (n c : Nat) (l : List UInt8) (hl : l.length = n) (hc : n ≤ c) (hm : n ≤ 1000000) (w : World) (hd : Bys w A l) (hw : Nib w) :
    Calls Tryd.prog 27 #[.slice A n c] w (Scans w l) := by
  have HD := Lib.hid hd; have HL := Lib.hid hl; have HW := Lib.hid hw; have HC := Lib.hid hc; have HM := Lib.hid hm
  clear hd hl hw hc hm
  go_enter Tryd.func27, Tryd.ntmps27
  go_wp2
  go_step3
  go_wp2
  go_step3
  go_wp2
  go_loopw [4, 5] (fun v i wr => ∃ (L : List BPart) (k : Nat), k ≤ n ∧ i = .int .i64 k ∧ KL w v L wr ∧ scn l = txt L ++ scn (l.drop k) ∧ k = (fls (txt L)).length) (fun _ i _ => n - (intOf i).toNat)
  case atStart => exact ⟨[], 0, by omega, rfl, KL.start (Below.refl _ _), by simp [txt], by simp [txt, fls]⟩
  case round =>
    obtain ⟨L, k, hk, rfl, ho, hs, hf⟩ := hrel
    have HK := Lib.hid ho; have HS := Lib.hid hs; have HF := Lib.hid hf; have HKN := Lib.hid hk
    clear ho hs hf
    have HLD := Lib.hid (show (l.drop k).length = n - k by rw [List.length_drop, HL.out])
    have HLL := Lib.hid (show L.length ≤ 1000000 by have := fls_le (txt L); rw [txt_length] at this; have := HF.out; have := HM.out; have := HL.out; omega)
    have i1 : (k : Int) ≤ (n : Int) := by omega
    by_cases hz : tkE (l.drop k) = 0
    · obtain ⟨e1, e2, e3, e4⟩ := tk_len hz
      have HZ := Lib.hid hz
      have hy := scn_yes hz
      rw [List.drop_drop] at hy
      generalize hP : tkP (l.drop k) = P at *
      generalize hS : tkS (l.drop k) = S at *
      have HP := Lib.hid hP; have HSS := Lib.hid hS
      have hkS : k + S ≤ n := by have := HLD.out; omega
      have HN1 := Lib.hid (show scn l = txt (L ++ [(none, 0, P)]) ++ scn (l.drop (k + S)) by rw [HS.out, hy, txt_append]; simp [txt])
      have HN2 := Lib.hid (show k + S = (fls (txt (L ++ [(none, 0, P)]))).length by rw [txt_append, fls_append, List.length_append, ← HF.out]; simp [txt, fls_one, frm_length]; omega)
      have HE3 := Lib.hid (show 0 < S by omega)
      have HKS := Lib.hid hkS
      have i3 : (k : Int) ≤ 1000000 := by have := HM.out; omega
      have i4 : (S : Int) ≤ 1000000 := by have := HM.out; omega
      clear e1 e2 e3 e4 hz hy hP hS hkS
      go_wp2_with (first
        | (refine low_slice HKN.out HC.out rfl _ _ rfl rfl rfl ?_)
        | (go_at_call 28; (with_reducible refine (take_any _ _ _ (l.drop k) HLD.out (by have := HC.out; omega) (by have := HM.out; omega) _ ((HD.out.below HK.out.bel).low (by have := HL.out; have := HC.out; omega)) (HW.out.below HK.out.bel)).mono ?_); intro e u ht; obtain ⟨A1, c1, ⟨rfl, _⟩, hk⟩ := ht.yes HZ.out HP.out HSS.out; have hkl := HK.out.call hk.bel; have hp := hk.own.mono HK.out.bel.size; clear HK hk ht; have HK := Lib.hid hkl; have HO := Lib.hid hp; clear hkl hp)
        | (refine app_part HK.out rfl HO.out rfl _ _ rfl rfl rfl (by have := HLL.out; omega) ?_; intro v' u' hk; clear HK; have HK := Lib.hid hk; clear hk))
      go_roundw
      case rel => exact ⟨L ++ [(A1, c1, P)], k + S, HKS.out, by go_num, HK.out, by rw [HN1.out]; simp [txt], by rw [HN2.out]; simp [txt]⟩
      case measure => have := HE3.out; have := HKS.out; simp [intOf]; omega
    · generalize hZ : tkE (l.drop k) = z at *
      have HZ := Lib.hid hZ; have HZ0 := Lib.hid hz
      have hx : (z == 0) = false := by simp [hz]
      have hx2 : (z != 0) = true := by simp [hz]
      have HN := Lib.hid (show scn l = txt L by rw [HS.out, scn_no (by rw [hZ]; exact hz), List.append_nil])
      clear hZ hz
      go_wp2_with (first
        | (refine low_slice HKN.out HC.out rfl _ _ rfl rfl rfl ?_)
        | (go_at_call 28; (with_reducible refine (take_any _ _ _ (l.drop k) HLD.out (by have := HC.out; omega) (by have := HM.out; omega) _ ((HD.out.below HK.out.bel).low (by have := HL.out; have := HC.out; omega)) (HW.out.below HK.out.bel)).mono ?_); intro e u ht; obtain ⟨A1, c1, rfl, hb⟩ := ht.no HZ.out HZ0.out; have hkl := HK.out.call hb; clear HK hb ht; have HK := Lib.hid hkl; clear hkl))
      (try rw [Exit.noGoto_ret])
      go_ret2
      exact scans_of HK.out HN.out HF.out
end Go.Proofs.YtnbhgnkkedainaaDoor
