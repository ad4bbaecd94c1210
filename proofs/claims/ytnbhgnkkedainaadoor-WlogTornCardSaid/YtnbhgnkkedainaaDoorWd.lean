/- Contracts of a log's Compact, and of Open. -/
import Derived.Test.YtnbhgnkkedainaaDoorWc
namespace Go.Proofs.YtnbhgnkkedainaaDoor
open Go.ChangeShapes Go.WideShapes Go.ChangeAt Go.RowKit

theorem compact_nil (w : World) : Calls Tryd.prog 16 #[.pointer none] w fun e w' => e = .returned (.int .i64 1) ∧ w = w' := by
  go_enter Tryd.func16, Tryd.ntmps16
  go_wp2
  go_ret
  exact ⟨rfl, rfl⟩
theorem compact_none (r rd : Nat) (v : Value) (w : World) (h : Lo w r rd v []) :
    Calls Tryd.prog 16 #[.pointer (some ⟨r, 0, none⟩)] w fun e w' => e = .returned (.int .i64 0) ∧ w = w' := by
  have hl := last_none r rd v w h
  clear h
  go_enter Tryd.func16, Tryd.ntmps16
  go_wp2_with (first
    | (go_at_call 18; (with_reducible refine hl.mono ?_); rintro e u ⟨rfl, rfl⟩))
  go_ret
  exact ⟨rfl, rfl⟩
/-- What a log's Compact leaves: the last record alone, on the disk too. -/
def Shorts (w : World) (F : Nat → Prop) (r rd z : Nat) (p : List UInt8) (e : Ending) (w' : World) : Prop :=
  e = .returned (.int .i64 0) ∧ ∃ v' vd' A' c', Kg w F [Th.lo r rd v' [(A', c', p)], Th.dk rd z ((frm p).length : Nat) vd' (frm p)] [] w'
set_option maxRecDepth 100000 in
theorem compact_log (r rd z : Nat) (f : Int) (v vd : Value) (L : List BPart) (d : List UInt8) (n : Nat) (hn : L.length = n + 1) (hnx : n ≤ 1000000) (A1 : Option Addr) (c1 : Nat) (p : List UInt8) (hp : L[n]? = some (A1, c1, p)) (hk8 : p.length ≤ 32768) (hz : z ≤ 1048576) (hroom : 8 + p.length ≤ z) (w : World) (hw : Nib w) {F : Nat → Prop}
    (h : Kg w F [Th.lo r rd v L, Th.dk rd z f vd d] [] w) :
    Calls Tryd.prog 16 #[.pointer (some ⟨r, 0, none⟩)] w (Shorts w F r rd z p) := by
  have hla := last_any r rd v L n hn hnx A1 c1 p hp (by omega) w (h.lo 0 rfl)
  obtain ⟨P, hP⟩ : ∃ P, frm p = P := ⟨_, rfl⟩
  have hN : P.length = 8 + p.length := by rw [← hP, frm_length]
  have HPP := Lib.hid hP
  unfold Shorts
  rw [hP]
  clear hP
  obtain ⟨k, hpk⟩ : ∃ k, p.length = k := ⟨_, rfl⟩
  rw [hpk] at hN hroom hk8
  have HPK := Lib.hid hpk
  unfold MakesT at hla
  rw [hpk] at hla
  generalize hNN : 8 + k = N at *
  have HN := Lib.hid hN
  have HW := Lib.hid hw
  have HK := Lib.hid h
  clear h hN hw hn hp hpk
  go_enter Tryd.func16, Tryd.ntmps16
  go_wp2_with (first
    | (go_at_call 18; (with_reducible refine hla.mono ?_); rintro e u ⟨A3, c3, ⟨rfl, hc3⟩, hk⟩; have hnb := HW.out.below hk.bel; have hk := HK.out.add (t := Th.row (.slice A3 k c3) p) hk.bel (hk.own.mono (Nat.zero_le _)) (fun j hj => hk.own.base j hj); clear HK HW hla hc3; have HK := Lib.hid hk; have HW := Lib.hid hnb; clear hk hnb)
    | (go_at_call 31; (with_reducible refine (put_n A3 k c3 p P HPP.out N HN.out HPK.out hk8 _ (HK.out.rowIn 0 rfl).bys HW.out).mono ?_); rintro e u ⟨A4, c4, ⟨rfl, _⟩, hk⟩; have hk := HK.out.makes hk; have c0 := (hk.lo 1 rfl).c0; clear HK HW; have HK := Lib.hid hk; clear hk)
    | (go_at_call 33; (with_reducible refine (swap_any _ z f vd d A4 N c4 P HN.out hz hroom _ (HK.out.bys 0 rfl) (HK.out.dk 2 rfl)).mono ?_); rintro e u ⟨rfl, v1, hd, hm⟩; have hk := HK.out.disk 2 rfl hm hd; simp only [List.set_cons_zero, List.set_cons_succ] at hk; clear hd hm c0; clear HK; have HK := Lib.hid hk; clear hk)
    | (refine store_t (v := .slice (some ⟨_, 0, none⟩) 1 1) ((HK.out.call (below_new _ (.cells #[.slice A3 k c3] 34))).lo 1 rfl).cel rfl rfl rfl _ _ rfl rfl rfl rfl (by simp) ?_; have hk := HK.out.only HPK.out; clear HK; have HK := Lib.hid hk; clear hk))
  go_ret
  rw [HN.out]
  exact ⟨rfl, _, _, _, _, HK.out.sub (by simp)⟩
/-- A disk that is not there. -/
theorem open_no (w : World) : Calls Tryd.prog 12 #[.pointer none] w fun e w' => e = .returned (.tuple #[.pointer none, .int .i64 1]) ∧ w = w' := by
  go_enter Tryd.func12, Tryd.ntmps12
  go_wp2
  go_ret2
  exact ⟨rfl, rfl⟩
theorem scn_len (d : List UInt8) : (fls (scn d)).length ≤ d.length := by
  obtain ⟨r, h, _⟩ := scn_back d.length d (Nat.le_refl _)
  have := congrArg List.length h
  rw [List.length_append] at this
  omega
/-- A bad tail. -/
theorem open_bad (r : Nat) (z f : Int) (v : Value) (d : List UInt8) (hm : d.length ≤ 1000000) (N : Nat) (hN : (fls (scn d)).length = N) (ht : tkE (d.drop N) ≠ 3) (ht0 : tkE (d.drop N) ≠ 0) (w : World) (hw : Nib w) (h : Dk w r z v f d) :
    Calls Tryd.prog 12 #[.pointer (some ⟨r, 0, none⟩)] w fun e w' => e = .returned (.tuple #[.pointer none, .int .i64 6]) ∧ Below w.heap.size w w' := by
  have hle := scn_len d
  rw [hN] at hle
  obtain ⟨D, hD⟩ : ∃ D, d.length = D := ⟨_, rfl⟩
  have hby := bytes_any r z f v d w h (by omega)
  unfold Makes at hby
  rw [hD] at hby hle hm
  have HL := Lib.hid hD
  have HNN := Lib.hid hN
  have HLD := Lib.hid (show (d.drop N).length = D - N by rw [List.length_drop, hD])
  generalize hz3 : tkE (d.drop N) = t at *
  have HT := Lib.hid hz3
  have HT0 := Lib.hid ht0
  have hx : (t == 3) = false := by simp [ht]
  have hx2 : (t != 3) = true := by simp [ht]
  have HW := Lib.hid hw
  clear h hN hD hw hz3 ht0
  go_enter Tryd.func12, Tryd.ntmps12
  go_wp2_with (first
    | (go_at_call 22; (with_reducible refine hby.mono ?_); rintro e u ⟨A1, c1, ⟨rfl, hc1⟩, hk⟩; have hnb := HW.out.below hk.bel; clear hby HW; have HW := Lib.hid hnb; have HK := Lib.hid hk; have HC := Lib.hid hc1; clear hk hc1 hnb)
    | (go_at_call 27; (with_reducible refine (scan_any A1 D c1 d HL.out HC.out hm _ HK.out.own.bys HW.out).mono ?_); rintro e u hs; obtain ⟨A2, c2, L, ⟨rfl, _⟩, _, hkl⟩ := hs.at rfl HNN.out; have hnb := HW.out.below hkl.bel; have hk := HK.out.call hkl.bel; clear HK HW hs hkl; have HW := Lib.hid hnb; have HK := Lib.hid hk; clear hk hnb)
    | (refine low_slice hle HC.out rfl _ _ rfl rfl rfl ?_)
    | (go_at_call 28; (with_reducible refine (take_any _ _ _ (d.drop N) HLD.out (by have := HC.out; omega) (by omega) _ (HK.out.own.bys.low (by have := HL.out; have := HC.out; omega)) HW.out).mono ?_); intro e u hs; obtain ⟨A3, c3, rfl, hb⟩ := hs.no HT.out HT0.out; have hk := HK.out.bel.trans (hb.mono HK.out.bel.size); clear HK hs hb; have HB := Lib.hid hk; clear hk))
  go_ret2
  exact ⟨rfl, HB.out⟩
end Go.Proofs.YtnbhgnkkedainaaDoor
