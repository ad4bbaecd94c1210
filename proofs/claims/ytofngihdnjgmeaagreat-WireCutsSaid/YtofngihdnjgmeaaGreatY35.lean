/- What the statements stand on: slices of bytes and of ints that come in, texts, the parts of regions that draw their order.; What is read with no error is what was put: plain data.; What is read with no error is what was put: a whole field. -/
import Derived.Test.YtofngihdnjgmeaaGreatY01
import Derived.Test.YtofngihdnjgmeaaGreatY04
import Derived.Test.YtofngihdnjgmeaaGreatY07
import Derived.Test.YtofngihdnjgmeaaGreatY09
import Derived.Test.YtofngihdnjgmeaaGreatY10
import Derived.Test.YtofngihdnjgmeaaGreatY12
import Derived.Test.YtofngihdnjgmeaaGreatY17
import Derived.Test.YtofngihdnjgmeaaGreatY18
import Derived.Test.YtofngihdnjgmeaaGreatY21
import Derived.Test.YtofngihdnjgmeaaGreatY22A
import Derived.Test.YtofngihdnjgmeaaGreatY25
import Derived.OpenShut
import Derived.ShutString
import Derived.ChangeOld
import Derived.ChangeSlices
import Derived.Laws.Cover3
import Derived.Below
import Derived.Maps.AppendAt
import Derived.OwnWalk
import Derived.Laws.OwnMore
import Derived.Lib.AppendStr
import Derived.Lib.AppendZeros
import Derived.Laws.IdiomStrings
import Derived.Lib.Hide
import Derived.WalkKit
import Derived.ProofKit
import Derived.Deep.RegionHeld3
import Derived.Deep.MidRow
import Derived.Deep.QuietTactic
import Derived.BigQuiet
import Derived.Laws.StructEq
import Derived.Deep.Slices
import Derived.Laws.AppendOwn
import Derived.WalkMore
import Derived.LoopTactic
import Derived.Defers
import Derived.Recover
import Derived.WalkSmall
import Derived.Deep.OwnRows
import Derived.Lib.SliceRun
import Derived.Shelf.SlSortCmp.WholeK
import Derived.Shelf.SlSortCmp.NoneTotal
import Derived.Maps.OwnSet
import Derived.Maps.Views
namespace Go.Proofs.YtofngihdnjgmeaaGreat.oct
set_option maxRecDepth 100000
open Go.ChangeShapes Go.WideShapes Go.ChangeAt Go.RowKit

theorem toNat_ofInt {z : Int} (h0 : 0 ≤ z) (h1 : z < 256) : ((UInt8.ofNat z.toNat).toNat : Int) = z := by
  rw [of_small (by omega)]; omega
theorem u8_wf {z : Int} (h : (Lit.int .u8 z).wf = true) : 0 ≤ z ∧ z < 256 := by
  simp [Lit.wf] at h
  have e1 : IntKind.u8.min = 0 := by decide
  have e2 : IntKind.u8.max = 255 := by decide
  omega
/-- A slice of bytes that comes in. -/
theorem open_b {H : Type} {enc : TypeId × Value → H} {W : World} {b b' : Nat} {sp : Nat → Bool} {held : Bool} {v : Value} {d : DataW H} {p : List MemPlace} (hval : Value.okWide Tryz.prog W .any b' 36 v)
    (h : DataW.Trod enc Tryz.prog W b sp held 36 v d p) : ∃ A n c l, v = .slice A n c ∧ l.length = n ∧ n ≤ c ∧ c ≤ maxLen ∧ Bys W A l := by
  obtain ⟨A, n, c, rfl⟩ := okWide_slice Tryz.underlying36 hval
  obtain ⟨fuel, hf⟩ := h
  rcases open_ints Tryz.underlying36 Tryz.underlying5 (by kernel_rfl) hf with ⟨hcs, _⟩ | ⟨x, l, c, zs, hcs, _, hl, hm, hz, _, hcell, hwf⟩
  · simp [Value.cells] at hcs
    obtain ⟨rfl, rfl, rfl⟩ := hcs
    exact ⟨none, 0, 0, [], rfl, rfl, Nat.le_refl _, by simp, .inl rfl⟩
  · simp [Value.cells] at hcs
    obtain ⟨rfl, rfl, rfl⟩ := hcs
    have hnz : n ≤ zs.length := by rw [hz]; split <;> omega
    refine ⟨some x, n, _, (zs.take n).map fun z => UInt8.ofNat z.toNat, rfl, by simp; omega, hl, hm, ?_⟩
    rcases Nat.eq_zero_or_pos n with h0 | h0
    · left; rw [h0]; rfl
    · obtain ⟨b0, off, rfl, hc'⟩ := ints_at hcell (by omega)
      refine .inr ⟨b0, off, rfl, fun i hi => ?_⟩
      have hi' : i < n := by simp at hi; omega
      rw [hc' i (by omega)]
      have hz1 : i < zs.length := by omega
      have hw := hwf (zs.getD i 0) (by rw [List.getD_eq_getElem?_getD, List.getElem?_eq_getElem hz1]; exact List.getElem_mem hz1)
      have hw2 := u8_wf hw
      have e : ((zs.take n).map fun z => UInt8.ofNat z.toNat).getD i 0 = UInt8.ofNat (zs.getD i 0).toNat := by
        simp [List.getD, hi', hz1]
      rw [e, toNat_ofInt hw2.1 hw2.2]
end Go.Proofs.YtofngihdnjgmeaaGreat.oct

namespace Go.Proofs.YtofngihdnjgmeaaGreat
set_option maxRecDepth 100000
open Go.ChangeShapes Go.WideShapes Go.ChangeAt Go.RowKit

theorem rn_back {l : List UInt8} {e : Int} (h : oct.rnE l e = 0) : e = 0 ∧ isB (oct.rnN l e) = true ∧ l = oct.enc (oct.fold (oct.rnN l e)) ++ oct.rnL l e := by
  by_cases he : e = 0
  · subst he
    have hE : oct.decE l = 0 := h
    obtain ⟨_, _, h3, h4⟩ := oct.dec_zero hE
    refine ⟨rfl, h3, ?_⟩
    show l = oct.enc (oct.fold (oct.decN l)) ++ l.drop (oct.decS l)
    rw [← h4, List.take_append_drop]
  · rw [oct.rnE, if_neg he] at h; exact absurd h he
theorem gR_back {s : RS} {y : Int} (h : (gR s y).1.2 = 0) : s.2 = 0 ∧ isB (gR s y).2 = true ∧ s.1 = oct.enc (oct.fold (gR s y).2) ++ (gR s y).1.1 := rn_back h
theorem run_back : ∀ (ys : List Int) (s : RS), (run gR s ys).1.2 = 0 → s.2 = 0 ∧ s.1 = encs (run gR s ys).2 ++ (run gR s ys).1.1
  | [], s, h => ⟨h, by simp [run, encs]⟩
  | y :: ys, s, h => by
    have h1 : (run gR (gR s y).1 ys).1.2 = 0 := h
    obtain ⟨i1, i2⟩ := run_back ys _ h1
    obtain ⟨j1, _, j3⟩ := gR_back (y := y) i1
    refine ⟨j1, ?_⟩
    rw [j3, i2]
    show _ = encs ((gR s y).2 :: (run gR (gR s y).1 ys).2) ++ (run gR (gR s y).1 ys).1.1
    rw [encs_cons, List.append_assoc]
theorem rc_back {most : Int} {l : List UInt8} {e : Int} (h : oct.rcE most l e = 0) : oct.rnE l e = 0 ∧ oct.rcN most l e = oct.rnN l e ∧ 0 ≤ oct.rnN l e ∧ oct.rnN l e ≤ most := by
  have h0 := h
  unfold oct.rcE at h
  split at h
  · rename_i h1
    split at h
    · exact absurd h (by decide)
    · split at h
      · exact absurd h (by decide)
      · exact ⟨h1, by rw [oct.rcN, if_pos h0], by omega, by omega⟩
  · rename_i h1; exact absurd h h1
theorem tx_back {s : RS} {nm : ByteArray} (h : (txR s nm).1.2 = 0) : s.2 = 0 ∧ s.1 = oct.enc (oct.fold (txR s nm).2.size) ++ ((txR s nm).2.data.toList ++ (txR s nm).1.1) := by
  have h1 : oct.rtE 8 s.1 s.2 = 0 := h
  have h2 : oct.rcE 8 s.1 s.2 = 0 := by
    by_cases h2 : oct.rcE 8 s.1 s.2 = 0
    · exact h2
    · rw [oct.rtE, if_neg h2] at h1; exact absurd h1 h2
  have h3 : ¬ ((oct.rnL s.1 s.2).length : Int) < oct.rcN 8 s.1 s.2 := fun hlt => by
    rw [oct.rtE, if_pos h2, if_pos hlt] at h1; exact absurd h1 (by decide)
  obtain ⟨a1, a2, a3, a4⟩ := rc_back h2
  obtain ⟨b1, _, b3⟩ := rn_back a1
  refine ⟨b1, ?_⟩
  obtain ⟨k, hk⟩ : ∃ k : Nat, oct.rnN s.1 s.2 = (k : Int) := ⟨(oct.rnN s.1 s.2).toNat, by omega⟩
  rw [a2, hk] at h3
  have e4 : oct.rtS 8 s.1 s.2 = (oct.rnL s.1 s.2).take k := by rw [oct.rtS, if_pos h1, a2, hk, Int.toNat_natCast]
  have e5 : oct.rtL 8 s.1 s.2 = (oct.rnL s.1 s.2).drop k := by rw [oct.rtL, if_pos h1, a2, hk, Int.toNat_natCast]
  have e6 : (⟨(oct.rtS 8 s.1 s.2).toArray⟩ : ByteArray).size = k := by
    rw [e4]
    show ((oct.rnL s.1 s.2).take k).toArray.size = k
    rw [List.size_toArray, List.length_take]; omega
  show s.1 = oct.enc (oct.fold ((⟨(oct.rtS 8 s.1 s.2).toArray⟩ : ByteArray).size : Int)) ++ (oct.rtS 8 s.1 s.2 ++ oct.rtL 8 s.1 s.2)
  rw [e6, e4, e5, List.take_append_drop, ← hk]
  exact b3
theorem foR (ys pre post : List Int) (s : RS) {n o : Nat} (hn : ys.length = n) (ho : pre.length = o) {X : List Int} (hX : X = pre ++ (ys ++ post)) : fo gR n o (s, X) = ((run gR s ys).1, pre ++ ((run gR s ys).2 ++ post)) := by
  subst hn; subst ho; subst hX
  exact fo_run gR ys pre post s
end Go.Proofs.YtofngihdnjgmeaaGreat

namespace Go.Proofs.YtofngihdnjgmeaaGreat
set_option maxRecDepth 100000
open Go.ChangeShapes Go.WideShapes Go.ChangeAt Go.RowKit

def Zt : List Int := zer 579 ++ zL.l
/-- The parts behind the epoch. -/
def fT (v : Int) (nm : ByteArray) (p3 : RS × List Int) : FR RS :=
  if p3.2.getD 0 0 = 1 then
    if v = 1 then ⟨(fo gR 579 2 p3).1, nm, (fo gR 579 2 p3).2, 0, []⟩
    else ⟨(fo gR (5 * (ctR (fo gR 579 2 p3).1 0 []).2.1) 0 ((ctR (fo gR 579 2 p3).1 0 []).1, (ctR (fo gR 579 2 p3).1 0 []).2.2)).1, nm, (fo gR 579 2 p3).2, (ctR (fo gR 579 2 p3).1 0 []).2.1, (fo gR (5 * (ctR (fo gR 579 2 p3).1 0 []).2.1) 0 ((ctR (fo gR 579 2 p3).1 0 []).1, (ctR (fo gR 579 2 p3).1 0 []).2.2)).2⟩
  else if p3.2.getD 0 0 = 2 then ⟨(fo gR 4 581 p3).1, nm, (fo gR 4 581 p3).2, 0, []⟩
  else ⟨p3.1, nm, p3.2, 0, []⟩
theorem fE_fT (v : Int) (s : RS) : fE gR txR ctR v s zP.nm zP.X 0 [] = fT v (txR (gR s 0).1 zP.nm).2 (if v = 3 then ((gR (txR (gR s 0).1 zP.nm).1 0).1, (gR s 0).2 :: (gR (txR (gR s 0).1 zP.nm).1 0).2 :: Zt) else ((txR (gR s 0).1 zP.nm).1, (gR s 0).2 :: 0 :: Zt)) := by
  by_cases h : v = 3
  · subst h; rfl
  · rw [if_neg h]
    unfold fE
    simp only [h, if_false]
    rfl
end Go.Proofs.YtofngihdnjgmeaaGreat
