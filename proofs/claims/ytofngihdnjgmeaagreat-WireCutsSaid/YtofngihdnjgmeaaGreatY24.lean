/- Layer 8 (octets) as plain data: the bytes of a number, and the number of bytes. No program is spoken of here.; What the statements stand on: slices of bytes and of ints that come in, texts, the parts of regions that draw their order.; What was put is read back.; Rows of numbers as bytes, and what is read of them where the last bytes are missing. No program is spoken of here.; Bytes whose end is missing: plain data.; Bytes whose end is missing: a whole field. -/
import Derived.Test.YtofngihdnjgmeaaGreatY01
import Derived.Test.YtofngihdnjgmeaaGreatY04
import Derived.Test.YtofngihdnjgmeaaGreatY07
import Derived.Test.YtofngihdnjgmeaaGreatY09
import Derived.Test.YtofngihdnjgmeaaGreatY10
import Derived.Test.YtofngihdnjgmeaaGreatY12
import Derived.Test.YtofngihdnjgmeaaGreatY17
import Derived.Test.YtofngihdnjgmeaaGreatY18
import Derived.Test.YtofngihdnjgmeaaGreatY21
import Derived.Test.YtofngihdnjgmeaaGreatY22A
import Derived.Test.YtofngihdnjgmeaaGreatY23
import Derived.Test.YtofngihdnjgmeaaGreatY25
import Derived.Test.YtofngihdnjgmeaaGreatY27A
import Derived.Test.YtofngihdnjgmeaaGreatY29
import Derived.Test.YtofngihdnjgmeaaGreatY35
import Derived.Test.YtofngihdnjgmeaaGreatY37
import Derived.WalkKit
import Derived.ProofKit
import Derived.Lib.Hide
import Derived.Deep.RegionHeld3
import Derived.Below
import Derived.Deep.MidRow
import Derived.Deep.QuietTactic
import Derived.BigQuiet
import Derived.Laws.StructEq
import Derived.Laws.OwnMore
import Derived.OpenShut
import Derived.ShutString
import Derived.ChangeOld
import Derived.ChangeSlices
import Derived.Laws.Cover3
import Derived.Maps.AppendAt
import Derived.OwnWalk
import Derived.Lib.AppendStr
import Derived.Lib.AppendZeros
import Derived.Laws.IdiomStrings
import Derived.Deep.Slices
import Derived.Laws.AppendOwn
import Derived.WalkMore
import Derived.LoopTactic
import Derived.Defers
import Derived.Recover
import Derived.WalkSmall
import Derived.Deep.OwnRows
import Derived.Lib.SliceRun
import Derived.Shelf.SlSortCmp.WholeK
import Derived.Shelf.SlSortCmp.NoneTotal
import Derived.Maps.OwnSet
import Derived.Maps.Views
namespace Go.Proofs.YtofngihdnjgmeaaGreat.oct
set_option maxRecDepth 100000

/-- Bytes of a number of which the last ones are missing end too early. -/
theorem dec_cut (u : Nat) (k : Nat) (hk : k < (enc u).length) : decE ((enc u).take k) = 3 := by
  have h1 := lst_enc u []
  rw [List.append_nil] at h1
  have hl : ((enc u).take k).length = k := by rw [List.length_take]; omega
  have : lst ((enc u).take k) = k := by
    refine lst_is (by omega) (fun j hj => ?_) (fun h => by omega)
    have := lst_before (enc u) j (by omega)
    simpa [List.getD, List.getElem?_take, hj] using this
  unfold decE
  rw [this, if_pos (by omega)]
end Go.Proofs.YtofngihdnjgmeaaGreat.oct

namespace Go.Proofs.YtofngihdnjgmeaaGreat.oct
set_option maxRecDepth 100000
open Go.ChangeShapes Go.WideShapes Go.ChangeAt Go.RowKit

theorem high0 (A : Option Addr) (c : Nat) : (if c = 0 then A else A.map (·.add 0)) = A := by
  split
  · rfl
  · cases A with
    | none => rfl
    | some a => rfl
end Go.Proofs.YtofngihdnjgmeaaGreat.oct

namespace Go.Proofs.YtofngihdnjgmeaaGreat
set_option maxRecDepth 100000
open Go.ChangeShapes Go.WideShapes Go.ChangeAt Go.RowKit

/-- Bytes behind the end. -/
theorem dc_more {v : Int} {p : Pf} (hp : p.full) (hs : saysR v p = true) {r : List UInt8} (hr : r ≠ []) : dcErr (wireR v p ++ r) = 5 ∧ dcV (wireR v p ++ r) = 0 ∧ dcG (wireR v p ++ r) = zP := by
  obtain ⟨h1, h2, h3⟩ := dcF_more hp hs r
  obtain ⟨_, hb⟩ := says_parts hs
  have e : oct.endE r 0 = 5 := by rw [oct.endE, if_pos rfl, if_neg hr]
  have e1 : dcErr (wireR v p ++ r) = 5 := by
    rw [dcErr, if_neg (by rw [h2, hb]; exact fun h => absurd h.2 (by decide)), h1, e]
    rfl
  exact ⟨e1, by rw [dcV, e1]; rfl, by rw [dcG, e1]; rfl⟩
end Go.Proofs.YtofngihdnjgmeaaGreat

namespace Go.Proofs.YtofngihdnjgmeaaGreat.oct
set_option maxRecDepth 100000

def encs : List Int → List UInt8
  | [] => []
  | z :: r => enc (fold z) ++ encs r
theorem encs_append : ∀ x y : List Int, encs (x ++ y) = encs x ++ encs y
  | [], _ => rfl
  | z :: r, y => by simp [encs, encs_append r y]
theorem encs_len : ∀ x : List Int, (encs x).length ≤ 6 * x.length
  | [] => Nat.le_refl _
  | z :: r => by
    have := encs_len r
    have h6 := enc_six (fold_lt z)
    simp only [encs, List.length_append, List.length_cons]; omega
/-- A reader to which the last bytes of what is left are missing. -/
def Cut (q : List UInt8) (er : Int) (x : List Int) : Prop := q.length ≤ 1000 ∧ (er = 3 ∨ er = 0 ∧ ∃ k, k < (encs x).length ∧ q = (encs x).take k)
theorem Cut.last {q : List UInt8} {er : Int} (h : Cut q er []) : er = 3 := by
  rcases h.2 with h | ⟨_, k, hk, _⟩
  · exact h
  · simp [encs] at hk
theorem Cut.start {x : List Int} {k : Nat} (h : k < (encs x).length) (h1 : x.length ≤ 40) : Cut ((encs x).take k) 0 x := by
  have := encs_len x
  exact ⟨by rw [List.length_take]; omega, .inr ⟨rfl, k, h, rfl⟩⟩
end Go.Proofs.YtofngihdnjgmeaaGreat.oct

namespace Go.Proofs.YtofngihdnjgmeaaGreat
set_option maxRecDepth 100000
open Go.ChangeShapes Go.WideShapes Go.ChangeAt Go.RowKit

/-- What is left is a part of L whose end is missing, or that has been told. -/
def CutR (s : RS) (L : List UInt8) : Prop := s.2 = 3 ∨ (s.2 = 0 ∧ ∃ k, k < L.length ∧ s.1 = L.take k)
theorem take_enc {z : Int} {L : List UInt8} {k : Nat} (h : (oct.enc (oct.fold z)).length ≤ k) : (oct.enc (oct.fold z) ++ L).take k = oct.enc (oct.fold z) ++ L.take (k - (oct.enc (oct.fold z)).length) := by
  rw [List.take_append, List.take_of_length_le h]
theorem cut_short {z : Int} {L : List UInt8} {k : Nat} (h : k < (oct.enc (oct.fold z)).length) : oct.decE ((oct.enc (oct.fold z) ++ L).take k) = 3 := by
  rw [List.take_append_of_le_length (by omega)]
  exact oct.dec_cut (oct.fold z) k h
theorem cut_num {s : RS} {z : Int} {L : List UInt8} (hz : isB z = true) (y : Int) (h : CutR s (oct.enc (oct.fold z) ++ L)) : CutR (gR s y).1 L ∧ ((gR s y).1.2 = 0 → (gR s y).2 = z) := by
  obtain ⟨l, e⟩ := s
  rcases h with h | ⟨h, k, hk, hl⟩
  · have h : e = 3 := h
    subst h
    exact ⟨.inl rfl, fun h => absurd h (by show ¬ (3 : Int) = 0; decide)⟩
  · have h : e = 0 := h
    have hl : l = (oct.enc (oct.fold z) ++ L).take k := hl
    subst h; subst hl
    rcases Nat.lt_or_ge k (oct.enc (oct.fold z)).length with h1 | h1
    · have e3 : (gR ((oct.enc (oct.fold z) ++ L).take k, 0) y).1.2 = 3 := cut_short h1
      exact ⟨.inl e3, fun h => by rw [e3] at h; exact absurd h (by decide)⟩
    · rw [take_enc h1, gR_enc hz]
      rw [List.length_append] at hk
      exact ⟨.inr ⟨rfl, _, by omega, rfl⟩, fun _ => rfl⟩
theorem cut_run : ∀ (xs ys : List Int) (s : RS) (L : List UInt8), ys.length = xs.length → (∀ z ∈ xs, isB z = true) → CutR s (encs xs ++ L) → CutR (run gR s ys).1 L ∧ ((run gR s ys).1.2 = 0 → (run gR s ys).2 = xs)
  | [], [], s, L, _, _, h => ⟨by simpa [run, encs] using h, fun _ => rfl⟩
  | [], _ :: _, _, _, h, _, _ => by simp at h
  | _ :: _, [], _, _, h, _, _ => by simp at h
  | x :: xs, y :: ys, s, L, hl, hb, h => by
    rw [encs_cons, List.append_assoc] at h
    obtain ⟨h1, h2⟩ := cut_num (hb x List.mem_cons_self) y h
    obtain ⟨h3, h4⟩ := cut_run xs ys _ L (by simpa using hl) (fun z hz => hb z (List.mem_cons_of_mem _ hz)) h1
    refine ⟨h3, fun h5 => ?_⟩
    have h5 : (run gR (gR s y).1 ys).1.2 = 0 := h5
    show (gR s y).2 :: (run gR (gR s y).1 ys).2 = x :: xs
    rw [h4 h5, h2 (run_back ys _ h5).1]
theorem cut_ct {s : RS} {n : Nat} {L : List UInt8} (hn : n ≤ 16) (m : Nat) (R : List Int) (h : CutR s (oct.enc (oct.fold n) ++ L)) : CutR (ctR s m R).1 L ∧ ((ctR s m R).1.2 = 0 → (ctR s m R).2.1 = n ∧ (ctR s m R).2.2 = zer (5 * n)) := by
  obtain ⟨l, e⟩ := s
  rcases h with h | ⟨h, k, hk, hl⟩
  · have h : e = 3 := h
    subst h
    have e3 : (ctR (l, 3) m R).1.2 = 3 := rfl
    exact ⟨.inl e3, fun h => by rw [e3] at h; exact absurd h (by decide)⟩
  · have h : e = 0 := h
    have hl : l = (oct.enc (oct.fold n) ++ L).take k := hl
    subst h; subst hl
    rcases Nat.lt_or_ge k (oct.enc (oct.fold n)).length with h1 | h1
    · have e3 : (ctR ((oct.enc (oct.fold n) ++ L).take k, 0) m R).1.2 = 3 := by
        have e4 : oct.rnE ((oct.enc (oct.fold n) ++ L).take k) 0 = 3 := cut_short h1
        show oct.rcE 16 _ 0 = 3
        rw [oct.rcE, e4]
        rfl
      exact ⟨.inl e3, fun h => by rw [e3] at h; exact absurd h (by decide)⟩
    · rw [take_enc h1, ct_enc hn]
      rw [List.length_append] at hk
      exact ⟨.inr ⟨rfl, _, by omega, rfl⟩, fun _ => ⟨rfl, rfl⟩⟩
theorem cut_tx {s : RS} {nm : ByteArray} {L : List UInt8} (hn : nm.size ≤ 8) (x : ByteArray) (h : CutR s (oct.enc (oct.fold nm.size) ++ (nm.data.toList ++ L))) : CutR (txR s x).1 L ∧ ((txR s x).1.2 = 0 → (txR s x).2 = nm) := by
  obtain ⟨l, e⟩ := s
  have hlen : nm.data.toList.length = nm.size := by simp
  rcases h with h | ⟨h, k, hk, hl⟩
  · have h : e = 3 := h
    subst h
    have e3 : (txR (l, 3) x).1.2 = 3 := rfl
    exact ⟨.inl e3, fun h => by rw [e3] at h; exact absurd h (by decide)⟩
  · have h : e = 0 := h
    have hl : l = (oct.enc (oct.fold nm.size) ++ (nm.data.toList ++ L)).take k := hl
    subst h; subst hl
    rcases Nat.lt_or_ge k (oct.enc (oct.fold nm.size)).length with h1 | h1
    · have e3 : (txR ((oct.enc (oct.fold nm.size) ++ (nm.data.toList ++ L)).take k, 0) x).1.2 = 3 := by
        have e4 : oct.rnE ((oct.enc (oct.fold nm.size) ++ (nm.data.toList ++ L)).take k) 0 = 3 := cut_short h1
        have e5 : oct.rcE 8 ((oct.enc (oct.fold nm.size) ++ (nm.data.toList ++ L)).take k) 0 = 3 := by rw [oct.rcE, e4]; rfl
        show oct.rtE 8 _ 0 = 3
        rw [oct.rtE, e5]
        rfl
      exact ⟨.inl e3, fun h => by rw [e3] at h; exact absurd h (by decide)⟩
    · rw [take_enc h1]
      rw [List.length_append, List.length_append, hlen] at hk
      rcases Nat.lt_or_ge (k - (oct.enc (oct.fold nm.size)).length) nm.size with h2 | h2
      · have e3 : (txR (oct.enc (oct.fold nm.size) ++ (nm.data.toList ++ L).take (k - (oct.enc (oct.fold nm.size)).length), 0) x).1.2 = 3 := by
          generalize hj : k - (oct.enc (oct.fold nm.size)).length = j at h2
          obtain ⟨r1, r2, r3⟩ := rn_enc (z := (nm.size : Int)) (isB_small ⟨by omega, by omega⟩) ((nm.data.toList ++ L).take j)
          show oct.rtE 8 _ 0 = 3
          have e1 : oct.rcE 8 (oct.enc (oct.fold nm.size) ++ (nm.data.toList ++ L).take j) 0 = 0 := by rw [oct.rcE, r1, r2, if_pos rfl, if_neg (by omega), if_neg (by omega)]
          have e2 : oct.rcN 8 (oct.enc (oct.fold nm.size) ++ (nm.data.toList ++ L).take j) 0 = nm.size := by rw [oct.rcN, if_pos e1, r1]
          rw [oct.rtE, if_pos e1, r3, e2, if_pos (by rw [List.length_take]; omega)]
        exact ⟨.inl e3, fun h => by rw [e3] at h; exact absurd h (by decide)⟩
      · have e4 : (nm.data.toList ++ L).take (k - (oct.enc (oct.fold nm.size)).length) = nm.data.toList ++ L.take (k - (oct.enc (oct.fold nm.size)).length - nm.size) := by
          rw [List.take_append, List.take_of_length_le (by omega), hlen]
        rw [e4, tx_enc hn]
        exact ⟨.inr ⟨rfl, _, by omega, rfl⟩, fun _ => rfl⟩
theorem cut_end {s : RS} (h : CutR s []) : s.2 = 3 := by
  rcases h with h | ⟨_, k, hk, _⟩
  · exact h
  · simp at hk
end Go.Proofs.YtofngihdnjgmeaaGreat

namespace Go.Proofs.YtofngihdnjgmeaaGreat
set_option maxRecDepth 100000
open Go.ChangeShapes Go.WideShapes Go.ChangeAt Go.RowKit

theorem gR3 {s : RS} (y : Int) (h : s.2 = 3) : (gR s y).1.2 = 3 := by
  obtain ⟨l, e⟩ := s
  have h : e = 3 := h
  subst h; rfl
theorem ct3 {s : RS} (n : Nat) (R : List Int) (h : s.2 = 3) : (ctR s n R).1.2 = 3 := by
  obtain ⟨l, e⟩ := s
  have h : e = 3 := h
  subst h; rfl
theorem fo3 : ∀ (n o : Nat) (s : RS × List Int), s.1.2 = 3 → (fo gR n o s).1.2 = 3
  | 0, _, _, h => h
  | n + 1, o, s, h => fo3 n (o + 1) _ (gR3 (s.2.getD o 0) h)
theorem fT3 (v : Int) (nm : ByteArray) (p : RS × List Int) (h : p.1.2 = 3) : (fT v nm p).s.2 = 3 := by
  have h1 := fo3 579 2 p h
  unfold fT
  split
  · split
    · exact h1
    · exact fo3 _ 0 _ (ct3 0 [] h1)
  · split
    · exact fo3 4 581 p h
    · exact h
theorem fT_cut {v : Int} {p : Pf} (hp : p.full) (hr : rightP p = true) (nm : ByteArray) (s3 : RS) (h : CutR s3 (if p.k = 1 then encs p.C ++ (if v = 1 then [] else oct.enc (oct.fold p.hs.length) ++ encs (flat p.hs)) else encs p.L.l)) : (fT v nm (s3, p.k :: p.e :: Zt)).s.2 = 3 := by
  obtain ⟨_, bC, bL, bH⟩ := right_B hp hr
  have hC : p.C.length = 579 := hp
  have hh := right_holds hr
  have f3 := foR (zer 579) [p.k, p.e] zL.l s3 (n := 579) (o := 2) (zer_length 579) rfl (X := p.k :: p.e :: Zt) rfl
  have f4 := foR zL.l (p.k :: p.e :: zer 579) [] s3 (n := 4) (o := 581) rfl (by simp [zer]) (X := p.k :: p.e :: Zt) (by simp [Zt])
  have c0 : (p.k :: p.e :: Zt).getD 0 0 = p.k := rfl
  unfold fT
  simp only [c0]
  by_cases hk : p.k = 1
  · rw [if_pos hk] at h ⊢
    rw [f3]
    obtain ⟨h1, _⟩ := cut_run p.C (zer 579) s3 _ (by rw [zer_length, hC]) bC h
    generalize run gR s3 (zer 579) = q at h1
    obtain ⟨s4, D⟩ := q
    simp only at h1 ⊢
    by_cases hv : v = 1
    · rw [if_pos hv] at h1 ⊢
      exact cut_end h1
    · rw [if_neg hv] at h1 ⊢
      obtain ⟨h2, h3⟩ := cut_ct hh 0 [] h1
      generalize ctR s4 0 [] = q2 at h2 h3
      obtain ⟨s5, n, R0⟩ := q2
      simp only at h2 h3 ⊢
      rcases h2 with h2 | h2
      · exact fo3 _ _ _ h2
      · obtain ⟨rfl, rfl⟩ := h3 h2.1
        have f5 := foR (zer (5 * p.hs.length)) [] [] s5 (n := 5 * p.hs.length) (o := 0) (zer_length _) rfl (X := zer (5 * p.hs.length)) (by simp)
        rw [f5]
        exact cut_end (cut_run (flat p.hs) (zer (5 * p.hs.length)) s5 [] (by rw [zer_length, flat_length]; omega) bH (by rw [List.append_nil]; exact .inr h2)).1
  · have hk2 : p.k = 2 := by
      rcases kind_of hr with h | h
      · exact absurd h hk
      · exact h
    rw [if_neg hk] at h ⊢
    rw [if_pos hk2, f4]
    exact cut_end (cut_run p.L.l zL.l s3 [] rfl bL (by rw [List.append_nil]; exact h)).1
theorem wire_shape {v : Int} (hv : v = 1 ∨ v = 2 ∨ v = 3) {p : Pf} (hp : p.full) (hk : p.k = 1 ∨ p.k = 2) : wireR v p = oct.enc (oct.fold v) ++ (oct.enc (oct.fold p.k) ++ (oct.enc (oct.fold p.nm.size) ++ (p.nm.data.toList ++ ((if v = 3 then oct.enc (oct.fold p.e) else []) ++ (if p.k = 1 then encs p.C ++ (if v = 1 then [] else oct.enc (oct.fold p.hs.length) ++ encs (flat p.hs)) else encs p.L.l))))) := by
  have eC := encs_C (show p.C.length = 579 from hp)
  rw [eC]
  unfold wireR headR
  rcases hk with hk | hk <;> rw [hk] <;> rcases hv with rfl | rfl | rfl <;> simp
theorem dc_cut {v : Int} {p : Pf} (hp : p.full) (hs : saysR v p = true) {k : Nat} (hk : k < (wireR v p).length) : dcErr ((wireR v p).take k) = 3 := by
  obtain ⟨hr, hb⟩ := says_parts hs
  have hv := ver_cases hb
  have hnm := right_name hr
  obtain ⟨be, _, _, _⟩ := right_B hp hr
  have bk : isB p.k = true := by rcases kind_of hr with h | h <;> rw [h] <;> decide
  have bv : isB v = true := by rcases hv with rfl | rfl | rfl <;> decide
  have h0 : CutR ((wireR v p).take k, 0) (wireR v p) := .inr ⟨rfl, k, hk, rfl⟩
  generalize (wireR v p).take k = l at h0
  rw [wire_shape hv hp (kind_of hr)] at h0
  obtain ⟨h1, g1⟩ := cut_num bv 0 h0
  have h1 : CutR (oct.rnL l 0, oct.rnE l 0) _ := h1
  have g1 : oct.rnE l 0 = 0 → oct.rnN l 0 = v := g1
  obtain ⟨h2, g2⟩ := cut_num bk 0 h1
  obtain ⟨h3, g3⟩ := cut_tx hnm zP.nm h2
  have hF : (dcF l).s.2 = 3 := by
    have hd : dcF l = fT (oct.rnN l 0) _ _ := fE_fT (oct.rnN l 0) (oct.rnL l 0, oct.rnE l 0)
    rw [hd]
    rcases h3 with h3 | h3
    · apply fT3
      split
      · exact gR3 0 h3
      · exact h3
    · obtain ⟨b1, _⟩ := tx_back h3.1
      obtain ⟨c1, _⟩ := gR_back b1
      have hV := g1 c1
      have hK := g2 b1
      rw [hV, hK]
      by_cases h33 : v = 3
      · rw [if_pos h33]
        rw [if_pos h33] at h3
        obtain ⟨h4, g4⟩ := cut_num be 0 (show CutR _ _ from .inr h3)
        rcases h4 with h4 | h4
        · exact fT3 _ _ _ h4
        · rw [g4 h4.1]
          exact fT_cut hp hr _ _ (.inr h4)
      · rw [if_neg h33]
        rw [if_neg h33, List.nil_append] at h3
        have he := says_e hs h33
        have := fT_cut (v := v) hp hr (txR (gR (oct.rnL l 0, oct.rnE l 0) 0).1 zP.nm).2 (txR (gR (oct.rnL l 0, oct.rnE l 0) 0).1 zP.nm).1 (.inr h3)
        rw [he] at this
        exact this
  have he : oct.endE (dcF l).s.1 (dcF l).s.2 = 3 := by rw [hF]; rfl
  have hc : ¬ (oct.rnE l 0 = 0 ∧ verB (oct.rnN l 0) = false) := fun h => by rw [g1 h.1, hb] at h; exact absurd h.2 (by decide)
  rw [dcErr, if_neg hc, he]
  rfl
end Go.Proofs.YtofngihdnjgmeaaGreat
