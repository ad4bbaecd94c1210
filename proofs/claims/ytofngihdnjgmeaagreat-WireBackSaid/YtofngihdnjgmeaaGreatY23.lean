/- Layer 8 (octets) as plain data: the bytes of a number, and the number of bytes. No program is spoken of here.; What the statements of layer 10 stand on.; What was put is read: plain data.; What was put is read: a whole field.; What was put is read back. -/
import Derived.Test.YtofngihdnjgmeaaGreatY01
import Derived.Test.YtofngihdnjgmeaaGreatY04
import Derived.Test.YtofngihdnjgmeaaGreatY07
import Derived.Test.YtofngihdnjgmeaaGreatY09
import Derived.Test.YtofngihdnjgmeaaGreatY12
import Derived.Test.YtofngihdnjgmeaaGreatY17
import Derived.Test.YtofngihdnjgmeaaGreatY18
import Derived.Test.YtofngihdnjgmeaaGreatY21
import Derived.Test.YtofngihdnjgmeaaGreatY22A
import Derived.Test.YtofngihdnjgmeaaGreatY25
import Derived.Test.YtofngihdnjgmeaaGreatY27A
import Derived.Test.YtofngihdnjgmeaaGreatY29
import Derived.Test.YtofngihdnjgmeaaGreatY37
import Derived.WalkKit
import Derived.ProofKit
import Derived.Lib.Hide
import Derived.Deep.RegionHeld3
import Derived.Below
import Derived.Deep.MidRow
import Derived.Deep.QuietTactic
import Derived.BigQuiet
import Derived.Laws.StructEq
import Derived.Laws.OwnMore
import Derived.Maps.OwnSet
import Derived.Maps.Views
import Derived.Maps.AppendAt
import Derived.OwnWalk
import Derived.OpenShut
import Derived.ChangeOld
import Derived.Deep.Slices
import Derived.ChangeSlices
import Derived.Laws.AppendOwn
import Derived.WalkMore
import Derived.LoopTactic
import Derived.Defers
import Derived.Recover
import Derived.WalkSmall
import Derived.Lib.AppendZeros
import Derived.Deep.OwnRows
import Derived.Lib.SliceRun
import Derived.Shelf.SlSortCmp.WholeK
import Derived.Shelf.SlSortCmp.NoneTotal
import Derived.Laws.Cover3
import Derived.Lib.AppendStr
import Derived.Laws.IdiomStrings
import Derived.ShutString
namespace Go.Proofs.YtofngihdnjgmeaaGreat.oct
set_option maxRecDepth 100000

theorem unf_fold (n : Int) : unf (fold n) = may n := by
  unfold unf fold may
  by_cases h : isB n = true
  · rw [if_pos h, if_pos h]
    by_cases h0 : n < 0
    · rw [if_pos h0, if_pos (by omega)]; omega
    · rw [if_neg h0, if_neg (by omega)]; omega
  · rw [if_neg h, if_neg h]; rfl
theorem isB_may (n : Int) : isB (may n) = true := by
  unfold may; split
  · assumption
  · rfl
theorem jn_enc (u : Nat) : jn (enc u) = u := by
  induction u using Nat.strongRecOn with
  | ind u ih =>
    by_cases h : u < 128
    · rw [enc_lt h]; simp only [jn, of_small (show u < 256 by omega)]; omega
    · rw [enc_ge h]; simp only [jn, of_small (show u % 128 + 128 < 256 by omega), ih (u / 128) (by omega)]; omega
theorem lst_enc (u : Nat) (r : List UInt8) : lst (enc u ++ r) + 1 = (enc u).length := by
  induction u using Nat.strongRecOn with
  | ind u ih =>
    by_cases h : u < 128
    · rw [enc_lt h]; simp [lst, fin, Nat.mod_eq_of_lt (show u < 256 by omega), h]
    · rw [enc_ge h]
      have hf : fin (UInt8.ofNat (u % 128 + 128)) = false := by
        unfold fin; rw [of_small (by omega)]; simp
      simp only [List.cons_append, lst, hf, List.length_cons]
      have := ih (u / 128) (by omega)
      simpa using this
/-- The last of several bytes is not 0. -/
theorem last_enc (u : Nat) (r : List UInt8) (h : 0 < lst (enc u ++ r)) : (enc u ++ r).getD (lst (enc u ++ r)) 0 ≠ 0 := by
  induction u using Nat.strongRecOn with
  | ind u ih =>
    by_cases h1 : u < 128
    · rw [enc_lt h1] at h; simp [lst, fin, Nat.mod_eq_of_lt (show u < 256 by omega), h1] at h
    · rw [enc_ge h1] at h ⊢
      have hf : fin (UInt8.ofNat (u % 128 + 128)) = false := by
        unfold fin; rw [of_small (by omega)]; simp
      simp only [List.cons_append, lst, hf, Bool.false_eq_true, if_false, List.getD_cons_succ]
      rcases Nat.eq_zero_or_pos (lst (enc (u / 128) ++ r)) with h2 | h2
      · rw [h2]
        by_cases h3 : u / 128 < 128
        · rw [enc_lt h3]
          intro h4
          have h5 := congrArg UInt8.toNat h4
          simp only [List.cons_append, List.getD_cons_zero, of_small (show u / 128 < 256 by omega)] at h5
          simp at h5; omega
        · rw [enc_ge h3] at h2
          have hf2 : fin (UInt8.ofNat (u / 128 % 128 + 128)) = false := by
            unfold fin; rw [of_small (by omega)]; simp
          simp only [List.cons_append, lst, hf2] at h2
          simp at h2
      · exact ih (u / 128) (by omega) h2
theorem dec_enc (n : Int) (r : List UInt8) : decE (enc (fold n) ++ r) = 0 ∧ decN (enc (fold n) ++ r) = may n ∧ decS (enc (fold n) ++ r) = (enc (fold n)).length := by
  have h1 := lst_enc (fold n) r
  have h6 := enc_six (fold_lt n)
  have ht : (enc (fold n) ++ r).take (lst (enc (fold n) ++ r) + 1) = enc (fold n) := by rw [h1]; simp
  have hE : decE (enc (fold n) ++ r) = 0 := by
    unfold decE
    rw [if_neg (by rw [List.length_append]; omega), if_neg, ht, jn_enc, unf_fold, isB_may, if_pos rfl]
    rintro (h | ⟨h2, h3⟩)
    · omega
    · exact last_enc _ _ h2 h3
  refine ⟨hE, ?_, ?_⟩
  · unfold decN; rw [if_pos hE, ht, jn_enc, unf_fold]
  · unfold decS; rw [if_pos hE, h1]
end Go.Proofs.YtofngihdnjgmeaaGreat.oct

namespace Go.Proofs.YtofngihdnjgmeaaGreat
set_option maxRecDepth 100000
open Go.ChangeShapes Go.WideShapes Go.ChangeAt Go.RowKit

theorem right_name {p : Pf} (h : rightP p = true) : p.nm.size ≤ 8 := by
  have h1 := (right_parts h).1
  simp only [nameB, Bool.and_eq_true, decide_eq_true_eq] at h1
  exact h1.1.2
end Go.Proofs.YtofngihdnjgmeaaGreat

namespace Go.Proofs.YtofngihdnjgmeaaGreat
set_option maxRecDepth 100000
open Go.ChangeShapes Go.WideShapes Go.ChangeAt Go.RowKit

theorem may_of {z : Int} (h : isB z = true) : oct.may z = z := by rw [oct.may, if_pos h]
theorem gR_enc {z : Int} (h : isB z = true) (m : List UInt8) (y : Int) : gR (oct.enc (oct.fold z) ++ m, 0) y = ((m, 0), z) := by
  obtain ⟨h1, h2, h3⟩ := oct.dec_enc z m
  show ((oct.rnL _ 0, oct.rnE _ 0), oct.rnN _ 0) = _
  rw [show oct.rnL (oct.enc (oct.fold z) ++ m) 0 = m by show (oct.enc (oct.fold z) ++ m).drop (oct.decS _) = m; rw [h3]; simp, show oct.rnE (oct.enc (oct.fold z) ++ m) 0 = 0 from h1, show oct.rnN (oct.enc (oct.fold z) ++ m) 0 = z by rw [show oct.rnN (oct.enc (oct.fold z) ++ m) 0 = oct.decN (oct.enc (oct.fold z) ++ m) from rfl, h2, may_of h]]
theorem rn_enc {z : Int} (h : isB z = true) (m : List UInt8) : oct.rnN (oct.enc (oct.fold z) ++ m) 0 = z ∧ oct.rnE (oct.enc (oct.fold z) ++ m) 0 = 0 ∧ oct.rnL (oct.enc (oct.fold z) ++ m) 0 = m := by
  have h1 := gR_enc h m 0
  simp only [gR, Prod.mk.injEq] at h1
  exact ⟨h1.2, h1.1.2, h1.1.1⟩
theorem run_gR : ∀ (xs ys : List Int) (r : List UInt8), ys.length = xs.length → (∀ z ∈ xs, isB z = true) → run gR (encs xs ++ r, 0) ys = ((r, 0), xs)
  | [], [], r, _, _ => by simp [run, encs]
  | [], _ :: _, _, h, _ => by simp at h
  | _ :: _, [], _, h, _ => by simp at h
  | x :: xs, y :: ys, r, h, hb => by
    rw [run, encs_cons, List.append_assoc, gR_enc (hb x List.mem_cons_self)]
    simp only
    rw [run_gR xs ys r (by simpa using h) (fun z hz => hb z (List.mem_cons_of_mem _ hz))]
theorem fo_gR {n o : Nat} {X : List Int} (xs pre post : List Int) (r : List UInt8) (hn : xs.length = n) (ho : pre.length = o) (hX : ∃ ys, ys.length = n ∧ X = pre ++ (ys ++ post)) (hb : ∀ z ∈ xs, isB z = true) : fo gR n o ((encs xs ++ r, 0), X) = ((r, 0), pre ++ (xs ++ post)) := by
  obtain ⟨ys, hy, rfl⟩ := hX
  subst ho
  have h := fo_run gR ys pre post (encs xs ++ r, 0)
  rw [run_gR xs ys r (by omega) hb, hy] at h
  exact h
theorem isB_small {z : Int} (h : 0 ≤ z ∧ z ≤ 1099511627776) : isB z = true := isB_iff.2 ⟨by omega, by omega⟩
theorem ct_enc {n : Nat} (h : n ≤ 16) (r : List UInt8) (m : Nat) (R : List Int) : ctR (oct.enc (oct.fold n) ++ r, 0) m R = ((r, 0), n, zer (5 * n)) := by
  obtain ⟨h1, h2, h3⟩ := rn_enc (z := (n : Int)) (isB_small ⟨by omega, by omega⟩) r
  have e1 : oct.rcE 16 (oct.enc (oct.fold n) ++ r) 0 = 0 := by
    rw [oct.rcE, h1, h2, if_pos rfl, if_neg (by omega), if_neg (by omega)]
  have e2 : oct.rcN 16 (oct.enc (oct.fold n) ++ r) 0 = n := by rw [oct.rcN, if_pos e1, h1]
  simp only [ctR]
  rw [h3, e1, e2, Int.toNat_natCast]
theorem tx_enc {nm : ByteArray} (h : nm.size ≤ 8) (r : List UInt8) (s : ByteArray) : txR (oct.enc (oct.fold nm.size) ++ (nm.data.toList ++ r), 0) s = ((r, 0), nm) := by
  obtain ⟨h1, h2, h3⟩ := rn_enc (z := (nm.size : Int)) (isB_small ⟨by omega, by omega⟩) (nm.data.toList ++ r)
  have hl : nm.data.toList.length = nm.size := by simp
  have e1 : oct.rcE 8 (oct.enc (oct.fold nm.size) ++ (nm.data.toList ++ r)) 0 = 0 := by
    rw [oct.rcE, h1, h2, if_pos rfl, if_neg (by omega), if_neg (by omega)]
  have e2 : oct.rcN 8 (oct.enc (oct.fold nm.size) ++ (nm.data.toList ++ r)) 0 = nm.size := by rw [oct.rcN, if_pos e1, h1]
  have e3 : oct.rtE 8 (oct.enc (oct.fold nm.size) ++ (nm.data.toList ++ r)) 0 = 0 := by
    rw [oct.rtE, if_pos e1, h3, e2, if_neg (by rw [List.length_append, hl]; omega)]
  have e4 : oct.rtS 8 (oct.enc (oct.fold nm.size) ++ (nm.data.toList ++ r)) 0 = nm.data.toList := by
    rw [oct.rtS, if_pos e3, h3, e2, Int.toNat_natCast, ← hl, List.take_left']
    rfl
  have e5 : oct.rtL 8 (oct.enc (oct.fold nm.size) ++ (nm.data.toList ++ r)) 0 = r := by
    rw [oct.rtL, if_pos e3, h3, e2, Int.toNat_natCast, ← hl, List.drop_left']
    rfl
  simp only [txR]
  rw [e3, e4, e5]
theorem mem_get0 {R : List Int} {z : Int} (hz : z ∈ R) : ∃ j, j < R.length ∧ R.getD j 0 = z := by
  obtain ⟨j, hj, rfl⟩ := List.getElem_of_mem hz
  exact ⟨j, hj, by simp [List.getD, hj]⟩
theorem rights_B {R : List Int} (hl : R.length = 288) (h : rightsB R = true) : ∀ z ∈ R, isB z = true := by
  intro z hz
  obtain ⟨j, hj, rfl⟩ := mem_get0 hz
  have h1 := (rightsB_iff.1 h).1 (j / 16) (by omega)
  have h2 := (rightB_iff (seg_length (by omega))).1 h1 (j % 16) (by omega)
  rw [seg_get (by omega), show j / 16 * 16 + j % 16 = j by omega] at h2
  exact isB_small h2
theorem C_B {C : List Int} (hl : C.length = 579) (h : rightC C = true) : ∀ z ∈ C, isB z = true := by
  intro z hz
  rw [C_parts hl] at hz
  simp only [rightC, Bool.and_eq_true, decide_eq_true_eq] at h
  obtain ⟨⟨⟨⟨⟨a1, a2⟩, a3⟩, a4⟩, b1, b2⟩, _⟩ := h
  have c1 := isB_iff.1 a1
  have c2 := isB_iff.1 a2
  rcases List.mem_append.1 hz with hz | hz
  · simp only [List.mem_cons, List.not_mem_nil, or_false] at hz
    rcases hz with rfl | rfl | rfl
    · exact isB_iff.2 ⟨by omega, by omega⟩
    · exact a1
    · exact a2
  · rcases List.mem_append.1 hz with hz | hz
    · exact rights_B (dnR_length hl) b1 z hz
    · exact rights_B (upR_length hl) b2 z hz
theorem L_B {a : Lk} (h : rightL a = true) : ∀ z ∈ a.l, isB z = true := by
  have h := rightL_iff.1 h
  intro z hz
  simp only [Lk.l, List.mem_cons, List.not_mem_nil, or_false] at hz
  rcases hz with rfl | rfl | rfl | rfl <;> exact isB_iff.2 ⟨by omega, by omega⟩
theorem H_B {hs : List Ho} (h : rightsL hs = true) : ∀ z ∈ flat hs, isB z = true := by
  intro z hz
  simp only [rightsL, Bool.and_eq_true, decide_eq_true_eq] at h
  simp only [flat, List.mem_flatMap] at hz
  obtain ⟨x, hx, hz⟩ := hz
  obtain ⟨i, hi, rfl⟩ := List.getElem_of_mem hx
  have h1 := (upTo_iff hs hs.length).1 h.2 i hi
  simp only [okAt, Bool.and_eq_true] at h1
  have h2 := rightH_iff.1 h1.1
  rw [show hs.getD i z5 = hs[i] by simp [List.getD, hi]] at h2
  simp only [Ho.l, List.mem_cons, List.not_mem_nil, or_false] at hz
  rcases hz with rfl | rfl | rfl | rfl | rfl <;> exact isB_iff.2 ⟨by omega, by omega⟩
end Go.Proofs.YtofngihdnjgmeaaGreat

namespace Go.Proofs.YtofngihdnjgmeaaGreat
set_option maxRecDepth 100000
open Go.ChangeShapes Go.WideShapes Go.ChangeAt Go.RowKit

theorem says_e {v : Int} {p : Pf} (h : saysR v p = true) (hv : v ≠ 3) : p.e = 0 := by
  simp only [saysR, Bool.and_eq_true, Bool.or_eq_true, decide_eq_true_eq] at h
  rcases h.1.2 with h | h
  · exact absurd h hv
  · exact h
theorem says_h {v : Int} {p : Pf} (h : saysR v p = true) (hv : ¬ 1 < v) : p.hs = [] := by
  simp only [saysR, Bool.and_eq_true, Bool.or_eq_true, decide_eq_true_eq] at h
  rcases h.2 with h | h
  · exact absurd h hv
  · exact List.eq_nil_of_length_eq_zero h
theorem right_B {p : Pf} (hp : p.full) (h : rightP p = true) : isB p.e = true ∧ (∀ z ∈ p.C, isB z = true) ∧ (∀ z ∈ p.L.l, isB z = true) ∧ (∀ z ∈ flat p.hs, isB z = true) := by
  obtain ⟨_, h2, h3⟩ := right_parts h
  simp only [epB, Bool.and_eq_true] at h2
  refine ⟨h2.2, ?_⟩
  rcases h3 with ⟨_, a2, a3, a4⟩ | ⟨_, a2, a3, a4⟩
  · exact ⟨C_B hp a2, by rw [a4]; decide, H_B a3⟩
  · exact ⟨by rw [a4]; decide, L_B a2, by rw [a3]; intro z hz; cases hz⟩
theorem isB_one {z : Int} (h : isB z = true) : ∀ y ∈ [z], isB y = true := by
  intro y hy
  rw [List.mem_singleton] at hy
  rw [hy]; exact h
theorem dc_11 (p : Pf) (hp : p.full) (hr : rightP p = true) (hs : saysR 1 p = true) (hk : p.k = 1) (r : List UInt8) : dcF (wireR 1 p ++ r) = ⟨(r, 0), p.nm, p.X, p.hs.length, flat p.hs⟩ ∧ oct.rnN (wireR 1 p ++ r) 0 = 1 ∧ oct.rnE (wireR 1 p ++ r) 0 = 0 := by
  obtain ⟨be, bC, bL, bH⟩ := right_B hp hr
  have hC : p.C.length = 579 := hp
  have hnm := right_name hr
  have hh := right_holds hr
  have bk : isB p.k = true := by rw [hk]; decide
  have he := says_e hs (by decide)
  have hn := says_h hs (by decide)
  have hx : (p.C ++ zL.l) = p.C ++ p.L.l ∧ True := by
    rcases (right_parts hr).2.2 with ⟨a1, _, a3, a4⟩ | ⟨a1, _, a3, a4⟩
    · exact ⟨by rw [a4], trivial⟩
    · rw [hk] at a1; exact absurd a1 (by decide)
  have hW : wireR 1 p ++ r = oct.enc (oct.fold 1) ++ (oct.enc (oct.fold p.k) ++ (oct.enc (oct.fold p.nm.size) ++ (p.nm.data.toList ++ (encs p.C ++ r)))) := by
    simp [wireR, headR, hk, encs_C hC]
  have hXp : p.X = p.k :: p.e :: (p.C ++ p.L.l) := rfl
  clear hs hr
  have t1 := fun s => tx_enc hnm (encs p.C ++ r) s
  have f3 : ∀ r : List UInt8, fo gR 579 2 ((encs p.C ++ r, 0), p.k :: p.e :: (zer 579 ++ zL.l)) = ((r, 0), p.k :: p.e :: (p.C ++ zL.l)) := fun r => fo_gR p.C [p.k, p.e] zL.l r hC rfl ⟨zer 579, zer_length 579, rfl⟩ bC
  have c0 : (p.k :: p.e :: (zer 579 ++ zL.l)).getD 0 0 = 1 := hk
  rw [hW]
  obtain ⟨n1, n2, n3⟩ := rn_enc (z := 1) (by decide) (oct.enc (oct.fold p.k) ++ (oct.enc (oct.fold p.nm.size) ++ (p.nm.data.toList ++ (encs p.C ++ r))))
  refine ⟨?_, n1, n2⟩
  have f1 : ∀ r : List UInt8, fo gR 1 0 ((oct.enc (oct.fold p.k) ++ r, 0), zP.X) = ((r, 0), p.k :: p.e :: (zer 579 ++ zL.l)) := fun r => by
    have h := fo_gR (X := zP.X) [p.k] [] (0 :: (zer 579 ++ zL.l)) r (n := 1) (o := 0) rfl rfl ⟨[0], rfl, rfl⟩ (isB_one bk)
    rw [he]; simpa [encs] using h
  unfold dcF
  rw [n1, n2, n3]
  unfold fE
  have d1 : ((2 : Int) = 1) = False := by decide
  have d2 : ((3 : Int) = 1) = False := by decide
  have d3 : ((1 : Int) = 3) = False := by decide
  have d4 : ((2 : Int) = 3) = False := by decide
  simp only [f1, t1, d3, if_false, if_true, c0, f3]
  rw [hXp, ← hx.1, hn]
  rfl
theorem dc_12 (p : Pf) (hp : p.full) (hr : rightP p = true) (hs : saysR 1 p = true) (hk : p.k = 2) (r : List UInt8) : dcF (wireR 1 p ++ r) = ⟨(r, 0), p.nm, p.X, p.hs.length, flat p.hs⟩ ∧ oct.rnN (wireR 1 p ++ r) 0 = 1 ∧ oct.rnE (wireR 1 p ++ r) 0 = 0 := by
  obtain ⟨be, bC, bL, bH⟩ := right_B hp hr
  have hC : p.C.length = 579 := hp
  have hnm := right_name hr
  have hh := right_holds hr
  have bk : isB p.k = true := by rw [hk]; decide
  have he := says_e hs (by decide)
  have hn := says_h hs (by decide)
  have hx : (zer 579 ++ p.L.l) = p.C ++ p.L.l ∧ p.hs = [] := by
    rcases (right_parts hr).2.2 with ⟨a1, _, a3, a4⟩ | ⟨a1, _, a3, a4⟩
    · rw [hk] at a1; exact absurd a1 (by decide)
    · exact ⟨by rw [a4], a3⟩
  have hW : wireR 1 p ++ r = oct.enc (oct.fold 1) ++ (oct.enc (oct.fold p.k) ++ (oct.enc (oct.fold p.nm.size) ++ (p.nm.data.toList ++ (encs p.L.l ++ r)))) := by
    simp [wireR, headR, hk]
  have hXp : p.X = p.k :: p.e :: (p.C ++ p.L.l) := rfl
  clear hs hr
  have t1 := fun s => tx_enc hnm (encs p.L.l ++ r) s
  have f3 : ∀ r : List UInt8, fo gR 4 581 ((encs p.L.l ++ r, 0), p.k :: p.e :: (zer 579 ++ zL.l)) = ((r, 0), p.k :: p.e :: (zer 579 ++ p.L.l)) := fun r => by
    have h := fo_gR (X := p.k :: p.e :: (zer 579 ++ zL.l)) p.L.l (p.k :: p.e :: zer 579) [] r (n := 4) (o := 581) rfl (by simp [zer]) ⟨zL.l, rfl, by simp⟩ bL
    simpa using h
  have c0 : (p.k :: p.e :: (zer 579 ++ zL.l)).getD 0 0 = 2 := hk
  rw [hW]
  obtain ⟨n1, n2, n3⟩ := rn_enc (z := 1) (by decide) (oct.enc (oct.fold p.k) ++ (oct.enc (oct.fold p.nm.size) ++ (p.nm.data.toList ++ (encs p.L.l ++ r))))
  refine ⟨?_, n1, n2⟩
  have f1 : ∀ r : List UInt8, fo gR 1 0 ((oct.enc (oct.fold p.k) ++ r, 0), zP.X) = ((r, 0), p.k :: p.e :: (zer 579 ++ zL.l)) := fun r => by
    have h := fo_gR (X := zP.X) [p.k] [] (0 :: (zer 579 ++ zL.l)) r (n := 1) (o := 0) rfl rfl ⟨[0], rfl, rfl⟩ (isB_one bk)
    rw [he]; simpa [encs] using h
  unfold dcF
  rw [n1, n2, n3]
  unfold fE
  have d1 : ((2 : Int) = 1) = False := by decide
  have d2 : ((3 : Int) = 1) = False := by decide
  have d3 : ((1 : Int) = 3) = False := by decide
  have d4 : ((2 : Int) = 3) = False := by decide
  simp only [f1, t1, d1, d3, if_false, if_true, c0, f3]
  rw [hXp, ← hx.1, hx.2]
  rfl
theorem dc_21 (p : Pf) (hp : p.full) (hr : rightP p = true) (hs : saysR 2 p = true) (hk : p.k = 1) (r : List UInt8) : dcF (wireR 2 p ++ r) = ⟨(r, 0), p.nm, p.X, p.hs.length, flat p.hs⟩ ∧ oct.rnN (wireR 2 p ++ r) 0 = 2 ∧ oct.rnE (wireR 2 p ++ r) 0 = 0 := by
  obtain ⟨be, bC, bL, bH⟩ := right_B hp hr
  have hC : p.C.length = 579 := hp
  have hnm := right_name hr
  have hh := right_holds hr
  have bk : isB p.k = true := by rw [hk]; decide
  have he := says_e hs (by decide)
  have hx : (p.C ++ zL.l) = p.C ++ p.L.l ∧ True := by
    rcases (right_parts hr).2.2 with ⟨a1, _, a3, a4⟩ | ⟨a1, _, a3, a4⟩
    · exact ⟨by rw [a4], trivial⟩
    · rw [hk] at a1; exact absurd a1 (by decide)
  have hW : wireR 2 p ++ r = oct.enc (oct.fold 2) ++ (oct.enc (oct.fold p.k) ++ (oct.enc (oct.fold p.nm.size) ++ (p.nm.data.toList ++ (encs p.C ++ (oct.enc (oct.fold p.hs.length) ++ (encs (flat p.hs) ++ r)))))) := by
    simp [wireR, headR, hk, encs_C hC]
  have hXp : p.X = p.k :: p.e :: (p.C ++ p.L.l) := rfl
  clear hs hr
  have t1 := fun s => tx_enc hnm (encs p.C ++ (oct.enc (oct.fold p.hs.length) ++ (encs (flat p.hs) ++ r))) s
  have f3 : ∀ r : List UInt8, fo gR 579 2 ((encs p.C ++ r, 0), p.k :: p.e :: (zer 579 ++ zL.l)) = ((r, 0), p.k :: p.e :: (p.C ++ zL.l)) := fun r => fo_gR p.C [p.k, p.e] zL.l r hC rfl ⟨zer 579, zer_length 579, rfl⟩ bC
  have ct := ct_enc hh (encs (flat p.hs) ++ r) 0 []
  have f5 : fo gR (5 * p.hs.length) 0 ((encs (flat p.hs) ++ r, 0), zer (5 * p.hs.length)) = ((r, 0), flat p.hs) := by
    have h := fo_gR (X := zer (5 * p.hs.length)) (flat p.hs) [] [] r (n := 5 * p.hs.length) (o := 0) (by rw [flat_length]; omega) rfl ⟨zer (5 * p.hs.length), by simp [zer], by simp⟩ bH
    simpa using h
  have c0 : (p.k :: p.e :: (zer 579 ++ zL.l)).getD 0 0 = 1 := hk
  rw [hW]
  obtain ⟨n1, n2, n3⟩ := rn_enc (z := 2) (by decide) (oct.enc (oct.fold p.k) ++ (oct.enc (oct.fold p.nm.size) ++ (p.nm.data.toList ++ (encs p.C ++ (oct.enc (oct.fold p.hs.length) ++ (encs (flat p.hs) ++ r))))))
  refine ⟨?_, n1, n2⟩
  have f1 : ∀ r : List UInt8, fo gR 1 0 ((oct.enc (oct.fold p.k) ++ r, 0), zP.X) = ((r, 0), p.k :: p.e :: (zer 579 ++ zL.l)) := fun r => by
    have h := fo_gR (X := zP.X) [p.k] [] (0 :: (zer 579 ++ zL.l)) r (n := 1) (o := 0) rfl rfl ⟨[0], rfl, rfl⟩ (isB_one bk)
    rw [he]; simpa [encs] using h
  unfold dcF
  rw [n1, n2, n3]
  unfold fE
  have d1 : ((2 : Int) = 1) = False := by decide
  have d2 : ((3 : Int) = 1) = False := by decide
  have d3 : ((1 : Int) = 3) = False := by decide
  have d4 : ((2 : Int) = 3) = False := by decide
  simp only [f1, t1, d1, d4, if_false, if_true, c0, f3, ct, f5]
  rw [hXp, ← hx.1]
theorem dc_22 (p : Pf) (hp : p.full) (hr : rightP p = true) (hs : saysR 2 p = true) (hk : p.k = 2) (r : List UInt8) : dcF (wireR 2 p ++ r) = ⟨(r, 0), p.nm, p.X, p.hs.length, flat p.hs⟩ ∧ oct.rnN (wireR 2 p ++ r) 0 = 2 ∧ oct.rnE (wireR 2 p ++ r) 0 = 0 := by
  obtain ⟨be, bC, bL, bH⟩ := right_B hp hr
  have hC : p.C.length = 579 := hp
  have hnm := right_name hr
  have hh := right_holds hr
  have bk : isB p.k = true := by rw [hk]; decide
  have he := says_e hs (by decide)
  have hx : (zer 579 ++ p.L.l) = p.C ++ p.L.l ∧ p.hs = [] := by
    rcases (right_parts hr).2.2 with ⟨a1, _, a3, a4⟩ | ⟨a1, _, a3, a4⟩
    · rw [hk] at a1; exact absurd a1 (by decide)
    · exact ⟨by rw [a4], a3⟩
  have hW : wireR 2 p ++ r = oct.enc (oct.fold 2) ++ (oct.enc (oct.fold p.k) ++ (oct.enc (oct.fold p.nm.size) ++ (p.nm.data.toList ++ (encs p.L.l ++ r)))) := by
    simp [wireR, headR, hk]
  have hXp : p.X = p.k :: p.e :: (p.C ++ p.L.l) := rfl
  clear hs hr
  have t1 := fun s => tx_enc hnm (encs p.L.l ++ r) s
  have f3 : ∀ r : List UInt8, fo gR 4 581 ((encs p.L.l ++ r, 0), p.k :: p.e :: (zer 579 ++ zL.l)) = ((r, 0), p.k :: p.e :: (zer 579 ++ p.L.l)) := fun r => by
    have h := fo_gR (X := p.k :: p.e :: (zer 579 ++ zL.l)) p.L.l (p.k :: p.e :: zer 579) [] r (n := 4) (o := 581) rfl (by simp [zer]) ⟨zL.l, rfl, by simp⟩ bL
    simpa using h
  have c0 : (p.k :: p.e :: (zer 579 ++ zL.l)).getD 0 0 = 2 := hk
  rw [hW]
  obtain ⟨n1, n2, n3⟩ := rn_enc (z := 2) (by decide) (oct.enc (oct.fold p.k) ++ (oct.enc (oct.fold p.nm.size) ++ (p.nm.data.toList ++ (encs p.L.l ++ r))))
  refine ⟨?_, n1, n2⟩
  have f1 : ∀ r : List UInt8, fo gR 1 0 ((oct.enc (oct.fold p.k) ++ r, 0), zP.X) = ((r, 0), p.k :: p.e :: (zer 579 ++ zL.l)) := fun r => by
    have h := fo_gR (X := zP.X) [p.k] [] (0 :: (zer 579 ++ zL.l)) r (n := 1) (o := 0) rfl rfl ⟨[0], rfl, rfl⟩ (isB_one bk)
    rw [he]; simpa [encs] using h
  unfold dcF
  rw [n1, n2, n3]
  unfold fE
  have d1 : ((2 : Int) = 1) = False := by decide
  have d2 : ((3 : Int) = 1) = False := by decide
  have d3 : ((1 : Int) = 3) = False := by decide
  have d4 : ((2 : Int) = 3) = False := by decide
  simp only [f1, t1, d1, d4, if_false, if_true, c0, f3]
  rw [hXp, ← hx.1, hx.2]
  rfl
theorem dc_31 (p : Pf) (hp : p.full) (hr : rightP p = true) (_hs : saysR 3 p = true) (hk : p.k = 1) (r : List UInt8) : dcF (wireR 3 p ++ r) = ⟨(r, 0), p.nm, p.X, p.hs.length, flat p.hs⟩ ∧ oct.rnN (wireR 3 p ++ r) 0 = 3 ∧ oct.rnE (wireR 3 p ++ r) 0 = 0 := by
  obtain ⟨be, bC, bL, bH⟩ := right_B hp hr
  have hC : p.C.length = 579 := hp
  have hnm := right_name hr
  have hh := right_holds hr
  have bk : isB p.k = true := by rw [hk]; decide
  have hx : (p.C ++ zL.l) = p.C ++ p.L.l ∧ True := by
    rcases (right_parts hr).2.2 with ⟨a1, _, a3, a4⟩ | ⟨a1, _, a3, a4⟩
    · exact ⟨by rw [a4], trivial⟩
    · rw [hk] at a1; exact absurd a1 (by decide)
  have hW : wireR 3 p ++ r = oct.enc (oct.fold 3) ++ (oct.enc (oct.fold p.k) ++ (oct.enc (oct.fold p.nm.size) ++ (p.nm.data.toList ++ (oct.enc (oct.fold p.e) ++ (encs p.C ++ (oct.enc (oct.fold p.hs.length) ++ (encs (flat p.hs) ++ r))))))) := by
    simp [wireR, headR, hk, encs_C hC]
  have hXp : p.X = p.k :: p.e :: (p.C ++ p.L.l) := rfl
  clear _hs hr
  have t1 := fun s => tx_enc hnm (oct.enc (oct.fold p.e) ++ (encs p.C ++ (oct.enc (oct.fold p.hs.length) ++ (encs (flat p.hs) ++ r)))) s
  have f3 : ∀ r : List UInt8, fo gR 579 2 ((encs p.C ++ r, 0), p.k :: p.e :: (zer 579 ++ zL.l)) = ((r, 0), p.k :: p.e :: (p.C ++ zL.l)) := fun r => fo_gR p.C [p.k, p.e] zL.l r hC rfl ⟨zer 579, zer_length 579, rfl⟩ bC
  have ct := ct_enc hh (encs (flat p.hs) ++ r) 0 []
  have f5 : fo gR (5 * p.hs.length) 0 ((encs (flat p.hs) ++ r, 0), zer (5 * p.hs.length)) = ((r, 0), flat p.hs) := by
    have h := fo_gR (X := zer (5 * p.hs.length)) (flat p.hs) [] [] r (n := 5 * p.hs.length) (o := 0) (by rw [flat_length]; omega) rfl ⟨zer (5 * p.hs.length), by simp [zer], by simp⟩ bH
    simpa using h
  have f2 : ∀ r : List UInt8, fo gR 1 1 ((oct.enc (oct.fold p.e) ++ r, 0), p.k :: 0 :: (zer 579 ++ zL.l)) = ((r, 0), p.k :: p.e :: (zer 579 ++ zL.l)) := fun r => by
    have h := fo_gR (X := p.k :: 0 :: (zer 579 ++ zL.l)) [p.e] [p.k] (zer 579 ++ zL.l) r (n := 1) (o := 1) rfl rfl ⟨[0], rfl, rfl⟩ (isB_one be)
    simpa [encs] using h
  have c0 : (p.k :: p.e :: (zer 579 ++ zL.l)).getD 0 0 = 1 := hk
  rw [hW]
  obtain ⟨n1, n2, n3⟩ := rn_enc (z := 3) (by decide) (oct.enc (oct.fold p.k) ++ (oct.enc (oct.fold p.nm.size) ++ (p.nm.data.toList ++ (oct.enc (oct.fold p.e) ++ (encs p.C ++ (oct.enc (oct.fold p.hs.length) ++ (encs (flat p.hs) ++ r)))))))
  refine ⟨?_, n1, n2⟩
  have f1 : ∀ r : List UInt8, fo gR 1 0 ((oct.enc (oct.fold p.k) ++ r, 0), zP.X) = ((r, 0), p.k :: 0 :: (zer 579 ++ zL.l)) := fun r => by
    have h := fo_gR (X := zP.X) [p.k] [] (0 :: (zer 579 ++ zL.l)) r (n := 1) (o := 0) rfl rfl ⟨[0], rfl, rfl⟩ (isB_one bk)
    simpa [encs] using h
  unfold dcF
  rw [n1, n2, n3]
  unfold fE
  have d1 : ((2 : Int) = 1) = False := by decide
  have d2 : ((3 : Int) = 1) = False := by decide
  have d3 : ((1 : Int) = 3) = False := by decide
  have d4 : ((2 : Int) = 3) = False := by decide
  simp only [f1, t1, d2, if_false, if_true, c0, f3, f2, ct, f5]
  rw [hXp, ← hx.1]
theorem dc_32 (p : Pf) (hp : p.full) (hr : rightP p = true) (_hs : saysR 3 p = true) (hk : p.k = 2) (r : List UInt8) : dcF (wireR 3 p ++ r) = ⟨(r, 0), p.nm, p.X, p.hs.length, flat p.hs⟩ ∧ oct.rnN (wireR 3 p ++ r) 0 = 3 ∧ oct.rnE (wireR 3 p ++ r) 0 = 0 := by
  obtain ⟨be, bC, bL, bH⟩ := right_B hp hr
  have hC : p.C.length = 579 := hp
  have hnm := right_name hr
  have hh := right_holds hr
  have bk : isB p.k = true := by rw [hk]; decide
  have hx : (zer 579 ++ p.L.l) = p.C ++ p.L.l ∧ p.hs = [] := by
    rcases (right_parts hr).2.2 with ⟨a1, _, a3, a4⟩ | ⟨a1, _, a3, a4⟩
    · rw [hk] at a1; exact absurd a1 (by decide)
    · exact ⟨by rw [a4], a3⟩
  have hW : wireR 3 p ++ r = oct.enc (oct.fold 3) ++ (oct.enc (oct.fold p.k) ++ (oct.enc (oct.fold p.nm.size) ++ (p.nm.data.toList ++ (oct.enc (oct.fold p.e) ++ (encs p.L.l ++ r))))) := by
    simp [wireR, headR, hk]
  have hXp : p.X = p.k :: p.e :: (p.C ++ p.L.l) := rfl
  clear _hs hr
  have t1 := fun s => tx_enc hnm (oct.enc (oct.fold p.e) ++ (encs p.L.l ++ r)) s
  have f3 : ∀ r : List UInt8, fo gR 4 581 ((encs p.L.l ++ r, 0), p.k :: p.e :: (zer 579 ++ zL.l)) = ((r, 0), p.k :: p.e :: (zer 579 ++ p.L.l)) := fun r => by
    have h := fo_gR (X := p.k :: p.e :: (zer 579 ++ zL.l)) p.L.l (p.k :: p.e :: zer 579) [] r (n := 4) (o := 581) rfl (by simp [zer]) ⟨zL.l, rfl, by simp⟩ bL
    simpa using h
  have f2 : ∀ r : List UInt8, fo gR 1 1 ((oct.enc (oct.fold p.e) ++ r, 0), p.k :: 0 :: (zer 579 ++ zL.l)) = ((r, 0), p.k :: p.e :: (zer 579 ++ zL.l)) := fun r => by
    have h := fo_gR (X := p.k :: 0 :: (zer 579 ++ zL.l)) [p.e] [p.k] (zer 579 ++ zL.l) r (n := 1) (o := 1) rfl rfl ⟨[0], rfl, rfl⟩ (isB_one be)
    simpa [encs] using h
  have c0 : (p.k :: p.e :: (zer 579 ++ zL.l)).getD 0 0 = 2 := hk
  rw [hW]
  obtain ⟨n1, n2, n3⟩ := rn_enc (z := 3) (by decide) (oct.enc (oct.fold p.k) ++ (oct.enc (oct.fold p.nm.size) ++ (p.nm.data.toList ++ (oct.enc (oct.fold p.e) ++ (encs p.L.l ++ r)))))
  refine ⟨?_, n1, n2⟩
  have f1 : ∀ r : List UInt8, fo gR 1 0 ((oct.enc (oct.fold p.k) ++ r, 0), zP.X) = ((r, 0), p.k :: 0 :: (zer 579 ++ zL.l)) := fun r => by
    have h := fo_gR (X := zP.X) [p.k] [] (0 :: (zer 579 ++ zL.l)) r (n := 1) (o := 0) rfl rfl ⟨[0], rfl, rfl⟩ (isB_one bk)
    simpa [encs] using h
  unfold dcF
  rw [n1, n2, n3]
  unfold fE
  have d1 : ((2 : Int) = 1) = False := by decide
  have d2 : ((3 : Int) = 1) = False := by decide
  have d3 : ((1 : Int) = 3) = False := by decide
  have d4 : ((2 : Int) = 3) = False := by decide
  simp only [f1, t1, d1, d2, if_false, if_true, c0, f3, f2]
  rw [hXp, ← hx.1, hx.2]
  rfl
end Go.Proofs.YtofngihdnjgmeaaGreat

namespace Go.Proofs.YtofngihdnjgmeaaGreat
set_option maxRecDepth 100000
open Go.ChangeShapes Go.WideShapes Go.ChangeAt Go.RowKit

theorem dcF_more {v : Int} {p : Pf} (hp : p.full) (hs : saysR v p = true) (r : List UInt8) : dcF (wireR v p ++ r) = ⟨(r, 0), p.nm, p.X, p.hs.length, flat p.hs⟩ ∧ oct.rnN (wireR v p ++ r) 0 = v ∧ oct.rnE (wireR v p ++ r) 0 = 0 := by
  obtain ⟨hr, hb⟩ := says_parts hs
  have hk := kind_of hr
  rcases ver_cases hb with rfl | rfl | rfl <;> rcases hk with hk | hk
  · exact dc_11 p hp hr hs hk r
  · exact dc_12 p hp hr hs hk r
  · exact dc_21 p hp hr hs hk r
  · exact dc_22 p hp hr hs hk r
  · exact dc_31 p hp hr hs hk r
  · exact dc_32 p hp hr hs hk r
theorem encB_len {v : Int} {p : Pf} (hp : p.full) : (encB v p).length ≤ 90000 := by
  by_cases h : encE v p = 0
  · rw [enc_wire hp h]
    have hr := (says_parts (enc_says h)).1
    have h1 := right_name hr
    have h2 := right_holds hr
    have a1 := fun z => oct.enc_six (oct.fold_lt z)
    have a2 := encs_len (dnR p.C); have a3 := encs_len (upR p.C); have a4 := encs_len (flat p.hs); have a5 := encs_len p.L.l
    rw [dnR_length hp] at a2; rw [upR_length hp] at a3; rw [flat_length] at a4; rw [Lk.len] at a5
    have b1 := a1 v; have b2 := a1 p.k; have b3 := a1 p.e; have b4 := a1 p.nm.size; have b5 := a1 (p.C.getD 0 0); have b6 := a1 (p.C.getD 1 0); have b7 := a1 (p.C.getD 2 0); have b8 := a1 p.hs.length
    have hl : p.nm.data.toList.length = p.nm.size := by simp
    unfold wireR headR
    split <;> split <;> (try split) <;> simp only [List.length_append, hl] <;> omega
  · rw [encB, if_neg h]; simp
end Go.Proofs.YtofngihdnjgmeaaGreat
