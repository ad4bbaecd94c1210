/- A field's cells (its name, kind, epoch, counter, lock, and the slice of its holds), and what the operations on kept blocks do: boxes, zeros, loads and stores of a cell or of a part.; Contracts of View and Loose, of both.; Bytes in memory: slices that read as bytes, rows of the call's own, what append and a conversion make of them.; Contracts of the functions of octets that only read: num.Is, folded, unfolded, the closure of decoded, IndexFunc, joined, decoded; and of the document's Is.; The contract of the document's Number (layer 8): the bytes of a number, in a row of the call's own.; Contracts of octets.Number, Text and New, of slices.Clone of bytes, and of the document's Text.; Contracts of wire.Says and wire.Up, and of the document's Says.; The document's add, vector and rights of layer 10. -/
import Derived.Test.YtofngihdnjgmeaaGreatY01
import Derived.Test.YtofngihdnjgmeaaGreatY04
import Derived.Test.YtofngihdnjgmeaaGreatY07
import Derived.Test.YtofngihdnjgmeaaGreatY09
import Derived.Test.YtofngihdnjgmeaaGreatY11
import Derived.Test.YtofngihdnjgmeaaGreatY12
import Derived.Test.YtofngihdnjgmeaaGreatY18
import Derived.Test.YtofngihdnjgmeaaGreatY21
import Derived.Test.YtofngihdnjgmeaaGreatY22A
import Derived.Test.YtofngihdnjgmeaaGreatY25
import Derived.Test.YtofngihdnjgmeaaGreatY27A
import Derived.Test.YtofngihdnjgmeaaGreatY28
import Derived.Test.YtofngihdnjgmeaaGreatY29
import Derived.Maps.AppendAt
import Derived.OwnWalk
import Derived.Laws.OwnMore
import Derived.WalkKit
import Derived.ProofKit
import Derived.OpenShut
import Derived.ChangeOld
import Derived.Deep.Slices
import Derived.ChangeSlices
import Derived.Laws.AppendOwn
import Derived.Lib.Hide
import Derived.Deep.RegionHeld3
import Derived.Below
import Derived.Deep.MidRow
import Derived.Deep.QuietTactic
import Derived.BigQuiet
import Derived.Laws.StructEq
import Derived.WalkMore
import Derived.LoopTactic
import Derived.Defers
import Derived.Recover
import Derived.WalkSmall
import Derived.Lib.AppendZeros
import Derived.Deep.OwnRows
import Derived.Lib.SliceRun
import Derived.Shelf.SlSortCmp.WholeK
import Derived.Shelf.SlSortCmp.NoneTotal
import Derived.Lib.AppendStr
import Derived.Laws.IdiomStrings
import Derived.Laws.Cover3
import Derived.Maps.OwnSet
import Derived.Maps.Views
namespace Go.Proofs.YtofngihdnjgmeaaGreat
set_option maxRecDepth 100000
open Go.ChangeShapes Go.WideShapes Go.ChangeAt Go.RowKit

theorem Fd.cI {f : Fd} (h : f.full) {j : Nat} (hj : j < 579) : f.cells[3 + j]? = some (.int .i64 (f.C.getD j 0)) := f.cC j _ (vals_get (by rw [show f.C.length = 579 from h]; exact hj))
section
variable {ops : Array Oper} {rest : List Oper} {o : Oper} {a : Act} {w u : World} {l : List (Nat × TypeId × List Value)} {rows : List (Option Addr × Nat × List Ho)} {Q : Exit → Act → World → Prop} {K : Act → World → Prop}
/-! ### Loads. -/
/-! ### Stores. -/
end
end Go.Proofs.YtofngihdnjgmeaaGreat

namespace Go.Proofs.YtofngihdnjgmeaaGreat
set_option maxRecDepth 100000
open Go.ChangeShapes Go.WideShapes Go.ChangeAt Go.RowKit

/-! ### What is loose. -/
theorem Fd.cD {f : Fd} (h : f.full) : ∀ j v, (vals (dnR f.C))[j]? = some v → f.cells[6 + j]? = some v := by
  intro j v hv
  have h : f.C.length = 579 := h
  obtain ⟨hj, rfl⟩ := vals_at hv
  rw [dnR_length h] at hj
  have := f.cC (3 + j) _ (vals_get (by omega))
  rw [show 6 + j = 3 + (3 + j) by omega, this, dnR, seg_get hj]
theorem Fd.cU {f : Fd} (h : f.full) : ∀ j v, (vals (upR f.C))[j]? = some v → f.cells[294 + j]? = some v := by
  intro j v hv
  have h : f.C.length = 579 := h
  obtain ⟨hj, rfl⟩ := vals_at hv
  rw [upR_length h] at hj
  have := f.cC (291 + j) _ (vals_get (by omega))
  rw [show 294 + j = 3 + (291 + j) by omega, this, upR, seg_get hj]
end Go.Proofs.YtofngihdnjgmeaaGreat

namespace Go.Proofs.YtofngihdnjgmeaaGreat.oct
set_option maxRecDepth 100000
open Go.ChangeShapes Go.WideShapes Go.ChangeAt Go.RowKit

/-- []byte(s). -/
theorem to_bys {w : World} {ops : Array Oper} {rest : List Oper} {o : Oper} {a : Act} {Q : Exit → Act → World → Prop} (s : ByteArray) (hgd : o.guard = none) (x : Operand) (ho : o.op = .convert 9 36 x) (hx : a.eval x = .string s)
    (h : ∀ A c w', Bys w' A s.data.toList → Below w.heap.size w w' → wpList Tryz.prog ops Q rest (a.put o.dst (.slice A s.size c)) w') : wpList Tryz.prog ops Q (o :: rest) a w :=
  wpList_plain hgd fun _ hK => by
    have e := run_bytes_of_string (P := Tryz.prog) w 9 36 5 s Tryz.underlying9 Tryz.underlying36 Tryz.underlying5
    unfold Oper.wp execOp
    simp only [ho, hx, Sem.run_bind, Sem.run_pure, Result.andThen_ok, e]
    refine hK _ _ (h _ _ _ (.inr ⟨w.heap.size, 0, rfl, fun i hi => ?_⟩) ((Below.refl _ _).drew.alloc (Nat.le_refl _) _))
    have hi' : i < s.size := by simpa using hi
    rw [cell_of_row _ w.heap.size (0 + i) _ 5 _ (heap_alloc_new w.drew _)]
    simp [bytesRow, List.getD, hi', Array.getElem?_append]
end Go.Proofs.YtofngihdnjgmeaaGreat.oct

namespace Go.Proofs.YtofngihdnjgmeaaGreat.oct
set_option maxRecDepth 100000
open Go.ChangeShapes Go.WideShapes Go.ChangeAt Go.RowKit

theorem ris_any (n : Int) (w : World) : Calls Tryz.prog 40 #[.int .i64 n] w fun e w' => e = .returned (.bool (isB n)) ∧ w = w' := by
  by_cases h1 : -1099511627776 ≤ n
  · by_cases h2 : n ≤ 1099511627776
    · rw [show isB n = true from isB_iff.2 ⟨h1, h2⟩]
      go_enter Tryz.func40, Tryz.ntmps40
      go_wp2
      go_ret
      exact ⟨rfl, rfl⟩
    · rw [show isB n = false from isB_not.2 (by omega)]
      go_enter Tryz.func40, Tryz.ntmps40
      go_wp2
      go_ret
      exact ⟨rfl, rfl⟩
  · have h2 : n ≤ 1099511627776 := by omega
    rw [show isB n = false from isB_not.2 (by omega)]
    go_enter Tryz.func40, Tryz.ntmps40
    go_wp2
    go_ret
    exact ⟨rfl, rfl⟩
theorem ris_eq (n : Int) (b : Bool) (hb : isB n = b) (w : World) : Calls Tryz.prog 40 #[.int .i64 n] w fun e w' => e = .returned (.bool b) ∧ w = w' := by subst hb; exact ris_any n w
end Go.Proofs.YtofngihdnjgmeaaGreat.oct

namespace Go.Proofs.YtofngihdnjgmeaaGreat.oct
set_option maxRecDepth 100000
open Go.ChangeShapes Go.WideShapes Go.ChangeAt Go.RowKit

theorem ko_lit (w : World) (z : Int) (ch : UInt8) (hz : z = (ch.toNat : Int)) : ∃ A c, (Ending.returned (.slice (some ⟨w.heap.size, 0, none⟩) 1 1) = .returned (.slice A [ch].length c) ∧ [ch].length ≤ c) ∧ KO w (.slice A [ch].length c) [ch] (w.alloc (.cells #[.int .u8 z] 5)) := by
  subst hz
  exact ⟨some ⟨w.heap.size, 0, none⟩, 1, ⟨rfl, by simp⟩, below_new w _, own_new w _ [ch] rfl (by simp [maxLen])⟩
set_option maxRecDepth 100000 in
set_option maxHeartbeats 1000000 in
theorem rnumber_any (n : Int) (w : World) :
    Calls Tryz.prog 70 #[.int .i64 n] w fun e w' => ∃ A c, (e = .returned (.slice A (enc (fold n)).length c) ∧ (enc (fold n)).length ≤ c) ∧ KO w (.slice A (enc (fold n)).length c) (enc (fold n)) w' := by
  have hF := fold_lt n
  have HK := Lib.hid (KO.start w)
  cases hb : isB n with
  | false =>
    have hF0 := fold_no hb
    rw [hF0]
    have HE := Lib.hid (show (0 : Int) = ((UInt8.ofNat 0).toNat : Int) by rfl)
    rw [enc_lt (show 0 < 128 by decide)]
    go_enter Tryz.func70, Tryz.ntmps70
    go_wp2_with (first
      | (go_at_call 40; (with_reducible refine (ris_eq _ _ hb _).mono ?_); rintro e u ⟨rfl, rfl⟩))
    go_ret
    exact ko_lit w _ (UInt8.ofNat 0) HE.out
  | true =>
    obtain ⟨h3, h4⟩ := isB_iff.1 hb
    by_cases h0 : n < 0
    · have hf := fold_neg hb h0
      generalize fold n = F at hf hF ⊢
      have h0' : ¬ (0 : Int) ≤ n := by omega
      have e0 : (-1 - n) * 2 + 1 = (F : Int) := by omega
      have HF := Lib.hid e0
      clear hf e0
      by_cases h1 : F < 128
      · have h1' : (F : Int) < 128 := by have := HF.out; omega
        have h1'' : (-1 - n) * 2 + 1 < 128 := by have := HF.out; omega
        have HE := Lib.hid (show (-1 - n) * 2 + 1 = ((UInt8.ofNat F).toNat : Int) by rw [of_small (by omega)]; exact HF.out)
        rw [enc_lt h1]
        go_enter Tryz.func70, Tryz.ntmps70
        go_wp2_with (first
          | (go_at_call 40; (with_reducible refine (ris_eq _ _ hb _).mono ?_); rintro e u ⟨rfl, rfl⟩))
        go_ret
        exact ko_lit w _ (UInt8.ofNat F) HE.out
      · have h1' : ¬ (F : Int) < 128 := by have := HF.out; omega
        have h1'' : ¬ (-1 - n) * 2 + 1 < 128 := by have := HF.out; omega
        go_enter Tryz.func70, Tryz.ntmps70
        go_wp2_with (first
          | (go_at_call 40; (with_reducible refine (ris_eq _ _ hb _).mono ?_); rintro e u ⟨rfl, rfl⟩))
        go_loopw [4, 3] (fun v i wr => ∃ (p : List UInt8) (x : Nat), x < 4398046511104 ∧ i = .int .i64 x ∧ p ++ enc x = enc F ∧ KO w v p wr) (fun _ i _ => (intOf i).toNat)
        case atStart => exact ⟨[], F, hF, by first | rfl | (rw [HF.out]) | go_num, rfl, HK.out⟩
        case round =>
          obtain ⟨p, x, hx, rfl, hp, hk⟩ := hrel
          clear HK
          have HK := Lib.hid hk; clear hk
          have HL := Lib.hid (small_len hp hF)
          have HP := Lib.hid hp; clear hp
          by_cases h1 : x < 128
          · have h1' : ¬ (128 : Int) ≤ (x : Int) := by omega
            have e1 : IntKind.u8.wrap (x : Int) = (x : Int) := by rw [IntKind.wrap_u8]; omega
            have HE := Lib.hid (show (x : Int) = ((UInt8.ofNat x).toNat : Int) by rw [of_small (by omega)])
            go_wp2_with (first
              | (refine app_one HK.out (UInt8.ofNat x) HE.out rfl _ _ rfl rfl rfl (by have := HL.out; omega) ?_; intro v' u hk; clear HK; have HK := Lib.hid hk; clear hk))
            go_ret
            have hk := HK.out
            rw [← enc_lt h1, HP.out] at hk
            exact hk.out
          · have h1' : (128 : Int) ≤ (x : Int) := by omega
            have e1 : (x : Int).tmod 128 = ((x % 128 : Nat) : Int) := by rw [Int.tmod_eq_emod_of_nonneg (by omega)]; omega
            have e2 : (x : Int).tdiv 128 = ((x / 128 : Nat) : Int) := by rw [Int.tdiv_eq_ediv_of_nonneg (by omega)]; omega
            have hq : x % 128 < 128 := by have := HF.out; omega
            have HN := Lib.hid (enc_ge h1)
            have HQ := Lib.hid (show x / 128 < 4398046511104 ∧ x / 128 < x by omega)
            have hr : x / 128 < 4398046511104 := by omega
            have HE := Lib.hid (show 128 + ((x % 128 : Nat) : Int) = ((UInt8.ofNat (x % 128 + 128)).toNat : Int) by rw [of_small (by omega)]; omega)
            generalize x % 128 = q at *
            generalize x / 128 = r at *
            have e3 : IntKind.u8.wrap (128 + (q : Int)) = 128 + (q : Int) := by rw [IntKind.wrap_u8]; omega
            go_wp2_with (first
              | (refine app_one HK.out (UInt8.ofNat (q + 128)) HE.out rfl _ _ rfl rfl rfl (by have := HL.out; omega) ?_; intro v' u hk; clear HK; have HK := Lib.hid hk; clear hk))
            go_roundw
            case rel => exact ⟨p ++ [UInt8.ofNat (q + 128)], r, HQ.out.1, by go_num, by rw [← HP.out, HN.out]; simp, HK.out⟩
            case measure => have := HQ.out; simp [intOf]; omega
    · have hf := fold_pos hb h0
      generalize fold n = F at hf hF ⊢
      have h0' : (0 : Int) ≤ n := by omega
      have e0 : n + n = (F : Int) := by omega
      have HF := Lib.hid e0
      clear hf e0
      by_cases h1 : F < 128
      · have h1' : (F : Int) < 128 := by have := HF.out; omega
        have h1'' : n + n < 128 := by have := HF.out; omega
        have HE := Lib.hid (show n + n = ((UInt8.ofNat F).toNat : Int) by rw [of_small (by omega)]; exact HF.out)
        rw [enc_lt h1]
        go_enter Tryz.func70, Tryz.ntmps70
        go_wp2_with (first
          | (go_at_call 40; (with_reducible refine (ris_eq _ _ hb _).mono ?_); rintro e u ⟨rfl, rfl⟩))
        go_ret
        exact ko_lit w _ (UInt8.ofNat F) HE.out
      · have h1' : ¬ (F : Int) < 128 := by have := HF.out; omega
        have h1'' : ¬ n + n < 128 := by have := HF.out; omega
        go_enter Tryz.func70, Tryz.ntmps70
        go_wp2_with (first
          | (go_at_call 40; (with_reducible refine (ris_eq _ _ hb _).mono ?_); rintro e u ⟨rfl, rfl⟩))
        go_loopw [4, 3] (fun v i wr => ∃ (p : List UInt8) (x : Nat), x < 4398046511104 ∧ i = .int .i64 x ∧ p ++ enc x = enc F ∧ KO w v p wr) (fun _ i _ => (intOf i).toNat)
        case atStart => exact ⟨[], F, hF, by first | rfl | (rw [HF.out]) | go_num, rfl, HK.out⟩
        case round =>
          obtain ⟨p, x, hx, rfl, hp, hk⟩ := hrel
          clear HK
          have HK := Lib.hid hk; clear hk
          have HL := Lib.hid (small_len hp hF)
          have HP := Lib.hid hp; clear hp
          by_cases h1 : x < 128
          · have h1' : ¬ (128 : Int) ≤ (x : Int) := by omega
            have e1 : IntKind.u8.wrap (x : Int) = (x : Int) := by rw [IntKind.wrap_u8]; omega
            have HE := Lib.hid (show (x : Int) = ((UInt8.ofNat x).toNat : Int) by rw [of_small (by omega)])
            go_wp2_with (first
              | (refine app_one HK.out (UInt8.ofNat x) HE.out rfl _ _ rfl rfl rfl (by have := HL.out; omega) ?_; intro v' u hk; clear HK; have HK := Lib.hid hk; clear hk))
            go_ret
            have hk := HK.out
            rw [← enc_lt h1, HP.out] at hk
            exact hk.out
          · have h1' : (128 : Int) ≤ (x : Int) := by omega
            have e1 : (x : Int).tmod 128 = ((x % 128 : Nat) : Int) := by rw [Int.tmod_eq_emod_of_nonneg (by omega)]; omega
            have e2 : (x : Int).tdiv 128 = ((x / 128 : Nat) : Int) := by rw [Int.tdiv_eq_ediv_of_nonneg (by omega)]; omega
            have hq : x % 128 < 128 := by have := HF.out; omega
            have HN := Lib.hid (enc_ge h1)
            have HQ := Lib.hid (show x / 128 < 4398046511104 ∧ x / 128 < x by omega)
            have hr : x / 128 < 4398046511104 := by omega
            have HE := Lib.hid (show 128 + ((x % 128 : Nat) : Int) = ((UInt8.ofNat (x % 128 + 128)).toNat : Int) by rw [of_small (by omega)]; omega)
            generalize x % 128 = q at *
            generalize x / 128 = r at *
            have e3 : IntKind.u8.wrap (128 + (q : Int)) = 128 + (q : Int) := by rw [IntKind.wrap_u8]; omega
            go_wp2_with (first
              | (refine app_one HK.out (UInt8.ofNat (q + 128)) HE.out rfl _ _ rfl rfl rfl (by have := HL.out; omega) ?_; intro v' u hk; clear HK; have HK := Lib.hid hk; clear hk))
            go_roundw
            case rel => exact ⟨p ++ [UInt8.ofNat (q + 128)], r, HQ.out.1, by go_num, by rw [← HP.out, HN.out]; simp, HK.out⟩
            case measure => have := HQ.out; simp [intOf]; omega
end Go.Proofs.YtofngihdnjgmeaaGreat.oct

namespace Go.Proofs.YtofngihdnjgmeaaGreat.oct
set_option maxRecDepth 100000
open Go.ChangeShapes Go.WideShapes Go.ChangeAt Go.RowKit

theorem rtext_any (s : ByteArray) (hs : s.size ≤ 90000) (w : World) :
    Calls Tryz.prog 30 #[.string s] w (Makes w (enc (fold s.size) ++ s.data.toList)) := by
  have hn := rnumber_any s.size
  have h6 := enc_six (fold_lt s.size)
  generalize enc (fold s.size) = E at *
  have HE := Lib.hid h6
  clear h6
  have HS := Lib.hid (show s.data.toList.length = s.size by simp)
  have HK := Lib.hid True.intro
  go_enter Tryz.func30, Tryz.ntmps30
  go_wp2_with (first
    | (go_at_call 70; (with_reducible refine (hn _).mono ?_); rintro e u ⟨A2, c2, ⟨rfl, _⟩, hk⟩; clear HK; have HK := Lib.hid hk; clear hk)
    | (refine to_bys s rfl _ rfl rfl ?_; intro A3 c3 u hr hb; have hk := HK.out.call hb; clear HK hb; have HK := Lib.hid hk; have HR := Lib.hid hr; clear hk hr)
    | (refine app_more HK.out HR.out HS.out rfl _ _ rfl rfl rfl (by rw [HS.out]; have := HE.out; omega) ?_; intro v' u hk; clear HK; have HK := Lib.hid hk; clear hk))
  go_ret
  exact makes_of HK.out
end Go.Proofs.YtofngihdnjgmeaaGreat.oct

namespace Go.Proofs.YtofngihdnjgmeaaGreat
set_option maxRecDepth 100000
open Go.ChangeShapes Go.WideShapes Go.ChangeAt Go.RowKit

/-! ### Says. -/
set_option maxHeartbeats 1000000 in
theorem rsays_any (v : Int) (p : Pf) (hp : p.full) (hN : p.nm.size ≤ 1000) (A : Option Addr) (c : Nat) (r : Bool) (hr : saysR v p = r) (w : World) (hd : Row w A p.hs.length p.hs) :
    Calls Tryz.prog 13 #[.int .i64 v, .agg (p.fd A c).cells.toArray] w fun e u => e = .returned (.bool r) ∧ Below w.heap.size w u := by
  have HK := Lib.hid (KeepF.start (w := w) (rows := [(A, p.hs.length, p.hs)]) (by simpa using hd))
  have HF := Lib.hid hp
  cases hq : rightP p with
  | false =>
    have hrt := fun w h => rright_p p hp hN A c false hq w h
    obtain rfl : r = false := by rw [← hr]; simp [saysR, hq]
    clear hp hN hd hr hq
    go_enter Tryz.func13, Tryz.ntmps13
    go_wp2_with (first
      | (with_reducible refine box_f HK.out rfl _ rfl rfl ?_; intro b1 u hk; clear HK; have HK := Lib.hid hk; clear hk)
      | (with_reducible refine load_fr HK.out 0 Tryz.underlying33 rfl (Pf.infoF HF.out) _ rfl rfl rfl rfl Pf.all ?_)
      | (go_at_call 16; (with_reducible refine (hrt _ (HK.out.rowAt 0 rfl)).mono ?_); rintro e u ⟨rfl, hb⟩; have hk := HK.out.call hb; clear hb; clear HK; have HK := Lib.hid hk; clear hk))
    go_ret
    exact ⟨rfl, HK.out.bel⟩
  | true =>
    have hrt := fun w h => rright_p p hp hN A c true hq w h
    by_cases h1 : v < 1
    · have d1 : decide (v < 1) = true := by simpa using h1
      obtain rfl : r = false := by rw [← hr]; simp [saysR, verB]; omega
      clear hp hN hd hr hq h1
      go_enter Tryz.func13, Tryz.ntmps13
      go_wp2_with (first
        | (with_reducible refine box_f HK.out rfl _ rfl rfl ?_; intro b1 u hk; clear HK; have HK := Lib.hid hk; clear hk)
        | (with_reducible refine load_fr HK.out 0 Tryz.underlying33 rfl (Pf.infoF HF.out) _ rfl rfl rfl rfl Pf.all ?_)
        | (go_at_call 16; (with_reducible refine (hrt _ (HK.out.rowAt 0 rfl)).mono ?_); rintro e u ⟨rfl, hb⟩; have hk := HK.out.call hb; clear hb; clear HK; have HK := Lib.hid hk; clear hk))
      go_ret
      exact ⟨rfl, HK.out.bel⟩
    · by_cases h3 : 3 < v
      · have d1 : decide (v < 1) = false := by simpa using h1
        have d3 : decide (3 < v) = true := by simpa using h3
        obtain rfl : r = false := by rw [← hr]; simp [saysR, verB]; omega
        clear hp hN hd hr hq h1 h3
        go_enter Tryz.func13, Tryz.ntmps13
        go_wp2_with (first
          | (with_reducible refine box_f HK.out rfl _ rfl rfl ?_; intro b1 u hk; clear HK; have HK := Lib.hid hk; clear hk)
          | (with_reducible refine load_fr HK.out 0 Tryz.underlying33 rfl (Pf.infoF HF.out) _ rfl rfl rfl rfl Pf.all ?_)
          | (go_at_call 16; (with_reducible refine (hrt _ (HK.out.rowAt 0 rfl)).mono ?_); rintro e u ⟨rfl, hb⟩; have hk := HK.out.call hb; clear hb; clear HK; have HK := Lib.hid hk; clear hk))
        go_ret
        exact ⟨rfl, HK.out.bel⟩
      · have hv : v = 1 ∨ v = 2 ∨ v = 3 := by omega
        clear h1 h3
        rcases hv with rfl | rfl | rfl
        · by_cases he : p.e = 0
          · have e0 : (p.e == 0) = true := by simp [he]
            have hn : ((p.hs.length : Int) == 0) = r := by
              rw [← hr]
              simp [saysR, hq, he, verB]
              rw [Bool.eq_iff_iff]
              simp
            clear hp hN hd hr hq he
            go_enter Tryz.func13, Tryz.ntmps13
            go_wp2_with (first
              | (with_reducible refine box_f HK.out rfl _ rfl rfl ?_; intro b1 u hk; clear HK; have HK := Lib.hid hk; clear hk)
              | (with_reducible refine load_fr HK.out 0 Tryz.underlying33 rfl (Pf.infoF HF.out) _ rfl rfl rfl rfl Pf.all ?_)
              | (go_at_call 16; (with_reducible refine (hrt _ (HK.out.rowAt 0 rfl)).mono ?_); rintro e u ⟨rfl, hb⟩; have hk := HK.out.call hb; clear hb; clear HK; have HK := Lib.hid hk; clear hk)
              | (with_reducible refine load_f1 HK.out 0 cbI _ rfl rfl rfl rfl Pf.ce ?_)
              | (with_reducible refine load_f1 HK.out 0 cbH _ rfl rfl rfl rfl (Pf.cH HF.out) ?_))
            go_ret
            exact ⟨rfl, HK.out.bel⟩
          · have e0 : (p.e == 0) = false := by simp [he]
            obtain rfl : r = false := by rw [← hr]; simp [saysR, he]
            clear hp hN hd hr hq he
            go_enter Tryz.func13, Tryz.ntmps13
            go_wp2_with (first
              | (with_reducible refine box_f HK.out rfl _ rfl rfl ?_; intro b1 u hk; clear HK; have HK := Lib.hid hk; clear hk)
              | (with_reducible refine load_fr HK.out 0 Tryz.underlying33 rfl (Pf.infoF HF.out) _ rfl rfl rfl rfl Pf.all ?_)
              | (go_at_call 16; (with_reducible refine (hrt _ (HK.out.rowAt 0 rfl)).mono ?_); rintro e u ⟨rfl, hb⟩; have hk := HK.out.call hb; clear hb; clear HK; have HK := Lib.hid hk; clear hk)
              | (with_reducible refine load_f1 HK.out 0 cbI _ rfl rfl rfl rfl Pf.ce ?_))
            go_ret
            exact ⟨rfl, HK.out.bel⟩
        · have e0 : (p.e == 0) = r := by
            rw [← hr]
            simp [saysR, hq, verB]
            rw [Bool.eq_iff_iff]
            simp
          clear hp hN hd hr hq
          cases r with
          | true =>
            go_enter Tryz.func13, Tryz.ntmps13
            go_wp2_with (first
              | (with_reducible refine box_f HK.out rfl _ rfl rfl ?_; intro b1 u hk; clear HK; have HK := Lib.hid hk; clear hk)
              | (with_reducible refine load_fr HK.out 0 Tryz.underlying33 rfl (Pf.infoF HF.out) _ rfl rfl rfl rfl Pf.all ?_)
              | (go_at_call 16; (with_reducible refine (hrt _ (HK.out.rowAt 0 rfl)).mono ?_); rintro e u ⟨rfl, hb⟩; have hk := HK.out.call hb; clear hb; clear HK; have HK := Lib.hid hk; clear hk)
              | (with_reducible refine load_f1 HK.out 0 cbI _ rfl rfl rfl rfl Pf.ce ?_))
            go_ret
            exact ⟨rfl, HK.out.bel⟩
          | false =>
            go_enter Tryz.func13, Tryz.ntmps13
            go_wp2_with (first
              | (with_reducible refine box_f HK.out rfl _ rfl rfl ?_; intro b1 u hk; clear HK; have HK := Lib.hid hk; clear hk)
              | (with_reducible refine load_fr HK.out 0 Tryz.underlying33 rfl (Pf.infoF HF.out) _ rfl rfl rfl rfl Pf.all ?_)
              | (go_at_call 16; (with_reducible refine (hrt _ (HK.out.rowAt 0 rfl)).mono ?_); rintro e u ⟨rfl, hb⟩; have hk := HK.out.call hb; clear hb; clear HK; have HK := Lib.hid hk; clear hk)
              | (with_reducible refine load_f1 HK.out 0 cbI _ rfl rfl rfl rfl Pf.ce ?_))
            go_ret
            exact ⟨rfl, HK.out.bel⟩
        · obtain rfl : r = true := by rw [← hr]; simp [saysR, hq, verB]
          clear hp hN hd hr hq
          go_enter Tryz.func13, Tryz.ntmps13
          go_wp2_with (first
            | (with_reducible refine box_f HK.out rfl _ rfl rfl ?_; intro b1 u hk; clear HK; have HK := Lib.hid hk; clear hk)
            | (with_reducible refine load_fr HK.out 0 Tryz.underlying33 rfl (Pf.infoF HF.out) _ rfl rfl rfl rfl Pf.all ?_)
            | (go_at_call 16; (with_reducible refine (hrt _ (HK.out.rowAt 0 rfl)).mono ?_); rintro e u ⟨rfl, hb⟩; have hk := HK.out.call hb; clear hb; clear HK; have HK := Lib.hid hk; clear hk))
          go_ret
          exact ⟨rfl, HK.out.bel⟩

/-! ### Up. -/
end Go.Proofs.YtofngihdnjgmeaaGreat

namespace Go.Proofs.YtofngihdnjgmeaaGreat
set_option maxRecDepth 100000
open Go.ChangeShapes Go.WideShapes Go.ChangeAt Go.RowKit

set_option maxHeartbeats 1000000 in
theorem radd_w (w0 : World) (v : Value) (s : List UInt8) (n : Int) (u : World) (hb : w0.heap.size ≤ u.heap.size) (ho : oct.Own u w0.heap.size v s) (hl : s.length ≤ 90000) :
    Calls Tryz.prog 29 #[v, .int .i64 n] u fun e u' => ∃ v', e = .returned v' ∧ oct.Own u' w0.heap.size v' (s ++ oct.enc (oct.fold n)) ∧ Stays w0 u u' := by
  have HO := Lib.hid ho; have HB := Lib.hid hb; have HL := Lib.hid hl
  clear ho hb hl
  have hn := oct.rnumber_any n
  have h6 := oct.enc_six (oct.fold_lt n)
  generalize oct.enc (oct.fold n) = E at hn h6 ⊢
  have H6 := Lib.hid h6; clear h6
  have HS := Lib.hid (Stays.refl w0 u)
  go_enter Tryz.func29, Tryz.ntmps29
  go_wp2_with (first
    | (go_at_call 70; (with_reducible refine (hn _).mono ?_); rintro e u ⟨A2, c2, ⟨rfl, _⟩, hko⟩; have ho := HO.out.below hko.bel; have hs := HS.out.trans (Stays.below (Nat.le_trans HB.out HS.out.size) hko.bel); have HE := Lib.hid hko.own.bys; have hb := Nat.le_trans HB.out hko.bel.size; clear HO HS HB hko; have HO := Lib.hid ho; have HS := Lib.hid hs; have HB := Lib.hid hb; clear ho hs hb)
    | (refine oct.app_bys HO.out HB.out HE.out rfl rfl _ _ rfl rfl rfl (by have := HL.out; have := H6.out; omega) ?_; intro v' u ho hg; have hs := HS.out.trans (Stays.grown HB.out HO.out hg); clear HO HS HB HE; have HO := Lib.hid ho; have HS := Lib.hid hs; clear ho hs hg))
  go_ret
  exact ⟨_, rfl, HO.out, HS.out⟩
/-- A value of several cells, boxed. -/
theorem box_cel {ops : Array Oper} {rest : List Oper} {o : Oper} {a : Act} {u : World} {Q : Exit → Act → World → Prop} {ty : TypeId} (hgd : o.guard = none) (x : Operand) (ho : o.op = .box ty x) {cs : List Value} (hx : a.eval x = .agg cs.toArray)
    (h : ∀ bc u', Below u.heap.size u u' → Cel u' bc ty cs → wpList Tryz.prog ops Q rest (a.put o.dst (.pointer (some ⟨bc, 0, none⟩))) u') : wpList Tryz.prog ops Q (o :: rest) a u :=
  wpList_plain hgd fun K hK => by
    have e : (Instr.box ty (.agg cs.toArray)).run Tryz.prog u = .ok (.pointer (some ⟨u.heap.size, 0, none⟩)) (u.alloc (.cells cs.toArray ty)) := by
      simp [Instr.box, newVar, newRow, newObj, Value.cells]
      rfl
    unfold Oper.wp execOp
    simp only [ho, hx, Sem.run_bind, Sem.run_pure, Result.andThen_ok, e]
    exact hK _ _ (h _ _ ((Below.refl _ _).alloc (Nat.le_refl _) _) (Cel.new u _ _))
theorem vals_cell {xs : List Int} {m : Nat} {z : Int} (h : m < xs.length) (hz : xs.getD m 0 = z) : (vals xs)[m]? = some (.int .i64 z) := by subst hz; exact vals_get h
theorem encs_take {xs : List Int} {m : Nat} (h : m < xs.length) : encs (xs.take (m + 1)) = encs (xs.take m) ++ oct.enc (oct.fold (xs.getD m 0)) := by
  rw [List.take_add_one, encs_append]
  congr 1
  simp [encs, List.getD, h]
set_option maxHeartbeats 1000000 in
theorem rvec_w (w0 : World) (v : Value) (s : List UInt8) (xs : List Int) (hx : xs.length = 16) (u0 : World) (hb : w0.heap.size ≤ u0.heap.size) (ho : oct.Own u0 w0.heap.size v s) (hl : s.length ≤ 80000) :
    Calls Tryz.prog 71 #[v, .agg (vals xs).toArray] u0 fun e u' => ∃ v', e = .returned v' ∧ oct.Own u' w0.heap.size v' (s ++ encs xs) ∧ Stays w0 u0 u' := by
  have HO := Lib.hid ho; have HB := Lib.hid hb; have HL := Lib.hid hl; have HX := Lib.hid hx
  clear ho hb hl hx
  have HS := Lib.hid (Stays.refl w0 u0)
  go_enter Tryz.func71, Tryz.ntmps71
  go_wp2_with (first
    | (with_reducible refine box_cel rfl _ rfl rfl ?_; intro bc u hbb hc; have ho := HO.out.below hbb; have hst := Stays.below HB.out hbb; have hs := HS.out.trans hst; have hb := Nat.le_trans HB.out hst.size; clear HO HS HB; have HO := Lib.hid ho; have HS := Lib.hid hs; have HB := Lib.hid hb; have HC := Lib.hid hc; clear hbb hc hst ho hs hb))
  go_loopw [0, 5] (fun v i wr => ∃ m : Nat, m ≤ 16 ∧ i = .int .i64 m ∧ oct.Own wr w0.heap.size v (s ++ encs (xs.take m)) ∧ w0.heap.size ≤ wr.heap.size ∧ Cel wr bc 23 (vals xs) ∧ Stays w0 u0 wr) (fun _ i _ => 16 - (intOf i).toNat)
  case atStart => exact ⟨0, by omega, rfl, by simpa [encs] using HO.out, HB.out, HC.out, HS.out⟩
  case round =>
    obtain ⟨m, hm, rfl, ho, hb, hc, hs⟩ := hrel
    clear HO HB HC HS
    have HO := Lib.hid ho; have HB := Lib.hid hb; have HC := Lib.hid hc; have HS := Lib.hid hs
    clear ho hb hc hs
    by_cases hlt : m < 16
    · have i1 : (0 : Int) ≤ (m : Int) := by omega
      have i2 : (m : Int) < 16 := by omega
      have hml : m < xs.length := by rw [HX.out]; exact hlt
      have HT := Lib.hid (encs_take hml)
      have HZ := Lib.hid (show (s ++ encs (xs.take m)).length ≤ 90000 by have h1 := encs_len (xs.take m); have h2 : (xs.take m).length ≤ 16 := by rw [List.length_take]; omega
                                                                         have := HL.out; rw [List.length_append]; omega)
      have HV := Lib.hid (vals_cell hml rfl)
      generalize xs.getD m 0 = z at HT HV
      go_wp2_with (first
        | (with_reducible refine load_there cbI _ rfl (HC.out.cell HV.out) rfl rfl ?_)
        | (go_at_call 29; (with_reducible refine (radd_w w0 _ _ z _ HB.out HO.out HZ.out).mono ?_); rintro e u ⟨v', rfl, ho, hst⟩; have hc := hst.cel (by decide) HC.out; clear HC; have HC := Lib.hid hc; have hs := HS.out.trans hst; have hb := Nat.le_trans HB.out hst.size; clear HO HS HB; have HO := Lib.hid ho; have HS := Lib.hid hs; have HB := Lib.hid hb; clear hst ho hs hb hc))
      go_roundw
      case rel => exact ⟨m + 1, by omega, by go_num, by rw [HT.out, ← List.append_assoc]; exact HO.out, HB.out, HC.out, HS.out⟩
      case measure => simp [intOf]; omega
    · obtain rfl : m = 16 := by omega
      have ht : xs.take 16 = xs := List.take_of_length_le (by rw [HX.out]; omega)
      have ho := HO.out
      rw [ht] at ho
      clear HO; have HO := Lib.hid ho; clear ho
      go_wp2_with fail
      go_ret
      exact ⟨_, rfl, HO.out, HS.out⟩
theorem yield_ci {ops : Array Oper} {o : Oper} {a : Act} {S : World → Prop} {b off : Nat} {t : TypeId} {cs : List Value} {v : Value} {ty : TypeId} (ht : cellB ty = true) (hS : ∀ u, S u → Cel u b t cs) (hv : cs[off]? = some v) (x : Operand) (ho : o.op = .load ty x) (hx : a.eval x = .pointer (some ⟨b, off, none⟩)) (hw : Region.wanted o (yielded ops a.tmps) = true) : YieldsIf Tryz.prog ops S o v a :=
  yield_c ht (fun u h => (hS u h).cell hv) x ho hx hw
theorem v_infoW {xs : List Int} (h : xs.length = 16) : (Tryz.prog.info? 23).map (·.size) = some (vals xs).length := by rw [vals_length, h]; kernel_rfl
theorem seg_range {R : List Int} {o : Nat} : ∀ j v, (vals (seg R o 16))[j]? = some v → (vals R)[o + j]? = some v := by
  intro j v hv
  obtain ⟨hj, rfl⟩ := vals_at hv
  have hl : (seg R o 16).length = min 16 (R.length - o) := by simp [seg]
  rw [hl] at hj
  rw [vals_get (show o + j < R.length by omega), seg_get (by omega)]
theorem seg_lenW {R : List Int} {o : Nat} (h : o + 16 ≤ R.length) : (seg R o 16).length = 16 := by simp [seg]; omega
theorem seg_next (R : List Int) (n : Nat) : R.take (n + 16) = R.take n ++ seg R n 16 := by
  rw [seg, List.take_add]
set_option maxHeartbeats 2000000 in
theorem rrights_w (w0 : World) (v : Value) (s : List UInt8) (R : List Int) (hR : R.length = 288) (u0 : World) (hb : w0.heap.size ≤ u0.heap.size) (ho : oct.Own u0 w0.heap.size v s) (hl : s.length ≤ 70000) :
    Calls Tryz.prog 31 #[v, .agg (vals R).toArray] u0 fun e u' => ∃ v', e = .returned v' ∧ oct.Own u' w0.heap.size v' (s ++ encs R) ∧ Stays w0 u0 u' := by
  have HO := Lib.hid ho; have HB := Lib.hid hb; have HL := Lib.hid hl; have HX := Lib.hid hR
  clear ho hb hl hR
  have HS := Lib.hid (Stays.refl w0 u0)
  have HG := Lib.hid (show (seg R 0 16).length = 16 from seg_lenW (by rw [HX.out]; decide))
  have HU := Lib.hid (show (seg R 16 16).length = 16 from seg_lenW (by rw [HX.out]; decide))
  have HLE := Lib.hid (show (s ++ encs (seg R 0 16)).length ≤ 80000 by have h1 := encs_len (seg R 0 16); rw [HG.out] at h1; have := HL.out; rw [List.length_append]; omega)
  go_enter Tryz.func31, Tryz.ntmps31
  go_wp2_with (first
    | (with_reducible refine box_cel rfl _ rfl rfl ?_; intro bc u hbb hc; have ho := HO.out.below hbb; have hst := Stays.below HB.out hbb; have hs := HS.out.trans hst; have hb := Nat.le_trans HB.out hst.size; clear HO HS HB; have HO := Lib.hid ho; have HS := Lib.hid hs; have HB := Lib.hid hb; have HC := Lib.hid hc; clear hbb hc hst ho hs hb))
  refine Draws.start (S := fun u => Cel u bc 26 (vals R)) (n := 8) 8 rfl (by kernel_rfl) ?_
  have ho := HO.out.below ((Below.refl _ _).drew)
  have hst := Stays.below HB.out ((Below.refl _ _).drew)
  have qHC := hst.cel (by decide) HC.out; clear HC; have HC := Lib.hid qHC; clear qHC
  have hs := HS.out.trans hst; have hb := Nat.le_trans HB.out hst.size; clear HO HS HB; have HO := Lib.hid ho; have HS := Lib.hid hs; have HB := Lib.hid hb
  clear hst ho hs hb
  have HD := Lib.hid (show (fun u => Cel u bc 26 (vals R)) _ from HC.out)
  refine Draws.take 0 (v := ?v1) HD.out rfl (by kernel_rfl) (fun _ _ _ h => h) (Or.inl ⟨rfl, ?h1⟩) ?r1
  case h1 => intro w' hw'; go_simp; (try with_reducible rfl)
  (try simp only [Act.put, List.setIfInBounds_toArray, List.set_cons_zero, List.set_cons_succ])
  refine Draws.take 1 (v := ?v2) HD.out rfl (by kernel_rfl) (fun _ _ _ h => h) (Or.inl ⟨rfl, ?h2⟩) ?r2
  case h2 => intro w' hw'; go_simp; (try with_reducible rfl)
  (try simp only [Act.put, List.setIfInBounds_toArray, List.set_cons_zero, List.set_cons_succ])
  refine Draws.take 2 HD.out rfl (by kernel_rfl) (fun _ _ _ h => h) (yield_pt (fun _ h => h) Tryz.underlying23 rfl (v_infoW HG.out) seg_range _ rfl rfl rfl) ?_
  (try simp only [Act.put, List.setIfInBounds_toArray, List.set_cons_zero, List.set_cons_succ])
  refine Draws.take 4 (v := ?v3) HD.out rfl (by kernel_rfl) (fun _ _ _ h => h) (Or.inl ⟨rfl, ?h3⟩) ?r3
  case h3 => intro w' hw'; go_simp; (try with_reducible rfl)
  (try simp only [Act.put, List.setIfInBounds_toArray, List.set_cons_zero, List.set_cons_succ])
  refine Draws.take 5 HD.out rfl (by kernel_rfl) (fun _ _ _ h => h) (yield_pt (fun _ h => h) Tryz.underlying23 rfl (v_infoW HU.out) seg_range _ rfl rfl rfl) ?_
  (try simp only [Act.put, List.setIfInBounds_toArray, List.set_cons_zero, List.set_cons_succ])
  refine Draws.does 3 rfl (by kernel_rfl) rfl (fun K hK => ?_)
  go_simp
  go_at_call 71
  refine (rvec_w w0 _ _ (seg R 0 16) HG.out _ HB.out HO.out (by have := HL.out; omega)).mono ?_
  rintro e u ⟨v', rfl, ho, hst⟩
  (try dsimp only)
  have qHC := hst.cel (by decide) HC.out; clear HC; have HC := Lib.hid qHC; clear qHC
  have hs := HS.out.trans hst; have hb := Nat.le_trans HB.out hst.size; clear HO HS HB; have HO := Lib.hid ho; have HS := Lib.hid hs; have HB := Lib.hid hb
  clear hst ho hs hb
  refine hK.out _ _ (fun _ => HC.out) ?_
  clear hK K HD
  have HD := Lib.hid (show (fun u => Cel u bc 26 (vals R)) _ from HC.out)
  (try simp only [Act.put, List.setIfInBounds_toArray, List.set_cons_zero, List.set_cons_succ])
  refine Draws.does 6 rfl (by kernel_rfl) rfl (fun K hK => ?_)
  go_simp
  go_at_call 71
  refine (rvec_w w0 _ _ (seg R 16 16) HU.out _ HB.out HO.out HLE.out).mono ?_
  rintro e u ⟨v', rfl, ho, hst⟩
  (try dsimp only)
  have qHC := hst.cel (by decide) HC.out; clear HC; have HC := Lib.hid qHC; clear qHC
  have hs := HS.out.trans hst; have hb := Nat.le_trans HB.out hst.size; clear HO HS HB; have HO := Lib.hid ho; have HS := Lib.hid hs; have HB := Lib.hid hb
  clear hst ho hs hb
  refine hK.out _ _ (fun _ => HC.out) ?_
  clear hK K HD
  have HD := Lib.hid (show (fun u => Cel u bc 26 (vals R)) _ from HC.out)
  (try simp only [Act.put, List.setIfInBounds_toArray, List.set_cons_zero, List.set_cons_succ])
  refine Draws.does 7 rfl (by kernel_rfl) rfl (fun K hK => ?_)
  go_simp
  refine hK.out _ _ (fun _ => HC.out) ?_
  clear hK K
  (try simp only [Act.put, List.setIfInBounds_toArray, List.set_cons_zero, List.set_cons_succ])
  refine Draws.done (by kernel_rfl) ?_
  clear HD
  have ho := HO.out
  rw [List.append_assoc, ← encs_append, show seg R 0 16 ++ seg R 16 16 = R.take 32 by rw [show 32 = 16 + 16 from rfl, seg_next, show seg R 0 16 = R.take 16 by simp [seg]]] at ho
  clear HO; have HO := Lib.hid ho; clear ho
  go_wp2_with fail
  go_loopw [0, 5] (fun v i wr => ∃ m : Nat, m ≤ 16 ∧ i = .int .i64 m ∧ oct.Own wr w0.heap.size v (s ++ encs (R.take (32 + 16 * m))) ∧ w0.heap.size ≤ wr.heap.size ∧ Cel wr bc 26 (vals R) ∧ Stays w0 u0 wr) (fun _ i _ => 16 - (intOf i).toNat)
  case atStart => exact ⟨0, by omega, rfl, HO.out, HB.out, HC.out, HS.out⟩
  case round =>
    obtain ⟨m, hm, rfl, ho, hb, hc, hs⟩ := hrel
    clear HO HB HC HS
    have HO := Lib.hid ho; have HB := Lib.hid hb; have HC := Lib.hid hc; have HS := Lib.hid hs
    clear ho hb hc hs
    by_cases hlt : m < 16
    · have i1 : (0 : Int) ≤ (m : Int) := by omega
      have i2 : (m : Int) < 16 := by omega
      have HM := Lib.hid (show (seg R (32 + 16 * m) 16).length = 16 from seg_lenW (by rw [HX.out]; omega))
      have HT := Lib.hid (show encs (R.take (32 + 16 * (m + 1))) = encs (R.take (32 + 16 * m)) ++ encs (seg R (32 + 16 * m) 16) by rw [show 32 + 16 * (m + 1) = 32 + 16 * m + 16 by omega, seg_next, encs_append])
      have HZ := Lib.hid (show (s ++ encs (R.take (32 + 16 * m))).length ≤ 80000 by
        have h1 := encs_len (R.take (32 + 16 * m))
        have h2 : (R.take (32 + 16 * m)).length ≤ 288 := by rw [List.length_take, HX.out]; omega
        have := HL.out
        rw [List.length_append]; omega)
      have HV := Lib.hid (show ∀ j v, (vals (seg R (32 + 16 * m) 16))[j]? = some v → (vals R)[32 + m * 16 + j]? = some v by rw [show 32 + m * 16 = 32 + 16 * m by omega]; exact seg_range)
      generalize seg R (32 + 16 * m) 16 = V at HM HT HV
      go_wp2_with (first
        | (with_reducible refine load_pt HC.out Tryz.underlying23 rfl (v_infoW HM.out) HV.out _ rfl rfl rfl ?_)
        | (go_at_call 71; (with_reducible refine (rvec_w w0 _ _ V HM.out _ HB.out HO.out HZ.out).mono ?_); rintro e u ⟨v', rfl, ho, hst⟩; have hc := hst.cel (by decide) HC.out; clear HC; have HC := Lib.hid hc; have hs := HS.out.trans hst; have hb := Nat.le_trans HB.out hst.size; clear HO HS HB; have HO := Lib.hid ho; have HS := Lib.hid hs; have HB := Lib.hid hb; clear hst ho hs hb hc))
      go_roundw
      case rel => exact ⟨m + 1, by omega, by go_num, by rw [HT.out, ← List.append_assoc]; exact HO.out, HB.out, HC.out, HS.out⟩
      case measure => simp [intOf]; omega
    · obtain rfl : m = 16 := by omega
      have ht : R.take (32 + 16 * 16) = R := List.take_of_length_le (by rw [HX.out]; decide)
      have ho := HO.out
      rw [ht] at ho
      clear HO; have HO := Lib.hid ho; clear ho
      go_wp2_with fail
      go_ret
      exact ⟨_, rfl, HO.out, HS.out⟩
end Go.Proofs.YtofngihdnjgmeaaGreat
