/- What is done with numbers one behind the other, as plain data. No program is spoken of here.; Bytes in memory: slices that read as bytes, rows of the call's own, what append and a conversion make of them.; What the statements stand on: texts held against one another, a reader that the call made, and the contract of awake.; What is read with no error is what was put: plain data.; What is read with no error is what was put: a whole field.; What is read with no error is what was put. -/
import Derived.Test.YtofngihdnjgmeaaGreatY01
import Derived.Test.YtofngihdnjgmeaaGreatY04
import Derived.Test.YtofngihdnjgmeaaGreatY07
import Derived.Test.YtofngihdnjgmeaaGreatY12
import Derived.Test.YtofngihdnjgmeaaGreatY17
import Derived.Test.YtofngihdnjgmeaaGreatY18
import Derived.Test.YtofngihdnjgmeaaGreatY21
import Derived.Test.YtofngihdnjgmeaaGreatY22A
import Derived.Test.YtofngihdnjgmeaaGreatY25
import Derived.Test.YtofngihdnjgmeaaGreatY27A
import Derived.Test.YtofngihdnjgmeaaGreatY29
import Derived.Test.YtofngihdnjgmeaaGreatY35
import Derived.Test.YtofngihdnjgmeaaGreatY37
import Derived.WalkKit
import Derived.ProofKit
import Derived.Lib.Hide
import Derived.Deep.RegionHeld3
import Derived.Below
import Derived.Deep.MidRow
import Derived.Deep.QuietTactic
import Derived.BigQuiet
import Derived.Laws.StructEq
import Derived.Laws.OwnMore
import Derived.Maps.AppendAt
import Derived.OwnWalk
import Derived.Lib.AppendStr
import Derived.Lib.AppendZeros
import Derived.Laws.IdiomStrings
import Derived.Laws.Cover3
import Derived.OpenShut
import Derived.ChangeOld
import Derived.Deep.Slices
import Derived.ChangeSlices
import Derived.Laws.AppendOwn
import Derived.WalkMore
import Derived.LoopTactic
import Derived.Defers
import Derived.Recover
import Derived.WalkSmall
import Derived.Deep.OwnRows
import Derived.Lib.SliceRun
import Derived.Shelf.SlSortCmp.WholeK
import Derived.Shelf.SlSortCmp.NoneTotal
import Derived.ShutString
import Derived.Maps.OwnSet
import Derived.Maps.Views
namespace Go.Proofs.YtofngihdnjgmeaaGreat
set_option maxRecDepth 100000

section
variable {σ : Type} (g : σ → Int → σ × Int)
theorem run_length : ∀ (s : σ) (xs : List Int), (run g s xs).2.length = xs.length
  | _, [] => rfl
  | s, z :: r => by rw [run]; simp [run_length]
end
end Go.Proofs.YtofngihdnjgmeaaGreat

namespace Go.Proofs.YtofngihdnjgmeaaGreat.oct
set_option maxRecDepth 100000
open Go.ChangeShapes Go.WideShapes Go.ChangeAt Go.RowKit

theorem to_str_want {w : World} {ops : Array Oper} {rest : List Oper} {o : Oper} {a : Act} {Q : Exit → Act → World → Prop} {A : Option Addr} {l : List UInt8} (hr : Bys w A l) {k : Nat} (hk : l.length = k) (x : Operand) (ho : o.op = .convert 36 9 x) {c : Nat} (hx : a.eval x = .slice A k c)
    (hw : Region.wanted o (yielded ops a.tmps) = true) (h : wpList Tryz.prog ops Q rest (a.put o.dst (.string ⟨l.toArray⟩)) w) : wpList Tryz.prog ops Q (o :: rest) a w :=
  BigFrame.wpList_want hw fun _ hK => wp_str hr hk x ho hx (hK _ _ h)
end Go.Proofs.YtofngihdnjgmeaaGreat.oct

namespace Go.Proofs.YtofngihdnjgmeaaGreat.oct
set_option maxRecDepth 100000
open Go.ChangeShapes Go.WideShapes Go.ChangeAt Go.RowKit

theorem wp_eq_str {o : Oper} {a : Act} {u : World} {K : Act → World → Prop} {Q : Exit → Act → World → Prop} {s t : ByteArray} {b : Bool} (hb : (s.toList == t.toList) = b) (x y : Operand) (ty : TypeId) (ho : o.op = .binOp .eql 9 x y ty) (hx : a.eval x = .string s) (hy : a.eval y = .string t)
    (h : K (a.put o.dst (.bool b)) u) : o.wp Tryz.prog a u K Q := by
  subst hb
  unfold Oper.wp execOp
  simp only [ho, hx, hy]
  simp [go_sem]
  simpa [Act.put] using h
theorem eq_str_want {ops : Array Oper} {rest : List Oper} {o : Oper} {a : Act} {u : World} {Q : Exit → Act → World → Prop} {s t : ByteArray} {b : Bool} (hb : (s.toList == t.toList) = b) (x y : Operand) (ty : TypeId) (ho : o.op = .binOp .eql 9 x y ty) (hx : a.eval x = .string s) (hy : a.eval y = .string t)
    (hw : Region.wanted o (yielded ops a.tmps) = true) (h : wpList Tryz.prog ops Q rest (a.put o.dst (.bool b)) u) : wpList Tryz.prog ops Q (o :: rest) a u :=
  BigFrame.wpList_want hw fun _ hK => wp_eq_str hb x y ty ho hx hy (hK _ _ h)
end Go.Proofs.YtofngihdnjgmeaaGreat.oct

namespace Go.Proofs.YtofngihdnjgmeaaGreat
set_option maxRecDepth 100000
open Go.ChangeShapes Go.WideShapes Go.ChangeAt Go.RowKit

theorem ct_back {s : RS} {n : Nat} {R : List Int} (h : (ctR s n R).1.2 = 0) : s.2 = 0 ∧ s.1 = oct.enc (oct.fold (ctR s n R).2.1) ++ (ctR s n R).1.1 := by
  have h1 : oct.rcE 16 s.1 s.2 = 0 := h
  obtain ⟨a1, a2, a3, a4⟩ := rc_back h1
  obtain ⟨b1, _, b3⟩ := rn_back a1
  refine ⟨b1, ?_⟩
  show s.1 = oct.enc (oct.fold ((oct.rcN 16 s.1 s.2).toNat : Int)) ++ oct.rnL s.1 s.2
  rw [a2, Int.toNat_of_nonneg a3]
  exact b3
theorem end_back {l : List UInt8} {e : Int} (h : oct.endE l e = 0) : e = 0 ∧ l = [] := by
  unfold oct.endE at h
  split at h
  · rename_i h1
    split at h
    · exact ⟨h1, by assumption⟩
    · exact absurd h (by decide)
  · rename_i h1; exact absurd h h1
end Go.Proofs.YtofngihdnjgmeaaGreat

namespace Go.Proofs.YtofngihdnjgmeaaGreat
set_option maxRecDepth 100000
open Go.ChangeShapes Go.WideShapes Go.ChangeAt Go.RowKit

structure Tail (v k ee : Int) (nm : ByteArray) (s3 : RS) (F : FR RS) : Prop where
  ok : s3.2 = 0
  nm : F.nm = nm
  k0 : F.X.getD 0 0 = k
  e0 : F.X.getD 1 0 = ee
  one : k = 1 → s3.1 = encs (seg F.X 2 579) ++ (if v = 1 then [] else oct.enc (oct.fold F.n) ++ encs F.R) ∧ F.R.length = F.n * 5 ∧ (v = 1 → F.R = [])
  two : k = 2 → s3.1 = encs (seg F.X 581 4) ∧ F.R = []
theorem tail_back (v k ee : Int) (nm : ByteArray) (s3 : RS) (F : FR RS) (hF : fT v nm (s3, k :: ee :: Zt) = F) (h1 : F.s.1 = []) (h2 : F.s.2 = 0) : Tail v k ee nm s3 F := by
  have f3 := foR (zer 579) [k, ee] zL.l s3 (n := 579) (o := 2) (zer_length 579) rfl (X := k :: ee :: Zt) rfl
  have f4 := foR zL.l (k :: ee :: zer 579) [] s3 (n := 4) (o := 581) rfl (by simp [zer]) (X := k :: ee :: Zt) (by simp [Zt])
  have c0 : (k :: ee :: Zt).getD 0 0 = k := rfl
  unfold fT at hF
  simp only [c0] at hF
  by_cases hk : k = 1
  · rw [if_pos hk] at hF
    have hl := run_length gR s3 (zer 579)
    have hb := run_back (zer 579) s3
    rw [f3] at hF
    generalize run gR s3 (zer 579) = q at hF hl hb
    obtain ⟨s4, C⟩ := q
    rw [zer_length] at hl
    simp only at hF hl hb
    have sC : seg ([k, ee] ++ (C ++ zL.l)) 2 579 = C := List.take_left' hl
    by_cases hv : v = 1
    · rw [if_pos hv] at hF
      subst hF
      obtain ⟨b1, b2⟩ := hb h2
      refine ⟨b1, rfl, rfl, rfl, fun _ => ⟨?_, rfl, fun _ => rfl⟩, fun h => absurd (hk.symm.trans h) (by decide)⟩
      simp only at h1
      rw [if_pos hv, sC, b2, h1]
    · rw [if_neg hv] at hF
      have hc := ct_back (s := s4) (n := 0) (R := [])
      have hz : (ctR s4 0 []).2.2 = zer (5 * (ctR s4 0 []).2.1) := rfl
      generalize ctR s4 0 [] = q2 at hF hc hz
      obtain ⟨s5, n, R0⟩ := q2
      simp only at hF hc hz
      subst hz
      have f5 := foR (zer (5 * n)) [] [] s5 (n := 5 * n) (o := 0) (zer_length _) rfl (X := zer (5 * n)) (by simp)
      have hl2 := run_length gR s5 (zer (5 * n))
      have hb2 := run_back (zer (5 * n)) s5
      rw [f5] at hF
      generalize run gR s5 (zer (5 * n)) = q3 at hF hl2 hb2
      obtain ⟨s6, R⟩ := q3
      rw [zer_length] at hl2
      simp only [List.nil_append, List.append_nil] at hF hl2 hb2
      subst hF
      obtain ⟨b1, b2⟩ := hb2 h2
      obtain ⟨b3, b4⟩ := hc b1
      obtain ⟨b5, b6⟩ := hb b3
      refine ⟨b5, rfl, rfl, rfl, fun _ => ⟨?_, by show R.length = n * 5; omega, fun h => absurd h hv⟩, fun h => absurd (hk.symm.trans h) (by decide)⟩
      simp only at h1
      rw [if_neg hv, sC, b6, b4, b2, h1, List.append_nil]
  · rw [if_neg hk] at hF
    by_cases hk2 : k = 2
    · rw [if_pos hk2] at hF
      have hl := run_length gR s3 zL.l
      have hb := run_back zL.l s3
      rw [f4] at hF
      generalize run gR s3 zL.l = q at hF hl hb
      obtain ⟨s4, D⟩ := q
      simp only [List.append_nil] at hF hl hb
      subst hF
      obtain ⟨b1, b2⟩ := hb h2
      have hd : (k :: ee :: zer 579 ++ D).drop 581 = D := List.drop_left' (by simp [zer])
      refine ⟨b1, rfl, rfl, rfl, fun h => absurd h hk, fun _ => ⟨?_, rfl⟩⟩
      simp only at h1
      have hD : D.length = 4 := hl
      have hs : seg (k :: ee :: zer 579 ++ D) 581 4 = D := by rw [seg, hd, ← hD, List.take_length]
      rw [b2, h1, List.append_nil]
      exact congrArg encs hs.symm
    · rw [if_neg hk2] at hF
      subst hF
      exact ⟨h2, rfl, rfl, rfl, fun h => absurd h hk, fun h => absurd h hk2⟩
end Go.Proofs.YtofngihdnjgmeaaGreat

namespace Go.Proofs.YtofngihdnjgmeaaGreat
set_option maxRecDepth 100000
open Go.ChangeShapes Go.WideShapes Go.ChangeAt Go.RowKit

theorem segL {X : List Int} (h : X.length = 585) : seg X 581 4 = [X.getD 581 0, X.getD 582 0, X.getD 583 0, X.getD 584 0] := by
  have h4 := four_of (l := seg X 581 4) (seg_length (by omega))
  rw [seg_get (by decide), seg_get (by decide), seg_get (by decide), seg_get (by decide)] at h4
  exact h4
/-- The parts behind the epoch, as the words make them. -/
theorem tail_wire {v k ee : Int} {nm : ByteArray} {s3 : RS} {F : FR RS} (T : Tail v k ee nm s3 F) (hX : F.X.length = 585) (hv : v = 1 ∨ v = 2 ∨ v = 3) (hk : k = 1 ∨ k = 2) (he : v = 3 ∨ ee = 0) :
    wireR v (ofX F.nm F.X F.R) = oct.enc (oct.fold v) ++ (oct.enc (oct.fold k) ++ (oct.enc (oct.fold nm.size) ++ (nm.data.toList ++ ((if v = 3 then oct.enc (oct.fold ee) else []) ++ s3.1)))) ∧ (decide (v = 3) || decide ((ofX F.nm F.X F.R).e = 0)) = true ∧ (decide (1 < v) || decide ((ofX F.nm F.X F.R).hs.length = 0)) = true := by
  have pk : (ofX F.nm F.X F.R).k = k := T.k0
  have pe : (ofX F.nm F.X F.R).e = ee := T.e0
  have pn : (ofX F.nm F.X F.R).nm = nm := T.nm
  have pC : (ofX F.nm F.X F.R).C = seg F.X 2 579 := rfl
  have pL : (ofX F.nm F.X F.R).L.l = seg F.X 581 4 := (segL hX).symm
  have pH : (ofX F.nm F.X F.R).hs = hosOf F.R := rfl
  have hC : (seg F.X 2 579).length = 579 := seg_length (by omega)
  have eC := encs_C hC
  refine ⟨?_, ?_, ?_⟩
  · generalize ofX F.nm F.X F.R = p at *
    unfold wireR headR
    rw [pk, pe, pn, pC, pL, pH]
    rcases hk with hk | hk
    · obtain ⟨t1, t2, t3⟩ := T.one hk
      obtain ⟨q1, q2⟩ := hosOf_flat F.n F.R t2
      rw [q1, q2, t1, eC]
      subst hk
      rcases hv with rfl | rfl | rfl <;> simp
    · obtain ⟨t1, t2⟩ := T.two hk
      rw [t1]
      subst hk
      rcases hv with rfl | rfl | rfl <;> simp
  · rcases he with he | he
    · simp [he]
    · rw [pe, he]; simp
  · rw [pH]
    rcases hv with rfl | rfl | rfl
    · have : F.R = [] := by
        rcases hk with hk | hk
        · exact (T.one hk).2.2 rfl
        · exact (T.two hk).2
      rw [this]; rfl
    · simp
    · simp
theorem dec_back {l : List UInt8} (h : dcErr l = 0) : l = wireR (dcV l) (dcG l) ∧ saysR (dcV l) (dcG l) = true := by
  rw [dcV, if_pos h, dcG, if_pos h]
  unfold dcErr at h
  split at h
  · exact absurd h (by decide)
  · rename_i hc
    split at h
    · rename_i hE
      split at h
      · rename_i hr
        clear h
        obtain ⟨z2, z1⟩ := end_back hE
        have hX := dcF_len l
        have hk : (dcP l).k = 1 ∨ (dcP l).k = 2 := kind_of hr
        have hd : dcF l = fT (oct.rnN l 0) _ _ := fE_fT (oct.rnN l 0) (oct.rnL l 0, oct.rnE l 0)
        have key : ∀ (k ee : Int) (nm : ByteArray) (s3 : RS), Tail (oct.rnN l 0) k ee nm s3 (dcF l) → (oct.rnN l 0 = 3 ∨ ee = 0) → oct.rnE l 0 = 0 → oct.rnL l 0 = oct.enc (oct.fold k) ++ (oct.enc (oct.fold nm.size) ++ (nm.data.toList ++ ((if oct.rnN l 0 = 3 then oct.enc (oct.fold ee) else []) ++ s3.1))) → l = wireR (oct.rnN l 0) (dcP l) ∧ saysR (oct.rnN l 0) (dcP l) = true := by
          intro k ee nm s3 T he e0 hL
          have hb : verB (oct.rnN l 0) = true := by
            cases hb : verB (oct.rnN l 0) with
            | true => rfl
            | false => exact absurd ⟨e0, hb⟩ hc
          have hk' : k = 1 ∨ k = 2 := by have := T.k0; rw [← this]; exact hk
          obtain ⟨w1, w2, w3⟩ := tail_wire T hX (ver_cases hb) hk' he
          obtain ⟨_, _, r3⟩ := rn_back e0
          have hP : ofX (dcF l).nm (dcF l).X (dcF l).R = dcP l := rfl
          rw [hP] at w1 w2 w3
          refine ⟨?_, by rw [saysR, hr, hb, w2, w3]; rfl⟩
          rw [w1, ← hL]
          exact r3
        by_cases hv : oct.rnN l 0 = 3
        · rw [if_pos hv] at hd
          have T := tail_back _ _ _ _ _ _ hd.symm z1 z2
          obtain ⟨a1, _, a3⟩ := gR_back T.ok
          obtain ⟨b1, b3⟩ := tx_back a1
          obtain ⟨c1, _, c3⟩ := gR_back b1
          refine key _ _ _ _ T (.inl hv) c1 ?_
          rw [if_pos hv]
          refine c3.trans ?_
          rw [b3, a3]
        · rw [if_neg hv] at hd
          have T := tail_back _ _ _ _ _ _ hd.symm z1 z2
          obtain ⟨b1, b3⟩ := tx_back T.ok
          obtain ⟨c1, _, c3⟩ := gR_back b1
          refine key _ _ _ _ T (.inr rfl) c1 ?_
          rw [if_neg hv]
          refine c3.trans ?_
          rw [b3]
          rfl
      · exact absurd h (by decide)
    · rename_i hE; exact absurd h hE
end Go.Proofs.YtofngihdnjgmeaaGreat
