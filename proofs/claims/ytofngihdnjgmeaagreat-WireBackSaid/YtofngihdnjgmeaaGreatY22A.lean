/- A carrier's methods field and holds (layer 10), whatever its functions do with each part. -/
import Derived.Test.YtofngihdnjgmeaaGreatY01
import Derived.Test.YtofngihdnjgmeaaGreatY04
import Derived.Test.YtofngihdnjgmeaaGreatY07
import Derived.Test.YtofngihdnjgmeaaGreatY09
import Derived.Test.YtofngihdnjgmeaaGreatY11
import Derived.Test.YtofngihdnjgmeaaGreatY12
import Derived.Test.YtofngihdnjgmeaaGreatY18
import Derived.WalkKit
import Derived.ProofKit
import Derived.Lib.Hide
import Derived.Deep.RegionHeld3
import Derived.Below
import Derived.Deep.MidRow
import Derived.Deep.QuietTactic
import Derived.BigQuiet
import Derived.Laws.StructEq
import Derived.Laws.OwnMore
import Derived.Maps.AppendAt
import Derived.OwnWalk
import Derived.OpenShut
import Derived.ChangeOld
import Derived.Deep.Slices
import Derived.ChangeSlices
import Derived.Laws.AppendOwn
import Derived.WalkMore
import Derived.LoopTactic
import Derived.Defers
import Derived.Recover
import Derived.WalkSmall
import Derived.Lib.AppendZeros
import Derived.Deep.OwnRows
import Derived.Lib.SliceRun
import Derived.Shelf.SlSortCmp.WholeK
import Derived.Shelf.SlSortCmp.NoneTotal
namespace Go.Proofs.YtofngihdnjgmeaaGreat
set_option maxRecDepth 100000
open Go.ChangeShapes Go.WideShapes Go.ChangeAt Go.RowKit

/-- A field, as its parts are gone through: its name, its 585 numbers (kind, epoch, counter, lock), the slice of its holds, and what that reads. -/
structure Mm where
  nm : ByteArray
  X : List Int
  A : Option Addr
  n : Nat
  c : Nat
  R : List Int
def Mm.cells (m : Mm) : List Value := .string m.nm :: (vals m.X ++ [.slice m.A m.n m.c])
theorem Mm.c0 (m : Mm) : m.cells[0]? = some (.string m.nm) := rfl
theorem Mm.cX {m : Mm} {i : Nat} (hi : i < m.X.length) : m.cells[1 + i]? = some (.int .i64 (m.X.getD i 0)) := by
  rw [Mm.cells, Nat.add_comm, List.getElem?_cons_succ, List.getElem?_append_left (by rw [vals_length]; exact hi)]
  exact vals_get hi
theorem Mm.c1 {m : Mm} (h : m.X.length = 585) : m.cells[1]? = some (.int .i64 (m.X.getD 0 0)) := Mm.cX (i := 0) (by omega)
theorem Mm.cH {m : Mm} (h : m.X.length = 585) : m.cells[586]? = some (.slice m.A m.n m.c) := by
  rw [Mm.cells, List.getElem?_cons_succ, List.getElem?_append_right (by rw [vals_length, h]; omega)]
  simp [vals_length, h]
theorem Mm.len {m : Mm} (h : m.X.length = 585) : m.cells.length = 587 := by simp [Mm.cells, vals_length, h]
theorem Mm.setH {m : Mm} (h : m.X.length = 585) (A : Option Addr) (n c : Nat) (R : List Int) : m.cells.set 586 (.slice A n c) = (Mm.mk m.nm m.X A n c R).cells := by
  rw [Mm.cells, List.set_cons_succ, List.set_append_right _ _ (by rw [vals_length, h]; omega)]
  simp [vals_length, h, Mm.cells]
section
variable {σ : Type} {g : σ → Int → σ × Int} {tx : σ → ByteArray → σ × ByteArray} {ct : σ → Nat → List Int → σ × Nat × List Int} {k1 c1 k2 c2 k3 c3 bf : Nat} {J : Nat → σ → Mm → World → Prop}
/-- What the carrier's functions do with each part. -/
structure Car (g : σ → Int → σ × Int) (tx : σ → ByteArray → σ × ByteArray) (ct : σ → Nat → List Int → σ × Nat × List Int) (k1 c1 k2 c2 k3 c3 bf : Nat) (J : Nat → σ → Mm → World → Prop) : Prop where
  ent : ∀ args w, (callFunc k1 args).run Tryz.prog w = .ok (.enter k1 args) w
  ent2 : ∀ args w, (callFunc k2 args).run Tryz.prog w = .ok (.enter k2 args) w
  ent3 : ∀ args w, (callFunc k3 args).run Tryz.prog w = .ok (.enter k3 args) w
  stay : ∀ k s m w w', J k s m w → Below w.heap.size w w' → J k s m w'
  less : ∀ k k' s m w, J k s m w → k' ≤ k → J k' s m w
  cel : ∀ k s m w, J k s m w → Cel w bf 33 m.cells
  len : ∀ k s m w, J k s m w → m.X.length = 585
  row : ∀ k s m w, J k s m w → m.R.length = m.n * 5 ∧ m.n ≤ 50 ∧ (0 < m.n → ∃ b off, m.A = some ⟨b, off, none⟩)
  numX : ∀ k s m i z a w, J (k + 1) s m w → m.X[i]? = some z → a = 1 + i → Calls Tryz.prog k1 #[.pointer (some ⟨bf, a, none⟩), .pointer (some ⟨c1, 0, none⟩)] w fun e w' => e = .returned (.tuple #[]) ∧ J k (g s z).1 { m with X := m.X.set i (g s z).2 } w' ∧ Keeps w w'
  numR : ∀ k s m b off i z a w, J (k + 1) s m w → m.A = some ⟨b, off, none⟩ → m.R[i]? = some z → a = off + i → Calls Tryz.prog k1 #[.pointer (some ⟨b, a, none⟩), .pointer (some ⟨c1, 0, none⟩)] w fun e w' => e = .returned (.tuple #[]) ∧ J k (g s z).1 { m with R := m.R.set i (g s z).2 } w' ∧ Keeps w w'
  text : ∀ k s m w, J (k + 20) s m w → Calls Tryz.prog k2 #[.pointer (some ⟨bf, 0, none⟩), .pointer (some ⟨c2, 0, none⟩)] w fun e w' => e = .returned (.tuple #[]) ∧ J k (tx s m.nm).1 { m with nm := (tx s m.nm).2 } w' ∧ Keeps w w'
  count : ∀ k s m w, J (k + 1) s m w → Calls Tryz.prog k3 #[.pointer (some ⟨bf, 586, none⟩), .pointer (some ⟨c3, 0, none⟩)] w fun e w' => e = .returned (.tuple #[]) ∧ (∃ A c, J k (ct s m.n m.R).1 (Mm.mk m.nm m.X A (ct s m.n m.R).2.1 c (ct s m.n m.R).2.2) w') ∧ Keeps w w'
theorem Car.toX (H : Car g tx ct k1 c1 k2 c2 k3 c3 bf J) (m : Mm) : Num g k1 c1 bf 1 (fun k s Y w => J k s { m with X := Y } w) :=
  ⟨fun k s Y i z a w hJ hi ha => H.numX k s { m with X := Y } i z a w hJ hi ha, fun k s _Y w w' hJ hb => H.stay k s _ w w' hJ hb, H.ent⟩
theorem Car.toR (H : Car g tx ct k1 c1 k2 c2 k3 c3 bf J) (m : Mm) {b off : Nat} (hA : m.A = some ⟨b, off, none⟩) : Num g k1 c1 b off (fun k s Y w => J k s { m with R := Y } w) :=
  ⟨fun k s Y i z a w hJ hi ha => H.numR k s { m with R := Y } b off i z a w hJ hA hi ha, fun k s _Y w w' hJ hb => H.stay k s _ w w' hJ hb, H.ent⟩
def F3 (k1 c1 k2 c2 k3 c3 : Nat) : List Value := [.func (.func k1) #[] #[.pointer (some ⟨c1, 0, none⟩)], .func (.func k2) #[] #[.pointer (some ⟨c2, 0, none⟩)], .func (.func k3) #[] #[.pointer (some ⟨c3, 0, none⟩)]]
set_option maxHeartbeats 2000000 in
theorem holds_car (H : Car g tx ct k1 c1 k2 c2 k3 c3 bf J) (k : Nat) (s : σ) (m : Mm) (w : World) (hJ : J (k + 300) s m w) :
    Calls Tryz.prog 68 #[.agg [.func (.func k1) #[] #[.pointer (some ⟨c1, 0, none⟩)], .func (.func k2) #[] #[.pointer (some ⟨c2, 0, none⟩)], .func (.func k3) #[] #[.pointer (some ⟨c3, 0, none⟩)]].toArray, .pointer (some ⟨bf, 586, none⟩)] w fun e w' => e = .returned (.tuple #[]) ∧ (∃ A c, J k (fo g (5 * (ct s m.n m.R).2.1) 0 ((ct s m.n m.R).1, (ct s m.n m.R).2.2)).1 (Mm.mk m.nm m.X A (ct s m.n m.R).2.1 c (fo g (5 * (ct s m.n m.R).2.1) 0 ((ct s m.n m.R).1, (ct s m.n m.R).2.2)).2) w') ∧ Keeps w w' := by
  have HH := Lib.hid H; clear H
  have HJ := Lib.hid (show J ((k + 299) + 1) s m w from hJ); clear hJ
  have hct := HH.out.count (k + 299) s m
  generalize ct s m.n m.R = q at hct ⊢
  obtain ⟨s1, n1, R1⟩ := q
  simp only at hct ⊢
  have hent := HH.out.ent3
  go_enter Tryz.func68, Tryz.ntmps68
  go_wp2_with (first
    | (with_reducible refine box_by rfl _ rfl rfl ?_; intro bc u hb hc; have hj := HH.out.stay _ _ _ _ _ HJ.out hb; clear HJ; have HJ := Lib.hid hj; have HQ := Lib.hid (Keeps.below hb); have HC := Lib.hid hc; clear hj hb hc)
    | (with_reducible refine load_w cwH (HC.out.cell (k := 2) rfl) _ rfl rfl rfl ?_)
    | (with_reducible refine (hct _ HJ.out).mono ?_; rintro e u ⟨rfl, ⟨A1, q1, hj⟩, hk⟩; clear HJ; have HJ := Lib.hid hj; have hc := hk.cel (.inl rfl) HC.out; clear HC; have HC := Lib.hid hc; have hq := HQ.out.trans hk; clear HQ; have HQ := Lib.hid hq; clear hj hk hc hq)
    | (with_reducible refine load_there cbH _ rfl ((HH.out.cel _ _ _ _ HJ.out).cell (Mm.cH (HH.out.len _ _ _ _ HJ.out))) rfl rfl ?_))
  have hrow := HH.out.row _ _ _ _ HJ.out
  simp only at hrow
  obtain ⟨hr1, hr2, hr3⟩ := hrow
  have hj := HH.out.less _ (k + 5 * n1) _ _ _ HJ.out (by omega)
  clear HJ; have HJ := Lib.hid hj; clear hj hct
  go_loopw [14] (fun i wr => ∃ m1 : Nat, m1 ≤ n1 ∧ i = .int .i64 m1 ∧ J (k + 5 * (n1 - m1)) (fo g (5 * m1) 0 (s1, R1)).1 (Mm.mk m.nm m.X A1 n1 q1 (fo g (5 * m1) 0 (s1, R1)).2) wr ∧ Cel wr bc 69 [.func (.func k1) #[] #[.pointer (some ⟨c1, 0, none⟩)], .func (.func k2) #[] #[.pointer (some ⟨c2, 0, none⟩)], .func (.func k3) #[] #[.pointer (some ⟨c3, 0, none⟩)]] ∧ Keeps w wr) (fun i _ => n1 - (intOf i).toNat)
  case atStart => exact ⟨0, by omega, rfl, HJ.out, HC.out, HQ.out⟩
  case round =>
    obtain ⟨m1, hm, rfl, hj, hc, hq⟩ := hrel
    clear HJ HC HQ
    have HJ := Lib.hid hj; have HC := Lib.hid hc; have HQ := Lib.hid hq
    clear hj hc hq
    by_cases hlt : m1 < n1
    · obtain ⟨b, off, rfl⟩ := hr3 (by omega)
      have i1 : (0 : Int) ≤ (m1 : Int) := by omega
      have i2 : (m1 : Int) < (n1 : Int) := by omega
      have HE := Lib.hid (show k + 5 * (n1 - m1) = (k + 5 * (n1 - (m1 + 1))) + 5 by omega)
      have HF := Lib.hid (show fo g (5 * (m1 + 1)) 0 (s1, R1) = fo g 5 (5 * m1) (fo g (5 * m1) 0 (s1, R1)) by rw [show 5 * (m1 + 1) = 5 * m1 + 5 by omega, fo_add, Nat.zero_add])
      have HL := Lib.hid (show 5 * m1 + 5 ≤ (fo g (5 * m1) 0 (s1, R1)).2.length by rw [fo_length]; simp only; omega)
      have HX := Lib.hid (show off + m1 * 5 = off + 5 * m1 by omega)
      go_wp2_with (first
        | (with_reducible refine load_there cbH _ rfl ((HH.out.cel _ _ _ _ HJ.out).cell (Mm.cH (HH.out.len _ _ _ _ HJ.out))) rfl rfl ?_))
      refine Draws.start (S := fun u => Cel u bc 69 [.func (.func k1) #[] #[.pointer (some ⟨c1, 0, none⟩)], .func (.func k2) #[] #[.pointer (some ⟨c2, 0, none⟩)], .func (.func k3) #[] #[.pointer (some ⟨c3, 0, none⟩)]]) (n := 18) 18 rfl (by kernel_rfl) ?_
      have hj := HH.out.stay _ _ _ _ _ HJ.out ((Below.refl _ _).drew)
      clear HJ; have HJ := Lib.hid hj; clear hj
      have hc := HC.out.below ((Below.refl _ _).drew) HC.out.lt
      clear HC; have HC := Lib.hid hc; clear hc
      have hq := HQ.out.trans (Keeps.below ((Below.refl _ _).drew))
      clear HQ; have HQ := Lib.hid hq; clear hq
      have HS := Lib.hid (show (fun u => Cel u bc 69 [.func (.func k1) #[] #[.pointer (some ⟨c1, 0, none⟩)], .func (.func k2) #[] #[.pointer (some ⟨c2, 0, none⟩)], .func (.func k3) #[] #[.pointer (some ⟨c3, 0, none⟩)]]) _ from HC.out)
      refine Draws.take 0 HS.out rfl (by kernel_rfl) (fun _ _ _ h => h) (yield_by (fun _ h => h) _ rfl rfl rfl) ?_
      (try simp only [Act.put, List.setIfInBounds_toArray, List.set_cons_zero, List.set_cons_succ])
      refine Draws.take 1 (v := ?v1) HS.out rfl (by kernel_rfl) (fun _ _ _ h => h) (Or.inl ⟨rfl, ?h1⟩) ?r1
      case h1 => intro w' hw'; go_simp; (try with_reducible rfl)
      (try simp only [Act.put, List.setIfInBounds_toArray, List.set_cons_zero, List.set_cons_succ])
      refine Draws.take 2 (v := ?v2) HS.out rfl (by kernel_rfl) (fun _ _ _ h => h) (Or.inl ⟨rfl, ?h2⟩) ?r2
      case h2 => intro w' hw'; go_simp; (try with_reducible rfl)
      (try simp only [Act.put, List.setIfInBounds_toArray, List.set_cons_zero, List.set_cons_succ])
      refine Draws.take 3 (v := ?v3) HS.out rfl (by kernel_rfl) (fun _ _ _ h => h) (Or.inl ⟨rfl, ?h3⟩) ?r3
      case h3 => intro w' hw'; go_simp; (try with_reducible rfl)
      (try simp only [Act.put, List.setIfInBounds_toArray, List.set_cons_zero, List.set_cons_succ])
      refine Draws.take 4 (v := ?v4) HS.out rfl (by kernel_rfl) (fun _ _ _ h => h) (Or.inl ⟨rfl, ?h4⟩) ?r4
      case h4 => intro w' hw'; go_simp; (try with_reducible rfl)
      (try simp only [Act.put, List.setIfInBounds_toArray, List.set_cons_zero, List.set_cons_succ])
      refine Draws.take 5 (v := ?v5) HS.out rfl (by kernel_rfl) (fun _ _ _ h => h) (Or.inl ⟨rfl, ?h5⟩) ?r5
      case h5 => intro w' hw'; go_simp; (try with_reducible rfl)
      (try simp only [Act.put, List.setIfInBounds_toArray, List.set_cons_zero, List.set_cons_succ])
      refine Draws.take 6 (v := ?v6) HS.out rfl (by kernel_rfl) (fun _ _ _ h => h) (Or.inl ⟨rfl, ?h6⟩) ?r6
      case h6 => intro w' hw'; go_simp; (try with_reducible rfl)
      (try simp only [Act.put, List.setIfInBounds_toArray, List.set_cons_zero, List.set_cons_succ])
      refine Draws.take 7 (v := ?v7) HS.out rfl (by kernel_rfl) (fun _ _ _ h => h) (Or.inl ⟨rfl, ?h7⟩) ?r7
      case h7 => intro w' hw'; go_simp; (try with_reducible rfl)
      (try simp only [Act.put, List.setIfInBounds_toArray, List.set_cons_zero, List.set_cons_succ])
      refine Draws.take 8 (v := ?v8) HS.out rfl (by kernel_rfl) (fun _ _ _ h => h) (Or.inl ⟨rfl, ?h8⟩) ?r8
      case h8 => intro w' hw'; go_simp; (try with_reducible rfl)
      (try simp only [Act.put, List.setIfInBounds_toArray, List.set_cons_zero, List.set_cons_succ])
      refine Draws.take 9 (v := ?v9) HS.out rfl (by kernel_rfl) (fun _ _ _ h => h) (Or.inl ⟨rfl, ?h9⟩) ?r9
      case h9 => intro w' hw'; go_simp; (try with_reducible rfl)
      (try simp only [Act.put, List.setIfInBounds_toArray, List.set_cons_zero, List.set_cons_succ])
      refine Draws.take 10 (v := ?v10) HS.out rfl (by kernel_rfl) (fun _ _ _ h => h) (Or.inl ⟨rfl, ?h10⟩) ?r10
      case h10 => intro w' hw'; go_simp; (try with_reducible rfl)
      (try simp only [Act.put, List.setIfInBounds_toArray, List.set_cons_zero, List.set_cons_succ])
      refine Draws.take 11 (v := ?v11) HS.out rfl (by kernel_rfl) (fun _ _ _ h => h) (Or.inl ⟨rfl, ?h11⟩) ?r11
      case h11 => intro w' hw'; go_simp; (try with_reducible rfl)
      (try simp only [Act.put, List.setIfInBounds_toArray, List.set_cons_zero, List.set_cons_succ])
      refine Draws.take 12 (v := ?v12) HS.out rfl (by kernel_rfl) (fun _ _ _ h => h) (Or.inl ⟨rfl, ?h12⟩) ?r12
      case h12 => intro w' hw'; go_simp; (try with_reducible rfl)
      (try simp only [Act.put, List.setIfInBounds_toArray, List.set_cons_zero, List.set_cons_succ])
      refine Draws.take 13 (v := ?v13) HS.out rfl (by kernel_rfl) (fun _ _ _ h => h) (Or.inl ⟨rfl, ?h13⟩) ?r13
      case h13 => intro w' hw'; go_simp; (try with_reducible rfl)
      (try simp only [Act.put, List.setIfInBounds_toArray, List.set_cons_zero, List.set_cons_succ])
      refine Draws.take 14 (v := ?v14) HS.out rfl (by kernel_rfl) (fun _ _ _ h => h) (Or.inl ⟨rfl, ?h14⟩) ?r14
      case h14 => intro w' hw'; go_simp; (try with_reducible rfl)
      (try simp only [Act.put, List.setIfInBounds_toArray, List.set_cons_zero, List.set_cons_succ])
      refine Draws.take 15 (v := ?v15) HS.out rfl (by kernel_rfl) (fun _ _ _ h => h) (Or.inl ⟨rfl, ?h15⟩) ?r15
      case h15 => intro w' hw'; go_simp; (try with_reducible rfl)
      (try simp only [Act.put, List.setIfInBounds_toArray, List.set_cons_zero, List.set_cons_succ])
      refine Draws.does 16 rfl (by kernel_rfl) rfl (fun K hK => ?_)
      refine wp_ptrs5 _ _ _ _ _ rfl rfl rfl rfl rfl rfl ?_
      intro bp u hb hp
      have hj := HH.out.stay _ _ _ _ _ HJ.out hb
      clear HJ; have HJ := Lib.hid hj
      have hc := HC.out.below hb HC.out.lt
      clear HC; have HC := Lib.hid hc
      have hq := HQ.out.trans (Keeps.below hb)
      clear HQ; have HQ := Lib.hid hq
      have HP := Lib.hid (show Cel u bp 111 (ptrs b (off + m1 * 5) 5) from hp)
      clear hj hc hq hb hp
      refine hK.out _ _ (fun _ => HC.out) ?_
      clear hK K HS
      have HS := Lib.hid (show (fun u => Cel u bc 69 [.func (.func k1) #[] #[.pointer (some ⟨c1, 0, none⟩)], .func (.func k2) #[] #[.pointer (some ⟨c2, 0, none⟩)], .func (.func k3) #[] #[.pointer (some ⟨c3, 0, none⟩)]]) _ from HC.out)
      (try simp only [Act.put, List.setIfInBounds_toArray, List.set_cons_zero, List.set_cons_succ])
      refine Draws.does 17 rfl (by kernel_rfl) rfl (fun K hK => ?_)
      go_simp
      go_at_call 111
      refine (numbers_car (HH.out.toR (Mm.mk m.nm m.X (some ⟨b, off, none⟩) n1 q1 []) rfl) 5 (k + 5 * (n1 - (m1 + 1))) (fo g (5 * m1) 0 (s1, R1)).1 (fo g (5 * m1) 0 (s1, R1)).2 (5 * m1) (off + m1 * 5) bp 5 _ (by omega) (HE.out ▸ HJ.out) HL.out HX.out HP.out).mono ?_
      rintro e u ⟨rfl, hj, hk⟩
      (try dsimp only)
      clear HJ; have HJ := Lib.hid hj
      have hc := hk.cel (.inl rfl) HC.out; clear HC; have HC := Lib.hid hc; clear hc
      have hq := HQ.out.trans hk; clear HQ; have HQ := Lib.hid hq; clear hq hk hj
      refine hK.out _ _ (fun _ => HC.out) ?_
      clear hK K
      (try simp only [Act.put, List.setIfInBounds_toArray, List.set_cons_zero, List.set_cons_succ])
      refine Draws.done (by kernel_rfl) ?_
      clear HS
      go_wp2_with fail
      go_roundw
      case rel => exact ⟨m1 + 1, by omega, by go_num, by rw [HF.out]; exact HJ.out, HC.out, HQ.out⟩
      case measure => simp [intOf]; omega
    · obtain rfl : m1 = n1 := by omega
      have hj := HJ.out
      rw [Nat.sub_self] at hj
      go_wp2_with fail
      go_end0
      exact ⟨rfl, ⟨_, _, hj⟩, HQ.out⟩
/-- What comes of a field's parts, gone through in a format. -/
structure FR (σ : Type) where
  s : σ
  nm : ByteArray
  X : List Int
  n : Nat
  R : List Int
def fE {σ : Type} (g : σ → Int → σ × Int) (tx : σ → ByteArray → σ × ByteArray) (ct : σ → Nat → List Int → σ × Nat × List Int) (v : Int) (s : σ) (nm : ByteArray) (X : List Int) (n : Nat) (R : List Int) : FR σ :=
  let p1 := fo g 1 0 (s, X)
  let t := tx p1.1 nm
  let p3 := if v = 3 then fo g 1 1 (t.1, p1.2) else (t.1, p1.2)
  if p3.2.getD 0 0 = 1 then
    let p4 := fo g 579 2 p3
    if v = 1 then ⟨p4.1, t.2, p4.2, n, R⟩
    else
      let q := ct p4.1 n R
      let r := fo g (5 * q.2.1) 0 (q.1, q.2.2)
      ⟨r.1, t.2, p4.2, q.2.1, r.2⟩
  else if p3.2.getD 0 0 = 2 then
    let p4 := fo g 4 581 p3
    ⟨p4.1, t.2, p4.2, n, R⟩
  else ⟨p3.1, t.2, p3.2, n, R⟩
set_option maxHeartbeats 4000000 in
theorem field_car (H : Car g tx ct k1 c1 k2 c2 k3 c3 bf J) (v : Int) (s : σ) (m : Mm) (w : World) (hJ : J 1000 s m w) :
    Calls Tryz.prog 28 #[.agg [.func (.func k1) #[] #[.pointer (some ⟨c1, 0, none⟩)], .func (.func k2) #[] #[.pointer (some ⟨c2, 0, none⟩)], .func (.func k3) #[] #[.pointer (some ⟨c3, 0, none⟩)]].toArray, .int .i64 v, .pointer (some ⟨bf, 0, none⟩)] w fun e w' => e = .returned (.tuple #[]) ∧ ∃ A c, J 0 (fE g tx ct v s m.nm m.X m.n m.R).s (Mm.mk (fE g tx ct v s m.nm m.X m.n m.R).nm (fE g tx ct v s m.nm m.X m.n m.R).X A (fE g tx ct v s m.nm m.X m.n m.R).n c (fE g tx ct v s m.nm m.X m.n m.R).R) w' := by
  have HH := Lib.hid H
  have HJ := Lib.hid (show J 1000 s m w from hJ); clear hJ
  have hN1 : ∀ w, J 1000 s m w → Calls Tryz.prog k1 #[.pointer (some ⟨bf, 1, none⟩), .pointer (some ⟨c1, 0, none⟩)] w fun e w' => e = .returned (.tuple #[]) ∧ J 999 (fo g 1 0 (s, m.X)).1 (Mm.mk m.nm (fo g 1 0 (s, m.X)).2 m.A m.n m.c m.R) w' ∧ Keeps w w' := fun w h => (H.toX m).one 999 s m.X 0 1 w h (by rw [H.len _ _ _ _ h]; decide) rfl
  have hfe : fE g tx ct v s m.nm m.X m.n m.R = fE g tx ct v s m.nm m.X m.n m.R := rfl
  conv at hfe => rhs; unfold fE
  simp only at hfe
  generalize hp1 : fo g 1 0 (s, m.X) = p1 at hN1 hfe
  have hT : ∀ w, J 999 p1.1 (Mm.mk m.nm p1.2 m.A m.n m.c m.R) w → Calls Tryz.prog k2 #[.pointer (some ⟨bf, 0, none⟩), .pointer (some ⟨c2, 0, none⟩)] w fun e w' => e = .returned (.tuple #[]) ∧ J 979 (tx p1.1 m.nm).1 (Mm.mk (tx p1.1 m.nm).2 p1.2 m.A m.n m.c m.R) w' ∧ Keeps w w' := fun w h => H.text 979 p1.1 (Mm.mk m.nm p1.2 m.A m.n m.c m.R) w h
  generalize tx p1.1 m.nm = t at hT hfe
  clear hp1
  generalize fE g tx ct v s m.nm m.X m.n m.R = E at hfe ⊢
  by_cases hv3 : v = 3
  · rw [if_pos hv3] at hfe
    have V3 := Lib.hid (show (v == 3) = true by simp [hv3])
    have hN2 : ∀ w, J 979 t.1 (Mm.mk t.2 p1.2 m.A m.n m.c m.R) w → Calls Tryz.prog k1 #[.pointer (some ⟨bf, 2, none⟩), .pointer (some ⟨c1, 0, none⟩)] w fun e w' => e = .returned (.tuple #[]) ∧ J 978 (fo g 1 1 (t.1, p1.2)).1 (Mm.mk t.2 (fo g 1 1 (t.1, p1.2)).2 m.A m.n m.c m.R) w' ∧ Keeps w w' := fun w h => (H.toX (Mm.mk t.2 [] m.A m.n m.c m.R)).one 978 t.1 p1.2 1 2 w h (by have := H.len _ _ _ _ h; simp only at this; omega) rfl
    generalize fo g 1 1 (t.1, p1.2) = p3 at hN2 hfe
    have hK1 : ∀ w, J 978 p3.1 (Mm.mk t.2 p3.2 m.A m.n m.c m.R) w → w.cell? ⟨bf, 1, none⟩ = some (.int .i64 (p3.2.getD 0 0)) := fun w h => (H.cel _ _ _ _ h).cell (Mm.c1 (H.len _ _ _ _ h))
    have hL3 : ∀ w, J 978 p3.1 (Mm.mk t.2 p3.2 m.A m.n m.c m.R) w → p3.2.length = 585 := fun w h => H.len _ _ _ _ h
    generalize p3.2.getD 0 0 = K at hK1 hfe
    have hk2 := True.intro; have hv1 := True.intro
    by_cases hk1 : K = 1
    · have hv1 : v ≠ 1 := by omega
      have hho := fun w h => holds_car H 99 (fo g 579 2 p3).1 (Mm.mk t.2 (fo g 579 2 p3).2 m.A m.n m.c m.R) w h
      have K1 := Lib.hid (show (K == 1) = true by simp [hk1])
      have V1 := Lib.hid (show (v != 1) = true by simp [hv1])
      rw [if_pos hk1, if_neg hv1] at hfe
      subst hfe
      (try simp only)
      clear hk1 hk2 hv1
      go_enter Tryz.func28, Tryz.ntmps28
      go_wp2_with (first
        | (with_reducible refine box_by rfl _ rfl rfl ?_; intro bc u hb hc; have hj := HH.out.stay _ _ _ _ _ HJ.out hb; clear HJ; have HJ := Lib.hid hj; have HQ := Lib.hid (Keeps.below hb); have HC := Lib.hid hc; clear hj hb hc))
      refine Draws.start (S := fun u => Cel u bc 69 [.func (.func k1) #[] #[.pointer (some ⟨c1, 0, none⟩)], .func (.func k2) #[] #[.pointer (some ⟨c2, 0, none⟩)], .func (.func k3) #[] #[.pointer (some ⟨c3, 0, none⟩)]]) (n := 6) 6 rfl (by kernel_rfl) ?_
      have hj := HH.out.stay _ _ _ _ _ HJ.out ((Below.refl _ _).drew)
      clear HJ; have HJ := Lib.hid hj; clear hj
      have hc := HC.out.below ((Below.refl _ _).drew) HC.out.lt
      clear HC; have HC := Lib.hid hc; clear hc
      have hq := HQ.out.trans (Keeps.below ((Below.refl _ _).drew))
      clear HQ; have HQ := Lib.hid hq; clear hq
      have HS := Lib.hid (show (fun u => Cel u bc 69 [.func (.func k1) #[] #[.pointer (some ⟨c1, 0, none⟩)], .func (.func k2) #[] #[.pointer (some ⟨c2, 0, none⟩)], .func (.func k3) #[] #[.pointer (some ⟨c3, 0, none⟩)]]) _ from HC.out)
      refine Draws.take 0 (v := ?v22) HS.out rfl (by kernel_rfl) (fun _ _ _ h => h) (Or.inl ⟨rfl, ?h22⟩) ?r22
      case h22 => intro w' hw'; go_simp; (try with_reducible rfl)
      (try simp only [Act.put, List.setIfInBounds_toArray, List.set_cons_zero, List.set_cons_succ])
      refine Draws.take 1 HS.out rfl (by kernel_rfl) (fun _ _ _ h => h) (yield_w cwN (fun _ h => h.cell rfl) _ rfl rfl rfl) ?_
      (try simp only [Act.put, List.setIfInBounds_toArray, List.set_cons_zero, List.set_cons_succ])
      refine Draws.take 2 (v := ?v23) HS.out rfl (by kernel_rfl) (fun _ _ _ h => h) (Or.inl ⟨rfl, ?h23⟩) ?r23
      case h23 => intro w' hw'; go_simp; (try with_reducible rfl)
      (try simp only [Act.put, List.setIfInBounds_toArray, List.set_cons_zero, List.set_cons_succ])
      refine Draws.take 3 (v := ?v24) HS.out rfl (by kernel_rfl) (fun _ _ _ h => h) (Or.inl ⟨rfl, ?h24⟩) ?r24
      case h24 => intro w' hw'; go_simp; (try with_reducible rfl)
      (try simp only [Act.put, List.setIfInBounds_toArray, List.set_cons_zero, List.set_cons_succ])
      refine Draws.take 4 (v := ?v25) HS.out rfl (by kernel_rfl) (fun _ _ _ h => h) (Or.inl ⟨rfl, ?h25⟩) ?r25
      case h25 => intro w' hw'; go_simp; (try with_reducible rfl)
      (try simp only [Act.put, List.setIfInBounds_toArray, List.set_cons_zero, List.set_cons_succ])
      refine Draws.does 5 rfl (by kernel_rfl) rfl (fun K hK => ?_)
      go_simp
      rw [HH.out.ent, Oper.upon_enter]
      refine (hN1 _ HJ.out).mono ?_
      rintro e u ⟨rfl, hj, hk⟩
      (try dsimp only)
      clear HJ; have HJ := Lib.hid hj
      have hc := hk.cel (.inl rfl) HC.out; clear HC; have HC := Lib.hid hc; clear hc
      have hq := HQ.out.trans hk; clear HQ; have HQ := Lib.hid hq; clear hq hk hj
      refine hK.out _ _ (fun _ => HC.out) ?_
      clear hK K
      (try simp only [Act.put, List.setIfInBounds_toArray, List.set_cons_zero, List.set_cons_succ])
      refine Draws.done (by kernel_rfl) ?_
      clear HS
      go_wp2_with fail
      refine Draws.start (S := fun u => Cel u bc 69 [.func (.func k1) #[] #[.pointer (some ⟨c1, 0, none⟩)], .func (.func k2) #[] #[.pointer (some ⟨c2, 0, none⟩)], .func (.func k3) #[] #[.pointer (some ⟨c3, 0, none⟩)]]) (n := 6) 6 rfl (by kernel_rfl) ?_
      have hj := HH.out.stay _ _ _ _ _ HJ.out ((Below.refl _ _).drew)
      clear HJ; have HJ := Lib.hid hj; clear hj
      have hc := HC.out.below ((Below.refl _ _).drew) HC.out.lt
      clear HC; have HC := Lib.hid hc; clear hc
      have hq := HQ.out.trans (Keeps.below ((Below.refl _ _).drew))
      clear HQ; have HQ := Lib.hid hq; clear hq
      have HS := Lib.hid (show (fun u => Cel u bc 69 [.func (.func k1) #[] #[.pointer (some ⟨c1, 0, none⟩)], .func (.func k2) #[] #[.pointer (some ⟨c2, 0, none⟩)], .func (.func k3) #[] #[.pointer (some ⟨c3, 0, none⟩)]]) _ from HC.out)
      refine Draws.take 0 (v := ?v26) HS.out rfl (by kernel_rfl) (fun _ _ _ h => h) (Or.inl ⟨rfl, ?h26⟩) ?r26
      case h26 => intro w' hw'; go_simp; (try with_reducible rfl)
      (try simp only [Act.put, List.setIfInBounds_toArray, List.set_cons_zero, List.set_cons_succ])
      refine Draws.take 1 HS.out rfl (by kernel_rfl) (fun _ _ _ h => h) (yield_w cwT (fun _ h => h.cell (k := 1) rfl) _ rfl rfl rfl) ?_
      (try simp only [Act.put, List.setIfInBounds_toArray, List.set_cons_zero, List.set_cons_succ])
      refine Draws.take 2 (v := ?v27) HS.out rfl (by kernel_rfl) (fun _ _ _ h => h) (Or.inl ⟨rfl, ?h27⟩) ?r27
      case h27 => intro w' hw'; go_simp; (try with_reducible rfl)
      (try simp only [Act.put, List.setIfInBounds_toArray, List.set_cons_zero, List.set_cons_succ])
      refine Draws.take 3 (v := ?v28) HS.out rfl (by kernel_rfl) (fun _ _ _ h => h) (Or.inl ⟨rfl, ?h28⟩) ?r28
      case h28 => intro w' hw'; go_simp; (try with_reducible rfl)
      (try simp only [Act.put, List.setIfInBounds_toArray, List.set_cons_zero, List.set_cons_succ])
      refine Draws.take 4 (v := ?v29) HS.out rfl (by kernel_rfl) (fun _ _ _ h => h) (Or.inl ⟨rfl, ?h29⟩) ?r29
      case h29 => intro w' hw'; go_simp; (try with_reducible rfl)
      (try simp only [Act.put, List.setIfInBounds_toArray, List.set_cons_zero, List.set_cons_succ])
      refine Draws.does 5 rfl (by kernel_rfl) rfl (fun K hK => ?_)
      go_simp
      rw [HH.out.ent2, Oper.upon_enter]
      refine (hT _ HJ.out).mono ?_
      rintro e u ⟨rfl, hj, hk⟩
      (try dsimp only)
      clear HJ; have HJ := Lib.hid hj
      have hc := hk.cel (.inl rfl) HC.out; clear HC; have HC := Lib.hid hc; clear hc
      have hq := HQ.out.trans hk; clear HQ; have HQ := Lib.hid hq; clear hq hk hj
      refine hK.out _ _ (fun _ => HC.out) ?_
      clear hK K
      (try simp only [Act.put, List.setIfInBounds_toArray, List.set_cons_zero, List.set_cons_succ])
      refine Draws.done (by kernel_rfl) ?_
      clear HS
      go_wp2_with (first
        | (with_reducible refine eql_want V3.out _ _ _ rfl rfl rfl rfl ?_)
        | (with_reducible refine eql_want K1.out _ _ _ rfl rfl rfl rfl ?_)
        | (with_reducible refine neq_want V1.out _ _ _ rfl rfl rfl rfl ?_)
        | (with_reducible refine load_there cbI _ rfl (hK1 _ HJ.out) rfl rfl ?_))
      refine Draws.start (S := fun u => Cel u bc 69 [.func (.func k1) #[] #[.pointer (some ⟨c1, 0, none⟩)], .func (.func k2) #[] #[.pointer (some ⟨c2, 0, none⟩)], .func (.func k3) #[] #[.pointer (some ⟨c3, 0, none⟩)]]) (n := 6) 6 rfl (by kernel_rfl) ?_
      have hj := HH.out.stay _ _ _ _ _ HJ.out ((Below.refl _ _).drew)
      clear HJ; have HJ := Lib.hid hj; clear hj
      have hc := HC.out.below ((Below.refl _ _).drew) HC.out.lt
      clear HC; have HC := Lib.hid hc; clear hc
      have hq := HQ.out.trans (Keeps.below ((Below.refl _ _).drew))
      clear HQ; have HQ := Lib.hid hq; clear hq
      have HS := Lib.hid (show (fun u => Cel u bc 69 [.func (.func k1) #[] #[.pointer (some ⟨c1, 0, none⟩)], .func (.func k2) #[] #[.pointer (some ⟨c2, 0, none⟩)], .func (.func k3) #[] #[.pointer (some ⟨c3, 0, none⟩)]]) _ from HC.out)
      refine Draws.take 0 (v := ?v30) HS.out rfl (by kernel_rfl) (fun _ _ _ h => h) (Or.inl ⟨rfl, ?h30⟩) ?r30
      case h30 => intro w' hw'; go_simp; (try with_reducible rfl)
      (try simp only [Act.put, List.setIfInBounds_toArray, List.set_cons_zero, List.set_cons_succ])
      refine Draws.take 1 HS.out rfl (by kernel_rfl) (fun _ _ _ h => h) (yield_w cwN (fun _ h => h.cell rfl) _ rfl rfl rfl) ?_
      (try simp only [Act.put, List.setIfInBounds_toArray, List.set_cons_zero, List.set_cons_succ])
      refine Draws.take 2 (v := ?v31) HS.out rfl (by kernel_rfl) (fun _ _ _ h => h) (Or.inl ⟨rfl, ?h31⟩) ?r31
      case h31 => intro w' hw'; go_simp; (try with_reducible rfl)
      (try simp only [Act.put, List.setIfInBounds_toArray, List.set_cons_zero, List.set_cons_succ])
      refine Draws.take 3 (v := ?v32) HS.out rfl (by kernel_rfl) (fun _ _ _ h => h) (Or.inl ⟨rfl, ?h32⟩) ?r32
      case h32 => intro w' hw'; go_simp; (try with_reducible rfl)
      (try simp only [Act.put, List.setIfInBounds_toArray, List.set_cons_zero, List.set_cons_succ])
      refine Draws.take 4 (v := ?v33) HS.out rfl (by kernel_rfl) (fun _ _ _ h => h) (Or.inl ⟨rfl, ?h33⟩) ?r33
      case h33 => intro w' hw'; go_simp; (try with_reducible rfl)
      (try simp only [Act.put, List.setIfInBounds_toArray, List.set_cons_zero, List.set_cons_succ])
      refine Draws.does 5 rfl (by kernel_rfl) rfl (fun K hK => ?_)
      go_simp
      rw [HH.out.ent, Oper.upon_enter]
      refine (hN2 _ HJ.out).mono ?_
      rintro e u ⟨rfl, hj, hk⟩
      (try dsimp only)
      clear HJ; have HJ := Lib.hid hj
      have hc := hk.cel (.inl rfl) HC.out; clear HC; have HC := Lib.hid hc; clear hc
      have hq := HQ.out.trans hk; clear HQ; have HQ := Lib.hid hq; clear hq hk hj
      refine hK.out _ _ (fun _ => HC.out) ?_
      clear hK K
      (try simp only [Act.put, List.setIfInBounds_toArray, List.set_cons_zero, List.set_cons_succ])
      refine Draws.done (by kernel_rfl) ?_
      clear HS
      go_wp2_with (first
        | (with_reducible refine eql_want V3.out _ _ _ rfl rfl rfl rfl ?_)
        | (with_reducible refine eql_want K1.out _ _ _ rfl rfl rfl rfl ?_)
        | (with_reducible refine neq_want V1.out _ _ _ rfl rfl rfl rfl ?_)
        | (with_reducible refine load_there cbI _ rfl (hK1 _ HJ.out) rfl rfl ?_))
      refine Draws.start (S := fun u => Cel u bc 69 [.func (.func k1) #[] #[.pointer (some ⟨c1, 0, none⟩)], .func (.func k2) #[] #[.pointer (some ⟨c2, 0, none⟩)], .func (.func k3) #[] #[.pointer (some ⟨c3, 0, none⟩)]]) (n := 5) 5 rfl (by kernel_rfl) ?_
      have hj := HH.out.stay _ _ _ _ _ HJ.out ((Below.refl _ _).drew)
      clear HJ; have HJ := Lib.hid hj; clear hj
      have hc := HC.out.below ((Below.refl _ _).drew) HC.out.lt
      clear HC; have HC := Lib.hid hc; clear hc
      have hq := HQ.out.trans (Keeps.below ((Below.refl _ _).drew))
      clear HQ; have HQ := Lib.hid hq; clear hq
      have HS := Lib.hid (show (fun u => Cel u bc 69 [.func (.func k1) #[] #[.pointer (some ⟨c1, 0, none⟩)], .func (.func k2) #[] #[.pointer (some ⟨c2, 0, none⟩)], .func (.func k3) #[] #[.pointer (some ⟨c3, 0, none⟩)]]) _ from HC.out)
      refine Draws.take 0 HS.out rfl (by kernel_rfl) (fun _ _ _ h => h) (yield_by (fun _ h => h) _ rfl rfl rfl) ?_
      (try simp only [Act.put, List.setIfInBounds_toArray, List.set_cons_zero, List.set_cons_succ])
      refine Draws.take 1 (v := ?v16) HS.out rfl (by kernel_rfl) (fun _ _ _ h => h) (Or.inl ⟨rfl, ?h16⟩) ?r16
      case h16 => intro w' hw'; go_simp; (try with_reducible rfl)
      (try simp only [Act.put, List.setIfInBounds_toArray, List.set_cons_zero, List.set_cons_succ])
      refine Draws.take 2 (v := ?v17) HS.out rfl (by kernel_rfl) (fun _ _ _ h => h) (Or.inl ⟨rfl, ?h17⟩) ?r17
      case h17 => intro w' hw'; go_simp; (try with_reducible rfl)
      (try simp only [Act.put, List.setIfInBounds_toArray, List.set_cons_zero, List.set_cons_succ])
      refine Draws.take 3 (v := ?v18) HS.out rfl (by kernel_rfl) (fun _ _ _ h => h) (Or.inl ⟨rfl, ?h18⟩) ?r18
      case h18 => intro w' hw'; go_simp; (try with_reducible rfl)
      (try simp only [Act.put, List.setIfInBounds_toArray, List.set_cons_zero, List.set_cons_succ])
      refine Draws.does 4 rfl (by kernel_rfl) rfl (fun K hK => ?_)
      go_simp
      go_at_call 67
      refine (counter_car (HH.out.toX (Mm.mk t.2 [] m.A m.n m.c m.R)) 399 p3.1 p3.2 2 3 _ HJ.out (by rw [hL3 _ HJ.out]; decide) rfl).mono ?_
      rintro e u ⟨rfl, hj, hk⟩
      (try dsimp only)
      clear HJ; have HJ := Lib.hid hj
      have hc := hk.cel (.inl rfl) HC.out; clear HC; have HC := Lib.hid hc; clear hc
      have hq := HQ.out.trans hk; clear HQ; have HQ := Lib.hid hq; clear hq hk hj
      refine hK.out _ _ (fun _ => HC.out) ?_
      clear hK K
      (try simp only [Act.put, List.setIfInBounds_toArray, List.set_cons_zero, List.set_cons_succ])
      refine Draws.done (by kernel_rfl) ?_
      clear HS
      go_wp2_with (first
        | (with_reducible refine neq_want V1.out _ _ _ rfl rfl rfl rfl ?_))
      refine Draws.start (S := fun u => Cel u bc 69 [.func (.func k1) #[] #[.pointer (some ⟨c1, 0, none⟩)], .func (.func k2) #[] #[.pointer (some ⟨c2, 0, none⟩)], .func (.func k3) #[] #[.pointer (some ⟨c3, 0, none⟩)]]) (n := 5) 5 rfl (by kernel_rfl) ?_
      have hj := HH.out.stay _ _ _ _ _ HJ.out ((Below.refl _ _).drew)
      clear HJ; have HJ := Lib.hid hj; clear hj
      have hc := HC.out.below ((Below.refl _ _).drew) HC.out.lt
      clear HC; have HC := Lib.hid hc; clear hc
      have hq := HQ.out.trans (Keeps.below ((Below.refl _ _).drew))
      clear HQ; have HQ := Lib.hid hq; clear hq
      have HS := Lib.hid (show (fun u => Cel u bc 69 [.func (.func k1) #[] #[.pointer (some ⟨c1, 0, none⟩)], .func (.func k2) #[] #[.pointer (some ⟨c2, 0, none⟩)], .func (.func k3) #[] #[.pointer (some ⟨c3, 0, none⟩)]]) _ from HC.out)
      refine Draws.take 0 HS.out rfl (by kernel_rfl) (fun _ _ _ h => h) (yield_by (fun _ h => h) _ rfl rfl rfl) ?_
      (try simp only [Act.put, List.setIfInBounds_toArray, List.set_cons_zero, List.set_cons_succ])
      refine Draws.take 1 (v := ?v19) HS.out rfl (by kernel_rfl) (fun _ _ _ h => h) (Or.inl ⟨rfl, ?h19⟩) ?r19
      case h19 => intro w' hw'; go_simp; (try with_reducible rfl)
      (try simp only [Act.put, List.setIfInBounds_toArray, List.set_cons_zero, List.set_cons_succ])
      refine Draws.take 2 (v := ?v20) HS.out rfl (by kernel_rfl) (fun _ _ _ h => h) (Or.inl ⟨rfl, ?h20⟩) ?r20
      case h20 => intro w' hw'; go_simp; (try with_reducible rfl)
      (try simp only [Act.put, List.setIfInBounds_toArray, List.set_cons_zero, List.set_cons_succ])
      refine Draws.take 3 (v := ?v21) HS.out rfl (by kernel_rfl) (fun _ _ _ h => h) (Or.inl ⟨rfl, ?h21⟩) ?r21
      case h21 => intro w' hw'; go_simp; (try with_reducible rfl)
      (try simp only [Act.put, List.setIfInBounds_toArray, List.set_cons_zero, List.set_cons_succ])
      refine Draws.does 4 rfl (by kernel_rfl) rfl (fun K hK => ?_)
      go_simp
      go_at_call 68
      refine (hho _ HJ.out).mono ?_
      rintro e u ⟨rfl, ⟨A9, d9, hj⟩, hk⟩
      (try dsimp only)
      clear HJ; have HJ := Lib.hid hj
      have hc := hk.cel (.inl rfl) HC.out; clear HC; have HC := Lib.hid hc; clear hc
      have hq := HQ.out.trans hk; clear HQ; have HQ := Lib.hid hq; clear hq hk hj
      refine hK.out _ _ (fun _ => HC.out) ?_
      clear hK K
      (try simp only [Act.put, List.setIfInBounds_toArray, List.set_cons_zero, List.set_cons_succ])
      refine Draws.done (by kernel_rfl) ?_
      clear HS
      go_wp2_with fail
      go_end0
      exact ⟨rfl, _, _, HH.out.less _ 0 _ _ _ HJ.out (Nat.zero_le _)⟩
    · by_cases hk2 : K = 2
      · have hx0 := True.intro
        have K1 := Lib.hid (show (K == 1) = false by simp [hk1])
        have K2 := Lib.hid (show (K == 2) = true by simp [hk2])
        rw [if_neg hk1, if_pos hk2] at hfe
        subst hfe
        (try simp only)
        clear hk1 hk2 hv1
        go_enter Tryz.func28, Tryz.ntmps28
        go_wp2_with (first
          | (with_reducible refine box_by rfl _ rfl rfl ?_; intro bc u hb hc; have hj := HH.out.stay _ _ _ _ _ HJ.out hb; clear HJ; have HJ := Lib.hid hj; have HQ := Lib.hid (Keeps.below hb); have HC := Lib.hid hc; clear hj hb hc))
        refine Draws.start (S := fun u => Cel u bc 69 [.func (.func k1) #[] #[.pointer (some ⟨c1, 0, none⟩)], .func (.func k2) #[] #[.pointer (some ⟨c2, 0, none⟩)], .func (.func k3) #[] #[.pointer (some ⟨c3, 0, none⟩)]]) (n := 6) 6 rfl (by kernel_rfl) ?_
        have hj := HH.out.stay _ _ _ _ _ HJ.out ((Below.refl _ _).drew)
        clear HJ; have HJ := Lib.hid hj; clear hj
        have hc := HC.out.below ((Below.refl _ _).drew) HC.out.lt
        clear HC; have HC := Lib.hid hc; clear hc
        have hq := HQ.out.trans (Keeps.below ((Below.refl _ _).drew))
        clear HQ; have HQ := Lib.hid hq; clear hq
        have HS := Lib.hid (show (fun u => Cel u bc 69 [.func (.func k1) #[] #[.pointer (some ⟨c1, 0, none⟩)], .func (.func k2) #[] #[.pointer (some ⟨c2, 0, none⟩)], .func (.func k3) #[] #[.pointer (some ⟨c3, 0, none⟩)]]) _ from HC.out)
        refine Draws.take 0 (v := ?v37) HS.out rfl (by kernel_rfl) (fun _ _ _ h => h) (Or.inl ⟨rfl, ?h37⟩) ?r37
        case h37 => intro w' hw'; go_simp; (try with_reducible rfl)
        (try simp only [Act.put, List.setIfInBounds_toArray, List.set_cons_zero, List.set_cons_succ])
        refine Draws.take 1 HS.out rfl (by kernel_rfl) (fun _ _ _ h => h) (yield_w cwN (fun _ h => h.cell rfl) _ rfl rfl rfl) ?_
        (try simp only [Act.put, List.setIfInBounds_toArray, List.set_cons_zero, List.set_cons_succ])
        refine Draws.take 2 (v := ?v38) HS.out rfl (by kernel_rfl) (fun _ _ _ h => h) (Or.inl ⟨rfl, ?h38⟩) ?r38
        case h38 => intro w' hw'; go_simp; (try with_reducible rfl)
        (try simp only [Act.put, List.setIfInBounds_toArray, List.set_cons_zero, List.set_cons_succ])
        refine Draws.take 3 (v := ?v39) HS.out rfl (by kernel_rfl) (fun _ _ _ h => h) (Or.inl ⟨rfl, ?h39⟩) ?r39
        case h39 => intro w' hw'; go_simp; (try with_reducible rfl)
        (try simp only [Act.put, List.setIfInBounds_toArray, List.set_cons_zero, List.set_cons_succ])
        refine Draws.take 4 (v := ?v40) HS.out rfl (by kernel_rfl) (fun _ _ _ h => h) (Or.inl ⟨rfl, ?h40⟩) ?r40
        case h40 => intro w' hw'; go_simp; (try with_reducible rfl)
        (try simp only [Act.put, List.setIfInBounds_toArray, List.set_cons_zero, List.set_cons_succ])
        refine Draws.does 5 rfl (by kernel_rfl) rfl (fun K hK => ?_)
        go_simp
        rw [HH.out.ent, Oper.upon_enter]
        refine (hN1 _ HJ.out).mono ?_
        rintro e u ⟨rfl, hj, hk⟩
        (try dsimp only)
        clear HJ; have HJ := Lib.hid hj
        have hc := hk.cel (.inl rfl) HC.out; clear HC; have HC := Lib.hid hc; clear hc
        have hq := HQ.out.trans hk; clear HQ; have HQ := Lib.hid hq; clear hq hk hj
        refine hK.out _ _ (fun _ => HC.out) ?_
        clear hK K
        (try simp only [Act.put, List.setIfInBounds_toArray, List.set_cons_zero, List.set_cons_succ])
        refine Draws.done (by kernel_rfl) ?_
        clear HS
        go_wp2_with fail
        refine Draws.start (S := fun u => Cel u bc 69 [.func (.func k1) #[] #[.pointer (some ⟨c1, 0, none⟩)], .func (.func k2) #[] #[.pointer (some ⟨c2, 0, none⟩)], .func (.func k3) #[] #[.pointer (some ⟨c3, 0, none⟩)]]) (n := 6) 6 rfl (by kernel_rfl) ?_
        have hj := HH.out.stay _ _ _ _ _ HJ.out ((Below.refl _ _).drew)
        clear HJ; have HJ := Lib.hid hj; clear hj
        have hc := HC.out.below ((Below.refl _ _).drew) HC.out.lt
        clear HC; have HC := Lib.hid hc; clear hc
        have hq := HQ.out.trans (Keeps.below ((Below.refl _ _).drew))
        clear HQ; have HQ := Lib.hid hq; clear hq
        have HS := Lib.hid (show (fun u => Cel u bc 69 [.func (.func k1) #[] #[.pointer (some ⟨c1, 0, none⟩)], .func (.func k2) #[] #[.pointer (some ⟨c2, 0, none⟩)], .func (.func k3) #[] #[.pointer (some ⟨c3, 0, none⟩)]]) _ from HC.out)
        refine Draws.take 0 (v := ?v41) HS.out rfl (by kernel_rfl) (fun _ _ _ h => h) (Or.inl ⟨rfl, ?h41⟩) ?r41
        case h41 => intro w' hw'; go_simp; (try with_reducible rfl)
        (try simp only [Act.put, List.setIfInBounds_toArray, List.set_cons_zero, List.set_cons_succ])
        refine Draws.take 1 HS.out rfl (by kernel_rfl) (fun _ _ _ h => h) (yield_w cwT (fun _ h => h.cell (k := 1) rfl) _ rfl rfl rfl) ?_
        (try simp only [Act.put, List.setIfInBounds_toArray, List.set_cons_zero, List.set_cons_succ])
        refine Draws.take 2 (v := ?v42) HS.out rfl (by kernel_rfl) (fun _ _ _ h => h) (Or.inl ⟨rfl, ?h42⟩) ?r42
        case h42 => intro w' hw'; go_simp; (try with_reducible rfl)
        (try simp only [Act.put, List.setIfInBounds_toArray, List.set_cons_zero, List.set_cons_succ])
        refine Draws.take 3 (v := ?v43) HS.out rfl (by kernel_rfl) (fun _ _ _ h => h) (Or.inl ⟨rfl, ?h43⟩) ?r43
        case h43 => intro w' hw'; go_simp; (try with_reducible rfl)
        (try simp only [Act.put, List.setIfInBounds_toArray, List.set_cons_zero, List.set_cons_succ])
        refine Draws.take 4 (v := ?v44) HS.out rfl (by kernel_rfl) (fun _ _ _ h => h) (Or.inl ⟨rfl, ?h44⟩) ?r44
        case h44 => intro w' hw'; go_simp; (try with_reducible rfl)
        (try simp only [Act.put, List.setIfInBounds_toArray, List.set_cons_zero, List.set_cons_succ])
        refine Draws.does 5 rfl (by kernel_rfl) rfl (fun K hK => ?_)
        go_simp
        rw [HH.out.ent2, Oper.upon_enter]
        refine (hT _ HJ.out).mono ?_
        rintro e u ⟨rfl, hj, hk⟩
        (try dsimp only)
        clear HJ; have HJ := Lib.hid hj
        have hc := hk.cel (.inl rfl) HC.out; clear HC; have HC := Lib.hid hc; clear hc
        have hq := HQ.out.trans hk; clear HQ; have HQ := Lib.hid hq; clear hq hk hj
        refine hK.out _ _ (fun _ => HC.out) ?_
        clear hK K
        (try simp only [Act.put, List.setIfInBounds_toArray, List.set_cons_zero, List.set_cons_succ])
        refine Draws.done (by kernel_rfl) ?_
        clear HS
        go_wp2_with (first
          | (with_reducible refine eql_want V3.out _ _ _ rfl rfl rfl rfl ?_)
          | (with_reducible refine eql_want K1.out _ _ _ rfl rfl rfl rfl ?_)
          | (with_reducible refine eql_want K2.out _ _ _ rfl rfl rfl rfl ?_)
          | (with_reducible refine load_there cbI _ rfl (hK1 _ HJ.out) rfl rfl ?_))
        refine Draws.start (S := fun u => Cel u bc 69 [.func (.func k1) #[] #[.pointer (some ⟨c1, 0, none⟩)], .func (.func k2) #[] #[.pointer (some ⟨c2, 0, none⟩)], .func (.func k3) #[] #[.pointer (some ⟨c3, 0, none⟩)]]) (n := 6) 6 rfl (by kernel_rfl) ?_
        have hj := HH.out.stay _ _ _ _ _ HJ.out ((Below.refl _ _).drew)
        clear HJ; have HJ := Lib.hid hj; clear hj
        have hc := HC.out.below ((Below.refl _ _).drew) HC.out.lt
        clear HC; have HC := Lib.hid hc; clear hc
        have hq := HQ.out.trans (Keeps.below ((Below.refl _ _).drew))
        clear HQ; have HQ := Lib.hid hq; clear hq
        have HS := Lib.hid (show (fun u => Cel u bc 69 [.func (.func k1) #[] #[.pointer (some ⟨c1, 0, none⟩)], .func (.func k2) #[] #[.pointer (some ⟨c2, 0, none⟩)], .func (.func k3) #[] #[.pointer (some ⟨c3, 0, none⟩)]]) _ from HC.out)
        refine Draws.take 0 (v := ?v45) HS.out rfl (by kernel_rfl) (fun _ _ _ h => h) (Or.inl ⟨rfl, ?h45⟩) ?r45
        case h45 => intro w' hw'; go_simp; (try with_reducible rfl)
        (try simp only [Act.put, List.setIfInBounds_toArray, List.set_cons_zero, List.set_cons_succ])
        refine Draws.take 1 HS.out rfl (by kernel_rfl) (fun _ _ _ h => h) (yield_w cwN (fun _ h => h.cell rfl) _ rfl rfl rfl) ?_
        (try simp only [Act.put, List.setIfInBounds_toArray, List.set_cons_zero, List.set_cons_succ])
        refine Draws.take 2 (v := ?v46) HS.out rfl (by kernel_rfl) (fun _ _ _ h => h) (Or.inl ⟨rfl, ?h46⟩) ?r46
        case h46 => intro w' hw'; go_simp; (try with_reducible rfl)
        (try simp only [Act.put, List.setIfInBounds_toArray, List.set_cons_zero, List.set_cons_succ])
        refine Draws.take 3 (v := ?v47) HS.out rfl (by kernel_rfl) (fun _ _ _ h => h) (Or.inl ⟨rfl, ?h47⟩) ?r47
        case h47 => intro w' hw'; go_simp; (try with_reducible rfl)
        (try simp only [Act.put, List.setIfInBounds_toArray, List.set_cons_zero, List.set_cons_succ])
        refine Draws.take 4 (v := ?v48) HS.out rfl (by kernel_rfl) (fun _ _ _ h => h) (Or.inl ⟨rfl, ?h48⟩) ?r48
        case h48 => intro w' hw'; go_simp; (try with_reducible rfl)
        (try simp only [Act.put, List.setIfInBounds_toArray, List.set_cons_zero, List.set_cons_succ])
        refine Draws.does 5 rfl (by kernel_rfl) rfl (fun K hK => ?_)
        go_simp
        rw [HH.out.ent, Oper.upon_enter]
        refine (hN2 _ HJ.out).mono ?_
        rintro e u ⟨rfl, hj, hk⟩
        (try dsimp only)
        clear HJ; have HJ := Lib.hid hj
        have hc := hk.cel (.inl rfl) HC.out; clear HC; have HC := Lib.hid hc; clear hc
        have hq := HQ.out.trans hk; clear HQ; have HQ := Lib.hid hq; clear hq hk hj
        refine hK.out _ _ (fun _ => HC.out) ?_
        clear hK K
        (try simp only [Act.put, List.setIfInBounds_toArray, List.set_cons_zero, List.set_cons_succ])
        refine Draws.done (by kernel_rfl) ?_
        clear HS
        go_wp2_with (first
          | (with_reducible refine eql_want V3.out _ _ _ rfl rfl rfl rfl ?_)
          | (with_reducible refine eql_want K1.out _ _ _ rfl rfl rfl rfl ?_)
          | (with_reducible refine eql_want K2.out _ _ _ rfl rfl rfl rfl ?_)
          | (with_reducible refine load_there cbI _ rfl (hK1 _ HJ.out) rfl rfl ?_))
        refine Draws.start (S := fun u => Cel u bc 69 [.func (.func k1) #[] #[.pointer (some ⟨c1, 0, none⟩)], .func (.func k2) #[] #[.pointer (some ⟨c2, 0, none⟩)], .func (.func k3) #[] #[.pointer (some ⟨c3, 0, none⟩)]]) (n := 5) 5 rfl (by kernel_rfl) ?_
        have hj := HH.out.stay _ _ _ _ _ HJ.out ((Below.refl _ _).drew)
        clear HJ; have HJ := Lib.hid hj; clear hj
        have hc := HC.out.below ((Below.refl _ _).drew) HC.out.lt
        clear HC; have HC := Lib.hid hc; clear hc
        have hq := HQ.out.trans (Keeps.below ((Below.refl _ _).drew))
        clear HQ; have HQ := Lib.hid hq; clear hq
        have HS := Lib.hid (show (fun u => Cel u bc 69 [.func (.func k1) #[] #[.pointer (some ⟨c1, 0, none⟩)], .func (.func k2) #[] #[.pointer (some ⟨c2, 0, none⟩)], .func (.func k3) #[] #[.pointer (some ⟨c3, 0, none⟩)]]) _ from HC.out)
        refine Draws.take 0 HS.out rfl (by kernel_rfl) (fun _ _ _ h => h) (yield_by (fun _ h => h) _ rfl rfl rfl) ?_
        (try simp only [Act.put, List.setIfInBounds_toArray, List.set_cons_zero, List.set_cons_succ])
        refine Draws.take 1 (v := ?v34) HS.out rfl (by kernel_rfl) (fun _ _ _ h => h) (Or.inl ⟨rfl, ?h34⟩) ?r34
        case h34 => intro w' hw'; go_simp; (try with_reducible rfl)
        (try simp only [Act.put, List.setIfInBounds_toArray, List.set_cons_zero, List.set_cons_succ])
        refine Draws.take 2 (v := ?v35) HS.out rfl (by kernel_rfl) (fun _ _ _ h => h) (Or.inl ⟨rfl, ?h35⟩) ?r35
        case h35 => intro w' hw'; go_simp; (try with_reducible rfl)
        (try simp only [Act.put, List.setIfInBounds_toArray, List.set_cons_zero, List.set_cons_succ])
        refine Draws.take 3 (v := ?v36) HS.out rfl (by kernel_rfl) (fun _ _ _ h => h) (Or.inl ⟨rfl, ?h36⟩) ?r36
        case h36 => intro w' hw'; go_simp; (try with_reducible rfl)
        (try simp only [Act.put, List.setIfInBounds_toArray, List.set_cons_zero, List.set_cons_succ])
        refine Draws.does 4 rfl (by kernel_rfl) rfl (fun K hK => ?_)
        go_simp
        go_at_call 69
        refine (lock_car (HH.out.toX (Mm.mk t.2 [] m.A m.n m.c m.R)) 974 p3.1 p3.2 581 582 _ HJ.out (by rw [hL3 _ HJ.out]; decide) rfl).mono ?_
        rintro e u ⟨rfl, hj, hk⟩
        (try dsimp only)
        clear HJ; have HJ := Lib.hid hj
        have hc := hk.cel (.inl rfl) HC.out; clear HC; have HC := Lib.hid hc; clear hc
        have hq := HQ.out.trans hk; clear HQ; have HQ := Lib.hid hq; clear hq hk hj
        refine hK.out _ _ (fun _ => HC.out) ?_
        clear hK K
        (try simp only [Act.put, List.setIfInBounds_toArray, List.set_cons_zero, List.set_cons_succ])
        refine Draws.done (by kernel_rfl) ?_
        clear HS
        go_wp2_with fail
        go_end0
        exact ⟨rfl, _, _, HH.out.less _ 0 _ _ _ HJ.out (Nat.zero_le _)⟩
      · have hx := True.intro
        have K1 := Lib.hid (show (K == 1) = false by simp [hk1])
        have K2 := Lib.hid (show (K == 2) = false by simp [hk2])
        rw [if_neg hk1, if_neg hk2] at hfe
        subst hfe
        (try simp only)
        clear hk1 hk2 hv1
        go_enter Tryz.func28, Tryz.ntmps28
        go_wp2_with (first
          | (with_reducible refine box_by rfl _ rfl rfl ?_; intro bc u hb hc; have hj := HH.out.stay _ _ _ _ _ HJ.out hb; clear HJ; have HJ := Lib.hid hj; have HQ := Lib.hid (Keeps.below hb); have HC := Lib.hid hc; clear hj hb hc))
        refine Draws.start (S := fun u => Cel u bc 69 [.func (.func k1) #[] #[.pointer (some ⟨c1, 0, none⟩)], .func (.func k2) #[] #[.pointer (some ⟨c2, 0, none⟩)], .func (.func k3) #[] #[.pointer (some ⟨c3, 0, none⟩)]]) (n := 6) 6 rfl (by kernel_rfl) ?_
        have hj := HH.out.stay _ _ _ _ _ HJ.out ((Below.refl _ _).drew)
        clear HJ; have HJ := Lib.hid hj; clear hj
        have hc := HC.out.below ((Below.refl _ _).drew) HC.out.lt
        clear HC; have HC := Lib.hid hc; clear hc
        have hq := HQ.out.trans (Keeps.below ((Below.refl _ _).drew))
        clear HQ; have HQ := Lib.hid hq; clear hq
        have HS := Lib.hid (show (fun u => Cel u bc 69 [.func (.func k1) #[] #[.pointer (some ⟨c1, 0, none⟩)], .func (.func k2) #[] #[.pointer (some ⟨c2, 0, none⟩)], .func (.func k3) #[] #[.pointer (some ⟨c3, 0, none⟩)]]) _ from HC.out)
        refine Draws.take 0 (v := ?v49) HS.out rfl (by kernel_rfl) (fun _ _ _ h => h) (Or.inl ⟨rfl, ?h49⟩) ?r49
        case h49 => intro w' hw'; go_simp; (try with_reducible rfl)
        (try simp only [Act.put, List.setIfInBounds_toArray, List.set_cons_zero, List.set_cons_succ])
        refine Draws.take 1 HS.out rfl (by kernel_rfl) (fun _ _ _ h => h) (yield_w cwN (fun _ h => h.cell rfl) _ rfl rfl rfl) ?_
        (try simp only [Act.put, List.setIfInBounds_toArray, List.set_cons_zero, List.set_cons_succ])
        refine Draws.take 2 (v := ?v50) HS.out rfl (by kernel_rfl) (fun _ _ _ h => h) (Or.inl ⟨rfl, ?h50⟩) ?r50
        case h50 => intro w' hw'; go_simp; (try with_reducible rfl)
        (try simp only [Act.put, List.setIfInBounds_toArray, List.set_cons_zero, List.set_cons_succ])
        refine Draws.take 3 (v := ?v51) HS.out rfl (by kernel_rfl) (fun _ _ _ h => h) (Or.inl ⟨rfl, ?h51⟩) ?r51
        case h51 => intro w' hw'; go_simp; (try with_reducible rfl)
        (try simp only [Act.put, List.setIfInBounds_toArray, List.set_cons_zero, List.set_cons_succ])
        refine Draws.take 4 (v := ?v52) HS.out rfl (by kernel_rfl) (fun _ _ _ h => h) (Or.inl ⟨rfl, ?h52⟩) ?r52
        case h52 => intro w' hw'; go_simp; (try with_reducible rfl)
        (try simp only [Act.put, List.setIfInBounds_toArray, List.set_cons_zero, List.set_cons_succ])
        refine Draws.does 5 rfl (by kernel_rfl) rfl (fun K hK => ?_)
        go_simp
        rw [HH.out.ent, Oper.upon_enter]
        refine (hN1 _ HJ.out).mono ?_
        rintro e u ⟨rfl, hj, hk⟩
        (try dsimp only)
        clear HJ; have HJ := Lib.hid hj
        have hc := hk.cel (.inl rfl) HC.out; clear HC; have HC := Lib.hid hc; clear hc
        have hq := HQ.out.trans hk; clear HQ; have HQ := Lib.hid hq; clear hq hk hj
        refine hK.out _ _ (fun _ => HC.out) ?_
        clear hK K
        (try simp only [Act.put, List.setIfInBounds_toArray, List.set_cons_zero, List.set_cons_succ])
        refine Draws.done (by kernel_rfl) ?_
        clear HS
        go_wp2_with fail
        refine Draws.start (S := fun u => Cel u bc 69 [.func (.func k1) #[] #[.pointer (some ⟨c1, 0, none⟩)], .func (.func k2) #[] #[.pointer (some ⟨c2, 0, none⟩)], .func (.func k3) #[] #[.pointer (some ⟨c3, 0, none⟩)]]) (n := 6) 6 rfl (by kernel_rfl) ?_
        have hj := HH.out.stay _ _ _ _ _ HJ.out ((Below.refl _ _).drew)
        clear HJ; have HJ := Lib.hid hj; clear hj
        have hc := HC.out.below ((Below.refl _ _).drew) HC.out.lt
        clear HC; have HC := Lib.hid hc; clear hc
        have hq := HQ.out.trans (Keeps.below ((Below.refl _ _).drew))
        clear HQ; have HQ := Lib.hid hq; clear hq
        have HS := Lib.hid (show (fun u => Cel u bc 69 [.func (.func k1) #[] #[.pointer (some ⟨c1, 0, none⟩)], .func (.func k2) #[] #[.pointer (some ⟨c2, 0, none⟩)], .func (.func k3) #[] #[.pointer (some ⟨c3, 0, none⟩)]]) _ from HC.out)
        refine Draws.take 0 (v := ?v53) HS.out rfl (by kernel_rfl) (fun _ _ _ h => h) (Or.inl ⟨rfl, ?h53⟩) ?r53
        case h53 => intro w' hw'; go_simp; (try with_reducible rfl)
        (try simp only [Act.put, List.setIfInBounds_toArray, List.set_cons_zero, List.set_cons_succ])
        refine Draws.take 1 HS.out rfl (by kernel_rfl) (fun _ _ _ h => h) (yield_w cwT (fun _ h => h.cell (k := 1) rfl) _ rfl rfl rfl) ?_
        (try simp only [Act.put, List.setIfInBounds_toArray, List.set_cons_zero, List.set_cons_succ])
        refine Draws.take 2 (v := ?v54) HS.out rfl (by kernel_rfl) (fun _ _ _ h => h) (Or.inl ⟨rfl, ?h54⟩) ?r54
        case h54 => intro w' hw'; go_simp; (try with_reducible rfl)
        (try simp only [Act.put, List.setIfInBounds_toArray, List.set_cons_zero, List.set_cons_succ])
        refine Draws.take 3 (v := ?v55) HS.out rfl (by kernel_rfl) (fun _ _ _ h => h) (Or.inl ⟨rfl, ?h55⟩) ?r55
        case h55 => intro w' hw'; go_simp; (try with_reducible rfl)
        (try simp only [Act.put, List.setIfInBounds_toArray, List.set_cons_zero, List.set_cons_succ])
        refine Draws.take 4 (v := ?v56) HS.out rfl (by kernel_rfl) (fun _ _ _ h => h) (Or.inl ⟨rfl, ?h56⟩) ?r56
        case h56 => intro w' hw'; go_simp; (try with_reducible rfl)
        (try simp only [Act.put, List.setIfInBounds_toArray, List.set_cons_zero, List.set_cons_succ])
        refine Draws.does 5 rfl (by kernel_rfl) rfl (fun K hK => ?_)
        go_simp
        rw [HH.out.ent2, Oper.upon_enter]
        refine (hT _ HJ.out).mono ?_
        rintro e u ⟨rfl, hj, hk⟩
        (try dsimp only)
        clear HJ; have HJ := Lib.hid hj
        have hc := hk.cel (.inl rfl) HC.out; clear HC; have HC := Lib.hid hc; clear hc
        have hq := HQ.out.trans hk; clear HQ; have HQ := Lib.hid hq; clear hq hk hj
        refine hK.out _ _ (fun _ => HC.out) ?_
        clear hK K
        (try simp only [Act.put, List.setIfInBounds_toArray, List.set_cons_zero, List.set_cons_succ])
        refine Draws.done (by kernel_rfl) ?_
        clear HS
        go_wp2_with (first
          | (with_reducible refine eql_want V3.out _ _ _ rfl rfl rfl rfl ?_)
          | (with_reducible refine eql_want K1.out _ _ _ rfl rfl rfl rfl ?_)
          | (with_reducible refine eql_want K2.out _ _ _ rfl rfl rfl rfl ?_)
          | (with_reducible refine load_there cbI _ rfl (hK1 _ HJ.out) rfl rfl ?_))
        refine Draws.start (S := fun u => Cel u bc 69 [.func (.func k1) #[] #[.pointer (some ⟨c1, 0, none⟩)], .func (.func k2) #[] #[.pointer (some ⟨c2, 0, none⟩)], .func (.func k3) #[] #[.pointer (some ⟨c3, 0, none⟩)]]) (n := 6) 6 rfl (by kernel_rfl) ?_
        have hj := HH.out.stay _ _ _ _ _ HJ.out ((Below.refl _ _).drew)
        clear HJ; have HJ := Lib.hid hj; clear hj
        have hc := HC.out.below ((Below.refl _ _).drew) HC.out.lt
        clear HC; have HC := Lib.hid hc; clear hc
        have hq := HQ.out.trans (Keeps.below ((Below.refl _ _).drew))
        clear HQ; have HQ := Lib.hid hq; clear hq
        have HS := Lib.hid (show (fun u => Cel u bc 69 [.func (.func k1) #[] #[.pointer (some ⟨c1, 0, none⟩)], .func (.func k2) #[] #[.pointer (some ⟨c2, 0, none⟩)], .func (.func k3) #[] #[.pointer (some ⟨c3, 0, none⟩)]]) _ from HC.out)
        refine Draws.take 0 (v := ?v57) HS.out rfl (by kernel_rfl) (fun _ _ _ h => h) (Or.inl ⟨rfl, ?h57⟩) ?r57
        case h57 => intro w' hw'; go_simp; (try with_reducible rfl)
        (try simp only [Act.put, List.setIfInBounds_toArray, List.set_cons_zero, List.set_cons_succ])
        refine Draws.take 1 HS.out rfl (by kernel_rfl) (fun _ _ _ h => h) (yield_w cwN (fun _ h => h.cell rfl) _ rfl rfl rfl) ?_
        (try simp only [Act.put, List.setIfInBounds_toArray, List.set_cons_zero, List.set_cons_succ])
        refine Draws.take 2 (v := ?v58) HS.out rfl (by kernel_rfl) (fun _ _ _ h => h) (Or.inl ⟨rfl, ?h58⟩) ?r58
        case h58 => intro w' hw'; go_simp; (try with_reducible rfl)
        (try simp only [Act.put, List.setIfInBounds_toArray, List.set_cons_zero, List.set_cons_succ])
        refine Draws.take 3 (v := ?v59) HS.out rfl (by kernel_rfl) (fun _ _ _ h => h) (Or.inl ⟨rfl, ?h59⟩) ?r59
        case h59 => intro w' hw'; go_simp; (try with_reducible rfl)
        (try simp only [Act.put, List.setIfInBounds_toArray, List.set_cons_zero, List.set_cons_succ])
        refine Draws.take 4 (v := ?v60) HS.out rfl (by kernel_rfl) (fun _ _ _ h => h) (Or.inl ⟨rfl, ?h60⟩) ?r60
        case h60 => intro w' hw'; go_simp; (try with_reducible rfl)
        (try simp only [Act.put, List.setIfInBounds_toArray, List.set_cons_zero, List.set_cons_succ])
        refine Draws.does 5 rfl (by kernel_rfl) rfl (fun K hK => ?_)
        go_simp
        rw [HH.out.ent, Oper.upon_enter]
        refine (hN2 _ HJ.out).mono ?_
        rintro e u ⟨rfl, hj, hk⟩
        (try dsimp only)
        clear HJ; have HJ := Lib.hid hj
        have hc := hk.cel (.inl rfl) HC.out; clear HC; have HC := Lib.hid hc; clear hc
        have hq := HQ.out.trans hk; clear HQ; have HQ := Lib.hid hq; clear hq hk hj
        refine hK.out _ _ (fun _ => HC.out) ?_
        clear hK K
        (try simp only [Act.put, List.setIfInBounds_toArray, List.set_cons_zero, List.set_cons_succ])
        refine Draws.done (by kernel_rfl) ?_
        clear HS
        go_wp2_with (first
          | (with_reducible refine eql_want V3.out _ _ _ rfl rfl rfl rfl ?_)
          | (with_reducible refine eql_want K1.out _ _ _ rfl rfl rfl rfl ?_)
          | (with_reducible refine eql_want K2.out _ _ _ rfl rfl rfl rfl ?_)
          | (with_reducible refine load_there cbI _ rfl (hK1 _ HJ.out) rfl rfl ?_))
        go_end0
        exact ⟨rfl, _, _, HH.out.less _ 0 _ _ _ HJ.out (Nat.zero_le _)⟩
  · rw [if_neg hv3] at hfe
    have V3 := Lib.hid (show (v == 3) = false by simp [hv3])
    have hT' : ∀ w, J 999 p1.1 (Mm.mk m.nm p1.2 m.A m.n m.c m.R) w → Calls Tryz.prog k2 #[.pointer (some ⟨bf, 0, none⟩), .pointer (some ⟨c2, 0, none⟩)] w fun e w' => e = .returned (.tuple #[]) ∧ J 979 (t.1, p1.2).1 (Mm.mk t.2 (t.1, p1.2).2 m.A m.n m.c m.R) w' ∧ Keeps w w' := hT
    clear hT; have hT := hT'; clear hT'
    generalize (t.1, p1.2) = p3 at hT hfe
    have hK1 : ∀ w, J 978 p3.1 (Mm.mk t.2 p3.2 m.A m.n m.c m.R) w → w.cell? ⟨bf, 1, none⟩ = some (.int .i64 (p3.2.getD 0 0)) := fun w h => (H.cel _ _ _ _ h).cell (Mm.c1 (H.len _ _ _ _ h))
    have hL3 : ∀ w, J 978 p3.1 (Mm.mk t.2 p3.2 m.A m.n m.c m.R) w → p3.2.length = 585 := fun w h => H.len _ _ _ _ h
    generalize p3.2.getD 0 0 = K at hK1 hfe
    have hk2 := True.intro; have hv1 := True.intro
    by_cases hk1 : K = 1
    · by_cases hv1 : v = 1
      · have hx0 := True.intro
        have K1 := Lib.hid (show (K == 1) = true by simp [hk1])
        have V1 := Lib.hid (show (v != 1) = false by simp [hv1])
        rw [if_pos hk1, if_pos hv1] at hfe
        subst hfe
        (try simp only)
        clear hk1 hk2 hv1
        go_enter Tryz.func28, Tryz.ntmps28
        go_wp2_with (first
          | (with_reducible refine box_by rfl _ rfl rfl ?_; intro bc u hb hc; have hj := HH.out.stay _ _ _ _ _ HJ.out hb; clear HJ; have HJ := Lib.hid hj; have HQ := Lib.hid (Keeps.below hb); have HC := Lib.hid hc; clear hj hb hc))
        refine Draws.start (S := fun u => Cel u bc 69 [.func (.func k1) #[] #[.pointer (some ⟨c1, 0, none⟩)], .func (.func k2) #[] #[.pointer (some ⟨c2, 0, none⟩)], .func (.func k3) #[] #[.pointer (some ⟨c3, 0, none⟩)]]) (n := 6) 6 rfl (by kernel_rfl) ?_
        have hj := HH.out.stay _ _ _ _ _ HJ.out ((Below.refl _ _).drew)
        clear HJ; have HJ := Lib.hid hj; clear hj
        have hc := HC.out.below ((Below.refl _ _).drew) HC.out.lt
        clear HC; have HC := Lib.hid hc; clear hc
        have hq := HQ.out.trans (Keeps.below ((Below.refl _ _).drew))
        clear HQ; have HQ := Lib.hid hq; clear hq
        have HS := Lib.hid (show (fun u => Cel u bc 69 [.func (.func k1) #[] #[.pointer (some ⟨c1, 0, none⟩)], .func (.func k2) #[] #[.pointer (some ⟨c2, 0, none⟩)], .func (.func k3) #[] #[.pointer (some ⟨c3, 0, none⟩)]]) _ from HC.out)
        refine Draws.take 0 (v := ?v64) HS.out rfl (by kernel_rfl) (fun _ _ _ h => h) (Or.inl ⟨rfl, ?h64⟩) ?r64
        case h64 => intro w' hw'; go_simp; (try with_reducible rfl)
        (try simp only [Act.put, List.setIfInBounds_toArray, List.set_cons_zero, List.set_cons_succ])
        refine Draws.take 1 HS.out rfl (by kernel_rfl) (fun _ _ _ h => h) (yield_w cwN (fun _ h => h.cell rfl) _ rfl rfl rfl) ?_
        (try simp only [Act.put, List.setIfInBounds_toArray, List.set_cons_zero, List.set_cons_succ])
        refine Draws.take 2 (v := ?v65) HS.out rfl (by kernel_rfl) (fun _ _ _ h => h) (Or.inl ⟨rfl, ?h65⟩) ?r65
        case h65 => intro w' hw'; go_simp; (try with_reducible rfl)
        (try simp only [Act.put, List.setIfInBounds_toArray, List.set_cons_zero, List.set_cons_succ])
        refine Draws.take 3 (v := ?v66) HS.out rfl (by kernel_rfl) (fun _ _ _ h => h) (Or.inl ⟨rfl, ?h66⟩) ?r66
        case h66 => intro w' hw'; go_simp; (try with_reducible rfl)
        (try simp only [Act.put, List.setIfInBounds_toArray, List.set_cons_zero, List.set_cons_succ])
        refine Draws.take 4 (v := ?v67) HS.out rfl (by kernel_rfl) (fun _ _ _ h => h) (Or.inl ⟨rfl, ?h67⟩) ?r67
        case h67 => intro w' hw'; go_simp; (try with_reducible rfl)
        (try simp only [Act.put, List.setIfInBounds_toArray, List.set_cons_zero, List.set_cons_succ])
        refine Draws.does 5 rfl (by kernel_rfl) rfl (fun K hK => ?_)
        go_simp
        rw [HH.out.ent, Oper.upon_enter]
        refine (hN1 _ HJ.out).mono ?_
        rintro e u ⟨rfl, hj, hk⟩
        (try dsimp only)
        clear HJ; have HJ := Lib.hid hj
        have hc := hk.cel (.inl rfl) HC.out; clear HC; have HC := Lib.hid hc; clear hc
        have hq := HQ.out.trans hk; clear HQ; have HQ := Lib.hid hq; clear hq hk hj
        refine hK.out _ _ (fun _ => HC.out) ?_
        clear hK K
        (try simp only [Act.put, List.setIfInBounds_toArray, List.set_cons_zero, List.set_cons_succ])
        refine Draws.done (by kernel_rfl) ?_
        clear HS
        go_wp2_with fail
        refine Draws.start (S := fun u => Cel u bc 69 [.func (.func k1) #[] #[.pointer (some ⟨c1, 0, none⟩)], .func (.func k2) #[] #[.pointer (some ⟨c2, 0, none⟩)], .func (.func k3) #[] #[.pointer (some ⟨c3, 0, none⟩)]]) (n := 6) 6 rfl (by kernel_rfl) ?_
        have hj := HH.out.stay _ _ _ _ _ HJ.out ((Below.refl _ _).drew)
        clear HJ; have HJ := Lib.hid hj; clear hj
        have hc := HC.out.below ((Below.refl _ _).drew) HC.out.lt
        clear HC; have HC := Lib.hid hc; clear hc
        have hq := HQ.out.trans (Keeps.below ((Below.refl _ _).drew))
        clear HQ; have HQ := Lib.hid hq; clear hq
        have HS := Lib.hid (show (fun u => Cel u bc 69 [.func (.func k1) #[] #[.pointer (some ⟨c1, 0, none⟩)], .func (.func k2) #[] #[.pointer (some ⟨c2, 0, none⟩)], .func (.func k3) #[] #[.pointer (some ⟨c3, 0, none⟩)]]) _ from HC.out)
        refine Draws.take 0 (v := ?v68) HS.out rfl (by kernel_rfl) (fun _ _ _ h => h) (Or.inl ⟨rfl, ?h68⟩) ?r68
        case h68 => intro w' hw'; go_simp; (try with_reducible rfl)
        (try simp only [Act.put, List.setIfInBounds_toArray, List.set_cons_zero, List.set_cons_succ])
        refine Draws.take 1 HS.out rfl (by kernel_rfl) (fun _ _ _ h => h) (yield_w cwT (fun _ h => h.cell (k := 1) rfl) _ rfl rfl rfl) ?_
        (try simp only [Act.put, List.setIfInBounds_toArray, List.set_cons_zero, List.set_cons_succ])
        refine Draws.take 2 (v := ?v69) HS.out rfl (by kernel_rfl) (fun _ _ _ h => h) (Or.inl ⟨rfl, ?h69⟩) ?r69
        case h69 => intro w' hw'; go_simp; (try with_reducible rfl)
        (try simp only [Act.put, List.setIfInBounds_toArray, List.set_cons_zero, List.set_cons_succ])
        refine Draws.take 3 (v := ?v70) HS.out rfl (by kernel_rfl) (fun _ _ _ h => h) (Or.inl ⟨rfl, ?h70⟩) ?r70
        case h70 => intro w' hw'; go_simp; (try with_reducible rfl)
        (try simp only [Act.put, List.setIfInBounds_toArray, List.set_cons_zero, List.set_cons_succ])
        refine Draws.take 4 (v := ?v71) HS.out rfl (by kernel_rfl) (fun _ _ _ h => h) (Or.inl ⟨rfl, ?h71⟩) ?r71
        case h71 => intro w' hw'; go_simp; (try with_reducible rfl)
        (try simp only [Act.put, List.setIfInBounds_toArray, List.set_cons_zero, List.set_cons_succ])
        refine Draws.does 5 rfl (by kernel_rfl) rfl (fun K hK => ?_)
        go_simp
        rw [HH.out.ent2, Oper.upon_enter]
        refine (hT _ HJ.out).mono ?_
        rintro e u ⟨rfl, hj, hk⟩
        (try dsimp only)
        clear HJ; have HJ := Lib.hid hj
        have hc := hk.cel (.inl rfl) HC.out; clear HC; have HC := Lib.hid hc; clear hc
        have hq := HQ.out.trans hk; clear HQ; have HQ := Lib.hid hq; clear hq hk hj
        refine hK.out _ _ (fun _ => HC.out) ?_
        clear hK K
        (try simp only [Act.put, List.setIfInBounds_toArray, List.set_cons_zero, List.set_cons_succ])
        refine Draws.done (by kernel_rfl) ?_
        clear HS
        have hj := HH.out.less _ 978 _ _ _ HJ.out (by decide)
        clear HJ; have HJ := Lib.hid hj; clear hj
        go_wp2_with (first
          | (with_reducible refine eql_want V3.out _ _ _ rfl rfl rfl rfl ?_)
          | (with_reducible refine eql_want K1.out _ _ _ rfl rfl rfl rfl ?_)
          | (with_reducible refine neq_want V1.out _ _ _ rfl rfl rfl rfl ?_)
          | (with_reducible refine load_there cbI _ rfl (hK1 _ HJ.out) rfl rfl ?_))
        refine Draws.start (S := fun u => Cel u bc 69 [.func (.func k1) #[] #[.pointer (some ⟨c1, 0, none⟩)], .func (.func k2) #[] #[.pointer (some ⟨c2, 0, none⟩)], .func (.func k3) #[] #[.pointer (some ⟨c3, 0, none⟩)]]) (n := 5) 5 rfl (by kernel_rfl) ?_
        have hj := HH.out.stay _ _ _ _ _ HJ.out ((Below.refl _ _).drew)
        clear HJ; have HJ := Lib.hid hj; clear hj
        have hc := HC.out.below ((Below.refl _ _).drew) HC.out.lt
        clear HC; have HC := Lib.hid hc; clear hc
        have hq := HQ.out.trans (Keeps.below ((Below.refl _ _).drew))
        clear HQ; have HQ := Lib.hid hq; clear hq
        have HS := Lib.hid (show (fun u => Cel u bc 69 [.func (.func k1) #[] #[.pointer (some ⟨c1, 0, none⟩)], .func (.func k2) #[] #[.pointer (some ⟨c2, 0, none⟩)], .func (.func k3) #[] #[.pointer (some ⟨c3, 0, none⟩)]]) _ from HC.out)
        refine Draws.take 0 HS.out rfl (by kernel_rfl) (fun _ _ _ h => h) (yield_by (fun _ h => h) _ rfl rfl rfl) ?_
        (try simp only [Act.put, List.setIfInBounds_toArray, List.set_cons_zero, List.set_cons_succ])
        refine Draws.take 1 (v := ?v61) HS.out rfl (by kernel_rfl) (fun _ _ _ h => h) (Or.inl ⟨rfl, ?h61⟩) ?r61
        case h61 => intro w' hw'; go_simp; (try with_reducible rfl)
        (try simp only [Act.put, List.setIfInBounds_toArray, List.set_cons_zero, List.set_cons_succ])
        refine Draws.take 2 (v := ?v62) HS.out rfl (by kernel_rfl) (fun _ _ _ h => h) (Or.inl ⟨rfl, ?h62⟩) ?r62
        case h62 => intro w' hw'; go_simp; (try with_reducible rfl)
        (try simp only [Act.put, List.setIfInBounds_toArray, List.set_cons_zero, List.set_cons_succ])
        refine Draws.take 3 (v := ?v63) HS.out rfl (by kernel_rfl) (fun _ _ _ h => h) (Or.inl ⟨rfl, ?h63⟩) ?r63
        case h63 => intro w' hw'; go_simp; (try with_reducible rfl)
        (try simp only [Act.put, List.setIfInBounds_toArray, List.set_cons_zero, List.set_cons_succ])
        refine Draws.does 4 rfl (by kernel_rfl) rfl (fun K hK => ?_)
        go_simp
        go_at_call 67
        refine (counter_car (HH.out.toX (Mm.mk t.2 [] m.A m.n m.c m.R)) 399 p3.1 p3.2 2 3 _ HJ.out (by rw [hL3 _ HJ.out]; decide) rfl).mono ?_
        rintro e u ⟨rfl, hj, hk⟩
        (try dsimp only)
        clear HJ; have HJ := Lib.hid hj
        have hc := hk.cel (.inl rfl) HC.out; clear HC; have HC := Lib.hid hc; clear hc
        have hq := HQ.out.trans hk; clear HQ; have HQ := Lib.hid hq; clear hq hk hj
        refine hK.out _ _ (fun _ => HC.out) ?_
        clear hK K
        (try simp only [Act.put, List.setIfInBounds_toArray, List.set_cons_zero, List.set_cons_succ])
        refine Draws.done (by kernel_rfl) ?_
        clear HS
        go_wp2_with (first
          | (with_reducible refine neq_want V1.out _ _ _ rfl rfl rfl rfl ?_))
        go_end0
        exact ⟨rfl, _, _, HH.out.less _ 0 _ _ _ HJ.out (Nat.zero_le _)⟩
      · have hho := fun w h => holds_car H 99 (fo g 579 2 p3).1 (Mm.mk t.2 (fo g 579 2 p3).2 m.A m.n m.c m.R) w h
        have K1 := Lib.hid (show (K == 1) = true by simp [hk1])
        have V1 := Lib.hid (show (v != 1) = true by simp [hv1])
        rw [if_pos hk1, if_neg hv1] at hfe
        subst hfe
        (try simp only)
        clear hk1 hk2 hv1
        go_enter Tryz.func28, Tryz.ntmps28
        go_wp2_with (first
          | (with_reducible refine box_by rfl _ rfl rfl ?_; intro bc u hb hc; have hj := HH.out.stay _ _ _ _ _ HJ.out hb; clear HJ; have HJ := Lib.hid hj; have HQ := Lib.hid (Keeps.below hb); have HC := Lib.hid hc; clear hj hb hc))
        refine Draws.start (S := fun u => Cel u bc 69 [.func (.func k1) #[] #[.pointer (some ⟨c1, 0, none⟩)], .func (.func k2) #[] #[.pointer (some ⟨c2, 0, none⟩)], .func (.func k3) #[] #[.pointer (some ⟨c3, 0, none⟩)]]) (n := 6) 6 rfl (by kernel_rfl) ?_
        have hj := HH.out.stay _ _ _ _ _ HJ.out ((Below.refl _ _).drew)
        clear HJ; have HJ := Lib.hid hj; clear hj
        have hc := HC.out.below ((Below.refl _ _).drew) HC.out.lt
        clear HC; have HC := Lib.hid hc; clear hc
        have hq := HQ.out.trans (Keeps.below ((Below.refl _ _).drew))
        clear HQ; have HQ := Lib.hid hq; clear hq
        have HS := Lib.hid (show (fun u => Cel u bc 69 [.func (.func k1) #[] #[.pointer (some ⟨c1, 0, none⟩)], .func (.func k2) #[] #[.pointer (some ⟨c2, 0, none⟩)], .func (.func k3) #[] #[.pointer (some ⟨c3, 0, none⟩)]]) _ from HC.out)
        refine Draws.take 0 (v := ?v78) HS.out rfl (by kernel_rfl) (fun _ _ _ h => h) (Or.inl ⟨rfl, ?h78⟩) ?r78
        case h78 => intro w' hw'; go_simp; (try with_reducible rfl)
        (try simp only [Act.put, List.setIfInBounds_toArray, List.set_cons_zero, List.set_cons_succ])
        refine Draws.take 1 HS.out rfl (by kernel_rfl) (fun _ _ _ h => h) (yield_w cwN (fun _ h => h.cell rfl) _ rfl rfl rfl) ?_
        (try simp only [Act.put, List.setIfInBounds_toArray, List.set_cons_zero, List.set_cons_succ])
        refine Draws.take 2 (v := ?v79) HS.out rfl (by kernel_rfl) (fun _ _ _ h => h) (Or.inl ⟨rfl, ?h79⟩) ?r79
        case h79 => intro w' hw'; go_simp; (try with_reducible rfl)
        (try simp only [Act.put, List.setIfInBounds_toArray, List.set_cons_zero, List.set_cons_succ])
        refine Draws.take 3 (v := ?v80) HS.out rfl (by kernel_rfl) (fun _ _ _ h => h) (Or.inl ⟨rfl, ?h80⟩) ?r80
        case h80 => intro w' hw'; go_simp; (try with_reducible rfl)
        (try simp only [Act.put, List.setIfInBounds_toArray, List.set_cons_zero, List.set_cons_succ])
        refine Draws.take 4 (v := ?v81) HS.out rfl (by kernel_rfl) (fun _ _ _ h => h) (Or.inl ⟨rfl, ?h81⟩) ?r81
        case h81 => intro w' hw'; go_simp; (try with_reducible rfl)
        (try simp only [Act.put, List.setIfInBounds_toArray, List.set_cons_zero, List.set_cons_succ])
        refine Draws.does 5 rfl (by kernel_rfl) rfl (fun K hK => ?_)
        go_simp
        rw [HH.out.ent, Oper.upon_enter]
        refine (hN1 _ HJ.out).mono ?_
        rintro e u ⟨rfl, hj, hk⟩
        (try dsimp only)
        clear HJ; have HJ := Lib.hid hj
        have hc := hk.cel (.inl rfl) HC.out; clear HC; have HC := Lib.hid hc; clear hc
        have hq := HQ.out.trans hk; clear HQ; have HQ := Lib.hid hq; clear hq hk hj
        refine hK.out _ _ (fun _ => HC.out) ?_
        clear hK K
        (try simp only [Act.put, List.setIfInBounds_toArray, List.set_cons_zero, List.set_cons_succ])
        refine Draws.done (by kernel_rfl) ?_
        clear HS
        go_wp2_with fail
        refine Draws.start (S := fun u => Cel u bc 69 [.func (.func k1) #[] #[.pointer (some ⟨c1, 0, none⟩)], .func (.func k2) #[] #[.pointer (some ⟨c2, 0, none⟩)], .func (.func k3) #[] #[.pointer (some ⟨c3, 0, none⟩)]]) (n := 6) 6 rfl (by kernel_rfl) ?_
        have hj := HH.out.stay _ _ _ _ _ HJ.out ((Below.refl _ _).drew)
        clear HJ; have HJ := Lib.hid hj; clear hj
        have hc := HC.out.below ((Below.refl _ _).drew) HC.out.lt
        clear HC; have HC := Lib.hid hc; clear hc
        have hq := HQ.out.trans (Keeps.below ((Below.refl _ _).drew))
        clear HQ; have HQ := Lib.hid hq; clear hq
        have HS := Lib.hid (show (fun u => Cel u bc 69 [.func (.func k1) #[] #[.pointer (some ⟨c1, 0, none⟩)], .func (.func k2) #[] #[.pointer (some ⟨c2, 0, none⟩)], .func (.func k3) #[] #[.pointer (some ⟨c3, 0, none⟩)]]) _ from HC.out)
        refine Draws.take 0 (v := ?v82) HS.out rfl (by kernel_rfl) (fun _ _ _ h => h) (Or.inl ⟨rfl, ?h82⟩) ?r82
        case h82 => intro w' hw'; go_simp; (try with_reducible rfl)
        (try simp only [Act.put, List.setIfInBounds_toArray, List.set_cons_zero, List.set_cons_succ])
        refine Draws.take 1 HS.out rfl (by kernel_rfl) (fun _ _ _ h => h) (yield_w cwT (fun _ h => h.cell (k := 1) rfl) _ rfl rfl rfl) ?_
        (try simp only [Act.put, List.setIfInBounds_toArray, List.set_cons_zero, List.set_cons_succ])
        refine Draws.take 2 (v := ?v83) HS.out rfl (by kernel_rfl) (fun _ _ _ h => h) (Or.inl ⟨rfl, ?h83⟩) ?r83
        case h83 => intro w' hw'; go_simp; (try with_reducible rfl)
        (try simp only [Act.put, List.setIfInBounds_toArray, List.set_cons_zero, List.set_cons_succ])
        refine Draws.take 3 (v := ?v84) HS.out rfl (by kernel_rfl) (fun _ _ _ h => h) (Or.inl ⟨rfl, ?h84⟩) ?r84
        case h84 => intro w' hw'; go_simp; (try with_reducible rfl)
        (try simp only [Act.put, List.setIfInBounds_toArray, List.set_cons_zero, List.set_cons_succ])
        refine Draws.take 4 (v := ?v85) HS.out rfl (by kernel_rfl) (fun _ _ _ h => h) (Or.inl ⟨rfl, ?h85⟩) ?r85
        case h85 => intro w' hw'; go_simp; (try with_reducible rfl)
        (try simp only [Act.put, List.setIfInBounds_toArray, List.set_cons_zero, List.set_cons_succ])
        refine Draws.does 5 rfl (by kernel_rfl) rfl (fun K hK => ?_)
        go_simp
        rw [HH.out.ent2, Oper.upon_enter]
        refine (hT _ HJ.out).mono ?_
        rintro e u ⟨rfl, hj, hk⟩
        (try dsimp only)
        clear HJ; have HJ := Lib.hid hj
        have hc := hk.cel (.inl rfl) HC.out; clear HC; have HC := Lib.hid hc; clear hc
        have hq := HQ.out.trans hk; clear HQ; have HQ := Lib.hid hq; clear hq hk hj
        refine hK.out _ _ (fun _ => HC.out) ?_
        clear hK K
        (try simp only [Act.put, List.setIfInBounds_toArray, List.set_cons_zero, List.set_cons_succ])
        refine Draws.done (by kernel_rfl) ?_
        clear HS
        have hj := HH.out.less _ 978 _ _ _ HJ.out (by decide)
        clear HJ; have HJ := Lib.hid hj; clear hj
        go_wp2_with (first
          | (with_reducible refine eql_want V3.out _ _ _ rfl rfl rfl rfl ?_)
          | (with_reducible refine eql_want K1.out _ _ _ rfl rfl rfl rfl ?_)
          | (with_reducible refine neq_want V1.out _ _ _ rfl rfl rfl rfl ?_)
          | (with_reducible refine load_there cbI _ rfl (hK1 _ HJ.out) rfl rfl ?_))
        refine Draws.start (S := fun u => Cel u bc 69 [.func (.func k1) #[] #[.pointer (some ⟨c1, 0, none⟩)], .func (.func k2) #[] #[.pointer (some ⟨c2, 0, none⟩)], .func (.func k3) #[] #[.pointer (some ⟨c3, 0, none⟩)]]) (n := 5) 5 rfl (by kernel_rfl) ?_
        have hj := HH.out.stay _ _ _ _ _ HJ.out ((Below.refl _ _).drew)
        clear HJ; have HJ := Lib.hid hj; clear hj
        have hc := HC.out.below ((Below.refl _ _).drew) HC.out.lt
        clear HC; have HC := Lib.hid hc; clear hc
        have hq := HQ.out.trans (Keeps.below ((Below.refl _ _).drew))
        clear HQ; have HQ := Lib.hid hq; clear hq
        have HS := Lib.hid (show (fun u => Cel u bc 69 [.func (.func k1) #[] #[.pointer (some ⟨c1, 0, none⟩)], .func (.func k2) #[] #[.pointer (some ⟨c2, 0, none⟩)], .func (.func k3) #[] #[.pointer (some ⟨c3, 0, none⟩)]]) _ from HC.out)
        refine Draws.take 0 HS.out rfl (by kernel_rfl) (fun _ _ _ h => h) (yield_by (fun _ h => h) _ rfl rfl rfl) ?_
        (try simp only [Act.put, List.setIfInBounds_toArray, List.set_cons_zero, List.set_cons_succ])
        refine Draws.take 1 (v := ?v72) HS.out rfl (by kernel_rfl) (fun _ _ _ h => h) (Or.inl ⟨rfl, ?h72⟩) ?r72
        case h72 => intro w' hw'; go_simp; (try with_reducible rfl)
        (try simp only [Act.put, List.setIfInBounds_toArray, List.set_cons_zero, List.set_cons_succ])
        refine Draws.take 2 (v := ?v73) HS.out rfl (by kernel_rfl) (fun _ _ _ h => h) (Or.inl ⟨rfl, ?h73⟩) ?r73
        case h73 => intro w' hw'; go_simp; (try with_reducible rfl)
        (try simp only [Act.put, List.setIfInBounds_toArray, List.set_cons_zero, List.set_cons_succ])
        refine Draws.take 3 (v := ?v74) HS.out rfl (by kernel_rfl) (fun _ _ _ h => h) (Or.inl ⟨rfl, ?h74⟩) ?r74
        case h74 => intro w' hw'; go_simp; (try with_reducible rfl)
        (try simp only [Act.put, List.setIfInBounds_toArray, List.set_cons_zero, List.set_cons_succ])
        refine Draws.does 4 rfl (by kernel_rfl) rfl (fun K hK => ?_)
        go_simp
        go_at_call 67
        refine (counter_car (HH.out.toX (Mm.mk t.2 [] m.A m.n m.c m.R)) 399 p3.1 p3.2 2 3 _ HJ.out (by rw [hL3 _ HJ.out]; decide) rfl).mono ?_
        rintro e u ⟨rfl, hj, hk⟩
        (try dsimp only)
        clear HJ; have HJ := Lib.hid hj
        have hc := hk.cel (.inl rfl) HC.out; clear HC; have HC := Lib.hid hc; clear hc
        have hq := HQ.out.trans hk; clear HQ; have HQ := Lib.hid hq; clear hq hk hj
        refine hK.out _ _ (fun _ => HC.out) ?_
        clear hK K
        (try simp only [Act.put, List.setIfInBounds_toArray, List.set_cons_zero, List.set_cons_succ])
        refine Draws.done (by kernel_rfl) ?_
        clear HS
        go_wp2_with (first
          | (with_reducible refine neq_want V1.out _ _ _ rfl rfl rfl rfl ?_))
        refine Draws.start (S := fun u => Cel u bc 69 [.func (.func k1) #[] #[.pointer (some ⟨c1, 0, none⟩)], .func (.func k2) #[] #[.pointer (some ⟨c2, 0, none⟩)], .func (.func k3) #[] #[.pointer (some ⟨c3, 0, none⟩)]]) (n := 5) 5 rfl (by kernel_rfl) ?_
        have hj := HH.out.stay _ _ _ _ _ HJ.out ((Below.refl _ _).drew)
        clear HJ; have HJ := Lib.hid hj; clear hj
        have hc := HC.out.below ((Below.refl _ _).drew) HC.out.lt
        clear HC; have HC := Lib.hid hc; clear hc
        have hq := HQ.out.trans (Keeps.below ((Below.refl _ _).drew))
        clear HQ; have HQ := Lib.hid hq; clear hq
        have HS := Lib.hid (show (fun u => Cel u bc 69 [.func (.func k1) #[] #[.pointer (some ⟨c1, 0, none⟩)], .func (.func k2) #[] #[.pointer (some ⟨c2, 0, none⟩)], .func (.func k3) #[] #[.pointer (some ⟨c3, 0, none⟩)]]) _ from HC.out)
        refine Draws.take 0 HS.out rfl (by kernel_rfl) (fun _ _ _ h => h) (yield_by (fun _ h => h) _ rfl rfl rfl) ?_
        (try simp only [Act.put, List.setIfInBounds_toArray, List.set_cons_zero, List.set_cons_succ])
        refine Draws.take 1 (v := ?v75) HS.out rfl (by kernel_rfl) (fun _ _ _ h => h) (Or.inl ⟨rfl, ?h75⟩) ?r75
        case h75 => intro w' hw'; go_simp; (try with_reducible rfl)
        (try simp only [Act.put, List.setIfInBounds_toArray, List.set_cons_zero, List.set_cons_succ])
        refine Draws.take 2 (v := ?v76) HS.out rfl (by kernel_rfl) (fun _ _ _ h => h) (Or.inl ⟨rfl, ?h76⟩) ?r76
        case h76 => intro w' hw'; go_simp; (try with_reducible rfl)
        (try simp only [Act.put, List.setIfInBounds_toArray, List.set_cons_zero, List.set_cons_succ])
        refine Draws.take 3 (v := ?v77) HS.out rfl (by kernel_rfl) (fun _ _ _ h => h) (Or.inl ⟨rfl, ?h77⟩) ?r77
        case h77 => intro w' hw'; go_simp; (try with_reducible rfl)
        (try simp only [Act.put, List.setIfInBounds_toArray, List.set_cons_zero, List.set_cons_succ])
        refine Draws.does 4 rfl (by kernel_rfl) rfl (fun K hK => ?_)
        go_simp
        go_at_call 68
        refine (hho _ HJ.out).mono ?_
        rintro e u ⟨rfl, ⟨A9, d9, hj⟩, hk⟩
        (try dsimp only)
        clear HJ; have HJ := Lib.hid hj
        have hc := hk.cel (.inl rfl) HC.out; clear HC; have HC := Lib.hid hc; clear hc
        have hq := HQ.out.trans hk; clear HQ; have HQ := Lib.hid hq; clear hq hk hj
        refine hK.out _ _ (fun _ => HC.out) ?_
        clear hK K
        (try simp only [Act.put, List.setIfInBounds_toArray, List.set_cons_zero, List.set_cons_succ])
        refine Draws.done (by kernel_rfl) ?_
        clear HS
        go_wp2_with fail
        go_end0
        exact ⟨rfl, _, _, HH.out.less _ 0 _ _ _ HJ.out (Nat.zero_le _)⟩
    · by_cases hk2 : K = 2
      · have hx0 := True.intro
        have K1 := Lib.hid (show (K == 1) = false by simp [hk1])
        have K2 := Lib.hid (show (K == 2) = true by simp [hk2])
        rw [if_neg hk1, if_pos hk2] at hfe
        subst hfe
        (try simp only)
        clear hk1 hk2 hv1
        go_enter Tryz.func28, Tryz.ntmps28
        go_wp2_with (first
          | (with_reducible refine box_by rfl _ rfl rfl ?_; intro bc u hb hc; have hj := HH.out.stay _ _ _ _ _ HJ.out hb; clear HJ; have HJ := Lib.hid hj; have HQ := Lib.hid (Keeps.below hb); have HC := Lib.hid hc; clear hj hb hc))
        refine Draws.start (S := fun u => Cel u bc 69 [.func (.func k1) #[] #[.pointer (some ⟨c1, 0, none⟩)], .func (.func k2) #[] #[.pointer (some ⟨c2, 0, none⟩)], .func (.func k3) #[] #[.pointer (some ⟨c3, 0, none⟩)]]) (n := 6) 6 rfl (by kernel_rfl) ?_
        have hj := HH.out.stay _ _ _ _ _ HJ.out ((Below.refl _ _).drew)
        clear HJ; have HJ := Lib.hid hj; clear hj
        have hc := HC.out.below ((Below.refl _ _).drew) HC.out.lt
        clear HC; have HC := Lib.hid hc; clear hc
        have hq := HQ.out.trans (Keeps.below ((Below.refl _ _).drew))
        clear HQ; have HQ := Lib.hid hq; clear hq
        have HS := Lib.hid (show (fun u => Cel u bc 69 [.func (.func k1) #[] #[.pointer (some ⟨c1, 0, none⟩)], .func (.func k2) #[] #[.pointer (some ⟨c2, 0, none⟩)], .func (.func k3) #[] #[.pointer (some ⟨c3, 0, none⟩)]]) _ from HC.out)
        refine Draws.take 0 (v := ?v89) HS.out rfl (by kernel_rfl) (fun _ _ _ h => h) (Or.inl ⟨rfl, ?h89⟩) ?r89
        case h89 => intro w' hw'; go_simp; (try with_reducible rfl)
        (try simp only [Act.put, List.setIfInBounds_toArray, List.set_cons_zero, List.set_cons_succ])
        refine Draws.take 1 HS.out rfl (by kernel_rfl) (fun _ _ _ h => h) (yield_w cwN (fun _ h => h.cell rfl) _ rfl rfl rfl) ?_
        (try simp only [Act.put, List.setIfInBounds_toArray, List.set_cons_zero, List.set_cons_succ])
        refine Draws.take 2 (v := ?v90) HS.out rfl (by kernel_rfl) (fun _ _ _ h => h) (Or.inl ⟨rfl, ?h90⟩) ?r90
        case h90 => intro w' hw'; go_simp; (try with_reducible rfl)
        (try simp only [Act.put, List.setIfInBounds_toArray, List.set_cons_zero, List.set_cons_succ])
        refine Draws.take 3 (v := ?v91) HS.out rfl (by kernel_rfl) (fun _ _ _ h => h) (Or.inl ⟨rfl, ?h91⟩) ?r91
        case h91 => intro w' hw'; go_simp; (try with_reducible rfl)
        (try simp only [Act.put, List.setIfInBounds_toArray, List.set_cons_zero, List.set_cons_succ])
        refine Draws.take 4 (v := ?v92) HS.out rfl (by kernel_rfl) (fun _ _ _ h => h) (Or.inl ⟨rfl, ?h92⟩) ?r92
        case h92 => intro w' hw'; go_simp; (try with_reducible rfl)
        (try simp only [Act.put, List.setIfInBounds_toArray, List.set_cons_zero, List.set_cons_succ])
        refine Draws.does 5 rfl (by kernel_rfl) rfl (fun K hK => ?_)
        go_simp
        rw [HH.out.ent, Oper.upon_enter]
        refine (hN1 _ HJ.out).mono ?_
        rintro e u ⟨rfl, hj, hk⟩
        (try dsimp only)
        clear HJ; have HJ := Lib.hid hj
        have hc := hk.cel (.inl rfl) HC.out; clear HC; have HC := Lib.hid hc; clear hc
        have hq := HQ.out.trans hk; clear HQ; have HQ := Lib.hid hq; clear hq hk hj
        refine hK.out _ _ (fun _ => HC.out) ?_
        clear hK K
        (try simp only [Act.put, List.setIfInBounds_toArray, List.set_cons_zero, List.set_cons_succ])
        refine Draws.done (by kernel_rfl) ?_
        clear HS
        go_wp2_with fail
        refine Draws.start (S := fun u => Cel u bc 69 [.func (.func k1) #[] #[.pointer (some ⟨c1, 0, none⟩)], .func (.func k2) #[] #[.pointer (some ⟨c2, 0, none⟩)], .func (.func k3) #[] #[.pointer (some ⟨c3, 0, none⟩)]]) (n := 6) 6 rfl (by kernel_rfl) ?_
        have hj := HH.out.stay _ _ _ _ _ HJ.out ((Below.refl _ _).drew)
        clear HJ; have HJ := Lib.hid hj; clear hj
        have hc := HC.out.below ((Below.refl _ _).drew) HC.out.lt
        clear HC; have HC := Lib.hid hc; clear hc
        have hq := HQ.out.trans (Keeps.below ((Below.refl _ _).drew))
        clear HQ; have HQ := Lib.hid hq; clear hq
        have HS := Lib.hid (show (fun u => Cel u bc 69 [.func (.func k1) #[] #[.pointer (some ⟨c1, 0, none⟩)], .func (.func k2) #[] #[.pointer (some ⟨c2, 0, none⟩)], .func (.func k3) #[] #[.pointer (some ⟨c3, 0, none⟩)]]) _ from HC.out)
        refine Draws.take 0 (v := ?v93) HS.out rfl (by kernel_rfl) (fun _ _ _ h => h) (Or.inl ⟨rfl, ?h93⟩) ?r93
        case h93 => intro w' hw'; go_simp; (try with_reducible rfl)
        (try simp only [Act.put, List.setIfInBounds_toArray, List.set_cons_zero, List.set_cons_succ])
        refine Draws.take 1 HS.out rfl (by kernel_rfl) (fun _ _ _ h => h) (yield_w cwT (fun _ h => h.cell (k := 1) rfl) _ rfl rfl rfl) ?_
        (try simp only [Act.put, List.setIfInBounds_toArray, List.set_cons_zero, List.set_cons_succ])
        refine Draws.take 2 (v := ?v94) HS.out rfl (by kernel_rfl) (fun _ _ _ h => h) (Or.inl ⟨rfl, ?h94⟩) ?r94
        case h94 => intro w' hw'; go_simp; (try with_reducible rfl)
        (try simp only [Act.put, List.setIfInBounds_toArray, List.set_cons_zero, List.set_cons_succ])
        refine Draws.take 3 (v := ?v95) HS.out rfl (by kernel_rfl) (fun _ _ _ h => h) (Or.inl ⟨rfl, ?h95⟩) ?r95
        case h95 => intro w' hw'; go_simp; (try with_reducible rfl)
        (try simp only [Act.put, List.setIfInBounds_toArray, List.set_cons_zero, List.set_cons_succ])
        refine Draws.take 4 (v := ?v96) HS.out rfl (by kernel_rfl) (fun _ _ _ h => h) (Or.inl ⟨rfl, ?h96⟩) ?r96
        case h96 => intro w' hw'; go_simp; (try with_reducible rfl)
        (try simp only [Act.put, List.setIfInBounds_toArray, List.set_cons_zero, List.set_cons_succ])
        refine Draws.does 5 rfl (by kernel_rfl) rfl (fun K hK => ?_)
        go_simp
        rw [HH.out.ent2, Oper.upon_enter]
        refine (hT _ HJ.out).mono ?_
        rintro e u ⟨rfl, hj, hk⟩
        (try dsimp only)
        clear HJ; have HJ := Lib.hid hj
        have hc := hk.cel (.inl rfl) HC.out; clear HC; have HC := Lib.hid hc; clear hc
        have hq := HQ.out.trans hk; clear HQ; have HQ := Lib.hid hq; clear hq hk hj
        refine hK.out _ _ (fun _ => HC.out) ?_
        clear hK K
        (try simp only [Act.put, List.setIfInBounds_toArray, List.set_cons_zero, List.set_cons_succ])
        refine Draws.done (by kernel_rfl) ?_
        clear HS
        have hj := HH.out.less _ 978 _ _ _ HJ.out (by decide)
        clear HJ; have HJ := Lib.hid hj; clear hj
        go_wp2_with (first
          | (with_reducible refine eql_want V3.out _ _ _ rfl rfl rfl rfl ?_)
          | (with_reducible refine eql_want K1.out _ _ _ rfl rfl rfl rfl ?_)
          | (with_reducible refine eql_want K2.out _ _ _ rfl rfl rfl rfl ?_)
          | (with_reducible refine load_there cbI _ rfl (hK1 _ HJ.out) rfl rfl ?_))
        refine Draws.start (S := fun u => Cel u bc 69 [.func (.func k1) #[] #[.pointer (some ⟨c1, 0, none⟩)], .func (.func k2) #[] #[.pointer (some ⟨c2, 0, none⟩)], .func (.func k3) #[] #[.pointer (some ⟨c3, 0, none⟩)]]) (n := 5) 5 rfl (by kernel_rfl) ?_
        have hj := HH.out.stay _ _ _ _ _ HJ.out ((Below.refl _ _).drew)
        clear HJ; have HJ := Lib.hid hj; clear hj
        have hc := HC.out.below ((Below.refl _ _).drew) HC.out.lt
        clear HC; have HC := Lib.hid hc; clear hc
        have hq := HQ.out.trans (Keeps.below ((Below.refl _ _).drew))
        clear HQ; have HQ := Lib.hid hq; clear hq
        have HS := Lib.hid (show (fun u => Cel u bc 69 [.func (.func k1) #[] #[.pointer (some ⟨c1, 0, none⟩)], .func (.func k2) #[] #[.pointer (some ⟨c2, 0, none⟩)], .func (.func k3) #[] #[.pointer (some ⟨c3, 0, none⟩)]]) _ from HC.out)
        refine Draws.take 0 HS.out rfl (by kernel_rfl) (fun _ _ _ h => h) (yield_by (fun _ h => h) _ rfl rfl rfl) ?_
        (try simp only [Act.put, List.setIfInBounds_toArray, List.set_cons_zero, List.set_cons_succ])
        refine Draws.take 1 (v := ?v86) HS.out rfl (by kernel_rfl) (fun _ _ _ h => h) (Or.inl ⟨rfl, ?h86⟩) ?r86
        case h86 => intro w' hw'; go_simp; (try with_reducible rfl)
        (try simp only [Act.put, List.setIfInBounds_toArray, List.set_cons_zero, List.set_cons_succ])
        refine Draws.take 2 (v := ?v87) HS.out rfl (by kernel_rfl) (fun _ _ _ h => h) (Or.inl ⟨rfl, ?h87⟩) ?r87
        case h87 => intro w' hw'; go_simp; (try with_reducible rfl)
        (try simp only [Act.put, List.setIfInBounds_toArray, List.set_cons_zero, List.set_cons_succ])
        refine Draws.take 3 (v := ?v88) HS.out rfl (by kernel_rfl) (fun _ _ _ h => h) (Or.inl ⟨rfl, ?h88⟩) ?r88
        case h88 => intro w' hw'; go_simp; (try with_reducible rfl)
        (try simp only [Act.put, List.setIfInBounds_toArray, List.set_cons_zero, List.set_cons_succ])
        refine Draws.does 4 rfl (by kernel_rfl) rfl (fun K hK => ?_)
        go_simp
        go_at_call 69
        refine (lock_car (HH.out.toX (Mm.mk t.2 [] m.A m.n m.c m.R)) 974 p3.1 p3.2 581 582 _ HJ.out (by rw [hL3 _ HJ.out]; decide) rfl).mono ?_
        rintro e u ⟨rfl, hj, hk⟩
        (try dsimp only)
        clear HJ; have HJ := Lib.hid hj
        have hc := hk.cel (.inl rfl) HC.out; clear HC; have HC := Lib.hid hc; clear hc
        have hq := HQ.out.trans hk; clear HQ; have HQ := Lib.hid hq; clear hq hk hj
        refine hK.out _ _ (fun _ => HC.out) ?_
        clear hK K
        (try simp only [Act.put, List.setIfInBounds_toArray, List.set_cons_zero, List.set_cons_succ])
        refine Draws.done (by kernel_rfl) ?_
        clear HS
        go_wp2_with fail
        go_end0
        exact ⟨rfl, _, _, HH.out.less _ 0 _ _ _ HJ.out (Nat.zero_le _)⟩
      · have hx := True.intro
        have K1 := Lib.hid (show (K == 1) = false by simp [hk1])
        have K2 := Lib.hid (show (K == 2) = false by simp [hk2])
        rw [if_neg hk1, if_neg hk2] at hfe
        subst hfe
        (try simp only)
        clear hk1 hk2 hv1
        go_enter Tryz.func28, Tryz.ntmps28
        go_wp2_with (first
          | (with_reducible refine box_by rfl _ rfl rfl ?_; intro bc u hb hc; have hj := HH.out.stay _ _ _ _ _ HJ.out hb; clear HJ; have HJ := Lib.hid hj; have HQ := Lib.hid (Keeps.below hb); have HC := Lib.hid hc; clear hj hb hc))
        refine Draws.start (S := fun u => Cel u bc 69 [.func (.func k1) #[] #[.pointer (some ⟨c1, 0, none⟩)], .func (.func k2) #[] #[.pointer (some ⟨c2, 0, none⟩)], .func (.func k3) #[] #[.pointer (some ⟨c3, 0, none⟩)]]) (n := 6) 6 rfl (by kernel_rfl) ?_
        have hj := HH.out.stay _ _ _ _ _ HJ.out ((Below.refl _ _).drew)
        clear HJ; have HJ := Lib.hid hj; clear hj
        have hc := HC.out.below ((Below.refl _ _).drew) HC.out.lt
        clear HC; have HC := Lib.hid hc; clear hc
        have hq := HQ.out.trans (Keeps.below ((Below.refl _ _).drew))
        clear HQ; have HQ := Lib.hid hq; clear hq
        have HS := Lib.hid (show (fun u => Cel u bc 69 [.func (.func k1) #[] #[.pointer (some ⟨c1, 0, none⟩)], .func (.func k2) #[] #[.pointer (some ⟨c2, 0, none⟩)], .func (.func k3) #[] #[.pointer (some ⟨c3, 0, none⟩)]]) _ from HC.out)
        refine Draws.take 0 (v := ?v97) HS.out rfl (by kernel_rfl) (fun _ _ _ h => h) (Or.inl ⟨rfl, ?h97⟩) ?r97
        case h97 => intro w' hw'; go_simp; (try with_reducible rfl)
        (try simp only [Act.put, List.setIfInBounds_toArray, List.set_cons_zero, List.set_cons_succ])
        refine Draws.take 1 HS.out rfl (by kernel_rfl) (fun _ _ _ h => h) (yield_w cwN (fun _ h => h.cell rfl) _ rfl rfl rfl) ?_
        (try simp only [Act.put, List.setIfInBounds_toArray, List.set_cons_zero, List.set_cons_succ])
        refine Draws.take 2 (v := ?v98) HS.out rfl (by kernel_rfl) (fun _ _ _ h => h) (Or.inl ⟨rfl, ?h98⟩) ?r98
        case h98 => intro w' hw'; go_simp; (try with_reducible rfl)
        (try simp only [Act.put, List.setIfInBounds_toArray, List.set_cons_zero, List.set_cons_succ])
        refine Draws.take 3 (v := ?v99) HS.out rfl (by kernel_rfl) (fun _ _ _ h => h) (Or.inl ⟨rfl, ?h99⟩) ?r99
        case h99 => intro w' hw'; go_simp; (try with_reducible rfl)
        (try simp only [Act.put, List.setIfInBounds_toArray, List.set_cons_zero, List.set_cons_succ])
        refine Draws.take 4 (v := ?v100) HS.out rfl (by kernel_rfl) (fun _ _ _ h => h) (Or.inl ⟨rfl, ?h100⟩) ?r100
        case h100 => intro w' hw'; go_simp; (try with_reducible rfl)
        (try simp only [Act.put, List.setIfInBounds_toArray, List.set_cons_zero, List.set_cons_succ])
        refine Draws.does 5 rfl (by kernel_rfl) rfl (fun K hK => ?_)
        go_simp
        rw [HH.out.ent, Oper.upon_enter]
        refine (hN1 _ HJ.out).mono ?_
        rintro e u ⟨rfl, hj, hk⟩
        (try dsimp only)
        clear HJ; have HJ := Lib.hid hj
        have hc := hk.cel (.inl rfl) HC.out; clear HC; have HC := Lib.hid hc; clear hc
        have hq := HQ.out.trans hk; clear HQ; have HQ := Lib.hid hq; clear hq hk hj
        refine hK.out _ _ (fun _ => HC.out) ?_
        clear hK K
        (try simp only [Act.put, List.setIfInBounds_toArray, List.set_cons_zero, List.set_cons_succ])
        refine Draws.done (by kernel_rfl) ?_
        clear HS
        go_wp2_with fail
        refine Draws.start (S := fun u => Cel u bc 69 [.func (.func k1) #[] #[.pointer (some ⟨c1, 0, none⟩)], .func (.func k2) #[] #[.pointer (some ⟨c2, 0, none⟩)], .func (.func k3) #[] #[.pointer (some ⟨c3, 0, none⟩)]]) (n := 6) 6 rfl (by kernel_rfl) ?_
        have hj := HH.out.stay _ _ _ _ _ HJ.out ((Below.refl _ _).drew)
        clear HJ; have HJ := Lib.hid hj; clear hj
        have hc := HC.out.below ((Below.refl _ _).drew) HC.out.lt
        clear HC; have HC := Lib.hid hc; clear hc
        have hq := HQ.out.trans (Keeps.below ((Below.refl _ _).drew))
        clear HQ; have HQ := Lib.hid hq; clear hq
        have HS := Lib.hid (show (fun u => Cel u bc 69 [.func (.func k1) #[] #[.pointer (some ⟨c1, 0, none⟩)], .func (.func k2) #[] #[.pointer (some ⟨c2, 0, none⟩)], .func (.func k3) #[] #[.pointer (some ⟨c3, 0, none⟩)]]) _ from HC.out)
        refine Draws.take 0 (v := ?v101) HS.out rfl (by kernel_rfl) (fun _ _ _ h => h) (Or.inl ⟨rfl, ?h101⟩) ?r101
        case h101 => intro w' hw'; go_simp; (try with_reducible rfl)
        (try simp only [Act.put, List.setIfInBounds_toArray, List.set_cons_zero, List.set_cons_succ])
        refine Draws.take 1 HS.out rfl (by kernel_rfl) (fun _ _ _ h => h) (yield_w cwT (fun _ h => h.cell (k := 1) rfl) _ rfl rfl rfl) ?_
        (try simp only [Act.put, List.setIfInBounds_toArray, List.set_cons_zero, List.set_cons_succ])
        refine Draws.take 2 (v := ?v102) HS.out rfl (by kernel_rfl) (fun _ _ _ h => h) (Or.inl ⟨rfl, ?h102⟩) ?r102
        case h102 => intro w' hw'; go_simp; (try with_reducible rfl)
        (try simp only [Act.put, List.setIfInBounds_toArray, List.set_cons_zero, List.set_cons_succ])
        refine Draws.take 3 (v := ?v103) HS.out rfl (by kernel_rfl) (fun _ _ _ h => h) (Or.inl ⟨rfl, ?h103⟩) ?r103
        case h103 => intro w' hw'; go_simp; (try with_reducible rfl)
        (try simp only [Act.put, List.setIfInBounds_toArray, List.set_cons_zero, List.set_cons_succ])
        refine Draws.take 4 (v := ?v104) HS.out rfl (by kernel_rfl) (fun _ _ _ h => h) (Or.inl ⟨rfl, ?h104⟩) ?r104
        case h104 => intro w' hw'; go_simp; (try with_reducible rfl)
        (try simp only [Act.put, List.setIfInBounds_toArray, List.set_cons_zero, List.set_cons_succ])
        refine Draws.does 5 rfl (by kernel_rfl) rfl (fun K hK => ?_)
        go_simp
        rw [HH.out.ent2, Oper.upon_enter]
        refine (hT _ HJ.out).mono ?_
        rintro e u ⟨rfl, hj, hk⟩
        (try dsimp only)
        clear HJ; have HJ := Lib.hid hj
        have hc := hk.cel (.inl rfl) HC.out; clear HC; have HC := Lib.hid hc; clear hc
        have hq := HQ.out.trans hk; clear HQ; have HQ := Lib.hid hq; clear hq hk hj
        refine hK.out _ _ (fun _ => HC.out) ?_
        clear hK K
        (try simp only [Act.put, List.setIfInBounds_toArray, List.set_cons_zero, List.set_cons_succ])
        refine Draws.done (by kernel_rfl) ?_
        clear HS
        have hj := HH.out.less _ 978 _ _ _ HJ.out (by decide)
        clear HJ; have HJ := Lib.hid hj; clear hj
        go_wp2_with (first
          | (with_reducible refine eql_want V3.out _ _ _ rfl rfl rfl rfl ?_)
          | (with_reducible refine eql_want K1.out _ _ _ rfl rfl rfl rfl ?_)
          | (with_reducible refine eql_want K2.out _ _ _ rfl rfl rfl rfl ?_)
          | (with_reducible refine load_there cbI _ rfl (hK1 _ HJ.out) rfl rfl ?_))
        go_end0
        exact ⟨rfl, _, _, HH.out.less _ 0 _ _ _ HJ.out (Nat.zero_le _)⟩
end
end Go.Proofs.YtofngihdnjgmeaaGreat
