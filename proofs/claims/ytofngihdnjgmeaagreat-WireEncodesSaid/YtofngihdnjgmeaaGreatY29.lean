/- Contracts of wire.Says and wire.Up, and of the document's Says.; Plain facts of what Down leaves, and what Up makes of it; two fields that are the same but for where their holds lie. -/
import Derived.Test.YtofngihdnjgmeaaGreatY01
import Derived.Test.YtofngihdnjgmeaaGreatY07
import Derived.Test.YtofngihdnjgmeaaGreatY09
import Derived.Test.YtofngihdnjgmeaaGreatY11
import Derived.Test.YtofngihdnjgmeaaGreatY12
import Derived.Test.YtofngihdnjgmeaaGreatY18
import Derived.Test.YtofngihdnjgmeaaGreatY21
import Derived.Test.YtofngihdnjgmeaaGreatY26
import Derived.Test.YtofngihdnjgmeaaGreatY27A
import Derived.Maps.OwnSet
import Derived.Maps.Views
import Derived.Maps.AppendAt
import Derived.OwnWalk
import Derived.Laws.OwnMore
import Derived.WalkKit
import Derived.ProofKit
import Derived.OpenShut
import Derived.ChangeOld
import Derived.Deep.Slices
import Derived.ChangeSlices
import Derived.Laws.AppendOwn
import Derived.Lib.Hide
import Derived.Deep.RegionHeld3
import Derived.Below
import Derived.Deep.MidRow
import Derived.Deep.QuietTactic
import Derived.BigQuiet
import Derived.Laws.StructEq
import Derived.WalkMore
import Derived.LoopTactic
import Derived.Defers
import Derived.Recover
import Derived.WalkSmall
import Derived.Lib.AppendZeros
import Derived.Deep.OwnRows
import Derived.Lib.SliceRun
import Derived.Shelf.SlSortCmp.WholeK
import Derived.Shelf.SlSortCmp.NoneTotal
namespace Go.Proofs.YtofngihdnjgmeaaGreat
set_option maxRecDepth 100000
open Go.ChangeShapes Go.WideShapes Go.ChangeAt Go.RowKit

/-! ### Says. -/
def saysB (v : Int) (p : Pf) : Bool := decide (dnErr v p = 0) && (decide (dE v p = 0) && decide ((dH v p).length = 0))
def saysR (v : Int) (p : Pf) : Bool := rightP p && verB v && (decide (v = 3) || decide (p.e = 0)) && (decide (1 < v) || decide (p.hs.length = 0))
theorem says_eq (v : Int) (p : Pf) : saysB v p = saysR v p := by
  cases hr : rightP p with
  | false => simp [saysB, saysR, dnErr, hr]
  | true =>
    cases hb : verB v with
    | false => simp [saysB, saysR, dnErr, hr, hb]
    | true =>
      have e0 : dnErr v p = 0 := by simp [dnErr, hr, hb]
      rcases ver_cases hb with rfl | rfl | rfl
      · simp [saysB, saysR, dE, dH, e0, hr, hb]
      · simp [saysB, saysR, dE, dH, e0, hr, hb]
      · simp [saysB, saysR, dE, dH, e0, hr, hb]
set_option maxHeartbeats 1000000 in
theorem says_any (v : Int) (hv : ok64W v) (p : Pf) (hp : p.full) (hN : p.nm.size ≤ 1000) (A : Option Addr) (c : Nat) (r : Bool) (hr : saysB v p = r) (w : World) (hd : Row w A p.hs.length p.hs) :
    Calls Tryz.prog 12 #[.int .i64 v, .agg (p.fd A c).cells.toArray] w fun e u => e = .returned (.bool r) ∧ Below w.heap.size w u := by
  have HK := Lib.hid (KeepF.start (w := w) (rows := [(A, p.hs.length, p.hs)]) (by simpa using hd))
  have HF := Lib.hid hp
  have HG := Lib.hid (dP_full hp v)
  have HZ := Lib.hid zP_full
  have hdn := fun w h => down_any v hv p hp hN A c w h
  have hi := fun A n c => isn_any (dE v p) A n c
  unfold saysB at hr
  clear hp hN hd hv
  generalize dnErr v p = E at hdn hr
  generalize dE v p = E2 at hdn hr hi
  generalize (dH v p) = H2 at hdn hr
  generalize dP v p = g at hdn HG
  by_cases hE : E = 0
  · subst hE
    have hi' := fun A c => hi A H2.length c r (by simpa using hr)
    clear hi hr
    go_enter Tryz.func12, Tryz.ntmps12
    go_wp2_with (first
      | (with_reducible refine box_f HK.out rfl _ rfl rfl ?_; intro b1 u hk; clear HK; have HK := Lib.hid hk; clear hk)
      | (with_reducible refine load_fr HK.out 0 Tryz.underlying33 rfl (Pf.infoF HF.out) _ rfl rfl rfl rfl Pf.all ?_)
      | (go_at_call 18; (with_reducible refine (hdn _ (HK.out.rowAt 0 rfl)).mono ?_); rintro e u ⟨A1, c1, A2, c2, rfl, hD⟩; have hk := HK.out.call hD.bel; clear hD; clear HK; have HK := Lib.hid hk; clear hk)
      | (with_reducible refine alloc_f HK.out f_zeroP rfl rfl ?_; intro b5 u hk; clear HK; have HK := Lib.hid hk; clear hk)
      | (with_reducible refine alloc_f HK.out rs_zero rfl rfl ?_; intro b6 u hk; clear HK; have HK := Lib.hid hk; clear hk)
      | (with_reducible refine store_fr HK.out 1 (Pf.infoF HG.out) (Fd.one _) rfl rfl _ _ rfl rfl rfl rfl (Fd.leP HZ.out HG.out) (Fd.setAllP HZ.out HG.out) ?_; intro u hk; simp only [List.set_cons_zero, List.set_cons_succ] at hk; clear HK; have HK := Lib.hid hk; clear hk)
      | (with_reducible refine store_fr HK.out 0 (rs_info _ _ _ _) (rs_one _ _ _ _) rfl rfl _ _ rfl rfl rfl rfl (rs_le _ _ _ _ _ _ _ _) (rs_put _ _ _ _ _ _ _ _) ?_; intro u hk; simp only [List.set_cons_zero] at hk; clear HK; have HK := Lib.hid hk; clear hk)
      | (with_reducible refine load_fr HK.out 0 Tryz.underlying49 rfl (rs_info _ _ _ _) _ rfl rfl rfl rfl rs_all ?_)
      | (go_at_call 25; (with_reducible refine (hi' _ _ _).mono ?_); rintro e u ⟨rfl, hb⟩; have hk := HK.out.call hb; clear hb; clear HK; have HK := Lib.hid hk; clear hk))
    go_ret
    exact ⟨rfl, HK.out.bel⟩
  · obtain rfl : r = false := by rw [← hr]; simp [hE]
    have e0 : (E == 0) = false := by simp [hE]
    clear hE hr hi
    go_enter Tryz.func12, Tryz.ntmps12
    go_wp2_with (first
      | (with_reducible refine box_f HK.out rfl _ rfl rfl ?_; intro b1 u hk; clear HK; have HK := Lib.hid hk; clear hk)
      | (with_reducible refine load_fr HK.out 0 Tryz.underlying33 rfl (Pf.infoF HF.out) _ rfl rfl rfl rfl Pf.all ?_)
      | (go_at_call 18; (with_reducible refine (hdn _ (HK.out.rowAt 0 rfl)).mono ?_); rintro e u ⟨A1, c1, A2, c2, rfl, hD⟩; have hk := HK.out.call hD.bel; clear hD; clear HK; have HK := Lib.hid hk; clear hk)
      | (with_reducible refine alloc_f HK.out f_zeroP rfl rfl ?_; intro b5 u hk; clear HK; have HK := Lib.hid hk; clear hk)
      | (with_reducible refine alloc_f HK.out rs_zero rfl rfl ?_; intro b6 u hk; clear HK; have HK := Lib.hid hk; clear hk)
      | (with_reducible refine store_fr HK.out 1 (Pf.infoF HG.out) (Fd.one _) rfl rfl _ _ rfl rfl rfl rfl (Fd.leP HZ.out HG.out) (Fd.setAllP HZ.out HG.out) ?_; intro u hk; simp only [List.set_cons_zero, List.set_cons_succ] at hk; clear HK; have HK := Lib.hid hk; clear hk)
      | (with_reducible refine store_fr HK.out 0 (rs_info _ _ _ _) (rs_one _ _ _ _) rfl rfl _ _ rfl rfl rfl rfl (rs_le _ _ _ _ _ _ _ _) (rs_put _ _ _ _ _ _ _ _) ?_; intro u hk; simp only [List.set_cons_zero] at hk; clear HK; have HK := Lib.hid hk; clear hk))
    go_ret
    exact ⟨rfl, HK.out.bel⟩
/-! ### Up. -/
def upQ (p : Pf) (e : Int) (hs : List Ho) : Pf := (p.setE (p.e + e)).setH (p.hs ++ hs)
def upArg (p : Pf) (e : Int) (hs : List Ho) : Bool := !rightP p || (decide (p.e ≠ 0) && decide (e ≠ 0)) || (decide (0 < p.hs.length) && decide (0 < hs.length))
def upErr (p : Pf) (e : Int) (hs : List Ho) : Int := if upArg p e hs = true then 1 else if rightP (upQ p e hs) = true then 0 else 4
def uP (p : Pf) (e : Int) (hs : List Ho) : Pf := if upErr p e hs = 0 then upQ p e hs else zP
theorem set_pairW (f : Nat → Value) (v v' : Value) : ((Array.map f (Array.range 2)).setIfInBounds 0 v).setIfInBounds 1 v' = #[v, v'] := by
  apply Array.ext
  · simp
  · intro i h1 h2
    have : i = 0 ∨ i = 1 := by simp at h2; omega
    rcases this with rfl | rfl <;> simp
theorem hs_info3 : (Tryz.prog.info? 31).map (fun i => (i.zero, i.size, i.bytes)) = some (some (.slice none 0 0), 1, 24) := by kernel_rfl
theorem run_build2h (A B : Option Addr) (n c m d : Nat) (u : World) : (Instr.buildSlice 147 2 #[(0, .slice A n c), (1, .slice B m d)]).run Tryz.prog u = .ok (.slice (some ⟨u.heap.size, 0, none⟩) 2 2) (u.alloc (.cells [.slice A n c, .slice B m d].toArray 31)) := by
  obtain ⟨i0, hi0, hz0, hz1, hz2⟩ := info_parts hs_info3
  simp [Instr.buildSlice, run_underlying Tryz.underlying147, sizeOf, typeInfo, zeroValue, hi0, hz0, hz1, Instr.fill, Value.cells, newRow, newObj, set_pairW]
  rfl
section
variable {ops : Array Oper} {rest : List Oper} {o : Oper} {a : Act} {w u : World} {l : List (Nat × TypeId × List Value)} {rows : List (Option Addr × Nat × List Ho)} {Q : Exit → Act → World → Prop}
theorem build_2s (hk : KeepF w l rows u) (hgd : o.guard = none) (x y : Operand) (ho : o.op = .buildSlice 147 2 #[(0, x), (1, y)]) {A B : Option Addr} {n c m d : Nat} (hx : a.eval x = .slice A n c) (hy : a.eval y = .slice B m d)
    (h : ∀ b u', KeepF w ((b, 31, [.slice A n c, .slice B m d]) :: l) rows u' → wpList Tryz.prog ops Q rest (a.put o.dst (.slice (some ⟨b, 0, none⟩) 2 2)) u') : wpList Tryz.prog ops Q (o :: rest) a u :=
  wpList_plain hgd fun K hK => by
    unfold Oper.wp execOp
    simp only [ho, List.map_toArray, List.map_cons, List.map_nil, hx, hy, Sem.run_bind, Sem.run_pure, Result.andThen_ok, run_build2h]
    exact hK _ _ (h _ _ (hk.new rfl))
end
theorem concat_sl (A B : Option Addr) (c d b : Nat) (xs ys : List Ho) (hN : xs.length + ys.length ≤ 1000) (w : World) (hb : Cel w b 31 [.slice A xs.length c, .slice B ys.length d]) (h1 : Row w A xs.length xs) (h2 : Row w B ys.length ys) :
    Calls Tryz.prog 58 #[.slice (some ⟨b, 0, none⟩) 2 2] w fun e w' => ∃ A1 c1, e = .returned (.slice A1 (xs ++ ys).length c1) ∧ Own w' w.heap.size (.slice A1 (xs ++ ys).length c1) (xs ++ ys) ∧ Below w.heap.size w w' := by
  have e : partH [(A, c, xs), (B, d, ys)] = xs ++ ys := by simp [partH]
  have h := concatH_any b 2 [(A, c, xs), (B, d, ys)] (by rw [e, List.length_append]; exact hN) (by simp) w (by
    intro i x hx
    match i, hx with
    | 0, hx =>
      simp at hx; subst hx
      exact ⟨hb.cell rfl, h1⟩
    | 1, hx =>
      simp at hx; subst hx
      exact ⟨hb.cell rfl, h2⟩
    | n + 2, hx => simp at hx)
  refine h.mono fun x w' ⟨v, hv, hk⟩ => ?_
  rw [e] at hk
  obtain ⟨A1, c1, rfl⟩ := hk.own.slice
  exact ⟨A1, c1, hv, hk.own, hk.keep.bel⟩
end Go.Proofs.YtofngihdnjgmeaaGreat

namespace Go.Proofs.YtofngihdnjgmeaaGreat
set_option maxRecDepth 100000
open Go.ChangeShapes Go.WideShapes Go.ChangeAt Go.RowKit

theorem right_parts {p : Pf} (h : rightP p = true) : nameB p.nm = true ∧ epB p.e = true ∧ ((p.k = 1 ∧ rightC p.C = true ∧ rightsL p.hs = true ∧ p.L.l = zL.l) ∨ (p.k = 2 ∧ rightL p.L = true ∧ p.hs = [] ∧ p.C = zer 579)) := by
  simp only [rightP, rightF, Bool.and_eq_true, Bool.or_eq_true] at h
  obtain ⟨⟨h1, h2⟩, h3⟩ := h
  refine ⟨h1, h2, ?_⟩
  rcases h3 with h3 | h3
  · simp only [rcB, Bool.and_eq_true, beq_iff_eq] at h3
    obtain ⟨⟨⟨a1, a2⟩, a3⟩, a4⟩ := h3
    exact .inl ⟨a1, a2, a3, a4⟩
  · simp only [rlB, Bool.and_eq_true, beq_iff_eq, decide_eq_true_eq] at h3
    obtain ⟨⟨⟨a1, a2⟩, a3⟩, a4⟩ := h3
    exact .inr ⟨a1, a2, List.eq_nil_of_length_eq_zero a3, a4⟩
theorem right_mk {p : Pf} (h1 : nameB p.nm = true) (h2 : epB p.e = true) (h3 : (p.k = 1 ∧ rightC p.C = true ∧ rightsL p.hs = true ∧ p.L.l = zL.l) ∨ (p.k = 2 ∧ rightL p.L = true ∧ p.hs = [] ∧ p.C = zer 579)) : rightP p = true := by
  simp only [rightP, rightF, Bool.and_eq_true, Bool.or_eq_true]
  refine ⟨⟨h1, h2⟩, ?_⟩
  rcases h3 with ⟨a1, a2, a3, a4⟩ | ⟨a1, a2, a3, a4⟩
  · refine .inl ?_
    simp only [rcB, Bool.and_eq_true, beq_iff_eq]
    exact ⟨⟨⟨a1, a2⟩, a3⟩, a4⟩
  · refine .inr ?_
    simp only [rlB, Bool.and_eq_true, beq_iff_eq, decide_eq_true_eq]
    exact ⟨⟨⟨a1, a2⟩, by rw [show (p.fd none 0).n = p.hs.length from rfl, a3]; rfl⟩, a4⟩
theorem ep_zero : epB 0 = true := by decide
theorem right_setE0 {p : Pf} (h : rightP p = true) : rightP (p.setE 0) = true := by
  obtain ⟨h1, _, h3⟩ := right_parts h
  exact right_mk (p := p.setE 0) h1 ep_zero h3
theorem right_setN {p : Pf} (h : rightP p = true) : rightP (p.setH []) = true := by
  obtain ⟨h1, h2, h3⟩ := right_parts h
  refine right_mk (p := p.setH []) h1 h2 ?_
  rcases h3 with ⟨a1, a2, _, a4⟩ | ⟨a1, a2, _, a4⟩
  · exact .inl ⟨a1, a2, rights_nil, a4⟩
  · exact .inr ⟨a1, a2, rfl, a4⟩
theorem dn_right {v : Int} {p : Pf} (h : rightP p = true) (hv : verB v = true) : rightP (dP v p) = true ∧ dnErr v p = 0 := by
  have e0 : dnErr v p = 0 := by simp [dnErr, h, hv]
  refine ⟨?_, e0⟩
  rcases ver_cases hv with rfl | rfl | rfl
  · simp only [dP, e0, if_true]; exact right_setN (right_setE0 h)
  · simp only [dP, e0, if_true]; exact right_setE0 h
  · simp only [dP, e0, if_true]; exact h
/-- With the residue it is what it was. -/
theorem up_dn {v : Int} {p : Pf} (h : rightP p = true) (hv : verB v = true) : upErr (dP v p) (dE v p) (dH v p) = 0 ∧ uP (dP v p) (dE v p) (dH v p) = p := by
  obtain ⟨h1, e0⟩ := dn_right h hv
  have hq : upQ (dP v p) (dE v p) (dH v p) = p := by
    rcases ver_cases hv with rfl | rfl | rfl
    · simp [upQ, dP, dE, dH, e0, Pf.setE, Pf.setH]
    · simp [upQ, dP, dE, dH, e0, Pf.setE, Pf.setH]
    · simp [upQ, dP, dE, dH, e0, Pf.setE, Pf.setH]
  have ha : upArg (dP v p) (dE v p) (dH v p) = false := by
    unfold upArg
    rw [h1]
    rcases ver_cases hv with rfl | rfl | rfl
    · simp [dP, dE, dH, e0, Pf.setE, Pf.setH]
    · simp [dP, dE, dH, e0, Pf.setE]
    · simp [dE, dH, e0]
  have hE : upErr (dP v p) (dE v p) (dH v p) = 0 := by rw [upErr, ha, hq, h]; simp
  exact ⟨hE, by rw [uP, hE, if_pos rfl, hq]⟩
set_option maxHeartbeats 4000000 in
theorem fsame2_any (p : Pf) (hp : p.full) (A B : Option Addr) (c d : Nat) (w : World) (h1 : Row w A p.hs.length p.hs) (h2 : Row w B p.hs.length p.hs) :
    Calls Tryz.prog 24 #[.agg (p.fd A c).cells.toArray, .agg (p.fd B d).cells.toArray] w fun e w' => e = .returned (.bool true) ∧ Below w.heap.size w w' := by
  have HK := Lib.hid (KeepF.start (w := w) (rows := [(A, p.hs.length, p.hs), (B, p.hs.length, p.hs)]) (by simp [h1, h2]))
  have HF := Lib.hid hp; clear hp
  go_enter Tryz.func24, Tryz.ntmps24
  go_wp2_with (first
    | (with_reducible refine box_f HK.out rfl _ rfl rfl ?_; intro b1 u hk; clear HK; have HK := Lib.hid hk; clear hk; with_reducible refine box_f HK.out rfl _ rfl rfl ?_; intro b2 u hk; clear HK; have HK := Lib.hid hk; clear hk))
  refine Draws.start (S := fun u => KeepF w [(b2, 33, (p.fd B d).cells), (b1, 33, (p.fd A c).cells)] [(A, p.hs.length, p.hs), (B, p.hs.length, p.hs)] u) (n := 27) 27 rfl (by kernel_rfl) ?_
  have hk := HK.out.drew
  clear HK; have HK := Lib.hid hk; clear hk
  have HS := Lib.hid (show (fun u => KeepF w [(b2, 33, (p.fd B d).cells), (b1, 33, (p.fd A c).cells)] [(A, p.hs.length, p.hs), (B, p.hs.length, p.hs)] u) _ from HK.out)
  refine Draws.take 0 HS.out rfl (by kernel_rfl) (fun _ _ _ h => h) (yield_fr (fun _ h => h) 1 Tryz.underlying33 rfl (Pf.infoF HF.out) _ rfl rfl rfl rfl Pf.all) ?_
  (try simp only [Act.put, List.setIfInBounds_toArray, List.set_cons_zero, List.set_cons_succ])
  refine Draws.take 2 HS.out rfl (by kernel_rfl) (fun _ _ _ h => h) (yield_fr (fun _ h => h) 0 Tryz.underlying33 rfl (Pf.infoF HF.out) _ rfl rfl rfl rfl Pf.all) ?_
  (try simp only [Act.put, List.setIfInBounds_toArray, List.set_cons_zero, List.set_cons_succ])
  refine Draws.does 1 rfl (by kernel_rfl) rfl (fun K hK => ?_)
  go_simp
  go_at_call 47
  refine (head_any p HF.out A c _).mono ?_
  rintro e u ⟨rfl, hb⟩
  (try dsimp only)
  have hk := HK.out.call hb; clear hb; clear HK; have HK := Lib.hid hk; clear hk
  refine hK.out _ _ (fun _ => HK.out) ?_
  clear hK K
  have hs : (fun u => KeepF w [(b2, 33, (p.fd B d).cells), (b1, 33, (p.fd A c).cells)] [(A, p.hs.length, p.hs), (B, p.hs.length, p.hs)] u) u := HK.out
  clear HS
  have HS := Lib.hid hs; clear hs
  (try simp only [Act.put, List.setIfInBounds_toArray, List.set_cons_zero, List.set_cons_succ])
  refine Draws.does 3 rfl (by kernel_rfl) rfl (fun K hK => ?_)
  go_simp
  go_at_call 47
  refine (head_any p HF.out B d _).mono ?_
  rintro e u ⟨rfl, hb⟩
  (try dsimp only)
  have hk := HK.out.call hb; clear hb; clear HK; have HK := Lib.hid hk; clear hk
  refine hK.out _ _ (fun _ => HK.out) ?_
  clear hK K
  have hs : (fun u => KeepF w [(b2, 33, (p.fd B d).cells), (b1, 33, (p.fd A c).cells)] [(A, p.hs.length, p.hs), (B, p.hs.length, p.hs)] u) u := HK.out
  clear HS
  have HS := Lib.hid hs; clear hs
  (try simp only [Act.put, List.setIfInBounds_toArray, List.set_cons_zero, List.set_cons_succ])
  refine Draws.take 4 HS.out rfl (by kernel_rfl) (fun _ _ _ h => h) (yield_eqv hd_guard (eql_hd p) _ _ _ rfl rfl rfl rfl) ?_
  (try simp only [Act.put, List.setIfInBounds_toArray, List.set_cons_zero, List.set_cons_succ])
  refine Draws.take 5 (v := ?v7) HS.out rfl (by kernel_rfl) (fun _ _ _ h => h) (Or.inl ⟨rfl, ?h7⟩) ?r7
  case h7 => intro w' hw'; go_simp; (try with_reducible rfl)
  (try simp only [Act.put, List.setIfInBounds_toArray, List.set_cons_zero, List.set_cons_succ])
  refine Draws.take 6 (v := ?v8) HS.out rfl (by kernel_rfl) (fun _ _ _ h => h) (Or.inl ⟨rfl, ?h8⟩) ?r8
  case h8 => intro w' hw'; go_simp; (try with_reducible rfl)
  (try simp only [Act.put, List.setIfInBounds_toArray, List.set_cons_zero, List.set_cons_succ])
  refine Draws.take 7 HS.out rfl (by kernel_rfl) (fun _ _ _ h => h) (yield_fr (fun _ h => h) 1 Tryz.underlying28 rfl (Pf.infoC HF.out) _ rfl rfl rfl rfl Pf.cC) ?_
  (try simp only [Act.put, List.setIfInBounds_toArray, List.set_cons_zero, List.set_cons_succ])
  refine Draws.take 8 (v := ?v9) HS.out rfl (by kernel_rfl) (fun _ _ _ h => h) (Or.inl ⟨rfl, ?h9⟩) ?r9
  case h9 => intro w' hw'; go_simp; (try with_reducible rfl)
  (try simp only [Act.put, List.setIfInBounds_toArray, List.set_cons_zero, List.set_cons_succ])
  refine Draws.take 9 HS.out rfl (by kernel_rfl) (fun _ _ _ h => h) (yield_fr (fun _ h => h) 0 Tryz.underlying28 rfl (Pf.infoC HF.out) _ rfl rfl rfl rfl Pf.cC) ?_
  (try simp only [Act.put, List.setIfInBounds_toArray, List.set_cons_zero, List.set_cons_succ])
  refine Draws.take 10 HS.out rfl (by kernel_rfl) (fun _ _ _ h => h) (yield_eqv c_guardF (c_same _ HF.out) _ _ _ rfl rfl rfl rfl) ?_
  (try simp only [Act.put, List.setIfInBounds_toArray, List.set_cons_zero, List.set_cons_succ])
  refine Draws.take 11 (v := ?v10) HS.out rfl (by kernel_rfl) (fun _ _ _ h => h) (Or.inl ⟨rfl, ?h10⟩) ?r10
  case h10 => intro w' hw'; go_simp; (try with_reducible rfl)
  (try simp only [Act.put, List.setIfInBounds_toArray, List.set_cons_zero, List.set_cons_succ])
  refine Draws.take 12 (v := ?v11) HS.out rfl (by kernel_rfl) (fun _ _ _ h => h) (Or.inl ⟨rfl, ?h11⟩) ?r11
  case h11 => intro w' hw'; go_simp; (try with_reducible rfl)
  (try simp only [Act.put, List.setIfInBounds_toArray, List.set_cons_zero, List.set_cons_succ])
  refine Draws.take 13 (v := ?v12) HS.out rfl (by kernel_rfl) (fun _ _ _ h => h) (Or.inl ⟨rfl, ?h12⟩) ?r12
  case h12 => intro w' hw'; go_simp; (try with_reducible rfl)
  (try simp only [Act.put, List.setIfInBounds_toArray, List.set_cons_zero, List.set_cons_succ])
  refine Draws.take 14 HS.out rfl (by kernel_rfl) (fun _ _ _ h => h) (yield_fr (fun _ h => h) 1 Tryz.underlying30 rfl (l_infoF _) _ rfl rfl rfl rfl (Pf.cL HF.out)) ?_
  (try simp only [Act.put, List.setIfInBounds_toArray, List.set_cons_zero, List.set_cons_succ])
  refine Draws.take 15 (v := ?v13) HS.out rfl (by kernel_rfl) (fun _ _ _ h => h) (Or.inl ⟨rfl, ?h13⟩) ?r13
  case h13 => intro w' hw'; go_simp; (try with_reducible rfl)
  (try simp only [Act.put, List.setIfInBounds_toArray, List.set_cons_zero, List.set_cons_succ])
  refine Draws.take 16 HS.out rfl (by kernel_rfl) (fun _ _ _ h => h) (yield_fr (fun _ h => h) 0 Tryz.underlying30 rfl (l_infoF _) _ rfl rfl rfl rfl (Pf.cL HF.out)) ?_
  (try simp only [Act.put, List.setIfInBounds_toArray, List.set_cons_zero, List.set_cons_succ])
  refine Draws.take 17 HS.out rfl (by kernel_rfl) (fun _ _ _ h => h) (yield_eqv lk_guard (l_same _) _ _ _ rfl rfl rfl rfl) ?_
  (try simp only [Act.put, List.setIfInBounds_toArray, List.set_cons_zero, List.set_cons_succ])
  refine Draws.take 18 (v := ?v14) HS.out rfl (by kernel_rfl) (fun _ _ _ h => h) (Or.inl ⟨rfl, ?h14⟩) ?r14
  case h14 => intro w' hw'; go_simp; (try with_reducible rfl)
  (try simp only [Act.put, List.setIfInBounds_toArray, List.set_cons_zero, List.set_cons_succ])
  refine Draws.take 19 (v := ?v15) HS.out rfl (by kernel_rfl) (fun _ _ _ h => h) (Or.inl ⟨rfl, ?h15⟩) ?r15
  case h15 => intro w' hw'; go_simp; (try with_reducible rfl)
  (try simp only [Act.put, List.setIfInBounds_toArray, List.set_cons_zero, List.set_cons_succ])
  refine Draws.take 20 (v := ?v16) HS.out rfl (by kernel_rfl) (fun _ _ _ h => h) (Or.inl ⟨rfl, ?h16⟩) ?r16
  case h16 => intro w' hw'; go_simp; (try with_reducible rfl)
  (try simp only [Act.put, List.setIfInBounds_toArray, List.set_cons_zero, List.set_cons_succ])
  refine Draws.take 21 HS.out rfl (by kernel_rfl) (fun _ _ _ h => h) (yield_c cbH (fun _ h => h.cellAt 1 rfl (Pf.cH HF.out)) _ rfl rfl rfl) ?_
  (try simp only [Act.put, List.setIfInBounds_toArray, List.set_cons_zero, List.set_cons_succ])
  refine Draws.take 22 (v := ?v17) HS.out rfl (by kernel_rfl) (fun _ _ _ h => h) (Or.inl ⟨rfl, ?h17⟩) ?r17
  case h17 => intro w' hw'; go_simp; (try with_reducible rfl)
  (try simp only [Act.put, List.setIfInBounds_toArray, List.set_cons_zero, List.set_cons_succ])
  refine Draws.take 23 HS.out rfl (by kernel_rfl) (fun _ _ _ h => h) (yield_c cbH (fun _ h => h.cellAt 0 rfl (Pf.cH HF.out)) _ rfl rfl rfl) ?_
  (try simp only [Act.put, List.setIfInBounds_toArray, List.set_cons_zero, List.set_cons_succ])
  refine Draws.does 24 rfl (by kernel_rfl) rfl (fun K hK => ?_)
  go_simp
  go_at_call 59
  refine (equal_any A B c d p.hs _ (HK.out.rowAt 0 rfl) (HK.out.rowAt 1 rfl)).mono ?_
  rintro e u ⟨rfl, hb⟩
  (try dsimp only)
  have hk := HK.out.call hb; clear hb; clear HK; have HK := Lib.hid hk; clear hk
  refine hK.out _ _ (fun _ => HK.out) ?_
  clear hK K
  have hs : (fun u => KeepF w [(b2, 33, (p.fd B d).cells), (b1, 33, (p.fd A c).cells)] [(A, p.hs.length, p.hs), (B, p.hs.length, p.hs)] u) u := HK.out
  clear HS
  have HS := Lib.hid hs; clear hs
  (try simp only [Act.put, List.setIfInBounds_toArray, List.set_cons_zero, List.set_cons_succ])
  refine Draws.take 25 (v := ?v18) HS.out rfl (by kernel_rfl) (fun _ _ _ h => h) (Or.inl ⟨rfl, ?h18⟩) ?r18
  case h18 => intro w' hw'; go_simp; (try with_reducible rfl)
  (try simp only [Act.put, List.setIfInBounds_toArray, List.set_cons_zero, List.set_cons_succ])
  refine Draws.take 26 (v := ?v19) HS.out rfl (by kernel_rfl) (fun _ _ _ h => h) (Or.inl ⟨rfl, ?h19⟩) ?r19
  case h19 => intro w' hw'; go_simp; (try with_reducible rfl)
  (try simp only [Act.put, List.setIfInBounds_toArray, List.set_cons_zero, List.set_cons_succ])
  refine Draws.done (by kernel_rfl) ?_
  clear HS
  go_wp2
  go_ret
  exact ⟨rfl, HK.out.bel⟩
end Go.Proofs.YtofngihdnjgmeaaGreat
