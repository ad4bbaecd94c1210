/- What wire.reading gives, and what is read as a field.; wire.Decode. -/
import Derived.Test.YtofngihdnjgmeaaGreatY01
import Derived.Test.YtofngihdnjgmeaaGreatY04
import Derived.Test.YtofngihdnjgmeaaGreatY07
import Derived.Test.YtofngihdnjgmeaaGreatY09
import Derived.Test.YtofngihdnjgmeaaGreatY10
import Derived.Test.YtofngihdnjgmeaaGreatY11
import Derived.Test.YtofngihdnjgmeaaGreatY12
import Derived.Test.YtofngihdnjgmeaaGreatY17
import Derived.Test.YtofngihdnjgmeaaGreatY18
import Derived.Test.YtofngihdnjgmeaaGreatY21
import Derived.Test.YtofngihdnjgmeaaGreatY22A
import Derived.Test.YtofngihdnjgmeaaGreatY25
import Derived.Test.YtofngihdnjgmeaaGreatY27A
import Derived.WalkKit
import Derived.ProofKit
import Derived.Lib.Hide
import Derived.Deep.RegionHeld3
import Derived.Below
import Derived.Deep.MidRow
import Derived.Deep.QuietTactic
import Derived.BigQuiet
import Derived.Laws.StructEq
import Derived.Laws.OwnMore
import Derived.Maps.AppendAt
import Derived.OwnWalk
import Derived.OpenShut
import Derived.ChangeOld
import Derived.Deep.Slices
import Derived.ChangeSlices
import Derived.Laws.AppendOwn
import Derived.WalkMore
import Derived.LoopTactic
import Derived.Defers
import Derived.Recover
import Derived.WalkSmall
import Derived.Lib.AppendZeros
import Derived.Deep.OwnRows
import Derived.Lib.SliceRun
import Derived.Shelf.SlSortCmp.WholeK
import Derived.Shelf.SlSortCmp.NoneTotal
import Derived.Laws.Cover3
import Derived.Lib.AppendStr
import Derived.Laws.IdiomStrings
import Derived.ShutString
import Derived.Maps.OwnSet
import Derived.Maps.Views
namespace Go.Proofs.YtofngihdnjgmeaaGreat
set_option maxRecDepth 100000
open Go.ChangeShapes Go.WideShapes Go.ChangeAt Go.RowKit

def byR (B : Nat) : List Value := [.func (.func 78) #[] #[.pointer (some ⟨B, 0, none⟩)], .func (.func 79) #[] #[.pointer (some ⟨B, 0, none⟩)], .func (.func 81) #[] #[.pointer (some ⟨B, 0, none⟩)]]
theorem byR_build (B : Nat) (W : World) : (Instr.build 69 #[(0, .func (.func 78) #[] #[.pointer (some ⟨B, 0, none⟩)]), (1, .func (.func 79) #[] #[.pointer (some ⟨B, 0, none⟩)]), (2, .func (.func 81) #[] #[.pointer (some ⟨B, 0, none⟩)])]).run Tryz.prog W = .ok (.agg (byR B).toArray) W := by kernel_rfl
theorem build_byR {ops : Array Oper} {rest : List Oper} {o : Oper} {a : Act} {u : World} {Q : Exit → Act → World → Prop} (hgd : o.guard = none) (x y z : Operand) (ho : o.op = .build 69 #[(0, x), (1, y), (2, z)]) {B : Nat} (hx : a.eval x = .func (.func 78) #[] #[.pointer (some ⟨B, 0, none⟩)]) (hy : a.eval y = .func (.func 79) #[] #[.pointer (some ⟨B, 0, none⟩)]) (hz : a.eval z = .func (.func 81) #[] #[.pointer (some ⟨B, 0, none⟩)])
    (h : wpList Tryz.prog ops Q rest (a.put o.dst (.agg (byR B).toArray)) u) : wpList Tryz.prog ops Q (o :: rest) a u :=
  wpList_plain hgd fun K hK => by
    unfold Oper.wp execOp
    simp only [ho, List.map_toArray, List.map_cons, List.map_nil, hx, hy, hz, Sem.run_bind, Sem.run_pure, Result.andThen_ok, byR_build]
    exact hK _ _ h
theorem byR_len (B : Nat) : (Tryz.prog.info? 69).map (·.size) = some (byR B).length := by rw [show (byR B).length = 3 from rfl]; kernel_rfl
theorem byR_one (B : Nat) : (byR B).toArray.all (·.oneCell') = true := by simp [byR, Value.oneCell']
theorem byR_put (B : Nat) : spl [Value.nilFunc, .nilFunc, .nilFunc] 0 (byR B) = byR B := rfl
theorem byR_le (B : Nat) : 0 + (byR B).length ≤ [Value.nilFunc, .nilFunc, .nilFunc].length := Nat.le_refl 3
set_option maxHeartbeats 1000000 in
theorem reading_any (rb : Nat) (w : World) :
    Calls Tryz.prog 36 #[.pointer (some ⟨rb, 0, none⟩)] w fun e u => ∃ B, e = .returned (.agg (byR B).toArray) ∧ Cel u B 76 [.pointer (some ⟨rb, 0, none⟩)] ∧ Below w.heap.size w u := by
  have HK := Lib.hid (KeepF.start (w := w) (rows := []) (by simp))
  have hmf : ∀ (fn : Fn) (first cap : Array Value) (w : World), (Instr.makeFunc fn first cap).run Tryz.prog w = .ok (.func fn first cap) w := fun _ _ _ _ => rfl
  go_enter Tryz.func36, Tryz.ntmps36
  go_wp2_with (first
    | (with_reducible refine box_ptr HK.out rfl _ rfl rfl ?_; intro b1 u hk; clear HK; have HK := Lib.hid hk; clear hk)
    | (with_reducible refine alloc_f HK.out by_zero rfl rfl ?_; intro b2 u hk; clear HK; have HK := Lib.hid hk; clear hk)
    | (with_reducible refine build_byR rfl _ _ _ rfl rfl rfl rfl ?_)
    | (with_reducible refine store_fr HK.out 0 (byR_len _) (byR_one _) rfl rfl _ _ rfl rfl rfl rfl (byR_le _) (byR_put _) ?_; intro u hk; simp only [List.set_cons_zero] at hk; clear HK; have HK := Lib.hid hk; clear hk))
  exact bodyPost_ret (results_f1 rfl Tryz.underlying69 rfl (byR_len _) _ HK.out 0 rfl rfl) rfl ⟨b1, rfl, HK.out.get 1 rfl, HK.out.bel⟩

/-! ### The numbers as a field. -/
def hosOf : List Int → List Ho
  | a :: b :: c :: d :: e :: r => ⟨a, b, c, d, e⟩ :: hosOf r
  | _ => []
theorem hosOf_flat : ∀ (n : Nat) (R : List Int), R.length = n * 5 → flat (hosOf R) = R ∧ (hosOf R).length = n
  | 0, R, h => by
    obtain rfl : R = [] := List.eq_nil_of_length_eq_zero (by omega)
    exact ⟨rfl, rfl⟩
  | n + 1, R, h => by
    match R, h with
    | a :: b :: c :: d :: e :: r, h =>
      obtain ⟨h1, h2⟩ := hosOf_flat n r (by simp only [List.length_cons] at h; omega)
      refine ⟨?_, by rw [hosOf, List.length_cons, h2]⟩
      rw [hosOf]
      show (Ho.l ⟨a, b, c, d, e⟩) ++ flat (hosOf r) = _
      rw [h1]
      rfl
    | [], h => simp at h
    | [_], h => simp only [List.length_cons, List.length_nil] at h; omega
    | [_, _], h => simp only [List.length_cons, List.length_nil] at h; omega
    | [_, _, _], h => simp only [List.length_cons, List.length_nil] at h; omega
    | [_, _, _, _], h => simp only [List.length_cons, List.length_nil] at h; omega
def ofX (nm : ByteArray) (X R : List Int) : Pf := ⟨nm, X.getD 0 0, X.getD 1 0, seg X 2 579, ⟨X.getD 581 0, X.getD 582 0, X.getD 583 0, X.getD 584 0⟩, hosOf R⟩
theorem ofX_full {nm : ByteArray} {X R : List Int} (h : X.length = 585) : (ofX nm X R).full := seg_length (by omega)
theorem four_of {l : List Int} (h : l.length = 4) : l = [l.getD 0 0, l.getD 1 0, l.getD 2 0, l.getD 3 0] := by
  match l, h with
  | [a, b, c, d], _ => rfl
theorem ofX_X {nm : ByteArray} {X R : List Int} (h : X.length = 585) : (ofX nm X R).X = X := by
  match X, h with
  | a :: b :: r, h =>
    have hr : r.length = 583 := by simpa using h
    have e4 := four_of (l := r.drop 579) (by rw [List.length_drop]; omega)
    have g : ∀ j, (r.drop 579).getD j 0 = r.getD (579 + j) 0 := fun j => by simp [List.getD, List.getElem?_drop]
    rw [g 0, g 1, g 2, g 3] at e4
    show a :: b :: (r.take 579 ++ [r.getD 579 0, r.getD 580 0, r.getD 581 0, r.getD 582 0]) = a :: b :: r
    rw [← e4, List.take_append_drop]
theorem ofX_cells {nm : ByteArray} {X R : List Int} {n : Nat} (h : X.length = 585) (hR : R.length = n * 5) (A : Option Addr) (c : Nat) : (Mm.mk nm X A n c R).cells = ((ofX nm X R).fd A c).cells := by
  obtain ⟨h1, h2⟩ := hosOf_flat n R hR
  rw [← Pf.mm_cells, Pf.mm, ofX_X h]
  show _ = (Mm.mk nm X A (hosOf R).length c (flat (hosOf R))).cells
  rw [h1, h2]
theorem ofX_row {u : World} {A : Option Addr} {n : Nat} {R : List Int} (hR : R.length = n * 5) (hn : n ≤ 1000) (hA : 0 < n → ∃ b off, A = some ⟨b, off, none⟩) (hc : ∀ b off, A = some ⟨b, off, none⟩ → off = 0 ∧ Cel u b 55 (vals R)) : Row u A (hosOf R).length (hosOf R) := by
  obtain ⟨h1, h2⟩ := hosOf_flat n R hR
  refine ⟨rfl, by omega, ?_⟩
  rcases Nat.eq_zero_or_pos n with h0 | h0
  · left; omega
  · right
    obtain ⟨b, off, rfl⟩ := hA h0
    obtain ⟨rfl, hc2⟩ := hc b off rfl
    refine ⟨b, 0, rfl, fun k hk => hc2.range fun j v hv => ?_⟩
    obtain ⟨hj, rfl⟩ := vals_at hv
    have hj : j < 5 := by simpa [Ho.l] using hj
    rw [← flat_get hk hj, h1, Nat.zero_add]
    exact vals_get (by omega)
/-- What is read of bytes. -/
def dcF (l : List UInt8) : FR RS := fE gR txR ctR (oct.rnN l 0) (oct.rnL l 0, oct.rnE l 0) zP.nm zP.X 0 []
def dcP (l : List UInt8) : Pf := ofX (dcF l).nm (dcF l).X (dcF l).R
def dcErr (l : List UInt8) : Int :=
  if oct.rnE l 0 = 0 ∧ verB (oct.rnN l 0) = false then 18
  else if oct.endE (dcF l).s.1 (dcF l).s.2 = 0 then (if rightP (dcP l) = true then 0 else 4) else oct.endE (dcF l).s.1 (dcF l).s.2
def dcV (l : List UInt8) : Int := if dcErr l = 0 then oct.rnN l 0 else 0
def dcG (l : List UInt8) : Pf := if dcErr l = 0 then dcP l else zP
section
variable {ops : Array Oper} {rest : List Oper} {o : Oper} {a : Act} {u : World} {Q : Exit → Act → World → Prop}
theorem alloc_cel {ty : TypeId} {cs : List Value} (hz : (Tryz.prog.info? ty).bind (·.zero) = some (.agg cs.toArray)) (hgd : o.guard = none) (ho : o.op = .alloc ty)
    (h : ∀ b u', u.heap.size ≤ b → Below u.heap.size u u' → Cel u' b ty cs → wpList Tryz.prog ops Q rest (a.put o.dst (.pointer (some ⟨b, 0, none⟩))) u') : wpList Tryz.prog ops Q (o :: rest) a u :=
  wpList_plain hgd fun K hK => by
    have e : (Instr.alloc ty true (.tuple #[])).run Tryz.prog u = .ok (.pointer (some ⟨u.heap.size, 0, none⟩)) (u.alloc (.cells cs.toArray ty)) := by
      cases hq : Tryz.prog.info? ty with
      | none => simp [hq] at hz
      | some i =>
        simp only [hq, Option.bind_some] at hz
        simp [Instr.alloc, zeroValue, typeInfo, hq, hz, newVar, newRow, newObj, Value.cells]
        rfl
    unfold Oper.wp execOp
    simp only [ho, Sem.run_bind, Sem.run_pure, Result.andThen_ok, e]
    exact hK _ _ (h _ _ (Nat.le_refl _) ((Below.refl _ _).alloc (Nat.le_refl _) _) (Cel.new u _ _))
/-- A whole variable is written. -/
theorem wp_store_cel {K : Act → World → Prop} {b : Nat} {ty t : TypeId} {cs xs : List Value} (hc : Cel u b t cs) (hs : (Tryz.prog.info? ty).map (·.size) = some xs.length) (h1 : xs.toArray.all (·.oneCell') = true) (hl : xs.length = cs.length) (hp : spl cs 0 xs = xs) (hd : o.dst = none) (x y : Operand) (ho : o.op = .store ty x y) (hx : a.eval x = .pointer (some ⟨b, 0, none⟩)) (hy : a.eval y = .agg xs.toArray)
    (h : ∀ u', (∀ B w0, B ≤ b → Below B w0 u → Below B w0 u') → (∀ j, j ≠ b → u'.heap[j]? = u.heap[j]?) → Cel u' b t xs → K a u') : o.wp Tryz.prog a u K Q := by
  refine wp_store_mid ty x y ho b 0 _ hx hy (by simpa using hc.there (o := 0) (n := xs.length) (by omega)) (by simpa using hs) h1 ?_
  rw [hd]
  have h3 := hc.setCells xs 0
  rw [hp] at h3
  exact h _ (fun B w0 hB hb => below_cells hB _ hb 0) (setCells_else b xs 0 u) h3
theorem store_cel {b : Nat} {ty t : TypeId} {cs xs : List Value} (hc : Cel u b t cs) (hs : (Tryz.prog.info? ty).map (·.size) = some xs.length) (h1 : xs.toArray.all (·.oneCell') = true) (hl : xs.length = cs.length) (hp : spl cs 0 xs = xs) (hgd : o.guard = none) (hd : o.dst = none) (x y : Operand) (ho : o.op = .store ty x y) (hx : a.eval x = .pointer (some ⟨b, 0, none⟩)) (hy : a.eval y = .agg xs.toArray)
    (h : ∀ u', (∀ B w0, B ≤ b → Below B w0 u → Below B w0 u') → (∀ j, j ≠ b → u'.heap[j]? = u.heap[j]?) → Cel u' b t xs → wpList Tryz.prog ops Q rest a u') : wpList Tryz.prog ops Q (o :: rest) a u :=
  wpList_plain hgd fun _ hK => wp_store_cel hc hs h1 hl hp hd x y ho hx hy fun u' h1 h2 h3 => hK _ _ (h u' h1 h2 h3)
end
theorem results_tft {fn : Func} {p q r : Tmp} {ty : TypeId} {d : TypeDesc} {cs : List Value} (h : fn.results = #[.tmp q, .cell p ty, .tmp r]) (hu : Tryz.prog.underlying ty = some d) (hd : d.isRow = true) (hs : (Tryz.prog.info? ty).map (·.size) = some cs.length) (tmps : Array Value) {u : World} {b : Nat} (v v' : Value) (hc : Cel u b ty cs) (hp : tmps.getD p undef = .pointer (some ⟨b, 0, none⟩)) (hq : tmps.getD q undef = v) (hr : tmps.getD r undef = v') : (results fn tmps).run Tryz.prog u = .ok (.tuple #[v, .agg cs.toArray, v']) u := by
  have hp' : tmps[p]?.getD undef = .pointer (some ⟨b, 0, none⟩) := by simpa using hp
  have hq' : tmps[q]?.getD undef = v := by simpa using hq
  have hr' : tmps[r]?.getD undef = v' := by simpa using hr
  have hr := run_loadVar_row (P := Tryz.prog) u b _ ty _ (0, 0) _ hc hu (by cases d <;> simp_all) (by rw [List.size_toArray]; exact hs)
  simp [results, h, hp', hq', hr', asAddr, hr]
end Go.Proofs.YtofngihdnjgmeaaGreat

namespace Go.Proofs.YtofngihdnjgmeaaGreat
set_option maxRecDepth 100000
open Go.ChangeShapes Go.WideShapes Go.ChangeAt Go.RowKit

theorem rtS_len (l : List UInt8) (e : Int) : (oct.rtS 8 l e).length ≤ 8 := by
  have h := oct.rcN_bounds (most := 8) (l := l) (er := e) (by decide)
  unfold oct.rtS
  split
  · rw [List.length_take]; omega
  · simp
theorem fER_nm (v : Int) (s : RS) (nm : ByteArray) (X : List Int) (n : Nat) (R : List Int) : (fE gR txR ctR v s nm X n R).nm.size ≤ 8 := by
  have h : ∀ s nm, (txR s nm).2.size ≤ 8 := fun s nm => rtS_len s.1 s.2
  unfold fE
  simp only
  repeat' split
  all_goals exact h (fo gR 1 0 (s, X)).1 nm
theorem dcP_nm (l : List UInt8) : (dcP l).nm.size ≤ 8 := fER_nm _ _ _ _ _ _
theorem rnN_ok (l : List UInt8) : ok64W (oct.rnN l 0) := by
  show ok64W (oct.decN l)
  by_cases h : oct.decE l = 0
  · have := isB_iff.1 (oct.dec_zero h).2.2.1
    exact WalkArith.wf_i64 (by omega)
  · rw [oct.dec_not h]; decide
theorem tbl_hit {v : Int} (h : verB v = true) (q : Nat) : ∃ x, tbl q v = some x := by
  rcases ver_cases h with rfl | rfl | rfl
  · exact ⟨_, rfl⟩
  · exact ⟨_, rfl⟩
  · exact ⟨_, rfl⟩
theorem tbl_miss {v : Int} (h : verB v = false) (q : Nat) : tbl q v = none := by
  obtain ⟨h1, h2, h3⟩ := ver_not h
  unfold tbl
  rw [if_neg h1, if_neg h2, if_neg h3]
theorem dcF_len (l : List UInt8) : (dcF l).X.length = 585 := by
  have h0 : zP.X.length = 585 := Pf.X_len zP_full
  unfold dcF fE
  simp only
  repeat' split
  all_goals simp only [fo_length, h0]
set_option maxHeartbeats 4000000 in
theorem decode_any (A : Option Addr) (k c : Nat) (l : List UInt8) (hl : l.length = k) (hm : k ≤ 1000000) (w : World) (hy : oct.Bys w A l) :
    Calls Tryz.prog 14 #[.slice A k c] w fun e u => ∃ A1 c1, e = .returned (.tuple #[.int .i64 (dcV l), .agg ((dcG l).fd A1 c1).cells.toArray, .int .i64 (dcErr l)]) ∧ Row u A1 (dcG l).hs.length (dcG l).hs ∧ Fresh w.heap.size A1 c1 (dcG l).hs ∧ Below w.heap.size w u := by
  have HZ := Lib.hid zP_full
  have HY0 := Lib.hid hy; clear hy
  have hv := rnN_ok l
  have hnum := fun r w h => oct.rnum_any r l 0 (by omega) w h
  have hpf : (dcP l).full := ofX_full (dcF_len l)
  have hend := fun r w h => oct.end_any r (dcF l).s.1 (dcF l).s.2 w h
  have hfin : ∀ (u0 : World) (rb b9 BR : Nat) (u : World), Below u0.heap.size u0 u → u0.heap.size ≤ rb → u0.heap.size ≤ b9 → oct.Rd u rb (oct.rnL l 0) (oct.rnE l 0) → Cel u b9 33 (zP.fd none 0).cells → Cel u BR 76 [.pointer (some ⟨rb, 0, none⟩)] →
      Calls Tryz.prog 28 #[.agg (byR BR).toArray, .int .i64 (oct.rnN l 0), .pointer (some ⟨b9, 0, none⟩)] u fun e u' => e = .returned (.tuple #[]) ∧ ∃ A4 c4, Cel u' b9 33 ((dcP l).fd A4 c4).cells ∧ oct.Rd u' rb (dcF l).s.1 (dcF l).s.2 ∧ Below u0.heap.size u0 u' ∧ Row u' A4 (dcP l).hs.length (dcP l).hs ∧ (∀ b off, A4 = some ⟨b, off, none⟩ → u0.heap.size ≤ b) ∧ (dcP l).hs.length ≤ c4 := by
    intro u0 rb b9 BR u hb hn h9 hr hc hB
    refine (field_car (carR u0 b9 rb BR) (oct.rnN l 0) (oct.rnL l 0, oct.rnE l 0) (Mm.mk zP.nm zP.X none 0 0 []) u ⟨hb, by have e := Pf.mm_cells zP none 0; rw [Pf.mm] at e; exact e ▸ hc, hB, hr, by have := rnL_len l 0; show (oct.rnL l 0).length ≤ 1000000; omega, h9, hn, Pf.X_len zP_full, ⟨rfl, Nat.zero_le _, fun h => absurd h (Nat.lt_irrefl 0)⟩, Nat.le_refl 0, fun b off h => by cases h⟩).mono fun e u' ⟨he, A4, c4, hj⟩ => ?_
    have hX := hj.xl
    have hf := hj.f
    have h1 := hj.hr
    have h2 := hj.rc
    simp only at hX h1 h2
    rw [ofX_cells hX h1.1] at hf
    exact ⟨he, A4, c4, hf, hj.rd, hj.bel, ofX_row h1.1 (by omega) h1.2.2 (fun b off hA => ⟨(h2 b off hA).1, (h2 b off hA).2.2⟩), fun b off ha => (h2 b off ha).2.1, by have h5 := hj.cp; simp only at h5; have h6 := (hosOf_flat _ _ h1.1).2; show (hosOf (dcF l).R).length ≤ c4; exact Nat.le_trans (Nat.le_of_eq h6) h5⟩
  by_cases hE : oct.rnE l 0 = 0
  · cases hvb : verB (oct.rnN l 0) with
    | false =>
      have e1 : dcErr l = 18 := by rw [dcErr, if_pos ⟨hE, hvb⟩]
      rw [show dcV l = 0 by simp [dcV, e1], show dcG l = zP by simp [dcG, e1], e1]
      have htn := fun q => tbl_miss hvb q
      rw [hE] at hnum
      clear hE hvb e1 hfin hend hpf
      generalize oct.rnN l 0 = V at *
      generalize oct.rnL l 0 = L at *
      go_enter Tryz.func14, Tryz.ntmps14
      go_wp2_with (first
        | (with_reducible refine alloc_cel f_zeroP rfl rfl ?_; intro b3 u0 hn hb hc; have hy := HY0.out.below hb; clear HY0; have HY := Lib.hid hy; have HW := Lib.hid hb; have H3 := Lib.hid hc; have N3 := Lib.hid hn; have HB := Lib.hid (Below.refl u0.heap.size u0); clear hy hb hc hn)
        | (go_at_call 32; (with_reducible refine (oct.new_any A k c l hl hm _ HY.out).mono ?_); rintro e u ⟨rb, rfl, hn, hr, hb⟩; clear HB HY; have HB := Lib.hid hb; have NR := Lib.hid hn; have HR := Lib.hid hr; clear hb hr hn)
        | (go_at_call 33; (with_reducible refine (hnum _ _ HR.out).mono ?_); rintro e u ⟨rfl, hr, ho⟩; have hb := oct.Only.below HB.out ho NR.out; clear HB HR; have HB := Lib.hid hb; have HR := Lib.hid hr; clear hr ho hb)
        | (go_at_call 34; (with_reducible refine (sayings_any _).mono ?_); rintro e u ⟨bm, q, rfl, hm2, hs⟩; have hb := hs.bel; have hr := HR.out.below hb; clear HR; have HR := Lib.hid hr; have hb2 := HB.out.trans (hb.mono HB.out.size); clear HB; have HB := Lib.hid hb2; clear hb2; have HM := Lib.hid hm2; clear hb hr hm2 hs)
        | (go_at_call 35; (with_reducible refine (oct.err_any _ _ _ _ HR.out).mono ?_); rintro e u ⟨rfl, rfl⟩)
        | (with_reducible refine fm_miss HM.out hv (htn _) rfl _ _ rfl rfl rfl ?_)
        | (with_reducible refine build_fw f_buildP rfl rfl ?_)
        | (with_reducible refine store_cel (H3.out.below HB.out H3.out.lt) (Pf.infoF HZ.out) (Fd.one _) rfl (Fd.setAllP HZ.out HZ.out) rfl rfl _ _ rfl rfl rfl ?_; intro u h1 _ h3; have hw := h1 _ _ N3.out (HW.out.trans (HB.out.mono HW.out.size)); have HWW := Lib.hid hw; have H33 := Lib.hid h3; clear h1 h3 hw))
      exact bodyPost_ret (results_tft rfl Tryz.underlying33 rfl (Pf.infoF HZ.out) _ _ _ H33.out rfl rfl rfl) rfl ⟨none, 0, rfl, Row.nil _ _, Fresh.none0 _, HWW.out⟩
    | true =>
      have hcond : ¬ (oct.rnE l 0 = 0 ∧ verB (oct.rnN l 0) = false) := fun h => by rw [hvb] at h; exact absurd h.2 (by decide)
      have htb := fun q => tbl_hit hvb q
      rw [hE] at hnum hfin
      clear hvb
      by_cases hE2 : oct.endE (dcF l).s.1 (dcF l).s.2 = 0
      · cases hrp : rightP (dcP l) with
        | false =>
          have e1 : dcErr l = 4 := by rw [dcErr, if_neg hcond, if_pos hE2, hrp]; rfl
          rw [show dcV l = 0 by simp [dcV, e1], show dcG l = zP by simp [dcG, e1], e1]
          have hrt := fun A c w h => right_p (dcP l) hpf (by have := dcP_nm l; omega) A c false hrp w h
          rw [hE2] at hend
          have HG := Lib.hid hpf
          clear hE hcond hpf e1 hE2 hrp
          generalize dcP l = P at *
          generalize (dcF l).s.1 = S1 at *
          generalize (dcF l).s.2 = E1 at *
          generalize oct.rnN l 0 = V at *
          generalize oct.rnL l 0 = L at *
          generalize oct.rnE l 0 = E at *
          go_enter Tryz.func14, Tryz.ntmps14
          go_wp2_with (first
            | (with_reducible refine alloc_cel f_zeroP rfl rfl ?_; intro b3 u0 hn hb hc; have hy := HY0.out.below hb; clear HY0; have HY := Lib.hid hy; have HW := Lib.hid hb; have H3 := Lib.hid hc; have N3 := Lib.hid hn; have HB := Lib.hid (Below.refl u0.heap.size u0); clear hy hb hc hn)
            | (go_at_call 32; (with_reducible refine (oct.new_any A k c l hl hm _ HY.out).mono ?_); rintro e u ⟨rb, rfl, hn, hr, hb⟩; clear HB HY; have HB := Lib.hid hb; have NR := Lib.hid hn; have HR := Lib.hid hr; clear hb hr hn)
            | (go_at_call 33; (with_reducible refine (hnum _ _ HR.out).mono ?_); rintro e u ⟨rfl, hr, ho⟩; have hb := oct.Only.below HB.out ho NR.out; clear HB HR; have HB := Lib.hid hb; have HR := Lib.hid hr; clear hr ho hb)
            | (go_at_call 34; (with_reducible refine (sayings_any _).mono ?_); rintro e u ⟨bm, q, rfl, hm2, hs⟩; have hb := hs.bel; have hr := HR.out.below hb; clear HR; have HR := Lib.hid hr; have hb2 := HB.out.trans (hb.mono HB.out.size); clear HB; have HB := Lib.hid hb2; clear hb2; have HM := Lib.hid hm2; clear hb hr hm2 hs; obtain ⟨x, htx⟩ := htb q)
            | (go_at_call 35; (with_reducible refine (oct.err_any _ _ _ _ HR.out).mono ?_); rintro e u ⟨rfl, rfl⟩)
            | (with_reducible refine fm_hit HM.out hv htx rfl _ _ rfl rfl rfl ?_)
            | (with_reducible refine alloc_cel f_zeroP rfl rfl ?_; intro b9 u hn hb hc; have hr := HR.out.below hb; have hn9 := Nat.le_trans HB.out.size hn; clear HR; have HR := Lib.hid hr; have hb2 := HB.out.trans (hb.mono HB.out.size); clear HB; have HB := Lib.hid hb2; clear hb2; have H9 := Lib.hid hc; have N9 := Lib.hid hn9; clear hr hn9 hb hc hn)
            | (go_at_call 36; (with_reducible refine (reading_any _ _).mono ?_); rintro e u ⟨BR, rfl, hc, hb⟩; have h9 := H9.out.below hb H9.out.lt; have hr := HR.out.below hb; clear HR H9; have HR := Lib.hid hr; have H9 := Lib.hid h9; have hb2 := HB.out.trans (hb.mono HB.out.size); clear HB; have HB := Lib.hid hb2; clear hb2; have HP := Lib.hid hc; clear hr h9 hb hc)
            | (go_at_call 28; (with_reducible refine (hfin _ _ _ _ _ HB.out NR.out N9.out HR.out H9.out HP.out).mono ?_); rintro e u ⟨rfl, A4, c4, h9, hr, hb, hrow, hnew, hcap⟩; clear HB HR H9 HP; have HB := Lib.hid hb; have HR := Lib.hid hr; have H9 := Lib.hid h9; have HRW := Lib.hid hrow; have HNW := Lib.hid hnew; have HCP := Lib.hid hcap; clear h9 hr hb hrow hnew hcap)
            | (go_at_call 37; (with_reducible refine (hend _ _ HR.out).mono ?_); rintro e u ⟨rfl, rfl⟩)
            | (with_reducible refine load_pt H9.out Tryz.underlying33 rfl (Pf.infoF HG.out) Pf.all _ rfl rfl rfl ?_)
            | (go_at_call 38; (with_reducible refine (hrt _ _ _ HRW.out).mono ?_); rintro e u ⟨rfl, hb⟩; have h9 := H9.out.below hb H9.out.lt; have hrow := HRW.out.below hb (Nat.le_refl _); clear H9 HRW; have H9 := Lib.hid h9; have HRW := Lib.hid hrow; have hb2 := HB.out.trans (hb.mono HB.out.size); clear HB; have HB := Lib.hid hb2; clear hb2; clear hb h9 hrow)
            | (with_reducible refine build_fw f_buildP rfl rfl ?_)
            | (with_reducible refine store_cel (H3.out.below HB.out H3.out.lt) (Pf.infoF HZ.out) (Fd.one _) rfl (Fd.setAllP HZ.out HZ.out) rfl rfl _ _ rfl rfl rfl ?_; intro u h1 _ h3; have hw := h1 _ _ N3.out (HW.out.trans (HB.out.mono HW.out.size)); have HWW := Lib.hid hw; have H33 := Lib.hid h3; clear h1 h3 hw))
          exact bodyPost_ret (results_tft rfl Tryz.underlying33 rfl (Pf.infoF HZ.out) _ _ _ H33.out rfl rfl rfl) rfl ⟨none, 0, rfl, Row.nil _ _, Fresh.none0 _, HWW.out⟩
        | true =>
          have e1 : dcErr l = 0 := by rw [dcErr, if_neg hcond, if_pos hE2, hrp]; rfl
          rw [show dcV l = oct.rnN l 0 by simp [dcV, e1], show dcG l = dcP l by simp [dcG, e1], e1]
          have hrt := fun A c w h => right_p (dcP l) hpf (by have := dcP_nm l; omega) A c true hrp w h
          rw [hE2] at hend
          have HG := Lib.hid hpf
          clear hE hcond hpf e1 hE2 hrp
          generalize dcP l = P at *
          generalize (dcF l).s.1 = S1 at *
          generalize (dcF l).s.2 = E1 at *
          generalize oct.rnN l 0 = V at *
          generalize oct.rnL l 0 = L at *
          generalize oct.rnE l 0 = E at *
          go_enter Tryz.func14, Tryz.ntmps14
          go_wp2_with (first
            | (with_reducible refine alloc_cel f_zeroP rfl rfl ?_; intro b3 u0 hn hb hc; have hy := HY0.out.below hb; clear HY0; have HY := Lib.hid hy; have HW := Lib.hid hb; have H3 := Lib.hid hc; have N3 := Lib.hid hn; have HB := Lib.hid (Below.refl u0.heap.size u0); clear hy hb hc hn)
            | (go_at_call 32; (with_reducible refine (oct.new_any A k c l hl hm _ HY.out).mono ?_); rintro e u ⟨rb, rfl, hn, hr, hb⟩; clear HB HY; have HB := Lib.hid hb; have NR := Lib.hid hn; have HR := Lib.hid hr; clear hb hr hn)
            | (go_at_call 33; (with_reducible refine (hnum _ _ HR.out).mono ?_); rintro e u ⟨rfl, hr, ho⟩; have hb := oct.Only.below HB.out ho NR.out; clear HB HR; have HB := Lib.hid hb; have HR := Lib.hid hr; clear hr ho hb)
            | (go_at_call 34; (with_reducible refine (sayings_any _).mono ?_); rintro e u ⟨bm, q, rfl, hm2, hs⟩; have hb := hs.bel; have hr := HR.out.below hb; clear HR; have HR := Lib.hid hr; have hb2 := HB.out.trans (hb.mono HB.out.size); clear HB; have HB := Lib.hid hb2; clear hb2; have HM := Lib.hid hm2; clear hb hr hm2 hs; obtain ⟨x, htx⟩ := htb q)
            | (go_at_call 35; (with_reducible refine (oct.err_any _ _ _ _ HR.out).mono ?_); rintro e u ⟨rfl, rfl⟩)
            | (with_reducible refine fm_hit HM.out hv htx rfl _ _ rfl rfl rfl ?_)
            | (with_reducible refine alloc_cel f_zeroP rfl rfl ?_; intro b9 u hn hb hc; have hr := HR.out.below hb; have hn9 := Nat.le_trans HB.out.size hn; clear HR; have HR := Lib.hid hr; have hb2 := HB.out.trans (hb.mono HB.out.size); clear HB; have HB := Lib.hid hb2; clear hb2; have H9 := Lib.hid hc; have N9 := Lib.hid hn9; clear hr hn9 hb hc hn)
            | (go_at_call 36; (with_reducible refine (reading_any _ _).mono ?_); rintro e u ⟨BR, rfl, hc, hb⟩; have h9 := H9.out.below hb H9.out.lt; have hr := HR.out.below hb; clear HR H9; have HR := Lib.hid hr; have H9 := Lib.hid h9; have hb2 := HB.out.trans (hb.mono HB.out.size); clear HB; have HB := Lib.hid hb2; clear hb2; have HP := Lib.hid hc; clear hr h9 hb hc)
            | (go_at_call 28; (with_reducible refine (hfin _ _ _ _ _ HB.out NR.out N9.out HR.out H9.out HP.out).mono ?_); rintro e u ⟨rfl, A4, c4, h9, hr, hb, hrow, hnew, hcap⟩; clear HB HR H9 HP; have HB := Lib.hid hb; have HR := Lib.hid hr; have H9 := Lib.hid h9; have HRW := Lib.hid hrow; have HNW := Lib.hid hnew; have HCP := Lib.hid hcap; clear h9 hr hb hrow hnew hcap)
            | (go_at_call 37; (with_reducible refine (hend _ _ HR.out).mono ?_); rintro e u ⟨rfl, rfl⟩)
            | (with_reducible refine load_pt H9.out Tryz.underlying33 rfl (Pf.infoF HG.out) Pf.all _ rfl rfl rfl ?_)
            | (go_at_call 38; (with_reducible refine (hrt _ _ _ HRW.out).mono ?_); rintro e u ⟨rfl, hb⟩; have h9 := H9.out.below hb H9.out.lt; have hrow := HRW.out.below hb (Nat.le_refl _); clear H9 HRW; have H9 := Lib.hid h9; have HRW := Lib.hid hrow; have hb2 := HB.out.trans (hb.mono HB.out.size); clear HB; have HB := Lib.hid hb2; clear hb2; clear hb h9 hrow))
          refine Draws.start (S := fun u => Cel u b9 33 (P.fd A4 c4).cells) (n := 5) 5 rfl (by kernel_rfl) ?_
          have hb := HB.out.drew; have h9 := H9.out.below ((Below.refl _ _).drew) H9.out.lt; have hrow := HRW.out.below ((Below.refl _ _).drew) (Nat.le_refl _); clear HB H9 HRW; have HB := Lib.hid hb; have H9 := Lib.hid h9; have HRW := Lib.hid hrow; clear hb h9 hrow
          have HS := Lib.hid (show (fun u => Cel u b9 33 (P.fd A4 c4).cells) _ from H9.out)
          refine Draws.take 0 (v := ?v1) HS.out rfl (by kernel_rfl) (fun _ _ _ h => h) (Or.inl ⟨rfl, ?h1⟩) ?r1
          case h1 => intro w' hw'; go_simp; (try with_reducible rfl)
          (try simp only [Act.put, List.setIfInBounds_toArray, List.set_cons_zero, List.set_cons_succ])
          refine Draws.take 1 HS.out rfl (by kernel_rfl) (fun _ _ _ h => h) (yield_pt (fun _ h => h) Tryz.underlying33 rfl (Pf.infoF HG.out) Pf.all _ rfl rfl rfl) ?_
          (try simp only [Act.put, List.setIfInBounds_toArray, List.set_cons_zero, List.set_cons_succ])
          refine Draws.does 2 rfl (by kernel_rfl) rfl (fun K hK => ?_)
          go_simp
          refine hK.out _ _ (fun _ => H9.out) ?_
          clear hK K
          (try simp only [Act.put, List.setIfInBounds_toArray, List.set_cons_zero, List.set_cons_succ])
          refine Draws.does 3 rfl (by kernel_rfl) rfl (fun K hK => ?_)
          refine wp_store_cel (H3.out.below HB.out H3.out.lt) (Pf.infoF HG.out) (Fd.one _) (by rw [Pf.len HG.out, Pf.len HZ.out]) (Fd.setAllP HZ.out HG.out) rfl _ _ rfl rfl rfl ?_
          intro u h1 h2 h3
          have hw := h1 _ _ N3.out (HW.out.trans (HB.out.mono HW.out.size))
          have HWW := Lib.hid hw; have H33 := Lib.hid h3
          have hlt := H3.out.lt
          have h9 : Cel u b9 33 (P.fd A4 c4).cells := (h2 b9 (by have := N9.out; omega)).trans H9.out
          have hrow := HRW.out.else (u' := u) (fun a ha h0 => by
            obtain ⟨b', off', e', _⟩ := HRW.out.at h0
            rw [e'] at ha
            injection ha with ha
            subst ha
            exact h2 b' (by have := HNW.out b' off' e'; omega))
          clear H9 HRW h1 h2 h3 hw
          have H9 := Lib.hid h9; have HRW := Lib.hid hrow; clear h9 hrow
          refine hK.out _ _ (fun _ => H9.out) ?_
          clear hK K
          (try simp only [Act.put, List.setIfInBounds_toArray, List.set_cons_zero, List.set_cons_succ])
          refine Draws.does 4 rfl (by kernel_rfl) rfl (fun K hK => ?_)
          go_simp
          refine hK.out _ _ (fun _ => H9.out) ?_
          clear hK K
          (try simp only [Act.put, List.setIfInBounds_toArray, List.set_cons_zero, List.set_cons_succ])
          refine Draws.done (by kernel_rfl) ?_
          clear HS
          go_wp2_with fail
          exact bodyPost_ret (results_tft rfl Tryz.underlying33 rfl (Pf.infoF HG.out) _ _ _ H33.out rfl rfl rfl) rfl ⟨A4, c4, rfl, HRW.out, ⟨HCP.out, fun a ha h0 => by
            obtain ⟨b', off', e', _⟩ := HRW.out.at h0
            rw [e'] at ha
            injection ha with ha
            subst ha
            exact Nat.le_trans HW.out.size (HNW.out b' off' e')⟩, HWW.out⟩
      · have e1 : dcErr l = oct.endE (dcF l).s.1 (dcF l).s.2 := by rw [dcErr, if_neg hcond, if_neg hE2]
        rw [show dcV l = 0 by simp [dcV, e1, hE2], show dcG l = zP by simp [dcG, e1, hE2], e1]
        have hne : (oct.endE (dcF l).s.1 (dcF l).s.2 != 0) = true := by simp [hE2]
        have hne2 : (oct.endE (dcF l).s.1 (dcF l).s.2 == 0) = false := by simp [hE2]
        clear e1 hE2
        generalize oct.endE (dcF l).s.1 (dcF l).s.2 = EE at *
        have HG := Lib.hid hpf
        clear hE hcond hpf 
        generalize dcP l = P at *
        generalize (dcF l).s.1 = S1 at *
        generalize (dcF l).s.2 = E1 at *
        generalize oct.rnN l 0 = V at *
        generalize oct.rnL l 0 = L at *
        generalize oct.rnE l 0 = E at *
        go_enter Tryz.func14, Tryz.ntmps14
        go_wp2_with (first
          | (with_reducible refine alloc_cel f_zeroP rfl rfl ?_; intro b3 u0 hn hb hc; have hy := HY0.out.below hb; clear HY0; have HY := Lib.hid hy; have HW := Lib.hid hb; have H3 := Lib.hid hc; have N3 := Lib.hid hn; have HB := Lib.hid (Below.refl u0.heap.size u0); clear hy hb hc hn)
          | (go_at_call 32; (with_reducible refine (oct.new_any A k c l hl hm _ HY.out).mono ?_); rintro e u ⟨rb, rfl, hn, hr, hb⟩; clear HB HY; have HB := Lib.hid hb; have NR := Lib.hid hn; have HR := Lib.hid hr; clear hb hr hn)
          | (go_at_call 33; (with_reducible refine (hnum _ _ HR.out).mono ?_); rintro e u ⟨rfl, hr, ho⟩; have hb := oct.Only.below HB.out ho NR.out; clear HB HR; have HB := Lib.hid hb; have HR := Lib.hid hr; clear hr ho hb)
          | (go_at_call 34; (with_reducible refine (sayings_any _).mono ?_); rintro e u ⟨bm, q, rfl, hm2, hs⟩; have hb := hs.bel; have hr := HR.out.below hb; clear HR; have HR := Lib.hid hr; have hb2 := HB.out.trans (hb.mono HB.out.size); clear HB; have HB := Lib.hid hb2; clear hb2; have HM := Lib.hid hm2; clear hb hr hm2 hs; obtain ⟨x, htx⟩ := htb q)
          | (go_at_call 35; (with_reducible refine (oct.err_any _ _ _ _ HR.out).mono ?_); rintro e u ⟨rfl, rfl⟩)
          | (with_reducible refine fm_hit HM.out hv htx rfl _ _ rfl rfl rfl ?_)
          | (with_reducible refine alloc_cel f_zeroP rfl rfl ?_; intro b9 u hn hb hc; have hr := HR.out.below hb; have hn9 := Nat.le_trans HB.out.size hn; clear HR; have HR := Lib.hid hr; have hb2 := HB.out.trans (hb.mono HB.out.size); clear HB; have HB := Lib.hid hb2; clear hb2; have H9 := Lib.hid hc; have N9 := Lib.hid hn9; clear hr hn9 hb hc hn)
          | (go_at_call 36; (with_reducible refine (reading_any _ _).mono ?_); rintro e u ⟨BR, rfl, hc, hb⟩; have h9 := H9.out.below hb H9.out.lt; have hr := HR.out.below hb; clear HR H9; have HR := Lib.hid hr; have H9 := Lib.hid h9; have hb2 := HB.out.trans (hb.mono HB.out.size); clear HB; have HB := Lib.hid hb2; clear hb2; have HP := Lib.hid hc; clear hr h9 hb hc)
          | (go_at_call 28; (with_reducible refine (hfin _ _ _ _ _ HB.out NR.out N9.out HR.out H9.out HP.out).mono ?_); rintro e u ⟨rfl, A4, c4, h9, hr, hb, hrow, hnew, hcap⟩; clear HB HR H9 HP; have HB := Lib.hid hb; have HR := Lib.hid hr; have H9 := Lib.hid h9; have HRW := Lib.hid hrow; have HNW := Lib.hid hnew; have HCP := Lib.hid hcap; clear h9 hr hb hrow hnew hcap)
          | (go_at_call 37; (with_reducible refine (hend _ _ HR.out).mono ?_); rintro e u ⟨rfl, rfl⟩)
          | (with_reducible refine build_fw f_buildP rfl rfl ?_)
          | (with_reducible refine store_cel (H3.out.below HB.out H3.out.lt) (Pf.infoF HZ.out) (Fd.one _) rfl (Fd.setAllP HZ.out HZ.out) rfl rfl _ _ rfl rfl rfl ?_; intro u h1 _ h3; have hw := h1 _ _ N3.out (HW.out.trans (HB.out.mono HW.out.size)); have HWW := Lib.hid hw; have H33 := Lib.hid h3; clear h1 h3 hw))
        exact bodyPost_ret (results_tft rfl Tryz.underlying33 rfl (Pf.infoF HZ.out) _ _ _ H33.out rfl rfl rfl) rfl ⟨none, 0, rfl, Row.nil _ _, Fresh.none0 _, HWW.out⟩
  · have hcond : ¬ (oct.rnE l 0 = 0 ∧ verB (oct.rnN l 0) = false) := fun h => hE h.1
    have hV0 : oct.rnN l 0 = 0 := oct.dec_not hE
    have htn : ∀ q, tbl q (oct.rnN l 0) = none := fun q => tbl_miss (by rw [hV0]; rfl) q
    have hq1 : (oct.rnE l 0 == 0) = false := by simp [hE]
    have hq2 : (oct.rnE l 0 != 0) = true := by simp [hE]
    clear hV0
    by_cases hE2 : oct.endE (dcF l).s.1 (dcF l).s.2 = 0
    · cases hrp : rightP (dcP l) with
      | false =>
        have e1 : dcErr l = 4 := by rw [dcErr, if_neg hcond, if_pos hE2, hrp]; rfl
        rw [show dcV l = 0 by simp [dcV, e1], show dcG l = zP by simp [dcG, e1], e1]
        have hrt := fun A c w h => right_p (dcP l) hpf (by have := dcP_nm l; omega) A c false hrp w h
        rw [hE2] at hend
        have HG := Lib.hid hpf
        clear hE hcond hpf e1 hE2 hrp
        generalize dcP l = P at *
        generalize (dcF l).s.1 = S1 at *
        generalize (dcF l).s.2 = E1 at *
        generalize oct.rnN l 0 = V at *
        generalize oct.rnL l 0 = L at *
        generalize oct.rnE l 0 = E at *
        go_enter Tryz.func14, Tryz.ntmps14
        go_wp2_with (first
          | (with_reducible refine alloc_cel f_zeroP rfl rfl ?_; intro b3 u0 hn hb hc; have hy := HY0.out.below hb; clear HY0; have HY := Lib.hid hy; have HW := Lib.hid hb; have H3 := Lib.hid hc; have N3 := Lib.hid hn; have HB := Lib.hid (Below.refl u0.heap.size u0); clear hy hb hc hn)
          | (go_at_call 32; (with_reducible refine (oct.new_any A k c l hl hm _ HY.out).mono ?_); rintro e u ⟨rb, rfl, hn, hr, hb⟩; clear HB HY; have HB := Lib.hid hb; have NR := Lib.hid hn; have HR := Lib.hid hr; clear hb hr hn)
          | (go_at_call 33; (with_reducible refine (hnum _ _ HR.out).mono ?_); rintro e u ⟨rfl, hr, ho⟩; have hb := oct.Only.below HB.out ho NR.out; clear HB HR; have HB := Lib.hid hb; have HR := Lib.hid hr; clear hr ho hb)
          | (go_at_call 34; (with_reducible refine (sayings_any _).mono ?_); rintro e u ⟨bm, q, rfl, hm2, hs⟩; have hb := hs.bel; have hr := HR.out.below hb; clear HR; have HR := Lib.hid hr; have hb2 := HB.out.trans (hb.mono HB.out.size); clear HB; have HB := Lib.hid hb2; clear hb2; have HM := Lib.hid hm2; clear hb hr hm2 hs)
          | (go_at_call 35; (with_reducible refine (oct.err_any _ _ _ _ HR.out).mono ?_); rintro e u ⟨rfl, rfl⟩)
          | (with_reducible refine fm_miss HM.out hv (htn _) rfl _ _ rfl rfl rfl ?_)
          | (with_reducible refine alloc_cel f_zeroP rfl rfl ?_; intro b9 u hn hb hc; have hr := HR.out.below hb; have hn9 := Nat.le_trans HB.out.size hn; clear HR; have HR := Lib.hid hr; have hb2 := HB.out.trans (hb.mono HB.out.size); clear HB; have HB := Lib.hid hb2; clear hb2; have H9 := Lib.hid hc; have N9 := Lib.hid hn9; clear hr hn9 hb hc hn)
          | (go_at_call 36; (with_reducible refine (reading_any _ _).mono ?_); rintro e u ⟨BR, rfl, hc, hb⟩; have h9 := H9.out.below hb H9.out.lt; have hr := HR.out.below hb; clear HR H9; have HR := Lib.hid hr; have H9 := Lib.hid h9; have hb2 := HB.out.trans (hb.mono HB.out.size); clear HB; have HB := Lib.hid hb2; clear hb2; have HP := Lib.hid hc; clear hr h9 hb hc)
          | (go_at_call 28; (with_reducible refine (hfin _ _ _ _ _ HB.out NR.out N9.out HR.out H9.out HP.out).mono ?_); rintro e u ⟨rfl, A4, c4, h9, hr, hb, hrow, hnew, hcap⟩; clear HB HR H9 HP; have HB := Lib.hid hb; have HR := Lib.hid hr; have H9 := Lib.hid h9; have HRW := Lib.hid hrow; have HNW := Lib.hid hnew; have HCP := Lib.hid hcap; clear h9 hr hb hrow hnew hcap)
          | (go_at_call 37; (with_reducible refine (hend _ _ HR.out).mono ?_); rintro e u ⟨rfl, rfl⟩)
          | (with_reducible refine load_pt H9.out Tryz.underlying33 rfl (Pf.infoF HG.out) Pf.all _ rfl rfl rfl ?_)
          | (go_at_call 38; (with_reducible refine (hrt _ _ _ HRW.out).mono ?_); rintro e u ⟨rfl, hb⟩; have h9 := H9.out.below hb H9.out.lt; have hrow := HRW.out.below hb (Nat.le_refl _); clear H9 HRW; have H9 := Lib.hid h9; have HRW := Lib.hid hrow; have hb2 := HB.out.trans (hb.mono HB.out.size); clear HB; have HB := Lib.hid hb2; clear hb2; clear hb h9 hrow)
          | (with_reducible refine build_fw f_buildP rfl rfl ?_)
          | (with_reducible refine store_cel (H3.out.below HB.out H3.out.lt) (Pf.infoF HZ.out) (Fd.one _) rfl (Fd.setAllP HZ.out HZ.out) rfl rfl _ _ rfl rfl rfl ?_; intro u h1 _ h3; have hw := h1 _ _ N3.out (HW.out.trans (HB.out.mono HW.out.size)); have HWW := Lib.hid hw; have H33 := Lib.hid h3; clear h1 h3 hw))
        exact bodyPost_ret (results_tft rfl Tryz.underlying33 rfl (Pf.infoF HZ.out) _ _ _ H33.out rfl rfl rfl) rfl ⟨none, 0, rfl, Row.nil _ _, Fresh.none0 _, HWW.out⟩
      | true =>
        have e1 : dcErr l = 0 := by rw [dcErr, if_neg hcond, if_pos hE2, hrp]; rfl
        rw [show dcV l = oct.rnN l 0 by simp [dcV, e1], show dcG l = dcP l by simp [dcG, e1], e1]
        have hrt := fun A c w h => right_p (dcP l) hpf (by have := dcP_nm l; omega) A c true hrp w h
        rw [hE2] at hend
        have HG := Lib.hid hpf
        clear hE hcond hpf e1 hE2 hrp
        generalize dcP l = P at *
        generalize (dcF l).s.1 = S1 at *
        generalize (dcF l).s.2 = E1 at *
        generalize oct.rnN l 0 = V at *
        generalize oct.rnL l 0 = L at *
        generalize oct.rnE l 0 = E at *
        go_enter Tryz.func14, Tryz.ntmps14
        go_wp2_with (first
          | (with_reducible refine alloc_cel f_zeroP rfl rfl ?_; intro b3 u0 hn hb hc; have hy := HY0.out.below hb; clear HY0; have HY := Lib.hid hy; have HW := Lib.hid hb; have H3 := Lib.hid hc; have N3 := Lib.hid hn; have HB := Lib.hid (Below.refl u0.heap.size u0); clear hy hb hc hn)
          | (go_at_call 32; (with_reducible refine (oct.new_any A k c l hl hm _ HY.out).mono ?_); rintro e u ⟨rb, rfl, hn, hr, hb⟩; clear HB HY; have HB := Lib.hid hb; have NR := Lib.hid hn; have HR := Lib.hid hr; clear hb hr hn)
          | (go_at_call 33; (with_reducible refine (hnum _ _ HR.out).mono ?_); rintro e u ⟨rfl, hr, ho⟩; have hb := oct.Only.below HB.out ho NR.out; clear HB HR; have HB := Lib.hid hb; have HR := Lib.hid hr; clear hr ho hb)
          | (go_at_call 34; (with_reducible refine (sayings_any _).mono ?_); rintro e u ⟨bm, q, rfl, hm2, hs⟩; have hb := hs.bel; have hr := HR.out.below hb; clear HR; have HR := Lib.hid hr; have hb2 := HB.out.trans (hb.mono HB.out.size); clear HB; have HB := Lib.hid hb2; clear hb2; have HM := Lib.hid hm2; clear hb hr hm2 hs)
          | (go_at_call 35; (with_reducible refine (oct.err_any _ _ _ _ HR.out).mono ?_); rintro e u ⟨rfl, rfl⟩)
          | (with_reducible refine fm_miss HM.out hv (htn _) rfl _ _ rfl rfl rfl ?_)
          | (with_reducible refine alloc_cel f_zeroP rfl rfl ?_; intro b9 u hn hb hc; have hr := HR.out.below hb; have hn9 := Nat.le_trans HB.out.size hn; clear HR; have HR := Lib.hid hr; have hb2 := HB.out.trans (hb.mono HB.out.size); clear HB; have HB := Lib.hid hb2; clear hb2; have H9 := Lib.hid hc; have N9 := Lib.hid hn9; clear hr hn9 hb hc hn)
          | (go_at_call 36; (with_reducible refine (reading_any _ _).mono ?_); rintro e u ⟨BR, rfl, hc, hb⟩; have h9 := H9.out.below hb H9.out.lt; have hr := HR.out.below hb; clear HR H9; have HR := Lib.hid hr; have H9 := Lib.hid h9; have hb2 := HB.out.trans (hb.mono HB.out.size); clear HB; have HB := Lib.hid hb2; clear hb2; have HP := Lib.hid hc; clear hr h9 hb hc)
          | (go_at_call 28; (with_reducible refine (hfin _ _ _ _ _ HB.out NR.out N9.out HR.out H9.out HP.out).mono ?_); rintro e u ⟨rfl, A4, c4, h9, hr, hb, hrow, hnew, hcap⟩; clear HB HR H9 HP; have HB := Lib.hid hb; have HR := Lib.hid hr; have H9 := Lib.hid h9; have HRW := Lib.hid hrow; have HNW := Lib.hid hnew; have HCP := Lib.hid hcap; clear h9 hr hb hrow hnew hcap)
          | (go_at_call 37; (with_reducible refine (hend _ _ HR.out).mono ?_); rintro e u ⟨rfl, rfl⟩)
          | (with_reducible refine load_pt H9.out Tryz.underlying33 rfl (Pf.infoF HG.out) Pf.all _ rfl rfl rfl ?_)
          | (go_at_call 38; (with_reducible refine (hrt _ _ _ HRW.out).mono ?_); rintro e u ⟨rfl, hb⟩; have h9 := H9.out.below hb H9.out.lt; have hrow := HRW.out.below hb (Nat.le_refl _); clear H9 HRW; have H9 := Lib.hid h9; have HRW := Lib.hid hrow; have hb2 := HB.out.trans (hb.mono HB.out.size); clear HB; have HB := Lib.hid hb2; clear hb2; clear hb h9 hrow))
        refine Draws.start (S := fun u => Cel u b9 33 (P.fd A4 c4).cells) (n := 5) 5 rfl (by kernel_rfl) ?_
        have hb := HB.out.drew; have h9 := H9.out.below ((Below.refl _ _).drew) H9.out.lt; have hrow := HRW.out.below ((Below.refl _ _).drew) (Nat.le_refl _); clear HB H9 HRW; have HB := Lib.hid hb; have H9 := Lib.hid h9; have HRW := Lib.hid hrow; clear hb h9 hrow
        have HS := Lib.hid (show (fun u => Cel u b9 33 (P.fd A4 c4).cells) _ from H9.out)
        refine Draws.take 0 (v := ?v2) HS.out rfl (by kernel_rfl) (fun _ _ _ h => h) (Or.inl ⟨rfl, ?h2⟩) ?r2
        case h2 => intro w' hw'; go_simp; (try with_reducible rfl)
        (try simp only [Act.put, List.setIfInBounds_toArray, List.set_cons_zero, List.set_cons_succ])
        refine Draws.take 1 HS.out rfl (by kernel_rfl) (fun _ _ _ h => h) (yield_pt (fun _ h => h) Tryz.underlying33 rfl (Pf.infoF HG.out) Pf.all _ rfl rfl rfl) ?_
        (try simp only [Act.put, List.setIfInBounds_toArray, List.set_cons_zero, List.set_cons_succ])
        refine Draws.does 2 rfl (by kernel_rfl) rfl (fun K hK => ?_)
        go_simp
        refine hK.out _ _ (fun _ => H9.out) ?_
        clear hK K
        (try simp only [Act.put, List.setIfInBounds_toArray, List.set_cons_zero, List.set_cons_succ])
        refine Draws.does 3 rfl (by kernel_rfl) rfl (fun K hK => ?_)
        refine wp_store_cel (H3.out.below HB.out H3.out.lt) (Pf.infoF HG.out) (Fd.one _) (by rw [Pf.len HG.out, Pf.len HZ.out]) (Fd.setAllP HZ.out HG.out) rfl _ _ rfl rfl rfl ?_
        intro u h1 h2 h3
        have hw := h1 _ _ N3.out (HW.out.trans (HB.out.mono HW.out.size))
        have HWW := Lib.hid hw; have H33 := Lib.hid h3
        have hlt := H3.out.lt
        have h9 : Cel u b9 33 (P.fd A4 c4).cells := (h2 b9 (by have := N9.out; omega)).trans H9.out
        have hrow := HRW.out.else (u' := u) (fun a ha h0 => by
          obtain ⟨b', off', e', _⟩ := HRW.out.at h0
          rw [e'] at ha
          injection ha with ha
          subst ha
          exact h2 b' (by have := HNW.out b' off' e'; omega))
        clear H9 HRW h1 h2 h3 hw
        have H9 := Lib.hid h9; have HRW := Lib.hid hrow; clear h9 hrow
        refine hK.out _ _ (fun _ => H9.out) ?_
        clear hK K
        (try simp only [Act.put, List.setIfInBounds_toArray, List.set_cons_zero, List.set_cons_succ])
        refine Draws.does 4 rfl (by kernel_rfl) rfl (fun K hK => ?_)
        go_simp
        refine hK.out _ _ (fun _ => H9.out) ?_
        clear hK K
        (try simp only [Act.put, List.setIfInBounds_toArray, List.set_cons_zero, List.set_cons_succ])
        refine Draws.done (by kernel_rfl) ?_
        clear HS
        go_wp2_with fail
        exact bodyPost_ret (results_tft rfl Tryz.underlying33 rfl (Pf.infoF HG.out) _ _ _ H33.out rfl rfl rfl) rfl ⟨A4, c4, rfl, HRW.out, ⟨HCP.out, fun a ha h0 => by
          obtain ⟨b', off', e', _⟩ := HRW.out.at h0
          rw [e'] at ha
          injection ha with ha
          subst ha
          exact Nat.le_trans HW.out.size (HNW.out b' off' e')⟩, HWW.out⟩
    · have e1 : dcErr l = oct.endE (dcF l).s.1 (dcF l).s.2 := by rw [dcErr, if_neg hcond, if_neg hE2]
      rw [show dcV l = 0 by simp [dcV, e1, hE2], show dcG l = zP by simp [dcG, e1, hE2], e1]
      have hne : (oct.endE (dcF l).s.1 (dcF l).s.2 != 0) = true := by simp [hE2]
      have hne2 : (oct.endE (dcF l).s.1 (dcF l).s.2 == 0) = false := by simp [hE2]
      clear e1 hE2
      generalize oct.endE (dcF l).s.1 (dcF l).s.2 = EE at *
      have HG := Lib.hid hpf
      clear hE hcond hpf 
      generalize dcP l = P at *
      generalize (dcF l).s.1 = S1 at *
      generalize (dcF l).s.2 = E1 at *
      generalize oct.rnN l 0 = V at *
      generalize oct.rnL l 0 = L at *
      generalize oct.rnE l 0 = E at *
      go_enter Tryz.func14, Tryz.ntmps14
      go_wp2_with (first
        | (with_reducible refine alloc_cel f_zeroP rfl rfl ?_; intro b3 u0 hn hb hc; have hy := HY0.out.below hb; clear HY0; have HY := Lib.hid hy; have HW := Lib.hid hb; have H3 := Lib.hid hc; have N3 := Lib.hid hn; have HB := Lib.hid (Below.refl u0.heap.size u0); clear hy hb hc hn)
        | (go_at_call 32; (with_reducible refine (oct.new_any A k c l hl hm _ HY.out).mono ?_); rintro e u ⟨rb, rfl, hn, hr, hb⟩; clear HB HY; have HB := Lib.hid hb; have NR := Lib.hid hn; have HR := Lib.hid hr; clear hb hr hn)
        | (go_at_call 33; (with_reducible refine (hnum _ _ HR.out).mono ?_); rintro e u ⟨rfl, hr, ho⟩; have hb := oct.Only.below HB.out ho NR.out; clear HB HR; have HB := Lib.hid hb; have HR := Lib.hid hr; clear hr ho hb)
        | (go_at_call 34; (with_reducible refine (sayings_any _).mono ?_); rintro e u ⟨bm, q, rfl, hm2, hs⟩; have hb := hs.bel; have hr := HR.out.below hb; clear HR; have HR := Lib.hid hr; have hb2 := HB.out.trans (hb.mono HB.out.size); clear HB; have HB := Lib.hid hb2; clear hb2; have HM := Lib.hid hm2; clear hb hr hm2 hs)
        | (go_at_call 35; (with_reducible refine (oct.err_any _ _ _ _ HR.out).mono ?_); rintro e u ⟨rfl, rfl⟩)
        | (with_reducible refine fm_miss HM.out hv (htn _) rfl _ _ rfl rfl rfl ?_)
        | (with_reducible refine alloc_cel f_zeroP rfl rfl ?_; intro b9 u hn hb hc; have hr := HR.out.below hb; have hn9 := Nat.le_trans HB.out.size hn; clear HR; have HR := Lib.hid hr; have hb2 := HB.out.trans (hb.mono HB.out.size); clear HB; have HB := Lib.hid hb2; clear hb2; have H9 := Lib.hid hc; have N9 := Lib.hid hn9; clear hr hn9 hb hc hn)
        | (go_at_call 36; (with_reducible refine (reading_any _ _).mono ?_); rintro e u ⟨BR, rfl, hc, hb⟩; have h9 := H9.out.below hb H9.out.lt; have hr := HR.out.below hb; clear HR H9; have HR := Lib.hid hr; have H9 := Lib.hid h9; have hb2 := HB.out.trans (hb.mono HB.out.size); clear HB; have HB := Lib.hid hb2; clear hb2; have HP := Lib.hid hc; clear hr h9 hb hc)
        | (go_at_call 28; (with_reducible refine (hfin _ _ _ _ _ HB.out NR.out N9.out HR.out H9.out HP.out).mono ?_); rintro e u ⟨rfl, A4, c4, h9, hr, hb, hrow, hnew, hcap⟩; clear HB HR H9 HP; have HB := Lib.hid hb; have HR := Lib.hid hr; have H9 := Lib.hid h9; have HRW := Lib.hid hrow; have HNW := Lib.hid hnew; have HCP := Lib.hid hcap; clear h9 hr hb hrow hnew hcap)
        | (go_at_call 37; (with_reducible refine (hend _ _ HR.out).mono ?_); rintro e u ⟨rfl, rfl⟩)
        | (with_reducible refine build_fw f_buildP rfl rfl ?_)
        | (with_reducible refine store_cel (H3.out.below HB.out H3.out.lt) (Pf.infoF HZ.out) (Fd.one _) rfl (Fd.setAllP HZ.out HZ.out) rfl rfl _ _ rfl rfl rfl ?_; intro u h1 _ h3; have hw := h1 _ _ N3.out (HW.out.trans (HB.out.mono HW.out.size)); have HWW := Lib.hid hw; have H33 := Lib.hid h3; clear h1 h3 hw))
      exact bodyPost_ret (results_tft rfl Tryz.underlying33 rfl (Pf.infoF HZ.out) _ _ _ H33.out rfl rfl rfl) rfl ⟨none, 0, rfl, Row.nil _ _, Fresh.none0 _, HWW.out⟩
end Go.Proofs.YtofngihdnjgmeaaGreat
