/- The document's Encode (layer 10). -/
import Derived.Test.YtofngihdnjgmeaaGreatY01
import Derived.Test.YtofngihdnjgmeaaGreatY04
import Derived.Test.YtofngihdnjgmeaaGreatY07
import Derived.Test.YtofngihdnjgmeaaGreatY09
import Derived.Test.YtofngihdnjgmeaaGreatY11
import Derived.Test.YtofngihdnjgmeaaGreatY12
import Derived.Test.YtofngihdnjgmeaaGreatY13
import Derived.Test.YtofngihdnjgmeaaGreatY18
import Derived.Test.YtofngihdnjgmeaaGreatY21
import Derived.Test.YtofngihdnjgmeaaGreatY22A
import Derived.Test.YtofngihdnjgmeaaGreatY25
import Derived.Test.YtofngihdnjgmeaaGreatY27A
import Derived.Test.YtofngihdnjgmeaaGreatY28
import Derived.Test.YtofngihdnjgmeaaGreatY29
import Derived.WalkKit
import Derived.ProofKit
import Derived.Lib.Hide
import Derived.Deep.RegionHeld3
import Derived.Below
import Derived.Deep.MidRow
import Derived.Deep.QuietTactic
import Derived.BigQuiet
import Derived.Laws.StructEq
import Derived.Laws.OwnMore
import Derived.Maps.AppendAt
import Derived.OwnWalk
import Derived.OpenShut
import Derived.ChangeOld
import Derived.Deep.Slices
import Derived.ChangeSlices
import Derived.Laws.AppendOwn
import Derived.WalkMore
import Derived.LoopTactic
import Derived.Defers
import Derived.Recover
import Derived.WalkSmall
import Derived.Lib.AppendZeros
import Derived.Deep.OwnRows
import Derived.Lib.SliceRun
import Derived.Shelf.SlSortCmp.WholeK
import Derived.Shelf.SlSortCmp.NoneTotal
import Derived.Laws.Cover3
import Derived.Lib.AppendStr
import Derived.Laws.IdiomStrings
import Derived.Maps.OwnSet
import Derived.Maps.Views
namespace Go.Proofs.YtofngihdnjgmeaaGreat
set_option maxRecDepth 100000
open Go.ChangeShapes Go.WideShapes Go.ChangeAt Go.RowKit

theorem wp_app_t {o : Oper} {a : Act} {u : World} {K : Act → World → Prop} {Q : Exit → Act → World → Prop} {w0 : World} {v : Value} {l : List UInt8} (hown : oct.Own u w0.heap.size v l) (hbase : w0.heap.size ≤ u.heap.size) {A : Option Addr} {m R : List UInt8} (hr : oct.Bys u A m) (hR : l ++ m = R) (s x : Operand)
    (ho : o.op = .call { callee := .builtin .append, args := #[s, x], argTypes := #[36, 36] }) (hs : a.eval s = v) {c : Nat} (hx : a.eval x = .slice A m.length c) (h63 : l.length + m.length ≤ 1048576)
    (h : ∀ v' w', oct.Own w' w0.heap.size v' R → Stays w0 u w' → K (a.put o.dst v') w') : o.wp Tryz.prog a u K Q := by
  subst hR
  exact wp_app_b hown hbase hr s x ho hs hx h63 fun v' w' h1 h2 => h v' w' h1 (Stays.grown hbase hown h2)
section
variable {w0 : World} {v0 : Value} {s : List UInt8} {u0 : World}
/-- add, with a name for what comes. -/
theorem radd_t (w0 : World) (v : Value) (s R : List UInt8) (n : Int) (u : World) (hb : w0.heap.size ≤ u.heap.size) (ho : oct.Own u w0.heap.size v s) (hl : s.length ≤ 90000) (hR : s ++ oct.enc (oct.fold n) = R) :
    Calls Tryz.prog 29 #[v, .int .i64 n] u fun e u' => ∃ v', e = .returned v' ∧ oct.Own u' w0.heap.size v' R ∧ Stays w0 u u' := by
  subst hR; exact radd_w w0 v s n u hb ho hl
theorem rrights_t (w0 : World) (v : Value) (s R : List UInt8) (X : List Int) (hX : X.length = 288) (u : World) (hb : w0.heap.size ≤ u.heap.size) (ho : oct.Own u w0.heap.size v s) (hl : s.length ≤ 70000) (hR : s ++ encs X = R) :
    Calls Tryz.prog 31 #[v, .agg (vals X).toArray] u fun e u' => ∃ v', e = .returned v' ∧ oct.Own u' w0.heap.size v' R ∧ Stays w0 u u' := by
  subst hR; exact rrights_w w0 v s X hX u hb ho hl
end
theorem len_add {s R : List UInt8} {n : Int} {b : Nat} (h : s ++ oct.enc (oct.fold n) = R) (hs : s.length ≤ b) : R.length ≤ b + 6 := by
  subst h
  have := oct.enc_six (oct.fold_lt n)
  rw [List.length_append]; omega
theorem len_encs {s R : List UInt8} {X : List Int} {b n : Nat} (h : s ++ encs X = R) (hs : s.length ≤ b) (hX : X.length = n) : R.length ≤ b + 6 * n := by
  subst h
  have := encs_len X
  rw [List.length_append]; omega
theorem len_text {s R : List UInt8} {nm : ByteArray} {b : Nat} (h : s ++ (oct.enc (oct.fold nm.size) ++ nm.data.toList) = R) (hs : s.length ≤ b) (hn : nm.size ≤ 100) : R.length ≤ b + 106 := by
  subst h
  have := oct.enc_six (oct.fold_lt nm.size)
  have h3 : nm.data.toList.length = nm.size := by simp
  rw [List.length_append, List.length_append, h3]; omega
theorem row_hold {w : World} {A : Option Addr} {hs : List Ho} (h : Row w A hs.length hs) {m : Nat} (hm : m < hs.length) : ∃ b off, A = some ⟨b, off, none⟩ ∧ w.rangeAt b (off + m * 5) (vals (hs.getD m z5).l) := by
  obtain ⟨b, off, hA, hc⟩ := h.at hm
  exact ⟨b, off, hA, hc m hm⟩
theorem encs_hold (h : Ho) : encs h.l = oct.enc (oct.fold h.r) ++ (oct.enc (oct.fold h.n) ++ (oct.enc (oct.fold h.a) ++ (oct.enc (oct.fold h.d) ++ oct.enc (oct.fold h.s)))) := by simp [encs, Ho.l]
theorem flat_take {hs : List Ho} {m : Nat} (hm : m < hs.length) : flat (hs.take (m + 1)) = flat (hs.take m) ++ (hs.getD m z5).l := by
  rw [List.take_add_one, flat_append]
  congr 1
  simp [flat, List.getD, hm]
theorem d_infoW {xs : List Int} (h : xs.length = 288) : (Tryz.prog.info? 26).map (·.size) = some (vals xs).length := by rw [vals_length, h]; exact r_info
/-- A fresh hold: new, and written at once. -/
theorem fresh_hold {ops : Array Oper} {rest : List Oper} {o1 o2 : Oper} {a : Act} {u : World} {Q : Exit → Act → World → Prop} (hg1 : o1.guard = none) (ho1 : o1.op = .alloc 55) (hg2 : o2.guard = none) (hd2 : o2.dst = none) (x y : Operand) (ho2 : o2.op = .store 55 x y) {h : Ho}
    (hx : ∀ b, (a.put o1.dst (.pointer (some ⟨b, 0, none⟩))).eval x = .pointer (some ⟨b, 0, none⟩)) (hy : ∀ b, (a.put o1.dst (.pointer (some ⟨b, 0, none⟩))).eval y = .agg (vals h.l).toArray)
    (k : ∀ b u', Below u.heap.size u u' → Cel u' b 55 (vals h.l) → wpList Tryz.prog ops Q rest (a.put o1.dst (.pointer (some ⟨b, 0, none⟩))) u') : wpList Tryz.prog ops Q (o1 :: o2 :: rest) a u :=
  wpList_plain hg1 fun K hK => by
    have e : (Instr.alloc 55 true (.tuple #[])).run Tryz.prog u = .ok (.pointer (some ⟨u.heap.size, 0, none⟩)) (u.alloc (.cells (vals (zer 5)).toArray 55)) := by
      have hz := h_zero
      cases hq : Tryz.prog.info? 55 with
      | none => simp [hq] at hz
      | some i =>
        simp only [hq, Option.bind_some] at hz
        simp [Instr.alloc, zeroValue, typeInfo, hq, hz, newVar, newRow, newObj, Value.cells]
        rfl
    unfold Oper.wp execOp
    simp only [ho1, Sem.run_bind, Sem.run_pure, Result.andThen_ok, e]
    refine hK _ _ (wpList_plain hg2 fun K2 hK2 => ?_)
    have hc := Cel.new u 55 (vals (zer 5))
    refine wp_store_mid 55 x y ho2 _ 0 _ (hx _) (hy _) ?_ ?_ (vals_all h.l) ?_
    · exact hc.there (by simp [vals, zer, Ho.l])
    · simpa using h_info5 h
    · rw [hd2]
      exact hK2 _ _ (k _ _ (below_cells (Nat.le_refl _) _ ((Below.refl _ _).alloc (Nat.le_refl _) _) 0) (hc.setCells (vals h.l) 0))
set_option maxHeartbeats 4000000 in
theorem renc_12 (p : Pf) (hp : p.full) (hN : p.nm.size ≤ 100) (hk : p.k = 2) (hr : rightP p = true) (hs : saysR 1 p = true) (_hh : p.hs.length ≤ 16) (A : Option Addr) (c : Nat) (w : World) (hd : Row w A p.hs.length p.hs) :
    Calls Tryz.prog 11 #[.int .i64 1, .agg (p.fd A c).cells.toArray] w fun e u => ∃ A1 c1, e = .returned (.tuple #[.slice A1 (wireR 1 p).length c1, .int .i64 0]) ∧ (wireR 1 p).length ≤ c1 ∧ oct.Bys u A1 (wireR 1 p) ∧ Below w.heap.size w u := by
  have HF := Lib.hid hp
  have HR := Lib.hid hd
  have HB := Lib.hid (Nat.le_refl w.heap.size)
  have HO := Lib.hid (oct.Own.nil w w.heap.size)
  have HS := Lib.hid (Stays.refl w w)
  have hrt := fun w h => rright_p p hp (by omega) A c true hr w h
  have hsy := fun w h => rsays_any 1 p hp (by omega) A c true hs w h
  have hkc : (p.fd A c).cells[1]? = some (.int .i64 2) := by rw [Pf.ck, hk]
  have hrtx := fun w => oct.rtext_any p.nm (by omega) w
  obtain ⟨L1, e1⟩ : ∃ L, [] ++ oct.enc (oct.fold 1) = L := ⟨_, rfl⟩
  obtain ⟨L2, e2⟩ : ∃ L, L1 ++ oct.enc (oct.fold 2) = L := ⟨_, rfl⟩
  obtain ⟨L3, e3⟩ : ∃ L, L2 ++ (oct.enc (oct.fold p.nm.size) ++ p.nm.data.toList) = L := ⟨_, rfl⟩
  have H1 := Lib.hid e1; have H2 := Lib.hid e2; have H3 := Lib.hid e3
  have Z1 := Lib.hid (len_add e1 (b := 0) (by decide)); have Z2 := Lib.hid (len_add e2 Z1.out); have Z3 := Lib.hid (len_text e3 Z2.out hN)
  obtain ⟨L4, e4⟩ : ∃ L, L3 ++ oct.enc (oct.fold p.L.s) = L := ⟨_, rfl⟩
  have H4 := Lib.hid e4; have Z4 := Lib.hid (len_add e4 Z3.out)
  obtain ⟨L5, e5⟩ : ∃ L, L4 ++ oct.enc (oct.fold p.L.v) = L := ⟨_, rfl⟩
  have H5 := Lib.hid e5; have Z5 := Lib.hid (len_add e5 Z4.out)
  obtain ⟨L6, e6⟩ : ∃ L, L5 ++ oct.enc (oct.fold p.L.h) = L := ⟨_, rfl⟩
  have H6 := Lib.hid e6; have Z6 := Lib.hid (len_add e6 Z5.out)
  obtain ⟨L7, e7⟩ : ∃ L, L6 ++ oct.enc (oct.fold p.L.x) = L := ⟨_, rfl⟩
  have H7 := Lib.hid e7; have Z7 := Lib.hid (len_add e7 Z6.out)
  have hW : wireR 1 p = L7 := by
    rw [← e7, ← e6, ← e5, ← e4, ← e3, ← e2, ← e1]
    simp [wireR, headR, hk, encs, Lk.l, List.append_assoc]
  generalize wireR 1 p = W at hW ⊢
  clear e1 e2 e3 e4 e5 e6 e7 hk hr hs
  subst W
  clear hp hd hN
  go_enter Tryz.func11, Tryz.ntmps11
  go_wp2_with (first
    | (with_reducible refine box_cel rfl _ rfl rfl ?_; intro b1 u hb hc; have ho := HO.out.below hb; have hst := Stays.below HB.out hb; have hs' := HS.out.trans hst; have hb' := Nat.le_trans HB.out hst.size; clear HO HS HB; have HO := Lib.hid ho; have HS := Lib.hid hs'; have HB := Lib.hid hb'; clear ho hst hs' hb'; have HC := Lib.hid hc; clear hb hc)
    | (with_reducible refine load_pt HC.out Tryz.underlying33 rfl (Pf.infoF HF.out) Pf.all _ rfl rfl rfl ?_)
    | (go_at_call 16; (with_reducible refine (hrt _ (HR.out.below HS.out.bel (Nat.le_refl _))).mono ?_); rintro e u ⟨rfl, hb⟩; have ho := HO.out.below hb; have hst := Stays.below HB.out hb; have qHC := hst.cel (by decide) HC.out; clear HC; have HC := Lib.hid qHC; clear qHC; have hs' := HS.out.trans hst; have hb' := Nat.le_trans HB.out hst.size; clear HO HS HB; have HO := Lib.hid ho; have HS := Lib.hid hs'; have HB := Lib.hid hb'; clear ho hst hs' hb'; clear hb)
    | (go_at_call 13; (with_reducible refine (hsy _ (HR.out.below HS.out.bel (Nat.le_refl _))).mono ?_); rintro e u ⟨rfl, hb⟩; have ho := HO.out.below hb; have hst := Stays.below HB.out hb; have qHC := hst.cel (by decide) HC.out; clear HC; have HC := Lib.hid qHC; clear qHC; have hs' := HS.out.trans hst; have hb' := Nat.le_trans HB.out hst.size; clear HO HS HB; have HO := Lib.hid ho; have HS := Lib.hid hs'; have HB := Lib.hid hb'; clear ho hst hs' hb'; clear hb))
  refine Draws.start (S := fun u => Cel u b1 33 (p.fd A c).cells) (n := 10) 10 rfl (by kernel_rfl) ?_
  have ho := HO.out.below ((Below.refl _ _).drew)
  have hst := Stays.below HB.out ((Below.refl _ _).drew)
  have qHC := hst.cel (by decide) HC.out; clear HC; have HC := Lib.hid qHC; clear qHC
  have hs := HS.out.trans hst; have hb := Nat.le_trans HB.out hst.size; clear HO HS HB; have HO := Lib.hid ho; have HS := Lib.hid hs; have HB := Lib.hid hb
  clear hst ho hs hb
  have HD := Lib.hid (show (fun u => Cel u b1 33 (p.fd A c).cells) _ from HC.out)
  refine Draws.take 0 (v := ?v1) HD.out rfl (by kernel_rfl) (fun _ _ _ h => h) (Or.inl ⟨rfl, ?h1⟩) ?r1
  case h1 => intro w' hw'; go_simp; (try with_reducible rfl)
  (try simp only [Act.put, List.setIfInBounds_toArray, List.set_cons_zero, List.set_cons_succ])
  refine Draws.take 2 (v := ?v2) HD.out rfl (by kernel_rfl) (fun _ _ _ h => h) (Or.inl ⟨rfl, ?h2⟩) ?r2
  case h2 => intro w' hw'; go_simp; (try with_reducible rfl)
  (try simp only [Act.put, List.setIfInBounds_toArray, List.set_cons_zero, List.set_cons_succ])
  refine Draws.take 3 HD.out rfl (by kernel_rfl) (fun _ _ _ h => h) (yield_ci cbI (fun _ h => h) hkc _ rfl rfl rfl) ?_
  (try simp only [Act.put, List.setIfInBounds_toArray, List.set_cons_zero, List.set_cons_succ])
  refine Draws.take 5 (v := ?v3) HD.out rfl (by kernel_rfl) (fun _ _ _ h => h) (Or.inl ⟨rfl, ?h3⟩) ?r3
  case h3 => intro w' hw'; go_simp; (try with_reducible rfl)
  (try simp only [Act.put, List.setIfInBounds_toArray, List.set_cons_zero, List.set_cons_succ])
  refine Draws.take 6 HD.out rfl (by kernel_rfl) (fun _ _ _ h => h) (yield_ci cbS (fun _ h => h) Pf.cn _ rfl rfl rfl) ?_
  (try simp only [Act.put, List.setIfInBounds_toArray, List.set_cons_zero, List.set_cons_succ])
  refine Draws.does 1 rfl (by kernel_rfl) rfl (fun K hK => ?_)
  go_simp
  go_at_call 29
  refine (radd_t w _ [] L1 _ _ HB.out HO.out (by decide) H1.out).mono ?_
  rintro e u ⟨v', rfl, ho, hst⟩
  (try dsimp only)
  have qHC := hst.cel (by decide) HC.out; clear HC; have HC := Lib.hid qHC; clear qHC
  have hs := HS.out.trans hst; have hb := Nat.le_trans HB.out hst.size; clear HO HS HB; have HO := Lib.hid ho; have HS := Lib.hid hs; have HB := Lib.hid hb
  clear hst ho hs hb
  refine hK.out _ _ (fun _ => HC.out) ?_
  clear hK K HD
  have HD := Lib.hid (show (fun u => Cel u b1 33 (p.fd A c).cells) _ from HC.out)
  (try simp only [Act.put, List.setIfInBounds_toArray, List.set_cons_zero, List.set_cons_succ])
  refine Draws.does 4 rfl (by kernel_rfl) rfl (fun K hK => ?_)
  go_simp
  go_at_call 29
  refine (radd_t w _ L1 L2 _ _ HB.out HO.out (by have := Z1.out; omega) H2.out).mono ?_
  rintro e u ⟨v', rfl, ho, hst⟩
  (try dsimp only)
  have qHC := hst.cel (by decide) HC.out; clear HC; have HC := Lib.hid qHC; clear qHC
  have hs := HS.out.trans hst; have hb := Nat.le_trans HB.out hst.size; clear HO HS HB; have HO := Lib.hid ho; have HS := Lib.hid hs; have HB := Lib.hid hb
  clear hst ho hs hb
  refine hK.out _ _ (fun _ => HC.out) ?_
  clear hK K HD
  have HD := Lib.hid (show (fun u => Cel u b1 33 (p.fd A c).cells) _ from HC.out)
  (try simp only [Act.put, List.setIfInBounds_toArray, List.set_cons_zero, List.set_cons_succ])
  refine Draws.does 7 rfl (by kernel_rfl) rfl (fun K hK => ?_)
  go_simp
  go_at_call 30
  refine (hrtx _).mono ?_
  rintro e u ⟨A9, c9, ⟨rfl, _⟩, hko⟩
  (try dsimp only)
  have ho := HO.out.below hko.bel; have hst := Stays.below HB.out hko.bel
  have qHC := hst.cel (by decide) HC.out; clear HC; have HC := Lib.hid qHC; clear qHC
  have hs' := HS.out.trans hst; have hb' := Nat.le_trans HB.out hst.size; clear HO HS HB; have HO := Lib.hid ho; have HS := Lib.hid hs'; have HB := Lib.hid hb'; clear ho hst hs' hb'
  have HT := Lib.hid hko.own.bys; clear hko
  refine hK.out _ _ (fun _ => HC.out) ?_
  clear hK K HD
  have HD := Lib.hid (show (fun u => Cel u b1 33 (p.fd A c).cells) _ from HC.out)
  (try simp only [Act.put, List.setIfInBounds_toArray, List.set_cons_zero, List.set_cons_succ])
  refine Draws.does 8 rfl (by kernel_rfl) rfl (fun K hK => ?_)
  refine wp_app_t HO.out HB.out HT.out H3.out _ _ rfl rfl rfl (by have h1 := Z3.out; rw [← H3.out, List.length_append] at h1; omega) ?_
  intro v' u ho hst
  have qHC := hst.cel (by decide) HC.out; clear HC; have HC := Lib.hid qHC; clear qHC
  have hs' := HS.out.trans hst; have hb' := Nat.le_trans HB.out hst.size; clear HO HS HB; have HO := Lib.hid ho; have HS := Lib.hid hs'; have HB := Lib.hid hb'; clear ho hst hs' hb'
  refine hK.out _ _ (fun _ => HC.out) ?_
  clear hK K HD
  have HD := Lib.hid (show (fun u => Cel u b1 33 (p.fd A c).cells) _ from HC.out)
  (try simp only [Act.put, List.setIfInBounds_toArray, List.set_cons_zero, List.set_cons_succ])
  refine Draws.does 9 rfl (by kernel_rfl) rfl (fun K hK => ?_)
  go_simp
  refine hK.out _ _ (fun _ => HC.out) ?_
  clear hK K
  (try simp only [Act.put, List.setIfInBounds_toArray, List.set_cons_zero, List.set_cons_succ])
  refine Draws.done (by kernel_rfl) ?_
  clear HD
  go_wp2_with (first
    | (with_reducible refine load_there cbI _ rfl (HC.out.cell hkc) rfl rfl ?_))
  refine Draws.start (S := fun u => Cel u b1 33 (p.fd A c).cells) (n := 19) 19 rfl (by kernel_rfl) ?_
  have ho := HO.out.below ((Below.refl _ _).drew)
  have hst := Stays.below HB.out ((Below.refl _ _).drew)
  have qHC := hst.cel (by decide) HC.out; clear HC; have HC := Lib.hid qHC; clear qHC
  have hs := HS.out.trans hst; have hb := Nat.le_trans HB.out hst.size; clear HO HS HB; have HO := Lib.hid ho; have HS := Lib.hid hs; have HB := Lib.hid hb
  clear hst ho hs hb
  have HD := Lib.hid (show (fun u => Cel u b1 33 (p.fd A c).cells) _ from HC.out)
  refine Draws.take 0 (v := ?v4) HD.out rfl (by kernel_rfl) (fun _ _ _ h => h) (Or.inl ⟨rfl, ?h4⟩) ?r4
  case h4 => intro w' hw'; go_simp; (try with_reducible rfl)
  (try simp only [Act.put, List.setIfInBounds_toArray, List.set_cons_zero, List.set_cons_succ])
  refine Draws.take 1 (v := ?v5) HD.out rfl (by kernel_rfl) (fun _ _ _ h => h) (Or.inl ⟨rfl, ?h5⟩) ?r5
  case h5 => intro w' hw'; go_simp; (try with_reducible rfl)
  (try simp only [Act.put, List.setIfInBounds_toArray, List.set_cons_zero, List.set_cons_succ])
  refine Draws.take 2 (v := ?v6) HD.out rfl (by kernel_rfl) (fun _ _ _ h => h) (Or.inl ⟨rfl, ?h6⟩) ?r6
  case h6 => intro w' hw'; go_simp; (try with_reducible rfl)
  (try simp only [Act.put, List.setIfInBounds_toArray, List.set_cons_zero, List.set_cons_succ])
  refine Draws.take 3 HD.out rfl (by kernel_rfl) (fun _ _ _ h => h) (yield_ci cbI (fun _ h => h) (Pf.cL HF.out 0 _ rfl) _ rfl rfl rfl) ?_
  (try simp only [Act.put, List.setIfInBounds_toArray, List.set_cons_zero, List.set_cons_succ])
  refine Draws.take 5 (v := ?v7) HD.out rfl (by kernel_rfl) (fun _ _ _ h => h) (Or.inl ⟨rfl, ?h7⟩) ?r7
  case h7 => intro w' hw'; go_simp; (try with_reducible rfl)
  (try simp only [Act.put, List.setIfInBounds_toArray, List.set_cons_zero, List.set_cons_succ])
  refine Draws.take 6 (v := ?v8) HD.out rfl (by kernel_rfl) (fun _ _ _ h => h) (Or.inl ⟨rfl, ?h8⟩) ?r8
  case h8 => intro w' hw'; go_simp; (try with_reducible rfl)
  (try simp only [Act.put, List.setIfInBounds_toArray, List.set_cons_zero, List.set_cons_succ])
  refine Draws.take 7 HD.out rfl (by kernel_rfl) (fun _ _ _ h => h) (yield_ci cbI (fun _ h => h) (Pf.cL HF.out 1 _ rfl) _ rfl rfl rfl) ?_
  (try simp only [Act.put, List.setIfInBounds_toArray, List.set_cons_zero, List.set_cons_succ])
  refine Draws.take 9 (v := ?v9) HD.out rfl (by kernel_rfl) (fun _ _ _ h => h) (Or.inl ⟨rfl, ?h9⟩) ?r9
  case h9 => intro w' hw'; go_simp; (try with_reducible rfl)
  (try simp only [Act.put, List.setIfInBounds_toArray, List.set_cons_zero, List.set_cons_succ])
  refine Draws.take 10 (v := ?v10) HD.out rfl (by kernel_rfl) (fun _ _ _ h => h) (Or.inl ⟨rfl, ?h10⟩) ?r10
  case h10 => intro w' hw'; go_simp; (try with_reducible rfl)
  (try simp only [Act.put, List.setIfInBounds_toArray, List.set_cons_zero, List.set_cons_succ])
  refine Draws.take 11 HD.out rfl (by kernel_rfl) (fun _ _ _ h => h) (yield_ci cbI (fun _ h => h) (Pf.cL HF.out 2 _ rfl) _ rfl rfl rfl) ?_
  (try simp only [Act.put, List.setIfInBounds_toArray, List.set_cons_zero, List.set_cons_succ])
  refine Draws.take 13 (v := ?v11) HD.out rfl (by kernel_rfl) (fun _ _ _ h => h) (Or.inl ⟨rfl, ?h11⟩) ?r11
  case h11 => intro w' hw'; go_simp; (try with_reducible rfl)
  (try simp only [Act.put, List.setIfInBounds_toArray, List.set_cons_zero, List.set_cons_succ])
  refine Draws.take 14 (v := ?v12) HD.out rfl (by kernel_rfl) (fun _ _ _ h => h) (Or.inl ⟨rfl, ?h12⟩) ?r12
  case h12 => intro w' hw'; go_simp; (try with_reducible rfl)
  (try simp only [Act.put, List.setIfInBounds_toArray, List.set_cons_zero, List.set_cons_succ])
  refine Draws.take 15 HD.out rfl (by kernel_rfl) (fun _ _ _ h => h) (yield_ci cbI (fun _ h => h) (Pf.cL HF.out 3 _ rfl) _ rfl rfl rfl) ?_
  (try simp only [Act.put, List.setIfInBounds_toArray, List.set_cons_zero, List.set_cons_succ])
  refine Draws.does 4 rfl (by kernel_rfl) rfl (fun K hK => ?_)
  go_simp
  go_at_call 29
  refine (radd_t w _ L3 L4 _ _ HB.out HO.out (by have := Z3.out; omega) H4.out).mono ?_
  rintro e u ⟨v', rfl, ho, hst⟩
  (try dsimp only)
  have qHC := hst.cel (by decide) HC.out; clear HC; have HC := Lib.hid qHC; clear qHC
  have hs := HS.out.trans hst; have hb := Nat.le_trans HB.out hst.size; clear HO HS HB; have HO := Lib.hid ho; have HS := Lib.hid hs; have HB := Lib.hid hb
  clear hst ho hs hb
  refine hK.out _ _ (fun _ => HC.out) ?_
  clear hK K HD
  have HD := Lib.hid (show (fun u => Cel u b1 33 (p.fd A c).cells) _ from HC.out)
  (try simp only [Act.put, List.setIfInBounds_toArray, List.set_cons_zero, List.set_cons_succ])
  refine Draws.does 8 rfl (by kernel_rfl) rfl (fun K hK => ?_)
  go_simp
  go_at_call 29
  refine (radd_t w _ L4 L5 _ _ HB.out HO.out (by have := Z4.out; omega) H5.out).mono ?_
  rintro e u ⟨v', rfl, ho, hst⟩
  (try dsimp only)
  have qHC := hst.cel (by decide) HC.out; clear HC; have HC := Lib.hid qHC; clear qHC
  have hs := HS.out.trans hst; have hb := Nat.le_trans HB.out hst.size; clear HO HS HB; have HO := Lib.hid ho; have HS := Lib.hid hs; have HB := Lib.hid hb
  clear hst ho hs hb
  refine hK.out _ _ (fun _ => HC.out) ?_
  clear hK K HD
  have HD := Lib.hid (show (fun u => Cel u b1 33 (p.fd A c).cells) _ from HC.out)
  (try simp only [Act.put, List.setIfInBounds_toArray, List.set_cons_zero, List.set_cons_succ])
  refine Draws.does 12 rfl (by kernel_rfl) rfl (fun K hK => ?_)
  go_simp
  go_at_call 29
  refine (radd_t w _ L5 L6 _ _ HB.out HO.out (by have := Z5.out; omega) H6.out).mono ?_
  rintro e u ⟨v', rfl, ho, hst⟩
  (try dsimp only)
  have qHC := hst.cel (by decide) HC.out; clear HC; have HC := Lib.hid qHC; clear qHC
  have hs := HS.out.trans hst; have hb := Nat.le_trans HB.out hst.size; clear HO HS HB; have HO := Lib.hid ho; have HS := Lib.hid hs; have HB := Lib.hid hb
  clear hst ho hs hb
  refine hK.out _ _ (fun _ => HC.out) ?_
  clear hK K HD
  have HD := Lib.hid (show (fun u => Cel u b1 33 (p.fd A c).cells) _ from HC.out)
  (try simp only [Act.put, List.setIfInBounds_toArray, List.set_cons_zero, List.set_cons_succ])
  refine Draws.does 16 rfl (by kernel_rfl) rfl (fun K hK => ?_)
  go_simp
  go_at_call 29
  refine (radd_t w _ L6 L7 _ _ HB.out HO.out (by have := Z6.out; omega) H7.out).mono ?_
  rintro e u ⟨v', rfl, ho, hst⟩
  (try dsimp only)
  have qHC := hst.cel (by decide) HC.out; clear HC; have HC := Lib.hid qHC; clear qHC
  have hs := HS.out.trans hst; have hb := Nat.le_trans HB.out hst.size; clear HO HS HB; have HO := Lib.hid ho; have HS := Lib.hid hs; have HB := Lib.hid hb
  clear hst ho hs hb
  refine hK.out _ _ (fun _ => HC.out) ?_
  clear hK K HD
  have HD := Lib.hid (show (fun u => Cel u b1 33 (p.fd A c).cells) _ from HC.out)
  (try simp only [Act.put, List.setIfInBounds_toArray, List.set_cons_zero, List.set_cons_succ])
  refine Draws.does 17 rfl (by kernel_rfl) rfl (fun K hK => ?_)
  go_simp
  refine hK.out _ _ (fun _ => HC.out) ?_
  clear hK K
  (try simp only [Act.put, List.setIfInBounds_toArray, List.set_cons_zero, List.set_cons_succ])
  refine Draws.does 18 rfl (by kernel_rfl) rfl (fun K hK => ?_)
  go_simp
  refine hK.out _ _ (fun _ => HC.out) ?_
  clear hK K
  (try simp only [Act.put, List.setIfInBounds_toArray, List.set_cons_zero, List.set_cons_succ])
  refine Draws.done (by kernel_rfl) ?_
  clear HD
  go_wp2_with fail
  go_ret2
  obtain ⟨A7, c7, e7, h7⟩ := HO.out.slice
  rw [e7]
  have hy := HO.out
  rw [e7] at hy
  exact ⟨A7, c7, rfl, h7, hy.bys, HS.out.bel⟩
set_option maxHeartbeats 4000000 in
theorem renc_22 (p : Pf) (hp : p.full) (hN : p.nm.size ≤ 100) (hk : p.k = 2) (hr : rightP p = true) (hs : saysR 2 p = true) (_hh : p.hs.length ≤ 16) (A : Option Addr) (c : Nat) (w : World) (hd : Row w A p.hs.length p.hs) :
    Calls Tryz.prog 11 #[.int .i64 2, .agg (p.fd A c).cells.toArray] w fun e u => ∃ A1 c1, e = .returned (.tuple #[.slice A1 (wireR 2 p).length c1, .int .i64 0]) ∧ (wireR 2 p).length ≤ c1 ∧ oct.Bys u A1 (wireR 2 p) ∧ Below w.heap.size w u := by
  have HF := Lib.hid hp
  have HR := Lib.hid hd
  have HB := Lib.hid (Nat.le_refl w.heap.size)
  have HO := Lib.hid (oct.Own.nil w w.heap.size)
  have HS := Lib.hid (Stays.refl w w)
  have hrt := fun w h => rright_p p hp (by omega) A c true hr w h
  have hsy := fun w h => rsays_any 2 p hp (by omega) A c true hs w h
  have hkc : (p.fd A c).cells[1]? = some (.int .i64 2) := by rw [Pf.ck, hk]
  have hrtx := fun w => oct.rtext_any p.nm (by omega) w
  obtain ⟨L1, e1⟩ : ∃ L, [] ++ oct.enc (oct.fold 2) = L := ⟨_, rfl⟩
  obtain ⟨L2, e2⟩ : ∃ L, L1 ++ oct.enc (oct.fold 2) = L := ⟨_, rfl⟩
  obtain ⟨L3, e3⟩ : ∃ L, L2 ++ (oct.enc (oct.fold p.nm.size) ++ p.nm.data.toList) = L := ⟨_, rfl⟩
  have H1 := Lib.hid e1; have H2 := Lib.hid e2; have H3 := Lib.hid e3
  have Z1 := Lib.hid (len_add e1 (b := 0) (by decide)); have Z2 := Lib.hid (len_add e2 Z1.out); have Z3 := Lib.hid (len_text e3 Z2.out hN)
  obtain ⟨L4, e4⟩ : ∃ L, L3 ++ oct.enc (oct.fold p.L.s) = L := ⟨_, rfl⟩
  have H4 := Lib.hid e4; have Z4 := Lib.hid (len_add e4 Z3.out)
  obtain ⟨L5, e5⟩ : ∃ L, L4 ++ oct.enc (oct.fold p.L.v) = L := ⟨_, rfl⟩
  have H5 := Lib.hid e5; have Z5 := Lib.hid (len_add e5 Z4.out)
  obtain ⟨L6, e6⟩ : ∃ L, L5 ++ oct.enc (oct.fold p.L.h) = L := ⟨_, rfl⟩
  have H6 := Lib.hid e6; have Z6 := Lib.hid (len_add e6 Z5.out)
  obtain ⟨L7, e7⟩ : ∃ L, L6 ++ oct.enc (oct.fold p.L.x) = L := ⟨_, rfl⟩
  have H7 := Lib.hid e7; have Z7 := Lib.hid (len_add e7 Z6.out)
  have hW : wireR 2 p = L7 := by
    rw [← e7, ← e6, ← e5, ← e4, ← e3, ← e2, ← e1]
    simp [wireR, headR, hk, encs, Lk.l, List.append_assoc]
  generalize wireR 2 p = W at hW ⊢
  clear e1 e2 e3 e4 e5 e6 e7 hk hr hs
  subst W
  clear hp hd hN
  go_enter Tryz.func11, Tryz.ntmps11
  go_wp2_with (first
    | (with_reducible refine box_cel rfl _ rfl rfl ?_; intro b1 u hb hc; have ho := HO.out.below hb; have hst := Stays.below HB.out hb; have hs' := HS.out.trans hst; have hb' := Nat.le_trans HB.out hst.size; clear HO HS HB; have HO := Lib.hid ho; have HS := Lib.hid hs'; have HB := Lib.hid hb'; clear ho hst hs' hb'; have HC := Lib.hid hc; clear hb hc)
    | (with_reducible refine load_pt HC.out Tryz.underlying33 rfl (Pf.infoF HF.out) Pf.all _ rfl rfl rfl ?_)
    | (go_at_call 16; (with_reducible refine (hrt _ (HR.out.below HS.out.bel (Nat.le_refl _))).mono ?_); rintro e u ⟨rfl, hb⟩; have ho := HO.out.below hb; have hst := Stays.below HB.out hb; have qHC := hst.cel (by decide) HC.out; clear HC; have HC := Lib.hid qHC; clear qHC; have hs' := HS.out.trans hst; have hb' := Nat.le_trans HB.out hst.size; clear HO HS HB; have HO := Lib.hid ho; have HS := Lib.hid hs'; have HB := Lib.hid hb'; clear ho hst hs' hb'; clear hb)
    | (go_at_call 13; (with_reducible refine (hsy _ (HR.out.below HS.out.bel (Nat.le_refl _))).mono ?_); rintro e u ⟨rfl, hb⟩; have ho := HO.out.below hb; have hst := Stays.below HB.out hb; have qHC := hst.cel (by decide) HC.out; clear HC; have HC := Lib.hid qHC; clear qHC; have hs' := HS.out.trans hst; have hb' := Nat.le_trans HB.out hst.size; clear HO HS HB; have HO := Lib.hid ho; have HS := Lib.hid hs'; have HB := Lib.hid hb'; clear ho hst hs' hb'; clear hb))
  refine Draws.start (S := fun u => Cel u b1 33 (p.fd A c).cells) (n := 10) 10 rfl (by kernel_rfl) ?_
  have ho := HO.out.below ((Below.refl _ _).drew)
  have hst := Stays.below HB.out ((Below.refl _ _).drew)
  have qHC := hst.cel (by decide) HC.out; clear HC; have HC := Lib.hid qHC; clear qHC
  have hs := HS.out.trans hst; have hb := Nat.le_trans HB.out hst.size; clear HO HS HB; have HO := Lib.hid ho; have HS := Lib.hid hs; have HB := Lib.hid hb
  clear hst ho hs hb
  have HD := Lib.hid (show (fun u => Cel u b1 33 (p.fd A c).cells) _ from HC.out)
  refine Draws.take 0 (v := ?v13) HD.out rfl (by kernel_rfl) (fun _ _ _ h => h) (Or.inl ⟨rfl, ?h13⟩) ?r13
  case h13 => intro w' hw'; go_simp; (try with_reducible rfl)
  (try simp only [Act.put, List.setIfInBounds_toArray, List.set_cons_zero, List.set_cons_succ])
  refine Draws.take 2 (v := ?v14) HD.out rfl (by kernel_rfl) (fun _ _ _ h => h) (Or.inl ⟨rfl, ?h14⟩) ?r14
  case h14 => intro w' hw'; go_simp; (try with_reducible rfl)
  (try simp only [Act.put, List.setIfInBounds_toArray, List.set_cons_zero, List.set_cons_succ])
  refine Draws.take 3 HD.out rfl (by kernel_rfl) (fun _ _ _ h => h) (yield_ci cbI (fun _ h => h) hkc _ rfl rfl rfl) ?_
  (try simp only [Act.put, List.setIfInBounds_toArray, List.set_cons_zero, List.set_cons_succ])
  refine Draws.take 5 (v := ?v15) HD.out rfl (by kernel_rfl) (fun _ _ _ h => h) (Or.inl ⟨rfl, ?h15⟩) ?r15
  case h15 => intro w' hw'; go_simp; (try with_reducible rfl)
  (try simp only [Act.put, List.setIfInBounds_toArray, List.set_cons_zero, List.set_cons_succ])
  refine Draws.take 6 HD.out rfl (by kernel_rfl) (fun _ _ _ h => h) (yield_ci cbS (fun _ h => h) Pf.cn _ rfl rfl rfl) ?_
  (try simp only [Act.put, List.setIfInBounds_toArray, List.set_cons_zero, List.set_cons_succ])
  refine Draws.does 1 rfl (by kernel_rfl) rfl (fun K hK => ?_)
  go_simp
  go_at_call 29
  refine (radd_t w _ [] L1 _ _ HB.out HO.out (by decide) H1.out).mono ?_
  rintro e u ⟨v', rfl, ho, hst⟩
  (try dsimp only)
  have qHC := hst.cel (by decide) HC.out; clear HC; have HC := Lib.hid qHC; clear qHC
  have hs := HS.out.trans hst; have hb := Nat.le_trans HB.out hst.size; clear HO HS HB; have HO := Lib.hid ho; have HS := Lib.hid hs; have HB := Lib.hid hb
  clear hst ho hs hb
  refine hK.out _ _ (fun _ => HC.out) ?_
  clear hK K HD
  have HD := Lib.hid (show (fun u => Cel u b1 33 (p.fd A c).cells) _ from HC.out)
  (try simp only [Act.put, List.setIfInBounds_toArray, List.set_cons_zero, List.set_cons_succ])
  refine Draws.does 4 rfl (by kernel_rfl) rfl (fun K hK => ?_)
  go_simp
  go_at_call 29
  refine (radd_t w _ L1 L2 _ _ HB.out HO.out (by have := Z1.out; omega) H2.out).mono ?_
  rintro e u ⟨v', rfl, ho, hst⟩
  (try dsimp only)
  have qHC := hst.cel (by decide) HC.out; clear HC; have HC := Lib.hid qHC; clear qHC
  have hs := HS.out.trans hst; have hb := Nat.le_trans HB.out hst.size; clear HO HS HB; have HO := Lib.hid ho; have HS := Lib.hid hs; have HB := Lib.hid hb
  clear hst ho hs hb
  refine hK.out _ _ (fun _ => HC.out) ?_
  clear hK K HD
  have HD := Lib.hid (show (fun u => Cel u b1 33 (p.fd A c).cells) _ from HC.out)
  (try simp only [Act.put, List.setIfInBounds_toArray, List.set_cons_zero, List.set_cons_succ])
  refine Draws.does 7 rfl (by kernel_rfl) rfl (fun K hK => ?_)
  go_simp
  go_at_call 30
  refine (hrtx _).mono ?_
  rintro e u ⟨A9, c9, ⟨rfl, _⟩, hko⟩
  (try dsimp only)
  have ho := HO.out.below hko.bel; have hst := Stays.below HB.out hko.bel
  have qHC := hst.cel (by decide) HC.out; clear HC; have HC := Lib.hid qHC; clear qHC
  have hs' := HS.out.trans hst; have hb' := Nat.le_trans HB.out hst.size; clear HO HS HB; have HO := Lib.hid ho; have HS := Lib.hid hs'; have HB := Lib.hid hb'; clear ho hst hs' hb'
  have HT := Lib.hid hko.own.bys; clear hko
  refine hK.out _ _ (fun _ => HC.out) ?_
  clear hK K HD
  have HD := Lib.hid (show (fun u => Cel u b1 33 (p.fd A c).cells) _ from HC.out)
  (try simp only [Act.put, List.setIfInBounds_toArray, List.set_cons_zero, List.set_cons_succ])
  refine Draws.does 8 rfl (by kernel_rfl) rfl (fun K hK => ?_)
  refine wp_app_t HO.out HB.out HT.out H3.out _ _ rfl rfl rfl (by have h1 := Z3.out; rw [← H3.out, List.length_append] at h1; omega) ?_
  intro v' u ho hst
  have qHC := hst.cel (by decide) HC.out; clear HC; have HC := Lib.hid qHC; clear qHC
  have hs' := HS.out.trans hst; have hb' := Nat.le_trans HB.out hst.size; clear HO HS HB; have HO := Lib.hid ho; have HS := Lib.hid hs'; have HB := Lib.hid hb'; clear ho hst hs' hb'
  refine hK.out _ _ (fun _ => HC.out) ?_
  clear hK K HD
  have HD := Lib.hid (show (fun u => Cel u b1 33 (p.fd A c).cells) _ from HC.out)
  (try simp only [Act.put, List.setIfInBounds_toArray, List.set_cons_zero, List.set_cons_succ])
  refine Draws.does 9 rfl (by kernel_rfl) rfl (fun K hK => ?_)
  go_simp
  refine hK.out _ _ (fun _ => HC.out) ?_
  clear hK K
  (try simp only [Act.put, List.setIfInBounds_toArray, List.set_cons_zero, List.set_cons_succ])
  refine Draws.done (by kernel_rfl) ?_
  clear HD
  go_wp2_with (first
    | (with_reducible refine load_there cbI _ rfl (HC.out.cell hkc) rfl rfl ?_))
  refine Draws.start (S := fun u => Cel u b1 33 (p.fd A c).cells) (n := 19) 19 rfl (by kernel_rfl) ?_
  have ho := HO.out.below ((Below.refl _ _).drew)
  have hst := Stays.below HB.out ((Below.refl _ _).drew)
  have qHC := hst.cel (by decide) HC.out; clear HC; have HC := Lib.hid qHC; clear qHC
  have hs := HS.out.trans hst; have hb := Nat.le_trans HB.out hst.size; clear HO HS HB; have HO := Lib.hid ho; have HS := Lib.hid hs; have HB := Lib.hid hb
  clear hst ho hs hb
  have HD := Lib.hid (show (fun u => Cel u b1 33 (p.fd A c).cells) _ from HC.out)
  refine Draws.take 0 (v := ?v16) HD.out rfl (by kernel_rfl) (fun _ _ _ h => h) (Or.inl ⟨rfl, ?h16⟩) ?r16
  case h16 => intro w' hw'; go_simp; (try with_reducible rfl)
  (try simp only [Act.put, List.setIfInBounds_toArray, List.set_cons_zero, List.set_cons_succ])
  refine Draws.take 1 (v := ?v17) HD.out rfl (by kernel_rfl) (fun _ _ _ h => h) (Or.inl ⟨rfl, ?h17⟩) ?r17
  case h17 => intro w' hw'; go_simp; (try with_reducible rfl)
  (try simp only [Act.put, List.setIfInBounds_toArray, List.set_cons_zero, List.set_cons_succ])
  refine Draws.take 2 (v := ?v18) HD.out rfl (by kernel_rfl) (fun _ _ _ h => h) (Or.inl ⟨rfl, ?h18⟩) ?r18
  case h18 => intro w' hw'; go_simp; (try with_reducible rfl)
  (try simp only [Act.put, List.setIfInBounds_toArray, List.set_cons_zero, List.set_cons_succ])
  refine Draws.take 3 HD.out rfl (by kernel_rfl) (fun _ _ _ h => h) (yield_ci cbI (fun _ h => h) (Pf.cL HF.out 0 _ rfl) _ rfl rfl rfl) ?_
  (try simp only [Act.put, List.setIfInBounds_toArray, List.set_cons_zero, List.set_cons_succ])
  refine Draws.take 5 (v := ?v19) HD.out rfl (by kernel_rfl) (fun _ _ _ h => h) (Or.inl ⟨rfl, ?h19⟩) ?r19
  case h19 => intro w' hw'; go_simp; (try with_reducible rfl)
  (try simp only [Act.put, List.setIfInBounds_toArray, List.set_cons_zero, List.set_cons_succ])
  refine Draws.take 6 (v := ?v20) HD.out rfl (by kernel_rfl) (fun _ _ _ h => h) (Or.inl ⟨rfl, ?h20⟩) ?r20
  case h20 => intro w' hw'; go_simp; (try with_reducible rfl)
  (try simp only [Act.put, List.setIfInBounds_toArray, List.set_cons_zero, List.set_cons_succ])
  refine Draws.take 7 HD.out rfl (by kernel_rfl) (fun _ _ _ h => h) (yield_ci cbI (fun _ h => h) (Pf.cL HF.out 1 _ rfl) _ rfl rfl rfl) ?_
  (try simp only [Act.put, List.setIfInBounds_toArray, List.set_cons_zero, List.set_cons_succ])
  refine Draws.take 9 (v := ?v21) HD.out rfl (by kernel_rfl) (fun _ _ _ h => h) (Or.inl ⟨rfl, ?h21⟩) ?r21
  case h21 => intro w' hw'; go_simp; (try with_reducible rfl)
  (try simp only [Act.put, List.setIfInBounds_toArray, List.set_cons_zero, List.set_cons_succ])
  refine Draws.take 10 (v := ?v22) HD.out rfl (by kernel_rfl) (fun _ _ _ h => h) (Or.inl ⟨rfl, ?h22⟩) ?r22
  case h22 => intro w' hw'; go_simp; (try with_reducible rfl)
  (try simp only [Act.put, List.setIfInBounds_toArray, List.set_cons_zero, List.set_cons_succ])
  refine Draws.take 11 HD.out rfl (by kernel_rfl) (fun _ _ _ h => h) (yield_ci cbI (fun _ h => h) (Pf.cL HF.out 2 _ rfl) _ rfl rfl rfl) ?_
  (try simp only [Act.put, List.setIfInBounds_toArray, List.set_cons_zero, List.set_cons_succ])
  refine Draws.take 13 (v := ?v23) HD.out rfl (by kernel_rfl) (fun _ _ _ h => h) (Or.inl ⟨rfl, ?h23⟩) ?r23
  case h23 => intro w' hw'; go_simp; (try with_reducible rfl)
  (try simp only [Act.put, List.setIfInBounds_toArray, List.set_cons_zero, List.set_cons_succ])
  refine Draws.take 14 (v := ?v24) HD.out rfl (by kernel_rfl) (fun _ _ _ h => h) (Or.inl ⟨rfl, ?h24⟩) ?r24
  case h24 => intro w' hw'; go_simp; (try with_reducible rfl)
  (try simp only [Act.put, List.setIfInBounds_toArray, List.set_cons_zero, List.set_cons_succ])
  refine Draws.take 15 HD.out rfl (by kernel_rfl) (fun _ _ _ h => h) (yield_ci cbI (fun _ h => h) (Pf.cL HF.out 3 _ rfl) _ rfl rfl rfl) ?_
  (try simp only [Act.put, List.setIfInBounds_toArray, List.set_cons_zero, List.set_cons_succ])
  refine Draws.does 4 rfl (by kernel_rfl) rfl (fun K hK => ?_)
  go_simp
  go_at_call 29
  refine (radd_t w _ L3 L4 _ _ HB.out HO.out (by have := Z3.out; omega) H4.out).mono ?_
  rintro e u ⟨v', rfl, ho, hst⟩
  (try dsimp only)
  have qHC := hst.cel (by decide) HC.out; clear HC; have HC := Lib.hid qHC; clear qHC
  have hs := HS.out.trans hst; have hb := Nat.le_trans HB.out hst.size; clear HO HS HB; have HO := Lib.hid ho; have HS := Lib.hid hs; have HB := Lib.hid hb
  clear hst ho hs hb
  refine hK.out _ _ (fun _ => HC.out) ?_
  clear hK K HD
  have HD := Lib.hid (show (fun u => Cel u b1 33 (p.fd A c).cells) _ from HC.out)
  (try simp only [Act.put, List.setIfInBounds_toArray, List.set_cons_zero, List.set_cons_succ])
  refine Draws.does 8 rfl (by kernel_rfl) rfl (fun K hK => ?_)
  go_simp
  go_at_call 29
  refine (radd_t w _ L4 L5 _ _ HB.out HO.out (by have := Z4.out; omega) H5.out).mono ?_
  rintro e u ⟨v', rfl, ho, hst⟩
  (try dsimp only)
  have qHC := hst.cel (by decide) HC.out; clear HC; have HC := Lib.hid qHC; clear qHC
  have hs := HS.out.trans hst; have hb := Nat.le_trans HB.out hst.size; clear HO HS HB; have HO := Lib.hid ho; have HS := Lib.hid hs; have HB := Lib.hid hb
  clear hst ho hs hb
  refine hK.out _ _ (fun _ => HC.out) ?_
  clear hK K HD
  have HD := Lib.hid (show (fun u => Cel u b1 33 (p.fd A c).cells) _ from HC.out)
  (try simp only [Act.put, List.setIfInBounds_toArray, List.set_cons_zero, List.set_cons_succ])
  refine Draws.does 12 rfl (by kernel_rfl) rfl (fun K hK => ?_)
  go_simp
  go_at_call 29
  refine (radd_t w _ L5 L6 _ _ HB.out HO.out (by have := Z5.out; omega) H6.out).mono ?_
  rintro e u ⟨v', rfl, ho, hst⟩
  (try dsimp only)
  have qHC := hst.cel (by decide) HC.out; clear HC; have HC := Lib.hid qHC; clear qHC
  have hs := HS.out.trans hst; have hb := Nat.le_trans HB.out hst.size; clear HO HS HB; have HO := Lib.hid ho; have HS := Lib.hid hs; have HB := Lib.hid hb
  clear hst ho hs hb
  refine hK.out _ _ (fun _ => HC.out) ?_
  clear hK K HD
  have HD := Lib.hid (show (fun u => Cel u b1 33 (p.fd A c).cells) _ from HC.out)
  (try simp only [Act.put, List.setIfInBounds_toArray, List.set_cons_zero, List.set_cons_succ])
  refine Draws.does 16 rfl (by kernel_rfl) rfl (fun K hK => ?_)
  go_simp
  go_at_call 29
  refine (radd_t w _ L6 L7 _ _ HB.out HO.out (by have := Z6.out; omega) H7.out).mono ?_
  rintro e u ⟨v', rfl, ho, hst⟩
  (try dsimp only)
  have qHC := hst.cel (by decide) HC.out; clear HC; have HC := Lib.hid qHC; clear qHC
  have hs := HS.out.trans hst; have hb := Nat.le_trans HB.out hst.size; clear HO HS HB; have HO := Lib.hid ho; have HS := Lib.hid hs; have HB := Lib.hid hb
  clear hst ho hs hb
  refine hK.out _ _ (fun _ => HC.out) ?_
  clear hK K HD
  have HD := Lib.hid (show (fun u => Cel u b1 33 (p.fd A c).cells) _ from HC.out)
  (try simp only [Act.put, List.setIfInBounds_toArray, List.set_cons_zero, List.set_cons_succ])
  refine Draws.does 17 rfl (by kernel_rfl) rfl (fun K hK => ?_)
  go_simp
  refine hK.out _ _ (fun _ => HC.out) ?_
  clear hK K
  (try simp only [Act.put, List.setIfInBounds_toArray, List.set_cons_zero, List.set_cons_succ])
  refine Draws.does 18 rfl (by kernel_rfl) rfl (fun K hK => ?_)
  go_simp
  refine hK.out _ _ (fun _ => HC.out) ?_
  clear hK K
  (try simp only [Act.put, List.setIfInBounds_toArray, List.set_cons_zero, List.set_cons_succ])
  refine Draws.done (by kernel_rfl) ?_
  clear HD
  go_wp2_with fail
  go_ret2
  obtain ⟨A7, c7, e7, h7⟩ := HO.out.slice
  rw [e7]
  have hy := HO.out
  rw [e7] at hy
  exact ⟨A7, c7, rfl, h7, hy.bys, HS.out.bel⟩
set_option maxHeartbeats 4000000 in
theorem renc_32 (p : Pf) (hp : p.full) (hN : p.nm.size ≤ 100) (hk : p.k = 2) (hr : rightP p = true) (hs : saysR 3 p = true) (_hh : p.hs.length ≤ 16) (A : Option Addr) (c : Nat) (w : World) (hd : Row w A p.hs.length p.hs) :
    Calls Tryz.prog 11 #[.int .i64 3, .agg (p.fd A c).cells.toArray] w fun e u => ∃ A1 c1, e = .returned (.tuple #[.slice A1 (wireR 3 p).length c1, .int .i64 0]) ∧ (wireR 3 p).length ≤ c1 ∧ oct.Bys u A1 (wireR 3 p) ∧ Below w.heap.size w u := by
  have HF := Lib.hid hp
  have HR := Lib.hid hd
  have HB := Lib.hid (Nat.le_refl w.heap.size)
  have HO := Lib.hid (oct.Own.nil w w.heap.size)
  have HS := Lib.hid (Stays.refl w w)
  have hrt := fun w h => rright_p p hp (by omega) A c true hr w h
  have hsy := fun w h => rsays_any 3 p hp (by omega) A c true hs w h
  have hkc : (p.fd A c).cells[1]? = some (.int .i64 2) := by rw [Pf.ck, hk]
  have hrtx := fun w => oct.rtext_any p.nm (by omega) w
  obtain ⟨L1, e1⟩ : ∃ L, [] ++ oct.enc (oct.fold 3) = L := ⟨_, rfl⟩
  obtain ⟨L2, e2⟩ : ∃ L, L1 ++ oct.enc (oct.fold 2) = L := ⟨_, rfl⟩
  obtain ⟨L3, e3⟩ : ∃ L, L2 ++ (oct.enc (oct.fold p.nm.size) ++ p.nm.data.toList) = L := ⟨_, rfl⟩
  have H1 := Lib.hid e1; have H2 := Lib.hid e2; have H3 := Lib.hid e3
  have Z1 := Lib.hid (len_add e1 (b := 0) (by decide)); have Z2 := Lib.hid (len_add e2 Z1.out); have Z3 := Lib.hid (len_text e3 Z2.out hN)
  obtain ⟨L4, e4⟩ : ∃ L, L3 ++ oct.enc (oct.fold p.e) = L := ⟨_, rfl⟩
  have H4 := Lib.hid e4; have Z4 := Lib.hid (len_add e4 Z3.out)
  obtain ⟨L5, e5⟩ : ∃ L, L4 ++ oct.enc (oct.fold p.L.s) = L := ⟨_, rfl⟩
  have H5 := Lib.hid e5; have Z5 := Lib.hid (len_add e5 Z4.out)
  obtain ⟨L6, e6⟩ : ∃ L, L5 ++ oct.enc (oct.fold p.L.v) = L := ⟨_, rfl⟩
  have H6 := Lib.hid e6; have Z6 := Lib.hid (len_add e6 Z5.out)
  obtain ⟨L7, e7⟩ : ∃ L, L6 ++ oct.enc (oct.fold p.L.h) = L := ⟨_, rfl⟩
  have H7 := Lib.hid e7; have Z7 := Lib.hid (len_add e7 Z6.out)
  obtain ⟨L8, e8⟩ : ∃ L, L7 ++ oct.enc (oct.fold p.L.x) = L := ⟨_, rfl⟩
  have H8 := Lib.hid e8; have Z8 := Lib.hid (len_add e8 Z7.out)
  have hW : wireR 3 p = L8 := by
    rw [← e8, ← e7, ← e6, ← e5, ← e4, ← e3, ← e2, ← e1]
    simp [wireR, headR, hk, encs, Lk.l, List.append_assoc]
  generalize wireR 3 p = W at hW ⊢
  clear e1 e2 e3 e4 e5 e6 e7 e8 hk hr hs
  subst W
  clear hp hd hN
  go_enter Tryz.func11, Tryz.ntmps11
  go_wp2_with (first
    | (with_reducible refine box_cel rfl _ rfl rfl ?_; intro b1 u hb hc; have ho := HO.out.below hb; have hst := Stays.below HB.out hb; have hs' := HS.out.trans hst; have hb' := Nat.le_trans HB.out hst.size; clear HO HS HB; have HO := Lib.hid ho; have HS := Lib.hid hs'; have HB := Lib.hid hb'; clear ho hst hs' hb'; have HC := Lib.hid hc; clear hb hc)
    | (with_reducible refine load_pt HC.out Tryz.underlying33 rfl (Pf.infoF HF.out) Pf.all _ rfl rfl rfl ?_)
    | (go_at_call 16; (with_reducible refine (hrt _ (HR.out.below HS.out.bel (Nat.le_refl _))).mono ?_); rintro e u ⟨rfl, hb⟩; have ho := HO.out.below hb; have hst := Stays.below HB.out hb; have qHC := hst.cel (by decide) HC.out; clear HC; have HC := Lib.hid qHC; clear qHC; have hs' := HS.out.trans hst; have hb' := Nat.le_trans HB.out hst.size; clear HO HS HB; have HO := Lib.hid ho; have HS := Lib.hid hs'; have HB := Lib.hid hb'; clear ho hst hs' hb'; clear hb)
    | (go_at_call 13; (with_reducible refine (hsy _ (HR.out.below HS.out.bel (Nat.le_refl _))).mono ?_); rintro e u ⟨rfl, hb⟩; have ho := HO.out.below hb; have hst := Stays.below HB.out hb; have qHC := hst.cel (by decide) HC.out; clear HC; have HC := Lib.hid qHC; clear qHC; have hs' := HS.out.trans hst; have hb' := Nat.le_trans HB.out hst.size; clear HO HS HB; have HO := Lib.hid ho; have HS := Lib.hid hs'; have HB := Lib.hid hb'; clear ho hst hs' hb'; clear hb))
  refine Draws.start (S := fun u => Cel u b1 33 (p.fd A c).cells) (n := 10) 10 rfl (by kernel_rfl) ?_
  have ho := HO.out.below ((Below.refl _ _).drew)
  have hst := Stays.below HB.out ((Below.refl _ _).drew)
  have qHC := hst.cel (by decide) HC.out; clear HC; have HC := Lib.hid qHC; clear qHC
  have hs := HS.out.trans hst; have hb := Nat.le_trans HB.out hst.size; clear HO HS HB; have HO := Lib.hid ho; have HS := Lib.hid hs; have HB := Lib.hid hb
  clear hst ho hs hb
  have HD := Lib.hid (show (fun u => Cel u b1 33 (p.fd A c).cells) _ from HC.out)
  refine Draws.take 0 (v := ?v25) HD.out rfl (by kernel_rfl) (fun _ _ _ h => h) (Or.inl ⟨rfl, ?h25⟩) ?r25
  case h25 => intro w' hw'; go_simp; (try with_reducible rfl)
  (try simp only [Act.put, List.setIfInBounds_toArray, List.set_cons_zero, List.set_cons_succ])
  refine Draws.take 2 (v := ?v26) HD.out rfl (by kernel_rfl) (fun _ _ _ h => h) (Or.inl ⟨rfl, ?h26⟩) ?r26
  case h26 => intro w' hw'; go_simp; (try with_reducible rfl)
  (try simp only [Act.put, List.setIfInBounds_toArray, List.set_cons_zero, List.set_cons_succ])
  refine Draws.take 3 HD.out rfl (by kernel_rfl) (fun _ _ _ h => h) (yield_ci cbI (fun _ h => h) hkc _ rfl rfl rfl) ?_
  (try simp only [Act.put, List.setIfInBounds_toArray, List.set_cons_zero, List.set_cons_succ])
  refine Draws.take 5 (v := ?v27) HD.out rfl (by kernel_rfl) (fun _ _ _ h => h) (Or.inl ⟨rfl, ?h27⟩) ?r27
  case h27 => intro w' hw'; go_simp; (try with_reducible rfl)
  (try simp only [Act.put, List.setIfInBounds_toArray, List.set_cons_zero, List.set_cons_succ])
  refine Draws.take 6 HD.out rfl (by kernel_rfl) (fun _ _ _ h => h) (yield_ci cbS (fun _ h => h) Pf.cn _ rfl rfl rfl) ?_
  (try simp only [Act.put, List.setIfInBounds_toArray, List.set_cons_zero, List.set_cons_succ])
  refine Draws.does 1 rfl (by kernel_rfl) rfl (fun K hK => ?_)
  go_simp
  go_at_call 29
  refine (radd_t w _ [] L1 _ _ HB.out HO.out (by decide) H1.out).mono ?_
  rintro e u ⟨v', rfl, ho, hst⟩
  (try dsimp only)
  have qHC := hst.cel (by decide) HC.out; clear HC; have HC := Lib.hid qHC; clear qHC
  have hs := HS.out.trans hst; have hb := Nat.le_trans HB.out hst.size; clear HO HS HB; have HO := Lib.hid ho; have HS := Lib.hid hs; have HB := Lib.hid hb
  clear hst ho hs hb
  refine hK.out _ _ (fun _ => HC.out) ?_
  clear hK K HD
  have HD := Lib.hid (show (fun u => Cel u b1 33 (p.fd A c).cells) _ from HC.out)
  (try simp only [Act.put, List.setIfInBounds_toArray, List.set_cons_zero, List.set_cons_succ])
  refine Draws.does 4 rfl (by kernel_rfl) rfl (fun K hK => ?_)
  go_simp
  go_at_call 29
  refine (radd_t w _ L1 L2 _ _ HB.out HO.out (by have := Z1.out; omega) H2.out).mono ?_
  rintro e u ⟨v', rfl, ho, hst⟩
  (try dsimp only)
  have qHC := hst.cel (by decide) HC.out; clear HC; have HC := Lib.hid qHC; clear qHC
  have hs := HS.out.trans hst; have hb := Nat.le_trans HB.out hst.size; clear HO HS HB; have HO := Lib.hid ho; have HS := Lib.hid hs; have HB := Lib.hid hb
  clear hst ho hs hb
  refine hK.out _ _ (fun _ => HC.out) ?_
  clear hK K HD
  have HD := Lib.hid (show (fun u => Cel u b1 33 (p.fd A c).cells) _ from HC.out)
  (try simp only [Act.put, List.setIfInBounds_toArray, List.set_cons_zero, List.set_cons_succ])
  refine Draws.does 7 rfl (by kernel_rfl) rfl (fun K hK => ?_)
  go_simp
  go_at_call 30
  refine (hrtx _).mono ?_
  rintro e u ⟨A9, c9, ⟨rfl, _⟩, hko⟩
  (try dsimp only)
  have ho := HO.out.below hko.bel; have hst := Stays.below HB.out hko.bel
  have qHC := hst.cel (by decide) HC.out; clear HC; have HC := Lib.hid qHC; clear qHC
  have hs' := HS.out.trans hst; have hb' := Nat.le_trans HB.out hst.size; clear HO HS HB; have HO := Lib.hid ho; have HS := Lib.hid hs'; have HB := Lib.hid hb'; clear ho hst hs' hb'
  have HT := Lib.hid hko.own.bys; clear hko
  refine hK.out _ _ (fun _ => HC.out) ?_
  clear hK K HD
  have HD := Lib.hid (show (fun u => Cel u b1 33 (p.fd A c).cells) _ from HC.out)
  (try simp only [Act.put, List.setIfInBounds_toArray, List.set_cons_zero, List.set_cons_succ])
  refine Draws.does 8 rfl (by kernel_rfl) rfl (fun K hK => ?_)
  refine wp_app_t HO.out HB.out HT.out H3.out _ _ rfl rfl rfl (by have h1 := Z3.out; rw [← H3.out, List.length_append] at h1; omega) ?_
  intro v' u ho hst
  have qHC := hst.cel (by decide) HC.out; clear HC; have HC := Lib.hid qHC; clear qHC
  have hs' := HS.out.trans hst; have hb' := Nat.le_trans HB.out hst.size; clear HO HS HB; have HO := Lib.hid ho; have HS := Lib.hid hs'; have HB := Lib.hid hb'; clear ho hst hs' hb'
  refine hK.out _ _ (fun _ => HC.out) ?_
  clear hK K HD
  have HD := Lib.hid (show (fun u => Cel u b1 33 (p.fd A c).cells) _ from HC.out)
  (try simp only [Act.put, List.setIfInBounds_toArray, List.set_cons_zero, List.set_cons_succ])
  refine Draws.does 9 rfl (by kernel_rfl) rfl (fun K hK => ?_)
  go_simp
  refine hK.out _ _ (fun _ => HC.out) ?_
  clear hK K
  (try simp only [Act.put, List.setIfInBounds_toArray, List.set_cons_zero, List.set_cons_succ])
  refine Draws.done (by kernel_rfl) ?_
  clear HD
  go_wp2_with (first
    | (with_reducible refine load_there cbI _ rfl (HC.out.cell hkc) rfl rfl ?_)
    | (with_reducible refine load_there cbI _ rfl (HC.out.cell Pf.ce) rfl rfl ?_)
    | (go_at_call 29; (with_reducible refine (radd_t w _ L3 L4 _ _ HB.out HO.out (by have := Z3.out; omega) H4.out).mono ?_); rintro e u ⟨v', rfl, ho, hst⟩; have qHC := hst.cel (by decide) HC.out; clear HC; have HC := Lib.hid qHC; clear qHC; have hs' := HS.out.trans hst; have hb' := Nat.le_trans HB.out hst.size; clear HO HS HB; have HO := Lib.hid ho; have HS := Lib.hid hs'; have HB := Lib.hid hb'; clear ho hst hs' hb'))
  refine Draws.start (S := fun u => Cel u b1 33 (p.fd A c).cells) (n := 19) 19 rfl (by kernel_rfl) ?_
  have ho := HO.out.below ((Below.refl _ _).drew)
  have hst := Stays.below HB.out ((Below.refl _ _).drew)
  have qHC := hst.cel (by decide) HC.out; clear HC; have HC := Lib.hid qHC; clear qHC
  have hs := HS.out.trans hst; have hb := Nat.le_trans HB.out hst.size; clear HO HS HB; have HO := Lib.hid ho; have HS := Lib.hid hs; have HB := Lib.hid hb
  clear hst ho hs hb
  have HD := Lib.hid (show (fun u => Cel u b1 33 (p.fd A c).cells) _ from HC.out)
  refine Draws.take 0 (v := ?v28) HD.out rfl (by kernel_rfl) (fun _ _ _ h => h) (Or.inl ⟨rfl, ?h28⟩) ?r28
  case h28 => intro w' hw'; go_simp; (try with_reducible rfl)
  (try simp only [Act.put, List.setIfInBounds_toArray, List.set_cons_zero, List.set_cons_succ])
  refine Draws.take 1 (v := ?v29) HD.out rfl (by kernel_rfl) (fun _ _ _ h => h) (Or.inl ⟨rfl, ?h29⟩) ?r29
  case h29 => intro w' hw'; go_simp; (try with_reducible rfl)
  (try simp only [Act.put, List.setIfInBounds_toArray, List.set_cons_zero, List.set_cons_succ])
  refine Draws.take 2 (v := ?v30) HD.out rfl (by kernel_rfl) (fun _ _ _ h => h) (Or.inl ⟨rfl, ?h30⟩) ?r30
  case h30 => intro w' hw'; go_simp; (try with_reducible rfl)
  (try simp only [Act.put, List.setIfInBounds_toArray, List.set_cons_zero, List.set_cons_succ])
  refine Draws.take 3 HD.out rfl (by kernel_rfl) (fun _ _ _ h => h) (yield_ci cbI (fun _ h => h) (Pf.cL HF.out 0 _ rfl) _ rfl rfl rfl) ?_
  (try simp only [Act.put, List.setIfInBounds_toArray, List.set_cons_zero, List.set_cons_succ])
  refine Draws.take 5 (v := ?v31) HD.out rfl (by kernel_rfl) (fun _ _ _ h => h) (Or.inl ⟨rfl, ?h31⟩) ?r31
  case h31 => intro w' hw'; go_simp; (try with_reducible rfl)
  (try simp only [Act.put, List.setIfInBounds_toArray, List.set_cons_zero, List.set_cons_succ])
  refine Draws.take 6 (v := ?v32) HD.out rfl (by kernel_rfl) (fun _ _ _ h => h) (Or.inl ⟨rfl, ?h32⟩) ?r32
  case h32 => intro w' hw'; go_simp; (try with_reducible rfl)
  (try simp only [Act.put, List.setIfInBounds_toArray, List.set_cons_zero, List.set_cons_succ])
  refine Draws.take 7 HD.out rfl (by kernel_rfl) (fun _ _ _ h => h) (yield_ci cbI (fun _ h => h) (Pf.cL HF.out 1 _ rfl) _ rfl rfl rfl) ?_
  (try simp only [Act.put, List.setIfInBounds_toArray, List.set_cons_zero, List.set_cons_succ])
  refine Draws.take 9 (v := ?v33) HD.out rfl (by kernel_rfl) (fun _ _ _ h => h) (Or.inl ⟨rfl, ?h33⟩) ?r33
  case h33 => intro w' hw'; go_simp; (try with_reducible rfl)
  (try simp only [Act.put, List.setIfInBounds_toArray, List.set_cons_zero, List.set_cons_succ])
  refine Draws.take 10 (v := ?v34) HD.out rfl (by kernel_rfl) (fun _ _ _ h => h) (Or.inl ⟨rfl, ?h34⟩) ?r34
  case h34 => intro w' hw'; go_simp; (try with_reducible rfl)
  (try simp only [Act.put, List.setIfInBounds_toArray, List.set_cons_zero, List.set_cons_succ])
  refine Draws.take 11 HD.out rfl (by kernel_rfl) (fun _ _ _ h => h) (yield_ci cbI (fun _ h => h) (Pf.cL HF.out 2 _ rfl) _ rfl rfl rfl) ?_
  (try simp only [Act.put, List.setIfInBounds_toArray, List.set_cons_zero, List.set_cons_succ])
  refine Draws.take 13 (v := ?v35) HD.out rfl (by kernel_rfl) (fun _ _ _ h => h) (Or.inl ⟨rfl, ?h35⟩) ?r35
  case h35 => intro w' hw'; go_simp; (try with_reducible rfl)
  (try simp only [Act.put, List.setIfInBounds_toArray, List.set_cons_zero, List.set_cons_succ])
  refine Draws.take 14 (v := ?v36) HD.out rfl (by kernel_rfl) (fun _ _ _ h => h) (Or.inl ⟨rfl, ?h36⟩) ?r36
  case h36 => intro w' hw'; go_simp; (try with_reducible rfl)
  (try simp only [Act.put, List.setIfInBounds_toArray, List.set_cons_zero, List.set_cons_succ])
  refine Draws.take 15 HD.out rfl (by kernel_rfl) (fun _ _ _ h => h) (yield_ci cbI (fun _ h => h) (Pf.cL HF.out 3 _ rfl) _ rfl rfl rfl) ?_
  (try simp only [Act.put, List.setIfInBounds_toArray, List.set_cons_zero, List.set_cons_succ])
  refine Draws.does 4 rfl (by kernel_rfl) rfl (fun K hK => ?_)
  go_simp
  go_at_call 29
  refine (radd_t w _ L4 L5 _ _ HB.out HO.out (by have := Z4.out; omega) H5.out).mono ?_
  rintro e u ⟨v', rfl, ho, hst⟩
  (try dsimp only)
  have qHC := hst.cel (by decide) HC.out; clear HC; have HC := Lib.hid qHC; clear qHC
  have hs := HS.out.trans hst; have hb := Nat.le_trans HB.out hst.size; clear HO HS HB; have HO := Lib.hid ho; have HS := Lib.hid hs; have HB := Lib.hid hb
  clear hst ho hs hb
  refine hK.out _ _ (fun _ => HC.out) ?_
  clear hK K HD
  have HD := Lib.hid (show (fun u => Cel u b1 33 (p.fd A c).cells) _ from HC.out)
  (try simp only [Act.put, List.setIfInBounds_toArray, List.set_cons_zero, List.set_cons_succ])
  refine Draws.does 8 rfl (by kernel_rfl) rfl (fun K hK => ?_)
  go_simp
  go_at_call 29
  refine (radd_t w _ L5 L6 _ _ HB.out HO.out (by have := Z5.out; omega) H6.out).mono ?_
  rintro e u ⟨v', rfl, ho, hst⟩
  (try dsimp only)
  have qHC := hst.cel (by decide) HC.out; clear HC; have HC := Lib.hid qHC; clear qHC
  have hs := HS.out.trans hst; have hb := Nat.le_trans HB.out hst.size; clear HO HS HB; have HO := Lib.hid ho; have HS := Lib.hid hs; have HB := Lib.hid hb
  clear hst ho hs hb
  refine hK.out _ _ (fun _ => HC.out) ?_
  clear hK K HD
  have HD := Lib.hid (show (fun u => Cel u b1 33 (p.fd A c).cells) _ from HC.out)
  (try simp only [Act.put, List.setIfInBounds_toArray, List.set_cons_zero, List.set_cons_succ])
  refine Draws.does 12 rfl (by kernel_rfl) rfl (fun K hK => ?_)
  go_simp
  go_at_call 29
  refine (radd_t w _ L6 L7 _ _ HB.out HO.out (by have := Z6.out; omega) H7.out).mono ?_
  rintro e u ⟨v', rfl, ho, hst⟩
  (try dsimp only)
  have qHC := hst.cel (by decide) HC.out; clear HC; have HC := Lib.hid qHC; clear qHC
  have hs := HS.out.trans hst; have hb := Nat.le_trans HB.out hst.size; clear HO HS HB; have HO := Lib.hid ho; have HS := Lib.hid hs; have HB := Lib.hid hb
  clear hst ho hs hb
  refine hK.out _ _ (fun _ => HC.out) ?_
  clear hK K HD
  have HD := Lib.hid (show (fun u => Cel u b1 33 (p.fd A c).cells) _ from HC.out)
  (try simp only [Act.put, List.setIfInBounds_toArray, List.set_cons_zero, List.set_cons_succ])
  refine Draws.does 16 rfl (by kernel_rfl) rfl (fun K hK => ?_)
  go_simp
  go_at_call 29
  refine (radd_t w _ L7 L8 _ _ HB.out HO.out (by have := Z7.out; omega) H8.out).mono ?_
  rintro e u ⟨v', rfl, ho, hst⟩
  (try dsimp only)
  have qHC := hst.cel (by decide) HC.out; clear HC; have HC := Lib.hid qHC; clear qHC
  have hs := HS.out.trans hst; have hb := Nat.le_trans HB.out hst.size; clear HO HS HB; have HO := Lib.hid ho; have HS := Lib.hid hs; have HB := Lib.hid hb
  clear hst ho hs hb
  refine hK.out _ _ (fun _ => HC.out) ?_
  clear hK K HD
  have HD := Lib.hid (show (fun u => Cel u b1 33 (p.fd A c).cells) _ from HC.out)
  (try simp only [Act.put, List.setIfInBounds_toArray, List.set_cons_zero, List.set_cons_succ])
  refine Draws.does 17 rfl (by kernel_rfl) rfl (fun K hK => ?_)
  go_simp
  refine hK.out _ _ (fun _ => HC.out) ?_
  clear hK K
  (try simp only [Act.put, List.setIfInBounds_toArray, List.set_cons_zero, List.set_cons_succ])
  refine Draws.does 18 rfl (by kernel_rfl) rfl (fun K hK => ?_)
  go_simp
  refine hK.out _ _ (fun _ => HC.out) ?_
  clear hK K
  (try simp only [Act.put, List.setIfInBounds_toArray, List.set_cons_zero, List.set_cons_succ])
  refine Draws.done (by kernel_rfl) ?_
  clear HD
  go_wp2_with fail
  go_ret2
  obtain ⟨A7, c7, e7, h7⟩ := HO.out.slice
  rw [e7]
  have hy := HO.out
  rw [e7] at hy
  exact ⟨A7, c7, rfl, h7, hy.bys, HS.out.bel⟩
set_option maxHeartbeats 4000000 in
theorem renc_11 (p : Pf) (hp : p.full) (hN : p.nm.size ≤ 100) (hk : p.k = 1) (hr : rightP p = true) (hs : saysR 1 p = true) (_hh : p.hs.length ≤ 16) (A : Option Addr) (c : Nat) (w : World) (hd : Row w A p.hs.length p.hs) :
    Calls Tryz.prog 11 #[.int .i64 1, .agg (p.fd A c).cells.toArray] w fun e u => ∃ A1 c1, e = .returned (.tuple #[.slice A1 (wireR 1 p).length c1, .int .i64 0]) ∧ (wireR 1 p).length ≤ c1 ∧ oct.Bys u A1 (wireR 1 p) ∧ Below w.heap.size w u := by
  have HF := Lib.hid hp
  have HR := Lib.hid hd
  have HB := Lib.hid (Nat.le_refl w.heap.size)
  have HO := Lib.hid (oct.Own.nil w w.heap.size)
  have HS := Lib.hid (Stays.refl w w)
  have hrt := fun w h => rright_p p hp (by omega) A c true hr w h
  have hsy := fun w h => rsays_any 1 p hp (by omega) A c true hs w h
  have hkc : (p.fd A c).cells[1]? = some (.int .i64 1) := by rw [Pf.ck, hk]
  have hrtx := fun w => oct.rtext_any p.nm (by omega) w
  obtain ⟨L1, e1⟩ : ∃ L, [] ++ oct.enc (oct.fold 1) = L := ⟨_, rfl⟩
  obtain ⟨L2, e2⟩ : ∃ L, L1 ++ oct.enc (oct.fold 1) = L := ⟨_, rfl⟩
  obtain ⟨L3, e3⟩ : ∃ L, L2 ++ (oct.enc (oct.fold p.nm.size) ++ p.nm.data.toList) = L := ⟨_, rfl⟩
  have H1 := Lib.hid e1; have H2 := Lib.hid e2; have H3 := Lib.hid e3
  have Z1 := Lib.hid (len_add e1 (b := 0) (by decide)); have Z2 := Lib.hid (len_add e2 Z1.out); have Z3 := Lib.hid (len_text e3 Z2.out hN)
  obtain ⟨L4, e4⟩ : ∃ L, L3 ++ oct.enc (oct.fold (p.C.getD 0 0)) = L := ⟨_, rfl⟩
  have H4 := Lib.hid e4; have Z4 := Lib.hid (len_add e4 Z3.out)
  obtain ⟨L5, e5⟩ : ∃ L, L4 ++ oct.enc (oct.fold (p.C.getD 1 0)) = L := ⟨_, rfl⟩
  have H5 := Lib.hid e5; have Z5 := Lib.hid (len_add e5 Z4.out)
  obtain ⟨L6, e6⟩ : ∃ L, L5 ++ oct.enc (oct.fold (p.C.getD 2 0)) = L := ⟨_, rfl⟩
  have H6 := Lib.hid e6; have Z6 := Lib.hid (len_add e6 Z5.out)
  obtain ⟨L7, e7⟩ : ∃ L, L6 ++ encs (dnR p.C) = L := ⟨_, rfl⟩
  have H7 := Lib.hid e7; have Z7 := Lib.hid (len_encs e7 Z6.out (dnR_length hp))
  obtain ⟨L8, e8⟩ : ∃ L, L7 ++ encs (upR p.C) = L := ⟨_, rfl⟩
  have H8 := Lib.hid e8; have Z8 := Lib.hid (len_encs e8 Z7.out (upR_length hp))
  have hW : wireR 1 p = L8 := by
    rw [← e8, ← e7, ← e6, ← e5, ← e4, ← e3, ← e2, ← e1]
    simp [wireR, headR, hk, List.append_assoc]
  generalize wireR 1 p = W at hW ⊢
  clear e1 e2 e3 e4 e5 e6 e7 e8 hk hr hs
  have hc0 : (p.fd A c).cells[3]? = some (.int .i64 (p.C.getD 0 0)) := Fd.cI (f := p.fd A c) (j := 0) hp (by decide)
  have hc1 : (p.fd A c).cells[4]? = some (.int .i64 (p.C.getD 1 0)) := Fd.cI (f := p.fd A c) (j := 1) hp (by decide)
  have hc2 : (p.fd A c).cells[5]? = some (.int .i64 (p.C.getD 2 0)) := Fd.cI (f := p.fd A c) (j := 2) hp (by decide)
  have HDN := Lib.hid (dnR_length hp); have HUP := Lib.hid (upR_length hp)
  generalize p.C.getD 0 0 = z0 at *
  generalize p.C.getD 1 0 = z1 at *
  generalize p.C.getD 2 0 = z2 at *
  subst W
  clear hp hd hN
  go_enter Tryz.func11, Tryz.ntmps11
  go_wp2_with (first
    | (with_reducible refine box_cel rfl _ rfl rfl ?_; intro b1 u hb hc; have ho := HO.out.below hb; have hst := Stays.below HB.out hb; have hs' := HS.out.trans hst; have hb' := Nat.le_trans HB.out hst.size; clear HO HS HB; have HO := Lib.hid ho; have HS := Lib.hid hs'; have HB := Lib.hid hb'; clear ho hst hs' hb'; have HC := Lib.hid hc; clear hb hc)
    | (with_reducible refine load_pt HC.out Tryz.underlying33 rfl (Pf.infoF HF.out) Pf.all _ rfl rfl rfl ?_)
    | (go_at_call 16; (with_reducible refine (hrt _ (HR.out.below HS.out.bel (Nat.le_refl _))).mono ?_); rintro e u ⟨rfl, hb⟩; have ho := HO.out.below hb; have hst := Stays.below HB.out hb; have qHC := hst.cel (by decide) HC.out; clear HC; have HC := Lib.hid qHC; clear qHC; have hs' := HS.out.trans hst; have hb' := Nat.le_trans HB.out hst.size; clear HO HS HB; have HO := Lib.hid ho; have HS := Lib.hid hs'; have HB := Lib.hid hb'; clear ho hst hs' hb'; clear hb)
    | (go_at_call 13; (with_reducible refine (hsy _ (HR.out.below HS.out.bel (Nat.le_refl _))).mono ?_); rintro e u ⟨rfl, hb⟩; have ho := HO.out.below hb; have hst := Stays.below HB.out hb; have qHC := hst.cel (by decide) HC.out; clear HC; have HC := Lib.hid qHC; clear qHC; have hs' := HS.out.trans hst; have hb' := Nat.le_trans HB.out hst.size; clear HO HS HB; have HO := Lib.hid ho; have HS := Lib.hid hs'; have HB := Lib.hid hb'; clear ho hst hs' hb'; clear hb))
  refine Draws.start (S := fun u => Cel u b1 33 (p.fd A c).cells) (n := 10) 10 rfl (by kernel_rfl) ?_
  have ho := HO.out.below ((Below.refl _ _).drew)
  have hst := Stays.below HB.out ((Below.refl _ _).drew)
  have qHC := hst.cel (by decide) HC.out; clear HC; have HC := Lib.hid qHC; clear qHC
  have hs := HS.out.trans hst; have hb := Nat.le_trans HB.out hst.size; clear HO HS HB; have HO := Lib.hid ho; have HS := Lib.hid hs; have HB := Lib.hid hb
  clear hst ho hs hb
  have HD := Lib.hid (show (fun u => Cel u b1 33 (p.fd A c).cells) _ from HC.out)
  refine Draws.take 0 (v := ?v37) HD.out rfl (by kernel_rfl) (fun _ _ _ h => h) (Or.inl ⟨rfl, ?h37⟩) ?r37
  case h37 => intro w' hw'; go_simp; (try with_reducible rfl)
  (try simp only [Act.put, List.setIfInBounds_toArray, List.set_cons_zero, List.set_cons_succ])
  refine Draws.take 2 (v := ?v38) HD.out rfl (by kernel_rfl) (fun _ _ _ h => h) (Or.inl ⟨rfl, ?h38⟩) ?r38
  case h38 => intro w' hw'; go_simp; (try with_reducible rfl)
  (try simp only [Act.put, List.setIfInBounds_toArray, List.set_cons_zero, List.set_cons_succ])
  refine Draws.take 3 HD.out rfl (by kernel_rfl) (fun _ _ _ h => h) (yield_ci cbI (fun _ h => h) hkc _ rfl rfl rfl) ?_
  (try simp only [Act.put, List.setIfInBounds_toArray, List.set_cons_zero, List.set_cons_succ])
  refine Draws.take 5 (v := ?v39) HD.out rfl (by kernel_rfl) (fun _ _ _ h => h) (Or.inl ⟨rfl, ?h39⟩) ?r39
  case h39 => intro w' hw'; go_simp; (try with_reducible rfl)
  (try simp only [Act.put, List.setIfInBounds_toArray, List.set_cons_zero, List.set_cons_succ])
  refine Draws.take 6 HD.out rfl (by kernel_rfl) (fun _ _ _ h => h) (yield_ci cbS (fun _ h => h) Pf.cn _ rfl rfl rfl) ?_
  (try simp only [Act.put, List.setIfInBounds_toArray, List.set_cons_zero, List.set_cons_succ])
  refine Draws.does 1 rfl (by kernel_rfl) rfl (fun K hK => ?_)
  go_simp
  go_at_call 29
  refine (radd_t w _ [] L1 _ _ HB.out HO.out (by decide) H1.out).mono ?_
  rintro e u ⟨v', rfl, ho, hst⟩
  (try dsimp only)
  have qHC := hst.cel (by decide) HC.out; clear HC; have HC := Lib.hid qHC; clear qHC
  have hs := HS.out.trans hst; have hb := Nat.le_trans HB.out hst.size; clear HO HS HB; have HO := Lib.hid ho; have HS := Lib.hid hs; have HB := Lib.hid hb
  clear hst ho hs hb
  refine hK.out _ _ (fun _ => HC.out) ?_
  clear hK K HD
  have HD := Lib.hid (show (fun u => Cel u b1 33 (p.fd A c).cells) _ from HC.out)
  (try simp only [Act.put, List.setIfInBounds_toArray, List.set_cons_zero, List.set_cons_succ])
  refine Draws.does 4 rfl (by kernel_rfl) rfl (fun K hK => ?_)
  go_simp
  go_at_call 29
  refine (radd_t w _ L1 L2 _ _ HB.out HO.out (by have := Z1.out; omega) H2.out).mono ?_
  rintro e u ⟨v', rfl, ho, hst⟩
  (try dsimp only)
  have qHC := hst.cel (by decide) HC.out; clear HC; have HC := Lib.hid qHC; clear qHC
  have hs := HS.out.trans hst; have hb := Nat.le_trans HB.out hst.size; clear HO HS HB; have HO := Lib.hid ho; have HS := Lib.hid hs; have HB := Lib.hid hb
  clear hst ho hs hb
  refine hK.out _ _ (fun _ => HC.out) ?_
  clear hK K HD
  have HD := Lib.hid (show (fun u => Cel u b1 33 (p.fd A c).cells) _ from HC.out)
  (try simp only [Act.put, List.setIfInBounds_toArray, List.set_cons_zero, List.set_cons_succ])
  refine Draws.does 7 rfl (by kernel_rfl) rfl (fun K hK => ?_)
  go_simp
  go_at_call 30
  refine (hrtx _).mono ?_
  rintro e u ⟨A9, c9, ⟨rfl, _⟩, hko⟩
  (try dsimp only)
  have ho := HO.out.below hko.bel; have hst := Stays.below HB.out hko.bel
  have qHC := hst.cel (by decide) HC.out; clear HC; have HC := Lib.hid qHC; clear qHC
  have hs' := HS.out.trans hst; have hb' := Nat.le_trans HB.out hst.size; clear HO HS HB; have HO := Lib.hid ho; have HS := Lib.hid hs'; have HB := Lib.hid hb'; clear ho hst hs' hb'
  have HT := Lib.hid hko.own.bys; clear hko
  refine hK.out _ _ (fun _ => HC.out) ?_
  clear hK K HD
  have HD := Lib.hid (show (fun u => Cel u b1 33 (p.fd A c).cells) _ from HC.out)
  (try simp only [Act.put, List.setIfInBounds_toArray, List.set_cons_zero, List.set_cons_succ])
  refine Draws.does 8 rfl (by kernel_rfl) rfl (fun K hK => ?_)
  refine wp_app_t HO.out HB.out HT.out H3.out _ _ rfl rfl rfl (by have h1 := Z3.out; rw [← H3.out, List.length_append] at h1; omega) ?_
  intro v' u ho hst
  have qHC := hst.cel (by decide) HC.out; clear HC; have HC := Lib.hid qHC; clear qHC
  have hs' := HS.out.trans hst; have hb' := Nat.le_trans HB.out hst.size; clear HO HS HB; have HO := Lib.hid ho; have HS := Lib.hid hs'; have HB := Lib.hid hb'; clear ho hst hs' hb'
  refine hK.out _ _ (fun _ => HC.out) ?_
  clear hK K HD
  have HD := Lib.hid (show (fun u => Cel u b1 33 (p.fd A c).cells) _ from HC.out)
  (try simp only [Act.put, List.setIfInBounds_toArray, List.set_cons_zero, List.set_cons_succ])
  refine Draws.does 9 rfl (by kernel_rfl) rfl (fun K hK => ?_)
  go_simp
  refine hK.out _ _ (fun _ => HC.out) ?_
  clear hK K
  (try simp only [Act.put, List.setIfInBounds_toArray, List.set_cons_zero, List.set_cons_succ])
  refine Draws.done (by kernel_rfl) ?_
  clear HD
  go_wp2_with (first
    | (with_reducible refine load_there cbI _ rfl (HC.out.cell hkc) rfl rfl ?_))
  refine Draws.start (S := fun u => Cel u b1 33 (p.fd A c).cells) (n := 14) 14 rfl (by kernel_rfl) ?_
  have ho := HO.out.below ((Below.refl _ _).drew)
  have hst := Stays.below HB.out ((Below.refl _ _).drew)
  have qHC := hst.cel (by decide) HC.out; clear HC; have HC := Lib.hid qHC; clear qHC
  have hs := HS.out.trans hst; have hb := Nat.le_trans HB.out hst.size; clear HO HS HB; have HO := Lib.hid ho; have HS := Lib.hid hs; have HB := Lib.hid hb
  clear hst ho hs hb
  have HD := Lib.hid (show (fun u => Cel u b1 33 (p.fd A c).cells) _ from HC.out)
  refine Draws.take 0 (v := ?v40) HD.out rfl (by kernel_rfl) (fun _ _ _ h => h) (Or.inl ⟨rfl, ?h40⟩) ?r40
  case h40 => intro w' hw'; go_simp; (try with_reducible rfl)
  (try simp only [Act.put, List.setIfInBounds_toArray, List.set_cons_zero, List.set_cons_succ])
  refine Draws.take 1 (v := ?v41) HD.out rfl (by kernel_rfl) (fun _ _ _ h => h) (Or.inl ⟨rfl, ?h41⟩) ?r41
  case h41 => intro w' hw'; go_simp; (try with_reducible rfl)
  (try simp only [Act.put, List.setIfInBounds_toArray, List.set_cons_zero, List.set_cons_succ])
  refine Draws.take 2 (v := ?v42) HD.out rfl (by kernel_rfl) (fun _ _ _ h => h) (Or.inl ⟨rfl, ?h42⟩) ?r42
  case h42 => intro w' hw'; go_simp; (try with_reducible rfl)
  (try simp only [Act.put, List.setIfInBounds_toArray, List.set_cons_zero, List.set_cons_succ])
  refine Draws.take 3 HD.out rfl (by kernel_rfl) (fun _ _ _ h => h) (yield_ci cbI (fun _ h => h) hc0 _ rfl rfl rfl) ?_
  (try simp only [Act.put, List.setIfInBounds_toArray, List.set_cons_zero, List.set_cons_succ])
  refine Draws.take 5 (v := ?v43) HD.out rfl (by kernel_rfl) (fun _ _ _ h => h) (Or.inl ⟨rfl, ?h43⟩) ?r43
  case h43 => intro w' hw'; go_simp; (try with_reducible rfl)
  (try simp only [Act.put, List.setIfInBounds_toArray, List.set_cons_zero, List.set_cons_succ])
  refine Draws.take 6 (v := ?v44) HD.out rfl (by kernel_rfl) (fun _ _ _ h => h) (Or.inl ⟨rfl, ?h44⟩) ?r44
  case h44 => intro w' hw'; go_simp; (try with_reducible rfl)
  (try simp only [Act.put, List.setIfInBounds_toArray, List.set_cons_zero, List.set_cons_succ])
  refine Draws.take 7 HD.out rfl (by kernel_rfl) (fun _ _ _ h => h) (yield_ci cbI (fun _ h => h) hc1 _ rfl rfl rfl) ?_
  (try simp only [Act.put, List.setIfInBounds_toArray, List.set_cons_zero, List.set_cons_succ])
  refine Draws.take 9 (v := ?v45) HD.out rfl (by kernel_rfl) (fun _ _ _ h => h) (Or.inl ⟨rfl, ?h45⟩) ?r45
  case h45 => intro w' hw'; go_simp; (try with_reducible rfl)
  (try simp only [Act.put, List.setIfInBounds_toArray, List.set_cons_zero, List.set_cons_succ])
  refine Draws.take 10 (v := ?v46) HD.out rfl (by kernel_rfl) (fun _ _ _ h => h) (Or.inl ⟨rfl, ?h46⟩) ?r46
  case h46 => intro w' hw'; go_simp; (try with_reducible rfl)
  (try simp only [Act.put, List.setIfInBounds_toArray, List.set_cons_zero, List.set_cons_succ])
  refine Draws.take 11 HD.out rfl (by kernel_rfl) (fun _ _ _ h => h) (yield_ci cbI (fun _ h => h) hc2 _ rfl rfl rfl) ?_
  (try simp only [Act.put, List.setIfInBounds_toArray, List.set_cons_zero, List.set_cons_succ])
  refine Draws.does 4 rfl (by kernel_rfl) rfl (fun K hK => ?_)
  go_simp
  go_at_call 29
  refine (radd_t w _ L3 L4 _ _ HB.out HO.out (by have := Z3.out; omega) H4.out).mono ?_
  rintro e u ⟨v', rfl, ho, hst⟩
  (try dsimp only)
  have qHC := hst.cel (by decide) HC.out; clear HC; have HC := Lib.hid qHC; clear qHC
  have hs := HS.out.trans hst; have hb := Nat.le_trans HB.out hst.size; clear HO HS HB; have HO := Lib.hid ho; have HS := Lib.hid hs; have HB := Lib.hid hb
  clear hst ho hs hb
  refine hK.out _ _ (fun _ => HC.out) ?_
  clear hK K HD
  have HD := Lib.hid (show (fun u => Cel u b1 33 (p.fd A c).cells) _ from HC.out)
  (try simp only [Act.put, List.setIfInBounds_toArray, List.set_cons_zero, List.set_cons_succ])
  refine Draws.does 8 rfl (by kernel_rfl) rfl (fun K hK => ?_)
  go_simp
  go_at_call 29
  refine (radd_t w _ L4 L5 _ _ HB.out HO.out (by have := Z4.out; omega) H5.out).mono ?_
  rintro e u ⟨v', rfl, ho, hst⟩
  (try dsimp only)
  have qHC := hst.cel (by decide) HC.out; clear HC; have HC := Lib.hid qHC; clear qHC
  have hs := HS.out.trans hst; have hb := Nat.le_trans HB.out hst.size; clear HO HS HB; have HO := Lib.hid ho; have HS := Lib.hid hs; have HB := Lib.hid hb
  clear hst ho hs hb
  refine hK.out _ _ (fun _ => HC.out) ?_
  clear hK K HD
  have HD := Lib.hid (show (fun u => Cel u b1 33 (p.fd A c).cells) _ from HC.out)
  (try simp only [Act.put, List.setIfInBounds_toArray, List.set_cons_zero, List.set_cons_succ])
  refine Draws.does 12 rfl (by kernel_rfl) rfl (fun K hK => ?_)
  go_simp
  go_at_call 29
  refine (radd_t w _ L5 L6 _ _ HB.out HO.out (by have := Z5.out; omega) H6.out).mono ?_
  rintro e u ⟨v', rfl, ho, hst⟩
  (try dsimp only)
  have qHC := hst.cel (by decide) HC.out; clear HC; have HC := Lib.hid qHC; clear qHC
  have hs := HS.out.trans hst; have hb := Nat.le_trans HB.out hst.size; clear HO HS HB; have HO := Lib.hid ho; have HS := Lib.hid hs; have HB := Lib.hid hb
  clear hst ho hs hb
  refine hK.out _ _ (fun _ => HC.out) ?_
  clear hK K HD
  have HD := Lib.hid (show (fun u => Cel u b1 33 (p.fd A c).cells) _ from HC.out)
  (try simp only [Act.put, List.setIfInBounds_toArray, List.set_cons_zero, List.set_cons_succ])
  refine Draws.does 13 rfl (by kernel_rfl) rfl (fun K hK => ?_)
  go_simp
  refine hK.out _ _ (fun _ => HC.out) ?_
  clear hK K
  (try simp only [Act.put, List.setIfInBounds_toArray, List.set_cons_zero, List.set_cons_succ])
  refine Draws.done (by kernel_rfl) ?_
  clear HD
  go_wp2_with fail
  refine Draws.start (S := fun u => Cel u b1 33 (p.fd A c).cells) (n := 10) 10 rfl (by kernel_rfl) ?_
  have ho := HO.out.below ((Below.refl _ _).drew)
  have hst := Stays.below HB.out ((Below.refl _ _).drew)
  have qHC := hst.cel (by decide) HC.out; clear HC; have HC := Lib.hid qHC; clear qHC
  have hs := HS.out.trans hst; have hb := Nat.le_trans HB.out hst.size; clear HO HS HB; have HO := Lib.hid ho; have HS := Lib.hid hs; have HB := Lib.hid hb
  clear hst ho hs hb
  have HD := Lib.hid (show (fun u => Cel u b1 33 (p.fd A c).cells) _ from HC.out)
  refine Draws.take 0 (v := ?v47) HD.out rfl (by kernel_rfl) (fun _ _ _ h => h) (Or.inl ⟨rfl, ?h47⟩) ?r47
  case h47 => intro w' hw'; go_simp; (try with_reducible rfl)
  (try simp only [Act.put, List.setIfInBounds_toArray, List.set_cons_zero, List.set_cons_succ])
  refine Draws.take 1 (v := ?v48) HD.out rfl (by kernel_rfl) (fun _ _ _ h => h) (Or.inl ⟨rfl, ?h48⟩) ?r48
  case h48 => intro w' hw'; go_simp; (try with_reducible rfl)
  (try simp only [Act.put, List.setIfInBounds_toArray, List.set_cons_zero, List.set_cons_succ])
  refine Draws.take 2 (v := ?v49) HD.out rfl (by kernel_rfl) (fun _ _ _ h => h) (Or.inl ⟨rfl, ?h49⟩) ?r49
  case h49 => intro w' hw'; go_simp; (try with_reducible rfl)
  (try simp only [Act.put, List.setIfInBounds_toArray, List.set_cons_zero, List.set_cons_succ])
  refine Draws.take 3 HD.out rfl (by kernel_rfl) (fun _ _ _ h => h) (yield_pt (fun _ h => h) Tryz.underlying26 rfl (d_infoW HDN.out) (Fd.cD (f := p.fd A c) HF.out) _ rfl rfl rfl) ?_
  (try simp only [Act.put, List.setIfInBounds_toArray, List.set_cons_zero, List.set_cons_succ])
  refine Draws.take 5 (v := ?v50) HD.out rfl (by kernel_rfl) (fun _ _ _ h => h) (Or.inl ⟨rfl, ?h50⟩) ?r50
  case h50 => intro w' hw'; go_simp; (try with_reducible rfl)
  (try simp only [Act.put, List.setIfInBounds_toArray, List.set_cons_zero, List.set_cons_succ])
  refine Draws.take 6 (v := ?v51) HD.out rfl (by kernel_rfl) (fun _ _ _ h => h) (Or.inl ⟨rfl, ?h51⟩) ?r51
  case h51 => intro w' hw'; go_simp; (try with_reducible rfl)
  (try simp only [Act.put, List.setIfInBounds_toArray, List.set_cons_zero, List.set_cons_succ])
  refine Draws.take 7 HD.out rfl (by kernel_rfl) (fun _ _ _ h => h) (yield_pt (fun _ h => h) Tryz.underlying26 rfl (d_infoW HUP.out) (Fd.cU (f := p.fd A c) HF.out) _ rfl rfl rfl) ?_
  (try simp only [Act.put, List.setIfInBounds_toArray, List.set_cons_zero, List.set_cons_succ])
  refine Draws.does 4 rfl (by kernel_rfl) rfl (fun K hK => ?_)
  go_simp
  go_at_call 31
  refine (rrights_t w _ L6 L7 _ HDN.out _ HB.out HO.out (by have := Z6.out; omega) H7.out).mono ?_
  rintro e u ⟨v', rfl, ho, hst⟩
  (try dsimp only)
  have qHC := hst.cel (by decide) HC.out; clear HC; have HC := Lib.hid qHC; clear qHC
  have hs := HS.out.trans hst; have hb := Nat.le_trans HB.out hst.size; clear HO HS HB; have HO := Lib.hid ho; have HS := Lib.hid hs; have HB := Lib.hid hb
  clear hst ho hs hb
  refine hK.out _ _ (fun _ => HC.out) ?_
  clear hK K HD
  have HD := Lib.hid (show (fun u => Cel u b1 33 (p.fd A c).cells) _ from HC.out)
  (try simp only [Act.put, List.setIfInBounds_toArray, List.set_cons_zero, List.set_cons_succ])
  refine Draws.does 8 rfl (by kernel_rfl) rfl (fun K hK => ?_)
  go_simp
  go_at_call 31
  refine (rrights_t w _ L7 L8 _ HUP.out _ HB.out HO.out (by have := Z7.out; omega) H8.out).mono ?_
  rintro e u ⟨v', rfl, ho, hst⟩
  (try dsimp only)
  have qHC := hst.cel (by decide) HC.out; clear HC; have HC := Lib.hid qHC; clear qHC
  have hs := HS.out.trans hst; have hb := Nat.le_trans HB.out hst.size; clear HO HS HB; have HO := Lib.hid ho; have HS := Lib.hid hs; have HB := Lib.hid hb
  clear hst ho hs hb
  refine hK.out _ _ (fun _ => HC.out) ?_
  clear hK K HD
  have HD := Lib.hid (show (fun u => Cel u b1 33 (p.fd A c).cells) _ from HC.out)
  (try simp only [Act.put, List.setIfInBounds_toArray, List.set_cons_zero, List.set_cons_succ])
  refine Draws.does 9 rfl (by kernel_rfl) rfl (fun K hK => ?_)
  go_simp
  refine hK.out _ _ (fun _ => HC.out) ?_
  clear hK K
  (try simp only [Act.put, List.setIfInBounds_toArray, List.set_cons_zero, List.set_cons_succ])
  refine Draws.done (by kernel_rfl) ?_
  clear HD
  go_wp2_with fail
  go_ret2
  obtain ⟨A7, c7, e7, h7⟩ := HO.out.slice
  rw [e7]
  have hy := HO.out
  rw [e7] at hy
  exact ⟨A7, c7, rfl, h7, hy.bys, HS.out.bel⟩
set_option maxHeartbeats 4000000 in
theorem renc_21 (p : Pf) (hp : p.full) (hN : p.nm.size ≤ 100) (hk : p.k = 1) (hr : rightP p = true) (hs : saysR 2 p = true) (hh : p.hs.length ≤ 16) (A : Option Addr) (c : Nat) (w : World) (hd : Row w A p.hs.length p.hs) :
    Calls Tryz.prog 11 #[.int .i64 2, .agg (p.fd A c).cells.toArray] w fun e u => ∃ A1 c1, e = .returned (.tuple #[.slice A1 (wireR 2 p).length c1, .int .i64 0]) ∧ (wireR 2 p).length ≤ c1 ∧ oct.Bys u A1 (wireR 2 p) ∧ Below w.heap.size w u := by
  have HF := Lib.hid hp
  have HR := Lib.hid hd
  have HB := Lib.hid (Nat.le_refl w.heap.size)
  have HO := Lib.hid (oct.Own.nil w w.heap.size)
  have HS := Lib.hid (Stays.refl w w)
  have hrt := fun w h => rright_p p hp (by omega) A c true hr w h
  have hsy := fun w h => rsays_any 2 p hp (by omega) A c true hs w h
  have hkc : (p.fd A c).cells[1]? = some (.int .i64 1) := by rw [Pf.ck, hk]
  have hrtx := fun w => oct.rtext_any p.nm (by omega) w
  obtain ⟨L1, e1⟩ : ∃ L, [] ++ oct.enc (oct.fold 2) = L := ⟨_, rfl⟩
  obtain ⟨L2, e2⟩ : ∃ L, L1 ++ oct.enc (oct.fold 1) = L := ⟨_, rfl⟩
  obtain ⟨L3, e3⟩ : ∃ L, L2 ++ (oct.enc (oct.fold p.nm.size) ++ p.nm.data.toList) = L := ⟨_, rfl⟩
  have H1 := Lib.hid e1; have H2 := Lib.hid e2; have H3 := Lib.hid e3
  have Z1 := Lib.hid (len_add e1 (b := 0) (by decide)); have Z2 := Lib.hid (len_add e2 Z1.out); have Z3 := Lib.hid (len_text e3 Z2.out hN)
  obtain ⟨L4, e4⟩ : ∃ L, L3 ++ oct.enc (oct.fold (p.C.getD 0 0)) = L := ⟨_, rfl⟩
  have H4 := Lib.hid e4; have Z4 := Lib.hid (len_add e4 Z3.out)
  obtain ⟨L5, e5⟩ : ∃ L, L4 ++ oct.enc (oct.fold (p.C.getD 1 0)) = L := ⟨_, rfl⟩
  have H5 := Lib.hid e5; have Z5 := Lib.hid (len_add e5 Z4.out)
  obtain ⟨L6, e6⟩ : ∃ L, L5 ++ oct.enc (oct.fold (p.C.getD 2 0)) = L := ⟨_, rfl⟩
  have H6 := Lib.hid e6; have Z6 := Lib.hid (len_add e6 Z5.out)
  obtain ⟨L7, e7⟩ : ∃ L, L6 ++ encs (dnR p.C) = L := ⟨_, rfl⟩
  have H7 := Lib.hid e7; have Z7 := Lib.hid (len_encs e7 Z6.out (dnR_length hp))
  obtain ⟨L8, e8⟩ : ∃ L, L7 ++ encs (upR p.C) = L := ⟨_, rfl⟩
  have H8 := Lib.hid e8; have Z8 := Lib.hid (len_encs e8 Z7.out (upR_length hp))
  obtain ⟨L9, e9⟩ : ∃ L, L8 ++ oct.enc (oct.fold p.hs.length) = L := ⟨_, rfl⟩
  have H9 := Lib.hid e9; have Z9 := Lib.hid (len_add e9 Z8.out)
  have hW : wireR 2 p = L9 ++ encs (flat p.hs) := by
    rw [← e9, ← e8, ← e7, ← e6, ← e5, ← e4, ← e3, ← e2, ← e1]
    simp [wireR, headR, hk, List.append_assoc]
  generalize wireR 2 p = W at hW ⊢
  clear e1 e2 e3 e4 e5 e6 e7 e8 e9 hk hr hs
  have hc0 : (p.fd A c).cells[3]? = some (.int .i64 (p.C.getD 0 0)) := Fd.cI (f := p.fd A c) (j := 0) hp (by decide)
  have hc1 : (p.fd A c).cells[4]? = some (.int .i64 (p.C.getD 1 0)) := Fd.cI (f := p.fd A c) (j := 1) hp (by decide)
  have hc2 : (p.fd A c).cells[5]? = some (.int .i64 (p.C.getD 2 0)) := Fd.cI (f := p.fd A c) (j := 2) hp (by decide)
  have HDN := Lib.hid (dnR_length hp); have HUP := Lib.hid (upR_length hp)
  generalize p.C.getD 0 0 = z0 at *
  generalize p.C.getD 1 0 = z1 at *
  generalize p.C.getD 2 0 = z2 at *
  clear hp hd hN
  go_enter Tryz.func11, Tryz.ntmps11
  go_wp2_with (first
    | (with_reducible refine box_cel rfl _ rfl rfl ?_; intro b1 u hb hc; have ho := HO.out.below hb; have hst := Stays.below HB.out hb; have hs' := HS.out.trans hst; have hb' := Nat.le_trans HB.out hst.size; clear HO HS HB; have HO := Lib.hid ho; have HS := Lib.hid hs'; have HB := Lib.hid hb'; clear ho hst hs' hb'; have HC := Lib.hid hc; clear hb hc)
    | (with_reducible refine load_pt HC.out Tryz.underlying33 rfl (Pf.infoF HF.out) Pf.all _ rfl rfl rfl ?_)
    | (go_at_call 16; (with_reducible refine (hrt _ (HR.out.below HS.out.bel (Nat.le_refl _))).mono ?_); rintro e u ⟨rfl, hb⟩; have ho := HO.out.below hb; have hst := Stays.below HB.out hb; have qHC := hst.cel (by decide) HC.out; clear HC; have HC := Lib.hid qHC; clear qHC; have hs' := HS.out.trans hst; have hb' := Nat.le_trans HB.out hst.size; clear HO HS HB; have HO := Lib.hid ho; have HS := Lib.hid hs'; have HB := Lib.hid hb'; clear ho hst hs' hb'; clear hb)
    | (go_at_call 13; (with_reducible refine (hsy _ (HR.out.below HS.out.bel (Nat.le_refl _))).mono ?_); rintro e u ⟨rfl, hb⟩; have ho := HO.out.below hb; have hst := Stays.below HB.out hb; have qHC := hst.cel (by decide) HC.out; clear HC; have HC := Lib.hid qHC; clear qHC; have hs' := HS.out.trans hst; have hb' := Nat.le_trans HB.out hst.size; clear HO HS HB; have HO := Lib.hid ho; have HS := Lib.hid hs'; have HB := Lib.hid hb'; clear ho hst hs' hb'; clear hb))
  refine Draws.start (S := fun u => Cel u b1 33 (p.fd A c).cells) (n := 10) 10 rfl (by kernel_rfl) ?_
  have ho := HO.out.below ((Below.refl _ _).drew)
  have hst := Stays.below HB.out ((Below.refl _ _).drew)
  have qHC := hst.cel (by decide) HC.out; clear HC; have HC := Lib.hid qHC; clear qHC
  have hs := HS.out.trans hst; have hb := Nat.le_trans HB.out hst.size; clear HO HS HB; have HO := Lib.hid ho; have HS := Lib.hid hs; have HB := Lib.hid hb
  clear hst ho hs hb
  have HD := Lib.hid (show (fun u => Cel u b1 33 (p.fd A c).cells) _ from HC.out)
  refine Draws.take 0 (v := ?v52) HD.out rfl (by kernel_rfl) (fun _ _ _ h => h) (Or.inl ⟨rfl, ?h52⟩) ?r52
  case h52 => intro w' hw'; go_simp; (try with_reducible rfl)
  (try simp only [Act.put, List.setIfInBounds_toArray, List.set_cons_zero, List.set_cons_succ])
  refine Draws.take 2 (v := ?v53) HD.out rfl (by kernel_rfl) (fun _ _ _ h => h) (Or.inl ⟨rfl, ?h53⟩) ?r53
  case h53 => intro w' hw'; go_simp; (try with_reducible rfl)
  (try simp only [Act.put, List.setIfInBounds_toArray, List.set_cons_zero, List.set_cons_succ])
  refine Draws.take 3 HD.out rfl (by kernel_rfl) (fun _ _ _ h => h) (yield_ci cbI (fun _ h => h) hkc _ rfl rfl rfl) ?_
  (try simp only [Act.put, List.setIfInBounds_toArray, List.set_cons_zero, List.set_cons_succ])
  refine Draws.take 5 (v := ?v54) HD.out rfl (by kernel_rfl) (fun _ _ _ h => h) (Or.inl ⟨rfl, ?h54⟩) ?r54
  case h54 => intro w' hw'; go_simp; (try with_reducible rfl)
  (try simp only [Act.put, List.setIfInBounds_toArray, List.set_cons_zero, List.set_cons_succ])
  refine Draws.take 6 HD.out rfl (by kernel_rfl) (fun _ _ _ h => h) (yield_ci cbS (fun _ h => h) Pf.cn _ rfl rfl rfl) ?_
  (try simp only [Act.put, List.setIfInBounds_toArray, List.set_cons_zero, List.set_cons_succ])
  refine Draws.does 1 rfl (by kernel_rfl) rfl (fun K hK => ?_)
  go_simp
  go_at_call 29
  refine (radd_t w _ [] L1 _ _ HB.out HO.out (by decide) H1.out).mono ?_
  rintro e u ⟨v', rfl, ho, hst⟩
  (try dsimp only)
  have qHC := hst.cel (by decide) HC.out; clear HC; have HC := Lib.hid qHC; clear qHC
  have hs := HS.out.trans hst; have hb := Nat.le_trans HB.out hst.size; clear HO HS HB; have HO := Lib.hid ho; have HS := Lib.hid hs; have HB := Lib.hid hb
  clear hst ho hs hb
  refine hK.out _ _ (fun _ => HC.out) ?_
  clear hK K HD
  have HD := Lib.hid (show (fun u => Cel u b1 33 (p.fd A c).cells) _ from HC.out)
  (try simp only [Act.put, List.setIfInBounds_toArray, List.set_cons_zero, List.set_cons_succ])
  refine Draws.does 4 rfl (by kernel_rfl) rfl (fun K hK => ?_)
  go_simp
  go_at_call 29
  refine (radd_t w _ L1 L2 _ _ HB.out HO.out (by have := Z1.out; omega) H2.out).mono ?_
  rintro e u ⟨v', rfl, ho, hst⟩
  (try dsimp only)
  have qHC := hst.cel (by decide) HC.out; clear HC; have HC := Lib.hid qHC; clear qHC
  have hs := HS.out.trans hst; have hb := Nat.le_trans HB.out hst.size; clear HO HS HB; have HO := Lib.hid ho; have HS := Lib.hid hs; have HB := Lib.hid hb
  clear hst ho hs hb
  refine hK.out _ _ (fun _ => HC.out) ?_
  clear hK K HD
  have HD := Lib.hid (show (fun u => Cel u b1 33 (p.fd A c).cells) _ from HC.out)
  (try simp only [Act.put, List.setIfInBounds_toArray, List.set_cons_zero, List.set_cons_succ])
  refine Draws.does 7 rfl (by kernel_rfl) rfl (fun K hK => ?_)
  go_simp
  go_at_call 30
  refine (hrtx _).mono ?_
  rintro e u ⟨A9, c9, ⟨rfl, _⟩, hko⟩
  (try dsimp only)
  have ho := HO.out.below hko.bel; have hst := Stays.below HB.out hko.bel
  have qHC := hst.cel (by decide) HC.out; clear HC; have HC := Lib.hid qHC; clear qHC
  have hs' := HS.out.trans hst; have hb' := Nat.le_trans HB.out hst.size; clear HO HS HB; have HO := Lib.hid ho; have HS := Lib.hid hs'; have HB := Lib.hid hb'; clear ho hst hs' hb'
  have HT := Lib.hid hko.own.bys; clear hko
  refine hK.out _ _ (fun _ => HC.out) ?_
  clear hK K HD
  have HD := Lib.hid (show (fun u => Cel u b1 33 (p.fd A c).cells) _ from HC.out)
  (try simp only [Act.put, List.setIfInBounds_toArray, List.set_cons_zero, List.set_cons_succ])
  refine Draws.does 8 rfl (by kernel_rfl) rfl (fun K hK => ?_)
  refine wp_app_t HO.out HB.out HT.out H3.out _ _ rfl rfl rfl (by have h1 := Z3.out; rw [← H3.out, List.length_append] at h1; omega) ?_
  intro v' u ho hst
  have qHC := hst.cel (by decide) HC.out; clear HC; have HC := Lib.hid qHC; clear qHC
  have hs' := HS.out.trans hst; have hb' := Nat.le_trans HB.out hst.size; clear HO HS HB; have HO := Lib.hid ho; have HS := Lib.hid hs'; have HB := Lib.hid hb'; clear ho hst hs' hb'
  refine hK.out _ _ (fun _ => HC.out) ?_
  clear hK K HD
  have HD := Lib.hid (show (fun u => Cel u b1 33 (p.fd A c).cells) _ from HC.out)
  (try simp only [Act.put, List.setIfInBounds_toArray, List.set_cons_zero, List.set_cons_succ])
  refine Draws.does 9 rfl (by kernel_rfl) rfl (fun K hK => ?_)
  go_simp
  refine hK.out _ _ (fun _ => HC.out) ?_
  clear hK K
  (try simp only [Act.put, List.setIfInBounds_toArray, List.set_cons_zero, List.set_cons_succ])
  refine Draws.done (by kernel_rfl) ?_
  clear HD
  go_wp2_with (first
    | (with_reducible refine load_there cbI _ rfl (HC.out.cell hkc) rfl rfl ?_))
  refine Draws.start (S := fun u => Cel u b1 33 (p.fd A c).cells) (n := 14) 14 rfl (by kernel_rfl) ?_
  have ho := HO.out.below ((Below.refl _ _).drew)
  have hst := Stays.below HB.out ((Below.refl _ _).drew)
  have qHC := hst.cel (by decide) HC.out; clear HC; have HC := Lib.hid qHC; clear qHC
  have hs := HS.out.trans hst; have hb := Nat.le_trans HB.out hst.size; clear HO HS HB; have HO := Lib.hid ho; have HS := Lib.hid hs; have HB := Lib.hid hb
  clear hst ho hs hb
  have HD := Lib.hid (show (fun u => Cel u b1 33 (p.fd A c).cells) _ from HC.out)
  refine Draws.take 0 (v := ?v55) HD.out rfl (by kernel_rfl) (fun _ _ _ h => h) (Or.inl ⟨rfl, ?h55⟩) ?r55
  case h55 => intro w' hw'; go_simp; (try with_reducible rfl)
  (try simp only [Act.put, List.setIfInBounds_toArray, List.set_cons_zero, List.set_cons_succ])
  refine Draws.take 1 (v := ?v56) HD.out rfl (by kernel_rfl) (fun _ _ _ h => h) (Or.inl ⟨rfl, ?h56⟩) ?r56
  case h56 => intro w' hw'; go_simp; (try with_reducible rfl)
  (try simp only [Act.put, List.setIfInBounds_toArray, List.set_cons_zero, List.set_cons_succ])
  refine Draws.take 2 (v := ?v57) HD.out rfl (by kernel_rfl) (fun _ _ _ h => h) (Or.inl ⟨rfl, ?h57⟩) ?r57
  case h57 => intro w' hw'; go_simp; (try with_reducible rfl)
  (try simp only [Act.put, List.setIfInBounds_toArray, List.set_cons_zero, List.set_cons_succ])
  refine Draws.take 3 HD.out rfl (by kernel_rfl) (fun _ _ _ h => h) (yield_ci cbI (fun _ h => h) hc0 _ rfl rfl rfl) ?_
  (try simp only [Act.put, List.setIfInBounds_toArray, List.set_cons_zero, List.set_cons_succ])
  refine Draws.take 5 (v := ?v58) HD.out rfl (by kernel_rfl) (fun _ _ _ h => h) (Or.inl ⟨rfl, ?h58⟩) ?r58
  case h58 => intro w' hw'; go_simp; (try with_reducible rfl)
  (try simp only [Act.put, List.setIfInBounds_toArray, List.set_cons_zero, List.set_cons_succ])
  refine Draws.take 6 (v := ?v59) HD.out rfl (by kernel_rfl) (fun _ _ _ h => h) (Or.inl ⟨rfl, ?h59⟩) ?r59
  case h59 => intro w' hw'; go_simp; (try with_reducible rfl)
  (try simp only [Act.put, List.setIfInBounds_toArray, List.set_cons_zero, List.set_cons_succ])
  refine Draws.take 7 HD.out rfl (by kernel_rfl) (fun _ _ _ h => h) (yield_ci cbI (fun _ h => h) hc1 _ rfl rfl rfl) ?_
  (try simp only [Act.put, List.setIfInBounds_toArray, List.set_cons_zero, List.set_cons_succ])
  refine Draws.take 9 (v := ?v60) HD.out rfl (by kernel_rfl) (fun _ _ _ h => h) (Or.inl ⟨rfl, ?h60⟩) ?r60
  case h60 => intro w' hw'; go_simp; (try with_reducible rfl)
  (try simp only [Act.put, List.setIfInBounds_toArray, List.set_cons_zero, List.set_cons_succ])
  refine Draws.take 10 (v := ?v61) HD.out rfl (by kernel_rfl) (fun _ _ _ h => h) (Or.inl ⟨rfl, ?h61⟩) ?r61
  case h61 => intro w' hw'; go_simp; (try with_reducible rfl)
  (try simp only [Act.put, List.setIfInBounds_toArray, List.set_cons_zero, List.set_cons_succ])
  refine Draws.take 11 HD.out rfl (by kernel_rfl) (fun _ _ _ h => h) (yield_ci cbI (fun _ h => h) hc2 _ rfl rfl rfl) ?_
  (try simp only [Act.put, List.setIfInBounds_toArray, List.set_cons_zero, List.set_cons_succ])
  refine Draws.does 4 rfl (by kernel_rfl) rfl (fun K hK => ?_)
  go_simp
  go_at_call 29
  refine (radd_t w _ L3 L4 _ _ HB.out HO.out (by have := Z3.out; omega) H4.out).mono ?_
  rintro e u ⟨v', rfl, ho, hst⟩
  (try dsimp only)
  have qHC := hst.cel (by decide) HC.out; clear HC; have HC := Lib.hid qHC; clear qHC
  have hs := HS.out.trans hst; have hb := Nat.le_trans HB.out hst.size; clear HO HS HB; have HO := Lib.hid ho; have HS := Lib.hid hs; have HB := Lib.hid hb
  clear hst ho hs hb
  refine hK.out _ _ (fun _ => HC.out) ?_
  clear hK K HD
  have HD := Lib.hid (show (fun u => Cel u b1 33 (p.fd A c).cells) _ from HC.out)
  (try simp only [Act.put, List.setIfInBounds_toArray, List.set_cons_zero, List.set_cons_succ])
  refine Draws.does 8 rfl (by kernel_rfl) rfl (fun K hK => ?_)
  go_simp
  go_at_call 29
  refine (radd_t w _ L4 L5 _ _ HB.out HO.out (by have := Z4.out; omega) H5.out).mono ?_
  rintro e u ⟨v', rfl, ho, hst⟩
  (try dsimp only)
  have qHC := hst.cel (by decide) HC.out; clear HC; have HC := Lib.hid qHC; clear qHC
  have hs := HS.out.trans hst; have hb := Nat.le_trans HB.out hst.size; clear HO HS HB; have HO := Lib.hid ho; have HS := Lib.hid hs; have HB := Lib.hid hb
  clear hst ho hs hb
  refine hK.out _ _ (fun _ => HC.out) ?_
  clear hK K HD
  have HD := Lib.hid (show (fun u => Cel u b1 33 (p.fd A c).cells) _ from HC.out)
  (try simp only [Act.put, List.setIfInBounds_toArray, List.set_cons_zero, List.set_cons_succ])
  refine Draws.does 12 rfl (by kernel_rfl) rfl (fun K hK => ?_)
  go_simp
  go_at_call 29
  refine (radd_t w _ L5 L6 _ _ HB.out HO.out (by have := Z5.out; omega) H6.out).mono ?_
  rintro e u ⟨v', rfl, ho, hst⟩
  (try dsimp only)
  have qHC := hst.cel (by decide) HC.out; clear HC; have HC := Lib.hid qHC; clear qHC
  have hs := HS.out.trans hst; have hb := Nat.le_trans HB.out hst.size; clear HO HS HB; have HO := Lib.hid ho; have HS := Lib.hid hs; have HB := Lib.hid hb
  clear hst ho hs hb
  refine hK.out _ _ (fun _ => HC.out) ?_
  clear hK K HD
  have HD := Lib.hid (show (fun u => Cel u b1 33 (p.fd A c).cells) _ from HC.out)
  (try simp only [Act.put, List.setIfInBounds_toArray, List.set_cons_zero, List.set_cons_succ])
  refine Draws.does 13 rfl (by kernel_rfl) rfl (fun K hK => ?_)
  go_simp
  refine hK.out _ _ (fun _ => HC.out) ?_
  clear hK K
  (try simp only [Act.put, List.setIfInBounds_toArray, List.set_cons_zero, List.set_cons_succ])
  refine Draws.done (by kernel_rfl) ?_
  clear HD
  go_wp2_with fail
  refine Draws.start (S := fun u => Cel u b1 33 (p.fd A c).cells) (n := 10) 10 rfl (by kernel_rfl) ?_
  have ho := HO.out.below ((Below.refl _ _).drew)
  have hst := Stays.below HB.out ((Below.refl _ _).drew)
  have qHC := hst.cel (by decide) HC.out; clear HC; have HC := Lib.hid qHC; clear qHC
  have hs := HS.out.trans hst; have hb := Nat.le_trans HB.out hst.size; clear HO HS HB; have HO := Lib.hid ho; have HS := Lib.hid hs; have HB := Lib.hid hb
  clear hst ho hs hb
  have HD := Lib.hid (show (fun u => Cel u b1 33 (p.fd A c).cells) _ from HC.out)
  refine Draws.take 0 (v := ?v62) HD.out rfl (by kernel_rfl) (fun _ _ _ h => h) (Or.inl ⟨rfl, ?h62⟩) ?r62
  case h62 => intro w' hw'; go_simp; (try with_reducible rfl)
  (try simp only [Act.put, List.setIfInBounds_toArray, List.set_cons_zero, List.set_cons_succ])
  refine Draws.take 1 (v := ?v63) HD.out rfl (by kernel_rfl) (fun _ _ _ h => h) (Or.inl ⟨rfl, ?h63⟩) ?r63
  case h63 => intro w' hw'; go_simp; (try with_reducible rfl)
  (try simp only [Act.put, List.setIfInBounds_toArray, List.set_cons_zero, List.set_cons_succ])
  refine Draws.take 2 (v := ?v64) HD.out rfl (by kernel_rfl) (fun _ _ _ h => h) (Or.inl ⟨rfl, ?h64⟩) ?r64
  case h64 => intro w' hw'; go_simp; (try with_reducible rfl)
  (try simp only [Act.put, List.setIfInBounds_toArray, List.set_cons_zero, List.set_cons_succ])
  refine Draws.take 3 HD.out rfl (by kernel_rfl) (fun _ _ _ h => h) (yield_pt (fun _ h => h) Tryz.underlying26 rfl (d_infoW HDN.out) (Fd.cD (f := p.fd A c) HF.out) _ rfl rfl rfl) ?_
  (try simp only [Act.put, List.setIfInBounds_toArray, List.set_cons_zero, List.set_cons_succ])
  refine Draws.take 5 (v := ?v65) HD.out rfl (by kernel_rfl) (fun _ _ _ h => h) (Or.inl ⟨rfl, ?h65⟩) ?r65
  case h65 => intro w' hw'; go_simp; (try with_reducible rfl)
  (try simp only [Act.put, List.setIfInBounds_toArray, List.set_cons_zero, List.set_cons_succ])
  refine Draws.take 6 (v := ?v66) HD.out rfl (by kernel_rfl) (fun _ _ _ h => h) (Or.inl ⟨rfl, ?h66⟩) ?r66
  case h66 => intro w' hw'; go_simp; (try with_reducible rfl)
  (try simp only [Act.put, List.setIfInBounds_toArray, List.set_cons_zero, List.set_cons_succ])
  refine Draws.take 7 HD.out rfl (by kernel_rfl) (fun _ _ _ h => h) (yield_pt (fun _ h => h) Tryz.underlying26 rfl (d_infoW HUP.out) (Fd.cU (f := p.fd A c) HF.out) _ rfl rfl rfl) ?_
  (try simp only [Act.put, List.setIfInBounds_toArray, List.set_cons_zero, List.set_cons_succ])
  refine Draws.does 4 rfl (by kernel_rfl) rfl (fun K hK => ?_)
  go_simp
  go_at_call 31
  refine (rrights_t w _ L6 L7 _ HDN.out _ HB.out HO.out (by have := Z6.out; omega) H7.out).mono ?_
  rintro e u ⟨v', rfl, ho, hst⟩
  (try dsimp only)
  have qHC := hst.cel (by decide) HC.out; clear HC; have HC := Lib.hid qHC; clear qHC
  have hs := HS.out.trans hst; have hb := Nat.le_trans HB.out hst.size; clear HO HS HB; have HO := Lib.hid ho; have HS := Lib.hid hs; have HB := Lib.hid hb
  clear hst ho hs hb
  refine hK.out _ _ (fun _ => HC.out) ?_
  clear hK K HD
  have HD := Lib.hid (show (fun u => Cel u b1 33 (p.fd A c).cells) _ from HC.out)
  (try simp only [Act.put, List.setIfInBounds_toArray, List.set_cons_zero, List.set_cons_succ])
  refine Draws.does 8 rfl (by kernel_rfl) rfl (fun K hK => ?_)
  go_simp
  go_at_call 31
  refine (rrights_t w _ L7 L8 _ HUP.out _ HB.out HO.out (by have := Z7.out; omega) H8.out).mono ?_
  rintro e u ⟨v', rfl, ho, hst⟩
  (try dsimp only)
  have qHC := hst.cel (by decide) HC.out; clear HC; have HC := Lib.hid qHC; clear qHC
  have hs := HS.out.trans hst; have hb := Nat.le_trans HB.out hst.size; clear HO HS HB; have HO := Lib.hid ho; have HS := Lib.hid hs; have HB := Lib.hid hb
  clear hst ho hs hb
  refine hK.out _ _ (fun _ => HC.out) ?_
  clear hK K HD
  have HD := Lib.hid (show (fun u => Cel u b1 33 (p.fd A c).cells) _ from HC.out)
  (try simp only [Act.put, List.setIfInBounds_toArray, List.set_cons_zero, List.set_cons_succ])
  refine Draws.does 9 rfl (by kernel_rfl) rfl (fun K hK => ?_)
  go_simp
  refine hK.out _ _ (fun _ => HC.out) ?_
  clear hK K
  (try simp only [Act.put, List.setIfInBounds_toArray, List.set_cons_zero, List.set_cons_succ])
  refine Draws.done (by kernel_rfl) ?_
  clear HD
  go_wp2_with (first
    | (with_reducible refine load_there cbH _ rfl (HC.out.cell (Pf.cH HF.out)) rfl rfl ?_)
    | (go_at_call 29; (with_reducible refine (radd_t w _ L8 L9 _ _ HB.out HO.out (by have := Z8.out; omega) H9.out).mono ?_); rintro e u ⟨v', rfl, ho, hst⟩; have qHC := hst.cel (by decide) HC.out; clear HC; have HC := Lib.hid qHC; clear qHC; have hs' := HS.out.trans hst; have hb' := Nat.le_trans HB.out hst.size; clear HO HS HB; have HO := Lib.hid ho; have HS := Lib.hid hs'; have HB := Lib.hid hb'; clear ho hst hs' hb'))
  go_loopw [6, 7] (fun v i wr => ∃ m : Nat, m ≤ p.hs.length ∧ i = .int .i64 m ∧ oct.Own wr w.heap.size v (L9 ++ encs (flat (p.hs.take m))) ∧ w.heap.size ≤ wr.heap.size ∧ Cel wr b1 33 (p.fd A c).cells ∧ Stays w w wr) (fun _ i _ => p.hs.length - (intOf i).toNat)
  case atStart => exact ⟨0, Nat.zero_le _, rfl, by simpa [encs, flat] using HO.out, HB.out, HC.out, HS.out⟩
  case round =>
    obtain ⟨m, hm, rfl, ho, hb, hc, hs⟩ := hrel
    clear HO HB HC HS
    have HO := Lib.hid ho; have HB := Lib.hid hb; have HC := Lib.hid hc; have HS := Lib.hid hs
    clear ho hb hc hs
    by_cases hlt : m < p.hs.length
    · obtain ⟨bh, off, rfl, hrg⟩ := row_hold HR.out hlt
      have i1 : (0 : Int) ≤ (m : Int) := by omega
      have i2 : (m : Int) < (p.hs.length : Int) := by omega
      have HGm := Lib.hid (show encs (flat (p.hs.take (m + 1))) = encs (flat (p.hs.take m)) ++ encs (p.hs.getD m z5).l by rw [flat_take hlt, encs_append])
      have hM0 : (L9 ++ encs (flat (p.hs.take m))).length ≤ 60000 := by
        have h1 := encs_len (flat (p.hs.take m))
        have h2 : (flat (p.hs.take m)).length ≤ 80 := by rw [flat_length, List.length_take]; omega
        have := Z9.out
        rw [List.length_append]; omega
      have HRG := Lib.hid hrg
      have HLT := Lib.hid (range_lt hrg)
      clear hrg
      generalize p.hs.getD m z5 = h at HGm HRG
      obtain ⟨M0, g0⟩ : ∃ L, L9 ++ encs (flat (p.hs.take m)) = L := ⟨_, rfl⟩
      rw [g0] at hM0
      have ho := HO.out
      rw [g0] at ho
      clear HO; have HO := Lib.hid ho; clear ho
      obtain ⟨M1, g1⟩ : ∃ L, M0 ++ oct.enc (oct.fold h.r) = L := ⟨_, rfl⟩
      have G1 := Lib.hid g1; have Y1 := Lib.hid (len_add g1 hM0)
      obtain ⟨M2, g2⟩ : ∃ L, M1 ++ oct.enc (oct.fold h.n) = L := ⟨_, rfl⟩
      have G2 := Lib.hid g2; have Y2 := Lib.hid (len_add g2 Y1.out)
      obtain ⟨M3, g3⟩ : ∃ L, M2 ++ oct.enc (oct.fold h.a) = L := ⟨_, rfl⟩
      have G3 := Lib.hid g3; have Y3 := Lib.hid (len_add g3 Y2.out)
      obtain ⟨M4, g4⟩ : ∃ L, M3 ++ oct.enc (oct.fold h.d) = L := ⟨_, rfl⟩
      have G4 := Lib.hid g4; have Y4 := Lib.hid (len_add g4 Y3.out)
      obtain ⟨M5, g5⟩ : ∃ L, M4 ++ oct.enc (oct.fold h.s) = L := ⟨_, rfl⟩
      have G5 := Lib.hid g5; have Y5 := Lib.hid (len_add g5 Y4.out)
      have GW := Lib.hid (show L9 ++ encs (flat (p.hs.take (m + 1))) = M5 by rw [HGm.out, ← g5, ← g4, ← g3, ← g2, ← g1, ← g0, encs_hold]; simp [List.append_assoc])
      have Y0 := Lib.hid hM0
      clear g0 g1 g2 g3 g4 g5 hM0 HGm
      go_wp2_with (first
        | (with_reducible refine load_there cbH _ rfl (HC.out.cell (Pf.cH HF.out)) rfl rfl ?_)
        | (with_reducible refine load_hold (range_below HRG.out HS.out.bel HLT.out) _ rfl rfl rfl ?_)
        | (with_reducible refine fresh_hold rfl rfl rfl rfl _ _ rfl (fun _ => rfl) (fun _ => rfl) ?_; intro b8 u hb hc8; have ho := HO.out.below hb; have hst := Stays.below HB.out hb; have qHC := hst.cel (by decide) HC.out; clear HC; have HC := Lib.hid qHC; clear qHC; have hs' := HS.out.trans hst; have hb' := Nat.le_trans HB.out hst.size; clear HO HS HB; have HO := Lib.hid ho; have HS := Lib.hid hs'; have HB := Lib.hid hb'; clear ho hst hs' hb'; have HC8 := Lib.hid hc8; clear hb hc8))
      refine Draws.start (S := fun u => Cel u b1 33 (p.fd (some ⟨bh, off, none⟩) c).cells ∧ Cel u b8 55 (vals h.l)) (n := 17) 17 rfl (by kernel_rfl) ?_
      have ho := HO.out.below ((Below.refl _ _).drew)
      have hst := Stays.below HB.out ((Below.refl _ _).drew)
      have qHC := hst.cel (by decide) HC.out; clear HC; have HC := Lib.hid qHC; clear qHC
      have qHC8 := hst.cel (by decide) HC8.out; clear HC8; have HC8 := Lib.hid qHC8; clear qHC8
      have hs := HS.out.trans hst; have hb := Nat.le_trans HB.out hst.size; clear HO HS HB; have HO := Lib.hid ho; have HS := Lib.hid hs; have HB := Lib.hid hb
      clear hst ho hs hb
      have HD := Lib.hid (show (fun u => Cel u b1 33 (p.fd (some ⟨bh, off, none⟩) c).cells ∧ Cel u b8 55 (vals h.l)) _ from ⟨HC.out, HC8.out⟩)
      refine Draws.take 0 (v := ?v67) HD.out rfl (by kernel_rfl) (fun _ _ _ h => h) (Or.inl ⟨rfl, ?h67⟩) ?r67
      case h67 => intro w' hw'; go_simp; (try with_reducible rfl)
      (try simp only [Act.put, List.setIfInBounds_toArray, List.set_cons_zero, List.set_cons_succ])
      refine Draws.take 1 (v := ?v68) HD.out rfl (by kernel_rfl) (fun _ _ _ h => h) (Or.inl ⟨rfl, ?h68⟩) ?r68
      case h68 => intro w' hw'; go_simp; (try with_reducible rfl)
      (try simp only [Act.put, List.setIfInBounds_toArray, List.set_cons_zero, List.set_cons_succ])
      refine Draws.take 2 HD.out rfl (by kernel_rfl) (fun _ _ _ h => h) (yield_ci cbI (fun _ h => h.2) (show (vals h.l)[0]? = some (.int .i64 h.r) from rfl) _ rfl rfl rfl) ?_
      (try simp only [Act.put, List.setIfInBounds_toArray, List.set_cons_zero, List.set_cons_succ])
      refine Draws.take 4 (v := ?v69) HD.out rfl (by kernel_rfl) (fun _ _ _ h => h) (Or.inl ⟨rfl, ?h69⟩) ?r69
      case h69 => intro w' hw'; go_simp; (try with_reducible rfl)
      (try simp only [Act.put, List.setIfInBounds_toArray, List.set_cons_zero, List.set_cons_succ])
      refine Draws.take 5 HD.out rfl (by kernel_rfl) (fun _ _ _ h => h) (yield_ci cbI (fun _ h => h.2) (show (vals h.l)[1]? = some (.int .i64 h.n) from rfl) _ rfl rfl rfl) ?_
      (try simp only [Act.put, List.setIfInBounds_toArray, List.set_cons_zero, List.set_cons_succ])
      refine Draws.take 7 (v := ?v70) HD.out rfl (by kernel_rfl) (fun _ _ _ h => h) (Or.inl ⟨rfl, ?h70⟩) ?r70
      case h70 => intro w' hw'; go_simp; (try with_reducible rfl)
      (try simp only [Act.put, List.setIfInBounds_toArray, List.set_cons_zero, List.set_cons_succ])
      refine Draws.take 8 HD.out rfl (by kernel_rfl) (fun _ _ _ h => h) (yield_ci cbI (fun _ h => h.2) (show (vals h.l)[2]? = some (.int .i64 h.a) from rfl) _ rfl rfl rfl) ?_
      (try simp only [Act.put, List.setIfInBounds_toArray, List.set_cons_zero, List.set_cons_succ])
      refine Draws.take 10 (v := ?v71) HD.out rfl (by kernel_rfl) (fun _ _ _ h => h) (Or.inl ⟨rfl, ?h71⟩) ?r71
      case h71 => intro w' hw'; go_simp; (try with_reducible rfl)
      (try simp only [Act.put, List.setIfInBounds_toArray, List.set_cons_zero, List.set_cons_succ])
      refine Draws.take 11 HD.out rfl (by kernel_rfl) (fun _ _ _ h => h) (yield_ci cbI (fun _ h => h.2) (show (vals h.l)[3]? = some (.int .i64 h.d) from rfl) _ rfl rfl rfl) ?_
      (try simp only [Act.put, List.setIfInBounds_toArray, List.set_cons_zero, List.set_cons_succ])
      refine Draws.take 13 (v := ?v72) HD.out rfl (by kernel_rfl) (fun _ _ _ h => h) (Or.inl ⟨rfl, ?h72⟩) ?r72
      case h72 => intro w' hw'; go_simp; (try with_reducible rfl)
      (try simp only [Act.put, List.setIfInBounds_toArray, List.set_cons_zero, List.set_cons_succ])
      refine Draws.take 14 HD.out rfl (by kernel_rfl) (fun _ _ _ h => h) (yield_ci cbI (fun _ h => h.2) (show (vals h.l)[4]? = some (.int .i64 h.s) from rfl) _ rfl rfl rfl) ?_
      (try simp only [Act.put, List.setIfInBounds_toArray, List.set_cons_zero, List.set_cons_succ])
      refine Draws.does 3 rfl (by kernel_rfl) rfl (fun K hK => ?_)
      go_simp
      go_at_call 29
      refine (radd_t w _ M0 M1 _ _ HB.out HO.out (by have := Y0.out; omega) G1.out).mono ?_
      rintro e u ⟨v', rfl, ho, hst⟩
      (try dsimp only)
      have qHC := hst.cel (by decide) HC.out; clear HC; have HC := Lib.hid qHC; clear qHC
      have qHC8 := hst.cel (by decide) HC8.out; clear HC8; have HC8 := Lib.hid qHC8; clear qHC8
      have hs := HS.out.trans hst; have hb := Nat.le_trans HB.out hst.size; clear HO HS HB; have HO := Lib.hid ho; have HS := Lib.hid hs; have HB := Lib.hid hb
      clear hst ho hs hb
      refine hK.out _ _ (fun _ => ⟨HC.out, HC8.out⟩) ?_
      clear hK K HD
      have HD := Lib.hid (show (fun u => Cel u b1 33 (p.fd (some ⟨bh, off, none⟩) c).cells ∧ Cel u b8 55 (vals h.l)) _ from ⟨HC.out, HC8.out⟩)
      (try simp only [Act.put, List.setIfInBounds_toArray, List.set_cons_zero, List.set_cons_succ])
      refine Draws.does 6 rfl (by kernel_rfl) rfl (fun K hK => ?_)
      go_simp
      go_at_call 29
      refine (radd_t w _ M1 M2 _ _ HB.out HO.out (by have := Y1.out; omega) G2.out).mono ?_
      rintro e u ⟨v', rfl, ho, hst⟩
      (try dsimp only)
      have qHC := hst.cel (by decide) HC.out; clear HC; have HC := Lib.hid qHC; clear qHC
      have qHC8 := hst.cel (by decide) HC8.out; clear HC8; have HC8 := Lib.hid qHC8; clear qHC8
      have hs := HS.out.trans hst; have hb := Nat.le_trans HB.out hst.size; clear HO HS HB; have HO := Lib.hid ho; have HS := Lib.hid hs; have HB := Lib.hid hb
      clear hst ho hs hb
      refine hK.out _ _ (fun _ => ⟨HC.out, HC8.out⟩) ?_
      clear hK K HD
      have HD := Lib.hid (show (fun u => Cel u b1 33 (p.fd (some ⟨bh, off, none⟩) c).cells ∧ Cel u b8 55 (vals h.l)) _ from ⟨HC.out, HC8.out⟩)
      (try simp only [Act.put, List.setIfInBounds_toArray, List.set_cons_zero, List.set_cons_succ])
      refine Draws.does 9 rfl (by kernel_rfl) rfl (fun K hK => ?_)
      go_simp
      go_at_call 29
      refine (radd_t w _ M2 M3 _ _ HB.out HO.out (by have := Y2.out; omega) G3.out).mono ?_
      rintro e u ⟨v', rfl, ho, hst⟩
      (try dsimp only)
      have qHC := hst.cel (by decide) HC.out; clear HC; have HC := Lib.hid qHC; clear qHC
      have qHC8 := hst.cel (by decide) HC8.out; clear HC8; have HC8 := Lib.hid qHC8; clear qHC8
      have hs := HS.out.trans hst; have hb := Nat.le_trans HB.out hst.size; clear HO HS HB; have HO := Lib.hid ho; have HS := Lib.hid hs; have HB := Lib.hid hb
      clear hst ho hs hb
      refine hK.out _ _ (fun _ => ⟨HC.out, HC8.out⟩) ?_
      clear hK K HD
      have HD := Lib.hid (show (fun u => Cel u b1 33 (p.fd (some ⟨bh, off, none⟩) c).cells ∧ Cel u b8 55 (vals h.l)) _ from ⟨HC.out, HC8.out⟩)
      (try simp only [Act.put, List.setIfInBounds_toArray, List.set_cons_zero, List.set_cons_succ])
      refine Draws.does 12 rfl (by kernel_rfl) rfl (fun K hK => ?_)
      go_simp
      go_at_call 29
      refine (radd_t w _ M3 M4 _ _ HB.out HO.out (by have := Y3.out; omega) G4.out).mono ?_
      rintro e u ⟨v', rfl, ho, hst⟩
      (try dsimp only)
      have qHC := hst.cel (by decide) HC.out; clear HC; have HC := Lib.hid qHC; clear qHC
      have qHC8 := hst.cel (by decide) HC8.out; clear HC8; have HC8 := Lib.hid qHC8; clear qHC8
      have hs := HS.out.trans hst; have hb := Nat.le_trans HB.out hst.size; clear HO HS HB; have HO := Lib.hid ho; have HS := Lib.hid hs; have HB := Lib.hid hb
      clear hst ho hs hb
      refine hK.out _ _ (fun _ => ⟨HC.out, HC8.out⟩) ?_
      clear hK K HD
      have HD := Lib.hid (show (fun u => Cel u b1 33 (p.fd (some ⟨bh, off, none⟩) c).cells ∧ Cel u b8 55 (vals h.l)) _ from ⟨HC.out, HC8.out⟩)
      (try simp only [Act.put, List.setIfInBounds_toArray, List.set_cons_zero, List.set_cons_succ])
      refine Draws.does 15 rfl (by kernel_rfl) rfl (fun K hK => ?_)
      go_simp
      go_at_call 29
      refine (radd_t w _ M4 M5 _ _ HB.out HO.out (by have := Y4.out; omega) G5.out).mono ?_
      rintro e u ⟨v', rfl, ho, hst⟩
      (try dsimp only)
      have qHC := hst.cel (by decide) HC.out; clear HC; have HC := Lib.hid qHC; clear qHC
      have qHC8 := hst.cel (by decide) HC8.out; clear HC8; have HC8 := Lib.hid qHC8; clear qHC8
      have hs := HS.out.trans hst; have hb := Nat.le_trans HB.out hst.size; clear HO HS HB; have HO := Lib.hid ho; have HS := Lib.hid hs; have HB := Lib.hid hb
      clear hst ho hs hb
      refine hK.out _ _ (fun _ => ⟨HC.out, HC8.out⟩) ?_
      clear hK K HD
      have HD := Lib.hid (show (fun u => Cel u b1 33 (p.fd (some ⟨bh, off, none⟩) c).cells ∧ Cel u b8 55 (vals h.l)) _ from ⟨HC.out, HC8.out⟩)
      (try simp only [Act.put, List.setIfInBounds_toArray, List.set_cons_zero, List.set_cons_succ])
      refine Draws.does 16 rfl (by kernel_rfl) rfl (fun K hK => ?_)
      go_simp
      refine hK.out _ _ (fun _ => ⟨HC.out, HC8.out⟩) ?_
      clear hK K
      (try simp only [Act.put, List.setIfInBounds_toArray, List.set_cons_zero, List.set_cons_succ])
      refine Draws.done (by kernel_rfl) ?_
      clear HD
      go_wp2_with fail
      go_roundw
      case rel => exact ⟨m + 1, by omega, by go_num, by rw [GW.out]; exact HO.out, HB.out, HC.out, HS.out⟩
      case measure => simp [intOf]; omega
    · obtain rfl : m = p.hs.length := by omega
      have ho := HO.out
      rw [List.take_length, ← hW] at ho
      clear HO; have HO := Lib.hid ho; clear ho hW
      go_wp2_with (first
        | (with_reducible refine load_there cbH _ rfl (HC.out.cell (Pf.cH HF.out)) rfl rfl ?_))
      go_ret2
      obtain ⟨A7, c7, e7, h7⟩ := HO.out.slice
      rw [e7]
      have hy := HO.out
      rw [e7] at hy
      exact ⟨A7, c7, rfl, h7, hy.bys, HS.out.bel⟩
set_option maxHeartbeats 4000000 in
theorem renc_31 (p : Pf) (hp : p.full) (hN : p.nm.size ≤ 100) (hk : p.k = 1) (hr : rightP p = true) (hs : saysR 3 p = true) (hh : p.hs.length ≤ 16) (A : Option Addr) (c : Nat) (w : World) (hd : Row w A p.hs.length p.hs) :
    Calls Tryz.prog 11 #[.int .i64 3, .agg (p.fd A c).cells.toArray] w fun e u => ∃ A1 c1, e = .returned (.tuple #[.slice A1 (wireR 3 p).length c1, .int .i64 0]) ∧ (wireR 3 p).length ≤ c1 ∧ oct.Bys u A1 (wireR 3 p) ∧ Below w.heap.size w u := by
  have HF := Lib.hid hp
  have HR := Lib.hid hd
  have HB := Lib.hid (Nat.le_refl w.heap.size)
  have HO := Lib.hid (oct.Own.nil w w.heap.size)
  have HS := Lib.hid (Stays.refl w w)
  have hrt := fun w h => rright_p p hp (by omega) A c true hr w h
  have hsy := fun w h => rsays_any 3 p hp (by omega) A c true hs w h
  have hkc : (p.fd A c).cells[1]? = some (.int .i64 1) := by rw [Pf.ck, hk]
  have hrtx := fun w => oct.rtext_any p.nm (by omega) w
  obtain ⟨L1, e1⟩ : ∃ L, [] ++ oct.enc (oct.fold 3) = L := ⟨_, rfl⟩
  obtain ⟨L2, e2⟩ : ∃ L, L1 ++ oct.enc (oct.fold 1) = L := ⟨_, rfl⟩
  obtain ⟨L3, e3⟩ : ∃ L, L2 ++ (oct.enc (oct.fold p.nm.size) ++ p.nm.data.toList) = L := ⟨_, rfl⟩
  have H1 := Lib.hid e1; have H2 := Lib.hid e2; have H3 := Lib.hid e3
  have Z1 := Lib.hid (len_add e1 (b := 0) (by decide)); have Z2 := Lib.hid (len_add e2 Z1.out); have Z3 := Lib.hid (len_text e3 Z2.out hN)
  obtain ⟨L4, e4⟩ : ∃ L, L3 ++ oct.enc (oct.fold p.e) = L := ⟨_, rfl⟩
  have H4 := Lib.hid e4; have Z4 := Lib.hid (len_add e4 Z3.out)
  obtain ⟨L5, e5⟩ : ∃ L, L4 ++ oct.enc (oct.fold (p.C.getD 0 0)) = L := ⟨_, rfl⟩
  have H5 := Lib.hid e5; have Z5 := Lib.hid (len_add e5 Z4.out)
  obtain ⟨L6, e6⟩ : ∃ L, L5 ++ oct.enc (oct.fold (p.C.getD 1 0)) = L := ⟨_, rfl⟩
  have H6 := Lib.hid e6; have Z6 := Lib.hid (len_add e6 Z5.out)
  obtain ⟨L7, e7⟩ : ∃ L, L6 ++ oct.enc (oct.fold (p.C.getD 2 0)) = L := ⟨_, rfl⟩
  have H7 := Lib.hid e7; have Z7 := Lib.hid (len_add e7 Z6.out)
  obtain ⟨L8, e8⟩ : ∃ L, L7 ++ encs (dnR p.C) = L := ⟨_, rfl⟩
  have H8 := Lib.hid e8; have Z8 := Lib.hid (len_encs e8 Z7.out (dnR_length hp))
  obtain ⟨L9, e9⟩ : ∃ L, L8 ++ encs (upR p.C) = L := ⟨_, rfl⟩
  have H9 := Lib.hid e9; have Z9 := Lib.hid (len_encs e9 Z8.out (upR_length hp))
  obtain ⟨L10, e10⟩ : ∃ L, L9 ++ oct.enc (oct.fold p.hs.length) = L := ⟨_, rfl⟩
  have H10 := Lib.hid e10; have Z10 := Lib.hid (len_add e10 Z9.out)
  have hW : wireR 3 p = L10 ++ encs (flat p.hs) := by
    rw [← e10, ← e9, ← e8, ← e7, ← e6, ← e5, ← e4, ← e3, ← e2, ← e1]
    simp [wireR, headR, hk, List.append_assoc]
  generalize wireR 3 p = W at hW ⊢
  clear e1 e2 e3 e4 e5 e6 e7 e8 e9 e10 hk hr hs
  have hc0 : (p.fd A c).cells[3]? = some (.int .i64 (p.C.getD 0 0)) := Fd.cI (f := p.fd A c) (j := 0) hp (by decide)
  have hc1 : (p.fd A c).cells[4]? = some (.int .i64 (p.C.getD 1 0)) := Fd.cI (f := p.fd A c) (j := 1) hp (by decide)
  have hc2 : (p.fd A c).cells[5]? = some (.int .i64 (p.C.getD 2 0)) := Fd.cI (f := p.fd A c) (j := 2) hp (by decide)
  have HDN := Lib.hid (dnR_length hp); have HUP := Lib.hid (upR_length hp)
  generalize p.C.getD 0 0 = z0 at *
  generalize p.C.getD 1 0 = z1 at *
  generalize p.C.getD 2 0 = z2 at *
  clear hp hd hN
  go_enter Tryz.func11, Tryz.ntmps11
  go_wp2_with (first
    | (with_reducible refine box_cel rfl _ rfl rfl ?_; intro b1 u hb hc; have ho := HO.out.below hb; have hst := Stays.below HB.out hb; have hs' := HS.out.trans hst; have hb' := Nat.le_trans HB.out hst.size; clear HO HS HB; have HO := Lib.hid ho; have HS := Lib.hid hs'; have HB := Lib.hid hb'; clear ho hst hs' hb'; have HC := Lib.hid hc; clear hb hc)
    | (with_reducible refine load_pt HC.out Tryz.underlying33 rfl (Pf.infoF HF.out) Pf.all _ rfl rfl rfl ?_)
    | (go_at_call 16; (with_reducible refine (hrt _ (HR.out.below HS.out.bel (Nat.le_refl _))).mono ?_); rintro e u ⟨rfl, hb⟩; have ho := HO.out.below hb; have hst := Stays.below HB.out hb; have qHC := hst.cel (by decide) HC.out; clear HC; have HC := Lib.hid qHC; clear qHC; have hs' := HS.out.trans hst; have hb' := Nat.le_trans HB.out hst.size; clear HO HS HB; have HO := Lib.hid ho; have HS := Lib.hid hs'; have HB := Lib.hid hb'; clear ho hst hs' hb'; clear hb)
    | (go_at_call 13; (with_reducible refine (hsy _ (HR.out.below HS.out.bel (Nat.le_refl _))).mono ?_); rintro e u ⟨rfl, hb⟩; have ho := HO.out.below hb; have hst := Stays.below HB.out hb; have qHC := hst.cel (by decide) HC.out; clear HC; have HC := Lib.hid qHC; clear qHC; have hs' := HS.out.trans hst; have hb' := Nat.le_trans HB.out hst.size; clear HO HS HB; have HO := Lib.hid ho; have HS := Lib.hid hs'; have HB := Lib.hid hb'; clear ho hst hs' hb'; clear hb))
  refine Draws.start (S := fun u => Cel u b1 33 (p.fd A c).cells) (n := 10) 10 rfl (by kernel_rfl) ?_
  have ho := HO.out.below ((Below.refl _ _).drew)
  have hst := Stays.below HB.out ((Below.refl _ _).drew)
  have qHC := hst.cel (by decide) HC.out; clear HC; have HC := Lib.hid qHC; clear qHC
  have hs := HS.out.trans hst; have hb := Nat.le_trans HB.out hst.size; clear HO HS HB; have HO := Lib.hid ho; have HS := Lib.hid hs; have HB := Lib.hid hb
  clear hst ho hs hb
  have HD := Lib.hid (show (fun u => Cel u b1 33 (p.fd A c).cells) _ from HC.out)
  refine Draws.take 0 (v := ?v73) HD.out rfl (by kernel_rfl) (fun _ _ _ h => h) (Or.inl ⟨rfl, ?h73⟩) ?r73
  case h73 => intro w' hw'; go_simp; (try with_reducible rfl)
  (try simp only [Act.put, List.setIfInBounds_toArray, List.set_cons_zero, List.set_cons_succ])
  refine Draws.take 2 (v := ?v74) HD.out rfl (by kernel_rfl) (fun _ _ _ h => h) (Or.inl ⟨rfl, ?h74⟩) ?r74
  case h74 => intro w' hw'; go_simp; (try with_reducible rfl)
  (try simp only [Act.put, List.setIfInBounds_toArray, List.set_cons_zero, List.set_cons_succ])
  refine Draws.take 3 HD.out rfl (by kernel_rfl) (fun _ _ _ h => h) (yield_ci cbI (fun _ h => h) hkc _ rfl rfl rfl) ?_
  (try simp only [Act.put, List.setIfInBounds_toArray, List.set_cons_zero, List.set_cons_succ])
  refine Draws.take 5 (v := ?v75) HD.out rfl (by kernel_rfl) (fun _ _ _ h => h) (Or.inl ⟨rfl, ?h75⟩) ?r75
  case h75 => intro w' hw'; go_simp; (try with_reducible rfl)
  (try simp only [Act.put, List.setIfInBounds_toArray, List.set_cons_zero, List.set_cons_succ])
  refine Draws.take 6 HD.out rfl (by kernel_rfl) (fun _ _ _ h => h) (yield_ci cbS (fun _ h => h) Pf.cn _ rfl rfl rfl) ?_
  (try simp only [Act.put, List.setIfInBounds_toArray, List.set_cons_zero, List.set_cons_succ])
  refine Draws.does 1 rfl (by kernel_rfl) rfl (fun K hK => ?_)
  go_simp
  go_at_call 29
  refine (radd_t w _ [] L1 _ _ HB.out HO.out (by decide) H1.out).mono ?_
  rintro e u ⟨v', rfl, ho, hst⟩
  (try dsimp only)
  have qHC := hst.cel (by decide) HC.out; clear HC; have HC := Lib.hid qHC; clear qHC
  have hs := HS.out.trans hst; have hb := Nat.le_trans HB.out hst.size; clear HO HS HB; have HO := Lib.hid ho; have HS := Lib.hid hs; have HB := Lib.hid hb
  clear hst ho hs hb
  refine hK.out _ _ (fun _ => HC.out) ?_
  clear hK K HD
  have HD := Lib.hid (show (fun u => Cel u b1 33 (p.fd A c).cells) _ from HC.out)
  (try simp only [Act.put, List.setIfInBounds_toArray, List.set_cons_zero, List.set_cons_succ])
  refine Draws.does 4 rfl (by kernel_rfl) rfl (fun K hK => ?_)
  go_simp
  go_at_call 29
  refine (radd_t w _ L1 L2 _ _ HB.out HO.out (by have := Z1.out; omega) H2.out).mono ?_
  rintro e u ⟨v', rfl, ho, hst⟩
  (try dsimp only)
  have qHC := hst.cel (by decide) HC.out; clear HC; have HC := Lib.hid qHC; clear qHC
  have hs := HS.out.trans hst; have hb := Nat.le_trans HB.out hst.size; clear HO HS HB; have HO := Lib.hid ho; have HS := Lib.hid hs; have HB := Lib.hid hb
  clear hst ho hs hb
  refine hK.out _ _ (fun _ => HC.out) ?_
  clear hK K HD
  have HD := Lib.hid (show (fun u => Cel u b1 33 (p.fd A c).cells) _ from HC.out)
  (try simp only [Act.put, List.setIfInBounds_toArray, List.set_cons_zero, List.set_cons_succ])
  refine Draws.does 7 rfl (by kernel_rfl) rfl (fun K hK => ?_)
  go_simp
  go_at_call 30
  refine (hrtx _).mono ?_
  rintro e u ⟨A9, c9, ⟨rfl, _⟩, hko⟩
  (try dsimp only)
  have ho := HO.out.below hko.bel; have hst := Stays.below HB.out hko.bel
  have qHC := hst.cel (by decide) HC.out; clear HC; have HC := Lib.hid qHC; clear qHC
  have hs' := HS.out.trans hst; have hb' := Nat.le_trans HB.out hst.size; clear HO HS HB; have HO := Lib.hid ho; have HS := Lib.hid hs'; have HB := Lib.hid hb'; clear ho hst hs' hb'
  have HT := Lib.hid hko.own.bys; clear hko
  refine hK.out _ _ (fun _ => HC.out) ?_
  clear hK K HD
  have HD := Lib.hid (show (fun u => Cel u b1 33 (p.fd A c).cells) _ from HC.out)
  (try simp only [Act.put, List.setIfInBounds_toArray, List.set_cons_zero, List.set_cons_succ])
  refine Draws.does 8 rfl (by kernel_rfl) rfl (fun K hK => ?_)
  refine wp_app_t HO.out HB.out HT.out H3.out _ _ rfl rfl rfl (by have h1 := Z3.out; rw [← H3.out, List.length_append] at h1; omega) ?_
  intro v' u ho hst
  have qHC := hst.cel (by decide) HC.out; clear HC; have HC := Lib.hid qHC; clear qHC
  have hs' := HS.out.trans hst; have hb' := Nat.le_trans HB.out hst.size; clear HO HS HB; have HO := Lib.hid ho; have HS := Lib.hid hs'; have HB := Lib.hid hb'; clear ho hst hs' hb'
  refine hK.out _ _ (fun _ => HC.out) ?_
  clear hK K HD
  have HD := Lib.hid (show (fun u => Cel u b1 33 (p.fd A c).cells) _ from HC.out)
  (try simp only [Act.put, List.setIfInBounds_toArray, List.set_cons_zero, List.set_cons_succ])
  refine Draws.does 9 rfl (by kernel_rfl) rfl (fun K hK => ?_)
  go_simp
  refine hK.out _ _ (fun _ => HC.out) ?_
  clear hK K
  (try simp only [Act.put, List.setIfInBounds_toArray, List.set_cons_zero, List.set_cons_succ])
  refine Draws.done (by kernel_rfl) ?_
  clear HD
  go_wp2_with (first
    | (with_reducible refine load_there cbI _ rfl (HC.out.cell hkc) rfl rfl ?_)
    | (with_reducible refine load_there cbI _ rfl (HC.out.cell Pf.ce) rfl rfl ?_)
    | (go_at_call 29; (with_reducible refine (radd_t w _ L3 L4 _ _ HB.out HO.out (by have := Z3.out; omega) H4.out).mono ?_); rintro e u ⟨v', rfl, ho, hst⟩; have qHC := hst.cel (by decide) HC.out; clear HC; have HC := Lib.hid qHC; clear qHC; have hs' := HS.out.trans hst; have hb' := Nat.le_trans HB.out hst.size; clear HO HS HB; have HO := Lib.hid ho; have HS := Lib.hid hs'; have HB := Lib.hid hb'; clear ho hst hs' hb'))
  refine Draws.start (S := fun u => Cel u b1 33 (p.fd A c).cells) (n := 14) 14 rfl (by kernel_rfl) ?_
  have ho := HO.out.below ((Below.refl _ _).drew)
  have hst := Stays.below HB.out ((Below.refl _ _).drew)
  have qHC := hst.cel (by decide) HC.out; clear HC; have HC := Lib.hid qHC; clear qHC
  have hs := HS.out.trans hst; have hb := Nat.le_trans HB.out hst.size; clear HO HS HB; have HO := Lib.hid ho; have HS := Lib.hid hs; have HB := Lib.hid hb
  clear hst ho hs hb
  have HD := Lib.hid (show (fun u => Cel u b1 33 (p.fd A c).cells) _ from HC.out)
  refine Draws.take 0 (v := ?v76) HD.out rfl (by kernel_rfl) (fun _ _ _ h => h) (Or.inl ⟨rfl, ?h76⟩) ?r76
  case h76 => intro w' hw'; go_simp; (try with_reducible rfl)
  (try simp only [Act.put, List.setIfInBounds_toArray, List.set_cons_zero, List.set_cons_succ])
  refine Draws.take 1 (v := ?v77) HD.out rfl (by kernel_rfl) (fun _ _ _ h => h) (Or.inl ⟨rfl, ?h77⟩) ?r77
  case h77 => intro w' hw'; go_simp; (try with_reducible rfl)
  (try simp only [Act.put, List.setIfInBounds_toArray, List.set_cons_zero, List.set_cons_succ])
  refine Draws.take 2 (v := ?v78) HD.out rfl (by kernel_rfl) (fun _ _ _ h => h) (Or.inl ⟨rfl, ?h78⟩) ?r78
  case h78 => intro w' hw'; go_simp; (try with_reducible rfl)
  (try simp only [Act.put, List.setIfInBounds_toArray, List.set_cons_zero, List.set_cons_succ])
  refine Draws.take 3 HD.out rfl (by kernel_rfl) (fun _ _ _ h => h) (yield_ci cbI (fun _ h => h) hc0 _ rfl rfl rfl) ?_
  (try simp only [Act.put, List.setIfInBounds_toArray, List.set_cons_zero, List.set_cons_succ])
  refine Draws.take 5 (v := ?v79) HD.out rfl (by kernel_rfl) (fun _ _ _ h => h) (Or.inl ⟨rfl, ?h79⟩) ?r79
  case h79 => intro w' hw'; go_simp; (try with_reducible rfl)
  (try simp only [Act.put, List.setIfInBounds_toArray, List.set_cons_zero, List.set_cons_succ])
  refine Draws.take 6 (v := ?v80) HD.out rfl (by kernel_rfl) (fun _ _ _ h => h) (Or.inl ⟨rfl, ?h80⟩) ?r80
  case h80 => intro w' hw'; go_simp; (try with_reducible rfl)
  (try simp only [Act.put, List.setIfInBounds_toArray, List.set_cons_zero, List.set_cons_succ])
  refine Draws.take 7 HD.out rfl (by kernel_rfl) (fun _ _ _ h => h) (yield_ci cbI (fun _ h => h) hc1 _ rfl rfl rfl) ?_
  (try simp only [Act.put, List.setIfInBounds_toArray, List.set_cons_zero, List.set_cons_succ])
  refine Draws.take 9 (v := ?v81) HD.out rfl (by kernel_rfl) (fun _ _ _ h => h) (Or.inl ⟨rfl, ?h81⟩) ?r81
  case h81 => intro w' hw'; go_simp; (try with_reducible rfl)
  (try simp only [Act.put, List.setIfInBounds_toArray, List.set_cons_zero, List.set_cons_succ])
  refine Draws.take 10 (v := ?v82) HD.out rfl (by kernel_rfl) (fun _ _ _ h => h) (Or.inl ⟨rfl, ?h82⟩) ?r82
  case h82 => intro w' hw'; go_simp; (try with_reducible rfl)
  (try simp only [Act.put, List.setIfInBounds_toArray, List.set_cons_zero, List.set_cons_succ])
  refine Draws.take 11 HD.out rfl (by kernel_rfl) (fun _ _ _ h => h) (yield_ci cbI (fun _ h => h) hc2 _ rfl rfl rfl) ?_
  (try simp only [Act.put, List.setIfInBounds_toArray, List.set_cons_zero, List.set_cons_succ])
  refine Draws.does 4 rfl (by kernel_rfl) rfl (fun K hK => ?_)
  go_simp
  go_at_call 29
  refine (radd_t w _ L4 L5 _ _ HB.out HO.out (by have := Z4.out; omega) H5.out).mono ?_
  rintro e u ⟨v', rfl, ho, hst⟩
  (try dsimp only)
  have qHC := hst.cel (by decide) HC.out; clear HC; have HC := Lib.hid qHC; clear qHC
  have hs := HS.out.trans hst; have hb := Nat.le_trans HB.out hst.size; clear HO HS HB; have HO := Lib.hid ho; have HS := Lib.hid hs; have HB := Lib.hid hb
  clear hst ho hs hb
  refine hK.out _ _ (fun _ => HC.out) ?_
  clear hK K HD
  have HD := Lib.hid (show (fun u => Cel u b1 33 (p.fd A c).cells) _ from HC.out)
  (try simp only [Act.put, List.setIfInBounds_toArray, List.set_cons_zero, List.set_cons_succ])
  refine Draws.does 8 rfl (by kernel_rfl) rfl (fun K hK => ?_)
  go_simp
  go_at_call 29
  refine (radd_t w _ L5 L6 _ _ HB.out HO.out (by have := Z5.out; omega) H6.out).mono ?_
  rintro e u ⟨v', rfl, ho, hst⟩
  (try dsimp only)
  have qHC := hst.cel (by decide) HC.out; clear HC; have HC := Lib.hid qHC; clear qHC
  have hs := HS.out.trans hst; have hb := Nat.le_trans HB.out hst.size; clear HO HS HB; have HO := Lib.hid ho; have HS := Lib.hid hs; have HB := Lib.hid hb
  clear hst ho hs hb
  refine hK.out _ _ (fun _ => HC.out) ?_
  clear hK K HD
  have HD := Lib.hid (show (fun u => Cel u b1 33 (p.fd A c).cells) _ from HC.out)
  (try simp only [Act.put, List.setIfInBounds_toArray, List.set_cons_zero, List.set_cons_succ])
  refine Draws.does 12 rfl (by kernel_rfl) rfl (fun K hK => ?_)
  go_simp
  go_at_call 29
  refine (radd_t w _ L6 L7 _ _ HB.out HO.out (by have := Z6.out; omega) H7.out).mono ?_
  rintro e u ⟨v', rfl, ho, hst⟩
  (try dsimp only)
  have qHC := hst.cel (by decide) HC.out; clear HC; have HC := Lib.hid qHC; clear qHC
  have hs := HS.out.trans hst; have hb := Nat.le_trans HB.out hst.size; clear HO HS HB; have HO := Lib.hid ho; have HS := Lib.hid hs; have HB := Lib.hid hb
  clear hst ho hs hb
  refine hK.out _ _ (fun _ => HC.out) ?_
  clear hK K HD
  have HD := Lib.hid (show (fun u => Cel u b1 33 (p.fd A c).cells) _ from HC.out)
  (try simp only [Act.put, List.setIfInBounds_toArray, List.set_cons_zero, List.set_cons_succ])
  refine Draws.does 13 rfl (by kernel_rfl) rfl (fun K hK => ?_)
  go_simp
  refine hK.out _ _ (fun _ => HC.out) ?_
  clear hK K
  (try simp only [Act.put, List.setIfInBounds_toArray, List.set_cons_zero, List.set_cons_succ])
  refine Draws.done (by kernel_rfl) ?_
  clear HD
  go_wp2_with fail
  refine Draws.start (S := fun u => Cel u b1 33 (p.fd A c).cells) (n := 10) 10 rfl (by kernel_rfl) ?_
  have ho := HO.out.below ((Below.refl _ _).drew)
  have hst := Stays.below HB.out ((Below.refl _ _).drew)
  have qHC := hst.cel (by decide) HC.out; clear HC; have HC := Lib.hid qHC; clear qHC
  have hs := HS.out.trans hst; have hb := Nat.le_trans HB.out hst.size; clear HO HS HB; have HO := Lib.hid ho; have HS := Lib.hid hs; have HB := Lib.hid hb
  clear hst ho hs hb
  have HD := Lib.hid (show (fun u => Cel u b1 33 (p.fd A c).cells) _ from HC.out)
  refine Draws.take 0 (v := ?v83) HD.out rfl (by kernel_rfl) (fun _ _ _ h => h) (Or.inl ⟨rfl, ?h83⟩) ?r83
  case h83 => intro w' hw'; go_simp; (try with_reducible rfl)
  (try simp only [Act.put, List.setIfInBounds_toArray, List.set_cons_zero, List.set_cons_succ])
  refine Draws.take 1 (v := ?v84) HD.out rfl (by kernel_rfl) (fun _ _ _ h => h) (Or.inl ⟨rfl, ?h84⟩) ?r84
  case h84 => intro w' hw'; go_simp; (try with_reducible rfl)
  (try simp only [Act.put, List.setIfInBounds_toArray, List.set_cons_zero, List.set_cons_succ])
  refine Draws.take 2 (v := ?v85) HD.out rfl (by kernel_rfl) (fun _ _ _ h => h) (Or.inl ⟨rfl, ?h85⟩) ?r85
  case h85 => intro w' hw'; go_simp; (try with_reducible rfl)
  (try simp only [Act.put, List.setIfInBounds_toArray, List.set_cons_zero, List.set_cons_succ])
  refine Draws.take 3 HD.out rfl (by kernel_rfl) (fun _ _ _ h => h) (yield_pt (fun _ h => h) Tryz.underlying26 rfl (d_infoW HDN.out) (Fd.cD (f := p.fd A c) HF.out) _ rfl rfl rfl) ?_
  (try simp only [Act.put, List.setIfInBounds_toArray, List.set_cons_zero, List.set_cons_succ])
  refine Draws.take 5 (v := ?v86) HD.out rfl (by kernel_rfl) (fun _ _ _ h => h) (Or.inl ⟨rfl, ?h86⟩) ?r86
  case h86 => intro w' hw'; go_simp; (try with_reducible rfl)
  (try simp only [Act.put, List.setIfInBounds_toArray, List.set_cons_zero, List.set_cons_succ])
  refine Draws.take 6 (v := ?v87) HD.out rfl (by kernel_rfl) (fun _ _ _ h => h) (Or.inl ⟨rfl, ?h87⟩) ?r87
  case h87 => intro w' hw'; go_simp; (try with_reducible rfl)
  (try simp only [Act.put, List.setIfInBounds_toArray, List.set_cons_zero, List.set_cons_succ])
  refine Draws.take 7 HD.out rfl (by kernel_rfl) (fun _ _ _ h => h) (yield_pt (fun _ h => h) Tryz.underlying26 rfl (d_infoW HUP.out) (Fd.cU (f := p.fd A c) HF.out) _ rfl rfl rfl) ?_
  (try simp only [Act.put, List.setIfInBounds_toArray, List.set_cons_zero, List.set_cons_succ])
  refine Draws.does 4 rfl (by kernel_rfl) rfl (fun K hK => ?_)
  go_simp
  go_at_call 31
  refine (rrights_t w _ L7 L8 _ HDN.out _ HB.out HO.out (by have := Z7.out; omega) H8.out).mono ?_
  rintro e u ⟨v', rfl, ho, hst⟩
  (try dsimp only)
  have qHC := hst.cel (by decide) HC.out; clear HC; have HC := Lib.hid qHC; clear qHC
  have hs := HS.out.trans hst; have hb := Nat.le_trans HB.out hst.size; clear HO HS HB; have HO := Lib.hid ho; have HS := Lib.hid hs; have HB := Lib.hid hb
  clear hst ho hs hb
  refine hK.out _ _ (fun _ => HC.out) ?_
  clear hK K HD
  have HD := Lib.hid (show (fun u => Cel u b1 33 (p.fd A c).cells) _ from HC.out)
  (try simp only [Act.put, List.setIfInBounds_toArray, List.set_cons_zero, List.set_cons_succ])
  refine Draws.does 8 rfl (by kernel_rfl) rfl (fun K hK => ?_)
  go_simp
  go_at_call 31
  refine (rrights_t w _ L8 L9 _ HUP.out _ HB.out HO.out (by have := Z8.out; omega) H9.out).mono ?_
  rintro e u ⟨v', rfl, ho, hst⟩
  (try dsimp only)
  have qHC := hst.cel (by decide) HC.out; clear HC; have HC := Lib.hid qHC; clear qHC
  have hs := HS.out.trans hst; have hb := Nat.le_trans HB.out hst.size; clear HO HS HB; have HO := Lib.hid ho; have HS := Lib.hid hs; have HB := Lib.hid hb
  clear hst ho hs hb
  refine hK.out _ _ (fun _ => HC.out) ?_
  clear hK K HD
  have HD := Lib.hid (show (fun u => Cel u b1 33 (p.fd A c).cells) _ from HC.out)
  (try simp only [Act.put, List.setIfInBounds_toArray, List.set_cons_zero, List.set_cons_succ])
  refine Draws.does 9 rfl (by kernel_rfl) rfl (fun K hK => ?_)
  go_simp
  refine hK.out _ _ (fun _ => HC.out) ?_
  clear hK K
  (try simp only [Act.put, List.setIfInBounds_toArray, List.set_cons_zero, List.set_cons_succ])
  refine Draws.done (by kernel_rfl) ?_
  clear HD
  go_wp2_with (first
    | (with_reducible refine load_there cbH _ rfl (HC.out.cell (Pf.cH HF.out)) rfl rfl ?_)
    | (go_at_call 29; (with_reducible refine (radd_t w _ L9 L10 _ _ HB.out HO.out (by have := Z9.out; omega) H10.out).mono ?_); rintro e u ⟨v', rfl, ho, hst⟩; have qHC := hst.cel (by decide) HC.out; clear HC; have HC := Lib.hid qHC; clear qHC; have hs' := HS.out.trans hst; have hb' := Nat.le_trans HB.out hst.size; clear HO HS HB; have HO := Lib.hid ho; have HS := Lib.hid hs'; have HB := Lib.hid hb'; clear ho hst hs' hb'))
  go_loopw [6, 7] (fun v i wr => ∃ m : Nat, m ≤ p.hs.length ∧ i = .int .i64 m ∧ oct.Own wr w.heap.size v (L10 ++ encs (flat (p.hs.take m))) ∧ w.heap.size ≤ wr.heap.size ∧ Cel wr b1 33 (p.fd A c).cells ∧ Stays w w wr) (fun _ i _ => p.hs.length - (intOf i).toNat)
  case atStart => exact ⟨0, Nat.zero_le _, rfl, by simpa [encs, flat] using HO.out, HB.out, HC.out, HS.out⟩
  case round =>
    obtain ⟨m, hm, rfl, ho, hb, hc, hs⟩ := hrel
    clear HO HB HC HS
    have HO := Lib.hid ho; have HB := Lib.hid hb; have HC := Lib.hid hc; have HS := Lib.hid hs
    clear ho hb hc hs
    by_cases hlt : m < p.hs.length
    · obtain ⟨bh, off, rfl, hrg⟩ := row_hold HR.out hlt
      have i1 : (0 : Int) ≤ (m : Int) := by omega
      have i2 : (m : Int) < (p.hs.length : Int) := by omega
      have HGm := Lib.hid (show encs (flat (p.hs.take (m + 1))) = encs (flat (p.hs.take m)) ++ encs (p.hs.getD m z5).l by rw [flat_take hlt, encs_append])
      have hM0 : (L10 ++ encs (flat (p.hs.take m))).length ≤ 60000 := by
        have h1 := encs_len (flat (p.hs.take m))
        have h2 : (flat (p.hs.take m)).length ≤ 80 := by rw [flat_length, List.length_take]; omega
        have := Z10.out
        rw [List.length_append]; omega
      have HRG := Lib.hid hrg
      have HLT := Lib.hid (range_lt hrg)
      clear hrg
      generalize p.hs.getD m z5 = h at HGm HRG
      obtain ⟨M0, g0⟩ : ∃ L, L10 ++ encs (flat (p.hs.take m)) = L := ⟨_, rfl⟩
      rw [g0] at hM0
      have ho := HO.out
      rw [g0] at ho
      clear HO; have HO := Lib.hid ho; clear ho
      obtain ⟨M1, g1⟩ : ∃ L, M0 ++ oct.enc (oct.fold h.r) = L := ⟨_, rfl⟩
      have G1 := Lib.hid g1; have Y1 := Lib.hid (len_add g1 hM0)
      obtain ⟨M2, g2⟩ : ∃ L, M1 ++ oct.enc (oct.fold h.n) = L := ⟨_, rfl⟩
      have G2 := Lib.hid g2; have Y2 := Lib.hid (len_add g2 Y1.out)
      obtain ⟨M3, g3⟩ : ∃ L, M2 ++ oct.enc (oct.fold h.a) = L := ⟨_, rfl⟩
      have G3 := Lib.hid g3; have Y3 := Lib.hid (len_add g3 Y2.out)
      obtain ⟨M4, g4⟩ : ∃ L, M3 ++ oct.enc (oct.fold h.d) = L := ⟨_, rfl⟩
      have G4 := Lib.hid g4; have Y4 := Lib.hid (len_add g4 Y3.out)
      obtain ⟨M5, g5⟩ : ∃ L, M4 ++ oct.enc (oct.fold h.s) = L := ⟨_, rfl⟩
      have G5 := Lib.hid g5; have Y5 := Lib.hid (len_add g5 Y4.out)
      have GW := Lib.hid (show L10 ++ encs (flat (p.hs.take (m + 1))) = M5 by rw [HGm.out, ← g5, ← g4, ← g3, ← g2, ← g1, ← g0, encs_hold]; simp [List.append_assoc])
      have Y0 := Lib.hid hM0
      clear g0 g1 g2 g3 g4 g5 hM0 HGm
      go_wp2_with (first
        | (with_reducible refine load_there cbH _ rfl (HC.out.cell (Pf.cH HF.out)) rfl rfl ?_)
        | (with_reducible refine load_hold (range_below HRG.out HS.out.bel HLT.out) _ rfl rfl rfl ?_)
        | (with_reducible refine fresh_hold rfl rfl rfl rfl _ _ rfl (fun _ => rfl) (fun _ => rfl) ?_; intro b8 u hb hc8; have ho := HO.out.below hb; have hst := Stays.below HB.out hb; have qHC := hst.cel (by decide) HC.out; clear HC; have HC := Lib.hid qHC; clear qHC; have hs' := HS.out.trans hst; have hb' := Nat.le_trans HB.out hst.size; clear HO HS HB; have HO := Lib.hid ho; have HS := Lib.hid hs'; have HB := Lib.hid hb'; clear ho hst hs' hb'; have HC8 := Lib.hid hc8; clear hb hc8))
      refine Draws.start (S := fun u => Cel u b1 33 (p.fd (some ⟨bh, off, none⟩) c).cells ∧ Cel u b8 55 (vals h.l)) (n := 17) 17 rfl (by kernel_rfl) ?_
      have ho := HO.out.below ((Below.refl _ _).drew)
      have hst := Stays.below HB.out ((Below.refl _ _).drew)
      have qHC := hst.cel (by decide) HC.out; clear HC; have HC := Lib.hid qHC; clear qHC
      have qHC8 := hst.cel (by decide) HC8.out; clear HC8; have HC8 := Lib.hid qHC8; clear qHC8
      have hs := HS.out.trans hst; have hb := Nat.le_trans HB.out hst.size; clear HO HS HB; have HO := Lib.hid ho; have HS := Lib.hid hs; have HB := Lib.hid hb
      clear hst ho hs hb
      have HD := Lib.hid (show (fun u => Cel u b1 33 (p.fd (some ⟨bh, off, none⟩) c).cells ∧ Cel u b8 55 (vals h.l)) _ from ⟨HC.out, HC8.out⟩)
      refine Draws.take 0 (v := ?v88) HD.out rfl (by kernel_rfl) (fun _ _ _ h => h) (Or.inl ⟨rfl, ?h88⟩) ?r88
      case h88 => intro w' hw'; go_simp; (try with_reducible rfl)
      (try simp only [Act.put, List.setIfInBounds_toArray, List.set_cons_zero, List.set_cons_succ])
      refine Draws.take 1 (v := ?v89) HD.out rfl (by kernel_rfl) (fun _ _ _ h => h) (Or.inl ⟨rfl, ?h89⟩) ?r89
      case h89 => intro w' hw'; go_simp; (try with_reducible rfl)
      (try simp only [Act.put, List.setIfInBounds_toArray, List.set_cons_zero, List.set_cons_succ])
      refine Draws.take 2 HD.out rfl (by kernel_rfl) (fun _ _ _ h => h) (yield_ci cbI (fun _ h => h.2) (show (vals h.l)[0]? = some (.int .i64 h.r) from rfl) _ rfl rfl rfl) ?_
      (try simp only [Act.put, List.setIfInBounds_toArray, List.set_cons_zero, List.set_cons_succ])
      refine Draws.take 4 (v := ?v90) HD.out rfl (by kernel_rfl) (fun _ _ _ h => h) (Or.inl ⟨rfl, ?h90⟩) ?r90
      case h90 => intro w' hw'; go_simp; (try with_reducible rfl)
      (try simp only [Act.put, List.setIfInBounds_toArray, List.set_cons_zero, List.set_cons_succ])
      refine Draws.take 5 HD.out rfl (by kernel_rfl) (fun _ _ _ h => h) (yield_ci cbI (fun _ h => h.2) (show (vals h.l)[1]? = some (.int .i64 h.n) from rfl) _ rfl rfl rfl) ?_
      (try simp only [Act.put, List.setIfInBounds_toArray, List.set_cons_zero, List.set_cons_succ])
      refine Draws.take 7 (v := ?v91) HD.out rfl (by kernel_rfl) (fun _ _ _ h => h) (Or.inl ⟨rfl, ?h91⟩) ?r91
      case h91 => intro w' hw'; go_simp; (try with_reducible rfl)
      (try simp only [Act.put, List.setIfInBounds_toArray, List.set_cons_zero, List.set_cons_succ])
      refine Draws.take 8 HD.out rfl (by kernel_rfl) (fun _ _ _ h => h) (yield_ci cbI (fun _ h => h.2) (show (vals h.l)[2]? = some (.int .i64 h.a) from rfl) _ rfl rfl rfl) ?_
      (try simp only [Act.put, List.setIfInBounds_toArray, List.set_cons_zero, List.set_cons_succ])
      refine Draws.take 10 (v := ?v92) HD.out rfl (by kernel_rfl) (fun _ _ _ h => h) (Or.inl ⟨rfl, ?h92⟩) ?r92
      case h92 => intro w' hw'; go_simp; (try with_reducible rfl)
      (try simp only [Act.put, List.setIfInBounds_toArray, List.set_cons_zero, List.set_cons_succ])
      refine Draws.take 11 HD.out rfl (by kernel_rfl) (fun _ _ _ h => h) (yield_ci cbI (fun _ h => h.2) (show (vals h.l)[3]? = some (.int .i64 h.d) from rfl) _ rfl rfl rfl) ?_
      (try simp only [Act.put, List.setIfInBounds_toArray, List.set_cons_zero, List.set_cons_succ])
      refine Draws.take 13 (v := ?v93) HD.out rfl (by kernel_rfl) (fun _ _ _ h => h) (Or.inl ⟨rfl, ?h93⟩) ?r93
      case h93 => intro w' hw'; go_simp; (try with_reducible rfl)
      (try simp only [Act.put, List.setIfInBounds_toArray, List.set_cons_zero, List.set_cons_succ])
      refine Draws.take 14 HD.out rfl (by kernel_rfl) (fun _ _ _ h => h) (yield_ci cbI (fun _ h => h.2) (show (vals h.l)[4]? = some (.int .i64 h.s) from rfl) _ rfl rfl rfl) ?_
      (try simp only [Act.put, List.setIfInBounds_toArray, List.set_cons_zero, List.set_cons_succ])
      refine Draws.does 3 rfl (by kernel_rfl) rfl (fun K hK => ?_)
      go_simp
      go_at_call 29
      refine (radd_t w _ M0 M1 _ _ HB.out HO.out (by have := Y0.out; omega) G1.out).mono ?_
      rintro e u ⟨v', rfl, ho, hst⟩
      (try dsimp only)
      have qHC := hst.cel (by decide) HC.out; clear HC; have HC := Lib.hid qHC; clear qHC
      have qHC8 := hst.cel (by decide) HC8.out; clear HC8; have HC8 := Lib.hid qHC8; clear qHC8
      have hs := HS.out.trans hst; have hb := Nat.le_trans HB.out hst.size; clear HO HS HB; have HO := Lib.hid ho; have HS := Lib.hid hs; have HB := Lib.hid hb
      clear hst ho hs hb
      refine hK.out _ _ (fun _ => ⟨HC.out, HC8.out⟩) ?_
      clear hK K HD
      have HD := Lib.hid (show (fun u => Cel u b1 33 (p.fd (some ⟨bh, off, none⟩) c).cells ∧ Cel u b8 55 (vals h.l)) _ from ⟨HC.out, HC8.out⟩)
      (try simp only [Act.put, List.setIfInBounds_toArray, List.set_cons_zero, List.set_cons_succ])
      refine Draws.does 6 rfl (by kernel_rfl) rfl (fun K hK => ?_)
      go_simp
      go_at_call 29
      refine (radd_t w _ M1 M2 _ _ HB.out HO.out (by have := Y1.out; omega) G2.out).mono ?_
      rintro e u ⟨v', rfl, ho, hst⟩
      (try dsimp only)
      have qHC := hst.cel (by decide) HC.out; clear HC; have HC := Lib.hid qHC; clear qHC
      have qHC8 := hst.cel (by decide) HC8.out; clear HC8; have HC8 := Lib.hid qHC8; clear qHC8
      have hs := HS.out.trans hst; have hb := Nat.le_trans HB.out hst.size; clear HO HS HB; have HO := Lib.hid ho; have HS := Lib.hid hs; have HB := Lib.hid hb
      clear hst ho hs hb
      refine hK.out _ _ (fun _ => ⟨HC.out, HC8.out⟩) ?_
      clear hK K HD
      have HD := Lib.hid (show (fun u => Cel u b1 33 (p.fd (some ⟨bh, off, none⟩) c).cells ∧ Cel u b8 55 (vals h.l)) _ from ⟨HC.out, HC8.out⟩)
      (try simp only [Act.put, List.setIfInBounds_toArray, List.set_cons_zero, List.set_cons_succ])
      refine Draws.does 9 rfl (by kernel_rfl) rfl (fun K hK => ?_)
      go_simp
      go_at_call 29
      refine (radd_t w _ M2 M3 _ _ HB.out HO.out (by have := Y2.out; omega) G3.out).mono ?_
      rintro e u ⟨v', rfl, ho, hst⟩
      (try dsimp only)
      have qHC := hst.cel (by decide) HC.out; clear HC; have HC := Lib.hid qHC; clear qHC
      have qHC8 := hst.cel (by decide) HC8.out; clear HC8; have HC8 := Lib.hid qHC8; clear qHC8
      have hs := HS.out.trans hst; have hb := Nat.le_trans HB.out hst.size; clear HO HS HB; have HO := Lib.hid ho; have HS := Lib.hid hs; have HB := Lib.hid hb
      clear hst ho hs hb
      refine hK.out _ _ (fun _ => ⟨HC.out, HC8.out⟩) ?_
      clear hK K HD
      have HD := Lib.hid (show (fun u => Cel u b1 33 (p.fd (some ⟨bh, off, none⟩) c).cells ∧ Cel u b8 55 (vals h.l)) _ from ⟨HC.out, HC8.out⟩)
      (try simp only [Act.put, List.setIfInBounds_toArray, List.set_cons_zero, List.set_cons_succ])
      refine Draws.does 12 rfl (by kernel_rfl) rfl (fun K hK => ?_)
      go_simp
      go_at_call 29
      refine (radd_t w _ M3 M4 _ _ HB.out HO.out (by have := Y3.out; omega) G4.out).mono ?_
      rintro e u ⟨v', rfl, ho, hst⟩
      (try dsimp only)
      have qHC := hst.cel (by decide) HC.out; clear HC; have HC := Lib.hid qHC; clear qHC
      have qHC8 := hst.cel (by decide) HC8.out; clear HC8; have HC8 := Lib.hid qHC8; clear qHC8
      have hs := HS.out.trans hst; have hb := Nat.le_trans HB.out hst.size; clear HO HS HB; have HO := Lib.hid ho; have HS := Lib.hid hs; have HB := Lib.hid hb
      clear hst ho hs hb
      refine hK.out _ _ (fun _ => ⟨HC.out, HC8.out⟩) ?_
      clear hK K HD
      have HD := Lib.hid (show (fun u => Cel u b1 33 (p.fd (some ⟨bh, off, none⟩) c).cells ∧ Cel u b8 55 (vals h.l)) _ from ⟨HC.out, HC8.out⟩)
      (try simp only [Act.put, List.setIfInBounds_toArray, List.set_cons_zero, List.set_cons_succ])
      refine Draws.does 15 rfl (by kernel_rfl) rfl (fun K hK => ?_)
      go_simp
      go_at_call 29
      refine (radd_t w _ M4 M5 _ _ HB.out HO.out (by have := Y4.out; omega) G5.out).mono ?_
      rintro e u ⟨v', rfl, ho, hst⟩
      (try dsimp only)
      have qHC := hst.cel (by decide) HC.out; clear HC; have HC := Lib.hid qHC; clear qHC
      have qHC8 := hst.cel (by decide) HC8.out; clear HC8; have HC8 := Lib.hid qHC8; clear qHC8
      have hs := HS.out.trans hst; have hb := Nat.le_trans HB.out hst.size; clear HO HS HB; have HO := Lib.hid ho; have HS := Lib.hid hs; have HB := Lib.hid hb
      clear hst ho hs hb
      refine hK.out _ _ (fun _ => ⟨HC.out, HC8.out⟩) ?_
      clear hK K HD
      have HD := Lib.hid (show (fun u => Cel u b1 33 (p.fd (some ⟨bh, off, none⟩) c).cells ∧ Cel u b8 55 (vals h.l)) _ from ⟨HC.out, HC8.out⟩)
      (try simp only [Act.put, List.setIfInBounds_toArray, List.set_cons_zero, List.set_cons_succ])
      refine Draws.does 16 rfl (by kernel_rfl) rfl (fun K hK => ?_)
      go_simp
      refine hK.out _ _ (fun _ => ⟨HC.out, HC8.out⟩) ?_
      clear hK K
      (try simp only [Act.put, List.setIfInBounds_toArray, List.set_cons_zero, List.set_cons_succ])
      refine Draws.done (by kernel_rfl) ?_
      clear HD
      go_wp2_with fail
      go_roundw
      case rel => exact ⟨m + 1, by omega, by go_num, by rw [GW.out]; exact HO.out, HB.out, HC.out, HS.out⟩
      case measure => simp [intOf]; omega
    · obtain rfl : m = p.hs.length := by omega
      have ho := HO.out
      rw [List.take_length, ← hW] at ho
      clear HO; have HO := Lib.hid ho; clear ho hW
      go_wp2_with (first
        | (with_reducible refine load_there cbH _ rfl (HC.out.cell (Pf.cH HF.out)) rfl rfl ?_))
      go_ret2
      obtain ⟨A7, c7, e7, h7⟩ := HO.out.slice
      rw [e7]
      have hy := HO.out
      rw [e7] at hy
      exact ⟨A7, c7, rfl, h7, hy.bys, HS.out.bel⟩
end Go.Proofs.YtofngihdnjgmeaaGreat
