/- Contracts of wire.isNothing and wire.Down. -/
import Derived.Test.YtofngihdnjgmeaaGreatY01
import Derived.Test.YtofngihdnjgmeaaGreatY07
import Derived.Test.YtofngihdnjgmeaaGreatY09
import Derived.Test.YtofngihdnjgmeaaGreatY11
import Derived.Test.YtofngihdnjgmeaaGreatY12
import Derived.Test.YtofngihdnjgmeaaGreatY18
import Derived.Test.YtofngihdnjgmeaaGreatY21
import Derived.Test.YtofngihdnjgmeaaGreatY26
import Derived.Maps.OwnSet
import Derived.Maps.Views
import Derived.Maps.AppendAt
import Derived.OwnWalk
import Derived.Laws.OwnMore
import Derived.WalkKit
import Derived.ProofKit
import Derived.OpenShut
import Derived.ChangeOld
import Derived.Deep.Slices
import Derived.ChangeSlices
import Derived.Laws.AppendOwn
import Derived.Lib.Hide
import Derived.Deep.RegionHeld3
import Derived.Below
import Derived.Deep.MidRow
import Derived.Deep.QuietTactic
import Derived.BigQuiet
import Derived.Laws.StructEq
import Derived.WalkMore
import Derived.LoopTactic
import Derived.Defers
import Derived.Recover
import Derived.WalkSmall
import Derived.Lib.AppendZeros
import Derived.Deep.OwnRows
import Derived.Lib.SliceRun
import Derived.Shelf.SlSortCmp.WholeK
import Derived.Shelf.SlSortCmp.NoneTotal
namespace Go.Proofs.YtofngihdnjgmeaaGreat
set_option maxRecDepth 100000
open Go.ChangeShapes Go.WideShapes Go.ChangeAt Go.RowKit

section
variable {w u u' : World} {l : List (Nat × TypeId × List Value)} {rows : List (Option Addr × Nat × List Ho)}
/-- A block more, that a call made. -/
theorem KeepF.add (h : KeepF w l rows u) (hb : Below u.heap.size u u') {b : Nat} {t : TypeId} {cs : List Value} (hn : u.heap.size ≤ b) (hB : Cel u' b t cs) : KeepF w ((b, t, cs) :: l) rows u' := by
  have h1 := h.call hb
  refine ⟨h1.bel, fun x hx => ?_, ?_, h1.row, fun r hr x hx a ha h0 => ?_⟩
  · rcases List.mem_cons.1 hx with rfl | hx
    · exact ⟨Nat.le_trans h.bel.size hn, hB⟩
    · exact h1.blk x hx
  · simp only [List.map_cons, List.nodup_cons]
    refine ⟨fun hm => ?_, h.apart⟩
    obtain ⟨x, hx, e⟩ := List.mem_map.1 hm
    have := (h.blk x hx).2.lt
    omega
  · rcases List.mem_cons.1 hx with rfl | hx
    · have := (h.row r hr).lt ha h0
      simp only
      omega
    · exact h.free r hr x hx a ha h0
theorem KeepF.sub0 (h : KeepF w l rows u) {l' : List (Nat × TypeId × List Value)} (hs : l'.Sublist l) : KeepF w l' [] u := (h.sub hs).look (by simp)
end
theorem Fresh.none0 (B : Nat) : Fresh B none 0 [] := ⟨Nat.le_refl _, fun a h => by cases h⟩
section
variable {ops : Array Oper} {rest : List Oper} {o : Oper} {a : Act} {u : World} {Q : Exit → Act → World → Prop} {b n : Nat} {g : Int → Option Value}
theorem fm_hit (hm : FM u b n g) {k : Int} (hk : ok64W k) {v : Value} (hv : g k = some v) (hgd : o.guard = none) (m x : Operand) (ho : o.op = .lookup 81 m x true) (em : a.eval m = .map (some b)) (ex : a.eval x = .int .i64 k)
    (h : wpList Tryz.prog ops Q rest (a.put o.dst (.tuple #[v, .bool true])) u) : wpList Tryz.prog ops Q (o :: rest) a u :=
  wpList_plain hgd fun K hK => by
    unfold Oper.wp
    simp [execOp, ho, em, ex, hm.hit hk hv, Result.andThen]
    exact hK _ _ h
theorem fm_miss (hm : FM u b n g) {k : Int} (hk : ok64W k) (hv : g k = none) (hgd : o.guard = none) (m x : Operand) (ho : o.op = .lookup 81 m x true) (em : a.eval m = .map (some b)) (ex : a.eval x = .int .i64 k)
    (h : wpList Tryz.prog ops Q rest (a.put o.dst (.tuple #[.nilFunc, .bool false])) u) : wpList Tryz.prog ops Q (o :: rest) a u :=
  wpList_plain hgd fun K hK => by
    unfold Oper.wp
    simp [execOp, ho, em, ex, hm.miss hk hv, Result.andThen]
    exact hK _ _ h
end
theorem isn_any (e : Int) (A : Option Addr) (n c : Nat) (r : Bool) (hr : (decide (e = 0) && decide (n = 0)) = r) (w : World) :
    Calls Tryz.prog 25 #[.agg (rsc e A n c).toArray] w fun x w' => x = .returned (.bool r) ∧ Below w.heap.size w w' := by
  have HK := Lib.hid (KeepF.start (w := w) (rows := []) (by simp))
  by_cases h0 : e = 0
  · subst h0
    have hn : ((n : Int) == 0) = r := by
      subst hr
      rw [Bool.eq_iff_iff]
      simp
    go_enter Tryz.func25, Tryz.ntmps25
    go_wp2_with (first
      | (with_reducible refine box_f HK.out rfl _ rfl rfl ?_; intro b u hk; clear HK; have HK := Lib.hid hk; clear hk)
      | (with_reducible refine load_f1 HK.out 0 cbI _ rfl rfl rfl rfl rs_c0 ?_)
      | (with_reducible refine load_f1 HK.out 0 cbH _ rfl rfl rfl rfl rs_c1 ?_))
    go_ret
    exact ⟨rfl, HK.out.bel⟩
  · obtain rfl : r = false := by rw [← hr]; simp [h0]
    have h1 : (e == 0) = false := by simp [h0]
    go_enter Tryz.func25, Tryz.ntmps25
    go_wp2_with (first
      | (with_reducible refine box_f HK.out rfl _ rfl rfl ?_; intro b u hk; clear HK; have HK := Lib.hid hk; clear hk)
      | (with_reducible refine load_f1 HK.out 0 cbI _ rfl rfl rfl rfl rs_c0 ?_))
    go_ret
    exact ⟨rfl, HK.out.bel⟩

/-! ### wire.Down. -/
def rightP (p : Pf) : Bool := rightF (p.fd none 0) p.hs
theorem right_p (p : Pf) (hp : p.full) (hN : p.nm.size ≤ 1000) (A : Option Addr) (c : Nat) (r : Bool) (hr : rightP p = r) (w : World) (hd : Row w A p.hs.length p.hs) :
    Calls Tryz.prog 38 #[.agg (p.fd A c).cells.toArray] w fun e w' => e = .returned (.bool r) ∧ Below w.heap.size w w' := right_any7 (p.fd A c) hp hN p.hs w hd r hr
set_option maxHeartbeats 2000000 in
theorem down_1 (p : Pf) (hp : p.full) (hN : p.nm.size ≤ 1000) (hr : rightP p = true) (A : Option Addr) (c : Nat) (w : World) (hd : Row w A p.hs.length p.hs) :
    Calls Tryz.prog 18 #[.int .i64 1, .agg (p.fd A c).cells.toArray] w fun e u => ∃ A1 c1, e = .returned (.tuple #[.agg (((p.setE 0).setH []).fd none 0).cells.toArray, .agg (rsc p.e A1 p.hs.length c1).toArray, .int .i64 0]) ∧ Row u A1 p.hs.length p.hs ∧ Fresh w.heap.size A1 c1 p.hs ∧ Below w.heap.size w u := by
  have HK := Lib.hid (KeepF.start (w := w) (rows := [(A, p.hs.length, p.hs)]) (by simpa using hd))
  have HF := Lib.hid hp
  have HN := Lib.hid (show p.hs.length ≤ 1000 from hd.2.1)
  have HZ := Lib.hid zP_full
  have HG := Lib.hid (show ((p.setE 0).setH []).full from hp)
  have hrt := fun w h => right_p p hp hN A c true hr w h
  have hsy := fun A1 c1 w (q : Nat) h => say2_any p hp A1 c1 q w h
  have hlk : ∀ q, tbl q 1 = some (.func (.func 76) #[] #[.pointer (some ⟨q, 0, none⟩)]) := fun q => rfl
  clear hp hN hr hd
  go_enter Tryz.func18, Tryz.ntmps18
  go_wp2_with (first
    | (with_reducible refine box_f HK.out rfl _ rfl rfl ?_; intro b1 u hk; clear HK; have HK := Lib.hid hk; clear hk)
    | (with_reducible refine alloc_f (l := [_]) HK.out f_zeroP rfl rfl ?_; intro b2 u hk; clear HK; have HK := Lib.hid hk; clear hk)
    | (with_reducible refine alloc_f (l := [_, _]) HK.out rs_zero rfl rfl ?_; intro b3 u hk; clear HK; have HK := Lib.hid hk; clear hk)
    | (with_reducible refine alloc_f (l := [_, _, _, _]) HK.out f_zeroP rfl rfl ?_; intro b9 u hk; clear HK; have HK := Lib.hid hk; clear hk)
    | (with_reducible refine alloc_f (l := [_, _, _, _, _]) HK.out rs_zero rfl rfl ?_; intro b10 u hk; clear HK; have HK := Lib.hid hk; clear hk)
    | (with_reducible refine load_fr HK.out 2 Tryz.underlying33 rfl (Pf.infoF HF.out) _ rfl rfl rfl rfl Pf.all ?_)
    | (go_at_call 38; (with_reducible refine (hrt _ (HK.out.rowAt 0 rfl)).mono ?_); rintro e u ⟨rfl, hb⟩; have hk := HK.out.call hb; clear hb; clear HK; have HK := Lib.hid hk; clear hk)
    | (go_at_call 34; (with_reducible refine (sayings_any _).mono ?_); rintro e u ⟨bm, q, rfl, hm, hs⟩; have hk := HK.out.add hs.bel hs.new hs.cel; have HM := Lib.hid hm; clear hm hs; clear HK; have HK := Lib.hid hk; clear hk)
    | (with_reducible refine fm_hit HM.out (by decide) (hlk _) rfl _ _ rfl rfl rfl ?_)
    | (with_reducible refine load_f1 HK.out 3 cbH _ rfl rfl rfl rfl (Pf.cH HF.out) ?_)
    | (go_at_call 46; (with_reducible refine (clone_sl _ _ _ _ _ (HK.out.rowAt 0 rfl)).mono ?_); rintro e u ⟨A1, c1, rfl, ho, hb⟩; have HX := Lib.hid ((Fresh.own ho).mono HK.out.bel.size); have hk := HK.out.own hb ho HN.out; clear hb ho; clear HK; have HK := Lib.hid hk; clear hk)
    | (with_reducible refine store_f1 HK.out 3 cbH rfl rfl _ _ rfl rfl rfl rfl rfl (Fd.ltH HF.out) (Pf.toH HF.out A1 c1 p.hs) ?_; intro u hk; simp only [List.set_cons_zero, List.set_cons_succ] at hk; rw [Pf.setH_self] at hk; clear HK; have HK := Lib.hid hk; clear hk)
    | (with_reducible refine load_fr HK.out 3 Tryz.underlying33 rfl (Pf.infoF HF.out) _ rfl rfl rfl rfl Pf.all ?_)
    | (go_at_call 76; (with_reducible refine (hsy _ _ _ _ (HK.out.cellAt 0 rfl rfl)).mono ?_); rintro e u ⟨rfl, hb⟩; have hk := HK.out.call hb; clear hb; clear HK; have HK := Lib.hid hk; clear hk)
    | (with_reducible refine store_fr HK.out 1 (Pf.infoF HG.out) (Fd.one _) rfl rfl _ _ rfl rfl rfl rfl (Fd.leP HZ.out HG.out) (Fd.setAllP HZ.out HG.out) ?_; intro u hk; simp only [List.set_cons_zero, List.set_cons_succ] at hk; clear HK; have HK := Lib.hid hk; clear hk)
    | (with_reducible refine store_fr HK.out 0 (rs_info _ _ _ _) (rs_one _ _ _ _) rfl rfl _ _ rfl rfl rfl rfl (rs_le _ _ _ _ _ _ _ _) (rs_put _ _ _ _ _ _ _ _) ?_; intro u hk; simp only [List.set_cons_zero] at hk; clear HK; have HK := Lib.hid hk; clear hk))
  refine Draws.start (S := fun u => KeepF w [(b10, 49, rsc p.e A1 p.hs.length c1), (b9, 33, (((p.setE 0).setH []).fd none 0).cells)] [] u) (n := 3) 5 rfl (by kernel_rfl) ?_
  have hk := HK.out.drew
  clear HK; have HK := Lib.hid hk; clear hk
  have HS := Lib.hid (show (fun u => KeepF w [(b10, 49, rsc p.e A1 p.hs.length c1), (b9, 33, (((p.setE 0).setH []).fd none 0).cells)] [] u) _ from HK.out.sub0 (by repeat first | exact List.nil_sublist _ | apply List.Sublist.cons_cons | apply List.Sublist.cons))
  refine Draws.take 0 HS.out rfl (by kernel_rfl) (fun _ _ _ h => h) (yield_fr (fun _ h => h) 1 Tryz.underlying33 rfl (Pf.infoF HG.out) _ rfl rfl rfl rfl Pf.all) ?_
  (try simp only [Act.put, List.setIfInBounds_toArray, List.set_cons_zero, List.set_cons_succ])
  refine Draws.take 1 HS.out rfl (by kernel_rfl) (fun _ _ _ h => h) (yield_fr (fun _ h => h) 0 Tryz.underlying49 rfl (rs_info _ _ _ _) _ rfl rfl rfl rfl rs_all) ?_
  (try simp only [Act.put, List.setIfInBounds_toArray, List.set_cons_zero, List.set_cons_succ])
  refine Draws.does 2 rfl (by kernel_rfl) rfl (fun K hK => ?_)
  refine wp_store_fr HK.out 4 (Pf.infoF HG.out) (Fd.one _) rfl _ _ rfl rfl rfl rfl (Fd.leP HZ.out HG.out) (Fd.setAllP HZ.out HG.out) ?_
  intro u hk _
  simp only [List.set_cons_zero, List.set_cons_succ] at hk
  clear HK; have HK := Lib.hid hk; clear hk
  refine hK.out _ _ (fun _ => HK.out.sub0 (by repeat first | exact List.nil_sublist _ | apply List.Sublist.cons_cons | apply List.Sublist.cons)) ?_
  clear hK K
  (try simp only [Act.put, List.setIfInBounds_toArray, List.set_cons_zero, List.set_cons_succ])
  refine Draws.does 3 rfl (by kernel_rfl) rfl (fun K hK => ?_)
  refine wp_store_fr HK.out 3 (rs_info _ _ _ _) (rs_one _ _ _ _) rfl _ _ rfl rfl rfl rfl (rs_le _ _ _ _ _ _ _ _) (rs_put _ _ _ _ _ _ _ _) ?_
  intro u hk _
  simp only [List.set_cons_zero, List.set_cons_succ] at hk
  clear HK; have HK := Lib.hid hk; clear hk
  refine hK.out _ _ (fun h => absurd h (by decide)) ?_
  clear hK K
  (try simp only [Act.put, List.setIfInBounds_toArray, List.set_cons_zero, List.set_cons_succ])
  refine Draws.does 4 rfl (by kernel_rfl) rfl (fun K hK => ?_)
  go_simp
  refine hK.out _ _ (fun h => absurd h (by decide)) ?_
  clear hK K
  (try simp only [Act.put, List.setIfInBounds_toArray, List.set_cons_zero, List.set_cons_succ])
  refine Draws.done (by kernel_rfl) ?_
  clear HS
  go_wp2_with fail
  exact bodyPost_ret (results_fft rfl Tryz.underlying33 rfl (Pf.infoF HG.out) Tryz.underlying49 rfl (rs_info _ _ _ _) _ HK.out 4 3 _ rfl rfl rfl rfl rfl) rfl ⟨A1, c1, rfl, HK.out.rowAt 0 rfl, HX.out, HK.out.bel⟩
set_option maxHeartbeats 2000000 in
theorem down_2 (p : Pf) (hp : p.full) (hN : p.nm.size ≤ 1000) (hr : rightP p = true) (A : Option Addr) (c : Nat) (w : World) (hd : Row w A p.hs.length p.hs) :
    Calls Tryz.prog 18 #[.int .i64 2, .agg (p.fd A c).cells.toArray] w fun e u => ∃ A1 c1, e = .returned (.tuple #[.agg ((p.setE 0).fd A1 c1).cells.toArray, .agg (rsc p.e none 0 0).toArray, .int .i64 0]) ∧ Row u A1 p.hs.length p.hs ∧ Fresh w.heap.size A1 c1 p.hs ∧ Below w.heap.size w u := by
  have HK := Lib.hid (KeepF.start (w := w) (rows := [(A, p.hs.length, p.hs)]) (by simpa using hd))
  have HF := Lib.hid hp
  have HN := Lib.hid (show p.hs.length ≤ 1000 from hd.2.1)
  have HZ := Lib.hid zP_full
  have HG := Lib.hid (show (p.setE 0).full from hp)
  have hrt := fun w h => right_p p hp hN A c true hr w h
  have hsy := fun A1 c1 w => say1_any p hp A1 c1 w
  have hlk : ∀ q, tbl q 2 = some (.func (.func 75) #[] #[]) := fun q => rfl
  clear hp hN hr hd
  go_enter Tryz.func18, Tryz.ntmps18
  go_wp2_with (first
    | (with_reducible refine box_f HK.out rfl _ rfl rfl ?_; intro b1 u hk; clear HK; have HK := Lib.hid hk; clear hk)
    | (with_reducible refine alloc_f (l := [_]) HK.out f_zeroP rfl rfl ?_; intro b2 u hk; clear HK; have HK := Lib.hid hk; clear hk)
    | (with_reducible refine alloc_f (l := [_, _]) HK.out rs_zero rfl rfl ?_; intro b3 u hk; clear HK; have HK := Lib.hid hk; clear hk)
    | (with_reducible refine alloc_f (l := [_, _, _, _]) HK.out f_zeroP rfl rfl ?_; intro b9 u hk; clear HK; have HK := Lib.hid hk; clear hk)
    | (with_reducible refine alloc_f (l := [_, _, _, _, _]) HK.out rs_zero rfl rfl ?_; intro b10 u hk; clear HK; have HK := Lib.hid hk; clear hk)
    | (with_reducible refine load_fr HK.out 2 Tryz.underlying33 rfl (Pf.infoF HF.out) _ rfl rfl rfl rfl Pf.all ?_)
    | (go_at_call 38; (with_reducible refine (hrt _ (HK.out.rowAt 0 rfl)).mono ?_); rintro e u ⟨rfl, hb⟩; have hk := HK.out.call hb; clear hb; clear HK; have HK := Lib.hid hk; clear hk)
    | (go_at_call 34; (with_reducible refine (sayings_any _).mono ?_); rintro e u ⟨bm, q, rfl, hm, hs⟩; have hk := HK.out.add hs.bel hs.new hs.cel; have HM := Lib.hid hm; clear hm hs; clear HK; have HK := Lib.hid hk; clear hk)
    | (with_reducible refine fm_hit HM.out (by decide) (hlk _) rfl _ _ rfl rfl rfl ?_)
    | (with_reducible refine load_f1 HK.out 3 cbH _ rfl rfl rfl rfl (Pf.cH HF.out) ?_)
    | (go_at_call 46; (with_reducible refine (clone_sl _ _ _ _ _ (HK.out.rowAt 0 rfl)).mono ?_); rintro e u ⟨A1, c1, rfl, ho, hb⟩; have HX := Lib.hid ((Fresh.own ho).mono HK.out.bel.size); have hk := HK.out.own hb ho HN.out; clear hb ho; clear HK; have HK := Lib.hid hk; clear hk)
    | (with_reducible refine store_f1 HK.out 3 cbH rfl rfl _ _ rfl rfl rfl rfl rfl (Fd.ltH HF.out) (Pf.toH HF.out A1 c1 p.hs) ?_; intro u hk; simp only [List.set_cons_zero, List.set_cons_succ] at hk; rw [Pf.setH_self] at hk; clear HK; have HK := Lib.hid hk; clear hk)
    | (with_reducible refine load_fr HK.out 3 Tryz.underlying33 rfl (Pf.infoF HF.out) _ rfl rfl rfl rfl Pf.all ?_)
    | (go_at_call 75; (with_reducible refine (hsy _ _ _).mono ?_); rintro e u ⟨rfl, hb⟩; have hk := HK.out.call hb; clear hb; clear HK; have HK := Lib.hid hk; clear hk)
    | (with_reducible refine store_fr HK.out 1 (Pf.infoF HG.out) (Fd.one _) rfl rfl _ _ rfl rfl rfl rfl (Fd.leP HZ.out HG.out) (Fd.setAllP HZ.out HG.out) ?_; intro u hk; simp only [List.set_cons_zero, List.set_cons_succ] at hk; clear HK; have HK := Lib.hid hk; clear hk)
    | (with_reducible refine store_fr HK.out 0 (rs_info _ _ _ _) (rs_one _ _ _ _) rfl rfl _ _ rfl rfl rfl rfl (rs_le _ _ _ _ _ _ _ _) (rs_put _ _ _ _ _ _ _ _) ?_; intro u hk; simp only [List.set_cons_zero] at hk; clear HK; have HK := Lib.hid hk; clear hk))
  refine Draws.start (S := fun u => KeepF w [(b10, 49, rsc p.e none 0 0), (b9, 33, ((p.setE 0).fd A1 c1).cells)] [] u) (n := 3) 5 rfl (by kernel_rfl) ?_
  have hk := HK.out.drew
  clear HK; have HK := Lib.hid hk; clear hk
  have HS := Lib.hid (show (fun u => KeepF w [(b10, 49, rsc p.e none 0 0), (b9, 33, ((p.setE 0).fd A1 c1).cells)] [] u) _ from HK.out.sub0 (by repeat first | exact List.nil_sublist _ | apply List.Sublist.cons_cons | apply List.Sublist.cons))
  refine Draws.take 0 HS.out rfl (by kernel_rfl) (fun _ _ _ h => h) (yield_fr (fun _ h => h) 1 Tryz.underlying33 rfl (Pf.infoF HG.out) _ rfl rfl rfl rfl Pf.all) ?_
  (try simp only [Act.put, List.setIfInBounds_toArray, List.set_cons_zero, List.set_cons_succ])
  refine Draws.take 1 HS.out rfl (by kernel_rfl) (fun _ _ _ h => h) (yield_fr (fun _ h => h) 0 Tryz.underlying49 rfl (rs_info _ _ _ _) _ rfl rfl rfl rfl rs_all) ?_
  (try simp only [Act.put, List.setIfInBounds_toArray, List.set_cons_zero, List.set_cons_succ])
  refine Draws.does 2 rfl (by kernel_rfl) rfl (fun K hK => ?_)
  refine wp_store_fr HK.out 4 (Pf.infoF HG.out) (Fd.one _) rfl _ _ rfl rfl rfl rfl (Fd.leP HZ.out HG.out) (Fd.setAllP HZ.out HG.out) ?_
  intro u hk _
  simp only [List.set_cons_zero, List.set_cons_succ] at hk
  clear HK; have HK := Lib.hid hk; clear hk
  refine hK.out _ _ (fun _ => HK.out.sub0 (by repeat first | exact List.nil_sublist _ | apply List.Sublist.cons_cons | apply List.Sublist.cons)) ?_
  clear hK K
  (try simp only [Act.put, List.setIfInBounds_toArray, List.set_cons_zero, List.set_cons_succ])
  refine Draws.does 3 rfl (by kernel_rfl) rfl (fun K hK => ?_)
  refine wp_store_fr HK.out 3 (rs_info _ _ _ _) (rs_one _ _ _ _) rfl _ _ rfl rfl rfl rfl (rs_le _ _ _ _ _ _ _ _) (rs_put _ _ _ _ _ _ _ _) ?_
  intro u hk _
  simp only [List.set_cons_zero, List.set_cons_succ] at hk
  clear HK; have HK := Lib.hid hk; clear hk
  refine hK.out _ _ (fun h => absurd h (by decide)) ?_
  clear hK K
  (try simp only [Act.put, List.setIfInBounds_toArray, List.set_cons_zero, List.set_cons_succ])
  refine Draws.does 4 rfl (by kernel_rfl) rfl (fun K hK => ?_)
  go_simp
  refine hK.out _ _ (fun h => absurd h (by decide)) ?_
  clear hK K
  (try simp only [Act.put, List.setIfInBounds_toArray, List.set_cons_zero, List.set_cons_succ])
  refine Draws.done (by kernel_rfl) ?_
  clear HS
  go_wp2_with fail
  exact bodyPost_ret (results_fft rfl Tryz.underlying33 rfl (Pf.infoF HG.out) Tryz.underlying49 rfl (rs_info _ _ _ _) _ HK.out 4 3 _ rfl rfl rfl rfl rfl) rfl ⟨A1, c1, rfl, HK.out.rowAt 0 rfl, HX.out, HK.out.bel⟩
set_option maxHeartbeats 2000000 in
theorem down_3 (p : Pf) (hp : p.full) (hN : p.nm.size ≤ 1000) (hr : rightP p = true) (A : Option Addr) (c : Nat) (w : World) (hd : Row w A p.hs.length p.hs) :
    Calls Tryz.prog 18 #[.int .i64 3, .agg (p.fd A c).cells.toArray] w fun e u => ∃ A1 c1, e = .returned (.tuple #[.agg (p.fd A1 c1).cells.toArray, .agg (rsc 0 none 0 0).toArray, .int .i64 0]) ∧ Row u A1 p.hs.length p.hs ∧ Fresh w.heap.size A1 c1 p.hs ∧ Below w.heap.size w u := by
  have HK := Lib.hid (KeepF.start (w := w) (rows := [(A, p.hs.length, p.hs)]) (by simpa using hd))
  have HF := Lib.hid hp
  have HN := Lib.hid (show p.hs.length ≤ 1000 from hd.2.1)
  have HZ := Lib.hid zP_full
  have HG := Lib.hid (show p.full from hp)
  have hrt := fun w h => right_p p hp hN A c true hr w h
  have hsy := fun A1 c1 w => say3_any p hp A1 c1 w
  have hlk : ∀ q, tbl q 3 = some (.func (.func 77) #[] #[]) := fun q => rfl
  clear hp hN hr hd
  go_enter Tryz.func18, Tryz.ntmps18
  go_wp2_with (first
    | (with_reducible refine box_f HK.out rfl _ rfl rfl ?_; intro b1 u hk; clear HK; have HK := Lib.hid hk; clear hk)
    | (with_reducible refine alloc_f (l := [_]) HK.out f_zeroP rfl rfl ?_; intro b2 u hk; clear HK; have HK := Lib.hid hk; clear hk)
    | (with_reducible refine alloc_f (l := [_, _]) HK.out rs_zero rfl rfl ?_; intro b3 u hk; clear HK; have HK := Lib.hid hk; clear hk)
    | (with_reducible refine alloc_f (l := [_, _, _, _]) HK.out f_zeroP rfl rfl ?_; intro b9 u hk; clear HK; have HK := Lib.hid hk; clear hk)
    | (with_reducible refine alloc_f (l := [_, _, _, _, _]) HK.out rs_zero rfl rfl ?_; intro b10 u hk; clear HK; have HK := Lib.hid hk; clear hk)
    | (with_reducible refine load_fr HK.out 2 Tryz.underlying33 rfl (Pf.infoF HF.out) _ rfl rfl rfl rfl Pf.all ?_)
    | (go_at_call 38; (with_reducible refine (hrt _ (HK.out.rowAt 0 rfl)).mono ?_); rintro e u ⟨rfl, hb⟩; have hk := HK.out.call hb; clear hb; clear HK; have HK := Lib.hid hk; clear hk)
    | (go_at_call 34; (with_reducible refine (sayings_any _).mono ?_); rintro e u ⟨bm, q, rfl, hm, hs⟩; have hk := HK.out.add hs.bel hs.new hs.cel; have HM := Lib.hid hm; clear hm hs; clear HK; have HK := Lib.hid hk; clear hk)
    | (with_reducible refine fm_hit HM.out (by decide) (hlk _) rfl _ _ rfl rfl rfl ?_)
    | (with_reducible refine load_f1 HK.out 3 cbH _ rfl rfl rfl rfl (Pf.cH HF.out) ?_)
    | (go_at_call 46; (with_reducible refine (clone_sl _ _ _ _ _ (HK.out.rowAt 0 rfl)).mono ?_); rintro e u ⟨A1, c1, rfl, ho, hb⟩; have HX := Lib.hid ((Fresh.own ho).mono HK.out.bel.size); have hk := HK.out.own hb ho HN.out; clear hb ho; clear HK; have HK := Lib.hid hk; clear hk)
    | (with_reducible refine store_f1 HK.out 3 cbH rfl rfl _ _ rfl rfl rfl rfl rfl (Fd.ltH HF.out) (Pf.toH HF.out A1 c1 p.hs) ?_; intro u hk; simp only [List.set_cons_zero, List.set_cons_succ] at hk; rw [Pf.setH_self] at hk; clear HK; have HK := Lib.hid hk; clear hk)
    | (with_reducible refine load_fr HK.out 3 Tryz.underlying33 rfl (Pf.infoF HF.out) _ rfl rfl rfl rfl Pf.all ?_)
    | (go_at_call 77; (with_reducible refine (hsy _ _ _).mono ?_); rintro e u ⟨rfl, hb⟩; have hk := HK.out.call hb; clear hb; clear HK; have HK := Lib.hid hk; clear hk)
    | (with_reducible refine store_fr HK.out 1 (Pf.infoF HG.out) (Fd.one _) rfl rfl _ _ rfl rfl rfl rfl (Fd.leP HZ.out HG.out) (Fd.setAllP HZ.out HG.out) ?_; intro u hk; simp only [List.set_cons_zero, List.set_cons_succ] at hk; clear HK; have HK := Lib.hid hk; clear hk)
    | (with_reducible refine store_fr HK.out 0 (rs_info _ _ _ _) (rs_one _ _ _ _) rfl rfl _ _ rfl rfl rfl rfl (rs_le _ _ _ _ _ _ _ _) (rs_put _ _ _ _ _ _ _ _) ?_; intro u hk; simp only [List.set_cons_zero] at hk; clear HK; have HK := Lib.hid hk; clear hk))
  refine Draws.start (S := fun u => KeepF w [(b10, 49, rsc 0 none 0 0), (b9, 33, (p.fd A1 c1).cells)] [] u) (n := 3) 5 rfl (by kernel_rfl) ?_
  have hk := HK.out.drew
  clear HK; have HK := Lib.hid hk; clear hk
  have HS := Lib.hid (show (fun u => KeepF w [(b10, 49, rsc 0 none 0 0), (b9, 33, (p.fd A1 c1).cells)] [] u) _ from HK.out.sub0 (by repeat first | exact List.nil_sublist _ | apply List.Sublist.cons_cons | apply List.Sublist.cons))
  refine Draws.take 0 HS.out rfl (by kernel_rfl) (fun _ _ _ h => h) (yield_fr (fun _ h => h) 1 Tryz.underlying33 rfl (Pf.infoF HG.out) _ rfl rfl rfl rfl Pf.all) ?_
  (try simp only [Act.put, List.setIfInBounds_toArray, List.set_cons_zero, List.set_cons_succ])
  refine Draws.take 1 HS.out rfl (by kernel_rfl) (fun _ _ _ h => h) (yield_fr (fun _ h => h) 0 Tryz.underlying49 rfl (rs_info _ _ _ _) _ rfl rfl rfl rfl rs_all) ?_
  (try simp only [Act.put, List.setIfInBounds_toArray, List.set_cons_zero, List.set_cons_succ])
  refine Draws.does 2 rfl (by kernel_rfl) rfl (fun K hK => ?_)
  refine wp_store_fr HK.out 4 (Pf.infoF HG.out) (Fd.one _) rfl _ _ rfl rfl rfl rfl (Fd.leP HZ.out HG.out) (Fd.setAllP HZ.out HG.out) ?_
  intro u hk _
  simp only [List.set_cons_zero, List.set_cons_succ] at hk
  clear HK; have HK := Lib.hid hk; clear hk
  refine hK.out _ _ (fun _ => HK.out.sub0 (by repeat first | exact List.nil_sublist _ | apply List.Sublist.cons_cons | apply List.Sublist.cons)) ?_
  clear hK K
  (try simp only [Act.put, List.setIfInBounds_toArray, List.set_cons_zero, List.set_cons_succ])
  refine Draws.does 3 rfl (by kernel_rfl) rfl (fun K hK => ?_)
  refine wp_store_fr HK.out 3 (rs_info _ _ _ _) (rs_one _ _ _ _) rfl _ _ rfl rfl rfl rfl (rs_le _ _ _ _ _ _ _ _) (rs_put _ _ _ _ _ _ _ _) ?_
  intro u hk _
  simp only [List.set_cons_zero, List.set_cons_succ] at hk
  clear HK; have HK := Lib.hid hk; clear hk
  refine hK.out _ _ (fun h => absurd h (by decide)) ?_
  clear hK K
  (try simp only [Act.put, List.setIfInBounds_toArray, List.set_cons_zero, List.set_cons_succ])
  refine Draws.does 4 rfl (by kernel_rfl) rfl (fun K hK => ?_)
  go_simp
  refine hK.out _ _ (fun h => absurd h (by decide)) ?_
  clear hK K
  (try simp only [Act.put, List.setIfInBounds_toArray, List.set_cons_zero, List.set_cons_succ])
  refine Draws.done (by kernel_rfl) ?_
  clear HS
  go_wp2_with fail
  exact bodyPost_ret (results_fft rfl Tryz.underlying33 rfl (Pf.infoF HG.out) Tryz.underlying49 rfl (rs_info _ _ _ _) _ HK.out 4 3 _ rfl rfl rfl rfl rfl) rfl ⟨A1, c1, rfl, HK.out.rowAt 0 rfl, HX.out, HK.out.bel⟩
set_option maxHeartbeats 1000000 in
theorem down_no (p : Pf) (hp : p.full) (hN : p.nm.size ≤ 1000) (hr : rightP p = false) (v : Int) (A : Option Addr) (c : Nat) (w : World) (hd : Row w A p.hs.length p.hs) :
    Calls Tryz.prog 18 #[.int .i64 v, .agg (p.fd A c).cells.toArray] w fun e u => e = .returned (.tuple #[.agg (zP.fd none 0).cells.toArray, .agg (rsc 0 none 0 0).toArray, .int .i64 1]) ∧ Below w.heap.size w u := by
  have HK := Lib.hid (KeepF.start (w := w) (rows := [(A, p.hs.length, p.hs)]) (by simpa using hd))
  have HF := Lib.hid hp
  have HN := Lib.hid (show p.hs.length ≤ 1000 from hd.2.1)
  have HZ := Lib.hid zP_full
  have hrt := fun w h => right_p p hp hN A c false hr w h
  clear hp hN hd
  go_enter Tryz.func18, Tryz.ntmps18
  go_wp2_with (first
    | (with_reducible refine box_f HK.out rfl _ rfl rfl ?_; intro b1 u hk; clear HK; have HK := Lib.hid hk; clear hk)
    | (with_reducible refine alloc_f (l := [_]) HK.out f_zeroP rfl rfl ?_; intro b2 u hk; clear HK; have HK := Lib.hid hk; clear hk)
    | (with_reducible refine alloc_f (l := [_, _]) HK.out rs_zero rfl rfl ?_; intro b3 u hk; clear HK; have HK := Lib.hid hk; clear hk)
    | (with_reducible refine alloc_f (l := [_, _, _, _]) HK.out f_zeroP rfl rfl ?_; intro b9 u hk; clear HK; have HK := Lib.hid hk; clear hk)
    | (with_reducible refine alloc_f (l := [_, _, _, _, _]) HK.out rs_zero rfl rfl ?_; intro b10 u hk; clear HK; have HK := Lib.hid hk; clear hk)
    | (with_reducible refine load_fr HK.out 2 Tryz.underlying33 rfl (Pf.infoF HF.out) _ rfl rfl rfl rfl Pf.all ?_)
    | (go_at_call 38; (with_reducible refine (hrt _ (HK.out.rowAt 0 rfl)).mono ?_); rintro e u ⟨rfl, hb⟩; have hk := HK.out.call hb; clear hb; clear HK; have HK := Lib.hid hk; clear hk)
    | (with_reducible refine build_f f_buildP rfl rfl ?_)
    | (with_reducible refine build_f rs_build0 rfl rfl ?_)
    | (with_reducible refine store_fr HK.out 1 (Pf.infoF HZ.out) (Fd.one _) rfl rfl _ _ rfl rfl rfl rfl (Fd.leP HZ.out HZ.out) (Fd.setAllP HZ.out HZ.out) ?_; intro u hk; simp only [List.set_cons_zero, List.set_cons_succ] at hk; clear HK; have HK := Lib.hid hk; clear hk)
    | (with_reducible refine store_fr HK.out 0 (rs_info _ _ _ _) (rs_one _ _ _ _) rfl rfl _ _ rfl rfl rfl rfl (rs_le _ _ _ _ _ _ _ _) (rs_put _ _ _ _ _ _ _ _) ?_; intro u hk; simp only [List.set_cons_zero] at hk; clear HK; have HK := Lib.hid hk; clear hk))
  exact bodyPost_ret (results_fft rfl Tryz.underlying33 rfl (Pf.infoF HZ.out) Tryz.underlying49 rfl (rs_info _ _ _ _) _ HK.out 1 0 _ rfl rfl rfl rfl rfl) rfl ⟨rfl, HK.out.bel⟩
set_option maxHeartbeats 1000000 in
theorem down_ver (p : Pf) (hp : p.full) (hN : p.nm.size ≤ 1000) (hr : rightP p = true) (v : Int) (hv : ok64W v) (h1 : v ≠ 1) (h2 : v ≠ 2) (h3 : v ≠ 3) (A : Option Addr) (c : Nat) (w : World) (hd : Row w A p.hs.length p.hs) :
    Calls Tryz.prog 18 #[.int .i64 v, .agg (p.fd A c).cells.toArray] w fun e u => e = .returned (.tuple #[.agg (zP.fd none 0).cells.toArray, .agg (rsc 0 none 0 0).toArray, .int .i64 18]) ∧ Below w.heap.size w u := by
  have HK := Lib.hid (KeepF.start (w := w) (rows := [(A, p.hs.length, p.hs)]) (by simpa using hd))
  have HF := Lib.hid hp
  have HN := Lib.hid (show p.hs.length ≤ 1000 from hd.2.1)
  have HZ := Lib.hid zP_full
  have hrt := fun w h => right_p p hp hN A c true hr w h
  have HV := Lib.hid hv
  have hlk : ∀ q, tbl q v = none := fun q => by simp [tbl, h1, h2, h3]
  clear h1 h2 h3 hv hr
  clear hp hN hd
  go_enter Tryz.func18, Tryz.ntmps18
  go_wp2_with (first
    | (with_reducible refine box_f HK.out rfl _ rfl rfl ?_; intro b1 u hk; clear HK; have HK := Lib.hid hk; clear hk)
    | (with_reducible refine alloc_f (l := [_]) HK.out f_zeroP rfl rfl ?_; intro b2 u hk; clear HK; have HK := Lib.hid hk; clear hk)
    | (with_reducible refine alloc_f (l := [_, _]) HK.out rs_zero rfl rfl ?_; intro b3 u hk; clear HK; have HK := Lib.hid hk; clear hk)
    | (with_reducible refine alloc_f (l := [_, _, _, _]) HK.out f_zeroP rfl rfl ?_; intro b9 u hk; clear HK; have HK := Lib.hid hk; clear hk)
    | (with_reducible refine alloc_f (l := [_, _, _, _, _]) HK.out rs_zero rfl rfl ?_; intro b10 u hk; clear HK; have HK := Lib.hid hk; clear hk)
    | (with_reducible refine load_fr HK.out 2 Tryz.underlying33 rfl (Pf.infoF HF.out) _ rfl rfl rfl rfl Pf.all ?_)
    | (go_at_call 38; (with_reducible refine (hrt _ (HK.out.rowAt 0 rfl)).mono ?_); rintro e u ⟨rfl, hb⟩; have hk := HK.out.call hb; clear hb; clear HK; have HK := Lib.hid hk; clear hk)
    | (go_at_call 34; (with_reducible refine (sayings_any _).mono ?_); rintro e u ⟨bm, q, rfl, hm, hs⟩; have hk := HK.out.add hs.bel hs.new hs.cel; have HM := Lib.hid hm; clear hm hs; clear HK; have HK := Lib.hid hk; clear hk)
    | (with_reducible refine fm_miss HM.out HV.out (hlk _) rfl _ _ rfl rfl rfl ?_)
    | (with_reducible refine build_f f_buildP rfl rfl ?_)
    | (with_reducible refine build_f rs_build0 rfl rfl ?_)
    | (with_reducible refine store_fr HK.out 2 (Pf.infoF HZ.out) (Fd.one _) rfl rfl _ _ rfl rfl rfl rfl (Fd.leP HZ.out HZ.out) (Fd.setAllP HZ.out HZ.out) ?_; intro u hk; simp only [List.set_cons_zero, List.set_cons_succ] at hk; clear HK; have HK := Lib.hid hk; clear hk)
    | (with_reducible refine store_fr HK.out 1 (rs_info _ _ _ _) (rs_one _ _ _ _) rfl rfl _ _ rfl rfl rfl rfl (rs_le _ _ _ _ _ _ _ _) (rs_put _ _ _ _ _ _ _ _) ?_; intro u hk; simp only [List.set_cons_zero, List.set_cons_succ] at hk; clear HK; have HK := Lib.hid hk; clear hk))
  exact bodyPost_ret (results_fft rfl Tryz.underlying33 rfl (Pf.infoF HZ.out) Tryz.underlying49 rfl (rs_info _ _ _ _) _ HK.out 2 1 _ rfl rfl rfl rfl rfl) rfl ⟨rfl, HK.out.bel⟩
/-- What Down tells, as plain data. -/
def verB (v : Int) : Bool := decide (1 ≤ v) && decide (v ≤ 3)
def dnErr (v : Int) (p : Pf) : Int := if rightP p = true then (if verB v = true then 0 else 18) else 1
def dP (v : Int) (p : Pf) : Pf := if dnErr v p = 0 then (if v = 1 then (p.setE 0).setH [] else if v = 2 then p.setE 0 else p) else zP
def dE (v : Int) (p : Pf) : Int := if dnErr v p = 0 then (if v = 3 then 0 else p.e) else 0
def dH (v : Int) (p : Pf) : List Ho := if dnErr v p = 0 then (if v = 1 then p.hs else []) else []
theorem dP_full {p : Pf} (hp : p.full) (v : Int) : (dP v p).full := by
  unfold dP; split
  · split
    · exact hp
    · split <;> exact hp
  · exact zP_full
theorem ver_cases {v : Int} (h : verB v = true) : v = 1 ∨ v = 2 ∨ v = 3 := by simp [verB] at h; omega
theorem ver_not {v : Int} (h : verB v = false) : v ≠ 1 ∧ v ≠ 2 ∧ v ≠ 3 := by
  refine ⟨?_, ?_, ?_⟩ <;> (rintro rfl; revert h; decide)
structure Dwn (w : World) (v : Int) (p : Pf) (A1 : Option Addr) (c1 : Nat) (A2 : Option Addr) (c2 : Nat) (u : World) : Prop where
  r1 : Row u A1 (dP v p).hs.length (dP v p).hs
  f1 : Fresh w.heap.size A1 c1 (dP v p).hs
  r2 : Row u A2 (dH v p).length (dH v p)
  f2 : Fresh w.heap.size A2 c2 (dH v p)
  bel : Below w.heap.size w u
theorem down_any (v : Int) (hv : ok64W v) (p : Pf) (hp : p.full) (hN : p.nm.size ≤ 1000) (A : Option Addr) (c : Nat) (w : World) (hd : Row w A p.hs.length p.hs) :
    Calls Tryz.prog 18 #[.int .i64 v, .agg (p.fd A c).cells.toArray] w fun e u => ∃ A1 c1 A2 c2, e = .returned (.tuple #[.agg ((dP v p).fd A1 c1).cells.toArray, .agg (rsc (dE v p) A2 (dH v p).length c2).toArray, .int .i64 (dnErr v p)]) ∧ Dwn w v p A1 c1 A2 c2 u := by
  cases hr : rightP p with
  | false =>
    have e0 : dnErr v p = 1 := by simp [dnErr, hr]
    have e1 : dP v p = zP := by simp [dP, e0]
    have e2 : dE v p = 0 := by simp [dE, e0]
    have e3 : dH v p = [] := by simp [dH, e0]
    refine (down_no p hp hN hr v A c w hd).mono fun e u ⟨he, hb⟩ => ⟨none, 0, none, 0, ?_, ?_, ?_, ?_, ?_, hb⟩
    · rw [e0, e1, e2, e3]; exact he
    · rw [e1]; exact Row.nil _ _
    · rw [e1]; exact Fresh.none0 _
    · rw [e3]; exact Row.nil _ _
    · rw [e3]; exact Fresh.none0 _
  | true =>
    cases hb : verB v with
    | false =>
      have e0 : dnErr v p = 18 := by simp [dnErr, hr, hb]
      have e1 : dP v p = zP := by simp [dP, e0]
      have e2 : dE v p = 0 := by simp [dE, e0]
      have e3 : dH v p = [] := by simp [dH, e0]
      obtain ⟨h1, h2, h3⟩ := ver_not hb
      refine (down_ver p hp hN hr v hv h1 h2 h3 A c w hd).mono fun e u ⟨he, hb⟩ => ⟨none, 0, none, 0, ?_, ?_, ?_, ?_, ?_, hb⟩
      · rw [e0, e1, e2, e3]; exact he
      · rw [e1]; exact Row.nil _ _
      · rw [e1]; exact Fresh.none0 _
      · rw [e3]; exact Row.nil _ _
      · rw [e3]; exact Fresh.none0 _
    | true =>
      have e0 : dnErr v p = 0 := by simp [dnErr, hr, hb]
      rcases ver_cases hb with rfl | rfl | rfl
      · have e1 : dP 1 p = (p.setE 0).setH [] := by simp [dP, e0]
        have e2 : dE 1 p = p.e := by simp [dE, e0]
        have e3 : dH 1 p = p.hs := by simp [dH, e0]
        refine (down_1 p hp hN hr A c w hd).mono fun e u ⟨A1, c1, he, h1, h2, hb⟩ => ⟨none, 0, A1, c1, ?_, ?_, ?_, ?_, ?_, hb⟩
        · rw [e0, e1, e2, e3]; exact he
        · rw [e1]; exact Row.nil _ _
        · rw [e1]; exact Fresh.none0 _
        · rw [e3]; exact h1
        · rw [e3]; exact h2
      · have e1 : dP 2 p = p.setE 0 := by simp [dP, e0]
        have e2 : dE 2 p = p.e := by simp [dE, e0]
        have e3 : dH 2 p = [] := by simp [dH, e0]
        refine (down_2 p hp hN hr A c w hd).mono fun e u ⟨A1, c1, he, h1, h2, hb⟩ => ⟨A1, c1, none, 0, ?_, ?_, ?_, ?_, ?_, hb⟩
        · rw [e0, e1, e2, e3]; exact he
        · rw [e1]; exact h1
        · rw [e1]; exact h2
        · rw [e3]; exact Row.nil _ _
        · rw [e3]; exact Fresh.none0 _
      · have e1 : dP 3 p = p := by simp [dP, e0]
        have e2 : dE 3 p = 0 := by simp [dE, e0]
        have e3 : dH 3 p = [] := by simp [dH, e0]
        refine (down_3 p hp hN hr A c w hd).mono fun e u ⟨A1, c1, he, h1, h2, hb⟩ => ⟨A1, c1, none, 0, ?_, ?_, ?_, ?_, ?_, hb⟩
        · rw [e0, e1, e2, e3]; exact he
        · rw [e1]; exact h1
        · rw [e1]; exact h2
        · rw [e3]; exact Row.nil _ _
        · rw [e3]; exact Fresh.none0 _
end Go.Proofs.YtofngihdnjgmeaaGreat
