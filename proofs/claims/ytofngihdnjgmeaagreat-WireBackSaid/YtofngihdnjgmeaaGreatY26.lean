/- What each format leaves of a field, and what it leaves out: residues in memory; contracts of the functions in wire.sayings' map.; Contracts of field.Counter, Lock, Reserve and Same, of the document's Same, and of the statements' Few.; awake. -/
import Derived.Test.YtofngihdnjgmeaaGreatY01
import Derived.Test.YtofngihdnjgmeaaGreatY07
import Derived.Test.YtofngihdnjgmeaaGreatY09
import Derived.Test.YtofngihdnjgmeaaGreatY11
import Derived.Test.YtofngihdnjgmeaaGreatY12
import Derived.Test.YtofngihdnjgmeaaGreatY18
import Derived.Test.YtofngihdnjgmeaaGreatY21
import Derived.Maps.OwnSet
import Derived.Maps.Views
import Derived.Maps.AppendAt
import Derived.OwnWalk
import Derived.Laws.OwnMore
import Derived.WalkKit
import Derived.ProofKit
import Derived.OpenShut
import Derived.ChangeOld
import Derived.Deep.Slices
import Derived.ChangeSlices
import Derived.Laws.AppendOwn
import Derived.Lib.Hide
import Derived.Deep.RegionHeld3
import Derived.Below
import Derived.Deep.MidRow
import Derived.Deep.QuietTactic
import Derived.BigQuiet
import Derived.Laws.StructEq
import Derived.WalkMore
import Derived.LoopTactic
import Derived.Defers
import Derived.Recover
import Derived.WalkSmall
import Derived.Lib.AppendZeros
import Derived.Deep.OwnRows
import Derived.Lib.SliceRun
import Derived.Shelf.SlSortCmp.WholeK
import Derived.Shelf.SlSortCmp.NoneTotal
namespace Go.Proofs.YtofngihdnjgmeaaGreat
set_option maxRecDepth 100000
open Go.ChangeShapes Go.WideShapes Go.ChangeAt Go.RowKit

/-! ### Residues. -/
def rsc (e : Int) (A : Option Addr) (n c : Nat) : List Value := [.int .i64 e, .slice A n c]
theorem rs_zero : (Tryz.prog.info? 49).bind (·.zero) = some (.agg (rsc 0 none 0 0).toArray) := by kernel_rfl
theorem rs_info (e : Int) (A : Option Addr) (n c : Nat) : (Tryz.prog.info? 49).map (·.size) = some (rsc e A n c).length := by rw [show (rsc e A n c).length = 2 from rfl]; kernel_rfl
theorem rs_one (e : Int) (A : Option Addr) (n c : Nat) : (rsc e A n c).toArray.all (·.oneCell') = true := by simp [rsc, Value.oneCell']
theorem rs_le (e : Int) (A : Option Addr) (n c : Nat) (e' : Int) (A' : Option Addr) (n' c' : Nat) : 0 + (rsc e' A' n' c').length ≤ (rsc e A n c).length := Nat.le_refl 2
theorem rs_put (e : Int) (A : Option Addr) (n c : Nat) (e' : Int) (A' : Option Addr) (n' c' : Nat) : spl (rsc e A n c) 0 (rsc e' A' n' c') = rsc e' A' n' c' := rfl
theorem rs_all {e : Int} {A : Option Addr} {n c : Nat} : ∀ j v, (rsc e A n c)[j]? = some v → (rsc e A n c)[0 + j]? = some v := fun j v h => by rw [Nat.zero_add]; exact h
theorem rs_c0 {e : Int} {A : Option Addr} {n c : Nat} : (rsc e A n c)[0]? = some (.int .i64 e) := rfl
theorem rs_c1 {e : Int} {A : Option Addr} {n c : Nat} : (rsc e A n c)[1]? = some (.slice A n c) := rfl
theorem rs_lt1 {e : Int} {A : Option Addr} {n c : Nat} : 1 < (rsc e A n c).length := show 1 < 2 by decide
theorem rs_set1 {e : Int} {A B : Option Addr} {n c m d : Nat} : (rsc e A n c).set 1 (.slice B m d) = rsc e B m d := rfl
theorem rs_build0 (W : World) : (Instr.build 49 #[]).run Tryz.prog W = .ok (.agg (rsc 0 none 0 0).toArray) W := by kernel_rfl
theorem rs_build1 (e : Int) (W : World) : (Instr.build 49 #[(0, .int .i64 e)]).run Tryz.prog W = .ok (.agg (rsc e none 0 0).toArray) W := by kernel_rfl
section
variable {ops : Array Oper} {rest : List Oper} {o : Oper} {a : Act} {w u : World} {l : List (Nat × TypeId × List Value)} {rows : List (Option Addr × Nat × List Ho)} {Q : Exit → Act → World → Prop}
theorem build_r1 (hgd : o.guard = none) (x : Operand) (ho : o.op = .build 49 #[(0, x)]) {e : Int} (hx : a.eval x = .int .i64 e)
    (h : wpList Tryz.prog ops Q rest (a.put o.dst (.agg (rsc e none 0 0).toArray)) u) : wpList Tryz.prog ops Q (o :: rest) a u :=
  wpList_plain hgd fun K hK => by
    unfold Oper.wp execOp
    simp only [ho, List.map_toArray, List.map_cons, List.map_nil, hx, Sem.run_bind, Sem.run_pure, Result.andThen_ok, rs_build1]
    exact hK _ _ h
theorem KeepF.sub (h : KeepF w l rows u) {l' : List (Nat × TypeId × List Value)} (hs : l'.Sublist l) : KeepF w l' rows u :=
  ⟨h.bel, fun x hx => h.blk x (hs.subset hx), (hs.map Prod.fst).nodup h.apart, h.row, fun r hr x hx => h.free r hr x (hs.subset hx)⟩
theorem results_ff {fn : Func} {p q : Tmp} {ty tz : TypeId} {d e : TypeDesc} {cs ds : List Value} (h : fn.results = #[.cell p ty, .cell q tz]) (hu : Tryz.prog.underlying ty = some d) (hd : d.isRow = true) (hs : (Tryz.prog.info? ty).map (·.size) = some cs.length)
    (hu' : Tryz.prog.underlying tz = some e) (hd' : e.isRow = true) (hs' : (Tryz.prog.info? tz).map (·.size) = some ds.length) (tmps : Array Value) (hk : KeepF w l rows u) (i j : Nat) {b c : Nat}
    (hi : l[i]? = some (b, ty, cs)) (hj : l[j]? = some (c, tz, ds)) (hp : tmps.getD p undef = .pointer (some ⟨b, 0, none⟩)) (hq : tmps.getD q undef = .pointer (some ⟨c, 0, none⟩)) : (results fn tmps).run Tryz.prog u = .ok (.tuple #[.agg cs.toArray, .agg ds.toArray]) u := by
  have hp' : tmps[p]?.getD undef = .pointer (some ⟨b, 0, none⟩) := by simpa using hp
  have hq' : tmps[q]?.getD undef = .pointer (some ⟨c, 0, none⟩) := by simpa using hq
  have hr := run_loadVar_row (P := Tryz.prog) u b _ ty _ (0, 0) _ (hk.get i hi) hu (by cases d <;> simp_all) (by rw [List.size_toArray]; exact hs)
  have hr' := run_loadVar_row (P := Tryz.prog) u c _ tz _ (0, 0) _ (hk.get j hj) hu' (by cases e <;> simp_all) (by rw [List.size_toArray]; exact hs')
  simp [results, h, hp', hq', asAddr, hr, hr']
theorem results_fft {fn : Func} {p q t : Tmp} {ty tz : TypeId} {d e : TypeDesc} {cs ds : List Value} (h : fn.results = #[.cell p ty, .cell q tz, .tmp t]) (hu : Tryz.prog.underlying ty = some d) (hd : d.isRow = true) (hs : (Tryz.prog.info? ty).map (·.size) = some cs.length)
    (hu' : Tryz.prog.underlying tz = some e) (hd' : e.isRow = true) (hs' : (Tryz.prog.info? tz).map (·.size) = some ds.length) (tmps : Array Value) (hk : KeepF w l rows u) (i j : Nat) {b c : Nat} (v : Value)
    (hi : l[i]? = some (b, ty, cs)) (hj : l[j]? = some (c, tz, ds)) (hp : tmps.getD p undef = .pointer (some ⟨b, 0, none⟩)) (hq : tmps.getD q undef = .pointer (some ⟨c, 0, none⟩)) (ht : tmps.getD t undef = v) : (results fn tmps).run Tryz.prog u = .ok (.tuple #[.agg cs.toArray, .agg ds.toArray, v]) u := by
  have hp' : tmps[p]?.getD undef = .pointer (some ⟨b, 0, none⟩) := by simpa using hp
  have hq' : tmps[q]?.getD undef = .pointer (some ⟨c, 0, none⟩) := by simpa using hq
  have ht' : tmps[t]?.getD undef = v := by simpa using ht
  have hr := run_loadVar_row (P := Tryz.prog) u b _ ty _ (0, 0) _ (hk.get i hi) hu (by cases d <;> simp_all) (by rw [List.size_toArray]; exact hs)
  have hr' := run_loadVar_row (P := Tryz.prog) u c _ tz _ (0, 0) _ (hk.get j hj) hu' (by cases e <;> simp_all) (by rw [List.size_toArray]; exact hs')
  simp [results, h, hp', hq', ht', asAddr, hr, hr']
end
theorem Pf.lt2 {p : Pf} {A : Option Addr} {c : Nat} (hp : p.full) : 2 < (p.fd A c).cells.length := by rw [Pf.len hp]; decide
def Pf.setE (p : Pf) (e : Int) : Pf := ⟨p.nm, p.k, e, p.C, p.L, p.hs⟩
theorem Pf.toE' {p : Pf} {A : Option Addr} {c : Nat} (e : Int) : (p.fd A c).cells.set 2 (.int .i64 e) = ((p.setE e).fd A c).cells := rfl
theorem Pf.fullE {p : Pf} (h : p.full) (e : Int) : (p.setE e).full := h
set_option maxHeartbeats 1000000 in
theorem say1_any (p : Pf) (hp : p.full) (A : Option Addr) (c : Nat) (w : World) :
    Calls Tryz.prog 75 #[.agg (p.fd A c).cells.toArray] w fun e w' => e = .returned (.tuple #[.agg ((p.setE 0).fd A c).cells.toArray, .agg (rsc p.e none 0 0).toArray]) ∧ Below w.heap.size w w' := by
  have HK := Lib.hid (KeepF.start (w := w) (rows := []) (by simp))
  have HF := Lib.hid hp; clear hp
  have HG := Lib.hid (Pf.fullE HF.out 0)
  go_enter Tryz.func75, Tryz.ntmps75
  go_wp2_with (first
    | (with_reducible refine box_f HK.out rfl _ rfl rfl ?_; intro b1 u hk; clear HK; have HK := Lib.hid hk; clear hk)
    | (with_reducible refine alloc_f HK.out f_zeroP rfl rfl ?_; intro b2 u hk; clear HK; have HK := Lib.hid hk; clear hk)
    | (with_reducible refine load_f1 HK.out 2 cbI _ rfl rfl rfl rfl Pf.ce ?_)
    | (with_reducible refine build_r1 rfl _ rfl rfl ?_)
    | (with_reducible refine alloc_f (l := [_, _]) HK.out rs_zero rfl rfl ?_; intro b3 u hk; clear HK; have HK := Lib.hid hk; clear hk)
    | (with_reducible refine alloc_f (l := [_, _, _]) HK.out rs_zero rfl rfl ?_; intro b4 u hk; clear HK; have HK := Lib.hid hk; clear hk)
    | (with_reducible refine store_fr HK.out 0 (rs_info _ _ _ _) (rs_one _ _ _ _) rfl rfl _ _ rfl rfl rfl rfl (rs_le _ _ _ _ _ _ _ _) (rs_put _ _ _ _ _ _ _ _) ?_; intro u hk; simp only [List.set_cons_zero] at hk; clear HK; have HK := Lib.hid hk; clear hk)
    | (with_reducible refine store_f1 HK.out 3 cbI rfl rfl _ _ rfl rfl rfl rfl rfl (Pf.lt2 HF.out) (Pf.toE' 0) ?_; intro u hk; simp only [List.set_cons_zero, List.set_cons_succ] at hk; clear HK; have HK := Lib.hid hk; clear hk))
  refine Draws.start (S := fun u => KeepF w [(b4, 49, rsc p.e none 0 0), (b1, 33, ((p.setE 0).fd A c).cells)] [] u) (n := 3) 4 rfl (by kernel_rfl) ?_
  have hk := HK.out.drew
  clear HK; have HK := Lib.hid hk; clear hk
  have HS := Lib.hid (show (fun u => KeepF w [(b4, 49, rsc p.e none 0 0), (b1, 33, ((p.setE 0).fd A c).cells)] [] u) _ from HK.out.sub (by repeat first | exact List.nil_sublist _ | apply List.Sublist.cons_cons | apply List.Sublist.cons))
  refine Draws.take 0 HS.out rfl (by kernel_rfl) (fun _ _ _ h => h) (yield_fr (fun _ h => h) 1 Tryz.underlying33 rfl (Pf.infoF HG.out) _ rfl rfl rfl rfl Pf.all) ?_
  (try simp only [Act.put, List.setIfInBounds_toArray, List.set_cons_zero, List.set_cons_succ])
  refine Draws.take 1 HS.out rfl (by kernel_rfl) (fun _ _ _ h => h) (yield_fr (fun _ h => h) 0 Tryz.underlying49 rfl (rs_info _ _ _ _) _ rfl rfl rfl rfl rs_all) ?_
  (try simp only [Act.put, List.setIfInBounds_toArray, List.set_cons_zero, List.set_cons_succ])
  refine Draws.does 2 rfl (by kernel_rfl) rfl (fun K hK => ?_)
  refine wp_store_fr HK.out 2 (Pf.infoF HG.out) (Fd.one _) rfl _ _ rfl rfl rfl rfl (Fd.leP zP_full HG.out) (Fd.setAllP zP_full HG.out) ?_
  intro u hk _
  simp only [List.set_cons_zero, List.set_cons_succ] at hk
  clear HK; have HK := Lib.hid hk; clear hk
  refine hK.out _ _ (fun _ => HK.out.sub (by repeat first | exact List.nil_sublist _ | apply List.Sublist.cons_cons | apply List.Sublist.cons)) ?_
  clear hK K
  (try simp only [Act.put, List.setIfInBounds_toArray, List.set_cons_zero, List.set_cons_succ])
  refine Draws.does 3 rfl (by kernel_rfl) rfl (fun K hK => ?_)
  refine wp_store_fr HK.out 1 (rs_info _ _ _ _) (rs_one _ _ _ _) rfl _ _ rfl rfl rfl rfl (rs_le _ _ _ _ _ _ _ _) (rs_put _ _ _ _ _ _ _ _) ?_
  intro u hk _
  simp only [List.set_cons_zero, List.set_cons_succ] at hk
  clear HK; have HK := Lib.hid hk; clear hk
  refine hK.out _ _ (fun h => absurd h (by decide)) ?_
  clear hK K
  (try simp only [Act.put, List.setIfInBounds_toArray, List.set_cons_zero, List.set_cons_succ])
  refine Draws.done (by kernel_rfl) ?_
  clear HS
  go_wp2_with fail
  exact bodyPost_ret (results_ff rfl Tryz.underlying33 rfl (Pf.infoF HG.out) Tryz.underlying49 rfl (rs_info _ _ _ _) _ HK.out 2 1 rfl rfl rfl rfl) rfl ⟨rfl, HK.out.bel⟩
set_option maxHeartbeats 1000000 in
theorem say3_any (p : Pf) (hp : p.full) (A : Option Addr) (c : Nat) (w : World) :
    Calls Tryz.prog 77 #[.agg (p.fd A c).cells.toArray] w fun e w' => e = .returned (.tuple #[.agg (p.fd A c).cells.toArray, .agg (rsc 0 none 0 0).toArray]) ∧ Below w.heap.size w w' := by
  have HK := Lib.hid (KeepF.start (w := w) (rows := []) (by simp))
  have HF := Lib.hid hp; clear hp
  go_enter Tryz.func77, Tryz.ntmps77
  go_wp2_with (first
    | (with_reducible refine box_f HK.out rfl _ rfl rfl ?_; intro b1 u hk; clear HK; have HK := Lib.hid hk; clear hk)
    | (with_reducible refine alloc_f HK.out f_zeroP rfl rfl ?_; intro b2 u hk; clear HK; have HK := Lib.hid hk; clear hk)
    | (with_reducible refine alloc_f HK.out rs_zero rfl rfl ?_; intro b3 u hk; clear HK; have HK := Lib.hid hk; clear hk)
    | (with_reducible refine load_fr HK.out 2 Tryz.underlying33 rfl (Pf.infoF HF.out) _ rfl rfl rfl rfl Pf.all ?_)
    | (with_reducible refine build_f rs_build0 rfl rfl ?_)
    | (with_reducible refine store_fr HK.out 1 (Pf.infoF HF.out) (Fd.one _) rfl rfl _ _ rfl rfl rfl rfl (Fd.leP zP_full HF.out) (Fd.setAllP zP_full HF.out) ?_; intro u hk; simp only [List.set_cons_zero, List.set_cons_succ] at hk; clear HK; have HK := Lib.hid hk; clear hk)
    | (with_reducible refine store_fr HK.out 0 (rs_info _ _ _ _) (rs_one _ _ _ _) rfl rfl _ _ rfl rfl rfl rfl (rs_le _ _ _ _ _ _ _ _) (rs_put _ _ _ _ _ _ _ _) ?_; intro u hk; simp only [List.set_cons_zero] at hk; clear HK; have HK := Lib.hid hk; clear hk))
  exact bodyPost_ret (results_ff rfl Tryz.underlying33 rfl (Pf.infoF HF.out) Tryz.underlying49 rfl (rs_info _ _ _ _) _ HK.out 1 0 rfl rfl rfl rfl) rfl ⟨rfl, HK.out.bel⟩
theorem run_load_fn {W : World} {ad : Addr} {v : Value} (hc : W.cell? ad = some v) : (Instr.loadAt 79 (.pointer (some ad))).run Tryz.prog W = .ok v W := by simp [go_sem, hc]
theorem load_fn {ops : Array Oper} {rest : List Oper} {o : Oper} {a : Act} {u : World} {Q : Exit → Act → World → Prop} {ad : Addr} {v : Value} (hc : u.cell? ad = some v) (hgd : o.guard = none) (x : Operand) (ho : o.op = .load 79 x) (hx : a.eval x = .pointer (some ad))
    (h : wpList Tryz.prog ops Q rest (a.put o.dst v) u) : wpList Tryz.prog ops Q (o :: rest) a u :=
  wpList_plain hgd fun K hK => by
    unfold Oper.wp execOp
    simp only [ho, hx, Sem.run_bind, Sem.run_pure, Result.andThen_ok, run_load_fn hc]
    exact hK _ _ h
theorem Pf.toN {p : Pf} {A : Option Addr} {c : Nat} (hp : p.full) : (p.fd A c).cells.set 586 (.slice none 0 0) = ((p.setH []).fd none 0).cells := Pf.toH hp none 0 []
set_option maxHeartbeats 2000000 in
theorem say2_any (p : Pf) (hp : p.full) (A : Option Addr) (c q : Nat) (w : World) (hq : w.cell? ⟨q, 0, none⟩ = some say1) :
    Calls Tryz.prog 76 #[.agg (p.fd A c).cells.toArray, .pointer (some ⟨q, 0, none⟩)] w fun e w' => e = .returned (.tuple #[.agg (((p.setE 0).setH []).fd none 0).cells.toArray, .agg (rsc p.e A p.hs.length c).toArray]) ∧ Below w.heap.size w w' := by
  have HK := Lib.hid (KeepF.start (w := w) (rows := []) (by simp))
  have HF := Lib.hid hp; clear hp
  have HG := Lib.hid (Pf.fullE HF.out 0)
  have HI := Lib.hid (Pf.fullH HG.out [])
  have HQ := Lib.hid (show w.cell? ⟨q, 0, none⟩ = some (.func (.func 75) #[] #[]) from hq); have HL := Lib.hid (cell_lt hq); clear hq
  have hcl := say1_any p HF.out A c
  go_enter Tryz.func76, Tryz.ntmps76
  go_wp2_with (first
    | (with_reducible refine box_f HK.out rfl _ rfl rfl ?_; intro b1 u hk; clear HK; have HK := Lib.hid hk; clear hk)
    | (with_reducible refine alloc_f (l := [_]) HK.out f_zeroP rfl rfl ?_; intro b2 u hk; clear HK; have HK := Lib.hid hk; clear hk)
    | (with_reducible refine alloc_f (l := [_, _]) HK.out rs_zero rfl rfl ?_; intro b3 u hk; clear HK; have HK := Lib.hid hk; clear hk)
    | (with_reducible refine alloc_f (l := [_, _, _]) HK.out f_zeroP rfl rfl ?_; intro b4 u hk; clear HK; have HK := Lib.hid hk; clear hk)
    | (with_reducible refine alloc_f (l := [_, _, _, _]) HK.out rs_zero rfl rfl ?_; intro b5 u hk; clear HK; have HK := Lib.hid hk; clear hk)
    | (with_reducible refine load_fn ((HK.out.bel.cell HL.out).trans HQ.out) rfl _ rfl rfl ?_)
    | (with_reducible refine load_fr HK.out 2 Tryz.underlying33 rfl (Pf.infoF HF.out) _ rfl rfl rfl rfl Pf.all ?_)
    | (go_at_call 75; (with_reducible refine (hcl _).mono ?_); rintro e u ⟨rfl, hb⟩; have hk := HK.out.call hb; clear hb; clear HK; have HK := Lib.hid hk; clear hk)
    | (with_reducible refine store_fr HK.out 1 (Pf.infoF HG.out) (Fd.one _) rfl rfl _ _ rfl rfl rfl rfl (Fd.leP zP_full HG.out) (Fd.setAllP zP_full HG.out) ?_; intro u hk; simp only [List.set_cons_zero, List.set_cons_succ] at hk; clear HK; have HK := Lib.hid hk; clear hk)
    | (with_reducible refine store_fr HK.out 0 (rs_info _ _ _ _) (rs_one _ _ _ _) rfl rfl _ _ rfl rfl rfl rfl (rs_le _ _ _ _ _ _ _ _) (rs_put _ _ _ _ _ _ _ _) ?_; intro u hk; simp only [List.set_cons_zero] at hk; clear HK; have HK := Lib.hid hk; clear hk)
    | (with_reducible refine load_f1 HK.out 1 cbH _ rfl rfl rfl rfl (Pf.cH HG.out) ?_)
    | (with_reducible refine store_f1 HK.out 0 cbH rfl rfl _ _ rfl rfl rfl rfl rfl rs_lt1 rs_set1 ?_; intro u hk; simp only [List.set_cons_zero] at hk; clear HK; have HK := Lib.hid hk; clear hk)
    | (with_reducible refine store_f1 HK.out 1 cbH rfl rfl _ _ rfl rfl rfl rfl rfl (Fd.ltH HG.out) (Pf.toN HG.out) ?_; intro u hk; simp only [List.set_cons_zero, List.set_cons_succ] at hk; clear HK; have HK := Lib.hid hk; clear hk))
  refine Draws.start (S := fun u => KeepF w [(b5, 49, rsc p.e A p.hs.length c), (b4, 33, (((p.setE 0).setH []).fd none 0).cells)] [] u) (n := 3) 4 rfl (by kernel_rfl) ?_
  have hk := HK.out.drew
  clear HK; have HK := Lib.hid hk; clear hk
  have HS := Lib.hid (show (fun u => KeepF w [(b5, 49, rsc p.e A p.hs.length c), (b4, 33, (((p.setE 0).setH []).fd none 0).cells)] [] u) _ from HK.out.sub (by repeat first | exact List.nil_sublist _ | apply List.Sublist.cons_cons | apply List.Sublist.cons))
  refine Draws.take 0 HS.out rfl (by kernel_rfl) (fun _ _ _ h => h) (yield_fr (fun _ h => h) 1 Tryz.underlying33 rfl (Pf.infoF HI.out) _ rfl rfl rfl rfl Pf.all) ?_
  (try simp only [Act.put, List.setIfInBounds_toArray, List.set_cons_zero, List.set_cons_succ])
  refine Draws.take 1 HS.out rfl (by kernel_rfl) (fun _ _ _ h => h) (yield_fr (fun _ h => h) 0 Tryz.underlying49 rfl (rs_info _ _ _ _) _ rfl rfl rfl rfl rs_all) ?_
  (try simp only [Act.put, List.setIfInBounds_toArray, List.set_cons_zero, List.set_cons_succ])
  refine Draws.does 2 rfl (by kernel_rfl) rfl (fun K hK => ?_)
  refine wp_store_fr HK.out 3 (Pf.infoF HI.out) (Fd.one _) rfl _ _ rfl rfl rfl rfl (Fd.leP zP_full HI.out) (Fd.setAllP zP_full HI.out) ?_
  intro u hk _
  simp only [List.set_cons_zero, List.set_cons_succ] at hk
  clear HK; have HK := Lib.hid hk; clear hk
  refine hK.out _ _ (fun _ => HK.out.sub (by repeat first | exact List.nil_sublist _ | apply List.Sublist.cons_cons | apply List.Sublist.cons)) ?_
  clear hK K
  (try simp only [Act.put, List.setIfInBounds_toArray, List.set_cons_zero, List.set_cons_succ])
  refine Draws.does 3 rfl (by kernel_rfl) rfl (fun K hK => ?_)
  refine wp_store_fr HK.out 2 (rs_info _ _ _ _) (rs_one _ _ _ _) rfl _ _ rfl rfl rfl rfl (rs_le _ _ _ _ _ _ _ _) (rs_put _ _ _ _ _ _ _ _) ?_
  intro u hk _
  simp only [List.set_cons_zero, List.set_cons_succ] at hk
  clear HK; have HK := Lib.hid hk; clear hk
  refine hK.out _ _ (fun h => absurd h (by decide)) ?_
  clear hK K
  (try simp only [Act.put, List.setIfInBounds_toArray, List.set_cons_zero, List.set_cons_succ])
  refine Draws.done (by kernel_rfl) ?_
  clear HS
  go_wp2_with fail
  exact bodyPost_ret (results_ff rfl Tryz.underlying33 rfl (Pf.infoF HI.out) Tryz.underlying49 rfl (rs_info _ _ _ _) _ HK.out 3 2 rfl rfl rfl rfl) rfl ⟨rfl, HK.out.bel⟩
end Go.Proofs.YtofngihdnjgmeaaGreat

namespace Go.Proofs.YtofngihdnjgmeaaGreat
set_option maxRecDepth 100000
open Go.ChangeShapes Go.WideShapes Go.ChangeAt Go.RowKit

/-! ### Fields that are built. -/
theorem fold_spl' : ∀ (zs Z : List Value) (off k : Nat), (zs.zipIdx k).foldl (fun cs x => match x with | (c, j) => cs.setIfInBounds (off + j) c) Z.toArray = (spl Z (off + k) zs).toArray
  | [], Z, off, k => rfl
  | z :: zs, Z, off, k => by
    have h := fold_spl' zs (Z.set (off + k) z) off (k + 1)
    rw [List.zipIdx_cons, List.foldl_cons, spl, Nat.add_assoc, ← h]
    simp
theorem fold_spl (zs Z : List Value) (off : Nat) : zs.toArray.zipIdx.foldl (fun cs x => match x with | (c, j) => cs.setIfInBounds (off + j) c) Z.toArray = (spl Z off zs).toArray := by
  have h := fold_spl' zs Z off 0
  rw [Nat.add_zero] at h
  rw [← h]
  simp
theorem fields6n {fs : List Field} {x1 x2 x3 x4 x5 x6 : TypeId × Nat × String} (h : fs.map (fun f => (f.type, f.offset, f.name)) = [x1, x2, x3, x4, x5, x6]) : ∃ f1 f2 f3 f4 f5 f6, fs = [f1, f2, f3, f4, f5, f6] ∧ (f1.type, f1.offset, f1.name) = x1 ∧ (f2.type, f2.offset, f2.name) = x2 ∧ (f3.type, f3.offset, f3.name) = x3 ∧ (f4.type, f4.offset, f4.name) = x4 ∧ (f5.type, f5.offset, f5.name) = x5 ∧ (f6.type, f6.offset, f6.name) = x6 := by
  match fs, h with
  | [f1, f2, f3, f4, f5, f6], h => exact ⟨f1, f2, f3, f4, f5, f6, rfl, by simpa using h⟩
theorem f_fields : (Tryz.prog.fieldsOf 33).toList.map (fun f => (f.type, f.offset, f.name)) = [(9, 0, "Name"), (3, 1, "Kind"), (3, 2, "Epoch"), (28, 3, "Counter"), (30, 582, "Lock"), (31, 586, "Holds")] := by kernel_rfl
theorem f_under : Tryz.prog.underlying 33 = some (.struct (Tryz.prog.fieldsOf 33)) := by kernel_rfl
theorem sz_s (w : World) : (sizeOf 9).run Tryz.prog w = .ok 1 w := by kernel_rfl
theorem sz_i (w : World) : (sizeOf 3).run Tryz.prog w = .ok 1 w := by kernel_rfl
theorem sz_c (w : World) : (sizeOf 28).run Tryz.prog w = .ok 579 w := by kernel_rfl
theorem sz_l (w : World) : (sizeOf 30).run Tryz.prog w = .ok 4 w := by kernel_rfl
theorem sz_h (w : World) : (sizeOf 31).run Tryz.prog w = .ok 1 w := by kernel_rfl
theorem spl_len : ∀ (zs Z : List Value) (o : Nat), (spl Z o zs).length = Z.length
  | [], _, _ => rfl
  | z :: zs, Z, o => by rw [spl, spl_len zs]; simp
theorem fill_one (pl : Nat → Option (Nat × Nat)) (Z cs : List Value) (v : Value) (i off n : Nat) (rest : List (Nat × Value)) (hp : pl i = some (off, n)) (hv : v.cells = cs.toArray) (hn : cs.length = n) (hl : off + n ≤ Z.length) :
    Instr.fill pl Z.toArray ((i, v) :: rest) = Instr.fill pl (spl Z off cs).toArray rest := by
  rw [Instr.fill, hp]
  simp only [hv, List.size_toArray, hn]
  rw [if_neg (by simp; omega), fold_spl]
theorem run_build_fields (parts : List (Nat × Value)) (cs : List Value) (h : Instr.fill ([(0, 1), (1, 1), (2, 1), (3, 579), (582, 4), (586, 1)][·]?) (zP.fd none 0).cells.toArray parts = some cs.toArray) (u : World) :
    (Instr.build 33 parts.toArray).run Tryz.prog u = .ok (.agg cs.toArray) u := by
  obtain ⟨i0, hi0, hz⟩ : ∃ i, Tryz.prog.info? 33 = some i ∧ i.zero = some (.agg (zP.fd none 0).cells.toArray) := by
    have := f_zeroP
    cases hq : Tryz.prog.info? 33 with
    | none => rw [hq] at this; cases this
    | some i => rw [hq] at this; exact ⟨i, rfl, this⟩
  obtain ⟨f1, f2, f3, f4, f5, f6, hf, e1, e2, e3, e4, e5, e6⟩ := fields6n f_fields
  injection e1 with e1a e1; injection e1 with e1b e1c
  injection e2 with e2a e2; injection e2 with e2b e2c
  injection e3 with e3a e3; injection e3 with e3b e3c
  injection e4 with e4a e4; injection e4 with e4b e4c
  injection e5 with e5a e5; injection e5 with e5b e5c
  injection e6 with e6a e6; injection e6 with e6b e6c
  have hf' : Tryz.prog.fieldsOf 33 = #[f1, f2, f3, f4, f5, f6] := by
    apply Array.toList_inj.1; rw [hf]
  have hu := f_under
  rw [hf'] at hu
  have s1 := sz_s; have s2 := sz_i; have s3 := sz_c; have s4 := sz_l; have s5 := sz_h
  simp [Instr.build, zeroValue, typeInfo, hi0, hz, run_underlying hu, Value.cells, e1a, e1b, e2a, e2b, e3a, e3b, e4a, e4b, e5a, e5b, e6a, e6b, s1, s2, s3, s4, s5]
  rw [h]
  simp
theorem fb_counter (s : ByteArray) (C : List Int) (hC : C.length = 579) (u : World) : (Instr.build 33 #[(0, .string s), (1, .int .i64 1), (3, .agg (vals C).toArray)]).run Tryz.prog u = .ok (.agg ((Pf.fd ⟨s, 1, 0, C, zL, []⟩ none 0).cells.toArray)) u := by
  refine run_build_fields [(0, .string s), (1, .int .i64 1), (3, .agg (vals C).toArray)] _ ?_ u
  rw [fill_one _ _ [.string s] _ 0 0 1 _ rfl rfl rfl (by rw [Pf.len zP_full]; omega), fill_one _ _ [.int .i64 1] _ 1 1 1 _ rfl rfl rfl (by rw [spl_len, Pf.len zP_full]; omega),
    fill_one _ _ (vals C) _ 3 3 579 _ rfl rfl (by rw [vals_length, hC]) (by rw [spl_len, spl_len, Pf.len zP_full]; omega)]
  exact congrArg some (congrArg List.toArray (Pf.toC (p := ⟨s, 1, 0, zer 579, zL, []⟩) (A := none) (c := 0) (zer_length 579) hC))
section
variable {ops : Array Oper} {rest : List Oper} {o : Oper} {a : Act} {u w : World} {Q : Exit → Act → World → Prop} {l : List (Nat × TypeId × List Value)} {rows : List (Option Addr × Nat × List Ho)} {K : Act → World → Prop}
theorem build_fc (hgd : o.guard = none) (x y : Operand) (z : Operand) (ho : o.op = .build 33 #[(0, x), (1, z), (3, y)]) {s : ByteArray} {C : List Int} (hC : C.length = 579) (hx : a.eval x = .string s) (hz : a.eval z = .int .i64 1) (hy : a.eval y = .agg (vals C).toArray)
    (h : wpList Tryz.prog ops Q rest (a.put o.dst (.agg ((Pf.fd ⟨s, 1, 0, C, zL, []⟩ none 0).cells.toArray))) u) : wpList Tryz.prog ops Q (o :: rest) a u :=
  wpList_plain hgd fun K hK => by
    unfold Oper.wp execOp
    simp only [ho, List.map_toArray, List.map_cons, List.map_nil, hx, hy, hz, Sem.run_bind, Sem.run_pure, Result.andThen_ok, fb_counter s C hC]
    exact hK _ _ h
end
/-! ### New fields. -/
theorem full_ct {s : ByteArray} {D : List Int} (h : D.length = 579) : Pf.full ⟨s, 1, 0, D, zL, []⟩ := h
set_option maxHeartbeats 1000000 in
theorem fcounter_any (s : ByteArray) (hs : s.size ≤ 1000) (i l h : Int) (w : World) :
    Calls Tryz.prog 21 #[.string s, .int .i64 i, .int .i64 l, .int .i64 h] w fun e w' => e = .returned (.tuple #[.agg ((ctP s i l h).fd none 0).cells.toArray, .int .i64 (ctPE s i l h)]) ∧ Below w.heap.size w w' := by
  have HK := Lib.hid (KeepF.start (w := w) (rows := []) (by simp))
  have hnm := fname_any s hs
  cases h1 : nameB s with
  | false =>
    rw [h1] at hnm
    rw [show ctPE s i l h = 1 by simp [ctPE, h1], show ctP s i l h = zP by simp [ctP, ctPE, h1, toldP]]
    go_enter Tryz.func21, Tryz.ntmps21
    go_wp2_with (first
      | (with_reducible refine alloc_f HK.out f_zeroP rfl rfl ?_; intro br u hk; clear HK; have HK := Lib.hid hk; clear hk)
      | (go_at_call 52; (with_reducible refine (hnm _).mono ?_); rintro e u ⟨rfl, hb⟩; have hk := HK.out.call hb; clear hb; clear HK; have HK := Lib.hid hk; clear hk)
      | (with_reducible refine build_f f_buildP rfl rfl ?_)
      | (with_reducible refine store_fr HK.out 0 (Pf.infoF zP_full) (Fd.one _) rfl rfl _ _ rfl rfl rfl rfl (Fd.leP zP_full zP_full) (Fd.setAllP zP_full zP_full) ?_; intro u hk; simp only [List.set_cons_zero] at hk; clear HK; have HK := Lib.hid hk; clear hk))
    exact bodyPost_ret (results_f2 rfl Tryz.underlying33 rfl (Pf.infoF zP_full) _ HK.out 0 _ rfl rfl rfl) rfl ⟨rfl, HK.out.bel⟩
  | true =>
    rw [h1] at hnm
    have hcl := new_any i l h
    have HA := Lib.hid (newA_length i l h)
    rw [show ctPE s i l h = newE i l h by simp [ctPE, h1], show ctP s i l h = toldP ⟨s, 1, 0, newA i l h, zL, []⟩ (newE i l h) by simp [ctP, ctPE, h1]]
    generalize newA i l h = D at hcl HA ⊢
    generalize newE i l h = E at hcl ⊢
    by_cases h0 : E = 0
    · subst h0
      rw [toldP_0]
      go_enter Tryz.func21, Tryz.ntmps21
      go_wp2_with (first
        | (with_reducible refine alloc_f HK.out f_zeroP rfl rfl ?_; intro br u hk; clear HK; have HK := Lib.hid hk; clear hk)
        | (go_at_call 52; (with_reducible refine (hnm _).mono ?_); rintro e u ⟨rfl, hb⟩; have hk := HK.out.call hb; clear hb; clear HK; have HK := Lib.hid hk; clear hk)
        | (go_at_call 53; (with_reducible refine (hcl _).mono ?_); rintro e u ⟨rfl, hb⟩; have hk := HK.out.call hb; clear hb; clear HK; have HK := Lib.hid hk; clear hk)
        | (with_reducible refine alloc_f HK.out c_zeroF rfl rfl ?_; intro bd u hk; clear HK; have HK := Lib.hid hk; clear hk)
        | (with_reducible refine store_fr HK.out 0 (infoC HA.out) (vals_all _) rfl rfl _ _ rfl rfl rfl rfl (putC_le (zer_length 579) HA.out) (putC ((zer_length 579).trans HA.out.symm)) ?_; intro u hk; simp only [List.set_cons_zero] at hk; clear HK; have HK := Lib.hid hk; clear hk)
        | (with_reducible refine load_fr HK.out 0 Tryz.underlying28 rfl (infoC HA.out) _ rfl rfl rfl rfl (infoCl HA.out) ?_)
        | (with_reducible refine build_fc rfl _ _ _ rfl HA.out rfl rfl rfl ?_)
        | (with_reducible refine store_fr HK.out 1 (Pf.infoF (full_ct HA.out)) (Fd.one _) rfl rfl _ _ rfl rfl rfl rfl (Fd.leP zP_full (full_ct HA.out)) (Fd.setAllP zP_full (full_ct HA.out)) ?_; intro u hk; simp only [List.set_cons_zero, List.set_cons_succ] at hk; clear HK; have HK := Lib.hid hk; clear hk))
      exact bodyPost_ret (results_f2 rfl Tryz.underlying33 rfl (Pf.infoF (full_ct HA.out)) _ HK.out 1 _ rfl rfl rfl) rfl ⟨rfl, HK.out.bel⟩
    · rw [toldP_n _ h0]
      have d0 : (E != 0) = true := by simpa using h0
      go_enter Tryz.func21, Tryz.ntmps21
      go_wp2_with (first
        | (with_reducible refine alloc_f HK.out f_zeroP rfl rfl ?_; intro br u hk; clear HK; have HK := Lib.hid hk; clear hk)
        | (go_at_call 52; (with_reducible refine (hnm _).mono ?_); rintro e u ⟨rfl, hb⟩; have hk := HK.out.call hb; clear hb; clear HK; have HK := Lib.hid hk; clear hk)
        | (go_at_call 53; (with_reducible refine (hcl _).mono ?_); rintro e u ⟨rfl, hb⟩; have hk := HK.out.call hb; clear hb; clear HK; have HK := Lib.hid hk; clear hk)
        | (with_reducible refine alloc_f HK.out c_zeroF rfl rfl ?_; intro bd u hk; clear HK; have HK := Lib.hid hk; clear hk)
        | (with_reducible refine store_fr HK.out 0 (infoC HA.out) (vals_all _) rfl rfl _ _ rfl rfl rfl rfl (putC_le (zer_length 579) HA.out) (putC ((zer_length 579).trans HA.out.symm)) ?_; intro u hk; simp only [List.set_cons_zero] at hk; clear HK; have HK := Lib.hid hk; clear hk)
        | (with_reducible refine build_f f_buildP rfl rfl ?_)
        | (with_reducible refine store_fr HK.out 1 (Pf.infoF zP_full) (Fd.one _) rfl rfl _ _ rfl rfl rfl rfl (Fd.leP zP_full zP_full) (Fd.setAllP zP_full zP_full) ?_; intro u hk; simp only [List.set_cons_zero, List.set_cons_succ] at hk; clear HK; have HK := Lib.hid hk; clear hk))
      exact bodyPost_ret (results_f2 rfl Tryz.underlying33 rfl (Pf.infoF zP_full) _ HK.out 1 _ rfl rfl rfl) rfl ⟨rfl, HK.out.bel⟩
theorem alloc_fi {ops : Array Oper} {rest : List Oper} {o : Oper} {a : Act} {w u : World} {l : List (Nat × TypeId × List Value)} {rows : List (Option Addr × Nat × List Ho)} {Q : Exit → Act → World → Prop} (hk : KeepF w l rows u) (hgd : o.guard = none) (ho : o.op = .alloc 3)
    (h : ∀ b u', KeepF w ((b, 3, [.int .i64 0]) :: l) rows u' → wpList Tryz.prog ops Q rest (a.put o.dst (.pointer (some ⟨b, 0, none⟩))) u') : wpList Tryz.prog ops Q (o :: rest) a u :=
  wpList_plain hgd fun K hK => by
    have e : (Instr.alloc 3 true (.tuple #[])).run Tryz.prog u = .ok (.pointer (some ⟨u.heap.size, 0, none⟩)) (u.alloc (.cells [.int .i64 0].toArray 3)) := by
      obtain ⟨i0, hi0, hz0, hz1, hz2⟩ := info_parts i_info3
      simp [Instr.alloc, zeroValue, typeInfo, hi0, hz0, newVar, newRow, newObj, Value.cells]
      rfl
    unfold Oper.wp execOp
    simp only [ho, Sem.run_bind, Sem.run_pure, Result.andThen_ok, e]
    exact hK _ _ (h _ _ (hk.new rfl))
set_option maxHeartbeats 1000000 in
theorem freserve_any (p : Pf) (hp : p.full) (A : Option Addr) (c : Nat) (k a d : Int) (w : World) (hd : Row w A p.hs.length p.hs) :
    Calls Tryz.prog 22 #[.agg (p.fd A c).cells.toArray, .int .i64 k, .int .i64 a, .int .i64 d] w fun e w' => ∃ A1 c1, e = .returned (.tuple #[.agg ((resP p k a d).fd A1 c1).cells.toArray, .int .i64 (resPN p k a d), .int .i64 (resPE p k a d)]) ∧ Got w A p.hs.length w' A1 c1 (resP p k a d).hs ∧ Below w.heap.size w w' := by
  have hmf : ∀ (fn : Fn) (first cap : Array Value) (w : World), (Instr.makeFunc fn first cap).run Tryz.prog w = .ok (.func fn first cap) w := fun _ _ _ _ => rfl
  have HK := Lib.hid (KeepF.start (w := w) (rows := [(A, p.hs.length, p.hs)]) (by simpa using hd))
  have HF := Lib.hid hp; clear hp
  have HP := Lib.hid (resP_full HF.out k a d)
  go_enter Tryz.func22, Tryz.ntmps22
  go_wp2_with (first
    | (with_reducible refine box_f HK.out rfl _ rfl rfl ?_; intro b u hk; clear HK; have HK := Lib.hid hk; clear hk)
    | (with_reducible refine box_fi HK.out rfl _ rfl rfl ?_; intro bi u hk; clear HK; have HK := Lib.hid hk; clear hk)
    | (with_reducible refine alloc_f HK.out f_zeroP rfl rfl ?_; intro br u hk; clear HK; have HK := Lib.hid hk; clear hk)
    | (with_reducible refine alloc_fi HK.out rfl rfl ?_; intro bm u hk; clear HK; have HK := Lib.hid hk; clear hk)
    | (with_reducible refine store_f1 HK.out 0 cbI rfl rfl _ _ rfl rfl rfl rfl rfl (by decide) rfl ?_; intro u hk; simp only [List.set_cons_zero] at hk; clear HK; have HK := Lib.hid hk; clear hk)
    | (with_reducible refine load_fr HK.out 5 Tryz.underlying33 rfl (Pf.infoF HF.out) _ rfl rfl rfl rfl Pf.all ?_)
    | (go_at_call 54; (with_reducible refine (ch_reserve p HF.out k a d 4 rfl 3 rfl 2 rfl 0 rfl (by decide) (by decide) (by decide) 0 rfl HK.out).mono ?_); rintro e u ⟨A1, c1, rfl, hk, hf⟩; simp only [List.set_cons_zero] at hk; have HX := Lib.hid hf; clear hf; clear HK; have HK := Lib.hid hk; clear hk)
    | (with_reducible refine store_fr HK.out 5 (Pf.infoF HP.out) (Fd.one _) rfl rfl _ _ rfl rfl rfl rfl (Fd.leP HF.out HP.out) (Fd.setAllP HF.out HP.out) ?_; intro u hk; simp only [List.set_cons_zero, List.set_cons_succ] at hk; clear HK; have HK := Lib.hid hk; clear hk))
  refine Draws.start (S := fun u : World => u.cell? ⟨bm, 0, none⟩ = some (.int .i64 (resPN p k a d))) (n := 5) 6 rfl (by kernel_rfl) ?_
  have hk := HK.out.drew
  clear HK; have HK := Lib.hid hk; clear hk
  have HS := Lib.hid (show (fun u : World => u.cell? ⟨bm, 0, none⟩ = some (.int .i64 (resPN p k a d))) _ from HK.out.cellAt 0 rfl rfl)
  refine Draws.take 1 HS.out rfl (by kernel_rfl) (fun _ _ _ h => h) (yield_c cbI (fun _ h => h) _ rfl rfl rfl) ?_
  (try simp only [Act.put, List.setIfInBounds_toArray, List.set_cons_zero, List.set_cons_succ])
  refine Draws.take 2 (v := ?v1) HS.out rfl (by kernel_rfl) (fun _ _ _ h => h) (Or.inl ⟨rfl, ?h1⟩) ?r1
  case h1 => intro w' hw'; go_simp; (try with_reducible rfl)
  (try simp only [Act.put, List.setIfInBounds_toArray, List.set_cons_zero, List.set_cons_succ])
  refine Draws.does 0 rfl (by kernel_rfl) rfl (fun K hK => ?_)
  refine wp_load_fr HK.out 5 Tryz.underlying33 rfl (Pf.infoF HP.out) _ rfl rfl rfl Pf.all ?_
  refine hK.out _ _ (fun _ => HS.out) ?_
  clear hK K
  (try simp only [Act.put, List.setIfInBounds_toArray, List.set_cons_zero, List.set_cons_succ])
  refine Draws.does 3 rfl (by kernel_rfl) rfl (fun K hK => ?_)
  refine wp_store_fr HK.out 1 (Pf.infoF HP.out) (Fd.one _) rfl _ _ rfl rfl rfl rfl (Fd.leP zP_full HP.out) (Fd.setAllP zP_full HP.out) ?_
  intro u hk he; clear he; simp only [List.set_cons_zero, List.set_cons_succ] at hk; clear HK; have HK := Lib.hid hk; clear hk
  refine hK.out _ _ (fun _ => HK.out.cellAt 0 rfl rfl) ?_
  clear hK K
  have hs : (fun u : World => u.cell? ⟨bm, 0, none⟩ = some (.int .i64 (resPN p k a d))) u := HK.out.cellAt 0 rfl rfl
  clear HS
  have HS := Lib.hid hs; clear hs
  (try simp only [Act.put, List.setIfInBounds_toArray, List.set_cons_zero, List.set_cons_succ])
  refine Draws.does 4 rfl (by kernel_rfl) rfl (fun K hK => ?_)
  go_simp
  refine hK.out _ _ (fun _ => HS.out) ?_
  clear hK K
  (try simp only [Act.put, List.setIfInBounds_toArray, List.set_cons_zero, List.set_cons_succ])
  refine Draws.does 5 rfl (by kernel_rfl) rfl (fun K hK => ?_)
  go_simp
  refine hK.out _ _ (fun h => absurd h (by decide)) ?_
  clear hK K
  (try simp only [Act.put, List.setIfInBounds_toArray, List.set_cons_zero, List.set_cons_succ])
  refine Draws.done (by kernel_rfl) ?_
  clear HS
  go_wp2
  exact bodyPost_ret (results_f3 rfl Tryz.underlying33 rfl (Pf.infoF HP.out) _ HK.out 1 _ _ rfl rfl rfl rfl) rfl ⟨A1, c1, rfl, Got.of (HK.out.rowAt 0 rfl) HX.out, HK.out.bel⟩
end Go.Proofs.YtofngihdnjgmeaaGreat

namespace Go.Proofs.YtofngihdnjgmeaaGreat
set_option maxRecDepth 100000
open Go.ChangeShapes Go.WideShapes Go.ChangeAt Go.RowKit

/-! ### awake. -/
def af1 : Pf := ⟨⟨#[97]⟩, 1, 0, newC 5 0 10, zL, []⟩
def af2 : Pf := af1.setH [⟨0, 1, 3, 9, 1⟩]
theorem af_1 : ctP ⟨#[97]⟩ 5 0 10 = af1 ∧ ctPE ⟨#[97]⟩ 5 0 10 = 0 := by
  have e1 : nameB ⟨#[97]⟩ = true := by decide +kernel
  have e2 : newB 5 0 10 = true := by decide +kernel
  have e : ctPE ⟨#[97]⟩ 5 0 10 = 0 := by simp [ctPE, e1, newE, e2]
  exact ⟨by rw [ctP, e, toldP_0]; simp [newA, e2, af1], e⟩
theorem af1_k : af1.k = 1 := rfl
theorem af1_l : looseP af1 0 = 5 := by decide +kernel
theorem af_2a : resE [] 0 3 9 = 0 ∧ resN [] 0 3 9 = 1 ∧ resL [] 0 3 9 = [⟨0, 1, 3, 9, 1⟩] := by
  refine ⟨by decide +kernel, by decide +kernel, by rw [resL, if_pos (by decide +kernel)]; rfl⟩
theorem af_2 : resP af1 0 3 9 = af2 ∧ resPN af1 0 3 9 = 1 ∧ resPE af1 0 3 9 = 0 := by
  obtain ⟨h1, h2, h3⟩ := af_2a
  have hl := af1_l
  have e : resPE af1 0 3 9 = 0 := by rw [resPE, if_pos af1_k, hl, if_neg (by decide)]; exact h1
  exact ⟨by rw [resP, e, toldP_0, resPH, hl, if_neg (by decide), show af1.hs = [] from rfl, h3]; rfl, by rw [resPN, if_pos af1_k, hl, if_neg (by decide)]; exact h2, e⟩
theorem af1_full : af1.full := newC_length 5 0 10
theorem af2_full : af2.full := newC_length 5 0 10
theorem afc_1 (w : World) : Calls Tryz.prog 21 #[.string ⟨#[97]⟩, .int .i64 5, .int .i64 0, .int .i64 10] w fun e w' => e = .returned (.tuple #[.agg (af1.fd none 0).cells.toArray, .int .i64 0]) ∧ Below w.heap.size w w' := by
  have := fcounter_any ⟨#[97]⟩ (by decide) 5 0 10 w
  rwa [af_1.1, af_1.2] at this
theorem afc_2 (A : Option Addr) (c : Nat) (w : World) (hd : Row w A 0 []) : Calls Tryz.prog 22 #[.agg (af1.fd A c).cells.toArray, .int .i64 0, .int .i64 3, .int .i64 9] w fun e w' => ∃ A1 c1, e = .returned (.tuple #[.agg (af2.fd A1 c1).cells.toArray, .int .i64 1, .int .i64 0]) ∧ Got w A 0 w' A1 c1 [⟨0, 1, 3, 9, 1⟩] ∧ Below w.heap.size w w' := by
  have := freserve_any af1 af1_full A c 0 3 9 w hd
  rwa [af_2.1, af_2.2.1, af_2.2.2] at this
end Go.Proofs.YtofngihdnjgmeaaGreat
