/- Contracts of the document's Add, Hand, Write, Pass, Reserve, End and Expire of fields, with layer 5's Write and Pass. Contracts of field.Counter, Lock, Reserve and Same, of the document's Same, and of the statements' Few. Contracts of field.Same and the document's Same of fields that are the same. -/
import Derived.Test.YtofngihdnjgmeaaLFg
namespace Go.Proofs.Ytofngihdnjgmeaa
set_option maxRecDepth 100000
open Go.ChangeShapes Go.WideShapes Go.ChangeAt Go.RowKit

/-! ### Locks. -/
theorem Lk.f1 (a : Lk) : (vals a.l)[1]? = some (.int .i64 a.v) := rfl
theorem Lk.f2 (a : Lk) : (vals a.l)[2]? = some (.int .i64 a.h) := rfl
theorem Lk.f3 (a : Lk) : (vals a.l)[3]? = some (.int .i64 a.x) := rfl
/-! ### Fields. -/
theorem Pf.fullH {p : Pf} (h : p.full) (R : List Ho) : (p.setH R).full := h
theorem infoCl {D : List Int} (_h : D.length = 579) : ∀ j v, (vals D)[j]? = some v → (vals D)[0 + j]? = some v := fun j v h => by rw [Nat.zero_add]; exact h
theorem c_zeroF : (Try.prog.info? 28).bind (·.zero) = some (.agg (vals (zer 579)).toArray) := c_zero
theorem putC {C D : List Int} (h : C.length = D.length) : spl (vals C) 0 (vals D) = vals D := by
  have := spl_mid (vals D) (vals C) [] [] (by rw [vals_length, vals_length, h])
  simpa using this
theorem putC_le {C D : List Int} (hC : C.length = 579) (hD : D.length = 579) : 0 + (vals D).length ≤ (vals C).length := by rw [vals_length, vals_length, hC, hD]; decide
end Go.Proofs.Ytofngihdnjgmeaa

namespace Go.Proofs.Ytofngihdnjgmeaa
set_option maxRecDepth 100000
open Go.ChangeShapes Go.WideShapes Go.ChangeAt Go.RowKit

/-! ### Fields that are built. -/
theorem fold_spl' : ∀ (zs Z : List Value) (off k : Nat), (zs.zipIdx k).foldl (fun cs x => match x with | (c, j) => cs.setIfInBounds (off + j) c) Z.toArray = (spl Z (off + k) zs).toArray
  | [], Z, off, k => rfl
  | z :: zs, Z, off, k => by
    have h := fold_spl' zs (Z.set (off + k) z) off (k + 1)
    rw [List.zipIdx_cons, List.foldl_cons, spl, Nat.add_assoc, ← h]
    simp
theorem fold_spl (zs Z : List Value) (off : Nat) : zs.toArray.zipIdx.foldl (fun cs x => match x with | (c, j) => cs.setIfInBounds (off + j) c) Z.toArray = (spl Z off zs).toArray := by
  have h := fold_spl' zs Z off 0
  rw [Nat.add_zero] at h
  rw [← h]
  simp
theorem fields6n {fs : List Field} {x1 x2 x3 x4 x5 x6 : TypeId × Nat × String} (h : fs.map (fun f => (f.type, f.offset, f.name)) = [x1, x2, x3, x4, x5, x6]) : ∃ f1 f2 f3 f4 f5 f6, fs = [f1, f2, f3, f4, f5, f6] ∧ (f1.type, f1.offset, f1.name) = x1 ∧ (f2.type, f2.offset, f2.name) = x2 ∧ (f3.type, f3.offset, f3.name) = x3 ∧ (f4.type, f4.offset, f4.name) = x4 ∧ (f5.type, f5.offset, f5.name) = x5 ∧ (f6.type, f6.offset, f6.name) = x6 := by
  match fs, h with
  | [f1, f2, f3, f4, f5, f6], h => exact ⟨f1, f2, f3, f4, f5, f6, rfl, by simpa using h⟩
theorem f_fields : (Try.prog.fieldsOf 33).toList.map (fun f => (f.type, f.offset, f.name)) = [(9, 0, "Name"), (3, 1, "Kind"), (3, 2, "Epoch"), (28, 3, "Counter"), (30, 582, "Lock"), (31, 586, "Holds")] := by kernel_rfl
theorem f_under : Try.prog.underlying 33 = some (.struct (Try.prog.fieldsOf 33)) := by kernel_rfl
theorem sz_s (w : World) : (sizeOf 9).run Try.prog w = .ok 1 w := by kernel_rfl
theorem sz_i (w : World) : (sizeOf 3).run Try.prog w = .ok 1 w := by kernel_rfl
theorem sz_c (w : World) : (sizeOf 28).run Try.prog w = .ok 579 w := by kernel_rfl
theorem sz_l (w : World) : (sizeOf 30).run Try.prog w = .ok 4 w := by kernel_rfl
theorem sz_h (w : World) : (sizeOf 31).run Try.prog w = .ok 1 w := by kernel_rfl
theorem spl_len : ∀ (zs Z : List Value) (o : Nat), (spl Z o zs).length = Z.length
  | [], _, _ => rfl
  | z :: zs, Z, o => by rw [spl, spl_len zs]; simp
theorem fill_one (pl : Nat → Option (Nat × Nat)) (Z cs : List Value) (v : Value) (i off n : Nat) (rest : List (Nat × Value)) (hp : pl i = some (off, n)) (hv : v.cells = cs.toArray) (hn : cs.length = n) (hl : off + n ≤ Z.length) :
    Instr.fill pl Z.toArray ((i, v) :: rest) = Instr.fill pl (spl Z off cs).toArray rest := by
  rw [Instr.fill, hp]
  simp only [hv, List.size_toArray, hn]
  rw [if_neg (by simp; omega), fold_spl]
theorem run_build_fields (parts : List (Nat × Value)) (cs : List Value) (h : Instr.fill ([(0, 1), (1, 1), (2, 1), (3, 579), (582, 4), (586, 1)][·]?) (zP.fd none 0).cells.toArray parts = some cs.toArray) (u : World) :
    (Instr.build 33 parts.toArray).run Try.prog u = .ok (.agg cs.toArray) u := by
  obtain ⟨i0, hi0, hz⟩ : ∃ i, Try.prog.info? 33 = some i ∧ i.zero = some (.agg (zP.fd none 0).cells.toArray) := by
    have := f_zeroP
    cases hq : Try.prog.info? 33 with
    | none => rw [hq] at this; cases this
    | some i => rw [hq] at this; exact ⟨i, rfl, this⟩
  obtain ⟨f1, f2, f3, f4, f5, f6, hf, e1, e2, e3, e4, e5, e6⟩ := fields6n f_fields
  injection e1 with e1a e1; injection e1 with e1b e1c
  injection e2 with e2a e2; injection e2 with e2b e2c
  injection e3 with e3a e3; injection e3 with e3b e3c
  injection e4 with e4a e4; injection e4 with e4b e4c
  injection e5 with e5a e5; injection e5 with e5b e5c
  injection e6 with e6a e6; injection e6 with e6b e6c
  have hf' : Try.prog.fieldsOf 33 = #[f1, f2, f3, f4, f5, f6] := by
    apply Array.toList_inj.1; rw [hf]
  have hu := f_under
  rw [hf'] at hu
  have s1 := sz_s; have s2 := sz_i; have s3 := sz_c; have s4 := sz_l; have s5 := sz_h
  simp [Instr.build, zeroValue, typeInfo, hi0, hz, run_underlying hu, Value.cells, e1a, e1b, e2a, e2b, e3a, e3b, e4a, e4b, e5a, e5b, e6a, e6b, s1, s2, s3, s4, s5]
  rw [h]
  simp
theorem fb_counter (s : ByteArray) (C : List Int) (hC : C.length = 579) (u : World) : (Instr.build 33 #[(0, .string s), (1, .int .i64 1), (3, .agg (vals C).toArray)]).run Try.prog u = .ok (.agg ((Pf.fd ⟨s, 1, 0, C, zL, []⟩ none 0).cells.toArray)) u := by
  refine run_build_fields [(0, .string s), (1, .int .i64 1), (3, .agg (vals C).toArray)] _ ?_ u
  rw [fill_one _ _ [.string s] _ 0 0 1 _ rfl rfl rfl (by rw [Pf.len zP_full]; omega), fill_one _ _ [.int .i64 1] _ 1 1 1 _ rfl rfl rfl (by rw [spl_len, Pf.len zP_full]; omega),
    fill_one _ _ (vals C) _ 3 3 579 _ rfl rfl (by rw [vals_length, hC]) (by rw [spl_len, spl_len, Pf.len zP_full]; omega)]
  exact congrArg some (congrArg List.toArray (Pf.toC (p := ⟨s, 1, 0, zer 579, zL, []⟩) (A := none) (c := 0) (zer_length 579) hC))
section
variable {ops : Array Oper} {rest : List Oper} {o : Oper} {a : Act} {u w : World} {Q : Exit → Act → World → Prop} {l : List (Nat × TypeId × List Value)} {rows : List (Option Addr × Nat × List Ho)} {K : Act → World → Prop}
theorem build_fc (hgd : o.guard = none) (x y : Operand) (z : Operand) (ho : o.op = .build 33 #[(0, x), (1, z), (3, y)]) {s : ByteArray} {C : List Int} (hC : C.length = 579) (hx : a.eval x = .string s) (hz : a.eval z = .int .i64 1) (hy : a.eval y = .agg (vals C).toArray)
    (h : wpList Try.prog ops Q rest (a.put o.dst (.agg ((Pf.fd ⟨s, 1, 0, C, zL, []⟩ none 0).cells.toArray))) u) : wpList Try.prog ops Q (o :: rest) a u :=
  wpList_plain hgd fun K hK => by
    unfold Oper.wp execOp
    simp only [ho, List.map_toArray, List.map_cons, List.map_nil, hx, hy, hz, Sem.run_bind, Sem.run_pure, Result.andThen_ok, fb_counter s C hC]
    exact hK _ _ h
end
/-! ### New fields. -/
theorem full_ct {s : ByteArray} {D : List Int} (h : D.length = 579) : Pf.full ⟨s, 1, 0, D, zL, []⟩ := h
set_option maxHeartbeats 1000000 in
theorem fcounter_any (s : ByteArray) (hs : s.size ≤ 1000) (i l h : Int) (w : World) :
    Calls Try.prog 16 #[.string s, .int .i64 i, .int .i64 l, .int .i64 h] w fun e w' => e = .returned (.tuple #[.agg ((ctP s i l h).fd none 0).cells.toArray, .int .i64 (ctPE s i l h)]) ∧ Below w.heap.size w w' := by
  have HK := Lib.hid (KeepF.start (w := w) (rows := []) (by simp))
  have hnm := fname_any s hs
  cases h1 : nameB s with
  | false =>
    rw [h1] at hnm
    rw [show ctPE s i l h = 1 by simp [ctPE, h1], show ctP s i l h = zP by simp [ctP, ctPE, h1, toldP]]
    go_enter Try.func16, Try.ntmps16
    go_wp2_with (first
      | (with_reducible refine alloc_f HK.out f_zeroP rfl rfl ?_; intro br u hk; clear HK; have HK := Lib.hid hk; clear hk)
      | (go_at_call 29; (with_reducible refine (hnm _).mono ?_); rintro e u ⟨rfl, hb⟩; have hk := HK.out.call hb; clear hb; clear HK; have HK := Lib.hid hk; clear hk)
      | (with_reducible refine build_f f_buildP rfl rfl ?_)
      | (with_reducible refine store_fr HK.out 0 (Pf.infoF zP_full) (Fd.one _) rfl rfl _ _ rfl rfl rfl rfl (Fd.leP zP_full zP_full) (Fd.setAllP zP_full zP_full) ?_; intro u hk; simp only [List.set_cons_zero] at hk; clear HK; have HK := Lib.hid hk; clear hk))
    exact bodyPost_ret (results_f2 rfl Try.underlying33 rfl (Pf.infoF zP_full) _ HK.out 0 _ rfl rfl rfl) rfl ⟨rfl, HK.out.bel⟩
  | true =>
    rw [h1] at hnm
    have hcl := new_any i l h
    have HA := Lib.hid (newA_length i l h)
    rw [show ctPE s i l h = newE i l h by simp [ctPE, h1], show ctP s i l h = toldP ⟨s, 1, 0, newA i l h, zL, []⟩ (newE i l h) by simp [ctP, ctPE, h1]]
    generalize newA i l h = D at hcl HA ⊢
    generalize newE i l h = E at hcl ⊢
    by_cases h0 : E = 0
    · subst h0
      rw [toldP_0]
      go_enter Try.func16, Try.ntmps16
      go_wp2_with (first
        | (with_reducible refine alloc_f HK.out f_zeroP rfl rfl ?_; intro br u hk; clear HK; have HK := Lib.hid hk; clear hk)
        | (go_at_call 29; (with_reducible refine (hnm _).mono ?_); rintro e u ⟨rfl, hb⟩; have hk := HK.out.call hb; clear hb; clear HK; have HK := Lib.hid hk; clear hk)
        | (go_at_call 30; (with_reducible refine (hcl _).mono ?_); rintro e u ⟨rfl, hb⟩; have hk := HK.out.call hb; clear hb; clear HK; have HK := Lib.hid hk; clear hk)
        | (with_reducible refine alloc_f HK.out c_zeroF rfl rfl ?_; intro bd u hk; clear HK; have HK := Lib.hid hk; clear hk)
        | (with_reducible refine store_fr HK.out 0 (infoC HA.out) (vals_all _) rfl rfl _ _ rfl rfl rfl rfl (putC_le (zer_length 579) HA.out) (putC ((zer_length 579).trans HA.out.symm)) ?_; intro u hk; simp only [List.set_cons_zero] at hk; clear HK; have HK := Lib.hid hk; clear hk)
        | (with_reducible refine load_fr HK.out 0 Try.underlying28 rfl (infoC HA.out) _ rfl rfl rfl rfl (infoCl HA.out) ?_)
        | (with_reducible refine build_fc rfl _ _ _ rfl HA.out rfl rfl rfl ?_)
        | (with_reducible refine store_fr HK.out 1 (Pf.infoF (full_ct HA.out)) (Fd.one _) rfl rfl _ _ rfl rfl rfl rfl (Fd.leP zP_full (full_ct HA.out)) (Fd.setAllP zP_full (full_ct HA.out)) ?_; intro u hk; simp only [List.set_cons_zero, List.set_cons_succ] at hk; clear HK; have HK := Lib.hid hk; clear hk))
      exact bodyPost_ret (results_f2 rfl Try.underlying33 rfl (Pf.infoF (full_ct HA.out)) _ HK.out 1 _ rfl rfl rfl) rfl ⟨rfl, HK.out.bel⟩
    · rw [toldP_n _ h0]
      have d0 : (E != 0) = true := by simpa using h0
      go_enter Try.func16, Try.ntmps16
      go_wp2_with (first
        | (with_reducible refine alloc_f HK.out f_zeroP rfl rfl ?_; intro br u hk; clear HK; have HK := Lib.hid hk; clear hk)
        | (go_at_call 29; (with_reducible refine (hnm _).mono ?_); rintro e u ⟨rfl, hb⟩; have hk := HK.out.call hb; clear hb; clear HK; have HK := Lib.hid hk; clear hk)
        | (go_at_call 30; (with_reducible refine (hcl _).mono ?_); rintro e u ⟨rfl, hb⟩; have hk := HK.out.call hb; clear hb; clear HK; have HK := Lib.hid hk; clear hk)
        | (with_reducible refine alloc_f HK.out c_zeroF rfl rfl ?_; intro bd u hk; clear HK; have HK := Lib.hid hk; clear hk)
        | (with_reducible refine store_fr HK.out 0 (infoC HA.out) (vals_all _) rfl rfl _ _ rfl rfl rfl rfl (putC_le (zer_length 579) HA.out) (putC ((zer_length 579).trans HA.out.symm)) ?_; intro u hk; simp only [List.set_cons_zero] at hk; clear HK; have HK := Lib.hid hk; clear hk)
        | (with_reducible refine build_f f_buildP rfl rfl ?_)
        | (with_reducible refine store_fr HK.out 1 (Pf.infoF zP_full) (Fd.one _) rfl rfl _ _ rfl rfl rfl rfl (Fd.leP zP_full zP_full) (Fd.setAllP zP_full zP_full) ?_; intro u hk; simp only [List.set_cons_zero, List.set_cons_succ] at hk; clear HK; have HK := Lib.hid hk; clear hk))
      exact bodyPost_ret (results_f2 rfl Try.underlying33 rfl (Pf.infoF zP_full) _ HK.out 1 _ rfl rfl rfl) rfl ⟨rfl, HK.out.bel⟩
theorem alloc_fi {ops : Array Oper} {rest : List Oper} {o : Oper} {a : Act} {w u : World} {l : List (Nat × TypeId × List Value)} {rows : List (Option Addr × Nat × List Ho)} {Q : Exit → Act → World → Prop} (hk : KeepF w l rows u) (hgd : o.guard = none) (ho : o.op = .alloc 3)
    (h : ∀ b u', KeepF w ((b, 3, [.int .i64 0]) :: l) rows u' → wpList Try.prog ops Q rest (a.put o.dst (.pointer (some ⟨b, 0, none⟩))) u') : wpList Try.prog ops Q (o :: rest) a u :=
  wpList_plain hgd fun K hK => by
    have e : (Instr.alloc 3 true (.tuple #[])).run Try.prog u = .ok (.pointer (some ⟨u.heap.size, 0, none⟩)) (u.alloc (.cells [.int .i64 0].toArray 3)) := by
      obtain ⟨i0, hi0, hz0, hz1, hz2⟩ := info_parts i_info3
      simp [Instr.alloc, zeroValue, typeInfo, hi0, hz0, newVar, newRow, newObj, Value.cells]
      rfl
    unfold Oper.wp execOp
    simp only [ho, Sem.run_bind, Sem.run_pure, Result.andThen_ok, e]
    exact hK _ _ (h _ _ (hk.new rfl))
set_option maxHeartbeats 1000000 in
theorem freserve_any (p : Pf) (hp : p.full) (A : Option Addr) (c : Nat) (k a d : Int) (w : World) (hd : Row w A p.hs.length p.hs) :
    Calls Try.prog 17 #[.agg (p.fd A c).cells.toArray, .int .i64 k, .int .i64 a, .int .i64 d] w fun e w' => ∃ A1 c1, e = .returned (.tuple #[.agg ((resP p k a d).fd A1 c1).cells.toArray, .int .i64 (resPN p k a d), .int .i64 (resPE p k a d)]) ∧ Got w A p.hs.length w' A1 c1 (resP p k a d).hs ∧ Below w.heap.size w w' := by
  have hmf : ∀ (fn : Fn) (first cap : Array Value) (w : World), (Instr.makeFunc fn first cap).run Try.prog w = .ok (.func fn first cap) w := fun _ _ _ _ => rfl
  have HK := Lib.hid (KeepF.start (w := w) (rows := [(A, p.hs.length, p.hs)]) (by simpa using hd))
  have HF := Lib.hid hp; clear hp
  have HP := Lib.hid (resP_full HF.out k a d)
  go_enter Try.func17, Try.ntmps17
  go_wp2_with (first
    | (with_reducible refine box_f HK.out rfl _ rfl rfl ?_; intro b u hk; clear HK; have HK := Lib.hid hk; clear hk)
    | (with_reducible refine box_fi HK.out rfl _ rfl rfl ?_; intro bi u hk; clear HK; have HK := Lib.hid hk; clear hk)
    | (with_reducible refine alloc_f HK.out f_zeroP rfl rfl ?_; intro br u hk; clear HK; have HK := Lib.hid hk; clear hk)
    | (with_reducible refine alloc_fi HK.out rfl rfl ?_; intro bm u hk; clear HK; have HK := Lib.hid hk; clear hk)
    | (with_reducible refine store_f1 HK.out 0 cbI rfl rfl _ _ rfl rfl rfl rfl rfl (by decide) rfl ?_; intro u hk; simp only [List.set_cons_zero] at hk; clear HK; have HK := Lib.hid hk; clear hk)
    | (with_reducible refine load_fr HK.out 5 Try.underlying33 rfl (Pf.infoF HF.out) _ rfl rfl rfl rfl Pf.all ?_)
    | (go_at_call 31; (with_reducible refine (ch_reserve p HF.out k a d 4 rfl 3 rfl 2 rfl 0 rfl (by decide) (by decide) (by decide) 0 rfl HK.out).mono ?_); rintro e u ⟨A1, c1, rfl, hk, hf⟩; simp only [List.set_cons_zero] at hk; have HX := Lib.hid hf; clear hf; clear HK; have HK := Lib.hid hk; clear hk)
    | (with_reducible refine store_fr HK.out 5 (Pf.infoF HP.out) (Fd.one _) rfl rfl _ _ rfl rfl rfl rfl (Fd.leP HF.out HP.out) (Fd.setAllP HF.out HP.out) ?_; intro u hk; simp only [List.set_cons_zero, List.set_cons_succ] at hk; clear HK; have HK := Lib.hid hk; clear hk))
  refine Draws.start (S := fun u : World => u.cell? ⟨bm, 0, none⟩ = some (.int .i64 (resPN p k a d))) (n := 5) 6 rfl (by kernel_rfl) ?_
  have hk := HK.out.drew
  clear HK; have HK := Lib.hid hk; clear hk
  have HS := Lib.hid (show (fun u : World => u.cell? ⟨bm, 0, none⟩ = some (.int .i64 (resPN p k a d))) _ from HK.out.cellAt 0 rfl rfl)
  refine Draws.take 1 HS.out rfl (by kernel_rfl) (fun _ _ _ h => h) (yield_c cbI (fun _ h => h) _ rfl rfl rfl) ?_
  (try simp only [Act.put, List.setIfInBounds_toArray, List.set_cons_zero, List.set_cons_succ])
  refine Draws.take 2 (v := ?v1) HS.out rfl (by kernel_rfl) (fun _ _ _ h => h) (Or.inl ⟨rfl, ?h1⟩) ?r1
  case h1 => intro w' hw'; go_simp; (try with_reducible rfl)
  (try simp only [Act.put, List.setIfInBounds_toArray, List.set_cons_zero, List.set_cons_succ])
  refine Draws.does 0 rfl (by kernel_rfl) rfl (fun K hK => ?_)
  refine wp_load_fr HK.out 5 Try.underlying33 rfl (Pf.infoF HP.out) _ rfl rfl rfl Pf.all ?_
  refine hK.out _ _ (fun _ => HS.out) ?_
  clear hK K
  (try simp only [Act.put, List.setIfInBounds_toArray, List.set_cons_zero, List.set_cons_succ])
  refine Draws.does 3 rfl (by kernel_rfl) rfl (fun K hK => ?_)
  refine wp_store_fr HK.out 1 (Pf.infoF HP.out) (Fd.one _) rfl _ _ rfl rfl rfl rfl (Fd.leP zP_full HP.out) (Fd.setAllP zP_full HP.out) ?_
  intro u hk he; clear he; simp only [List.set_cons_zero, List.set_cons_succ] at hk; clear HK; have HK := Lib.hid hk; clear hk
  refine hK.out _ _ (fun _ => HK.out.cellAt 0 rfl rfl) ?_
  clear hK K
  have hs : (fun u : World => u.cell? ⟨bm, 0, none⟩ = some (.int .i64 (resPN p k a d))) u := HK.out.cellAt 0 rfl rfl
  clear HS
  have HS := Lib.hid hs; clear hs
  (try simp only [Act.put, List.setIfInBounds_toArray, List.set_cons_zero, List.set_cons_succ])
  refine Draws.does 4 rfl (by kernel_rfl) rfl (fun K hK => ?_)
  go_simp
  refine hK.out _ _ (fun _ => HS.out) ?_
  clear hK K
  (try simp only [Act.put, List.setIfInBounds_toArray, List.set_cons_zero, List.set_cons_succ])
  refine Draws.does 5 rfl (by kernel_rfl) rfl (fun K hK => ?_)
  go_simp
  refine hK.out _ _ (fun h => absurd h (by decide)) ?_
  clear hK K
  (try simp only [Act.put, List.setIfInBounds_toArray, List.set_cons_zero, List.set_cons_succ])
  refine Draws.done (by kernel_rfl) ?_
  clear HS
  go_wp2
  exact bodyPost_ret (results_f3 rfl Try.underlying33 rfl (Pf.infoF HP.out) _ HK.out 1 _ _ rfl rfl rfl rfl) rfl ⟨A1, c1, rfl, Got.of (HK.out.rowAt 0 rfl) HX.out, HK.out.bel⟩
end Go.Proofs.Ytofngihdnjgmeaa

namespace Go.Proofs.Ytofngihdnjgmeaa
set_option maxRecDepth 100000
open Go.ChangeShapes Go.WideShapes Go.ChangeAt Go.RowKit

theorem hd_fields : (Try.prog.fieldsOf 78).toList.map (fun f => (f.type, f.offset, f.name)) = [(9, 0, "name"), (3, 1, "kind"), (3, 2, "epoch")] := by kernel_rfl
theorem hd_under : Try.prog.underlying 78 = some (.struct (Try.prog.fieldsOf 78)) := by kernel_rfl
theorem eql_hd (p : Pf) (w : World) : (Op.equalIn 10000 78 (.agg (headC p).toArray) (.agg (headC p).toArray)).run Try.prog w = .ok true w := by
  have hst := run_equalIn_struct (P := Try.prog) w 9999 78 (headC p).toArray (headC p).toArray hd_under (by kernel_rfl)
  have hi : ∀ x : Int, (Op.equalIn 9999 3 (.int .i64 x) (.int .i64 x)).run Try.prog w = .ok true w := fun x => by rw [run_equalIn_int w 9998 3 .i64 .i64 x x Try.underlying3]; simp
  have hs : ∀ s : ByteArray, (Op.equalIn 9999 9 (.string s) (.string s)).run Try.prog w = .ok true w := fun s => by rw [run_equalIn_string w 9998 9 s s Try.underlying9]; simp
  have q0 : (part 9 (headC p).toArray 0).run Try.prog w = .ok (.string p.nm) w := by simp [part, isAgg, run_underlying Try.underlying9, headC]
  have q1 : (part 3 (headC p).toArray 1).run Try.prog w = .ok (.int .i64 p.k) w := by simp [part, isAgg, run_underlying Try.underlying3, headC]
  have q2 : (part 3 (headC p).toArray 2).run Try.prog w = .ok (.int .i64 p.e) w := by simp [part, isAgg, run_underlying Try.underlying3, headC]
  obtain ⟨f1, f2, f3, hf, e1, e2, e3⟩ := fields3 hd_fields
  injection e1 with e1a e1; injection e1 with e1b e1c
  injection e2 with e2a e2; injection e2 with e2b e2c
  injection e3 with e3a e3; injection e3 with e3b e3c
  rw [hst, hf, show true = (true && (true && (true && true))) from rfl]
  clear hst hf
  refine eqField (by rw [e1c]; decide) (by rw [e1a, e1b]; exact q0) (by rw [e1a, e1b]; exact q0) (by rw [e1a]; exact hs _) ?_
  refine eqField (by rw [e2c]; decide) (by rw [e2a, e2b]; exact q1) (by rw [e2a, e2b]; exact q1) (by rw [e2a]; exact hi _) ?_
  refine eqField (by rw [e3c]; decide) (by rw [e3a, e3b]; exact q2) (by rw [e3a, e3b]; exact q2) (by rw [e3a]; exact hi _) ?_
  simp [Op.eqFields]
theorem hd_guard : Try.prog.eqGuardType Try.prog.depth 78 = false := by kernel_rfl
theorem c_same (C : List Int) (hC : C.length = 579) (w : World) : (Op.equalIn 10000 28 (.agg (vals C).toArray) (.agg (vals C).toArray)).run Try.prog w = .ok true w := by rw [eql_c C C hC hC w]; simp
theorem l_same (M : Lk) (w : World) : (Op.equalIn 10000 30 (.agg (vals M.l).toArray) (.agg (vals M.l).toArray)).run Try.prog w = .ok true w := by rw [eql_lk M M w]; simp
section
variable {ops : Array Oper} {S : World → Prop} {o : Oper} {a : Act} {u : World} {rest : List Oper} {Q : Exit → Act → World → Prop}
/-- What is the same is equal. -/
theorem yield_eqv {ty : TypeId} {xs : List Value} (hge : Try.prog.eqGuardType Try.prog.depth ty = false) (hq : ∀ W, (Op.equalIn 10000 ty (.agg xs.toArray) (.agg xs.toArray)).run Try.prog W = .ok true W) (x y : Operand) (t : TypeId) (ho : o.op = .binOp .eql ty x y t) (hx : a.eval x = .agg xs.toArray) (hy : a.eval y = .agg xs.toArray) (hw : Region.wanted o (yielded ops a.tmps) = true) :
    YieldsIf Try.prog ops S o (.bool true) a :=
  .inl ⟨hw, fun w _ => by
    unfold execOp
    simp only [ho, hx, hy]
    simp [go_sem, hq, hge]⟩
theorem neq_same {ty : TypeId} {xs : List Value} (hge : Try.prog.eqGuardType Try.prog.depth ty = false) (hq : ∀ W, (Op.equalIn 10000 ty (.agg xs.toArray) (.agg xs.toArray)).run Try.prog W = .ok true W) (x y : Operand) (t : TypeId) (ho : o.op = .binOp .neq ty x y t) (hx : a.eval x = .agg xs.toArray) (hy : a.eval y = .agg xs.toArray) (hw : Region.wanted o (yielded ops a.tmps) = true)
    (h : wpList Try.prog ops Q rest (a.put o.dst (.bool false)) u) : wpList Try.prog ops Q (o :: rest) a u :=
  BigFrame.wpList_want hw fun K hK => by
    have := hK _ _ h
    unfold Oper.wp execOp
    simp only [ho, hx, hy]
    simp [go_sem, hq, hge]
    simpa [Act.put] using this
end
set_option maxHeartbeats 2000000 in
theorem equal_any (A B : Option Addr) (c d : Nat) (hs : List Ho) (w : World) (h1 : Row w A hs.length hs) (h2 : Row w B hs.length hs) :
    Calls Try.prog 36 #[.slice A hs.length c, .slice B hs.length d] w fun e w' => e = .returned (.bool true) ∧ Below w.heap.size w w' := by
  have HD := Lib.hid h1; have HE := Lib.hid h2; clear h1 h2
  have HK := Lib.hid (KeepF.start (w := w) (rows := []) (by simp))
  have HNB := Lib.hid HD.out.2.1
  generalize hn : hs.length = n at HD HE HNB ⊢
  have HL := Lib.hid hn
  go_enter Try.func36, Try.ntmps36
  go_wp2
  go_loopw [13] (fun i wr => ∃ m : Nat, m ≤ n ∧ i = .int .i64 m ∧ KeepF w [] [] wr) (fun i _ => n - (intOf i).toNat)
  case atStart => exact ⟨0, by omega, rfl, HK.out⟩
  case round =>
    obtain ⟨m, hm, rfl, hk⟩ := hrel
    clear HK; have HK := Lib.hid hk; clear hk
    have hnb := HNB.out
    by_cases hlt : m < n
    · obtain ⟨b1, o1, rfl, hr1⟩ := HD.out.at hlt
      obtain ⟨b2, o2, rfl, hr2⟩ := HE.out.at hlt
      have hm1 := hr1 m hlt
      have hm2 := hr2 m hlt
      clear hr1 hr2
      generalize hs.getD m z5 = h at hm1 hm2
      have HR := Lib.hid hm1; have HC := Lib.hid (range_lt hm1)
      have HR2 := Lib.hid hm2; have HC2 := Lib.hid (range_lt hm2)
      clear hm1 hm2
      have i1 : (0 : Int) ≤ (m : Int) := by omega
      have i2 : (m : Int) < (n : Int) := by omega
      go_wp2
      refine Draws.start (S := fun u => KeepF w [] [] u) (n := 9) 9 rfl (by kernel_rfl) ?_
      have hk := HK.out.drew
      clear HK; have HK := Lib.hid hk; clear hk
      have HS := Lib.hid (show (fun u => KeepF w [] [] u) _ from HK.out)
      refine Draws.take 0 (v := ?v1) HS.out rfl (by kernel_rfl) (fun _ _ _ h => h) (Or.inl ⟨rfl, ?h1⟩) ?r1
      case h1 => intro w' hw'; go_simp; (try with_reducible rfl)
      (try simp only [Act.put, List.setIfInBounds_toArray, List.set_cons_zero, List.set_cons_succ])
      refine Draws.take 1 (v := ?v2) HS.out rfl (by kernel_rfl) (fun _ _ _ h => h) (Or.inl ⟨rfl, ?h2⟩) ?r2
      case h2 => intro w' hw'; go_simp; (try with_reducible rfl)
      (try simp only [Act.put, List.setIfInBounds_toArray, List.set_cons_zero, List.set_cons_succ])
      refine Draws.take 2 (v := ?v3) HS.out rfl (by kernel_rfl) (fun _ _ _ h => h) (Or.inl ⟨rfl, ?h3⟩) ?r3
      case h3 => intro w' hw'; go_simp; (try with_reducible rfl)
      (try simp only [Act.put, List.setIfInBounds_toArray, List.set_cons_zero, List.set_cons_succ])
      refine Draws.take 3 HS.out rfl (by kernel_rfl) (fun _ _ _ h => h) (yield_hold (fun _ h => range_below HR.out h.bel HC.out) _ rfl rfl rfl) ?_
      (try simp only [Act.put, List.setIfInBounds_toArray, List.set_cons_zero, List.set_cons_succ])
      refine Draws.take 4 (v := ?v4) HS.out rfl (by kernel_rfl) (fun _ _ _ h => h) (Or.inl ⟨rfl, ?h4⟩) ?r4
      case h4 => intro w' hw'; go_simp; (try with_reducible rfl)
      (try simp only [Act.put, List.setIfInBounds_toArray, List.set_cons_zero, List.set_cons_succ])
      refine Draws.take 5 (v := ?v5) HS.out rfl (by kernel_rfl) (fun _ _ _ h => h) (Or.inl ⟨rfl, ?h5⟩) ?r5
      case h5 => intro w' hw'; go_simp; (try with_reducible rfl)
      (try simp only [Act.put, List.setIfInBounds_toArray, List.set_cons_zero, List.set_cons_succ])
      refine Draws.take 6 (v := ?v6) HS.out rfl (by kernel_rfl) (fun _ _ _ h => h) (Or.inl ⟨rfl, ?h6⟩) ?r6
      case h6 => intro w' hw'; go_simp; (try with_reducible rfl)
      (try simp only [Act.put, List.setIfInBounds_toArray, List.set_cons_zero, List.set_cons_succ])
      refine Draws.take 7 HS.out rfl (by kernel_rfl) (fun _ _ _ h => h) (yield_hold (fun _ h => range_below HR2.out h.bel HC2.out) _ rfl rfl rfl) ?_
      (try simp only [Act.put, List.setIfInBounds_toArray, List.set_cons_zero, List.set_cons_succ])
      refine Draws.take 8 HS.out rfl (by kernel_rfl) (fun _ _ _ h => h) (yield_neqh (Ho.same _) _ _ _ rfl rfl rfl rfl) ?_
      (try simp only [Act.put, List.setIfInBounds_toArray, List.set_cons_zero, List.set_cons_succ])
      refine Draws.done (by kernel_rfl) ?_
      clear HS
      go_wp2
      go_roundw
      case rel => exact ⟨m + 1, by omega, by go_num, HK.out⟩
      case measure => simp [intOf]; omega
    · obtain rfl : m = n := by omega
      go_wp2
      go_ret
      exact ⟨rfl, HK.out.bel⟩
theorem Pf.cHn {p : Pf} {A : Option Addr} {c n : Nat} (h : p.full) (hn : p.hs.length = n) : (p.fd A c).cells[586]? = some (.slice A n c) := by subst hn; exact Pf.cH h
set_option maxHeartbeats 4000000 in
theorem rsame_any (p : Pf) (hp : p.full) (A B : Option Addr) (c d : Nat) (w : World) (h1 : Row w A p.hs.length p.hs) (h2 : Row w B p.hs.length p.hs) :
    Calls Try.prog 11 #[.agg (p.fd A c).cells.toArray, .agg (p.fd B d).cells.toArray] w fun e w' => e = .returned (.bool true) ∧ Below w.heap.size w w' := by
  have HCL := Lib.hid (show p.C.length = 579 from hp)
  have HF := Lib.hid hp; clear hp
  obtain ⟨n, hn⟩ : ∃ n, p.hs.length = n := ⟨_, rfl⟩
  have HL := Lib.hid hn
  rw [hn] at h1 h2
  have HK := Lib.hid (KeepF.start (w := w) (rows := [(A, n, p.hs), (B, n, p.hs)]) (by simpa using ⟨h1, h2⟩))
  have HD := Lib.hid h1; have HE := Lib.hid h2; have HNB := Lib.hid h1.2.1
  clear h1 h2 hn
  go_enter Try.func11, Try.ntmps11
  go_wp2_with (first
    | (with_reducible refine box_f HK.out rfl _ rfl rfl ?_; intro b1 u hk; clear HK; have HK := Lib.hid hk; clear hk; with_reducible refine box_f HK.out rfl _ rfl rfl ?_; intro b2 u hk; clear HK; have HK := Lib.hid hk; clear hk)
    | (with_reducible refine load_f1 HK.out 1 cbS _ rfl rfl rfl rfl Pf.cn ?_)
    | (with_reducible refine load_f1 HK.out 0 cbS _ rfl rfl rfl rfl Pf.cn ?_)
    | (with_reducible refine load_f1 HK.out 1 cbI _ rfl rfl rfl rfl Pf.ck ?_)
    | (with_reducible refine load_f1 HK.out 0 cbI _ rfl rfl rfl rfl Pf.ck ?_)
    | (with_reducible refine load_f1 HK.out 1 cbI _ rfl rfl rfl rfl Pf.ce ?_)
    | (with_reducible refine load_f1 HK.out 0 cbI _ rfl rfl rfl rfl Pf.ce ?_)
    | (with_reducible refine load_fr HK.out 1 Try.underlying28 rfl (Pf.infoC HF.out) _ rfl rfl rfl rfl Pf.cC ?_)
    | (with_reducible refine load_fr HK.out 0 Try.underlying28 rfl (Pf.infoC HF.out) _ rfl rfl rfl rfl Pf.cC ?_)
    | (with_reducible refine load_fr HK.out 1 Try.underlying30 rfl (l_infoF _) _ rfl rfl rfl rfl (Pf.cL HF.out) ?_)
    | (with_reducible refine load_fr HK.out 0 Try.underlying30 rfl (l_infoF _) _ rfl rfl rfl rfl (Pf.cL HF.out) ?_)
    | (with_reducible refine load_f1 HK.out 1 cbH _ rfl rfl rfl rfl (Pf.cHn HF.out HL.out) ?_)
    | (with_reducible refine load_f1 HK.out 0 cbH _ rfl rfl rfl rfl (Pf.cHn HF.out HL.out) ?_)
    | (with_reducible refine neq_same c_guardF (c_same _ HCL.out) _ _ _ rfl rfl rfl rfl ?_)
    | (with_reducible refine neq_same lk_guard (l_same _) _ _ _ rfl rfl rfl rfl ?_))
  go_loopw [5] (fun i wr => ∃ m : Nat, m ≤ n ∧ i = .int .i64 m ∧ KeepF w [(b2, 33, (p.fd B d).cells), (b1, 33, (p.fd A c).cells)] [(A, n, p.hs), (B, n, p.hs)] wr) (fun i _ => n - (intOf i).toNat)
  case atStart => exact ⟨0, by omega, rfl, HK.out⟩
  case round =>
    obtain ⟨m, hm, rfl, hk⟩ := hrel
    clear HK; have HK := Lib.hid hk; clear hk
    have hnb := HNB.out
    by_cases hlt : m < n
    · obtain ⟨g1, o1, rfl, hr1⟩ := HD.out.at hlt
      obtain ⟨g2, o2, rfl, hr2⟩ := HE.out.at hlt
      have hm1 := hr1 m hlt
      have hm2 := hr2 m hlt
      clear hr1 hr2
      generalize p.hs.getD m z5 = h at hm1 hm2
      have HR := Lib.hid hm1; have HC := Lib.hid (range_lt hm1)
      have HR2 := Lib.hid hm2; have HC2 := Lib.hid (range_lt hm2)
      clear hm1 hm2
      have i1 : (0 : Int) ≤ (m : Int) := by omega
      have i2 : (m : Int) < (n : Int) := by omega
      go_wp2_with (first
        | (with_reducible refine load_f1 HK.out 1 cbH _ rfl rfl rfl rfl (Pf.cHn HF.out HL.out) ?_)
        | (with_reducible refine load_f1 HK.out 0 cbH _ rfl rfl rfl rfl (Pf.cHn HF.out HL.out) ?_))
      refine Draws.start (S := fun u => KeepF w [(b2, 33, (p.fd (some ⟨g2, o2, none⟩) d).cells), (b1, 33, (p.fd (some ⟨g1, o1, none⟩) c).cells)] [(some ⟨g1, o1, none⟩, n, p.hs), (some ⟨g2, o2, none⟩, n, p.hs)] u) (n := 11) 11 rfl (by kernel_rfl) ?_
      have hk := HK.out.drew
      clear HK; have HK := Lib.hid hk; clear hk
      have HS := Lib.hid (show (fun u => KeepF w [(b2, 33, (p.fd (some ⟨g2, o2, none⟩) d).cells), (b1, 33, (p.fd (some ⟨g1, o1, none⟩) c).cells)] [(some ⟨g1, o1, none⟩, n, p.hs), (some ⟨g2, o2, none⟩, n, p.hs)] u) _ from HK.out)
      refine Draws.take 0 (v := ?v20) HS.out rfl (by kernel_rfl) (fun _ _ _ h => h) (Or.inl ⟨rfl, ?h20⟩) ?r20
      case h20 => intro w' hw'; go_simp; (try with_reducible rfl)
      (try simp only [Act.put, List.setIfInBounds_toArray, List.set_cons_zero, List.set_cons_succ])
      refine Draws.take 1 HS.out rfl (by kernel_rfl) (fun _ _ _ h => h) (yield_c cbH (fun _ h => h.cellAt 1 rfl (Pf.cHn HF.out HL.out)) _ rfl rfl rfl) ?_
      (try simp only [Act.put, List.setIfInBounds_toArray, List.set_cons_zero, List.set_cons_succ])
      refine Draws.take 2 (v := ?v21) HS.out rfl (by kernel_rfl) (fun _ _ _ h => h) (Or.inl ⟨rfl, ?h21⟩) ?r21
      case h21 => intro w' hw'; go_simp; (try with_reducible rfl)
      (try simp only [Act.put, List.setIfInBounds_toArray, List.set_cons_zero, List.set_cons_succ])
      refine Draws.take 3 (v := ?v22) HS.out rfl (by kernel_rfl) (fun _ _ _ h => h) (Or.inl ⟨rfl, ?h22⟩) ?r22
      case h22 => intro w' hw'; go_simp; (try with_reducible rfl)
      (try simp only [Act.put, List.setIfInBounds_toArray, List.set_cons_zero, List.set_cons_succ])
      refine Draws.take 4 HS.out rfl (by kernel_rfl) (fun _ _ _ h => h) (yield_hold (fun _ h => range_below HR.out h.bel HC.out) _ rfl rfl rfl) ?_
      (try simp only [Act.put, List.setIfInBounds_toArray, List.set_cons_zero, List.set_cons_succ])
      refine Draws.take 5 (v := ?v23) HS.out rfl (by kernel_rfl) (fun _ _ _ h => h) (Or.inl ⟨rfl, ?h23⟩) ?r23
      case h23 => intro w' hw'; go_simp; (try with_reducible rfl)
      (try simp only [Act.put, List.setIfInBounds_toArray, List.set_cons_zero, List.set_cons_succ])
      refine Draws.take 6 HS.out rfl (by kernel_rfl) (fun _ _ _ h => h) (yield_c cbH (fun _ h => h.cellAt 0 rfl (Pf.cHn HF.out HL.out)) _ rfl rfl rfl) ?_
      (try simp only [Act.put, List.setIfInBounds_toArray, List.set_cons_zero, List.set_cons_succ])
      refine Draws.take 7 (v := ?v24) HS.out rfl (by kernel_rfl) (fun _ _ _ h => h) (Or.inl ⟨rfl, ?h24⟩) ?r24
      case h24 => intro w' hw'; go_simp; (try with_reducible rfl)
      (try simp only [Act.put, List.setIfInBounds_toArray, List.set_cons_zero, List.set_cons_succ])
      refine Draws.take 8 (v := ?v25) HS.out rfl (by kernel_rfl) (fun _ _ _ h => h) (Or.inl ⟨rfl, ?h25⟩) ?r25
      case h25 => intro w' hw'; go_simp; (try with_reducible rfl)
      (try simp only [Act.put, List.setIfInBounds_toArray, List.set_cons_zero, List.set_cons_succ])
      refine Draws.take 9 HS.out rfl (by kernel_rfl) (fun _ _ _ h => h) (yield_hold (fun _ h => range_below HR2.out h.bel HC2.out) _ rfl rfl rfl) ?_
      (try simp only [Act.put, List.setIfInBounds_toArray, List.set_cons_zero, List.set_cons_succ])
      refine Draws.take 10 HS.out rfl (by kernel_rfl) (fun _ _ _ h => h) (yield_neqh (Ho.same _) _ _ _ rfl rfl rfl rfl) ?_
      (try simp only [Act.put, List.setIfInBounds_toArray, List.set_cons_zero, List.set_cons_succ])
      refine Draws.done (by kernel_rfl) ?_
      clear HS
      go_wp2
      go_roundw
      case rel => exact ⟨m + 1, by omega, by go_num, HK.out⟩
      case measure => simp [intOf]; omega
    · obtain rfl : m = n := by omega
      go_wp2_with (first
        | (with_reducible refine load_f1 HK.out 1 cbH _ rfl rfl rfl rfl (Pf.cHn HF.out HL.out) ?_)
        | (with_reducible refine load_f1 HK.out 0 cbH _ rfl rfl rfl rfl (Pf.cHn HF.out HL.out) ?_))
      go_ret
      exact ⟨rfl, HK.out.bel⟩
end Go.Proofs.Ytofngihdnjgmeaa
