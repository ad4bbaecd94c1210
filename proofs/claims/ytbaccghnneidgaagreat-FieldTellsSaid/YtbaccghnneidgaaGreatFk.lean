/- Contracts of field.Same and the document's Same of fields that are the same. -/
import Derived.Test.YtbaccghnneidgaaGreatFj
namespace Go.Proofs.YtbaccghnneidgaaGreat
set_option maxRecDepth 100000
open Go.ChangeShapes Go.WideShapes Go.ChangeAt Go.RowKit

theorem hd_fields : (Tryz.prog.fieldsOf 77).toList.map (fun f => (f.type, f.offset, f.name)) = [(9, 0, "name"), (3, 1, "kind"), (3, 2, "epoch")] := by kernel_rfl
theorem hd_under : Tryz.prog.underlying 77 = some (.struct (Tryz.prog.fieldsOf 77)) := by kernel_rfl
theorem eql_hd (p : Pf) (w : World) : (Op.equalIn 10000 77 (.agg (headC p).toArray) (.agg (headC p).toArray)).run Tryz.prog w = .ok true w := by
  have hst := run_equalIn_struct (P := Tryz.prog) w 9999 77 (headC p).toArray (headC p).toArray hd_under (by kernel_rfl)
  have hi : ∀ x : Int, (Op.equalIn 9999 3 (.int .i64 x) (.int .i64 x)).run Tryz.prog w = .ok true w := fun x => by rw [run_equalIn_int w 9998 3 .i64 .i64 x x Tryz.underlying3]; simp
  have hs : ∀ s : ByteArray, (Op.equalIn 9999 9 (.string s) (.string s)).run Tryz.prog w = .ok true w := fun s => by rw [run_equalIn_string w 9998 9 s s Tryz.underlying9]; simp
  have q0 : (part 9 (headC p).toArray 0).run Tryz.prog w = .ok (.string p.nm) w := by simp [part, isAgg, run_underlying Tryz.underlying9, headC]
  have q1 : (part 3 (headC p).toArray 1).run Tryz.prog w = .ok (.int .i64 p.k) w := by simp [part, isAgg, run_underlying Tryz.underlying3, headC]
  have q2 : (part 3 (headC p).toArray 2).run Tryz.prog w = .ok (.int .i64 p.e) w := by simp [part, isAgg, run_underlying Tryz.underlying3, headC]
  obtain ⟨f1, f2, f3, hf, e1, e2, e3⟩ := fields3 hd_fields
  injection e1 with e1a e1; injection e1 with e1b e1c
  injection e2 with e2a e2; injection e2 with e2b e2c
  injection e3 with e3a e3; injection e3 with e3b e3c
  rw [hst, hf, show true = (true && (true && (true && true))) from rfl]
  clear hst hf
  refine eqField (by rw [e1c]; decide) (by rw [e1a, e1b]; exact q0) (by rw [e1a, e1b]; exact q0) (by rw [e1a]; exact hs _) ?_
  refine eqField (by rw [e2c]; decide) (by rw [e2a, e2b]; exact q1) (by rw [e2a, e2b]; exact q1) (by rw [e2a]; exact hi _) ?_
  refine eqField (by rw [e3c]; decide) (by rw [e3a, e3b]; exact q2) (by rw [e3a, e3b]; exact q2) (by rw [e3a]; exact hi _) ?_
  simp [Op.eqFields]
theorem hd_guard : Tryz.prog.eqGuardType Tryz.prog.depth 77 = false := by kernel_rfl
theorem c_same (C : List Int) (hC : C.length = 579) (w : World) : (Op.equalIn 10000 28 (.agg (vals C).toArray) (.agg (vals C).toArray)).run Tryz.prog w = .ok true w := by rw [eql_c C C hC hC w]; simp
theorem l_same (M : Lk) (w : World) : (Op.equalIn 10000 30 (.agg (vals M.l).toArray) (.agg (vals M.l).toArray)).run Tryz.prog w = .ok true w := by rw [eql_lk M M w]; simp
section
variable {ops : Array Oper} {S : World → Prop} {o : Oper} {a : Act} {u : World} {rest : List Oper} {Q : Exit → Act → World → Prop}
/-- What is the same is equal. -/
theorem yield_eqv {ty : TypeId} {xs : List Value} (hge : Tryz.prog.eqGuardType Tryz.prog.depth ty = false) (hq : ∀ W, (Op.equalIn 10000 ty (.agg xs.toArray) (.agg xs.toArray)).run Tryz.prog W = .ok true W) (x y : Operand) (t : TypeId) (ho : o.op = .binOp .eql ty x y t) (hx : a.eval x = .agg xs.toArray) (hy : a.eval y = .agg xs.toArray) (hw : Region.wanted o (yielded ops a.tmps) = true) :
    YieldsIf Tryz.prog ops S o (.bool true) a :=
  .inl ⟨hw, fun w _ => by
    unfold execOp
    simp only [ho, hx, hy]
    simp [go_sem, hq, hge]⟩
theorem neq_same {ty : TypeId} {xs : List Value} (hge : Tryz.prog.eqGuardType Tryz.prog.depth ty = false) (hq : ∀ W, (Op.equalIn 10000 ty (.agg xs.toArray) (.agg xs.toArray)).run Tryz.prog W = .ok true W) (x y : Operand) (t : TypeId) (ho : o.op = .binOp .neq ty x y t) (hx : a.eval x = .agg xs.toArray) (hy : a.eval y = .agg xs.toArray) (hw : Region.wanted o (yielded ops a.tmps) = true)
    (h : wpList Tryz.prog ops Q rest (a.put o.dst (.bool false)) u) : wpList Tryz.prog ops Q (o :: rest) a u :=
  BigFrame.wpList_want hw fun K hK => by
    have := hK _ _ h
    unfold Oper.wp execOp
    simp only [ho, hx, hy]
    simp [go_sem, hq, hge]
    simpa [Act.put] using this
end
set_option maxHeartbeats 2000000 in
theorem equal_any (A B : Option Addr) (c d : Nat) (hs : List Ho) (w : World) (h1 : Row w A hs.length hs) (h2 : Row w B hs.length hs) :
    Calls Tryz.prog 54 #[.slice A hs.length c, .slice B hs.length d] w fun e w' => e = .returned (.bool true) ∧ Below w.heap.size w w' := by
  have HD := Lib.hid h1; have HE := Lib.hid h2; clear h1 h2
  have HK := Lib.hid (KeepF.start (w := w) (rows := []) (by simp))
  have HNB := Lib.hid HD.out.2.1
  generalize hn : hs.length = n at HD HE HNB ⊢
  have HL := Lib.hid hn
  go_enter Tryz.func54, Tryz.ntmps54
  go_wp2
  go_loopw [13] (fun i wr => ∃ m : Nat, m ≤ n ∧ i = .int .i64 m ∧ KeepF w [] [] wr) (fun i _ => n - (intOf i).toNat)
  case atStart => exact ⟨0, by omega, rfl, HK.out⟩
  case round =>
    obtain ⟨m, hm, rfl, hk⟩ := hrel
    clear HK; have HK := Lib.hid hk; clear hk
    have hnb := HNB.out
    by_cases hlt : m < n
    · obtain ⟨b1, o1, rfl, hr1⟩ := HD.out.at hlt
      obtain ⟨b2, o2, rfl, hr2⟩ := HE.out.at hlt
      have hm1 := hr1 m hlt
      have hm2 := hr2 m hlt
      clear hr1 hr2
      generalize hs.getD m z5 = h at hm1 hm2
      have HR := Lib.hid hm1; have HC := Lib.hid (range_lt hm1)
      have HR2 := Lib.hid hm2; have HC2 := Lib.hid (range_lt hm2)
      clear hm1 hm2
      have i1 : (0 : Int) ≤ (m : Int) := by omega
      have i2 : (m : Int) < (n : Int) := by omega
      go_wp2
      refine Draws.start (S := fun u => KeepF w [] [] u) (n := 9) 9 rfl (by kernel_rfl) ?_
      have hk := HK.out.drew
      clear HK; have HK := Lib.hid hk; clear hk
      have HS := Lib.hid (show (fun u => KeepF w [] [] u) _ from HK.out)
      refine Draws.take 0 (v := ?v1) HS.out rfl (by kernel_rfl) (fun _ _ _ h => h) (Or.inl ⟨rfl, ?h1⟩) ?r1
      case h1 => intro w' hw'; go_simp; (try with_reducible rfl)
      (try simp only [Act.put, List.setIfInBounds_toArray, List.set_cons_zero, List.set_cons_succ])
      refine Draws.take 1 (v := ?v2) HS.out rfl (by kernel_rfl) (fun _ _ _ h => h) (Or.inl ⟨rfl, ?h2⟩) ?r2
      case h2 => intro w' hw'; go_simp; (try with_reducible rfl)
      (try simp only [Act.put, List.setIfInBounds_toArray, List.set_cons_zero, List.set_cons_succ])
      refine Draws.take 2 (v := ?v3) HS.out rfl (by kernel_rfl) (fun _ _ _ h => h) (Or.inl ⟨rfl, ?h3⟩) ?r3
      case h3 => intro w' hw'; go_simp; (try with_reducible rfl)
      (try simp only [Act.put, List.setIfInBounds_toArray, List.set_cons_zero, List.set_cons_succ])
      refine Draws.take 3 HS.out rfl (by kernel_rfl) (fun _ _ _ h => h) (yield_hold (fun _ h => range_below HR.out h.bel HC.out) _ rfl rfl rfl) ?_
      (try simp only [Act.put, List.setIfInBounds_toArray, List.set_cons_zero, List.set_cons_succ])
      refine Draws.take 4 (v := ?v4) HS.out rfl (by kernel_rfl) (fun _ _ _ h => h) (Or.inl ⟨rfl, ?h4⟩) ?r4
      case h4 => intro w' hw'; go_simp; (try with_reducible rfl)
      (try simp only [Act.put, List.setIfInBounds_toArray, List.set_cons_zero, List.set_cons_succ])
      refine Draws.take 5 (v := ?v5) HS.out rfl (by kernel_rfl) (fun _ _ _ h => h) (Or.inl ⟨rfl, ?h5⟩) ?r5
      case h5 => intro w' hw'; go_simp; (try with_reducible rfl)
      (try simp only [Act.put, List.setIfInBounds_toArray, List.set_cons_zero, List.set_cons_succ])
      refine Draws.take 6 (v := ?v6) HS.out rfl (by kernel_rfl) (fun _ _ _ h => h) (Or.inl ⟨rfl, ?h6⟩) ?r6
      case h6 => intro w' hw'; go_simp; (try with_reducible rfl)
      (try simp only [Act.put, List.setIfInBounds_toArray, List.set_cons_zero, List.set_cons_succ])
      refine Draws.take 7 HS.out rfl (by kernel_rfl) (fun _ _ _ h => h) (yield_hold (fun _ h => range_below HR2.out h.bel HC2.out) _ rfl rfl rfl) ?_
      (try simp only [Act.put, List.setIfInBounds_toArray, List.set_cons_zero, List.set_cons_succ])
      refine Draws.take 8 HS.out rfl (by kernel_rfl) (fun _ _ _ h => h) (yield_neqh (Ho.same _) _ _ _ rfl rfl rfl rfl) ?_
      (try simp only [Act.put, List.setIfInBounds_toArray, List.set_cons_zero, List.set_cons_succ])
      refine Draws.done (by kernel_rfl) ?_
      clear HS
      go_wp2
      go_roundw
      case rel => exact ⟨m + 1, by omega, by go_num, HK.out⟩
      case measure => simp [intOf]; omega
    · obtain rfl : m = n := by omega
      go_wp2
      go_ret
      exact ⟨rfl, HK.out.bel⟩
set_option maxHeartbeats 2000000 in
theorem fsame_any (p : Pf) (hp : p.full) (A : Option Addr) (c : Nat) (w : World) (hd : Row w A p.hs.length p.hs) :
    Calls Tryz.prog 19 #[.agg (p.fd A c).cells.toArray, .agg (p.fd A c).cells.toArray] w fun e w' => e = .returned (.bool true) ∧ Below w.heap.size w w' := by
  have HK := Lib.hid (KeepF.start (w := w) (rows := [(A, p.hs.length, p.hs)]) (by simpa using hd))
  have HF := Lib.hid hp; clear hp
  go_enter Tryz.func19, Tryz.ntmps19
  go_wp2_with (first
    | (with_reducible refine box_f HK.out rfl _ rfl rfl ?_; intro b1 u hk; clear HK; have HK := Lib.hid hk; clear hk; with_reducible refine box_f HK.out rfl _ rfl rfl ?_; intro b2 u hk; clear HK; have HK := Lib.hid hk; clear hk))
  refine Draws.start (S := fun u => KeepF w [(b2, 33, (p.fd A c).cells), (b1, 33, (p.fd A c).cells)] [(A, p.hs.length, p.hs)] u) (n := 27) 27 rfl (by kernel_rfl) ?_
  have hk := HK.out.drew
  clear HK; have HK := Lib.hid hk; clear hk
  have HS := Lib.hid (show (fun u => KeepF w [(b2, 33, (p.fd A c).cells), (b1, 33, (p.fd A c).cells)] [(A, p.hs.length, p.hs)] u) _ from HK.out)
  refine Draws.take 0 HS.out rfl (by kernel_rfl) (fun _ _ _ h => h) (yield_fr (fun _ h => h) 1 Tryz.underlying33 rfl (Pf.infoF HF.out) _ rfl rfl rfl rfl Pf.all) ?_
  (try simp only [Act.put, List.setIfInBounds_toArray, List.set_cons_zero, List.set_cons_succ])
  refine Draws.take 2 HS.out rfl (by kernel_rfl) (fun _ _ _ h => h) (yield_fr (fun _ h => h) 0 Tryz.underlying33 rfl (Pf.infoF HF.out) _ rfl rfl rfl rfl Pf.all) ?_
  (try simp only [Act.put, List.setIfInBounds_toArray, List.set_cons_zero, List.set_cons_succ])
  refine Draws.does 1 rfl (by kernel_rfl) rfl (fun K hK => ?_)
  go_simp
  go_at_call 53
  refine (head_any p HF.out A c _).mono ?_
  rintro e u ⟨rfl, hb⟩
  (try dsimp only)
  have hk := HK.out.call hb; clear hb; clear HK; have HK := Lib.hid hk; clear hk
  refine hK.out _ _ (fun _ => HK.out) ?_
  clear hK K
  have hs : (fun u => KeepF w [(b2, 33, (p.fd A c).cells), (b1, 33, (p.fd A c).cells)] [(A, p.hs.length, p.hs)] u) u := HK.out
  clear HS
  have HS := Lib.hid hs; clear hs
  (try simp only [Act.put, List.setIfInBounds_toArray, List.set_cons_zero, List.set_cons_succ])
  refine Draws.does 3 rfl (by kernel_rfl) rfl (fun K hK => ?_)
  go_simp
  go_at_call 53
  refine (head_any p HF.out A c _).mono ?_
  rintro e u ⟨rfl, hb⟩
  (try dsimp only)
  have hk := HK.out.call hb; clear hb; clear HK; have HK := Lib.hid hk; clear hk
  refine hK.out _ _ (fun _ => HK.out) ?_
  clear hK K
  have hs : (fun u => KeepF w [(b2, 33, (p.fd A c).cells), (b1, 33, (p.fd A c).cells)] [(A, p.hs.length, p.hs)] u) u := HK.out
  clear HS
  have HS := Lib.hid hs; clear hs
  (try simp only [Act.put, List.setIfInBounds_toArray, List.set_cons_zero, List.set_cons_succ])
  refine Draws.take 4 HS.out rfl (by kernel_rfl) (fun _ _ _ h => h) (yield_eqv hd_guard (eql_hd p) _ _ _ rfl rfl rfl rfl) ?_
  (try simp only [Act.put, List.setIfInBounds_toArray, List.set_cons_zero, List.set_cons_succ])
  refine Draws.take 5 (v := ?v7) HS.out rfl (by kernel_rfl) (fun _ _ _ h => h) (Or.inl ⟨rfl, ?h7⟩) ?r7
  case h7 => intro w' hw'; go_simp; (try with_reducible rfl)
  (try simp only [Act.put, List.setIfInBounds_toArray, List.set_cons_zero, List.set_cons_succ])
  refine Draws.take 6 (v := ?v8) HS.out rfl (by kernel_rfl) (fun _ _ _ h => h) (Or.inl ⟨rfl, ?h8⟩) ?r8
  case h8 => intro w' hw'; go_simp; (try with_reducible rfl)
  (try simp only [Act.put, List.setIfInBounds_toArray, List.set_cons_zero, List.set_cons_succ])
  refine Draws.take 7 HS.out rfl (by kernel_rfl) (fun _ _ _ h => h) (yield_fr (fun _ h => h) 1 Tryz.underlying28 rfl (Pf.infoC HF.out) _ rfl rfl rfl rfl Pf.cC) ?_
  (try simp only [Act.put, List.setIfInBounds_toArray, List.set_cons_zero, List.set_cons_succ])
  refine Draws.take 8 (v := ?v9) HS.out rfl (by kernel_rfl) (fun _ _ _ h => h) (Or.inl ⟨rfl, ?h9⟩) ?r9
  case h9 => intro w' hw'; go_simp; (try with_reducible rfl)
  (try simp only [Act.put, List.setIfInBounds_toArray, List.set_cons_zero, List.set_cons_succ])
  refine Draws.take 9 HS.out rfl (by kernel_rfl) (fun _ _ _ h => h) (yield_fr (fun _ h => h) 0 Tryz.underlying28 rfl (Pf.infoC HF.out) _ rfl rfl rfl rfl Pf.cC) ?_
  (try simp only [Act.put, List.setIfInBounds_toArray, List.set_cons_zero, List.set_cons_succ])
  refine Draws.take 10 HS.out rfl (by kernel_rfl) (fun _ _ _ h => h) (yield_eqv c_guardF (c_same _ HF.out) _ _ _ rfl rfl rfl rfl) ?_
  (try simp only [Act.put, List.setIfInBounds_toArray, List.set_cons_zero, List.set_cons_succ])
  refine Draws.take 11 (v := ?v10) HS.out rfl (by kernel_rfl) (fun _ _ _ h => h) (Or.inl ⟨rfl, ?h10⟩) ?r10
  case h10 => intro w' hw'; go_simp; (try with_reducible rfl)
  (try simp only [Act.put, List.setIfInBounds_toArray, List.set_cons_zero, List.set_cons_succ])
  refine Draws.take 12 (v := ?v11) HS.out rfl (by kernel_rfl) (fun _ _ _ h => h) (Or.inl ⟨rfl, ?h11⟩) ?r11
  case h11 => intro w' hw'; go_simp; (try with_reducible rfl)
  (try simp only [Act.put, List.setIfInBounds_toArray, List.set_cons_zero, List.set_cons_succ])
  refine Draws.take 13 (v := ?v12) HS.out rfl (by kernel_rfl) (fun _ _ _ h => h) (Or.inl ⟨rfl, ?h12⟩) ?r12
  case h12 => intro w' hw'; go_simp; (try with_reducible rfl)
  (try simp only [Act.put, List.setIfInBounds_toArray, List.set_cons_zero, List.set_cons_succ])
  refine Draws.take 14 HS.out rfl (by kernel_rfl) (fun _ _ _ h => h) (yield_fr (fun _ h => h) 1 Tryz.underlying30 rfl (l_infoF _) _ rfl rfl rfl rfl (Pf.cL HF.out)) ?_
  (try simp only [Act.put, List.setIfInBounds_toArray, List.set_cons_zero, List.set_cons_succ])
  refine Draws.take 15 (v := ?v13) HS.out rfl (by kernel_rfl) (fun _ _ _ h => h) (Or.inl ⟨rfl, ?h13⟩) ?r13
  case h13 => intro w' hw'; go_simp; (try with_reducible rfl)
  (try simp only [Act.put, List.setIfInBounds_toArray, List.set_cons_zero, List.set_cons_succ])
  refine Draws.take 16 HS.out rfl (by kernel_rfl) (fun _ _ _ h => h) (yield_fr (fun _ h => h) 0 Tryz.underlying30 rfl (l_infoF _) _ rfl rfl rfl rfl (Pf.cL HF.out)) ?_
  (try simp only [Act.put, List.setIfInBounds_toArray, List.set_cons_zero, List.set_cons_succ])
  refine Draws.take 17 HS.out rfl (by kernel_rfl) (fun _ _ _ h => h) (yield_eqv lk_guard (l_same _) _ _ _ rfl rfl rfl rfl) ?_
  (try simp only [Act.put, List.setIfInBounds_toArray, List.set_cons_zero, List.set_cons_succ])
  refine Draws.take 18 (v := ?v14) HS.out rfl (by kernel_rfl) (fun _ _ _ h => h) (Or.inl ⟨rfl, ?h14⟩) ?r14
  case h14 => intro w' hw'; go_simp; (try with_reducible rfl)
  (try simp only [Act.put, List.setIfInBounds_toArray, List.set_cons_zero, List.set_cons_succ])
  refine Draws.take 19 (v := ?v15) HS.out rfl (by kernel_rfl) (fun _ _ _ h => h) (Or.inl ⟨rfl, ?h15⟩) ?r15
  case h15 => intro w' hw'; go_simp; (try with_reducible rfl)
  (try simp only [Act.put, List.setIfInBounds_toArray, List.set_cons_zero, List.set_cons_succ])
  refine Draws.take 20 (v := ?v16) HS.out rfl (by kernel_rfl) (fun _ _ _ h => h) (Or.inl ⟨rfl, ?h16⟩) ?r16
  case h16 => intro w' hw'; go_simp; (try with_reducible rfl)
  (try simp only [Act.put, List.setIfInBounds_toArray, List.set_cons_zero, List.set_cons_succ])
  refine Draws.take 21 HS.out rfl (by kernel_rfl) (fun _ _ _ h => h) (yield_c cbH (fun _ h => h.cellAt 1 rfl (Pf.cH HF.out)) _ rfl rfl rfl) ?_
  (try simp only [Act.put, List.setIfInBounds_toArray, List.set_cons_zero, List.set_cons_succ])
  refine Draws.take 22 (v := ?v17) HS.out rfl (by kernel_rfl) (fun _ _ _ h => h) (Or.inl ⟨rfl, ?h17⟩) ?r17
  case h17 => intro w' hw'; go_simp; (try with_reducible rfl)
  (try simp only [Act.put, List.setIfInBounds_toArray, List.set_cons_zero, List.set_cons_succ])
  refine Draws.take 23 HS.out rfl (by kernel_rfl) (fun _ _ _ h => h) (yield_c cbH (fun _ h => h.cellAt 0 rfl (Pf.cH HF.out)) _ rfl rfl rfl) ?_
  (try simp only [Act.put, List.setIfInBounds_toArray, List.set_cons_zero, List.set_cons_succ])
  refine Draws.does 24 rfl (by kernel_rfl) rfl (fun K hK => ?_)
  go_simp
  go_at_call 54
  refine (equal_any A A c c p.hs _ (HK.out.rowAt 0 rfl) (HK.out.rowAt 0 rfl)).mono ?_
  rintro e u ⟨rfl, hb⟩
  (try dsimp only)
  have hk := HK.out.call hb; clear hb; clear HK; have HK := Lib.hid hk; clear hk
  refine hK.out _ _ (fun _ => HK.out) ?_
  clear hK K
  have hs : (fun u => KeepF w [(b2, 33, (p.fd A c).cells), (b1, 33, (p.fd A c).cells)] [(A, p.hs.length, p.hs)] u) u := HK.out
  clear HS
  have HS := Lib.hid hs; clear hs
  (try simp only [Act.put, List.setIfInBounds_toArray, List.set_cons_zero, List.set_cons_succ])
  refine Draws.take 25 (v := ?v18) HS.out rfl (by kernel_rfl) (fun _ _ _ h => h) (Or.inl ⟨rfl, ?h18⟩) ?r18
  case h18 => intro w' hw'; go_simp; (try with_reducible rfl)
  (try simp only [Act.put, List.setIfInBounds_toArray, List.set_cons_zero, List.set_cons_succ])
  refine Draws.take 26 (v := ?v19) HS.out rfl (by kernel_rfl) (fun _ _ _ h => h) (Or.inl ⟨rfl, ?h19⟩) ?r19
  case h19 => intro w' hw'; go_simp; (try with_reducible rfl)
  (try simp only [Act.put, List.setIfInBounds_toArray, List.set_cons_zero, List.set_cons_succ])
  refine Draws.done (by kernel_rfl) ?_
  clear HS
  go_wp2
  go_ret
  exact ⟨rfl, HK.out.bel⟩
theorem Pf.cHn {p : Pf} {A : Option Addr} {c n : Nat} (h : p.full) (hn : p.hs.length = n) : (p.fd A c).cells[586]? = some (.slice A n c) := by subst hn; exact Pf.cH h
set_option maxHeartbeats 4000000 in
theorem rsame_any (p : Pf) (hp : p.full) (A B : Option Addr) (c d : Nat) (w : World) (h1 : Row w A p.hs.length p.hs) (h2 : Row w B p.hs.length p.hs) :
    Calls Tryz.prog 23 #[.agg (p.fd A c).cells.toArray, .agg (p.fd B d).cells.toArray] w fun e w' => e = .returned (.bool true) ∧ Below w.heap.size w w' := by
  have HCL := Lib.hid (show p.C.length = 579 from hp)
  have HF := Lib.hid hp; clear hp
  obtain ⟨n, hn⟩ : ∃ n, p.hs.length = n := ⟨_, rfl⟩
  have HL := Lib.hid hn
  rw [hn] at h1 h2
  have HK := Lib.hid (KeepF.start (w := w) (rows := [(A, n, p.hs), (B, n, p.hs)]) (by simpa using ⟨h1, h2⟩))
  have HD := Lib.hid h1; have HE := Lib.hid h2; have HNB := Lib.hid h1.2.1
  clear h1 h2 hn
  go_enter Tryz.func23, Tryz.ntmps23
  go_wp2_with (first
    | (with_reducible refine box_f HK.out rfl _ rfl rfl ?_; intro b1 u hk; clear HK; have HK := Lib.hid hk; clear hk; with_reducible refine box_f HK.out rfl _ rfl rfl ?_; intro b2 u hk; clear HK; have HK := Lib.hid hk; clear hk)
    | (with_reducible refine load_f1 HK.out 1 cbS _ rfl rfl rfl rfl Pf.cn ?_)
    | (with_reducible refine load_f1 HK.out 0 cbS _ rfl rfl rfl rfl Pf.cn ?_)
    | (with_reducible refine load_f1 HK.out 1 cbI _ rfl rfl rfl rfl Pf.ck ?_)
    | (with_reducible refine load_f1 HK.out 0 cbI _ rfl rfl rfl rfl Pf.ck ?_)
    | (with_reducible refine load_f1 HK.out 1 cbI _ rfl rfl rfl rfl Pf.ce ?_)
    | (with_reducible refine load_f1 HK.out 0 cbI _ rfl rfl rfl rfl Pf.ce ?_)
    | (with_reducible refine load_fr HK.out 1 Tryz.underlying28 rfl (Pf.infoC HF.out) _ rfl rfl rfl rfl Pf.cC ?_)
    | (with_reducible refine load_fr HK.out 0 Tryz.underlying28 rfl (Pf.infoC HF.out) _ rfl rfl rfl rfl Pf.cC ?_)
    | (with_reducible refine load_fr HK.out 1 Tryz.underlying30 rfl (l_infoF _) _ rfl rfl rfl rfl (Pf.cL HF.out) ?_)
    | (with_reducible refine load_fr HK.out 0 Tryz.underlying30 rfl (l_infoF _) _ rfl rfl rfl rfl (Pf.cL HF.out) ?_)
    | (with_reducible refine load_f1 HK.out 1 cbH _ rfl rfl rfl rfl (Pf.cHn HF.out HL.out) ?_)
    | (with_reducible refine load_f1 HK.out 0 cbH _ rfl rfl rfl rfl (Pf.cHn HF.out HL.out) ?_)
    | (with_reducible refine neq_same c_guardF (c_same _ HCL.out) _ _ _ rfl rfl rfl rfl ?_)
    | (with_reducible refine neq_same lk_guard (l_same _) _ _ _ rfl rfl rfl rfl ?_))
  go_loopw [5] (fun i wr => ∃ m : Nat, m ≤ n ∧ i = .int .i64 m ∧ KeepF w [(b2, 33, (p.fd B d).cells), (b1, 33, (p.fd A c).cells)] [(A, n, p.hs), (B, n, p.hs)] wr) (fun i _ => n - (intOf i).toNat)
  case atStart => exact ⟨0, by omega, rfl, HK.out⟩
  case round =>
    obtain ⟨m, hm, rfl, hk⟩ := hrel
    clear HK; have HK := Lib.hid hk; clear hk
    have hnb := HNB.out
    by_cases hlt : m < n
    · obtain ⟨g1, o1, rfl, hr1⟩ := HD.out.at hlt
      obtain ⟨g2, o2, rfl, hr2⟩ := HE.out.at hlt
      have hm1 := hr1 m hlt
      have hm2 := hr2 m hlt
      clear hr1 hr2
      generalize p.hs.getD m z5 = h at hm1 hm2
      have HR := Lib.hid hm1; have HC := Lib.hid (range_lt hm1)
      have HR2 := Lib.hid hm2; have HC2 := Lib.hid (range_lt hm2)
      clear hm1 hm2
      have i1 : (0 : Int) ≤ (m : Int) := by omega
      have i2 : (m : Int) < (n : Int) := by omega
      go_wp2_with (first
        | (with_reducible refine load_f1 HK.out 1 cbH _ rfl rfl rfl rfl (Pf.cHn HF.out HL.out) ?_)
        | (with_reducible refine load_f1 HK.out 0 cbH _ rfl rfl rfl rfl (Pf.cHn HF.out HL.out) ?_))
      refine Draws.start (S := fun u => KeepF w [(b2, 33, (p.fd (some ⟨g2, o2, none⟩) d).cells), (b1, 33, (p.fd (some ⟨g1, o1, none⟩) c).cells)] [(some ⟨g1, o1, none⟩, n, p.hs), (some ⟨g2, o2, none⟩, n, p.hs)] u) (n := 11) 11 rfl (by kernel_rfl) ?_
      have hk := HK.out.drew
      clear HK; have HK := Lib.hid hk; clear hk
      have HS := Lib.hid (show (fun u => KeepF w [(b2, 33, (p.fd (some ⟨g2, o2, none⟩) d).cells), (b1, 33, (p.fd (some ⟨g1, o1, none⟩) c).cells)] [(some ⟨g1, o1, none⟩, n, p.hs), (some ⟨g2, o2, none⟩, n, p.hs)] u) _ from HK.out)
      refine Draws.take 0 (v := ?v20) HS.out rfl (by kernel_rfl) (fun _ _ _ h => h) (Or.inl ⟨rfl, ?h20⟩) ?r20
      case h20 => intro w' hw'; go_simp; (try with_reducible rfl)
      (try simp only [Act.put, List.setIfInBounds_toArray, List.set_cons_zero, List.set_cons_succ])
      refine Draws.take 1 HS.out rfl (by kernel_rfl) (fun _ _ _ h => h) (yield_c cbH (fun _ h => h.cellAt 1 rfl (Pf.cHn HF.out HL.out)) _ rfl rfl rfl) ?_
      (try simp only [Act.put, List.setIfInBounds_toArray, List.set_cons_zero, List.set_cons_succ])
      refine Draws.take 2 (v := ?v21) HS.out rfl (by kernel_rfl) (fun _ _ _ h => h) (Or.inl ⟨rfl, ?h21⟩) ?r21
      case h21 => intro w' hw'; go_simp; (try with_reducible rfl)
      (try simp only [Act.put, List.setIfInBounds_toArray, List.set_cons_zero, List.set_cons_succ])
      refine Draws.take 3 (v := ?v22) HS.out rfl (by kernel_rfl) (fun _ _ _ h => h) (Or.inl ⟨rfl, ?h22⟩) ?r22
      case h22 => intro w' hw'; go_simp; (try with_reducible rfl)
      (try simp only [Act.put, List.setIfInBounds_toArray, List.set_cons_zero, List.set_cons_succ])
      refine Draws.take 4 HS.out rfl (by kernel_rfl) (fun _ _ _ h => h) (yield_hold (fun _ h => range_below HR.out h.bel HC.out) _ rfl rfl rfl) ?_
      (try simp only [Act.put, List.setIfInBounds_toArray, List.set_cons_zero, List.set_cons_succ])
      refine Draws.take 5 (v := ?v23) HS.out rfl (by kernel_rfl) (fun _ _ _ h => h) (Or.inl ⟨rfl, ?h23⟩) ?r23
      case h23 => intro w' hw'; go_simp; (try with_reducible rfl)
      (try simp only [Act.put, List.setIfInBounds_toArray, List.set_cons_zero, List.set_cons_succ])
      refine Draws.take 6 HS.out rfl (by kernel_rfl) (fun _ _ _ h => h) (yield_c cbH (fun _ h => h.cellAt 0 rfl (Pf.cHn HF.out HL.out)) _ rfl rfl rfl) ?_
      (try simp only [Act.put, List.setIfInBounds_toArray, List.set_cons_zero, List.set_cons_succ])
      refine Draws.take 7 (v := ?v24) HS.out rfl (by kernel_rfl) (fun _ _ _ h => h) (Or.inl ⟨rfl, ?h24⟩) ?r24
      case h24 => intro w' hw'; go_simp; (try with_reducible rfl)
      (try simp only [Act.put, List.setIfInBounds_toArray, List.set_cons_zero, List.set_cons_succ])
      refine Draws.take 8 (v := ?v25) HS.out rfl (by kernel_rfl) (fun _ _ _ h => h) (Or.inl ⟨rfl, ?h25⟩) ?r25
      case h25 => intro w' hw'; go_simp; (try with_reducible rfl)
      (try simp only [Act.put, List.setIfInBounds_toArray, List.set_cons_zero, List.set_cons_succ])
      refine Draws.take 9 HS.out rfl (by kernel_rfl) (fun _ _ _ h => h) (yield_hold (fun _ h => range_below HR2.out h.bel HC2.out) _ rfl rfl rfl) ?_
      (try simp only [Act.put, List.setIfInBounds_toArray, List.set_cons_zero, List.set_cons_succ])
      refine Draws.take 10 HS.out rfl (by kernel_rfl) (fun _ _ _ h => h) (yield_neqh (Ho.same _) _ _ _ rfl rfl rfl rfl) ?_
      (try simp only [Act.put, List.setIfInBounds_toArray, List.set_cons_zero, List.set_cons_succ])
      refine Draws.done (by kernel_rfl) ?_
      clear HS
      go_wp2
      go_roundw
      case rel => exact ⟨m + 1, by omega, by go_num, HK.out⟩
      case measure => simp [intOf]; omega
    · obtain rfl : m = n := by omega
      go_wp2_with (first
        | (with_reducible refine load_f1 HK.out 1 cbH _ rfl rfl rfl rfl (Pf.cHn HF.out HL.out) ?_)
        | (with_reducible refine load_f1 HK.out 0 cbH _ rfl rfl rfl rfl (Pf.cHn HF.out HL.out) ?_))
      go_ret
      exact ⟨rfl, HK.out.bel⟩
end Go.Proofs.YtbaccghnneidgaaGreat
