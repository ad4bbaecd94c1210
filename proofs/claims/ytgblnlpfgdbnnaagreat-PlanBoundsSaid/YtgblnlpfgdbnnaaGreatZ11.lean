/- Contracts of counter.Value and of the document's Value.; Contracts of hold.Rights and the document's Rights.; Contracts of the changes that field.Reserve and End hand to changed.; Contracts of the document's Add, Hand, Write, Pass, Reserve, End and Expire of fields, with layer 5's Write and Pass.; Plain arithmetic of layer 6, on: joining hangs on no order, nor on how often. No program is spoken of here. -/
import Derived.Test.YtgblnlpfgdbnnaaGreatZ10
import Derived.Lib.SliceRun
import Derived.Maps.OwnSet
import Derived.Maps.Views
import Derived.DeepKeys4
import Derived.Shelf.SlSortCmp.WholeK
import Derived.Shelf.SlSortCmp.NoneTotal
namespace Go.Proofs.YtgblnlpfgdbnnaaGreat
set_option maxRecDepth 100000
open Go.ChangeShapes Go.WideShapes Go.ChangeAt Go.RowKit

theorem wp_append_ints {w : World} {o : Oper} {a : Act} {K : Act → World → Prop} {Q : Exit → Act → World → Prop} (s x : Operand)
    (ho : o.op = .call { callee := .builtin .append, args := #[s, x], argTypes := #[63, 63] })
    (base : Nat) (v : Value) (n : Nat) (xs : List Int) (hs : a.eval s = v) (hown : w.ownsRow base 3 1 v n (vals xs))
    (A : Option Addr) (m c : Nat) (zs : List Int) (hx : a.eval x = .slice A m c) (hr : Reads w A m zs) (h63 : n + m ≤ 1048576) (hbase : base ≤ w.heap.size)
    (h : ∀ v' w', w'.ownsRow base 3 1 v' (n + m) (vals (xs ++ zs)) → w.grownBy w' v.ownBlock → K (a.put o.dst v') w') : o.wp Tryz.prog a w K Q := by
  obtain ⟨v', w', hrun, h2, h3, h4⟩ := append_ints w base o.type v n xs hown A m c zs hr h63 hbase
  unfold Oper.wp execOp
  simp only [ho, resolve, invoke, builtin, Sem.run_bind, Sem.run_pure, Result.andThen_ok, List.map_toArray, List.map_cons, List.map_nil, hs, hx, hrun]
  exact h v' w' h2 h3
/-- What comes of taking numbers off, one by one. -/
theorem less_step {D : List Int} (hD : ∀ z ∈ D, -9223372036854775808 ≤ z ∧ z ≤ 9223372036854775807) {m : Nat} (hm : m < D.length) {s : Int} :
    sumFrom s ((negs D).drop m) = if okB s (D.getD m 0) (s - D.getD m 0) = true then sumFrom (s - D.getD m 0) ((negs D).drop (m + 1)) else none := by
  have hz := hD (D.getD m 0) (by simp [List.getD, hm])
  rw [sumFrom_step (by rw [negs_length]; exact hm), negs_get hm, ok_ng hz.1 hz.2]
  split
  · rename_i h; rw [ng_ok h]
  · rfl
set_option maxRecDepth 100000 in
set_option maxHeartbeats 2000000 in
theorem val1_some (C : List Int) (hC : C.length = 579) (hD : ∀ z ∈ seg C 19 16, -9223372036854775808 ≤ z ∧ z ≤ 9223372036854775807) (bc : Nat) (w : World) (hB : Blk w bc 38 C) (r : Int) (hs : sumFrom 0 (valL C) = some r) :
    Calls Tryz.prog 101 #[.pointer (some ⟨bc, 0, none⟩)] w fun e w' => e = .returned (.int .i64 r) ∧ Below w.heap.size w w' := by
  have HU := Lib.hid (reads_seg hB (o := 307) (n := 16) (by omega) (by omega))
  have HX := Lib.hid (seg_length (R := C) (o := 307) (n := 16) (by omega))
  have HY := Lib.hid (seg_length (R := C) (o := 19) (n := 16) (by omega))
  have HI := Lib.hid (hB.cell (k := 0) (by omega))
  have HRG := Lib.hid (hB.seg (o := 19) (n := 16) (by omega))
  have HLT := Lib.hid hB.lt
  have HDD := Lib.hid hD
  have HC := Lib.hid hC
  clear hB hD hC
  have HK := Lib.hid (KeepR.start w)
  have hvl : valL C = (C.getD 0 0 :: seg C 307 16) ++ negs (seg C 19 16) := rfl
  rw [hvl, sumFrom_append] at hs
  clear hvl
  have hsm := fun A c W (hr : Reads W A (1 + 16) (C.getD 0 0 :: seg C 307 16)) => sum_any A (1 + 16) c (C.getD 0 0 :: seg C 307 16) W hr
  cases h1 : sumFrom 0 (C.getD 0 0 :: seg C 307 16) with
  | none => rw [h1] at hs; cases hs
  | some s1 =>
    rw [h1] at hs
    have HS2 := Lib.hid (show sumFrom s1 (negs (seg C 19 16)) = some r from hs)
    obtain ⟨a1, a2⟩ := sumN_some h1
    rw [a1, a2] at hsm
    clear hs h1 a1 a2
    go_enter Tryz.func101, Tryz.ntmps101
    go_wp2
    refine Draws.start (S := fun u => KeepR w [] u) (n := 12) 12 rfl (by kernel_rfl) ?_
    have HS := Lib.hid ((HK.out.drew : (fun u => KeepR w [] u) _))
    refine Draws.take 0 (v := ?v1) HS.out rfl (by kernel_rfl) (fun _ _ _ h => h) (Or.inl ⟨rfl, ?h1⟩) ?r1
    case h1 => intro w' hw'; go_simp; (try with_reducible rfl)
    (try simp only [Act.put, lsA, lsB, lsC])
    refine Draws.take 1 (v := ?v2) HS.out rfl (by kernel_rfl) (fun _ _ _ h => h) (Or.inl ⟨rfl, ?h2⟩) ?r2
    case h2 => intro w' hw'; have hc1 := (hw'.bel.cell (cell_lt HI.out)).trans HI.out; go_simp; (try with_reducible rfl)
    (try simp only [Act.put, lsA, lsB, lsC])
    refine Draws.take 3 (v := ?v3) HS.out rfl (by kernel_rfl) (fun _ _ _ h => h) (Or.inl ⟨rfl, ?h3⟩) ?r3
    case h3 => intro w' hw'; go_simp; (try with_reducible rfl)
    (try simp only [Act.put, lsA, lsB, lsC])
    refine Draws.take 4 (v := ?v4) HS.out rfl (by kernel_rfl) (fun _ _ _ h => h) (Or.inl ⟨rfl, ?h4⟩) ?r4
    case h4 => intro w' hw'; go_simp; (try with_reducible rfl)
    (try simp only [Act.put, lsA, lsB, lsC])
    refine Draws.take 5 (v := ?v5) HS.out rfl (by kernel_rfl) (fun _ _ _ h => h) (Or.inl ⟨rfl, ?h5⟩) ?r5
    case h5 => intro w' hw'; go_simp; (try with_reducible rfl)
    (try simp only [Act.put, lsA, lsB, lsC])
    refine Draws.does 2 rfl (by kernel_rfl) rfl (fun K hK => ?_)
    refine wp_build1 HS.out _ rfl rfl ?_
    intro b u hk hb
    have HO := Lib.hid ((hk.get 0 rfl).own (hk.blk _ (List.mem_cons_self ..)).1 (n := 1) rfl (by omega))
    have hk1 := hk.tail
    refine hK.out _ _ (fun _ => hk1) ?_
    clear hK K
    have hs : (fun u => KeepR w [] u) u := hk1
    clear HS
    have HS := Lib.hid hs; clear hs
    (try simp only [Act.put, lsA, lsB, lsC])
    clear hk hb hk1
    refine Draws.does 6 rfl (by kernel_rfl) rfl (fun K hK => ?_)
    refine wp_append_ints _ _ rfl w.heap.size _ 1 [C.getD 0 0] rfl HO.out _ 16 16 (seg C 307 16) rfl (reads_below HS.out.bel HU.out) (by omega) HS.out.bel.size ?_
    intro v' u ho hg
    have hk1 := HS.out.grown HO.out (by simp) hg
    simp only [List.cons_append, List.nil_append] at ho
    obtain ⟨A, c, rfl⟩ := own_slice ho
    have HV := Lib.hid (own_reads ho (by omega)).1
    refine hK.out _ _ (fun _ => hk1) ?_
    clear hK K
    have hs : (fun u => KeepR w [] u) u := hk1
    clear HS
    have HS := Lib.hid hs; clear hs
    (try simp only [Act.put, lsA, lsB, lsC])
    clear ho hg hk1 HO
    refine Draws.does 7 rfl (by kernel_rfl) rfl (fun K hK => ?_)
    go_simp
    go_at_call 30
    refine (hsm A c _ HV.out).mono ?_
    rintro e u ⟨rfl, hb⟩
    (try dsimp only)
    refine hK.out _ _ (fun _ => HS.out.call hb) ?_
    clear hK K
    have hs : (fun u => KeepR w [] u) u := HS.out.call hb
    clear HS
    have HS := Lib.hid hs; clear hs
    (try simp only [Act.put, lsA, lsB, lsC])
    clear hb HV
    refine Draws.take 8 (v := ?v6) HS.out rfl (by kernel_rfl) (fun _ _ _ h => h) (Or.inl ⟨rfl, ?h6⟩) ?r6
    case h6 => intro w' hw'; go_simp; (try with_reducible rfl)
    (try simp only [Act.put, lsA, lsB, lsC])
    refine Draws.take 9 (v := ?v7) HS.out rfl (by kernel_rfl) (fun _ _ _ h => h) (Or.inl ⟨rfl, ?h7⟩) ?r7
    case h7 => intro w' hw'; go_simp; (try with_reducible rfl)
    (try simp only [Act.put, lsA, lsB, lsC])
    refine Draws.does 10 rfl (by kernel_rfl) rfl (fun K hK => ?_)
    go_simp
    go_at_call 63
    refine (must_ok _ _).mono ?_
    rintro e u ⟨rfl, rfl⟩
    (try dsimp only)
    refine hK.out _ _ (fun _ => HS.out) ?_
    clear hK K
    have hs : (fun u => KeepR w [] u) _ := HS.out
    clear HS
    have HS := Lib.hid hs; clear hs
    (try simp only [Act.put, lsA, lsB, lsC])
    refine Draws.take 11 (v := ?v8) HS.out rfl (by kernel_rfl) (fun _ _ _ h => h) (Or.inl ⟨rfl, ?h8⟩) ?r8
    case h8 => intro w' hw'; go_simp; (try with_reducible rfl)
    (try simp only [Act.put, lsA, lsB, lsC])
    refine Draws.done (by kernel_rfl) ?_
    have HK := Lib.hid HS.out; clear HS
    go_wp2_with (first
      | (with_reducible refine wpList_load_mid rfl _ _ rfl _ _ rfl _ _ (range_below HRG.out HK.out.bel HLT.out) Tryz.underlying33 rfl (vec_info_of HY.out) ?_))
    go_loopw [2, 19] (fun v i wr => ∃ (m : Nat) (s : Int), m ≤ 16 ∧ i = .int .i64 m ∧ v = .int .i64 s ∧ sumFrom s ((negs (seg C 19 16)).drop m) = some r ∧ KeepR w [] wr) (fun _ i _ => 16 - (intOf i).toNat)
    case atStart => exact ⟨0, _, by omega, rfl, rfl, by simpa using HS2.out, HK.out⟩
    case round =>
      obtain ⟨m, s, hm, rfl, rfl, hq, hk⟩ := hrel
      clear HK
      have HK := Lib.hid hk; have HQ := Lib.hid hq
      clear hk hq
      by_cases hlt : m < 16
      · have hix : ∀ W : World, (Instr.index 33 (.agg (vals (seg C 19 16)).toArray) (.int .i64 (m : Int))).run Tryz.prog W = .ok (.int .i64 ((seg C 19 16).getD m 0)) W := fun W => index_vec HY.out hlt W
        have hst := less_step (s := s) HDD.out (m := m) (by rw [HY.out]; exact hlt)
        rw [HQ.out] at hst
        generalize (seg C 19 16).getD m 0 = z at hix hst
        have j1 : (0 : Int) ≤ (m : Int) := by omega
        have j2 : (m : Int) < 16 := by omega
        by_cases hok : okB s z (s - z) = true
        · rw [if_pos hok] at hst
          have HT := Lib.hid hst; clear hst
          obtain ⟨e1, e2⟩ := subE_ok hok
          have HO := Lib.hid hok; clear hok
          go_wp2_with (first
            | (go_at_call 100; refine (sub_any _ _ _).mono ?_; rintro e w' ⟨rfl, rfl⟩; rw [e1, e2])
            | (go_at_call 63; refine (must_ok _ _).mono ?_; rintro e w' ⟨rfl, rfl⟩))
          go_roundw
          case rel => exact ⟨m + 1, s - z, by omega, by go_num, rfl, HT.out.symm, HK.out⟩
          case measure => simp [intOf]; omega
        · have hok : okB s z (s - z) = false := by simpa using hok
          rw [if_neg (by simp [hok])] at hst
          cases hst
      · have hq := HQ.out
        rw [sumFrom_end (by rw [negs_length, HY.out]; omega)] at hq
        obtain rfl : s = r := by simpa using hq
        clear hq HQ
        go_wp2
        go_ret
        exact ⟨rfl, HK.out.bel⟩
set_option maxRecDepth 100000 in
set_option maxHeartbeats 2000000 in
theorem val1_none (C : List Int) (hC : C.length = 579) (hD : ∀ z ∈ seg C 19 16, -9223372036854775808 ≤ z ∧ z ≤ 9223372036854775807) (bc : Nat) (w : World) (hB : Blk w bc 38 C) (hs : sumFrom 0 (valL C) = none) :
    Calls Tryz.prog 101 #[.pointer (some ⟨bc, 0, none⟩)] w fun e w' => e = .panicked [errEntry 2] ∧ Below w.heap.size w w' := by
  have HU := Lib.hid (reads_seg hB (o := 307) (n := 16) (by omega) (by omega))
  have HX := Lib.hid (seg_length (R := C) (o := 307) (n := 16) (by omega))
  have HY := Lib.hid (seg_length (R := C) (o := 19) (n := 16) (by omega))
  have HI := Lib.hid (hB.cell (k := 0) (by omega))
  have HRG := Lib.hid (hB.seg (o := 19) (n := 16) (by omega))
  have HLT := Lib.hid hB.lt
  have HDD := Lib.hid hD
  have HC := Lib.hid hC
  clear hB hD hC
  have HK := Lib.hid (KeepR.start w)
  have hvl : valL C = (C.getD 0 0 :: seg C 307 16) ++ negs (seg C 19 16) := rfl
  rw [hvl, sumFrom_append] at hs
  clear hvl
  have hsm := fun A c W (hr : Reads W A (1 + 16) (C.getD 0 0 :: seg C 307 16)) => sum_any A (1 + 16) c (C.getD 0 0 :: seg C 307 16) W hr
  cases h1 : sumFrom 0 (C.getD 0 0 :: seg C 307 16) with
  | none =>
    obtain ⟨a1, a2⟩ := sumN_none h1
    rw [a1, a2] at hsm
    clear hs h1 a1 a2
    go_enter Tryz.func101, Tryz.ntmps101
    go_wp2
    refine Draws.start (S := fun u => KeepR w [] u) (n := 12) 12 rfl (by kernel_rfl) ?_
    have HS := Lib.hid ((HK.out.drew : (fun u => KeepR w [] u) _))
    refine Draws.take 0 (v := ?v9) HS.out rfl (by kernel_rfl) (fun _ _ _ h => h) (Or.inl ⟨rfl, ?h9⟩) ?r9
    case h9 => intro w' hw'; go_simp; (try with_reducible rfl)
    (try simp only [Act.put, lsA, lsB, lsC])
    refine Draws.take 1 (v := ?v10) HS.out rfl (by kernel_rfl) (fun _ _ _ h => h) (Or.inl ⟨rfl, ?h10⟩) ?r10
    case h10 => intro w' hw'; have hc1 := (hw'.bel.cell (cell_lt HI.out)).trans HI.out; go_simp; (try with_reducible rfl)
    (try simp only [Act.put, lsA, lsB, lsC])
    refine Draws.take 3 (v := ?v11) HS.out rfl (by kernel_rfl) (fun _ _ _ h => h) (Or.inl ⟨rfl, ?h11⟩) ?r11
    case h11 => intro w' hw'; go_simp; (try with_reducible rfl)
    (try simp only [Act.put, lsA, lsB, lsC])
    refine Draws.take 4 (v := ?v12) HS.out rfl (by kernel_rfl) (fun _ _ _ h => h) (Or.inl ⟨rfl, ?h12⟩) ?r12
    case h12 => intro w' hw'; go_simp; (try with_reducible rfl)
    (try simp only [Act.put, lsA, lsB, lsC])
    refine Draws.take 5 (v := ?v13) HS.out rfl (by kernel_rfl) (fun _ _ _ h => h) (Or.inl ⟨rfl, ?h13⟩) ?r13
    case h13 => intro w' hw'; go_simp; (try with_reducible rfl)
    (try simp only [Act.put, lsA, lsB, lsC])
    refine Draws.does 2 rfl (by kernel_rfl) rfl (fun K hK => ?_)
    refine wp_build1 HS.out _ rfl rfl ?_
    intro b u hk hb
    have HO := Lib.hid ((hk.get 0 rfl).own (hk.blk _ (List.mem_cons_self ..)).1 (n := 1) rfl (by omega))
    have hk1 := hk.tail
    refine hK.out _ _ (fun _ => hk1) ?_
    clear hK K
    have hs : (fun u => KeepR w [] u) u := hk1
    clear HS
    have HS := Lib.hid hs; clear hs
    (try simp only [Act.put, lsA, lsB, lsC])
    clear hk hb hk1
    refine Draws.does 6 rfl (by kernel_rfl) rfl (fun K hK => ?_)
    refine wp_append_ints _ _ rfl w.heap.size _ 1 [C.getD 0 0] rfl HO.out _ 16 16 (seg C 307 16) rfl (reads_below HS.out.bel HU.out) (by omega) HS.out.bel.size ?_
    intro v' u ho hg
    have hk1 := HS.out.grown HO.out (by simp) hg
    simp only [List.cons_append, List.nil_append] at ho
    obtain ⟨A, c, rfl⟩ := own_slice ho
    have HV := Lib.hid (own_reads ho (by omega)).1
    refine hK.out _ _ (fun _ => hk1) ?_
    clear hK K
    have hs : (fun u => KeepR w [] u) u := hk1
    clear HS
    have HS := Lib.hid hs; clear hs
    (try simp only [Act.put, lsA, lsB, lsC])
    clear ho hg hk1 HO
    refine Draws.does 7 rfl (by kernel_rfl) rfl (fun K hK => ?_)
    go_simp
    go_at_call 30
    refine (hsm A c _ HV.out).mono ?_
    rintro e u ⟨rfl, hb⟩
    (try dsimp only)
    refine hK.out _ _ (fun _ => HS.out.call hb) ?_
    clear hK K
    have hs : (fun u => KeepR w [] u) u := HS.out.call hb
    clear HS
    have HS := Lib.hid hs; clear hs
    (try simp only [Act.put, lsA, lsB, lsC])
    clear hb HV
    refine Draws.take 8 (v := ?v14) HS.out rfl (by kernel_rfl) (fun _ _ _ h => h) (Or.inl ⟨rfl, ?h14⟩) ?r14
    case h14 => intro w' hw'; go_simp; (try with_reducible rfl)
    (try simp only [Act.put, lsA, lsB, lsC])
    refine Draws.take 9 (v := ?v15) HS.out rfl (by kernel_rfl) (fun _ _ _ h => h) (Or.inl ⟨rfl, ?h15⟩) ?r15
    case h15 => intro w' hw'; go_simp; (try with_reducible rfl)
    (try simp only [Act.put, lsA, lsB, lsC])
    refine Draws.does 10 rfl (by kernel_rfl) rfl (fun K hK => ?_)
    go_simp
    go_at_call 63
    refine (must_bad _ _ _ (by decide)).mono ?_
    rintro e u ⟨rfl, rfl⟩
    (try dsimp only)
    exact ⟨rfl, rfl, HS.out.bel⟩
  | some s1 =>
    rw [h1] at hs
    have HS2 := Lib.hid (show sumFrom s1 (negs (seg C 19 16)) = none from hs)
    obtain ⟨a1, a2⟩ := sumN_some h1
    rw [a1, a2] at hsm
    clear hs h1 a1 a2
    go_enter Tryz.func101, Tryz.ntmps101
    go_wp2
    refine Draws.start (S := fun u => KeepR w [] u) (n := 12) 12 rfl (by kernel_rfl) ?_
    have HS := Lib.hid ((HK.out.drew : (fun u => KeepR w [] u) _))
    refine Draws.take 0 (v := ?v16) HS.out rfl (by kernel_rfl) (fun _ _ _ h => h) (Or.inl ⟨rfl, ?h16⟩) ?r16
    case h16 => intro w' hw'; go_simp; (try with_reducible rfl)
    (try simp only [Act.put, lsA, lsB, lsC])
    refine Draws.take 1 (v := ?v17) HS.out rfl (by kernel_rfl) (fun _ _ _ h => h) (Or.inl ⟨rfl, ?h17⟩) ?r17
    case h17 => intro w' hw'; have hc1 := (hw'.bel.cell (cell_lt HI.out)).trans HI.out; go_simp; (try with_reducible rfl)
    (try simp only [Act.put, lsA, lsB, lsC])
    refine Draws.take 3 (v := ?v18) HS.out rfl (by kernel_rfl) (fun _ _ _ h => h) (Or.inl ⟨rfl, ?h18⟩) ?r18
    case h18 => intro w' hw'; go_simp; (try with_reducible rfl)
    (try simp only [Act.put, lsA, lsB, lsC])
    refine Draws.take 4 (v := ?v19) HS.out rfl (by kernel_rfl) (fun _ _ _ h => h) (Or.inl ⟨rfl, ?h19⟩) ?r19
    case h19 => intro w' hw'; go_simp; (try with_reducible rfl)
    (try simp only [Act.put, lsA, lsB, lsC])
    refine Draws.take 5 (v := ?v20) HS.out rfl (by kernel_rfl) (fun _ _ _ h => h) (Or.inl ⟨rfl, ?h20⟩) ?r20
    case h20 => intro w' hw'; go_simp; (try with_reducible rfl)
    (try simp only [Act.put, lsA, lsB, lsC])
    refine Draws.does 2 rfl (by kernel_rfl) rfl (fun K hK => ?_)
    refine wp_build1 HS.out _ rfl rfl ?_
    intro b u hk hb
    have HO := Lib.hid ((hk.get 0 rfl).own (hk.blk _ (List.mem_cons_self ..)).1 (n := 1) rfl (by omega))
    have hk1 := hk.tail
    refine hK.out _ _ (fun _ => hk1) ?_
    clear hK K
    have hs : (fun u => KeepR w [] u) u := hk1
    clear HS
    have HS := Lib.hid hs; clear hs
    (try simp only [Act.put, lsA, lsB, lsC])
    clear hk hb hk1
    refine Draws.does 6 rfl (by kernel_rfl) rfl (fun K hK => ?_)
    refine wp_append_ints _ _ rfl w.heap.size _ 1 [C.getD 0 0] rfl HO.out _ 16 16 (seg C 307 16) rfl (reads_below HS.out.bel HU.out) (by omega) HS.out.bel.size ?_
    intro v' u ho hg
    have hk1 := HS.out.grown HO.out (by simp) hg
    simp only [List.cons_append, List.nil_append] at ho
    obtain ⟨A, c, rfl⟩ := own_slice ho
    have HV := Lib.hid (own_reads ho (by omega)).1
    refine hK.out _ _ (fun _ => hk1) ?_
    clear hK K
    have hs : (fun u => KeepR w [] u) u := hk1
    clear HS
    have HS := Lib.hid hs; clear hs
    (try simp only [Act.put, lsA, lsB, lsC])
    clear ho hg hk1 HO
    refine Draws.does 7 rfl (by kernel_rfl) rfl (fun K hK => ?_)
    go_simp
    go_at_call 30
    refine (hsm A c _ HV.out).mono ?_
    rintro e u ⟨rfl, hb⟩
    (try dsimp only)
    refine hK.out _ _ (fun _ => HS.out.call hb) ?_
    clear hK K
    have hs : (fun u => KeepR w [] u) u := HS.out.call hb
    clear HS
    have HS := Lib.hid hs; clear hs
    (try simp only [Act.put, lsA, lsB, lsC])
    clear hb HV
    refine Draws.take 8 (v := ?v21) HS.out rfl (by kernel_rfl) (fun _ _ _ h => h) (Or.inl ⟨rfl, ?h21⟩) ?r21
    case h21 => intro w' hw'; go_simp; (try with_reducible rfl)
    (try simp only [Act.put, lsA, lsB, lsC])
    refine Draws.take 9 (v := ?v22) HS.out rfl (by kernel_rfl) (fun _ _ _ h => h) (Or.inl ⟨rfl, ?h22⟩) ?r22
    case h22 => intro w' hw'; go_simp; (try with_reducible rfl)
    (try simp only [Act.put, lsA, lsB, lsC])
    refine Draws.does 10 rfl (by kernel_rfl) rfl (fun K hK => ?_)
    go_simp
    go_at_call 63
    refine (must_ok _ _).mono ?_
    rintro e u ⟨rfl, rfl⟩
    (try dsimp only)
    refine hK.out _ _ (fun _ => HS.out) ?_
    clear hK K
    have hs : (fun u => KeepR w [] u) _ := HS.out
    clear HS
    have HS := Lib.hid hs; clear hs
    (try simp only [Act.put, lsA, lsB, lsC])
    refine Draws.take 11 (v := ?v23) HS.out rfl (by kernel_rfl) (fun _ _ _ h => h) (Or.inl ⟨rfl, ?h23⟩) ?r23
    case h23 => intro w' hw'; go_simp; (try with_reducible rfl)
    (try simp only [Act.put, lsA, lsB, lsC])
    refine Draws.done (by kernel_rfl) ?_
    have HK := Lib.hid HS.out; clear HS
    go_wp2_with (first
      | (with_reducible refine wpList_load_mid rfl _ _ rfl _ _ rfl _ _ (range_below HRG.out HK.out.bel HLT.out) Tryz.underlying33 rfl (vec_info_of HY.out) ?_))
    go_loopw [2, 19] (fun v i wr => ∃ (m : Nat) (s : Int), m ≤ 16 ∧ i = .int .i64 m ∧ v = .int .i64 s ∧ sumFrom s ((negs (seg C 19 16)).drop m) = none ∧ KeepR w [] wr) (fun _ i _ => 16 - (intOf i).toNat)
    case atStart => exact ⟨0, _, by omega, rfl, rfl, by simpa using HS2.out, HK.out⟩
    case round =>
      obtain ⟨m, s, hm, rfl, rfl, hq, hk⟩ := hrel
      clear HK
      have HK := Lib.hid hk; have HQ := Lib.hid hq
      clear hk hq
      by_cases hlt : m < 16
      · have hix : ∀ W : World, (Instr.index 33 (.agg (vals (seg C 19 16)).toArray) (.int .i64 (m : Int))).run Tryz.prog W = .ok (.int .i64 ((seg C 19 16).getD m 0)) W := fun W => index_vec HY.out hlt W
        have hst := less_step (s := s) HDD.out (m := m) (by rw [HY.out]; exact hlt)
        rw [HQ.out] at hst
        generalize (seg C 19 16).getD m 0 = z at hix hst
        have j1 : (0 : Int) ≤ (m : Int) := by omega
        have j2 : (m : Int) < 16 := by omega
        by_cases hok : okB s z (s - z) = true
        · rw [if_pos hok] at hst
          have HT := Lib.hid hst; clear hst
          obtain ⟨e1, e2⟩ := subE_ok hok
          have HO := Lib.hid hok; clear hok
          go_wp2_with (first
            | (go_at_call 100; refine (sub_any _ _ _).mono ?_; rintro e w' ⟨rfl, rfl⟩; rw [e1, e2])
            | (go_at_call 63; refine (must_ok _ _).mono ?_; rintro e w' ⟨rfl, rfl⟩))
          go_roundw
          case rel => exact ⟨m + 1, s - z, by omega, by go_num, rfl, HT.out.symm, HK.out⟩
          case measure => simp [intOf]; omega
        · have hok : okB s z (s - z) = false := by simpa using hok
          rw [if_neg (by simp [hok])] at hst
          clear hst
          obtain ⟨e1, e2⟩ := subE_no hok
          clear hok
          go_wp2_with (first
            | (go_at_call 100; refine (sub_any _ _ _).mono ?_; rintro e w' ⟨rfl, rfl⟩; rw [e1, e2])
            | (go_at_call 63; refine (must_bad _ _ _ (by decide)).mono ?_; rintro e w' ⟨rfl, rfl⟩))
          exact ⟨rfl, rfl, HK.out.bel⟩
      · have hq := HQ.out
        rw [sumFrom_end (by rw [negs_length, HY.out]; omega)] at hq
        cases hq

theorem vtry_some (C : List Int) (hC : C.length = 579) (hD : ∀ z ∈ seg C 19 16, -9223372036854775808 ≤ z ∧ z ≤ 9223372036854775807) (bc : Nat) (w : World) (hB : Blk w bc 38 C) (s : Int) (hs : sumFrom 0 (valL C) = some s) :
    Calls Tryz.prog 61 #[.func (Fn.func 101) #[] #[.pointer (some ⟨bc, 0, none⟩)]] w fun e w' => e = .returned (.tuple #[.int .i64 s, .int .i64 0]) ∧ Below w.heap.size w w' := by
  have hmf : ∀ (fn : Fn) (first cap : Array Value) (w : World), (Instr.makeFunc fn first cap).run Tryz.prog w = .ok (.func fn first cap) w := fun _ _ _ _ => rfl
  have hen := eq_nil
  have HS := Lib.hid hs; clear hs
  have HC := Lib.hid hC; clear hC
  have HD := Lib.hid hD; clear hD
  have hb1 : Below w.heap.size w (w.alloc (.cells #[.int .i64 0] 27)) := (Below.refl _ _).alloc (Nat.le_refl _) _
  have HE := Lib.hid (Blk.new w 27 [0])
  have HB1 := Lib.hid (hB.alloc (.cells #[.int .i64 0] 27)); clear hB
  have HB := Lib.hid hb1; clear hb1
  go_enter_defers Tryz.func61, Tryz.ntmps61
  go_wp2_with ((go_at_call 101; refine (val1_some C HC.out HD.out bc _ HB1.out s HS.out).mono ?_; rintro e u ⟨rfl, hb2⟩; have HE2 := Lib.hid (HE.out.below hb2 HE.out.lt); have hcc : u.cell? ⟨w.heap.size, 0, none⟩ = some (.int .i64 0) := HE2.out.cell (k := 0) (by simp); have hfz := HE2.out.frozen 0; have HB2 := Lib.hid hb2; clear hb2))
  refine leaves_cons (f := 102) (args := #[.pointer (some ⟨w.heap.size, 0, none⟩)]) (by simp) (by simp [go_sem]) ?_
  refine (door_idle ⟨w.heap.size, 0, none⟩ _).mono ?_
  rintro e u' w'' ⟨rfl, rfl, rfl⟩
  have hce := (HE2.out.setCell 0 0).cell (k := 0) (by simp)
  simp at hce
  simp [Leaves, settle, results, Tryz.results61, go_sem, hce]
  exact (HB.out.trans (HB2.out.mono HB.out.size)).setCell (p := ⟨w.heap.size, 0, none⟩) (Nat.le_refl _) _
theorem vtry_none (C : List Int) (hC : C.length = 579) (hD : ∀ z ∈ seg C 19 16, -9223372036854775808 ≤ z ∧ z ≤ 9223372036854775807) (bc : Nat) (w : World) (hB : Blk w bc 38 C) (hs : sumFrom 0 (valL C) = none) :
    Calls Tryz.prog 61 #[.func (Fn.func 101) #[] #[.pointer (some ⟨bc, 0, none⟩)]] w fun e w' => e = .returned (.tuple #[.int .i64 0, .int .i64 2]) ∧ Below w.heap.size w w' := by
  have hmf : ∀ (fn : Fn) (first cap : Array Value) (w : World), (Instr.makeFunc fn first cap).run Tryz.prog w = .ok (.func fn first cap) w := fun _ _ _ _ => rfl
  have hen := eq_nil
  have HS := Lib.hid hs; clear hs
  have HC := Lib.hid hC; clear hC
  have HD := Lib.hid hD; clear hD
  have hb1 : Below w.heap.size w (w.alloc (.cells #[.int .i64 0] 27)) := (Below.refl _ _).alloc (Nat.le_refl _) _
  have HE := Lib.hid (Blk.new w 27 [0])
  have HB1 := Lib.hid (hB.alloc (.cells #[.int .i64 0] 27)); clear hB
  have HB := Lib.hid hb1; clear hb1
  go_enter_defers Tryz.func61, Tryz.ntmps61
  go_wp2_with ((go_at_call 101; refine (val1_none C HC.out HD.out bc _ HB1.out HS.out).mono ?_; rintro e u ⟨rfl, hb2⟩; have HB2 := Lib.hid hb2; clear hb2))
  have HE2 := Lib.hid (HE.out.below HB2.out HE.out.lt)
  refine leaves_cons (f := 102) (args := #[.pointer (some ⟨w.heap.size, 0, none⟩)]) (by simp) (by simp [go_sem]) ?_
  refine (door_err ⟨w.heap.size, 0, none⟩ (.int .i64 0) 2 [] _ ?_ ?_).mono ?_
  · exact HE2.out.cell (k := 0) (by simp)
  · exact HE2.out.frozen 0
  rintro e u' w'' ⟨rfl, rfl, rfl⟩
  have hce := (HE2.out.setCell 0 2).cell (k := 0) (by simp)
  simp at hce
  simp [Leaves, settle, results, Tryz.results61, go_sem, hce]
  exact (HB.out.trans (HB2.out.mono HB.out.size)).setCell (p := ⟨w.heap.size, 0, none⟩) (Nat.le_refl _) _
theorem value_any (C : List Int) (hC : C.length = 579) (hD : ∀ z ∈ seg C 19 16, -9223372036854775808 ≤ z ∧ z ≤ 9223372036854775807) (w : World) :
    Calls Tryz.prog 60 #[.agg (vals C).toArray] w fun e w' => e = .returned (.tuple #[.int .i64 (sumN (valL C)), .int .i64 (sumE (valL C))]) ∧ Below w.heap.size w w' := by
  have hmf : ∀ (fn : Fn) (first cap : Array Value) (w : World), (Instr.makeFunc fn first cap).run Tryz.prog w = .ok (.func fn first cap) w := fun _ _ _ _ => rfl
  have HC := Lib.hid hC; clear hC
  have HD := Lib.hid hD; clear hD
  have HK := Lib.hid (KeepR.start w)
  cases hs : sumFrom 0 (valL C) with
  | some s =>
    obtain ⟨hN, hE⟩ := sumN_some hs
    rw [hN, hE]; clear hN hE
    have HS := Lib.hid hs; clear hs
    go_enter Tryz.func60, Tryz.ntmps60
    go_wp2_with (first
      | (with_reducible refine box_new (R := C) HK.out rfl _ rfl rfl ?_; intro bc u hk hb; clear hb; clear HK; have HK := Lib.hid hk; clear hk)
      | (go_at_call 61; (with_reducible refine (vtry_some C HC.out HD.out _ _ (HK.out.get 0 rfl) s HS.out).mono ?_); rintro e u ⟨rfl, hb⟩; have hk := HK.out.call hb; clear hb; clear HK; have HK := Lib.hid hk; clear hk))
    go_ret2
    exact ⟨rfl, HK.out.bel⟩
  | none =>
    obtain ⟨hN, hE⟩ := sumN_none hs
    rw [hN, hE]; clear hN hE
    have HS := Lib.hid hs; clear hs
    go_enter Tryz.func60, Tryz.ntmps60
    go_wp2_with (first
      | (with_reducible refine box_new (R := C) HK.out rfl _ rfl rfl ?_; intro bc u hk hb; clear hb; clear HK; have HK := Lib.hid hk; clear hk)
      | (go_at_call 61; (with_reducible refine (vtry_none C HC.out HD.out _ _ (HK.out.get 0 rfl) HS.out).mono ?_); rintro e u ⟨rfl, hb⟩; have hk := HK.out.call hb; clear hb; clear HK; have HK := Lib.hid hk; clear hk))
    go_ret2
    exact ⟨rfl, HK.out.bel⟩

theorem nam_any (a b : Ho) (c : Int) (hc : nameC a b = c) (w : World) :
    Calls Tryz.prog 97 #[.agg (vals a.l).toArray, .agg (vals b.l).toArray] w fun e w' => e = .returned (.int .i64 c) ∧ Below w.heap.size w w' := by
  subst hc
  exact (name_any a b w).mono fun e w' ⟨h1, h2, _⟩ => ⟨h1, h2⟩
theorem hrt_any (a : Ho) (r : Bool) (hr : rightH a = r) (w : World) :
    Calls Tryz.prog 134 #[.agg (vals a.l).toArray] w fun e w' => e = .returned (.bool r) ∧ Below w.heap.size w w' := by
  subst hr; exact hright_any a w
theorem upTo_succ {hs : List Ho} {m : Nat} (h : upTo hs m = true) (hr : rightH (hs.getD m z5) = true) (ha : m = 0 ∨ ahB (hs.getD (m - 1) z5) (hs.getD m z5) = true) : upTo hs (m + 1) = true := by
  rw [upTo, h, Bool.true_and, okAt, hr, Bool.true_and]
  rcases ha with ha | ha
  · subst ha; rfl
  · rw [ha, Bool.or_true]
theorem okAt_right {hs : List Ho} {m : Nat} (hr : rightH (hs.getD m z5) = false) : okAt hs m = false := by rw [okAt, hr, Bool.false_and]
theorem okAt_ahead {hs : List Ho} {m : Nat} (h0 : 0 < m) (ha : ahB (hs.getD (m - 1) z5) (hs.getD m z5) = false) : okAt hs m = false := by
  rw [okAt, ha, Bool.or_false, show (m == 0) = false by simp; omega, Bool.and_false]
theorem nameC_yes {a b : Ho} (h : ahB a b = true) : decide (0 ≤ nameC a b) = false := by rw [nameC_geq, h]; rfl
theorem nameC_no {a b : Ho} (h : ahB a b = false) : decide (0 ≤ nameC a b) = true := by rw [nameC_geq, h]; rfl
theorem wrap_sub {m : Nat} (h0 : 0 < m) (h1 : m ≤ 1000) : IntKind.i64.wrap ((m : Int) - 1) = ((m - 1 : Nat) : Int) := by
  rw [show ((m - 1 : Nat) : Int) = (m : Int) - 1 by omega]
  simp [IntKind.wrap, IntKind.bits, IntKind.signed]; omega
set_option maxHeartbeats 4000000 in
set_option maxRecDepth 100000 in
theorem rights_any (A : Option Addr) (n c : Nat) (hs : List Ho) (w : World) (hd : Row w A n hs) :
    Calls Tryz.prog 93 #[.slice A n c] w fun e w' => e = .returned (.bool (rightsL hs)) ∧ Below w.heap.size w w' := by
  have HD := Lib.hid hd; have HL := Lib.hid hd.1; clear hd
  have HK := Lib.hid (KeepR.start w)
  by_cases hn : n ≤ 16
  · have hn' : ¬ (16 : Int) < (n : Int) := by omega
    go_enter Tryz.func93, Tryz.ntmps93
    go_wp2
    go_loopw [10] (fun i wr => ∃ m : Nat, m ≤ n ∧ i = .int .i64 m ∧ upTo hs m = true ∧ KeepR w [] wr) (fun i _ => n - (intOf i).toNat)
    case atStart => exact ⟨0, by omega, rfl, rfl, HK.out⟩
    case round =>
      obtain ⟨m, hm, rfl, hu, hk⟩ := hrel
      clear HK
      have HK := Lib.hid hk; have HU := Lib.hid hu
      clear hk hu
      by_cases hlt : m < n
      · obtain ⟨b, off, rfl, hr⟩ := HD.out.at hlt
        have hrm := hr m hlt
        have HRA := Lib.hid hr; clear hr
        obtain ⟨h, hh⟩ : ∃ h, hs.getD m z5 = h := ⟨_, rfl⟩
        rw [hh] at hrm
        have HH := Lib.hid hh
        have HR := Lib.hid hrm; have HC := Lib.hid (range_lt hrm)
        clear hrm hh
        have i1 : (0 : Int) ≤ (m : Int) := by omega
        have i2 : (m : Int) < (n : Int) := by omega
        cases hrh : rightH h with
        | false =>
          have HRH := Lib.hid hrh; clear hrh
          have HF := Lib.hid (show rightsL hs = false from rights_fail (m := m) (by have := HL.out; omega) (okAt_right (by rw [HH.out]; exact HRH.out)))
          go_wp2_with (first
            | (with_reducible refine load_hold (range_below HR.out HK.out.bel HC.out) _ rfl rfl rfl ?_)
            | (with_reducible refine alloc_zero HK.out 5 h_zero rfl rfl ?_; intro bh u hn hk hb; clear hn hb; clear HK; have HK := Lib.hid hk; clear hk)
            | (with_reducible refine store_all HK.out 0 5 h_info rfl rfl _ _ rfl rfl rfl rfl (Ho.len _) (zer_length 5) ?_; intro u hk hs; clear hs; simp only [List.set_cons_zero] at hk; clear HK; have HK := Lib.hid hk; clear hk))
          refine Draws.start (S := fun u => KeepR w [(bh, 81, h.l)] u) (n := 17) 17 rfl (by kernel_rfl) ?_
          have HS := Lib.hid (show (fun u => KeepR w [(bh, 81, h.l)] u) _ from HK.out.drew)
          refine Draws.take 0 HS.out rfl (by kernel_rfl) (fun _ _ _ h => h) (yield_all (fun _ h => h) 0 5 Tryz.underlying81 rfl h_info rfl _ rfl rfl rfl (Ho.len _)) ?_
          (try simp only [Act.put, lsA, lsB, lsC])
          refine Draws.does 1 rfl (by kernel_rfl) rfl (fun K hK => ?_)
          go_simp
          go_at_call 134
          refine (hrt_any _ _ HRH.out _).mono ?_
          rintro e u ⟨rfl, hb⟩
          (try dsimp only)
          refine hK.out _ _ (fun _ => HS.out.call hb) ?_
          clear hK K
          have hs : (fun u => KeepR w [(bh, 81, h.l)] u) u := HS.out.call hb
          clear HS
          have HS := Lib.hid hs; clear hs
          (try simp only [Act.put, lsA, lsB, lsC])
          clear hb
          refine Draws.take 2 (v := ?v1) HS.out rfl (by kernel_rfl) (fun _ _ _ h => h) (Or.inl ⟨rfl, ?h1⟩) ?r1
          case h1 => intro w' hw'; go_simp; (try with_reducible rfl)
          (try simp only [Act.put, lsA, lsB, lsC])
          refine Draws.take 3 (v := ?v2) HS.out rfl (by kernel_rfl) (fun _ _ _ h => h) (Or.inl ⟨rfl, ?h2⟩) ?r2
          case h2 => intro w' hw'; go_simp; (try with_reducible rfl)
          (try simp only [Act.put, lsA, lsB, lsC])
          refine Draws.take 4 HS.out rfl (by kernel_rfl) (fun _ _ _ h => h) (Or.inr ⟨rfl, rfl⟩) ?_
          (try simp only [Act.put, lsA, lsB, lsC])
          refine Draws.take 5 HS.out rfl (by kernel_rfl) (fun _ _ _ h => h) (Or.inr ⟨rfl, rfl⟩) ?_
          (try simp only [Act.put, lsA, lsB, lsC])
          refine Draws.take 6 HS.out rfl (by kernel_rfl) (fun _ _ _ h => h) (Or.inr ⟨rfl, rfl⟩) ?_
          (try simp only [Act.put, lsA, lsB, lsC])
          refine Draws.take 7 HS.out rfl (by kernel_rfl) (fun _ _ _ h => h) (Or.inr ⟨rfl, rfl⟩) ?_
          (try simp only [Act.put, lsA, lsB, lsC])
          refine Draws.take 8 HS.out rfl (by kernel_rfl) (fun _ _ _ h => h) (Or.inr ⟨rfl, rfl⟩) ?_
          (try simp only [Act.put, lsA, lsB, lsC])
          refine Draws.take 9 HS.out rfl (by kernel_rfl) (fun _ _ _ h => h) (Or.inr ⟨rfl, rfl⟩) ?_
          (try simp only [Act.put, lsA, lsB, lsC])
          refine Draws.take 10 HS.out rfl (by kernel_rfl) (fun _ _ _ h => h) (Or.inr ⟨rfl, rfl⟩) ?_
          (try simp only [Act.put, lsA, lsB, lsC])
          refine Draws.take 11 HS.out rfl (by kernel_rfl) (fun _ _ _ h => h) (Or.inr ⟨rfl, rfl⟩) ?_
          (try simp only [Act.put, lsA, lsB, lsC])
          refine Draws.take 12 HS.out rfl (by kernel_rfl) (fun _ _ _ h => h) (Or.inr ⟨rfl, rfl⟩) ?_
          (try simp only [Act.put, lsA, lsB, lsC])
          refine Draws.take 13 HS.out rfl (by kernel_rfl) (fun _ _ _ h => h) (Or.inr ⟨rfl, rfl⟩) ?_
          (try simp only [Act.put, lsA, lsB, lsC])
          refine Draws.take 14 HS.out rfl (by kernel_rfl) (fun _ _ _ h => h) (Or.inr ⟨rfl, rfl⟩) ?_
          (try simp only [Act.put, lsA, lsB, lsC])
          refine Draws.take 15 HS.out rfl (by kernel_rfl) (fun _ _ _ h => h) (Or.inr ⟨rfl, rfl⟩) ?_
          (try simp only [Act.put, lsA, lsB, lsC])
          refine Draws.take 16 (v := ?v3) HS.out rfl (by kernel_rfl) (fun _ _ _ h => h) (Or.inl ⟨rfl, ?h3⟩) ?r3
          case h3 => intro w' hw'; go_simp; (try with_reducible rfl)
          (try simp only [Act.put, lsA, lsB, lsC])
          refine Draws.done (by kernel_rfl) ?_
          go_wp2
          go_ret
          exact ⟨by rw [HF.out]; rfl, HS.out.bel⟩
        | true =>
          have HRH := Lib.hid hrh; clear hrh
          by_cases hm0 : m = 0
          · have HZ := Lib.hid (show decide (0 < (m : Int)) = false by simp; omega)
            have HM := Lib.hid hm0; clear hm0
            go_wp2_with (first
              | (with_reducible refine load_hold (range_below HR.out HK.out.bel HC.out) _ rfl rfl rfl ?_)
              | (with_reducible refine alloc_zero HK.out 5 h_zero rfl rfl ?_; intro bh u hn hk hb; clear hn hb; clear HK; have HK := Lib.hid hk; clear hk)
              | (with_reducible refine store_all HK.out 0 5 h_info rfl rfl _ _ rfl rfl rfl rfl (Ho.len _) (zer_length 5) ?_; intro u hk hs; clear hs; simp only [List.set_cons_zero] at hk; clear HK; have HK := Lib.hid hk; clear hk))
            refine Draws.start (S := fun u => KeepR w [(bh, 81, h.l)] u) (n := 17) 17 rfl (by kernel_rfl) ?_
            have HS := Lib.hid (show (fun u => KeepR w [(bh, 81, h.l)] u) _ from HK.out.drew)
            refine Draws.take 0 HS.out rfl (by kernel_rfl) (fun _ _ _ h => h) (yield_all (fun _ h => h) 0 5 Tryz.underlying81 rfl h_info rfl _ rfl rfl rfl (Ho.len _)) ?_
            (try simp only [Act.put, lsA, lsB, lsC])
            refine Draws.does 1 rfl (by kernel_rfl) rfl (fun K hK => ?_)
            go_simp
            go_at_call 134
            refine (hrt_any _ _ HRH.out _).mono ?_
            rintro e u ⟨rfl, hb⟩
            (try dsimp only)
            refine hK.out _ _ (fun _ => HS.out.call hb) ?_
            clear hK K
            have hs : (fun u => KeepR w [(bh, 81, h.l)] u) u := HS.out.call hb
            clear HS
            have HS := Lib.hid hs; clear hs
            (try simp only [Act.put, lsA, lsB, lsC])
            clear hb
            refine Draws.take 2 (v := ?v4) HS.out rfl (by kernel_rfl) (fun _ _ _ h => h) (Or.inl ⟨rfl, ?h4⟩) ?r4
            case h4 => intro w' hw'; go_simp; (try with_reducible rfl)
            (try simp only [Act.put, lsA, lsB, lsC])
            refine Draws.take 3 (v := ?v5) HS.out rfl (by kernel_rfl) (fun _ _ _ h => h) (Or.inl ⟨rfl, ?h5⟩) ?r5
            case h5 => intro w' hw'; go_simp; (try with_reducible rfl)
            (try simp only [Act.put, lsA, lsB, lsC])
            refine Draws.take 4 (v := ?v6) HS.out rfl (by kernel_rfl) (fun _ _ _ h => h) (Or.inl ⟨rfl, ?h6⟩) ?r6
            case h6 => intro w' hw'; go_simp; (try with_reducible rfl)
            (try simp only [Act.put, lsA, lsB, lsC])
            refine Draws.take 5 HS.out rfl (by kernel_rfl) (fun _ _ _ h => h) (yield_gtr HZ.out _ _ _ rfl rfl rfl rfl) ?_
            (try simp only [Act.put, lsA, lsB, lsC])
            refine Draws.take 6 (v := ?v7) HS.out rfl (by kernel_rfl) (fun _ _ _ h => h) (Or.inl ⟨rfl, ?h7⟩) ?r7
            case h7 => intro w' hw'; go_simp; (try with_reducible rfl)
            (try simp only [Act.put, lsA, lsB, lsC])
            refine Draws.take 7 HS.out rfl (by kernel_rfl) (fun _ _ _ h => h) (Or.inr ⟨rfl, rfl⟩) ?_
            (try simp only [Act.put, lsA, lsB, lsC])
            refine Draws.take 8 HS.out rfl (by kernel_rfl) (fun _ _ _ h => h) (Or.inr ⟨rfl, rfl⟩) ?_
            (try simp only [Act.put, lsA, lsB, lsC])
            refine Draws.take 9 HS.out rfl (by kernel_rfl) (fun _ _ _ h => h) (Or.inr ⟨rfl, rfl⟩) ?_
            (try simp only [Act.put, lsA, lsB, lsC])
            refine Draws.take 10 HS.out rfl (by kernel_rfl) (fun _ _ _ h => h) (Or.inr ⟨rfl, rfl⟩) ?_
            (try simp only [Act.put, lsA, lsB, lsC])
            refine Draws.take 11 HS.out rfl (by kernel_rfl) (fun _ _ _ h => h) (Or.inr ⟨rfl, rfl⟩) ?_
            (try simp only [Act.put, lsA, lsB, lsC])
            refine Draws.take 12 HS.out rfl (by kernel_rfl) (fun _ _ _ h => h) (Or.inr ⟨rfl, rfl⟩) ?_
            (try simp only [Act.put, lsA, lsB, lsC])
            refine Draws.take 13 HS.out rfl (by kernel_rfl) (fun _ _ _ h => h) (Or.inr ⟨rfl, rfl⟩) ?_
            (try simp only [Act.put, lsA, lsB, lsC])
            refine Draws.take 14 HS.out rfl (by kernel_rfl) (fun _ _ _ h => h) (Or.inr ⟨rfl, rfl⟩) ?_
            (try simp only [Act.put, lsA, lsB, lsC])
            refine Draws.take 15 (v := ?v8) HS.out rfl (by kernel_rfl) (fun _ _ _ h => h) (Or.inl ⟨rfl, ?h8⟩) ?r8
            case h8 => intro w' hw'; go_simp; (try with_reducible rfl)
            (try simp only [Act.put, lsA, lsB, lsC])
            refine Draws.take 16 (v := ?v9) HS.out rfl (by kernel_rfl) (fun _ _ _ h => h) (Or.inl ⟨rfl, ?h9⟩) ?r9
            case h9 => intro w' hw'; go_simp; (try with_reducible rfl)
            (try simp only [Act.put, lsA, lsB, lsC])
            refine Draws.done (by kernel_rfl) ?_
            go_wp2
            go_roundw
            case rel => exact ⟨m + 1, by omega, by go_num, upTo_succ HU.out (by rw [HH.out]; exact HRH.out) (.inl HM.out), HS.out.tail⟩
            case measure => simp [intOf]; omega
          · have HZ := Lib.hid (show decide (0 < (m : Int)) = true by simp; omega)
            have HQ := Lib.hid (wrap_sub (m := m) (by omega) (by omega))
            have hq2 : ((m - 1 : Nat) : Int) < (n : Int) := by omega
            have hq3 : m - 1 < n := by omega
            have hq4 : m - 1 + 1 = m := by omega
            generalize hqe : m - 1 = q at HQ hq2 hq3 hq4
            have HQE := Lib.hid hqe; have HQ4 := Lib.hid hq4
            clear hqe hq4
            have hq1 : (0 : Int) ≤ (q : Int) := by omega
            have hrp := HRA.out q hq3
            obtain ⟨p, hp⟩ : ∃ p, hs.getD q z5 = p := ⟨_, rfl⟩
            rw [hp] at hrp
            have HPE := Lib.hid hp
            have HP := Lib.hid hrp; have HCP := Lib.hid (range_lt hrp)
            clear hrp hp hq3
            obtain ⟨cc, hcc⟩ : ∃ cc, nameC p h = cc := ⟨_, rfl⟩
            have HCN := Lib.hid hcc
            cases hah : ahB p h with
            | false =>
              have hge := nameC_no hah
              rw [hcc] at hge
              have HGE := Lib.hid hge; clear hge
              have HF := Lib.hid (show rightsL hs = false from rights_fail (m := m) (by have := HL.out; omega) (okAt_ahead (by have := HQ4.out; omega) (by rw [HQE.out, HPE.out, HH.out]; exact hah)))
              clear hcc hah
              go_wp2_with (first
                | (with_reducible refine load_hold (range_below HR.out HK.out.bel HC.out) _ rfl rfl rfl ?_)
                | (with_reducible refine alloc_zero HK.out 5 h_zero rfl rfl ?_; intro bh u hn hk hb; clear hn hb; clear HK; have HK := Lib.hid hk; clear hk)
                | (with_reducible refine store_all HK.out 0 5 h_info rfl rfl _ _ rfl rfl rfl rfl (Ho.len _) (zer_length 5) ?_; intro u hk hs; clear hs; simp only [List.set_cons_zero] at hk; clear HK; have HK := Lib.hid hk; clear hk))
              refine Draws.start (S := fun u => KeepR w [(bh, 81, h.l)] u) (n := 17) 17 rfl (by kernel_rfl) ?_
              have HS := Lib.hid (show (fun u => KeepR w [(bh, 81, h.l)] u) _ from HK.out.drew)
              refine Draws.take 0 HS.out rfl (by kernel_rfl) (fun _ _ _ h => h) (yield_all (fun _ h => h) 0 5 Tryz.underlying81 rfl h_info rfl _ rfl rfl rfl (Ho.len _)) ?_
              (try simp only [Act.put, lsA, lsB, lsC])
              refine Draws.does 1 rfl (by kernel_rfl) rfl (fun K hK => ?_)
              go_simp
              go_at_call 134
              refine (hrt_any _ _ HRH.out _).mono ?_
              rintro e u ⟨rfl, hb⟩
              (try dsimp only)
              refine hK.out _ _ (fun _ => HS.out.call hb) ?_
              clear hK K
              have hs : (fun u => KeepR w [(bh, 81, h.l)] u) u := HS.out.call hb
              clear HS
              have HS := Lib.hid hs; clear hs
              (try simp only [Act.put, lsA, lsB, lsC])
              clear hb
              refine Draws.take 2 (v := ?v10) HS.out rfl (by kernel_rfl) (fun _ _ _ h => h) (Or.inl ⟨rfl, ?h10⟩) ?r10
              case h10 => intro w' hw'; go_simp; (try with_reducible rfl)
              (try simp only [Act.put, lsA, lsB, lsC])
              refine Draws.take 3 (v := ?v11) HS.out rfl (by kernel_rfl) (fun _ _ _ h => h) (Or.inl ⟨rfl, ?h11⟩) ?r11
              case h11 => intro w' hw'; go_simp; (try with_reducible rfl)
              (try simp only [Act.put, lsA, lsB, lsC])
              refine Draws.take 4 (v := ?v12) HS.out rfl (by kernel_rfl) (fun _ _ _ h => h) (Or.inl ⟨rfl, ?h12⟩) ?r12
              case h12 => intro w' hw'; go_simp; (try with_reducible rfl)
              (try simp only [Act.put, lsA, lsB, lsC])
              refine Draws.take 5 HS.out rfl (by kernel_rfl) (fun _ _ _ h => h) (yield_gtr HZ.out _ _ _ rfl rfl rfl rfl) ?_
              (try simp only [Act.put, lsA, lsB, lsC])
              refine Draws.take 6 (v := ?v13) HS.out rfl (by kernel_rfl) (fun _ _ _ h => h) (Or.inl ⟨rfl, ?h13⟩) ?r13
              case h13 => intro w' hw'; go_simp; (try with_reducible rfl)
              (try simp only [Act.put, lsA, lsB, lsC])
              refine Draws.take 7 (v := ?v14) HS.out rfl (by kernel_rfl) (fun _ _ _ h => h) (Or.inl ⟨rfl, ?h14⟩) ?r14
              case h14 => intro w' hw'; go_simp; (try with_reducible rfl)
              (try simp only [Act.put, lsA, lsB, lsC])
              refine Draws.take 8 (v := ?v15) HS.out rfl (by kernel_rfl) (fun _ _ _ h => h) (Or.inl ⟨rfl, ?h15⟩) ?r15
              case h15 => intro w' hw'; go_simp; (try with_reducible rfl)
              (try simp only [Act.put, lsA, lsB, lsC])
              refine Draws.take 9 HS.out rfl (by kernel_rfl) (fun _ _ _ h => h) (yield_sub HQ.out _ _ _ rfl rfl rfl rfl) ?_
              (try simp only [Act.put, lsA, lsB, lsC])
              refine Draws.take 10 (v := ?v16) HS.out rfl (by kernel_rfl) (fun _ _ _ h => h) (Or.inl ⟨rfl, ?h16⟩) ?r16
              case h16 => intro w' hw'; go_simp; (try with_reducible rfl)
              (try simp only [Act.put, lsA, lsB, lsC])
              refine Draws.take 11 HS.out rfl (by kernel_rfl) (fun _ _ _ h => h) (yield_hold (fun _ h => range_below HP.out h.bel HCP.out) _ rfl rfl rfl) ?_
              (try simp only [Act.put, lsA, lsB, lsC])
              refine Draws.take 12 HS.out rfl (by kernel_rfl) (fun _ _ _ h => h) (yield_all (fun _ h => h) 0 5 Tryz.underlying81 rfl h_info rfl _ rfl rfl rfl (Ho.len _)) ?_
              (try simp only [Act.put, lsA, lsB, lsC])
              refine Draws.does 13 rfl (by kernel_rfl) rfl (fun K hK => ?_)
              go_simp
              go_at_call 97
              refine (nam_any _ _ _ HCN.out _).mono ?_
              rintro e u ⟨rfl, hb⟩
              (try dsimp only)
              refine hK.out _ _ (fun _ => HS.out.call hb) ?_
              clear hK K
              have hs : (fun u => KeepR w [(bh, 81, h.l)] u) u := HS.out.call hb
              clear HS
              have HS := Lib.hid hs; clear hs
              (try simp only [Act.put, lsA, lsB, lsC])
              clear hb
              refine Draws.take 14 HS.out rfl (by kernel_rfl) (fun _ _ _ h => h) (yield_geq HGE.out _ _ _ rfl rfl rfl rfl) ?_
              (try simp only [Act.put, lsA, lsB, lsC])
              refine Draws.take 15 (v := ?v17) HS.out rfl (by kernel_rfl) (fun _ _ _ h => h) (Or.inl ⟨rfl, ?h17⟩) ?r17
              case h17 => intro w' hw'; go_simp; (try with_reducible rfl)
              (try simp only [Act.put, lsA, lsB, lsC])
              refine Draws.take 16 (v := ?v18) HS.out rfl (by kernel_rfl) (fun _ _ _ h => h) (Or.inl ⟨rfl, ?h18⟩) ?r18
              case h18 => intro w' hw'; go_simp; (try with_reducible rfl)
              (try simp only [Act.put, lsA, lsB, lsC])
              refine Draws.done (by kernel_rfl) ?_
              go_wp2
              go_ret
              exact ⟨by rw [HF.out]; rfl, HS.out.bel⟩
            | true =>
              have hge := nameC_yes hah
              rw [hcc] at hge
              have HGE := Lib.hid hge; clear hge
              have HAH := Lib.hid hah
              clear hcc hah
              go_wp2_with (first
                | (with_reducible refine load_hold (range_below HR.out HK.out.bel HC.out) _ rfl rfl rfl ?_)
                | (with_reducible refine alloc_zero HK.out 5 h_zero rfl rfl ?_; intro bh u hn hk hb; clear hn hb; clear HK; have HK := Lib.hid hk; clear hk)
                | (with_reducible refine store_all HK.out 0 5 h_info rfl rfl _ _ rfl rfl rfl rfl (Ho.len _) (zer_length 5) ?_; intro u hk hs; clear hs; simp only [List.set_cons_zero] at hk; clear HK; have HK := Lib.hid hk; clear hk))
              refine Draws.start (S := fun u => KeepR w [(bh, 81, h.l)] u) (n := 17) 17 rfl (by kernel_rfl) ?_
              have HS := Lib.hid (show (fun u => KeepR w [(bh, 81, h.l)] u) _ from HK.out.drew)
              refine Draws.take 0 HS.out rfl (by kernel_rfl) (fun _ _ _ h => h) (yield_all (fun _ h => h) 0 5 Tryz.underlying81 rfl h_info rfl _ rfl rfl rfl (Ho.len _)) ?_
              (try simp only [Act.put, lsA, lsB, lsC])
              refine Draws.does 1 rfl (by kernel_rfl) rfl (fun K hK => ?_)
              go_simp
              go_at_call 134
              refine (hrt_any _ _ HRH.out _).mono ?_
              rintro e u ⟨rfl, hb⟩
              (try dsimp only)
              refine hK.out _ _ (fun _ => HS.out.call hb) ?_
              clear hK K
              have hs : (fun u => KeepR w [(bh, 81, h.l)] u) u := HS.out.call hb
              clear HS
              have HS := Lib.hid hs; clear hs
              (try simp only [Act.put, lsA, lsB, lsC])
              clear hb
              refine Draws.take 2 (v := ?v19) HS.out rfl (by kernel_rfl) (fun _ _ _ h => h) (Or.inl ⟨rfl, ?h19⟩) ?r19
              case h19 => intro w' hw'; go_simp; (try with_reducible rfl)
              (try simp only [Act.put, lsA, lsB, lsC])
              refine Draws.take 3 (v := ?v20) HS.out rfl (by kernel_rfl) (fun _ _ _ h => h) (Or.inl ⟨rfl, ?h20⟩) ?r20
              case h20 => intro w' hw'; go_simp; (try with_reducible rfl)
              (try simp only [Act.put, lsA, lsB, lsC])
              refine Draws.take 4 (v := ?v21) HS.out rfl (by kernel_rfl) (fun _ _ _ h => h) (Or.inl ⟨rfl, ?h21⟩) ?r21
              case h21 => intro w' hw'; go_simp; (try with_reducible rfl)
              (try simp only [Act.put, lsA, lsB, lsC])
              refine Draws.take 5 HS.out rfl (by kernel_rfl) (fun _ _ _ h => h) (yield_gtr HZ.out _ _ _ rfl rfl rfl rfl) ?_
              (try simp only [Act.put, lsA, lsB, lsC])
              refine Draws.take 6 (v := ?v22) HS.out rfl (by kernel_rfl) (fun _ _ _ h => h) (Or.inl ⟨rfl, ?h22⟩) ?r22
              case h22 => intro w' hw'; go_simp; (try with_reducible rfl)
              (try simp only [Act.put, lsA, lsB, lsC])
              refine Draws.take 7 (v := ?v23) HS.out rfl (by kernel_rfl) (fun _ _ _ h => h) (Or.inl ⟨rfl, ?h23⟩) ?r23
              case h23 => intro w' hw'; go_simp; (try with_reducible rfl)
              (try simp only [Act.put, lsA, lsB, lsC])
              refine Draws.take 8 (v := ?v24) HS.out rfl (by kernel_rfl) (fun _ _ _ h => h) (Or.inl ⟨rfl, ?h24⟩) ?r24
              case h24 => intro w' hw'; go_simp; (try with_reducible rfl)
              (try simp only [Act.put, lsA, lsB, lsC])
              refine Draws.take 9 HS.out rfl (by kernel_rfl) (fun _ _ _ h => h) (yield_sub HQ.out _ _ _ rfl rfl rfl rfl) ?_
              (try simp only [Act.put, lsA, lsB, lsC])
              refine Draws.take 10 (v := ?v25) HS.out rfl (by kernel_rfl) (fun _ _ _ h => h) (Or.inl ⟨rfl, ?h25⟩) ?r25
              case h25 => intro w' hw'; go_simp; (try with_reducible rfl)
              (try simp only [Act.put, lsA, lsB, lsC])
              refine Draws.take 11 HS.out rfl (by kernel_rfl) (fun _ _ _ h => h) (yield_hold (fun _ h => range_below HP.out h.bel HCP.out) _ rfl rfl rfl) ?_
              (try simp only [Act.put, lsA, lsB, lsC])
              refine Draws.take 12 HS.out rfl (by kernel_rfl) (fun _ _ _ h => h) (yield_all (fun _ h => h) 0 5 Tryz.underlying81 rfl h_info rfl _ rfl rfl rfl (Ho.len _)) ?_
              (try simp only [Act.put, lsA, lsB, lsC])
              refine Draws.does 13 rfl (by kernel_rfl) rfl (fun K hK => ?_)
              go_simp
              go_at_call 97
              refine (nam_any _ _ _ HCN.out _).mono ?_
              rintro e u ⟨rfl, hb⟩
              (try dsimp only)
              refine hK.out _ _ (fun _ => HS.out.call hb) ?_
              clear hK K
              have hs : (fun u => KeepR w [(bh, 81, h.l)] u) u := HS.out.call hb
              clear HS
              have HS := Lib.hid hs; clear hs
              (try simp only [Act.put, lsA, lsB, lsC])
              clear hb
              refine Draws.take 14 HS.out rfl (by kernel_rfl) (fun _ _ _ h => h) (yield_geq HGE.out _ _ _ rfl rfl rfl rfl) ?_
              (try simp only [Act.put, lsA, lsB, lsC])
              refine Draws.take 15 (v := ?v26) HS.out rfl (by kernel_rfl) (fun _ _ _ h => h) (Or.inl ⟨rfl, ?h26⟩) ?r26
              case h26 => intro w' hw'; go_simp; (try with_reducible rfl)
              (try simp only [Act.put, lsA, lsB, lsC])
              refine Draws.take 16 (v := ?v27) HS.out rfl (by kernel_rfl) (fun _ _ _ h => h) (Or.inl ⟨rfl, ?h27⟩) ?r27
              case h27 => intro w' hw'; go_simp; (try with_reducible rfl)
              (try simp only [Act.put, lsA, lsB, lsC])
              refine Draws.done (by kernel_rfl) ?_
              go_wp2
              go_roundw
              case rel => exact ⟨m + 1, by omega, by go_num, upTo_succ HU.out (by rw [HH.out]; exact HRH.out) (.inr (by rw [HQE.out, HPE.out, HH.out]; exact HAH.out)), HS.out.tail⟩
              case measure => simp [intOf]; omega
      · obtain rfl : m = n := by omega
        have HF := Lib.hid (show rightsL hs = true from rights_all (by have := HL.out; omega) (by rw [HL.out]; exact HU.out))
        go_wp2
        go_ret
        exact ⟨by rw [HF.out]; rfl, HK.out.bel⟩
  · have hn' : (16 : Int) < (n : Int) := by omega
    have HF := Lib.hid (show rightsL hs = false from rights_long (by have := HL.out; omega))
    go_enter Tryz.func93, Tryz.ntmps93
    go_wp2
    go_ret
    exact ⟨by rw [HF.out]; rfl, HK.out.bel⟩

theorem KeepF.swap {w u : World} {l : List (Nat × TypeId × List Value)} {rows : List (Option Addr × Nat × List Ho)} {r s : Option Addr × Nat × List Ho} (h : KeepF w l (r :: s :: rows) u) : KeepF w l (r :: rows) u :=
  h.look fun q hq => by
    rcases List.mem_cons.1 hq with rfl | hq
    · exact List.mem_cons_self
    · exact List.mem_cons_of_mem _ (List.mem_cons_of_mem _ hq)

/-! ### Locks. -/
theorem l_zeroF : (Tryz.prog.info? 40).bind (·.zero) = some (.agg (vals zL.l).toArray) := by kernel_rfl
theorem Lk.f1 (a : Lk) : (vals a.l)[1]? = some (.int .i64 a.v) := rfl
theorem Lk.f2 (a : Lk) : (vals a.l)[2]? = some (.int .i64 a.h) := rfl
theorem Lk.fall (a : Lk) : ∀ j v, (vals a.l)[j]? = some v → (vals a.l)[0 + j]? = some v := fun j v h => by rw [Nat.zero_add]; exact h
theorem Lk.le4 (a b : Lk) : 0 + (vals b.l).length ≤ (vals a.l).length := Nat.le_refl 4
theorem Lk.putA (a b : Lk) : spl (vals a.l) 0 (vals b.l) = vals b.l := rfl
theorem Lk.f3 (a : Lk) : (vals a.l)[3]? = some (.int .i64 a.x) := rfl
/-! ### Fields. -/
theorem infoCl {D : List Int} (_h : D.length = 579) : ∀ j v, (vals D)[j]? = some v → (vals D)[0 + j]? = some v := fun j v h => by rw [Nat.zero_add]; exact h
theorem c_zeroF : (Tryz.prog.info? 38).bind (·.zero) = some (.agg (vals (zer 579)).toArray) := c_zero
theorem putC {C D : List Int} (h : C.length = D.length) : spl (vals C) 0 (vals D) = vals D := by
  have := spl_mid (vals D) (vals C) [] [] (by rw [vals_length, vals_length, h])
  simpa using this
theorem putC_le {C D : List Int} (hC : C.length = 579) (hD : D.length = 579) : 0 + (vals D).length ≤ (vals C).length := by rw [vals_length, vals_length, hC, hD]; decide

end Go.Proofs.YtgblnlpfgdbnnaaGreat

namespace Go.Proofs.YtgblnlpfgdbnnaaGreat
set_option maxRecDepth 100000

/-- They are of one amount and time, where both have one. -/
def NC (a b : List Ho) : Prop := ∀ k n x y, fnd a k n = some x → fnd b k n = some y → x.a = y.a ∧ x.d = y.d
theorem NC.symm {a b : List Ho} (h : NC a b) : NC b a := fun k n x y hx hy => by
  obtain ⟨h1, h2⟩ := h k n y x hy hx
  exact ⟨h1.symm, h2.symm⟩

end Go.Proofs.YtgblnlpfgdbnnaaGreat
