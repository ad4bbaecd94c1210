/- Contracts of the document's Put, Reserve, End and Expire. -/
import Derived.Test.YtbaccghnneidgaaGreatHoLaw
namespace Go.Proofs.YtbaccghnneidgaaGreat
set_option maxRecDepth 100000
open Go.ChangeShapes Go.WideShapes Go.ChangeAt Go.RowKit

theorem slice_highH (a : Option Addr) (len cap K : Nat) (h : K ≤ cap) (W : World) : (Instr.slice 31 (.slice a len cap) none (some (.int .i64 (K : Int))) none).run Tryz.prog W = .ok (.slice (if cap = 0 then a else a.map (·.add 0)) K cap) W := by
  obtain ⟨i0, hi0, hz0, hz1, hz2⟩ := info_parts h_info3
  simp [Instr.slice, run_underlying Tryz.underlying31, Instr.sliceBounds, Instr.sliceBound, asIntOf, sizeOf, typeInfo, hi0, h]
theorem slice_lowH (a : Option Addr) (len cap K : Nat) (h : K ≤ len) (W : World) : (Instr.slice 31 (.slice a len cap) (some (.int .i64 (K : Int))) none none).run Tryz.prog W = .ok (.slice (if cap = K then a else a.map (·.add (K * 5))) (len - K) (cap - K)) W := by
  obtain ⟨i0, hi0, hz0, hz1, hz2⟩ := info_parts h_info3
  simp [Instr.slice, run_underlying Tryz.underlying31, Instr.sliceBounds, Instr.sliceBound, asIntOf, sizeOf, typeInfo, hi0, hz1, h]
theorem Row.upto {u : World} {A : Option Addr} {n c K : Nat} {hs : List Ho} (h : Row u A n hs) (hK : K ≤ n) (hc : n ≤ c) : Row u (if c = 0 then A else A.map (·.add 0)) K (hs.take K) := by
  obtain ⟨h1, h2, h3⟩ := h
  refine ⟨by simp; omega, by omega, ?_⟩
  rcases h3 with h0 | ⟨b, off, rfl, hr⟩
  · exact .inl (by omega)
  · rcases Nat.eq_zero_or_pos K with h0 | h0
    · exact .inl h0
    · refine .inr ⟨b, off, ?_, fun k hk => ?_⟩
      · rw [if_neg (by omega), Option.map_some, Go.WideShapes.add_plain]; simp
      · have := hr k (by omega)
        rwa [show (hs.take K).getD k z5 = hs.getD k z5 by simp [List.getD, hk]]
theorem Row.from {u : World} {A : Option Addr} {n c K : Nat} {hs : List Ho} (h : Row u A n hs) (hK : K ≤ n) (hc : n ≤ c) : Row u (if c = K then A else A.map (·.add (K * 5))) (n - K) (hs.drop K) := by
  obtain ⟨h1, h2, h3⟩ := h
  refine ⟨by simp; omega, by omega, ?_⟩
  rcases h3 with h0 | ⟨b, off, rfl, hr⟩
  · exact .inl (by omega)
  · rcases Nat.eq_zero_or_pos (n - K) with h0 | h0
    · exact .inl h0
    · refine .inr ⟨b, off + K * 5, ?_, Row.sub h1 hr⟩
      rw [if_neg (by omega), Option.map_some, Go.WideShapes.add_plain]
theorem slice_to {ops : Array Oper} {rest : List Oper} {o : Oper} {a : Act} {u : World} {Q : Exit → Act → World → Prop} {A : Option Addr} {n c K : Nat} {hs : List Ho} (hr : Row u A n hs) (hK : K ≤ n) (hc : n ≤ c) (hgd : o.guard = none) (x y : Operand) (ho : o.op = .slice 31 x none (some y) none) (hx : a.eval x = .slice A n c) (hy : a.eval y = .int .i64 (K : Int))
    (h : ∀ A', Row u A' K (hs.take K) → wpList Tryz.prog ops Q rest (a.put o.dst (.slice A' K c)) u) : wpList Tryz.prog ops Q (o :: rest) a u :=
  wpList_plain hgd fun K' hK' => by
    have := hK' _ _ (h _ (hr.upto hK hc))
    unfold Oper.wp execOp
    simp only [ho, hx, hy, Option.map_some, Option.map_none, Sem.run_bind, Sem.run_pure, Result.andThen_ok, run_sliceAt_slice (P := Tryz.prog) u 31 _ _ _ _ (by kernel_rfl), slice_highH A n c K (by omega)]
    exact this
theorem slice_from {ops : Array Oper} {rest : List Oper} {o : Oper} {a : Act} {u : World} {Q : Exit → Act → World → Prop} {A : Option Addr} {n c K : Nat} {hs : List Ho} (hr : Row u A n hs) (hK : K ≤ n) (hc : n ≤ c) (hgd : o.guard = none) (x y : Operand) (ho : o.op = .slice 31 x (some y) none none) (hx : a.eval x = .slice A n c) (hy : a.eval y = .int .i64 (K : Int))
    (h : ∀ A', Row u A' (n - K) (hs.drop K) → wpList Tryz.prog ops Q rest (a.put o.dst (.slice A' (n - K) (c - K))) u) : wpList Tryz.prog ops Q (o :: rest) a u :=
  wpList_plain hgd fun K' hK' => by
    have := hK' _ _ (h _ (hr.from hK hc))
    unfold Oper.wp execOp
    simp only [ho, hx, hy, Option.map_some, Option.map_none, Sem.run_bind, Sem.run_pure, Result.andThen_ok, run_sliceAt_slice (P := Tryz.prog) u 31 _ _ _ _ (by kernel_rfl), slice_lowH A n c K hK]
    exact this
theorem ins_eq {l : List Ho} {h : Ho} {m : Nat} (hc : cut l h = m) : [] ++ l.take m ++ [h] ++ l.drop m = insH l h := by
  subst hc; simp [insH]
set_option maxHeartbeats 4000000 in
set_option maxRecDepth 100000 in
theorem put_any (A : Option Addr) (n c : Nat) (hs : List Ho) (h : Ho) (w : World) (hd : Row w A n hs) (hc : n ≤ c) :
    Calls Tryz.prog 115 #[.slice A n c, .agg (vals h.l).toArray] w fun e w' => ∃ v, e = .returned v ∧ Own w' w.heap.size v (insH hs h) ∧ Below w.heap.size w w' := by
  have HD := Lib.hid hd; have HL := Lib.hid hd.1; have HNB := Lib.hid hd.2.1; have HCC := Lib.hid hc; clear hd hc
  have HK := Lib.hid (KeepR.start w)
  go_enter Tryz.func115, Tryz.ntmps115
  go_wp2_with (first
    | (with_reducible refine box_new (R := h.l) HK.out rfl _ rfl rfl ?_; intro bh u hk hb; clear hb; clear HK; have HK := Lib.hid hk; clear hk))
  go_loopw [5] (fun i wr => ∃ m : Nat, m ≤ n ∧ i = .int .i64 m ∧ (∀ j, j < m → ahB (hs.getD j z5) h = true) ∧ KeepR w [(bh, 81, h.l)] wr) (fun i _ => n - (intOf i).toNat)
  case atStart => exact ⟨0, by omega, rfl, by omega, HK.out⟩
  case round =>
    obtain ⟨m, hm, rfl, hu, hk⟩ := hrel
    clear HK
    have HK := Lib.hid hk; have HU := Lib.hid hu; have HM := Lib.hid hm
    clear hk hu
    have hnb := HNB.out
    by_cases hlt : m < n
    · obtain ⟨b, off, rfl, hr⟩ := HD.out.at hlt
      have hrm := hr m hlt
      clear hr
      obtain ⟨x, hh⟩ : ∃ x, hs.getD m z5 = x := ⟨_, rfl⟩
      rw [hh] at hrm
      have HH := Lib.hid hh
      have HR := Lib.hid hrm; have HC := Lib.hid (range_lt hrm)
      clear hrm hh
      have i1 : (0 : Int) ≤ (m : Int) := by omega
      have i2 : (m : Int) < (n : Int) := by omega
      have HLT := Lib.hid (show decide ((m : Int) < (n : Int)) = true by simp; omega)
      cases hah : ahB x h with
      | true =>
        have HAH := Lib.hid hah; clear hah
        go_wp2
        refine Draws.start (S := fun u => KeepR w [(bh, 81, h.l)] u) (n := 12) 12 rfl (by kernel_rfl) ?_
        have HS := Lib.hid (show (fun u => KeepR w [(bh, 81, h.l)] u) _ from HK.out.drew)
        refine Draws.take 0 (v := ?v13) HS.out rfl (by kernel_rfl) (fun _ _ _ h => h) (Or.inl ⟨rfl, ?h13⟩) ?r13
        case h13 => intro w' hw'; go_simp; (try with_reducible rfl)
        (try simp only [Act.put, List.setIfInBounds_toArray, List.set_cons_zero, List.set_cons_succ])
        refine Draws.take 1 (v := ?v14) HS.out rfl (by kernel_rfl) (fun _ _ _ h => h) (Or.inl ⟨rfl, ?h14⟩) ?r14
        case h14 => intro w' hw'; go_simp; (try with_reducible rfl)
        (try simp only [Act.put, List.setIfInBounds_toArray, List.set_cons_zero, List.set_cons_succ])
        refine Draws.take 2 (v := ?v15) HS.out rfl (by kernel_rfl) (fun _ _ _ h => h) (Or.inl ⟨rfl, ?h15⟩) ?r15
        case h15 => intro w' hw'; go_simp; (try with_reducible rfl)
        (try simp only [Act.put, List.setIfInBounds_toArray, List.set_cons_zero, List.set_cons_succ])
        refine Draws.take 3 HS.out rfl (by kernel_rfl) (fun _ _ _ h => h) (yield_lss HLT.out _ _ _ rfl rfl rfl rfl) ?_
        (try simp only [Act.put, List.setIfInBounds_toArray, List.set_cons_zero, List.set_cons_succ])
        refine Draws.take 4 (v := ?v16) HS.out rfl (by kernel_rfl) (fun _ _ _ h => h) (Or.inl ⟨rfl, ?h16⟩) ?r16
        case h16 => intro w' hw'; go_simp; (try with_reducible rfl)
        (try simp only [Act.put, List.setIfInBounds_toArray, List.set_cons_zero, List.set_cons_succ])
        refine Draws.take 5 (v := ?v17) HS.out rfl (by kernel_rfl) (fun _ _ _ h => h) (Or.inl ⟨rfl, ?h17⟩) ?r17
        case h17 => intro w' hw'; go_simp; (try with_reducible rfl)
        (try simp only [Act.put, List.setIfInBounds_toArray, List.set_cons_zero, List.set_cons_succ])
        refine Draws.take 6 (v := ?v18) HS.out rfl (by kernel_rfl) (fun _ _ _ h => h) (Or.inl ⟨rfl, ?h18⟩) ?r18
        case h18 => intro w' hw'; go_simp; (try with_reducible rfl)
        (try simp only [Act.put, List.setIfInBounds_toArray, List.set_cons_zero, List.set_cons_succ])
        refine Draws.take 7 (v := ?v19) HS.out rfl (by kernel_rfl) (fun _ _ _ h => h) (Or.inl ⟨rfl, ?h19⟩) ?r19
        case h19 => intro w' hw'; go_simp; (try with_reducible rfl)
        (try simp only [Act.put, List.setIfInBounds_toArray, List.set_cons_zero, List.set_cons_succ])
        refine Draws.take 8 HS.out rfl (by kernel_rfl) (fun _ _ _ h => h) (yield_hold (fun _ hu => range_below HR.out hu.bel HC.out) _ rfl rfl rfl) ?_
        (try simp only [Act.put, List.setIfInBounds_toArray, List.set_cons_zero, List.set_cons_succ])
        refine Draws.take 9 HS.out rfl (by kernel_rfl) (fun _ _ _ h => h) (yield_all (fun _ hu => hu) 0 5 Tryz.underlying81 rfl h_info rfl _ rfl rfl rfl (Ho.len _)) ?_
        (try simp only [Act.put, List.setIfInBounds_toArray, List.set_cons_zero, List.set_cons_succ])
        refine Draws.does 10 rfl (by kernel_rfl) rfl (fun K hK => ?_)
        go_simp
        go_at_call 95
        refine (aha_any _ _ _ HAH.out _).mono ?_
        rintro e u ⟨rfl, hb⟩
        (try dsimp only)
        refine hK.out _ _ (fun _ => HS.out.call hb) ?_
        clear hK K
        have hs : (fun u => KeepR w [(bh, 81, h.l)] u) u := HS.out.call hb
        clear HS
        have HS := Lib.hid hs; clear hs
        (try simp only [Act.put, List.setIfInBounds_toArray, List.set_cons_zero, List.set_cons_succ])
        clear hb
        refine Draws.take 11 (v := ?v20) HS.out rfl (by kernel_rfl) (fun _ _ _ h => h) (Or.inl ⟨rfl, ?h20⟩) ?r20
        case h20 => intro w' hw'; go_simp; (try with_reducible rfl)
        (try simp only [Act.put, List.setIfInBounds_toArray, List.set_cons_zero, List.set_cons_succ])
        refine Draws.done (by kernel_rfl) ?_
        clear HK
        have HK := HS
        clear HS
        go_wp2
        go_roundw
        case rel => exact ⟨m + 1, by omega, by go_num, fun j hj => by
          rcases Nat.lt_or_ge j m with h1 | h1
          · exact HU.out j h1
          · rw [show j = m by omega, HH.out]; exact HAH.out, HK.out⟩
        case measure => simp [intOf]; omega
      | false =>
        have HAH := Lib.hid hah; clear hah
        have HCUT := Lib.hid (show cut hs h = m from cut_eq (by have := HL.out; omega) HU.out (.inr (by rw [HH.out]; exact HAH.out)))
        go_wp2
        refine Draws.start (S := fun u => KeepR w [(bh, 81, h.l)] u) (n := 12) 12 rfl (by kernel_rfl) ?_
        have HS := Lib.hid (show (fun u => KeepR w [(bh, 81, h.l)] u) _ from HK.out.drew)
        refine Draws.take 0 (v := ?v21) HS.out rfl (by kernel_rfl) (fun _ _ _ h => h) (Or.inl ⟨rfl, ?h21⟩) ?r21
        case h21 => intro w' hw'; go_simp; (try with_reducible rfl)
        (try simp only [Act.put, List.setIfInBounds_toArray, List.set_cons_zero, List.set_cons_succ])
        refine Draws.take 1 (v := ?v22) HS.out rfl (by kernel_rfl) (fun _ _ _ h => h) (Or.inl ⟨rfl, ?h22⟩) ?r22
        case h22 => intro w' hw'; go_simp; (try with_reducible rfl)
        (try simp only [Act.put, List.setIfInBounds_toArray, List.set_cons_zero, List.set_cons_succ])
        refine Draws.take 2 (v := ?v23) HS.out rfl (by kernel_rfl) (fun _ _ _ h => h) (Or.inl ⟨rfl, ?h23⟩) ?r23
        case h23 => intro w' hw'; go_simp; (try with_reducible rfl)
        (try simp only [Act.put, List.setIfInBounds_toArray, List.set_cons_zero, List.set_cons_succ])
        refine Draws.take 3 HS.out rfl (by kernel_rfl) (fun _ _ _ h => h) (yield_lss HLT.out _ _ _ rfl rfl rfl rfl) ?_
        (try simp only [Act.put, List.setIfInBounds_toArray, List.set_cons_zero, List.set_cons_succ])
        refine Draws.take 4 (v := ?v24) HS.out rfl (by kernel_rfl) (fun _ _ _ h => h) (Or.inl ⟨rfl, ?h24⟩) ?r24
        case h24 => intro w' hw'; go_simp; (try with_reducible rfl)
        (try simp only [Act.put, List.setIfInBounds_toArray, List.set_cons_zero, List.set_cons_succ])
        refine Draws.take 5 (v := ?v25) HS.out rfl (by kernel_rfl) (fun _ _ _ h => h) (Or.inl ⟨rfl, ?h25⟩) ?r25
        case h25 => intro w' hw'; go_simp; (try with_reducible rfl)
        (try simp only [Act.put, List.setIfInBounds_toArray, List.set_cons_zero, List.set_cons_succ])
        refine Draws.take 6 (v := ?v26) HS.out rfl (by kernel_rfl) (fun _ _ _ h => h) (Or.inl ⟨rfl, ?h26⟩) ?r26
        case h26 => intro w' hw'; go_simp; (try with_reducible rfl)
        (try simp only [Act.put, List.setIfInBounds_toArray, List.set_cons_zero, List.set_cons_succ])
        refine Draws.take 7 (v := ?v27) HS.out rfl (by kernel_rfl) (fun _ _ _ h => h) (Or.inl ⟨rfl, ?h27⟩) ?r27
        case h27 => intro w' hw'; go_simp; (try with_reducible rfl)
        (try simp only [Act.put, List.setIfInBounds_toArray, List.set_cons_zero, List.set_cons_succ])
        refine Draws.take 8 HS.out rfl (by kernel_rfl) (fun _ _ _ h => h) (yield_hold (fun _ hu => range_below HR.out hu.bel HC.out) _ rfl rfl rfl) ?_
        (try simp only [Act.put, List.setIfInBounds_toArray, List.set_cons_zero, List.set_cons_succ])
        refine Draws.take 9 HS.out rfl (by kernel_rfl) (fun _ _ _ h => h) (yield_all (fun _ hu => hu) 0 5 Tryz.underlying81 rfl h_info rfl _ rfl rfl rfl (Ho.len _)) ?_
        (try simp only [Act.put, List.setIfInBounds_toArray, List.set_cons_zero, List.set_cons_succ])
        refine Draws.does 10 rfl (by kernel_rfl) rfl (fun K hK => ?_)
        go_simp
        go_at_call 95
        refine (aha_any _ _ _ HAH.out _).mono ?_
        rintro e u ⟨rfl, hb⟩
        (try dsimp only)
        refine hK.out _ _ (fun _ => HS.out.call hb) ?_
        clear hK K
        have hs : (fun u => KeepR w [(bh, 81, h.l)] u) u := HS.out.call hb
        clear HS
        have HS := Lib.hid hs; clear hs
        (try simp only [Act.put, List.setIfInBounds_toArray, List.set_cons_zero, List.set_cons_succ])
        clear hb
        refine Draws.take 11 (v := ?v28) HS.out rfl (by kernel_rfl) (fun _ _ _ h => h) (Or.inl ⟨rfl, ?h28⟩) ?r28
        case h28 => intro w' hw'; go_simp; (try with_reducible rfl)
        (try simp only [Act.put, List.setIfInBounds_toArray, List.set_cons_zero, List.set_cons_succ])
        refine Draws.done (by kernel_rfl) ?_
        clear HK
        have HK := HS
        clear HS
        go_wp2_with (first
          | (with_reducible refine build_none HK.out rfl rfl ?_; intro v1 u hk; clear HK; have HK := Lib.hid hk; clear hk)
          | (with_reducible refine slice_to (HD.out.below HK.out.keep.bel (Nat.le_refl _)) HM.out HCC.out rfl _ _ rfl rfl rfl ?_; intro A1 hrs; have HRS := Lib.hid hrs; clear hrs)
          | (refine app_hos HK.out rfl _ _ rfl rfl _ _ _ _ rfl HRS.out (by have := HNB.out; have := HM.out; have := HL.out; simp; omega) ?_; intro v2 u hk; clear HK; have HK := Lib.hid hk; clear hk)
          | (with_reducible refine load_all HK.out.keep 0 5 Tryz.underlying81 rfl h_info rfl _ rfl rfl rfl (Ho.len _) ?_)
          | (with_reducible refine build_one HK.out rfl _ rfl rfl ?_; intro b1 u hk hb; clear hb; clear HK; have HK := Lib.hid hk; clear hk)
          | (refine app_hos HK.out rfl _ _ rfl rfl _ _ _ _ rfl HK.out.one (by have := HNB.out; have := HM.out; have := HL.out; simp; omega) ?_; intro v3 u hk0; have hk := hk0.tail; clear hk0; clear HK; have HK := Lib.hid hk; clear hk)
          | (with_reducible refine slice_from (HD.out.below HK.out.keep.bel (Nat.le_refl _)) HM.out HCC.out rfl _ _ rfl rfl rfl ?_; intro A2 hrs; have HRS2 := Lib.hid hrs; clear hrs)
          | (refine app_hos HK.out rfl _ _ rfl rfl _ _ _ _ rfl HRS2.out (by have := HNB.out; have := HM.out; have := HL.out; simp; omega) ?_; intro v4 u hk; clear HK; have HK := Lib.hid hk; clear hk))
        go_ret
        exact ⟨_, rfl, by have h5 := HK.out.own; rw [ins_eq HCUT.out] at h5; exact h5, HK.out.keep.bel⟩
    · obtain rfl : m = n := by omega
      have HCUT := Lib.hid (show cut hs h = m from cut_eq (by have := HL.out; omega) HU.out (.inl HL.out.symm))
      have HLT := Lib.hid (show decide ((m : Int) < (m : Int)) = false by simp)
      go_wp2
      refine Draws.start (S := fun u => KeepR w [(bh, 81, h.l)] u) (n := 12) 12 rfl (by kernel_rfl) ?_
      have HS := Lib.hid (show (fun u => KeepR w [(bh, 81, h.l)] u) _ from HK.out.drew)
      refine Draws.take 0 (v := ?v29) HS.out rfl (by kernel_rfl) (fun _ _ _ h => h) (Or.inl ⟨rfl, ?h29⟩) ?r29
      case h29 => intro w' hw'; go_simp; (try with_reducible rfl)
      (try simp only [Act.put, List.setIfInBounds_toArray, List.set_cons_zero, List.set_cons_succ])
      refine Draws.take 1 (v := ?v30) HS.out rfl (by kernel_rfl) (fun _ _ _ h => h) (Or.inl ⟨rfl, ?h30⟩) ?r30
      case h30 => intro w' hw'; go_simp; (try with_reducible rfl)
      (try simp only [Act.put, List.setIfInBounds_toArray, List.set_cons_zero, List.set_cons_succ])
      refine Draws.take 2 (v := ?v31) HS.out rfl (by kernel_rfl) (fun _ _ _ h => h) (Or.inl ⟨rfl, ?h31⟩) ?r31
      case h31 => intro w' hw'; go_simp; (try with_reducible rfl)
      (try simp only [Act.put, List.setIfInBounds_toArray, List.set_cons_zero, List.set_cons_succ])
      refine Draws.take 3 HS.out rfl (by kernel_rfl) (fun _ _ _ h => h) (yield_lss HLT.out _ _ _ rfl rfl rfl rfl) ?_
      (try simp only [Act.put, List.setIfInBounds_toArray, List.set_cons_zero, List.set_cons_succ])
      refine Draws.take 4 (v := ?v32) HS.out rfl (by kernel_rfl) (fun _ _ _ h => h) (Or.inl ⟨rfl, ?h32⟩) ?r32
      case h32 => intro w' hw'; go_simp; (try with_reducible rfl)
      (try simp only [Act.put, List.setIfInBounds_toArray, List.set_cons_zero, List.set_cons_succ])
      refine Draws.take 5 HS.out rfl (by kernel_rfl) (fun _ _ _ h => h) (Or.inr ⟨rfl, rfl⟩) ?_
      (try simp only [Act.put, List.setIfInBounds_toArray, List.set_cons_zero, List.set_cons_succ])
      refine Draws.take 6 HS.out rfl (by kernel_rfl) (fun _ _ _ h => h) (Or.inr ⟨rfl, rfl⟩) ?_
      (try simp only [Act.put, List.setIfInBounds_toArray, List.set_cons_zero, List.set_cons_succ])
      refine Draws.take 7 HS.out rfl (by kernel_rfl) (fun _ _ _ h => h) (Or.inr ⟨rfl, rfl⟩) ?_
      (try simp only [Act.put, List.setIfInBounds_toArray, List.set_cons_zero, List.set_cons_succ])
      refine Draws.take 8 HS.out rfl (by kernel_rfl) (fun _ _ _ h => h) (Or.inr ⟨rfl, rfl⟩) ?_
      (try simp only [Act.put, List.setIfInBounds_toArray, List.set_cons_zero, List.set_cons_succ])
      refine Draws.take 9 HS.out rfl (by kernel_rfl) (fun _ _ _ h => h) (Or.inr ⟨rfl, rfl⟩) ?_
      (try simp only [Act.put, List.setIfInBounds_toArray, List.set_cons_zero, List.set_cons_succ])
      refine Draws.take 10 HS.out rfl (by kernel_rfl) (fun _ _ _ h => h) (Or.inr ⟨rfl, rfl⟩) ?_
      (try simp only [Act.put, List.setIfInBounds_toArray, List.set_cons_zero, List.set_cons_succ])
      refine Draws.take 11 (v := ?v33) HS.out rfl (by kernel_rfl) (fun _ _ _ h => h) (Or.inl ⟨rfl, ?h33⟩) ?r33
      case h33 => intro w' hw'; go_simp; (try with_reducible rfl)
      (try simp only [Act.put, List.setIfInBounds_toArray, List.set_cons_zero, List.set_cons_succ])
      refine Draws.done (by kernel_rfl) ?_
      clear HK
      have HK := HS
      clear HS
      go_wp2_with (first
        | (with_reducible refine build_none HK.out rfl rfl ?_; intro v1 u hk; clear HK; have HK := Lib.hid hk; clear hk)
        | (with_reducible refine slice_to (HD.out.below HK.out.keep.bel (Nat.le_refl _)) HM.out HCC.out rfl _ _ rfl rfl rfl ?_; intro A1 hrs; have HRS := Lib.hid hrs; clear hrs)
        | (refine app_hos HK.out rfl _ _ rfl rfl _ _ _ _ rfl HRS.out (by have := HNB.out; have := HM.out; have := HL.out; simp; omega) ?_; intro v2 u hk; clear HK; have HK := Lib.hid hk; clear hk)
        | (with_reducible refine load_all HK.out.keep 0 5 Tryz.underlying81 rfl h_info rfl _ rfl rfl rfl (Ho.len _) ?_)
        | (with_reducible refine build_one HK.out rfl _ rfl rfl ?_; intro b1 u hk hb; clear hb; clear HK; have HK := Lib.hid hk; clear hk)
        | (refine app_hos HK.out rfl _ _ rfl rfl _ _ _ _ rfl HK.out.one (by have := HNB.out; have := HM.out; have := HL.out; simp; omega) ?_; intro v3 u hk0; have hk := hk0.tail; clear hk0; clear HK; have HK := Lib.hid hk; clear hk)
        | (with_reducible refine slice_from (HD.out.below HK.out.keep.bel (Nat.le_refl _)) HM.out HCC.out rfl _ _ rfl rfl rfl ?_; intro A2 hrs; have HRS2 := Lib.hid hrs; clear hrs)
        | (refine app_hos HK.out rfl _ _ rfl rfl _ _ _ _ rfl HRS2.out (by have := HNB.out; have := HM.out; have := HL.out; simp; omega) ?_; intro v4 u hk; clear HK; have HK := Lib.hid hk; clear hk))
      go_ret
      exact ⟨_, rfl, by have h5 := HK.out.own; rw [ins_eq HCUT.out] at h5; exact h5, HK.out.keep.bel⟩

theorem put_cap (A : Option Addr) (n c : Nat) (hs : List Ho) (h : Ho) (w : World) (hd : Row w A n hs) (hc : n ≤ c) :
    Calls Tryz.prog 115 #[.slice A n c, .agg (vals h.l).toArray] w fun e w' => ∃ A1 c1, e = .returned (.slice A1 (n + 1) c1) ∧ n + 1 ≤ c1 ∧ Own w' w.heap.size (.slice A1 (n + 1) c1) (insH hs h) ∧ Below w.heap.size w w' :=
  (put_any A n c hs h w hd hc).mono fun e w' ⟨v, he, ho, hb⟩ => by
    have hl : (insH hs h).length = n + 1 := by rw [insH_length, hd.1]
    rcases ho.2 with ⟨_, h0⟩ | ⟨g, cap, cur, e1, h1, h2, h3, h4⟩
    · omega
    · rw [hl] at e1 h3
      subst e1
      exact ⟨_, cap, he, h3, ho, hb⟩
theorem gr_max {l : List Ho} {k : Int} {m : Nat} {x : Ho} {g : Int} (hx : l.getD m z5 = x) (hg : grTo l k m = g) (h1 : (x.r == k) = true) {r : Bool} (h2 : decide (g < x.n) = r) : grTo l k (m + 1) = if r then x.n else g := by
  rw [grTo_yes (by rw [hx]; exact h1), hx, hg]
  cases r with
  | true => simp at h2; simp; omega
  | false => simp at h2; simp; omega
set_option maxHeartbeats 4000000 in
theorem rreserve_any (A : Option Addr) (n c : Nat) (hs : List Ho) (k a d : Int) (w : World) (hd : Row w A n hs) (hc : n ≤ c) :
    Calls Tryz.prog 75 #[.slice A n c, .int .i64 k, .int .i64 a, .int .i64 d] w fun e w' => ∃ v, e = .returned (.tuple #[v, .int .i64 (resN hs k a d), .int .i64 (resE hs k a d)]) ∧ Own w' w.heap.size v (resL hs k a d) ∧ Below w.heap.size w w' := by
  have HD := Lib.hid hd; have HL := Lib.hid hd.1; have HNB := Lib.hid hd.2.1; have HCC := Lib.hid hc; clear hd hc
  have HK := Lib.hid (KeepR.start w)
  cases hrt : rightsL hs with
  | false =>
    obtain ⟨e1, e2, e3⟩ := res_bad (l := hs) (k := k) (a := a) (d := d) (by rw [hrt, Bool.false_and])
    rw [e1, e2, e3]
    have HRT := Lib.hid hrt
    clear e1 e2 e3
    go_enter Tryz.func75, Tryz.ntmps75
    go_wp2_with (first
      | (go_at_call 46; (with_reducible refine (rrights_eq _ _ _ _ _ HRT.out _ (HD.out.below HK.out.bel (Nat.le_refl _))).mono ?_); rintro e u ⟨rfl, hb⟩; have hk := HK.out.call hb; clear hb; clear HK; have HK := Lib.hid hk; clear hk))
    go_ret3
    exact ⟨_, rfl, Own.nil _ _, HK.out.bel⟩
  | true =>
    have HRT := Lib.hid hrt
    have HRB := Lib.hid hrt
    have HGR := Lib.hid (fun m => grTo_range (rights_iff.1 hrt).2.1 k m)
    clear hrt
    go_enter Tryz.func75, Tryz.ntmps75
    go_wp2_with (first
      | (go_at_call 46; (with_reducible refine (rrights_eq _ _ _ _ _ HRT.out _ (HD.out.below HK.out.bel (Nat.le_refl _))).mono ?_); rintro e u ⟨rfl, hb⟩; have hk := HK.out.call hb; clear hb; clear HK; have HK := Lib.hid hk; clear hk))
    go_loopw [11, 12] (fun s i wr => ∃ m : Nat, m ≤ n ∧ i = .int .i64 m ∧ s = .int .i64 (grTo hs k m) ∧ KeepR w [] wr) (fun _ i _ => n - (intOf i).toNat)
    case atStart => exact ⟨0, by omega, rfl, rfl, HK.out⟩
    case round =>
      obtain ⟨m, hm, rfl, rfl, hk⟩ := hrel
      clear HK
      have HK := Lib.hid hk
      clear hk
      have hnb := HNB.out
      by_cases hlt : m < n
      · skip
        obtain ⟨b, off, rfl, hr⟩ := HD.out.at hlt
        have hrm := hr m hlt
        clear hr
        obtain ⟨h, hh⟩ : ∃ h, hs.getD m z5 = h := ⟨_, rfl⟩
        rw [hh] at hrm
        have HH := Lib.hid hh
        have HR := Lib.hid hrm; have HC := Lib.hid (range_lt hrm)
        clear hrm hh
        have i1 : (0 : Int) ≤ (m : Int) := by omega
        have i2 : (m : Int) < (n : Int) := by omega
        generalize hSS : grTo hs k m = g
        have HSS := Lib.hid hSS; clear hSS
        cases h1 : (h.r == k) with
        | false =>
          have HNX := Lib.hid (show grTo hs k (m + 1) = g by rw [grTo_no (by rw [HH.out]; exact h1), HSS.out])
          go_wp2_with (first
            | (with_reducible refine load_cell (range5 (range_below HR.out HK.out.bel HC.out)).1 _ rfl rfl rfl ?_)
            | (with_reducible refine load_cell (range5 (range_below HR.out HK.out.bel HC.out)).2.1 _ rfl rfl rfl ?_)
            | (with_reducible refine load_cell (range5 (range_below HR.out HK.out.bel HC.out)).2.2.1 _ rfl rfl rfl ?_)
            | (with_reducible refine load_cell (range5 (range_below HR.out HK.out.bel HC.out)).2.2.2.1 _ rfl rfl rfl ?_)
            | (with_reducible refine load_cell (range5 (range_below HR.out HK.out.bel HC.out)).2.2.2.2 _ rfl rfl rfl ?_)
            | (with_reducible refine eql_want h1 _ _ _ rfl rfl rfl rfl ?_))
          go_roundw
          case rel => exact ⟨m + 1, by omega, by go_num, by rw [HNX.out], HK.out⟩
          case measure => simp [intOf]; omega
        | true =>
          cases h2 : decide (g < h.n) with
          | false =>
            have HNX := Lib.hid (show grTo hs k (m + 1) = g from gr_max HH.out HSS.out h1 h2)
            go_wp2_with (first
              | (with_reducible refine load_cell (range5 (range_below HR.out HK.out.bel HC.out)).1 _ rfl rfl rfl ?_)
              | (with_reducible refine load_cell (range5 (range_below HR.out HK.out.bel HC.out)).2.1 _ rfl rfl rfl ?_)
              | (with_reducible refine load_cell (range5 (range_below HR.out HK.out.bel HC.out)).2.2.1 _ rfl rfl rfl ?_)
              | (with_reducible refine load_cell (range5 (range_below HR.out HK.out.bel HC.out)).2.2.2.1 _ rfl rfl rfl ?_)
              | (with_reducible refine load_cell (range5 (range_below HR.out HK.out.bel HC.out)).2.2.2.2 _ rfl rfl rfl ?_)
              | (with_reducible refine eql_want h1 _ _ _ rfl rfl rfl rfl ?_)
              | (with_reducible refine gtr_want h2 _ _ _ rfl rfl rfl rfl ?_))
            go_roundw
            case rel => exact ⟨m + 1, by omega, by go_num, by rw [HNX.out], HK.out⟩
            case measure => simp [intOf]; omega
          | true =>
            have HNX := Lib.hid (show grTo hs k (m + 1) = h.n from gr_max HH.out HSS.out h1 h2)
            go_wp2_with (first
              | (with_reducible refine load_cell (range5 (range_below HR.out HK.out.bel HC.out)).1 _ rfl rfl rfl ?_)
              | (with_reducible refine load_cell (range5 (range_below HR.out HK.out.bel HC.out)).2.1 _ rfl rfl rfl ?_)
              | (with_reducible refine load_cell (range5 (range_below HR.out HK.out.bel HC.out)).2.2.1 _ rfl rfl rfl ?_)
              | (with_reducible refine load_cell (range5 (range_below HR.out HK.out.bel HC.out)).2.2.2.1 _ rfl rfl rfl ?_)
              | (with_reducible refine load_cell (range5 (range_below HR.out HK.out.bel HC.out)).2.2.2.2 _ rfl rfl rfl ?_)
              | (with_reducible refine eql_want h1 _ _ _ rfl rfl rfl rfl ?_)
              | (with_reducible refine gtr_want h2 _ _ _ rfl rfl rfl rfl ?_))
            go_roundw
            case rel => exact ⟨m + 1, by omega, by go_num, by rw [HNX.out], HK.out⟩
            case measure => simp [intOf]; omega
      · obtain rfl : m = n := by omega
        have hgr : grTo hs k m = gr hs k := by rw [gr, HL.out]
        have hgb := HGR.out m (by have := HL.out; omega)
        have hle := (rights_iff.1 HRB.out).1
        rw [hgr] at hgb ⊢
        cases hnew : rightH (newH hs k a d) with
        | false =>
          obtain ⟨e1, e2, e3⟩ := res_bad (l := hs) (k := k) (a := a) (d := d) (by rw [hnew, Bool.and_false])
          have HE1 := Lib.hid e1; have HE2 := Lib.hid e2; have HE3 := Lib.hid e3
          unfold newH at hnew
          generalize gr hs k = g at hgb hnew
          have HNEW := Lib.hid hnew
          clear e1 e2 e3 hnew hgr
          go_wp2_with (first
            | (with_reducible refine build_five rfl _ _ _ _ _ rfl rfl rfl rfl rfl rfl ?_)
            | (with_reducible refine alloc_zero HK.out 5 h_zero rfl rfl ?_; intro bh u hn0 hk hb; clear hn0 hb; clear HK; have HK := Lib.hid hk; clear hk)
            | (with_reducible refine store_all HK.out 0 5 h_info rfl rfl _ _ rfl rfl rfl rfl (Ho.len _) (zer_length 5) ?_; intro u hk hs; clear hs; simp only [List.set_cons_zero] at hk; clear HK; have HK := Lib.hid hk; clear hk)
            | (with_reducible refine load_all HK.out 0 5 Tryz.underlying81 rfl h_info rfl _ rfl rfl rfl (Ho.len _) ?_)
            | (go_at_call 94; (with_reducible refine (rrt_any _ _ HNEW.out _).mono ?_); rintro e u ⟨rfl, hb⟩; have hk := HK.out.call hb; clear hb; clear HK; have HK := Lib.hid hk; clear hk))
          go_ret3
          exact ⟨.slice none 0 0, by rw [HE1.out, HE2.out]; rfl, by rw [HE3.out]; exact Own.nil _ _, HK.out.bel⟩
        | true =>
          have hall : (rightsL hs && rightH (newH hs k a d)) = true := by rw [HRB.out, hnew]; rfl
          by_cases h16 : hs.length = 16
          · obtain ⟨e1, e2, e3⟩ := res_full hall h16
            have HE1 := Lib.hid e1; have HE2 := Lib.hid e2; have HE3 := Lib.hid e3
            unfold newH at hnew
            generalize gr hs k = g at hgb hnew
            have HNEW := Lib.hid hnew
            have hn16 : (16 : Int) ≤ (m : Int) := by have := HL.out; omega
            clear e1 e2 e3 hnew hgr hall h16
            go_wp2_with (first
              | (with_reducible refine build_five rfl _ _ _ _ _ rfl rfl rfl rfl rfl rfl ?_)
              | (with_reducible refine alloc_zero HK.out 5 h_zero rfl rfl ?_; intro bh u hn0 hk hb; clear hn0 hb; clear HK; have HK := Lib.hid hk; clear hk)
              | (with_reducible refine store_all HK.out 0 5 h_info rfl rfl _ _ rfl rfl rfl rfl (Ho.len _) (zer_length 5) ?_; intro u hk hs; clear hs; simp only [List.set_cons_zero] at hk; clear HK; have HK := Lib.hid hk; clear hk)
              | (with_reducible refine load_all HK.out 0 5 Tryz.underlying81 rfl h_info rfl _ rfl rfl rfl (Ho.len _) ?_)
              | (go_at_call 94; (with_reducible refine (rrt_any _ _ HNEW.out _).mono ?_); rintro e u ⟨rfl, hb⟩; have hk := HK.out.call hb; clear hb; clear HK; have HK := Lib.hid hk; clear hk))
            go_ret3
            exact ⟨.slice none 0 0, by rw [HE1.out, HE2.out]; rfl, by rw [HE3.out]; exact Own.nil _ _, HK.out.bel⟩
          · obtain ⟨e1, e2, e3⟩ := res_good hall h16
            have HE1 := Lib.hid e1
            unfold newH at hnew e3
            generalize gr hs k = g at hgb hnew e2 e3
            have HE2 := Lib.hid e2; have HE3 := Lib.hid e3
            have HNEW := Lib.hid hnew
            have hn16 : ¬ (16 : Int) ≤ (m : Int) := by have := HL.out; omega
            clear e1 e2 e3 hnew hgr hall h16
            go_wp2_with (first
              | (with_reducible refine build_five rfl _ _ _ _ _ rfl rfl rfl rfl rfl rfl ?_)
              | (with_reducible refine alloc_zero HK.out 5 h_zero rfl rfl ?_; intro bh u hn0 hk hb; clear hn0 hb; clear HK; have HK := Lib.hid hk; clear hk)
              | (with_reducible refine store_all HK.out 0 5 h_info rfl rfl _ _ rfl rfl rfl rfl (Ho.len _) (zer_length 5) ?_; intro u hk hs; clear hs; simp only [List.set_cons_zero] at hk; clear HK; have HK := Lib.hid hk; clear hk)
              | (with_reducible refine load_all HK.out 0 5 Tryz.underlying81 rfl h_info rfl _ rfl rfl rfl (Ho.len _) ?_)
              | (go_at_call 94; (with_reducible refine (rrt_any _ _ HNEW.out _).mono ?_); rintro e u ⟨rfl, hb⟩; have hk := HK.out.call hb; clear hb; clear HK; have HK := Lib.hid hk; clear hk)
              | (go_at_call 115; (with_reducible refine (put_any _ _ _ _ _ _ (HD.out.below HK.out.bel (Nat.le_refl _)) HCC.out).mono ?_); rintro e u ⟨v1, rfl, ho, hb⟩; have hk := (KeepH.of_keep HK.out).other hb ho; clear ho hb; clear HK; have HK := Lib.hid hk; clear hk))
            go_ret3
            exact ⟨v1, by rw [HE1.out, HE2.out]; rfl, by rw [HE3.out]; exact HK.out.own, HK.out.keep.bel⟩
theorem own_pos {u : World} {base n : Nat} {v : Value} {hs : List Ho} (ho : Own u base v ([] ++ hs)) (hl : hs.length = n) (h0 : 0 < n) : ∃ g cap, v = .slice (some ⟨g, 0, none⟩) n cap := by
  have ho' : Own u base v hs := ho
  obtain ⟨g, cap, e, _⟩ := ho'.at (by omega)
  exact ⟨g, cap, by rw [e, hl]⟩
theorem own_sl {u : World} {base n : Nat} {v : Value} {hs : List Ho} (ho : Own u base v ([] ++ hs)) (hl : hs.length = n) : ∃ A1 c1, v = .slice A1 n c1 := by
  have ho' : Own u base v hs := ho
  obtain ⟨A1, c1, e⟩ := ho'.slice
  exact ⟨A1, c1, by rw [e, hl]⟩
set_option maxHeartbeats 4000000 in
set_option maxRecDepth 100000 in
theorem rend_any (A : Option Addr) (n c : Nat) (hs : List Ho) (k q st : Int) (w : World) (hd : Row w A n hs) :
    Calls Tryz.prog 78 #[.slice A n c, .int .i64 k, .int .i64 q, .int .i64 st] w fun e w' => ∃ v, e = .returned (.tuple #[v, .int .i64 (endA hs k q st), .int .i64 (endE hs k q st)]) ∧ Own w' w.heap.size v (endL hs k q st) ∧ Below w.heap.size w w' := by
  have HD := Lib.hid hd; have HL := Lib.hid hd.1; have HNB := Lib.hid hd.2.1; clear hd
  have HK := Lib.hid (KeepR.start w)
  cases hrt : rightsL hs with
  | false =>
    obtain ⟨e1, e2, e3⟩ := end_bad (l := hs) (k := k) (n := q) (st := st) (by rw [hrt, Bool.false_and])
    rw [e1, e2, e3]
    have HRT := Lib.hid hrt
    clear e1 e2 e3
    go_enter Tryz.func78, Tryz.ntmps78
    go_wp2_with (first
      | (go_at_call 46; (with_reducible refine (rrights_eq _ _ _ _ _ HRT.out _ (HD.out.below HK.out.bel (Nat.le_refl _))).mono ?_); rintro e u ⟨rfl, hb⟩; have hk := HK.out.call hb; clear hb; clear HK; have HK := Lib.hid hk; clear hk))
    go_ret3
    exact ⟨_, rfl, Own.nil _ _, HK.out.bel⟩
  | true =>
    have HRT := Lib.hid hrt; have HRB := Lib.hid hrt
    by_cases hst : st = 2 ∨ st = 3
    · clear hrt
      rcases hst with rfl | rfl
      · skip
        go_enter Tryz.func78, Tryz.ntmps78
        go_wp2_with (first
          | (go_at_call 46; (with_reducible refine (rrights_eq _ _ _ _ _ HRT.out _ (HD.out.below HK.out.bel (Nat.le_refl _))).mono ?_); rintro e u ⟨rfl, hb⟩; have hk := HK.out.call hb; clear hb; clear HK; have HK := Lib.hid hk; clear hk))
        go_loopw [11] (fun i wr => ∃ m : Nat, m ≤ n ∧ i = .int .i64 m ∧ (∀ j, j < m → nm k q (hs.getD j z5) = false) ∧ KeepR w [] wr) (fun i _ => n - (intOf i).toNat)
        case atStart => exact ⟨0, by omega, rfl, by omega, HK.out⟩
        case round =>
          obtain ⟨m, hm, rfl, hu, hk⟩ := hrel
          clear HK
          have HK := Lib.hid hk; have HU := Lib.hid hu
          clear hk hu
          have hnb := HNB.out
          by_cases hlt : m < n
          · have hml : m < hs.length := by have := HL.out; omega
            obtain ⟨b, off, rfl, hr⟩ := HD.out.at hlt
            have hrm := hr m hlt
            clear hr
            obtain ⟨h, hh⟩ : ∃ h, hs.getD m z5 = h := ⟨_, rfl⟩
            rw [hh] at hrm
            have HH := Lib.hid hh
            have HR := Lib.hid hrm; have HC := Lib.hid (range_lt hrm)
            clear hrm hh
            have i1 : (0 : Int) ≤ (m : Int) := by omega
            have i2 : (m : Int) < (n : Int) := by omega
            cases h1 : (h.r == k) with
            | false =>
              have HNN := Lib.hid (show nm k q h = false by simp only [nm, h1, Bool.false_and])
              go_wp2_with (first
                | (with_reducible refine load_cell (range5 (range_below HR.out HK.out.bel HC.out)).1 _ rfl rfl rfl ?_)
                | (with_reducible refine load_cell (range5 (range_below HR.out HK.out.bel HC.out)).2.1 _ rfl rfl rfl ?_)
                | (with_reducible refine load_cell (range5 (range_below HR.out HK.out.bel HC.out)).2.2.1 _ rfl rfl rfl ?_)
                | (with_reducible refine load_cell (range5 (range_below HR.out HK.out.bel HC.out)).2.2.2.1 _ rfl rfl rfl ?_)
                | (with_reducible refine load_cell (range5 (range_below HR.out HK.out.bel HC.out)).2.2.2.2 _ rfl rfl rfl ?_)
                | (with_reducible refine eql_want h1 _ _ _ rfl rfl rfl rfl ?_))
              go_roundw
              case rel => exact ⟨m + 1, by omega, by go_num, fun j hj => by
                rcases Nat.lt_or_ge j m with h1 | h1
                · exact HU.out j h1
                · rw [show j = m by omega, HH.out]; exact HNN.out, HK.out⟩
              case measure => simp [intOf]; omega
            | true =>
              cases h2 : (h.n == q) with
              | false =>
                have HNN := Lib.hid (show nm k q h = false by simp only [nm, h1, h2, Bool.true_and])
                go_wp2_with (first
                  | (with_reducible refine load_cell (range5 (range_below HR.out HK.out.bel HC.out)).1 _ rfl rfl rfl ?_)
                  | (with_reducible refine load_cell (range5 (range_below HR.out HK.out.bel HC.out)).2.1 _ rfl rfl rfl ?_)
                  | (with_reducible refine load_cell (range5 (range_below HR.out HK.out.bel HC.out)).2.2.1 _ rfl rfl rfl ?_)
                  | (with_reducible refine load_cell (range5 (range_below HR.out HK.out.bel HC.out)).2.2.2.1 _ rfl rfl rfl ?_)
                  | (with_reducible refine load_cell (range5 (range_below HR.out HK.out.bel HC.out)).2.2.2.2 _ rfl rfl rfl ?_)
                  | (with_reducible refine eql_want h1 _ _ _ rfl rfl rfl rfl ?_)
                  | (with_reducible refine eql_want h2 _ _ _ rfl rfl rfl rfl ?_))
                go_roundw
                case rel => exact ⟨m + 1, by omega, by go_num, fun j hj => by
                  rcases Nat.lt_or_ge j m with h1 | h1
                  · exact HU.out j h1
                  · rw [show j = m by omega, HH.out]; exact HNN.out, HK.out⟩
                case measure => simp [intOf]; omega
              | true =>
                have hnm : nm k q (hs.getD m z5) = true := by rw [HH.out]; simp only [nm, h1, h2, Bool.true_and]
                by_cases hs1 : h.s = 1
                · obtain ⟨e1, e2, e3⟩ := end_good (st := 2) (by rw [HRB.out]; rfl) hml HU.out hnm (by rw [HH.out]; exact hs1)
                  rw [HH.out] at e2 e3
                  have HE1 := Lib.hid e1; have HE2 := Lib.hid e2; have HE3 := Lib.hid e3
                  have HPOS := Lib.hid (show 0 < n by omega)
                  have HMH := Lib.hid hml
                  have HSET := Lib.hid (fun z : Int => show (⟨(hs.getD m z5).r, (hs.getD m z5).n, (hs.getD m z5).a, (hs.getD m z5).d, z⟩ : Ho) = setS h z by rw [HH.out]; rfl)
                  have n1 : (h.s != 1) = false := by simp [hs1]
                  clear e1 e2 e3 hnm hml
                  go_wp2_with (first
                    | (with_reducible refine load_cell (range5 (range_below HR.out HK.out.bel HC.out)).1 _ rfl rfl rfl ?_)
                    | (with_reducible refine load_cell (range5 (range_below HR.out HK.out.bel HC.out)).2.1 _ rfl rfl rfl ?_)
                    | (with_reducible refine load_cell (range5 (range_below HR.out HK.out.bel HC.out)).2.2.1 _ rfl rfl rfl ?_)
                    | (with_reducible refine load_cell (range5 (range_below HR.out HK.out.bel HC.out)).2.2.2.1 _ rfl rfl rfl ?_)
                    | (with_reducible refine load_cell (range5 (range_below HR.out HK.out.bel HC.out)).2.2.2.2 _ rfl rfl rfl ?_)
                    | (with_reducible refine eql_want h1 _ _ _ rfl rfl rfl rfl ?_)
                    | (with_reducible refine eql_want h2 _ _ _ rfl rfl rfl rfl ?_)
                    | (with_reducible refine neq_want n1 _ _ _ rfl rfl rfl rfl ?_)
                    | (with_reducible refine build_none HK.out rfl rfl ?_; intro v1 u hk; clear HK; have HK := Lib.hid hk; clear hk)
                    | (refine app_hos HK.out rfl _ _ rfl rfl _ _ _ hs rfl (HD.out.below HK.out.keep.bel (Nat.le_refl _)) (by have := HNB.out; simp; omega) ?_; intro v2 u hk0; obtain ⟨g, cap, rfl⟩ := own_pos hk0.own HL.out HPOS.out; have hk : KeepH w [] (.slice (some ⟨g, 0, none⟩) n cap) hs u := hk0; clear hk0; clear HK; have HK := Lib.hid hk; clear hk)
                    | (with_reducible refine store_state HK.out HMH.out rfl rfl _ _ rfl rfl rfl rfl ?_; intro u hk; clear HK; have HK := Lib.hid hk; clear hk))
                  have hk := HK.out
                  rw [HSET.out] at hk
                  clear HK
                  have HK := Lib.hid hk
                  clear hk
                  refine Draws.start (S := fun u => KeepH w [] (.slice (some ⟨g, 0, none⟩) n cap) (hs.set m (setS h 2)) u) (n := 9) 9 rfl (by kernel_rfl) ?_
                  have HS := Lib.hid (show (fun u => KeepH w [] (.slice (some ⟨g, 0, none⟩) n cap) (hs.set m (setS h 2)) u) _ from HK.out.drew)
                  refine Draws.take 0 (v := ?v34) HS.out rfl (by kernel_rfl) (fun _ _ _ h => h) (Or.inl ⟨rfl, ?h34⟩) ?r34
                  case h34 => intro w' hw'; go_simp; (try with_reducible rfl)
                  (try simp only [Act.put, List.setIfInBounds_toArray, List.set_cons_zero, List.set_cons_succ])
                  refine Draws.take 1 (v := ?v35) HS.out rfl (by kernel_rfl) (fun _ _ _ h => h) (Or.inl ⟨rfl, ?h35⟩) ?r35
                  case h35 => intro w' hw'; go_simp; (try with_reducible rfl)
                  (try simp only [Act.put, List.setIfInBounds_toArray, List.set_cons_zero, List.set_cons_succ])
                  refine Draws.take 2 (v := ?v36) HS.out rfl (by kernel_rfl) (fun _ _ _ h => h) (Or.inl ⟨rfl, ?h36⟩) ?r36
                  case h36 => intro w' hw'; go_simp; (try with_reducible rfl)
                  (try simp only [Act.put, List.setIfInBounds_toArray, List.set_cons_zero, List.set_cons_succ])
                  refine Draws.take 3 (v := ?v37) HS.out rfl (by kernel_rfl) (fun _ _ _ h => h) (Or.inl ⟨rfl, ?h37⟩) ?r37
                  case h37 => intro w' hw'; go_simp; (try with_reducible rfl)
                  (try simp only [Act.put, List.setIfInBounds_toArray, List.set_cons_zero, List.set_cons_succ])
                  refine Draws.take 4 (v := ?v38) HS.out rfl (by kernel_rfl) (fun _ _ _ h => h) (Or.inl ⟨rfl, ?h38⟩) ?r38
                  case h38 => intro w' hw'; go_simp; (try with_reducible rfl)
                  (try simp only [Act.put, List.setIfInBounds_toArray, List.set_cons_zero, List.set_cons_succ])
                  refine Draws.take 5 HS.out rfl (by kernel_rfl) (fun _ _ _ h => h) (yield_int (fun _ hu => (range5 (range_below HR.out hu.keep.bel HC.out)).2.2.1) _ rfl rfl rfl) ?_
                  (try simp only [Act.put, List.setIfInBounds_toArray, List.set_cons_zero, List.set_cons_succ])
                  refine Draws.take 6 (v := ?v39) HS.out rfl (by kernel_rfl) (fun _ _ _ h => h) (Or.inl ⟨rfl, ?h39⟩) ?r39
                  case h39 => intro w' hw'; go_simp; (try with_reducible rfl)
                  (try simp only [Act.put, List.setIfInBounds_toArray, List.set_cons_zero, List.set_cons_succ])
                  refine Draws.take 7 (v := ?v40) HS.out rfl (by kernel_rfl) (fun _ _ _ h => h) (Or.inl ⟨rfl, ?h40⟩) ?r40
                  case h40 => intro w' hw'; go_simp; (try with_reducible rfl)
                  (try simp only [Act.put, List.setIfInBounds_toArray, List.set_cons_zero, List.set_cons_succ])
                  refine Draws.take 8 (v := ?v41) HS.out rfl (by kernel_rfl) (fun _ _ _ h => h) (Or.inl ⟨rfl, ?h41⟩) ?r41
                  case h41 => intro w' hw'; go_simp; (try with_reducible rfl)
                  (try simp only [Act.put, List.setIfInBounds_toArray, List.set_cons_zero, List.set_cons_succ])
                  refine Draws.done (by kernel_rfl) ?_
                  go_wp2
                  go_ret3
                  exact ⟨_, by rw [HE1.out, HE2.out]; rfl, by rw [HE3.out]; exact HS.out.own, HS.out.keep.bel⟩
                · obtain ⟨e1, e2, e3⟩ := end_state (st := 2) (by rw [HRB.out]; rfl) (fnd_hit hml HU.out hnm) (by rw [HH.out]; exact hs1)
                  have HE1 := Lib.hid e1; have HE2 := Lib.hid e2; have HE3 := Lib.hid e3
                  have n1 : (h.s != 1) = true := by simp [hs1]
                  clear e1 e2 e3 hnm hml
                  go_wp2_with (first
                    | (with_reducible refine load_cell (range5 (range_below HR.out HK.out.bel HC.out)).1 _ rfl rfl rfl ?_)
                    | (with_reducible refine load_cell (range5 (range_below HR.out HK.out.bel HC.out)).2.1 _ rfl rfl rfl ?_)
                    | (with_reducible refine load_cell (range5 (range_below HR.out HK.out.bel HC.out)).2.2.1 _ rfl rfl rfl ?_)
                    | (with_reducible refine load_cell (range5 (range_below HR.out HK.out.bel HC.out)).2.2.2.1 _ rfl rfl rfl ?_)
                    | (with_reducible refine load_cell (range5 (range_below HR.out HK.out.bel HC.out)).2.2.2.2 _ rfl rfl rfl ?_)
                    | (with_reducible refine eql_want h1 _ _ _ rfl rfl rfl rfl ?_)
                    | (with_reducible refine eql_want h2 _ _ _ rfl rfl rfl rfl ?_)
                    | (with_reducible refine neq_want n1 _ _ _ rfl rfl rfl rfl ?_))
                  go_ret3
                  exact ⟨.slice none 0 0, by rw [HE1.out, HE2.out]; rfl, by rw [HE3.out]; exact Own.nil _ _, HK.out.bel⟩
          · obtain rfl : m = n := by omega
            obtain ⟨e1, e2, e3⟩ := end_none (st := 2) (by rw [HRB.out]; rfl) (fnd_miss (by rw [HL.out]; exact HU.out))
            have HE1 := Lib.hid e1; have HE2 := Lib.hid e2; have HE3 := Lib.hid e3
            clear e1 e2 e3
            go_wp2
            go_ret3
            exact ⟨.slice none 0 0, by rw [HE1.out, HE2.out]; rfl, by rw [HE3.out]; exact Own.nil _ _, HK.out.bel⟩
      · skip
        go_enter Tryz.func78, Tryz.ntmps78
        go_wp2_with (first
          | (go_at_call 46; (with_reducible refine (rrights_eq _ _ _ _ _ HRT.out _ (HD.out.below HK.out.bel (Nat.le_refl _))).mono ?_); rintro e u ⟨rfl, hb⟩; have hk := HK.out.call hb; clear hb; clear HK; have HK := Lib.hid hk; clear hk))
        go_loopw [11] (fun i wr => ∃ m : Nat, m ≤ n ∧ i = .int .i64 m ∧ (∀ j, j < m → nm k q (hs.getD j z5) = false) ∧ KeepR w [] wr) (fun i _ => n - (intOf i).toNat)
        case atStart => exact ⟨0, by omega, rfl, by omega, HK.out⟩
        case round =>
          obtain ⟨m, hm, rfl, hu, hk⟩ := hrel
          clear HK
          have HK := Lib.hid hk; have HU := Lib.hid hu
          clear hk hu
          have hnb := HNB.out
          by_cases hlt : m < n
          · have hml : m < hs.length := by have := HL.out; omega
            obtain ⟨b, off, rfl, hr⟩ := HD.out.at hlt
            have hrm := hr m hlt
            clear hr
            obtain ⟨h, hh⟩ : ∃ h, hs.getD m z5 = h := ⟨_, rfl⟩
            rw [hh] at hrm
            have HH := Lib.hid hh
            have HR := Lib.hid hrm; have HC := Lib.hid (range_lt hrm)
            clear hrm hh
            have i1 : (0 : Int) ≤ (m : Int) := by omega
            have i2 : (m : Int) < (n : Int) := by omega
            cases h1 : (h.r == k) with
            | false =>
              have HNN := Lib.hid (show nm k q h = false by simp only [nm, h1, Bool.false_and])
              go_wp2_with (first
                | (with_reducible refine load_cell (range5 (range_below HR.out HK.out.bel HC.out)).1 _ rfl rfl rfl ?_)
                | (with_reducible refine load_cell (range5 (range_below HR.out HK.out.bel HC.out)).2.1 _ rfl rfl rfl ?_)
                | (with_reducible refine load_cell (range5 (range_below HR.out HK.out.bel HC.out)).2.2.1 _ rfl rfl rfl ?_)
                | (with_reducible refine load_cell (range5 (range_below HR.out HK.out.bel HC.out)).2.2.2.1 _ rfl rfl rfl ?_)
                | (with_reducible refine load_cell (range5 (range_below HR.out HK.out.bel HC.out)).2.2.2.2 _ rfl rfl rfl ?_)
                | (with_reducible refine eql_want h1 _ _ _ rfl rfl rfl rfl ?_))
              go_roundw
              case rel => exact ⟨m + 1, by omega, by go_num, fun j hj => by
                rcases Nat.lt_or_ge j m with h1 | h1
                · exact HU.out j h1
                · rw [show j = m by omega, HH.out]; exact HNN.out, HK.out⟩
              case measure => simp [intOf]; omega
            | true =>
              cases h2 : (h.n == q) with
              | false =>
                have HNN := Lib.hid (show nm k q h = false by simp only [nm, h1, h2, Bool.true_and])
                go_wp2_with (first
                  | (with_reducible refine load_cell (range5 (range_below HR.out HK.out.bel HC.out)).1 _ rfl rfl rfl ?_)
                  | (with_reducible refine load_cell (range5 (range_below HR.out HK.out.bel HC.out)).2.1 _ rfl rfl rfl ?_)
                  | (with_reducible refine load_cell (range5 (range_below HR.out HK.out.bel HC.out)).2.2.1 _ rfl rfl rfl ?_)
                  | (with_reducible refine load_cell (range5 (range_below HR.out HK.out.bel HC.out)).2.2.2.1 _ rfl rfl rfl ?_)
                  | (with_reducible refine load_cell (range5 (range_below HR.out HK.out.bel HC.out)).2.2.2.2 _ rfl rfl rfl ?_)
                  | (with_reducible refine eql_want h1 _ _ _ rfl rfl rfl rfl ?_)
                  | (with_reducible refine eql_want h2 _ _ _ rfl rfl rfl rfl ?_))
                go_roundw
                case rel => exact ⟨m + 1, by omega, by go_num, fun j hj => by
                  rcases Nat.lt_or_ge j m with h1 | h1
                  · exact HU.out j h1
                  · rw [show j = m by omega, HH.out]; exact HNN.out, HK.out⟩
                case measure => simp [intOf]; omega
              | true =>
                have hnm : nm k q (hs.getD m z5) = true := by rw [HH.out]; simp only [nm, h1, h2, Bool.true_and]
                by_cases hs1 : h.s = 1
                · obtain ⟨e1, e2, e3⟩ := end_good (st := 3) (by rw [HRB.out]; rfl) hml HU.out hnm (by rw [HH.out]; exact hs1)
                  rw [HH.out] at e2 e3
                  have HE1 := Lib.hid e1; have HE2 := Lib.hid e2; have HE3 := Lib.hid e3
                  have HPOS := Lib.hid (show 0 < n by omega)
                  have HMH := Lib.hid hml
                  have HSET := Lib.hid (fun z : Int => show (⟨(hs.getD m z5).r, (hs.getD m z5).n, (hs.getD m z5).a, (hs.getD m z5).d, z⟩ : Ho) = setS h z by rw [HH.out]; rfl)
                  have n1 : (h.s != 1) = false := by simp [hs1]
                  clear e1 e2 e3 hnm hml
                  go_wp2_with (first
                    | (with_reducible refine load_cell (range5 (range_below HR.out HK.out.bel HC.out)).1 _ rfl rfl rfl ?_)
                    | (with_reducible refine load_cell (range5 (range_below HR.out HK.out.bel HC.out)).2.1 _ rfl rfl rfl ?_)
                    | (with_reducible refine load_cell (range5 (range_below HR.out HK.out.bel HC.out)).2.2.1 _ rfl rfl rfl ?_)
                    | (with_reducible refine load_cell (range5 (range_below HR.out HK.out.bel HC.out)).2.2.2.1 _ rfl rfl rfl ?_)
                    | (with_reducible refine load_cell (range5 (range_below HR.out HK.out.bel HC.out)).2.2.2.2 _ rfl rfl rfl ?_)
                    | (with_reducible refine eql_want h1 _ _ _ rfl rfl rfl rfl ?_)
                    | (with_reducible refine eql_want h2 _ _ _ rfl rfl rfl rfl ?_)
                    | (with_reducible refine neq_want n1 _ _ _ rfl rfl rfl rfl ?_)
                    | (with_reducible refine build_none HK.out rfl rfl ?_; intro v1 u hk; clear HK; have HK := Lib.hid hk; clear hk)
                    | (refine app_hos HK.out rfl _ _ rfl rfl _ _ _ hs rfl (HD.out.below HK.out.keep.bel (Nat.le_refl _)) (by have := HNB.out; simp; omega) ?_; intro v2 u hk0; obtain ⟨g, cap, rfl⟩ := own_pos hk0.own HL.out HPOS.out; have hk : KeepH w [] (.slice (some ⟨g, 0, none⟩) n cap) hs u := hk0; clear hk0; clear HK; have HK := Lib.hid hk; clear hk)
                    | (with_reducible refine store_state HK.out HMH.out rfl rfl _ _ rfl rfl rfl rfl ?_; intro u hk; clear HK; have HK := Lib.hid hk; clear hk))
                  have hk := HK.out
                  rw [HSET.out] at hk
                  clear HK
                  have HK := Lib.hid hk
                  clear hk
                  refine Draws.start (S := fun u => KeepH w [] (.slice (some ⟨g, 0, none⟩) n cap) (hs.set m (setS h 3)) u) (n := 9) 9 rfl (by kernel_rfl) ?_
                  have HS := Lib.hid (show (fun u => KeepH w [] (.slice (some ⟨g, 0, none⟩) n cap) (hs.set m (setS h 3)) u) _ from HK.out.drew)
                  refine Draws.take 0 (v := ?v42) HS.out rfl (by kernel_rfl) (fun _ _ _ h => h) (Or.inl ⟨rfl, ?h42⟩) ?r42
                  case h42 => intro w' hw'; go_simp; (try with_reducible rfl)
                  (try simp only [Act.put, List.setIfInBounds_toArray, List.set_cons_zero, List.set_cons_succ])
                  refine Draws.take 1 (v := ?v43) HS.out rfl (by kernel_rfl) (fun _ _ _ h => h) (Or.inl ⟨rfl, ?h43⟩) ?r43
                  case h43 => intro w' hw'; go_simp; (try with_reducible rfl)
                  (try simp only [Act.put, List.setIfInBounds_toArray, List.set_cons_zero, List.set_cons_succ])
                  refine Draws.take 2 (v := ?v44) HS.out rfl (by kernel_rfl) (fun _ _ _ h => h) (Or.inl ⟨rfl, ?h44⟩) ?r44
                  case h44 => intro w' hw'; go_simp; (try with_reducible rfl)
                  (try simp only [Act.put, List.setIfInBounds_toArray, List.set_cons_zero, List.set_cons_succ])
                  refine Draws.take 3 (v := ?v45) HS.out rfl (by kernel_rfl) (fun _ _ _ h => h) (Or.inl ⟨rfl, ?h45⟩) ?r45
                  case h45 => intro w' hw'; go_simp; (try with_reducible rfl)
                  (try simp only [Act.put, List.setIfInBounds_toArray, List.set_cons_zero, List.set_cons_succ])
                  refine Draws.take 4 (v := ?v46) HS.out rfl (by kernel_rfl) (fun _ _ _ h => h) (Or.inl ⟨rfl, ?h46⟩) ?r46
                  case h46 => intro w' hw'; go_simp; (try with_reducible rfl)
                  (try simp only [Act.put, List.setIfInBounds_toArray, List.set_cons_zero, List.set_cons_succ])
                  refine Draws.take 5 HS.out rfl (by kernel_rfl) (fun _ _ _ h => h) (yield_int (fun _ hu => (range5 (range_below HR.out hu.keep.bel HC.out)).2.2.1) _ rfl rfl rfl) ?_
                  (try simp only [Act.put, List.setIfInBounds_toArray, List.set_cons_zero, List.set_cons_succ])
                  refine Draws.take 6 (v := ?v47) HS.out rfl (by kernel_rfl) (fun _ _ _ h => h) (Or.inl ⟨rfl, ?h47⟩) ?r47
                  case h47 => intro w' hw'; go_simp; (try with_reducible rfl)
                  (try simp only [Act.put, List.setIfInBounds_toArray, List.set_cons_zero, List.set_cons_succ])
                  refine Draws.take 7 (v := ?v48) HS.out rfl (by kernel_rfl) (fun _ _ _ h => h) (Or.inl ⟨rfl, ?h48⟩) ?r48
                  case h48 => intro w' hw'; go_simp; (try with_reducible rfl)
                  (try simp only [Act.put, List.setIfInBounds_toArray, List.set_cons_zero, List.set_cons_succ])
                  refine Draws.take 8 (v := ?v49) HS.out rfl (by kernel_rfl) (fun _ _ _ h => h) (Or.inl ⟨rfl, ?h49⟩) ?r49
                  case h49 => intro w' hw'; go_simp; (try with_reducible rfl)
                  (try simp only [Act.put, List.setIfInBounds_toArray, List.set_cons_zero, List.set_cons_succ])
                  refine Draws.done (by kernel_rfl) ?_
                  go_wp2
                  go_ret3
                  exact ⟨_, by rw [HE1.out, HE2.out]; rfl, by rw [HE3.out]; exact HS.out.own, HS.out.keep.bel⟩
                · obtain ⟨e1, e2, e3⟩ := end_state (st := 3) (by rw [HRB.out]; rfl) (fnd_hit hml HU.out hnm) (by rw [HH.out]; exact hs1)
                  have HE1 := Lib.hid e1; have HE2 := Lib.hid e2; have HE3 := Lib.hid e3
                  have n1 : (h.s != 1) = true := by simp [hs1]
                  clear e1 e2 e3 hnm hml
                  go_wp2_with (first
                    | (with_reducible refine load_cell (range5 (range_below HR.out HK.out.bel HC.out)).1 _ rfl rfl rfl ?_)
                    | (with_reducible refine load_cell (range5 (range_below HR.out HK.out.bel HC.out)).2.1 _ rfl rfl rfl ?_)
                    | (with_reducible refine load_cell (range5 (range_below HR.out HK.out.bel HC.out)).2.2.1 _ rfl rfl rfl ?_)
                    | (with_reducible refine load_cell (range5 (range_below HR.out HK.out.bel HC.out)).2.2.2.1 _ rfl rfl rfl ?_)
                    | (with_reducible refine load_cell (range5 (range_below HR.out HK.out.bel HC.out)).2.2.2.2 _ rfl rfl rfl ?_)
                    | (with_reducible refine eql_want h1 _ _ _ rfl rfl rfl rfl ?_)
                    | (with_reducible refine eql_want h2 _ _ _ rfl rfl rfl rfl ?_)
                    | (with_reducible refine neq_want n1 _ _ _ rfl rfl rfl rfl ?_))
                  go_ret3
                  exact ⟨.slice none 0 0, by rw [HE1.out, HE2.out]; rfl, by rw [HE3.out]; exact Own.nil _ _, HK.out.bel⟩
          · obtain rfl : m = n := by omega
            obtain ⟨e1, e2, e3⟩ := end_none (st := 3) (by rw [HRB.out]; rfl) (fnd_miss (by rw [HL.out]; exact HU.out))
            have HE1 := Lib.hid e1; have HE2 := Lib.hid e2; have HE3 := Lib.hid e3
            clear e1 e2 e3
            go_wp2
            go_ret3
            exact ⟨.slice none 0 0, by rw [HE1.out, HE2.out]; rfl, by rw [HE3.out]; exact Own.nil _ _, HK.out.bel⟩
    · have hsb : (rightsL hs && (decide (st = 2) || decide (st = 3))) = false := by
        rw [hrt, Bool.true_and, Bool.or_eq_false_iff, decide_eq_false_iff_not, decide_eq_false_iff_not]; omega
      obtain ⟨e1, e2, e3⟩ := end_bad (l := hs) (k := k) (n := q) (st := st) hsb
      rw [e1, e2, e3]
      clear e1 e2 e3 hsb
      by_cases hlo : st < 2
      · have n2 : decide (st < 2) = true := by simp [hlo]
        go_enter Tryz.func78, Tryz.ntmps78
        go_wp2_with (first
          | (go_at_call 46; (with_reducible refine (rrights_eq _ _ _ _ _ HRT.out _ (HD.out.below HK.out.bel (Nat.le_refl _))).mono ?_); rintro e u ⟨rfl, hb⟩; have hk := HK.out.call hb; clear hb; clear HK; have HK := Lib.hid hk; clear hk)
          | (with_reducible refine lss_want n2 _ _ _ rfl rfl rfl rfl ?_))
        go_ret3
        exact ⟨_, rfl, Own.nil _ _, HK.out.bel⟩
      · have n2 : decide (st < 2) = false := by simp; omega
        have n3 : decide (3 < st) = true := by simp; omega
        go_enter Tryz.func78, Tryz.ntmps78
        go_wp2_with (first
          | (go_at_call 46; (with_reducible refine (rrights_eq _ _ _ _ _ HRT.out _ (HD.out.below HK.out.bel (Nat.le_refl _))).mono ?_); rintro e u ⟨rfl, hb⟩; have hk := HK.out.call hb; clear hb; clear HK; have HK := Lib.hid hk; clear hk)
          | (with_reducible refine lss_want n2 _ _ _ rfl rfl rfl rfl ?_)
          | (with_reducible refine gtr_want n3 _ _ _ rfl rfl rfl rfl ?_))
        go_ret3
        exact ⟨_, rfl, Own.nil _ _, HK.out.bel⟩
set_option maxHeartbeats 4000000 in
set_option maxRecDepth 100000 in
theorem rexpire_any (A : Option Addr) (n c : Nat) (hs : List Ho) (k now : Int) (w : World) (hd : Row w A n hs) :
    Calls Tryz.prog 81 #[.slice A n c, .int .i64 k, .int .i64 now] w fun e w' => ∃ v, e = .returned (.tuple #[v, .int .i64 (expN hs k now)]) ∧ Own w' w.heap.size v (expL hs k now) ∧ Below w.heap.size w w' := by
  have HD := Lib.hid hd; have HL := Lib.hid hd.1; have HNB := Lib.hid hd.2.1; clear hd
  have HK := Lib.hid (KeepR.start w)
  cases hrt : rightsL hs with
  | false =>
    rw [show expN hs k now = 0 by rw [expN, hrt]; rfl, show expL hs k now = hs by rw [expL, hrt]; rfl]
    have HRT := Lib.hid hrt; clear hrt
    go_enter Tryz.func81, Tryz.ntmps81
    go_wp2_with (first
      | (with_reducible refine build_none HK.out rfl rfl ?_; intro v1 u hk; clear HK; have HK := Lib.hid hk; clear hk)
      | (refine app_hos HK.out rfl _ _ rfl rfl _ _ _ hs rfl (HD.out.below HK.out.keep.bel (Nat.le_refl _)) (by have := HNB.out; simp; omega) ?_; intro v2 u hk0; obtain ⟨A1, c1, rfl⟩ := own_sl hk0.own HL.out; have hk : KeepH w [] (.slice A1 n c1) hs u := hk0; clear hk0; clear HK; have HK := Lib.hid hk; clear hk))
    go_loopw [9, 10] (fun s i wr => s = .int .i64 0 ∧ i = .int .i64 0 ∧ KeepH w [] (.slice A1 n c1) hs wr) (fun _ _ _ => 0)
    case atStart => exact ⟨rfl, rfl, HK.out⟩
    case round =>
      obtain ⟨rfl, rfl, hk⟩ := hrel
      clear HK
      have HK := Lib.hid hk
      clear hk
      by_cases hn : 0 < n
      · have q1 : decide ((0 : Int) < (n : Int)) = true := by simp; omega
        go_wp2_with (first
          | (with_reducible refine lss_want q1 _ _ _ rfl rfl rfl rfl ?_)
          | (go_at_call 46; (with_reducible refine (rrights_eq _ _ _ _ _ HRT.out _ (HD.out.below HK.out.keep.bel (Nat.le_refl _))).mono ?_); rintro e u ⟨rfl, hb⟩; have hk := HK.out.call hb; clear hb; clear HK; have HK := Lib.hid hk; clear hk))
        go_ret2
        exact ⟨_, rfl, HK.out.own, HK.out.keep.bel⟩
      · have q1 : decide ((0 : Int) < (n : Int)) = false := by simp; omega
        go_wp2_with (first
          | (with_reducible refine lss_want q1 _ _ _ rfl rfl rfl rfl ?_))
        go_ret2
        exact ⟨_, rfl, HK.out.own, HK.out.keep.bel⟩
  | true =>
    rw [show expN hs k now = cntTo hs k now hs.length by rw [expN, hrt]; rfl, show expL hs k now = hs.map (goes k now) by rw [expL, hrt]; rfl]
    have HRT := Lib.hid hrt; clear hrt
    go_enter Tryz.func81, Tryz.ntmps81
    go_wp2_with (first
      | (with_reducible refine build_none HK.out rfl rfl ?_; intro v1 u hk; clear HK; have HK := Lib.hid hk; clear hk)
      | (refine app_hos HK.out rfl _ _ rfl rfl _ _ _ hs rfl (HD.out.below HK.out.keep.bel (Nat.le_refl _)) (by have := HNB.out; simp; omega) ?_; intro v2 u hk0; obtain ⟨A1, c1, rfl⟩ := own_sl hk0.own HL.out; have hk : KeepH w [] (.slice A1 n c1) hs u := hk0; clear hk0; clear HK; have HK := Lib.hid hk; clear hk))
    go_loopw [9, 10] (fun s i wr => ∃ m : Nat, m ≤ n ∧ i = .int .i64 m ∧ s = .int .i64 (cntTo hs k now m) ∧ KeepH w [] (.slice A1 n c1) (expTo hs k now m) wr) (fun _ i _ => n - (intOf i).toNat)
    case atStart => exact ⟨0, by omega, rfl, rfl, by rw [expTo_zero]; exact HK.out⟩
    case round =>
      obtain ⟨m, hm, rfl, rfl, hk⟩ := hrel
      clear HK
      have HK := Lib.hid hk
      clear hk
      have hnb := HNB.out
      by_cases hlt : m < n
      · obtain ⟨g, rfl⟩ := own_some HK.out.own (by rw [expTo_length, HL.out]; omega)
        obtain ⟨b, off, rfl, hr⟩ := HD.out.at hlt
        have hrm := hr m hlt
        clear hr
        obtain ⟨h, hh⟩ : ∃ h, hs.getD m z5 = h := ⟨_, rfl⟩
        rw [hh] at hrm
        have HH := Lib.hid hh
        have HR := Lib.hid hrm; have HC := Lib.hid (range_lt hrm)
        clear hrm hh
        have i1 : (0 : Int) ≤ (m : Int) := by omega
        have i2 : (m : Int) < (n : Int) := by omega
        have q1 : decide ((m : Int) < (n : Int)) = true := by simp; omega
        have HE := Lib.hid (show (expTo hs k now m).getD m z5 = h by rw [expTo_get (by have := HL.out; omega), HH.out])
        have HMH := Lib.hid (show m < (expTo hs k now m).length by rw [expTo_length, HL.out]; exact hlt)
        have hct := cntTo_range hs k now m
        generalize hcc : cntTo hs k now m = ct at hct
        have HCC := Lib.hid hcc; clear hcc
        cases h1 : (h.r == k) with
        | false =>
          have HCT := Lib.hid (show cntTo hs k now (m + 1) = ct by rw [cntTo_no (by rw [HH.out]; exact over_a h1), HCC.out])
          have HX := Lib.hid (show expTo hs k now (m + 1) = expTo hs k now m from expTo_no (by have := HL.out; omega) (by rw [HH.out]; exact over_a h1))
          go_wp2_with (first
            | (go_at_call 46; (with_reducible refine (rrights_eq _ _ _ _ _ HRT.out _ (HD.out.below HK.out.keep.bel (Nat.le_refl _))).mono ?_); rintro e u ⟨rfl, hb⟩; have hk := HK.out.call hb; clear hb; clear HK; have HK := Lib.hid hk; clear hk)
            | (with_reducible refine load_cell (range5 (range_below HR.out HK.out.keep.bel HC.out)).1 _ rfl rfl rfl ?_)
            | (with_reducible refine load_cell (range5 (range_below HR.out HK.out.keep.bel HC.out)).2.1 _ rfl rfl rfl ?_)
            | (with_reducible refine load_cell (range5 (range_below HR.out HK.out.keep.bel HC.out)).2.2.1 _ rfl rfl rfl ?_)
            | (with_reducible refine load_cell (range5 (range_below HR.out HK.out.keep.bel HC.out)).2.2.2.1 _ rfl rfl rfl ?_)
            | (with_reducible refine load_cell (range5 (range_below HR.out HK.out.keep.bel HC.out)).2.2.2.2 _ rfl rfl rfl ?_)
            | (with_reducible refine lss_want q1 _ _ _ rfl rfl rfl rfl ?_)
            | (with_reducible refine eql_want h1 _ _ _ rfl rfl rfl rfl ?_))
          go_roundw
          case rel => exact ⟨m + 1, by omega, by go_num, by rw [HCT.out]; try rfl, by rw [HX.out]; exact HK.out⟩
          case measure => simp [intOf]; omega
        | true =>
          cases h2 : (h.s == 1) with
          | false =>
            have HCT := Lib.hid (show cntTo hs k now (m + 1) = ct by rw [cntTo_no (by rw [HH.out]; exact over_b h1 h2), HCC.out])
            have HX := Lib.hid (show expTo hs k now (m + 1) = expTo hs k now m from expTo_no (by have := HL.out; omega) (by rw [HH.out]; exact over_b h1 h2))
            go_wp2_with (first
              | (go_at_call 46; (with_reducible refine (rrights_eq _ _ _ _ _ HRT.out _ (HD.out.below HK.out.keep.bel (Nat.le_refl _))).mono ?_); rintro e u ⟨rfl, hb⟩; have hk := HK.out.call hb; clear hb; clear HK; have HK := Lib.hid hk; clear hk)
              | (with_reducible refine load_cell (range5 (range_below HR.out HK.out.keep.bel HC.out)).1 _ rfl rfl rfl ?_)
              | (with_reducible refine load_cell (range5 (range_below HR.out HK.out.keep.bel HC.out)).2.1 _ rfl rfl rfl ?_)
              | (with_reducible refine load_cell (range5 (range_below HR.out HK.out.keep.bel HC.out)).2.2.1 _ rfl rfl rfl ?_)
              | (with_reducible refine load_cell (range5 (range_below HR.out HK.out.keep.bel HC.out)).2.2.2.1 _ rfl rfl rfl ?_)
              | (with_reducible refine load_cell (range5 (range_below HR.out HK.out.keep.bel HC.out)).2.2.2.2 _ rfl rfl rfl ?_)
              | (with_reducible refine lss_want q1 _ _ _ rfl rfl rfl rfl ?_)
              | (with_reducible refine eql_want h1 _ _ _ rfl rfl rfl rfl ?_)
              | (with_reducible refine eql_want h2 _ _ _ rfl rfl rfl rfl ?_))
            go_roundw
            case rel => exact ⟨m + 1, by omega, by go_num, by rw [HCT.out]; try rfl, by rw [HX.out]; exact HK.out⟩
            case measure => simp [intOf]; omega
          | true =>
            cases h3 : decide (h.d < now) with
            | false =>
              have HCT := Lib.hid (show cntTo hs k now (m + 1) = ct by rw [cntTo_no (by rw [HH.out]; exact over_c h1 h2 h3), HCC.out])
              have HX := Lib.hid (show expTo hs k now (m + 1) = expTo hs k now m from expTo_no (by have := HL.out; omega) (by rw [HH.out]; exact over_c h1 h2 h3))
              go_wp2_with (first
                | (go_at_call 46; (with_reducible refine (rrights_eq _ _ _ _ _ HRT.out _ (HD.out.below HK.out.keep.bel (Nat.le_refl _))).mono ?_); rintro e u ⟨rfl, hb⟩; have hk := HK.out.call hb; clear hb; clear HK; have HK := Lib.hid hk; clear hk)
                | (with_reducible refine load_cell (range5 (range_below HR.out HK.out.keep.bel HC.out)).1 _ rfl rfl rfl ?_)
                | (with_reducible refine load_cell (range5 (range_below HR.out HK.out.keep.bel HC.out)).2.1 _ rfl rfl rfl ?_)
                | (with_reducible refine load_cell (range5 (range_below HR.out HK.out.keep.bel HC.out)).2.2.1 _ rfl rfl rfl ?_)
                | (with_reducible refine load_cell (range5 (range_below HR.out HK.out.keep.bel HC.out)).2.2.2.1 _ rfl rfl rfl ?_)
                | (with_reducible refine load_cell (range5 (range_below HR.out HK.out.keep.bel HC.out)).2.2.2.2 _ rfl rfl rfl ?_)
                | (with_reducible refine lss_want q1 _ _ _ rfl rfl rfl rfl ?_)
                | (with_reducible refine eql_want h1 _ _ _ rfl rfl rfl rfl ?_)
                | (with_reducible refine eql_want h2 _ _ _ rfl rfl rfl rfl ?_)
                | (with_reducible refine lss_want h3 _ _ _ rfl rfl rfl rfl ?_))
              go_roundw
              case rel => exact ⟨m + 1, by omega, by go_num, by rw [HCT.out]; try rfl, by rw [HX.out]; exact HK.out⟩
              case measure => simp [intOf]; omega
            | true =>
              have HCT := Lib.hid (show cntTo hs k now (m + 1) = ct + 1 by rw [cntTo_yes (by rw [HH.out]; exact over_c h1 h2 h3), HCC.out])
              have HX := Lib.hid (show expTo hs k now (m + 1) = (expTo hs k now m).set m (setS (hs.getD m z5) 3) from expTo_yes (by have := HL.out; omega) (by rw [HH.out]; exact over_c h1 h2 h3))
              go_wp2_with (first
                | (go_at_call 46; (with_reducible refine (rrights_eq _ _ _ _ _ HRT.out _ (HD.out.below HK.out.keep.bel (Nat.le_refl _))).mono ?_); rintro e u ⟨rfl, hb⟩; have hk := HK.out.call hb; clear hb; clear HK; have HK := Lib.hid hk; clear hk)
                | (with_reducible refine load_cell (range5 (range_below HR.out HK.out.keep.bel HC.out)).1 _ rfl rfl rfl ?_)
                | (with_reducible refine load_cell (range5 (range_below HR.out HK.out.keep.bel HC.out)).2.1 _ rfl rfl rfl ?_)
                | (with_reducible refine load_cell (range5 (range_below HR.out HK.out.keep.bel HC.out)).2.2.1 _ rfl rfl rfl ?_)
                | (with_reducible refine load_cell (range5 (range_below HR.out HK.out.keep.bel HC.out)).2.2.2.1 _ rfl rfl rfl ?_)
                | (with_reducible refine load_cell (range5 (range_below HR.out HK.out.keep.bel HC.out)).2.2.2.2 _ rfl rfl rfl ?_)
                | (with_reducible refine lss_want q1 _ _ _ rfl rfl rfl rfl ?_)
                | (with_reducible refine eql_want h1 _ _ _ rfl rfl rfl rfl ?_)
                | (with_reducible refine eql_want h2 _ _ _ rfl rfl rfl rfl ?_)
                | (with_reducible refine lss_want h3 _ _ _ rfl rfl rfl rfl ?_)
                | (with_reducible refine store_state HK.out HMH.out rfl rfl _ _ rfl rfl rfl rfl ?_; intro u hk; clear HK; have HK := Lib.hid hk; clear hk))
              go_roundw
              case rel => exact ⟨m + 1, by omega, by go_num, by rw [HCT.out]; try rfl, by
                have hk := HK.out
                rw [HE.out, show (⟨h.r, h.n, h.a, h.d, 3⟩ : Ho) = setS h 3 from rfl, ← HH.out, ← HX.out] at hk
                exact hk⟩
              case measure => simp [intOf]; omega
      · obtain rfl : m = n := by omega
        have q1 : decide ((m : Int) < (m : Int)) = false := by simp
        go_wp2_with (first
          | (with_reducible refine lss_want q1 _ _ _ rfl rfl rfl rfl ?_))
        go_ret2
        have hk := HK.out.own
        rw [show expTo hs k now m = hs.map (goes k now) by rw [← HL.out, expTo_all]] at hk
        exact ⟨_, by rw [HL.out]; rfl, hk, HK.out.keep.bel⟩
end Go.Proofs.YtbaccghnneidgaaGreat
