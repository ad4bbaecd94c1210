/- What the statements of layer 6 stand on: slices of holds that come in, what is kept while calls tell rows, the statements' Few, and awake.; The document's Fields; Total of both. -/
import Derived.Test.YtgblnlpfgdbnnaaGreatZ02
namespace Go.Proofs.YtgblnlpfgdbnnaaGreat
set_option maxRecDepth 100000
open Go.ChangeShapes Go.WideShapes Go.ChangeAt Go.RowKit

/-! ### What is kept while calls tell rows. -/
/-! ### Few. -/
theorem set_oneH (f : Nat → Value) (v : Value) : (Array.map f (Array.range 1)).setIfInBounds 0 v = #[v] := by
  apply Array.ext
  · simp
  · intro i h1 h2
    have : i = 0 := by simp at h2; omega
    subst this
    simp
/-! ### What calls tell, as rows. -/
/-! ### Awake. -/

/-! ### All views. -/
theorem build_ki {ops : Array Oper} {rest : List Oper} {o : Oper} {a : Act} {w u : World} {F : Nat → Prop} {own ro : List Th} {Q : Exit → Act → World → Prop} (hk : Kg w F own ro u) (hgd : o.guard = none) (x : Operand) (ho : o.op = .buildSlice 63 1 #[(0, x)]) {z : Int} (hx : a.eval x = .int .i64 z)
    (h : ∀ b u', Kg w F (Th.cel b 3 [.int .i64 z] :: own) ro u' → wpList Tryz.prog ops Q rest (a.put o.dst (.slice (some ⟨b, 0, none⟩) 1 1)) u') : wpList Tryz.prog ops Q (o :: rest) a u :=
  wpList_plain hgd fun K hK => by
    have e : (Instr.buildSlice 63 1 #[(0, .int .i64 z)]).run Tryz.prog u = .ok (.slice (some ⟨u.heap.size, 0, none⟩) 1 1) (u.alloc (.cells [Value.int .i64 z].toArray 3)) := by
      obtain ⟨i0, hi0, hz0, hz1, hz2⟩ := info_parts i_info3
      simp [Instr.buildSlice, run_underlying Tryz.underlying63, sizeOf, typeInfo, zeroValue, hi0, hz0, hz1, Instr.fill, Value.cells, newRow, newObj, set_oneH]
      rfl
    unfold Oper.wp execOp
    simp only [ho, List.map_toArray, List.map_cons, List.map_nil, hx, Sem.run_bind, Sem.run_pure, Result.andThen_ok, e]
    exact hK _ _ (h _ _ (hk.new rfl))
theorem one_int (z : Int) : ∀ y ∈ [Value.int .i64 z], y.oneCell' = true := fun y hy => by rw [List.mem_singleton.1 hy]; rfl
theorem og_reads {w u : World} {F : Nat → Prop} {own ro : List Th} (h : Kg w F own ro u) (i : Nat) {A : Option Addr} {n c : Nat} {zs : List Int} (hi : own[i]? = some (Th.og 3 1 (.slice A n c) n (vals zs))) (hl : zs.length = n) (hn : n ≤ 1000) : Reads u A n zs := by
  have ho := h.ogAt i hi
  refine ⟨hl, by simp only [maxLen]; omega, ?_⟩
  by_cases h0 : n = 0
  · exact .inl h0
  · obtain ⟨g, rfl, _, _⟩ := og_cell ho (vals_get (zs := zs) (j := 0) (by omega))
    refine .inr ⟨g, 0, rfl, fun j hj => ?_⟩
    obtain ⟨g', e, hc, _⟩ := og_cell ho (vals_get (zs := zs) (j := j) (by omega))
    have e2 : g = g' := congrArg (fun a : Option Addr => a.elim 0 Addr.block) e
    rw [Nat.zero_add, e2]
    exact hc
theorem take_push {ps : List Pf} {m : Nat} {p : Pf} (h : ps[m]? = some p) : vals ((ps.take m).map vN) ++ [.int .i64 (vN p)] = vals ((ps.take (m + 1)).map vN) := by
  rw [List.take_add_one, h]; simp [vals]
set_option maxHeartbeats 2000000 in
theorem rtotal_any (A : Option Addr) (n c : Nat) (qs : List Q) (hn : n ≤ 1000) (w : World) (hd : FR w A n qs) :
    Calls Tryz.prog 11 #[.slice A n c] w fun e w' => e = .returned (.tuple #[.int .i64 (totN (pfs qs)), .int .i64 (totE (pfs qs))]) ∧ Below w.heap.size w w' := by
  have HD := Lib.hid hd
  have HPL := Lib.hid (show (pfs qs).length = n by rw [pfs_len]; exact hd.1)
  clear hd
  have HK := Lib.hid (Kg.start w)
  go_enter Tryz.func11, Tryz.ntmps11
  go_wp2
  go_loopw [4, 5] (fun v i wr => ∃ m : Nat, m ≤ n ∧ i = .int .i64 m ∧ (∀ j q, j < m → (pfs qs)[j]? = some q → vE q = 0) ∧ Kg w (fun _ => False) [Th.og 3 1 v m (vals (((pfs qs).take m).map vN))] [] wr) (fun _ i _ => n - (intOf i).toNat)
  case atStart => exact ⟨0, by omega, rfl, fun j q hj => by omega, HK.out.add (Below.refl _ _) (og_nil _ _ _) (fun k hk => by cases hk)⟩
  case round =>
    obtain ⟨m, hm, rfl, hq, hk⟩ := hrel
    have HQ := Lib.hid hq; clear hq
    clear HK; have HK := Lib.hid hk; clear hk
    by_cases hlt : m < n
    · obtain ⟨x, hx⟩ := HD.out.get hlt
      obtain ⟨b, off, rfl, hr⟩ := HD.out.base (by omega)
      have HM := Lib.hid hlt
      have HM8 := Lib.hid (show m ≤ 1000 by omega)
      have HX := Lib.hid (pfs_at hx)
      have HF := Lib.hid (HD.out.full hx)
      have HR := Lib.hid (hr m x hx)
      have hvw := fun w => rview_q x.1 (HD.out.full hx) x.2.1 x.2.2 w
      have i1 : (0 : Int) ≤ (m : Int) := by omega
      have i2 : (m : Int) < (n : Int) := by omega
      by_cases he : vE x.1 = 0
      · have HE := Lib.hid he
        rw [he] at hvw
        clear hr hx he
        go_wp2_with (first
          | (with_reducible refine load_kg Tryz.underlying43 rfl (Pf.infoF HF.out) _ rfl (rng_below HR.out HK.out.mf.bel) rfl rfl ?_)
          | (go_at_call 24; (with_reducible refine (hvw _).mono ?_); rintro e u ⟨rfl, hb⟩; have hk := HK.out.call hb; clear hb; clear HK; have HK := Lib.hid hk; clear hk)
          | ((with_reducible refine build_ki HK.out rfl _ rfl rfl ?_); intro bi u hk; clear HK; have HK := Lib.hid hk; clear hk)
          | ((with_reducible refine push_k HK.out 1 0 int_info rfl (by decide) (by decide) Tryz.underlying63 rfl rfl rfl (one_int _) rfl _ _ rfl rfl rfl HM8.out ?_); intro v u hk; simp only [List.set_cons_zero, List.set_cons_succ] at hk; clear HK; have HK := Lib.hid hk; clear hk))
        have hk := HK.out.tail
        rw [take_push HX.out] at hk
        clear HK; have HK := Lib.hid hk; clear hk
        go_roundw
        case rel => exact ⟨m + 1, by have := HM.out; omega, by go_num, fun j q hj hq => by
          rcases Nat.lt_or_ge j m with h3 | h3
          · exact HQ.out j q h3 hq
          · obtain rfl : m = j := by omega
            rw [HX.out] at hq
            injection hq with hq
            rw [← hq]; exact HE.out, HK.out⟩
        case measure => have := HM.out; simp [intOf]; omega
      · have HE := Lib.hid (err_hit HQ.out HX.out he)
        have HT := Lib.hid (show totN (pfs qs) = 0 by rw [totN, if_neg (by rw [HE.out]; exact he)])
        have HU := Lib.hid (show totE (pfs qs) = vE x.1 by rw [totE, if_neg (by rw [HE.out]; exact he), HE.out])
        have d0 : (vE x.1 != 0) = true := by simpa using he
        clear hr hx he
        go_wp2_with (first
          | (with_reducible refine load_kg Tryz.underlying43 rfl (Pf.infoF HF.out) _ rfl (rng_below HR.out HK.out.mf.bel) rfl rfl ?_)
          | (go_at_call 24; (with_reducible refine (hvw _).mono ?_); rintro e u ⟨rfl, hb⟩; have hk := HK.out.call hb; clear hb; clear HK; have HK := Lib.hid hk; clear hk)
          | ((with_reducible refine build_ki HK.out rfl _ rfl rfl ?_); intro bi u hk; clear HK; have HK := Lib.hid hk; clear hk)
          | ((with_reducible refine push_k HK.out 1 0 int_info rfl (by decide) (by decide) Tryz.underlying63 rfl rfl rfl (one_int _) rfl _ _ rfl rfl rfl HM8.out ?_); intro v u hk; simp only [List.set_cons_zero, List.set_cons_succ] at hk; clear HK; have HK := Lib.hid hk; clear hk))
        go_ret2
        exact ⟨by rw [HT.out, HU.out]; rfl, HK.out.mf.bel⟩
    · obtain rfl : m = n := by omega
      have HE := Lib.hid (err_none (ps := pfs qs) fun j q hj => HQ.out j q (by rw [HPL.out] at hj; exact hj))
      obtain ⟨V, hV⟩ : ∃ V, (pfs qs).map vN = V := ⟨_, rfl⟩
      have HT := Lib.hid (show totN (pfs qs) = sumN V by rw [totN, if_pos HE.out, hV])
      have HU := Lib.hid (show totE (pfs qs) = sumE V by rw [totE, if_pos HE.out, hV])
      have HVL := Lib.hid (show V.length = m by rw [← hV, List.length_map]; exact HPL.out)
      have hk := HK.out
      rw [show (pfs qs).take m = pfs qs by rw [← HPL.out]; exact List.take_length, hV] at hk
      clear HK; have HK := Lib.hid hk; clear hk
      clear hV
      obtain ⟨Av, cv, ev⟩ := og_len (HK.out.ogAt 0 rfl)
      subst ev
      go_wp2_with (first
        | (go_at_call 31; (with_reducible refine (rsum_any _ _ _ _ _ (og_reads HK.out 0 rfl HVL.out hn)).mono ?_); rintro e u ⟨rfl, rfl⟩))
      go_ret2
      exact ⟨by rw [HT.out, HU.out]; rfl, HK.out.mf.bel⟩

end Go.Proofs.YtgblnlpfgdbnnaaGreat
