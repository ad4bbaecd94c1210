/- A contract of hold.Join.; Plain arithmetic of layer 6, on: joining hangs on no order, nor on how often. No program is spoken of here.; Contracts of lock.Join and of usufructlaw05.awake.; What holds of fields that replicas know, as far as it is asked what is loose: numbers that are not too great. No walk. -/
import Derived.Test.YtgblnlpfgdbnnaaGreatZ38
namespace Go.Proofs.YtgblnlpfgdbnnaaGreat
set_option maxRecDepth 100000
open Go.ChangeShapes Go.WideShapes Go.ChangeAt Go.RowKit

theorem app_pl {w u : World} {ops : Array Oper} {rest : List Oper} {o : Oper} {a : Act} {Q : Exit → Act → World → Prop} {l : List (Nat × TypeId × List Int)} {v : Value} {xs : List Ho} {bm m0 : Nat} {xa : List Ho} (hk : KeepH w l v xs u) (hp : PlAt u bm xa m0) (hgd : o.guard = none) (s x : Operand)
    (ho : o.op = .call { callee := .builtin .append, args := #[s, x], argTypes := #[41, 41] }) (hs : a.eval s = v)
    (A : Option Addr) (m c : Nat) (zs : List Ho) (hx : a.eval x = .slice A m c) (hr : Row u A m zs) (h63 : xs.length + m ≤ 2000)
    (h : ∀ v' u', KeepH w l v' (xs ++ zs) u' → PlAt u' bm xa m0 → wpList Tryz.prog ops Q rest (a.put o.dst v') u') : wpList Tryz.prog ops Q (o :: rest) a u :=
  wpList_plain hgd fun _ hK => by
    obtain ⟨v', w', hrun, h2, h3, h4⟩ := append_hos u w.heap.size o.type v xs hk.own A m c zs hr h63 hk.keep.bel.size
    unfold Oper.wp execOp
    simp only [ho, resolve, invoke, builtin, Sem.run_bind, Sem.run_pure, Result.andThen_ok, List.map_toArray, List.map_cons, List.map_nil, hs, hx, hrun]
    exact hK _ _ (h v' w' (hk.grown h3 h2 h4) (hp.turn (h3.block bm hp.lt (hp.apart hk.own))))
theorem wp_store_pl {o : Oper} {a : Act} {w u : World} {l : List (Nat × TypeId × List Int)} {g cap n : Nat} {hs : List Ho} {bm m0 : Nat} {xa : List Ho} {K : Act → World → Prop} {Q : Exit → Act → World → Prop} (hk : KeepH w l (.slice (some ⟨g, 0, none⟩) n cap) hs u) (hp : PlAt u bm xa m0) {k : Nat} (hkl : k < hs.length) (hd : o.dst = none) (x y : Operand) (ho : o.op = .store 3 x y) {z : Int} {off : Nat}
    (hx : a.eval x = .pointer (some ⟨g, off, none⟩)) (hoff : off = k * 5 + 4) (hy : a.eval y = .int .i64 z)
    (h : ∀ u', KeepH w l (.slice (some ⟨g, 0, none⟩) n cap) (hs.set k ⟨(hs.getD k z5).r, (hs.getD k z5).n, (hs.getD k z5).a, (hs.getD k z5).d, z⟩) u' → PlAt u' bm xa m0 → K a u') : o.wp Tryz.prog a u K Q := by
  subst hoff
  have hc := (range5 (hk.own.range hkl)).2.2.2.2
  have hf := hk.own.frozen (k * 5 + 4)
  have hne : bm ≠ g := fun e => hp.apart hk.own (by rw [e]; rfl)
  have := h _ (hk.state hkl z) (hp.turn (heap_setCell_other u ⟨g, k * 5 + 4, none⟩ bm _ hne))
  unfold Oper.wp execOp
  simp only [ho, hx, hy]
  simp [go_sem, hc, hf]
  simpa [hd, Act.put] using this
theorem yield_max {ops : Array Oper} {S : World → Prop} {o : Oper} {a : Act} {p q : Int} (x y : Operand) (ho : o.op = .call { callee := .builtin .max, args := #[x, y], argTypes := #[3, 3] }) (hx : a.eval x = .int .i64 p) (hy : a.eval y = .int .i64 q) (hw : Region.wanted o (yielded ops a.tmps) = true) :
    YieldsIf Tryz.prog ops S o (.int .i64 (max p q)) a :=
  .inl ⟨hw, fun w _ => by
    have e : (Builtin.max_ #[3, 3] o.type #[.int .i64 p, .int .i64 q]).run Tryz.prog w = .ok (.int .i64 (max p q)) w := by
      rw [run_max_int2]
      congr 2
      split <;> omega
    unfold execOp
    simp only [ho, resolve, invoke, builtin, Sem.run_bind, Sem.run_pure, Result.andThen_ok, List.map_toArray, List.map_cons, List.map_nil, hx, hy, e]⟩
/-- No two of one name, of two that may be. -/
theorem take_apart {b : List Ho} {m : Nat} (hb : b.Pairwise AH) (hm : m < b.length) : ∀ y ∈ b.take m, ¬ SN y (b.getD m z5) := by
  intro y hy
  obtain ⟨j, hj, rfl⟩ := List.getElem_of_mem hy
  rw [List.getElem_take, getD_get hm]
  have hj' : j < m := by simp at hj; omega
  exact (List.pairwise_iff_getElem.1 hb j m (by omega) hm hj').apart
theorem clB_hit {a : List Ho} {y x : Ho} (h : fnd a y.r y.n = some x) : clB a y = ((x.a != y.a) || (x.d != y.d)) := by unfold clB; rw [h]
theorem clB_miss {a : List Ho} {y : Ho} (h : fnd a y.r y.n = none) : clB a y = false := by unfold clB; rw [h]
theorem join_bad {a b : List Ho} (h : (rightsL a && rightsL b) = false) : joinE a b = 1 ∧ joinLH a b = [] := by
  have e : joinE a b = 1 := by unfold joinE; rw [h]; rfl
  exact ⟨e, by rw [joinLH, e]; rfl⟩
theorem join_clash {a b : List Ho} {m : Nat} (hm : m < b.length) (hc : clB a (b.getD m z5) = true) : joinE a b = 1 ∧ joinLH a b = [] := by
  have e : joinE a b = 1 := by
    unfold joinE
    rw [if_pos (show b.any (clB a) = true from List.any_eq_true.2 ⟨_, getD_mem hm, hc⟩)]
    split <;> rfl
  exact ⟨e, by rw [joinLH, e]; rfl⟩
theorem any_none {b : List Ho} {p : Ho → Bool} (h : ∀ j, j < b.length → p (b.getD j z5) = false) : b.any p = false := by
  rw [List.any_eq_false]
  intro x hx
  obtain ⟨i, hi, rfl⟩ := mem_getD hx
  rw [h i hi]; decide
theorem join_full {a b : List Ho} (h : (rightsL a && rightsL b) = true) (hc : ∀ j, j < b.length → clB a (b.getD j z5) = false) (hl : 16 < (jraw a b).length) : joinE a b = 7 ∧ joinLH a b = [] := by
  have e : joinE a b = 7 := by unfold joinE; rw [h, if_pos rfl, any_none hc, if_neg (by decide), if_pos hl]
  exact ⟨e, by rw [joinLH, e]; rfl⟩
theorem join_good {a b : List Ho} (h : (rightsL a && rightsL b) = true) (hc : ∀ j, j < b.length → clB a (b.getD j z5) = false) (hl : ¬ 16 < (jraw a b).length) : joinE a b = 0 ∧ joinLH a b = isort (jraw a b) := by
  have e : joinE a b = 0 := by unfold joinE; rw [h, if_pos rfl, any_none hc, if_neg (by decide), if_neg hl]
  exact ⟨e, by rw [joinLH, e]; rfl⟩
theorem own_len {u : World} {base : Nat} {v : Value} {hs : List Ho} {n : Nat} (ho : Own u base v hs) (hl : hs.length = n) : ∃ A1 c1, v = .slice A1 n c1 ∧ n ≤ c1 := by
  rcases ho.2 with ⟨rfl, h0⟩ | ⟨g, cap, cur, rfl, _, _, h3, _⟩
  · exact ⟨none, 0, by rw [← hl, h0], by omega⟩
  · exact ⟨_, cap, by rw [hl], by omega⟩
set_option maxHeartbeats 8000000 in
set_option maxRecDepth 100000 in
theorem join_anyH (A B : Option Addr) (na ca nb cb : Nat) (xa xb : List Ho) (w : World) (hda : Row w A na xa) (hdb : Row w B nb xb) :
    Calls Tryz.prog 57 #[.slice A na ca, .slice B nb cb] w fun e w' => ∃ v, e = .returned (.tuple #[v, .int .i64 (joinE xa xb)]) ∧ Own w' w.heap.size v (joinLH xa xb) ∧ Below w.heap.size w w' := by
  have HDA := Lib.hid hda; have HLA := Lib.hid hda.1; have HNBA := Lib.hid hda.2.1; clear hda
  have HDB := Lib.hid hdb; have HLB := Lib.hid hdb.1; have HNBB := Lib.hid hdb.2.1; clear hdb
  have HK := Lib.hid (KeepR.start w)
  cases hra : rightsL xa with
  | false =>
    obtain ⟨e1, e2⟩ := join_bad (a := xa) (b := xb) (by rw [hra, Bool.false_and])
    rw [e1, e2]
    have HRA := Lib.hid hra
    clear e1 e2
    go_enter Tryz.func57, Tryz.ntmps57
    go_wp2_with (first
      | (go_at_call 93; (with_reducible refine (rights_eq _ _ _ _ _ HRA.out _ (HDA.out.below HK.out.bel (Nat.le_refl _))).mono ?_); rintro e u ⟨rfl, hb⟩; have hk := HK.out.call hb; clear hb; clear HK; have HK := Lib.hid hk; clear hk))
    go_ret2
    exact ⟨_, rfl, Own.nil _ _, HK.out.bel⟩
  | true =>
    have HRA := Lib.hid hra
    cases hrb : rightsL xb with
    | false =>
      obtain ⟨e1, e2⟩ := join_bad (a := xa) (b := xb) (by rw [hrb, Bool.and_false])
      rw [e1, e2]
      have HRB := Lib.hid hrb
      clear e1 e2
      go_enter Tryz.func57, Tryz.ntmps57
      go_wp2_with (first
        | (go_at_call 93; (with_reducible refine (rights_eq _ _ _ _ _ HRA.out _ (HDA.out.below HK.out.bel (Nat.le_refl _))).mono ?_); rintro e u ⟨rfl, hb⟩; have hk := HK.out.call hb; clear hb; clear HK; have HK := Lib.hid hk; clear hk)
        | (go_at_call 93; (with_reducible refine (rights_eq _ _ _ _ _ HRB.out _ (HDB.out.below HK.out.bel (Nat.le_refl _))).mono ?_); rintro e u ⟨rfl, hb⟩; have hk := HK.out.call hb; clear hb; clear HK; have HK := Lib.hid hk; clear hk))
      go_ret2
      exact ⟨_, rfl, Own.nil _ _, HK.out.bel⟩
    | true =>
      have HRB := Lib.hid hrb
      have HAB := Lib.hid (show (rightsL xa && rightsL xb) = true by rw [hra, hrb]; rfl)
      have HRHA := Lib.hid (rights_iff.1 hra).2.1; have HPWA := Lib.hid (rights_iff.1 hra).2.2; have H16A := Lib.hid (rights_iff.1 hra).1
      have HRHB := Lib.hid (rights_iff.1 hrb).2.1; have HPWB := Lib.hid (rights_iff.1 hrb).2.2; have H16B := Lib.hid (rights_iff.1 hrb).1
      have HNA := Lib.hid (show na ≤ xa.length by have := HLA.out; omega)
      clear hra hrb
      go_enter Tryz.func57, Tryz.ntmps57
      go_wp2_with (first
        | (go_at_call 93; (with_reducible refine (rights_eq _ _ _ _ _ HRA.out _ (HDA.out.below HK.out.bel (Nat.le_refl _))).mono ?_); rintro e u ⟨rfl, hb⟩; have hk := HK.out.call hb; clear hb; clear HK; have HK := Lib.hid hk; clear hk)
        | (go_at_call 93; (with_reducible refine (rights_eq _ _ _ _ _ HRB.out _ (HDB.out.below HK.out.bel (Nat.le_refl _))).mono ?_); rintro e u ⟨rfl, hb⟩; have hk := HK.out.call hb; clear hb; clear HK; have HK := Lib.hid hk; clear hk)
        | (go_at_call 94; (with_reducible refine (clone_any _ _ _ _ _ (HDA.out.below HK.out.bel (Nat.le_refl _))).mono ?_); rintro e u ⟨v1, rfl, ho, hb⟩; have hk := (KeepH.of_keep HK.out).other hb ho; clear ho hb; clear HK; have HK := Lib.hid hk; clear hk)
        | (go_at_call 95; (with_reducible refine (places_any _ _ _ _ _ (HDA.out.below HK.out.keep.bel (Nat.le_refl _)) HRA.out).mono ?_); rintro e u ⟨bm, rfl, hp, hw0, hb⟩; have HP := Lib.hid hp; have hk := HK.out.call hb; clear hp hw0 hb; clear HK; have HK := Lib.hid hk; clear hk))
      go_loopw [6, 26] (fun v i wr => ∃ m : Nat, m ≤ nb ∧ i = .int .i64 m ∧ (∀ j, j < m → clB xa (xb.getD j z5) = false) ∧ KeepH w [] v (jraw xa (xb.take m)) wr ∧ PlAt wr bm xa na) (fun _ i _ => nb - (intOf i).toNat)
      case atStart => exact ⟨0, by omega, rfl, by omega, by rw [List.take_zero, jraw_nil]; exact HK.out, HP.out⟩
      case round =>
        obtain ⟨m, hm, rfl, hu, hk, hp⟩ := hrel
        clear HK HP
        have HK := Lib.hid hk; have HP := Lib.hid hp; have HU := Lib.hid hu
        clear hk hp hu
        have hlen := (jraw_length xa (xb.take m)).2
        have hla := (jraw_length xa (xb.take m)).1
        have htl : (xb.take m).length ≤ 16 := by have := H16B.out; simp; omega
        by_cases hlt : m < nb
        · have hnb := HNBB.out
          have hmb : m < xb.length := by have := HLB.out; omega
          have HMB := Lib.hid hmb
          have htk : xb.take (m + 1) = xb.take m ++ [xb.getD m z5] := take_succ_getD hmb
          have hta := take_apart HPWB.out hmb
          have hri := rightH_iff.1 (HRHB.out _ (getD_mem hmb))
          obtain ⟨b, off, rfl, hr⟩ := HDB.out.at hlt
          have hrm := hr m hlt
          clear hr
          obtain ⟨h, hh⟩ : ∃ h, xb.getD m z5 = h := ⟨_, rfl⟩
          rw [hh] at hrm htk hta hri
          have HH := Lib.hid hh
          have HR := Lib.hid hrm; have HC := Lib.hid (range_lt hrm)
          clear hrm hh
          have i1 : (0 : Int) ≤ (m : Int) := by omega
          have i2 : (m : Int) < (nb : Int) := by omega
          obtain ⟨L, hL⟩ : ∃ L, jraw xa (xb.take m) = L := ⟨_, rfl⟩
          rw [hL] at HK hlen hla
          have HLEN := Lib.hid (show L.length ≤ 40 by have := H16A.out; omega)
          have HTK := Lib.hid htk
          rcases plc_cases xa h.r h.n with ⟨_, hno⟩ | ⟨i, hi, _, hyes, hno⟩
          · have hf := fnd_miss hno
            have HO1 := Lib.hid (show ok64 h.r from ok64_of (by omega) (by omega)); have HO2 := Lib.hid (show ok64 h.n from ok64_of (by omega) (by omega))
            have HNO := Lib.hid (show ∀ j, j < na → ¬ ((xa.getD j z5).r = h.r ∧ (xa.getD j z5).n = h.n) from fun j hj => nm_not.1 (hno j (by have := HLA.out; omega)))
            have HNX := Lib.hid (show jraw xa (xb.take (m + 1)) = L ++ [h] by rw [htk, jraw_new hf, hL])
            have HCL := Lib.hid (show clB xa h = false from clB_miss hf)
            clear hno hf hL htk hta hri hlen hla htl hmb
            go_wp2_with (first
              | (with_reducible refine load_hold (range_below HR.out HK.out.keep.bel HC.out) _ rfl rfl rfl ?_)
              | (with_reducible refine alloc_zero HK.out.keep 5 h_zero rfl rfl ?_; intro bh u hn0 hk0 hb; have hk := HK.out.of_alloc hn0 hk0 hb; have hp0 := HP.out.below hb; clear HP; have HP := Lib.hid hp0; clear hp0; clear hn0 hk0 hb; clear HK; have HK := Lib.hid hk; clear hk)
              | (with_reducible refine store_all HK.out.keep 0 5 h_info rfl rfl _ _ rfl rfl rfl rfl (Ho.len _) (zer_length 5) ?_; intro u hk0 hs0; have hp0 := HP.out.store (HK.out.keep.get 0 rfl) hs0; have hk := HK.out.of_store 0 rfl hk0 hs0; clear HP; have HP := Lib.hid hp0; clear hp0 hk0 hs0; simp only [List.set_cons_zero] at hk; clear HK; have HK := Lib.hid hk; clear hk)
              | (with_reducible refine load_val HK.out.keep 0 rfl _ rfl rfl rfl (Ho.g0 _) (Ho.p0 _) ?_)
              | (with_reducible refine load_val HK.out.keep 0 rfl _ rfl rfl rfl (Ho.g1 _) (Ho.p1 _) ?_)
              | (with_reducible refine load_val HK.out.keep 0 rfl _ rfl rfl rfl (Ho.g2 _) (Ho.p2 _) ?_)
              | (with_reducible refine load_val HK.out.keep 0 rfl _ rfl rfl rfl (Ho.g3 _) (Ho.p3 _) ?_)
              | (with_reducible refine load_val HK.out.keep 0 rfl _ rfl rfl rfl (Ho.g4 _) (Ho.p4 _) ?_)
              | (with_reducible refine build_key rfl _ _ rfl rfl rfl ?_)
              | (with_reducible refine map_miss HP.out HO1.out HO2.out HNO.out rfl _ _ rfl rfl rfl ?_)
              | (with_reducible refine load_all HK.out.keep 0 5 Tryz.underlying81 rfl h_info rfl _ rfl rfl rfl (Ho.len _) ?_)
              | (with_reducible refine build_one HK.out rfl _ rfl rfl ?_; intro b1 u hk hb; have hp0 := HP.out.below hb; clear HP; have HP := Lib.hid hp0; clear hp0; clear hb; clear HK; have HK := Lib.hid hk; clear hk)
              | (refine app_pl HK.out HP.out rfl _ _ rfl rfl _ _ _ _ rfl HK.out.one (by have := HLEN.out; omega) ?_; intro v2 u hk0 hp0; have hk := hk0.tail.tail; clear HP hk0; have HP := Lib.hid hp0; clear hp0; clear HK; have HK := Lib.hid hk; clear hk))
            go_roundw
            case rel => exact ⟨m + 1, by omega, by go_num, fun j hj => by
              rcases Nat.lt_or_ge j m with h1 | h1
              · exact HU.out j h1
              · rw [show j = m by omega, HH.out]; exact HCL.out, by rw [HNX.out]; exact HK.out, HP.out⟩
            case measure => simp [intOf]; omega
          · have hsn : SN (xa.getD i z5) h := nm_SN.1 hyes
            have hf := fnd_hit hi hno hyes
            obtain ⟨hj1, hj2⟩ := jraw_hit (c := xb.take m) HPWA.out hi hsn hta
            rw [hL, ← htk] at hj1
            rw [hL] at hj2
            obtain ⟨g, cap, hv, _⟩ := HK.out.own.at (by omega)
            subst hv
            obtain ⟨N, hN⟩ : ∃ N, L.length = N := ⟨_, rfl⟩
            have HIL := Lib.hid (show i < L.length by omega)
            have i3 : (0 : Int) ≤ (i : Int) := by omega
            have i4 : (i : Int) < (N : Int) := by omega
            rw [hN] at HK
            rw [hN]
            have HIA := Lib.hid (show i < na by have := HLA.out; omega)
            obtain ⟨x, hx⟩ : ∃ x, xa.getD i z5 = x := ⟨_, rfl⟩
            rw [hx] at hsn hf hj1 hj2
            have HS1 := Lib.hid (show (xa.getD i z5).r = h.r by rw [hx]; exact hsn.1); have HS2 := Lib.hid (show (xa.getD i z5).n = h.n by rw [hx]; exact hsn.2)
            have HIE := Lib.hid hj2
            have hcl := clB_hit hf
            have HJ1 := Lib.hid hj1
            clear hj1 hj2 hf hsn hx hno hyes hL htk hta hri hlen hla htl hmb hN hi
            by_cases ha : h.a = x.a
            · have HQ1 := Lib.hid (show (h.a != x.a) = false by simp [ha])
              by_cases hd : h.d = x.d
              · have HQ2 := Lib.hid (show (h.d != x.d) = false by simp [hd])
                have HCL := Lib.hid (show clB xa h = false by rw [hcl]; simp [ha, hd])
                clear hcl ha hd
                go_wp2_with (first
                  | (with_reducible refine load_hold (range_below HR.out HK.out.keep.bel HC.out) _ rfl rfl rfl ?_)
                  | (with_reducible refine alloc_zero HK.out.keep 5 h_zero rfl rfl ?_; intro bh u hn0 hk0 hb; have hk := HK.out.of_alloc hn0 hk0 hb; have hp0 := HP.out.below hb; clear HP; have HP := Lib.hid hp0; clear hp0; clear hn0 hk0 hb; clear HK; have HK := Lib.hid hk; clear hk)
                  | (with_reducible refine store_all HK.out.keep 0 5 h_info rfl rfl _ _ rfl rfl rfl rfl (Ho.len _) (zer_length 5) ?_; intro u hk0 hs0; have hp0 := HP.out.store (HK.out.keep.get 0 rfl) hs0; have hk := HK.out.of_store 0 rfl hk0 hs0; clear HP; have HP := Lib.hid hp0; clear hp0 hk0 hs0; simp only [List.set_cons_zero] at hk; clear HK; have HK := Lib.hid hk; clear hk)
                  | (with_reducible refine load_val HK.out.keep 0 rfl _ rfl rfl rfl (Ho.g0 _) (Ho.p0 _) ?_)
                  | (with_reducible refine load_val HK.out.keep 0 rfl _ rfl rfl rfl (Ho.g1 _) (Ho.p1 _) ?_)
                  | (with_reducible refine load_val HK.out.keep 0 rfl _ rfl rfl rfl (Ho.g2 _) (Ho.p2 _) ?_)
                  | (with_reducible refine load_val HK.out.keep 0 rfl _ rfl rfl rfl (Ho.g3 _) (Ho.p3 _) ?_)
                  | (with_reducible refine load_val HK.out.keep 0 rfl _ rfl rfl rfl (Ho.g4 _) (Ho.p4 _) ?_)
                  | (with_reducible refine build_key rfl _ _ rfl rfl rfl ?_)
                  | (with_reducible refine map_hit HP.out HRHA.out HNA.out HIA.out HS1.out HS2.out rfl _ _ rfl rfl rfl ?_))
                refine Draws.start (S := fun u => KeepH w [(bh, 81, h.l)] (.slice (some ⟨g, 0, none⟩) N cap) L u ∧ PlAt u bm xa na) (n := 18) 18 rfl (by kernel_rfl) ?_
                have HS := Lib.hid (show (fun u => KeepH w [(bh, 81, h.l)] (.slice (some ⟨g, 0, none⟩) N cap) L u ∧ PlAt u bm xa na) _ from ⟨HK.out.drew, HP.out⟩)
                refine Draws.take 0 (v := ?v13) HS.out rfl (by kernel_rfl) (fun _ _ _ h => h) (Or.inl ⟨rfl, ?h13⟩) ?r13
                case h13 => intro w' hw'; go_simp; (try with_reducible rfl)
                (try simp only [Act.put, lsA, lsB, lsC])
                refine Draws.take 1 HS.out rfl (by kernel_rfl) (fun _ _ _ h => h) (yield_int (fun _ hu => (hu.1.keep.get 0 rfl).five.2.2.1) _ rfl rfl rfl) ?_
                (try simp only [Act.put, lsA, lsB, lsC])
                refine Draws.take 2 (v := ?v14) HS.out rfl (by kernel_rfl) (fun _ _ _ h => h) (Or.inl ⟨rfl, ?h14⟩) ?r14
                case h14 => intro w' hw'; go_simp; (try with_reducible rfl)
                (try simp only [Act.put, lsA, lsB, lsC])
                refine Draws.take 3 (v := ?v15) HS.out rfl (by kernel_rfl) (fun _ _ _ h => h) (Or.inl ⟨rfl, ?h15⟩) ?r15
                case h15 => intro w' hw'; go_simp; (try with_reducible rfl)
                (try simp only [Act.put, lsA, lsB, lsC])
                refine Draws.take 4 (v := ?v16) HS.out rfl (by kernel_rfl) (fun _ _ _ h => h) (Or.inl ⟨rfl, ?h16⟩) ?r16
                case h16 => intro w' hw'; go_simp; (try with_reducible rfl)
                (try simp only [Act.put, lsA, lsB, lsC])
                refine Draws.take 5 (v := ?v17) HS.out rfl (by kernel_rfl) (fun _ _ _ h => h) (Or.inl ⟨rfl, ?h17⟩) ?r17
                case h17 => intro w' hw'; go_simp; (try with_reducible rfl)
                (try simp only [Act.put, lsA, lsB, lsC])
                refine Draws.take 6 HS.out rfl (by kernel_rfl) (fun _ _ _ h => h) (yield_int (fun _ hu => (range5 (own_load hu.1.own HIL.out HIE.out)).2.2.1) _ rfl rfl rfl) ?_
                (try simp only [Act.put, lsA, lsB, lsC])
                refine Draws.take 7 HS.out rfl (by kernel_rfl) (fun _ _ _ h => h) (yield_neq HQ1.out _ _ _ rfl rfl rfl rfl) ?_
                (try simp only [Act.put, lsA, lsB, lsC])
                refine Draws.take 8 (v := ?v18) HS.out rfl (by kernel_rfl) (fun _ _ _ h => h) (Or.inl ⟨rfl, ?h18⟩) ?r18
                case h18 => intro w' hw'; go_simp; (try with_reducible rfl)
                (try simp only [Act.put, lsA, lsB, lsC])
                refine Draws.take 9 (v := ?v19) HS.out rfl (by kernel_rfl) (fun _ _ _ h => h) (Or.inl ⟨rfl, ?h19⟩) ?r19
                case h19 => intro w' hw'; go_simp; (try with_reducible rfl)
                (try simp only [Act.put, lsA, lsB, lsC])
                refine Draws.take 10 HS.out rfl (by kernel_rfl) (fun _ _ _ h => h) (yield_int (fun _ hu => (hu.1.keep.get 0 rfl).five.2.2.2.1) _ rfl rfl rfl) ?_
                (try simp only [Act.put, lsA, lsB, lsC])
                refine Draws.take 11 (v := ?v20) HS.out rfl (by kernel_rfl) (fun _ _ _ h => h) (Or.inl ⟨rfl, ?h20⟩) ?r20
                case h20 => intro w' hw'; go_simp; (try with_reducible rfl)
                (try simp only [Act.put, lsA, lsB, lsC])
                refine Draws.take 12 (v := ?v21) HS.out rfl (by kernel_rfl) (fun _ _ _ h => h) (Or.inl ⟨rfl, ?h21⟩) ?r21
                case h21 => intro w' hw'; go_simp; (try with_reducible rfl)
                (try simp only [Act.put, lsA, lsB, lsC])
                refine Draws.take 13 (v := ?v22) HS.out rfl (by kernel_rfl) (fun _ _ _ h => h) (Or.inl ⟨rfl, ?h22⟩) ?r22
                case h22 => intro w' hw'; go_simp; (try with_reducible rfl)
                (try simp only [Act.put, lsA, lsB, lsC])
                refine Draws.take 14 (v := ?v23) HS.out rfl (by kernel_rfl) (fun _ _ _ h => h) (Or.inl ⟨rfl, ?h23⟩) ?r23
                case h23 => intro w' hw'; go_simp; (try with_reducible rfl)
                (try simp only [Act.put, lsA, lsB, lsC])
                refine Draws.take 15 HS.out rfl (by kernel_rfl) (fun _ _ _ h => h) (yield_int (fun _ hu => (range5 (own_load hu.1.own HIL.out HIE.out)).2.2.2.1) _ rfl rfl rfl) ?_
                (try simp only [Act.put, lsA, lsB, lsC])
                refine Draws.take 16 HS.out rfl (by kernel_rfl) (fun _ _ _ h => h) (yield_neq HQ2.out _ _ _ rfl rfl rfl rfl) ?_
                (try simp only [Act.put, lsA, lsB, lsC])
                refine Draws.take 17 (v := ?v24) HS.out rfl (by kernel_rfl) (fun _ _ _ h => h) (Or.inl ⟨rfl, ?h24⟩) ?r24
                case h24 => intro w' hw'; go_simp; (try with_reducible rfl)
                (try simp only [Act.put, lsA, lsB, lsC])
                refine Draws.done (by kernel_rfl) ?_
                clear HK HP
                have HK := Lib.hid HS.out.1; have HP := Lib.hid HS.out.2
                clear HS
                go_wp2
                refine Draws.start (S := fun u => KeepH w [(bh, 81, h.l)] (.slice (some ⟨g, 0, none⟩) N cap) L u ∧ PlAt u bm xa na) (n := 12) 13 rfl (by kernel_rfl) ?_
                have HS := Lib.hid (show (fun u => KeepH w [(bh, 81, h.l)] (.slice (some ⟨g, 0, none⟩) N cap) L u ∧ PlAt u bm xa na) _ from ⟨HK.out.drew, HP.out⟩)
                clear HK HP
                refine Draws.take 0 (v := ?v25) HS.out rfl (by kernel_rfl) (fun _ _ _ h => h) (Or.inl ⟨rfl, ?h25⟩) ?r25
                case h25 => intro w' hw'; go_simp; (try with_reducible rfl)
                (try simp only [Act.put, lsA, lsB, lsC])
                refine Draws.take 1 (v := ?v26) HS.out rfl (by kernel_rfl) (fun _ _ _ h => h) (Or.inl ⟨rfl, ?h26⟩) ?r26
                case h26 => intro w' hw'; go_simp; (try with_reducible rfl)
                (try simp only [Act.put, lsA, lsB, lsC])
                refine Draws.take 2 (v := ?v27) HS.out rfl (by kernel_rfl) (fun _ _ _ h => h) (Or.inl ⟨rfl, ?h27⟩) ?r27
                case h27 => intro w' hw'; go_simp; (try with_reducible rfl)
                (try simp only [Act.put, lsA, lsB, lsC])
                refine Draws.take 3 (v := ?v28) HS.out rfl (by kernel_rfl) (fun _ _ _ h => h) (Or.inl ⟨rfl, ?h28⟩) ?r28
                case h28 => intro w' hw'; go_simp; (try with_reducible rfl)
                (try simp only [Act.put, lsA, lsB, lsC])
                refine Draws.take 4 (v := ?v29) HS.out rfl (by kernel_rfl) (fun _ _ _ h => h) (Or.inl ⟨rfl, ?h29⟩) ?r29
                case h29 => intro w' hw'; go_simp; (try with_reducible rfl)
                (try simp only [Act.put, lsA, lsB, lsC])
                refine Draws.take 5 (v := ?v30) HS.out rfl (by kernel_rfl) (fun _ _ _ h => h) (Or.inl ⟨rfl, ?h30⟩) ?r30
                case h30 => intro w' hw'; go_simp; (try with_reducible rfl)
                (try simp only [Act.put, lsA, lsB, lsC])
                refine Draws.take 6 HS.out rfl (by kernel_rfl) (fun _ _ _ h => h) (yield_int (fun _ hu => (range5 (own_load hu.1.own HIL.out HIE.out)).2.2.2.2) _ rfl rfl rfl) ?_
                (try simp only [Act.put, lsA, lsB, lsC])
                refine Draws.take 7 (v := ?v31) HS.out rfl (by kernel_rfl) (fun _ _ _ h => h) (Or.inl ⟨rfl, ?h31⟩) ?r31
                case h31 => intro w' hw'; go_simp; (try with_reducible rfl)
                (try simp only [Act.put, lsA, lsB, lsC])
                refine Draws.take 8 HS.out rfl (by kernel_rfl) (fun _ _ _ h => h) (yield_int (fun _ hu => (hu.1.keep.get 0 rfl).five.2.2.2.2) _ rfl rfl rfl) ?_
                (try simp only [Act.put, lsA, lsB, lsC])
                refine Draws.take 9 HS.out rfl (by kernel_rfl) (fun _ _ _ h => h) (yield_max _ _ rfl rfl rfl rfl) ?_
                (try simp only [Act.put, lsA, lsB, lsC])
                refine Draws.does 10 rfl (by kernel_rfl) rfl (fun K hK => ?_)
                go_simp
                refine hK.out _ _ (fun _ => HS.out) ?_
                clear hK K
                (try simp only [Act.put, lsA, lsB, lsC])
                refine Draws.does 11 rfl (by kernel_rfl) rfl (fun K hK => ?_)
                go_simp
                refine hK.out _ _ (fun _ => HS.out) ?_
                clear hK K
                (try simp only [Act.put, lsA, lsB, lsC])
                refine Draws.does 12 rfl (by kernel_rfl) rfl (fun K hK => ?_)
                refine wp_store_pl HS.out.1 HS.out.2 HIL.out rfl _ _ rfl rfl rfl rfl ?_
                intro u hk hp
                refine hK.out _ _ (fun h => absurd h (by omega)) ?_
                clear hK K HS
                have HK := Lib.hid hk; have HP := Lib.hid hp
                clear hk hp
                (try simp only [Act.put, lsA, lsB, lsC])
                refine Draws.done (by kernel_rfl) ?_
                go_wp2
                go_roundw
                case rel => exact ⟨m + 1, by omega, by go_num, fun j hj => by
                  rcases Nat.lt_or_ge j m with h1 | h1
                  · exact HU.out j h1
                  · rw [show j = m by omega, HH.out]; exact HCL.out, by
                  have hk := HK.out.tail
                  rw [HIE.out] at hk
                  rw [HJ1.out]
                  exact hk, HP.out⟩
                case measure => simp [intOf]; omega
              · have HQ2 := Lib.hid (show (h.d != x.d) = true by simp [hd])
                obtain ⟨e1, e2⟩ := join_clash (a := xa) HMB.out (by rw [HH.out, hcl]; simp [ha]; exact fun e => hd e.symm)
                have HE1 := Lib.hid e1; have HE2 := Lib.hid e2
                clear hcl ha hd e1 e2
                go_wp2_with (first
                  | (with_reducible refine load_hold (range_below HR.out HK.out.keep.bel HC.out) _ rfl rfl rfl ?_)
                  | (with_reducible refine alloc_zero HK.out.keep 5 h_zero rfl rfl ?_; intro bh u hn0 hk0 hb; have hk := HK.out.of_alloc hn0 hk0 hb; have hp0 := HP.out.below hb; clear HP; have HP := Lib.hid hp0; clear hp0; clear hn0 hk0 hb; clear HK; have HK := Lib.hid hk; clear hk)
                  | (with_reducible refine store_all HK.out.keep 0 5 h_info rfl rfl _ _ rfl rfl rfl rfl (Ho.len _) (zer_length 5) ?_; intro u hk0 hs0; have hp0 := HP.out.store (HK.out.keep.get 0 rfl) hs0; have hk := HK.out.of_store 0 rfl hk0 hs0; clear HP; have HP := Lib.hid hp0; clear hp0 hk0 hs0; simp only [List.set_cons_zero] at hk; clear HK; have HK := Lib.hid hk; clear hk)
                  | (with_reducible refine load_val HK.out.keep 0 rfl _ rfl rfl rfl (Ho.g0 _) (Ho.p0 _) ?_)
                  | (with_reducible refine load_val HK.out.keep 0 rfl _ rfl rfl rfl (Ho.g1 _) (Ho.p1 _) ?_)
                  | (with_reducible refine load_val HK.out.keep 0 rfl _ rfl rfl rfl (Ho.g2 _) (Ho.p2 _) ?_)
                  | (with_reducible refine load_val HK.out.keep 0 rfl _ rfl rfl rfl (Ho.g3 _) (Ho.p3 _) ?_)
                  | (with_reducible refine load_val HK.out.keep 0 rfl _ rfl rfl rfl (Ho.g4 _) (Ho.p4 _) ?_)
                  | (with_reducible refine build_key rfl _ _ rfl rfl rfl ?_)
                  | (with_reducible refine map_hit HP.out HRHA.out HNA.out HIA.out HS1.out HS2.out rfl _ _ rfl rfl rfl ?_))
                refine Draws.start (S := fun u => KeepH w [(bh, 81, h.l)] (.slice (some ⟨g, 0, none⟩) N cap) L u ∧ PlAt u bm xa na) (n := 18) 18 rfl (by kernel_rfl) ?_
                have HS := Lib.hid (show (fun u => KeepH w [(bh, 81, h.l)] (.slice (some ⟨g, 0, none⟩) N cap) L u ∧ PlAt u bm xa na) _ from ⟨HK.out.drew, HP.out⟩)
                refine Draws.take 0 (v := ?v32) HS.out rfl (by kernel_rfl) (fun _ _ _ h => h) (Or.inl ⟨rfl, ?h32⟩) ?r32
                case h32 => intro w' hw'; go_simp; (try with_reducible rfl)
                (try simp only [Act.put, lsA, lsB, lsC])
                refine Draws.take 1 HS.out rfl (by kernel_rfl) (fun _ _ _ h => h) (yield_int (fun _ hu => (hu.1.keep.get 0 rfl).five.2.2.1) _ rfl rfl rfl) ?_
                (try simp only [Act.put, lsA, lsB, lsC])
                refine Draws.take 2 (v := ?v33) HS.out rfl (by kernel_rfl) (fun _ _ _ h => h) (Or.inl ⟨rfl, ?h33⟩) ?r33
                case h33 => intro w' hw'; go_simp; (try with_reducible rfl)
                (try simp only [Act.put, lsA, lsB, lsC])
                refine Draws.take 3 (v := ?v34) HS.out rfl (by kernel_rfl) (fun _ _ _ h => h) (Or.inl ⟨rfl, ?h34⟩) ?r34
                case h34 => intro w' hw'; go_simp; (try with_reducible rfl)
                (try simp only [Act.put, lsA, lsB, lsC])
                refine Draws.take 4 (v := ?v35) HS.out rfl (by kernel_rfl) (fun _ _ _ h => h) (Or.inl ⟨rfl, ?h35⟩) ?r35
                case h35 => intro w' hw'; go_simp; (try with_reducible rfl)
                (try simp only [Act.put, lsA, lsB, lsC])
                refine Draws.take 5 (v := ?v36) HS.out rfl (by kernel_rfl) (fun _ _ _ h => h) (Or.inl ⟨rfl, ?h36⟩) ?r36
                case h36 => intro w' hw'; go_simp; (try with_reducible rfl)
                (try simp only [Act.put, lsA, lsB, lsC])
                refine Draws.take 6 HS.out rfl (by kernel_rfl) (fun _ _ _ h => h) (yield_int (fun _ hu => (range5 (own_load hu.1.own HIL.out HIE.out)).2.2.1) _ rfl rfl rfl) ?_
                (try simp only [Act.put, lsA, lsB, lsC])
                refine Draws.take 7 HS.out rfl (by kernel_rfl) (fun _ _ _ h => h) (yield_neq HQ1.out _ _ _ rfl rfl rfl rfl) ?_
                (try simp only [Act.put, lsA, lsB, lsC])
                refine Draws.take 8 (v := ?v37) HS.out rfl (by kernel_rfl) (fun _ _ _ h => h) (Or.inl ⟨rfl, ?h37⟩) ?r37
                case h37 => intro w' hw'; go_simp; (try with_reducible rfl)
                (try simp only [Act.put, lsA, lsB, lsC])
                refine Draws.take 9 (v := ?v38) HS.out rfl (by kernel_rfl) (fun _ _ _ h => h) (Or.inl ⟨rfl, ?h38⟩) ?r38
                case h38 => intro w' hw'; go_simp; (try with_reducible rfl)
                (try simp only [Act.put, lsA, lsB, lsC])
                refine Draws.take 10 HS.out rfl (by kernel_rfl) (fun _ _ _ h => h) (yield_int (fun _ hu => (hu.1.keep.get 0 rfl).five.2.2.2.1) _ rfl rfl rfl) ?_
                (try simp only [Act.put, lsA, lsB, lsC])
                refine Draws.take 11 (v := ?v39) HS.out rfl (by kernel_rfl) (fun _ _ _ h => h) (Or.inl ⟨rfl, ?h39⟩) ?r39
                case h39 => intro w' hw'; go_simp; (try with_reducible rfl)
                (try simp only [Act.put, lsA, lsB, lsC])
                refine Draws.take 12 (v := ?v40) HS.out rfl (by kernel_rfl) (fun _ _ _ h => h) (Or.inl ⟨rfl, ?h40⟩) ?r40
                case h40 => intro w' hw'; go_simp; (try with_reducible rfl)
                (try simp only [Act.put, lsA, lsB, lsC])
                refine Draws.take 13 (v := ?v41) HS.out rfl (by kernel_rfl) (fun _ _ _ h => h) (Or.inl ⟨rfl, ?h41⟩) ?r41
                case h41 => intro w' hw'; go_simp; (try with_reducible rfl)
                (try simp only [Act.put, lsA, lsB, lsC])
                refine Draws.take 14 (v := ?v42) HS.out rfl (by kernel_rfl) (fun _ _ _ h => h) (Or.inl ⟨rfl, ?h42⟩) ?r42
                case h42 => intro w' hw'; go_simp; (try with_reducible rfl)
                (try simp only [Act.put, lsA, lsB, lsC])
                refine Draws.take 15 HS.out rfl (by kernel_rfl) (fun _ _ _ h => h) (yield_int (fun _ hu => (range5 (own_load hu.1.own HIL.out HIE.out)).2.2.2.1) _ rfl rfl rfl) ?_
                (try simp only [Act.put, lsA, lsB, lsC])
                refine Draws.take 16 HS.out rfl (by kernel_rfl) (fun _ _ _ h => h) (yield_neq HQ2.out _ _ _ rfl rfl rfl rfl) ?_
                (try simp only [Act.put, lsA, lsB, lsC])
                refine Draws.take 17 (v := ?v43) HS.out rfl (by kernel_rfl) (fun _ _ _ h => h) (Or.inl ⟨rfl, ?h43⟩) ?r43
                case h43 => intro w' hw'; go_simp; (try with_reducible rfl)
                (try simp only [Act.put, lsA, lsB, lsC])
                refine Draws.done (by kernel_rfl) ?_
                clear HK HP
                have HK := Lib.hid HS.out.1; have HP := Lib.hid HS.out.2
                clear HS
                go_wp2
                go_ret2
                exact ⟨.slice none 0 0, by rw [HE1.out]; rfl, by rw [HE2.out]; exact Own.nil _ _, HK.out.keep.bel⟩
            · have HQ1 := Lib.hid (show (h.a != x.a) = true by simp [ha])
              obtain ⟨e1, e2⟩ := join_clash (a := xa) HMB.out (by rw [HH.out, hcl]; simp; exact .inl fun e => ha e.symm)
              have HE1 := Lib.hid e1; have HE2 := Lib.hid e2
              clear hcl ha e1 e2
              go_wp2_with (first
                | (with_reducible refine load_hold (range_below HR.out HK.out.keep.bel HC.out) _ rfl rfl rfl ?_)
                | (with_reducible refine alloc_zero HK.out.keep 5 h_zero rfl rfl ?_; intro bh u hn0 hk0 hb; have hk := HK.out.of_alloc hn0 hk0 hb; have hp0 := HP.out.below hb; clear HP; have HP := Lib.hid hp0; clear hp0; clear hn0 hk0 hb; clear HK; have HK := Lib.hid hk; clear hk)
                | (with_reducible refine store_all HK.out.keep 0 5 h_info rfl rfl _ _ rfl rfl rfl rfl (Ho.len _) (zer_length 5) ?_; intro u hk0 hs0; have hp0 := HP.out.store (HK.out.keep.get 0 rfl) hs0; have hk := HK.out.of_store 0 rfl hk0 hs0; clear HP; have HP := Lib.hid hp0; clear hp0 hk0 hs0; simp only [List.set_cons_zero] at hk; clear HK; have HK := Lib.hid hk; clear hk)
                | (with_reducible refine load_val HK.out.keep 0 rfl _ rfl rfl rfl (Ho.g0 _) (Ho.p0 _) ?_)
                | (with_reducible refine load_val HK.out.keep 0 rfl _ rfl rfl rfl (Ho.g1 _) (Ho.p1 _) ?_)
                | (with_reducible refine load_val HK.out.keep 0 rfl _ rfl rfl rfl (Ho.g2 _) (Ho.p2 _) ?_)
                | (with_reducible refine load_val HK.out.keep 0 rfl _ rfl rfl rfl (Ho.g3 _) (Ho.p3 _) ?_)
                | (with_reducible refine load_val HK.out.keep 0 rfl _ rfl rfl rfl (Ho.g4 _) (Ho.p4 _) ?_)
                | (with_reducible refine build_key rfl _ _ rfl rfl rfl ?_)
                | (with_reducible refine map_hit HP.out HRHA.out HNA.out HIA.out HS1.out HS2.out rfl _ _ rfl rfl rfl ?_))
              refine Draws.start (S := fun u => KeepH w [(bh, 81, h.l)] (.slice (some ⟨g, 0, none⟩) N cap) L u ∧ PlAt u bm xa na) (n := 18) 18 rfl (by kernel_rfl) ?_
              have HS := Lib.hid (show (fun u => KeepH w [(bh, 81, h.l)] (.slice (some ⟨g, 0, none⟩) N cap) L u ∧ PlAt u bm xa na) _ from ⟨HK.out.drew, HP.out⟩)
              refine Draws.take 0 (v := ?v44) HS.out rfl (by kernel_rfl) (fun _ _ _ h => h) (Or.inl ⟨rfl, ?h44⟩) ?r44
              case h44 => intro w' hw'; go_simp; (try with_reducible rfl)
              (try simp only [Act.put, lsA, lsB, lsC])
              refine Draws.take 1 HS.out rfl (by kernel_rfl) (fun _ _ _ h => h) (yield_int (fun _ hu => (hu.1.keep.get 0 rfl).five.2.2.1) _ rfl rfl rfl) ?_
              (try simp only [Act.put, lsA, lsB, lsC])
              refine Draws.take 2 (v := ?v45) HS.out rfl (by kernel_rfl) (fun _ _ _ h => h) (Or.inl ⟨rfl, ?h45⟩) ?r45
              case h45 => intro w' hw'; go_simp; (try with_reducible rfl)
              (try simp only [Act.put, lsA, lsB, lsC])
              refine Draws.take 3 (v := ?v46) HS.out rfl (by kernel_rfl) (fun _ _ _ h => h) (Or.inl ⟨rfl, ?h46⟩) ?r46
              case h46 => intro w' hw'; go_simp; (try with_reducible rfl)
              (try simp only [Act.put, lsA, lsB, lsC])
              refine Draws.take 4 (v := ?v47) HS.out rfl (by kernel_rfl) (fun _ _ _ h => h) (Or.inl ⟨rfl, ?h47⟩) ?r47
              case h47 => intro w' hw'; go_simp; (try with_reducible rfl)
              (try simp only [Act.put, lsA, lsB, lsC])
              refine Draws.take 5 (v := ?v48) HS.out rfl (by kernel_rfl) (fun _ _ _ h => h) (Or.inl ⟨rfl, ?h48⟩) ?r48
              case h48 => intro w' hw'; go_simp; (try with_reducible rfl)
              (try simp only [Act.put, lsA, lsB, lsC])
              refine Draws.take 6 HS.out rfl (by kernel_rfl) (fun _ _ _ h => h) (yield_int (fun _ hu => (range5 (own_load hu.1.own HIL.out HIE.out)).2.2.1) _ rfl rfl rfl) ?_
              (try simp only [Act.put, lsA, lsB, lsC])
              refine Draws.take 7 HS.out rfl (by kernel_rfl) (fun _ _ _ h => h) (yield_neq HQ1.out _ _ _ rfl rfl rfl rfl) ?_
              (try simp only [Act.put, lsA, lsB, lsC])
              refine Draws.take 8 (v := ?v49) HS.out rfl (by kernel_rfl) (fun _ _ _ h => h) (Or.inl ⟨rfl, ?h49⟩) ?r49
              case h49 => intro w' hw'; go_simp; (try with_reducible rfl)
              (try simp only [Act.put, lsA, lsB, lsC])
              refine Draws.take 9 HS.out rfl (by kernel_rfl) (fun _ _ _ h => h) (Or.inr ⟨rfl, rfl⟩) ?_
              (try simp only [Act.put, lsA, lsB, lsC])
              refine Draws.take 10 HS.out rfl (by kernel_rfl) (fun _ _ _ h => h) (Or.inr ⟨rfl, rfl⟩) ?_
              (try simp only [Act.put, lsA, lsB, lsC])
              refine Draws.take 11 HS.out rfl (by kernel_rfl) (fun _ _ _ h => h) (Or.inr ⟨rfl, rfl⟩) ?_
              (try simp only [Act.put, lsA, lsB, lsC])
              refine Draws.take 12 HS.out rfl (by kernel_rfl) (fun _ _ _ h => h) (Or.inr ⟨rfl, rfl⟩) ?_
              (try simp only [Act.put, lsA, lsB, lsC])
              refine Draws.take 13 HS.out rfl (by kernel_rfl) (fun _ _ _ h => h) (Or.inr ⟨rfl, rfl⟩) ?_
              (try simp only [Act.put, lsA, lsB, lsC])
              refine Draws.take 14 HS.out rfl (by kernel_rfl) (fun _ _ _ h => h) (Or.inr ⟨rfl, rfl⟩) ?_
              (try simp only [Act.put, lsA, lsB, lsC])
              refine Draws.take 15 HS.out rfl (by kernel_rfl) (fun _ _ _ h => h) (Or.inr ⟨rfl, rfl⟩) ?_
              (try simp only [Act.put, lsA, lsB, lsC])
              refine Draws.take 16 HS.out rfl (by kernel_rfl) (fun _ _ _ h => h) (Or.inr ⟨rfl, rfl⟩) ?_
              (try simp only [Act.put, lsA, lsB, lsC])
              refine Draws.take 17 (v := ?v50) HS.out rfl (by kernel_rfl) (fun _ _ _ h => h) (Or.inl ⟨rfl, ?h50⟩) ?r50
              case h50 => intro w' hw'; go_simp; (try with_reducible rfl)
              (try simp only [Act.put, lsA, lsB, lsC])
              refine Draws.done (by kernel_rfl) ?_
              clear HK HP
              have HK := Lib.hid HS.out.1; have HP := Lib.hid HS.out.2
              clear HS
              go_wp2
              go_ret2
              exact ⟨.slice none 0 0, by rw [HE1.out]; rfl, by rw [HE2.out]; exact Own.nil _ _, HK.out.keep.bel⟩
        · obtain rfl : m = nb := by omega
          have htk : xb.take m = xb := by rw [← HLB.out]; exact List.take_length
          rw [htk] at HK hlen hla
          have hall : ∀ j, j < xb.length → clB xa (xb.getD j z5) = false := by rw [HLB.out]; exact HU.out
          have hap := jraw_apart (Apart.of_rises HPWA.out) (Apart.of_rises HPWB.out)
          obtain ⟨N, hN⟩ : ∃ N, (jraw xa xb).length = N := ⟨_, rfl⟩
          obtain ⟨A1, c1, hv, _⟩ := own_len HK.out.own hN
          subst hv
          by_cases h16 : 16 < N
          · obtain ⟨e1, e2⟩ := join_full HAB.out hall (by omega)
            have HE1 := Lib.hid e1; have HE2 := Lib.hid e2
            have hi : (16 : Int) < (N : Int) := by omega
            clear e1 e2 hall hap hN hlen hla htl htk h16
            go_wp2
            go_ret2
            exact ⟨.slice none 0 0, by rw [HE1.out]; rfl, by rw [HE2.out]; exact Own.nil _ _, HK.out.keep.bel⟩
          · obtain ⟨e1, e2⟩ := join_good HAB.out hall (by omega)
            have HE1 := Lib.hid e1; have HE2 := Lib.hid e2
            have hi : ¬ (16 : Int) < (N : Int) := by omega
            have HAP := Lib.hid hap
            have HLEN := Lib.hid (show (jraw xa xb).length ≤ 40 by omega)
            clear e1 e2 hall hap hN hlen hla htl htk h16
            go_wp2_with (first
              | (go_at_call 96; (refine (sort_any _ w.heap.size _ _ HK.out.own HK.out.keep.bel.size (by have := HLEN.out; omega) HAP.out).mono ?_); rintro e u ⟨rfl, ho, hb⟩; have hk := HK.out.re ho hb; clear ho hb; clear HK; have HK := Lib.hid hk; clear hk))
            go_ret2
            exact ⟨_, by rw [HE1.out]; rfl, by rw [HE2.out]; exact HK.out.own, HK.out.keep.bel⟩

end Go.Proofs.YtgblnlpfgdbnnaaGreat

namespace Go.Proofs.YtgblnlpfgdbnnaaGreat
set_option maxRecDepth 100000

/-- What two know of one name. -/
def comb : Option Ho → Option Ho → Option Ho
  | none, o => o
  | some x, none => some x
  | some x, some y => some (setS x (max x.s y.s))
def joinJ (a b : List Ho) : List Ho := isort (jraw a b)
theorem joinJ_rises {a b : List Ho} (ha : a.Pairwise AH) (hb : b.Pairwise AH) : (joinJ a b).Pairwise AH := isort_rises (jraw_apart (Apart.of_rises ha) (Apart.of_rises hb))
theorem mem_joinJ {a b : List Ho} {z : Ho} : z ∈ joinJ a b ↔ z ∈ jraw a b := (isort_perm _).mem_iff
theorem joinJ_length (a b : List Ho) : (joinJ a b).length = (jraw a b).length := (isort_perm _).length_eq
theorem fnd_of_mem {l : List Ho} (hl : l.Pairwise AH) {z : Ho} {k n : Int} (hz : z ∈ l) (h1 : z.r = k) (h2 : z.n = n) : fnd l k n = some z := by
  subst h1; subst h2; exact fnd_mem hl hz
theorem fnd_ext {l m : List Ho} (hl : l.Pairwise AH) (hm : m.Pairwise AH) (h : ∀ k n, fnd l k n = fnd m k n) : l = m := by
  refine uniq hl hm fun z => ⟨fun hz => ?_, fun hz => ?_⟩
  · have := fnd_mem hl hz
    rw [h] at this
    exact (fnd_name this).1
  · have := fnd_mem hm hz
    rw [← h] at this
    exact (fnd_name this).1
theorem fnd_join {a b : List Ho} (ha : a.Pairwise AH) (hb : b.Pairwise AH) (k n : Int) : fnd (joinJ a b) k n = comb (fnd a k n) (fnd b k n) := by
  have hj := joinJ_rises ha hb
  cases hfa : fnd a k n with
  | some x =>
    obtain ⟨hx, e1, e2⟩ := fnd_name hfa
    have hm : upd b x ∈ joinJ a b := mem_joinJ.2 (mem_jraw.2 (.inl ⟨x, hx, rfl⟩))
    have hu := upd_name b x
    rw [fnd_of_mem hj hm (by rw [hu.1, e1]) (by rw [hu.2.1, e2])]
    cases hfb : fnd b k n with
    | none => rw [upd_none (by rw [e1, e2]; exact hfb)]; rfl
    | some y => rw [upd_some (by rw [e1, e2]; exact hfb)]; rfl
  | none =>
    cases hfb : fnd b k n with
    | some y =>
      obtain ⟨hy, e1, e2⟩ := fnd_name hfb
      have hm : y ∈ joinJ a b := mem_joinJ.2 (mem_jraw.2 (.inr ⟨hy, fun x hx hs => fnd_none hfa hx ⟨hs.1.trans e1, hs.2.trans e2⟩⟩))
      rw [fnd_of_mem hj hm e1 e2]
      rfl
    | none =>
      show fnd (joinJ a b) k n = none
      rw [fnd, List.find?_eq_none]
      intro z hz e
      have e := nm_iff.1 e
      rcases mem_jraw.1 (mem_joinJ.1 hz) with ⟨x, hx, rfl⟩ | ⟨h1, _⟩
      · rw [(upd_name b x).1, (upd_name b x).2.1] at e
        exact fnd_none hfa hx e
      · exact fnd_none hfb h1 e
theorem any_cl {a b : List Ho} (hb : b.Pairwise AH) : b.any (clB a) = false ↔ NC a b := by
  rw [List.any_eq_false]
  constructor
  · intro h k n x y hx hy
    obtain ⟨h1, rfl, rfl⟩ := fnd_name hy
    have := h y h1
    rw [clB_hit hx] at this
    simp at this
    exact this
  · intro h y hy
    cases hf : fnd a y.r y.n with
    | none => rw [clB_miss hf]; decide
    | some x =>
      obtain ⟨h1, h2⟩ := h _ _ x y hf (fnd_mem hb hy)
      rw [clB_hit hf]
      simp [h1, h2]
theorem join_three {a b : List Ho} (ra : rightsL a = true) (rb : rightsL b = true) :
    (¬ NC a b ∧ joinE a b = 1 ∧ joinLH a b = []) ∨ (NC a b ∧ 16 < (joinJ a b).length ∧ joinE a b = 7 ∧ joinLH a b = []) ∨ (NC a b ∧ (joinJ a b).length ≤ 16 ∧ joinE a b = 0 ∧ joinLH a b = joinJ a b) := by
  have hb := (rights_iff.1 rb).2.2
  have hall : (rightsL a && rightsL b) = true := by rw [ra, rb]; rfl
  cases hc : b.any (clB a) with
  | true =>
    refine .inl ⟨fun h => ?_, ?_⟩
    · rw [(any_cl hb).2 h] at hc; cases hc
    · have e : joinE a b = 1 := by unfold joinE; rw [hall, if_pos rfl, hc]; rfl
      exact ⟨e, by rw [joinLH, e]; rfl⟩
  | false =>
    have hn := (any_cl hb).1 hc
    by_cases h16 : 16 < (jraw a b).length
    · have e : joinE a b = 7 := by unfold joinE; rw [hall, if_pos rfl, hc, if_neg (by decide), if_pos h16]
      exact .inr (.inl ⟨hn, by rw [joinJ_length]; exact h16, e, by rw [joinLH, e]; rfl⟩)
    · have e : joinE a b = 0 := by unfold joinE; rw [hall, if_pos rfl, hc, if_neg (by decide), if_neg h16]
      exact .inr (.inr ⟨hn, by rw [joinJ_length]; omega, e, by rw [joinLH, e]; rfl⟩)
theorem join_not {a b : List Ho} (h : ¬ (rightsL a = true ∧ rightsL b = true)) : joinE a b = 1 ∧ joinLH a b = [] := by
  refine join_bad ?_
  cases h1 : rightsL a <;> cases h2 : rightsL b <;> simp_all
theorem join_zero {a b : List Ho} (h : joinE a b = 0) : rightsL a = true ∧ rightsL b = true ∧ NC a b ∧ (joinJ a b).length ≤ 16 ∧ joinLH a b = joinJ a b := by
  by_cases hr : rightsL a = true ∧ rightsL b = true
  · rcases join_three hr.1 hr.2 with ⟨_, e, _⟩ | ⟨_, _, e, _⟩ | ⟨h1, h2, _, h3⟩
    · omega
    · omega
    · exact ⟨hr.1, hr.2, h1, h2, h3⟩
  · have := (join_not hr).1; omega
theorem joinL_none {a b : List Ho} (h : joinE a b ≠ 0) : joinLH a b = [] := by rw [joinLH, if_neg h]
theorem joinL_lenH (a b : List Ho) : (joinLH a b).length ≤ 16 := by
  by_cases h : joinE a b = 0
  · obtain ⟨_, _, _, h2, h3⟩ := join_zero h
    rw [h3]; exact h2
  · rw [joinL_none h]; simp
/-- Nor on how often. -/
theorem join_self {a : List Ho} (h : rightsL a = true) : joinE a a = 0 ∧ joinLH a a = a := by
  obtain ⟨h1, h2, h3⟩ := rights_iff.1 h
  have hj : joinJ a a = a := fnd_ext (joinJ_rises h3 h3) h3 fun k n => by
    rw [fnd_join h3 h3]
    cases hf : fnd a k n with
    | none => rfl
    | some x =>
      simp only [comb, Option.some.injEq]
      exact Ho.ext' rfl rfl rfl rfl (by simp only [setS]; omega)
  have hn : NC a a := fun k n x y hx hy => by rw [hx] at hy; injection hy with hy; subst hy; exact ⟨rfl, rfl⟩
  rcases join_three h h with ⟨g1, _⟩ | ⟨_, g2, _⟩ | ⟨_, _, e1, e2⟩
  · exact absurd hn g1
  · rw [hj] at g2; omega
  · exact ⟨e1, by rw [e2, hj]⟩
theorem join_self_not {a : List Ho} (h : rightsL a = false) : joinE a a = 1 := (join_not (a := a) (b := a) (by simp [h])).1
theorem comb_right {p q : Option Ho} {z : Ho} (hp : ∀ x, p = some x → rightH x = true) (hq : ∀ y, q = some y → rightH y = true) (h : comb p q = some z) : rightH z = true := by
  cases p with
  | none => exact hq z h
  | some x =>
    cases q with
    | none => injection h with h; subst h; exact hp x rfl
    | some y =>
      injection h with h
      subst h
      have h1 := rightH_iff.1 (hp x rfl)
      have h2 := rightH_iff.1 (hq y rfl)
      exact rightH_iff.2 (by simp only [setS]; omega)
/-- What is joined may be. -/
theorem join_rights {a b : List Ho} (h : joinE a b = 0) : rightsL (joinLH a b) = true := by
  obtain ⟨ra, rb, _, h2, h3⟩ := join_zero h
  obtain ⟨_, ra2, ra3⟩ := rights_iff.1 ra
  obtain ⟨_, rb2, rb3⟩ := rights_iff.1 rb
  rw [h3]
  refine rights_iff.2 ⟨h2, fun z hz => ?_, joinJ_rises ra3 rb3⟩
  have := fnd_mem (joinJ_rises ra3 rb3) hz
  rw [fnd_join ra3 rb3] at this
  exact comb_right (fun x hx => ra2 x (fnd_name hx).1) (fun y hy => rb2 y (fnd_name hy).1) this

end Go.Proofs.YtgblnlpfgdbnnaaGreat

namespace Go.Proofs.YtgblnlpfgdbnnaaGreat
set_option maxRecDepth 100000
open Go.ChangeShapes Go.WideShapes Go.ChangeAt Go.RowKit

theorem join_anyK (a b : Lk) (w : World) :
    Calls Tryz.prog 58 #[.agg (vals a.l).toArray, .agg (vals b.l).toArray] w fun e w' => e = .returned (.agg (vals (joinK a b).l).toArray) ∧ Below w.heap.size w w' := by
  have HK := Lib.hid (KeepR.start w)
  have hcp := compare_any b a
  by_cases h : 0 < cmpL b a
  · rw [show joinK a b = b from if_pos h]
    generalize cmpL b a = c at hcp h
    go_enter Tryz.func58, Tryz.ntmps58
    go_wp2_with (first
      | (with_reducible refine box_new (R := a.l) HK.out rfl _ rfl rfl ?_; intro ba u hk hb; clear hb; clear HK; have HK := Lib.hid hk; clear hk)
      | (with_reducible refine box_new (R := b.l) HK.out rfl _ rfl rfl ?_; intro bb u hk hb; clear hb; clear HK; have HK := Lib.hid hk; clear hk)
      | (with_reducible refine alloc_zero HK.out 4 lk_zero rfl rfl ?_; intro b u hn hk hb; clear hn; clear hb; clear HK; have HK := Lib.hid hk; clear hk)
      | (with_reducible refine load_all HK.out 2 4 Tryz.underlying40 rfl lk_info rfl _ rfl rfl rfl (Lk.len _) ?_)
      | (with_reducible refine load_all HK.out 1 4 Tryz.underlying40 rfl lk_info rfl _ rfl rfl rfl (Lk.len _) ?_)
      | (go_at_call 98; (with_reducible refine (hcp _).mono ?_); rintro e u ⟨rfl, hb⟩; have hk := HK.out.call hb; clear hb; clear HK; have HK := Lib.hid hk; clear hk)
      | (with_reducible refine store_all HK.out 0 4 lk_info rfl rfl _ _ rfl rfl rfl rfl (Lk.len _) (zer_length 4) ?_; intro u hk hs; clear hs; simp only [List.set_cons_zero] at hk; clear HK; have HK := Lib.hid hk; clear hk))
    exact bodyPost_ret (results_r rfl Tryz.underlying40 rfl lk_info _ HK.out 0 rfl rfl (Lk.len _)) rfl ⟨rfl, HK.out.bel⟩
  · rw [show joinK a b = a from if_neg h]
    generalize cmpL b a = c at hcp h
    go_enter Tryz.func58, Tryz.ntmps58
    go_wp2_with (first
      | (with_reducible refine box_new (R := a.l) HK.out rfl _ rfl rfl ?_; intro ba u hk hb; clear hb; clear HK; have HK := Lib.hid hk; clear hk)
      | (with_reducible refine box_new (R := b.l) HK.out rfl _ rfl rfl ?_; intro bb u hk hb; clear hb; clear HK; have HK := Lib.hid hk; clear hk)
      | (with_reducible refine alloc_zero HK.out 4 lk_zero rfl rfl ?_; intro b u hn hk hb; clear hn; clear hb; clear HK; have HK := Lib.hid hk; clear hk)
      | (with_reducible refine load_all HK.out 2 4 Tryz.underlying40 rfl lk_info rfl _ rfl rfl rfl (Lk.len _) ?_)
      | (with_reducible refine load_all HK.out 1 4 Tryz.underlying40 rfl lk_info rfl _ rfl rfl rfl (Lk.len _) ?_)
      | (go_at_call 98; (with_reducible refine (hcp _).mono ?_); rintro e u ⟨rfl, hb⟩; have hk := HK.out.call hb; clear hb; clear HK; have HK := Lib.hid hk; clear hk)
      | (with_reducible refine store_all HK.out 0 4 lk_info rfl rfl _ _ rfl rfl rfl rfl (Lk.len _) (zer_length 4) ?_; intro u hk hs; clear hs; simp only [List.set_cons_zero] at hk; clear HK; have HK := Lib.hid hk; clear hk))
    exact bodyPost_ret (results_r rfl Tryz.underlying40 rfl lk_info _ HK.out 0 rfl rfl (Lk.len _)) rfl ⟨rfl, HK.out.bel⟩

theorem cjC_is {A B : List Int} (hA : A.length = 579) (hB : B.length = 579) : dnR (cjC A B) = joinL (dnR A) (dnR B) ∧ upR (cjC A B) = joinL (upR A) (upR B) ∧ ∀ p, p < 3 → (cjC A B).getD p 0 = A.getD p 0 := by
  have l1 := jl_length (dnR_length hA) (dnR_length hB)
  have l2 := jl_length (upR_length hA) (upR_length hB)
  exact ⟨dn_du hA l1 l2, up_du hA l2, head_du hA l1 l2⟩

def headB (p q : Pf) : Bool := decide (p.nm = q.nm ∧ p.k = q.k ∧ p.e = q.e)
def joinPE (p q : Pf) : Int := if headB p q then (if cjE p.C q.C = 0 then joinE p.hs q.hs else cjE p.C q.C) else 1
def joinP (p q : Pf) : Pf := toldP ⟨p.nm, p.k, p.e, cjA p.C q.C, joinK p.L q.L, joinLH p.hs q.hs⟩ (joinPE p q)
theorem Iv.join {i : Int} {t : Nat} {p q : Pf} (h : Iv i t p) (g : Iv i t q) (he : joinPE p q = 0) : Iv i (t + 1) (joinP p q) := by
  have e : joinP p q = ⟨p.nm, p.k, p.e, cjA p.C q.C, joinK p.L q.L, joinLH p.hs q.hs⟩ := by rw [joinP, he, toldP_0]
  rw [e]
  unfold joinPE at he
  split at he
  · split at he
    · rename_i h1
      have hs : sameB p.C q.C = true := by
        unfold cjE at h1
        split at h1
        · assumption
        · cases h1
      have eC : cjA p.C q.C = cjC p.C q.C := by rw [cjA, if_pos hs]
      obtain ⟨d1, d2, d3⟩ := cjC_is h.full g.full
      refine ⟨h.k, h.nm, h.e, cjA_length h.full, ?_, fun z hz => ?_, fun z hz => ?_, join_rights he, fun x hx => ?_, fun x hx => ?_⟩
      · show (cjA p.C q.C).getD 0 0 = i
        rw [eC, d3 0 (by omega)]
        exact h.i0
      · show 0 ≤ (dnR (cjA p.C q.C)).getD z 0 ∧ (dnR (cjA p.C q.C)).getD z 0 ≤ _
        rw [eC, d1, joinL_get (by rw [dnR_length h.full]; exact hz) (by rw [dnR_length g.full]; exact hz)]
        have := h.D z hz
        have := g.D z hz
        push_cast
        omega
      · show 0 ≤ (upR (cjA p.C q.C)).getD z 0 ∧ (upR (cjA p.C q.C)).getD z 0 ≤ _
        rw [eC, d2, joinL_get (by rw [upR_length h.full]; exact hz) (by rw [upR_length g.full]; exact hz)]
        have := h.U z hz
        have := g.U z hz
        push_cast
        omega
      · have hx : x ∈ joinLH p.hs q.hs := hx
        rw [(join_zero he).2.2.2.2] at hx
        rcases mem_jraw.1 (mem_joinJ.1 hx) with ⟨y, hy, rfl⟩ | ⟨hy, _⟩
        · rw [(upd_name q.hs y).2.2.1]; exact h.ha y hy
        · exact g.ha x hy
      · have hx : x ∈ joinLH p.hs q.hs := hx
        rw [(join_zero he).2.2.2.2] at hx
        rcases mem_jraw.1 (mem_joinJ.1 hx) with ⟨y, hy, rfl⟩ | ⟨hy, _⟩
        · rw [(upd_name q.hs y).2.1]; have := h.hn y hy; push_cast; omega
        · have := g.hn x hy; push_cast; omega
    · rename_i h1
      exact absurd he h1
  · cases he

end Go.Proofs.YtgblnlpfgdbnnaaGreat
