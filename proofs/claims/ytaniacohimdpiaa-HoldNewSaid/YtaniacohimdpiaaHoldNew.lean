/- What is reserved is there, Held, of a number that no other one of the replica has; what it holds is more by its amount; ended it is less. No condition. -/
import Derived.Test.YtaniacohimdpiaaHoLaw
import Derived.WalkKit
import Derived.ProofKit
import Derived.OpenShut
import Derived.ChangeOld
import Derived.Below
namespace Go.Proofs.Ytaniacohimdpiaa.holdNew
open Go.ChangeShapes Go.WideShapes Go.ChangeAt Go.RowKit
set_option linter.unusedVariables false

theorem own : ownKnob Try.prog.godebug = none := by kernel_rfl
theorem laidOut : laidOutB Try.prog = true := by kernel_rfl

theorem Row.load {u : World} {g off n m : Nat} {hs : List Ho} {x : Ho} (h : Row u (some ⟨g, off, none⟩) n hs) (hm : m < n) (he : hs.getD m z5 = x) : u.rangeAt g (off + m * 5) (vals x.l) := by
  obtain ⟨b, o, e, hr⟩ := h.at hm
  injection e with e
  injection e with e1 e2
  subst e1; subst e2; subst he
  exact hr m hm
theorem build_five_want {ops : Array Oper} {rest : List Oper} {o : Oper} {a : Act} {u : World} {Q : Exit → Act → World → Prop} (x0 x1 x2 x3 x4 : Operand) (ho : o.op = .build 26 #[(0, x0), (1, x1), (2, x2), (3, x3), (4, x4)]) {p q r s t : Int}
    (h0 : a.eval x0 = .int .i64 p) (h1 : a.eval x1 = .int .i64 q) (h2 : a.eval x2 = .int .i64 r) (h3 : a.eval x3 = .int .i64 s) (h4 : a.eval x4 = .int .i64 t) (hw : Region.wanted o (yielded ops a.tmps) = true)
    (h : wpList Try.prog ops Q rest (a.put o.dst (.agg (vals (Ho.l ⟨p, q, r, s, t⟩)).toArray)) u) : wpList Try.prog ops Q (o :: rest) a u :=
  BigFrame.wpList_want hw fun K hK => by
    unfold Oper.wp execOp
    simp only [ho, List.map_toArray, List.map_cons, List.map_nil, h0, h1, h2, h3, h4, Sem.run_bind, Sem.run_pure, Result.andThen_ok, h_build5]
    exact hK _ _ h
theorem set_mem {l : List Ho} {i : Nat} {y x : Ho} (h : x ∈ l.set i y) : x ∈ l ∨ x = y := List.mem_or_eq_of_mem_set h
theorem rights_state {l : List Ho} {i : Nat} (hr : rightsL l = true) (hi : i < l.length) {st : Int} (hs : st = 2 ∨ st = 3) : rightsL (l.set i (setS (l.getD i z5) st)) = true := by
  obtain ⟨h1, h2, h3⟩ := rights_iff.1 hr
  refine rights_iff.2 ⟨by simpa using h1, fun x hx => ?_, ?_⟩
  · rcases set_mem hx with hx | rfl
    · exact h2 x hx
    · have := rightH_iff.1 (h2 _ (getD_mem hi))
      rw [rightH_iff]
      simp only [setS]
      omega
  · have hn : ∀ j (hj : j < l.length), ((l.set i (setS (l.getD i z5) st))[j]'(by simpa using hj)).r = l[j].r ∧ ((l.set i (setS (l.getD i z5) st))[j]'(by simpa using hj)).n = l[j].n := fun j hj => by
      rw [List.getElem_set]
      split
      · rename_i e; subst e; rw [getD_get hi]; exact ⟨rfl, rfl⟩
      · exact ⟨rfl, rfl⟩
    rw [List.pairwise_iff_getElem] at *
    intro p q hp hq hpq
    simp only [List.length_set] at hp hq
    have := h3 p q hp hq hpq
    unfold AH at *
    rw [(hn p hp).1, (hn p hp).2, (hn q hq).1, (hn q hq).2]
    exact this
theorem tot_set : ∀ {xs : List Int} {i : Nat} {v : Int}, i < xs.length → tot (xs.set i v) = tot xs - xs.getD i 0 + v
  | x :: xs, 0, v, _ => by simp only [List.set_cons_zero, tot, List.getD_cons_zero]; omega
  | x :: xs, i + 1, v, h => by
    have ih := tot_set (xs := xs) (i := i) (v := v) (by simpa using h)
    simp only [List.set_cons_succ, tot, List.getD_cons_succ, ih]; omega
theorem parts_set {l : List Ho} {i : Nat} {k : Int} {y : Ho} (hi : i < l.length) : tot (parts k (l.set i y)) = tot (parts k l) - (if holdsB k (l.getD i z5) then (l.getD i z5).a else 0) + (if holdsB k y then y.a else 0) := by
  rw [parts, List.map_set]
  rw [tot_set (by simpa using hi)]
  congr 2
  simp only [List.getD, List.getElem?_map, List.getElem?_eq_getElem hi, Option.map_some, Option.getD_some]
theorem tot_amount {l : List Ho} {k : Int} (h16 : l.length ≤ 16) (hr : ∀ h ∈ l, rightH h = true) (hb : ∀ h ∈ l, h.a ≤ 1073741824) : 0 ≤ tot (parts k l) ∧ tot (parts k l) ≤ 17179869184 := by
  refine ⟨tot_nonneg fun z hz => ?_, ?_⟩
  · obtain ⟨h, hh, rfl⟩ := List.mem_map.1 hz
    have := rightH_iff.1 (hr h hh)
    split <;> omega
  · have h1 := tot_small (xs := parts k l) 1073741824 (by omega) fun z hz => by
      obtain ⟨h, hh, rfl⟩ := List.mem_map.1 hz
      have := hb h hh
      split <;> omega
    have h2 : (parts k l).length = l.length := by simp [parts]
    rw [h2] at h1
    have h3 : (l.length : Int) ≤ 16 := by omega
    have h4 : (l.length : Int) * 1073741824 ≤ 16 * 1073741824 := Int.mul_le_mul_of_nonneg_right h3 (by omega)
    omega
/-- All that the statement asks of one that was reserved. -/
theorem new_facts {l : List Ho} {k a d : Int} (h0 : resE l k a d = 0) (hb : ∀ h ∈ l, h.a ≤ 1073741824) (ha : a ≤ 1073741824) :
    rightsL l = true ∧ resN l k a d = gr l k + 1 ∧ resL l k a d = insH l (newH l k a d) ∧ (insH l (newH l k a d)).length = l.length + 1 ∧ rightsL (insH l (newH l k a d)) = true ∧ fnd l k (gr l k + 1) = none ∧ fnd (insH l (newH l k a d)) k (gr l k + 1) = some (newH l k a d)
    ∧ sumOf (insH l (newH l k a d)) k = sumOf l k + a ∧ 0 ≤ sumOf l k ∧ sumOf l k ≤ 17179869184 ∧ 0 ≤ a
    ∧ ∀ st, st = 2 ∨ st = 3 → endE (insH l (newH l k a d)) k (gr l k + 1) st = 0 ∧ endA (insH l (newH l k a d)) k (gr l k + 1) st = a ∧ rightsL (endL (insH l (newH l k a d)) k (gr l k + 1) st) = true ∧ sumOf (endL (insH l (newH l k a d)) k (gr l k + 1) st) k = sumOf l k ∧ (endL (insH l (newH l k a d)) k (gr l k + 1) st).length = l.length + 1 := by
  have hall : (rightsL l && rightH (newH l k a d)) = true := by
    unfold resE at h0
    split at h0
    · assumption
    · omega
  have hn16 : l.length ≠ 16 := by
    intro e
    have := (res_full hall e).1
    omega
  obtain ⟨_, e2, e3⟩ := res_good hall hn16
  rw [Bool.and_eq_true] at hall
  obtain ⟨hr, hnew⟩ := hall
  obtain ⟨q1, q2, q3⟩ := rights_iff.1 hr
  have hrise := insH_rises q3 (new_apart (l := l) (k := k) (a := a) (d := d))
  have hrm : rightsL (insH l (newH l k a d)) = true := rights_iff.2 ⟨by rw [insH_length]; omega, fun x hx => by
    rcases mem_insH.1 hx with rfl | hx
    · exact hnew
    · exact q2 x hx, hrise⟩
  have hfl : fnd l k (gr l k + 1) = none := by
    rw [fnd, List.find?_eq_none]
    intro x hx e
    have h1 := nm_iff.1 e
    have := gr_over hx h1.1
    omega
  have hfm : fnd (insH l (newH l k a d)) k (gr l k + 1) = some (newH l k a d) := fnd_mem (x := newH l k a d) hrise (mem_insH.2 (.inl rfl))
  have ha0 : 0 ≤ a := by have := rightH_iff.1 hnew; simp only [newH] at this; omega
  have hh : holdsB k (newH l k a d) = true := by simp [holdsB, newH]
  obtain ⟨t1, t2⟩ := tot_amount (k := k) q1 q2 hb
  have hsl : sumOf l k = tot (parts k l) := by rw [sumOf, hr, if_pos rfl, sumL_tot q2]; omega
  have htm : tot (parts k (insH l (newH l k a d))) = tot (parts k l) + a := by
    rw [parts_perm (insH_perm l _) k]
    show tot ((if holdsB k (newH l k a d) then (newH l k a d).a else 0) :: parts k l) = _
    rw [hh, if_pos rfl, tot]
    show a + _ = _
    omega
  have hsm : sumOf (insH l (newH l k a d)) k = sumOf l k + a := by
    rw [sumOf, hrm, if_pos rfl, sumL_tot (rights_iff.1 hrm).2.1, htm, hsl]; omega
  refine ⟨hr, e2, e3, insH_length _ _, hrm, hfl, hfm, hsm, by omega, by omega, ha0, fun st hst => ?_⟩
  rcases plc_cases (insH l (newH l k a d)) k (gr l k + 1) with ⟨_, hno⟩ | ⟨m, hm, _, hyes, hno⟩
  · rw [fnd_miss hno] at hfm; cases hfm
  · have hg : (insH l (newH l k a d)).getD m z5 = newH l k a d := by
      have := fnd_hit hm hno hyes
      rw [hfm] at this
      injection this with this
      exact this.symm
    obtain ⟨f1, f2, f3⟩ := end_good (st := st) (by rw [hrm]; rcases hst with h | h <;> simp [h]) hm hno hyes (by rw [hg]; rfl)
    have hrx := rights_state hrm hm hst
    rw [f3]
    have hsx : sumOf ((insH l (newH l k a d)).set m (setS ((insH l (newH l k a d)).getD m z5) st)) k = sumOf l k := by
      rw [sumOf, hrx, if_pos rfl, sumL_tot (rights_iff.1 hrx).2.1, parts_set hm, htm, hsl, hg, hh, if_pos rfl]
      rw [if_neg (show ¬ holdsB k (setS (newH l k a d) st) = true by simp [holdsB, setS]; omega)]
      show min (tot (parts k l) + a - a + 0) _ = _
      omega
    exact ⟨f1, by rw [f2, hg]; rfl, hrx, hsx, by rw [List.length_set, insH_length]⟩

set_option maxRecDepth 100000 in
set_option maxHeartbeats 4000000 in
theorem walk (w : World) (A0 : Option Addr) (n0 c0 : Nat) (x0 : List Ho) (hd0 : Came w A0 n0 x0) (a1 : Int) (w1 : (Lit.int .i64 a1).wf = true) (a2 : Int) (w2 : (Lit.int .i64 a2).wf = true) (a3 : Int) (w3 : (Lit.int .i64 a3).wf = true) (b4 : Bool) :
    Calls Try.prog 8 #[.slice A0 n0 c0, .int .i64 a1, .int .i64 a2, .int .i64 a3, .bool b4] w fun e w' => e = .returned (.bool true) ∧ Below w.heap.size w w' := by
  by_cases h40 : n0 ≤ 40
  · have hrow := hd0.row (by omega)
    have HFEW := Lib.hid (few1 (A := A0) (c := c0) h40)
    have HL := Lib.hid hrow.1
    have HK := Lib.hid (LawS.start (w := w) (rows := [(A0, n0, x0)]) (by simpa using hrow))
    clear hd0 hrow
    cases hrt : rightsL x0 with
    | false =>
      have HRT := Lib.hid hrt; clear hrt
      go_enter Try.func8, Try.ntmps8
      go_wp2_with (first
        | (with_reducible refine many_one HK.out rfl _ rfl rfl ?_; intro bq u hk hm; have HM := Lib.hid hm; clear hm; clear HK; have HK := Lib.hid hk; clear hk)
        | (go_at_call 10; (with_reducible refine (few_one _ _ _ _ _ HFEW.out _ HM.out).mono ?_); rintro e u ⟨rfl, rfl⟩)
        | (go_at_call 16; (with_reducible refine (rrights_eq _ _ _ _ _ HRT.out _ (HK.out.get 0 rfl)).mono ?_); rintro e u ⟨rfl, hb⟩; have hk := HK.out.call hb; clear hb; clear HK; have HK := Lib.hid hk; clear hk)
        | (go_at_call 11; (with_reducible refine (awake_any _).mono ?_); rintro e u ⟨rfl, hb⟩; have hk := HK.out.call hb; clear hb; clear HK; have HK := Lib.hid hk; clear hk))
      go_ret
      exact ⟨rfl, HK.out.bel⟩
    | true =>
      have HRT := Lib.hid hrt; clear hrt
      by_cases ham : 1073741824 < a2
      · have g1 : decide ((1073741824 : Int) < a2) = true := by simp [ham]
        go_enter Try.func8, Try.ntmps8
        go_wp2_with (first
          | (with_reducible refine many_one HK.out rfl _ rfl rfl ?_; intro bq u hk hm; have HM := Lib.hid hm; clear hm; clear HK; have HK := Lib.hid hk; clear hk)
          | (go_at_call 10; (with_reducible refine (few_one _ _ _ _ _ HFEW.out _ HM.out).mono ?_); rintro e u ⟨rfl, rfl⟩)
          | (go_at_call 16; (with_reducible refine (rrights_eq _ _ _ _ _ HRT.out _ (HK.out.get 0 rfl)).mono ?_); rintro e u ⟨rfl, hb⟩; have hk := HK.out.call hb; clear hb; clear HK; have HK := Lib.hid hk; clear hk)
          | (with_reducible refine gtr_want g1 _ _ _ rfl rfl rfl rfl ?_)
          | (go_at_call 11; (with_reducible refine (awake_any _).mono ?_); rintro e u ⟨rfl, hb⟩; have hk := HK.out.call hb; clear hb; clear HK; have HK := Lib.hid hk; clear hk))
        go_ret
        exact ⟨rfl, HK.out.bel⟩
      · have g1 : decide ((1073741824 : Int) < a2) = false := by simp; omega
        have HAM := Lib.hid (show a2 ≤ 1073741824 by omega)
        clear ham
        go_enter Try.func8, Try.ntmps8
        go_wp2_with (first
          | (with_reducible refine many_one HK.out rfl _ rfl rfl ?_; intro bq u hk hm; have HM := Lib.hid hm; clear hm; clear HK; have HK := Lib.hid hk; clear hk)
          | (go_at_call 10; (with_reducible refine (few_one _ _ _ _ _ HFEW.out _ HM.out).mono ?_); rintro e u ⟨rfl, rfl⟩)
          | (go_at_call 16; (with_reducible refine (rrights_eq _ _ _ _ _ HRT.out _ (HK.out.get 0 rfl)).mono ?_); rintro e u ⟨rfl, hb⟩; have hk := HK.out.call hb; clear hb; clear HK; have HK := Lib.hid hk; clear hk)
          | (with_reducible refine gtr_want g1 _ _ _ rfl rfl rfl rfl ?_))
        clear g1 HFEW HM
        go_loopw [40] (fun i wr => ∃ m : Nat, m ≤ n0 ∧ i = .int .i64 m ∧ (∀ j, j < m → (x0.getD j z5).a ≤ 1073741824) ∧ LawS w [] [(A0, n0, x0)] wr) (fun i _ => n0 - (intOf i).toNat)
        case atStart => exact ⟨0, by omega, rfl, by omega, HK.out⟩
        case round =>
          obtain ⟨m, hm, rfl, hu, hk⟩ := hrel
          clear HK
          have HK := Lib.hid hk; have HU := Lib.hid hu
          clear hk hu
          by_cases hlt : m < n0
          · obtain ⟨b, off, rfl, hr⟩ := (HK.out.get 0 rfl).at hlt
            clear hr
            obtain ⟨h, hh⟩ : ∃ h, x0.getD m z5 = h := ⟨_, rfl⟩
            have HHE := Lib.hid hh
            clear hh
            have i1 : (0 : Int) ≤ (m : Int) := by omega
            have i2 : (m : Int) < (n0 : Int) := by omega
            by_cases hb : 1073741824 < h.a
            · have g1 : decide ((1073741824 : Int) < h.a) = true := by simp [hb]
              go_wp2_with (first
                | (with_reducible refine load_hold (Row.load (HK.out.get 0 rfl) hlt HHE.out) _ rfl rfl rfl ?_)
                | (with_reducible refine alloc_zero HK.out.keep 5 h_zero rfl rfl ?_; intro bh u hn0 hk0 hb; have hk := HK.out.alloc hn0 hk0 hb; clear hn0 hk0 hb; clear HK; have HK := Lib.hid hk; clear hk)
                | (with_reducible refine store_all HK.out.keep 0 5 h_info rfl rfl _ _ rfl rfl rfl rfl (Ho.len _) (zer_length 5) ?_; intro u hk0 hs0; simp only [List.set_cons_zero] at hk0; have hk := HK.out.store hk0 hs0; clear hk0 hs0; clear HK; have HK := Lib.hid hk; clear hk)
                | (with_reducible refine load_val HK.out.keep 0 rfl _ rfl rfl rfl (Ho.g0 _) (Ho.p0 _) ?_)
                | (with_reducible refine load_val HK.out.keep 0 rfl _ rfl rfl rfl (Ho.g1 _) (Ho.p1 _) ?_)
                | (with_reducible refine load_val HK.out.keep 0 rfl _ rfl rfl rfl (Ho.g2 _) (Ho.p2 _) ?_)
                | (with_reducible refine load_val HK.out.keep 0 rfl _ rfl rfl rfl (Ho.g3 _) (Ho.p3 _) ?_)
                | (with_reducible refine load_val HK.out.keep 0 rfl _ rfl rfl rfl (Ho.g4 _) (Ho.p4 _) ?_)
                | (with_reducible refine load_val_want HK.out.keep 0 _ rfl rfl rfl rfl (Ho.g0 _) (Ho.p0 _) ?_)
                | (with_reducible refine load_val_want HK.out.keep 0 _ rfl rfl rfl rfl (Ho.g1 _) (Ho.p1 _) ?_)
                | (with_reducible refine load_val_want HK.out.keep 0 _ rfl rfl rfl rfl (Ho.g2 _) (Ho.p2 _) ?_)
                | (with_reducible refine load_val_want HK.out.keep 0 _ rfl rfl rfl rfl (Ho.g3 _) (Ho.p3 _) ?_)
                | (with_reducible refine load_val_want HK.out.keep 0 _ rfl rfl rfl rfl (Ho.g4 _) (Ho.p4 _) ?_)
                | (with_reducible refine gtr_want g1 _ _ _ rfl rfl rfl rfl ?_)
                | (go_at_call 11; (with_reducible refine (awake_any _).mono ?_); rintro e u ⟨rfl, hb⟩; have hk := HK.out.call hb; clear hb; clear HK; have HK := Lib.hid hk; clear hk))
              go_ret
              exact ⟨rfl, HK.out.bel⟩
            · have g1 : decide ((1073741824 : Int) < h.a) = false := by simp; omega
              have HB := Lib.hid (show h.a ≤ 1073741824 by omega)
              go_wp2_with (first
                | (with_reducible refine load_hold (Row.load (HK.out.get 0 rfl) hlt HHE.out) _ rfl rfl rfl ?_)
                | (with_reducible refine alloc_zero HK.out.keep 5 h_zero rfl rfl ?_; intro bh u hn0 hk0 hb; have hk := HK.out.alloc hn0 hk0 hb; clear hn0 hk0 hb; clear HK; have HK := Lib.hid hk; clear hk)
                | (with_reducible refine store_all HK.out.keep 0 5 h_info rfl rfl _ _ rfl rfl rfl rfl (Ho.len _) (zer_length 5) ?_; intro u hk0 hs0; simp only [List.set_cons_zero] at hk0; have hk := HK.out.store hk0 hs0; clear hk0 hs0; clear HK; have HK := Lib.hid hk; clear hk)
                | (with_reducible refine load_val HK.out.keep 0 rfl _ rfl rfl rfl (Ho.g0 _) (Ho.p0 _) ?_)
                | (with_reducible refine load_val HK.out.keep 0 rfl _ rfl rfl rfl (Ho.g1 _) (Ho.p1 _) ?_)
                | (with_reducible refine load_val HK.out.keep 0 rfl _ rfl rfl rfl (Ho.g2 _) (Ho.p2 _) ?_)
                | (with_reducible refine load_val HK.out.keep 0 rfl _ rfl rfl rfl (Ho.g3 _) (Ho.p3 _) ?_)
                | (with_reducible refine load_val HK.out.keep 0 rfl _ rfl rfl rfl (Ho.g4 _) (Ho.p4 _) ?_)
                | (with_reducible refine load_val_want HK.out.keep 0 _ rfl rfl rfl rfl (Ho.g0 _) (Ho.p0 _) ?_)
                | (with_reducible refine load_val_want HK.out.keep 0 _ rfl rfl rfl rfl (Ho.g1 _) (Ho.p1 _) ?_)
                | (with_reducible refine load_val_want HK.out.keep 0 _ rfl rfl rfl rfl (Ho.g2 _) (Ho.p2 _) ?_)
                | (with_reducible refine load_val_want HK.out.keep 0 _ rfl rfl rfl rfl (Ho.g3 _) (Ho.p3 _) ?_)
                | (with_reducible refine load_val_want HK.out.keep 0 _ rfl rfl rfl rfl (Ho.g4 _) (Ho.p4 _) ?_)
                | (with_reducible refine gtr_want g1 _ _ _ rfl rfl rfl rfl ?_))
              go_roundw
              case rel => exact ⟨m + 1, by omega, by go_num, fun j hj => by
                rcases Nat.lt_or_ge j m with h1 | h1
                · exact HU.out j h1
                · rw [show j = m by omega, HHE.out]; exact HB.out, HK.out.tail⟩
              case measure => simp [intOf]; omega
          · obtain rfl : m = n0 := by omega
            have hall : ∀ h ∈ x0, h.a ≤ 1073741824 := fun h hh => by
              obtain ⟨i, hi, rfl⟩ := mem_getD hh
              exact HU.out i (by have := HL.out; omega)
            clear HU
            by_cases hE : resE x0 a1 a2 a3 = 0
            · obtain ⟨_, f2, f3, f4, f5, f6, f7, f8, f9, f10, f11, hst⟩ := new_facts hE hall HAM.out
              have HRE := Lib.hid hE
              generalize hs : sumOf x0 a1 = s at f8 f9 f10 hst
              have HSL := Lib.hid hs
              generalize hM : insH x0 (newH x0 a1 a2 a3) = M at f3 f4 f5 f7 f8 hst
              unfold newH at f7
              generalize hg : gr x0 a1 = g at f2 f6 f7 hst
              have HRN := Lib.hid f2; have HRL := Lib.hid f3; have HRM := Lib.hid f5; have HSM := Lib.hid f8
              have HML := Lib.hid (show M.length = m + 1 by rw [f4, HL.out])
              have HF1 := Lib.hid (show fndH x0 a1 (g + 1) = z5 by rw [fndH, f6]; rfl)
              have HF2 := Lib.hid (show fndB x0 a1 (g + 1) = false by rw [fndB, f6]; rfl)
              have HG1 := Lib.hid (show fndH M a1 (g + 1) = ⟨a1, g + 1, a2, a3, 1⟩ by rw [fndH, f7]; rfl)
              have HG2 := Lib.hid (show fndB M a1 (g + 1) = true by rw [fndB, f7]; rfl)
              have hqq := eql_ho ⟨a1, g + 1, a2, a3, 1⟩ ⟨a1, g + 1, a2, a3, 1⟩
              rw [Ho.same] at hqq
              have hge := h_guard
              have ham := HAM.out
              clear f2 f3 f4 f5 f6 f7 f8 hs hM hg hE hall
              cases b4 with
              | true =>
                obtain ⟨y1, y2, y3, y4, y5⟩ := hst 2 (.inl rfl)
                generalize hX : endL M a1 (g + 1) 2 = X at y3 y4 y5
                have HEE := Lib.hid y1; have HEA := Lib.hid y2; have HRX := Lib.hid y3; have HSX := Lib.hid y4; have HEL := Lib.hid hX
                have HXL := Lib.hid (show X.length = m + 1 by rw [y5, HL.out])
                clear y1 y2 y3 y4 y5 hX hst
                go_wp2_with (first
                  | (go_at_call 19; (with_reducible refine (reserve_row _ _ _ _ _ _ _ _ (HK.out.get 0 rfl) (g + 1) 0 M (m + 1) HRN.out HRE.out HRL.out HML.out).mono ?_); rintro e u ⟨Am, cm, rfl, hr, hb⟩; have hk := HK.out.add hb hr; clear hr hb; clear HK; have HK := Lib.hid hk; clear hk)
                  | (go_at_call 14; (with_reducible refine (find_eq _ _ _ _ _ _ z5 false HF1.out HF2.out _ (HK.out.get 1 rfl)).mono ?_); rintro e u ⟨rfl, hb⟩; have hk := HK.out.call hb; clear hb; clear HK; have HK := Lib.hid hk; clear hk)
                  | (go_at_call 14; (with_reducible refine (find_eq _ _ _ _ _ _ ⟨a1, g + 1, a2, a3, 1⟩ true HG1.out HG2.out _ (HK.out.get 0 rfl)).mono ?_); rintro e u ⟨rfl, hb⟩; have hk := HK.out.call hb; clear hb; clear HK; have HK := Lib.hid hk; clear hk)
                  | (with_reducible refine alloc_zero HK.out.keep 5 h_zero rfl rfl ?_; intro bz u hn0 hk0 hb; have hk := HK.out.alloc hn0 hk0 hb; clear hn0 hk0 hb; clear HK; have HK := Lib.hid hk; clear hk)
                  | (with_reducible refine store_all HK.out.keep 0 5 h_info rfl rfl _ _ rfl rfl rfl rfl (Ho.len _) (zer_length 5) ?_; intro u hk0 hs0; simp only [List.set_cons_zero] at hk0; have hk := HK.out.store hk0 hs0; clear hk0 hs0; clear HK; have HK := Lib.hid hk; clear hk)
                  | (go_at_call 21; (with_reducible refine (end_row _ _ _ _ _ _ 2 _ (HK.out.get 0 rfl) a2 0 X (m + 1) HEA.out HEE.out HEL.out HXL.out).mono ?_); rintro e u ⟨Ax, cx, rfl, hr, hb⟩; have hk := HK.out.add hb hr; clear hr hb; clear HK; have HK := Lib.hid hk; clear hk)
                  | (refine load_all_want HK.out.keep 0 5 Try.underlying26 rfl h_info _ rfl rfl rfl rfl (Ho.len _) ?_)
                  | (with_reducible refine build_five_want _ _ _ _ _ rfl rfl rfl rfl rfl rfl rfl ?_)
                  | (go_at_call 17; (with_reducible refine (sum_eq _ _ _ _ _ (s + a2) HSM.out _ (HK.out.get 1 rfl)).mono ?_); rintro e u ⟨rfl, hb⟩; have hk := HK.out.call hb; clear hb; clear HK; have HK := Lib.hid hk; clear hk)
                  | (go_at_call 17; (with_reducible refine (sum_eq _ _ _ _ _ s HSL.out _ (HK.out.get 2 rfl)).mono ?_); rintro e u ⟨rfl, hb⟩; have hk := HK.out.call hb; clear hb; clear HK; have HK := Lib.hid hk; clear hk)
                  | (go_at_call 17; (with_reducible refine (sum_eq _ _ _ _ _ s HSX.out _ (HK.out.get 0 rfl)).mono ?_); rintro e u ⟨rfl, hb⟩; have hk := HK.out.call hb; clear hb; clear HK; have HK := Lib.hid hk; clear hk)
                  | (go_at_call 15; (with_reducible refine (rights_eq _ _ _ _ _ HRM.out _ (HK.out.get 1 rfl)).mono ?_); rintro e u ⟨rfl, hb⟩; have hk := HK.out.call hb; clear hb; clear HK; have HK := Lib.hid hk; clear hk)
                  | (go_at_call 15; (with_reducible refine (rights_eq _ _ _ _ _ HRX.out _ (HK.out.get 0 rfl)).mono ?_); rintro e u ⟨rfl, hb⟩; have hk := HK.out.call hb; clear hb; clear HK; have HK := Lib.hid hk; clear hk)
                  | (go_at_call 11; (with_reducible refine (awake_any _).mono ?_); rintro e u ⟨rfl, hb⟩; have hk := HK.out.call hb; clear hb; clear HK; have HK := Lib.hid hk; clear hk))
                go_ret
                exact ⟨rfl, HK.out.bel⟩
              | false =>
                obtain ⟨y1, y2, y3, y4, y5⟩ := hst 3 (.inr rfl)
                generalize hX : endL M a1 (g + 1) 3 = X at y3 y4 y5
                have HEE := Lib.hid y1; have HEA := Lib.hid y2; have HRX := Lib.hid y3; have HSX := Lib.hid y4; have HEL := Lib.hid hX
                have HXL := Lib.hid (show X.length = m + 1 by rw [y5, HL.out])
                clear y1 y2 y3 y4 y5 hX hst
                go_wp2_with (first
                  | (go_at_call 19; (with_reducible refine (reserve_row _ _ _ _ _ _ _ _ (HK.out.get 0 rfl) (g + 1) 0 M (m + 1) HRN.out HRE.out HRL.out HML.out).mono ?_); rintro e u ⟨Am, cm, rfl, hr, hb⟩; have hk := HK.out.add hb hr; clear hr hb; clear HK; have HK := Lib.hid hk; clear hk)
                  | (go_at_call 14; (with_reducible refine (find_eq _ _ _ _ _ _ z5 false HF1.out HF2.out _ (HK.out.get 1 rfl)).mono ?_); rintro e u ⟨rfl, hb⟩; have hk := HK.out.call hb; clear hb; clear HK; have HK := Lib.hid hk; clear hk)
                  | (go_at_call 14; (with_reducible refine (find_eq _ _ _ _ _ _ ⟨a1, g + 1, a2, a3, 1⟩ true HG1.out HG2.out _ (HK.out.get 0 rfl)).mono ?_); rintro e u ⟨rfl, hb⟩; have hk := HK.out.call hb; clear hb; clear HK; have HK := Lib.hid hk; clear hk)
                  | (with_reducible refine alloc_zero HK.out.keep 5 h_zero rfl rfl ?_; intro bz u hn0 hk0 hb; have hk := HK.out.alloc hn0 hk0 hb; clear hn0 hk0 hb; clear HK; have HK := Lib.hid hk; clear hk)
                  | (with_reducible refine store_all HK.out.keep 0 5 h_info rfl rfl _ _ rfl rfl rfl rfl (Ho.len _) (zer_length 5) ?_; intro u hk0 hs0; simp only [List.set_cons_zero] at hk0; have hk := HK.out.store hk0 hs0; clear hk0 hs0; clear HK; have HK := Lib.hid hk; clear hk)
                  | (go_at_call 21; (with_reducible refine (end_row _ _ _ _ _ _ 3 _ (HK.out.get 0 rfl) a2 0 X (m + 1) HEA.out HEE.out HEL.out HXL.out).mono ?_); rintro e u ⟨Ax, cx, rfl, hr, hb⟩; have hk := HK.out.add hb hr; clear hr hb; clear HK; have HK := Lib.hid hk; clear hk)
                  | (refine load_all_want HK.out.keep 0 5 Try.underlying26 rfl h_info _ rfl rfl rfl rfl (Ho.len _) ?_)
                  | (with_reducible refine build_five_want _ _ _ _ _ rfl rfl rfl rfl rfl rfl rfl ?_)
                  | (go_at_call 17; (with_reducible refine (sum_eq _ _ _ _ _ (s + a2) HSM.out _ (HK.out.get 1 rfl)).mono ?_); rintro e u ⟨rfl, hb⟩; have hk := HK.out.call hb; clear hb; clear HK; have HK := Lib.hid hk; clear hk)
                  | (go_at_call 17; (with_reducible refine (sum_eq _ _ _ _ _ s HSL.out _ (HK.out.get 2 rfl)).mono ?_); rintro e u ⟨rfl, hb⟩; have hk := HK.out.call hb; clear hb; clear HK; have HK := Lib.hid hk; clear hk)
                  | (go_at_call 17; (with_reducible refine (sum_eq _ _ _ _ _ s HSX.out _ (HK.out.get 0 rfl)).mono ?_); rintro e u ⟨rfl, hb⟩; have hk := HK.out.call hb; clear hb; clear HK; have HK := Lib.hid hk; clear hk)
                  | (go_at_call 15; (with_reducible refine (rights_eq _ _ _ _ _ HRM.out _ (HK.out.get 1 rfl)).mono ?_); rintro e u ⟨rfl, hb⟩; have hk := HK.out.call hb; clear hb; clear HK; have HK := Lib.hid hk; clear hk)
                  | (go_at_call 15; (with_reducible refine (rights_eq _ _ _ _ _ HRX.out _ (HK.out.get 0 rfl)).mono ?_); rintro e u ⟨rfl, hb⟩; have hk := HK.out.call hb; clear hb; clear HK; have HK := Lib.hid hk; clear hk)
                  | (go_at_call 11; (with_reducible refine (awake_any _).mono ?_); rintro e u ⟨rfl, hb⟩; have hk := HK.out.call hb; clear hb; clear HK; have HK := Lib.hid hk; clear hk))
                go_ret
                exact ⟨rfl, HK.out.bel⟩
            · have hnl : resN x0 a1 a2 a3 = 0 ∧ resL x0 a1 a2 a3 = [] := ⟨by rw [resN, if_neg hE], by rw [resL, if_neg hE]⟩
              obtain ⟨E, hEE⟩ : ∃ E, resE x0 a1 a2 a3 = E := ⟨_, rfl⟩
              rw [hEE] at hE
              have HRE := Lib.hid hEE; have HRN := Lib.hid hnl.1; have HRL := Lib.hid hnl.2
              have hne : (E != 0) = true := by simp [hE]
              clear hnl hEE hall
              go_wp2_with (first
                | (go_at_call 19; (with_reducible refine (reserve_row _ _ _ _ _ _ _ _ (HK.out.get 0 rfl) 0 E [] 0 HRN.out HRE.out HRL.out rfl).mono ?_); rintro e u ⟨Am, cm, rfl, hr, hb⟩; have hk := HK.out.add hb hr; clear hr hb; clear HK; have HK := Lib.hid hk; clear hk)
                | (go_at_call 11; (with_reducible refine (awake_any _).mono ?_); rintro e u ⟨rfl, hb⟩; have hk := HK.out.call hb; clear hb; clear HK; have HK := Lib.hid hk; clear hk))
              go_ret
              exact ⟨rfl, HK.out.bel⟩
  · have HFEW := Lib.hid (few1n (A := A0) (c := c0) h40)
    have HK := Lib.hid (LawS.start (w := w) (rows := []) (by simp))
    clear hd0 h40
    go_enter Try.func8, Try.ntmps8
    go_wp2_with (first
      | (with_reducible refine many_one HK.out rfl _ rfl rfl ?_; intro bq u hk hm; have HM := Lib.hid hm; clear hm; clear HK; have HK := Lib.hid hk; clear hk)
      | (go_at_call 10; (with_reducible refine (few_one _ _ _ _ _ HFEW.out _ HM.out).mono ?_); rintro e u ⟨rfl, rfl⟩)
      | (go_at_call 11; (with_reducible refine (awake_any _).mono ?_); rintro e u ⟨rfl, hb⟩; have hk := HK.out.call hb; clear hb; clear HK; have HK := Lib.hid hk; clear hk))
    go_ret
    exact ⟨rfl, HK.out.bel⟩

set_option maxRecDepth 100000 in
theorem lifted (os : Os) (started : os.Started) (H : Type) (enc : TypeId × Value → H) :
    ReturnsInHanded {} Try.checked os 8 .any (Rows.holdNewSpec.pre6 enc Try.prog Try.f8 Rows.holdNewRow.domain false) (Rows.holdNewSpec.post enc Try.prog Try.f8 false true false false) := by
  refine returnsInHanded_of_change (C := Try.checked) own started (by kernel_rfl) Try.func8
    (ChangeSpec.witness6 (enc := enc) (C := Try.checked) false ⟨#[], #[.slice none 0 0, .int .i64 0, .int .i64 0, .int .i64 0, .bool false], []⟩ 12 (by kernel_rfl) (by kernel_rfl) (by kernel_rfl) (by kernel_rfl)) ?_
  intro W base args ds gs before hval0 hW hcnd _
  have hval : ∀ (j : Nat) t v, Try.f8.params[j]? = some t → args[j]? = some v → Value.okWide Try.prog W .any base t v := hval0
  have hW' := hW
  obtain ⟨p, q, hA0, hV, rfl, hfz, hnd⟩ := hW
  have hA : DataW.TrodAll enc Try.prog W 0 (fun _ => true) true Try.f8.params.toList args.toList ds p := hA0
  rw [Try.params8] at hA hval
  obtain ⟨v0, vs0, d0, ds0, p0, q0, hargs, rfl, rfl, h0, r0⟩ := trodAll_cons hA
  obtain ⟨v1, vs1, d1, ds1, p1, q1, rfl, rfl, rfl, h1, r1⟩ := trodAll_cons r0
  obtain ⟨v2, vs2, d2, ds2, p2, q2, rfl, rfl, rfl, h2, r2⟩ := trodAll_cons r1
  obtain ⟨v3, vs3, d3, ds3, p3, q3, rfl, rfl, rfl, h3, r3⟩ := trodAll_cons r2
  obtain ⟨v4, vs4, d4, ds4, p4, q4, rfl, rfl, rfl, h4, r4⟩ := trodAll_cons r3
  obtain ⟨rfl, rfl, rfl⟩ := trodAll_nil r4
  obtain rfl : args = #[v0, v1, v2, v3, v4] := by cases args; simp_all
  obtain ⟨rfl, rfl⟩ := trodVars_none hV
  have k0 := h0
  have lt0 : ∀ x ∈ p0, x.block < W.heap.size := by obtain ⟨m, hm⟩ := k0; exact DataW.trod_lt m _ _ _ hm
  obtain ⟨A0, n0, c0, x0, rfl, hd0⟩ := open_holds (hval 0 22 v0 rfl rfl) h0
  have k1 := h1
  have lt1 : ∀ x ∈ p1, x.block < W.heap.size := by obtain ⟨m, hm⟩ := k1; exact DataW.trod_lt m _ _ _ hm
  obtain ⟨a1, rfl, rfl, rfl, w1⟩ := open_int Try.underlying3 (hval 1 3 v1 rfl rfl) h1
  have k2 := h2
  have lt2 : ∀ x ∈ p2, x.block < W.heap.size := by obtain ⟨m, hm⟩ := k2; exact DataW.trod_lt m _ _ _ hm
  obtain ⟨a2, rfl, rfl, rfl, w2⟩ := open_int Try.underlying3 (hval 2 3 v2 rfl rfl) h2
  have k3 := h3
  have lt3 : ∀ x ∈ p3, x.block < W.heap.size := by obtain ⟨m, hm⟩ := k3; exact DataW.trod_lt m _ _ _ hm
  obtain ⟨a3, rfl, rfl, rfl, w3⟩ := open_int Try.underlying3 (hval 3 3 v3 rfl rfl) h3
  have k4 := h4
  have lt4 : ∀ x ∈ p4, x.block < W.heap.size := by obtain ⟨m, hm⟩ := k4; exact DataW.trod_lt m _ _ _ hm
  obtain ⟨b4, rfl, rfl, rfl⟩ := open_bool Try.underlying4 (hval 4 4 v4 rfl rfl) h4
  clear hA0 hval0
  refine (walk W A0 n0 c0 x0 hd0 a1 w1 a2 w2 a3 w3 b4).mono fun e W' ⟨he, bel⟩ => ?_
  subst he
  exact ⟨_, rfl, _, _, _, [], _, [], hW', trodAll_mk1 (shut_bool Try.underlying4 _), (trodAll_cons_mk (Below.trod laidOut (by kernel_rfl) (of_decide_eq_true (by kernel_rfl)) k0 bel lt0) (trodAll_cons_mk (Below.trod laidOut (by kernel_rfl) (of_decide_eq_true (by kernel_rfl)) k1 bel lt1) (trodAll_cons_mk (Below.trod laidOut (by kernel_rfl) (of_decide_eq_true (by kernel_rfl)) k2 bel lt2) (trodAll_cons_mk (Below.trod laidOut (by kernel_rfl) (of_decide_eq_true (by kernel_rfl)) k3 bel lt3) (trodAll_cons_mk (Below.trod laidOut (by kernel_rfl) (of_decide_eq_true (by kernel_rfl)) k4 bel lt4) trodAll_mk0))))), rfl, bel.frame _, fun h => by cases h⟩

theorem over : Rows.holdNewRow.holds Try.pinned (OpenSpec.ofChange Rows.holdNewSpec) :=
  OpenClaim.holds_of_wide 8 Try.f8 rfl rfl rfl rfl rfl rfl rfl ⟨rfl, rfl, rfl, rfl, rfl⟩ rfl rfl rfl rfl rfl (by kernel_rfl) Try.func8 (by kernel_rfl)
    (of_decide_eq_true (by kernel_rfl)) (by unfold Func.isWrapper; first | (rw [if_pos (by decide +kernel)]; kernel_rfl) | (rw [if_neg (by decide +kernel)]; exact ⟨rfl, rfl⟩))
    (fun os started H enc _ => lifted os started H enc)

theorem proved : Rows.HoldNewSaid := over
#print axioms proved
end Go.Proofs.Ytaniacohimdpiaa.holdNew
