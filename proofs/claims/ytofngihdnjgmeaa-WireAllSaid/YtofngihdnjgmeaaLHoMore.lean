/- Contracts of the document's Sum, of hold.greatest, of slices.Clone at holds, and of the statements' Same. -/
import Derived.Test.YtofngihdnjgmeaaLHoFind
import Derived.Test.YtofngihdnjgmeaaLSort
import Derived.Lib.SliceRun
namespace Go.Proofs.Ytofngihdnjgmeaa
set_option maxRecDepth 100000
open Go.ChangeShapes Go.WideShapes Go.ChangeAt Go.RowKit

theorem grTo_yes {l : List Ho} {k : Int} {m : Nat} (h : ((l.getD m z5).r == k) = true) : grTo l k (m + 1) = max (grTo l k m) (l.getD m z5).n := by rw [grTo, if_pos h]
theorem grTo_no {l : List Ho} {k : Int} {m : Nat} (h : ((l.getD m z5).r == k) = false) : grTo l k (m + 1) = grTo l k m := by rw [grTo, if_neg (by rw [h]; decide)]
set_option maxHeartbeats 2000000 in
theorem gr_any (A : Option Addr) (n c : Nat) (hs : List Ho) (k : Int) (w : World) (hd : Row w A n hs) :
    Calls Try.prog 58 #[.slice A n c, .int .i64 k] w fun e w' => e = .returned (.int .i64 (gr hs k)) ∧ Below w.heap.size w w' := by
  have HD := Lib.hid hd; have HL := Lib.hid hd.1; have HNB := Lib.hid hd.2.1; clear hd
  have HK := Lib.hid (KeepR.start w)
  go_enter Try.func58, Try.ntmps58
  go_wp2
  go_loopw [5, 10] (fun s i wr => ∃ m : Nat, m ≤ n ∧ i = .int .i64 m ∧ s = .int .i64 (grTo hs k m) ∧ KeepR w [] wr) (fun _ i _ => n - (intOf i).toNat)
  case atStart => exact ⟨0, by omega, rfl, rfl, HK.out⟩
  case round =>
    obtain ⟨m, hm, rfl, rfl, hk⟩ := hrel
    clear HK
    have HK := Lib.hid hk
    clear hk
    by_cases hlt : m < n
    · have hnb := HNB.out
      obtain ⟨b, off, rfl, hr⟩ := HD.out.at hlt
      have hrm := hr m hlt
      clear hr
      obtain ⟨h, hh⟩ : ∃ h, hs.getD m z5 = h := ⟨_, rfl⟩
      rw [hh] at hrm
      have HH := Lib.hid hh
      have HR := Lib.hid hrm; have HC := Lib.hid (range_lt hrm)
      clear hrm hh
      have i1 : (0 : Int) ≤ (m : Int) := by omega
      have i2 : (m : Int) < (n : Int) := by omega
      generalize hSS : grTo hs k m = s
      have HSS := Lib.hid hSS; clear hSS
      cases h1 : (h.r == k) with
      | false =>
        have HNX := Lib.hid (show grTo hs k (m + 1) = s by rw [grTo_no (by rw [HH.out]; exact h1), HSS.out])
        go_wp2_with (first
          | (with_reducible refine load_hold (range_below HR.out HK.out.bel HC.out) _ rfl rfl rfl ?_)
          | (with_reducible refine alloc_zero HK.out 5 h_zero rfl rfl ?_; intro bh u hn hk hb; clear hn hb; clear HK; have HK := Lib.hid hk; clear hk)
          | (with_reducible refine store_all HK.out 0 5 h_info rfl rfl _ _ rfl rfl rfl rfl (Ho.len _) (zer_length 5) ?_; intro u hk hs; clear hs; simp only [List.set_cons_zero] at hk; clear HK; have HK := Lib.hid hk; clear hk)
          | (with_reducible refine load_val HK.out 0 rfl _ rfl rfl rfl (Ho.g0 _) (Ho.p0 _) ?_)
          | (with_reducible refine load_val HK.out 0 rfl _ rfl rfl rfl (Ho.g1 _) (Ho.p1 _) ?_)
          | (with_reducible refine load_val HK.out 0 rfl _ rfl rfl rfl (Ho.g2 _) (Ho.p2 _) ?_)
          | (with_reducible refine load_val HK.out 0 rfl _ rfl rfl rfl (Ho.g3 _) (Ho.p3 _) ?_)
          | (with_reducible refine load_val HK.out 0 rfl _ rfl rfl rfl (Ho.g4 _) (Ho.p4 _) ?_)
          | (with_reducible refine load_val_want HK.out 0 _ rfl rfl rfl rfl (Ho.g0 _) (Ho.p0 _) ?_)
          | (with_reducible refine load_val_want HK.out 0 _ rfl rfl rfl rfl (Ho.g1 _) (Ho.p1 _) ?_)
          | (with_reducible refine load_val_want HK.out 0 _ rfl rfl rfl rfl (Ho.g2 _) (Ho.p2 _) ?_)
          | (with_reducible refine load_val_want HK.out 0 _ rfl rfl rfl rfl (Ho.g3 _) (Ho.p3 _) ?_)
          | (with_reducible refine load_val_want HK.out 0 _ rfl rfl rfl rfl (Ho.g4 _) (Ho.p4 _) ?_)
          | (with_reducible refine eql_want h1 _ _ _ rfl rfl rfl rfl ?_))
        go_roundw
        case rel => exact ⟨m + 1, by omega, by go_num, by rw [HNX.out], HK.out.tail⟩
        case measure => simp [intOf]; omega
      | true =>
        have HNX := Lib.hid (show grTo hs k (m + 1) = max s h.n by rw [grTo_yes (by rw [HH.out]; exact h1), HSS.out, HH.out])
        go_wp2_with (first
          | (with_reducible refine load_hold (range_below HR.out HK.out.bel HC.out) _ rfl rfl rfl ?_)
          | (with_reducible refine alloc_zero HK.out 5 h_zero rfl rfl ?_; intro bh u hn hk hb; clear hn hb; clear HK; have HK := Lib.hid hk; clear hk)
          | (with_reducible refine store_all HK.out 0 5 h_info rfl rfl _ _ rfl rfl rfl rfl (Ho.len _) (zer_length 5) ?_; intro u hk hs; clear hs; simp only [List.set_cons_zero] at hk; clear HK; have HK := Lib.hid hk; clear hk)
          | (with_reducible refine load_val HK.out 0 rfl _ rfl rfl rfl (Ho.g0 _) (Ho.p0 _) ?_)
          | (with_reducible refine load_val HK.out 0 rfl _ rfl rfl rfl (Ho.g1 _) (Ho.p1 _) ?_)
          | (with_reducible refine load_val HK.out 0 rfl _ rfl rfl rfl (Ho.g2 _) (Ho.p2 _) ?_)
          | (with_reducible refine load_val HK.out 0 rfl _ rfl rfl rfl (Ho.g3 _) (Ho.p3 _) ?_)
          | (with_reducible refine load_val HK.out 0 rfl _ rfl rfl rfl (Ho.g4 _) (Ho.p4 _) ?_)
          | (with_reducible refine load_val_want HK.out 0 _ rfl rfl rfl rfl (Ho.g0 _) (Ho.p0 _) ?_)
          | (with_reducible refine load_val_want HK.out 0 _ rfl rfl rfl rfl (Ho.g1 _) (Ho.p1 _) ?_)
          | (with_reducible refine load_val_want HK.out 0 _ rfl rfl rfl rfl (Ho.g2 _) (Ho.p2 _) ?_)
          | (with_reducible refine load_val_want HK.out 0 _ rfl rfl rfl rfl (Ho.g3 _) (Ho.p3 _) ?_)
          | (with_reducible refine load_val_want HK.out 0 _ rfl rfl rfl rfl (Ho.g4 _) (Ho.p4 _) ?_)
          | (with_reducible refine eql_want h1 _ _ _ rfl rfl rfl rfl ?_))
        go_roundw
        case rel => exact ⟨m + 1, by omega, by go_num, by rw [HNX.out]; try (congr 1; split <;> omega), HK.out.tail⟩
        case measure => simp [intOf]; omega
    · obtain rfl : m = n := by omega
      have HF := Lib.hid (show grTo hs k m = gr hs k by rw [gr, HL.out])
      go_wp2
      go_ret
      exact ⟨by rw [← HF.out]; rfl, HK.out.bel⟩
set_option maxHeartbeats 1000000 in
theorem clone_any (A : Option Addr) (n c : Nat) (hs : List Ho) (w : World) (hd : Row w A n hs) :
    Calls Try.prog 21 #[.slice A n c] w fun e w' => ∃ v, e = .returned v ∧ Own w' w.heap.size v hs ∧ Below w.heap.size w w' := by
  have q : ∀ (w : World) (a : Option Addr) (n c n' c' : Nat), (binOp .eql 31 (.slice a n c) (.slice none n' c')).run Try.prog w = .ok (.bool a.isNone) w := fun w a n c n' c' => Lib.run_eql_slice_nil w _ _ a n c n' c' Try.underlying31
  have HD := Lib.hid hd; have HL := Lib.hid hd.1; have HNB := Lib.hid hd.2.1
  have HK := Lib.hid (KeepR.start w)
  cases A with
  | none =>
    have h0 : n = 0 := by
      rcases hd.2.2 with h | ⟨b, off, h, _⟩
      · exact h
      · cases h
    have HE := Lib.hid (show hs = [] from List.eq_nil_of_length_eq_zero (by rw [hd.1, h0]))
    clear hd h0
    go_enter Try.func21, Try.ntmps21
    go_wp2
    go_ret
    exact ⟨_, rfl, by rw [HE.out]; exact Own.nil _ _, HK.out.bel⟩
  | some ad =>
    clear hd
    go_enter Try.func21, Try.ntmps21
    go_wp2_with (first
      | (with_reducible refine build_none HK.out rfl rfl ?_; intro v1 u hk; clear HK; have HK := Lib.hid hk; clear hk)
      | (refine app_hos HK.out rfl _ _ rfl rfl _ _ _ hs rfl (HD.out.below HK.out.keep.bel (Nat.le_refl _)) (by have := HNB.out; simp; omega) ?_; intro v2 u hk; clear HK; have HK := Lib.hid hk; clear hk))
    go_ret
    exact ⟨_, rfl, HK.out.own, HK.out.keep.bel⟩
theorem yield_neqh {ops : Array Oper} {S : World → Prop} {o : Oper} {a : Act} {p q : Ho} {b : Bool} (hb : (p.l == q.l) = b) (x y : Operand) (t : TypeId) (ho : o.op = .binOp .neq 59 x y t) (hx : a.eval x = .agg (vals p.l).toArray) (hy : a.eval y = .agg (vals q.l).toArray) (hw : Region.wanted o (yielded ops a.tmps) = true) :
    YieldsIf Try.prog ops S o (.bool !b) a :=
  .inl ⟨hw, fun w _ => by
    have hq := eql_ho p q
    rw [hb] at hq
    have hge := h_guard
    unfold execOp
    simp only [ho, hx, hy]
    simp [go_sem, hq, hge]⟩
end Go.Proofs.Ytofngihdnjgmeaa
