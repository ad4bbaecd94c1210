/- Contracts of lock.Join and of usufructlaw05.awake. -/
import Derived.Test.YtbaacdkjdkkifaaLkCmp
namespace Go.Proofs.Ytbaacdkjdkkifaa
open Go.ChangeShapes Go.WideShapes Go.ChangeAt Go.RowKit

theorem join_any (a b : Lk) (w : World) :
    Calls Try.prog 9 #[.agg (vals a.l).toArray, .agg (vals b.l).toArray] w fun e w' => e = .returned (.agg (vals (joinK a b).l).toArray) ∧ Below w.heap.size w w' := by
  have HK := Lib.hid (KeepR.start w)
  have hcp := compare_any b a
  by_cases h : 0 < cmpL b a
  · rw [show joinK a b = b from if_pos h]
    generalize cmpL b a = c at hcp h
    go_enter Try.func9, Try.ntmps9
    go_wp2_with (first
      | (with_reducible refine box_new (R := a.l) HK.out rfl _ rfl rfl ?_; intro ba u hk hb; clear hb; clear HK; have HK := Lib.hid hk; clear hk)
      | (with_reducible refine box_new (R := b.l) HK.out rfl _ rfl rfl ?_; intro bb u hk hb; clear hb; clear HK; have HK := Lib.hid hk; clear hk)
      | (with_reducible refine alloc_zero HK.out 4 lk_zero rfl rfl ?_; intro b u hn hk hb; clear hn; clear hb; clear HK; have HK := Lib.hid hk; clear hk)
      | (with_reducible refine load_all HK.out 2 4 Try.underlying23 rfl lk_info rfl _ rfl rfl rfl (Lk.len _) ?_)
      | (with_reducible refine load_all HK.out 1 4 Try.underlying23 rfl lk_info rfl _ rfl rfl rfl (Lk.len _) ?_)
      | (go_at_call 10; (with_reducible refine (hcp _).mono ?_); rintro e u ⟨rfl, hb⟩; have hk := HK.out.call hb; clear hb; clear HK; have HK := Lib.hid hk; clear hk)
      | (with_reducible refine store_all HK.out 0 4 lk_info rfl rfl _ _ rfl rfl rfl rfl (Lk.len _) (zer_length 4) ?_; intro u hk hs; clear hs; simp only [List.set_cons_zero] at hk; clear HK; have HK := Lib.hid hk; clear hk))
    exact bodyPost_ret (results_r rfl Try.underlying23 rfl lk_info _ HK.out 0 rfl rfl (Lk.len _)) rfl ⟨rfl, HK.out.bel⟩
  · rw [show joinK a b = a from if_neg h]
    generalize cmpL b a = c at hcp h
    go_enter Try.func9, Try.ntmps9
    go_wp2_with (first
      | (with_reducible refine box_new (R := a.l) HK.out rfl _ rfl rfl ?_; intro ba u hk hb; clear hb; clear HK; have HK := Lib.hid hk; clear hk)
      | (with_reducible refine box_new (R := b.l) HK.out rfl _ rfl rfl ?_; intro bb u hk hb; clear hb; clear HK; have HK := Lib.hid hk; clear hk)
      | (with_reducible refine alloc_zero HK.out 4 lk_zero rfl rfl ?_; intro b u hn hk hb; clear hn; clear hb; clear HK; have HK := Lib.hid hk; clear hk)
      | (with_reducible refine load_all HK.out 2 4 Try.underlying23 rfl lk_info rfl _ rfl rfl rfl (Lk.len _) ?_)
      | (with_reducible refine load_all HK.out 1 4 Try.underlying23 rfl lk_info rfl _ rfl rfl rfl (Lk.len _) ?_)
      | (go_at_call 10; (with_reducible refine (hcp _).mono ?_); rintro e u ⟨rfl, hb⟩; have hk := HK.out.call hb; clear hb; clear HK; have HK := Lib.hid hk; clear hk)
      | (with_reducible refine store_all HK.out 0 4 lk_info rfl rfl _ _ rfl rfl rfl rfl (Lk.len _) (zer_length 4) ?_; intro u hk hs; clear hs; simp only [List.set_cons_zero] at hk; clear HK; have HK := Lib.hid hk; clear hk))
    exact bodyPost_ret (results_r rfl Try.underlying23 rfl lk_info _ HK.out 0 rfl rfl (Lk.len _)) rfl ⟨rfl, HK.out.bel⟩
theorem build_three_want {ops : Array Oper} {rest : List Oper} {o : Oper} {a : Act} {u : World} {Q : Exit → Act → World → Prop} (x y z : Operand) (ho : o.op = .build 23 #[(0, x), (2, y), (3, z)]) {p q r : Int}
    (hx : a.eval x = .int .i64 p) (hy : a.eval y = .int .i64 q) (hz : a.eval z = .int .i64 r) (hw : Region.wanted o (yielded ops a.tmps) = true)
    (h : wpList Try.prog ops Q rest (a.put o.dst (.agg (vals (Lk.l ⟨p, 0, q, r⟩)).toArray)) u) : wpList Try.prog ops Q (o :: rest) a u :=
  BigFrame.wpList_want hw fun _ hK => wp_build_three x y z ho hx hy hz (hK _ _ h)
def aw0 : Lk := ⟨0, 0, 2, 7⟩
def aw1 : Lk := ⟨0, 1, 2, 9⟩
def aw2 : Lk := ⟨1, 0, 1, 9⟩
set_option maxRecDepth 100000 in
set_option maxHeartbeats 1000000 in
theorem awake5 (w : World) :
    Calls Try.prog 13 #[] w fun e w' => e = .returned (.bool true) ∧ Below w.heap.size w w' := by
  have HK := Lib.hid (KeepR.start w)
  have n1 := lnew_any 2 7
  rw [show newA 2 7 = aw0 from rfl, show newE 2 7 = 0 from rfl] at n1
  have n2 := write_any aw0 1 8
  rw [show wrA aw0 1 8 = z4 from rfl, show wrE aw0 1 8 = 9 from rfl] at n2
  have n3 := write_any aw0 2 9
  rw [show wrA aw0 2 9 = aw1 from rfl, show wrE aw0 2 9 = 0 from rfl] at n3
  have n4 := pass_any aw1 2 1
  rw [show psA aw1 2 1 = aw2 from rfl, show psE aw1 2 1 = 0 from rfl] at n4
  have q := eql_lk aw2 ⟨1, 0, 1, 9⟩
  rw [show (aw2.l == Lk.l ⟨1, 0, 1, 9⟩) = true from rfl] at q
  have hge := lk_guard
  have g1 : aw1.l.getD 3 0 = 9 := rfl
  have g2 : aw1.l.getD 1 0 = 1 := rfl
  go_enter Try.func13, Try.ntmps13
  go_wp2_with (first
    | (with_reducible refine alloc_zero HK.out 4 lk_zero rfl rfl ?_; intro b u hn hk hb; clear hn; clear hb; clear HK; have HK := Lib.hid hk; clear hk)
    | (go_at_call 14; (with_reducible refine (n1 _).mono ?_); rintro e u ⟨rfl, hb⟩; have hk := HK.out.call hb; clear hb; clear HK; have HK := Lib.hid hk; clear hk)
    | (go_at_call 15; (with_reducible refine (n2 _).mono ?_); rintro e u ⟨rfl, hb⟩; have hk := HK.out.call hb; clear hb; clear HK; have HK := Lib.hid hk; clear hk)
    | (go_at_call 15; (with_reducible refine (n3 _).mono ?_); rintro e u ⟨rfl, hb⟩; have hk := HK.out.call hb; clear hb; clear HK; have HK := Lib.hid hk; clear hk)
    | (go_at_call 16; (with_reducible refine (n4 _).mono ?_); rintro e u ⟨rfl, hb⟩; have hk := HK.out.call hb; clear hb; clear HK; have HK := Lib.hid hk; clear hk)
    | (with_reducible refine store_all HK.out 0 4 lk_info rfl rfl _ _ rfl rfl rfl rfl (Lk.len _) (zer_length 4) ?_; intro u hk hs; clear hs; simp only [List.set_cons_zero] at hk; clear HK; have HK := Lib.hid hk; clear hk)
    | (with_reducible refine load_all HK.out 0 4 Try.underlying23 rfl lk_info rfl _ rfl rfl rfl (Lk.len _) ?_)
    | (with_reducible refine load_all HK.out 1 4 Try.underlying23 rfl lk_info rfl _ rfl rfl rfl (Lk.len _) ?_)
    | (refine load_all_want HK.out 0 4 Try.underlying23 rfl lk_info _ rfl rfl rfl rfl (Lk.len _) ?_)
    | (with_reducible refine load_val_want HK.out 1 _ rfl rfl rfl rfl g1 (Lk.p3 _) ?_)
    | (with_reducible refine load_val_want HK.out 1 _ rfl rfl rfl rfl g2 (Lk.p1 _) ?_)
    | (with_reducible refine build_three_want _ _ _ rfl rfl rfl rfl rfl ?_))
  go_ret
  exact ⟨rfl, HK.out.bel⟩
end Go.Proofs.Ytbaacdkjdkkifaa
