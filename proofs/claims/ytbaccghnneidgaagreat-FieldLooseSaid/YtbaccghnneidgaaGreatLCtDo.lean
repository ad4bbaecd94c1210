/- Contracts of counter.told, of its changes (use, give, move), of counter.both, Inc, Dec, Hand, Join and Room. -/
import Derived.Test.YtbaccghnneidgaaGreatLRtc
namespace Go.Proofs.YtbaccghnneidgaaGreat
set_option maxRecDepth 100000
open Go.ChangeShapes Go.WideShapes Go.ChangeAt Go.RowKit

/-- With an error the zero one. -/
def toldC (C : List Int) (e : Int) : List Int := if e = 0 then C else zer 579
theorem told_c (C : List Int) (hC : C.length = 579) (x : Int) (w : World) :
    Calls Tryz.prog 103 #[.agg (vals C).toArray, .int .i64 x] w fun e w' => e = .returned (.tuple #[.agg (vals (toldC C x)).toArray, .int .i64 x]) ∧ Below w.heap.size w w' := by
  have HC := Lib.hid hC; clear hC
  have HK := Lib.hid (KeepR.start w)
  by_cases h : x = 0
  · subst h
    rw [show toldC C 0 = C by simp [toldC]]
    go_enter Tryz.func103, Tryz.ntmps103
    go_wp2_with (first
      | (with_reducible refine box_new HK.out rfl _ rfl rfl ?_; intro b u hk hb; clear hb; clear HK; have HK := Lib.hid hk; clear hk)
      | (with_reducible refine alloc_zero HK.out 579 c_zero rfl rfl ?_; intro b u hn hk hb; clear hn; clear hb; clear HK; have HK := Lib.hid hk; clear hk)
      | (with_reducible refine build_zero 579 c_build rfl rfl ?_)
      | (with_reducible refine load_all HK.out 1 579 Tryz.underlying28 rfl c_info rfl _ rfl rfl rfl HC.out ?_)
      | (with_reducible refine store_all HK.out 0 579 c_info rfl rfl _ _ rfl rfl rfl rfl HC.out (zer_length 579) ?_; intro u hk hs; clear hs; simp only [List.set_cons_zero] at hk; clear HK; have HK := Lib.hid hk; clear hk)
      | (with_reducible refine store_all HK.out 0 579 c_info rfl rfl _ _ rfl rfl rfl rfl (zer_length 579) (zer_length 579) ?_; intro u hk hs; clear hs; simp only [List.set_cons_zero, List.set_cons_succ] at hk; clear HK; have HK := Lib.hid hk; clear hk))
    exact bodyPost_ret (results_2 rfl Tryz.underlying28 rfl c_info _ HK.out 0 _ rfl rfl rfl HC.out) rfl ⟨rfl, HK.out.bel⟩
  · rw [show toldC C x = zer 579 by simp [toldC, h]]
    go_enter Tryz.func103, Tryz.ntmps103
    go_wp2_with (first
      | (with_reducible refine box_new HK.out rfl _ rfl rfl ?_; intro b u hk hb; clear hb; clear HK; have HK := Lib.hid hk; clear hk)
      | (with_reducible refine alloc_zero HK.out 579 c_zero rfl rfl ?_; intro b u hn hk hb; clear hn; clear hb; clear HK; have HK := Lib.hid hk; clear hk)
      | (with_reducible refine build_zero 579 c_build rfl rfl ?_)
      | (with_reducible refine load_all HK.out 1 579 Tryz.underlying28 rfl c_info rfl _ rfl rfl rfl HC.out ?_)
      | (with_reducible refine store_all HK.out 0 579 c_info rfl rfl _ _ rfl rfl rfl rfl HC.out (zer_length 579) ?_; intro u hk hs; clear hs; simp only [List.set_cons_zero, List.set_cons_succ] at hk; clear HK; have HK := Lib.hid hk; clear hk)
      | (with_reducible refine store_all HK.out 0 579 c_info rfl rfl _ _ rfl rfl rfl rfl (zer_length 579) (zer_length 579) ?_; intro u hk hs; clear hs; simp only [List.set_cons_zero] at hk; clear HK; have HK := Lib.hid hk; clear hk))
    exact bodyPost_ret (results_2 rfl Tryz.underlying28 rfl c_info _ HK.out 0 _ rfl rfl rfl (zer_length 579)) rfl ⟨rfl, HK.out.bel⟩
theorem use1_any (R : List Int) (hR : R.length = 288) (k n : Int) (c0 c1 : Nat) (w : World) (h0 : w.cell? ⟨c0, 0, none⟩ = some (.int .i64 k)) (h1 : w.cell? ⟨c1, 0, none⟩ = some (.int .i64 n)) :
    Calls Tryz.prog 133 #[.agg (vals R).toArray, .pointer (some ⟨c0, 0, none⟩), .pointer (some ⟨c1, 0, none⟩)] w fun e w' => e = .returned (.tuple #[.agg (vals (useA R k n)).toArray, .int .i64 (useE R k n)]) ∧ Below w.heap.size w w' := by
  have HR := Lib.hid hR; clear hR
  have HK := Lib.hid (KeepR.start w)
  have H0 := Lib.hid h0; clear h0
  have H1 := Lib.hid h1; clear h1
  have hcl := use_any R HR.out k n
  have HA := Lib.hid (show (useA R k n).length = 288 from useA_length HR.out _ _)
  generalize useA R k n = G at hcl HA ⊢
  generalize useE R k n = ee at hcl ⊢
  go_enter Tryz.func133, Tryz.ntmps133
  go_wp2_with (first
    | (with_reducible refine box_new HK.out rfl _ rfl rfl ?_; intro b u hk hb; clear hb; clear HK; have HK := Lib.hid hk; clear hk)
    | (with_reducible refine alloc_zero HK.out 288 r_zero rfl rfl ?_; intro b u hn hk hb; clear hn; clear hb; clear HK; have HK := Lib.hid hk; clear hk)
    | (with_reducible refine load_all HK.out 1 288 Tryz.underlying26 rfl r_info rfl _ rfl rfl rfl HR.out ?_)
    | (with_reducible refine load_old HK.out H0.out rfl _ rfl rfl ?_)
    | (with_reducible refine load_old HK.out H1.out rfl _ rfl rfl ?_)
    | (go_at_call 134; (with_reducible refine (hcl _).mono ?_); rintro e u ⟨rfl, hb⟩; have hk := HK.out.call hb; clear hb; clear HK; have HK := Lib.hid hk; clear hk)
    | (with_reducible refine store_all HK.out 0 288 r_info rfl rfl _ _ rfl rfl rfl rfl HA.out (zer_length 288) ?_; intro u hk hs; clear hs; simp only [List.set_cons_zero] at hk; clear HK; have HK := Lib.hid hk; clear hk))
  exact bodyPost_ret (results_2 rfl Tryz.underlying26 rfl r_info _ HK.out 0 _ rfl rfl rfl HA.out) rfl ⟨rfl, HK.out.bel⟩
theorem use_mk (k n : Int) (w : World) :
    Calls Tryz.prog 101 #[.int .i64 k, .int .i64 n] w fun e w' => ∃ c0 c1, e = .returned (.func (Fn.func 133) #[] #[.pointer (some ⟨c0, 0, none⟩), .pointer (some ⟨c1, 0, none⟩)]) ∧ KeepR w [(c1, 3, [n]), (c0, 3, [k])] w' := by
  have hmf : ∀ (fn : Fn) (first cap : Array Value) (w : World), (Instr.makeFunc fn first cap).run Tryz.prog w = .ok (.func fn first cap) w := fun _ _ _ _ => rfl
  have HK := Lib.hid (KeepR.start w)
  go_enter Tryz.func101, Tryz.ntmps101
  go_wp2_with (first
    | (with_reducible refine box_int HK.out rfl _ rfl rfl ?_; intro b u hk; clear HK; have HK := Lib.hid hk; clear hk))
  go_ret
  exact ⟨_, _, rfl, HK.out⟩
theorem giv1_any (R : List Int) (hR : R.length = 288) (k n : Int) (c0 c1 : Nat) (w : World) (h0 : w.cell? ⟨c0, 0, none⟩ = some (.int .i64 k)) (h1 : w.cell? ⟨c1, 0, none⟩ = some (.int .i64 n)) :
    Calls Tryz.prog 135 #[.agg (vals R).toArray, .pointer (some ⟨c0, 0, none⟩), .pointer (some ⟨c1, 0, none⟩)] w fun e w' => e = .returned (.tuple #[.agg (vals (grA R 0 k n)).toArray, .int .i64 (grE R 0 k n)]) ∧ Below w.heap.size w w' := by
  have HR := Lib.hid hR; clear hR
  have HK := Lib.hid (KeepR.start w)
  have H0 := Lib.hid h0; clear h0
  have H1 := Lib.hid h1; clear h1
  have hcl := give_any R HR.out k n
  have HA := Lib.hid (show (grA R 0 k n).length = 288 from grA_length HR.out _ _ _)
  generalize grA R 0 k n = G at hcl HA ⊢
  generalize grE R 0 k n = ee at hcl ⊢
  go_enter Tryz.func135, Tryz.ntmps135
  go_wp2_with (first
    | (with_reducible refine box_new HK.out rfl _ rfl rfl ?_; intro b u hk hb; clear hb; clear HK; have HK := Lib.hid hk; clear hk)
    | (with_reducible refine alloc_zero HK.out 288 r_zero rfl rfl ?_; intro b u hn hk hb; clear hn; clear hb; clear HK; have HK := Lib.hid hk; clear hk)
    | (with_reducible refine load_all HK.out 1 288 Tryz.underlying26 rfl r_info rfl _ rfl rfl rfl HR.out ?_)
    | (with_reducible refine load_old HK.out H0.out rfl _ rfl rfl ?_)
    | (with_reducible refine load_old HK.out H1.out rfl _ rfl rfl ?_)
    | (go_at_call 136; (with_reducible refine (hcl _).mono ?_); rintro e u ⟨rfl, hb⟩; have hk := HK.out.call hb; clear hb; clear HK; have HK := Lib.hid hk; clear hk)
    | (with_reducible refine store_all HK.out 0 288 r_info rfl rfl _ _ rfl rfl rfl rfl HA.out (zer_length 288) ?_; intro u hk hs; clear hs; simp only [List.set_cons_zero] at hk; clear HK; have HK := Lib.hid hk; clear hk))
  exact bodyPost_ret (results_2 rfl Tryz.underlying26 rfl r_info _ HK.out 0 _ rfl rfl rfl HA.out) rfl ⟨rfl, HK.out.bel⟩
theorem giv_mk (k n : Int) (w : World) :
    Calls Tryz.prog 102 #[.int .i64 k, .int .i64 n] w fun e w' => ∃ c0 c1, e = .returned (.func (Fn.func 135) #[] #[.pointer (some ⟨c0, 0, none⟩), .pointer (some ⟨c1, 0, none⟩)]) ∧ KeepR w [(c1, 3, [n]), (c0, 3, [k])] w' := by
  have hmf : ∀ (fn : Fn) (first cap : Array Value) (w : World), (Instr.makeFunc fn first cap).run Tryz.prog w = .ok (.func fn first cap) w := fun _ _ _ _ => rfl
  have HK := Lib.hid (KeepR.start w)
  go_enter Tryz.func102, Tryz.ntmps102
  go_wp2_with (first
    | (with_reducible refine box_int HK.out rfl _ rfl rfl ?_; intro b u hk; clear HK; have HK := Lib.hid hk; clear hk))
  go_ret
  exact ⟨_, _, rfl, HK.out⟩
theorem mov1_any (R : List Int) (hR : R.length = 288) (i k n : Int) (c0 c1 c2 : Nat) (w : World) (h0 : w.cell? ⟨c0, 0, none⟩ = some (.int .i64 i)) (h1 : w.cell? ⟨c1, 0, none⟩ = some (.int .i64 k)) (h2 : w.cell? ⟨c2, 0, none⟩ = some (.int .i64 n)) :
    Calls Tryz.prog 138 #[.agg (vals R).toArray, .pointer (some ⟨c0, 0, none⟩), .pointer (some ⟨c1, 0, none⟩), .pointer (some ⟨c2, 0, none⟩)] w fun e w' => e = .returned (.tuple #[.agg (vals (moveA R i k n)).toArray, .int .i64 (moveE R i k n)]) ∧ Below w.heap.size w w' := by
  have HR := Lib.hid hR; clear hR
  have HK := Lib.hid (KeepR.start w)
  have H0 := Lib.hid h0; clear h0
  have H1 := Lib.hid h1; clear h1
  have H2 := Lib.hid h2; clear h2
  have hcl := move_any R HR.out i k n
  have HA := Lib.hid (show (moveA R i k n).length = 288 from moveA_length HR.out _ _ _)
  generalize moveA R i k n = G at hcl HA ⊢
  generalize moveE R i k n = ee at hcl ⊢
  go_enter Tryz.func138, Tryz.ntmps138
  go_wp2_with (first
    | (with_reducible refine box_new HK.out rfl _ rfl rfl ?_; intro b u hk hb; clear hb; clear HK; have HK := Lib.hid hk; clear hk)
    | (with_reducible refine alloc_zero HK.out 288 r_zero rfl rfl ?_; intro b u hn hk hb; clear hn; clear hb; clear HK; have HK := Lib.hid hk; clear hk)
    | (with_reducible refine load_all HK.out 1 288 Tryz.underlying26 rfl r_info rfl _ rfl rfl rfl HR.out ?_)
    | (with_reducible refine load_old HK.out H0.out rfl _ rfl rfl ?_)
    | (with_reducible refine load_old HK.out H1.out rfl _ rfl rfl ?_)
    | (with_reducible refine load_old HK.out H2.out rfl _ rfl rfl ?_)
    | (go_at_call 139; (with_reducible refine (hcl _).mono ?_); rintro e u ⟨rfl, hb⟩; have hk := HK.out.call hb; clear hb; clear HK; have HK := Lib.hid hk; clear hk)
    | (with_reducible refine store_all HK.out 0 288 r_info rfl rfl _ _ rfl rfl rfl rfl HA.out (zer_length 288) ?_; intro u hk hs; clear hs; simp only [List.set_cons_zero] at hk; clear HK; have HK := Lib.hid hk; clear hk))
  exact bodyPost_ret (results_2 rfl Tryz.underlying26 rfl r_info _ HK.out 0 _ rfl rfl rfl HA.out) rfl ⟨rfl, HK.out.bel⟩
theorem mov_mk (i k n : Int) (w : World) :
    Calls Tryz.prog 106 #[.int .i64 i, .int .i64 k, .int .i64 n] w fun e w' => ∃ c0 c1 c2, e = .returned (.func (Fn.func 138) #[] #[.pointer (some ⟨c0, 0, none⟩), .pointer (some ⟨c1, 0, none⟩), .pointer (some ⟨c2, 0, none⟩)]) ∧ KeepR w [(c2, 3, [n]), (c1, 3, [k]), (c0, 3, [i])] w' := by
  have hmf : ∀ (fn : Fn) (first cap : Array Value) (w : World), (Instr.makeFunc fn first cap).run Tryz.prog w = .ok (.func fn first cap) w := fun _ _ _ _ => rfl
  have HK := Lib.hid (KeepR.start w)
  go_enter Tryz.func106, Tryz.ntmps106
  go_wp2_with (first
    | (with_reducible refine box_int HK.out rfl _ rfl rfl ?_; intro b u hk; clear HK; have HK := Lib.hid hk; clear hk))
  go_ret
  exact ⟨_, _, _, rfl, HK.out⟩
end Go.Proofs.YtbaccghnneidgaaGreat
