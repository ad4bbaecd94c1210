/- Whether any holds may be, what a replica holds, and where one is, are the document's. No condition. -/
import Derived.Test.YtaniacohimdpiaaHoLaw
import Derived.WalkKit
import Derived.ProofKit
import Derived.OpenShut
import Derived.ChangeOld
import Derived.Below
namespace Go.Proofs.Ytaniacohimdpiaa.holdTells
open Go.ChangeShapes Go.WideShapes Go.ChangeAt Go.RowKit
set_option linter.unusedVariables false

theorem own : ownKnob Try.prog.godebug = none := by kernel_rfl
theorem laidOut : laidOutB Try.prog = true := by kernel_rfl

theorem yield_neqb {ops : Array Oper} {S : World → Prop} {o : Oper} {a : Act} {p : Bool} (x y : Operand) (t : TypeId) (ho : o.op = .binOp .neq 4 x y t) (hx : a.eval x = .bool p) (hy : a.eval y = .bool p) (hw : Region.wanted o (yielded ops a.tmps) = true) :
    YieldsIf Try.prog ops S o (.bool false) a :=
  .inl ⟨hw, fun w _ => by
    unfold execOp
    simp only [ho, hx, hy]
    cases p <;> simp [go_sem]⟩
theorem fnd_skip {l : List Ho} {k n : Int} {m : Nat} {y : Ho} (hm : m < l.length) (h : fnd (l.take m) k n = some y) : fnd (l.take (m + 1)) k n = some y := by rw [fnd_step hm, h]; rfl
theorem fnd_no {l : List Ho} {k n : Int} {m : Nat} {x : Ho} (hm : m < l.length) (hx : l.getD m z5 = x) (h : fnd (l.take m) k n = none) (hn : nm k n x = false) : fnd (l.take (m + 1)) k n = none := by rw [fnd_step hm, h, hx, hn]; rfl
theorem fnd_yes {l : List Ho} {k n : Int} {m : Nat} {x : Ho} (hm : m < l.length) (hx : l.getD m z5 = x) (h : fnd (l.take m) k n = none) (hn : nm k n x = true) : fnd (l.take (m + 1)) k n = some x := by rw [fnd_step hm, h, hx, hn]; rfl
theorem rsum_eq (A : Option Addr) (n c : Nat) (hs : List Ho) (k z : Int) (w : World) (hd : Row w A n hs) (hrt : rightsL hs = true) (hz : sumL hs k = z) :
    Calls Try.prog 18 #[.slice A n c, .int .i64 k] w fun e w' => e = .returned (.int .i64 z) ∧ Below w.heap.size w w' := by subst hz; exact rsum_any A n c hs k w hd hrt

set_option maxRecDepth 100000 in
set_option maxHeartbeats 4000000 in
theorem walk (w : World) (A0 : Option Addr) (n0 c0 : Nat) (x0 : List Ho) (hd0 : Came w A0 n0 x0) (a1 : Int) (w1 : (Lit.int .i64 a1).wf = true) (a2 : Int) (w2 : (Lit.int .i64 a2).wf = true) :
    Calls Try.prog 3 #[.slice A0 n0 c0, .int .i64 a1, .int .i64 a2] w fun e w' => e = .returned (.bool true) ∧ Below w.heap.size w w' := by
  by_cases h40 : n0 ≤ 40
  · have hrow := hd0.row (by omega)
    have HFEW := Lib.hid (few1 (A := A0) (c := c0) h40)
    have HD := Lib.hid hrow
    have HL := Lib.hid hrow.1
    have HK := Lib.hid (LawS.start (w := w) (rows := []) (by simp))
    clear hd0 hrow
    go_enter Try.func3, Try.ntmps3
    go_wp2_with (first
      | (with_reducible refine many_one HK.out rfl _ rfl rfl ?_; intro bq u hk hm; have HM := Lib.hid hm; clear hm; clear HK; have HK := Lib.hid hk; clear hk)
      | (go_at_call 10; (with_reducible refine (few_one _ _ _ _ _ HFEW.out _ HM.out).mono ?_); rintro e u ⟨rfl, rfl⟩; have hk := HK.out.keep; clear HK; have HK := Lib.hid hk; clear hk)
      | (with_reducible refine alloc_zero HK.out 5 h_zero rfl rfl ?_; intro bw u hn0 hk hb; clear hn0 hb; clear HK; have HK := Lib.hid hk; clear hk))
    go_loopw [8, 20] (fun t i wr => ∃ m : Nat, m ≤ n0 ∧ i = .int .i64 m ∧ ∃ q : Option Ho, fnd (x0.take m) a1 a2 = q ∧ t = .bool q.isSome ∧ KeepR w [(bw, 26, (q.getD z5).l)] wr) (fun _ i _ => n0 - (intOf i).toNat)
    case atStart => exact ⟨0, by omega, rfl, none, rfl, rfl, HK.out⟩
    case round =>
      obtain ⟨m, hm, rfl, q, hq, rfl, hk⟩ := hrel
      clear HK
      by_cases hlt : m < n0
      · have hml : m < x0.length := by have := HL.out; omega
        obtain ⟨b, off, rfl, hr⟩ := HD.out.at hlt
        have hrm := hr m hlt
        clear hr
        obtain ⟨h, hh⟩ : ∃ h, x0.getD m z5 = h := ⟨_, rfl⟩
        rw [hh] at hrm
        have HH := Lib.hid hh
        have HR := Lib.hid hrm; have HC := Lib.hid (range_lt hrm)
        clear hrm hh
        have i1 : (0 : Int) ≤ (m : Int) := by omega
        have i2 : (m : Int) < (n0 : Int) := by omega
        clear HFEW
        obtain ⟨r, hrr⟩ : ∃ r, rightH h = r := ⟨_, rfl⟩
        have HRH := Lib.hid hrr; clear hrr
        cases q with
        | some wh =>
          have HO2 := Lib.hid (fnd_skip hml hq)
          simp only [Option.getD_some, Option.isSome_some] at hk ⊢
          have HK := Lib.hid hk; clear hk hq
          go_wp2_with (first
            | (with_reducible refine load_hold (range_below HR.out HK.out.bel HC.out) _ rfl rfl rfl ?_)
            | (with_reducible refine alloc_zero HK.out 5 h_zero rfl rfl ?_; intro bh u hn0 hk hb; clear hn0 hb; clear HK; have HK := Lib.hid hk; clear hk)
            | (with_reducible refine store_all HK.out 0 5 h_info rfl rfl _ _ rfl rfl rfl rfl (Ho.len _) (zer_length 5) ?_; intro u hk hs; clear hs; simp only [List.set_cons_zero] at hk; clear HK; have HK := Lib.hid hk; clear hk))
          refine Draws.start (S := fun u => KeepR w [(bh, 26, h.l), (bw, 26, wh.l)] u) (n := 5) 5 rfl (by kernel_rfl) ?_
          have HS := Lib.hid (show (fun u => KeepR w [(bh, 26, h.l), (bw, 26, wh.l)] u) _ from HK.out.drew)
          refine Draws.take 0 HS.out rfl (by kernel_rfl) (fun _ _ _ h => h) (yield_all (fun _ hu => hu) 0 5 Try.underlying26 rfl h_info rfl _ rfl rfl rfl (Ho.len _)) ?_
          (try simp only [Act.put, List.setIfInBounds_toArray, List.set_cons_zero, List.set_cons_succ])
          refine Draws.take 2 HS.out rfl (by kernel_rfl) (fun _ _ _ h => h) (yield_all (fun _ hu => hu) 0 5 Try.underlying26 rfl h_info rfl _ rfl rfl rfl (Ho.len _)) ?_
          (try simp only [Act.put, List.setIfInBounds_toArray, List.set_cons_zero, List.set_cons_succ])
          refine Draws.does 1 rfl (by kernel_rfl) rfl (fun K hK => ?_)
          go_simp
          go_at_call 12
          refine (hrt_any _ _ HRH.out _).mono ?_
          rintro e u ⟨rfl, hb⟩
          (try dsimp only)
          refine hK.out _ _ (fun _ => HS.out.call hb) ?_
          clear hK K
          have hs : (fun u => KeepR w [(bh, 26, h.l), (bw, 26, wh.l)] u) u := HS.out.call hb
          clear HS
          have HS := Lib.hid hs; clear hs
          (try simp only [Act.put, List.setIfInBounds_toArray, List.set_cons_zero, List.set_cons_succ])
          clear hb
          refine Draws.does 3 rfl (by kernel_rfl) rfl (fun K hK => ?_)
          go_simp
          go_at_call 13
          refine (rrt_any _ _ HRH.out _).mono ?_
          rintro e u ⟨rfl, hb⟩
          (try dsimp only)
          refine hK.out _ _ (fun _ => HS.out.call hb) ?_
          clear hK K
          have hs : (fun u => KeepR w [(bh, 26, h.l), (bw, 26, wh.l)] u) u := HS.out.call hb
          clear HS
          have HS := Lib.hid hs; clear hs
          (try simp only [Act.put, List.setIfInBounds_toArray, List.set_cons_zero, List.set_cons_succ])
          clear hb
          refine Draws.take 4 HS.out rfl (by kernel_rfl) (fun _ _ _ h => h) (yield_neqb _ _ _ rfl rfl rfl rfl) ?_
          (try simp only [Act.put, List.setIfInBounds_toArray, List.set_cons_zero, List.set_cons_succ])
          refine Draws.done (by kernel_rfl) ?_
          clear HK
          have HK := HS
          clear HS
          go_wp2_with (first
            | (with_reducible refine load_val HK.out 0 rfl _ rfl rfl rfl (Ho.g0 _) (Ho.p0 _) ?_)
            | (with_reducible refine load_val HK.out 0 rfl _ rfl rfl rfl (Ho.g1 _) (Ho.p1 _) ?_)
            | (with_reducible refine load_val HK.out 0 rfl _ rfl rfl rfl (Ho.g2 _) (Ho.p2 _) ?_)
            | (with_reducible refine load_val HK.out 0 rfl _ rfl rfl rfl (Ho.g3 _) (Ho.p3 _) ?_)
            | (with_reducible refine load_val HK.out 0 rfl _ rfl rfl rfl (Ho.g4 _) (Ho.p4 _) ?_)
            | (with_reducible refine load_val_want HK.out 0 _ rfl rfl rfl rfl (Ho.g0 _) (Ho.p0 _) ?_)
            | (with_reducible refine load_val_want HK.out 0 _ rfl rfl rfl rfl (Ho.g1 _) (Ho.p1 _) ?_)
            | (with_reducible refine load_val_want HK.out 0 _ rfl rfl rfl rfl (Ho.g2 _) (Ho.p2 _) ?_)
            | (with_reducible refine load_val_want HK.out 0 _ rfl rfl rfl rfl (Ho.g3 _) (Ho.p3 _) ?_)
            | (with_reducible refine load_val_want HK.out 0 _ rfl rfl rfl rfl (Ho.g4 _) (Ho.p4 _) ?_))
          go_roundw
          case rel => exact ⟨m + 1, by omega, by go_num, _, HO2.out, rfl, HK.out.tail⟩
          case measure => simp [intOf]; omega
        | none =>
          simp only [Option.getD_none, Option.isSome_none] at hk ⊢
          obtain ⟨wh, hwh⟩ : ∃ wh, z5 = wh := ⟨_, rfl⟩
          rw [hwh] at hk
          have HK := Lib.hid hk; clear hk
          cases h1 : (h.r == a1) with
          | false =>
            have HO2 := Lib.hid (fnd_no hml HH.out hq (by simp only [nm, h1, Bool.false_and]))
            have HW := Lib.hid hwh
            clear hq hwh
            go_wp2_with (first
              | (with_reducible refine load_hold (range_below HR.out HK.out.bel HC.out) _ rfl rfl rfl ?_)
              | (with_reducible refine alloc_zero HK.out 5 h_zero rfl rfl ?_; intro bh u hn0 hk hb; clear hn0 hb; clear HK; have HK := Lib.hid hk; clear hk)
              | (with_reducible refine store_all HK.out 0 5 h_info rfl rfl _ _ rfl rfl rfl rfl (Ho.len _) (zer_length 5) ?_; intro u hk hs; clear hs; simp only [List.set_cons_zero] at hk; clear HK; have HK := Lib.hid hk; clear hk))
            refine Draws.start (S := fun u => KeepR w [(bh, 26, h.l), (bw, 26, wh.l)] u) (n := 5) 5 rfl (by kernel_rfl) ?_
            have HS := Lib.hid (show (fun u => KeepR w [(bh, 26, h.l), (bw, 26, wh.l)] u) _ from HK.out.drew)
            refine Draws.take 0 HS.out rfl (by kernel_rfl) (fun _ _ _ h => h) (yield_all (fun _ hu => hu) 0 5 Try.underlying26 rfl h_info rfl _ rfl rfl rfl (Ho.len _)) ?_
            (try simp only [Act.put, List.setIfInBounds_toArray, List.set_cons_zero, List.set_cons_succ])
            refine Draws.take 2 HS.out rfl (by kernel_rfl) (fun _ _ _ h => h) (yield_all (fun _ hu => hu) 0 5 Try.underlying26 rfl h_info rfl _ rfl rfl rfl (Ho.len _)) ?_
            (try simp only [Act.put, List.setIfInBounds_toArray, List.set_cons_zero, List.set_cons_succ])
            refine Draws.does 1 rfl (by kernel_rfl) rfl (fun K hK => ?_)
            go_simp
            go_at_call 12
            refine (hrt_any _ _ HRH.out _).mono ?_
            rintro e u ⟨rfl, hb⟩
            (try dsimp only)
            refine hK.out _ _ (fun _ => HS.out.call hb) ?_
            clear hK K
            have hs : (fun u => KeepR w [(bh, 26, h.l), (bw, 26, wh.l)] u) u := HS.out.call hb
            clear HS
            have HS := Lib.hid hs; clear hs
            (try simp only [Act.put, List.setIfInBounds_toArray, List.set_cons_zero, List.set_cons_succ])
            clear hb
            refine Draws.does 3 rfl (by kernel_rfl) rfl (fun K hK => ?_)
            go_simp
            go_at_call 13
            refine (rrt_any _ _ HRH.out _).mono ?_
            rintro e u ⟨rfl, hb⟩
            (try dsimp only)
            refine hK.out _ _ (fun _ => HS.out.call hb) ?_
            clear hK K
            have hs : (fun u => KeepR w [(bh, 26, h.l), (bw, 26, wh.l)] u) u := HS.out.call hb
            clear HS
            have HS := Lib.hid hs; clear hs
            (try simp only [Act.put, List.setIfInBounds_toArray, List.set_cons_zero, List.set_cons_succ])
            clear hb
            refine Draws.take 4 HS.out rfl (by kernel_rfl) (fun _ _ _ h => h) (yield_neqb _ _ _ rfl rfl rfl rfl) ?_
            (try simp only [Act.put, List.setIfInBounds_toArray, List.set_cons_zero, List.set_cons_succ])
            refine Draws.done (by kernel_rfl) ?_
            clear HK
            have HK := HS
            clear HS
            go_wp2_with (first
              | (with_reducible refine load_val HK.out 0 rfl _ rfl rfl rfl (Ho.g0 _) (Ho.p0 _) ?_)
              | (with_reducible refine load_val HK.out 0 rfl _ rfl rfl rfl (Ho.g1 _) (Ho.p1 _) ?_)
              | (with_reducible refine load_val HK.out 0 rfl _ rfl rfl rfl (Ho.g2 _) (Ho.p2 _) ?_)
              | (with_reducible refine load_val HK.out 0 rfl _ rfl rfl rfl (Ho.g3 _) (Ho.p3 _) ?_)
              | (with_reducible refine load_val HK.out 0 rfl _ rfl rfl rfl (Ho.g4 _) (Ho.p4 _) ?_)
              | (with_reducible refine load_val_want HK.out 0 _ rfl rfl rfl rfl (Ho.g0 _) (Ho.p0 _) ?_)
              | (with_reducible refine load_val_want HK.out 0 _ rfl rfl rfl rfl (Ho.g1 _) (Ho.p1 _) ?_)
              | (with_reducible refine load_val_want HK.out 0 _ rfl rfl rfl rfl (Ho.g2 _) (Ho.p2 _) ?_)
              | (with_reducible refine load_val_want HK.out 0 _ rfl rfl rfl rfl (Ho.g3 _) (Ho.p3 _) ?_)
              | (with_reducible refine load_val_want HK.out 0 _ rfl rfl rfl rfl (Ho.g4 _) (Ho.p4 _) ?_)
              | (with_reducible refine eql_want h1 _ _ _ rfl rfl rfl rfl ?_))
            go_roundw
            case rel => exact ⟨m + 1, by omega, by go_num, _, HO2.out, rfl, by have := HK.out.tail; rw [← HW.out] at this; exact this⟩
            case measure => simp [intOf]; omega
          | true =>
            cases h2 : (h.n == a2) with
            | false =>
              have HO2 := Lib.hid (fnd_no hml HH.out hq (by simp only [nm, h1, h2, Bool.true_and]))
              have HW := Lib.hid hwh
              clear hq hwh
              go_wp2_with (first
                | (with_reducible refine load_hold (range_below HR.out HK.out.bel HC.out) _ rfl rfl rfl ?_)
                | (with_reducible refine alloc_zero HK.out 5 h_zero rfl rfl ?_; intro bh u hn0 hk hb; clear hn0 hb; clear HK; have HK := Lib.hid hk; clear hk)
                | (with_reducible refine store_all HK.out 0 5 h_info rfl rfl _ _ rfl rfl rfl rfl (Ho.len _) (zer_length 5) ?_; intro u hk hs; clear hs; simp only [List.set_cons_zero] at hk; clear HK; have HK := Lib.hid hk; clear hk))
              refine Draws.start (S := fun u => KeepR w [(bh, 26, h.l), (bw, 26, wh.l)] u) (n := 5) 5 rfl (by kernel_rfl) ?_
              have HS := Lib.hid (show (fun u => KeepR w [(bh, 26, h.l), (bw, 26, wh.l)] u) _ from HK.out.drew)
              refine Draws.take 0 HS.out rfl (by kernel_rfl) (fun _ _ _ h => h) (yield_all (fun _ hu => hu) 0 5 Try.underlying26 rfl h_info rfl _ rfl rfl rfl (Ho.len _)) ?_
              (try simp only [Act.put, List.setIfInBounds_toArray, List.set_cons_zero, List.set_cons_succ])
              refine Draws.take 2 HS.out rfl (by kernel_rfl) (fun _ _ _ h => h) (yield_all (fun _ hu => hu) 0 5 Try.underlying26 rfl h_info rfl _ rfl rfl rfl (Ho.len _)) ?_
              (try simp only [Act.put, List.setIfInBounds_toArray, List.set_cons_zero, List.set_cons_succ])
              refine Draws.does 1 rfl (by kernel_rfl) rfl (fun K hK => ?_)
              go_simp
              go_at_call 12
              refine (hrt_any _ _ HRH.out _).mono ?_
              rintro e u ⟨rfl, hb⟩
              (try dsimp only)
              refine hK.out _ _ (fun _ => HS.out.call hb) ?_
              clear hK K
              have hs : (fun u => KeepR w [(bh, 26, h.l), (bw, 26, wh.l)] u) u := HS.out.call hb
              clear HS
              have HS := Lib.hid hs; clear hs
              (try simp only [Act.put, List.setIfInBounds_toArray, List.set_cons_zero, List.set_cons_succ])
              clear hb
              refine Draws.does 3 rfl (by kernel_rfl) rfl (fun K hK => ?_)
              go_simp
              go_at_call 13
              refine (rrt_any _ _ HRH.out _).mono ?_
              rintro e u ⟨rfl, hb⟩
              (try dsimp only)
              refine hK.out _ _ (fun _ => HS.out.call hb) ?_
              clear hK K
              have hs : (fun u => KeepR w [(bh, 26, h.l), (bw, 26, wh.l)] u) u := HS.out.call hb
              clear HS
              have HS := Lib.hid hs; clear hs
              (try simp only [Act.put, List.setIfInBounds_toArray, List.set_cons_zero, List.set_cons_succ])
              clear hb
              refine Draws.take 4 HS.out rfl (by kernel_rfl) (fun _ _ _ h => h) (yield_neqb _ _ _ rfl rfl rfl rfl) ?_
              (try simp only [Act.put, List.setIfInBounds_toArray, List.set_cons_zero, List.set_cons_succ])
              refine Draws.done (by kernel_rfl) ?_
              clear HK
              have HK := HS
              clear HS
              go_wp2_with (first
                | (with_reducible refine load_val HK.out 0 rfl _ rfl rfl rfl (Ho.g0 _) (Ho.p0 _) ?_)
                | (with_reducible refine load_val HK.out 0 rfl _ rfl rfl rfl (Ho.g1 _) (Ho.p1 _) ?_)
                | (with_reducible refine load_val HK.out 0 rfl _ rfl rfl rfl (Ho.g2 _) (Ho.p2 _) ?_)
                | (with_reducible refine load_val HK.out 0 rfl _ rfl rfl rfl (Ho.g3 _) (Ho.p3 _) ?_)
                | (with_reducible refine load_val HK.out 0 rfl _ rfl rfl rfl (Ho.g4 _) (Ho.p4 _) ?_)
                | (with_reducible refine load_val_want HK.out 0 _ rfl rfl rfl rfl (Ho.g0 _) (Ho.p0 _) ?_)
                | (with_reducible refine load_val_want HK.out 0 _ rfl rfl rfl rfl (Ho.g1 _) (Ho.p1 _) ?_)
                | (with_reducible refine load_val_want HK.out 0 _ rfl rfl rfl rfl (Ho.g2 _) (Ho.p2 _) ?_)
                | (with_reducible refine load_val_want HK.out 0 _ rfl rfl rfl rfl (Ho.g3 _) (Ho.p3 _) ?_)
                | (with_reducible refine load_val_want HK.out 0 _ rfl rfl rfl rfl (Ho.g4 _) (Ho.p4 _) ?_)
                | (with_reducible refine eql_want h1 _ _ _ rfl rfl rfl rfl ?_)
                | (with_reducible refine eql_want h2 _ _ _ rfl rfl rfl rfl ?_))
              go_roundw
              case rel => exact ⟨m + 1, by omega, by go_num, _, HO2.out, rfl, by have := HK.out.tail; rw [← HW.out] at this; exact this⟩
              case measure => simp [intOf]; omega
            | true =>
              have HO2 := Lib.hid (fnd_yes hml HH.out hq (by simp only [nm, h1, h2, Bool.true_and]))
              clear hq hwh
              go_wp2_with (first
                | (with_reducible refine load_hold (range_below HR.out HK.out.bel HC.out) _ rfl rfl rfl ?_)
                | (with_reducible refine alloc_zero HK.out 5 h_zero rfl rfl ?_; intro bh u hn0 hk hb; clear hn0 hb; clear HK; have HK := Lib.hid hk; clear hk)
                | (with_reducible refine store_all HK.out 0 5 h_info rfl rfl _ _ rfl rfl rfl rfl (Ho.len _) (zer_length 5) ?_; intro u hk hs; clear hs; simp only [List.set_cons_zero] at hk; clear HK; have HK := Lib.hid hk; clear hk))
              refine Draws.start (S := fun u => KeepR w [(bh, 26, h.l), (bw, 26, wh.l)] u) (n := 5) 5 rfl (by kernel_rfl) ?_
              have HS := Lib.hid (show (fun u => KeepR w [(bh, 26, h.l), (bw, 26, wh.l)] u) _ from HK.out.drew)
              refine Draws.take 0 HS.out rfl (by kernel_rfl) (fun _ _ _ h => h) (yield_all (fun _ hu => hu) 0 5 Try.underlying26 rfl h_info rfl _ rfl rfl rfl (Ho.len _)) ?_
              (try simp only [Act.put, List.setIfInBounds_toArray, List.set_cons_zero, List.set_cons_succ])
              refine Draws.take 2 HS.out rfl (by kernel_rfl) (fun _ _ _ h => h) (yield_all (fun _ hu => hu) 0 5 Try.underlying26 rfl h_info rfl _ rfl rfl rfl (Ho.len _)) ?_
              (try simp only [Act.put, List.setIfInBounds_toArray, List.set_cons_zero, List.set_cons_succ])
              refine Draws.does 1 rfl (by kernel_rfl) rfl (fun K hK => ?_)
              go_simp
              go_at_call 12
              refine (hrt_any _ _ HRH.out _).mono ?_
              rintro e u ⟨rfl, hb⟩
              (try dsimp only)
              refine hK.out _ _ (fun _ => HS.out.call hb) ?_
              clear hK K
              have hs : (fun u => KeepR w [(bh, 26, h.l), (bw, 26, wh.l)] u) u := HS.out.call hb
              clear HS
              have HS := Lib.hid hs; clear hs
              (try simp only [Act.put, List.setIfInBounds_toArray, List.set_cons_zero, List.set_cons_succ])
              clear hb
              refine Draws.does 3 rfl (by kernel_rfl) rfl (fun K hK => ?_)
              go_simp
              go_at_call 13
              refine (rrt_any _ _ HRH.out _).mono ?_
              rintro e u ⟨rfl, hb⟩
              (try dsimp only)
              refine hK.out _ _ (fun _ => HS.out.call hb) ?_
              clear hK K
              have hs : (fun u => KeepR w [(bh, 26, h.l), (bw, 26, wh.l)] u) u := HS.out.call hb
              clear HS
              have HS := Lib.hid hs; clear hs
              (try simp only [Act.put, List.setIfInBounds_toArray, List.set_cons_zero, List.set_cons_succ])
              clear hb
              refine Draws.take 4 HS.out rfl (by kernel_rfl) (fun _ _ _ h => h) (yield_neqb _ _ _ rfl rfl rfl rfl) ?_
              (try simp only [Act.put, List.setIfInBounds_toArray, List.set_cons_zero, List.set_cons_succ])
              refine Draws.done (by kernel_rfl) ?_
              clear HK
              have HK := HS
              clear HS
              go_wp2_with (first
                | (with_reducible refine load_val HK.out 0 rfl _ rfl rfl rfl (Ho.g0 _) (Ho.p0 _) ?_)
                | (with_reducible refine load_val HK.out 0 rfl _ rfl rfl rfl (Ho.g1 _) (Ho.p1 _) ?_)
                | (with_reducible refine load_val HK.out 0 rfl _ rfl rfl rfl (Ho.g2 _) (Ho.p2 _) ?_)
                | (with_reducible refine load_val HK.out 0 rfl _ rfl rfl rfl (Ho.g3 _) (Ho.p3 _) ?_)
                | (with_reducible refine load_val HK.out 0 rfl _ rfl rfl rfl (Ho.g4 _) (Ho.p4 _) ?_)
                | (with_reducible refine load_val_want HK.out 0 _ rfl rfl rfl rfl (Ho.g0 _) (Ho.p0 _) ?_)
                | (with_reducible refine load_val_want HK.out 0 _ rfl rfl rfl rfl (Ho.g1 _) (Ho.p1 _) ?_)
                | (with_reducible refine load_val_want HK.out 0 _ rfl rfl rfl rfl (Ho.g2 _) (Ho.p2 _) ?_)
                | (with_reducible refine load_val_want HK.out 0 _ rfl rfl rfl rfl (Ho.g3 _) (Ho.p3 _) ?_)
                | (with_reducible refine load_val_want HK.out 0 _ rfl rfl rfl rfl (Ho.g4 _) (Ho.p4 _) ?_)
                | (with_reducible refine eql_want h1 _ _ _ rfl rfl rfl rfl ?_)
                | (with_reducible refine eql_want h2 _ _ _ rfl rfl rfl rfl ?_)
                | (with_reducible refine load_all HK.out 0 5 Try.underlying26 rfl h_info rfl _ rfl rfl rfl (Ho.len _) ?_)
                | (with_reducible refine store_all HK.out 1 5 h_info rfl rfl _ _ rfl rfl rfl rfl (Ho.len _) (Ho.len _) ?_; intro u hk hs; clear hs; simp only [List.set_cons_zero, List.set_cons_succ] at hk; clear HK; have HK := Lib.hid hk; clear hk))
              go_roundw
              case rel => exact ⟨m + 1, by omega, by go_num, _, HO2.out, rfl, HK.out.tail⟩
              case measure => simp [intOf]; omega
      · obtain rfl : m = n0 := by omega
        rw [show x0.take m = x0 by rw [← HL.out]; exact List.take_length] at hq
        obtain ⟨hF, hhF⟩ : ∃ h, q.getD z5 = h := ⟨_, rfl⟩
        obtain ⟨rF, hrF⟩ : ∃ r, q.isSome = r := ⟨_, rfl⟩
        have HFH := Lib.hid (show fndH x0 a1 a2 = hF by rw [fndH, hq, hhF])
        have HFB := Lib.hid (show fndB x0 a1 a2 = rF by rw [fndB, hq, hrF])
        rw [hhF] at hk
        rw [hrF]
        have HK := Lib.hid hk
        clear hk hq hhF hrF
        have hqq := eql_ho hF hF
        rw [Ho.same] at hqq
        have hge := h_guard
        clear HFEW
        cases hrt : rightsL x0 with
        | false =>
          have HRT := Lib.hid hrt; clear hrt
          cases rF with
          | false =>
            go_wp2_with (first
              | (go_at_call 14; (with_reducible refine (find_eq _ _ _ _ _ _ hF _ HFH.out HFB.out _ (HD.out.below HK.out.bel (Nat.le_refl _))).mono ?_); rintro e u ⟨rfl, hb⟩; have hk := HK.out.call hb; clear hb; clear HK; have HK := Lib.hid hk; clear hk)
              | (with_reducible refine alloc_zero HK.out 5 h_zero rfl rfl ?_; intro bh u hn0 hk hb; clear hn0 hb; clear HK; have HK := Lib.hid hk; clear hk)
              | (with_reducible refine store_all HK.out 0 5 h_info rfl rfl _ _ rfl rfl rfl rfl (Ho.len _) (zer_length 5) ?_; intro u hk hs; clear hs; simp only [List.set_cons_zero] at hk; clear HK; have HK := Lib.hid hk; clear hk)
              | (go_at_call 15; (with_reducible refine (rights_eq _ _ _ _ _ HRT.out _ (HD.out.below HK.out.bel (Nat.le_refl _))).mono ?_); rintro e u ⟨rfl, hb⟩; have hk := HK.out.call hb; clear hb; clear HK; have HK := Lib.hid hk; clear hk)
              | (go_at_call 16; (with_reducible refine (rrights_eq _ _ _ _ _ HRT.out _ (HD.out.below HK.out.bel (Nat.le_refl _))).mono ?_); rintro e u ⟨rfl, hb⟩; have hk := HK.out.call hb; clear hb; clear HK; have HK := Lib.hid hk; clear hk)
              | (refine load_all_want HK.out 0 5 Try.underlying26 rfl h_info _ rfl rfl rfl rfl (Ho.len _) ?_)
              | (refine load_all_want HK.out 1 5 Try.underlying26 rfl h_info _ rfl rfl rfl rfl (Ho.len _) ?_)
              | (go_at_call 11; (with_reducible refine (awake_any _).mono ?_); rintro e u ⟨rfl, hb⟩; have hk := HK.out.call hb; clear hb; clear HK; have HK := Lib.hid hk; clear hk))
            go_ret
            exact ⟨rfl, HK.out.bel⟩
          | true =>
            go_wp2_with (first
              | (go_at_call 14; (with_reducible refine (find_eq _ _ _ _ _ _ hF _ HFH.out HFB.out _ (HD.out.below HK.out.bel (Nat.le_refl _))).mono ?_); rintro e u ⟨rfl, hb⟩; have hk := HK.out.call hb; clear hb; clear HK; have HK := Lib.hid hk; clear hk)
              | (with_reducible refine alloc_zero HK.out 5 h_zero rfl rfl ?_; intro bh u hn0 hk hb; clear hn0 hb; clear HK; have HK := Lib.hid hk; clear hk)
              | (with_reducible refine store_all HK.out 0 5 h_info rfl rfl _ _ rfl rfl rfl rfl (Ho.len _) (zer_length 5) ?_; intro u hk hs; clear hs; simp only [List.set_cons_zero] at hk; clear HK; have HK := Lib.hid hk; clear hk)
              | (go_at_call 15; (with_reducible refine (rights_eq _ _ _ _ _ HRT.out _ (HD.out.below HK.out.bel (Nat.le_refl _))).mono ?_); rintro e u ⟨rfl, hb⟩; have hk := HK.out.call hb; clear hb; clear HK; have HK := Lib.hid hk; clear hk)
              | (go_at_call 16; (with_reducible refine (rrights_eq _ _ _ _ _ HRT.out _ (HD.out.below HK.out.bel (Nat.le_refl _))).mono ?_); rintro e u ⟨rfl, hb⟩; have hk := HK.out.call hb; clear hb; clear HK; have HK := Lib.hid hk; clear hk)
              | (refine load_all_want HK.out 0 5 Try.underlying26 rfl h_info _ rfl rfl rfl rfl (Ho.len _) ?_)
              | (refine load_all_want HK.out 1 5 Try.underlying26 rfl h_info _ rfl rfl rfl rfl (Ho.len _) ?_)
              | (go_at_call 11; (with_reducible refine (awake_any _).mono ?_); rintro e u ⟨rfl, hb⟩; have hk := HK.out.call hb; clear hb; clear HK; have HK := Lib.hid hk; clear hk))
            go_ret
            exact ⟨rfl, HK.out.bel⟩
        | true =>
          obtain ⟨z, hz⟩ : ∃ z, sumL x0 a1 = z := ⟨_, rfl⟩
          have HZ := Lib.hid (show sumOf x0 a1 = z by rw [sumOf, hrt, if_pos rfl, hz])
          have HZ2 := Lib.hid hz
          have HRT := Lib.hid hrt; clear hrt hz
          cases rF with
          | false =>
            go_wp2_with (first
              | (go_at_call 14; (with_reducible refine (find_eq _ _ _ _ _ _ hF _ HFH.out HFB.out _ (HD.out.below HK.out.bel (Nat.le_refl _))).mono ?_); rintro e u ⟨rfl, hb⟩; have hk := HK.out.call hb; clear hb; clear HK; have HK := Lib.hid hk; clear hk)
              | (with_reducible refine alloc_zero HK.out 5 h_zero rfl rfl ?_; intro bh u hn0 hk hb; clear hn0 hb; clear HK; have HK := Lib.hid hk; clear hk)
              | (with_reducible refine store_all HK.out 0 5 h_info rfl rfl _ _ rfl rfl rfl rfl (Ho.len _) (zer_length 5) ?_; intro u hk hs; clear hs; simp only [List.set_cons_zero] at hk; clear HK; have HK := Lib.hid hk; clear hk)
              | (go_at_call 15; (with_reducible refine (rights_eq _ _ _ _ _ HRT.out _ (HD.out.below HK.out.bel (Nat.le_refl _))).mono ?_); rintro e u ⟨rfl, hb⟩; have hk := HK.out.call hb; clear hb; clear HK; have HK := Lib.hid hk; clear hk)
              | (go_at_call 16; (with_reducible refine (rrights_eq _ _ _ _ _ HRT.out _ (HD.out.below HK.out.bel (Nat.le_refl _))).mono ?_); rintro e u ⟨rfl, hb⟩; have hk := HK.out.call hb; clear hb; clear HK; have HK := Lib.hid hk; clear hk)
              | (refine load_all_want HK.out 0 5 Try.underlying26 rfl h_info _ rfl rfl rfl rfl (Ho.len _) ?_)
              | (refine load_all_want HK.out 1 5 Try.underlying26 rfl h_info _ rfl rfl rfl rfl (Ho.len _) ?_)
              | (go_at_call 17; (with_reducible refine (sum_eq _ _ _ _ _ z HZ.out _ (HD.out.below HK.out.bel (Nat.le_refl _))).mono ?_); rintro e u ⟨rfl, hb⟩; have hk := HK.out.call hb; clear hb; clear HK; have HK := Lib.hid hk; clear hk)
              | (go_at_call 18; (with_reducible refine (rsum_eq _ _ _ _ _ z _ (HD.out.below HK.out.bel (Nat.le_refl _)) HRT.out HZ2.out).mono ?_); rintro e u ⟨rfl, hb⟩; have hk := HK.out.call hb; clear hb; clear HK; have HK := Lib.hid hk; clear hk)
              | (go_at_call 11; (with_reducible refine (awake_any _).mono ?_); rintro e u ⟨rfl, hb⟩; have hk := HK.out.call hb; clear hb; clear HK; have HK := Lib.hid hk; clear hk))
            go_ret
            exact ⟨rfl, HK.out.bel⟩
          | true =>
            go_wp2_with (first
              | (go_at_call 14; (with_reducible refine (find_eq _ _ _ _ _ _ hF _ HFH.out HFB.out _ (HD.out.below HK.out.bel (Nat.le_refl _))).mono ?_); rintro e u ⟨rfl, hb⟩; have hk := HK.out.call hb; clear hb; clear HK; have HK := Lib.hid hk; clear hk)
              | (with_reducible refine alloc_zero HK.out 5 h_zero rfl rfl ?_; intro bh u hn0 hk hb; clear hn0 hb; clear HK; have HK := Lib.hid hk; clear hk)
              | (with_reducible refine store_all HK.out 0 5 h_info rfl rfl _ _ rfl rfl rfl rfl (Ho.len _) (zer_length 5) ?_; intro u hk hs; clear hs; simp only [List.set_cons_zero] at hk; clear HK; have HK := Lib.hid hk; clear hk)
              | (go_at_call 15; (with_reducible refine (rights_eq _ _ _ _ _ HRT.out _ (HD.out.below HK.out.bel (Nat.le_refl _))).mono ?_); rintro e u ⟨rfl, hb⟩; have hk := HK.out.call hb; clear hb; clear HK; have HK := Lib.hid hk; clear hk)
              | (go_at_call 16; (with_reducible refine (rrights_eq _ _ _ _ _ HRT.out _ (HD.out.below HK.out.bel (Nat.le_refl _))).mono ?_); rintro e u ⟨rfl, hb⟩; have hk := HK.out.call hb; clear hb; clear HK; have HK := Lib.hid hk; clear hk)
              | (refine load_all_want HK.out 0 5 Try.underlying26 rfl h_info _ rfl rfl rfl rfl (Ho.len _) ?_)
              | (refine load_all_want HK.out 1 5 Try.underlying26 rfl h_info _ rfl rfl rfl rfl (Ho.len _) ?_)
              | (go_at_call 17; (with_reducible refine (sum_eq _ _ _ _ _ z HZ.out _ (HD.out.below HK.out.bel (Nat.le_refl _))).mono ?_); rintro e u ⟨rfl, hb⟩; have hk := HK.out.call hb; clear hb; clear HK; have HK := Lib.hid hk; clear hk)
              | (go_at_call 18; (with_reducible refine (rsum_eq _ _ _ _ _ z _ (HD.out.below HK.out.bel (Nat.le_refl _)) HRT.out HZ2.out).mono ?_); rintro e u ⟨rfl, hb⟩; have hk := HK.out.call hb; clear hb; clear HK; have HK := Lib.hid hk; clear hk)
              | (go_at_call 11; (with_reducible refine (awake_any _).mono ?_); rintro e u ⟨rfl, hb⟩; have hk := HK.out.call hb; clear hb; clear HK; have HK := Lib.hid hk; clear hk))
            go_ret
            exact ⟨rfl, HK.out.bel⟩
  · have HFEW := Lib.hid (few1n (A := A0) (c := c0) h40)
    have HK := Lib.hid (LawS.start (w := w) (rows := []) (by simp))
    clear hd0 h40
    go_enter Try.func3, Try.ntmps3
    go_wp2_with (first
      | (with_reducible refine many_one HK.out rfl _ rfl rfl ?_; intro bq u hk hm; have HM := Lib.hid hm; clear hm; clear HK; have HK := Lib.hid hk; clear hk)
      | (go_at_call 10; (with_reducible refine (few_one _ _ _ _ _ HFEW.out _ HM.out).mono ?_); rintro e u ⟨rfl, rfl⟩)
      | (go_at_call 11; (with_reducible refine (awake_any _).mono ?_); rintro e u ⟨rfl, hb⟩; have hk := HK.out.call hb; clear hb; clear HK; have HK := Lib.hid hk; clear hk))
    go_ret
    exact ⟨rfl, HK.out.bel⟩

set_option maxRecDepth 100000 in
theorem lifted (os : Os) (started : os.Started) (H : Type) (enc : TypeId × Value → H) :
    ReturnsInHanded {} Try.checked os 3 .any (Rows.holdTellsSpec.pre6 enc Try.prog Try.f3 Rows.holdTellsRow.domain false) (Rows.holdTellsSpec.post enc Try.prog Try.f3 false true false false) := by
  refine returnsInHanded_of_change (C := Try.checked) own started (by kernel_rfl) Try.func3
    (ChangeSpec.witness6 (enc := enc) (C := Try.checked) false ⟨#[], #[.slice none 0 0, .int .i64 0, .int .i64 0], []⟩ 12 (by kernel_rfl) (by kernel_rfl) (by kernel_rfl) (by kernel_rfl)) ?_
  intro W base args ds gs before hval0 hW hcnd _
  have hval : ∀ (j : Nat) t v, Try.f3.params[j]? = some t → args[j]? = some v → Value.okWide Try.prog W .any base t v := hval0
  have hW' := hW
  obtain ⟨p, q, hA0, hV, rfl, hfz, hnd⟩ := hW
  have hA : DataW.TrodAll enc Try.prog W 0 (fun _ => true) true Try.f3.params.toList args.toList ds p := hA0
  rw [Try.params3] at hA hval
  obtain ⟨v0, vs0, d0, ds0, p0, q0, hargs, rfl, rfl, h0, r0⟩ := trodAll_cons hA
  obtain ⟨v1, vs1, d1, ds1, p1, q1, rfl, rfl, rfl, h1, r1⟩ := trodAll_cons r0
  obtain ⟨v2, vs2, d2, ds2, p2, q2, rfl, rfl, rfl, h2, r2⟩ := trodAll_cons r1
  obtain ⟨rfl, rfl, rfl⟩ := trodAll_nil r2
  obtain rfl : args = #[v0, v1, v2] := by cases args; simp_all
  obtain ⟨rfl, rfl⟩ := trodVars_none hV
  have k0 := h0
  have lt0 : ∀ x ∈ p0, x.block < W.heap.size := by obtain ⟨m, hm⟩ := k0; exact DataW.trod_lt m _ _ _ hm
  obtain ⟨A0, n0, c0, x0, rfl, hd0⟩ := open_holds (hval 0 22 v0 rfl rfl) h0
  have k1 := h1
  have lt1 : ∀ x ∈ p1, x.block < W.heap.size := by obtain ⟨m, hm⟩ := k1; exact DataW.trod_lt m _ _ _ hm
  obtain ⟨a1, rfl, rfl, rfl, w1⟩ := open_int Try.underlying3 (hval 1 3 v1 rfl rfl) h1
  have k2 := h2
  have lt2 : ∀ x ∈ p2, x.block < W.heap.size := by obtain ⟨m, hm⟩ := k2; exact DataW.trod_lt m _ _ _ hm
  obtain ⟨a2, rfl, rfl, rfl, w2⟩ := open_int Try.underlying3 (hval 2 3 v2 rfl rfl) h2
  clear hA0 hval0
  refine (walk W A0 n0 c0 x0 hd0 a1 w1 a2 w2).mono fun e W' ⟨he, bel⟩ => ?_
  subst he
  exact ⟨_, rfl, _, _, _, [], _, [], hW', trodAll_mk1 (shut_bool Try.underlying4 _), (trodAll_cons_mk (Below.trod laidOut (by kernel_rfl) (of_decide_eq_true (by kernel_rfl)) k0 bel lt0) (trodAll_cons_mk (Below.trod laidOut (by kernel_rfl) (of_decide_eq_true (by kernel_rfl)) k1 bel lt1) (trodAll_cons_mk (Below.trod laidOut (by kernel_rfl) (of_decide_eq_true (by kernel_rfl)) k2 bel lt2) trodAll_mk0))), rfl, bel.frame _, fun h => by cases h⟩

theorem over : Rows.holdTellsRow.holds Try.pinned (OpenSpec.ofChange Rows.holdTellsSpec) :=
  OpenClaim.holds_of_wide 3 Try.f3 rfl rfl rfl rfl rfl rfl rfl ⟨rfl, rfl, rfl, rfl, rfl⟩ rfl rfl rfl rfl rfl (by kernel_rfl) Try.func3 (by kernel_rfl)
    (of_decide_eq_true (by kernel_rfl)) (by unfold Func.isWrapper; first | (rw [if_pos (by decide +kernel)]; kernel_rfl) | (rw [if_neg (by decide +kernel)]; exact ⟨rfl, rfl⟩))
    (fun os started H enc _ => lifted os started H enc)

theorem proved : Rows.HoldTellsSaid := over
#print axioms proved
end Go.Proofs.Ytaniacohimdpiaa.holdTells
