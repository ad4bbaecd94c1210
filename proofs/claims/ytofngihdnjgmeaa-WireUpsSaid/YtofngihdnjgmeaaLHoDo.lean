/- Contracts of what package hold and the document's layer 6 are made of: which numbers, which hold may be, and which one goes ahead. -/
import Derived.Test.YtofngihdnjgmeaaLHoo
namespace Go.Proofs.Ytofngihdnjgmeaa
set_option maxRecDepth 100000
open Go.ChangeShapes Go.WideShapes Go.ChangeAt Go.RowKit

theorem geq_want {ops : Array Oper} {rest : List Oper} {o : Oper} {a : Act} {u : World} {Q : Exit → Act → World → Prop} {p q : Int} {b : Bool} (hb : decide (q ≤ p) = b) (x y : Operand) (t : TypeId) (ho : o.op = .binOp .geq 3 x y t) (hx : a.eval x = .int .i64 p) (hy : a.eval y = .int .i64 q)
    (hw : Region.wanted o (yielded ops a.tmps) = true) (h : wpList Try.prog ops Q rest (a.put o.dst (.bool b)) u) : wpList Try.prog ops Q (o :: rest) a u :=
  BigFrame.wpList_want hw fun K hK => by
    subst hb
    have h1 := hK _ _ h
    unfold Oper.wp execOp
    simp only [ho, hx, hy]
    simp [go_sem]
    simpa [Act.put] using h1
theorem leq_want {ops : Array Oper} {rest : List Oper} {o : Oper} {a : Act} {u : World} {Q : Exit → Act → World → Prop} {p q : Int} {b : Bool} (hb : decide (p ≤ q) = b) (x y : Operand) (t : TypeId) (ho : o.op = .binOp .leq 3 x y t) (hx : a.eval x = .int .i64 p) (hy : a.eval y = .int .i64 q)
    (hw : Region.wanted o (yielded ops a.tmps) = true) (h : wpList Try.prog ops Q rest (a.put o.dst (.bool b)) u) : wpList Try.prog ops Q (o :: rest) a u :=
  BigFrame.wpList_want hw fun K hK => by
    subst hb
    have h1 := hK _ _ h
    unfold Oper.wp execOp
    simp only [ho, hx, hy]
    simp [go_sem]
    simpa [Act.put] using h1
theorem lss_want {ops : Array Oper} {rest : List Oper} {o : Oper} {a : Act} {u : World} {Q : Exit → Act → World → Prop} {p q : Int} {b : Bool} (hb : decide (p < q) = b) (x y : Operand) (t : TypeId) (ho : o.op = .binOp .lss 3 x y t) (hx : a.eval x = .int .i64 p) (hy : a.eval y = .int .i64 q)
    (hw : Region.wanted o (yielded ops a.tmps) = true) (h : wpList Try.prog ops Q rest (a.put o.dst (.bool b)) u) : wpList Try.prog ops Q (o :: rest) a u :=
  BigFrame.wpList_want hw fun K hK => by
    subst hb
    have h1 := hK _ _ h
    unfold Oper.wp execOp
    simp only [ho, hx, hy]
    simp [go_sem]
    simpa [Act.put] using h1
theorem eql_want {ops : Array Oper} {rest : List Oper} {o : Oper} {a : Act} {u : World} {Q : Exit → Act → World → Prop} {p q : Int} {b : Bool} (hb : (p == q) = b) (x y : Operand) (t : TypeId) (ho : o.op = .binOp .eql 3 x y t) (hx : a.eval x = .int .i64 p) (hy : a.eval y = .int .i64 q)
    (hw : Region.wanted o (yielded ops a.tmps) = true) (h : wpList Try.prog ops Q rest (a.put o.dst (.bool b)) u) : wpList Try.prog ops Q (o :: rest) a u :=
  BigFrame.wpList_want hw fun K hK => by
    subst hb
    have h1 := hK _ _ h
    unfold Oper.wp execOp
    simp only [ho, hx, hy]
    simp [go_sem]
    simpa [Act.put] using h1
theorem neq_want {ops : Array Oper} {rest : List Oper} {o : Oper} {a : Act} {u : World} {Q : Exit → Act → World → Prop} {p q : Int} {b : Bool} (hb : (p != q) = b) (x y : Operand) (t : TypeId) (ho : o.op = .binOp .neq 3 x y t) (hx : a.eval x = .int .i64 p) (hy : a.eval y = .int .i64 q)
    (hw : Region.wanted o (yielded ops a.tmps) = true) (h : wpList Try.prog ops Q rest (a.put o.dst (.bool b)) u) : wpList Try.prog ops Q (o :: rest) a u :=
  BigFrame.wpList_want hw fun K hK => by
    subst hb
    have h1 := hK _ _ h
    unfold Oper.wp execOp
    simp only [ho, hx, hy]
    simp [go_sem]
    simpa [Act.put] using h1
theorem rep_anyH (k : Int) (w : World) :
    Calls Try.prog 55 #[.int .i64 k] w fun e w' => e = .returned (.bool (repBH k)) ∧ w = w' := by
  by_cases h1 : 0 ≤ k
  · by_cases h3 : k < 16
    · rw [repB_iffH.2 ⟨h1, h3⟩]
      go_enter Try.func55, Try.ntmps55
      go_wp2
      go_ret
      exact ⟨rfl, rfl⟩
    · rw [repB_notH.2 (.inr (by omega))]
      go_enter Try.func55, Try.ntmps55
      go_wp2
      go_ret
      exact ⟨rfl, rfl⟩
  · rw [repB_notH.2 (.inl (by omega))]
    go_enter Try.func55, Try.ntmps55
    go_wp2
    go_ret
    exact ⟨rfl, rfl⟩
theorem ris_anyH (n : Int) (w : World) : Calls Try.prog 23 #[.int .i64 n] w fun e w' => e = .returned (.bool (isB n)) ∧ w = w' := by
  by_cases h1 : -1099511627776 ≤ n
  · by_cases h2 : n ≤ 1099511627776
    · have e : isB n = true := isB_iff.2 ⟨h1, h2⟩
      rw [e]; clear e
      go_enter Try.func23, Try.ntmps23
      go_wp2
      go_ret
      exact ⟨rfl, rfl⟩
    · have e : isB n = false := isB_not.2 (by omega)
      rw [e]; clear e
      go_enter Try.func23, Try.ntmps23
      go_wp2
      go_ret
      exact ⟨rfl, rfl⟩
  · have e : isB n = false := isB_not.2 (by omega)
    rw [e]; clear e
    go_enter Try.func23, Try.ntmps23
    go_wp2
    go_ret
    exact ⟨rfl, rfl⟩
theorem cnt_anyH (n : Int) (w : World) :
    Calls Try.prog 56 #[.int .i64 n] w fun e w' => e = .returned (.bool (cntBH n)) ∧ w = w' := by
  by_cases h1 : 0 ≤ n
  · rw [show cntBH n = isB n by simp [cntBH, h1]]
    go_enter Try.func56, Try.ntmps56
    go_wp2_with (first
      | (go_at_call 37; (with_reducible refine (is_any _ _).mono ?_); rintro e u ⟨rfl, rfl⟩))
    go_ret
    exact ⟨rfl, rfl⟩
  · rw [show cntBH n = false by simp [cntBH, h1]]
    go_enter Try.func56, Try.ntmps56
    go_wp2_with (first
      | (go_at_call 37; (with_reducible refine (is_any _ _).mono ?_); rintro e u ⟨rfl, rfl⟩))
    go_ret
    exact ⟨rfl, rfl⟩
theorem rcnt_any (n : Int) (w : World) :
    Calls Try.prog 65 #[.int .i64 n] w fun e w' => e = .returned (.bool (cntBH n)) ∧ w = w' := by
  by_cases h1 : 0 ≤ n
  · rw [show cntBH n = isB n by simp [cntBH, h1]]
    go_enter Try.func65, Try.ntmps65
    go_wp2_with (first
      | (go_at_call 23; (with_reducible refine (ris_anyH _ _).mono ?_); rintro e u ⟨rfl, rfl⟩))
    go_ret
    exact ⟨rfl, rfl⟩
  · rw [show cntBH n = false by simp [cntBH, h1]]
    go_enter Try.func65, Try.ntmps65
    go_wp2_with (first
      | (go_at_call 23; (with_reducible refine (ris_anyH _ _).mono ?_); rintro e u ⟨rfl, rfl⟩))
    go_ret
    exact ⟨rfl, rfl⟩
theorem nan_anyH (n : Int) (w : World) :
    Calls Try.prog 91 #[.int .i64 n] w fun e w' => e = .returned (.bool false) ∧ w = w' := by
  go_enter Try.func91, Try.ntmps91
  go_wp2
  go_ret
  simp
theorem cmpi_anyH (x y : Int) (w : World) :
    Calls Try.prog 72 #[.int .i64 x, .int .i64 y] w fun e w' => e = .returned (.int .i64 (cmpIH x y)) ∧ w = w' := by
  rcases cmpI_casesH x y with ⟨h, e⟩ | ⟨h, e⟩ | ⟨h, e⟩
  · rw [e]; clear e
    go_enter Try.func72, Try.ntmps72
    go_wp2_with (first
      | (go_at_call 91; (with_reducible refine (nan_anyH _ _).mono ?_); rintro e u ⟨rfl, rfl⟩))
    go_ret
    exact ⟨rfl, rfl⟩
  · rw [e]; clear e
    have h' : ¬ x < y := by omega
    go_enter Try.func72, Try.ntmps72
    go_wp2_with (first
      | (go_at_call 91; (with_reducible refine (nan_anyH _ _).mono ?_); rintro e u ⟨rfl, rfl⟩))
    go_ret
    exact ⟨rfl, rfl⟩
  · rw [e]; clear e
    have h1 : ¬ x < y := by omega
    have h2 : ¬ y < x := by omega
    clear h
    go_enter Try.func72, Try.ntmps72
    go_wp2_with (first
      | (go_at_call 91; (with_reducible refine (nan_anyH _ _).mono ?_); rintro e u ⟨rfl, rfl⟩))
    go_ret
    exact ⟨rfl, rfl⟩
set_option maxHeartbeats 1000000 in
theorem hright_any (a : Ho) (w : World) :
    Calls Try.prog 68 #[.agg (vals a.l).toArray] w fun e w' => e = .returned (.bool (rightH a)) ∧ Below w.heap.size w w' := by
  have HK := Lib.hid (KeepR.start w)
  cases h1 : repBH a.r with
  | false =>
    rw [show rightH a = false by simp only [rightH]; simp [h1]]
    go_enter Try.func68, Try.ntmps68
    go_wp2_with (first
      | (with_reducible refine box_new (R := a.l) HK.out rfl _ rfl rfl ?_; intro b u hk hb; clear hb; clear HK; have HK := Lib.hid hk; clear hk)
      | (with_reducible refine load_val HK.out 0 rfl _ rfl rfl rfl (Ho.g0 _) (Ho.p0 _) ?_)
      | (with_reducible refine load_val HK.out 0 rfl _ rfl rfl rfl (Ho.g1 _) (Ho.p1 _) ?_)
      | (with_reducible refine load_val HK.out 0 rfl _ rfl rfl rfl (Ho.g2 _) (Ho.p2 _) ?_)
      | (with_reducible refine load_val HK.out 0 rfl _ rfl rfl rfl (Ho.g3 _) (Ho.p3 _) ?_)
      | (with_reducible refine load_val HK.out 0 rfl _ rfl rfl rfl (Ho.g4 _) (Ho.p4 _) ?_)
      | (with_reducible refine load_val_want HK.out 0 _ rfl rfl rfl rfl (Ho.g0 _) (Ho.p0 _) ?_)
      | (with_reducible refine load_val_want HK.out 0 _ rfl rfl rfl rfl (Ho.g1 _) (Ho.p1 _) ?_)
      | (with_reducible refine load_val_want HK.out 0 _ rfl rfl rfl rfl (Ho.g2 _) (Ho.p2 _) ?_)
      | (with_reducible refine load_val_want HK.out 0 _ rfl rfl rfl rfl (Ho.g3 _) (Ho.p3 _) ?_)
      | (with_reducible refine load_val_want HK.out 0 _ rfl rfl rfl rfl (Ho.g4 _) (Ho.p4 _) ?_)
      | (go_at_call 55; (with_reducible refine (rep_anyH _ _).mono ?_); rintro e u ⟨rfl, rfl⟩)
      | (go_at_call 37; (with_reducible refine (is_any _ _).mono ?_); rintro e u ⟨rfl, rfl⟩)
      | (go_at_call 56; (with_reducible refine (cnt_anyH _ _).mono ?_); rintro e u ⟨rfl, rfl⟩))
    go_ret
    exact ⟨rfl, HK.out.bel⟩
  | true =>
    cases h2 : decide (1 ≤ a.n) with
    | false =>
      rw [show rightH a = false by simp only [rightH]; simp [h1, h2]]
      go_enter Try.func68, Try.ntmps68
      go_wp2_with (first
        | (with_reducible refine box_new (R := a.l) HK.out rfl _ rfl rfl ?_; intro b u hk hb; clear hb; clear HK; have HK := Lib.hid hk; clear hk)
        | (with_reducible refine load_val HK.out 0 rfl _ rfl rfl rfl (Ho.g0 _) (Ho.p0 _) ?_)
        | (with_reducible refine load_val HK.out 0 rfl _ rfl rfl rfl (Ho.g1 _) (Ho.p1 _) ?_)
        | (with_reducible refine load_val HK.out 0 rfl _ rfl rfl rfl (Ho.g2 _) (Ho.p2 _) ?_)
        | (with_reducible refine load_val HK.out 0 rfl _ rfl rfl rfl (Ho.g3 _) (Ho.p3 _) ?_)
        | (with_reducible refine load_val HK.out 0 rfl _ rfl rfl rfl (Ho.g4 _) (Ho.p4 _) ?_)
        | (with_reducible refine load_val_want HK.out 0 _ rfl rfl rfl rfl (Ho.g0 _) (Ho.p0 _) ?_)
        | (with_reducible refine load_val_want HK.out 0 _ rfl rfl rfl rfl (Ho.g1 _) (Ho.p1 _) ?_)
        | (with_reducible refine load_val_want HK.out 0 _ rfl rfl rfl rfl (Ho.g2 _) (Ho.p2 _) ?_)
        | (with_reducible refine load_val_want HK.out 0 _ rfl rfl rfl rfl (Ho.g3 _) (Ho.p3 _) ?_)
        | (with_reducible refine load_val_want HK.out 0 _ rfl rfl rfl rfl (Ho.g4 _) (Ho.p4 _) ?_)
        | (go_at_call 55; (with_reducible refine (rep_anyH _ _).mono ?_); rintro e u ⟨rfl, rfl⟩)
        | (go_at_call 37; (with_reducible refine (is_any _ _).mono ?_); rintro e u ⟨rfl, rfl⟩)
        | (go_at_call 56; (with_reducible refine (cnt_anyH _ _).mono ?_); rintro e u ⟨rfl, rfl⟩)
        | (with_reducible refine geq_want h2 _ _ _ rfl rfl rfl rfl ?_))
      go_ret
      exact ⟨rfl, HK.out.bel⟩
    | true =>
      cases h3 : isB a.n with
      | false =>
        rw [show rightH a = false by simp only [rightH]; simp [h1, h2, h3]]
        go_enter Try.func68, Try.ntmps68
        go_wp2_with (first
          | (with_reducible refine box_new (R := a.l) HK.out rfl _ rfl rfl ?_; intro b u hk hb; clear hb; clear HK; have HK := Lib.hid hk; clear hk)
          | (with_reducible refine load_val HK.out 0 rfl _ rfl rfl rfl (Ho.g0 _) (Ho.p0 _) ?_)
          | (with_reducible refine load_val HK.out 0 rfl _ rfl rfl rfl (Ho.g1 _) (Ho.p1 _) ?_)
          | (with_reducible refine load_val HK.out 0 rfl _ rfl rfl rfl (Ho.g2 _) (Ho.p2 _) ?_)
          | (with_reducible refine load_val HK.out 0 rfl _ rfl rfl rfl (Ho.g3 _) (Ho.p3 _) ?_)
          | (with_reducible refine load_val HK.out 0 rfl _ rfl rfl rfl (Ho.g4 _) (Ho.p4 _) ?_)
          | (with_reducible refine load_val_want HK.out 0 _ rfl rfl rfl rfl (Ho.g0 _) (Ho.p0 _) ?_)
          | (with_reducible refine load_val_want HK.out 0 _ rfl rfl rfl rfl (Ho.g1 _) (Ho.p1 _) ?_)
          | (with_reducible refine load_val_want HK.out 0 _ rfl rfl rfl rfl (Ho.g2 _) (Ho.p2 _) ?_)
          | (with_reducible refine load_val_want HK.out 0 _ rfl rfl rfl rfl (Ho.g3 _) (Ho.p3 _) ?_)
          | (with_reducible refine load_val_want HK.out 0 _ rfl rfl rfl rfl (Ho.g4 _) (Ho.p4 _) ?_)
          | (go_at_call 55; (with_reducible refine (rep_anyH _ _).mono ?_); rintro e u ⟨rfl, rfl⟩)
          | (go_at_call 37; (with_reducible refine (is_any _ _).mono ?_); rintro e u ⟨rfl, rfl⟩)
          | (go_at_call 56; (with_reducible refine (cnt_anyH _ _).mono ?_); rintro e u ⟨rfl, rfl⟩)
          | (with_reducible refine geq_want h2 _ _ _ rfl rfl rfl rfl ?_))
        go_ret
        exact ⟨rfl, HK.out.bel⟩
      | true =>
        cases h4 : cntBH a.a with
        | false =>
          rw [show rightH a = false by simp only [rightH]; simp [h1, h2, h3, h4]]
          go_enter Try.func68, Try.ntmps68
          go_wp2_with (first
            | (with_reducible refine box_new (R := a.l) HK.out rfl _ rfl rfl ?_; intro b u hk hb; clear hb; clear HK; have HK := Lib.hid hk; clear hk)
            | (with_reducible refine load_val HK.out 0 rfl _ rfl rfl rfl (Ho.g0 _) (Ho.p0 _) ?_)
            | (with_reducible refine load_val HK.out 0 rfl _ rfl rfl rfl (Ho.g1 _) (Ho.p1 _) ?_)
            | (with_reducible refine load_val HK.out 0 rfl _ rfl rfl rfl (Ho.g2 _) (Ho.p2 _) ?_)
            | (with_reducible refine load_val HK.out 0 rfl _ rfl rfl rfl (Ho.g3 _) (Ho.p3 _) ?_)
            | (with_reducible refine load_val HK.out 0 rfl _ rfl rfl rfl (Ho.g4 _) (Ho.p4 _) ?_)
            | (with_reducible refine load_val_want HK.out 0 _ rfl rfl rfl rfl (Ho.g0 _) (Ho.p0 _) ?_)
            | (with_reducible refine load_val_want HK.out 0 _ rfl rfl rfl rfl (Ho.g1 _) (Ho.p1 _) ?_)
            | (with_reducible refine load_val_want HK.out 0 _ rfl rfl rfl rfl (Ho.g2 _) (Ho.p2 _) ?_)
            | (with_reducible refine load_val_want HK.out 0 _ rfl rfl rfl rfl (Ho.g3 _) (Ho.p3 _) ?_)
            | (with_reducible refine load_val_want HK.out 0 _ rfl rfl rfl rfl (Ho.g4 _) (Ho.p4 _) ?_)
            | (go_at_call 55; (with_reducible refine (rep_anyH _ _).mono ?_); rintro e u ⟨rfl, rfl⟩)
            | (go_at_call 37; (with_reducible refine (is_any _ _).mono ?_); rintro e u ⟨rfl, rfl⟩)
            | (go_at_call 56; (with_reducible refine (cnt_anyH _ _).mono ?_); rintro e u ⟨rfl, rfl⟩)
            | (with_reducible refine geq_want h2 _ _ _ rfl rfl rfl rfl ?_))
          go_ret
          exact ⟨rfl, HK.out.bel⟩
        | true =>
          cases h5 : cntBH a.d with
          | false =>
            rw [show rightH a = false by simp only [rightH]; simp [h1, h2, h3, h4, h5]]
            go_enter Try.func68, Try.ntmps68
            go_wp2_with (first
              | (with_reducible refine box_new (R := a.l) HK.out rfl _ rfl rfl ?_; intro b u hk hb; clear hb; clear HK; have HK := Lib.hid hk; clear hk)
              | (with_reducible refine load_val HK.out 0 rfl _ rfl rfl rfl (Ho.g0 _) (Ho.p0 _) ?_)
              | (with_reducible refine load_val HK.out 0 rfl _ rfl rfl rfl (Ho.g1 _) (Ho.p1 _) ?_)
              | (with_reducible refine load_val HK.out 0 rfl _ rfl rfl rfl (Ho.g2 _) (Ho.p2 _) ?_)
              | (with_reducible refine load_val HK.out 0 rfl _ rfl rfl rfl (Ho.g3 _) (Ho.p3 _) ?_)
              | (with_reducible refine load_val HK.out 0 rfl _ rfl rfl rfl (Ho.g4 _) (Ho.p4 _) ?_)
              | (with_reducible refine load_val_want HK.out 0 _ rfl rfl rfl rfl (Ho.g0 _) (Ho.p0 _) ?_)
              | (with_reducible refine load_val_want HK.out 0 _ rfl rfl rfl rfl (Ho.g1 _) (Ho.p1 _) ?_)
              | (with_reducible refine load_val_want HK.out 0 _ rfl rfl rfl rfl (Ho.g2 _) (Ho.p2 _) ?_)
              | (with_reducible refine load_val_want HK.out 0 _ rfl rfl rfl rfl (Ho.g3 _) (Ho.p3 _) ?_)
              | (with_reducible refine load_val_want HK.out 0 _ rfl rfl rfl rfl (Ho.g4 _) (Ho.p4 _) ?_)
              | (go_at_call 55; (with_reducible refine (rep_anyH _ _).mono ?_); rintro e u ⟨rfl, rfl⟩)
              | (go_at_call 37; (with_reducible refine (is_any _ _).mono ?_); rintro e u ⟨rfl, rfl⟩)
              | (go_at_call 56; (with_reducible refine (cnt_anyH _ _).mono ?_); rintro e u ⟨rfl, rfl⟩)
              | (with_reducible refine geq_want h2 _ _ _ rfl rfl rfl rfl ?_))
            go_ret
            exact ⟨rfl, HK.out.bel⟩
          | true =>
            cases h6 : decide (1 ≤ a.s) with
            | false =>
              rw [show rightH a = false by simp only [rightH]; simp [h1, h2, h3, h4, h5, h6]]
              go_enter Try.func68, Try.ntmps68
              go_wp2_with (first
                | (with_reducible refine box_new (R := a.l) HK.out rfl _ rfl rfl ?_; intro b u hk hb; clear hb; clear HK; have HK := Lib.hid hk; clear hk)
                | (with_reducible refine load_val HK.out 0 rfl _ rfl rfl rfl (Ho.g0 _) (Ho.p0 _) ?_)
                | (with_reducible refine load_val HK.out 0 rfl _ rfl rfl rfl (Ho.g1 _) (Ho.p1 _) ?_)
                | (with_reducible refine load_val HK.out 0 rfl _ rfl rfl rfl (Ho.g2 _) (Ho.p2 _) ?_)
                | (with_reducible refine load_val HK.out 0 rfl _ rfl rfl rfl (Ho.g3 _) (Ho.p3 _) ?_)
                | (with_reducible refine load_val HK.out 0 rfl _ rfl rfl rfl (Ho.g4 _) (Ho.p4 _) ?_)
                | (with_reducible refine load_val_want HK.out 0 _ rfl rfl rfl rfl (Ho.g0 _) (Ho.p0 _) ?_)
                | (with_reducible refine load_val_want HK.out 0 _ rfl rfl rfl rfl (Ho.g1 _) (Ho.p1 _) ?_)
                | (with_reducible refine load_val_want HK.out 0 _ rfl rfl rfl rfl (Ho.g2 _) (Ho.p2 _) ?_)
                | (with_reducible refine load_val_want HK.out 0 _ rfl rfl rfl rfl (Ho.g3 _) (Ho.p3 _) ?_)
                | (with_reducible refine load_val_want HK.out 0 _ rfl rfl rfl rfl (Ho.g4 _) (Ho.p4 _) ?_)
                | (go_at_call 55; (with_reducible refine (rep_anyH _ _).mono ?_); rintro e u ⟨rfl, rfl⟩)
                | (go_at_call 37; (with_reducible refine (is_any _ _).mono ?_); rintro e u ⟨rfl, rfl⟩)
                | (go_at_call 56; (with_reducible refine (cnt_anyH _ _).mono ?_); rintro e u ⟨rfl, rfl⟩)
                | (with_reducible refine geq_want h2 _ _ _ rfl rfl rfl rfl ?_)
                | (with_reducible refine geq_want h6 _ _ _ rfl rfl rfl rfl ?_))
              go_ret
              exact ⟨rfl, HK.out.bel⟩
            | true =>
              cases h7 : decide (a.s ≤ 3) with
              | false =>
                rw [show rightH a = false by simp only [rightH]; simp [h1, h2, h3, h4, h5, h6, h7]]
                go_enter Try.func68, Try.ntmps68
                go_wp2_with (first
                  | (with_reducible refine box_new (R := a.l) HK.out rfl _ rfl rfl ?_; intro b u hk hb; clear hb; clear HK; have HK := Lib.hid hk; clear hk)
                  | (with_reducible refine load_val HK.out 0 rfl _ rfl rfl rfl (Ho.g0 _) (Ho.p0 _) ?_)
                  | (with_reducible refine load_val HK.out 0 rfl _ rfl rfl rfl (Ho.g1 _) (Ho.p1 _) ?_)
                  | (with_reducible refine load_val HK.out 0 rfl _ rfl rfl rfl (Ho.g2 _) (Ho.p2 _) ?_)
                  | (with_reducible refine load_val HK.out 0 rfl _ rfl rfl rfl (Ho.g3 _) (Ho.p3 _) ?_)
                  | (with_reducible refine load_val HK.out 0 rfl _ rfl rfl rfl (Ho.g4 _) (Ho.p4 _) ?_)
                  | (with_reducible refine load_val_want HK.out 0 _ rfl rfl rfl rfl (Ho.g0 _) (Ho.p0 _) ?_)
                  | (with_reducible refine load_val_want HK.out 0 _ rfl rfl rfl rfl (Ho.g1 _) (Ho.p1 _) ?_)
                  | (with_reducible refine load_val_want HK.out 0 _ rfl rfl rfl rfl (Ho.g2 _) (Ho.p2 _) ?_)
                  | (with_reducible refine load_val_want HK.out 0 _ rfl rfl rfl rfl (Ho.g3 _) (Ho.p3 _) ?_)
                  | (with_reducible refine load_val_want HK.out 0 _ rfl rfl rfl rfl (Ho.g4 _) (Ho.p4 _) ?_)
                  | (go_at_call 55; (with_reducible refine (rep_anyH _ _).mono ?_); rintro e u ⟨rfl, rfl⟩)
                  | (go_at_call 37; (with_reducible refine (is_any _ _).mono ?_); rintro e u ⟨rfl, rfl⟩)
                  | (go_at_call 56; (with_reducible refine (cnt_anyH _ _).mono ?_); rintro e u ⟨rfl, rfl⟩)
                  | (with_reducible refine geq_want h2 _ _ _ rfl rfl rfl rfl ?_)
                  | (with_reducible refine geq_want h6 _ _ _ rfl rfl rfl rfl ?_)
                  | (with_reducible refine leq_want h7 _ _ _ rfl rfl rfl rfl ?_))
                go_ret
                exact ⟨rfl, HK.out.bel⟩
              | true =>
                rw [show rightH a = true by simp only [rightH]; simp [h1, h2, h3, h4, h5, h6, h7]]
                go_enter Try.func68, Try.ntmps68
                go_wp2_with (first
                  | (with_reducible refine box_new (R := a.l) HK.out rfl _ rfl rfl ?_; intro b u hk hb; clear hb; clear HK; have HK := Lib.hid hk; clear hk)
                  | (with_reducible refine load_val HK.out 0 rfl _ rfl rfl rfl (Ho.g0 _) (Ho.p0 _) ?_)
                  | (with_reducible refine load_val HK.out 0 rfl _ rfl rfl rfl (Ho.g1 _) (Ho.p1 _) ?_)
                  | (with_reducible refine load_val HK.out 0 rfl _ rfl rfl rfl (Ho.g2 _) (Ho.p2 _) ?_)
                  | (with_reducible refine load_val HK.out 0 rfl _ rfl rfl rfl (Ho.g3 _) (Ho.p3 _) ?_)
                  | (with_reducible refine load_val HK.out 0 rfl _ rfl rfl rfl (Ho.g4 _) (Ho.p4 _) ?_)
                  | (with_reducible refine load_val_want HK.out 0 _ rfl rfl rfl rfl (Ho.g0 _) (Ho.p0 _) ?_)
                  | (with_reducible refine load_val_want HK.out 0 _ rfl rfl rfl rfl (Ho.g1 _) (Ho.p1 _) ?_)
                  | (with_reducible refine load_val_want HK.out 0 _ rfl rfl rfl rfl (Ho.g2 _) (Ho.p2 _) ?_)
                  | (with_reducible refine load_val_want HK.out 0 _ rfl rfl rfl rfl (Ho.g3 _) (Ho.p3 _) ?_)
                  | (with_reducible refine load_val_want HK.out 0 _ rfl rfl rfl rfl (Ho.g4 _) (Ho.p4 _) ?_)
                  | (go_at_call 55; (with_reducible refine (rep_anyH _ _).mono ?_); rintro e u ⟨rfl, rfl⟩)
                  | (go_at_call 37; (with_reducible refine (is_any _ _).mono ?_); rintro e u ⟨rfl, rfl⟩)
                  | (go_at_call 56; (with_reducible refine (cnt_anyH _ _).mono ?_); rintro e u ⟨rfl, rfl⟩)
                  | (with_reducible refine geq_want h2 _ _ _ rfl rfl rfl rfl ?_)
                  | (with_reducible refine geq_want h6 _ _ _ rfl rfl rfl rfl ?_)
                  | (with_reducible refine leq_want h7 _ _ _ rfl rfl rfl rfl ?_))
                go_ret
                exact ⟨rfl, HK.out.bel⟩
theorem right_doc (h : Ho) : rightH h = (decide (0 ≤ h.r) && (decide (h.r ≤ 15) && (decide (0 < h.n) && (cntBH h.n && (cntBH h.a && (cntBH h.d && (decide (1 ≤ h.s) && decide (h.s ≤ 3)))))))) := by
  rw [Bool.eq_iff_iff, rightH_iff]
  simp only [Bool.and_eq_true, cntB_iffH, decide_eq_true_eq]; omega
set_option maxHeartbeats 1000000 in
theorem rright_anyH (a : Ho) (w : World) :
    Calls Try.prog 46 #[.agg (vals a.l).toArray] w fun e w' => e = .returned (.bool (rightH a)) ∧ Below w.heap.size w w' := by
  have HK := Lib.hid (KeepR.start w)
  cases h0 : decide (0 ≤ a.r) with
  | false =>
    rw [show rightH a = false by simp only [right_doc]; simp [h0]]
    go_enter Try.func46, Try.ntmps46
    go_wp2_with (first
      | (with_reducible refine box_new (R := a.l) HK.out rfl _ rfl rfl ?_; intro b u hk hb; clear hb; clear HK; have HK := Lib.hid hk; clear hk)
      | (with_reducible refine load_val HK.out 0 rfl _ rfl rfl rfl (Ho.g0 _) (Ho.p0 _) ?_)
      | (with_reducible refine load_val HK.out 0 rfl _ rfl rfl rfl (Ho.g1 _) (Ho.p1 _) ?_)
      | (with_reducible refine load_val HK.out 0 rfl _ rfl rfl rfl (Ho.g2 _) (Ho.p2 _) ?_)
      | (with_reducible refine load_val HK.out 0 rfl _ rfl rfl rfl (Ho.g3 _) (Ho.p3 _) ?_)
      | (with_reducible refine load_val HK.out 0 rfl _ rfl rfl rfl (Ho.g4 _) (Ho.p4 _) ?_)
      | (with_reducible refine load_val_want HK.out 0 _ rfl rfl rfl rfl (Ho.g0 _) (Ho.p0 _) ?_)
      | (with_reducible refine load_val_want HK.out 0 _ rfl rfl rfl rfl (Ho.g1 _) (Ho.p1 _) ?_)
      | (with_reducible refine load_val_want HK.out 0 _ rfl rfl rfl rfl (Ho.g2 _) (Ho.p2 _) ?_)
      | (with_reducible refine load_val_want HK.out 0 _ rfl rfl rfl rfl (Ho.g3 _) (Ho.p3 _) ?_)
      | (with_reducible refine load_val_want HK.out 0 _ rfl rfl rfl rfl (Ho.g4 _) (Ho.p4 _) ?_)
      | (go_at_call 65; (with_reducible refine (rcnt_any _ _).mono ?_); rintro e u ⟨rfl, rfl⟩)
      | (with_reducible refine geq_want h0 _ _ _ rfl rfl rfl rfl ?_))
    go_ret
    exact ⟨rfl, HK.out.bel⟩
  | true =>
    cases h1 : decide (a.r ≤ 15) with
    | false =>
      rw [show rightH a = false by simp only [right_doc]; simp [h0, h1]]
      go_enter Try.func46, Try.ntmps46
      go_wp2_with (first
        | (with_reducible refine box_new (R := a.l) HK.out rfl _ rfl rfl ?_; intro b u hk hb; clear hb; clear HK; have HK := Lib.hid hk; clear hk)
        | (with_reducible refine load_val HK.out 0 rfl _ rfl rfl rfl (Ho.g0 _) (Ho.p0 _) ?_)
        | (with_reducible refine load_val HK.out 0 rfl _ rfl rfl rfl (Ho.g1 _) (Ho.p1 _) ?_)
        | (with_reducible refine load_val HK.out 0 rfl _ rfl rfl rfl (Ho.g2 _) (Ho.p2 _) ?_)
        | (with_reducible refine load_val HK.out 0 rfl _ rfl rfl rfl (Ho.g3 _) (Ho.p3 _) ?_)
        | (with_reducible refine load_val HK.out 0 rfl _ rfl rfl rfl (Ho.g4 _) (Ho.p4 _) ?_)
        | (with_reducible refine load_val_want HK.out 0 _ rfl rfl rfl rfl (Ho.g0 _) (Ho.p0 _) ?_)
        | (with_reducible refine load_val_want HK.out 0 _ rfl rfl rfl rfl (Ho.g1 _) (Ho.p1 _) ?_)
        | (with_reducible refine load_val_want HK.out 0 _ rfl rfl rfl rfl (Ho.g2 _) (Ho.p2 _) ?_)
        | (with_reducible refine load_val_want HK.out 0 _ rfl rfl rfl rfl (Ho.g3 _) (Ho.p3 _) ?_)
        | (with_reducible refine load_val_want HK.out 0 _ rfl rfl rfl rfl (Ho.g4 _) (Ho.p4 _) ?_)
        | (go_at_call 65; (with_reducible refine (rcnt_any _ _).mono ?_); rintro e u ⟨rfl, rfl⟩)
        | (with_reducible refine geq_want h0 _ _ _ rfl rfl rfl rfl ?_)
        | (with_reducible refine leq_want h1 _ _ _ rfl rfl rfl rfl ?_))
      go_ret
      exact ⟨rfl, HK.out.bel⟩
    | true =>
      cases h2 : decide (0 < a.n) with
      | false =>
        rw [show rightH a = false by simp only [right_doc]; simp [h0, h1, h2]]
        go_enter Try.func46, Try.ntmps46
        go_wp2_with (first
          | (with_reducible refine box_new (R := a.l) HK.out rfl _ rfl rfl ?_; intro b u hk hb; clear hb; clear HK; have HK := Lib.hid hk; clear hk)
          | (with_reducible refine load_val HK.out 0 rfl _ rfl rfl rfl (Ho.g0 _) (Ho.p0 _) ?_)
          | (with_reducible refine load_val HK.out 0 rfl _ rfl rfl rfl (Ho.g1 _) (Ho.p1 _) ?_)
          | (with_reducible refine load_val HK.out 0 rfl _ rfl rfl rfl (Ho.g2 _) (Ho.p2 _) ?_)
          | (with_reducible refine load_val HK.out 0 rfl _ rfl rfl rfl (Ho.g3 _) (Ho.p3 _) ?_)
          | (with_reducible refine load_val HK.out 0 rfl _ rfl rfl rfl (Ho.g4 _) (Ho.p4 _) ?_)
          | (with_reducible refine load_val_want HK.out 0 _ rfl rfl rfl rfl (Ho.g0 _) (Ho.p0 _) ?_)
          | (with_reducible refine load_val_want HK.out 0 _ rfl rfl rfl rfl (Ho.g1 _) (Ho.p1 _) ?_)
          | (with_reducible refine load_val_want HK.out 0 _ rfl rfl rfl rfl (Ho.g2 _) (Ho.p2 _) ?_)
          | (with_reducible refine load_val_want HK.out 0 _ rfl rfl rfl rfl (Ho.g3 _) (Ho.p3 _) ?_)
          | (with_reducible refine load_val_want HK.out 0 _ rfl rfl rfl rfl (Ho.g4 _) (Ho.p4 _) ?_)
          | (go_at_call 65; (with_reducible refine (rcnt_any _ _).mono ?_); rintro e u ⟨rfl, rfl⟩)
          | (with_reducible refine geq_want h0 _ _ _ rfl rfl rfl rfl ?_)
          | (with_reducible refine leq_want h1 _ _ _ rfl rfl rfl rfl ?_)
          | (with_reducible refine gtr_want h2 _ _ _ rfl rfl rfl rfl ?_))
        go_ret
        exact ⟨rfl, HK.out.bel⟩
      | true =>
        cases h3 : cntBH a.n with
        | false =>
          rw [show rightH a = false by simp only [right_doc]; simp [h0, h1, h2, h3]]
          go_enter Try.func46, Try.ntmps46
          go_wp2_with (first
            | (with_reducible refine box_new (R := a.l) HK.out rfl _ rfl rfl ?_; intro b u hk hb; clear hb; clear HK; have HK := Lib.hid hk; clear hk)
            | (with_reducible refine load_val HK.out 0 rfl _ rfl rfl rfl (Ho.g0 _) (Ho.p0 _) ?_)
            | (with_reducible refine load_val HK.out 0 rfl _ rfl rfl rfl (Ho.g1 _) (Ho.p1 _) ?_)
            | (with_reducible refine load_val HK.out 0 rfl _ rfl rfl rfl (Ho.g2 _) (Ho.p2 _) ?_)
            | (with_reducible refine load_val HK.out 0 rfl _ rfl rfl rfl (Ho.g3 _) (Ho.p3 _) ?_)
            | (with_reducible refine load_val HK.out 0 rfl _ rfl rfl rfl (Ho.g4 _) (Ho.p4 _) ?_)
            | (with_reducible refine load_val_want HK.out 0 _ rfl rfl rfl rfl (Ho.g0 _) (Ho.p0 _) ?_)
            | (with_reducible refine load_val_want HK.out 0 _ rfl rfl rfl rfl (Ho.g1 _) (Ho.p1 _) ?_)
            | (with_reducible refine load_val_want HK.out 0 _ rfl rfl rfl rfl (Ho.g2 _) (Ho.p2 _) ?_)
            | (with_reducible refine load_val_want HK.out 0 _ rfl rfl rfl rfl (Ho.g3 _) (Ho.p3 _) ?_)
            | (with_reducible refine load_val_want HK.out 0 _ rfl rfl rfl rfl (Ho.g4 _) (Ho.p4 _) ?_)
            | (go_at_call 65; (with_reducible refine (rcnt_any _ _).mono ?_); rintro e u ⟨rfl, rfl⟩)
            | (with_reducible refine geq_want h0 _ _ _ rfl rfl rfl rfl ?_)
            | (with_reducible refine leq_want h1 _ _ _ rfl rfl rfl rfl ?_)
            | (with_reducible refine gtr_want h2 _ _ _ rfl rfl rfl rfl ?_))
          go_ret
          exact ⟨rfl, HK.out.bel⟩
        | true =>
          cases h4 : cntBH a.a with
          | false =>
            rw [show rightH a = false by simp only [right_doc]; simp [h0, h1, h2, h3, h4]]
            go_enter Try.func46, Try.ntmps46
            go_wp2_with (first
              | (with_reducible refine box_new (R := a.l) HK.out rfl _ rfl rfl ?_; intro b u hk hb; clear hb; clear HK; have HK := Lib.hid hk; clear hk)
              | (with_reducible refine load_val HK.out 0 rfl _ rfl rfl rfl (Ho.g0 _) (Ho.p0 _) ?_)
              | (with_reducible refine load_val HK.out 0 rfl _ rfl rfl rfl (Ho.g1 _) (Ho.p1 _) ?_)
              | (with_reducible refine load_val HK.out 0 rfl _ rfl rfl rfl (Ho.g2 _) (Ho.p2 _) ?_)
              | (with_reducible refine load_val HK.out 0 rfl _ rfl rfl rfl (Ho.g3 _) (Ho.p3 _) ?_)
              | (with_reducible refine load_val HK.out 0 rfl _ rfl rfl rfl (Ho.g4 _) (Ho.p4 _) ?_)
              | (with_reducible refine load_val_want HK.out 0 _ rfl rfl rfl rfl (Ho.g0 _) (Ho.p0 _) ?_)
              | (with_reducible refine load_val_want HK.out 0 _ rfl rfl rfl rfl (Ho.g1 _) (Ho.p1 _) ?_)
              | (with_reducible refine load_val_want HK.out 0 _ rfl rfl rfl rfl (Ho.g2 _) (Ho.p2 _) ?_)
              | (with_reducible refine load_val_want HK.out 0 _ rfl rfl rfl rfl (Ho.g3 _) (Ho.p3 _) ?_)
              | (with_reducible refine load_val_want HK.out 0 _ rfl rfl rfl rfl (Ho.g4 _) (Ho.p4 _) ?_)
              | (go_at_call 65; (with_reducible refine (rcnt_any _ _).mono ?_); rintro e u ⟨rfl, rfl⟩)
              | (with_reducible refine geq_want h0 _ _ _ rfl rfl rfl rfl ?_)
              | (with_reducible refine leq_want h1 _ _ _ rfl rfl rfl rfl ?_)
              | (with_reducible refine gtr_want h2 _ _ _ rfl rfl rfl rfl ?_))
            go_ret
            exact ⟨rfl, HK.out.bel⟩
          | true =>
            cases h5 : cntBH a.d with
            | false =>
              rw [show rightH a = false by simp only [right_doc]; simp [h0, h1, h2, h3, h4, h5]]
              go_enter Try.func46, Try.ntmps46
              go_wp2_with (first
                | (with_reducible refine box_new (R := a.l) HK.out rfl _ rfl rfl ?_; intro b u hk hb; clear hb; clear HK; have HK := Lib.hid hk; clear hk)
                | (with_reducible refine load_val HK.out 0 rfl _ rfl rfl rfl (Ho.g0 _) (Ho.p0 _) ?_)
                | (with_reducible refine load_val HK.out 0 rfl _ rfl rfl rfl (Ho.g1 _) (Ho.p1 _) ?_)
                | (with_reducible refine load_val HK.out 0 rfl _ rfl rfl rfl (Ho.g2 _) (Ho.p2 _) ?_)
                | (with_reducible refine load_val HK.out 0 rfl _ rfl rfl rfl (Ho.g3 _) (Ho.p3 _) ?_)
                | (with_reducible refine load_val HK.out 0 rfl _ rfl rfl rfl (Ho.g4 _) (Ho.p4 _) ?_)
                | (with_reducible refine load_val_want HK.out 0 _ rfl rfl rfl rfl (Ho.g0 _) (Ho.p0 _) ?_)
                | (with_reducible refine load_val_want HK.out 0 _ rfl rfl rfl rfl (Ho.g1 _) (Ho.p1 _) ?_)
                | (with_reducible refine load_val_want HK.out 0 _ rfl rfl rfl rfl (Ho.g2 _) (Ho.p2 _) ?_)
                | (with_reducible refine load_val_want HK.out 0 _ rfl rfl rfl rfl (Ho.g3 _) (Ho.p3 _) ?_)
                | (with_reducible refine load_val_want HK.out 0 _ rfl rfl rfl rfl (Ho.g4 _) (Ho.p4 _) ?_)
                | (go_at_call 65; (with_reducible refine (rcnt_any _ _).mono ?_); rintro e u ⟨rfl, rfl⟩)
                | (with_reducible refine geq_want h0 _ _ _ rfl rfl rfl rfl ?_)
                | (with_reducible refine leq_want h1 _ _ _ rfl rfl rfl rfl ?_)
                | (with_reducible refine gtr_want h2 _ _ _ rfl rfl rfl rfl ?_))
              go_ret
              exact ⟨rfl, HK.out.bel⟩
            | true =>
              cases h6 : decide (1 ≤ a.s) with
              | false =>
                rw [show rightH a = false by simp only [right_doc]; simp [h0, h1, h2, h3, h4, h5, h6]]
                go_enter Try.func46, Try.ntmps46
                go_wp2_with (first
                  | (with_reducible refine box_new (R := a.l) HK.out rfl _ rfl rfl ?_; intro b u hk hb; clear hb; clear HK; have HK := Lib.hid hk; clear hk)
                  | (with_reducible refine load_val HK.out 0 rfl _ rfl rfl rfl (Ho.g0 _) (Ho.p0 _) ?_)
                  | (with_reducible refine load_val HK.out 0 rfl _ rfl rfl rfl (Ho.g1 _) (Ho.p1 _) ?_)
                  | (with_reducible refine load_val HK.out 0 rfl _ rfl rfl rfl (Ho.g2 _) (Ho.p2 _) ?_)
                  | (with_reducible refine load_val HK.out 0 rfl _ rfl rfl rfl (Ho.g3 _) (Ho.p3 _) ?_)
                  | (with_reducible refine load_val HK.out 0 rfl _ rfl rfl rfl (Ho.g4 _) (Ho.p4 _) ?_)
                  | (with_reducible refine load_val_want HK.out 0 _ rfl rfl rfl rfl (Ho.g0 _) (Ho.p0 _) ?_)
                  | (with_reducible refine load_val_want HK.out 0 _ rfl rfl rfl rfl (Ho.g1 _) (Ho.p1 _) ?_)
                  | (with_reducible refine load_val_want HK.out 0 _ rfl rfl rfl rfl (Ho.g2 _) (Ho.p2 _) ?_)
                  | (with_reducible refine load_val_want HK.out 0 _ rfl rfl rfl rfl (Ho.g3 _) (Ho.p3 _) ?_)
                  | (with_reducible refine load_val_want HK.out 0 _ rfl rfl rfl rfl (Ho.g4 _) (Ho.p4 _) ?_)
                  | (go_at_call 65; (with_reducible refine (rcnt_any _ _).mono ?_); rintro e u ⟨rfl, rfl⟩)
                  | (with_reducible refine geq_want h0 _ _ _ rfl rfl rfl rfl ?_)
                  | (with_reducible refine leq_want h1 _ _ _ rfl rfl rfl rfl ?_)
                  | (with_reducible refine gtr_want h2 _ _ _ rfl rfl rfl rfl ?_)
                  | (with_reducible refine geq_want h6 _ _ _ rfl rfl rfl rfl ?_))
                go_ret
                exact ⟨rfl, HK.out.bel⟩
              | true =>
                cases h7 : decide (a.s ≤ 3) with
                | false =>
                  rw [show rightH a = false by simp only [right_doc]; simp [h0, h1, h2, h3, h4, h5, h6, h7]]
                  go_enter Try.func46, Try.ntmps46
                  go_wp2_with (first
                    | (with_reducible refine box_new (R := a.l) HK.out rfl _ rfl rfl ?_; intro b u hk hb; clear hb; clear HK; have HK := Lib.hid hk; clear hk)
                    | (with_reducible refine load_val HK.out 0 rfl _ rfl rfl rfl (Ho.g0 _) (Ho.p0 _) ?_)
                    | (with_reducible refine load_val HK.out 0 rfl _ rfl rfl rfl (Ho.g1 _) (Ho.p1 _) ?_)
                    | (with_reducible refine load_val HK.out 0 rfl _ rfl rfl rfl (Ho.g2 _) (Ho.p2 _) ?_)
                    | (with_reducible refine load_val HK.out 0 rfl _ rfl rfl rfl (Ho.g3 _) (Ho.p3 _) ?_)
                    | (with_reducible refine load_val HK.out 0 rfl _ rfl rfl rfl (Ho.g4 _) (Ho.p4 _) ?_)
                    | (with_reducible refine load_val_want HK.out 0 _ rfl rfl rfl rfl (Ho.g0 _) (Ho.p0 _) ?_)
                    | (with_reducible refine load_val_want HK.out 0 _ rfl rfl rfl rfl (Ho.g1 _) (Ho.p1 _) ?_)
                    | (with_reducible refine load_val_want HK.out 0 _ rfl rfl rfl rfl (Ho.g2 _) (Ho.p2 _) ?_)
                    | (with_reducible refine load_val_want HK.out 0 _ rfl rfl rfl rfl (Ho.g3 _) (Ho.p3 _) ?_)
                    | (with_reducible refine load_val_want HK.out 0 _ rfl rfl rfl rfl (Ho.g4 _) (Ho.p4 _) ?_)
                    | (go_at_call 65; (with_reducible refine (rcnt_any _ _).mono ?_); rintro e u ⟨rfl, rfl⟩)
                    | (with_reducible refine geq_want h0 _ _ _ rfl rfl rfl rfl ?_)
                    | (with_reducible refine leq_want h1 _ _ _ rfl rfl rfl rfl ?_)
                    | (with_reducible refine gtr_want h2 _ _ _ rfl rfl rfl rfl ?_)
                    | (with_reducible refine geq_want h6 _ _ _ rfl rfl rfl rfl ?_)
                    | (with_reducible refine leq_want h7 _ _ _ rfl rfl rfl rfl ?_))
                  go_ret
                  exact ⟨rfl, HK.out.bel⟩
                | true =>
                  rw [show rightH a = true by simp only [right_doc]; simp [h0, h1, h2, h3, h4, h5, h6, h7]]
                  go_enter Try.func46, Try.ntmps46
                  go_wp2_with (first
                    | (with_reducible refine box_new (R := a.l) HK.out rfl _ rfl rfl ?_; intro b u hk hb; clear hb; clear HK; have HK := Lib.hid hk; clear hk)
                    | (with_reducible refine load_val HK.out 0 rfl _ rfl rfl rfl (Ho.g0 _) (Ho.p0 _) ?_)
                    | (with_reducible refine load_val HK.out 0 rfl _ rfl rfl rfl (Ho.g1 _) (Ho.p1 _) ?_)
                    | (with_reducible refine load_val HK.out 0 rfl _ rfl rfl rfl (Ho.g2 _) (Ho.p2 _) ?_)
                    | (with_reducible refine load_val HK.out 0 rfl _ rfl rfl rfl (Ho.g3 _) (Ho.p3 _) ?_)
                    | (with_reducible refine load_val HK.out 0 rfl _ rfl rfl rfl (Ho.g4 _) (Ho.p4 _) ?_)
                    | (with_reducible refine load_val_want HK.out 0 _ rfl rfl rfl rfl (Ho.g0 _) (Ho.p0 _) ?_)
                    | (with_reducible refine load_val_want HK.out 0 _ rfl rfl rfl rfl (Ho.g1 _) (Ho.p1 _) ?_)
                    | (with_reducible refine load_val_want HK.out 0 _ rfl rfl rfl rfl (Ho.g2 _) (Ho.p2 _) ?_)
                    | (with_reducible refine load_val_want HK.out 0 _ rfl rfl rfl rfl (Ho.g3 _) (Ho.p3 _) ?_)
                    | (with_reducible refine load_val_want HK.out 0 _ rfl rfl rfl rfl (Ho.g4 _) (Ho.p4 _) ?_)
                    | (go_at_call 65; (with_reducible refine (rcnt_any _ _).mono ?_); rintro e u ⟨rfl, rfl⟩)
                    | (with_reducible refine geq_want h0 _ _ _ rfl rfl rfl rfl ?_)
                    | (with_reducible refine leq_want h1 _ _ _ rfl rfl rfl rfl ?_)
                    | (with_reducible refine gtr_want h2 _ _ _ rfl rfl rfl rfl ?_)
                    | (with_reducible refine geq_want h6 _ _ _ rfl rfl rfl rfl ?_)
                    | (with_reducible refine leq_want h7 _ _ _ rfl rfl rfl rfl ?_))
                  go_ret
                  exact ⟨rfl, HK.out.bel⟩
end Go.Proofs.Ytofngihdnjgmeaa
