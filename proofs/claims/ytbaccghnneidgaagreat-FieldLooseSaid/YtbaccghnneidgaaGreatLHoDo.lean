/- Contracts of what package hold and the document's layer 6 are made of: which numbers, which hold may be, and which one goes ahead. -/
import Derived.Test.YtbaccghnneidgaaGreatLHoo
namespace Go.Proofs.YtbaccghnneidgaaGreat
set_option maxRecDepth 100000
open Go.ChangeShapes Go.WideShapes Go.ChangeAt Go.RowKit

theorem geq_want {ops : Array Oper} {rest : List Oper} {o : Oper} {a : Act} {u : World} {Q : Exit → Act → World → Prop} {p q : Int} {b : Bool} (hb : decide (q ≤ p) = b) (x y : Operand) (t : TypeId) (ho : o.op = .binOp .geq 3 x y t) (hx : a.eval x = .int .i64 p) (hy : a.eval y = .int .i64 q)
    (hw : Region.wanted o (yielded ops a.tmps) = true) (h : wpList Tryz.prog ops Q rest (a.put o.dst (.bool b)) u) : wpList Tryz.prog ops Q (o :: rest) a u :=
  BigFrame.wpList_want hw fun K hK => by
    subst hb
    have h1 := hK _ _ h
    unfold Oper.wp execOp
    simp only [ho, hx, hy]
    simp [go_sem]
    simpa [Act.put] using h1
theorem leq_want {ops : Array Oper} {rest : List Oper} {o : Oper} {a : Act} {u : World} {Q : Exit → Act → World → Prop} {p q : Int} {b : Bool} (hb : decide (p ≤ q) = b) (x y : Operand) (t : TypeId) (ho : o.op = .binOp .leq 3 x y t) (hx : a.eval x = .int .i64 p) (hy : a.eval y = .int .i64 q)
    (hw : Region.wanted o (yielded ops a.tmps) = true) (h : wpList Tryz.prog ops Q rest (a.put o.dst (.bool b)) u) : wpList Tryz.prog ops Q (o :: rest) a u :=
  BigFrame.wpList_want hw fun K hK => by
    subst hb
    have h1 := hK _ _ h
    unfold Oper.wp execOp
    simp only [ho, hx, hy]
    simp [go_sem]
    simpa [Act.put] using h1
theorem lss_want {ops : Array Oper} {rest : List Oper} {o : Oper} {a : Act} {u : World} {Q : Exit → Act → World → Prop} {p q : Int} {b : Bool} (hb : decide (p < q) = b) (x y : Operand) (t : TypeId) (ho : o.op = .binOp .lss 3 x y t) (hx : a.eval x = .int .i64 p) (hy : a.eval y = .int .i64 q)
    (hw : Region.wanted o (yielded ops a.tmps) = true) (h : wpList Tryz.prog ops Q rest (a.put o.dst (.bool b)) u) : wpList Tryz.prog ops Q (o :: rest) a u :=
  BigFrame.wpList_want hw fun K hK => by
    subst hb
    have h1 := hK _ _ h
    unfold Oper.wp execOp
    simp only [ho, hx, hy]
    simp [go_sem]
    simpa [Act.put] using h1
theorem eql_want {ops : Array Oper} {rest : List Oper} {o : Oper} {a : Act} {u : World} {Q : Exit → Act → World → Prop} {p q : Int} {b : Bool} (hb : (p == q) = b) (x y : Operand) (t : TypeId) (ho : o.op = .binOp .eql 3 x y t) (hx : a.eval x = .int .i64 p) (hy : a.eval y = .int .i64 q)
    (hw : Region.wanted o (yielded ops a.tmps) = true) (h : wpList Tryz.prog ops Q rest (a.put o.dst (.bool b)) u) : wpList Tryz.prog ops Q (o :: rest) a u :=
  BigFrame.wpList_want hw fun K hK => by
    subst hb
    have h1 := hK _ _ h
    unfold Oper.wp execOp
    simp only [ho, hx, hy]
    simp [go_sem]
    simpa [Act.put] using h1
theorem neq_want {ops : Array Oper} {rest : List Oper} {o : Oper} {a : Act} {u : World} {Q : Exit → Act → World → Prop} {p q : Int} {b : Bool} (hb : (p != q) = b) (x y : Operand) (t : TypeId) (ho : o.op = .binOp .neq 3 x y t) (hx : a.eval x = .int .i64 p) (hy : a.eval y = .int .i64 q)
    (hw : Region.wanted o (yielded ops a.tmps) = true) (h : wpList Tryz.prog ops Q rest (a.put o.dst (.bool b)) u) : wpList Tryz.prog ops Q (o :: rest) a u :=
  BigFrame.wpList_want hw fun K hK => by
    subst hb
    have h1 := hK _ _ h
    unfold Oper.wp execOp
    simp only [ho, hx, hy]
    simp [go_sem]
    simpa [Act.put] using h1
theorem rep_anyH (k : Int) (w : World) :
    Calls Tryz.prog 109 #[.int .i64 k] w fun e w' => e = .returned (.bool (repBH k)) ∧ w = w' := by
  by_cases h1 : 0 ≤ k
  · by_cases h3 : k < 16
    · rw [repB_iffH.2 ⟨h1, h3⟩]
      go_enter Tryz.func109, Tryz.ntmps109
      go_wp2
      go_ret
      exact ⟨rfl, rfl⟩
    · rw [repB_notH.2 (.inr (by omega))]
      go_enter Tryz.func109, Tryz.ntmps109
      go_wp2
      go_ret
      exact ⟨rfl, rfl⟩
  · rw [repB_notH.2 (.inl (by omega))]
    go_enter Tryz.func109, Tryz.ntmps109
    go_wp2
    go_ret
    exact ⟨rfl, rfl⟩
theorem cnt_anyH (n : Int) (w : World) :
    Calls Tryz.prog 110 #[.int .i64 n] w fun e w' => e = .returned (.bool (cntBH n)) ∧ w = w' := by
  by_cases h1 : 0 ≤ n
  · rw [show cntBH n = isB n by simp [cntBH, h1]]
    go_enter Tryz.func110, Tryz.ntmps110
    go_wp2_with (first
      | (go_at_call 50; (with_reducible refine (is_any _ _).mono ?_); rintro e u ⟨rfl, rfl⟩))
    go_ret
    exact ⟨rfl, rfl⟩
  · rw [show cntBH n = false by simp [cntBH, h1]]
    go_enter Tryz.func110, Tryz.ntmps110
    go_wp2_with (first
      | (go_at_call 50; (with_reducible refine (is_any _ _).mono ?_); rintro e u ⟨rfl, rfl⟩))
    go_ret
    exact ⟨rfl, rfl⟩
theorem nan_anyH (n : Int) (w : World) :
    Calls Tryz.prog 165 #[.int .i64 n] w fun e w' => e = .returned (.bool false) ∧ w = w' := by
  go_enter Tryz.func165, Tryz.ntmps165
  go_wp2
  go_ret
  simp
theorem cmpi_anyH (x y : Int) (w : World) :
    Calls Tryz.prog 143 #[.int .i64 x, .int .i64 y] w fun e w' => e = .returned (.int .i64 (cmpIH x y)) ∧ w = w' := by
  rcases cmpI_casesH x y with ⟨h, e⟩ | ⟨h, e⟩ | ⟨h, e⟩
  · rw [e]; clear e
    go_enter Tryz.func143, Tryz.ntmps143
    go_wp2_with (first
      | (go_at_call 165; (with_reducible refine (nan_anyH _ _).mono ?_); rintro e u ⟨rfl, rfl⟩))
    go_ret
    exact ⟨rfl, rfl⟩
  · rw [e]; clear e
    have h' : ¬ x < y := by omega
    go_enter Tryz.func143, Tryz.ntmps143
    go_wp2_with (first
      | (go_at_call 165; (with_reducible refine (nan_anyH _ _).mono ?_); rintro e u ⟨rfl, rfl⟩))
    go_ret
    exact ⟨rfl, rfl⟩
  · rw [e]; clear e
    have h1 : ¬ x < y := by omega
    have h2 : ¬ y < x := by omega
    clear h
    go_enter Tryz.func143, Tryz.ntmps143
    go_wp2_with (first
      | (go_at_call 165; (with_reducible refine (nan_anyH _ _).mono ?_); rintro e u ⟨rfl, rfl⟩))
    go_ret
    exact ⟨rfl, rfl⟩
set_option maxHeartbeats 1000000 in
theorem hright_any (a : Ho) (w : World) :
    Calls Tryz.prog 127 #[.agg (vals a.l).toArray] w fun e w' => e = .returned (.bool (rightH a)) ∧ Below w.heap.size w w' := by
  have HK := Lib.hid (KeepR.start w)
  cases h1 : repBH a.r with
  | false =>
    rw [show rightH a = false by simp only [rightH]; simp [h1]]
    go_enter Tryz.func127, Tryz.ntmps127
    go_wp2_with (first
      | (with_reducible refine box_new (R := a.l) HK.out rfl _ rfl rfl ?_; intro b u hk hb; clear hb; clear HK; have HK := Lib.hid hk; clear hk)
      | (with_reducible refine load_val HK.out 0 rfl _ rfl rfl rfl (Ho.g0 _) (Ho.p0 _) ?_)
      | (with_reducible refine load_val HK.out 0 rfl _ rfl rfl rfl (Ho.g1 _) (Ho.p1 _) ?_)
      | (with_reducible refine load_val HK.out 0 rfl _ rfl rfl rfl (Ho.g2 _) (Ho.p2 _) ?_)
      | (with_reducible refine load_val HK.out 0 rfl _ rfl rfl rfl (Ho.g3 _) (Ho.p3 _) ?_)
      | (with_reducible refine load_val HK.out 0 rfl _ rfl rfl rfl (Ho.g4 _) (Ho.p4 _) ?_)
      | (with_reducible refine load_val_want HK.out 0 _ rfl rfl rfl rfl (Ho.g0 _) (Ho.p0 _) ?_)
      | (with_reducible refine load_val_want HK.out 0 _ rfl rfl rfl rfl (Ho.g1 _) (Ho.p1 _) ?_)
      | (with_reducible refine load_val_want HK.out 0 _ rfl rfl rfl rfl (Ho.g2 _) (Ho.p2 _) ?_)
      | (with_reducible refine load_val_want HK.out 0 _ rfl rfl rfl rfl (Ho.g3 _) (Ho.p3 _) ?_)
      | (with_reducible refine load_val_want HK.out 0 _ rfl rfl rfl rfl (Ho.g4 _) (Ho.p4 _) ?_)
      | (go_at_call 109; (with_reducible refine (rep_anyH _ _).mono ?_); rintro e u ⟨rfl, rfl⟩)
      | (go_at_call 50; (with_reducible refine (is_any _ _).mono ?_); rintro e u ⟨rfl, rfl⟩)
      | (go_at_call 110; (with_reducible refine (cnt_anyH _ _).mono ?_); rintro e u ⟨rfl, rfl⟩))
    go_ret
    exact ⟨rfl, HK.out.bel⟩
  | true =>
    cases h2 : decide (1 ≤ a.n) with
    | false =>
      rw [show rightH a = false by simp only [rightH]; simp [h1, h2]]
      go_enter Tryz.func127, Tryz.ntmps127
      go_wp2_with (first
        | (with_reducible refine box_new (R := a.l) HK.out rfl _ rfl rfl ?_; intro b u hk hb; clear hb; clear HK; have HK := Lib.hid hk; clear hk)
        | (with_reducible refine load_val HK.out 0 rfl _ rfl rfl rfl (Ho.g0 _) (Ho.p0 _) ?_)
        | (with_reducible refine load_val HK.out 0 rfl _ rfl rfl rfl (Ho.g1 _) (Ho.p1 _) ?_)
        | (with_reducible refine load_val HK.out 0 rfl _ rfl rfl rfl (Ho.g2 _) (Ho.p2 _) ?_)
        | (with_reducible refine load_val HK.out 0 rfl _ rfl rfl rfl (Ho.g3 _) (Ho.p3 _) ?_)
        | (with_reducible refine load_val HK.out 0 rfl _ rfl rfl rfl (Ho.g4 _) (Ho.p4 _) ?_)
        | (with_reducible refine load_val_want HK.out 0 _ rfl rfl rfl rfl (Ho.g0 _) (Ho.p0 _) ?_)
        | (with_reducible refine load_val_want HK.out 0 _ rfl rfl rfl rfl (Ho.g1 _) (Ho.p1 _) ?_)
        | (with_reducible refine load_val_want HK.out 0 _ rfl rfl rfl rfl (Ho.g2 _) (Ho.p2 _) ?_)
        | (with_reducible refine load_val_want HK.out 0 _ rfl rfl rfl rfl (Ho.g3 _) (Ho.p3 _) ?_)
        | (with_reducible refine load_val_want HK.out 0 _ rfl rfl rfl rfl (Ho.g4 _) (Ho.p4 _) ?_)
        | (go_at_call 109; (with_reducible refine (rep_anyH _ _).mono ?_); rintro e u ⟨rfl, rfl⟩)
        | (go_at_call 50; (with_reducible refine (is_any _ _).mono ?_); rintro e u ⟨rfl, rfl⟩)
        | (go_at_call 110; (with_reducible refine (cnt_anyH _ _).mono ?_); rintro e u ⟨rfl, rfl⟩)
        | (with_reducible refine geq_want h2 _ _ _ rfl rfl rfl rfl ?_))
      go_ret
      exact ⟨rfl, HK.out.bel⟩
    | true =>
      cases h3 : isB a.n with
      | false =>
        rw [show rightH a = false by simp only [rightH]; simp [h1, h2, h3]]
        go_enter Tryz.func127, Tryz.ntmps127
        go_wp2_with (first
          | (with_reducible refine box_new (R := a.l) HK.out rfl _ rfl rfl ?_; intro b u hk hb; clear hb; clear HK; have HK := Lib.hid hk; clear hk)
          | (with_reducible refine load_val HK.out 0 rfl _ rfl rfl rfl (Ho.g0 _) (Ho.p0 _) ?_)
          | (with_reducible refine load_val HK.out 0 rfl _ rfl rfl rfl (Ho.g1 _) (Ho.p1 _) ?_)
          | (with_reducible refine load_val HK.out 0 rfl _ rfl rfl rfl (Ho.g2 _) (Ho.p2 _) ?_)
          | (with_reducible refine load_val HK.out 0 rfl _ rfl rfl rfl (Ho.g3 _) (Ho.p3 _) ?_)
          | (with_reducible refine load_val HK.out 0 rfl _ rfl rfl rfl (Ho.g4 _) (Ho.p4 _) ?_)
          | (with_reducible refine load_val_want HK.out 0 _ rfl rfl rfl rfl (Ho.g0 _) (Ho.p0 _) ?_)
          | (with_reducible refine load_val_want HK.out 0 _ rfl rfl rfl rfl (Ho.g1 _) (Ho.p1 _) ?_)
          | (with_reducible refine load_val_want HK.out 0 _ rfl rfl rfl rfl (Ho.g2 _) (Ho.p2 _) ?_)
          | (with_reducible refine load_val_want HK.out 0 _ rfl rfl rfl rfl (Ho.g3 _) (Ho.p3 _) ?_)
          | (with_reducible refine load_val_want HK.out 0 _ rfl rfl rfl rfl (Ho.g4 _) (Ho.p4 _) ?_)
          | (go_at_call 109; (with_reducible refine (rep_anyH _ _).mono ?_); rintro e u ⟨rfl, rfl⟩)
          | (go_at_call 50; (with_reducible refine (is_any _ _).mono ?_); rintro e u ⟨rfl, rfl⟩)
          | (go_at_call 110; (with_reducible refine (cnt_anyH _ _).mono ?_); rintro e u ⟨rfl, rfl⟩)
          | (with_reducible refine geq_want h2 _ _ _ rfl rfl rfl rfl ?_))
        go_ret
        exact ⟨rfl, HK.out.bel⟩
      | true =>
        cases h4 : cntBH a.a with
        | false =>
          rw [show rightH a = false by simp only [rightH]; simp [h1, h2, h3, h4]]
          go_enter Tryz.func127, Tryz.ntmps127
          go_wp2_with (first
            | (with_reducible refine box_new (R := a.l) HK.out rfl _ rfl rfl ?_; intro b u hk hb; clear hb; clear HK; have HK := Lib.hid hk; clear hk)
            | (with_reducible refine load_val HK.out 0 rfl _ rfl rfl rfl (Ho.g0 _) (Ho.p0 _) ?_)
            | (with_reducible refine load_val HK.out 0 rfl _ rfl rfl rfl (Ho.g1 _) (Ho.p1 _) ?_)
            | (with_reducible refine load_val HK.out 0 rfl _ rfl rfl rfl (Ho.g2 _) (Ho.p2 _) ?_)
            | (with_reducible refine load_val HK.out 0 rfl _ rfl rfl rfl (Ho.g3 _) (Ho.p3 _) ?_)
            | (with_reducible refine load_val HK.out 0 rfl _ rfl rfl rfl (Ho.g4 _) (Ho.p4 _) ?_)
            | (with_reducible refine load_val_want HK.out 0 _ rfl rfl rfl rfl (Ho.g0 _) (Ho.p0 _) ?_)
            | (with_reducible refine load_val_want HK.out 0 _ rfl rfl rfl rfl (Ho.g1 _) (Ho.p1 _) ?_)
            | (with_reducible refine load_val_want HK.out 0 _ rfl rfl rfl rfl (Ho.g2 _) (Ho.p2 _) ?_)
            | (with_reducible refine load_val_want HK.out 0 _ rfl rfl rfl rfl (Ho.g3 _) (Ho.p3 _) ?_)
            | (with_reducible refine load_val_want HK.out 0 _ rfl rfl rfl rfl (Ho.g4 _) (Ho.p4 _) ?_)
            | (go_at_call 109; (with_reducible refine (rep_anyH _ _).mono ?_); rintro e u ⟨rfl, rfl⟩)
            | (go_at_call 50; (with_reducible refine (is_any _ _).mono ?_); rintro e u ⟨rfl, rfl⟩)
            | (go_at_call 110; (with_reducible refine (cnt_anyH _ _).mono ?_); rintro e u ⟨rfl, rfl⟩)
            | (with_reducible refine geq_want h2 _ _ _ rfl rfl rfl rfl ?_))
          go_ret
          exact ⟨rfl, HK.out.bel⟩
        | true =>
          cases h5 : cntBH a.d with
          | false =>
            rw [show rightH a = false by simp only [rightH]; simp [h1, h2, h3, h4, h5]]
            go_enter Tryz.func127, Tryz.ntmps127
            go_wp2_with (first
              | (with_reducible refine box_new (R := a.l) HK.out rfl _ rfl rfl ?_; intro b u hk hb; clear hb; clear HK; have HK := Lib.hid hk; clear hk)
              | (with_reducible refine load_val HK.out 0 rfl _ rfl rfl rfl (Ho.g0 _) (Ho.p0 _) ?_)
              | (with_reducible refine load_val HK.out 0 rfl _ rfl rfl rfl (Ho.g1 _) (Ho.p1 _) ?_)
              | (with_reducible refine load_val HK.out 0 rfl _ rfl rfl rfl (Ho.g2 _) (Ho.p2 _) ?_)
              | (with_reducible refine load_val HK.out 0 rfl _ rfl rfl rfl (Ho.g3 _) (Ho.p3 _) ?_)
              | (with_reducible refine load_val HK.out 0 rfl _ rfl rfl rfl (Ho.g4 _) (Ho.p4 _) ?_)
              | (with_reducible refine load_val_want HK.out 0 _ rfl rfl rfl rfl (Ho.g0 _) (Ho.p0 _) ?_)
              | (with_reducible refine load_val_want HK.out 0 _ rfl rfl rfl rfl (Ho.g1 _) (Ho.p1 _) ?_)
              | (with_reducible refine load_val_want HK.out 0 _ rfl rfl rfl rfl (Ho.g2 _) (Ho.p2 _) ?_)
              | (with_reducible refine load_val_want HK.out 0 _ rfl rfl rfl rfl (Ho.g3 _) (Ho.p3 _) ?_)
              | (with_reducible refine load_val_want HK.out 0 _ rfl rfl rfl rfl (Ho.g4 _) (Ho.p4 _) ?_)
              | (go_at_call 109; (with_reducible refine (rep_anyH _ _).mono ?_); rintro e u ⟨rfl, rfl⟩)
              | (go_at_call 50; (with_reducible refine (is_any _ _).mono ?_); rintro e u ⟨rfl, rfl⟩)
              | (go_at_call 110; (with_reducible refine (cnt_anyH _ _).mono ?_); rintro e u ⟨rfl, rfl⟩)
              | (with_reducible refine geq_want h2 _ _ _ rfl rfl rfl rfl ?_))
            go_ret
            exact ⟨rfl, HK.out.bel⟩
          | true =>
            cases h6 : decide (1 ≤ a.s) with
            | false =>
              rw [show rightH a = false by simp only [rightH]; simp [h1, h2, h3, h4, h5, h6]]
              go_enter Tryz.func127, Tryz.ntmps127
              go_wp2_with (first
                | (with_reducible refine box_new (R := a.l) HK.out rfl _ rfl rfl ?_; intro b u hk hb; clear hb; clear HK; have HK := Lib.hid hk; clear hk)
                | (with_reducible refine load_val HK.out 0 rfl _ rfl rfl rfl (Ho.g0 _) (Ho.p0 _) ?_)
                | (with_reducible refine load_val HK.out 0 rfl _ rfl rfl rfl (Ho.g1 _) (Ho.p1 _) ?_)
                | (with_reducible refine load_val HK.out 0 rfl _ rfl rfl rfl (Ho.g2 _) (Ho.p2 _) ?_)
                | (with_reducible refine load_val HK.out 0 rfl _ rfl rfl rfl (Ho.g3 _) (Ho.p3 _) ?_)
                | (with_reducible refine load_val HK.out 0 rfl _ rfl rfl rfl (Ho.g4 _) (Ho.p4 _) ?_)
                | (with_reducible refine load_val_want HK.out 0 _ rfl rfl rfl rfl (Ho.g0 _) (Ho.p0 _) ?_)
                | (with_reducible refine load_val_want HK.out 0 _ rfl rfl rfl rfl (Ho.g1 _) (Ho.p1 _) ?_)
                | (with_reducible refine load_val_want HK.out 0 _ rfl rfl rfl rfl (Ho.g2 _) (Ho.p2 _) ?_)
                | (with_reducible refine load_val_want HK.out 0 _ rfl rfl rfl rfl (Ho.g3 _) (Ho.p3 _) ?_)
                | (with_reducible refine load_val_want HK.out 0 _ rfl rfl rfl rfl (Ho.g4 _) (Ho.p4 _) ?_)
                | (go_at_call 109; (with_reducible refine (rep_anyH _ _).mono ?_); rintro e u ⟨rfl, rfl⟩)
                | (go_at_call 50; (with_reducible refine (is_any _ _).mono ?_); rintro e u ⟨rfl, rfl⟩)
                | (go_at_call 110; (with_reducible refine (cnt_anyH _ _).mono ?_); rintro e u ⟨rfl, rfl⟩)
                | (with_reducible refine geq_want h2 _ _ _ rfl rfl rfl rfl ?_)
                | (with_reducible refine geq_want h6 _ _ _ rfl rfl rfl rfl ?_))
              go_ret
              exact ⟨rfl, HK.out.bel⟩
            | true =>
              cases h7 : decide (a.s ≤ 3) with
              | false =>
                rw [show rightH a = false by simp only [rightH]; simp [h1, h2, h3, h4, h5, h6, h7]]
                go_enter Tryz.func127, Tryz.ntmps127
                go_wp2_with (first
                  | (with_reducible refine box_new (R := a.l) HK.out rfl _ rfl rfl ?_; intro b u hk hb; clear hb; clear HK; have HK := Lib.hid hk; clear hk)
                  | (with_reducible refine load_val HK.out 0 rfl _ rfl rfl rfl (Ho.g0 _) (Ho.p0 _) ?_)
                  | (with_reducible refine load_val HK.out 0 rfl _ rfl rfl rfl (Ho.g1 _) (Ho.p1 _) ?_)
                  | (with_reducible refine load_val HK.out 0 rfl _ rfl rfl rfl (Ho.g2 _) (Ho.p2 _) ?_)
                  | (with_reducible refine load_val HK.out 0 rfl _ rfl rfl rfl (Ho.g3 _) (Ho.p3 _) ?_)
                  | (with_reducible refine load_val HK.out 0 rfl _ rfl rfl rfl (Ho.g4 _) (Ho.p4 _) ?_)
                  | (with_reducible refine load_val_want HK.out 0 _ rfl rfl rfl rfl (Ho.g0 _) (Ho.p0 _) ?_)
                  | (with_reducible refine load_val_want HK.out 0 _ rfl rfl rfl rfl (Ho.g1 _) (Ho.p1 _) ?_)
                  | (with_reducible refine load_val_want HK.out 0 _ rfl rfl rfl rfl (Ho.g2 _) (Ho.p2 _) ?_)
                  | (with_reducible refine load_val_want HK.out 0 _ rfl rfl rfl rfl (Ho.g3 _) (Ho.p3 _) ?_)
                  | (with_reducible refine load_val_want HK.out 0 _ rfl rfl rfl rfl (Ho.g4 _) (Ho.p4 _) ?_)
                  | (go_at_call 109; (with_reducible refine (rep_anyH _ _).mono ?_); rintro e u ⟨rfl, rfl⟩)
                  | (go_at_call 50; (with_reducible refine (is_any _ _).mono ?_); rintro e u ⟨rfl, rfl⟩)
                  | (go_at_call 110; (with_reducible refine (cnt_anyH _ _).mono ?_); rintro e u ⟨rfl, rfl⟩)
                  | (with_reducible refine geq_want h2 _ _ _ rfl rfl rfl rfl ?_)
                  | (with_reducible refine geq_want h6 _ _ _ rfl rfl rfl rfl ?_)
                  | (with_reducible refine leq_want h7 _ _ _ rfl rfl rfl rfl ?_))
                go_ret
                exact ⟨rfl, HK.out.bel⟩
              | true =>
                rw [show rightH a = true by simp only [rightH]; simp [h1, h2, h3, h4, h5, h6, h7]]
                go_enter Tryz.func127, Tryz.ntmps127
                go_wp2_with (first
                  | (with_reducible refine box_new (R := a.l) HK.out rfl _ rfl rfl ?_; intro b u hk hb; clear hb; clear HK; have HK := Lib.hid hk; clear hk)
                  | (with_reducible refine load_val HK.out 0 rfl _ rfl rfl rfl (Ho.g0 _) (Ho.p0 _) ?_)
                  | (with_reducible refine load_val HK.out 0 rfl _ rfl rfl rfl (Ho.g1 _) (Ho.p1 _) ?_)
                  | (with_reducible refine load_val HK.out 0 rfl _ rfl rfl rfl (Ho.g2 _) (Ho.p2 _) ?_)
                  | (with_reducible refine load_val HK.out 0 rfl _ rfl rfl rfl (Ho.g3 _) (Ho.p3 _) ?_)
                  | (with_reducible refine load_val HK.out 0 rfl _ rfl rfl rfl (Ho.g4 _) (Ho.p4 _) ?_)
                  | (with_reducible refine load_val_want HK.out 0 _ rfl rfl rfl rfl (Ho.g0 _) (Ho.p0 _) ?_)
                  | (with_reducible refine load_val_want HK.out 0 _ rfl rfl rfl rfl (Ho.g1 _) (Ho.p1 _) ?_)
                  | (with_reducible refine load_val_want HK.out 0 _ rfl rfl rfl rfl (Ho.g2 _) (Ho.p2 _) ?_)
                  | (with_reducible refine load_val_want HK.out 0 _ rfl rfl rfl rfl (Ho.g3 _) (Ho.p3 _) ?_)
                  | (with_reducible refine load_val_want HK.out 0 _ rfl rfl rfl rfl (Ho.g4 _) (Ho.p4 _) ?_)
                  | (go_at_call 109; (with_reducible refine (rep_anyH _ _).mono ?_); rintro e u ⟨rfl, rfl⟩)
                  | (go_at_call 50; (with_reducible refine (is_any _ _).mono ?_); rintro e u ⟨rfl, rfl⟩)
                  | (go_at_call 110; (with_reducible refine (cnt_anyH _ _).mono ?_); rintro e u ⟨rfl, rfl⟩)
                  | (with_reducible refine geq_want h2 _ _ _ rfl rfl rfl rfl ?_)
                  | (with_reducible refine geq_want h6 _ _ _ rfl rfl rfl rfl ?_)
                  | (with_reducible refine leq_want h7 _ _ _ rfl rfl rfl rfl ?_))
                go_ret
                exact ⟨rfl, HK.out.bel⟩
end Go.Proofs.YtbaccghnneidgaaGreat
