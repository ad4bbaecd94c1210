/- Plain arithmetic of layer 1 (num): which numbers may be, and what a sum, a difference and a product tell. No program is spoken of here. Contracts of num.Is and num.Add: each tells what the plain arithmetic tells, and leaves the world as it was. A region that draws its order, whose first operations read, call and make memory while S is kept, and whose last ones (stores) wait for all of the first: an operation that yields the same wherever S is kept may be taken first. Ints in memory: lists of ints as the cells that hold them, blocks that are kept while calls make memory, and what the operations on them do.; Plain arithmetic of layer 6 (hold): which holds may be, and what finding, adding up, reserving, ending, letting go and joining tell. No program is spoken of here.; Contracts of what package hold and the document's layer 6 are made of: which numbers, which hold may be, and which one goes ahead.; Vectors (arrays of 16 ints): the lists that they are, the cells that hold them, and what the operations on them do. A region that draws its order, whose operations read what is kept and whose callees only make memory of their own: one walk in the text's order. Several vectors that are kept, each in a block of its own, while calls make memory; and what joining, and being over, hang on. Contracts of vec.Right, vec.Join and vec.Over. Contracts of the document's Over, Right and Join of layer 2. Contracts of vec.Sum and vec.Grow, and of the document's Sum and Grow of layer 2. What a law of layer 2 needs: vectors that come in; 'awake'. Rows of ints: what append does to one, and what a slice expression reads.; Contracts of rights.Right and the document's Right. A contract of the document's Right. Contracts of rights.covered, rights.Use and rights.Move. Contracts of the document's Use and Move. Contracts of rights.Over and of rights.Join's own closure. Contracts of rights.Join and its closure. A contract of rights.Join. Rights, built of two vectors. Contracts of the document's Join and Over.; Counters (579 ints: Init, Low, High, Down, Up): what the document asks of them, in plain lists. No walk.; Contracts of which hold goes ahead: cmp.Or, hold.byName, and the document's Ahead.; Names: which may be; contracts of Name, of both.; Contracts of counter.covers and Right, and of the document's Right. -/
import Derived.Test.YtgblnlpfgdbnnaaGreatRows
import Derived.Test.YtgblnlpfgdbnnaaGreatZ16
namespace Go.Proofs.YtgblnlpfgdbnnaaGreat
open Go.ChangeShapes Go.WideShapes Go.ChangeAt Go.RowKit

/-- A comparison of two ints whose outcome is known, behind a guard that lets it be. -/
theorem gtr_want {ops : Array Oper} {rest : List Oper} {o : Oper} {a : Act} {u : World} {Q : Exit → Act → World → Prop} {p q : Int} {b : Bool} (hb : decide (q < p) = b) (x y : Operand) (t : TypeId) (ho : o.op = .binOp .gtr 3 x y t) (hx : a.eval x = .int .i64 p) (hy : a.eval y = .int .i64 q)
    (hw : Region.wanted o (yielded ops a.tmps) = true) (h : wpList Tryz.prog ops Q rest (a.put o.dst (.bool b)) u) : wpList Tryz.prog ops Q (o :: rest) a u :=
  BigFrame.wpList_want hw fun K hK => by
    subst hb
    have h1 := hK _ _ h
    unfold Oper.wp execOp
    simp only [ho, hx, hy]
    simp [go_sem]
    simpa [Act.put] using h1

end Go.Proofs.YtgblnlpfgdbnnaaGreat

namespace Go.Proofs.YtgblnlpfgdbnnaaGreat

/-! ### Which lists may be. -/
theorem rights_doc {l : List Ho} (hu : upTo l l.length = true) : decide (l.length ≤ 16) = rightsL l := by simp [rightsL, hu]
/-! ### Strictly rising lists. -/

end Go.Proofs.YtgblnlpfgdbnnaaGreat

namespace Go.Proofs.YtgblnlpfgdbnnaaGreat
set_option maxRecDepth 100000
open Go.ChangeShapes Go.WideShapes Go.ChangeAt Go.RowKit

theorem lss_want {ops : Array Oper} {rest : List Oper} {o : Oper} {a : Act} {u : World} {Q : Exit → Act → World → Prop} {p q : Int} {b : Bool} (hb : decide (p < q) = b) (x y : Operand) (t : TypeId) (ho : o.op = .binOp .lss 3 x y t) (hx : a.eval x = .int .i64 p) (hy : a.eval y = .int .i64 q)
    (hw : Region.wanted o (yielded ops a.tmps) = true) (h : wpList Tryz.prog ops Q rest (a.put o.dst (.bool b)) u) : wpList Tryz.prog ops Q (o :: rest) a u :=
  BigFrame.wpList_want hw fun K hK => by
    subst hb
    have h1 := hK _ _ h
    unfold Oper.wp execOp
    simp only [ho, hx, hy]
    simp [go_sem]
    simpa [Act.put] using h1
theorem eql_want {ops : Array Oper} {rest : List Oper} {o : Oper} {a : Act} {u : World} {Q : Exit → Act → World → Prop} {p q : Int} {b : Bool} (hb : (p == q) = b) (x y : Operand) (t : TypeId) (ho : o.op = .binOp .eql 3 x y t) (hx : a.eval x = .int .i64 p) (hy : a.eval y = .int .i64 q)
    (hw : Region.wanted o (yielded ops a.tmps) = true) (h : wpList Tryz.prog ops Q rest (a.put o.dst (.bool b)) u) : wpList Tryz.prog ops Q (o :: rest) a u :=
  BigFrame.wpList_want hw fun K hK => by
    subst hb
    have h1 := hK _ _ h
    unfold Oper.wp execOp
    simp only [ho, hx, hy]
    simp [go_sem]
    simpa [Act.put] using h1
theorem ris_anyH (n : Int) (w : World) : Calls Tryz.prog 40 #[.int .i64 n] w fun e w' => e = .returned (.bool (isB n)) ∧ w = w' := by
  by_cases h1 : -1099511627776 ≤ n
  · by_cases h2 : n ≤ 1099511627776
    · have e : isB n = true := isB_iff.2 ⟨h1, h2⟩
      rw [e]; clear e
      go_enter Tryz.func40, Tryz.ntmps40
      go_wp2
      go_ret
      exact ⟨rfl, rfl⟩
    · have e : isB n = false := isB_not.2 (by omega)
      rw [e]; clear e
      go_enter Tryz.func40, Tryz.ntmps40
      go_wp2
      go_ret
      exact ⟨rfl, rfl⟩
  · have e : isB n = false := isB_not.2 (by omega)
    rw [e]; clear e
    go_enter Tryz.func40, Tryz.ntmps40
    go_wp2
    go_ret
    exact ⟨rfl, rfl⟩
theorem rcnt_any (n : Int) (w : World) :
    Calls Tryz.prog 144 #[.int .i64 n] w fun e w' => e = .returned (.bool (cntBH n)) ∧ w = w' := by
  by_cases h1 : 0 ≤ n
  · rw [show cntBH n = isB n by simp [cntBH, h1]]
    go_enter Tryz.func144, Tryz.ntmps144
    go_wp2_with (first
      | (go_at_call 40; (with_reducible refine (ris_anyH _ _).mono ?_); rintro e u ⟨rfl, rfl⟩))
    go_ret
    exact ⟨rfl, rfl⟩
  · rw [show cntBH n = false by simp [cntBH, h1]]
    go_enter Tryz.func144, Tryz.ntmps144
    go_wp2_with (first
      | (go_at_call 40; (with_reducible refine (ris_anyH _ _).mono ?_); rintro e u ⟨rfl, rfl⟩))
    go_ret
    exact ⟨rfl, rfl⟩
theorem right_doc (h : Ho) : rightH h = (decide (0 ≤ h.r) && (decide (h.r ≤ 15) && (decide (0 < h.n) && (cntBH h.n && (cntBH h.a && (cntBH h.d && (decide (1 ≤ h.s) && decide (h.s ≤ 3)))))))) := by
  rw [Bool.eq_iff_iff, rightH_iff]
  simp only [Bool.and_eq_true, cntB_iffH, decide_eq_true_eq]; omega
set_option maxHeartbeats 1000000 in
theorem rright_anyH (a : Ho) (w : World) :
    Calls Tryz.prog 110 #[.agg (vals a.l).toArray] w fun e w' => e = .returned (.bool (rightH a)) ∧ Below w.heap.size w w' := by
  have HK := Lib.hid (KeepR.start w)
  cases h0 : decide (0 ≤ a.r) with
  | false =>
    rw [show rightH a = false by simp only [right_doc]; simp [h0]]
    go_enter Tryz.func110, Tryz.ntmps110
    go_wp2_with (first
      | (with_reducible refine box_new (R := a.l) HK.out rfl _ rfl rfl ?_; intro b u hk hb; clear hb; clear HK; have HK := Lib.hid hk; clear hk)
      | (with_reducible refine load_val HK.out 0 rfl _ rfl rfl rfl (Ho.g0 _) (Ho.p0 _) ?_)
      | (with_reducible refine load_val HK.out 0 rfl _ rfl rfl rfl (Ho.g1 _) (Ho.p1 _) ?_)
      | (with_reducible refine load_val HK.out 0 rfl _ rfl rfl rfl (Ho.g2 _) (Ho.p2 _) ?_)
      | (with_reducible refine load_val HK.out 0 rfl _ rfl rfl rfl (Ho.g3 _) (Ho.p3 _) ?_)
      | (with_reducible refine load_val HK.out 0 rfl _ rfl rfl rfl (Ho.g4 _) (Ho.p4 _) ?_)
      | (with_reducible refine load_val_want HK.out 0 _ rfl rfl rfl rfl (Ho.g0 _) (Ho.p0 _) ?_)
      | (with_reducible refine load_val_want HK.out 0 _ rfl rfl rfl rfl (Ho.g1 _) (Ho.p1 _) ?_)
      | (with_reducible refine load_val_want HK.out 0 _ rfl rfl rfl rfl (Ho.g2 _) (Ho.p2 _) ?_)
      | (with_reducible refine load_val_want HK.out 0 _ rfl rfl rfl rfl (Ho.g3 _) (Ho.p3 _) ?_)
      | (with_reducible refine load_val_want HK.out 0 _ rfl rfl rfl rfl (Ho.g4 _) (Ho.p4 _) ?_)
      | (go_at_call 144; (with_reducible refine (rcnt_any _ _).mono ?_); rintro e u ⟨rfl, rfl⟩)
      | (with_reducible refine geq_want h0 _ _ _ rfl rfl rfl rfl ?_))
    go_ret
    exact ⟨rfl, HK.out.bel⟩
  | true =>
    cases h1 : decide (a.r ≤ 15) with
    | false =>
      rw [show rightH a = false by simp only [right_doc]; simp [h0, h1]]
      go_enter Tryz.func110, Tryz.ntmps110
      go_wp2_with (first
        | (with_reducible refine box_new (R := a.l) HK.out rfl _ rfl rfl ?_; intro b u hk hb; clear hb; clear HK; have HK := Lib.hid hk; clear hk)
        | (with_reducible refine load_val HK.out 0 rfl _ rfl rfl rfl (Ho.g0 _) (Ho.p0 _) ?_)
        | (with_reducible refine load_val HK.out 0 rfl _ rfl rfl rfl (Ho.g1 _) (Ho.p1 _) ?_)
        | (with_reducible refine load_val HK.out 0 rfl _ rfl rfl rfl (Ho.g2 _) (Ho.p2 _) ?_)
        | (with_reducible refine load_val HK.out 0 rfl _ rfl rfl rfl (Ho.g3 _) (Ho.p3 _) ?_)
        | (with_reducible refine load_val HK.out 0 rfl _ rfl rfl rfl (Ho.g4 _) (Ho.p4 _) ?_)
        | (with_reducible refine load_val_want HK.out 0 _ rfl rfl rfl rfl (Ho.g0 _) (Ho.p0 _) ?_)
        | (with_reducible refine load_val_want HK.out 0 _ rfl rfl rfl rfl (Ho.g1 _) (Ho.p1 _) ?_)
        | (with_reducible refine load_val_want HK.out 0 _ rfl rfl rfl rfl (Ho.g2 _) (Ho.p2 _) ?_)
        | (with_reducible refine load_val_want HK.out 0 _ rfl rfl rfl rfl (Ho.g3 _) (Ho.p3 _) ?_)
        | (with_reducible refine load_val_want HK.out 0 _ rfl rfl rfl rfl (Ho.g4 _) (Ho.p4 _) ?_)
        | (go_at_call 144; (with_reducible refine (rcnt_any _ _).mono ?_); rintro e u ⟨rfl, rfl⟩)
        | (with_reducible refine geq_want h0 _ _ _ rfl rfl rfl rfl ?_)
        | (with_reducible refine leq_want h1 _ _ _ rfl rfl rfl rfl ?_))
      go_ret
      exact ⟨rfl, HK.out.bel⟩
    | true =>
      cases h2 : decide (0 < a.n) with
      | false =>
        rw [show rightH a = false by simp only [right_doc]; simp [h0, h1, h2]]
        go_enter Tryz.func110, Tryz.ntmps110
        go_wp2_with (first
          | (with_reducible refine box_new (R := a.l) HK.out rfl _ rfl rfl ?_; intro b u hk hb; clear hb; clear HK; have HK := Lib.hid hk; clear hk)
          | (with_reducible refine load_val HK.out 0 rfl _ rfl rfl rfl (Ho.g0 _) (Ho.p0 _) ?_)
          | (with_reducible refine load_val HK.out 0 rfl _ rfl rfl rfl (Ho.g1 _) (Ho.p1 _) ?_)
          | (with_reducible refine load_val HK.out 0 rfl _ rfl rfl rfl (Ho.g2 _) (Ho.p2 _) ?_)
          | (with_reducible refine load_val HK.out 0 rfl _ rfl rfl rfl (Ho.g3 _) (Ho.p3 _) ?_)
          | (with_reducible refine load_val HK.out 0 rfl _ rfl rfl rfl (Ho.g4 _) (Ho.p4 _) ?_)
          | (with_reducible refine load_val_want HK.out 0 _ rfl rfl rfl rfl (Ho.g0 _) (Ho.p0 _) ?_)
          | (with_reducible refine load_val_want HK.out 0 _ rfl rfl rfl rfl (Ho.g1 _) (Ho.p1 _) ?_)
          | (with_reducible refine load_val_want HK.out 0 _ rfl rfl rfl rfl (Ho.g2 _) (Ho.p2 _) ?_)
          | (with_reducible refine load_val_want HK.out 0 _ rfl rfl rfl rfl (Ho.g3 _) (Ho.p3 _) ?_)
          | (with_reducible refine load_val_want HK.out 0 _ rfl rfl rfl rfl (Ho.g4 _) (Ho.p4 _) ?_)
          | (go_at_call 144; (with_reducible refine (rcnt_any _ _).mono ?_); rintro e u ⟨rfl, rfl⟩)
          | (with_reducible refine geq_want h0 _ _ _ rfl rfl rfl rfl ?_)
          | (with_reducible refine leq_want h1 _ _ _ rfl rfl rfl rfl ?_)
          | (with_reducible refine gtr_want h2 _ _ _ rfl rfl rfl rfl ?_))
        go_ret
        exact ⟨rfl, HK.out.bel⟩
      | true =>
        cases h3 : cntBH a.n with
        | false =>
          rw [show rightH a = false by simp only [right_doc]; simp [h0, h1, h2, h3]]
          go_enter Tryz.func110, Tryz.ntmps110
          go_wp2_with (first
            | (with_reducible refine box_new (R := a.l) HK.out rfl _ rfl rfl ?_; intro b u hk hb; clear hb; clear HK; have HK := Lib.hid hk; clear hk)
            | (with_reducible refine load_val HK.out 0 rfl _ rfl rfl rfl (Ho.g0 _) (Ho.p0 _) ?_)
            | (with_reducible refine load_val HK.out 0 rfl _ rfl rfl rfl (Ho.g1 _) (Ho.p1 _) ?_)
            | (with_reducible refine load_val HK.out 0 rfl _ rfl rfl rfl (Ho.g2 _) (Ho.p2 _) ?_)
            | (with_reducible refine load_val HK.out 0 rfl _ rfl rfl rfl (Ho.g3 _) (Ho.p3 _) ?_)
            | (with_reducible refine load_val HK.out 0 rfl _ rfl rfl rfl (Ho.g4 _) (Ho.p4 _) ?_)
            | (with_reducible refine load_val_want HK.out 0 _ rfl rfl rfl rfl (Ho.g0 _) (Ho.p0 _) ?_)
            | (with_reducible refine load_val_want HK.out 0 _ rfl rfl rfl rfl (Ho.g1 _) (Ho.p1 _) ?_)
            | (with_reducible refine load_val_want HK.out 0 _ rfl rfl rfl rfl (Ho.g2 _) (Ho.p2 _) ?_)
            | (with_reducible refine load_val_want HK.out 0 _ rfl rfl rfl rfl (Ho.g3 _) (Ho.p3 _) ?_)
            | (with_reducible refine load_val_want HK.out 0 _ rfl rfl rfl rfl (Ho.g4 _) (Ho.p4 _) ?_)
            | (go_at_call 144; (with_reducible refine (rcnt_any _ _).mono ?_); rintro e u ⟨rfl, rfl⟩)
            | (with_reducible refine geq_want h0 _ _ _ rfl rfl rfl rfl ?_)
            | (with_reducible refine leq_want h1 _ _ _ rfl rfl rfl rfl ?_)
            | (with_reducible refine gtr_want h2 _ _ _ rfl rfl rfl rfl ?_))
          go_ret
          exact ⟨rfl, HK.out.bel⟩
        | true =>
          cases h4 : cntBH a.a with
          | false =>
            rw [show rightH a = false by simp only [right_doc]; simp [h0, h1, h2, h3, h4]]
            go_enter Tryz.func110, Tryz.ntmps110
            go_wp2_with (first
              | (with_reducible refine box_new (R := a.l) HK.out rfl _ rfl rfl ?_; intro b u hk hb; clear hb; clear HK; have HK := Lib.hid hk; clear hk)
              | (with_reducible refine load_val HK.out 0 rfl _ rfl rfl rfl (Ho.g0 _) (Ho.p0 _) ?_)
              | (with_reducible refine load_val HK.out 0 rfl _ rfl rfl rfl (Ho.g1 _) (Ho.p1 _) ?_)
              | (with_reducible refine load_val HK.out 0 rfl _ rfl rfl rfl (Ho.g2 _) (Ho.p2 _) ?_)
              | (with_reducible refine load_val HK.out 0 rfl _ rfl rfl rfl (Ho.g3 _) (Ho.p3 _) ?_)
              | (with_reducible refine load_val HK.out 0 rfl _ rfl rfl rfl (Ho.g4 _) (Ho.p4 _) ?_)
              | (with_reducible refine load_val_want HK.out 0 _ rfl rfl rfl rfl (Ho.g0 _) (Ho.p0 _) ?_)
              | (with_reducible refine load_val_want HK.out 0 _ rfl rfl rfl rfl (Ho.g1 _) (Ho.p1 _) ?_)
              | (with_reducible refine load_val_want HK.out 0 _ rfl rfl rfl rfl (Ho.g2 _) (Ho.p2 _) ?_)
              | (with_reducible refine load_val_want HK.out 0 _ rfl rfl rfl rfl (Ho.g3 _) (Ho.p3 _) ?_)
              | (with_reducible refine load_val_want HK.out 0 _ rfl rfl rfl rfl (Ho.g4 _) (Ho.p4 _) ?_)
              | (go_at_call 144; (with_reducible refine (rcnt_any _ _).mono ?_); rintro e u ⟨rfl, rfl⟩)
              | (with_reducible refine geq_want h0 _ _ _ rfl rfl rfl rfl ?_)
              | (with_reducible refine leq_want h1 _ _ _ rfl rfl rfl rfl ?_)
              | (with_reducible refine gtr_want h2 _ _ _ rfl rfl rfl rfl ?_))
            go_ret
            exact ⟨rfl, HK.out.bel⟩
          | true =>
            cases h5 : cntBH a.d with
            | false =>
              rw [show rightH a = false by simp only [right_doc]; simp [h0, h1, h2, h3, h4, h5]]
              go_enter Tryz.func110, Tryz.ntmps110
              go_wp2_with (first
                | (with_reducible refine box_new (R := a.l) HK.out rfl _ rfl rfl ?_; intro b u hk hb; clear hb; clear HK; have HK := Lib.hid hk; clear hk)
                | (with_reducible refine load_val HK.out 0 rfl _ rfl rfl rfl (Ho.g0 _) (Ho.p0 _) ?_)
                | (with_reducible refine load_val HK.out 0 rfl _ rfl rfl rfl (Ho.g1 _) (Ho.p1 _) ?_)
                | (with_reducible refine load_val HK.out 0 rfl _ rfl rfl rfl (Ho.g2 _) (Ho.p2 _) ?_)
                | (with_reducible refine load_val HK.out 0 rfl _ rfl rfl rfl (Ho.g3 _) (Ho.p3 _) ?_)
                | (with_reducible refine load_val HK.out 0 rfl _ rfl rfl rfl (Ho.g4 _) (Ho.p4 _) ?_)
                | (with_reducible refine load_val_want HK.out 0 _ rfl rfl rfl rfl (Ho.g0 _) (Ho.p0 _) ?_)
                | (with_reducible refine load_val_want HK.out 0 _ rfl rfl rfl rfl (Ho.g1 _) (Ho.p1 _) ?_)
                | (with_reducible refine load_val_want HK.out 0 _ rfl rfl rfl rfl (Ho.g2 _) (Ho.p2 _) ?_)
                | (with_reducible refine load_val_want HK.out 0 _ rfl rfl rfl rfl (Ho.g3 _) (Ho.p3 _) ?_)
                | (with_reducible refine load_val_want HK.out 0 _ rfl rfl rfl rfl (Ho.g4 _) (Ho.p4 _) ?_)
                | (go_at_call 144; (with_reducible refine (rcnt_any _ _).mono ?_); rintro e u ⟨rfl, rfl⟩)
                | (with_reducible refine geq_want h0 _ _ _ rfl rfl rfl rfl ?_)
                | (with_reducible refine leq_want h1 _ _ _ rfl rfl rfl rfl ?_)
                | (with_reducible refine gtr_want h2 _ _ _ rfl rfl rfl rfl ?_))
              go_ret
              exact ⟨rfl, HK.out.bel⟩
            | true =>
              cases h6 : decide (1 ≤ a.s) with
              | false =>
                rw [show rightH a = false by simp only [right_doc]; simp [h0, h1, h2, h3, h4, h5, h6]]
                go_enter Tryz.func110, Tryz.ntmps110
                go_wp2_with (first
                  | (with_reducible refine box_new (R := a.l) HK.out rfl _ rfl rfl ?_; intro b u hk hb; clear hb; clear HK; have HK := Lib.hid hk; clear hk)
                  | (with_reducible refine load_val HK.out 0 rfl _ rfl rfl rfl (Ho.g0 _) (Ho.p0 _) ?_)
                  | (with_reducible refine load_val HK.out 0 rfl _ rfl rfl rfl (Ho.g1 _) (Ho.p1 _) ?_)
                  | (with_reducible refine load_val HK.out 0 rfl _ rfl rfl rfl (Ho.g2 _) (Ho.p2 _) ?_)
                  | (with_reducible refine load_val HK.out 0 rfl _ rfl rfl rfl (Ho.g3 _) (Ho.p3 _) ?_)
                  | (with_reducible refine load_val HK.out 0 rfl _ rfl rfl rfl (Ho.g4 _) (Ho.p4 _) ?_)
                  | (with_reducible refine load_val_want HK.out 0 _ rfl rfl rfl rfl (Ho.g0 _) (Ho.p0 _) ?_)
                  | (with_reducible refine load_val_want HK.out 0 _ rfl rfl rfl rfl (Ho.g1 _) (Ho.p1 _) ?_)
                  | (with_reducible refine load_val_want HK.out 0 _ rfl rfl rfl rfl (Ho.g2 _) (Ho.p2 _) ?_)
                  | (with_reducible refine load_val_want HK.out 0 _ rfl rfl rfl rfl (Ho.g3 _) (Ho.p3 _) ?_)
                  | (with_reducible refine load_val_want HK.out 0 _ rfl rfl rfl rfl (Ho.g4 _) (Ho.p4 _) ?_)
                  | (go_at_call 144; (with_reducible refine (rcnt_any _ _).mono ?_); rintro e u ⟨rfl, rfl⟩)
                  | (with_reducible refine geq_want h0 _ _ _ rfl rfl rfl rfl ?_)
                  | (with_reducible refine leq_want h1 _ _ _ rfl rfl rfl rfl ?_)
                  | (with_reducible refine gtr_want h2 _ _ _ rfl rfl rfl rfl ?_)
                  | (with_reducible refine geq_want h6 _ _ _ rfl rfl rfl rfl ?_))
                go_ret
                exact ⟨rfl, HK.out.bel⟩
              | true =>
                cases h7 : decide (a.s ≤ 3) with
                | false =>
                  rw [show rightH a = false by simp only [right_doc]; simp [h0, h1, h2, h3, h4, h5, h6, h7]]
                  go_enter Tryz.func110, Tryz.ntmps110
                  go_wp2_with (first
                    | (with_reducible refine box_new (R := a.l) HK.out rfl _ rfl rfl ?_; intro b u hk hb; clear hb; clear HK; have HK := Lib.hid hk; clear hk)
                    | (with_reducible refine load_val HK.out 0 rfl _ rfl rfl rfl (Ho.g0 _) (Ho.p0 _) ?_)
                    | (with_reducible refine load_val HK.out 0 rfl _ rfl rfl rfl (Ho.g1 _) (Ho.p1 _) ?_)
                    | (with_reducible refine load_val HK.out 0 rfl _ rfl rfl rfl (Ho.g2 _) (Ho.p2 _) ?_)
                    | (with_reducible refine load_val HK.out 0 rfl _ rfl rfl rfl (Ho.g3 _) (Ho.p3 _) ?_)
                    | (with_reducible refine load_val HK.out 0 rfl _ rfl rfl rfl (Ho.g4 _) (Ho.p4 _) ?_)
                    | (with_reducible refine load_val_want HK.out 0 _ rfl rfl rfl rfl (Ho.g0 _) (Ho.p0 _) ?_)
                    | (with_reducible refine load_val_want HK.out 0 _ rfl rfl rfl rfl (Ho.g1 _) (Ho.p1 _) ?_)
                    | (with_reducible refine load_val_want HK.out 0 _ rfl rfl rfl rfl (Ho.g2 _) (Ho.p2 _) ?_)
                    | (with_reducible refine load_val_want HK.out 0 _ rfl rfl rfl rfl (Ho.g3 _) (Ho.p3 _) ?_)
                    | (with_reducible refine load_val_want HK.out 0 _ rfl rfl rfl rfl (Ho.g4 _) (Ho.p4 _) ?_)
                    | (go_at_call 144; (with_reducible refine (rcnt_any _ _).mono ?_); rintro e u ⟨rfl, rfl⟩)
                    | (with_reducible refine geq_want h0 _ _ _ rfl rfl rfl rfl ?_)
                    | (with_reducible refine leq_want h1 _ _ _ rfl rfl rfl rfl ?_)
                    | (with_reducible refine gtr_want h2 _ _ _ rfl rfl rfl rfl ?_)
                    | (with_reducible refine geq_want h6 _ _ _ rfl rfl rfl rfl ?_)
                    | (with_reducible refine leq_want h7 _ _ _ rfl rfl rfl rfl ?_))
                  go_ret
                  exact ⟨rfl, HK.out.bel⟩
                | true =>
                  rw [show rightH a = true by simp only [right_doc]; simp [h0, h1, h2, h3, h4, h5, h6, h7]]
                  go_enter Tryz.func110, Tryz.ntmps110
                  go_wp2_with (first
                    | (with_reducible refine box_new (R := a.l) HK.out rfl _ rfl rfl ?_; intro b u hk hb; clear hb; clear HK; have HK := Lib.hid hk; clear hk)
                    | (with_reducible refine load_val HK.out 0 rfl _ rfl rfl rfl (Ho.g0 _) (Ho.p0 _) ?_)
                    | (with_reducible refine load_val HK.out 0 rfl _ rfl rfl rfl (Ho.g1 _) (Ho.p1 _) ?_)
                    | (with_reducible refine load_val HK.out 0 rfl _ rfl rfl rfl (Ho.g2 _) (Ho.p2 _) ?_)
                    | (with_reducible refine load_val HK.out 0 rfl _ rfl rfl rfl (Ho.g3 _) (Ho.p3 _) ?_)
                    | (with_reducible refine load_val HK.out 0 rfl _ rfl rfl rfl (Ho.g4 _) (Ho.p4 _) ?_)
                    | (with_reducible refine load_val_want HK.out 0 _ rfl rfl rfl rfl (Ho.g0 _) (Ho.p0 _) ?_)
                    | (with_reducible refine load_val_want HK.out 0 _ rfl rfl rfl rfl (Ho.g1 _) (Ho.p1 _) ?_)
                    | (with_reducible refine load_val_want HK.out 0 _ rfl rfl rfl rfl (Ho.g2 _) (Ho.p2 _) ?_)
                    | (with_reducible refine load_val_want HK.out 0 _ rfl rfl rfl rfl (Ho.g3 _) (Ho.p3 _) ?_)
                    | (with_reducible refine load_val_want HK.out 0 _ rfl rfl rfl rfl (Ho.g4 _) (Ho.p4 _) ?_)
                    | (go_at_call 144; (with_reducible refine (rcnt_any _ _).mono ?_); rintro e u ⟨rfl, rfl⟩)
                    | (with_reducible refine geq_want h0 _ _ _ rfl rfl rfl rfl ?_)
                    | (with_reducible refine leq_want h1 _ _ _ rfl rfl rfl rfl ?_)
                    | (with_reducible refine gtr_want h2 _ _ _ rfl rfl rfl rfl ?_)
                    | (with_reducible refine geq_want h6 _ _ _ rfl rfl rfl rfl ?_)
                    | (with_reducible refine leq_want h7 _ _ _ rfl rfl rfl rfl ?_))
                  go_ret
                  exact ⟨rfl, HK.out.bel⟩

/-! ### Equality of arrays of ints. -/
/-! ### Loads and stores of whole vectors, at a plain region's list. -/

/-! ### Joining, and being over. -/

theorem rright_any (xs : List Int) (hx : xs.length = 16) (w : World) :
    Calls Tryz.prog 143 #[.agg (vals xs).toArray] w fun e w' => e = .returned (.bool (rightB xs)) ∧ Below w.heap.size w w' := by
  have HI := Lib.hid (rightB_iff hx)
  have HX := Lib.hid hx; clear hx
  have H0 := Lib.hid (box w 33 xs)
  go_enter Tryz.func143, Tryz.ntmps143
  go_wp2
  go_loopw [3] (fun i wr => ∃ k : Nat, k ≤ 16 ∧ i = .int .i64 k ∧ Blk wr w.heap.size 33 xs ∧ Below w.heap.size w wr ∧ ∀ j, j < k → 0 ≤ xs.getD j 0 ∧ xs.getD j 0 ≤ 1099511627776) (fun i _ => 16 - (intOf i).toNat)
  case atStart => exact ⟨0, by omega, rfl, H0.out.1, H0.out.2, fun j hj => by omega⟩
  case round =>
    obtain ⟨k, hk, rfl, hA, hS, hD⟩ := hrel
    have HA := Lib.hid hA; have HS := Lib.hid hS; have HD := Lib.hid hD
    clear hA hS hD H0
    by_cases hlt : k < 16
    · have c1 := HA.out.cell (k := k) (by have := HX.out; omega)
      generalize hx : xs.getD k 0 = x at c1
      have Hx := Lib.hid hx
      clear hx
      have i1 : (0 : Int) ≤ (k : Int) := by omega
      have i2 : (k : Int) < 16 := by omega
      have hf : ¬ (0 ≤ x ∧ x ≤ 1099511627776) → false = rightB xs := fun hn => by
        cases h : rightB xs with
        | false => rfl
        | true => have := HI.out.1 h k hlt; rw [Hx.out] at this; exact absurd this hn
      have HF := Lib.hid hf; clear hf
      by_cases h1 : x < 0
      · go_wp2
        go_ret
        exact ⟨congrArg (fun b => Ending.returned (.bool b)) (HF.out (by omega)), HS.out⟩
      · by_cases h2 : 1099511627776 < x
        · go_wp2
          go_ret
          exact ⟨congrArg (fun b => Ending.returned (.bool b)) (HF.out (by omega)), HS.out⟩
        · go_wp2
          go_roundw
          case rel => exact ⟨k + 1, by omega, by go_num, HA.out, HS.out, fun j hj => by
            by_cases hjk : j = k
            · rw [hjk, Hx.out]; omega
            · exact HD.out j (by omega)⟩
          case measure => simp [intOf]; omega
    · have ht : true = rightB xs := (HI.out.2 fun j hj => HD.out j (by omega)).symm
      have HT := Lib.hid ht; clear ht
      go_wp2
      go_ret
      exact ⟨congrArg (fun b => Ending.returned (.bool b)) HT.out, HS.out⟩

theorem rsumv_any (xs : List Int) (hx : xs.length = 16) (w : World) :
    Calls Tryz.prog 109 #[.agg (vals xs).toArray] w fun e w' => e = .returned (.tuple #[.int .i64 (sumN xs), .int .i64 (sumE xs)]) ∧ Below w.heap.size w w' := by
  have H0 := Lib.hid (box w 33 xs)
  have HR := Lib.hid (H0.out.1.reads hx)
  go_enter Tryz.func109, Tryz.ntmps109
  go_wp2_with ((go_at_call 31; (with_reducible refine (rsum_any _ _ _ _ _ HR.out).mono ?_); rintro e w' ⟨rfl, rfl⟩))
  go_ret2
  exact ⟨rfl, H0.out.2⟩

def okR (R : List Int) (k : Nat) : Bool := (rightB (seg R 0 16) && rightB (seg R 16 16)) && ((List.range k).all fun j => rightB (seg R (32 + j * 16) 16) && (R.getD (32 + j * 16 + j) 0 == 0))
theorem okR_succ (R : List Int) (k : Nat) : okR R (k + 1) = (okR R k && (rightB (seg R (32 + k * 16) 16) && (R.getD (32 + k * 16 + k) 0 == 0))) := by
  simp only [okR, List.range_succ, List.all_append, List.all_cons, List.all_nil, Bool.and_true, Bool.and_assoc]
theorem okR_all (R : List Int) : okR R 16 = rightsB R := by
  rw [Bool.eq_iff_iff, rightsB_iff]
  simp only [okR, Bool.and_eq_true, List.all_eq_true, List.mem_range, beq_iff_eq]
  constructor
  · rintro ⟨⟨h1, h2⟩, h3⟩
    refine ⟨fun j hj => ?_, fun j hj => (h3 j hj).2⟩
    match j, hj with
    | 0, _ => simpa using h1
    | 1, _ => simpa using h2
    | j + 2, hj =>
      have := (h3 j (by omega)).1
      rwa [show 32 + j * 16 = (j + 2) * 16 by omega] at this
  · rintro ⟨h1, h2⟩
    refine ⟨⟨by simpa using h1 0 (by omega), by simpa using h1 1 (by omega)⟩, fun j hj => ⟨?_, h2 j hj⟩⟩
    have := h1 (j + 2) (by omega)
    rwa [show (j + 2) * 16 = 32 + j * 16 by omega] at this

theorem rright_r (R : List Int) (hR : R.length = 288) (w : World) :
    Calls Tryz.prog 108 #[.agg (vals R).toArray] w fun e w' => e = .returned (.bool (rightsB R)) ∧ Below w.heap.size w w' := by
  have HS0 := Lib.hid (seg_length (R := R) (o := 0) (n := 16) (by omega))
  have HS1 := Lib.hid (seg_length (R := R) (o := 16) (n := 16) (by omega))
  have HR := Lib.hid hR; clear hR
  have HK := Lib.hid (KeepR.start w)
  have HOK := Lib.hid (okR_all R)
  have h00 : okR R 0 = (rightB (seg R 0 16) && rightB (seg R 16 16)) := by simp [okR]
  have c0 := rright_any (seg R 0 16) HS0.out
  have c1 := rright_any (seg R 16 16) HS1.out
  cases h0 : rightB (seg R 0 16) with
  | false =>
    rw [h0] at c0 h00
    have H00 := Lib.hid h00; clear h00 h0 c1
    rw [Bool.false_and] at H00
    go_enter Tryz.func108, Tryz.ntmps108
    go_wp2_with (first
      | (with_reducible refine box_new HK.out rfl _ rfl rfl ?_; intro b u hk hb; clear hb; clear HK; have HK := Lib.hid hk; clear hk)
      | (with_reducible refine load_part HK.out 0 16 Tryz.underlying33 rfl vec_info rfl _ rfl rfl rfl (by have := HR.out; omega) ?_)
      | (go_at_call 143; (with_reducible refine (c0 _).mono ?_); rintro e u ⟨rfl, hb⟩; have hk := HK.out.call hb; clear hb; clear HK; have HK := Lib.hid hk; clear hk))
    go_loopw [3, 4] (fun ok i wr => ∃ k : Nat, k ≤ 16 ∧ i = .int .i64 k ∧ ok = .bool (okR R k) ∧ KeepR w [(b, 36, R)] wr) (fun _ i _ => 16 - (intOf i).toNat)
    case atStart => exact ⟨0, by omega, rfl, by rw [H00.out], HK.out⟩
    case round =>
      obtain ⟨k, hk0, rfl, rfl, hk⟩ := hrel
      clear HK
      have HK := Lib.hid hk
      clear hk
      by_cases hlt : k < 16
      · have HO := Lib.hid (okR_succ R k)
        have hc1 := (HK.out.get 0 rfl).cell (k := 32 + k * 16 + k) (by have := HR.out; omega)
        have HL := Lib.hid (seg_length (R := R) (o := 32 + k * 16) (n := 16) (by have := HR.out; omega))
        have hrc := rright_any (seg R (32 + k * 16) 16) HL.out
        have i1 : (0 : Int) ≤ (k : Int) := by omega
        have i2 : (k : Int) < 16 := by omega
        generalize hx : R.getD (32 + k * 16 + k) 0 = x at hc1
        have HX := Lib.hid hx; clear hx
        cases hok : okR R k with
        | false =>
          have HQ := Lib.hid (show okR R (k + 1) = false by rw [HO.out, hok]; rfl)
          clear hok hrc
          go_wp2
          go_roundw
          case rel => exact ⟨k + 1, by omega, by go_num, by rw [HQ.out], HK.out⟩
          case measure => simp [intOf]; omega
        | true =>
          cases hrt : rightB (seg R (32 + k * 16) 16) with
          | false =>
            have HQ := Lib.hid (show okR R (k + 1) = false by rw [HO.out, hok, hrt]; rfl)
            rw [hrt] at hrc
            clear hok hrt
            go_wp2_with (first
              | (refine load_want HK.out 0 16 Tryz.underlying33 rfl vec_info _ rfl rfl rfl rfl (by have := HR.out; omega) ?_)
              | (go_at_call 143; (with_reducible refine (hrc _).mono ?_); rintro e u ⟨rfl, hb⟩; have hk := HK.out.call hb; clear hb hc1; have hc1 := (hk.get 0 rfl).cell (k := 32 + k * 16 + k) (by have := HR.out; omega); rw [HX.out] at hc1; clear HK; have HK := Lib.hid hk; clear hk))
            go_roundw
            case rel => exact ⟨k + 1, by omega, by go_num, by rw [HQ.out], HK.out⟩
            case measure => simp [intOf]; omega
          | true =>
            rw [hrt] at hrc
            by_cases hz : x = 0
            · subst hz
              have HQ := Lib.hid (show okR R (k + 1) = true by rw [HO.out, hok, hrt, HX.out]; rfl)
              clear hok hrt
              go_wp2_with (first
                | (refine load_want HK.out 0 16 Tryz.underlying33 rfl vec_info _ rfl rfl rfl rfl (by have := HR.out; omega) ?_)
                | (go_at_call 143; (with_reducible refine (hrc _).mono ?_); rintro e u ⟨rfl, hb⟩; have hk := HK.out.call hb; clear hb hc1; have hc1 := (hk.get 0 rfl).cell (k := 32 + k * 16 + k) (by have := HR.out; omega); rw [HX.out] at hc1; clear HK; have HK := Lib.hid hk; clear hk))
              go_roundw
              case rel => exact ⟨k + 1, by omega, by go_num, by rw [HQ.out], HK.out⟩
              case measure => simp [intOf]; omega
            · have HQ := Lib.hid (show okR R (k + 1) = false by rw [HO.out, hok, hrt, HX.out, beq_eq_false_iff_ne.2 hz]; rfl)
              clear hok hrt
              go_wp2_with (first
                | (refine load_want HK.out 0 16 Tryz.underlying33 rfl vec_info _ rfl rfl rfl rfl (by have := HR.out; omega) ?_)
                | (go_at_call 143; (with_reducible refine (hrc _).mono ?_); rintro e u ⟨rfl, hb⟩; have hk := HK.out.call hb; clear hb hc1; have hc1 := (hk.get 0 rfl).cell (k := 32 + k * 16 + k) (by have := HR.out; omega); rw [HX.out] at hc1; clear HK; have HK := Lib.hid hk; clear hk))
              go_roundw
              case rel => exact ⟨k + 1, by omega, by go_num, by rw [HQ.out, beq_eq_false_iff_ne.2 hz], HK.out⟩
              case measure => simp [intOf]; omega
      · obtain rfl : k = 16 := by omega
        rw [HOK.out]
        go_wp2
        go_ret
        exact ⟨rfl, HK.out.bel⟩
  | true =>
    cases h1 : rightB (seg R 16 16) with
    | false =>
      rw [h0, h1] at h00
      rw [h0] at c0
      rw [h1] at c1
      have H00 := Lib.hid h00; clear h00 h0 h1
      rw [Bool.true_and] at H00
      go_enter Tryz.func108, Tryz.ntmps108
      go_wp2_with (first
        | (with_reducible refine box_new HK.out rfl _ rfl rfl ?_; intro b u hk hb; clear hb; clear HK; have HK := Lib.hid hk; clear hk)
        | (with_reducible refine load_part HK.out 0 16 Tryz.underlying33 rfl vec_info rfl _ rfl rfl rfl (by have := HR.out; omega) ?_)
        | (refine load_want HK.out 0 16 Tryz.underlying33 rfl vec_info _ rfl rfl rfl rfl (by have := HR.out; omega) ?_)
        | (go_at_call 143; (with_reducible refine (c0 _).mono ?_); rintro e u ⟨rfl, hb⟩; have hk := HK.out.call hb; clear hb; clear HK; have HK := Lib.hid hk; clear hk)
        | (go_at_call 143; (with_reducible refine (c1 _).mono ?_); rintro e u ⟨rfl, hb⟩; have hk := HK.out.call hb; clear hb; clear HK; have HK := Lib.hid hk; clear hk))
      go_loopw [3, 4] (fun ok i wr => ∃ k : Nat, k ≤ 16 ∧ i = .int .i64 k ∧ ok = .bool (okR R k) ∧ KeepR w [(b, 36, R)] wr) (fun _ i _ => 16 - (intOf i).toNat)
      case atStart => exact ⟨0, by omega, rfl, by rw [H00.out], HK.out⟩
      case round =>
        obtain ⟨k, hk0, rfl, rfl, hk⟩ := hrel
        clear HK
        have HK := Lib.hid hk
        clear hk
        by_cases hlt : k < 16
        · have HO := Lib.hid (okR_succ R k)
          have hc1 := (HK.out.get 0 rfl).cell (k := 32 + k * 16 + k) (by have := HR.out; omega)
          have HL := Lib.hid (seg_length (R := R) (o := 32 + k * 16) (n := 16) (by have := HR.out; omega))
          have hrc := rright_any (seg R (32 + k * 16) 16) HL.out
          have i1 : (0 : Int) ≤ (k : Int) := by omega
          have i2 : (k : Int) < 16 := by omega
          generalize hx : R.getD (32 + k * 16 + k) 0 = x at hc1
          have HX := Lib.hid hx; clear hx
          cases hok : okR R k with
          | false =>
            have HQ := Lib.hid (show okR R (k + 1) = false by rw [HO.out, hok]; rfl)
            clear hok hrc
            go_wp2
            go_roundw
            case rel => exact ⟨k + 1, by omega, by go_num, by rw [HQ.out], HK.out⟩
            case measure => simp [intOf]; omega
          | true =>
            cases hrt : rightB (seg R (32 + k * 16) 16) with
            | false =>
              have HQ := Lib.hid (show okR R (k + 1) = false by rw [HO.out, hok, hrt]; rfl)
              rw [hrt] at hrc
              clear hok hrt
              go_wp2_with (first
                | (refine load_want HK.out 0 16 Tryz.underlying33 rfl vec_info _ rfl rfl rfl rfl (by have := HR.out; omega) ?_)
                | (go_at_call 143; (with_reducible refine (hrc _).mono ?_); rintro e u ⟨rfl, hb⟩; have hk := HK.out.call hb; clear hb hc1; have hc1 := (hk.get 0 rfl).cell (k := 32 + k * 16 + k) (by have := HR.out; omega); rw [HX.out] at hc1; clear HK; have HK := Lib.hid hk; clear hk))
              go_roundw
              case rel => exact ⟨k + 1, by omega, by go_num, by rw [HQ.out], HK.out⟩
              case measure => simp [intOf]; omega
            | true =>
              rw [hrt] at hrc
              by_cases hz : x = 0
              · subst hz
                have HQ := Lib.hid (show okR R (k + 1) = true by rw [HO.out, hok, hrt, HX.out]; rfl)
                clear hok hrt
                go_wp2_with (first
                  | (refine load_want HK.out 0 16 Tryz.underlying33 rfl vec_info _ rfl rfl rfl rfl (by have := HR.out; omega) ?_)
                  | (go_at_call 143; (with_reducible refine (hrc _).mono ?_); rintro e u ⟨rfl, hb⟩; have hk := HK.out.call hb; clear hb hc1; have hc1 := (hk.get 0 rfl).cell (k := 32 + k * 16 + k) (by have := HR.out; omega); rw [HX.out] at hc1; clear HK; have HK := Lib.hid hk; clear hk))
                go_roundw
                case rel => exact ⟨k + 1, by omega, by go_num, by rw [HQ.out], HK.out⟩
                case measure => simp [intOf]; omega
              · have HQ := Lib.hid (show okR R (k + 1) = false by rw [HO.out, hok, hrt, HX.out, beq_eq_false_iff_ne.2 hz]; rfl)
                clear hok hrt
                go_wp2_with (first
                  | (refine load_want HK.out 0 16 Tryz.underlying33 rfl vec_info _ rfl rfl rfl rfl (by have := HR.out; omega) ?_)
                  | (go_at_call 143; (with_reducible refine (hrc _).mono ?_); rintro e u ⟨rfl, hb⟩; have hk := HK.out.call hb; clear hb hc1; have hc1 := (hk.get 0 rfl).cell (k := 32 + k * 16 + k) (by have := HR.out; omega); rw [HX.out] at hc1; clear HK; have HK := Lib.hid hk; clear hk))
                go_roundw
                case rel => exact ⟨k + 1, by omega, by go_num, by rw [HQ.out, beq_eq_false_iff_ne.2 hz], HK.out⟩
                case measure => simp [intOf]; omega
        · obtain rfl : k = 16 := by omega
          rw [HOK.out]
          go_wp2
          go_ret
          exact ⟨rfl, HK.out.bel⟩
    | true =>
      rw [h0, h1] at h00
      rw [h0] at c0
      rw [h1] at c1
      have H00 := Lib.hid h00; clear h00 h0 h1
      rw [Bool.true_and] at H00
      go_enter Tryz.func108, Tryz.ntmps108
      go_wp2_with (first
        | (with_reducible refine box_new HK.out rfl _ rfl rfl ?_; intro b u hk hb; clear hb; clear HK; have HK := Lib.hid hk; clear hk)
        | (with_reducible refine load_part HK.out 0 16 Tryz.underlying33 rfl vec_info rfl _ rfl rfl rfl (by have := HR.out; omega) ?_)
        | (refine load_want HK.out 0 16 Tryz.underlying33 rfl vec_info _ rfl rfl rfl rfl (by have := HR.out; omega) ?_)
        | (go_at_call 143; (with_reducible refine (c0 _).mono ?_); rintro e u ⟨rfl, hb⟩; have hk := HK.out.call hb; clear hb; clear HK; have HK := Lib.hid hk; clear hk)
        | (go_at_call 143; (with_reducible refine (c1 _).mono ?_); rintro e u ⟨rfl, hb⟩; have hk := HK.out.call hb; clear hb; clear HK; have HK := Lib.hid hk; clear hk))
      go_loopw [3, 4] (fun ok i wr => ∃ k : Nat, k ≤ 16 ∧ i = .int .i64 k ∧ ok = .bool (okR R k) ∧ KeepR w [(b, 36, R)] wr) (fun _ i _ => 16 - (intOf i).toNat)
      case atStart => exact ⟨0, by omega, rfl, by rw [H00.out], HK.out⟩
      case round =>
        obtain ⟨k, hk0, rfl, rfl, hk⟩ := hrel
        clear HK
        have HK := Lib.hid hk
        clear hk
        by_cases hlt : k < 16
        · have HO := Lib.hid (okR_succ R k)
          have hc1 := (HK.out.get 0 rfl).cell (k := 32 + k * 16 + k) (by have := HR.out; omega)
          have HL := Lib.hid (seg_length (R := R) (o := 32 + k * 16) (n := 16) (by have := HR.out; omega))
          have hrc := rright_any (seg R (32 + k * 16) 16) HL.out
          have i1 : (0 : Int) ≤ (k : Int) := by omega
          have i2 : (k : Int) < 16 := by omega
          generalize hx : R.getD (32 + k * 16 + k) 0 = x at hc1
          have HX := Lib.hid hx; clear hx
          cases hok : okR R k with
          | false =>
            have HQ := Lib.hid (show okR R (k + 1) = false by rw [HO.out, hok]; rfl)
            clear hok hrc
            go_wp2
            go_roundw
            case rel => exact ⟨k + 1, by omega, by go_num, by rw [HQ.out], HK.out⟩
            case measure => simp [intOf]; omega
          | true =>
            cases hrt : rightB (seg R (32 + k * 16) 16) with
            | false =>
              have HQ := Lib.hid (show okR R (k + 1) = false by rw [HO.out, hok, hrt]; rfl)
              rw [hrt] at hrc
              clear hok hrt
              go_wp2_with (first
                | (refine load_want HK.out 0 16 Tryz.underlying33 rfl vec_info _ rfl rfl rfl rfl (by have := HR.out; omega) ?_)
                | (go_at_call 143; (with_reducible refine (hrc _).mono ?_); rintro e u ⟨rfl, hb⟩; have hk := HK.out.call hb; clear hb hc1; have hc1 := (hk.get 0 rfl).cell (k := 32 + k * 16 + k) (by have := HR.out; omega); rw [HX.out] at hc1; clear HK; have HK := Lib.hid hk; clear hk))
              go_roundw
              case rel => exact ⟨k + 1, by omega, by go_num, by rw [HQ.out], HK.out⟩
              case measure => simp [intOf]; omega
            | true =>
              rw [hrt] at hrc
              by_cases hz : x = 0
              · subst hz
                have HQ := Lib.hid (show okR R (k + 1) = true by rw [HO.out, hok, hrt, HX.out]; rfl)
                clear hok hrt
                go_wp2_with (first
                  | (refine load_want HK.out 0 16 Tryz.underlying33 rfl vec_info _ rfl rfl rfl rfl (by have := HR.out; omega) ?_)
                  | (go_at_call 143; (with_reducible refine (hrc _).mono ?_); rintro e u ⟨rfl, hb⟩; have hk := HK.out.call hb; clear hb hc1; have hc1 := (hk.get 0 rfl).cell (k := 32 + k * 16 + k) (by have := HR.out; omega); rw [HX.out] at hc1; clear HK; have HK := Lib.hid hk; clear hk))
                go_roundw
                case rel => exact ⟨k + 1, by omega, by go_num, by rw [HQ.out], HK.out⟩
                case measure => simp [intOf]; omega
              · have HQ := Lib.hid (show okR R (k + 1) = false by rw [HO.out, hok, hrt, HX.out, beq_eq_false_iff_ne.2 hz]; rfl)
                clear hok hrt
                go_wp2_with (first
                  | (refine load_want HK.out 0 16 Tryz.underlying33 rfl vec_info _ rfl rfl rfl rfl (by have := HR.out; omega) ?_)
                  | (go_at_call 143; (with_reducible refine (hrc _).mono ?_); rintro e u ⟨rfl, hb⟩; have hk := HK.out.call hb; clear hb hc1; have hc1 := (hk.get 0 rfl).cell (k := 32 + k * 16 + k) (by have := HR.out; omega); rw [HX.out] at hc1; clear HK; have HK := Lib.hid hk; clear hk))
                go_roundw
                case rel => exact ⟨k + 1, by omega, by go_num, by rw [HQ.out, beq_eq_false_iff_ne.2 hz], HK.out⟩
                case measure => simp [intOf]; omega
        · obtain rfl : k = 16 := by omega
          rw [HOK.out]
          go_wp2
          go_ret
          exact ⟨rfl, HK.out.bel⟩

/-! ### A new one. -/
/-! ### Two changes. -/
/-! ### Joined. -/
/-! ### The value. -/
/-! ### Whether one may be. -/
def rcovB (G : List Int) (d : Int) (U : List Int) : Bool := (sumE G == 0) && (sumE U == 0) && (addE d (sumN U) == 0) && (sumN G == addN d (sumN U))
theorem rcov_tie {G U : List Int} {d : Int} (hd : 0 ≤ d) (hG : rightB G = true) (hU : rightB U = true) : rcovB G d U = tieB G d U := by
  have hG' := rightB_pos hG
  have hU' := rightB_pos hU
  have ht := tot_nonneg (fun z hz => (hU' z hz).1)
  unfold rcovB tieB
  rcases sum_cases (fun z hz => (hG' z hz).1) with ⟨g1, g2, g3⟩ | ⟨g1, g2, g3⟩
  · rcases sum_cases (fun z hz => (hU' z hz).1) with ⟨u1, u2, u3⟩ | ⟨u1, u2, u3⟩
    · by_cases hs : d + tot U ≤ 1099511627776
      · obtain ⟨a1, a2⟩ := addE_ok (okB_iff.2 ⟨isB_iff.2 (show -1099511627776 ≤ d ∧ d ≤ 1099511627776 by omega), isB_iff.2 (show -1099511627776 ≤ tot U ∧ tot U ≤ 1099511627776 by omega), isB_iff.2 (by omega)⟩)
        rw [g2, g3, u2, u3, a1, a2, Bool.eq_iff_iff]; simp [g1]
      · obtain ⟨a1, a2⟩ := addE_no (okB_r (a := d) (b := tot U) (isB_not.2 (by omega)))
        rw [g2, g3, u2, u3, a1, a2, Bool.eq_iff_iff]; simp; omega
    · rw [g2, g3, u2, u3, Bool.eq_iff_iff]; simp; omega
  · rw [g2, g3, Bool.eq_iff_iff]; simp; omega

theorem ahead_any (a b : Ho) (w : World) :
    Calls Tryz.prog 111 #[.agg (vals a.l).toArray, .agg (vals b.l).toArray] w fun e w' => e = .returned (.bool (ahB a b)) ∧ Below w.heap.size w w' := by
  have HK := Lib.hid (KeepR.start w)
  cases h1 : decide (a.r < b.r) with
  | true =>
    rw [show ahB a b = true by simp only [ahB, h1, Bool.true_or]]
    go_enter Tryz.func111, Tryz.ntmps111
    go_wp2_with (first
      | (with_reducible refine box_new (R := a.l) HK.out rfl _ rfl rfl ?_; intro b1 u hk hb; clear hb; clear HK; have HK := Lib.hid hk; clear hk)
      | (with_reducible refine box_new (R := b.l) HK.out rfl _ rfl rfl ?_; intro b2 u hk hb; clear hb; clear HK; have HK := Lib.hid hk; clear hk)
      | (with_reducible refine load_val HK.out 0 rfl _ rfl rfl rfl (Ho.g0 _) (Ho.p0 _) ?_)
      | (with_reducible refine load_val HK.out 0 rfl _ rfl rfl rfl (Ho.g1 _) (Ho.p1 _) ?_)
      | (with_reducible refine load_val HK.out 1 rfl _ rfl rfl rfl (Ho.g0 _) (Ho.p0 _) ?_)
      | (with_reducible refine load_val HK.out 1 rfl _ rfl rfl rfl (Ho.g1 _) (Ho.p1 _) ?_)
      | (with_reducible refine load_val_want HK.out 0 _ rfl rfl rfl rfl (Ho.g0 _) (Ho.p0 _) ?_)
      | (with_reducible refine load_val_want HK.out 0 _ rfl rfl rfl rfl (Ho.g1 _) (Ho.p1 _) ?_)
      | (with_reducible refine load_val_want HK.out 1 _ rfl rfl rfl rfl (Ho.g0 _) (Ho.p0 _) ?_)
      | (with_reducible refine load_val_want HK.out 1 _ rfl rfl rfl rfl (Ho.g1 _) (Ho.p1 _) ?_)
      | (with_reducible refine lss_want h1 _ _ _ rfl rfl rfl rfl ?_))
    go_ret
    exact ⟨rfl, HK.out.bel⟩
  | false =>
    cases h2 : (a.r == b.r) with
    | false =>
      rw [show ahB a b = false by simp only [ahB, h1, h2, Bool.false_or, Bool.false_and]]
      go_enter Tryz.func111, Tryz.ntmps111
      go_wp2_with (first
        | (with_reducible refine box_new (R := a.l) HK.out rfl _ rfl rfl ?_; intro b1 u hk hb; clear hb; clear HK; have HK := Lib.hid hk; clear hk)
        | (with_reducible refine box_new (R := b.l) HK.out rfl _ rfl rfl ?_; intro b2 u hk hb; clear hb; clear HK; have HK := Lib.hid hk; clear hk)
        | (with_reducible refine load_val HK.out 0 rfl _ rfl rfl rfl (Ho.g0 _) (Ho.p0 _) ?_)
        | (with_reducible refine load_val HK.out 0 rfl _ rfl rfl rfl (Ho.g1 _) (Ho.p1 _) ?_)
        | (with_reducible refine load_val HK.out 1 rfl _ rfl rfl rfl (Ho.g0 _) (Ho.p0 _) ?_)
        | (with_reducible refine load_val HK.out 1 rfl _ rfl rfl rfl (Ho.g1 _) (Ho.p1 _) ?_)
        | (with_reducible refine load_val_want HK.out 0 _ rfl rfl rfl rfl (Ho.g0 _) (Ho.p0 _) ?_)
        | (with_reducible refine load_val_want HK.out 0 _ rfl rfl rfl rfl (Ho.g1 _) (Ho.p1 _) ?_)
        | (with_reducible refine load_val_want HK.out 1 _ rfl rfl rfl rfl (Ho.g0 _) (Ho.p0 _) ?_)
        | (with_reducible refine load_val_want HK.out 1 _ rfl rfl rfl rfl (Ho.g1 _) (Ho.p1 _) ?_)
        | (with_reducible refine lss_want h1 _ _ _ rfl rfl rfl rfl ?_)
        | (with_reducible refine eql_want h2 _ _ _ rfl rfl rfl rfl ?_))
      go_ret
      exact ⟨rfl, HK.out.bel⟩
    | true =>
      cases h3 : decide (a.n < b.n) with
      | false =>
        rw [show ahB a b = false by simp only [ahB, h1, h2, h3, Bool.false_or, Bool.true_and]]
        go_enter Tryz.func111, Tryz.ntmps111
        go_wp2_with (first
          | (with_reducible refine box_new (R := a.l) HK.out rfl _ rfl rfl ?_; intro b1 u hk hb; clear hb; clear HK; have HK := Lib.hid hk; clear hk)
          | (with_reducible refine box_new (R := b.l) HK.out rfl _ rfl rfl ?_; intro b2 u hk hb; clear hb; clear HK; have HK := Lib.hid hk; clear hk)
          | (with_reducible refine load_val HK.out 0 rfl _ rfl rfl rfl (Ho.g0 _) (Ho.p0 _) ?_)
          | (with_reducible refine load_val HK.out 0 rfl _ rfl rfl rfl (Ho.g1 _) (Ho.p1 _) ?_)
          | (with_reducible refine load_val HK.out 1 rfl _ rfl rfl rfl (Ho.g0 _) (Ho.p0 _) ?_)
          | (with_reducible refine load_val HK.out 1 rfl _ rfl rfl rfl (Ho.g1 _) (Ho.p1 _) ?_)
          | (with_reducible refine load_val_want HK.out 0 _ rfl rfl rfl rfl (Ho.g0 _) (Ho.p0 _) ?_)
          | (with_reducible refine load_val_want HK.out 0 _ rfl rfl rfl rfl (Ho.g1 _) (Ho.p1 _) ?_)
          | (with_reducible refine load_val_want HK.out 1 _ rfl rfl rfl rfl (Ho.g0 _) (Ho.p0 _) ?_)
          | (with_reducible refine load_val_want HK.out 1 _ rfl rfl rfl rfl (Ho.g1 _) (Ho.p1 _) ?_)
          | (with_reducible refine lss_want h1 _ _ _ rfl rfl rfl rfl ?_)
          | (with_reducible refine eql_want h2 _ _ _ rfl rfl rfl rfl ?_)
          | (with_reducible refine lss_want h3 _ _ _ rfl rfl rfl rfl ?_))
        go_ret
        exact ⟨rfl, HK.out.bel⟩
      | true =>
        rw [show ahB a b = true by simp only [ahB, h1, h2, h3, Bool.false_or, Bool.true_and]]
        go_enter Tryz.func111, Tryz.ntmps111
        go_wp2_with (first
          | (with_reducible refine box_new (R := a.l) HK.out rfl _ rfl rfl ?_; intro b1 u hk hb; clear hb; clear HK; have HK := Lib.hid hk; clear hk)
          | (with_reducible refine box_new (R := b.l) HK.out rfl _ rfl rfl ?_; intro b2 u hk hb; clear hb; clear HK; have HK := Lib.hid hk; clear hk)
          | (with_reducible refine load_val HK.out 0 rfl _ rfl rfl rfl (Ho.g0 _) (Ho.p0 _) ?_)
          | (with_reducible refine load_val HK.out 0 rfl _ rfl rfl rfl (Ho.g1 _) (Ho.p1 _) ?_)
          | (with_reducible refine load_val HK.out 1 rfl _ rfl rfl rfl (Ho.g0 _) (Ho.p0 _) ?_)
          | (with_reducible refine load_val HK.out 1 rfl _ rfl rfl rfl (Ho.g1 _) (Ho.p1 _) ?_)
          | (with_reducible refine load_val_want HK.out 0 _ rfl rfl rfl rfl (Ho.g0 _) (Ho.p0 _) ?_)
          | (with_reducible refine load_val_want HK.out 0 _ rfl rfl rfl rfl (Ho.g1 _) (Ho.p1 _) ?_)
          | (with_reducible refine load_val_want HK.out 1 _ rfl rfl rfl rfl (Ho.g0 _) (Ho.p0 _) ?_)
          | (with_reducible refine load_val_want HK.out 1 _ rfl rfl rfl rfl (Ho.g1 _) (Ho.p1 _) ?_)
          | (with_reducible refine lss_want h1 _ _ _ rfl rfl rfl rfl ?_)
          | (with_reducible refine eql_want h2 _ _ _ rfl rfl rfl rfl ?_)
          | (with_reducible refine lss_want h3 _ _ _ rfl rfl rfl rfl ?_))
        go_ret
        exact ⟨rfl, HK.out.bel⟩

theorem rfname_any (s : ByteArray) (hs : s.size ≤ 1000) (w : World) :
    Calls Tryz.prog 39 #[.string s] w fun e w' => e = .returned (.bool (nameB s)) ∧ Below w.heap.size w w' := by
  go_enter Tryz.func39, Tryz.ntmps39
  go_wp2
  go_loopw [3] (fun i wr => ∃ m : Nat, m ≤ s.size ∧ i = .int .i64 m ∧ (∀ j, j < m → okC (byAt s j) = true) ∧ Below w.heap.size w wr) (fun i _ => s.size - (intOf i).toNat)
  case atStart => exact ⟨0, by omega, rfl, by omega, Below.refl _ _⟩
  case round =>
    obtain ⟨m, hm, rfl, hu, hb⟩ := hrel
    have HU := Lib.hid hu; have HB := Lib.hid hb
    clear hu hb
    by_cases hlt : m < s.size
    · have HM := Lib.hid hlt
      obtain ⟨z, hz⟩ : ∃ z, byAt s m = z := ⟨_, rfl⟩
      have HZ := Lib.hid hz
      clear hz
      have i2 : (m : Int) < (s.size : Int) := by omega
      cases h1 : decide (z < 33) with
      | true =>
        have HF := Lib.hid (show nameB s = false from name_bad HM.out (by rw [HZ.out]; exact okC_lo h1))
        go_wp2_with (first
          | (with_reducible refine index_by HM.out HZ.out _ _ rfl rfl rfl rfl ?_))
        go_ret
        exact ⟨by rw [HF.out]; rfl, HB.out⟩
      | false =>
        cases h2 : decide (126 < z) with
        | true =>
          have HF := Lib.hid (show nameB s = false from name_bad HM.out (by rw [HZ.out]; exact okC_hi h2))
          go_wp2_with (first
            | (with_reducible refine index_by HM.out HZ.out _ _ rfl rfl rfl rfl ?_))
          go_ret
          exact ⟨by rw [HF.out]; rfl, HB.out⟩
        | false =>
          have HG := Lib.hid (show okC z = true from okC_yes h1 h2)
          go_wp2_with (first
            | (with_reducible refine index_by HM.out HZ.out _ _ rfl rfl rfl rfl ?_))
          go_roundw
          case rel => exact ⟨m + 1, by omega, by go_num, fun j hj => by
            rcases Nat.lt_or_ge j m with h3 | h3
            · exact HU.out j h3
            · rw [show j = m by omega, HZ.out]; exact HG.out, HB.out⟩
          case measure => simp [intOf]; omega
    · obtain rfl : m = s.size := by omega
      have HF := Lib.hid (name_good HU.out)
      by_cases h1 : 1 ≤ s.size
      · have d1 : decide ((0 : Int) < (s.size : Int)) = true := by rw [decide_eq_true_eq]; omega
        go_wp2
        go_ret
        exact ⟨by rw [HF.out]; simp [h1]; omega, HB.out⟩
      · have d1 : decide ((0 : Int) < (s.size : Int)) = false := by rw [decide_eq_false_iff_not]; omega
        go_wp2
        go_ret
        exact ⟨by rw [HF.out]; simp [h1], HB.out⟩

theorem right_ref {C : List Int} : rightC C = ((isB (C.getD 0 0) && (isB (C.getD 1 0) && (isB (C.getD 2 0) && (decide (C.getD 1 0 ≤ C.getD 0 0) && (decide (C.getD 0 0 ≤ C.getD 2 0) && (rightsB (seg C 3 288) && rightsB (seg C 291 288))))))) &&
    (rcovB (seg C 3 16) (C.getD 0 0 - C.getD 1 0) (seg C 307 16) && rcovB (seg C 291 16) (C.getD 2 0 - C.getD 0 0) (seg C 19 16))) := by
  rw [right_prog]
  cases hb : betB (C.getD 0 0) (C.getD 1 0) (C.getD 2 0) with
  | false =>
    cases hx : (isB (C.getD 0 0) && (isB (C.getD 1 0) && (isB (C.getD 2 0) && (decide (C.getD 1 0 ≤ C.getD 0 0) && (decide (C.getD 0 0 ≤ C.getD 2 0) && (rightsB (seg C 3 288) && rightsB (seg C 291 288))))))) with
    | false => simp only [Bool.false_and]
    | true =>
      simp only [Bool.and_eq_true, decide_eq_true_eq] at hx
      rw [betB_iff.2 ⟨hx.2.1, hx.2.2.1, hx.2.2.2.1, hx.2.2.2.2.1⟩] at hb
      cases hb
  | true =>
    obtain ⟨b1, b2, b3, b4⟩ := betB_iff.1 hb
    have b0 : isB (C.getD 0 0) = true := by rw [isB_iff] at b1 b2 ⊢; omega
    rw [b0, b1, b2, decide_eq_true b3, decide_eq_true b4]
    simp only [Bool.true_and]
    cases hd : rightsB (seg C 3 288) with
    | false => simp only [Bool.false_and]
    | true =>
      cases hu : rightsB (seg C 291 288) with
      | false => simp only [Bool.false_and, Bool.and_false]
      | true =>
        obtain ⟨v1, v2, v3, v4⟩ := c_vecs hd hu
        rw [cov_tie b0 b1 b3 v1 v4, cov_tie b2 b0 b4 v3 v2, rcov_tie (by omega) v1 v4, rcov_tie (by omega) v3 v2]
        simp only [Bool.true_and]

end Go.Proofs.YtgblnlpfgdbnnaaGreat
