/- Contracts of Right, of both, with isRightCounter, isRightLock and layer 5's Right of the document.; What the statements of layer 6 stand on: slices of holds that come in, what is kept while calls tell rows, the statements' Few, and awake.; Contracts of the document's Put, Reserve, End and Expire.; Fields as plain data, and what each call makes of them; fields that calls tell, in memory.; Rows of fields, cell by cell.; What the walks of fields stand on: results, yields, holds appended; contracts of headOf and apart.; Contracts of the changes that field.Add, Hand, Write, Pass, Reserve and End hand to changed.; Contracts of field.Counter, Lock, Reserve and Same, of the document's Same, and of the statements' Few.; What the statements of layer 7 stand on: a slice of one field, Few, and awake. -/
import Derived.Test.YtgblnlpfgdbnnaaGreatZ16
namespace Go.Proofs.YtgblnlpfgdbnnaaGreat
set_option maxRecDepth 100000
open Go.ChangeShapes Go.WideShapes Go.ChangeAt Go.RowKit

section
variable {ops : Array Oper} {rest : List Oper} {o : Oper} {a : Act} {u : World} {Q : Exit → Act → World → Prop}
/-- The zero value, built where it is wanted. -/
theorem build_fw {ty : TypeId} {v : Value} (he : ∀ W, (Instr.build ty #[]).run Tryz.prog W = .ok v W) (ho : o.op = .build ty #[]) (hw : Region.wanted o (yielded ops a.tmps) = true)
    (h : wpList Tryz.prog ops Q rest (a.put o.dst v) u) : wpList Tryz.prog ops Q (o :: rest) a u :=
  BigFrame.wpList_want hw fun K hK => by
    unfold Oper.wp execOp
    simp only [ho, List.map_toArray, List.map_nil, Sem.run_bind, Sem.run_pure, Result.andThen_ok, he]
    exact hK _ _ h
/-- Two structs are compared. -/
theorem eql_fw {ty : TypeId} {xs ys : List Value} {r : Bool} (hge : Tryz.prog.eqGuardType Tryz.prog.depth ty = false) (hq : ∀ W, (Op.equalIn 10000 ty (.agg xs.toArray) (.agg ys.toArray)).run Tryz.prog W = .ok r W) (x y : Operand) (t : TypeId) (ho : o.op = .binOp .eql ty x y t) (hx : a.eval x = .agg xs.toArray) (hy : a.eval y = .agg ys.toArray) (hw : Region.wanted o (yielded ops a.tmps) = true)
    (h : wpList Tryz.prog ops Q rest (a.put o.dst (.bool r)) u) : wpList Tryz.prog ops Q (o :: rest) a u :=
  BigFrame.wpList_want hw fun K hK => by
    have := hK _ _ h
    unfold Oper.wp execOp
    simp only [ho, hx, hy]
    simp [go_sem, hq, hge]
    simpa [Act.put] using this
end
theorem c_guardF : Tryz.prog.eqGuardType Tryz.prog.depth 38 = false := by kernel_rfl
theorem l_buildF (W : World) : (Instr.build 40 #[]).run Tryz.prog W = .ok (.agg (vals zL.l).toArray) W := by kernel_rfl
def rcB (f : Fd) (hs : List Ho) : Bool := (f.k == 1) && rightC f.C && rightsL hs && (f.L.l == zL.l)
def rlB (f : Fd) : Bool := (f.k == 2) && rightL f.L && decide (f.n = 0) && (f.C == zer 579)
def epB (e : Int) : Bool := decide (0 ≤ e) && isB e
def rightF (f : Fd) (hs : List Ho) : Bool := (nameB f.nm && epB f.e) && (rcB f hs || rlB f)
theorem irc_any (f : Fd) (hf : f.full) (hs : List Ho) (w : World) (hd : Row w f.A f.n hs) (r : Bool) (hr : rcB f hs = r) :
    Calls Tryz.prog 66 #[.agg f.cells.toArray] w fun e w' => e = .returned (.bool r) ∧ Below w.heap.size w w' := by
  have HK := Lib.hid (KeepF.start (w := w) (rows := [(f.A, f.n, hs)]) (by simpa using hd))
  have HF := Lib.hid hf; clear hf
  have HC := Lib.hid (c_infoF HF.out)
  subst hr
  by_cases h1 : f.k = 1
  · have hk1 : f.cells[1]? = some (.int .i64 1) := by rw [Fd.c1, h1]
    have hcl := cright_any f.C HF.out
    cases h2 : rightC f.C with
    | false =>
      rw [h2] at hcl
      rw [show rcB f hs = false by simp [rcB, h2]]
      go_enter Tryz.func66, Tryz.ntmps66
      go_wp2_with (first
        | (with_reducible refine box_f HK.out rfl _ rfl rfl ?_; intro b u hk; clear HK; have HK := Lib.hid hk; clear hk)
        | (with_reducible refine load_f1 HK.out 0 cbI _ rfl rfl rfl rfl hk1 ?_)
        | (with_reducible refine load_fr HK.out 0 Tryz.underlying38 rfl HC.out _ rfl rfl rfl rfl (Fd.cC f) ?_)
        | (go_at_call 105; (with_reducible refine (hcl _).mono ?_); rintro e u ⟨rfl, hb⟩; have hk := HK.out.call hb; clear hb; clear HK; have HK := Lib.hid hk; clear hk))
      go_ret
      exact ⟨rfl, HK.out.bel⟩
    | true =>
      rw [h2] at hcl
      have hrt := rights_any f.A f.n f.c hs
      cases h3 : rightsL hs with
      | false =>
        rw [h3] at hrt
        rw [show rcB f hs = false by simp [rcB, h3]]
        go_enter Tryz.func66, Tryz.ntmps66
        go_wp2_with (first
          | (with_reducible refine box_f HK.out rfl _ rfl rfl ?_; intro b u hk; clear HK; have HK := Lib.hid hk; clear hk)
          | (with_reducible refine load_f1 HK.out 0 cbI _ rfl rfl rfl rfl hk1 ?_)
          | (with_reducible refine load_fr HK.out 0 Tryz.underlying38 rfl HC.out _ rfl rfl rfl rfl (Fd.cC f) ?_)
          | (with_reducible refine load_f1 HK.out 0 cbH _ rfl rfl rfl rfl (Fd.cH HF.out) ?_)
          | (go_at_call 105; (with_reducible refine (hcl _).mono ?_); rintro e u ⟨rfl, hb⟩; have hk := HK.out.call hb; clear hb; clear HK; have HK := Lib.hid hk; clear hk)
          | (go_at_call 93; (with_reducible refine (hrt _ (HK.out.rowAt 0 rfl)).mono ?_); rintro e u ⟨rfl, hb⟩; have hk := HK.out.call hb; clear hb; clear HK; have HK := Lib.hid hk; clear hk))
        go_ret
        exact ⟨rfl, HK.out.bel⟩
      | true =>
        rw [h3] at hrt
        rw [show rcB f hs = (f.L.l == zL.l) by simp [rcB, h1, h2, h3]]
        have HQ := Lib.hid (eql_lk f.L zL)
        generalize (f.L.l == zL.l) = r at HQ ⊢
        go_enter Tryz.func66, Tryz.ntmps66
        go_wp2_with (first
          | (with_reducible refine box_f HK.out rfl _ rfl rfl ?_; intro b u hk; clear HK; have HK := Lib.hid hk; clear hk)
          | (with_reducible refine load_f1 HK.out 0 cbI _ rfl rfl rfl rfl hk1 ?_)
          | (with_reducible refine load_fr HK.out 0 Tryz.underlying38 rfl HC.out _ rfl rfl rfl rfl (Fd.cC f) ?_)
          | (with_reducible refine load_f1 HK.out 0 cbH _ rfl rfl rfl rfl (Fd.cH HF.out) ?_)
          | (with_reducible refine load_fr HK.out 0 Tryz.underlying40 rfl (l_infoF f.L) _ rfl rfl rfl rfl (Fd.cL HF.out) ?_)
          | (with_reducible refine build_fw l_buildF rfl rfl ?_)
          | (with_reducible refine eql_fw lk_guard HQ.out _ _ _ rfl rfl rfl rfl ?_)
          | (go_at_call 105; (with_reducible refine (hcl _).mono ?_); rintro e u ⟨rfl, hb⟩; have hk := HK.out.call hb; clear hb; clear HK; have HK := Lib.hid hk; clear hk)
          | (go_at_call 93; (with_reducible refine (hrt _ (HK.out.rowAt 0 rfl)).mono ?_); rintro e u ⟨rfl, hb⟩; have hk := HK.out.call hb; clear hb; clear HK; have HK := Lib.hid hk; clear hk))
        go_ret
        exact ⟨rfl, HK.out.bel⟩
  · have hk1 := Fd.c1 f
    rw [show rcB f hs = false by simp [rcB, h1]]
    generalize f.k = K at h1 hk1
    go_enter Tryz.func66, Tryz.ntmps66
    go_wp2_with (first
      | (with_reducible refine box_f HK.out rfl _ rfl rfl ?_; intro b u hk; clear HK; have HK := Lib.hid hk; clear hk)
      | (with_reducible refine load_f1 HK.out 0 cbI _ rfl rfl rfl rfl hk1 ?_))
    go_ret
    exact ⟨rfl, HK.out.bel⟩
theorem irl_any (f : Fd) (hf : f.full) (hs : List Ho) (w : World) (hd : Row w f.A f.n hs) (r : Bool) (hr : rlB f = r) :
    Calls Tryz.prog 67 #[.agg f.cells.toArray] w fun e w' => e = .returned (.bool r) ∧ Below w.heap.size w w' := by
  have HK := Lib.hid (KeepF.start (w := w) (rows := [(f.A, f.n, hs)]) (by simpa using hd))
  have HF := Lib.hid hf; clear hf
  have HC := Lib.hid (c_infoF HF.out)
  subst hr
  by_cases h1 : f.k = 2
  · have hk1 : f.cells[1]? = some (.int .i64 2) := by rw [Fd.c1, h1]
    have hcl := lright_any f.L
    cases h2 : rightL f.L with
    | false =>
      rw [h2] at hcl
      rw [show rlB f = false by simp [rlB, h2]]
      go_enter Tryz.func67, Tryz.ntmps67
      go_wp2_with (first
        | (with_reducible refine box_f HK.out rfl _ rfl rfl ?_; intro b u hk; clear HK; have HK := Lib.hid hk; clear hk)
        | (with_reducible refine load_f1 HK.out 0 cbI _ rfl rfl rfl rfl hk1 ?_)
        | (with_reducible refine load_fr HK.out 0 Tryz.underlying40 rfl (l_infoF f.L) _ rfl rfl rfl rfl (Fd.cL HF.out) ?_)
        | (go_at_call 106; (with_reducible refine (hcl _).mono ?_); rintro e u ⟨rfl, hb⟩; have hk := HK.out.call hb; clear hb; clear HK; have HK := Lib.hid hk; clear hk))
      go_ret
      exact ⟨rfl, HK.out.bel⟩
    | true =>
      rw [h2] at hcl
      have hcH := Fd.cH HF.out
      have HC1 := Lib.hid (Fd.cC f)
      by_cases h3 : f.n = 0
      · rw [show rlB f = (f.C == zer 579) by simp [rlB, h1, h2, h3]]
        rw [h3] at hcH
        have HQ := Lib.hid (eql_c f.C (zer 579) HF.out (zer_length 579))
        generalize (f.C == zer 579) = r at HQ ⊢
        go_enter Tryz.func67, Tryz.ntmps67
        go_wp2_with (first
          | (with_reducible refine box_f HK.out rfl _ rfl rfl ?_; intro b u hk; clear HK; have HK := Lib.hid hk; clear hk)
          | (with_reducible refine load_f1 HK.out 0 cbI _ rfl rfl rfl rfl hk1 ?_)
          | (with_reducible refine load_fr HK.out 0 Tryz.underlying40 rfl (l_infoF f.L) _ rfl rfl rfl rfl (Fd.cL HF.out) ?_)
          | (with_reducible refine load_f1 HK.out 0 cbH _ rfl rfl rfl rfl hcH ?_)
          | (with_reducible refine load_fr HK.out 0 Tryz.underlying38 rfl HC.out _ rfl rfl rfl rfl (Fd.cC f) ?_)
          | (with_reducible refine build_fw c_build rfl rfl ?_)
          | (with_reducible refine eql_fw c_guardF HQ.out _ _ _ rfl rfl rfl rfl ?_)
          | (go_at_call 106; (with_reducible refine (hcl _).mono ?_); rintro e u ⟨rfl, hb⟩; have hk := HK.out.call hb; clear hb; clear HK; have HK := Lib.hid hk; clear hk))
        go_ret
        exact ⟨rfl, HK.out.bel⟩
      · rw [show rlB f = false by simp [rlB, h3]]
        have h3' : ((f.n : Int) == 0) = false := by rw [beq_eq_false_iff_ne]; omega
        generalize f.n = n at h3 h3' hcH HK
        go_enter Tryz.func67, Tryz.ntmps67
        go_wp2_with (first
          | (with_reducible refine box_f HK.out rfl _ rfl rfl ?_; intro b u hk; clear HK; have HK := Lib.hid hk; clear hk)
          | (with_reducible refine load_f1 HK.out 0 cbI _ rfl rfl rfl rfl hk1 ?_)
          | (with_reducible refine load_fr HK.out 0 Tryz.underlying40 rfl (l_infoF f.L) _ rfl rfl rfl rfl (Fd.cL HF.out) ?_)
          | (with_reducible refine load_f1 HK.out 0 cbH _ rfl rfl rfl rfl hcH ?_)
          | (go_at_call 106; (with_reducible refine (hcl _).mono ?_); rintro e u ⟨rfl, hb⟩; have hk := HK.out.call hb; clear hb; clear HK; have HK := Lib.hid hk; clear hk))
        go_ret
        exact ⟨rfl, HK.out.bel⟩
  · have hk1 := Fd.c1 f
    rw [show rlB f = false by simp [rlB, h1]]
    generalize f.k = K at h1 hk1
    go_enter Tryz.func67, Tryz.ntmps67
    go_wp2_with (first
      | (with_reducible refine box_f HK.out rfl _ rfl rfl ?_; intro b u hk; clear HK; have HK := Lib.hid hk; clear hk)
      | (with_reducible refine load_f1 HK.out 0 cbI _ rfl rfl rfl rfl hk1 ?_))
    go_ret
    exact ⟨rfl, HK.out.bel⟩
theorem is_eq (n : Int) (r : Bool) (hr : isB n = r) (w : World) : Calls Tryz.prog 38 #[.int .i64 n] w fun e w' => e = .returned (.bool r) ∧ w = w' := by subst hr; exact is_any n w
set_option maxHeartbeats 4000000 in
theorem right_any7 (f : Fd) (hf : f.full) (hN : f.nm.size ≤ 1000) (hs : List Ho) (w : World) (hd : Row w f.A f.n hs) (r : Bool) (hr : rightF f hs = r) :
    Calls Tryz.prog 32 #[.agg f.cells.toArray] w fun e w' => e = .returned (.bool r) ∧ Below w.heap.size w w' := by
  have HK := Lib.hid (KeepF.start (w := w) (rows := [(f.A, f.n, hs)]) (by simpa using hd))
  have HF := Lib.hid hf; clear hf
  have HC := Lib.hid (c_infoF HF.out)
  have HI := Lib.hid (f_infoF HF.out)
  subst hr
  have hnm := fname_any f.nm hN
  have hrc := fun w h => irc_any f HF.out hs w h _ rfl
  have hrl := fun w h => irl_any f HF.out hs w h _ rfl
  cases h1 : nameB f.nm with
  | false =>
    rw [h1] at hnm
    rw [show rightF f hs = false by simp [rightF, h1]]
    go_enter Tryz.func32, Tryz.ntmps32
    go_wp2_with (first
      | (with_reducible refine box_f HK.out rfl _ rfl rfl ?_; intro b u hk; clear HK; have HK := Lib.hid hk; clear hk)
      | (with_reducible refine load_f1 HK.out 0 cbS _ rfl rfl rfl rfl (Fd.c0 f) ?_)
      | (go_at_call 37; (with_reducible refine (hnm _).mono ?_); rintro e u ⟨rfl, hb⟩; have hk := HK.out.call hb; clear hb; clear HK; have HK := Lib.hid hk; clear hk))
    go_ret
    exact ⟨rfl, HK.out.bel⟩
  | true =>
    rw [h1] at hnm
    cases h2 : decide (0 ≤ f.e) with
    | false =>
      rw [show rightF f hs = false by simp [rightF, epB, h2]]
      go_enter Tryz.func32, Tryz.ntmps32
      go_wp2_with (first
        | (with_reducible refine box_f HK.out rfl _ rfl rfl ?_; intro b u hk; clear HK; have HK := Lib.hid hk; clear hk)
        | (with_reducible refine load_f1 HK.out 0 cbS _ rfl rfl rfl rfl (Fd.c0 f) ?_)
        | (with_reducible refine load_f1 HK.out 0 cbI _ rfl rfl rfl rfl (Fd.c2 f) ?_)
        | (go_at_call 37; (with_reducible refine (hnm _).mono ?_); rintro e u ⟨rfl, hb⟩; have hk := HK.out.call hb; clear hb; clear HK; have HK := Lib.hid hk; clear hk))
      go_ret
      exact ⟨rfl, HK.out.bel⟩
    | true =>
      cases h3 : isB f.e with
      | false =>
        rw [show rightF f hs = false by simp [rightF, epB, h3]]
        go_enter Tryz.func32, Tryz.ntmps32
        go_wp2_with (first
          | (with_reducible refine box_f HK.out rfl _ rfl rfl ?_; intro b u hk; clear HK; have HK := Lib.hid hk; clear hk)
          | (with_reducible refine load_f1 HK.out 0 cbS _ rfl rfl rfl rfl (Fd.c0 f) ?_)
          | (with_reducible refine load_f1 HK.out 0 cbI _ rfl rfl rfl rfl (Fd.c2 f) ?_)
          | (go_at_call 37; (with_reducible refine (hnm _).mono ?_); rintro e u ⟨rfl, hb⟩; have hk := HK.out.call hb; clear hb; clear HK; have HK := Lib.hid hk; clear hk)
          | (go_at_call 38; (with_reducible refine (is_eq _ _ h3 _).mono ?_); rintro e u ⟨rfl, rfl⟩))
        go_ret
        exact ⟨rfl, HK.out.bel⟩
      | true =>
        cases h4 : rcB f hs with
        | true =>
          rw [h4] at hrc
          rw [show rightF f hs = true by simp [rightF, epB, h1, h2, h3, h4]]
          go_enter Tryz.func32, Tryz.ntmps32
          go_wp2_with (first
            | (with_reducible refine box_f HK.out rfl _ rfl rfl ?_; intro b u hk; clear HK; have HK := Lib.hid hk; clear hk)
            | (with_reducible refine load_f1 HK.out 0 cbS _ rfl rfl rfl rfl (Fd.c0 f) ?_)
            | (with_reducible refine load_f1 HK.out 0 cbI _ rfl rfl rfl rfl (Fd.c2 f) ?_)
            | (with_reducible refine load_fr HK.out 0 Tryz.underlying43 rfl HI.out _ rfl rfl rfl rfl (Fd.all f) ?_)
            | (go_at_call 37; (with_reducible refine (hnm _).mono ?_); rintro e u ⟨rfl, hb⟩; have hk := HK.out.call hb; clear hb; clear HK; have HK := Lib.hid hk; clear hk)
            | (go_at_call 38; (with_reducible refine (is_eq _ _ h3 _).mono ?_); rintro e u ⟨rfl, rfl⟩)
            | (go_at_call 66; (with_reducible refine (hrc _ (HK.out.rowAt 0 rfl)).mono ?_); rintro e u ⟨rfl, hb⟩; have hk := HK.out.call hb; clear hb; clear HK; have HK := Lib.hid hk; clear hk))
          go_ret
          exact ⟨rfl, HK.out.bel⟩
        | false =>
          rw [h4] at hrc
          rw [show rightF f hs = rlB f by simp [rightF, epB, h1, h2, h3, h4]]
          generalize rlB f = r at hrl ⊢
          go_enter Tryz.func32, Tryz.ntmps32
          go_wp2_with (first
            | (with_reducible refine box_f HK.out rfl _ rfl rfl ?_; intro b u hk; clear HK; have HK := Lib.hid hk; clear hk)
            | (with_reducible refine load_f1 HK.out 0 cbS _ rfl rfl rfl rfl (Fd.c0 f) ?_)
            | (with_reducible refine load_f1 HK.out 0 cbI _ rfl rfl rfl rfl (Fd.c2 f) ?_)
            | (with_reducible refine load_fr HK.out 0 Tryz.underlying43 rfl HI.out _ rfl rfl rfl rfl (Fd.all f) ?_)
            | (go_at_call 37; (with_reducible refine (hnm _).mono ?_); rintro e u ⟨rfl, hb⟩; have hk := HK.out.call hb; clear hb; clear HK; have HK := Lib.hid hk; clear hk)
            | (go_at_call 38; (with_reducible refine (is_eq _ _ h3 _).mono ?_); rintro e u ⟨rfl, rfl⟩)
            | (go_at_call 66; (with_reducible refine (hrc _ (HK.out.rowAt 0 rfl)).mono ?_); rintro e u ⟨rfl, hb⟩; have hk := HK.out.call hb; clear hb; clear HK; have HK := Lib.hid hk; clear hk)
            | (go_at_call 67; (with_reducible refine (hrl _ (HK.out.rowAt 0 rfl)).mono ?_); rintro e u ⟨rfl, hb⟩; have hk := HK.out.call hb; clear hb; clear HK; have HK := Lib.hid hk; clear hk))
          go_ret
          exact ⟨rfl, HK.out.bel⟩

/-- A slice of holds that comes in, of any length. -/
def Came (w : World) (A : Option Addr) (n : Nat) (hs : List Ho) : Prop :=
  hs.length = n ∧ n ≤ maxLen ∧ (n = 0 ∨ ∃ b off : Nat, A = some ⟨b, off, none⟩ ∧ ∀ k, k < n → w.rangeAt b (off + k * 5) (vals (hs.getD k z5).l))
theorem Came.row {w : World} {A : Option Addr} {n : Nat} {hs : List Ho} (h : Came w A n hs) (hn : n ≤ 1000) : Row w A n hs := ⟨h.1, hn, h.2.2⟩
theorem ints_ho {H : Type} {enc : TypeId × Value → H} {W : World} {b : Nat} {sp : Nat → Bool} {held : Bool} {fuel : Nat} {c0 c1 c2 c3 c4 : Value} {x : DataW H × List MemPlace} (h : DataW.trod enc Tryz.prog W b sp held fuel 81 [c0, c1, c2, c3, c4] = some x) :
    (∃ n, c0 = .int .i64 n) ∧ (∃ n, c1 = .int .i64 n) ∧ (∃ n, c2 = .int .i64 n) ∧ (∃ n, c3 = .int .i64 n) ∧ ∃ n, c4 = .int .i64 n := by
  have ci : Tryz.prog.cellsOf 3 = 1 := by kernel_rfl
  obtain ⟨xs, m, _, _, _, hn, hel⟩ := DataW.trod_struct h_under h
  obtain ⟨f1, f2, f3, f4, f5, hfs, e1, e2, e3, e4, e5⟩ := fields5n h_fields
  injection e1 with e1a e1; injection e1 with e1b e1c
  injection e2 with e2a e2; injection e2 with e2b e2c
  injection e3 with e3a e3; injection e3 with e3b e3c
  injection e4 with e4a e4; injection e4 with e4b e4c
  injection e5 with e5a e5; injection e5 with e5b e5c
  have hfs' : Tryz.prog.fieldsOf 81 = #[f1, f2, f3, f4, f5] := by apply Array.toList_inj.1; rw [hfs]
  rw [hfs'] at hel hn
  have hn5 : xs.length = 5 := by simpa using hn
  have d0 := hel 0 f1 rfl
  have d1 := hel 1 f2 rfl
  have d2 := hel 2 f3 rfl
  have d3 := hel 3 f4 rfl
  have d4 := hel 4 f5 rfl
  rw [e1a, e1b, ci, List.getElem?_eq_getElem (show 0 < xs.length by omega)] at d0
  rw [e2a, e2b, ci, List.getElem?_eq_getElem (show 1 < xs.length by omega)] at d1
  rw [e3a, e3b, ci, List.getElem?_eq_getElem (show 2 < xs.length by omega)] at d2
  rw [e4a, e4b, ci, List.getElem?_eq_getElem (show 3 < xs.length by omega)] at d3
  rw [e5a, e5b, ci, List.getElem?_eq_getElem (show 4 < xs.length by omega)] at d4
  obtain ⟨n0, h0, _, _⟩ := DataW.trod_int Tryz.underlying3 d0
  obtain ⟨n1, h1, _, _⟩ := DataW.trod_int Tryz.underlying3 d1
  obtain ⟨n2, h2, _, _⟩ := DataW.trod_int Tryz.underlying3 d2
  obtain ⟨n3, h3, _, _⟩ := DataW.trod_int Tryz.underlying3 d3
  obtain ⟨n4, h4, _, _⟩ := DataW.trod_int Tryz.underlying3 d4
  simp at h0 h1 h2 h3 h4
  exact ⟨⟨n0, h0⟩, ⟨n1, h1⟩, ⟨n2, h2⟩, ⟨n3, h3⟩, ⟨n4, h4⟩⟩
/-! ### What is kept while calls tell rows. -/
abbrev RowT := Option Addr × Nat × List Ho
structure LawS (w : World) (l : List (Nat × TypeId × List Int)) (rows : List RowT) (u : World) : Prop where
  keep : KeepR w l u
  row : ∀ x ∈ rows, Row u x.1 x.2.1 x.2.2
theorem LawS.bel {w u : World} {l : List (Nat × TypeId × List Int)} {rows : List RowT} (h : LawS w l rows u) : Below w.heap.size w u := h.keep.bel
theorem LawS.get {w u : World} {l : List (Nat × TypeId × List Int)} {rows : List RowT} (h : LawS w l rows u) (i : Nat) {A : Option Addr} {n : Nat} {hs : List Ho} (hi : rows[i]? = some (A, n, hs)) : Row u A n hs := h.row _ (List.mem_of_getElem? hi)
theorem LawS.call {w u u' : World} {l : List (Nat × TypeId × List Int)} {rows : List RowT} (h : LawS w l rows u) (hb : Below u.heap.size u u') : LawS w l rows u' := ⟨h.keep.call hb, fun x hx => (h.row x hx).call hb⟩
theorem LawS.drew {w u : World} {l : List (Nat × TypeId × List Int)} {rows : List RowT} (h : LawS w l rows u) : LawS w l rows u.drew := h.call ((Below.refl _ _).drew)
theorem LawS.add {w u u' : World} {l : List (Nat × TypeId × List Int)} {rows : List RowT} (h : LawS w l rows u) (hb : Below u.heap.size u u') {A : Option Addr} {n : Nat} {hs : List Ho} (hr : Row u' A n hs) : LawS w l ((A, n, hs) :: rows) u' :=
  ⟨h.keep.call hb, fun x hx => by
    rcases List.mem_cons.1 hx with rfl | hx
    · exact hr
    · exact (h.row x hx).call hb⟩
theorem LawS.tail {w u : World} {x : Nat × TypeId × List Int} {l : List (Nat × TypeId × List Int)} {rows : List RowT} (h : LawS w (x :: l) rows u) : LawS w l rows u := ⟨h.keep.tail, h.row⟩
theorem LawS.start {w : World} {rows : List RowT} (h : ∀ x ∈ rows, Row w x.1 x.2.1 x.2.2) : LawS w [] rows w := ⟨KeepR.start w, h⟩
/-- A block was made, and waits to be written. -/
structure PendS (w : World) (b : Nat) (t : TypeId) (zs : List Int) (l : List (Nat × TypeId × List Int)) (rows : List RowT) (u : World) : Prop where
  keep : KeepR w ((b, t, zs) :: l) u
  row : ∀ x ∈ rows, Row u x.1 x.2.1 x.2.2 ∧ ∀ g off, x.1 = some ⟨g, off, none⟩ → 0 < x.2.1 → g < b
theorem LawS.alloc {w u u' : World} {l : List (Nat × TypeId × List Int)} {rows : List RowT} (h : LawS w l rows u) {b : Nat} {t : TypeId} {zs : List Int} (hn : b = u.heap.size) (hk : KeepR w ((b, t, zs) :: l) u') (hb : Below u.heap.size u u') : PendS w b t zs l rows u' :=
  ⟨hk, fun x hx => ⟨(h.row x hx).call hb, fun g off he h0 => by
    obtain ⟨g', off', he', hr⟩ := (h.row x hx).at h0
    rw [he] at he'
    injection he' with he'
    injection he' with e1 e2
    subst e1
    rw [hn]
    exact range_lt (hr 0 h0)⟩⟩
theorem PendS.store {w u u' : World} {b : Nat} {t : TypeId} {zs S : List Int} {l : List (Nat × TypeId × List Int)} {rows : List RowT} (h : PendS w b t zs l rows u) (hk : KeepR w ((b, t, S) :: l) u') (he : ∀ k, k ≠ b → u'.heap[k]? = u.heap[k]?) : LawS w ((b, t, S) :: l) rows u' :=
  ⟨hk, fun x hx => by
    obtain ⟨⟨h1, h2, h3⟩, h4⟩ := h.row x hx
    refine ⟨h1, h2, ?_⟩
    rcases h3 with h0 | ⟨g, off, e, hr⟩
    · exact .inl h0
    · refine .inr ⟨g, off, e, fun k hk' j v hv => ?_⟩
      have hg := h4 g off e (by omega)
      rw [World.cell?_of_block (w := u) (he g (by omega))]
      exact hr k hk' j v hv⟩

/-! ### Few. -/
/-! ### What calls tell, as rows. -/
theorem Own.told {w : World} {base : Nat} {v : Value} {hs : List Ho} (h : Own w base v hs) (hn : hs.length ≤ 1000) : ∃ A c, v = .slice A hs.length c ∧ Row w A hs.length hs := by
  obtain ⟨A, c, rfl⟩ := h.slice
  exact ⟨A, c, rfl, h.row hn⟩
/-! ### Awake. -/

theorem Row.from {u : World} {A : Option Addr} {n c K : Nat} {hs : List Ho} (h : Row u A n hs) (hK : K ≤ n) (hc : n ≤ c) : Row u (if c = K then A else A.map (·.add (K * 5))) (n - K) (hs.drop K) := by
  obtain ⟨h1, h2, h3⟩ := h
  refine ⟨by simp; omega, by omega, ?_⟩
  rcases h3 with h0 | ⟨b, off, rfl, hr⟩
  · exact .inl (by omega)
  · rcases Nat.eq_zero_or_pos (n - K) with h0 | h0
    · exact .inl h0
    · refine .inr ⟨b, off + K * 5, ?_, Row.sub h1 hr⟩
      rw [if_neg (by omega), Option.map_some, Go.WideShapes.add_plain]

/-- A field, with its holds. -/
structure Pf where
  nm : ByteArray
  k : Int
  e : Int
  C : List Int
  L : Lk
  hs : List Ho
/-- The same, its holds in memory. -/
def Pf.fd (p : Pf) (A : Option Addr) (c : Nat) : Fd := ⟨p.nm, p.k, p.e, p.C, p.L, A, p.hs.length, c⟩
def Pf.full (p : Pf) : Prop := p.C.length = 579
def zP : Pf := ⟨ByteArray.empty, 0, 0, zer 579, zL, []⟩
theorem zP_full : zP.full := zer_length 579
def Pf.setC (p : Pf) (D : List Int) : Pf := ⟨p.nm, p.k, p.e, D, p.L, p.hs⟩
def Pf.setL (p : Pf) (M : Lk) : Pf := ⟨p.nm, p.k, p.e, p.C, M, p.hs⟩
def Pf.setH (p : Pf) (hs : List Ho) : Pf := ⟨p.nm, p.k, p.e, p.C, p.L, hs⟩
section
variable {p : Pf} {A : Option Addr} {c : Nat}
theorem Pf.toC (h : p.full) {D : List Int} (hD : D.length = 579) : spl (p.fd A c).cells 3 (vals D) = ((p.setC D).fd A c).cells := Fd.setC (f := p.fd A c) h hD
theorem Pf.toL (h : p.full) (M : Lk) : spl (p.fd A c).cells 582 (vals M.l) = ((p.setL M).fd A c).cells := Fd.setL (f := p.fd A c) h M
theorem Pf.toH (h : p.full) (B : Option Addr) (d : Nat) (hs : List Ho) : (p.fd A c).cells.set 586 (.slice B hs.length d) = ((p.setH hs).fd B d).cells := Fd.setH (f := p.fd A c) h B hs.length d
theorem Pf.ck : (p.fd A c).cells[1]? = some (.int .i64 p.k) := rfl
theorem Pf.cn : (p.fd A c).cells[0]? = some (.string p.nm) := rfl
theorem Pf.ce : (p.fd A c).cells[2]? = some (.int .i64 p.e) := rfl
theorem Pf.cC : ∀ j v, (vals p.C)[j]? = some v → (p.fd A c).cells[3 + j]? = some v := Fd.cC (p.fd A c)
theorem Pf.cL (h : p.full) : ∀ j v, (vals p.L.l)[j]? = some v → (p.fd A c).cells[582 + j]? = some v := Fd.cL (f := p.fd A c) h
theorem Pf.cH (h : p.full) : (p.fd A c).cells[586]? = some (.slice A p.hs.length c) := Fd.cH (f := p.fd A c) h
theorem Pf.all : ∀ j v, (p.fd A c).cells[j]? = some v → (p.fd A c).cells[0 + j]? = some v := Fd.all _
theorem Pf.len (h : p.full) : (p.fd A c).cells.length = 587 := Fd.len (f := p.fd A c) h
theorem Pf.infoC (h : p.full) : (Tryz.prog.info? 38).map (·.size) = some (vals p.C).length := c_infoF (f := p.fd none 0) h
theorem Pf.infoF (h : p.full) : (Tryz.prog.info? 43).map (·.size) = some (p.fd A c).cells.length := f_infoF (f := p.fd A c) h
theorem infoC {D : List Int} (h : D.length = 579) : (Tryz.prog.info? 38).map (·.size) = some (vals D).length := by rw [vals_length, h]; exact c_info
end

/-! ### What comes of each call. -/
def looseP (p : Pf) (k : Int) : Int := if p.k = 1 then freeN (dnR p.C) k - sumOf p.hs k else 0
def toldP (p : Pf) (e : Int) : Pf := if e = 0 then p else zP
theorem toldP_full {p : Pf} (h : p.full) (e : Int) : (toldP p e).full := by unfold toldP; split; exact h; exact zP_full
theorem toldP_0 (p : Pf) : toldP p 0 = p := rfl
theorem toldP_n (p : Pf) {e : Int} (h : e ≠ 0) : toldP p e = zP := if_neg h
def addPE (p : Pf) (k n : Int) : Int := if p.k = 1 then (if 0 ≤ n then incE p.C k n else if n < -looseP p k then 8 else decE p.C k (-n)) else 17
def addPC (p : Pf) (k n : Int) : List Int := if 0 ≤ n then incA p.C k n else if n < -looseP p k then p.C else decA p.C k (-n)
def addP (p : Pf) (k n : Int) : Pf := toldP (p.setC (addPC p k n)) (addPE p k n)
def ctPE (s : ByteArray) (i l h : Int) : Int := if nameB s then newE i l h else 1
def ctP (s : ByteArray) (i l h : Int) : Pf := toldP ⟨s, 1, 0, newA i l h, zL, []⟩ (ctPE s i l h)
def lkPE (s : ByteArray) (k n : Int) : Int := if nameB s then newEK k n else 1
def lkP (s : ByteArray) (k n : Int) : Pf := toldP ⟨s, 2, 0, zer 579, newAK k n, []⟩ (lkPE s k n)
theorem ctP_full (s : ByteArray) (i l h : Int) : (ctP s i l h).full := toldP_full (p := ⟨s, 1, 0, newA i l h, zL, []⟩) (newA_length i l h) _
theorem lkP_full (s : ByteArray) (k n : Int) : (lkP s k n).full := toldP_full (p := ⟨s, 2, 0, zer 579, newAK k n, []⟩) (zer_length 579) _

/-! ### Holds that calls tell. -/
/-- A slice that a call told: it reads so, and lies where nothing lay, or is the one that was handed in. -/
structure Got (w : World) (A0 : Option Addr) (n0 : Nat) (u : World) (A : Option Addr) (c : Nat) (hs : List Ho) : Prop where
  row : Row u A hs.length hs
  cap : hs.length ≤ c
  new : ∀ a, A = some a → 0 < hs.length → w.heap.size ≤ a.block ∨ (A = A0 ∧ hs.length = n0)
theorem Own.cap {w : World} {base : Nat} {A : Option Addr} {n c : Nat} {hs : List Ho} (h : Own w base (.slice A n c) hs) : n ≤ c := by
  rcases h.2 with ⟨e, _⟩ | ⟨g, cap, cur, e, _, _, hn, _⟩
  · injection e with e1 e2 e3; omega
  · injection e with e1 e2 e3; omega
/-- It lies where nothing lay. -/
structure Fresh (B : Nat) (A : Option Addr) (c : Nat) (hs : List Ho) : Prop where
  cap : hs.length ≤ c
  new : ∀ a, A = some a → 0 < hs.length → B ≤ a.block
theorem Fresh.mono {B B' : Nat} {A : Option Addr} {c : Nat} {hs : List Ho} (h : Fresh B A c hs) (hB : B' ≤ B) : Fresh B' A c hs := ⟨h.cap, fun a ha h0 => Nat.le_trans hB (h.new a ha h0)⟩
theorem Fresh.own {u : World} {B : Nat} {A : Option Addr} {n c : Nat} {hs : List Ho} (h : Own u B (.slice A n c) hs) : Fresh B A c hs := by
  obtain ⟨A', c', e⟩ := h.slice
  injection e with e1 e2 e3
  subst e2
  refine ⟨h.cap, fun a ha _ => ?_⟩
  subst ha
  exact own_baseH h _ rfl
theorem Fresh.nil (B : Nat) (A : Option Addr) (c : Nat) : Fresh B A c [] := ⟨Nat.zero_le _, fun _ _ h => absurd h (by simp)⟩
theorem Got.of {w u : World} {A0 : Option Addr} {n0 : Nat} {A : Option Addr} {c : Nat} {hs : List Ho} (h : Row u A hs.length hs) (f : Fresh w.heap.size A c hs) : Got w A0 n0 u A c hs := ⟨h, f.cap, fun a ha h0 => .inl (f.new a ha h0)⟩
theorem Got.own {w u : World} {A0 : Option Addr} {n0 : Nat} {A : Option Addr} {n c : Nat} {hs : List Ho} (h : Own u w.heap.size (.slice A n c) hs) (hn : hs.length ≤ 1000) : Got w A0 n0 u A c hs := by
  obtain ⟨A', c', e⟩ := h.slice
  injection e with e1 e2 e3
  subst e2
  refine ⟨h.row hn, h.cap, fun a ha h0 => .inl ?_⟩
  subst ha
  exact own_baseH h _ rfl
theorem Got.same {w u : World} {A : Option Addr} {c : Nat} {hs : List Ho} (h : Row u A hs.length hs) (hc : hs.length ≤ c) : Got w A hs.length u A c hs := ⟨h, hc, fun _ _ _ => .inr ⟨rfl, rfl⟩⟩
theorem Got.nil (w u : World) (A0 : Option Addr) (n0 : Nat) (A : Option Addr) (c : Nat) : Got w A0 n0 u A c [] := ⟨Row.nil u A, Nat.zero_le _, fun _ _ h => absurd h (by simp)⟩
theorem Got.base {w w' u : World} {A0 : Option Addr} {n0 : Nat} {A : Option Addr} {c : Nat} {hs : List Ho} (h : Got w A0 n0 u A c hs) (hb : w'.heap.size ≤ w.heap.size) : Got w' A0 n0 u A c hs :=
  ⟨h.row, h.cap, fun a ha h0 => (h.new a ha h0).imp (fun h => Nat.le_trans hb h) id⟩
theorem Got.call {w u u' : World} {A0 : Option Addr} {n0 : Nat} {A : Option Addr} {c : Nat} {hs : List Ho} (h : Got w A0 n0 u A c hs) (hb : Below u.heap.size u u') : Got w A0 n0 u' A c hs := ⟨h.row.call hb, h.cap, h.new⟩

abbrev Q := Pf × Option Addr × Nat
def Q.cells (x : Q) : List Value := (x.1.fd x.2.1 x.2.2).cells
def fcs (qs : List Q) : List Value := qs.flatMap Q.cells
theorem fcs_len : ∀ {qs : List Q}, (∀ x ∈ qs, x.1.full) → (fcs qs).length = qs.length * 587
  | [], _ => rfl
  | x :: qs, h => by
    have ih := fcs_len (qs := qs) fun y hy => h y (List.mem_cons_of_mem _ hy)
    have e : (Q.cells x).length = 587 := Pf.len (h x List.mem_cons_self)
    rw [show fcs (x :: qs) = Q.cells x ++ fcs qs from rfl, List.length_append, ih, e, List.length_cons]
    omega
theorem fcs_split {qs : List Q} {j : Nat} {x : Q} (hj : qs[j]? = some x) : fcs qs = fcs (qs.take j) ++ (Q.cells x ++ fcs (qs.drop (j + 1))) := by
  have hl := (List.getElem?_eq_some_iff.1 hj)
  obtain ⟨hlt, hx⟩ := hl
  have e : qs = qs.take j ++ x :: qs.drop (j + 1) := by
    rw [← hx, List.getElem_cons_drop, List.take_append_drop]
  calc fcs qs = fcs (qs.take j ++ x :: qs.drop (j + 1)) := by rw [← e]
    _ = _ := by simp [fcs]
theorem take_len {qs : List Q} (hf : ∀ x ∈ qs, x.1.full) {j : Nat} (hj : j < qs.length) : (fcs (qs.take j)).length = j * 587 := by
  rw [fcs_len fun x hx => hf x (List.mem_of_mem_take hx), List.length_take, Nat.min_eq_left (by omega)]
theorem fcs_get {qs : List Q} (hf : ∀ x ∈ qs, x.1.full) {j : Nat} {x : Q} (hj : qs[j]? = some x) : ∀ i v, (x.1.fd x.2.1 x.2.2).cells[i]? = some v → (fcs qs)[j * 587 + i]? = some v := fun i v hv => by
  have hlt := (List.getElem?_eq_some_iff.1 hj).1
  have hi := (List.getElem?_eq_some_iff.1 hv).1
  rw [fcs_split hj, List.getElem?_append_right (by rw [take_len hf hlt]; omega), take_len hf hlt, Nat.add_sub_cancel_left, List.getElem?_append_left (show i < (Q.cells x).length from hi)]
  exact hv
theorem fcs_set {qs : List Q} (hf : ∀ x ∈ qs, x.1.full) {j : Nat} (hj : j < qs.length) {y : Q} (hy : y.1.full) : spl (fcs qs) (j * 587) (y.1.fd y.2.1 y.2.2).cells = fcs (qs.set j y) := by
  have hx : qs[j]? = some qs[j] := List.getElem?_eq_getElem hj
  have h1 := spl_mid (Q.cells y) (Q.cells qs[j]) (fcs (qs.take j)) (fcs (qs.drop (j + 1))) (by rw [show (Q.cells qs[j]).length = 587 from Pf.len (hf _ (List.getElem_mem hj)), show (Q.cells y).length = 587 from Pf.len hy])
  rw [take_len hf hj, ← fcs_split hx] at h1
  rw [show (y.1.fd y.2.1 y.2.2).cells = Q.cells y from rfl, h1]
  have h2 : (qs.set j y)[j]? = some y := by rw [List.getElem?_set]; simp [hj]
  rw [fcs_split h2]
  simp only [List.take_set_of_le (Nat.le_refl j), List.drop_set_of_lt (Nat.lt_succ_self j)]
theorem fcs_le {qs : List Q} (hf : ∀ x ∈ qs, x.1.full) {j : Nat} (hj : j < qs.length) {y : Q} (hy : y.1.full) : j * 587 + (y.1.fd y.2.1 y.2.2).cells.length ≤ (fcs qs).length := by
  rw [fcs_len hf, show (y.1.fd y.2.1 y.2.2).cells.length = 587 from Pf.len hy]
  have : (j + 1) * 587 ≤ qs.length * 587 := Nat.mul_le_mul_right _ hj
  omega

section
variable {w u : World} {l : List (Nat × TypeId × List Value)} {rows : List (Option Addr × Nat × List Ho)}
theorem results_f2 {fn : Func} {p q : Tmp} {ty : TypeId} {d : TypeDesc} {cs : List Value} (h : fn.results = #[.cell p ty, .tmp q]) (hu : Tryz.prog.underlying ty = some d) (hd : d.isRow = true) (hs : (Tryz.prog.info? ty).map (·.size) = some cs.length) (tmps : Array Value) (hk : KeepF w l rows u) (i : Nat) {b : Nat} (v : Value)
    (hi : l[i]? = some (b, ty, cs)) (hp : tmps.getD p undef = .pointer (some ⟨b, 0, none⟩)) (hq : tmps.getD q undef = v) : (results fn tmps).run Tryz.prog u = .ok (.tuple #[.agg cs.toArray, v]) u := by
  have hp' : tmps[p]?.getD undef = .pointer (some ⟨b, 0, none⟩) := by simpa using hp
  have hq' : tmps[q]?.getD undef = v := by simpa using hq
  have hr := run_loadVar_row (P := Tryz.prog) u b _ ty _ (0, 0) _ (hk.get i hi) hu (by cases d <;> simp_all) (by rw [List.size_toArray]; exact hs)
  simp [results, h, hp', hq', asAddr, hr]
end
section
variable {ops : Array Oper} {rest : List Oper} {o : Oper} {a : Act} {w u : World} {l : List (Nat × TypeId × List Value)} {rows : List (Option Addr × Nat × List Ho)} {Q : Exit → Act → World → Prop} {K : Act → World → Prop} {S : World → Prop}
theorem KeepF.cellAt (hk : KeepF w l rows u) (i : Nat) {b : Nat} {t : TypeId} {cs : List Value} (hi : l[i]? = some (b, t, cs)) {k : Nat} {v : Value} (hv : cs[k]? = some v) : u.cell? ⟨b, k, none⟩ = some v := (hk.get i hi).cell hv
end

theorem f_zeroP : (Tryz.prog.info? 43).bind (·.zero) = some (.agg (zP.fd none 0).cells.toArray) := f_zero
theorem f_buildP (W : World) : (Instr.build 43 #[]).run Tryz.prog W = .ok (.agg (zP.fd none 0).cells.toArray) W := f_build W
theorem Fd.setAllP {p q : Pf} {A B : Option Addr} {c d : Nat} (hp : p.full) (hq : q.full) : spl (p.fd A c).cells 0 (q.fd B d).cells = (q.fd B d).cells := Fd.setAll (f := p.fd A c) (g := q.fd B d) hp hq
theorem Fd.leP {p q : Pf} {A B : Option Addr} {c d : Nat} (hp : p.full) (hq : q.full) : 0 + (q.fd B d).cells.length ≤ (p.fd A c).cells.length := by rw [Pf.len hp, Pf.len hq]; decide
theorem Fd.ltH {p : Pf} {A : Option Addr} {c : Nat} (hp : p.full) : 586 < (p.fd A c).cells.length := by rw [Pf.len hp]; decide
/-! ### headOf. -/
/-! ### apart. -/
theorem Pf.setH_self (p : Pf) : p.setH p.hs = p := rfl

theorem KeepF.cap2 {w u : World} {l : List (Nat × TypeId × List Value)} {rows : List (Option Addr × Nat × List Ho)} {x y : Nat × TypeId × List Value} (hk : KeepF w (x :: y :: l) rows u) {i b : Nat} {t : TypeId} {v : Value} (hi : l[i]? = some (b, t, [v])) : u.cell? ⟨b, 0, none⟩ = some v := hk.cellAt (i + 2) hi rfl

/-! ### Fields that are built. -/
theorem fold_spl' : ∀ (zs Z : List Value) (off k : Nat), (zs.zipIdx k).foldl (fun cs x => match x with | (c, j) => cs.setIfInBounds (off + j) c) Z.toArray = (spl Z (off + k) zs).toArray
  | [], Z, off, k => rfl
  | z :: zs, Z, off, k => by
    have h := fold_spl' zs (Z.set (off + k) z) off (k + 1)
    rw [List.zipIdx_cons, List.foldl_cons, spl, Nat.add_assoc, ← h]
    simp
theorem fold_spl (zs Z : List Value) (off : Nat) : zs.toArray.zipIdx.foldl (fun cs x => match x with | (c, j) => cs.setIfInBounds (off + j) c) Z.toArray = (spl Z off zs).toArray := by
  have h := fold_spl' zs Z off 0
  rw [Nat.add_zero] at h
  rw [← h]
  simp
theorem fields6n {fs : List Field} {x1 x2 x3 x4 x5 x6 : TypeId × Nat × String} (h : fs.map (fun f => (f.type, f.offset, f.name)) = [x1, x2, x3, x4, x5, x6]) : ∃ f1 f2 f3 f4 f5 f6, fs = [f1, f2, f3, f4, f5, f6] ∧ (f1.type, f1.offset, f1.name) = x1 ∧ (f2.type, f2.offset, f2.name) = x2 ∧ (f3.type, f3.offset, f3.name) = x3 ∧ (f4.type, f4.offset, f4.name) = x4 ∧ (f5.type, f5.offset, f5.name) = x5 ∧ (f6.type, f6.offset, f6.name) = x6 := by
  match fs, h with
  | [f1, f2, f3, f4, f5, f6], h => exact ⟨f1, f2, f3, f4, f5, f6, rfl, by simpa using h⟩
theorem f_fields : (Tryz.prog.fieldsOf 43).toList.map (fun f => (f.type, f.offset, f.name)) = [(9, 0, "Name"), (3, 1, "Kind"), (3, 2, "Epoch"), (38, 3, "Counter"), (40, 582, "Lock"), (41, 586, "Holds")] := by kernel_rfl
theorem f_under : Tryz.prog.underlying 43 = some (.struct (Tryz.prog.fieldsOf 43)) := by kernel_rfl
theorem sz_s (w : World) : (sizeOf 9).run Tryz.prog w = .ok 1 w := by kernel_rfl
theorem sz_i (w : World) : (sizeOf 3).run Tryz.prog w = .ok 1 w := by kernel_rfl
theorem sz_c (w : World) : (sizeOf 38).run Tryz.prog w = .ok 579 w := by kernel_rfl
theorem sz_l (w : World) : (sizeOf 40).run Tryz.prog w = .ok 4 w := by kernel_rfl
theorem sz_h (w : World) : (sizeOf 41).run Tryz.prog w = .ok 1 w := by kernel_rfl
theorem spl_len : ∀ (zs Z : List Value) (o : Nat), (spl Z o zs).length = Z.length
  | [], _, _ => rfl
  | z :: zs, Z, o => by rw [spl, spl_len zs]; simp
theorem fill_one (pl : Nat → Option (Nat × Nat)) (Z cs : List Value) (v : Value) (i off n : Nat) (rest : List (Nat × Value)) (hp : pl i = some (off, n)) (hv : v.cells = cs.toArray) (hn : cs.length = n) (hl : off + n ≤ Z.length) :
    Instr.fill pl Z.toArray ((i, v) :: rest) = Instr.fill pl (spl Z off cs).toArray rest := by
  rw [Instr.fill, hp]
  simp only [hv, List.size_toArray, hn]
  rw [if_neg (by simp; omega), fold_spl]
theorem run_build_fields (parts : List (Nat × Value)) (cs : List Value) (h : Instr.fill ([(0, 1), (1, 1), (2, 1), (3, 579), (582, 4), (586, 1)][·]?) (zP.fd none 0).cells.toArray parts = some cs.toArray) (u : World) :
    (Instr.build 43 parts.toArray).run Tryz.prog u = .ok (.agg cs.toArray) u := by
  obtain ⟨i0, hi0, hz⟩ : ∃ i, Tryz.prog.info? 43 = some i ∧ i.zero = some (.agg (zP.fd none 0).cells.toArray) := by
    have := f_zeroP
    cases hq : Tryz.prog.info? 43 with
    | none => rw [hq] at this; cases this
    | some i => rw [hq] at this; exact ⟨i, rfl, this⟩
  obtain ⟨f1, f2, f3, f4, f5, f6, hf, e1, e2, e3, e4, e5, e6⟩ := fields6n f_fields
  injection e1 with e1a e1; injection e1 with e1b e1c
  injection e2 with e2a e2; injection e2 with e2b e2c
  injection e3 with e3a e3; injection e3 with e3b e3c
  injection e4 with e4a e4; injection e4 with e4b e4c
  injection e5 with e5a e5; injection e5 with e5b e5c
  injection e6 with e6a e6; injection e6 with e6b e6c
  have hf' : Tryz.prog.fieldsOf 43 = #[f1, f2, f3, f4, f5, f6] := by
    apply Array.toList_inj.1; rw [hf]
  have hu := f_under
  rw [hf'] at hu
  have s1 := sz_s; have s2 := sz_i; have s3 := sz_c; have s4 := sz_l; have s5 := sz_h
  simp [Instr.build, zeroValue, typeInfo, hi0, hz, run_underlying hu, Value.cells, e1a, e1b, e2a, e2b, e3a, e3b, e4a, e4b, e5a, e5b, e6a, e6b, s1, s2, s3, s4, s5]
  rw [h]
  simp
theorem fb_counter (s : ByteArray) (C : List Int) (hC : C.length = 579) (u : World) : (Instr.build 43 #[(0, .string s), (1, .int .i64 1), (3, .agg (vals C).toArray)]).run Tryz.prog u = .ok (.agg ((Pf.fd ⟨s, 1, 0, C, zL, []⟩ none 0).cells.toArray)) u := by
  refine run_build_fields [(0, .string s), (1, .int .i64 1), (3, .agg (vals C).toArray)] _ ?_ u
  rw [fill_one _ _ [.string s] _ 0 0 1 _ rfl rfl rfl (by rw [Pf.len zP_full]; omega), fill_one _ _ [.int .i64 1] _ 1 1 1 _ rfl rfl rfl (by rw [spl_len, Pf.len zP_full]; omega),
    fill_one _ _ (vals C) _ 3 3 579 _ rfl rfl (by rw [vals_length, hC]) (by rw [spl_len, spl_len, Pf.len zP_full]; omega)]
  exact congrArg some (congrArg List.toArray (Pf.toC (p := ⟨s, 1, 0, zer 579, zL, []⟩) (A := none) (c := 0) (zer_length 579) hC))
theorem fb_lock (s : ByteArray) (M : Lk) (u : World) : (Instr.build 43 #[(0, .string s), (1, .int .i64 2), (4, .agg (vals M.l).toArray)]).run Tryz.prog u = .ok (.agg ((Pf.fd ⟨s, 2, 0, zer 579, M, []⟩ none 0).cells.toArray)) u := by
  refine run_build_fields [(0, .string s), (1, .int .i64 2), (4, .agg (vals M.l).toArray)] _ ?_ u
  rw [fill_one _ _ [.string s] _ 0 0 1 _ rfl rfl rfl (by rw [Pf.len zP_full]; omega), fill_one _ _ [.int .i64 2] _ 1 1 1 _ rfl rfl rfl (by rw [spl_len, Pf.len zP_full]; omega),
    fill_one _ _ (vals M.l) _ 4 582 4 _ rfl rfl rfl (by rw [spl_len, spl_len, Pf.len zP_full]; omega)]
  exact congrArg some (congrArg List.toArray (Pf.toL (p := ⟨s, 2, 0, zer 579, zL, []⟩) (A := none) (c := 0) (zer_length 579) M))
section
variable {ops : Array Oper} {rest : List Oper} {o : Oper} {a : Act} {u w : World} {Q : Exit → Act → World → Prop} {l : List (Nat × TypeId × List Value)} {rows : List (Option Addr × Nat × List Ho)} {K : Act → World → Prop}
theorem build_fc (hgd : o.guard = none) (x y : Operand) (z : Operand) (ho : o.op = .build 43 #[(0, x), (1, z), (3, y)]) {s : ByteArray} {C : List Int} (hC : C.length = 579) (hx : a.eval x = .string s) (hz : a.eval z = .int .i64 1) (hy : a.eval y = .agg (vals C).toArray)
    (h : wpList Tryz.prog ops Q rest (a.put o.dst (.agg ((Pf.fd ⟨s, 1, 0, C, zL, []⟩ none 0).cells.toArray))) u) : wpList Tryz.prog ops Q (o :: rest) a u :=
  wpList_plain hgd fun K hK => by
    unfold Oper.wp execOp
    simp only [ho, List.map_toArray, List.map_cons, List.map_nil, hx, hy, hz, Sem.run_bind, Sem.run_pure, Result.andThen_ok, fb_counter s C hC]
    exact hK _ _ h
theorem build_fl (hgd : o.guard = none) (x y : Operand) (z : Operand) (ho : o.op = .build 43 #[(0, x), (1, z), (4, y)]) {s : ByteArray} {M : Lk} (hx : a.eval x = .string s) (hz : a.eval z = .int .i64 2) (hy : a.eval y = .agg (vals M.l).toArray)
    (h : wpList Tryz.prog ops Q rest (a.put o.dst (.agg ((Pf.fd ⟨s, 2, 0, zer 579, M, []⟩ none 0).cells.toArray))) u) : wpList Tryz.prog ops Q (o :: rest) a u :=
  wpList_plain hgd fun K hK => by
    unfold Oper.wp execOp
    simp only [ho, List.map_toArray, List.map_cons, List.map_nil, hx, hy, hz, Sem.run_bind, Sem.run_pure, Result.andThen_ok, fb_lock s M]
    exact hK _ _ h
end
/-! ### New fields. -/
theorem full_ct {s : ByteArray} {D : List Int} (h : D.length = 579) : Pf.full ⟨s, 1, 0, D, zL, []⟩ := h
theorem full_lk (s : ByteArray) (M : Lk) : Pf.full ⟨s, 2, 0, zer 579, M, []⟩ := zer_length 579
set_option maxHeartbeats 1000000 in
theorem fcounter_any (s : ByteArray) (hs : s.size ≤ 1000) (i l h : Int) (w : World) :
    Calls Tryz.prog 28 #[.string s, .int .i64 i, .int .i64 l, .int .i64 h] w fun e w' => e = .returned (.tuple #[.agg ((ctP s i l h).fd none 0).cells.toArray, .int .i64 (ctPE s i l h)]) ∧ Below w.heap.size w w' := by
  have HK := Lib.hid (KeepF.start (w := w) (rows := []) (by simp))
  have hnm := fname_any s hs
  cases h1 : nameB s with
  | false =>
    rw [h1] at hnm
    rw [show ctPE s i l h = 1 by simp [ctPE, h1], show ctP s i l h = zP by simp [ctP, ctPE, h1, toldP]]
    go_enter Tryz.func28, Tryz.ntmps28
    go_wp2_with (first
      | (with_reducible refine alloc_f HK.out f_zeroP rfl rfl ?_; intro br u hk; clear HK; have HK := Lib.hid hk; clear hk)
      | (go_at_call 37; (with_reducible refine (hnm _).mono ?_); rintro e u ⟨rfl, hb⟩; have hk := HK.out.call hb; clear hb; clear HK; have HK := Lib.hid hk; clear hk)
      | (with_reducible refine build_f f_buildP rfl rfl ?_)
      | (with_reducible refine store_fr HK.out 0 (Pf.infoF zP_full) (Fd.one _) rfl rfl _ _ rfl rfl rfl rfl (Fd.leP zP_full zP_full) (Fd.setAllP zP_full zP_full) ?_; intro u hk; simp only [List.set_cons_zero] at hk; clear HK; have HK := Lib.hid hk; clear hk))
    exact bodyPost_ret (results_f2 rfl Tryz.underlying43 rfl (Pf.infoF zP_full) _ HK.out 0 _ rfl rfl rfl) rfl ⟨rfl, HK.out.bel⟩
  | true =>
    rw [h1] at hnm
    have hcl := new_any i l h
    have HA := Lib.hid (newA_length i l h)
    rw [show ctPE s i l h = newE i l h by simp [ctPE, h1], show ctP s i l h = toldP ⟨s, 1, 0, newA i l h, zL, []⟩ (newE i l h) by simp [ctP, ctPE, h1]]
    generalize newA i l h = D at hcl HA ⊢
    generalize newE i l h = E at hcl ⊢
    by_cases h0 : E = 0
    · subst h0
      rw [toldP_0]
      go_enter Tryz.func28, Tryz.ntmps28
      go_wp2_with (first
        | (with_reducible refine alloc_f HK.out f_zeroP rfl rfl ?_; intro br u hk; clear HK; have HK := Lib.hid hk; clear hk)
        | (go_at_call 37; (with_reducible refine (hnm _).mono ?_); rintro e u ⟨rfl, hb⟩; have hk := HK.out.call hb; clear hb; clear HK; have HK := Lib.hid hk; clear hk)
        | (go_at_call 59; (with_reducible refine (hcl _).mono ?_); rintro e u ⟨rfl, hb⟩; have hk := HK.out.call hb; clear hb; clear HK; have HK := Lib.hid hk; clear hk)
        | (with_reducible refine alloc_f HK.out c_zeroF rfl rfl ?_; intro bd u hk; clear HK; have HK := Lib.hid hk; clear hk)
        | (with_reducible refine store_fr HK.out 0 (infoC HA.out) (vals_all _) rfl rfl _ _ rfl rfl rfl rfl (putC_le (zer_length 579) HA.out) (putC ((zer_length 579).trans HA.out.symm)) ?_; intro u hk; simp only [List.set_cons_zero] at hk; clear HK; have HK := Lib.hid hk; clear hk)
        | (with_reducible refine load_fr HK.out 0 Tryz.underlying38 rfl (infoC HA.out) _ rfl rfl rfl rfl (infoCl HA.out) ?_)
        | (with_reducible refine build_fc rfl _ _ _ rfl HA.out rfl rfl rfl ?_)
        | (with_reducible refine store_fr HK.out 1 (Pf.infoF (full_ct HA.out)) (Fd.one _) rfl rfl _ _ rfl rfl rfl rfl (Fd.leP zP_full (full_ct HA.out)) (Fd.setAllP zP_full (full_ct HA.out)) ?_; intro u hk; simp only [List.set_cons_zero, List.set_cons_succ] at hk; clear HK; have HK := Lib.hid hk; clear hk))
      exact bodyPost_ret (results_f2 rfl Tryz.underlying43 rfl (Pf.infoF (full_ct HA.out)) _ HK.out 1 _ rfl rfl rfl) rfl ⟨rfl, HK.out.bel⟩
    · rw [toldP_n _ h0]
      have d0 : (E != 0) = true := by simpa using h0
      go_enter Tryz.func28, Tryz.ntmps28
      go_wp2_with (first
        | (with_reducible refine alloc_f HK.out f_zeroP rfl rfl ?_; intro br u hk; clear HK; have HK := Lib.hid hk; clear hk)
        | (go_at_call 37; (with_reducible refine (hnm _).mono ?_); rintro e u ⟨rfl, hb⟩; have hk := HK.out.call hb; clear hb; clear HK; have HK := Lib.hid hk; clear hk)
        | (go_at_call 59; (with_reducible refine (hcl _).mono ?_); rintro e u ⟨rfl, hb⟩; have hk := HK.out.call hb; clear hb; clear HK; have HK := Lib.hid hk; clear hk)
        | (with_reducible refine alloc_f HK.out c_zeroF rfl rfl ?_; intro bd u hk; clear HK; have HK := Lib.hid hk; clear hk)
        | (with_reducible refine store_fr HK.out 0 (infoC HA.out) (vals_all _) rfl rfl _ _ rfl rfl rfl rfl (putC_le (zer_length 579) HA.out) (putC ((zer_length 579).trans HA.out.symm)) ?_; intro u hk; simp only [List.set_cons_zero] at hk; clear HK; have HK := Lib.hid hk; clear hk)
        | (with_reducible refine build_f f_buildP rfl rfl ?_)
        | (with_reducible refine store_fr HK.out 1 (Pf.infoF zP_full) (Fd.one _) rfl rfl _ _ rfl rfl rfl rfl (Fd.leP zP_full zP_full) (Fd.setAllP zP_full zP_full) ?_; intro u hk; simp only [List.set_cons_zero, List.set_cons_succ] at hk; clear HK; have HK := Lib.hid hk; clear hk))
      exact bodyPost_ret (results_f2 rfl Tryz.underlying43 rfl (Pf.infoF zP_full) _ HK.out 1 _ rfl rfl rfl) rfl ⟨rfl, HK.out.bel⟩
set_option maxHeartbeats 1000000 in
theorem flock_any (s : ByteArray) (hs : s.size ≤ 1000) (k n : Int) (w : World) :
    Calls Tryz.prog 121 #[.string s, .int .i64 k, .int .i64 n] w fun e w' => e = .returned (.tuple #[.agg ((lkP s k n).fd none 0).cells.toArray, .int .i64 (lkPE s k n)]) ∧ Below w.heap.size w w' := by
  have HK := Lib.hid (KeepF.start (w := w) (rows := []) (by simp))
  have hnm := fname_any s hs
  cases h1 : nameB s with
  | false =>
    rw [h1] at hnm
    rw [show lkPE s k n = 1 by simp [lkPE, h1], show lkP s k n = zP by simp [lkP, lkPE, h1, toldP]]
    go_enter Tryz.func121, Tryz.ntmps121
    go_wp2_with (first
      | (with_reducible refine alloc_f HK.out f_zeroP rfl rfl ?_; intro br u hk; clear HK; have HK := Lib.hid hk; clear hk)
      | (go_at_call 37; (with_reducible refine (hnm _).mono ?_); rintro e u ⟨rfl, hb⟩; have hk := HK.out.call hb; clear hb; clear HK; have HK := Lib.hid hk; clear hk)
      | (with_reducible refine build_f f_buildP rfl rfl ?_)
      | (with_reducible refine store_fr HK.out 0 (Pf.infoF zP_full) (Fd.one _) rfl rfl _ _ rfl rfl rfl rfl (Fd.leP zP_full zP_full) (Fd.setAllP zP_full zP_full) ?_; intro u hk; simp only [List.set_cons_zero] at hk; clear HK; have HK := Lib.hid hk; clear hk))
    exact bodyPost_ret (results_f2 rfl Tryz.underlying43 rfl (Pf.infoF zP_full) _ HK.out 0 _ rfl rfl rfl) rfl ⟨rfl, HK.out.bel⟩
  | true =>
    rw [h1] at hnm
    have hcl := lnew_any k n
    rw [show lkPE s k n = newEK k n by simp [lkPE, h1], show lkP s k n = toldP ⟨s, 2, 0, zer 579, newAK k n, []⟩ (newEK k n) by simp [lkP, lkPE, h1]]
    generalize newAK k n = M at hcl ⊢
    generalize newEK k n = E at hcl ⊢
    by_cases h0 : E = 0
    · subst h0
      rw [toldP_0]
      go_enter Tryz.func121, Tryz.ntmps121
      go_wp2_with (first
        | (with_reducible refine alloc_f HK.out f_zeroP rfl rfl ?_; intro br u hk; clear HK; have HK := Lib.hid hk; clear hk)
        | (go_at_call 37; (with_reducible refine (hnm _).mono ?_); rintro e u ⟨rfl, hb⟩; have hk := HK.out.call hb; clear hb; clear HK; have HK := Lib.hid hk; clear hk)
        | (go_at_call 145; (with_reducible refine (hcl _).mono ?_); rintro e u ⟨rfl, hb⟩; have hk := HK.out.call hb; clear hb; clear HK; have HK := Lib.hid hk; clear hk)
        | (with_reducible refine alloc_f HK.out l_zeroF rfl rfl ?_; intro bl u hk; clear HK; have HK := Lib.hid hk; clear hk)
        | (with_reducible refine store_fr HK.out 0 (l_infoF _) (vals_all _) rfl rfl _ _ rfl rfl rfl rfl (Lk.le4 _ _) (Lk.putA _ _) ?_; intro u hk; simp only [List.set_cons_zero] at hk; clear HK; have HK := Lib.hid hk; clear hk)
        | (with_reducible refine load_fr HK.out 0 Tryz.underlying40 rfl (l_infoF _) _ rfl rfl rfl rfl (Lk.fall _) ?_)
        | (with_reducible refine build_fl rfl _ _ _ rfl rfl rfl rfl ?_)
        | (with_reducible refine store_fr HK.out 1 (Pf.infoF (full_lk s M)) (Fd.one _) rfl rfl _ _ rfl rfl rfl rfl (Fd.leP zP_full (full_lk s M)) (Fd.setAllP zP_full (full_lk s M)) ?_; intro u hk; simp only [List.set_cons_zero, List.set_cons_succ] at hk; clear HK; have HK := Lib.hid hk; clear hk))
      exact bodyPost_ret (results_f2 rfl Tryz.underlying43 rfl (Pf.infoF (full_lk s M)) _ HK.out 1 _ rfl rfl rfl) rfl ⟨rfl, HK.out.bel⟩
    · rw [toldP_n _ h0]
      have d0 : (E != 0) = true := by simpa using h0
      go_enter Tryz.func121, Tryz.ntmps121
      go_wp2_with (first
        | (with_reducible refine alloc_f HK.out f_zeroP rfl rfl ?_; intro br u hk; clear HK; have HK := Lib.hid hk; clear hk)
        | (go_at_call 37; (with_reducible refine (hnm _).mono ?_); rintro e u ⟨rfl, hb⟩; have hk := HK.out.call hb; clear hb; clear HK; have HK := Lib.hid hk; clear hk)
        | (go_at_call 145; (with_reducible refine (hcl _).mono ?_); rintro e u ⟨rfl, hb⟩; have hk := HK.out.call hb; clear hb; clear HK; have HK := Lib.hid hk; clear hk)
        | (with_reducible refine alloc_f HK.out l_zeroF rfl rfl ?_; intro bl u hk; clear HK; have HK := Lib.hid hk; clear hk)
        | (with_reducible refine store_fr HK.out 0 (l_infoF _) (vals_all _) rfl rfl _ _ rfl rfl rfl rfl (Lk.le4 _ _) (Lk.putA _ _) ?_; intro u hk; simp only [List.set_cons_zero] at hk; clear HK; have HK := Lib.hid hk; clear hk)
        | (with_reducible refine build_f f_buildP rfl rfl ?_)
        | (with_reducible refine store_fr HK.out 1 (Pf.infoF zP_full) (Fd.one _) rfl rfl _ _ rfl rfl rfl rfl (Fd.leP zP_full zP_full) (Fd.setAllP zP_full zP_full) ?_; intro u hk; simp only [List.set_cons_zero, List.set_cons_succ] at hk; clear HK; have HK := Lib.hid hk; clear hk))
      exact bodyPost_ret (results_f2 rfl Tryz.underlying43 rfl (Pf.infoF zP_full) _ HK.out 1 _ rfl rfl rfl) rfl ⟨rfl, HK.out.bel⟩

theorem sz_f (w : World) : (sizeOf 43).run Tryz.prog w = .ok 587 w := by kernel_rfl
theorem run_build_f1 (cs : List Value) (hc : cs.length = 587) (u : World) : (Instr.buildSlice 22 1 #[(0, .agg cs.toArray)]).run Tryz.prog u = .ok (.slice (some ⟨u.heap.size, 0, none⟩) 1 1) (u.alloc (.cells cs.toArray 43)) := by
  obtain ⟨i0, hi0, hz⟩ : ∃ i, Tryz.prog.info? 43 = some i ∧ i.zero = some (.agg (zP.fd none 0).cells.toArray) := by
    have := f_zeroP
    cases hq : Tryz.prog.info? 43 with
    | none => rw [hq] at this; cases this
    | some i => rw [hq] at this; exact ⟨i, rfl, this⟩
  have hfl : ∀ Z : Array Value, Z.size = 587 → Instr.fill (fun i => some (i * 587, 587)) Z [(0, .agg cs.toArray)] = some cs.toArray := fun Z hZ => by
    obtain ⟨Z⟩ := Z
    have hZ' : Z.length = 587 := by simpa using hZ
    rw [show (⟨Z⟩ : Array Value) = Z.toArray from rfl, fill_one _ Z cs _ 0 (0 * 587) 587 [] rfl rfl hc (by omega), Instr.fill]
    have := spl_mid cs Z [] [] (by omega)
    simp only [List.nil_append, List.append_nil, List.length_nil] at this
    rw [Nat.zero_mul, this]
  have s := sz_f
  simp only [Instr.buildSlice, run_underlying Tryz.underlying22, Sem.run_bind, Result.andThen_ok, s]
  simp [zeroValue, typeInfo, hi0, hz, Value.cells, newRow, newObj]
  rw [hfl _ (by simp)]
  simp []
  rfl
/-! ### Few. -/

end Go.Proofs.YtgblnlpfgdbnnaaGreat
