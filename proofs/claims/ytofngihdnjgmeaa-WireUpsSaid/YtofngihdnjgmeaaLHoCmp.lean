/- Contracts of which hold goes ahead: cmp.Or, hold.byName, and the document's Ahead. -/
import Derived.Test.YtofngihdnjgmeaaLHoRow
namespace Go.Proofs.Ytofngihdnjgmeaa
set_option maxRecDepth 100000
open Go.ChangeShapes Go.WideShapes Go.ChangeAt Go.RowKit

theorem yield_int {ops : Array Oper} {S : World → Prop} {o : Oper} {a : Act} {ad : Addr} {z : Int} (hc : ∀ u, S u → u.cell? ad = some (.int .i64 z)) (x : Operand) (ho : o.op = .load 3 x) (hx : a.eval x = .pointer (some ad)) (hw : Region.wanted o (yielded ops a.tmps) = true) :
    YieldsIf Try.prog ops S o (.int .i64 z) a :=
  .inl ⟨hw, fun w hw' => by
    have h1 := hc w hw'
    unfold execOp
    simp only [ho, hx]
    simp [go_sem, h1]⟩
theorem yield_geq {ops : Array Oper} {S : World → Prop} {o : Oper} {a : Act} {p q : Int} {b : Bool} (hb : decide (q ≤ p) = b) (x y : Operand) (t : TypeId) (ho : o.op = .binOp .geq 3 x y t) (hx : a.eval x = .int .i64 p) (hy : a.eval y = .int .i64 q) (hw : Region.wanted o (yielded ops a.tmps) = true) :
    YieldsIf Try.prog ops S o (.bool b) a :=
  .inl ⟨hw, fun w _ => by
    subst hb
    unfold execOp
    simp only [ho, hx, hy]
    simp [go_sem]⟩
theorem yield_gtr {ops : Array Oper} {S : World → Prop} {o : Oper} {a : Act} {p q : Int} {b : Bool} (hb : decide (q < p) = b) (x y : Operand) (t : TypeId) (ho : o.op = .binOp .gtr 3 x y t) (hx : a.eval x = .int .i64 p) (hy : a.eval y = .int .i64 q) (hw : Region.wanted o (yielded ops a.tmps) = true) :
    YieldsIf Try.prog ops S o (.bool b) a :=
  .inl ⟨hw, fun w _ => by
    subst hb
    unfold execOp
    simp only [ho, hx, hy]
    simp [go_sem]⟩
theorem yield_sub {ops : Array Oper} {S : World → Prop} {o : Oper} {a : Act} {p q z : Int} (hz : IntKind.i64.wrap (p - q) = z) (x y : Operand) (t : TypeId) (ho : o.op = .binOp .sub 3 x y t) (hx : a.eval x = .int .i64 p) (hy : a.eval y = .int .i64 q) (hw : Region.wanted o (yielded ops a.tmps) = true) :
    YieldsIf Try.prog ops S o (.int .i64 z) a :=
  .inl ⟨hw, fun w _ => by
    subst hz
    unfold execOp
    simp only [ho, hx, hy]
    simp [go_sem]⟩
theorem Blk.five {w : World} {b : Nat} {t : TypeId} {h : Ho} (hb : Blk w b t h.l) : w.cell? ⟨b, 0, none⟩ = some (.int .i64 h.r) ∧ w.cell? ⟨b, 1, none⟩ = some (.int .i64 h.n) ∧ w.cell? ⟨b, 2, none⟩ = some (.int .i64 h.a) ∧ w.cell? ⟨b, 3, none⟩ = some (.int .i64 h.d) ∧ w.cell? ⟨b, 4, none⟩ = some (.int .i64 h.s) :=
  ⟨hb.cell (k := 0) (by simp [Ho.len]), hb.cell (k := 1) (by simp [Ho.len]), hb.cell (k := 2) (by simp [Ho.len]), hb.cell (k := 3) (by simp [Ho.len]), hb.cell (k := 4) (by simp [Ho.len])⟩
theorem box_drawn {ops : Array Oper} {rest : List Oper} {o : Oper} {a : Act} {w u : World} {l : List (Nat × TypeId × List Int)} {Q : Exit → Act → World → Prop} (hk : KeepR w l u ∧ w.drawn ≤ u.drawn) {ty : TypeId}
    (hgd : o.guard = none) (x : Operand) (ho : o.op = .box ty x) {R : List Int} (hx : a.eval x = .agg (vals R).toArray)
    (h : ∀ b u', (KeepR w ((b, ty, R) :: l) u' ∧ w.drawn ≤ u'.drawn) → wpList Try.prog ops Q rest (a.put o.dst (.pointer (some ⟨b, 0, none⟩))) u') : wpList Try.prog ops Q (o :: rest) a u :=
  wpList_plain hgd fun K hK => by
    have e : (Instr.box ty (.agg (vals R).toArray)).run Try.prog u = .ok (.pointer (some ⟨u.heap.size, 0, none⟩)) (u.alloc (.cells (vals R).toArray ty)) := by
      simp [Instr.box, newVar, newRow, newObj, Value.cells]
      rfl
    unfold Oper.wp execOp
    simp only [ho, hx, Sem.run_bind, Sem.run_pure, Result.andThen_ok, e]
    exact hK _ _ (h _ _ ⟨hk.1.new rfl, hk.2⟩)
theorem or_any (x y : Int) (b : Nat) (w : World) (h0 : w.cell? ⟨b, 0, none⟩ = some (.int .i64 x)) (h1 : w.cell? ⟨b, 1, none⟩ = some (.int .i64 y)) :
    Calls Try.prog 71 #[.slice (some ⟨b, 0, none⟩) 2 2] w fun e w' => e = .returned (.int .i64 (orI x y)) ∧ w = w' := by
  go_enter Try.func71, Try.ntmps71
  go_wp2
  go_loop [8] (fun i => ∃ m : Nat, m ≤ 2 ∧ i = .int .i64 m ∧ (0 < m → x = 0) ∧ (1 < m → y = 0)) (fun i => 2 - (intOf i).toNat)
  case atStart => exact ⟨0, by omega, rfl, by omega, by omega⟩
  case round =>
    obtain ⟨m, hm, rfl, hx, hy⟩ := hrel
    have HX := Lib.hid hx; have HY := Lib.hid hy
    clear hx hy
    have : m = 0 ∨ m = 1 ∨ m = 2 := by omega
    rcases this with rfl | rfl | rfl
    · simp only [Int.natCast_zero]
      by_cases hx : x = 0
      · go_wp2
        go_round
        case rel => exact ⟨1, by omega, by go_num, fun _ => hx, by omega⟩
        case measure => simp [intOf]
      · have HR := Lib.hid (show orI x y = x by simp [orI, hx])
        go_wp2
        go_ret
        exact ⟨by rw [HR.out]; rfl, rfl⟩
    · simp only [Int.natCast_one]
      by_cases hy : y = 0
      · go_wp2
        go_round
        case rel => exact ⟨2, by omega, by go_num, fun _ => HX.out (by omega), fun _ => hy⟩
        case measure => simp [intOf]
      · have HR := Lib.hid (show orI x y = y by simp [orI, HX.out (by omega)])
        go_wp2
        go_ret
        exact ⟨by rw [HR.out]; rfl, rfl⟩
    · simp only [show ((2 : Nat) : Int) = 2 from rfl]
      have HR := Lib.hid (show orI x y = 0 by simp [orI, HX.out (by omega), HY.out (by omega)])
      go_wp2
      go_ret
      exact ⟨by rw [HR.out]; rfl, rfl⟩
set_option maxHeartbeats 2000000 in
set_option maxRecDepth 100000 in
theorem name_any (a b : Ho) (w : World) :
    Calls Try.prog 60 #[.agg (vals a.l).toArray, .agg (vals b.l).toArray] w fun e w' => e = .returned (.int .i64 (nameC a b)) ∧ Below w.heap.size w w' ∧ w.drawn ≤ w'.drawn := by
  have HK := Lib.hid (show KeepR w [] w ∧ w.drawn ≤ w.drawn from ⟨KeepR.start w, Nat.le_refl _⟩)
  go_enter Try.func60, Try.ntmps60
  go_wp2_with (first | (with_reducible refine box_drawn (R := a.l) HK.out rfl _ rfl rfl ?_; intro b1 u hk; clear HK; have HK := Lib.hid hk; clear hk) | (with_reducible refine box_drawn (R := b.l) HK.out rfl _ rfl rfl ?_; intro b2 u hk; clear HK; have HK := Lib.hid hk; clear hk))
  refine Draws.start (S := fun u => KeepR w [(b2, 59, b.l), (b1, 59, a.l)] u ∧ w.drawn ≤ u.drawn) (n := 13) 13 rfl (by kernel_rfl) ?_
  have HS := Lib.hid (show (fun u => KeepR w [(b2, 59, b.l), (b1, 59, a.l)] u ∧ w.drawn ≤ u.drawn) _ from ⟨HK.out.1.drew, Nat.le_succ_of_le HK.out.2⟩)
  clear HK
  refine Draws.take 0 (v := ?v1) HS.out rfl (by kernel_rfl) (fun _ _ _ h => h) (Or.inl ⟨rfl, ?h1⟩) ?r1
  case h1 => intro w' hw'; go_simp; (try with_reducible rfl)
  (try simp only [Act.put, List.setIfInBounds_toArray, List.set_cons_zero, List.set_cons_succ])
  refine Draws.take 1 HS.out rfl (by kernel_rfl) (fun _ _ _ h => h) (yield_int (fun _ h => (h.1.get 1 rfl).five.1) _ rfl rfl rfl) ?_
  (try simp only [Act.put, List.setIfInBounds_toArray, List.set_cons_zero, List.set_cons_succ])
  refine Draws.take 2 (v := ?v2) HS.out rfl (by kernel_rfl) (fun _ _ _ h => h) (Or.inl ⟨rfl, ?h2⟩) ?r2
  case h2 => intro w' hw'; go_simp; (try with_reducible rfl)
  (try simp only [Act.put, List.setIfInBounds_toArray, List.set_cons_zero, List.set_cons_succ])
  refine Draws.take 3 HS.out rfl (by kernel_rfl) (fun _ _ _ h => h) (yield_int (fun _ h => (h.1.get 0 rfl).five.1) _ rfl rfl rfl) ?_
  (try simp only [Act.put, List.setIfInBounds_toArray, List.set_cons_zero, List.set_cons_succ])
  refine Draws.take 5 (v := ?v3) HS.out rfl (by kernel_rfl) (fun _ _ _ h => h) (Or.inl ⟨rfl, ?h3⟩) ?r3
  case h3 => intro w' hw'; go_simp; (try with_reducible rfl)
  (try simp only [Act.put, List.setIfInBounds_toArray, List.set_cons_zero, List.set_cons_succ])
  refine Draws.take 6 HS.out rfl (by kernel_rfl) (fun _ _ _ h => h) (yield_int (fun _ h => (h.1.get 1 rfl).five.2.1) _ rfl rfl rfl) ?_
  (try simp only [Act.put, List.setIfInBounds_toArray, List.set_cons_zero, List.set_cons_succ])
  refine Draws.take 7 (v := ?v4) HS.out rfl (by kernel_rfl) (fun _ _ _ h => h) (Or.inl ⟨rfl, ?h4⟩) ?r4
  case h4 => intro w' hw'; go_simp; (try with_reducible rfl)
  (try simp only [Act.put, List.setIfInBounds_toArray, List.set_cons_zero, List.set_cons_succ])
  refine Draws.take 8 HS.out rfl (by kernel_rfl) (fun _ _ _ h => h) (yield_int (fun _ h => (h.1.get 0 rfl).five.2.1) _ rfl rfl rfl) ?_
  (try simp only [Act.put, List.setIfInBounds_toArray, List.set_cons_zero, List.set_cons_succ])
  refine Draws.does 4 rfl (by kernel_rfl) rfl (fun K hK => ?_)
  go_simp
  go_at_call 72
  refine (cmpi_anyH _ _ _).mono ?_
  rintro e u ⟨rfl, rfl⟩
  (try dsimp only)
  refine hK.out _ _ (fun _ => HS.out) ?_
  clear hK K
  (try simp only [Act.put, List.setIfInBounds_toArray, List.set_cons_zero, List.set_cons_succ])
  refine Draws.does 9 rfl (by kernel_rfl) rfl (fun K hK => ?_)
  go_simp
  go_at_call 72
  refine (cmpi_anyH _ _ _).mono ?_
  rintro e u ⟨rfl, rfl⟩
  (try dsimp only)
  refine hK.out _ _ (fun _ => HS.out) ?_
  clear hK K
  (try simp only [Act.put, List.setIfInBounds_toArray, List.set_cons_zero, List.set_cons_succ])
  refine Draws.does 10 rfl (by kernel_rfl) rfl (fun K hK => ?_)
  refine wp_build_pair HS.out.1 _ _ rfl rfl rfl ?_
  intro b3 u hk hd
  have HS2 := Lib.hid (show KeepR w _ u ∧ w.drawn ≤ u.drawn from ⟨hk, by rw [hd]; exact HS.out.2⟩)
  clear hk hd
  refine hK.out _ _ (fun _ => ⟨HS2.out.1.tail, HS2.out.2⟩) ?_
  clear hK K
  (try simp only [Act.put, List.setIfInBounds_toArray, List.set_cons_zero, List.set_cons_succ])
  refine Draws.does 11 rfl (by kernel_rfl) rfl (fun K hK => ?_)
  go_simp
  go_at_call 71
  refine (or_any _ _ _ _ ((HS2.out.1.get 0 rfl).cell (k := 0) (by simp)) ((HS2.out.1.get 0 rfl).cell (k := 1) (by simp))).mono ?_
  rintro e u ⟨rfl, rfl⟩
  (try dsimp only)
  refine hK.out _ _ (fun _ => ⟨HS2.out.1.tail, HS2.out.2⟩) ?_
  clear hK K
  (try simp only [Act.put, List.setIfInBounds_toArray, List.set_cons_zero, List.set_cons_succ])
  refine Draws.does 12 rfl (by kernel_rfl) rfl (fun K hK => ?_)
  go_simp
  refine hK.out _ _ (fun _ => ⟨HS2.out.1.tail, HS2.out.2⟩) ?_
  clear hK K
  (try simp only [Act.put, List.setIfInBounds_toArray, List.set_cons_zero, List.set_cons_succ])
  refine Draws.done (by kernel_rfl) ?_
  go_wp2
  go_ret
  exact ⟨rfl, HS2.out.1.bel, HS2.out.2⟩
theorem ahead_any (a b : Ho) (w : World) :
    Calls Try.prog 47 #[.agg (vals a.l).toArray, .agg (vals b.l).toArray] w fun e w' => e = .returned (.bool (ahB a b)) ∧ Below w.heap.size w w' := by
  have HK := Lib.hid (KeepR.start w)
  cases h1 : decide (a.r < b.r) with
  | true =>
    rw [show ahB a b = true by simp only [ahB, h1, Bool.true_or]]
    go_enter Try.func47, Try.ntmps47
    go_wp2_with (first
      | (with_reducible refine box_new (R := a.l) HK.out rfl _ rfl rfl ?_; intro b1 u hk hb; clear hb; clear HK; have HK := Lib.hid hk; clear hk)
      | (with_reducible refine box_new (R := b.l) HK.out rfl _ rfl rfl ?_; intro b2 u hk hb; clear hb; clear HK; have HK := Lib.hid hk; clear hk)
      | (with_reducible refine load_val HK.out 0 rfl _ rfl rfl rfl (Ho.g0 _) (Ho.p0 _) ?_)
      | (with_reducible refine load_val HK.out 0 rfl _ rfl rfl rfl (Ho.g1 _) (Ho.p1 _) ?_)
      | (with_reducible refine load_val HK.out 1 rfl _ rfl rfl rfl (Ho.g0 _) (Ho.p0 _) ?_)
      | (with_reducible refine load_val HK.out 1 rfl _ rfl rfl rfl (Ho.g1 _) (Ho.p1 _) ?_)
      | (with_reducible refine load_val_want HK.out 0 _ rfl rfl rfl rfl (Ho.g0 _) (Ho.p0 _) ?_)
      | (with_reducible refine load_val_want HK.out 0 _ rfl rfl rfl rfl (Ho.g1 _) (Ho.p1 _) ?_)
      | (with_reducible refine load_val_want HK.out 1 _ rfl rfl rfl rfl (Ho.g0 _) (Ho.p0 _) ?_)
      | (with_reducible refine load_val_want HK.out 1 _ rfl rfl rfl rfl (Ho.g1 _) (Ho.p1 _) ?_)
      | (with_reducible refine lss_want h1 _ _ _ rfl rfl rfl rfl ?_))
    go_ret
    exact ⟨rfl, HK.out.bel⟩
  | false =>
    cases h2 : (a.r == b.r) with
    | false =>
      rw [show ahB a b = false by simp only [ahB, h1, h2, Bool.false_or, Bool.false_and]]
      go_enter Try.func47, Try.ntmps47
      go_wp2_with (first
        | (with_reducible refine box_new (R := a.l) HK.out rfl _ rfl rfl ?_; intro b1 u hk hb; clear hb; clear HK; have HK := Lib.hid hk; clear hk)
        | (with_reducible refine box_new (R := b.l) HK.out rfl _ rfl rfl ?_; intro b2 u hk hb; clear hb; clear HK; have HK := Lib.hid hk; clear hk)
        | (with_reducible refine load_val HK.out 0 rfl _ rfl rfl rfl (Ho.g0 _) (Ho.p0 _) ?_)
        | (with_reducible refine load_val HK.out 0 rfl _ rfl rfl rfl (Ho.g1 _) (Ho.p1 _) ?_)
        | (with_reducible refine load_val HK.out 1 rfl _ rfl rfl rfl (Ho.g0 _) (Ho.p0 _) ?_)
        | (with_reducible refine load_val HK.out 1 rfl _ rfl rfl rfl (Ho.g1 _) (Ho.p1 _) ?_)
        | (with_reducible refine load_val_want HK.out 0 _ rfl rfl rfl rfl (Ho.g0 _) (Ho.p0 _) ?_)
        | (with_reducible refine load_val_want HK.out 0 _ rfl rfl rfl rfl (Ho.g1 _) (Ho.p1 _) ?_)
        | (with_reducible refine load_val_want HK.out 1 _ rfl rfl rfl rfl (Ho.g0 _) (Ho.p0 _) ?_)
        | (with_reducible refine load_val_want HK.out 1 _ rfl rfl rfl rfl (Ho.g1 _) (Ho.p1 _) ?_)
        | (with_reducible refine lss_want h1 _ _ _ rfl rfl rfl rfl ?_)
        | (with_reducible refine eql_want h2 _ _ _ rfl rfl rfl rfl ?_))
      go_ret
      exact ⟨rfl, HK.out.bel⟩
    | true =>
      cases h3 : decide (a.n < b.n) with
      | false =>
        rw [show ahB a b = false by simp only [ahB, h1, h2, h3, Bool.false_or, Bool.true_and]]
        go_enter Try.func47, Try.ntmps47
        go_wp2_with (first
          | (with_reducible refine box_new (R := a.l) HK.out rfl _ rfl rfl ?_; intro b1 u hk hb; clear hb; clear HK; have HK := Lib.hid hk; clear hk)
          | (with_reducible refine box_new (R := b.l) HK.out rfl _ rfl rfl ?_; intro b2 u hk hb; clear hb; clear HK; have HK := Lib.hid hk; clear hk)
          | (with_reducible refine load_val HK.out 0 rfl _ rfl rfl rfl (Ho.g0 _) (Ho.p0 _) ?_)
          | (with_reducible refine load_val HK.out 0 rfl _ rfl rfl rfl (Ho.g1 _) (Ho.p1 _) ?_)
          | (with_reducible refine load_val HK.out 1 rfl _ rfl rfl rfl (Ho.g0 _) (Ho.p0 _) ?_)
          | (with_reducible refine load_val HK.out 1 rfl _ rfl rfl rfl (Ho.g1 _) (Ho.p1 _) ?_)
          | (with_reducible refine load_val_want HK.out 0 _ rfl rfl rfl rfl (Ho.g0 _) (Ho.p0 _) ?_)
          | (with_reducible refine load_val_want HK.out 0 _ rfl rfl rfl rfl (Ho.g1 _) (Ho.p1 _) ?_)
          | (with_reducible refine load_val_want HK.out 1 _ rfl rfl rfl rfl (Ho.g0 _) (Ho.p0 _) ?_)
          | (with_reducible refine load_val_want HK.out 1 _ rfl rfl rfl rfl (Ho.g1 _) (Ho.p1 _) ?_)
          | (with_reducible refine lss_want h1 _ _ _ rfl rfl rfl rfl ?_)
          | (with_reducible refine eql_want h2 _ _ _ rfl rfl rfl rfl ?_)
          | (with_reducible refine lss_want h3 _ _ _ rfl rfl rfl rfl ?_))
        go_ret
        exact ⟨rfl, HK.out.bel⟩
      | true =>
        rw [show ahB a b = true by simp only [ahB, h1, h2, h3, Bool.false_or, Bool.true_and]]
        go_enter Try.func47, Try.ntmps47
        go_wp2_with (first
          | (with_reducible refine box_new (R := a.l) HK.out rfl _ rfl rfl ?_; intro b1 u hk hb; clear hb; clear HK; have HK := Lib.hid hk; clear hk)
          | (with_reducible refine box_new (R := b.l) HK.out rfl _ rfl rfl ?_; intro b2 u hk hb; clear hb; clear HK; have HK := Lib.hid hk; clear hk)
          | (with_reducible refine load_val HK.out 0 rfl _ rfl rfl rfl (Ho.g0 _) (Ho.p0 _) ?_)
          | (with_reducible refine load_val HK.out 0 rfl _ rfl rfl rfl (Ho.g1 _) (Ho.p1 _) ?_)
          | (with_reducible refine load_val HK.out 1 rfl _ rfl rfl rfl (Ho.g0 _) (Ho.p0 _) ?_)
          | (with_reducible refine load_val HK.out 1 rfl _ rfl rfl rfl (Ho.g1 _) (Ho.p1 _) ?_)
          | (with_reducible refine load_val_want HK.out 0 _ rfl rfl rfl rfl (Ho.g0 _) (Ho.p0 _) ?_)
          | (with_reducible refine load_val_want HK.out 0 _ rfl rfl rfl rfl (Ho.g1 _) (Ho.p1 _) ?_)
          | (with_reducible refine load_val_want HK.out 1 _ rfl rfl rfl rfl (Ho.g0 _) (Ho.p0 _) ?_)
          | (with_reducible refine load_val_want HK.out 1 _ rfl rfl rfl rfl (Ho.g1 _) (Ho.p1 _) ?_)
          | (with_reducible refine lss_want h1 _ _ _ rfl rfl rfl rfl ?_)
          | (with_reducible refine eql_want h2 _ _ _ rfl rfl rfl rfl ?_)
          | (with_reducible refine lss_want h3 _ _ _ rfl rfl rfl rfl ?_))
        go_ret
        exact ⟨rfl, HK.out.bel⟩
end Go.Proofs.Ytofngihdnjgmeaa
