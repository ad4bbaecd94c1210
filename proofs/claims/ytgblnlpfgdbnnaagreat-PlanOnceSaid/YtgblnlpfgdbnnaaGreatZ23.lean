/- Names: the order in which they stand; the library's Compare of texts, and the document's before. -/
import Derived.Test.YtgblnlpfgdbnnaaGreatZ20
namespace Go.Proofs.YtgblnlpfgdbnnaaGreat
set_option maxRecDepth 100000
open Go.ChangeShapes Go.WideShapes Go.ChangeAt Go.RowKit

/-! ### The document's before. -/
theorem bl_drop : ∀ (m : Nat) (x y : List UInt8), (∀ j, j < m → ∃ v, x[j]? = some v ∧ y[j]? = some v) → Op.bytesLess x y = Op.bytesLess (x.drop m) (y.drop m)
  | 0, _, _, _ => rfl
  | m + 1, x, y, h => by
    obtain ⟨v, h1, h2⟩ := h 0 (by omega)
    match x, y, h1, h2 with
    | a :: x, b :: y, h1, h2 =>
      simp at h1 h2
      subst h1; subst h2
      rw [List.drop_succ_cons, List.drop_succ_cons, ← bl_drop m x y fun j hj => by simpa using h (j + 1) (by omega)]
      rw [Op.bytesLess]
      simp
theorem by_at {s : ByteArray} {m : Nat} (h : m < s.size) : ∃ v, s.toList[m]? = some v ∧ byAt s m = (v.toNat : Int) := by
  rw [Lib.toList_data]
  have hl : m < s.data.toList.length := h
  exact ⟨_, List.getElem?_eq_getElem hl, by simp [byAt, List.getD, List.getElem?_eq_getElem hl]⟩
theorem size_len (s : ByteArray) : s.toList.length = s.size := by rw [Lib.toList_data]; rfl
def sameTo (a b : ByteArray) (m : Nat) : Prop := ∀ j, j < m → byAt a j = byAt b j
theorem same_drop {a b : ByteArray} {m : Nat} (ha : m ≤ a.size) (hb : m ≤ b.size) (h : sameTo a b m) : ltS a b = Op.bytesLess (a.toList.drop m) (b.toList.drop m) := by
  refine bl_drop m _ _ fun j hj => ?_
  obtain ⟨v, h1, h2⟩ := by_at (s := a) (m := j) (by omega)
  obtain ⟨x, h3, h4⟩ := by_at (s := b) (m := j) (by omega)
  have := h j hj
  have e : v = x := u8_eq.2 (by omega)
  exact ⟨v, h1, by rw [e]; exact h3⟩
theorem before_ne {a b : ByteArray} {m : Nat} (ha : m < a.size) (hb : m < b.size) (h : sameTo a b m) {z y : Int} (hz : byAt a m = z) (hy : byAt b m = y) (hne : z ≠ y) : ltS a b = decide (z < y) := by
  rw [same_drop (by omega) (by omega) h]
  obtain ⟨v, h1, h2⟩ := by_at ha
  obtain ⟨x, h3, h4⟩ := by_at hb
  have e1 : a.toList.drop m = v :: a.toList.drop (m + 1) := by
    rw [List.drop_eq_getElem_cons (by rw [size_len]; exact ha)]
    congr 1
    have := (List.getElem?_eq_some_iff.1 h1).2
    exact this
  have e2 : b.toList.drop m = x :: b.toList.drop (m + 1) := by
    rw [List.drop_eq_getElem_cons (by rw [size_len]; exact hb)]
    congr 1
    exact (List.getElem?_eq_some_iff.1 h3).2
  rw [e1, e2]
  have hvx : v.toNat ≠ x.toNat := by omega
  cases hc : decide (z < y) with
  | true =>
    exact (bl_cons _ _ _ _).2 (.inl (by simp at hc; omega))
  | false =>
    cases hq : Op.bytesLess (v :: a.toList.drop (m + 1)) (x :: b.toList.drop (m + 1)) with
    | false => rfl
    | true =>
      simp at hc
      rcases (bl_cons _ _ _ _).1 hq with h5 | ⟨h5, _⟩
      · omega
      · exact absurd (u8_eq.1 h5) hvx
theorem before_end {a b : ByteArray} {m : Nat} (ha : m ≤ a.size) (hb : m ≤ b.size) (he : m = a.size ∨ m = b.size) (h : sameTo a b m) : ltS a b = decide ((a.size : Int) < (b.size : Int)) := by
  rw [same_drop ha hb h]
  rcases he with rfl | rfl
  · rw [List.drop_eq_nil_of_le (by rw [size_len]; omega)]
    by_cases hlt : a.size < b.size
    · obtain ⟨x, r, e⟩ : ∃ x r, b.toList.drop a.size = x :: r := by
        cases e : b.toList.drop a.size with
        | nil => have := congrArg List.length e; rw [List.length_drop, size_len] at this; simp at this; omega
        | cons x r => exact ⟨x, r, rfl⟩
      rw [e, decide_eq_true (by omega)]; rfl
    · rw [List.drop_eq_nil_of_le (by rw [size_len]; omega), decide_eq_false (by omega)]; rfl
  · rw [show b.toList.drop b.size = [] from List.drop_eq_nil_of_le (by rw [size_len]; omega), decide_eq_false (by omega)]
    cases a.toList.drop b.size <;> rfl
theorem yield_index {ops : Array Oper} {S : World → Prop} {o : Oper} {a : Act} {s : ByteArray} {m : Nat} {z : Int} (hm : m < s.size) (hz : byAt s m = z) (x y : Operand) (ho : o.op = .index 9 x y) (hx : a.eval x = .string s) (hy : a.eval y = .int .i64 (m : Int)) (hw : Region.wanted o (yielded ops a.tmps) = true) :
    YieldsIf Tryz.prog ops S o (.int .u8 z) a :=
  .inl ⟨hw, fun u _ => by
    have e : (Instr.index 9 (.string s) (.int .i64 (m : Int))).run Tryz.prog u = .ok (.int .u8 z) u := by
      rw [run_index_string u 9 s .i64 m Tryz.underlying9, dif_pos (by omega), ← hz]
      simp only [Int.toNat_natCast]
      rw [by_get hm]
    unfold execOp
    simp only [ho, hx, hy, Sem.run_bind, Sem.run_pure, Result.andThen_ok, e]⟩
theorem yield_neq8 {ops : Array Oper} {S : World → Prop} {o : Oper} {a : Act} {p q : Int} {b : Bool} (hb : (p != q) = b) (x y : Operand) (t : TypeId) (ho : o.op = .binOp .neq 5 x y t) (hx : a.eval x = .int .u8 p) (hy : a.eval y = .int .u8 q) (hw : Region.wanted o (yielded ops a.tmps) = true) :
    YieldsIf Tryz.prog ops S o (.bool b) a :=
  .inl ⟨hw, fun w _ => by
    subst hb
    unfold execOp
    simp only [ho, hx, hy]
    simp [go_sem]⟩
theorem yield_lss8 {ops : Array Oper} {S : World → Prop} {o : Oper} {a : Act} {p q : Int} {b : Bool} (hb : decide (p < q) = b) (x y : Operand) (t : TypeId) (ho : o.op = .binOp .lss 5 x y t) (hx : a.eval x = .int .u8 p) (hy : a.eval y = .int .u8 q) (hw : Region.wanted o (yielded ops a.tmps) = true) :
    YieldsIf Tryz.prog ops S o (.bool b) a :=
  .inl ⟨hw, fun w _ => by
    subst hb
    unfold execOp
    simp only [ho, hx, hy]
    simp [go_sem]⟩
theorem before_any (a b : ByteArray) (ha : a.size ≤ 1000) (hb : b.size ≤ 1000) (w : World) :
    Calls Tryz.prog 35 #[.string a, .string b] w fun e w' => e = .returned (.bool (ltS a b)) ∧ Below w.heap.size w w' := by
  go_enter Tryz.func35, Tryz.ntmps35
  go_wp2
  go_loopw [5] (fun i wr => ∃ m : Nat, m ≤ a.size ∧ m ≤ b.size ∧ i = .int .i64 m ∧ sameTo a b m ∧ Below w.heap.size w wr) (fun i _ => a.size - (intOf i).toNat)
  case atStart => exact ⟨0, by omega, by omega, rfl, fun _ h => by omega, Below.refl _ _⟩
  case round =>
    obtain ⟨m, h1, h2, rfl, hs, hbe⟩ := hrel
    have HT := Lib.hid hs; have HB := Lib.hid hbe
    clear hs hbe
    by_cases hl1 : m < a.size
    · have d1 : decide ((m : Int) < (a.size : Int)) = true := by rw [decide_eq_true_eq]; omega
      by_cases hl2 : m < b.size
      · have d2 : decide ((m : Int) < (b.size : Int)) = true := by rw [decide_eq_true_eq]; omega
        have HM := Lib.hid hl1; have HN := Lib.hid hl2
        obtain ⟨z, hz⟩ : ∃ z, byAt a m = z := ⟨_, rfl⟩
        obtain ⟨y, hy⟩ : ∃ y, byAt b m = y := ⟨_, rfl⟩
        have HZ := Lib.hid hz; have HY := Lib.hid hy
        clear hz hy hl1 hl2
        cases hc : (z != y) with
        | true =>
          have HC := Lib.hid hc
          have HL := Lib.hid (before_ne HM.out HN.out HT.out HZ.out HY.out (by simpa using hc))
          clear hc
          go_wp2
          refine Draws.start (S := fun _ => True) (n := 7) 7 rfl (by kernel_rfl) ?_
          have HS := Lib.hid (show True from trivial)
          refine Draws.take 0 (v := ?v1) HS.out rfl (by kernel_rfl) (fun _ _ _ h => h) (Or.inl ⟨rfl, ?h1⟩) ?r1
          case h1 => intro w' hw'; go_simp; (try with_reducible rfl)
          (try simp only [Act.put, lsA, lsB, lsC])
          refine Draws.take 1 (v := ?v2) HS.out rfl (by kernel_rfl) (fun _ _ _ h => h) (Or.inl ⟨rfl, ?h2⟩) ?r2
          case h2 => intro w' hw'; go_simp; (try with_reducible rfl)
          (try simp only [Act.put, lsA, lsB, lsC])
          refine Draws.take 2 HS.out rfl (by kernel_rfl) (fun _ _ _ h => h) (yield_index HM.out HZ.out _ _ rfl rfl rfl rfl) ?_
          (try simp only [Act.put, lsA, lsB, lsC])
          refine Draws.take 3 (v := ?v3) HS.out rfl (by kernel_rfl) (fun _ _ _ h => h) (Or.inl ⟨rfl, ?h3⟩) ?r3
          case h3 => intro w' hw'; go_simp; (try with_reducible rfl)
          (try simp only [Act.put, lsA, lsB, lsC])
          refine Draws.take 4 (v := ?v4) HS.out rfl (by kernel_rfl) (fun _ _ _ h => h) (Or.inl ⟨rfl, ?h4⟩) ?r4
          case h4 => intro w' hw'; go_simp; (try with_reducible rfl)
          (try simp only [Act.put, lsA, lsB, lsC])
          refine Draws.take 5 HS.out rfl (by kernel_rfl) (fun _ _ _ h => h) (yield_index HN.out HY.out _ _ rfl rfl rfl rfl) ?_
          (try simp only [Act.put, lsA, lsB, lsC])
          refine Draws.take 6 HS.out rfl (by kernel_rfl) (fun _ _ _ h => h) (yield_neq8 HC.out _ _ _ rfl rfl rfl rfl) ?_
          (try simp only [Act.put, lsA, lsB, lsC])
          refine Draws.done (by kernel_rfl) ?_
          go_wp2
          refine Draws.start (S := fun _ => True) (n := 8) 8 rfl (by kernel_rfl) ?_
          have HS := Lib.hid (show True from trivial)
          refine Draws.take 0 (v := ?v9) HS.out rfl (by kernel_rfl) (fun _ _ _ h => h) (Or.inl ⟨rfl, ?h9⟩) ?r9
          case h9 => intro w' hw'; go_simp; (try with_reducible rfl)
          (try simp only [Act.put, lsA, lsB, lsC])
          refine Draws.take 1 (v := ?v10) HS.out rfl (by kernel_rfl) (fun _ _ _ h => h) (Or.inl ⟨rfl, ?h10⟩) ?r10
          case h10 => intro w' hw'; go_simp; (try with_reducible rfl)
          (try simp only [Act.put, lsA, lsB, lsC])
          refine Draws.take 2 HS.out rfl (by kernel_rfl) (fun _ _ _ h => h) (yield_index HM.out HZ.out _ _ rfl rfl rfl rfl) ?_
          (try simp only [Act.put, lsA, lsB, lsC])
          refine Draws.take 3 (v := ?v11) HS.out rfl (by kernel_rfl) (fun _ _ _ h => h) (Or.inl ⟨rfl, ?h11⟩) ?r11
          case h11 => intro w' hw'; go_simp; (try with_reducible rfl)
          (try simp only [Act.put, lsA, lsB, lsC])
          refine Draws.take 4 (v := ?v12) HS.out rfl (by kernel_rfl) (fun _ _ _ h => h) (Or.inl ⟨rfl, ?h12⟩) ?r12
          case h12 => intro w' hw'; go_simp; (try with_reducible rfl)
          (try simp only [Act.put, lsA, lsB, lsC])
          refine Draws.take 5 HS.out rfl (by kernel_rfl) (fun _ _ _ h => h) (yield_index HN.out HY.out _ _ rfl rfl rfl rfl) ?_
          (try simp only [Act.put, lsA, lsB, lsC])
          refine Draws.take 6 HS.out rfl (by kernel_rfl) (fun _ _ _ h => h) (yield_lss8 (b := decide (z < y)) rfl _ _ _ rfl rfl rfl rfl) ?_
          (try simp only [Act.put, lsA, lsB, lsC])
          refine Draws.take 7 (v := ?v13) HS.out rfl (by kernel_rfl) (fun _ _ _ h => h) (Or.inl ⟨rfl, ?h13⟩) ?r13
          case h13 => intro w' hw'; go_simp; (try with_reducible rfl)
          (try simp only [Act.put, lsA, lsB, lsC])
          refine Draws.done (by kernel_rfl) ?_
          go_wp2
          go_ret
          exact ⟨by rw [HL.out]; rfl, HB.out.drew.drew⟩
        | false =>
          have HC := Lib.hid hc
          have HE := Lib.hid (show z = y by simpa using hc)
          clear hc
          go_wp2
          refine Draws.start (S := fun _ => True) (n := 7) 7 rfl (by kernel_rfl) ?_
          have HS := Lib.hid (show True from trivial)
          refine Draws.take 0 (v := ?v5) HS.out rfl (by kernel_rfl) (fun _ _ _ h => h) (Or.inl ⟨rfl, ?h5⟩) ?r5
          case h5 => intro w' hw'; go_simp; (try with_reducible rfl)
          (try simp only [Act.put, lsA, lsB, lsC])
          refine Draws.take 1 (v := ?v6) HS.out rfl (by kernel_rfl) (fun _ _ _ h => h) (Or.inl ⟨rfl, ?h6⟩) ?r6
          case h6 => intro w' hw'; go_simp; (try with_reducible rfl)
          (try simp only [Act.put, lsA, lsB, lsC])
          refine Draws.take 2 HS.out rfl (by kernel_rfl) (fun _ _ _ h => h) (yield_index HM.out HZ.out _ _ rfl rfl rfl rfl) ?_
          (try simp only [Act.put, lsA, lsB, lsC])
          refine Draws.take 3 (v := ?v7) HS.out rfl (by kernel_rfl) (fun _ _ _ h => h) (Or.inl ⟨rfl, ?h7⟩) ?r7
          case h7 => intro w' hw'; go_simp; (try with_reducible rfl)
          (try simp only [Act.put, lsA, lsB, lsC])
          refine Draws.take 4 (v := ?v8) HS.out rfl (by kernel_rfl) (fun _ _ _ h => h) (Or.inl ⟨rfl, ?h8⟩) ?r8
          case h8 => intro w' hw'; go_simp; (try with_reducible rfl)
          (try simp only [Act.put, lsA, lsB, lsC])
          refine Draws.take 5 HS.out rfl (by kernel_rfl) (fun _ _ _ h => h) (yield_index HN.out HY.out _ _ rfl rfl rfl rfl) ?_
          (try simp only [Act.put, lsA, lsB, lsC])
          refine Draws.take 6 HS.out rfl (by kernel_rfl) (fun _ _ _ h => h) (yield_neq8 HC.out _ _ _ rfl rfl rfl rfl) ?_
          (try simp only [Act.put, lsA, lsB, lsC])
          refine Draws.done (by kernel_rfl) ?_
          go_wp2
          go_roundw
          case rel => exact ⟨m + 1, HM.out, HN.out, by go_num, fun j hj => by
            rcases Nat.lt_or_ge j m with h3 | h3
            · exact HT.out j h3
            · rw [show j = m by omega, HZ.out, HY.out, HE.out], HB.out.drew⟩
          case measure => have := HM.out; simp [intOf]; omega
      · have d2 : decide ((m : Int) < (b.size : Int)) = false := by rw [decide_eq_false_iff_not]; omega
        have HL := Lib.hid (before_end h1 h2 (.inr (by omega)) HT.out)
        go_wp2
        go_ret
        exact ⟨by rw [HL.out]; first | rfl | simp, HB.out⟩
    · have d1 : decide ((m : Int) < (a.size : Int)) = false := by rw [decide_eq_false_iff_not]; omega
      have HL := Lib.hid (before_end h1 h2 (.inl (by omega)) HT.out)
      go_wp2
      go_ret
      exact ⟨by rw [HL.out]; first | rfl | simp, HB.out⟩

end Go.Proofs.YtgblnlpfgdbnnaaGreat
