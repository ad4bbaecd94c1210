/- Names: which may be; contracts of Name, of both. -/
import Derived.Test.YtbaccghnneidgaaGreatFv
namespace Go.Proofs.YtbaccghnneidgaaGreat
set_option maxRecDepth 100000
open Go.ChangeShapes Go.WideShapes Go.ChangeAt Go.RowKit

/-- Byte m of a text. -/
def byAt (s : ByteArray) (m : Nat) : Int := ((s.data.toList.getD m 0).toNat : Int)
def okC (z : Int) : Bool := decide (33 ≤ z) && decide (z ≤ 126)
def nameB (s : ByteArray) : Bool := (decide (1 ≤ s.size) && decide (s.size ≤ 8)) && (List.range s.size).all fun j => okC (byAt s j)
theorem name_len {s : ByteArray} (h : ¬ (1 ≤ s.size ∧ s.size ≤ 8)) : nameB s = false := by
  rw [nameB, Bool.and_eq_false_iff]
  left
  rw [← Bool.not_eq_true, Bool.and_eq_true, decide_eq_true_eq, decide_eq_true_eq]
  exact h
theorem name_bad {s : ByteArray} {m : Nat} (hm : m < s.size) (h : okC (byAt s m) = false) : nameB s = false := by
  rw [nameB, Bool.and_eq_false_iff]
  right
  rw [← Bool.not_eq_true, List.all_eq_true]
  intro hh
  rw [hh m (by simpa using hm)] at h
  cases h
theorem name_good {s : ByteArray} (h : ∀ j, j < s.size → okC (byAt s j) = true) : nameB s = (decide (1 ≤ s.size) && decide (s.size ≤ 8)) := by
  rw [nameB, show ((List.range s.size).all fun j => okC (byAt s j)) = true from List.all_eq_true.2 fun j hj => h j (by simpa using hj), Bool.and_true]
theorem okC_lo {z : Int} (h : decide (z < 33) = true) : okC z = false := by simp [okC]; simp at h; omega
theorem okC_hi {z : Int} (h : decide (126 < z) = true) : okC z = false := by simp [okC]; simp at h; omega
theorem okC_yes {z : Int} (h1 : decide (z < 33) = false) (h2 : decide (126 < z) = false) : okC z = true := by simp [okC]; simp at h1 h2; omega
theorem by_get {s : ByteArray} {m : Nat} (h : m < s.size) : ((s[m]'h).toNat : Int) = byAt s m := by
  obtain ⟨⟨l⟩⟩ := s
  have hl : m < l.length := h
  have e : (ByteArray.mk ⟨l⟩)[m]'h = l.getD m 0 := by
    simp only [List.getD, List.getElem?_eq_getElem hl, Option.getD_some]
    rfl
  rw [e]; rfl
theorem index_by {ops : Array Oper} {rest : List Oper} {o : Oper} {a : Act} {u : World} {Q : Exit → Act → World → Prop} {s : ByteArray} {m : Nat} {z : Int} (hm : m < s.size) (hz : byAt s m = z) (x y : Operand) (ho : o.op = .index 9 x y) (hx : a.eval x = .string s) (hy : a.eval y = .int .i64 (m : Int)) (hw : Region.wanted o (yielded ops a.tmps) = true)
    (h : wpList Tryz.prog ops Q rest (a.put o.dst (.int .u8 z)) u) : wpList Tryz.prog ops Q (o :: rest) a u :=
  BigFrame.wpList_want hw fun K hK => by
    have e : (Instr.index 9 (.string s) (.int .i64 (m : Int))).run Tryz.prog u = .ok (.int .u8 z) u := by
      rw [run_index_string u 9 s .i64 m Tryz.underlying9, dif_pos (by omega), ← hz]
      simp only [Int.toNat_natCast]
      rw [by_get hm]
    unfold Oper.wp execOp
    simp only [ho, hx, hy, Sem.run_bind, Sem.run_pure, Result.andThen_ok, e]
    exact hK _ _ h
theorem fname_any (s : ByteArray) (hs : s.size ≤ 1000) (w : World) :
    Calls Tryz.prog 17 #[.string s] w fun e w' => e = .returned (.bool (nameB s)) ∧ Below w.heap.size w w' := by
  by_cases h0 : 1 ≤ s.size ∧ s.size ≤ 8
  · obtain ⟨h1, h8⟩ := h0
    have d1 : decide ((s.size : Int) < 1) = false := by rw [decide_eq_false_iff_not]; omega
    have d8 : decide ((8 : Int) < (s.size : Int)) = false := by rw [decide_eq_false_iff_not]; omega
    go_enter Tryz.func17, Tryz.ntmps17
    go_wp2
    go_loopw [14] (fun i wr => ∃ m : Nat, m ≤ s.size ∧ i = .int .i64 m ∧ (∀ j, j < m → okC (byAt s j) = true) ∧ Below w.heap.size w wr) (fun i _ => s.size - (intOf i).toNat)
    case atStart => exact ⟨0, by omega, rfl, by omega, Below.refl _ _⟩
    case round =>
      obtain ⟨m, hm, rfl, hu, hb⟩ := hrel
      have HU := Lib.hid hu; have HB := Lib.hid hb
      clear hu hb
      by_cases hlt : m < s.size
      · have HM := Lib.hid hlt
        obtain ⟨z, hz⟩ : ∃ z, byAt s m = z := ⟨_, rfl⟩
        have HZ := Lib.hid hz
        clear hz
        have i2 : (m : Int) < (s.size : Int) := by omega
        cases h1 : decide (z < 33) with
        | true =>
          have HF := Lib.hid (show nameB s = false from name_bad HM.out (by rw [HZ.out]; exact okC_lo h1))
          go_wp2_with (first
            | (with_reducible refine index_by HM.out HZ.out _ _ rfl rfl rfl rfl ?_))
          go_ret
          exact ⟨by rw [HF.out]; rfl, HB.out⟩
        | false =>
          cases h2 : decide (126 < z) with
          | true =>
            have HF := Lib.hid (show nameB s = false from name_bad HM.out (by rw [HZ.out]; exact okC_hi h2))
            go_wp2_with (first
              | (with_reducible refine index_by HM.out HZ.out _ _ rfl rfl rfl rfl ?_))
            go_ret
            exact ⟨by rw [HF.out]; rfl, HB.out⟩
          | false =>
            have HG := Lib.hid (show okC z = true from okC_yes h1 h2)
            go_wp2_with (first
              | (with_reducible refine index_by HM.out HZ.out _ _ rfl rfl rfl rfl ?_))
            go_roundw
            case rel => exact ⟨m + 1, by omega, by go_num, fun j hj => by
              rcases Nat.lt_or_ge j m with h3 | h3
              · exact HU.out j h3
              · rw [show j = m by omega, HZ.out]; exact HG.out, HB.out⟩
            case measure => simp [intOf]; omega
      · obtain rfl : m = s.size := by omega
        have HF := Lib.hid (name_good HU.out)
        go_wp2
        go_ret
        exact ⟨by rw [HF.out]; simp [h1, h8], HB.out⟩
  · rw [name_len h0]
    by_cases h1 : 1 ≤ s.size
    · have d1 : decide ((s.size : Int) < 1) = false := by rw [decide_eq_false_iff_not]; omega
      have d8 : decide ((8 : Int) < (s.size : Int)) = true := by rw [decide_eq_true_eq]; omega
      go_enter Tryz.func17, Tryz.ntmps17
      go_wp2
      go_ret
      exact ⟨rfl, Below.refl _ _⟩
    · have d1 : decide ((s.size : Int) < 1) = true := by rw [decide_eq_true_eq]; omega
      go_enter Tryz.func17, Tryz.ntmps17
      go_wp2
      go_ret
      exact ⟨rfl, Below.refl _ _⟩
theorem rfname_any (s : ByteArray) (hs : s.size ≤ 1000) (w : World) :
    Calls Tryz.prog 18 #[.string s] w fun e w' => e = .returned (.bool (nameB s)) ∧ Below w.heap.size w w' := by
  go_enter Tryz.func18, Tryz.ntmps18
  go_wp2
  go_loopw [3] (fun i wr => ∃ m : Nat, m ≤ s.size ∧ i = .int .i64 m ∧ (∀ j, j < m → okC (byAt s j) = true) ∧ Below w.heap.size w wr) (fun i _ => s.size - (intOf i).toNat)
  case atStart => exact ⟨0, by omega, rfl, by omega, Below.refl _ _⟩
  case round =>
    obtain ⟨m, hm, rfl, hu, hb⟩ := hrel
    have HU := Lib.hid hu; have HB := Lib.hid hb
    clear hu hb
    by_cases hlt : m < s.size
    · have HM := Lib.hid hlt
      obtain ⟨z, hz⟩ : ∃ z, byAt s m = z := ⟨_, rfl⟩
      have HZ := Lib.hid hz
      clear hz
      have i2 : (m : Int) < (s.size : Int) := by omega
      cases h1 : decide (z < 33) with
      | true =>
        have HF := Lib.hid (show nameB s = false from name_bad HM.out (by rw [HZ.out]; exact okC_lo h1))
        go_wp2_with (first
          | (with_reducible refine index_by HM.out HZ.out _ _ rfl rfl rfl rfl ?_))
        go_ret
        exact ⟨by rw [HF.out]; rfl, HB.out⟩
      | false =>
        cases h2 : decide (126 < z) with
        | true =>
          have HF := Lib.hid (show nameB s = false from name_bad HM.out (by rw [HZ.out]; exact okC_hi h2))
          go_wp2_with (first
            | (with_reducible refine index_by HM.out HZ.out _ _ rfl rfl rfl rfl ?_))
          go_ret
          exact ⟨by rw [HF.out]; rfl, HB.out⟩
        | false =>
          have HG := Lib.hid (show okC z = true from okC_yes h1 h2)
          go_wp2_with (first
            | (with_reducible refine index_by HM.out HZ.out _ _ rfl rfl rfl rfl ?_))
          go_roundw
          case rel => exact ⟨m + 1, by omega, by go_num, fun j hj => by
            rcases Nat.lt_or_ge j m with h3 | h3
            · exact HU.out j h3
            · rw [show j = m by omega, HZ.out]; exact HG.out, HB.out⟩
          case measure => simp [intOf]; omega
    · obtain rfl : m = s.size := by omega
      have HF := Lib.hid (name_good HU.out)
      by_cases h1 : 1 ≤ s.size
      · have d1 : decide ((0 : Int) < (s.size : Int)) = true := by rw [decide_eq_true_eq]; omega
        go_wp2
        go_ret
        exact ⟨by rw [HF.out]; simp [h1]; omega, HB.out⟩
      · have d1 : decide ((0 : Int) < (s.size : Int)) = false := by rw [decide_eq_false_iff_not]; omega
        go_wp2
        go_ret
        exact ⟨by rw [HF.out]; simp [h1], HB.out⟩
end Go.Proofs.YtbaccghnneidgaaGreat
