/- Contracts of View and Loose, of both.; Names: which may be; contracts of Name, of both.; Contracts of counter.between and New, and of the document's New.; Contracts of counter.covers and Right, and of the document's Right.; Contracts of what package lock and the document's layer 5 are made of; of New, Right, Write and Pass.; The library's sort at this program: a row of holds, no two of one name, is in order behind it.; Contracts of lock.Compare, lock.Join and the document's Behind and Join. -/
import Derived.Test.YtgblnlpfgdbnnaaGreatZ11
namespace Go.Proofs.YtgblnlpfgdbnnaaGreat
set_option maxRecDepth 100000
open Go.ChangeShapes Go.WideShapes Go.ChangeAt Go.RowKit

theorem cbI : cellB 3 = true := by decide
theorem cbS : cellB 9 = true := by decide
theorem cbH : cellB 41 = true := by decide
theorem c_infoF {f : Fd} (h : f.full) : (Tryz.prog.info? 38).map (·.size) = some (vals f.C).length := by rw [vals_length, show f.C.length = 579 from h]; exact c_info
theorem l_infoF (M : Lk) : (Tryz.prog.info? 40).map (·.size) = some (vals M.l).length := by rw [vals_length, Lk.len]; kernel_rfl
theorem f_infoF {f : Fd} (h : f.full) : (Tryz.prog.info? 43).map (·.size) = some f.cells.length := by rw [Fd.len h]; exact f_info
/-- The numbers of what was used of Down are ints. -/
def Fd.ok (f : Fd) : Prop := ∀ z ∈ seg f.C 19 16, -9223372036854775808 ≤ z ∧ z ≤ 9223372036854775807
def viewN (f : Fd) : Int := if f.k = 1 then sumN (valL f.C) else if f.k = 2 then f.L.x else 0
def viewE (f : Fd) : Int := if f.k = 1 then sumE (valL f.C) else if f.k = 2 then 0 else 17
theorem view_1 {f : Fd} (h : f.k = 1) : viewN f = sumN (valL f.C) ∧ viewE f = sumE (valL f.C) := by simp [viewN, viewE, h]
theorem view_2 {f : Fd} (h : f.k = 2) : viewN f = f.L.x ∧ viewE f = 0 := by simp [viewN, viewE, h]
theorem view_0 {f : Fd} (h1 : f.k ≠ 1) (h2 : f.k ≠ 2) : viewN f = 0 ∧ viewE f = 17 := by simp [viewN, viewE, h1, h2]
theorem view_any (f : Fd) (hf : f.full) (hD : f.ok) (w : World) :
    Calls Tryz.prog 29 #[.agg f.cells.toArray] w fun e w' => e = .returned (.tuple #[.int .i64 (viewN f), .int .i64 (viewE f)]) ∧ Below w.heap.size w w' := by
  have HK := Lib.hid (KeepF.start (w := w) (rows := []) (by simp))
  have HF := Lib.hid hf; clear hf
  have HC := Lib.hid (c_infoF HF.out)
  by_cases h1 : f.k = 1
  · rw [(view_1 h1).1, (view_1 h1).2]
    have hcl := value_any f.C HF.out hD
    generalize sumN (valL f.C) = N at hcl ⊢
    generalize sumE (valL f.C) = E at hcl ⊢
    have hk1 : f.cells[1]? = some (.int .i64 1) := by rw [Fd.c1, h1]
    go_enter Tryz.func29, Tryz.ntmps29
    go_wp2_with (first
      | (with_reducible refine box_f HK.out rfl _ rfl rfl ?_; intro b u hk; clear HK; have HK := Lib.hid hk; clear hk)
      | (with_reducible refine load_f1 HK.out 0 cbI _ rfl rfl rfl rfl hk1 ?_)
      | (with_reducible refine load_fr HK.out 0 Tryz.underlying38 rfl HC.out _ rfl rfl rfl rfl (Fd.cC f) ?_)
      | (go_at_call 60; (with_reducible refine (hcl _).mono ?_); rintro e u ⟨rfl, hb⟩; have hk := HK.out.call hb; clear hb; clear HK; have HK := Lib.hid hk; clear hk))
    go_ret2
    exact ⟨rfl, HK.out.bel⟩
  · by_cases h2 : f.k = 2
    · rw [(view_2 h2).1, (view_2 h2).2]
      have hk1 : f.cells[1]? = some (.int .i64 2) := by rw [Fd.c1, h2]
      go_enter Tryz.func29, Tryz.ntmps29
      go_wp2_with (first
        | (with_reducible refine box_f HK.out rfl _ rfl rfl ?_; intro b u hk; clear HK; have HK := Lib.hid hk; clear hk)
        | (with_reducible refine load_f1 HK.out 0 cbI _ rfl rfl rfl rfl hk1 ?_)
        | (with_reducible refine load_f1 HK.out 0 cbI _ rfl rfl rfl rfl (Fd.cV HF.out) ?_))
      go_ret2
      exact ⟨rfl, HK.out.bel⟩
    · rw [(view_0 h1 h2).1, (view_0 h1 h2).2]
      have hk1 := Fd.c1 f
      generalize f.k = K at h1 h2 hk1
      go_enter Tryz.func29, Tryz.ntmps29
      go_wp2_with (first
        | (with_reducible refine box_f HK.out rfl _ rfl rfl ?_; intro b u hk; clear HK; have HK := Lib.hid hk; clear hk)
        | (with_reducible refine load_f1 HK.out 0 cbI _ rfl rfl rfl rfl hk1 ?_))
      go_ret2
      exact ⟨rfl, HK.out.bel⟩

/-! ### What is loose. -/
theorem sumFrom_isB : ∀ (l : List Int) (acc s : Int), isB acc = true → sumFrom acc l = some s → isB s = true
  | [], acc, s, h, e => by rw [sumFrom] at e; injection e with e; rw [← e]; exact h
  | x :: xs, acc, s, _, e => by
    rw [sumFrom] at e
    split at e
    · rename_i hk
      exact sumFrom_isB xs _ s (okB_iff.1 hk).2.2 e
    · cases e
theorem sumN_isB (l : List Int) : isB (sumN l) = true := by
  cases h : sumFrom 0 l with
  | none => rw [(sumN_none h).1]; exact isB_zero
  | some s => rw [(sumN_some h).1]; exact sumFrom_isB l 0 s isB_zero h

/-- Byte m of a text. -/
def byAt (s : ByteArray) (m : Nat) : Int := ((s.data.toList.getD m 0).toNat : Int)
def okC (z : Int) : Bool := decide (33 ≤ z) && decide (z ≤ 126)
def nameB (s : ByteArray) : Bool := (decide (1 ≤ s.size) && decide (s.size ≤ 8)) && (List.range s.size).all fun j => okC (byAt s j)
theorem name_len {s : ByteArray} (h : ¬ (1 ≤ s.size ∧ s.size ≤ 8)) : nameB s = false := by
  rw [nameB, Bool.and_eq_false_iff]
  left
  rw [← Bool.not_eq_true, Bool.and_eq_true, decide_eq_true_eq, decide_eq_true_eq]
  exact h
theorem name_bad {s : ByteArray} {m : Nat} (hm : m < s.size) (h : okC (byAt s m) = false) : nameB s = false := by
  rw [nameB, Bool.and_eq_false_iff]
  right
  rw [← Bool.not_eq_true, List.all_eq_true]
  intro hh
  rw [hh m (by simpa using hm)] at h
  cases h
theorem name_good {s : ByteArray} (h : ∀ j, j < s.size → okC (byAt s j) = true) : nameB s = (decide (1 ≤ s.size) && decide (s.size ≤ 8)) := by
  rw [nameB, show ((List.range s.size).all fun j => okC (byAt s j)) = true from List.all_eq_true.2 fun j hj => h j (by simpa using hj), Bool.and_true]
theorem okC_lo {z : Int} (h : decide (z < 33) = true) : okC z = false := by simp [okC]; simp at h; omega
theorem okC_hi {z : Int} (h : decide (126 < z) = true) : okC z = false := by simp [okC]; simp at h; omega
theorem okC_yes {z : Int} (h1 : decide (z < 33) = false) (h2 : decide (126 < z) = false) : okC z = true := by simp [okC]; simp at h1 h2; omega
theorem by_get {s : ByteArray} {m : Nat} (h : m < s.size) : ((s[m]'h).toNat : Int) = byAt s m := by
  obtain ⟨⟨l⟩⟩ := s
  have hl : m < l.length := h
  have e : (ByteArray.mk ⟨l⟩)[m]'h = l.getD m 0 := by
    simp only [List.getD, List.getElem?_eq_getElem hl, Option.getD_some]
    rfl
  rw [e]; rfl
theorem index_by {ops : Array Oper} {rest : List Oper} {o : Oper} {a : Act} {u : World} {Q : Exit → Act → World → Prop} {s : ByteArray} {m : Nat} {z : Int} (hm : m < s.size) (hz : byAt s m = z) (x y : Operand) (ho : o.op = .index 9 x y) (hx : a.eval x = .string s) (hy : a.eval y = .int .i64 (m : Int)) (hw : Region.wanted o (yielded ops a.tmps) = true)
    (h : wpList Tryz.prog ops Q rest (a.put o.dst (.int .u8 z)) u) : wpList Tryz.prog ops Q (o :: rest) a u :=
  BigFrame.wpList_want hw fun K hK => by
    have e : (Instr.index 9 (.string s) (.int .i64 (m : Int))).run Tryz.prog u = .ok (.int .u8 z) u := by
      rw [run_index_string u 9 s .i64 m Tryz.underlying9, dif_pos (by omega), ← hz]
      simp only [Int.toNat_natCast]
      rw [by_get hm]
    unfold Oper.wp execOp
    simp only [ho, hx, hy, Sem.run_bind, Sem.run_pure, Result.andThen_ok, e]
    exact hK _ _ h
theorem fname_any (s : ByteArray) (hs : s.size ≤ 1000) (w : World) :
    Calls Tryz.prog 37 #[.string s] w fun e w' => e = .returned (.bool (nameB s)) ∧ Below w.heap.size w w' := by
  by_cases h0 : 1 ≤ s.size ∧ s.size ≤ 8
  · obtain ⟨h1, h8⟩ := h0
    have d1 : decide ((s.size : Int) < 1) = false := by rw [decide_eq_false_iff_not]; omega
    have d8 : decide ((8 : Int) < (s.size : Int)) = false := by rw [decide_eq_false_iff_not]; omega
    go_enter Tryz.func37, Tryz.ntmps37
    go_wp2
    go_loopw [14] (fun i wr => ∃ m : Nat, m ≤ s.size ∧ i = .int .i64 m ∧ (∀ j, j < m → okC (byAt s j) = true) ∧ Below w.heap.size w wr) (fun i _ => s.size - (intOf i).toNat)
    case atStart => exact ⟨0, by omega, rfl, by omega, Below.refl _ _⟩
    case round =>
      obtain ⟨m, hm, rfl, hu, hb⟩ := hrel
      have HU := Lib.hid hu; have HB := Lib.hid hb
      clear hu hb
      by_cases hlt : m < s.size
      · have HM := Lib.hid hlt
        obtain ⟨z, hz⟩ : ∃ z, byAt s m = z := ⟨_, rfl⟩
        have HZ := Lib.hid hz
        clear hz
        have i2 : (m : Int) < (s.size : Int) := by omega
        cases h1 : decide (z < 33) with
        | true =>
          have HF := Lib.hid (show nameB s = false from name_bad HM.out (by rw [HZ.out]; exact okC_lo h1))
          go_wp2_with (first
            | (with_reducible refine index_by HM.out HZ.out _ _ rfl rfl rfl rfl ?_))
          go_ret
          exact ⟨by rw [HF.out]; rfl, HB.out⟩
        | false =>
          cases h2 : decide (126 < z) with
          | true =>
            have HF := Lib.hid (show nameB s = false from name_bad HM.out (by rw [HZ.out]; exact okC_hi h2))
            go_wp2_with (first
              | (with_reducible refine index_by HM.out HZ.out _ _ rfl rfl rfl rfl ?_))
            go_ret
            exact ⟨by rw [HF.out]; rfl, HB.out⟩
          | false =>
            have HG := Lib.hid (show okC z = true from okC_yes h1 h2)
            go_wp2_with (first
              | (with_reducible refine index_by HM.out HZ.out _ _ rfl rfl rfl rfl ?_))
            go_roundw
            case rel => exact ⟨m + 1, by omega, by go_num, fun j hj => by
              rcases Nat.lt_or_ge j m with h3 | h3
              · exact HU.out j h3
              · rw [show j = m by omega, HZ.out]; exact HG.out, HB.out⟩
            case measure => simp [intOf]; omega
      · obtain rfl : m = s.size := by omega
        have HF := Lib.hid (name_good HU.out)
        go_wp2
        go_ret
        exact ⟨by rw [HF.out]; simp [h1, h8], HB.out⟩
  · rw [name_len h0]
    by_cases h1 : 1 ≤ s.size
    · have d1 : decide ((s.size : Int) < 1) = false := by rw [decide_eq_false_iff_not]; omega
      have d8 : decide ((8 : Int) < (s.size : Int)) = true := by rw [decide_eq_true_eq]; omega
      go_enter Tryz.func37, Tryz.ntmps37
      go_wp2
      go_ret
      exact ⟨rfl, Below.refl _ _⟩
    · have d1 : decide ((s.size : Int) < 1) = true := by rw [decide_eq_true_eq]; omega
      go_enter Tryz.func37, Tryz.ntmps37
      go_wp2
      go_ret
      exact ⟨rfl, Below.refl _ _⟩

def betB (n l h : Int) : Bool := isB l && isB h && decide (l ≤ n) && decide (n ≤ h)
theorem betB_iff {n l h : Int} : betB n l h = true ↔ isB l = true ∧ isB h = true ∧ l ≤ n ∧ n ≤ h := by
  simp only [betB, Bool.and_eq_true, decide_eq_true_eq, and_assoc]
theorem betB_no {n l h : Int} (hn : ¬ (isB l = true ∧ isB h = true ∧ l ≤ n ∧ n ≤ h)) : betB n l h = false := by
  rw [← Bool.not_eq_true, betB_iff]; exact hn
theorem newB_bet (i l h : Int) : newB i l h = (betB i l h && isB (h - l)) := rfl
theorem bet_any (n l h : Int) (w : World) :
    Calls Tryz.prog 99 #[.int .i64 n, .int .i64 l, .int .i64 h] w fun e w' => e = .returned (.bool (betB n l h)) ∧ w = w' := by
  cases hl : isB l with
  | false =>
    rw [show betB n l h = false from betB_no (fun hh => by rw [hl] at hh; cases hh.1)]
    go_enter Tryz.func99, Tryz.ntmps99
    go_wp2_with (first
      | (go_at_call 38; (with_reducible refine (is_any _ _).mono ?_); rintro e u ⟨rfl, rfl⟩))
    go_ret
    exact ⟨rfl, rfl⟩
  | true =>
    cases hh : isB h with
    | false =>
      rw [show betB n l h = false from betB_no (fun hx => by rw [hh] at hx; cases hx.2.1)]
      go_enter Tryz.func99, Tryz.ntmps99
      go_wp2_with (first
        | (go_at_call 38; (with_reducible refine (is_any _ _).mono ?_); rintro e u ⟨rfl, rfl⟩))
      go_ret
      exact ⟨rfl, rfl⟩
    | true =>
      by_cases h1 : l ≤ n
      · by_cases h2 : n ≤ h
        · rw [show betB n l h = true from betB_iff.2 ⟨hl, hh, h1, h2⟩]
          go_enter Tryz.func99, Tryz.ntmps99
          go_wp2_with (first
            | (go_at_call 38; (with_reducible refine (is_any _ _).mono ?_); rintro e u ⟨rfl, rfl⟩))
          go_ret
          exact ⟨rfl, rfl⟩
        · have d2 : decide (n ≤ h) = false := decide_eq_false h2
          rw [show betB n l h = false from betB_no (fun hx => h2 hx.2.2.2)]
          go_enter Tryz.func99, Tryz.ntmps99
          go_wp2_with (first
            | (go_at_call 38; (with_reducible refine (is_any _ _).mono ?_); rintro e u ⟨rfl, rfl⟩))
          go_ret
          exact ⟨by simp [], rfl⟩
      · rw [show betB n l h = false from betB_no (fun hx => h1 hx.2.2.1)]
        go_enter Tryz.func99, Tryz.ntmps99
        go_wp2_with (first
          | (go_at_call 38; (with_reducible refine (is_any _ _).mono ?_); rintro e u ⟨rfl, rfl⟩))
        go_ret
        exact ⟨rfl, rfl⟩
set_option maxRecDepth 100000 in
set_option maxHeartbeats 1000000 in
theorem new_any (i l h : Int) (w : World) :
    Calls Tryz.prog 59 #[.int .i64 i, .int .i64 l, .int .i64 h] w fun e w' => e = .returned (.tuple #[.agg (vals (newA i l h)).toArray, .int .i64 (newE i l h)]) ∧ Below w.heap.size w w' := by
  have HK := Lib.hid (KeepR.start w)
  have hbt := bet_any i l h
  have hsb := sub_any h l
  cases hb : betB i l h with
  | false =>
    obtain ⟨e1, e2⟩ := new_no (show newB i l h = false by rw [newB_bet, hb, Bool.false_and])
    rw [e1, e2]; clear e1 e2
    rw [hb] at hbt
    go_enter Tryz.func59, Tryz.ntmps59
    go_wp2_with (first
      | (with_reducible refine alloc_zero HK.out 579 c_zero rfl rfl ?_; intro br u hn hk hb; clear hn hb; clear HK; have HK := Lib.hid hk; clear hk)
      | (go_at_call 99; (with_reducible refine (hbt _).mono ?_); rintro e u ⟨rfl, rfl⟩)
      | (with_reducible refine build_zero 579 c_build rfl rfl ?_)
      | (with_reducible refine store_all HK.out 0 579 c_info rfl rfl _ _ rfl rfl rfl rfl (zer_length 579) (zer_length 579) ?_; intro u hk hs; clear hs; simp only [List.set_cons_zero] at hk; clear HK; have HK := Lib.hid hk; clear hk))
    exact bodyPost_ret (results_2 rfl Tryz.underlying38 rfl c_info _ HK.out 0 _ rfl rfl rfl (zer_length 579)) rfl ⟨rfl, HK.out.bel⟩
  | true =>
    rw [hb] at hbt
    obtain ⟨b1, b2, b3, b4⟩ := betB_iff.1 hb
    cases hd : isB (h - l) with
    | false =>
      obtain ⟨e1, e2⟩ := new_no (show newB i l h = false by rw [newB_bet, hb, hd, Bool.true_and])
      rw [e1, e2]; clear e1 e2
      obtain ⟨s1, s2⟩ := subE_no (okB_r (a := h) (b := l) hd)
      rw [s1, s2] at hsb
      clear b1 b2 b3 b4 hb hd s1 s2
      go_enter Tryz.func59, Tryz.ntmps59
      go_wp2_with (first
        | (with_reducible refine alloc_zero HK.out 579 c_zero rfl rfl ?_; intro br u hn hk hb; clear hn hb; clear HK; have HK := Lib.hid hk; clear hk)
        | (go_at_call 99; (with_reducible refine (hbt _).mono ?_); rintro e u ⟨rfl, rfl⟩)
        | (go_at_call 100; (with_reducible refine (hsb _).mono ?_); rintro e u ⟨rfl, rfl⟩)
        | (with_reducible refine build_zero 579 c_build rfl rfl ?_)
        | (with_reducible refine store_all HK.out 0 579 c_info rfl rfl _ _ rfl rfl rfl rfl (zer_length 579) (zer_length 579) ?_; intro u hk hs; clear hs; simp only [List.set_cons_zero] at hk; clear HK; have HK := Lib.hid hk; clear hk))
      exact bodyPost_ret (results_2 rfl Tryz.underlying38 rfl c_info _ HK.out 0 _ rfl rfl rfl (zer_length 579)) rfl ⟨rfl, HK.out.bel⟩
    | true =>
      obtain ⟨e1, e2⟩ := new_yes (show newB i l h = true by rw [newB_bet, hb, hd, Bool.true_and])
      rw [e1, e2]; clear e1 e2
      obtain ⟨s1, s2⟩ := subE_ok (okB_iff.2 ⟨b2, b1, hd⟩)
      rw [s1, s2] at hsb
      obtain ⟨l1, l2⟩ := isB_iff.1 b1
      obtain ⟨h1, h2⟩ := isB_iff.1 b2
      clear b1 b2 hb hd s1 s2
      have HN := Lib.hid (newC_length i l h)
      have HNQ := Lib.hid (new_stores i l h)
      go_enter Tryz.func59, Tryz.ntmps59
      go_wp2_with (first
        | (go_at_call 99; (with_reducible refine (hbt _).mono ?_); rintro e u ⟨rfl, rfl⟩)
        | (go_at_call 100; (with_reducible refine (hsb _).mono ?_); rintro e u ⟨rfl, rfl⟩)
        | (with_reducible refine alloc_zero HK.out 579 c_zero rfl rfl ?_; intro br u hn hk hb; clear hn hb; clear HK; have HK := Lib.hid hk; clear hk)
        | (with_reducible refine build_three rfl _ _ _ rfl rfl rfl rfl ?_)
        | (with_reducible refine store_all HK.out 0 579 c_info rfl rfl _ _ rfl rfl rfl rfl (three_length _ _ _) (zer_length 579) ?_; intro u hk hs; clear hs; simp only [List.set_cons_zero] at hk; clear HK; have HK := Lib.hid hk; clear hk)
        | (with_reducible refine store_int HK.out 0 rfl rfl _ _ rfl rfl rfl rfl (by simp [three_length]) ?_; intro u hk; simp only [List.set_cons_zero] at hk; clear HK; have HK := Lib.hid hk; clear hk)
        | (with_reducible refine load_all HK.out 0 579 Tryz.underlying38 rfl c_info rfl _ rfl rfl rfl (by simp [three_length]) ?_)
        | (with_reducible refine store_all HK.out 1 579 c_info rfl rfl _ _ rfl rfl rfl rfl (by simp [three_length]) (zer_length 579) ?_; intro u hk hs; clear hs; simp only [List.set_cons_zero, List.set_cons_succ] at hk; clear HK; have HK := Lib.hid hk; clear hk))
      exact bodyPost_ret (results_2 rfl Tryz.underlying38 rfl c_info _ HK.out 1 _ rfl rfl rfl (by simp [three_length])) rfl ⟨rfl, HK.out.bel⟩

theorem set_pair (f : Nat → Value) (v v' : Value) : ((Array.map f (Array.range 2)).setIfInBounds 0 v).setIfInBounds 1 v' = #[v, v'] := by
  apply Array.ext
  · simp
  · intro i h1 h2
    have : i = 0 ∨ i = 1 := by simp at h2; omega
    rcases this with rfl | rfl <;> simp
theorem run_pair (y z : Int) (u : World) : (Instr.buildSlice 63 2 #[(0, .int .i64 y), (1, .int .i64 z)]).run Tryz.prog u = .ok (.slice (some ⟨u.heap.size, 0, none⟩) 2 2) (u.alloc (.cells (vals [y, z]).toArray 3)) := by
  obtain ⟨i0, hi0, hz0, hz1, hz2⟩ := info_parts int_info
  simp [Instr.buildSlice, run_underlying Tryz.underlying63, sizeOf, typeInfo, zeroValue, hi0, hz0, hz1, Instr.fill, Value.cells, newRow, newObj, vals, set_pair]
  rfl
theorem build2 {ops : Array Oper} {rest : List Oper} {o : Oper} {a : Act} {w u : World} {l : List (Nat × TypeId × List Int)} {Q : Exit → Act → World → Prop} (hk : KeepR w l u) (hgd : o.guard = none) (x x' : Operand) (ho : o.op = .buildSlice 63 2 #[(0, x), (1, x')]) {y z : Int} (hx : a.eval x = .int .i64 y) (hx' : a.eval x' = .int .i64 z)
    (h : ∀ b u', KeepR w ((b, 3, [y, z]) :: l) u' → wpList Tryz.prog ops Q rest (a.put o.dst (.slice (some ⟨b, 0, none⟩) 2 2)) u') : wpList Tryz.prog ops Q (o :: rest) a u :=
  wpList_plain hgd fun _ hK => by
    unfold Oper.wp execOp
    simp only [ho, List.map_toArray, List.map_cons, List.map_nil, hx, hx', Sem.run_bind, Sem.run_pure, Result.andThen_ok, run_pair]
    exact hK _ _ (h _ _ (hk.new rfl))

set_option maxRecDepth 100000 in
set_option maxHeartbeats 1000000 in
theorem cov_any (G U : List Int) (hG : G.length = 16) (hU : U.length = 16) (h l : Int) (w : World) :
    Calls Tryz.prog 140 #[.agg (vals G).toArray, .int .i64 h, .int .i64 l, .agg (vals U).toArray] w fun e w' => e = .returned (.bool (covB G h l U)) ∧ Below w.heap.size w w' := by
  have HG := Lib.hid hG; clear hG
  have HU := Lib.hid hU; clear hU
  have HK := Lib.hid (KeepR.start w)
  have hs1 := fun b W (hr : Reads W (some ⟨b, 0, none⟩) 16 G) => sum_any (some ⟨b, 0, none⟩) 16 16 G W hr
  have hs2 := fun A c W (hr : Reads W A (2 + 16) (h :: ng l :: U)) => sum_any A (2 + 16) c (h :: ng l :: U) W hr
  have hcv : covB G h l U = ((sumE G == 0) && (sumE (h :: ng l :: U) == 0) && (sumN G == sumN (h :: ng l :: U))) := rfl
  rw [hcv]; clear hcv
  have hng : ∀ y : Int, wrap64 (-y) = ng y := fun y => rfl
  generalize sumE G = e1 at hs1 ⊢
  generalize sumN G = n1 at hs1 ⊢
  generalize sumE (h :: ng l :: U) = e2 at hs2 ⊢
  generalize sumN (h :: ng l :: U) = n2 at hs2 ⊢
  cases k0 : (e1 == 0) with
  | false =>
    simp only [Bool.false_and]
    go_enter Tryz.func140, Tryz.ntmps140
    go_wp2_with (first
      | (with_reducible refine box_new (R := G) HK.out rfl _ rfl rfl ?_; intro bg u hk hb; clear hb; clear HK; have HK := Lib.hid hk; clear hk)
      | (with_reducible refine box_new (R := U) HK.out rfl _ rfl rfl ?_; intro bu u hk hb; clear hb; clear HK; have HK := Lib.hid hk; clear hk)
      | (go_at_call 30; (with_reducible refine (hs1 _ _ ((HK.out.get 1 rfl).readsAll HG.out (by omega))).mono ?_); rintro e u ⟨rfl, hb⟩; have hk := HK.out.call hb; clear hb; clear HK; have HK := Lib.hid hk; clear hk)
      | (with_reducible refine build2 HK.out rfl _ _ rfl rfl rfl ?_; intro b u hk; have ho := (hk.get 0 rfl).own (hk.blk _ (List.mem_cons_self ..)).1 (n := 2) rfl (by omega); have HO := Lib.hid ho; clear ho; have hk1 := hk.tail; clear hk; have hk := hk1; clear hk1; clear HK; have HK := Lib.hid hk; clear hk)
      | (refine wpList_append_ints rfl _ _ rfl w.heap.size _ 2 [h, ng l] rfl HO.out _ 16 16 U rfl ((HK.out.get 0 rfl).readsAll HU.out (by omega)) (by omega) HK.out.bel.size ?_; intro v' u ho hg hv; have hk := HK.out.grown HO.out (by simp) hg; clear HO hg hv; simp only [List.cons_append, List.nil_append] at ho; obtain ⟨A, c, rfl⟩ := own_slice ho; have HV := Lib.hid (own_reads ho (by omega)).1; clear ho; clear HK; have HK := Lib.hid hk; clear hk)
      | (go_at_call 30; (with_reducible refine (hs2 _ _ _ HV.out).mono ?_); rintro e u ⟨rfl, hb⟩; have hk := HK.out.call hb; clear hb; clear HK; have HK := Lib.hid hk; clear hk))
    go_ret
    first
      | exact ⟨rfl, HK.out.bel⟩
      | exact ⟨by simp only [k0], HK.out.bel⟩
      | exact ⟨by simp [k0], HK.out.bel⟩
  | true =>
    cases k1 : (e2 == 0) with
    | false =>
      simp only [Bool.and_false, Bool.false_and]
      go_enter Tryz.func140, Tryz.ntmps140
      go_wp2_with (first
        | (with_reducible refine box_new (R := G) HK.out rfl _ rfl rfl ?_; intro bg u hk hb; clear hb; clear HK; have HK := Lib.hid hk; clear hk)
        | (with_reducible refine box_new (R := U) HK.out rfl _ rfl rfl ?_; intro bu u hk hb; clear hb; clear HK; have HK := Lib.hid hk; clear hk)
        | (go_at_call 30; (with_reducible refine (hs1 _ _ ((HK.out.get 1 rfl).readsAll HG.out (by omega))).mono ?_); rintro e u ⟨rfl, hb⟩; have hk := HK.out.call hb; clear hb; clear HK; have HK := Lib.hid hk; clear hk)
        | (with_reducible refine build2 HK.out rfl _ _ rfl rfl rfl ?_; intro b u hk; have ho := (hk.get 0 rfl).own (hk.blk _ (List.mem_cons_self ..)).1 (n := 2) rfl (by omega); have HO := Lib.hid ho; clear ho; have hk1 := hk.tail; clear hk; have hk := hk1; clear hk1; clear HK; have HK := Lib.hid hk; clear hk)
        | (refine wpList_append_ints rfl _ _ rfl w.heap.size _ 2 [h, ng l] rfl HO.out _ 16 16 U rfl ((HK.out.get 0 rfl).readsAll HU.out (by omega)) (by omega) HK.out.bel.size ?_; intro v' u ho hg hv; have hk := HK.out.grown HO.out (by simp) hg; clear HO hg hv; simp only [List.cons_append, List.nil_append] at ho; obtain ⟨A, c, rfl⟩ := own_slice ho; have HV := Lib.hid (own_reads ho (by omega)).1; clear ho; clear HK; have HK := Lib.hid hk; clear hk)
        | (go_at_call 30; (with_reducible refine (hs2 _ _ _ HV.out).mono ?_); rintro e u ⟨rfl, hb⟩; have hk := HK.out.call hb; clear hb; clear HK; have HK := Lib.hid hk; clear hk))
      go_ret
      first
        | exact ⟨rfl, HK.out.bel⟩
        | exact ⟨by simp only [k1], HK.out.bel⟩
        | exact ⟨by simp [k1], HK.out.bel⟩
    | true =>
      cases k2 : (n1 == n2) with
      | false =>
        simp only [Bool.and_true, Bool.and_false]
        go_enter Tryz.func140, Tryz.ntmps140
        go_wp2_with (first
          | (with_reducible refine box_new (R := G) HK.out rfl _ rfl rfl ?_; intro bg u hk hb; clear hb; clear HK; have HK := Lib.hid hk; clear hk)
          | (with_reducible refine box_new (R := U) HK.out rfl _ rfl rfl ?_; intro bu u hk hb; clear hb; clear HK; have HK := Lib.hid hk; clear hk)
          | (go_at_call 30; (with_reducible refine (hs1 _ _ ((HK.out.get 1 rfl).readsAll HG.out (by omega))).mono ?_); rintro e u ⟨rfl, hb⟩; have hk := HK.out.call hb; clear hb; clear HK; have HK := Lib.hid hk; clear hk)
          | (with_reducible refine build2 HK.out rfl _ _ rfl rfl rfl ?_; intro b u hk; have ho := (hk.get 0 rfl).own (hk.blk _ (List.mem_cons_self ..)).1 (n := 2) rfl (by omega); have HO := Lib.hid ho; clear ho; have hk1 := hk.tail; clear hk; have hk := hk1; clear hk1; clear HK; have HK := Lib.hid hk; clear hk)
          | (refine wpList_append_ints rfl _ _ rfl w.heap.size _ 2 [h, ng l] rfl HO.out _ 16 16 U rfl ((HK.out.get 0 rfl).readsAll HU.out (by omega)) (by omega) HK.out.bel.size ?_; intro v' u ho hg hv; have hk := HK.out.grown HO.out (by simp) hg; clear HO hg hv; simp only [List.cons_append, List.nil_append] at ho; obtain ⟨A, c, rfl⟩ := own_slice ho; have HV := Lib.hid (own_reads ho (by omega)).1; clear ho; clear HK; have HK := Lib.hid hk; clear hk)
          | (go_at_call 30; (with_reducible refine (hs2 _ _ _ HV.out).mono ?_); rintro e u ⟨rfl, hb⟩; have hk := HK.out.call hb; clear hb; clear HK; have HK := Lib.hid hk; clear hk))
        go_ret
        first
          | exact ⟨rfl, HK.out.bel⟩
          | exact ⟨by simp only [k2], HK.out.bel⟩
          | exact ⟨by simp [k2], HK.out.bel⟩
      | true =>
        simp only [Bool.and_self]
        go_enter Tryz.func140, Tryz.ntmps140
        go_wp2_with (first
          | (with_reducible refine box_new (R := G) HK.out rfl _ rfl rfl ?_; intro bg u hk hb; clear hb; clear HK; have HK := Lib.hid hk; clear hk)
          | (with_reducible refine box_new (R := U) HK.out rfl _ rfl rfl ?_; intro bu u hk hb; clear hb; clear HK; have HK := Lib.hid hk; clear hk)
          | (go_at_call 30; (with_reducible refine (hs1 _ _ ((HK.out.get 1 rfl).readsAll HG.out (by omega))).mono ?_); rintro e u ⟨rfl, hb⟩; have hk := HK.out.call hb; clear hb; clear HK; have HK := Lib.hid hk; clear hk)
          | (with_reducible refine build2 HK.out rfl _ _ rfl rfl rfl ?_; intro b u hk; have ho := (hk.get 0 rfl).own (hk.blk _ (List.mem_cons_self ..)).1 (n := 2) rfl (by omega); have HO := Lib.hid ho; clear ho; have hk1 := hk.tail; clear hk; have hk := hk1; clear hk1; clear HK; have HK := Lib.hid hk; clear hk)
          | (refine wpList_append_ints rfl _ _ rfl w.heap.size _ 2 [h, ng l] rfl HO.out _ 16 16 U rfl ((HK.out.get 0 rfl).readsAll HU.out (by omega)) (by omega) HK.out.bel.size ?_; intro v' u ho hg hv; have hk := HK.out.grown HO.out (by simp) hg; clear HO hg hv; simp only [List.cons_append, List.nil_append] at ho; obtain ⟨A, c, rfl⟩ := own_slice ho; have HV := Lib.hid (own_reads ho (by omega)).1; clear ho; clear HK; have HK := Lib.hid hk; clear hk)
          | (go_at_call 30; (with_reducible refine (hs2 _ _ _ HV.out).mono ?_); rintro e u ⟨rfl, hb⟩; have hk := HK.out.call hb; clear hb; clear HK; have HK := Lib.hid hk; clear hk))
        go_ret
        first
          | exact ⟨rfl, HK.out.bel⟩
          | exact ⟨by simp only [k2], HK.out.bel⟩
          | exact ⟨by simp [k2], HK.out.bel⟩

theorem right_prog {C : List Int} : rightC C = (betB (C.getD 0 0) (C.getD 1 0) (C.getD 2 0) && (rightsB (seg C 3 288) && (rightsB (seg C 291 288) && (covB (seg C 3 16) (C.getD 0 0) (C.getD 1 0) (seg C 307 16) && covB (seg C 291 16) (C.getD 2 0) (C.getD 0 0) (seg C 19 16))))) := by
  unfold rightC
  rw [show (isB (C.getD 1 0) && isB (C.getD 2 0) && decide (C.getD 1 0 ≤ C.getD 0 0) && decide (C.getD 0 0 ≤ C.getD 2 0)) = betB (C.getD 0 0) (C.getD 1 0) (C.getD 2 0) from rfl]
  cases hb : betB (C.getD 0 0) (C.getD 1 0) (C.getD 2 0) with
  | false => simp only [Bool.false_and]
  | true =>
    cases hd : rightsB (dnR C) with
    | false => rw [show rightsB (seg C 3 288) = false from hd]; simp only [Bool.false_and, Bool.and_false]
    | true =>
      cases hu : rightsB (upR C) with
      | false => rw [show rightsB (seg C 291 288) = false from hu]; simp only [Bool.false_and, Bool.and_false]
      | true =>
        rw [show rightsB (seg C 3 288) = true from hd, show rightsB (seg C 291 288) = true from hu]
        obtain ⟨b1, b2, b3, b4⟩ := betB_iff.1 hb
        obtain ⟨v1, v2, v3, v4⟩ := c_vecs hd hu
        have b0 : isB (C.getD 0 0) = true := by rw [isB_iff] at b1 b2 ⊢; omega
        rw [cov_tie b0 b1 b3 v1 v4, cov_tie b2 b0 b4 v3 v2]
        simp only [Bool.true_and]
set_option maxRecDepth 100000 in
set_option maxHeartbeats 2000000 in
theorem cright_any (C : List Int) (hC : C.length = 579) (w : World) :
    Calls Tryz.prog 105 #[.agg (vals C).toArray] w fun e w' => e = .returned (.bool (rightC C)) ∧ Below w.heap.size w w' := by
  have HK := Lib.hid (KeepR.start w)
  rw [right_prog]
  have L1 := Lib.hid (seg_length (R := C) (o := 3) (n := 288) (by omega))
  have L2 := Lib.hid (seg_length (R := C) (o := 291) (n := 288) (by omega))
  have V1 := Lib.hid (seg_length (R := C) (o := 3) (n := 16) (by omega))
  have V2 := Lib.hid (seg_length (R := C) (o := 307) (n := 16) (by omega))
  have V3 := Lib.hid (seg_length (R := C) (o := 291) (n := 16) (by omega))
  have V4 := Lib.hid (seg_length (R := C) (o := 19) (n := 16) (by omega))
  obtain ⟨p0, hp0⟩ : ∃ p, C.getD 0 0 = p := ⟨_, rfl⟩
  obtain ⟨p1, hp1⟩ : ∃ p, C.getD 1 0 = p := ⟨_, rfl⟩
  obtain ⟨p2, hp2⟩ : ∃ p, C.getD 2 0 = p := ⟨_, rfl⟩
  have hb := bet_any (C.getD 0 0) (C.getD 1 0) (C.getD 2 0)
  have hr1 := right_r (seg C 3 288) L1.out
  have hr2 := right_r (seg C 291 288) L2.out
  have hc1 := cov_any (seg C 3 16) (seg C 307 16) V1.out V2.out (C.getD 0 0) (C.getD 1 0)
  have hc2 := cov_any (seg C 291 16) (seg C 19 16) V3.out V4.out (C.getD 2 0) (C.getD 0 0)
  rw [hp0, hp1, hp2] at hb
  rw [hp0, hp1] at hc1
  rw [hp0, hp2] at hc2
  rw [hp0, hp1, hp2]
  have P0 := Lib.hid hp0; clear hp0
  have P1 := Lib.hid hp1; clear hp1
  have P2 := Lib.hid hp2; clear hp2
  have HC := Lib.hid hC; clear hC
  generalize betB p0 p1 p2 = x0 at hb ⊢
  generalize rightsB (seg C 3 288) = x1 at hr1 ⊢
  generalize rightsB (seg C 291 288) = x2 at hr2 ⊢
  generalize covB (seg C 3 16) p0 p1 (seg C 307 16) = x3 at hc1 ⊢
  generalize covB (seg C 291 16) p2 p0 (seg C 19 16) = x4 at hc2 ⊢
  cases x0 with
  | false =>
    simp only [Bool.false_and]
    go_enter Tryz.func105, Tryz.ntmps105
    go_wp2_with (first
      | (with_reducible refine box_new (R := C) HK.out rfl _ rfl rfl ?_; intro bc u hk hb; clear hb; clear HK; have HK := Lib.hid hk; clear hk)
      | (with_reducible refine load_val HK.out 0 rfl _ rfl rfl rfl P0.out (by have := HC.out; omega) ?_)
      | (with_reducible refine load_val HK.out 0 rfl _ rfl rfl rfl P1.out (by have := HC.out; omega) ?_)
      | (with_reducible refine load_val HK.out 0 rfl _ rfl rfl rfl P2.out (by have := HC.out; omega) ?_)
      | (with_reducible refine load_val_want HK.out 0 _ rfl rfl rfl rfl P0.out (by have := HC.out; omega) ?_)
      | (with_reducible refine load_val_want HK.out 0 _ rfl rfl rfl rfl P1.out (by have := HC.out; omega) ?_)
      | (with_reducible refine load_val_want HK.out 0 _ rfl rfl rfl rfl P2.out (by have := HC.out; omega) ?_)
      | (with_reducible refine load_want HK.out 0 288 Tryz.underlying36 rfl r_info _ rfl rfl rfl rfl (by have := HC.out; omega) ?_)
      | (with_reducible refine load_want HK.out 0 16 Tryz.underlying33 rfl vec_info _ rfl rfl rfl rfl (by have := HC.out; omega) ?_)
      | (go_at_call 99; (with_reducible refine (hb _).mono ?_); rintro e u ⟨rfl, rfl⟩)
      | (go_at_call 139; (with_reducible refine (hr1 _).mono ?_); rintro e u ⟨rfl, hb⟩; have hk := HK.out.call hb; clear hb; clear HK; have HK := Lib.hid hk; clear hk)
      | (go_at_call 139; (with_reducible refine (hr2 _).mono ?_); rintro e u ⟨rfl, hb⟩; have hk := HK.out.call hb; clear hb; clear HK; have HK := Lib.hid hk; clear hk)
      | (go_at_call 140; (with_reducible refine (hc1 _).mono ?_); rintro e u ⟨rfl, hb⟩; have hk := HK.out.call hb; clear hb; clear HK; have HK := Lib.hid hk; clear hk)
      | (go_at_call 140; (with_reducible refine (hc2 _).mono ?_); rintro e u ⟨rfl, hb⟩; have hk := HK.out.call hb; clear hb; clear HK; have HK := Lib.hid hk; clear hk))
    go_ret
    exact ⟨rfl, HK.out.bel⟩
  | true =>
    cases x1 with
    | false =>
      simp only [Bool.and_false, Bool.false_and]
      go_enter Tryz.func105, Tryz.ntmps105
      go_wp2_with (first
        | (with_reducible refine box_new (R := C) HK.out rfl _ rfl rfl ?_; intro bc u hk hb; clear hb; clear HK; have HK := Lib.hid hk; clear hk)
        | (with_reducible refine load_val HK.out 0 rfl _ rfl rfl rfl P0.out (by have := HC.out; omega) ?_)
        | (with_reducible refine load_val HK.out 0 rfl _ rfl rfl rfl P1.out (by have := HC.out; omega) ?_)
        | (with_reducible refine load_val HK.out 0 rfl _ rfl rfl rfl P2.out (by have := HC.out; omega) ?_)
        | (with_reducible refine load_val_want HK.out 0 _ rfl rfl rfl rfl P0.out (by have := HC.out; omega) ?_)
        | (with_reducible refine load_val_want HK.out 0 _ rfl rfl rfl rfl P1.out (by have := HC.out; omega) ?_)
        | (with_reducible refine load_val_want HK.out 0 _ rfl rfl rfl rfl P2.out (by have := HC.out; omega) ?_)
        | (with_reducible refine load_want HK.out 0 288 Tryz.underlying36 rfl r_info _ rfl rfl rfl rfl (by have := HC.out; omega) ?_)
        | (with_reducible refine load_want HK.out 0 16 Tryz.underlying33 rfl vec_info _ rfl rfl rfl rfl (by have := HC.out; omega) ?_)
        | (go_at_call 99; (with_reducible refine (hb _).mono ?_); rintro e u ⟨rfl, rfl⟩)
        | (go_at_call 139; (with_reducible refine (hr1 _).mono ?_); rintro e u ⟨rfl, hb⟩; have hk := HK.out.call hb; clear hb; clear HK; have HK := Lib.hid hk; clear hk)
        | (go_at_call 139; (with_reducible refine (hr2 _).mono ?_); rintro e u ⟨rfl, hb⟩; have hk := HK.out.call hb; clear hb; clear HK; have HK := Lib.hid hk; clear hk)
        | (go_at_call 140; (with_reducible refine (hc1 _).mono ?_); rintro e u ⟨rfl, hb⟩; have hk := HK.out.call hb; clear hb; clear HK; have HK := Lib.hid hk; clear hk)
        | (go_at_call 140; (with_reducible refine (hc2 _).mono ?_); rintro e u ⟨rfl, hb⟩; have hk := HK.out.call hb; clear hb; clear HK; have HK := Lib.hid hk; clear hk))
      go_ret
      exact ⟨rfl, HK.out.bel⟩
    | true =>
      cases x2 with
      | false =>
        simp only [Bool.and_false, Bool.false_and]
        go_enter Tryz.func105, Tryz.ntmps105
        go_wp2_with (first
          | (with_reducible refine box_new (R := C) HK.out rfl _ rfl rfl ?_; intro bc u hk hb; clear hb; clear HK; have HK := Lib.hid hk; clear hk)
          | (with_reducible refine load_val HK.out 0 rfl _ rfl rfl rfl P0.out (by have := HC.out; omega) ?_)
          | (with_reducible refine load_val HK.out 0 rfl _ rfl rfl rfl P1.out (by have := HC.out; omega) ?_)
          | (with_reducible refine load_val HK.out 0 rfl _ rfl rfl rfl P2.out (by have := HC.out; omega) ?_)
          | (with_reducible refine load_val_want HK.out 0 _ rfl rfl rfl rfl P0.out (by have := HC.out; omega) ?_)
          | (with_reducible refine load_val_want HK.out 0 _ rfl rfl rfl rfl P1.out (by have := HC.out; omega) ?_)
          | (with_reducible refine load_val_want HK.out 0 _ rfl rfl rfl rfl P2.out (by have := HC.out; omega) ?_)
          | (with_reducible refine load_want HK.out 0 288 Tryz.underlying36 rfl r_info _ rfl rfl rfl rfl (by have := HC.out; omega) ?_)
          | (with_reducible refine load_want HK.out 0 16 Tryz.underlying33 rfl vec_info _ rfl rfl rfl rfl (by have := HC.out; omega) ?_)
          | (go_at_call 99; (with_reducible refine (hb _).mono ?_); rintro e u ⟨rfl, rfl⟩)
          | (go_at_call 139; (with_reducible refine (hr1 _).mono ?_); rintro e u ⟨rfl, hb⟩; have hk := HK.out.call hb; clear hb; clear HK; have HK := Lib.hid hk; clear hk)
          | (go_at_call 139; (with_reducible refine (hr2 _).mono ?_); rintro e u ⟨rfl, hb⟩; have hk := HK.out.call hb; clear hb; clear HK; have HK := Lib.hid hk; clear hk)
          | (go_at_call 140; (with_reducible refine (hc1 _).mono ?_); rintro e u ⟨rfl, hb⟩; have hk := HK.out.call hb; clear hb; clear HK; have HK := Lib.hid hk; clear hk)
          | (go_at_call 140; (with_reducible refine (hc2 _).mono ?_); rintro e u ⟨rfl, hb⟩; have hk := HK.out.call hb; clear hb; clear HK; have HK := Lib.hid hk; clear hk))
        go_ret
        exact ⟨rfl, HK.out.bel⟩
      | true =>
        cases x3 with
        | false =>
          simp only [Bool.and_false, Bool.false_and]
          go_enter Tryz.func105, Tryz.ntmps105
          go_wp2_with (first
            | (with_reducible refine box_new (R := C) HK.out rfl _ rfl rfl ?_; intro bc u hk hb; clear hb; clear HK; have HK := Lib.hid hk; clear hk)
            | (with_reducible refine load_val HK.out 0 rfl _ rfl rfl rfl P0.out (by have := HC.out; omega) ?_)
            | (with_reducible refine load_val HK.out 0 rfl _ rfl rfl rfl P1.out (by have := HC.out; omega) ?_)
            | (with_reducible refine load_val HK.out 0 rfl _ rfl rfl rfl P2.out (by have := HC.out; omega) ?_)
            | (with_reducible refine load_val_want HK.out 0 _ rfl rfl rfl rfl P0.out (by have := HC.out; omega) ?_)
            | (with_reducible refine load_val_want HK.out 0 _ rfl rfl rfl rfl P1.out (by have := HC.out; omega) ?_)
            | (with_reducible refine load_val_want HK.out 0 _ rfl rfl rfl rfl P2.out (by have := HC.out; omega) ?_)
            | (with_reducible refine load_want HK.out 0 288 Tryz.underlying36 rfl r_info _ rfl rfl rfl rfl (by have := HC.out; omega) ?_)
            | (with_reducible refine load_want HK.out 0 16 Tryz.underlying33 rfl vec_info _ rfl rfl rfl rfl (by have := HC.out; omega) ?_)
            | (go_at_call 99; (with_reducible refine (hb _).mono ?_); rintro e u ⟨rfl, rfl⟩)
            | (go_at_call 139; (with_reducible refine (hr1 _).mono ?_); rintro e u ⟨rfl, hb⟩; have hk := HK.out.call hb; clear hb; clear HK; have HK := Lib.hid hk; clear hk)
            | (go_at_call 139; (with_reducible refine (hr2 _).mono ?_); rintro e u ⟨rfl, hb⟩; have hk := HK.out.call hb; clear hb; clear HK; have HK := Lib.hid hk; clear hk)
            | (go_at_call 140; (with_reducible refine (hc1 _).mono ?_); rintro e u ⟨rfl, hb⟩; have hk := HK.out.call hb; clear hb; clear HK; have HK := Lib.hid hk; clear hk)
            | (go_at_call 140; (with_reducible refine (hc2 _).mono ?_); rintro e u ⟨rfl, hb⟩; have hk := HK.out.call hb; clear hb; clear HK; have HK := Lib.hid hk; clear hk))
          go_ret
          exact ⟨rfl, HK.out.bel⟩
        | true =>
          cases x4 with
          | false =>
            simp only [Bool.and_false]
            go_enter Tryz.func105, Tryz.ntmps105
            go_wp2_with (first
              | (with_reducible refine box_new (R := C) HK.out rfl _ rfl rfl ?_; intro bc u hk hb; clear hb; clear HK; have HK := Lib.hid hk; clear hk)
              | (with_reducible refine load_val HK.out 0 rfl _ rfl rfl rfl P0.out (by have := HC.out; omega) ?_)
              | (with_reducible refine load_val HK.out 0 rfl _ rfl rfl rfl P1.out (by have := HC.out; omega) ?_)
              | (with_reducible refine load_val HK.out 0 rfl _ rfl rfl rfl P2.out (by have := HC.out; omega) ?_)
              | (with_reducible refine load_val_want HK.out 0 _ rfl rfl rfl rfl P0.out (by have := HC.out; omega) ?_)
              | (with_reducible refine load_val_want HK.out 0 _ rfl rfl rfl rfl P1.out (by have := HC.out; omega) ?_)
              | (with_reducible refine load_val_want HK.out 0 _ rfl rfl rfl rfl P2.out (by have := HC.out; omega) ?_)
              | (with_reducible refine load_want HK.out 0 288 Tryz.underlying36 rfl r_info _ rfl rfl rfl rfl (by have := HC.out; omega) ?_)
              | (with_reducible refine load_want HK.out 0 16 Tryz.underlying33 rfl vec_info _ rfl rfl rfl rfl (by have := HC.out; omega) ?_)
              | (go_at_call 99; (with_reducible refine (hb _).mono ?_); rintro e u ⟨rfl, rfl⟩)
              | (go_at_call 139; (with_reducible refine (hr1 _).mono ?_); rintro e u ⟨rfl, hb⟩; have hk := HK.out.call hb; clear hb; clear HK; have HK := Lib.hid hk; clear hk)
              | (go_at_call 139; (with_reducible refine (hr2 _).mono ?_); rintro e u ⟨rfl, hb⟩; have hk := HK.out.call hb; clear hb; clear HK; have HK := Lib.hid hk; clear hk)
              | (go_at_call 140; (with_reducible refine (hc1 _).mono ?_); rintro e u ⟨rfl, hb⟩; have hk := HK.out.call hb; clear hb; clear HK; have HK := Lib.hid hk; clear hk)
              | (go_at_call 140; (with_reducible refine (hc2 _).mono ?_); rintro e u ⟨rfl, hb⟩; have hk := HK.out.call hb; clear hb; clear HK; have HK := Lib.hid hk; clear hk))
            go_ret
            exact ⟨rfl, HK.out.bel⟩
          | true =>
            simp only [Bool.and_self]
            go_enter Tryz.func105, Tryz.ntmps105
            go_wp2_with (first
              | (with_reducible refine box_new (R := C) HK.out rfl _ rfl rfl ?_; intro bc u hk hb; clear hb; clear HK; have HK := Lib.hid hk; clear hk)
              | (with_reducible refine load_val HK.out 0 rfl _ rfl rfl rfl P0.out (by have := HC.out; omega) ?_)
              | (with_reducible refine load_val HK.out 0 rfl _ rfl rfl rfl P1.out (by have := HC.out; omega) ?_)
              | (with_reducible refine load_val HK.out 0 rfl _ rfl rfl rfl P2.out (by have := HC.out; omega) ?_)
              | (with_reducible refine load_val_want HK.out 0 _ rfl rfl rfl rfl P0.out (by have := HC.out; omega) ?_)
              | (with_reducible refine load_val_want HK.out 0 _ rfl rfl rfl rfl P1.out (by have := HC.out; omega) ?_)
              | (with_reducible refine load_val_want HK.out 0 _ rfl rfl rfl rfl P2.out (by have := HC.out; omega) ?_)
              | (with_reducible refine load_want HK.out 0 288 Tryz.underlying36 rfl r_info _ rfl rfl rfl rfl (by have := HC.out; omega) ?_)
              | (with_reducible refine load_want HK.out 0 16 Tryz.underlying33 rfl vec_info _ rfl rfl rfl rfl (by have := HC.out; omega) ?_)
              | (go_at_call 99; (with_reducible refine (hb _).mono ?_); rintro e u ⟨rfl, rfl⟩)
              | (go_at_call 139; (with_reducible refine (hr1 _).mono ?_); rintro e u ⟨rfl, hb⟩; have hk := HK.out.call hb; clear hb; clear HK; have HK := Lib.hid hk; clear hk)
              | (go_at_call 139; (with_reducible refine (hr2 _).mono ?_); rintro e u ⟨rfl, hb⟩; have hk := HK.out.call hb; clear hb; clear HK; have HK := Lib.hid hk; clear hk)
              | (go_at_call 140; (with_reducible refine (hc1 _).mono ?_); rintro e u ⟨rfl, hb⟩; have hk := HK.out.call hb; clear hb; clear HK; have HK := Lib.hid hk; clear hk)
              | (go_at_call 140; (with_reducible refine (hc2 _).mono ?_); rintro e u ⟨rfl, hb⟩; have hk := HK.out.call hb; clear hb; clear HK; have HK := Lib.hid hk; clear hk))
            go_ret
            exact ⟨rfl, HK.out.bel⟩

theorem Lk.g0 (a : Lk) : a.l.getD 0 0 = a.s := rfl
theorem Lk.p0 (a : Lk) : 0 < a.l.length := by simp [Lk.len]
theorem Lk.g1 (a : Lk) : a.l.getD 1 0 = a.v := rfl
theorem Lk.p1 (a : Lk) : 1 < a.l.length := by simp [Lk.len]
theorem Lk.g2 (a : Lk) : a.l.getD 2 0 = a.h := rfl
theorem Lk.p2 (a : Lk) : 2 < a.l.length := by simp [Lk.len]
theorem Lk.g3 (a : Lk) : a.l.getD 3 0 = a.x := rfl
theorem Lk.p3 (a : Lk) : 3 < a.l.length := by simp [Lk.len]
theorem Lk.set2 (a : Lk) (v x : Int) : (a.l.set 1 v).set 3 x = Lk.l ⟨a.s, v, a.h, x⟩ := rfl
theorem rep_anyK (k : Int) (w : World) :
    Calls Tryz.prog 142 #[.int .i64 k] w fun e w' => e = .returned (.bool (repBK k)) ∧ w = w' := by
  by_cases h1 : 0 ≤ k
  · by_cases h2 : k ≤ 15
    · rw [repB_iffK.2 ⟨h1, h2⟩]
      have h3 : k < 16 := by omega
      go_enter Tryz.func142, Tryz.ntmps142
      go_wp2
      go_ret
      exact ⟨rfl, rfl⟩
    · rw [repB_notK.2 (.inr (by omega))]
      have h3 : ¬ k < 16 := by omega
      go_enter Tryz.func142, Tryz.ntmps142
      go_wp2
      go_ret
      exact ⟨rfl, rfl⟩
  · rw [repB_notK.2 (.inl (by omega))]
    go_enter Tryz.func142, Tryz.ntmps142
    go_wp2
    go_ret
    exact ⟨rfl, rfl⟩
theorem cnt_any (n : Int) (w : World) :
    Calls Tryz.prog 141 #[.int .i64 n] w fun e w' => e = .returned (.bool (cntB n)) ∧ w = w' := by
  by_cases h1 : 0 ≤ n
  · rw [show cntB n = isB n by simp [cntB, h1]]
    go_enter Tryz.func141, Tryz.ntmps141
    go_wp2_with (first
      | (go_at_call 38; (with_reducible refine (is_any _ _).mono ?_); rintro e u ⟨rfl, rfl⟩))
    go_ret
    exact ⟨rfl, rfl⟩
  · rw [show cntB n = false by simp [cntB, h1]]
    go_enter Tryz.func141, Tryz.ntmps141
    go_wp2_with (first
      | (go_at_call 38; (with_reducible refine (is_any _ _).mono ?_); rintro e u ⟨rfl, rfl⟩))
    go_ret
    exact ⟨rfl, rfl⟩
theorem lnew_any (k n : Int) (w : World) :
    Calls Tryz.prog 145 #[.int .i64 k, .int .i64 n] w fun e w' => e = .returned (.tuple #[.agg (vals (newAK k n).l).toArray, .int .i64 (newEK k n)]) ∧ Below w.heap.size w w' := by
  have HK := Lib.hid (KeepR.start w)
  cases h1 : repBK k with
  | false =>
    have e : newEK k n = 1 := by simp [newEK, h1]
    rw [show (newAK k n).l = zer 4 by rw [newAK, if_neg (by omega)]; rfl, e]
    clear e
    go_enter Tryz.func145, Tryz.ntmps145
    go_wp2_with (first
      | (with_reducible refine alloc_zero HK.out 4 lk_zero rfl rfl ?_; intro b u hn hk hb; clear hn; clear hb; clear HK; have HK := Lib.hid hk; clear hk)
      | (with_reducible refine build_zero 4 lk_build rfl rfl ?_)
      | (go_at_call 142; (with_reducible refine (rep_anyK _ _).mono ?_); rintro e u ⟨rfl, rfl⟩)
      | (go_at_call 38; (with_reducible refine (is_any _ _).mono ?_); rintro e u ⟨rfl, rfl⟩)
      | (with_reducible refine store_all HK.out 0 4 lk_info rfl rfl _ _ rfl rfl rfl rfl (zer_length 4) (zer_length 4) ?_; intro u hk hs; clear hs; simp only [List.set_cons_zero] at hk; clear HK; have HK := Lib.hid hk; clear hk)
      | (with_reducible refine store_all HK.out 0 4 lk_info rfl rfl _ _ rfl rfl rfl rfl (Lk.len _) (zer_length 4) ?_; intro u hk hs; clear hs; simp only [List.set_cons_zero, List.set_cons_succ] at hk; clear HK; have HK := Lib.hid hk; clear hk)
      | (with_reducible refine build_two rfl _ _ rfl rfl rfl ?_))
    exact bodyPost_ret (results_2 rfl Tryz.underlying40 rfl lk_info _ HK.out 0 _ rfl rfl rfl (zer_length 4)) rfl ⟨rfl, HK.out.bel⟩
  | true =>
    cases h2 : isB n with
    | false =>
      have e : newEK k n = 2 := by simp [newEK, h1, h2]
      rw [show (newAK k n).l = zer 4 by rw [newAK, if_neg (by omega)]; rfl, e]
      clear e
      go_enter Tryz.func145, Tryz.ntmps145
      go_wp2_with (first
        | (with_reducible refine alloc_zero HK.out 4 lk_zero rfl rfl ?_; intro b u hn hk hb; clear hn; clear hb; clear HK; have HK := Lib.hid hk; clear hk)
        | (with_reducible refine build_zero 4 lk_build rfl rfl ?_)
        | (go_at_call 142; (with_reducible refine (rep_anyK _ _).mono ?_); rintro e u ⟨rfl, rfl⟩)
        | (go_at_call 38; (with_reducible refine (is_any _ _).mono ?_); rintro e u ⟨rfl, rfl⟩)
        | (with_reducible refine store_all HK.out 0 4 lk_info rfl rfl _ _ rfl rfl rfl rfl (zer_length 4) (zer_length 4) ?_; intro u hk hs; clear hs; simp only [List.set_cons_zero] at hk; clear HK; have HK := Lib.hid hk; clear hk)
        | (with_reducible refine store_all HK.out 0 4 lk_info rfl rfl _ _ rfl rfl rfl rfl (Lk.len _) (zer_length 4) ?_; intro u hk hs; clear hs; simp only [List.set_cons_zero, List.set_cons_succ] at hk; clear HK; have HK := Lib.hid hk; clear hk)
        | (with_reducible refine build_two rfl _ _ rfl rfl rfl ?_))
      exact bodyPost_ret (results_2 rfl Tryz.underlying40 rfl lk_info _ HK.out 0 _ rfl rfl rfl (zer_length 4)) rfl ⟨rfl, HK.out.bel⟩
    | true =>
      have e : newEK k n = 0 := by simp [newEK, h1, h2]
      rw [show newAK k n = ⟨0, 0, k, n⟩ by rw [newAK, if_pos e], e]
      clear e
      go_enter Tryz.func145, Tryz.ntmps145
      go_wp2_with (first
        | (with_reducible refine alloc_zero HK.out 4 lk_zero rfl rfl ?_; intro b u hn hk hb; clear hn; clear hb; clear HK; have HK := Lib.hid hk; clear hk)
        | (with_reducible refine build_zero 4 lk_build rfl rfl ?_)
        | (go_at_call 142; (with_reducible refine (rep_anyK _ _).mono ?_); rintro e u ⟨rfl, rfl⟩)
        | (go_at_call 38; (with_reducible refine (is_any _ _).mono ?_); rintro e u ⟨rfl, rfl⟩)
        | (with_reducible refine store_all HK.out 0 4 lk_info rfl rfl _ _ rfl rfl rfl rfl (zer_length 4) (zer_length 4) ?_; intro u hk hs; clear hs; simp only [List.set_cons_zero, List.set_cons_succ] at hk; clear HK; have HK := Lib.hid hk; clear hk)
        | (with_reducible refine store_all HK.out 0 4 lk_info rfl rfl _ _ rfl rfl rfl rfl (Lk.len _) (zer_length 4) ?_; intro u hk hs; clear hs; simp only [List.set_cons_zero] at hk; clear HK; have HK := Lib.hid hk; clear hk)
        | (with_reducible refine build_two rfl _ _ rfl rfl rfl ?_))
      exact bodyPost_ret (results_2 rfl Tryz.underlying40 rfl lk_info _ HK.out 0 _ rfl rfl rfl (Lk.len _)) rfl ⟨rfl, HK.out.bel⟩
theorem lright_any (a : Lk) (w : World) :
    Calls Tryz.prog 106 #[.agg (vals a.l).toArray] w fun e w' => e = .returned (.bool (rightL a)) ∧ Below w.heap.size w w' := by
  have HK := Lib.hid (KeepR.start w)
  cases h1 : cntB a.s with
  | false =>
    rw [show rightL a = false by simp [rightL, h1]]
    go_enter Tryz.func106, Tryz.ntmps106
    go_wp2_with (first
      | (with_reducible refine box_new (R := a.l) HK.out rfl _ rfl rfl ?_; intro b u hk hb; clear hb; clear HK; have HK := Lib.hid hk; clear hk)
      | (with_reducible refine load_val HK.out 0 rfl _ rfl rfl rfl (Lk.g0 _) (Lk.p0 _) ?_)
      | (with_reducible refine load_val_want HK.out 0 _ rfl rfl rfl rfl (Lk.g1 _) (Lk.p1 _) ?_)
      | (with_reducible refine load_val_want HK.out 0 _ rfl rfl rfl rfl (Lk.g2 _) (Lk.p2 _) ?_)
      | (with_reducible refine load_val_want HK.out 0 _ rfl rfl rfl rfl (Lk.g3 _) (Lk.p3 _) ?_)
      | (go_at_call 141; (with_reducible refine (cnt_any _ _).mono ?_); rintro e u ⟨rfl, rfl⟩)
      | (go_at_call 142; (with_reducible refine (rep_anyK _ _).mono ?_); rintro e u ⟨rfl, rfl⟩)
      | (go_at_call 38; (with_reducible refine (is_any _ _).mono ?_); rintro e u ⟨rfl, rfl⟩))
    go_ret
    exact ⟨rfl, HK.out.bel⟩
  | true =>
    cases h2 : cntB a.v with
    | false =>
      rw [show rightL a = false by simp [rightL, h2]]
      go_enter Tryz.func106, Tryz.ntmps106
      go_wp2_with (first
        | (with_reducible refine box_new (R := a.l) HK.out rfl _ rfl rfl ?_; intro b u hk hb; clear hb; clear HK; have HK := Lib.hid hk; clear hk)
        | (with_reducible refine load_val HK.out 0 rfl _ rfl rfl rfl (Lk.g0 _) (Lk.p0 _) ?_)
        | (with_reducible refine load_val_want HK.out 0 _ rfl rfl rfl rfl (Lk.g1 _) (Lk.p1 _) ?_)
        | (with_reducible refine load_val_want HK.out 0 _ rfl rfl rfl rfl (Lk.g2 _) (Lk.p2 _) ?_)
        | (with_reducible refine load_val_want HK.out 0 _ rfl rfl rfl rfl (Lk.g3 _) (Lk.p3 _) ?_)
        | (go_at_call 141; (with_reducible refine (cnt_any _ _).mono ?_); rintro e u ⟨rfl, rfl⟩)
        | (go_at_call 142; (with_reducible refine (rep_anyK _ _).mono ?_); rintro e u ⟨rfl, rfl⟩)
        | (go_at_call 38; (with_reducible refine (is_any _ _).mono ?_); rintro e u ⟨rfl, rfl⟩))
      go_ret
      exact ⟨rfl, HK.out.bel⟩
    | true =>
      cases h3 : repBK a.h with
      | false =>
        rw [show rightL a = false by simp [rightL, h3]]
        go_enter Tryz.func106, Tryz.ntmps106
        go_wp2_with (first
          | (with_reducible refine box_new (R := a.l) HK.out rfl _ rfl rfl ?_; intro b u hk hb; clear hb; clear HK; have HK := Lib.hid hk; clear hk)
          | (with_reducible refine load_val HK.out 0 rfl _ rfl rfl rfl (Lk.g0 _) (Lk.p0 _) ?_)
          | (with_reducible refine load_val_want HK.out 0 _ rfl rfl rfl rfl (Lk.g1 _) (Lk.p1 _) ?_)
          | (with_reducible refine load_val_want HK.out 0 _ rfl rfl rfl rfl (Lk.g2 _) (Lk.p2 _) ?_)
          | (with_reducible refine load_val_want HK.out 0 _ rfl rfl rfl rfl (Lk.g3 _) (Lk.p3 _) ?_)
          | (go_at_call 141; (with_reducible refine (cnt_any _ _).mono ?_); rintro e u ⟨rfl, rfl⟩)
          | (go_at_call 142; (with_reducible refine (rep_anyK _ _).mono ?_); rintro e u ⟨rfl, rfl⟩)
          | (go_at_call 38; (with_reducible refine (is_any _ _).mono ?_); rintro e u ⟨rfl, rfl⟩))
        go_ret
        exact ⟨rfl, HK.out.bel⟩
      | true =>
        cases h4 : isB a.x with
        | false =>
          rw [show rightL a = false by simp [rightL, h4]]
          go_enter Tryz.func106, Tryz.ntmps106
          go_wp2_with (first
            | (with_reducible refine box_new (R := a.l) HK.out rfl _ rfl rfl ?_; intro b u hk hb; clear hb; clear HK; have HK := Lib.hid hk; clear hk)
            | (with_reducible refine load_val HK.out 0 rfl _ rfl rfl rfl (Lk.g0 _) (Lk.p0 _) ?_)
            | (with_reducible refine load_val_want HK.out 0 _ rfl rfl rfl rfl (Lk.g1 _) (Lk.p1 _) ?_)
            | (with_reducible refine load_val_want HK.out 0 _ rfl rfl rfl rfl (Lk.g2 _) (Lk.p2 _) ?_)
            | (with_reducible refine load_val_want HK.out 0 _ rfl rfl rfl rfl (Lk.g3 _) (Lk.p3 _) ?_)
            | (go_at_call 141; (with_reducible refine (cnt_any _ _).mono ?_); rintro e u ⟨rfl, rfl⟩)
            | (go_at_call 142; (with_reducible refine (rep_anyK _ _).mono ?_); rintro e u ⟨rfl, rfl⟩)
            | (go_at_call 38; (with_reducible refine (is_any _ _).mono ?_); rintro e u ⟨rfl, rfl⟩))
          go_ret
          exact ⟨rfl, HK.out.bel⟩
        | true =>
          rw [show rightL a = true by simp [rightL, h1, h2, h3, h4]]
          go_enter Tryz.func106, Tryz.ntmps106
          go_wp2_with (first
            | (with_reducible refine box_new (R := a.l) HK.out rfl _ rfl rfl ?_; intro b u hk hb; clear hb; clear HK; have HK := Lib.hid hk; clear hk)
            | (with_reducible refine load_val HK.out 0 rfl _ rfl rfl rfl (Lk.g0 _) (Lk.p0 _) ?_)
            | (with_reducible refine load_val_want HK.out 0 _ rfl rfl rfl rfl (Lk.g1 _) (Lk.p1 _) ?_)
            | (with_reducible refine load_val_want HK.out 0 _ rfl rfl rfl rfl (Lk.g2 _) (Lk.p2 _) ?_)
            | (with_reducible refine load_val_want HK.out 0 _ rfl rfl rfl rfl (Lk.g3 _) (Lk.p3 _) ?_)
            | (go_at_call 141; (with_reducible refine (cnt_any _ _).mono ?_); rintro e u ⟨rfl, rfl⟩)
            | (go_at_call 142; (with_reducible refine (rep_anyK _ _).mono ?_); rintro e u ⟨rfl, rfl⟩)
            | (go_at_call 38; (with_reducible refine (is_any _ _).mono ?_); rintro e u ⟨rfl, rfl⟩))
          go_ret
          exact ⟨rfl, HK.out.bel⟩

end Go.Proofs.YtgblnlpfgdbnnaaGreat

namespace Go.Proofs
open Go.Shelf Go.RowKit Go.Lib Go.Sort

/-- A function that is the library's, but for its name. -/
theorem YtgblnlpfgdbnnaaGreat.bears {P : Program} {f : FuncId} {g B : Func} (h : P.funcs[f]? = some g) (hn : (g.name == "runtime.NumGoroutine") = false) (hb : g = { B with name := g.name }) : Bears P f B := ⟨g.name, hn, h.trans (congrArg some hb)⟩
theorem YtgblnlpfgdbnnaaGreat.grow_of_below {W w' : World} (hb : RowKit.Below W.heap.size W w') (hd : W.drawn ≤ w'.drawn) : ∃ q os', w' = grow (W.drewN q) os' := by
  refine ⟨w'.drawn - W.drawn, w'.heap.extract W.heap.size w'.heap.size, ?_⟩
  obtain ⟨h1, h2, h3, h4, h5⟩ := hb
  cases w' with
  | mk heap tape drawn os output =>
    cases W with
    | mk heap0 tape0 drawn0 os0 output0 =>
      simp only [grow, World.drewN, World.mk.injEq] at *
      refine ⟨?_, h2, by omega, h1, h3⟩
      apply Array.ext_getElem?
      intro i
      rw [Array.getElem?_append]
      split
      · rename_i hi; exact h5 i hi
      · rename_i hi
        rw [Array.getElem?_extract]
        by_cases hs : i < heap.size
        · rw [if_pos (by omega), show heap0.size + (i - heap0.size) = i by omega]
        · rw [if_neg (by omega), Array.getElem?_eq_none (by omega)]

end Go.Proofs

namespace Go.Proofs.YtgblnlpfgdbnnaaGreat
set_option maxRecDepth 100000

open Go.ChangeShapes Go.WideShapes Go.ChangeAt Go.RowKit Go.Shelf Go.Lib Go.Sort

theorem flatK_vals (ys : List Ho) : ∀ j, j < ys.length * 5 → (flatK (fun h : Ho => vals h.l) 5 ys.toArray)[j]! = .int .i64 ((flat ys).getD j 0) := by
  intro j hj
  have hk : j / 5 < ys.length := by omega
  rw [get_flatK _ _ _ _ (by simpa using hj)]
  have e : ys.toArray[j / 5]! = ys.getD (j / 5) z5 := by
    rw [getD_get hk, getElem!_pos ys.toArray (j / 5) (by simpa using hk)]
    simp
  have hg := flat_get (hs := ys) (k := j / 5) (j := j % 5) hk (by omega)
  rw [show j / 5 * 5 + j % 5 = j by omega] at hg
  rw [e, hg, getElem!_pos _ _ (by rw [vals_length, Ho.len]; omega)]
  have h2 := vals_get (zs := (ys.getD (j / 5) z5).l) (j := j % 5) (by rw [Ho.len]; omega)
  rw [List.getElem?_eq_getElem (by rw [vals_length, Ho.len]; omega)] at h2
  injection h2
theorem Own.holds {w : World} {base g cap n : Nat} {hs : List Ho} (h : Own w base (.slice (some ⟨g, 0, none⟩) n cap) hs) : HoldsK (fun h : Ho => vals h.l) 5 w g 0 hs.toArray := by
  intro j hj
  have hj' : j < hs.length * 5 := by simpa using hj
  refine ⟨?_, by rw [Nat.zero_add]; exact h.frozen j⟩
  have h1 := h.range (k := j / 5) (by omega) (j % 5) (.int .i64 ((hs.getD (j / 5) z5).l.getD (j % 5) 0)) (vals_get (by rw [Ho.len]; omega))
  rw [← flat_get (by omega) (by omega), show j / 5 * 5 + j % 5 = j by omega] at h1
  rw [flatK_vals hs j hj', Nat.zero_add]
  exact h1

end Go.Proofs.YtgblnlpfgdbnnaaGreat

namespace Go.Proofs.YtgblnlpfgdbnnaaGreat
set_option maxRecDepth 100000
open Go.ChangeShapes Go.WideShapes Go.ChangeAt Go.RowKit

/-- The four parts of a lock that count, as they lie in a block. -/
structure Parts (u : World) (p : Nat) : Prop where
  c0 : u.cell? ⟨p, 0, none⟩ = some (.func (Fn.func 162) #[] #[])
  c1 : u.cell? ⟨p, 1, none⟩ = some (.func (Fn.func 163) #[] #[])
  c2 : u.cell? ⟨p, 2, none⟩ = some (.func (Fn.func 164) #[] #[])
  c3 : u.cell? ⟨p, 3, none⟩ = some (.func (Fn.func 165) #[] #[])
theorem Parts.below {u u' : World} {p : Nat} (h : Parts u p) (hb : Below u.heap.size u u') : Parts u' p :=
  ⟨(hb.cell (cell_lt h.c0)).trans h.c0, (hb.cell (cell_lt h.c1)).trans h.c1, (hb.cell (cell_lt h.c2)).trans h.c2, (hb.cell (cell_lt h.c3)).trans h.c3⟩
theorem Parts.drew {u : World} {p : Nat} (h : Parts u p) : Parts u.drew p := ⟨h.c0, h.c1, h.c2, h.c3⟩
/-- The first parts are the same. -/
structure Pre (m : Nat) (a b : Lk) : Prop where
  p0 : 1 ≤ m → a.s = b.s
  p1 : 2 ≤ m → a.v = b.v
  p2 : 3 ≤ m → a.h = b.h
  p3 : 4 ≤ m → a.x = b.x
theorem Pre.done {a b : Lk} (h : Pre 4 a b) : cmpL a b = 0 := cmp_zero.2 (Lk.ext' (h.p0 (by omega)) (h.p1 (by omega)) (h.p2 (by omega)) (h.p3 (by omega)))

end Go.Proofs.YtgblnlpfgdbnnaaGreat
