/- Contracts of View and Loose, of both. Names: which may be; contracts of Name, of both. -/
import Derived.Test.YtofngihdnjgmeaaLFmd
import Derived.Test.YtofngihdnjgmeaaLRtc
import Derived.Test.YtofngihdnjgmeaaLCtJoin
import Derived.Test.YtofngihdnjgmeaaLHoMore
namespace Go.Proofs.Ytofngihdnjgmeaa
set_option maxRecDepth 100000
open Go.ChangeShapes Go.WideShapes Go.ChangeAt Go.RowKit

theorem cbI : cellB 3 = true := by decide
theorem cbS : cellB 9 = true := by decide
theorem cbH : cellB 31 = true := by decide
theorem c_infoF {f : Fd} (h : f.full) : (Try.prog.info? 28).map (·.size) = some (vals f.C).length := by rw [vals_length, show f.C.length = 579 from h]; exact c_info
theorem l_infoF (M : Lk) : (Try.prog.info? 30).map (·.size) = some (vals M.l).length := by rw [vals_length, Lk.len]; kernel_rfl
theorem f_infoF {f : Fd} (h : f.full) : (Try.prog.info? 33).map (·.size) = some f.cells.length := by rw [Fd.len h]; exact f_info
/-- The numbers of what was used of Down are ints. -/
def Fd.ok (f : Fd) : Prop := ∀ z ∈ seg f.C 19 16, -9223372036854775808 ≤ z ∧ z ≤ 9223372036854775807
/-! ### What is loose. -/
theorem sumFrom_isB : ∀ (l : List Int) (acc s : Int), isB acc = true → sumFrom acc l = some s → isB s = true
  | [], acc, s, h, e => by rw [sumFrom] at e; injection e with e; rw [← e]; exact h
  | x :: xs, acc, s, _, e => by
    rw [sumFrom] at e
    split at e
    · rename_i hk
      exact sumFrom_isB xs _ s (okB_iff.1 hk).2.2 e
    · cases e
theorem sumN_isB (l : List Int) : isB (sumN l) = true := by
  cases h : sumFrom 0 l with
  | none => rw [(sumN_none h).1]; exact isB_zero
  | some s => rw [(sumN_some h).1]; exact sumFrom_isB l 0 s isB_zero h
theorem freeN_isB (R : List Int) (k : Int) : isB (freeN R k) = true := by
  unfold freeN
  split
  · exact sumN_isB _
  · exact isB_zero
theorem sumOf_range (hs : List Ho) (k : Int) : 0 ≤ sumOf hs k ∧ sumOf hs k ≤ 1099511627776 := by
  unfold sumOf
  split
  · rename_i h
    exact sumTo_range (rights_iff.1 h).2.1 k hs.length (Nat.le_refl _)
  · omega
def looseD (f : Fd) (hs : List Ho) (k : Int) : Int := if f.k = 1 then freeN (dnR f.C) k - sumOf hs k else 0
def looseU (f : Fd) (k : Int) : Int := if f.k = 1 then freeN (upR f.C) k else 0
theorem loose_1 {f : Fd} (h : f.k = 1) (hs : List Ho) (k : Int) : looseD f hs k = freeN (dnR f.C) k - sumOf hs k ∧ looseU f k = freeN (upR f.C) k := by simp [looseD, looseU, h]
theorem loose_0 {f : Fd} (h : f.k ≠ 1) (hs : List Ho) (k : Int) : looseD f hs k = 0 ∧ looseU f k = 0 := by simp [looseD, looseU, h]
theorem d_infoF {f : Fd} (h : f.full) : (Try.prog.info? 26).map (·.size) = some (vals (dnR f.C)).length := by rw [vals_length, dnR_length h]; exact r_info
theorem u_infoF {f : Fd} (h : f.full) : (Try.prog.info? 26).map (·.size) = some (vals (upR f.C)).length := by rw [vals_length, upR_length h]; exact r_info
theorem wrap_near {a b : Int} (ha : isB a = true) (hb : 0 ≤ b ∧ b ≤ 1099511627776) : IntKind.i64.wrap (a - b) = a - b := by
  obtain ⟨a1, a2⟩ := isB_iff.1 ha
  simp [IntKind.wrap, IntKind.bits, IntKind.signed]; omega
theorem loose_any (f : Fd) (hf : f.full) (hs : List Ho) (k : Int) (w : World) (hd : Row w f.A f.n hs) :
    Calls Try.prog 33 #[.agg f.cells.toArray, .int .i64 k] w fun e w' => e = .returned (.tuple #[.int .i64 (looseD f hs k), .int .i64 (looseU f k)]) ∧ Below w.heap.size w w' := by
  have HK := Lib.hid (KeepF.start (w := w) (rows := [(f.A, f.n, hs)]) (by simpa using hd))
  have HF := Lib.hid hf; clear hf
  have HC := Lib.hid (c_infoF HF.out)
  have HD := Lib.hid (d_infoF HF.out)
  have HU := Lib.hid (u_infoF HF.out)
  by_cases h1 : f.k = 1
  · rw [(loose_1 h1 hs k).1, (loose_1 h1 hs k).2]
    have hwr := wrap_near (freeN_isB (dnR f.C) k) (sumOf_range hs k)
    have hcl := room_any f.C HF.out k
    have hsm : ∀ w (_ : Row w f.A f.n hs), Calls Try.prog 53 #[.slice f.A f.n f.c, .int .i64 k] w fun e w' => e = .returned (.int .i64 (sumOf hs k)) ∧ Below w.heap.size w w' := fun w h => hsum_any f.A f.n f.c hs k w h
    generalize freeN (dnR f.C) k = N at hcl hwr ⊢
    generalize freeN (upR f.C) k = U at hcl ⊢
    generalize sumOf hs k = S at hsm hwr ⊢
    have hk1 : f.cells[1]? = some (.int .i64 1) := by rw [Fd.c1, h1]
    go_enter Try.func33, Try.ntmps33
    go_wp2_with (first
      | (with_reducible refine box_f HK.out rfl _ rfl rfl ?_; intro b u hk; clear HK; have HK := Lib.hid hk; clear hk)
      | (with_reducible refine load_f1 HK.out 0 cbI _ rfl rfl rfl rfl hk1 ?_)
      | (with_reducible refine load_f1 HK.out 0 cbH _ rfl rfl rfl rfl (Fd.cH HF.out) ?_)
      | (with_reducible refine load_fr HK.out 0 Try.underlying28 rfl HC.out _ rfl rfl rfl rfl (Fd.cC f) ?_)
      | (go_at_call 52; (with_reducible refine (hcl _).mono ?_); rintro e u ⟨rfl, hb⟩; have hk := HK.out.call hb; clear hb; clear HK; have HK := Lib.hid hk; clear hk)
      | (go_at_call 53; (with_reducible refine (hsm _ (HK.out.rowAt 0 rfl)).mono ?_); rintro e u ⟨rfl, hb⟩; have hk := HK.out.call hb; clear hb; clear HK; have HK := Lib.hid hk; clear hk))
    go_ret2
    exact ⟨rfl, HK.out.bel⟩
  · rw [(loose_0 h1 hs k).1, (loose_0 h1 hs k).2]
    have hk1 := Fd.c1 f
    generalize f.k = K at h1 hk1
    go_enter Try.func33, Try.ntmps33
    go_wp2_with (first
      | (with_reducible refine box_f HK.out rfl _ rfl rfl ?_; intro b u hk; clear HK; have HK := Lib.hid hk; clear hk)
      | (with_reducible refine load_f1 HK.out 0 cbI _ rfl rfl rfl rfl hk1 ?_))
    go_ret2
    exact ⟨rfl, HK.out.bel⟩

end Go.Proofs.Ytofngihdnjgmeaa

namespace Go.Proofs.Ytofngihdnjgmeaa
set_option maxRecDepth 100000
open Go.ChangeShapes Go.WideShapes Go.ChangeAt Go.RowKit

/-- Byte m of a text. -/
def byAt (s : ByteArray) (m : Nat) : Int := ((s.data.toList.getD m 0).toNat : Int)
def okC (z : Int) : Bool := decide (33 ≤ z) && decide (z ≤ 126)
def nameB (s : ByteArray) : Bool := (decide (1 ≤ s.size) && decide (s.size ≤ 8)) && (List.range s.size).all fun j => okC (byAt s j)
theorem name_len {s : ByteArray} (h : ¬ (1 ≤ s.size ∧ s.size ≤ 8)) : nameB s = false := by
  rw [nameB, Bool.and_eq_false_iff]
  left
  rw [← Bool.not_eq_true, Bool.and_eq_true, decide_eq_true_eq, decide_eq_true_eq]
  exact h
theorem name_bad {s : ByteArray} {m : Nat} (hm : m < s.size) (h : okC (byAt s m) = false) : nameB s = false := by
  rw [nameB, Bool.and_eq_false_iff]
  right
  rw [← Bool.not_eq_true, List.all_eq_true]
  intro hh
  rw [hh m (by simpa using hm)] at h
  cases h
theorem name_good {s : ByteArray} (h : ∀ j, j < s.size → okC (byAt s j) = true) : nameB s = (decide (1 ≤ s.size) && decide (s.size ≤ 8)) := by
  rw [nameB, show ((List.range s.size).all fun j => okC (byAt s j)) = true from List.all_eq_true.2 fun j hj => h j (by simpa using hj), Bool.and_true]
theorem okC_lo {z : Int} (h : decide (z < 33) = true) : okC z = false := by simp [okC]; simp at h; omega
theorem okC_hi {z : Int} (h : decide (126 < z) = true) : okC z = false := by simp [okC]; simp at h; omega
theorem okC_yes {z : Int} (h1 : decide (z < 33) = false) (h2 : decide (126 < z) = false) : okC z = true := by simp [okC]; simp at h1 h2; omega
theorem by_get {s : ByteArray} {m : Nat} (h : m < s.size) : ((s[m]'h).toNat : Int) = byAt s m := by
  obtain ⟨⟨l⟩⟩ := s
  have hl : m < l.length := h
  have e : (ByteArray.mk ⟨l⟩)[m]'h = l.getD m 0 := by
    simp only [List.getD, List.getElem?_eq_getElem hl, Option.getD_some]
    rfl
  rw [e]; rfl
theorem index_by {ops : Array Oper} {rest : List Oper} {o : Oper} {a : Act} {u : World} {Q : Exit → Act → World → Prop} {s : ByteArray} {m : Nat} {z : Int} (hm : m < s.size) (hz : byAt s m = z) (x y : Operand) (ho : o.op = .index 9 x y) (hx : a.eval x = .string s) (hy : a.eval y = .int .i64 (m : Int)) (hw : Region.wanted o (yielded ops a.tmps) = true)
    (h : wpList Try.prog ops Q rest (a.put o.dst (.int .u8 z)) u) : wpList Try.prog ops Q (o :: rest) a u :=
  BigFrame.wpList_want hw fun K hK => by
    have e : (Instr.index 9 (.string s) (.int .i64 (m : Int))).run Try.prog u = .ok (.int .u8 z) u := by
      rw [run_index_string u 9 s .i64 m Try.underlying9, dif_pos (by omega), ← hz]
      simp only [Int.toNat_natCast]
      rw [by_get hm]
    unfold Oper.wp execOp
    simp only [ho, hx, hy, Sem.run_bind, Sem.run_pure, Result.andThen_ok, e]
    exact hK _ _ h
theorem fname_any (s : ByteArray) (hs : s.size ≤ 1000) (w : World) :
    Calls Try.prog 29 #[.string s] w fun e w' => e = .returned (.bool (nameB s)) ∧ Below w.heap.size w w' := by
  by_cases h0 : 1 ≤ s.size ∧ s.size ≤ 8
  · obtain ⟨h1, h8⟩ := h0
    have d1 : decide ((s.size : Int) < 1) = false := by rw [decide_eq_false_iff_not]; omega
    have d8 : decide ((8 : Int) < (s.size : Int)) = false := by rw [decide_eq_false_iff_not]; omega
    go_enter Try.func29, Try.ntmps29
    go_wp2
    go_loopw [14] (fun i wr => ∃ m : Nat, m ≤ s.size ∧ i = .int .i64 m ∧ (∀ j, j < m → okC (byAt s j) = true) ∧ Below w.heap.size w wr) (fun i _ => s.size - (intOf i).toNat)
    case atStart => exact ⟨0, by omega, rfl, by omega, Below.refl _ _⟩
    case round =>
      obtain ⟨m, hm, rfl, hu, hb⟩ := hrel
      have HU := Lib.hid hu; have HB := Lib.hid hb
      clear hu hb
      by_cases hlt : m < s.size
      · have HM := Lib.hid hlt
        obtain ⟨z, hz⟩ : ∃ z, byAt s m = z := ⟨_, rfl⟩
        have HZ := Lib.hid hz
        clear hz
        have i2 : (m : Int) < (s.size : Int) := by omega
        cases h1 : decide (z < 33) with
        | true =>
          have HF := Lib.hid (show nameB s = false from name_bad HM.out (by rw [HZ.out]; exact okC_lo h1))
          go_wp2_with (first
            | (with_reducible refine index_by HM.out HZ.out _ _ rfl rfl rfl rfl ?_))
          go_ret
          exact ⟨by rw [HF.out]; rfl, HB.out⟩
        | false =>
          cases h2 : decide (126 < z) with
          | true =>
            have HF := Lib.hid (show nameB s = false from name_bad HM.out (by rw [HZ.out]; exact okC_hi h2))
            go_wp2_with (first
              | (with_reducible refine index_by HM.out HZ.out _ _ rfl rfl rfl rfl ?_))
            go_ret
            exact ⟨by rw [HF.out]; rfl, HB.out⟩
          | false =>
            have HG := Lib.hid (show okC z = true from okC_yes h1 h2)
            go_wp2_with (first
              | (with_reducible refine index_by HM.out HZ.out _ _ rfl rfl rfl rfl ?_))
            go_roundw
            case rel => exact ⟨m + 1, by omega, by go_num, fun j hj => by
              rcases Nat.lt_or_ge j m with h3 | h3
              · exact HU.out j h3
              · rw [show j = m by omega, HZ.out]; exact HG.out, HB.out⟩
            case measure => simp [intOf]; omega
      · obtain rfl : m = s.size := by omega
        have HF := Lib.hid (name_good HU.out)
        go_wp2
        go_ret
        exact ⟨by rw [HF.out]; simp [h1, h8], HB.out⟩
  · rw [name_len h0]
    by_cases h1 : 1 ≤ s.size
    · have d1 : decide ((s.size : Int) < 1) = false := by rw [decide_eq_false_iff_not]; omega
      have d8 : decide ((8 : Int) < (s.size : Int)) = true := by rw [decide_eq_true_eq]; omega
      go_enter Try.func29, Try.ntmps29
      go_wp2
      go_ret
      exact ⟨rfl, Below.refl _ _⟩
    · have d1 : decide ((s.size : Int) < 1) = true := by rw [decide_eq_true_eq]; omega
      go_enter Try.func29, Try.ntmps29
      go_wp2
      go_ret
      exact ⟨rfl, Below.refl _ _⟩
theorem rfname_any (s : ByteArray) (hs : s.size ≤ 1000) (w : World) :
    Calls Try.prog 22 #[.string s] w fun e w' => e = .returned (.bool (nameB s)) ∧ Below w.heap.size w w' := by
  go_enter Try.func22, Try.ntmps22
  go_wp2
  go_loopw [3] (fun i wr => ∃ m : Nat, m ≤ s.size ∧ i = .int .i64 m ∧ (∀ j, j < m → okC (byAt s j) = true) ∧ Below w.heap.size w wr) (fun i _ => s.size - (intOf i).toNat)
  case atStart => exact ⟨0, by omega, rfl, by omega, Below.refl _ _⟩
  case round =>
    obtain ⟨m, hm, rfl, hu, hb⟩ := hrel
    have HU := Lib.hid hu; have HB := Lib.hid hb
    clear hu hb
    by_cases hlt : m < s.size
    · have HM := Lib.hid hlt
      obtain ⟨z, hz⟩ : ∃ z, byAt s m = z := ⟨_, rfl⟩
      have HZ := Lib.hid hz
      clear hz
      have i2 : (m : Int) < (s.size : Int) := by omega
      cases h1 : decide (z < 33) with
      | true =>
        have HF := Lib.hid (show nameB s = false from name_bad HM.out (by rw [HZ.out]; exact okC_lo h1))
        go_wp2_with (first
          | (with_reducible refine index_by HM.out HZ.out _ _ rfl rfl rfl rfl ?_))
        go_ret
        exact ⟨by rw [HF.out]; rfl, HB.out⟩
      | false =>
        cases h2 : decide (126 < z) with
        | true =>
          have HF := Lib.hid (show nameB s = false from name_bad HM.out (by rw [HZ.out]; exact okC_hi h2))
          go_wp2_with (first
            | (with_reducible refine index_by HM.out HZ.out _ _ rfl rfl rfl rfl ?_))
          go_ret
          exact ⟨by rw [HF.out]; rfl, HB.out⟩
        | false =>
          have HG := Lib.hid (show okC z = true from okC_yes h1 h2)
          go_wp2_with (first
            | (with_reducible refine index_by HM.out HZ.out _ _ rfl rfl rfl rfl ?_))
          go_roundw
          case rel => exact ⟨m + 1, by omega, by go_num, fun j hj => by
            rcases Nat.lt_or_ge j m with h3 | h3
            · exact HU.out j h3
            · rw [show j = m by omega, HZ.out]; exact HG.out, HB.out⟩
          case measure => simp [intOf]; omega
    · obtain rfl : m = s.size := by omega
      have HF := Lib.hid (name_good HU.out)
      by_cases h1 : 1 ≤ s.size
      · have d1 : decide ((0 : Int) < (s.size : Int)) = true := by rw [decide_eq_true_eq]; omega
        go_wp2
        go_ret
        exact ⟨by rw [HF.out]; simp [h1]; omega, HB.out⟩
      · have d1 : decide ((0 : Int) < (s.size : Int)) = false := by rw [decide_eq_false_iff_not]; omega
        go_wp2
        go_ret
        exact ⟨by rw [HF.out]; simp [h1], HB.out⟩
end Go.Proofs.Ytofngihdnjgmeaa
