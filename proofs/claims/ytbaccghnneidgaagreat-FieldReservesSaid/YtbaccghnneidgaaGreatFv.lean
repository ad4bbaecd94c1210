/- Contracts of View and Loose, of both. -/
import Derived.Test.YtbaccghnneidgaaGreatFd
import Derived.Test.YtbaccghnneidgaaGreatCtVal
import Derived.Test.YtbaccghnneidgaaGreatCtJoin
import Derived.Test.YtbaccghnneidgaaGreatHoMore
namespace Go.Proofs.YtbaccghnneidgaaGreat
set_option maxRecDepth 100000
open Go.ChangeShapes Go.WideShapes Go.ChangeAt Go.RowKit

theorem cbI : cellB 3 = true := by decide
theorem cbS : cellB 9 = true := by decide
theorem cbH : cellB 31 = true := by decide
theorem c_infoF {f : Fd} (h : f.full) : (Tryz.prog.info? 28).map (·.size) = some (vals f.C).length := by rw [vals_length, show f.C.length = 579 from h]; exact c_info
theorem l_infoF (M : Lk) : (Tryz.prog.info? 30).map (·.size) = some (vals M.l).length := by rw [vals_length, Lk.len]; kernel_rfl
theorem f_infoF {f : Fd} (h : f.full) : (Tryz.prog.info? 33).map (·.size) = some f.cells.length := by rw [Fd.len h]; exact f_info
/-- The numbers of what was used of Down are ints. -/
def Fd.ok (f : Fd) : Prop := ∀ z ∈ seg f.C 19 16, -9223372036854775808 ≤ z ∧ z ≤ 9223372036854775807
def viewN (f : Fd) : Int := if f.k = 1 then sumN (valL f.C) else if f.k = 2 then f.L.x else 0
def viewE (f : Fd) : Int := if f.k = 1 then sumE (valL f.C) else if f.k = 2 then 0 else 17
theorem view_1 {f : Fd} (h : f.k = 1) : viewN f = sumN (valL f.C) ∧ viewE f = sumE (valL f.C) := by simp [viewN, viewE, h]
theorem view_2 {f : Fd} (h : f.k = 2) : viewN f = f.L.x ∧ viewE f = 0 := by simp [viewN, viewE, h]
theorem view_0 {f : Fd} (h1 : f.k ≠ 1) (h2 : f.k ≠ 2) : viewN f = 0 ∧ viewE f = 17 := by simp [viewN, viewE, h1, h2]
theorem view_any (f : Fd) (hf : f.full) (hD : f.ok) (w : World) :
    Calls Tryz.prog 11 #[.agg f.cells.toArray] w fun e w' => e = .returned (.tuple #[.int .i64 (viewN f), .int .i64 (viewE f)]) ∧ Below w.heap.size w w' := by
  have HK := Lib.hid (KeepF.start (w := w) (rows := []) (by simp))
  have HF := Lib.hid hf; clear hf
  have HC := Lib.hid (c_infoF HF.out)
  by_cases h1 : f.k = 1
  · rw [(view_1 h1).1, (view_1 h1).2]
    have hcl := value_any f.C HF.out hD
    generalize sumN (valL f.C) = N at hcl ⊢
    generalize sumE (valL f.C) = E at hcl ⊢
    have hk1 : f.cells[1]? = some (.int .i64 1) := by rw [Fd.c1, h1]
    go_enter Tryz.func11, Tryz.ntmps11
    go_wp2_with (first
      | (with_reducible refine box_f HK.out rfl _ rfl rfl ?_; intro b u hk; clear HK; have HK := Lib.hid hk; clear hk)
      | (with_reducible refine load_f1 HK.out 0 cbI _ rfl rfl rfl rfl hk1 ?_)
      | (with_reducible refine load_fr HK.out 0 Tryz.underlying28 rfl HC.out _ rfl rfl rfl rfl (Fd.cC f) ?_)
      | (go_at_call 40; (with_reducible refine (hcl _).mono ?_); rintro e u ⟨rfl, hb⟩; have hk := HK.out.call hb; clear hb; clear HK; have HK := Lib.hid hk; clear hk))
    go_ret2
    exact ⟨rfl, HK.out.bel⟩
  · by_cases h2 : f.k = 2
    · rw [(view_2 h2).1, (view_2 h2).2]
      have hk1 : f.cells[1]? = some (.int .i64 2) := by rw [Fd.c1, h2]
      go_enter Tryz.func11, Tryz.ntmps11
      go_wp2_with (first
        | (with_reducible refine box_f HK.out rfl _ rfl rfl ?_; intro b u hk; clear HK; have HK := Lib.hid hk; clear hk)
        | (with_reducible refine load_f1 HK.out 0 cbI _ rfl rfl rfl rfl hk1 ?_)
        | (with_reducible refine load_f1 HK.out 0 cbI _ rfl rfl rfl rfl (Fd.cV HF.out) ?_))
      go_ret2
      exact ⟨rfl, HK.out.bel⟩
    · rw [(view_0 h1 h2).1, (view_0 h1 h2).2]
      have hk1 := Fd.c1 f
      generalize f.k = K at h1 h2 hk1
      go_enter Tryz.func11, Tryz.ntmps11
      go_wp2_with (first
        | (with_reducible refine box_f HK.out rfl _ rfl rfl ?_; intro b u hk; clear HK; have HK := Lib.hid hk; clear hk)
        | (with_reducible refine load_f1 HK.out 0 cbI _ rfl rfl rfl rfl hk1 ?_))
      go_ret2
      exact ⟨rfl, HK.out.bel⟩

theorem rview_any (f : Fd) (hf : f.full) (w : World) :
    Calls Tryz.prog 12 #[.agg f.cells.toArray] w fun e w' => e = .returned (.tuple #[.int .i64 (viewN f), .int .i64 (viewE f)]) ∧ Below w.heap.size w w' := by
  have HK := Lib.hid (KeepF.start (w := w) (rows := []) (by simp))
  have HF := Lib.hid hf; clear hf
  have HC := Lib.hid (c_infoF HF.out)
  by_cases h1 : f.k = 1
  · rw [(view_1 h1).1, (view_1 h1).2]
    have hcl := rvalue_any f.C HF.out
    generalize sumN (valL f.C) = N at hcl ⊢
    generalize sumE (valL f.C) = E at hcl ⊢
    have hk1 : f.cells[1]? = some (.int .i64 1) := by rw [Fd.c1, h1]
    go_enter Tryz.func12, Tryz.ntmps12
    go_wp2_with (first
      | (with_reducible refine box_f HK.out rfl _ rfl rfl ?_; intro b u hk; clear HK; have HK := Lib.hid hk; clear hk)
      | (with_reducible refine load_f1 HK.out 0 cbI _ rfl rfl rfl rfl hk1 ?_)
      | (with_reducible refine load_fr HK.out 0 Tryz.underlying28 rfl HC.out _ rfl rfl rfl rfl (Fd.cC f) ?_)
      | (go_at_call 41; (with_reducible refine (hcl _).mono ?_); rintro e u ⟨rfl, hb⟩; have hk := HK.out.call hb; clear hb; clear HK; have HK := Lib.hid hk; clear hk))
    go_ret2
    exact ⟨rfl, HK.out.bel⟩
  · by_cases h2 : f.k = 2
    · rw [(view_2 h2).1, (view_2 h2).2]
      have hk1 : f.cells[1]? = some (.int .i64 2) := by rw [Fd.c1, h2]
      go_enter Tryz.func12, Tryz.ntmps12
      go_wp2_with (first
        | (with_reducible refine box_f HK.out rfl _ rfl rfl ?_; intro b u hk; clear HK; have HK := Lib.hid hk; clear hk)
        | (with_reducible refine load_f1 HK.out 0 cbI _ rfl rfl rfl rfl hk1 ?_)
        | (with_reducible refine load_f1 HK.out 0 cbI _ rfl rfl rfl rfl (Fd.cV HF.out) ?_))
      go_ret2
      exact ⟨rfl, HK.out.bel⟩
    · rw [(view_0 h1 h2).1, (view_0 h1 h2).2]
      have hk1 := Fd.c1 f
      generalize f.k = K at h1 h2 hk1
      go_enter Tryz.func12, Tryz.ntmps12
      go_wp2_with (first
        | (with_reducible refine box_f HK.out rfl _ rfl rfl ?_; intro b u hk; clear HK; have HK := Lib.hid hk; clear hk)
        | (with_reducible refine load_f1 HK.out 0 cbI _ rfl rfl rfl rfl hk1 ?_))
      go_ret2
      exact ⟨rfl, HK.out.bel⟩

/-! ### What is loose. -/
theorem sumFrom_isB : ∀ (l : List Int) (acc s : Int), isB acc = true → sumFrom acc l = some s → isB s = true
  | [], acc, s, h, e => by rw [sumFrom] at e; injection e with e; rw [← e]; exact h
  | x :: xs, acc, s, _, e => by
    rw [sumFrom] at e
    split at e
    · rename_i hk
      exact sumFrom_isB xs _ s (okB_iff.1 hk).2.2 e
    · cases e
theorem sumN_isB (l : List Int) : isB (sumN l) = true := by
  cases h : sumFrom 0 l with
  | none => rw [(sumN_none h).1]; exact isB_zero
  | some s => rw [(sumN_some h).1]; exact sumFrom_isB l 0 s isB_zero h
theorem freeN_isB (R : List Int) (k : Int) : isB (freeN R k) = true := by
  unfold freeN
  split
  · exact sumN_isB _
  · exact isB_zero
theorem sumOf_range (hs : List Ho) (k : Int) : 0 ≤ sumOf hs k ∧ sumOf hs k ≤ 1099511627776 := by
  unfold sumOf
  split
  · rename_i h
    exact sumTo_range (rights_iff.1 h).2.1 k hs.length (Nat.le_refl _)
  · omega
def looseD (f : Fd) (hs : List Ho) (k : Int) : Int := if f.k = 1 then freeN (dnR f.C) k - sumOf hs k else 0
def looseU (f : Fd) (k : Int) : Int := if f.k = 1 then freeN (upR f.C) k else 0
theorem loose_1 {f : Fd} (h : f.k = 1) (hs : List Ho) (k : Int) : looseD f hs k = freeN (dnR f.C) k - sumOf hs k ∧ looseU f k = freeN (upR f.C) k := by simp [looseD, looseU, h]
theorem loose_0 {f : Fd} (h : f.k ≠ 1) (hs : List Ho) (k : Int) : looseD f hs k = 0 ∧ looseU f k = 0 := by simp [looseD, looseU, h]
theorem Fd.cD {f : Fd} (h : f.full) : ∀ j v, (vals (dnR f.C))[j]? = some v → f.cells[6 + j]? = some v := by
  intro j v hv
  have h : f.C.length = 579 := h
  obtain ⟨hj, rfl⟩ := vals_at hv
  rw [dnR_length h] at hj
  have := f.cC (3 + j) _ (vals_get (by omega))
  rw [show 6 + j = 3 + (3 + j) by omega, this, dnR, seg_get hj]
theorem Fd.cU {f : Fd} (h : f.full) : ∀ j v, (vals (upR f.C))[j]? = some v → f.cells[294 + j]? = some v := by
  intro j v hv
  have h : f.C.length = 579 := h
  obtain ⟨hj, rfl⟩ := vals_at hv
  rw [upR_length h] at hj
  have := f.cC (291 + j) _ (vals_get (by omega))
  rw [show 294 + j = 3 + (291 + j) by omega, this, upR, seg_get hj]
theorem d_infoF {f : Fd} (h : f.full) : (Tryz.prog.info? 26).map (·.size) = some (vals (dnR f.C)).length := by rw [vals_length, dnR_length h]; exact r_info
theorem u_infoF {f : Fd} (h : f.full) : (Tryz.prog.info? 26).map (·.size) = some (vals (upR f.C)).length := by rw [vals_length, upR_length h]; exact r_info
theorem wrap_near {a b : Int} (ha : isB a = true) (hb : 0 ≤ b ∧ b ≤ 1099511627776) : IntKind.i64.wrap (a - b) = a - b := by
  obtain ⟨a1, a2⟩ := isB_iff.1 ha
  simp [IntKind.wrap, IntKind.bits, IntKind.signed]; omega
theorem loose_any (f : Fd) (hf : f.full) (hs : List Ho) (k : Int) (w : World) (hd : Row w f.A f.n hs) :
    Calls Tryz.prog 13 #[.agg f.cells.toArray, .int .i64 k] w fun e w' => e = .returned (.tuple #[.int .i64 (looseD f hs k), .int .i64 (looseU f k)]) ∧ Below w.heap.size w w' := by
  have HK := Lib.hid (KeepF.start (w := w) (rows := [(f.A, f.n, hs)]) (by simpa using hd))
  have HF := Lib.hid hf; clear hf
  have HC := Lib.hid (c_infoF HF.out)
  have HD := Lib.hid (d_infoF HF.out)
  have HU := Lib.hid (u_infoF HF.out)
  by_cases h1 : f.k = 1
  · rw [(loose_1 h1 hs k).1, (loose_1 h1 hs k).2]
    have hwr := wrap_near (freeN_isB (dnR f.C) k) (sumOf_range hs k)
    have hcl := room_any f.C HF.out k
    have hsm : ∀ w (_ : Row w f.A f.n hs), Calls Tryz.prog 43 #[.slice f.A f.n f.c, .int .i64 k] w fun e w' => e = .returned (.int .i64 (sumOf hs k)) ∧ Below w.heap.size w w' := fun w h => hsum_any f.A f.n f.c hs k w h
    generalize freeN (dnR f.C) k = N at hcl hwr ⊢
    generalize freeN (upR f.C) k = U at hcl ⊢
    generalize sumOf hs k = S at hsm hwr ⊢
    have hk1 : f.cells[1]? = some (.int .i64 1) := by rw [Fd.c1, h1]
    go_enter Tryz.func13, Tryz.ntmps13
    go_wp2_with (first
      | (with_reducible refine box_f HK.out rfl _ rfl rfl ?_; intro b u hk; clear HK; have HK := Lib.hid hk; clear hk)
      | (with_reducible refine load_f1 HK.out 0 cbI _ rfl rfl rfl rfl hk1 ?_)
      | (with_reducible refine load_f1 HK.out 0 cbH _ rfl rfl rfl rfl (Fd.cH HF.out) ?_)
      | (with_reducible refine load_fr HK.out 0 Tryz.underlying28 rfl HC.out _ rfl rfl rfl rfl (Fd.cC f) ?_)
      | (go_at_call 42; (with_reducible refine (hcl _).mono ?_); rintro e u ⟨rfl, hb⟩; have hk := HK.out.call hb; clear hb; clear HK; have HK := Lib.hid hk; clear hk)
      | (go_at_call 43; (with_reducible refine (hsm _ (HK.out.rowAt 0 rfl)).mono ?_); rintro e u ⟨rfl, hb⟩; have hk := HK.out.call hb; clear hb; clear HK; have HK := Lib.hid hk; clear hk))
    go_ret2
    exact ⟨rfl, HK.out.bel⟩
  · rw [(loose_0 h1 hs k).1, (loose_0 h1 hs k).2]
    have hk1 := Fd.c1 f
    generalize f.k = K at h1 hk1
    go_enter Tryz.func13, Tryz.ntmps13
    go_wp2_with (first
      | (with_reducible refine box_f HK.out rfl _ rfl rfl ?_; intro b u hk; clear HK; have HK := Lib.hid hk; clear hk)
      | (with_reducible refine load_f1 HK.out 0 cbI _ rfl rfl rfl rfl hk1 ?_))
    go_ret2
    exact ⟨rfl, HK.out.bel⟩

theorem rloose_any (f : Fd) (hf : f.full) (hs : List Ho) (k : Int) (hr : f.k = 1 → rightsL hs = true) (w : World) (hd : Row w f.A f.n hs) :
    Calls Tryz.prog 15 #[.agg f.cells.toArray, .int .i64 k] w fun e w' => e = .returned (.tuple #[.int .i64 (looseD f hs k), .int .i64 (looseU f k)]) ∧ Below w.heap.size w w' := by
  have HK := Lib.hid (KeepF.start (w := w) (rows := [(f.A, f.n, hs)]) (by simpa using hd))
  have HF := Lib.hid hf; clear hf
  have HC := Lib.hid (c_infoF HF.out)
  have HD := Lib.hid (d_infoF HF.out)
  have HU := Lib.hid (u_infoF HF.out)
  by_cases h1 : f.k = 1
  · rw [(loose_1 h1 hs k).1, (loose_1 h1 hs k).2]
    have hwr := wrap_near (freeN_isB (dnR f.C) k) (sumOf_range hs k)
    have hfd := rfree_any (dnR f.C) (dnR_length HF.out) k
    have hfu := rfree_any (upR f.C) (upR_length HF.out) k
    have hsm : ∀ w (_ : Row w f.A f.n hs), Calls Tryz.prog 49 #[.slice f.A f.n f.c, .int .i64 k] w fun e w' => e = .returned (.int .i64 (sumOf hs k)) ∧ Below w.heap.size w w' := fun w h => by
      rw [show sumOf hs k = sumL hs k by simp [sumOf, hr h1]]
      exact rsum_anyH f.A f.n f.c hs k w h (hr h1)
    generalize freeN (dnR f.C) k = N at hfd hwr ⊢
    generalize freeN (upR f.C) k = U at hfu ⊢
    generalize freeE (dnR f.C) k = NE at hfd
    generalize freeE (upR f.C) k = UE at hfu
    generalize sumOf hs k = S at hsm hwr ⊢
    have hk1 : f.cells[1]? = some (.int .i64 1) := by rw [Fd.c1, h1]
    go_enter Tryz.func15, Tryz.ntmps15
    go_wp2_with (first
      | (with_reducible refine box_f HK.out rfl _ rfl rfl ?_; intro b u hk; clear HK; have HK := Lib.hid hk; clear hk)
      | (with_reducible refine load_f1 HK.out 0 cbI _ rfl rfl rfl rfl hk1 ?_)
      | (with_reducible refine load_f1 HK.out 0 cbH _ rfl rfl rfl rfl (Fd.cH HF.out) ?_)
      | (with_reducible refine load_fr HK.out 0 Tryz.underlying26 rfl HD.out _ rfl rfl rfl rfl (Fd.cD HF.out) ?_)
      | (with_reducible refine load_fr HK.out 0 Tryz.underlying26 rfl HU.out _ rfl rfl rfl rfl (Fd.cU HF.out) ?_)
      | (go_at_call 48; (with_reducible refine (hfd _).mono ?_); rintro e u ⟨rfl, hb⟩; have hk := HK.out.call hb; clear hb; clear HK; have HK := Lib.hid hk; clear hk)
      | (go_at_call 48; (with_reducible refine (hfu _).mono ?_); rintro e u ⟨rfl, hb⟩; have hk := HK.out.call hb; clear hb; clear HK; have HK := Lib.hid hk; clear hk)
      | (go_at_call 49; (with_reducible refine (hsm _ (HK.out.rowAt 0 rfl)).mono ?_); rintro e u ⟨rfl, hb⟩; have hk := HK.out.call hb; clear hb; clear HK; have HK := Lib.hid hk; clear hk))
    go_ret2
    exact ⟨rfl, HK.out.bel⟩
  · rw [(loose_0 h1 hs k).1, (loose_0 h1 hs k).2]
    have hk1 := Fd.c1 f
    generalize f.k = K at h1 hk1
    go_enter Tryz.func15, Tryz.ntmps15
    go_wp2_with (first
      | (with_reducible refine box_f HK.out rfl _ rfl rfl ?_; intro b u hk; clear HK; have HK := Lib.hid hk; clear hk)
      | (with_reducible refine load_f1 HK.out 0 cbI _ rfl rfl rfl rfl hk1 ?_))
    go_ret2
    exact ⟨rfl, HK.out.bel⟩

end Go.Proofs.YtbaccghnneidgaaGreat
