/- Contracts of the document's Add, Hand, Write, Pass, Reserve, End and Expire of fields, with layer 5's Write and Pass. -/
import Derived.Test.YtbaccghnneidgaaGreatFg
namespace Go.Proofs.YtbaccghnneidgaaGreat
set_option maxRecDepth 100000
open Go.ChangeShapes Go.WideShapes Go.ChangeAt Go.RowKit

/-! ### Locks. -/
theorem l_zeroF : (Tryz.prog.info? 30).bind (·.zero) = some (.agg (vals zL.l).toArray) := by kernel_rfl
theorem Lk.f1 (a : Lk) : (vals a.l)[1]? = some (.int .i64 a.v) := rfl
theorem Lk.f2 (a : Lk) : (vals a.l)[2]? = some (.int .i64 a.h) := rfl
theorem Lk.f0 (a : Lk) : (vals a.l)[0]? = some (.int .i64 a.s) := rfl
theorem Lk.fall (a : Lk) : ∀ j v, (vals a.l)[j]? = some v → (vals a.l)[0 + j]? = some v := fun j v h => by rw [Nat.zero_add]; exact h
theorem Lk.len4 (a : Lk) : (vals a.l).length = 4 := rfl
theorem Lk.le4 (a b : Lk) : 0 + (vals b.l).length ≤ (vals a.l).length := Nat.le_refl 4
theorem Lk.lt4 (a : Lk) {i : Nat} (h : i < 4) : i < (vals a.l).length := h
theorem Lk.put1 (a : Lk) (z : Int) : (vals a.l).set 1 (.int .i64 z) = vals (Lk.l ⟨a.s, z, a.h, a.x⟩) := rfl
theorem Lk.put3 (a : Lk) (z : Int) : (vals a.l).set 3 (.int .i64 z) = vals (Lk.l ⟨a.s, a.v, a.h, z⟩) := rfl
theorem Lk.put0 (a : Lk) (z : Int) : (vals a.l).set 0 (.int .i64 z) = vals (Lk.l ⟨z, a.v, a.h, a.x⟩) := rfl
theorem Lk.put2 (a : Lk) (z : Int) : (vals a.l).set 2 (.int .i64 z) = vals (Lk.l ⟨a.s, a.v, z, a.x⟩) := rfl
theorem Lk.putA (a b : Lk) : spl (vals a.l) 0 (vals b.l) = vals b.l := rfl
theorem Lk.f3 (a : Lk) : (vals a.l)[3]? = some (.int .i64 a.x) := rfl
theorem radd_eq (a b N E : Int) (hN : addN a b = N) (hE : addE a b = E) (w : World) : Calls Tryz.prog 93 #[.int .i64 a, .int .i64 b] w fun e w' => e = .returned (.tuple #[.int .i64 N, .int .i64 E]) ∧ w = w' := by subst hN; subst hE; exact radd_any a b w
theorem add1_cases (v : Int) : (addE v 1 = 0 ∧ addN v 1 = v + 1) ∨ (addE v 1 = 2 ∧ addN v 1 = 0) := by
  cases h : okB v 1 (v + 1) with
  | true => exact .inl ⟨(addE_ok h).1, (addE_ok h).2⟩
  | false => exact .inr ⟨(addE_no h).1, (addE_no h).2⟩
set_option maxHeartbeats 1000000 in
theorem rwrite_any (a : Lk) (k n : Int) (w : World) :
    Calls Tryz.prog 69 #[.agg (vals a.l).toArray, .int .i64 k, .int .i64 n] w fun e w' => e = .returned (.tuple #[.agg (vals (wrA a k n).l).toArray, .int .i64 (wrE a k n)]) ∧ Below w.heap.size w w' := by
  have HK := Lib.hid (KeepF.start (w := w) (rows := []) (by simp))
  by_cases h1 : k = a.h
  rotate_left
  · rw [show wrA a k n = zL by simp [wrA, wrE, h1, zL, z4], show wrE a k n = 9 by simp [wrE, h1]]
    have d1 : (a.h != k) = true := by simpa using fun h => h1 h.symm
    have d2 : (a.h == k) = false := by simpa using fun h => h1 h.symm
    go_enter Tryz.func69, Tryz.ntmps69
    go_wp2_with (first
      | (with_reducible refine box_f HK.out rfl _ rfl rfl ?_; intro b u hk; clear HK; have HK := Lib.hid hk; clear hk)
      | (with_reducible refine alloc_f HK.out l_zeroF rfl rfl ?_; intro br u hk; clear HK; have HK := Lib.hid hk; clear hk)
      | (with_reducible refine load_f1 HK.out 1 cbI _ rfl rfl rfl rfl (Lk.f2 _) ?_)
      | (with_reducible refine build_f l_buildF rfl rfl ?_)
      | (with_reducible refine store_fr HK.out 0 (l_infoF _) (vals_all _) rfl rfl _ _ rfl rfl rfl rfl (Lk.le4 _ _) (Lk.putA _ _) ?_; intro u hk; simp only [List.set_cons_zero] at hk; clear HK; have HK := Lib.hid hk; clear hk))
    exact bodyPost_ret (results_f2 rfl Tryz.underlying30 rfl (l_infoF _) _ HK.out 0 _ rfl rfl rfl) rfl ⟨rfl, HK.out.bel⟩
  · have d1 : (a.h != k) = false := by simpa using h1.symm
    rcases add1_cases a.v with ⟨e1, e2⟩ | ⟨e1, e2⟩
    · have hE := Lib.hid e1; have hN := Lib.hid e2
      cases h2 : isB n with
      | false =>
        rw [show wrA a k n = zL by simp [wrA, wrE, h1, h2, zL, z4], show wrE a k n = 2 by simp [wrE, h1, h2]]
        subst h1
        go_enter Tryz.func69, Tryz.ntmps69
        go_wp2_with (first
          | (with_reducible refine box_f HK.out rfl _ rfl rfl ?_; intro b u hk; clear HK; have HK := Lib.hid hk; clear hk)
          | (with_reducible refine alloc_f HK.out l_zeroF rfl rfl ?_; intro br u hk; clear HK; have HK := Lib.hid hk; clear hk)
          | (with_reducible refine load_f1 HK.out 1 cbI _ rfl rfl rfl rfl (Lk.f2 _) ?_)
          | (with_reducible refine load_f1 HK.out 1 cbI _ rfl rfl rfl rfl (Lk.f1 _) ?_)
          | (go_at_call 93; (with_reducible refine (radd_eq _ _ _ _ hN.out hE.out _).mono ?_); rintro e u ⟨rfl, rfl⟩)
          | (go_at_call 44; (with_reducible refine (ris_eq _ _ h2 _).mono ?_); rintro e u ⟨rfl, rfl⟩)
          | (with_reducible refine build_f l_buildF rfl rfl ?_)
          | (with_reducible refine store_fr HK.out 0 (l_infoF _) (vals_all _) rfl rfl _ _ rfl rfl rfl rfl (Lk.le4 _ _) (Lk.putA _ _) ?_; intro u hk; simp only [List.set_cons_zero] at hk; clear HK; have HK := Lib.hid hk; clear hk))
        exact bodyPost_ret (results_f2 rfl Tryz.underlying30 rfl (l_infoF _) _ HK.out 0 _ rfl rfl rfl) rfl ⟨rfl, HK.out.bel⟩
      | true =>
        rw [show wrA a k n = ⟨a.s, a.v + 1, a.h, n⟩ by simp [wrA, wrE, h1, h2, e1], show wrE a k n = 0 by simp [wrE, h1, h2, e1]]
        subst h1
        clear e1 e2
        go_enter Tryz.func69, Tryz.ntmps69
        go_wp2_with (first
          | (with_reducible refine box_f HK.out rfl _ rfl rfl ?_; intro b u hk; clear HK; have HK := Lib.hid hk; clear hk)
          | (with_reducible refine alloc_f HK.out l_zeroF rfl rfl ?_; intro br u hk; clear HK; have HK := Lib.hid hk; clear hk)
          | (with_reducible refine load_f1 HK.out 1 cbI _ rfl rfl rfl rfl (Lk.f2 _) ?_)
          | (with_reducible refine load_f1 HK.out 1 cbI _ rfl rfl rfl rfl (Lk.f1 _) ?_)
          | (go_at_call 93; (with_reducible refine (radd_eq _ _ _ _ hN.out hE.out _).mono ?_); rintro e u ⟨rfl, rfl⟩)
          | (go_at_call 44; (with_reducible refine (ris_eq _ _ h2 _).mono ?_); rintro e u ⟨rfl, rfl⟩)
          | (with_reducible refine store_f1 HK.out 1 cbI rfl rfl _ _ rfl rfl rfl rfl rfl (Lk.lt4 _ (by decide)) (Lk.put1 _ _) ?_; intro u hk; simp only [List.set_cons_zero, List.set_cons_succ] at hk; clear HK; have HK := Lib.hid hk; clear hk)
          | (with_reducible refine store_f1 HK.out 1 cbI rfl rfl _ _ rfl rfl rfl rfl rfl (Lk.lt4 _ (by decide)) (Lk.put3 _ _) ?_; intro u hk; simp only [List.set_cons_zero, List.set_cons_succ] at hk; clear HK; have HK := Lib.hid hk; clear hk)
          | (with_reducible refine load_fr HK.out 1 Tryz.underlying30 rfl (l_infoF _) _ rfl rfl rfl rfl (Lk.fall _) ?_)
          | (with_reducible refine store_fr HK.out 0 (l_infoF _) (vals_all _) rfl rfl _ _ rfl rfl rfl rfl (Lk.le4 _ _) (Lk.putA _ _) ?_; intro u hk; simp only [List.set_cons_zero] at hk; clear HK; have HK := Lib.hid hk; clear hk))
        exact bodyPost_ret (results_f2 rfl Tryz.underlying30 rfl (l_infoF _) _ HK.out 0 _ rfl rfl rfl) rfl ⟨rfl, HK.out.bel⟩
    · have hE := Lib.hid e1; have hN := Lib.hid e2
      have e3 : wrE a k n = 2 := by
        unfold wrE
        rw [if_neg (by simp [h1]), e1]
        split <;> rfl
      rw [show wrA a k n = zL by simp [wrA, e3, zL, z4], e3]
      subst h1
      clear e1 e2 e3
      go_enter Tryz.func69, Tryz.ntmps69
      go_wp2_with (first
        | (with_reducible refine box_f HK.out rfl _ rfl rfl ?_; intro b u hk; clear HK; have HK := Lib.hid hk; clear hk)
        | (with_reducible refine alloc_f HK.out l_zeroF rfl rfl ?_; intro br u hk; clear HK; have HK := Lib.hid hk; clear hk)
        | (with_reducible refine load_f1 HK.out 1 cbI _ rfl rfl rfl rfl (Lk.f2 _) ?_)
        | (with_reducible refine load_f1 HK.out 1 cbI _ rfl rfl rfl rfl (Lk.f1 _) ?_)
        | (go_at_call 93; (with_reducible refine (radd_eq _ _ _ _ hN.out hE.out _).mono ?_); rintro e u ⟨rfl, rfl⟩)
        | (with_reducible refine build_f l_buildF rfl rfl ?_)
        | (with_reducible refine store_fr HK.out 0 (l_infoF _) (vals_all _) rfl rfl _ _ rfl rfl rfl rfl (Lk.le4 _ _) (Lk.putA _ _) ?_; intro u hk; simp only [List.set_cons_zero] at hk; clear HK; have HK := Lib.hid hk; clear hk))
      exact bodyPost_ret (results_f2 rfl Tryz.underlying30 rfl (l_infoF _) _ HK.out 0 _ rfl rfl rfl) rfl ⟨rfl, HK.out.bel⟩
set_option maxHeartbeats 1000000 in
theorem rpass_any (a : Lk) (k n : Int) (w : World) :
    Calls Tryz.prog 72 #[.agg (vals a.l).toArray, .int .i64 k, .int .i64 n] w fun e w' => e = .returned (.tuple #[.agg (vals (psA a k n).l).toArray, .int .i64 (psE a k n)]) ∧ Below w.heap.size w w' := by
  have HK := Lib.hid (KeepF.start (w := w) (rows := []) (by simp))
  by_cases h1 : k = a.h
  rotate_left
  · rw [show psA a k n = zL by simp [psA, psE, h1, zL, z4], show psE a k n = 9 by simp [psE, h1]]
    have d1 : (a.h != k) = true := by simpa using fun h => h1 h.symm
    have d2 : (a.h == k) = false := by simpa using fun h => h1 h.symm
    go_enter Tryz.func72, Tryz.ntmps72
    go_wp2_with (first
      | (with_reducible refine box_f HK.out rfl _ rfl rfl ?_; intro b u hk; clear HK; have HK := Lib.hid hk; clear hk)
      | (with_reducible refine alloc_f HK.out l_zeroF rfl rfl ?_; intro br u hk; clear HK; have HK := Lib.hid hk; clear hk)
      | (with_reducible refine load_f1 HK.out 1 cbI _ rfl rfl rfl rfl (Lk.f2 _) ?_)
      | (with_reducible refine build_f l_buildF rfl rfl ?_)
      | (with_reducible refine store_fr HK.out 0 (l_infoF _) (vals_all _) rfl rfl _ _ rfl rfl rfl rfl (Lk.le4 _ _) (Lk.putA _ _) ?_; intro u hk; simp only [List.set_cons_zero] at hk; clear HK; have HK := Lib.hid hk; clear hk))
    exact bodyPost_ret (results_f2 rfl Tryz.underlying30 rfl (l_infoF _) _ HK.out 0 _ rfl rfl rfl) rfl ⟨rfl, HK.out.bel⟩
  · have d1 : (a.h != k) = false := by simpa using h1.symm
    by_cases h2 : n < 0
    · have d2 : decide (n < 0) = true := by simpa using h2
      have e3 : repBK n = false := by simp [repBK]; omega
      rw [show psA a k n = zL by simp [psA, psE, h1, e3, zL, z4], show psE a k n = 1 by simp [psE, h1, e3]]
      subst h1
      go_enter Tryz.func72, Tryz.ntmps72
      go_wp2_with (first
        | (with_reducible refine box_f HK.out rfl _ rfl rfl ?_; intro b u hk; clear HK; have HK := Lib.hid hk; clear hk)
        | (with_reducible refine alloc_f HK.out l_zeroF rfl rfl ?_; intro br u hk; clear HK; have HK := Lib.hid hk; clear hk)
        | (with_reducible refine load_f1 HK.out 1 cbI _ rfl rfl rfl rfl (Lk.f2 _) ?_)
        | (with_reducible refine build_f l_buildF rfl rfl ?_)
        | (with_reducible refine store_fr HK.out 0 (l_infoF _) (vals_all _) rfl rfl _ _ rfl rfl rfl rfl (Lk.le4 _ _) (Lk.putA _ _) ?_; intro u hk; simp only [List.set_cons_zero] at hk; clear HK; have HK := Lib.hid hk; clear hk))
      exact bodyPost_ret (results_f2 rfl Tryz.underlying30 rfl (l_infoF _) _ HK.out 0 _ rfl rfl rfl) rfl ⟨rfl, HK.out.bel⟩
    · have d2 : decide (n < 0) = false := by simpa using h2
      by_cases h3 : 15 < n
      · have d3 : decide (15 < n) = true := by simpa using h3
        have e3 : repBK n = false := by simp [repBK]; omega
        rw [show psA a k n = zL by simp [psA, psE, h1, e3, zL, z4], show psE a k n = 1 by simp [psE, h1, e3]]
        subst h1
        go_enter Tryz.func72, Tryz.ntmps72
        go_wp2_with (first
          | (with_reducible refine box_f HK.out rfl _ rfl rfl ?_; intro b u hk; clear HK; have HK := Lib.hid hk; clear hk)
          | (with_reducible refine alloc_f HK.out l_zeroF rfl rfl ?_; intro br u hk; clear HK; have HK := Lib.hid hk; clear hk)
          | (with_reducible refine load_f1 HK.out 1 cbI _ rfl rfl rfl rfl (Lk.f2 _) ?_)
          | (with_reducible refine build_f l_buildF rfl rfl ?_)
          | (with_reducible refine store_fr HK.out 0 (l_infoF _) (vals_all _) rfl rfl _ _ rfl rfl rfl rfl (Lk.le4 _ _) (Lk.putA _ _) ?_; intro u hk; simp only [List.set_cons_zero] at hk; clear HK; have HK := Lib.hid hk; clear hk))
        exact bodyPost_ret (results_f2 rfl Tryz.underlying30 rfl (l_infoF _) _ HK.out 0 _ rfl rfl rfl) rfl ⟨rfl, HK.out.bel⟩
      · have d3 : decide (15 < n) = false := by simpa using h3
        have e3 : repBK n = true := by simp [repBK]; omega
        rcases add1_cases a.s with ⟨e1, e2⟩ | ⟨e1, e2⟩
        · have hE := Lib.hid e1; have hN := Lib.hid e2
          rw [show psA a k n = ⟨a.s + 1, 0, n, a.x⟩ by simp [psA, psE, h1, e3, e1], show psE a k n = 0 by simp [psE, h1, e3, e1]]
          subst h1
          clear e1 e2
          go_enter Tryz.func72, Tryz.ntmps72
          go_wp2_with (first
            | (with_reducible refine box_f HK.out rfl _ rfl rfl ?_; intro b u hk; clear HK; have HK := Lib.hid hk; clear hk)
            | (with_reducible refine alloc_f HK.out l_zeroF rfl rfl ?_; intro br u hk; clear HK; have HK := Lib.hid hk; clear hk)
            | (with_reducible refine load_f1 HK.out 1 cbI _ rfl rfl rfl rfl (Lk.f2 _) ?_)
            | (with_reducible refine load_f1 HK.out 1 cbI _ rfl rfl rfl rfl (Lk.f0 _) ?_)
            | (go_at_call 93; (with_reducible refine (radd_eq _ _ _ _ hN.out hE.out _).mono ?_); rintro e u ⟨rfl, rfl⟩)
            | (with_reducible refine load_f1 HK.out 1 cbI _ rfl rfl rfl rfl (Lk.f3 _) ?_)
            | (with_reducible refine build_threeK rfl _ _ _ rfl rfl rfl rfl ?_)
            | (with_reducible refine store_fr HK.out 0 (l_infoF _) (vals_all _) rfl rfl _ _ rfl rfl rfl rfl (Lk.le4 _ _) (Lk.putA _ _) ?_; intro u hk; simp only [List.set_cons_zero] at hk; clear HK; have HK := Lib.hid hk; clear hk))
          exact bodyPost_ret (results_f2 rfl Tryz.underlying30 rfl (l_infoF _) _ HK.out 0 _ rfl rfl rfl) rfl ⟨rfl, HK.out.bel⟩
        · have hE := Lib.hid e1; have hN := Lib.hid e2
          rw [show psA a k n = zL by simp [psA, psE, h1, e3, e1, zL, z4], show psE a k n = 2 by simp [psE, h1, e3, e1]]
          subst h1
          clear e1 e2
          go_enter Tryz.func72, Tryz.ntmps72
          go_wp2_with (first
            | (with_reducible refine box_f HK.out rfl _ rfl rfl ?_; intro b u hk; clear HK; have HK := Lib.hid hk; clear hk)
            | (with_reducible refine alloc_f HK.out l_zeroF rfl rfl ?_; intro br u hk; clear HK; have HK := Lib.hid hk; clear hk)
            | (with_reducible refine load_f1 HK.out 1 cbI _ rfl rfl rfl rfl (Lk.f2 _) ?_)
            | (with_reducible refine load_f1 HK.out 1 cbI _ rfl rfl rfl rfl (Lk.f0 _) ?_)
            | (go_at_call 93; (with_reducible refine (radd_eq _ _ _ _ hN.out hE.out _).mono ?_); rintro e u ⟨rfl, rfl⟩)
            | (with_reducible refine build_f l_buildF rfl rfl ?_)
            | (with_reducible refine store_fr HK.out 0 (l_infoF _) (vals_all _) rfl rfl _ _ rfl rfl rfl rfl (Lk.le4 _ _) (Lk.putA _ _) ?_; intro u hk; simp only [List.set_cons_zero] at hk; clear HK; have HK := Lib.hid hk; clear hk))
          exact bodyPost_ret (results_f2 rfl Tryz.underlying30 rfl (l_infoF _) _ HK.out 0 _ rfl rfl rfl) rfl ⟨rfl, HK.out.bel⟩
/-! ### Fields. -/
theorem Pf.fullC {p : Pf} {D : List Int} (h : D.length = 579) : (p.setC D).full := h
theorem Pf.fullL {p : Pf} (h : p.full) (M : Lk) : (p.setL M).full := h
theorem Pf.fullH {p : Pf} (h : p.full) (R : List Ho) : (p.setH R).full := h
theorem infoCl {D : List Int} (_h : D.length = 579) : ∀ j v, (vals D)[j]? = some v → (vals D)[0 + j]? = some v := fun j v h => by rw [Nat.zero_add]; exact h
set_option maxHeartbeats 1000000 in
theorem with_ok (p : Pf) (hp : p.full) (A : Option Addr) (c : Nat) (D : List Int) (hD : D.length = 579) (w : World) :
    Calls Tryz.prog 62 #[.agg (p.fd A c).cells.toArray, .agg (vals D).toArray, .int .i64 0] w fun e w' => e = .returned (.tuple #[.agg ((p.setC D).fd A c).cells.toArray, .int .i64 0]) ∧ Below w.heap.size w w' := by
  have HK := Lib.hid (KeepF.start (w := w) (rows := []) (by simp))
  have HF := Lib.hid hp; clear hp
  have HA := Lib.hid hD; clear hD
  go_enter Tryz.func62, Tryz.ntmps62
  go_wp2_with (first
    | (with_reducible refine box_f HK.out rfl _ rfl rfl ?_; intro b u hk; clear HK; have HK := Lib.hid hk; clear hk)
    | (with_reducible refine alloc_f HK.out f_zeroP rfl rfl ?_; intro br u hk; clear HK; have HK := Lib.hid hk; clear hk)
    | (with_reducible refine load_fr HK.out 1 Tryz.underlying28 rfl (infoC HA.out) _ rfl rfl rfl rfl (infoCl HA.out) ?_)
    | (with_reducible refine store_fr HK.out 2 (infoC HA.out) (vals_all _) rfl rfl _ _ rfl rfl rfl rfl (Fd.leC HF.out HA.out) (Pf.toC HF.out HA.out) ?_; intro u hk; simp only [List.set_cons_zero, List.set_cons_succ] at hk; clear HK; have HK := Lib.hid hk; clear hk)
    | (with_reducible refine load_fr HK.out 2 Tryz.underlying33 rfl (Pf.infoF (p := p.setC D) (Pf.fullC HA.out)) _ rfl rfl rfl rfl Pf.all ?_)
    | (with_reducible refine store_fr HK.out 0 (Pf.infoF (p := p.setC D) (Pf.fullC HA.out)) (Fd.one _) rfl rfl _ _ rfl rfl rfl rfl (Fd.leP zP_full (q := p.setC D) (Pf.fullC HA.out)) (Fd.setAllP zP_full (q := p.setC D) (Pf.fullC HA.out)) ?_; intro u hk; simp only [List.set_cons_zero] at hk; clear HK; have HK := Lib.hid hk; clear hk))
  exact bodyPost_ret (results_f2 rfl Tryz.underlying33 rfl (Pf.infoF (p := p.setC D) (Pf.fullC HA.out)) _ HK.out 0 _ rfl rfl rfl) rfl ⟨rfl, HK.out.bel⟩
set_option maxHeartbeats 1000000 in
theorem with_no (p : Pf) (A : Option Addr) (c : Nat) (D : List Int) (E : Int) (hE : E ≠ 0) (w : World) :
    Calls Tryz.prog 62 #[.agg (p.fd A c).cells.toArray, .agg (vals D).toArray, .int .i64 E] w fun e w' => e = .returned (.tuple #[.agg (zP.fd none 0).cells.toArray, .int .i64 E]) ∧ Below w.heap.size w w' := by
  have HK := Lib.hid (KeepF.start (w := w) (rows := []) (by simp))
  have d0 : (E != 0) = true := by simpa using hE
  go_enter Tryz.func62, Tryz.ntmps62
  go_wp2_with (first
    | (with_reducible refine box_f HK.out rfl _ rfl rfl ?_; intro b u hk; clear HK; have HK := Lib.hid hk; clear hk)
    | (with_reducible refine alloc_f HK.out f_zeroP rfl rfl ?_; intro br u hk; clear HK; have HK := Lib.hid hk; clear hk)
    | (with_reducible refine build_f f_buildP rfl rfl ?_)
    | (with_reducible refine store_fr HK.out 0 (Pf.infoF zP_full) (Fd.one _) rfl rfl _ _ rfl rfl rfl rfl (Fd.leP zP_full zP_full) (Fd.setAllP zP_full zP_full) ?_; intro u hk; simp only [List.set_cons_zero] at hk; clear HK; have HK := Lib.hid hk; clear hk))
  exact bodyPost_ret (results_f2 rfl Tryz.underlying33 rfl (Pf.infoF zP_full) _ HK.out 0 _ rfl rfl rfl) rfl ⟨rfl, HK.out.bel⟩
theorem with_any (p : Pf) (hp : p.full) (A : Option Addr) (c : Nat) (hc : p.hs.length ≤ c) (D : List Int) (hD : D.length = 579) (E : Int) (w : World) (hd : Row w A p.hs.length p.hs) :
    Calls Tryz.prog 62 #[.agg (p.fd A c).cells.toArray, .agg (vals D).toArray, .int .i64 E] w fun e w' => ∃ A1 c1, e = .returned (.tuple #[.agg ((toldP (p.setC D) E).fd A1 c1).cells.toArray, .int .i64 E]) ∧ Got w A p.hs.length w' A1 c1 (toldP (p.setC D) E).hs ∧ Below w.heap.size w w' := by
  by_cases h : E = 0
  · subst h
    exact (with_ok p hp A c D hD w).mono fun e w' ⟨h1, h2⟩ => ⟨A, c, h1, Got.same (hd.call h2) hc, h2⟩
  · rw [toldP_n _ h]
    exact (with_no p A c D E h w).mono fun e w' ⟨h1, h2⟩ => ⟨none, 0, h1, Got.nil _ _ _ _ _ _, h2⟩
theorem rlok {p : Pf} {A : Option Addr} {c : Nat} (hp : p.full) (hr : p.k = 1 → rightsL p.hs = true) (k : Int) (w : World) (h : Row w A p.hs.length p.hs) :
    Calls Tryz.prog 15 #[.agg (p.fd A c).cells.toArray, .int .i64 k] w fun e w' => e = .returned (.tuple #[.int .i64 (looseP p k), .int .i64 (looseU (p.fd A c) k)]) ∧ Below w.heap.size w w' := rloose_any (p.fd A c) hp p.hs k hr w h
theorem c_zeroF : (Tryz.prog.info? 28).bind (·.zero) = some (.agg (vals (zer 579)).toArray) := c_zero
theorem putC {C D : List Int} (h : C.length = D.length) : spl (vals C) 0 (vals D) = vals D := by
  have := spl_mid (vals D) (vals C) [] [] (by rw [vals_length, vals_length, h])
  simpa using this
theorem putC_le {C D : List Int} (hC : C.length = 579) (hD : D.length = 579) : 0 + (vals D).length ≤ (vals C).length := by rw [vals_length, vals_length, hC, hD]; decide
theorem wrap_sub0 {n : Int} (h : -9223372036854775808 < n ∧ n ≤ 9223372036854775807) : IntKind.i64.wrap (0 - n) = -n := by
  simp [IntKind.wrap, IntKind.bits, IntKind.signed]; omega
set_option maxHeartbeats 2000000 in
theorem radd_f (p : Pf) (hp : p.full) (A : Option Addr) (c : Nat) (hc : p.hs.length ≤ c) (hr : p.k = 1 → rightsL p.hs = true) (k n : Int) (w : World) (hd : Row w A p.hs.length p.hs) :
    Calls Tryz.prog 25 #[.agg (p.fd A c).cells.toArray, .int .i64 k, .int .i64 n] w fun e w' => ∃ A1 c1, e = .returned (.tuple #[.agg ((addP p k n).fd A1 c1).cells.toArray, .int .i64 (addPE p k n)]) ∧ Got w A p.hs.length w' A1 c1 (addP p k n).hs ∧ Below w.heap.size w w' := by
  have HK := Lib.hid (KeepF.start (w := w) (rows := [(A, p.hs.length, p.hs)]) (by simpa using hd))
  have HF := Lib.hid hp; clear hp
  have HCP := Lib.hid hc; clear hc
  by_cases k1 : p.k = 1
  rotate_left
  · have e1 : addPE p k n = 17 := by unfold addPE; rw [if_neg k1]
    rw [show addP p k n = zP by unfold addP; rw [e1, toldP_n _ (by decide)], e1]
    have hkc : (p.fd A c).cells[1]? = some (.int .i64 p.k) := Pf.ck
    generalize p.k = K at k1 hkc
    go_enter Tryz.func25, Tryz.ntmps25
    go_wp2_with (first
      | (with_reducible refine box_f HK.out rfl _ rfl rfl ?_; intro b u hk; clear HK; have HK := Lib.hid hk; clear hk)
      | (with_reducible refine alloc_f HK.out f_zeroP rfl rfl ?_; intro br u hk; clear HK; have HK := Lib.hid hk; clear hk)
      | (with_reducible refine load_f1 HK.out 1 cbI _ rfl rfl rfl rfl hkc ?_)
      | (with_reducible refine build_f f_buildP rfl rfl ?_)
      | (with_reducible refine store_fr HK.out 0 (Pf.infoF zP_full) (Fd.one _) rfl rfl _ _ rfl rfl rfl rfl (Fd.leP zP_full zP_full) (Fd.setAllP zP_full zP_full) ?_; intro u hk; simp only [List.set_cons_zero] at hk; clear HK; have HK := Lib.hid hk; clear hk))
    exact bodyPost_ret (results_f2 rfl Tryz.underlying33 rfl (Pf.infoF zP_full) _ HK.out 0 _ rfl rfl rfl) rfl ⟨none, 0, rfl, Got.nil _ _ _ _ _ _, HK.out.bel⟩
  · have hkc : (p.fd A c).cells[1]? = some (.int .i64 1) := by rw [Pf.ck, k1]
    by_cases h0 : 0 ≤ n
    · have d0 : decide (0 ≤ n) = true := by simpa using h0
      rw [show addP p k n = toldP (p.setC (incA p.C k n)) (incE p.C k n) by simp [addP, addPC, addPE, k1, h0], show addPE p k n = incE p.C k n by simp [addPE, k1, h0]]
      have hcl := rinc_any p.C HF.out k n
      have HA := Lib.hid (incA_length HF.out k n)
      generalize incA p.C k n = D at hcl HA ⊢
      generalize incE p.C k n = E at hcl ⊢
      go_enter Tryz.func25, Tryz.ntmps25
      go_wp2_with (first
        | (with_reducible refine box_f HK.out rfl _ rfl rfl ?_; intro b u hk; clear HK; have HK := Lib.hid hk; clear hk)
        | (with_reducible refine alloc_f HK.out f_zeroP rfl rfl ?_; intro br u hk; clear HK; have HK := Lib.hid hk; clear hk)
        | (with_reducible refine load_f1 HK.out 1 cbI _ rfl rfl rfl rfl hkc ?_)
        | (with_reducible refine load_fr HK.out 1 Tryz.underlying28 rfl (Pf.infoC HF.out) _ rfl rfl rfl rfl Pf.cC ?_)
        | (go_at_call 61; (with_reducible refine (hcl _).mono ?_); rintro e u ⟨rfl, hb⟩; have hk := HK.out.call hb; clear hb; clear HK; have HK := Lib.hid hk; clear hk)
        | (with_reducible refine alloc_f HK.out c_zeroF rfl rfl ?_; intro bd u hk; clear HK; have HK := Lib.hid hk; clear hk)
        | (with_reducible refine store_fr HK.out 0 (infoC HA.out) (vals_all _) rfl rfl _ _ rfl rfl rfl rfl (putC_le (zer_length 579) HA.out) (putC ((zer_length 579).trans HA.out.symm)) ?_; intro u hk; simp only [List.set_cons_zero] at hk; clear HK; have HK := Lib.hid hk; clear hk)
        | (with_reducible refine load_fr HK.out 2 Tryz.underlying33 rfl (Pf.infoF HF.out) _ rfl rfl rfl rfl Pf.all ?_)
        | (with_reducible refine load_fr HK.out 0 Tryz.underlying28 rfl (infoC HA.out) _ rfl rfl rfl rfl (infoCl HA.out) ?_)
        | (go_at_call 62; (with_reducible refine (with_any p HF.out A c HCP.out _ HA.out _ _ (HK.out.rowAt 0 rfl)).mono ?_); rintro e u ⟨A1, c1, rfl, hg, hb⟩; have HG := Lib.hid (hg.base HK.out.bel.size); have hk := HK.out.got hb 0 rfl hg; clear hg hb; clear HK; have HK := Lib.hid hk; clear hk)
        | (with_reducible refine store_fr HK.out 1 (Pf.infoF (toldP_full (p := p.setC D) (Pf.fullC HA.out) E)) (Fd.one _) rfl rfl _ _ rfl rfl rfl rfl (Fd.leP zP_full (toldP_full (p := p.setC D) (Pf.fullC HA.out) E)) (Fd.setAllP zP_full (toldP_full (p := p.setC D) (Pf.fullC HA.out) E)) ?_; intro u hk; simp only [List.set_cons_zero, List.set_cons_succ] at hk; clear HK; have HK := Lib.hid hk; clear hk))
      exact bodyPost_ret (results_f2 rfl Tryz.underlying33 rfl (Pf.infoF (toldP_full (p := p.setC D) (Pf.fullC HA.out) E)) _ HK.out 1 _ rfl rfl rfl) rfl ⟨A1, c1, rfl, ⟨HK.out.rowAt 0 rfl, HG.out.cap, HG.out.new⟩, HK.out.bel⟩
    · have d0 : decide (0 ≤ n) = false := by simpa using h0
      have hlo := fun w h => rlok (A := A) (c := c) HF.out hr k w h
      have hB := looseP_isB p k
      have e1 : addPE p k n = if n < -looseP p k then 8 else decE p.C k (-n) := by simp [addPE, k1, h0]
      have e2 : addP p k n = toldP (p.setC (if n < -looseP p k then p.C else decA p.C k (-n))) (if n < -looseP p k then 8 else decE p.C k (-n)) := by simp [addP, addPC, addPE, k1, h0]
      rw [e1, e2]
      clear e1 e2
      generalize looseP p k = d at hlo hB ⊢
      generalize looseU (p.fd A c) k = d2 at hlo
      by_cases h1 : n < -d
      · rw [if_pos h1, if_pos h1, toldP_n _ (by decide)]
        by_cases h2 : n < -1099511627776
        · have d1 : decide (n < -1099511627776) = true := by simpa using h2
          go_enter Tryz.func25, Tryz.ntmps25
          go_wp2_with (first
            | (with_reducible refine box_f HK.out rfl _ rfl rfl ?_; intro b u hk; clear HK; have HK := Lib.hid hk; clear hk)
            | (with_reducible refine alloc_f HK.out f_zeroP rfl rfl ?_; intro br u hk; clear HK; have HK := Lib.hid hk; clear hk)
            | (with_reducible refine load_f1 HK.out 1 cbI _ rfl rfl rfl rfl hkc ?_)
            | (with_reducible refine load_fr HK.out 1 Tryz.underlying33 rfl (Pf.infoF HF.out) _ rfl rfl rfl rfl Pf.all ?_)
            | (go_at_call 15; (with_reducible refine (hlo _ (HK.out.rowAt 0 rfl)).mono ?_); rintro e u ⟨rfl, hb⟩; have hk := HK.out.call hb; clear hb; clear HK; have HK := Lib.hid hk; clear hk)
            | (with_reducible refine build_f f_buildP rfl rfl ?_)
            | (with_reducible refine store_fr HK.out 0 (Pf.infoF zP_full) (Fd.one _) rfl rfl _ _ rfl rfl rfl rfl (Fd.leP zP_full zP_full) (Fd.setAllP zP_full zP_full) ?_; intro u hk; simp only [List.set_cons_zero] at hk; clear HK; have HK := Lib.hid hk; clear hk))
          exact bodyPost_ret (results_f2 rfl Tryz.underlying33 rfl (Pf.infoF zP_full) _ HK.out 0 _ rfl rfl rfl) rfl ⟨none, 0, rfl, Got.nil _ _ _ _ _ _, HK.out.bel⟩
        · have d1 : decide (n < -1099511627776) = false := by simpa using h2
          have w1 := wrap_sub0 (n := n) (by omega)
          have d3 : decide (d < -n) = true := by rw [decide_eq_true_eq]; omega
          go_enter Tryz.func25, Tryz.ntmps25
          go_wp2_with (first
            | (with_reducible refine box_f HK.out rfl _ rfl rfl ?_; intro b u hk; clear HK; have HK := Lib.hid hk; clear hk)
            | (with_reducible refine alloc_f HK.out f_zeroP rfl rfl ?_; intro br u hk; clear HK; have HK := Lib.hid hk; clear hk)
            | (with_reducible refine load_f1 HK.out 1 cbI _ rfl rfl rfl rfl hkc ?_)
            | (with_reducible refine load_fr HK.out 1 Tryz.underlying33 rfl (Pf.infoF HF.out) _ rfl rfl rfl rfl Pf.all ?_)
            | (go_at_call 15; (with_reducible refine (hlo _ (HK.out.rowAt 0 rfl)).mono ?_); rintro e u ⟨rfl, hb⟩; have hk := HK.out.call hb; clear hb; clear HK; have HK := Lib.hid hk; clear hk)
            | (with_reducible refine build_f f_buildP rfl rfl ?_)
            | (with_reducible refine store_fr HK.out 0 (Pf.infoF zP_full) (Fd.one _) rfl rfl _ _ rfl rfl rfl rfl (Fd.leP zP_full zP_full) (Fd.setAllP zP_full zP_full) ?_; intro u hk; simp only [List.set_cons_zero] at hk; clear HK; have HK := Lib.hid hk; clear hk))
          exact bodyPost_ret (results_f2 rfl Tryz.underlying33 rfl (Pf.infoF zP_full) _ HK.out 0 _ rfl rfl rfl) rfl ⟨none, 0, rfl, Got.nil _ _ _ _ _ _, HK.out.bel⟩
      · rw [if_neg h1, if_neg h1]
        have d1 : decide (n < -1099511627776) = false := by rw [decide_eq_false_iff_not]; omega
        have w1 := wrap_sub0 (n := n) (by omega)
        have d3 : decide (d < -n) = false := by rw [decide_eq_false_iff_not]; omega
        have hcl := rdec_any p.C HF.out k (-n)
        have HA := Lib.hid (decA_length HF.out k (-n))
        generalize decA p.C k (-n) = D at hcl HA ⊢
        generalize decE p.C k (-n) = E at hcl ⊢
        go_enter Tryz.func25, Tryz.ntmps25
        go_wp2_with (first
          | (with_reducible refine box_f HK.out rfl _ rfl rfl ?_; intro b u hk; clear HK; have HK := Lib.hid hk; clear hk)
          | (with_reducible refine alloc_f HK.out f_zeroP rfl rfl ?_; intro br u hk; clear HK; have HK := Lib.hid hk; clear hk)
          | (with_reducible refine load_f1 HK.out 1 cbI _ rfl rfl rfl rfl hkc ?_)
          | (with_reducible refine load_fr HK.out 1 Tryz.underlying28 rfl (Pf.infoC HF.out) _ rfl rfl rfl rfl Pf.cC ?_)
          | (go_at_call 63; (with_reducible refine (hcl _).mono ?_); rintro e u ⟨rfl, hb⟩; have hk := HK.out.call hb; clear hb; clear HK; have HK := Lib.hid hk; clear hk)
          | (with_reducible refine alloc_f HK.out c_zeroF rfl rfl ?_; intro bd u hk; clear HK; have HK := Lib.hid hk; clear hk)
          | (with_reducible refine store_fr HK.out 0 (infoC HA.out) (vals_all _) rfl rfl _ _ rfl rfl rfl rfl (putC_le (zer_length 579) HA.out) (putC ((zer_length 579).trans HA.out.symm)) ?_; intro u hk; simp only [List.set_cons_zero] at hk; clear HK; have HK := Lib.hid hk; clear hk)
          | (with_reducible refine load_fr HK.out 2 Tryz.underlying33 rfl (Pf.infoF HF.out) _ rfl rfl rfl rfl Pf.all ?_)
          | (with_reducible refine load_fr HK.out 0 Tryz.underlying28 rfl (infoC HA.out) _ rfl rfl rfl rfl (infoCl HA.out) ?_)
          | (go_at_call 62; (with_reducible refine (with_any p HF.out A c HCP.out _ HA.out _ _ (HK.out.rowAt 0 rfl)).mono ?_); rintro e u ⟨A1, c1, rfl, hg, hb⟩; have HG := Lib.hid (hg.base HK.out.bel.size); have hk := HK.out.got hb 0 rfl hg; clear hg hb; clear HK; have HK := Lib.hid hk; clear hk)
          | (with_reducible refine store_fr HK.out 1 (Pf.infoF (toldP_full (p := p.setC D) (Pf.fullC HA.out) E)) (Fd.one _) rfl rfl _ _ rfl rfl rfl rfl (Fd.leP zP_full (toldP_full (p := p.setC D) (Pf.fullC HA.out) E)) (Fd.setAllP zP_full (toldP_full (p := p.setC D) (Pf.fullC HA.out) E)) ?_; intro u hk; simp only [List.set_cons_zero, List.set_cons_succ] at hk; clear HK; have HK := Lib.hid hk; clear hk)
          | (with_reducible refine load_fr HK.out 1 Tryz.underlying33 rfl (Pf.infoF HF.out) _ rfl rfl rfl rfl Pf.all ?_)
          | (go_at_call 15; (with_reducible refine (hlo _ (HK.out.rowAt 0 rfl)).mono ?_); rintro e u ⟨rfl, hb⟩; have hk := HK.out.call hb; clear hb; clear HK; have HK := Lib.hid hk; clear hk))
        exact bodyPost_ret (results_f2 rfl Tryz.underlying33 rfl (Pf.infoF (toldP_full (p := p.setC D) (Pf.fullC HA.out) E)) _ HK.out 1 _ rfl rfl rfl) rfl ⟨A1, c1, rfl, ⟨HK.out.rowAt 0 rfl, HG.out.cap, HG.out.new⟩, HK.out.bel⟩
set_option maxHeartbeats 2000000 in
theorem rhand_f (p : Pf) (hp : p.full) (A : Option Addr) (c : Nat) (hc : p.hs.length ≤ c) (hr : p.k = 1 → rightsL p.hs = true) (i k d t : Int) (w : World) (hd : Row w A p.hs.length p.hs) :
    Calls Tryz.prog 27 #[.agg (p.fd A c).cells.toArray, .int .i64 i, .int .i64 k, .int .i64 d, .int .i64 t] w fun e w' => ∃ A1 c1, e = .returned (.tuple #[.agg ((handP p i k d t).fd A1 c1).cells.toArray, .int .i64 (handPE p i k d t)]) ∧ Got w A p.hs.length w' A1 c1 (handP p i k d t).hs ∧ Below w.heap.size w w' := by
  have HK := Lib.hid (KeepF.start (w := w) (rows := [(A, p.hs.length, p.hs)]) (by simpa using hd))
  have HF := Lib.hid hp; clear hp
  have HCP := Lib.hid hc; clear hc
  by_cases k1 : p.k = 1
  rotate_left
  · have e1 : handPE p i k d t = 17 := by unfold handPE; rw [if_neg k1]
    rw [show handP p i k d t = zP by unfold handP; rw [e1, toldP_n _ (by decide)], e1]
    have hkc : (p.fd A c).cells[1]? = some (.int .i64 p.k) := Pf.ck
    generalize p.k = K at k1 hkc
    go_enter Tryz.func27, Tryz.ntmps27
    go_wp2_with (first
      | (with_reducible refine box_f HK.out rfl _ rfl rfl ?_; intro b u hk; clear HK; have HK := Lib.hid hk; clear hk)
      | (with_reducible refine alloc_f HK.out f_zeroP rfl rfl ?_; intro br u hk; clear HK; have HK := Lib.hid hk; clear hk)
      | (with_reducible refine load_f1 HK.out 1 cbI _ rfl rfl rfl rfl hkc ?_)
      | (with_reducible refine build_f f_buildP rfl rfl ?_)
      | (with_reducible refine store_fr HK.out 0 (Pf.infoF zP_full) (Fd.one _) rfl rfl _ _ rfl rfl rfl rfl (Fd.leP zP_full zP_full) (Fd.setAllP zP_full zP_full) ?_; intro u hk; simp only [List.set_cons_zero] at hk; clear HK; have HK := Lib.hid hk; clear hk))
    exact bodyPost_ret (results_f2 rfl Tryz.underlying33 rfl (Pf.infoF zP_full) _ HK.out 0 _ rfl rfl rfl) rfl ⟨none, 0, rfl, Got.nil _ _ _ _ _ _, HK.out.bel⟩
  · have hkc : (p.fd A c).cells[1]? = some (.int .i64 1) := by rw [Pf.ck, k1]
    have hlo := fun w h => rlok (A := A) (c := c) HF.out hr i w h
    have e1 : handPE p i k d t = if looseP p i < d then 8 else handE p.C i k d t := by simp [handPE, k1]
    have e2 : handP p i k d t = toldP (p.setC (if looseP p i < d then p.C else handA p.C i k d t)) (if looseP p i < d then 8 else handE p.C i k d t) := by simp [handP, handPC, handPE, k1]
    rw [e1, e2]
    clear e1 e2
    generalize looseP p i = z at hlo ⊢
    generalize looseU (p.fd A c) i = d2 at hlo
    by_cases h1 : z < d
    · rw [if_pos h1, if_pos h1, toldP_n _ (by decide)]
      have d1 : decide (z < d) = true := by simpa using h1
      go_enter Tryz.func27, Tryz.ntmps27
      go_wp2_with (first
        | (with_reducible refine box_f HK.out rfl _ rfl rfl ?_; intro b u hk; clear HK; have HK := Lib.hid hk; clear hk)
        | (with_reducible refine alloc_f HK.out f_zeroP rfl rfl ?_; intro br u hk; clear HK; have HK := Lib.hid hk; clear hk)
        | (with_reducible refine load_f1 HK.out 1 cbI _ rfl rfl rfl rfl hkc ?_)
        | (with_reducible refine load_fr HK.out 1 Tryz.underlying33 rfl (Pf.infoF HF.out) _ rfl rfl rfl rfl Pf.all ?_)
        | (go_at_call 15; (with_reducible refine (hlo _ (HK.out.rowAt 0 rfl)).mono ?_); rintro e u ⟨rfl, hb⟩; have hk := HK.out.call hb; clear hb; clear HK; have HK := Lib.hid hk; clear hk)
        | (with_reducible refine build_f f_buildP rfl rfl ?_)
        | (with_reducible refine store_fr HK.out 0 (Pf.infoF zP_full) (Fd.one _) rfl rfl _ _ rfl rfl rfl rfl (Fd.leP zP_full zP_full) (Fd.setAllP zP_full zP_full) ?_; intro u hk; simp only [List.set_cons_zero] at hk; clear HK; have HK := Lib.hid hk; clear hk))
      exact bodyPost_ret (results_f2 rfl Tryz.underlying33 rfl (Pf.infoF zP_full) _ HK.out 0 _ rfl rfl rfl) rfl ⟨none, 0, rfl, Got.nil _ _ _ _ _ _, HK.out.bel⟩
    · rw [if_neg h1, if_neg h1]
      have d1 : decide (z < d) = false := by simpa using h1
      have hcl := rhand_any p.C HF.out i k d t
      have HA := Lib.hid (handA_length HF.out i k d t)
      generalize handA p.C i k d t = D at hcl HA ⊢
      generalize handE p.C i k d t = E at hcl ⊢
      go_enter Tryz.func27, Tryz.ntmps27
      go_wp2_with (first
        | (with_reducible refine box_f HK.out rfl _ rfl rfl ?_; intro b u hk; clear HK; have HK := Lib.hid hk; clear hk)
        | (with_reducible refine alloc_f HK.out f_zeroP rfl rfl ?_; intro br u hk; clear HK; have HK := Lib.hid hk; clear hk)
        | (with_reducible refine load_f1 HK.out 1 cbI _ rfl rfl rfl rfl hkc ?_)
        | (with_reducible refine load_fr HK.out 1 Tryz.underlying28 rfl (Pf.infoC HF.out) _ rfl rfl rfl rfl Pf.cC ?_)
        | (go_at_call 66; (with_reducible refine (hcl _).mono ?_); rintro e u ⟨rfl, hb⟩; have hk := HK.out.call hb; clear hb; clear HK; have HK := Lib.hid hk; clear hk)
        | (with_reducible refine alloc_f HK.out c_zeroF rfl rfl ?_; intro bd u hk; clear HK; have HK := Lib.hid hk; clear hk)
        | (with_reducible refine store_fr HK.out 0 (infoC HA.out) (vals_all _) rfl rfl _ _ rfl rfl rfl rfl (putC_le (zer_length 579) HA.out) (putC ((zer_length 579).trans HA.out.symm)) ?_; intro u hk; simp only [List.set_cons_zero] at hk; clear HK; have HK := Lib.hid hk; clear hk)
        | (with_reducible refine load_fr HK.out 2 Tryz.underlying33 rfl (Pf.infoF HF.out) _ rfl rfl rfl rfl Pf.all ?_)
        | (with_reducible refine load_fr HK.out 0 Tryz.underlying28 rfl (infoC HA.out) _ rfl rfl rfl rfl (infoCl HA.out) ?_)
        | (go_at_call 62; (with_reducible refine (with_any p HF.out A c HCP.out _ HA.out _ _ (HK.out.rowAt 0 rfl)).mono ?_); rintro e u ⟨A1, c1, rfl, hg, hb⟩; have HG := Lib.hid (hg.base HK.out.bel.size); have hk := HK.out.got hb 0 rfl hg; clear hg hb; clear HK; have HK := Lib.hid hk; clear hk)
        | (with_reducible refine store_fr HK.out 1 (Pf.infoF (toldP_full (p := p.setC D) (Pf.fullC HA.out) E)) (Fd.one _) rfl rfl _ _ rfl rfl rfl rfl (Fd.leP zP_full (toldP_full (p := p.setC D) (Pf.fullC HA.out) E)) (Fd.setAllP zP_full (toldP_full (p := p.setC D) (Pf.fullC HA.out) E)) ?_; intro u hk; simp only [List.set_cons_zero, List.set_cons_succ] at hk; clear HK; have HK := Lib.hid hk; clear hk)
        | (with_reducible refine load_fr HK.out 1 Tryz.underlying33 rfl (Pf.infoF HF.out) _ rfl rfl rfl rfl Pf.all ?_)
        | (go_at_call 15; (with_reducible refine (hlo _ (HK.out.rowAt 0 rfl)).mono ?_); rintro e u ⟨rfl, hb⟩; have hk := HK.out.call hb; clear hb; clear HK; have HK := Lib.hid hk; clear hk))
      exact bodyPost_ret (results_f2 rfl Tryz.underlying33 rfl (Pf.infoF (toldP_full (p := p.setC D) (Pf.fullC HA.out) E)) _ HK.out 1 _ rfl rfl rfl) rfl ⟨A1, c1, rfl, ⟨HK.out.rowAt 0 rfl, HG.out.cap, HG.out.new⟩, HK.out.bel⟩
end Go.Proofs.YtbaccghnneidgaaGreat
