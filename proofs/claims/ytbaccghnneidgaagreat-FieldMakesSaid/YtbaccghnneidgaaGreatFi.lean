/- Contracts of the document's Write, Pass, Reserve, End and Expire of fields, and of the program's Reserve, Expire, Counter and Lock. -/
import Derived.Test.YtbaccghnneidgaaGreatFh
namespace Go.Proofs.YtbaccghnneidgaaGreat
set_option maxRecDepth 100000
open Go.ChangeShapes Go.WideShapes Go.ChangeAt Go.RowKit

theorem rreserve_sl (A : Option Addr) (n c : Nat) (hs : List Ho) (k a d : Int) (w : World) (hd : Row w A n hs) (hc : n ≤ c) :
    Calls Tryz.prog 75 #[.slice A n c, .int .i64 k, .int .i64 a, .int .i64 d] w fun e w' => ∃ A1 c1, e = .returned (.tuple #[.slice A1 (resL hs k a d).length c1, .int .i64 (resN hs k a d), .int .i64 (resE hs k a d)]) ∧ Own w' w.heap.size (.slice A1 (resL hs k a d).length c1) (resL hs k a d) ∧ Below w.heap.size w w' :=
  (rreserve_any A n c hs k a d w hd hc).mono fun e w' ⟨v, h1, h2, h3⟩ => by
    obtain ⟨A1, c1, rfl⟩ := h2.slice
    exact ⟨A1, c1, h1, h2, h3⟩
theorem rend_sl (A : Option Addr) (n c : Nat) (hs : List Ho) (k q s : Int) (w : World) (hd : Row w A n hs) :
    Calls Tryz.prog 78 #[.slice A n c, .int .i64 k, .int .i64 q, .int .i64 s] w fun e w' => ∃ A1 c1, e = .returned (.tuple #[.slice A1 (endL hs k q s).length c1, .int .i64 (endA hs k q s), .int .i64 (endE hs k q s)]) ∧ Own w' w.heap.size (.slice A1 (endL hs k q s).length c1) (endL hs k q s) ∧ Below w.heap.size w w' :=
  (rend_any A n c hs k q s w hd).mono fun e w' ⟨v, h1, h2, h3⟩ => by
    obtain ⟨A1, c1, rfl⟩ := h2.slice
    exact ⟨A1, c1, h1, h2, h3⟩
theorem rexpire_sl (A : Option Addr) (n c : Nat) (hs : List Ho) (k now : Int) (w : World) (hd : Row w A n hs) :
    Calls Tryz.prog 81 #[.slice A n c, .int .i64 k, .int .i64 now] w fun e w' => ∃ A1 c1, e = .returned (.tuple #[.slice A1 (expL hs k now).length c1, .int .i64 (expN hs k now)]) ∧ Own w' w.heap.size (.slice A1 (expL hs k now).length c1) (expL hs k now) ∧ Below w.heap.size w w' :=
  (rexpire_any A n c hs k now w hd).mono fun e w' ⟨v, h1, h2, h3⟩ => by
    obtain ⟨A1, c1, rfl⟩ := h2.slice
    exact ⟨A1, c1, h1, h2, h3⟩
theorem with_any2 (p : Pf) (hp : p.full) (R : List Ho) (A : Option Addr) (c : Nat) (hc : R.length ≤ c) (D : List Int) (hD : D.length = 579) (E : Int) (w : World) (hd : Row w A R.length R) :
    Calls Tryz.prog 62 #[.agg ((p.setH R).fd A c).cells.toArray, .agg (vals D).toArray, .int .i64 E] w fun e w' => ∃ A1 c1, e = .returned (.tuple #[.agg ((toldP ((p.setH R).setC D) E).fd A1 c1).cells.toArray, .int .i64 E]) ∧ Got w A R.length w' A1 c1 (toldP ((p.setH R).setC D) E).hs ∧ Below w.heap.size w w' := with_any (p.setH R) hp A c hc D hD E w hd
theorem endE_kinds {l : List Ho} {k n s : Int} (h : endE l k n s = 0) : s = 2 ∨ s = 3 := by
  unfold endE at h
  split at h
  · rename_i h1
    simp only [Bool.and_eq_true, Bool.or_eq_true, decide_eq_true_eq] at h1
    exact h1.2
  · cases h
set_option maxHeartbeats 2000000 in
theorem rwrite_f (p : Pf) (hp : p.full) (A : Option Addr) (c : Nat) (hc : p.hs.length ≤ c) (k n : Int) (w : World) (hd : Row w A p.hs.length p.hs) :
    Calls Tryz.prog 29 #[.agg (p.fd A c).cells.toArray, .int .i64 k, .int .i64 n] w fun e w' => ∃ A1 c1, e = .returned (.tuple #[.agg ((wrP p k n).fd A1 c1).cells.toArray, .int .i64 (wrPE p k n)]) ∧ Got w A p.hs.length w' A1 c1 (wrP p k n).hs ∧ Below w.heap.size w w' := by
  have HK := Lib.hid (KeepF.start (w := w) (rows := [(A, p.hs.length, p.hs)]) (by simpa using hd))
  have HF := Lib.hid hp; clear hp
  have HCP := Lib.hid hc; clear hc
  by_cases k1 : p.k = 2
  rotate_left
  · have e1 : wrPE p k n = 17 := by unfold wrPE; rw [if_neg k1]
    rw [show wrP p k n = zP by unfold wrP; rw [e1, toldP_n _ (by decide)], e1]
    have hkc : (p.fd A c).cells[1]? = some (.int .i64 p.k) := Pf.ck
    generalize p.k = K at k1 hkc
    go_enter Tryz.func29, Tryz.ntmps29
    go_wp2_with (first
      | (with_reducible refine box_f HK.out rfl _ rfl rfl ?_; intro b u hk; clear HK; have HK := Lib.hid hk; clear hk)
      | (with_reducible refine alloc_f HK.out f_zeroP rfl rfl ?_; intro br u hk; clear HK; have HK := Lib.hid hk; clear hk)
      | (with_reducible refine load_f1 HK.out 1 cbI _ rfl rfl rfl rfl hkc ?_)
      | (with_reducible refine build_f f_buildP rfl rfl ?_)
      | (with_reducible refine store_fr HK.out 0 (Pf.infoF zP_full) (Fd.one _) rfl rfl _ _ rfl rfl rfl rfl (Fd.leP zP_full zP_full) (Fd.setAllP zP_full zP_full) ?_; intro u hk; simp only [List.set_cons_zero] at hk; clear HK; have HK := Lib.hid hk; clear hk))
    exact bodyPost_ret (results_f2 rfl Tryz.underlying33 rfl (Pf.infoF zP_full) _ HK.out 0 _ rfl rfl rfl) rfl ⟨none, 0, rfl, Got.nil _ _ _ _ _ _, HK.out.bel⟩
  · have hkc : (p.fd A c).cells[1]? = some (.int .i64 2) := by rw [Pf.ck, k1]
    have hcl := rwrite_any p.L k n
    rw [show wrP p k n = toldP (p.setL (wrA p.L k n)) (wrE p.L k n) by simp [wrP, wrPE, k1], show wrPE p k n = wrE p.L k n by simp [wrPE, k1]]
    generalize wrA p.L k n = M at hcl ⊢
    generalize wrE p.L k n = E at hcl ⊢
    by_cases h0 : E = 0
    · subst h0
      rw [toldP_0]
      go_enter Tryz.func29, Tryz.ntmps29
      go_wp2_with (first
        | (with_reducible refine box_f HK.out rfl _ rfl rfl ?_; intro b u hk; clear HK; have HK := Lib.hid hk; clear hk)
        | (with_reducible refine alloc_f HK.out f_zeroP rfl rfl ?_; intro br u hk; clear HK; have HK := Lib.hid hk; clear hk)
        | (with_reducible refine load_f1 HK.out 1 cbI _ rfl rfl rfl rfl hkc ?_)
        | (with_reducible refine load_fr HK.out 1 Tryz.underlying30 rfl (l_infoF _) _ rfl rfl rfl rfl (Pf.cL HF.out) ?_)
        | (go_at_call 69; (with_reducible refine (hcl _).mono ?_); rintro e u ⟨rfl, hb⟩; have hk := HK.out.call hb; clear hb; clear HK; have HK := Lib.hid hk; clear hk)
        | (with_reducible refine alloc_f HK.out l_zeroF rfl rfl ?_; intro bl u hk; clear HK; have HK := Lib.hid hk; clear hk)
        | (with_reducible refine store_fr HK.out 0 (l_infoF _) (vals_all _) rfl rfl _ _ rfl rfl rfl rfl (Lk.le4 _ _) (Lk.putA _ _) ?_; intro u hk; simp only [List.set_cons_zero] at hk; clear HK; have HK := Lib.hid hk; clear hk)
        | (with_reducible refine load_fr HK.out 0 Tryz.underlying30 rfl (l_infoF _) _ rfl rfl rfl rfl (Lk.fall _) ?_)
        | (with_reducible refine store_fr HK.out 2 (l_infoF _) (vals_all _) rfl rfl _ _ rfl rfl rfl rfl (Fd.leL HF.out) (Pf.toL HF.out _) ?_; intro u hk; simp only [List.set_cons_zero, List.set_cons_succ] at hk; clear HK; have HK := Lib.hid hk; clear hk)
        | (with_reducible refine load_fr HK.out 2 Tryz.underlying33 rfl (Pf.infoF (Pf.fullL HF.out M)) _ rfl rfl rfl rfl Pf.all ?_)
        | (with_reducible refine store_fr HK.out 1 (Pf.infoF (Pf.fullL HF.out M)) (Fd.one _) rfl rfl _ _ rfl rfl rfl rfl (Fd.leP zP_full (Pf.fullL HF.out M)) (Fd.setAllP zP_full (Pf.fullL HF.out M)) ?_; intro u hk; simp only [List.set_cons_zero, List.set_cons_succ] at hk; clear HK; have HK := Lib.hid hk; clear hk))
      exact bodyPost_ret (results_f2 rfl Tryz.underlying33 rfl (Pf.infoF (Pf.fullL HF.out M)) _ HK.out 1 _ rfl rfl rfl) rfl ⟨A, c, rfl, Got.same (HK.out.rowAt 0 rfl) HCP.out, HK.out.bel⟩
    · rw [toldP_n _ h0]
      have d0 : (E != 0) = true := by simpa using h0
      go_enter Tryz.func29, Tryz.ntmps29
      go_wp2_with (first
        | (with_reducible refine box_f HK.out rfl _ rfl rfl ?_; intro b u hk; clear HK; have HK := Lib.hid hk; clear hk)
        | (with_reducible refine alloc_f HK.out f_zeroP rfl rfl ?_; intro br u hk; clear HK; have HK := Lib.hid hk; clear hk)
        | (with_reducible refine load_f1 HK.out 1 cbI _ rfl rfl rfl rfl hkc ?_)
        | (with_reducible refine load_fr HK.out 1 Tryz.underlying30 rfl (l_infoF _) _ rfl rfl rfl rfl (Pf.cL HF.out) ?_)
        | (go_at_call 69; (with_reducible refine (hcl _).mono ?_); rintro e u ⟨rfl, hb⟩; have hk := HK.out.call hb; clear hb; clear HK; have HK := Lib.hid hk; clear hk)
        | (with_reducible refine alloc_f HK.out l_zeroF rfl rfl ?_; intro bl u hk; clear HK; have HK := Lib.hid hk; clear hk)
        | (with_reducible refine store_fr HK.out 0 (l_infoF _) (vals_all _) rfl rfl _ _ rfl rfl rfl rfl (Lk.le4 _ _) (Lk.putA _ _) ?_; intro u hk; simp only [List.set_cons_zero] at hk; clear HK; have HK := Lib.hid hk; clear hk)
        | (with_reducible refine build_f f_buildP rfl rfl ?_)
        | (with_reducible refine store_fr HK.out 1 (Pf.infoF zP_full) (Fd.one _) rfl rfl _ _ rfl rfl rfl rfl (Fd.leP zP_full zP_full) (Fd.setAllP zP_full zP_full) ?_; intro u hk; simp only [List.set_cons_zero, List.set_cons_succ] at hk; clear HK; have HK := Lib.hid hk; clear hk))
      exact bodyPost_ret (results_f2 rfl Tryz.underlying33 rfl (Pf.infoF zP_full) _ HK.out 1 _ rfl rfl rfl) rfl ⟨none, 0, rfl, Got.nil _ _ _ _ _ _, HK.out.bel⟩
set_option maxHeartbeats 2000000 in
theorem rpass_f (p : Pf) (hp : p.full) (A : Option Addr) (c : Nat) (hc : p.hs.length ≤ c) (k n : Int) (w : World) (hd : Row w A p.hs.length p.hs) :
    Calls Tryz.prog 31 #[.agg (p.fd A c).cells.toArray, .int .i64 k, .int .i64 n] w fun e w' => ∃ A1 c1, e = .returned (.tuple #[.agg ((psP p k n).fd A1 c1).cells.toArray, .int .i64 (psPE p k n)]) ∧ Got w A p.hs.length w' A1 c1 (psP p k n).hs ∧ Below w.heap.size w w' := by
  have HK := Lib.hid (KeepF.start (w := w) (rows := [(A, p.hs.length, p.hs)]) (by simpa using hd))
  have HF := Lib.hid hp; clear hp
  have HCP := Lib.hid hc; clear hc
  by_cases k1 : p.k = 2
  rotate_left
  · have e1 : psPE p k n = 17 := by unfold psPE; rw [if_neg k1]
    rw [show psP p k n = zP by unfold psP; rw [e1, toldP_n _ (by decide)], e1]
    have hkc : (p.fd A c).cells[1]? = some (.int .i64 p.k) := Pf.ck
    generalize p.k = K at k1 hkc
    go_enter Tryz.func31, Tryz.ntmps31
    go_wp2_with (first
      | (with_reducible refine box_f HK.out rfl _ rfl rfl ?_; intro b u hk; clear HK; have HK := Lib.hid hk; clear hk)
      | (with_reducible refine alloc_f HK.out f_zeroP rfl rfl ?_; intro br u hk; clear HK; have HK := Lib.hid hk; clear hk)
      | (with_reducible refine load_f1 HK.out 1 cbI _ rfl rfl rfl rfl hkc ?_)
      | (with_reducible refine build_f f_buildP rfl rfl ?_)
      | (with_reducible refine store_fr HK.out 0 (Pf.infoF zP_full) (Fd.one _) rfl rfl _ _ rfl rfl rfl rfl (Fd.leP zP_full zP_full) (Fd.setAllP zP_full zP_full) ?_; intro u hk; simp only [List.set_cons_zero] at hk; clear HK; have HK := Lib.hid hk; clear hk))
    exact bodyPost_ret (results_f2 rfl Tryz.underlying33 rfl (Pf.infoF zP_full) _ HK.out 0 _ rfl rfl rfl) rfl ⟨none, 0, rfl, Got.nil _ _ _ _ _ _, HK.out.bel⟩
  · have hkc : (p.fd A c).cells[1]? = some (.int .i64 2) := by rw [Pf.ck, k1]
    have hcl := rpass_any p.L k n
    rw [show psP p k n = toldP (p.setL (psA p.L k n)) (psE p.L k n) by simp [psP, psPE, k1], show psPE p k n = psE p.L k n by simp [psPE, k1]]
    generalize psA p.L k n = M at hcl ⊢
    generalize psE p.L k n = E at hcl ⊢
    by_cases h0 : E = 0
    · subst h0
      rw [toldP_0]
      go_enter Tryz.func31, Tryz.ntmps31
      go_wp2_with (first
        | (with_reducible refine box_f HK.out rfl _ rfl rfl ?_; intro b u hk; clear HK; have HK := Lib.hid hk; clear hk)
        | (with_reducible refine alloc_f HK.out f_zeroP rfl rfl ?_; intro br u hk; clear HK; have HK := Lib.hid hk; clear hk)
        | (with_reducible refine load_f1 HK.out 1 cbI _ rfl rfl rfl rfl hkc ?_)
        | (with_reducible refine load_fr HK.out 1 Tryz.underlying30 rfl (l_infoF _) _ rfl rfl rfl rfl (Pf.cL HF.out) ?_)
        | (go_at_call 72; (with_reducible refine (hcl _).mono ?_); rintro e u ⟨rfl, hb⟩; have hk := HK.out.call hb; clear hb; clear HK; have HK := Lib.hid hk; clear hk)
        | (with_reducible refine alloc_f HK.out l_zeroF rfl rfl ?_; intro bl u hk; clear HK; have HK := Lib.hid hk; clear hk)
        | (with_reducible refine store_fr HK.out 0 (l_infoF _) (vals_all _) rfl rfl _ _ rfl rfl rfl rfl (Lk.le4 _ _) (Lk.putA _ _) ?_; intro u hk; simp only [List.set_cons_zero] at hk; clear HK; have HK := Lib.hid hk; clear hk)
        | (with_reducible refine load_fr HK.out 0 Tryz.underlying30 rfl (l_infoF _) _ rfl rfl rfl rfl (Lk.fall _) ?_)
        | (with_reducible refine store_fr HK.out 2 (l_infoF _) (vals_all _) rfl rfl _ _ rfl rfl rfl rfl (Fd.leL HF.out) (Pf.toL HF.out _) ?_; intro u hk; simp only [List.set_cons_zero, List.set_cons_succ] at hk; clear HK; have HK := Lib.hid hk; clear hk)
        | (with_reducible refine load_fr HK.out 2 Tryz.underlying33 rfl (Pf.infoF (Pf.fullL HF.out M)) _ rfl rfl rfl rfl Pf.all ?_)
        | (with_reducible refine store_fr HK.out 1 (Pf.infoF (Pf.fullL HF.out M)) (Fd.one _) rfl rfl _ _ rfl rfl rfl rfl (Fd.leP zP_full (Pf.fullL HF.out M)) (Fd.setAllP zP_full (Pf.fullL HF.out M)) ?_; intro u hk; simp only [List.set_cons_zero, List.set_cons_succ] at hk; clear HK; have HK := Lib.hid hk; clear hk))
      exact bodyPost_ret (results_f2 rfl Tryz.underlying33 rfl (Pf.infoF (Pf.fullL HF.out M)) _ HK.out 1 _ rfl rfl rfl) rfl ⟨A, c, rfl, Got.same (HK.out.rowAt 0 rfl) HCP.out, HK.out.bel⟩
    · rw [toldP_n _ h0]
      have d0 : (E != 0) = true := by simpa using h0
      go_enter Tryz.func31, Tryz.ntmps31
      go_wp2_with (first
        | (with_reducible refine box_f HK.out rfl _ rfl rfl ?_; intro b u hk; clear HK; have HK := Lib.hid hk; clear hk)
        | (with_reducible refine alloc_f HK.out f_zeroP rfl rfl ?_; intro br u hk; clear HK; have HK := Lib.hid hk; clear hk)
        | (with_reducible refine load_f1 HK.out 1 cbI _ rfl rfl rfl rfl hkc ?_)
        | (with_reducible refine load_fr HK.out 1 Tryz.underlying30 rfl (l_infoF _) _ rfl rfl rfl rfl (Pf.cL HF.out) ?_)
        | (go_at_call 72; (with_reducible refine (hcl _).mono ?_); rintro e u ⟨rfl, hb⟩; have hk := HK.out.call hb; clear hb; clear HK; have HK := Lib.hid hk; clear hk)
        | (with_reducible refine alloc_f HK.out l_zeroF rfl rfl ?_; intro bl u hk; clear HK; have HK := Lib.hid hk; clear hk)
        | (with_reducible refine store_fr HK.out 0 (l_infoF _) (vals_all _) rfl rfl _ _ rfl rfl rfl rfl (Lk.le4 _ _) (Lk.putA _ _) ?_; intro u hk; simp only [List.set_cons_zero] at hk; clear HK; have HK := Lib.hid hk; clear hk)
        | (with_reducible refine build_f f_buildP rfl rfl ?_)
        | (with_reducible refine store_fr HK.out 1 (Pf.infoF zP_full) (Fd.one _) rfl rfl _ _ rfl rfl rfl rfl (Fd.leP zP_full zP_full) (Fd.setAllP zP_full zP_full) ?_; intro u hk; simp only [List.set_cons_zero, List.set_cons_succ] at hk; clear HK; have HK := Lib.hid hk; clear hk))
      exact bodyPost_ret (results_f2 rfl Tryz.underlying33 rfl (Pf.infoF zP_full) _ HK.out 1 _ rfl rfl rfl) rfl ⟨none, 0, rfl, Got.nil _ _ _ _ _ _, HK.out.bel⟩
set_option maxHeartbeats 2000000 in
theorem rreserve_f (p : Pf) (hp : p.full) (A : Option Addr) (c : Nat) (hc : p.hs.length ≤ c) (hr : p.k = 1 → rightsL p.hs = true) (k a d : Int) (w : World) (hd : Row w A p.hs.length p.hs) :
    Calls Tryz.prog 33 #[.agg (p.fd A c).cells.toArray, .int .i64 k, .int .i64 a, .int .i64 d] w fun e w' => ∃ A1 c1, e = .returned (.tuple #[.agg ((resP p k a d).fd A1 c1).cells.toArray, .int .i64 (resPN p k a d), .int .i64 (resPE p k a d)]) ∧ Got w A p.hs.length w' A1 c1 (resP p k a d).hs ∧ Below w.heap.size w w' := by
  have HK := Lib.hid (KeepF.start (w := w) (rows := [(A, p.hs.length, p.hs)]) (by simpa using hd))
  have HF := Lib.hid hp; clear hp
  have HCP := Lib.hid hc; clear hc
  by_cases k1 : p.k = 1
  rotate_left
  · have e1 : resPE p k a d = 17 := by unfold resPE; rw [if_neg k1]
    rw [show resP p k a d = zP by unfold resP; rw [e1, toldP_n _ (by decide)], e1, show resPN p k a d = 0 by unfold resPN; rw [if_neg k1]]
    have hkc : (p.fd A c).cells[1]? = some (.int .i64 p.k) := Pf.ck
    generalize p.k = K at k1 hkc
    go_enter Tryz.func33, Tryz.ntmps33
    go_wp2_with (first
      | (with_reducible refine box_f HK.out rfl _ rfl rfl ?_; intro b u hk; clear HK; have HK := Lib.hid hk; clear hk)
      | (with_reducible refine alloc_f HK.out f_zeroP rfl rfl ?_; intro br u hk; clear HK; have HK := Lib.hid hk; clear hk)
      | (with_reducible refine load_f1 HK.out 1 cbI _ rfl rfl rfl rfl hkc ?_)
      | (with_reducible refine build_f f_buildP rfl rfl ?_)
      | (with_reducible refine store_fr HK.out 0 (Pf.infoF zP_full) (Fd.one _) rfl rfl _ _ rfl rfl rfl rfl (Fd.leP zP_full zP_full) (Fd.setAllP zP_full zP_full) ?_; intro u hk; simp only [List.set_cons_zero] at hk; clear HK; have HK := Lib.hid hk; clear hk))
    exact bodyPost_ret (results_f3 rfl Tryz.underlying33 rfl (Pf.infoF zP_full) _ HK.out 0 _ _ rfl rfl rfl rfl) rfl ⟨none, 0, rfl, Got.nil _ _ _ _ _ _, HK.out.bel⟩
  · have hkc : (p.fd A c).cells[1]? = some (.int .i64 1) := by rw [Pf.ck, k1]
    have hlo := fun w h => rlok (A := A) (c := c) HF.out hr k w h
    have e1 : resPE p k a d = if looseP p k < a then 8 else resE p.hs k a d := by simp [resPE, k1]
    have e2 : resP p k a d = toldP (p.setH (if looseP p k < a then p.hs else resL p.hs k a d)) (if looseP p k < a then 8 else resE p.hs k a d) := by simp [resP, resPH, resPE, k1]
    have e3 : resPN p k a d = if looseP p k < a then 0 else resN p.hs k a d := by simp [resPN, k1]
    rw [e1, e2, e3]
    clear e1 e2 e3
    generalize looseP p k = z at hlo ⊢
    generalize looseU (p.fd A c) k = d2 at hlo
    by_cases h1 : z < a
    · rw [if_pos h1, if_pos h1, if_pos h1, toldP_n _ (by decide)]
      have d1 : decide (z < a) = true := by simpa using h1
      go_enter Tryz.func33, Tryz.ntmps33
      go_wp2_with (first
        | (with_reducible refine box_f HK.out rfl _ rfl rfl ?_; intro b u hk; clear HK; have HK := Lib.hid hk; clear hk)
        | (with_reducible refine alloc_f HK.out f_zeroP rfl rfl ?_; intro br u hk; clear HK; have HK := Lib.hid hk; clear hk)
        | (with_reducible refine load_f1 HK.out 1 cbI _ rfl rfl rfl rfl hkc ?_)
        | (with_reducible refine load_fr HK.out 1 Tryz.underlying33 rfl (Pf.infoF HF.out) _ rfl rfl rfl rfl Pf.all ?_)
        | (go_at_call 15; (with_reducible refine (hlo _ (HK.out.rowAt 0 rfl)).mono ?_); rintro e u ⟨rfl, hb⟩; have hk := HK.out.call hb; clear hb; clear HK; have HK := Lib.hid hk; clear hk)
        | (with_reducible refine build_f f_buildP rfl rfl ?_)
        | (with_reducible refine store_fr HK.out 0 (Pf.infoF zP_full) (Fd.one _) rfl rfl _ _ rfl rfl rfl rfl (Fd.leP zP_full zP_full) (Fd.setAllP zP_full zP_full) ?_; intro u hk; simp only [List.set_cons_zero] at hk; clear HK; have HK := Lib.hid hk; clear hk))
      exact bodyPost_ret (results_f3 rfl Tryz.underlying33 rfl (Pf.infoF zP_full) _ HK.out 0 _ _ rfl rfl rfl rfl) rfl ⟨none, 0, rfl, Got.nil _ _ _ _ _ _, HK.out.bel⟩
    · rw [if_neg h1, if_neg h1, if_neg h1]
      have d1 : decide (z < a) = false := by simpa using h1
      have HLE := Lib.hid (resL_le p.hs k a d)
      have hN := show resE p.hs k a d ≠ 0 → resN p.hs k a d = 0 from fun h => by simp [resN, h]
      have hcl := fun w h => rreserve_sl A p.hs.length c p.hs k a d w h HCP.out
      generalize resL p.hs k a d = R at hcl HLE ⊢
      generalize resE p.hs k a d = E at hcl hN ⊢
      generalize resN p.hs k a d = N at hcl hN ⊢
      by_cases h0 : E = 0
      · subst h0
        rw [toldP_0]
        clear hN
        go_enter Tryz.func33, Tryz.ntmps33
        go_wp2_with (first
          | (with_reducible refine box_f HK.out rfl _ rfl rfl ?_; intro b u hk; clear HK; have HK := Lib.hid hk; clear hk)
          | (with_reducible refine alloc_f HK.out f_zeroP rfl rfl ?_; intro br u hk; clear HK; have HK := Lib.hid hk; clear hk)
          | (with_reducible refine load_f1 HK.out 1 cbI _ rfl rfl rfl rfl hkc ?_)
          | (with_reducible refine load_fr HK.out 1 Tryz.underlying33 rfl (Pf.infoF HF.out) _ rfl rfl rfl rfl Pf.all ?_)
          | (go_at_call 15; (with_reducible refine (hlo _ (HK.out.rowAt 0 rfl)).mono ?_); rintro e u ⟨rfl, hb⟩; have hk := HK.out.call hb; clear hb; clear HK; have HK := Lib.hid hk; clear hk)
          | (with_reducible refine load_f1 HK.out 1 cbH _ rfl rfl rfl rfl (Pf.cH HF.out) ?_)
          | (go_at_call 75; (with_reducible refine (hcl _ (HK.out.rowAt 0 rfl)).mono ?_); rintro e u ⟨A1, c1, rfl, ho, hb⟩; have HX := Lib.hid ((Fresh.own ho).mono HK.out.bel.size); have hk := HK.out.own hb ho (HLE.out); clear ho hb; clear HK; have HK := Lib.hid hk; clear hk)
          | (with_reducible refine store_f1 HK.out 1 cbH rfl rfl _ _ rfl rfl rfl rfl rfl (Fd.ltH HF.out) (Pf.toH HF.out _ _ _) ?_; intro u hk; simp only [List.set_cons_zero, List.set_cons_succ] at hk; clear HK; have HK := Lib.hid hk; clear hk)
          | (with_reducible refine load_fr HK.out 1 Tryz.underlying33 rfl (Pf.infoF (Pf.fullH HF.out R)) _ rfl rfl rfl rfl Pf.all ?_)
          | (with_reducible refine store_fr HK.out 0 (Pf.infoF (Pf.fullH HF.out R)) (Fd.one _) rfl rfl _ _ rfl rfl rfl rfl (Fd.leP zP_full (Pf.fullH HF.out R)) (Fd.setAllP zP_full (Pf.fullH HF.out R)) ?_; intro u hk; simp only [List.set_cons_zero] at hk; clear HK; have HK := Lib.hid hk; clear hk))
        exact bodyPost_ret (results_f3 rfl Tryz.underlying33 rfl (Pf.infoF (Pf.fullH HF.out R)) _ HK.out 0 _ _ rfl rfl rfl rfl) rfl ⟨A1, c1, rfl, Got.of (HK.out.rowAt 0 rfl) HX.out, HK.out.bel⟩
      · rw [toldP_n _ h0, hN h0]
        have d0 : (E != 0) = true := by simpa using h0
        clear hN
        go_enter Tryz.func33, Tryz.ntmps33
        go_wp2_with (first
          | (with_reducible refine box_f HK.out rfl _ rfl rfl ?_; intro b u hk; clear HK; have HK := Lib.hid hk; clear hk)
          | (with_reducible refine alloc_f HK.out f_zeroP rfl rfl ?_; intro br u hk; clear HK; have HK := Lib.hid hk; clear hk)
          | (with_reducible refine load_f1 HK.out 1 cbI _ rfl rfl rfl rfl hkc ?_)
          | (with_reducible refine load_fr HK.out 1 Tryz.underlying33 rfl (Pf.infoF HF.out) _ rfl rfl rfl rfl Pf.all ?_)
          | (go_at_call 15; (with_reducible refine (hlo _ (HK.out.rowAt 0 rfl)).mono ?_); rintro e u ⟨rfl, hb⟩; have hk := HK.out.call hb; clear hb; clear HK; have HK := Lib.hid hk; clear hk)
          | (with_reducible refine load_f1 HK.out 1 cbH _ rfl rfl rfl rfl (Pf.cH HF.out) ?_)
          | (go_at_call 75; (with_reducible refine (hcl _ (HK.out.rowAt 0 rfl)).mono ?_); rintro e u ⟨A1, c1, rfl, ho, hb⟩; have HX := Lib.hid ((Fresh.own ho).mono HK.out.bel.size); have hk := HK.out.own hb ho (HLE.out); clear ho hb; clear HK; have HK := Lib.hid hk; clear hk)
          | (with_reducible refine build_f f_buildP rfl rfl ?_)
          | (with_reducible refine store_fr HK.out 0 (Pf.infoF zP_full) (Fd.one _) rfl rfl _ _ rfl rfl rfl rfl (Fd.leP zP_full zP_full) (Fd.setAllP zP_full zP_full) ?_; intro u hk; simp only [List.set_cons_zero] at hk; clear HK; have HK := Lib.hid hk; clear hk))
        exact bodyPost_ret (results_f3 rfl Tryz.underlying33 rfl (Pf.infoF zP_full) _ HK.out 0 _ _ rfl rfl rfl rfl) rfl ⟨none, 0, rfl, Got.nil _ _ _ _ _ _, HK.out.bel⟩
set_option maxHeartbeats 2000000 in
theorem rend_f (p : Pf) (hp : p.full) (A : Option Addr) (c : Nat) (hc : p.hs.length ≤ c) (k n s : Int) (w : World) (hd : Row w A p.hs.length p.hs) :
    Calls Tryz.prog 35 #[.agg (p.fd A c).cells.toArray, .int .i64 k, .int .i64 n, .int .i64 s] w fun e w' => ∃ A1 c1, e = .returned (.tuple #[.agg ((endP p k n s).fd A1 c1).cells.toArray, .int .i64 (endPE p k n s)]) ∧ Got w A p.hs.length w' A1 c1 (endP p k n s).hs ∧ Below w.heap.size w w' := by
  have HK := Lib.hid (KeepF.start (w := w) (rows := [(A, p.hs.length, p.hs)]) (by simpa using hd))
  have HF := Lib.hid hp; clear hp
  have HCP := Lib.hid hc; clear hc
  by_cases k1 : p.k = 1
  rotate_left
  · have e1 : endPE p k n s = 17 := by unfold endPE; rw [if_neg k1]
    rw [show endP p k n s = zP by unfold endP; rw [e1, toldP_n _ (by decide)], e1]
    have hkc : (p.fd A c).cells[1]? = some (.int .i64 p.k) := Pf.ck
    generalize p.k = K at k1 hkc
    go_enter Tryz.func35, Tryz.ntmps35
    go_wp2_with (first
      | (with_reducible refine box_f HK.out rfl _ rfl rfl ?_; intro b u hk; clear HK; have HK := Lib.hid hk; clear hk)
      | (with_reducible refine alloc_f HK.out f_zeroP rfl rfl ?_; intro br u hk; clear HK; have HK := Lib.hid hk; clear hk)
      | (with_reducible refine load_f1 HK.out 1 cbI _ rfl rfl rfl rfl hkc ?_)
      | (with_reducible refine build_f f_buildP rfl rfl ?_)
      | (with_reducible refine store_fr HK.out 0 (Pf.infoF zP_full) (Fd.one _) rfl rfl _ _ rfl rfl rfl rfl (Fd.leP zP_full zP_full) (Fd.setAllP zP_full zP_full) ?_; intro u hk; simp only [List.set_cons_zero] at hk; clear HK; have HK := Lib.hid hk; clear hk))
    exact bodyPost_ret (results_f2 rfl Tryz.underlying33 rfl (Pf.infoF zP_full) _ HK.out 0 _ rfl rfl rfl) rfl ⟨none, 0, rfl, Got.nil _ _ _ _ _ _, HK.out.bel⟩
  · have hkc : (p.fd A c).cells[1]? = some (.int .i64 1) := by rw [Pf.ck, k1]
    have HLE := Lib.hid (endL_le (hs := p.hs) ((HK.out.rowAt 0 rfl).2.1) k n s)
    have hcl := fun w h => rend_sl A p.hs.length c p.hs k n s w h
    have hk2 := @endE_kinds p.hs k n s
    have e1 : endPE p k n s = if endE p.hs k n s = 0 then (if s = 2 then decE p.C k (endA p.hs k n s) else 0) else endE p.hs k n s := by simp [endPE, k1]
    have e2 : endP p k n s = toldP ((p.setH (endL p.hs k n s)).setC (if endE p.hs k n s = 0 then (if s = 2 then decA p.C k (endA p.hs k n s) else p.C) else p.C)) (if endE p.hs k n s = 0 then (if s = 2 then decE p.C k (endA p.hs k n s) else 0) else endE p.hs k n s) := by simp [endP, endPC, endPE, k1]
    rw [e1, e2]
    clear e1 e2
    generalize endL p.hs k n s = R at hcl HLE ⊢
    generalize endE p.hs k n s = E at hcl hk2 ⊢
    generalize endA p.hs k n s = N at hcl ⊢
    by_cases h0 : E = 0
    · subst h0
      rw [if_pos rfl, if_pos rfl]
      rcases hk2 rfl with rfl | rfl
      · rw [if_pos rfl, if_pos rfl]
        have hdc : ∀ w, Calls Tryz.prog 63 #[.agg (vals (p.setH R).C).toArray, .int .i64 k, .int .i64 N] w fun e w' => e = .returned (.tuple #[.agg (vals (decA p.C k N)).toArray, .int .i64 (decE p.C k N)]) ∧ Below w.heap.size w w' := rdec_any p.C HF.out k N
        have HA := Lib.hid (decA_length HF.out k N)
        generalize decA p.C k N = D at hdc HA ⊢
        generalize decE p.C k N = E at hdc ⊢
        clear hk2
        go_enter Tryz.func35, Tryz.ntmps35
        go_wp2_with (first
          | (with_reducible refine box_f HK.out rfl _ rfl rfl ?_; intro b u hk; clear HK; have HK := Lib.hid hk; clear hk)
          | (with_reducible refine alloc_f HK.out f_zeroP rfl rfl ?_; intro br u hk; clear HK; have HK := Lib.hid hk; clear hk)
          | (with_reducible refine load_f1 HK.out 1 cbI _ rfl rfl rfl rfl hkc ?_)
          | (with_reducible refine load_f1 HK.out 1 cbH _ rfl rfl rfl rfl (Pf.cH HF.out) ?_)
          | (go_at_call 78; (with_reducible refine (hcl _ (HK.out.rowAt 0 rfl)).mono ?_); rintro e u ⟨A1, c1, rfl, ho, hb⟩; have HX := Lib.hid ((Fresh.own ho).mono HK.out.bel.size); have hk := HK.out.own hb ho (HLE.out); clear ho hb; clear HK; have HK := Lib.hid hk; clear hk)
          | (with_reducible refine store_f1 HK.out 1 cbH rfl rfl _ _ rfl rfl rfl rfl rfl (Fd.ltH HF.out) (Pf.toH HF.out _ _ _) ?_; intro u hk; simp only [List.set_cons_zero, List.set_cons_succ] at hk; clear HK; have HK := Lib.hid hk; clear hk)
          | (with_reducible refine load_fr HK.out 1 Tryz.underlying28 rfl (Pf.infoC (Pf.fullH HF.out R)) _ rfl rfl rfl rfl Pf.cC ?_)
          | (go_at_call 63; (with_reducible refine (hdc _).mono ?_); rintro e u ⟨rfl, hb⟩; have hk := HK.out.call hb; clear hb; clear HK; have HK := Lib.hid hk; clear hk)
          | (with_reducible refine alloc_f HK.out c_zeroF rfl rfl ?_; intro bd u hk; clear HK; have HK := Lib.hid hk; clear hk)
          | (with_reducible refine store_fr HK.out 0 (infoC HA.out) (vals_all _) rfl rfl _ _ rfl rfl rfl rfl (putC_le (zer_length 579) HA.out) (putC ((zer_length 579).trans HA.out.symm)) ?_; intro u hk; simp only [List.set_cons_zero] at hk; clear HK; have HK := Lib.hid hk; clear hk)
          | (with_reducible refine load_fr HK.out 2 Tryz.underlying33 rfl (Pf.infoF (Pf.fullH HF.out R)) _ rfl rfl rfl rfl Pf.all ?_)
          | (with_reducible refine load_fr HK.out 0 Tryz.underlying28 rfl (infoC HA.out) _ rfl rfl rfl rfl (infoCl HA.out) ?_)
          | (go_at_call 62; (with_reducible refine (with_any2 p HF.out R A1 c1 HX.out.cap _ HA.out _ _ (HK.out.rowAt 0 rfl)).mono ?_); rintro e u ⟨A2, c2, rfl, hg, hb⟩; have HG := Lib.hid (hg.base HK.out.bel.size); have hk := HK.out.got hb 0 rfl hg; clear hg hb; clear HK; have HK := Lib.hid hk; clear hk)
          | (with_reducible refine store_fr HK.out 1 (Pf.infoF (toldP_full (p := (p.setH R).setC D) (Pf.fullC HA.out) E)) (Fd.one _) rfl rfl _ _ rfl rfl rfl rfl (Fd.leP zP_full (toldP_full (p := (p.setH R).setC D) (Pf.fullC HA.out) E)) (Fd.setAllP zP_full (toldP_full (p := (p.setH R).setC D) (Pf.fullC HA.out) E)) ?_; intro u hk; simp only [List.set_cons_zero, List.set_cons_succ] at hk; clear HK; have HK := Lib.hid hk; clear hk))
        exact bodyPost_ret (results_f2 rfl Tryz.underlying33 rfl (Pf.infoF (toldP_full (p := (p.setH R).setC D) (Pf.fullC HA.out) E)) _ HK.out 1 _ rfl rfl rfl) rfl ⟨A2, c2, rfl, ⟨HK.out.rowAt 0 rfl, HG.out.cap, fun a ha h0 => (HG.out.new a ha h0).elim .inl fun h2 => .inl (HX.out.new a (h2.1 ▸ ha) (by have := h2.2; omega))⟩, HK.out.bel⟩
      · rw [if_neg (by decide), if_neg (by decide), toldP_0]
        clear hk2
        rw [show (p.setH R).setC p.C = p.setH R from rfl]
        go_enter Tryz.func35, Tryz.ntmps35
        go_wp2_with (first
          | (with_reducible refine box_f HK.out rfl _ rfl rfl ?_; intro b u hk; clear HK; have HK := Lib.hid hk; clear hk)
          | (with_reducible refine alloc_f HK.out f_zeroP rfl rfl ?_; intro br u hk; clear HK; have HK := Lib.hid hk; clear hk)
          | (with_reducible refine load_f1 HK.out 1 cbI _ rfl rfl rfl rfl hkc ?_)
          | (with_reducible refine load_f1 HK.out 1 cbH _ rfl rfl rfl rfl (Pf.cH HF.out) ?_)
          | (go_at_call 78; (with_reducible refine (hcl _ (HK.out.rowAt 0 rfl)).mono ?_); rintro e u ⟨A1, c1, rfl, ho, hb⟩; have HX := Lib.hid ((Fresh.own ho).mono HK.out.bel.size); have hk := HK.out.own hb ho (HLE.out); clear ho hb; clear HK; have HK := Lib.hid hk; clear hk)
          | (with_reducible refine store_f1 HK.out 1 cbH rfl rfl _ _ rfl rfl rfl rfl rfl (Fd.ltH HF.out) (Pf.toH HF.out _ _ _) ?_; intro u hk; simp only [List.set_cons_zero, List.set_cons_succ] at hk; clear HK; have HK := Lib.hid hk; clear hk)
          | (with_reducible refine load_fr HK.out 1 Tryz.underlying33 rfl (Pf.infoF (Pf.fullH HF.out R)) _ rfl rfl rfl rfl Pf.all ?_)
          | (with_reducible refine store_fr HK.out 0 (Pf.infoF (Pf.fullH HF.out R)) (Fd.one _) rfl rfl _ _ rfl rfl rfl rfl (Fd.leP zP_full (Pf.fullH HF.out R)) (Fd.setAllP zP_full (Pf.fullH HF.out R)) ?_; intro u hk; simp only [List.set_cons_zero] at hk; clear HK; have HK := Lib.hid hk; clear hk))
        exact bodyPost_ret (results_f2 rfl Tryz.underlying33 rfl (Pf.infoF (Pf.fullH HF.out R)) _ HK.out 0 _ rfl rfl rfl) rfl ⟨A1, c1, rfl, Got.of (HK.out.rowAt 0 rfl) HX.out, HK.out.bel⟩
    · rw [if_neg h0, if_neg h0, toldP_n _ h0]
      have d0 : (E != 0) = true := by simpa using h0
      clear hk2
      go_enter Tryz.func35, Tryz.ntmps35
      go_wp2_with (first
        | (with_reducible refine box_f HK.out rfl _ rfl rfl ?_; intro b u hk; clear HK; have HK := Lib.hid hk; clear hk)
        | (with_reducible refine alloc_f HK.out f_zeroP rfl rfl ?_; intro br u hk; clear HK; have HK := Lib.hid hk; clear hk)
        | (with_reducible refine load_f1 HK.out 1 cbI _ rfl rfl rfl rfl hkc ?_)
        | (with_reducible refine load_f1 HK.out 1 cbH _ rfl rfl rfl rfl (Pf.cH HF.out) ?_)
        | (go_at_call 78; (with_reducible refine (hcl _ (HK.out.rowAt 0 rfl)).mono ?_); rintro e u ⟨A1, c1, rfl, ho, hb⟩; have HX := Lib.hid ((Fresh.own ho).mono HK.out.bel.size); have hk := HK.out.own hb ho (HLE.out); clear ho hb; clear HK; have HK := Lib.hid hk; clear hk)
        | (with_reducible refine build_f f_buildP rfl rfl ?_)
        | (with_reducible refine store_fr HK.out 0 (Pf.infoF zP_full) (Fd.one _) rfl rfl _ _ rfl rfl rfl rfl (Fd.leP zP_full zP_full) (Fd.setAllP zP_full zP_full) ?_; intro u hk; simp only [List.set_cons_zero] at hk; clear HK; have HK := Lib.hid hk; clear hk))
      exact bodyPost_ret (results_f2 rfl Tryz.underlying33 rfl (Pf.infoF zP_full) _ HK.out 0 _ rfl rfl rfl) rfl ⟨none, 0, rfl, Got.nil _ _ _ _ _ _, HK.out.bel⟩
set_option maxHeartbeats 2000000 in
theorem rexpire_f (p : Pf) (hp : p.full) (A : Option Addr) (c : Nat) (hc : p.hs.length ≤ c) (k now : Int) (w : World) (hd : Row w A p.hs.length p.hs) :
    Calls Tryz.prog 37 #[.agg (p.fd A c).cells.toArray, .int .i64 k, .int .i64 now] w fun e w' => ∃ A1 c1, e = .returned (.tuple #[.agg ((expP p k now).fd A1 c1).cells.toArray, .int .i64 (expPN p k now)]) ∧ Got w A p.hs.length w' A1 c1 (expP p k now).hs ∧ Below w.heap.size w w' := by
  have HK := Lib.hid (KeepF.start (w := w) (rows := [(A, p.hs.length, p.hs)]) (by simpa using hd))
  have HF := Lib.hid hp; clear hp
  have HCP := Lib.hid hc; clear hc
  by_cases k1 : p.k = 1
  rotate_left
  · rw [show expP p k now = p by unfold expP; rw [if_neg k1], show expPN p k now = 0 by unfold expPN; rw [if_neg k1]]
    have hkc : (p.fd A c).cells[1]? = some (.int .i64 p.k) := Pf.ck
    obtain ⟨K, hK⟩ : ∃ K, p.k = K := ⟨_, rfl⟩
    rw [hK] at k1 hkc
    clear hK
    go_enter Tryz.func37, Tryz.ntmps37
    go_wp2_with (first
      | (with_reducible refine box_f HK.out rfl _ rfl rfl ?_; intro b u hk; clear HK; have HK := Lib.hid hk; clear hk)
      | (with_reducible refine alloc_f HK.out f_zeroP rfl rfl ?_; intro br u hk; clear HK; have HK := Lib.hid hk; clear hk)
      | (with_reducible refine load_f1 HK.out 1 cbI _ rfl rfl rfl rfl hkc ?_)
      | (with_reducible refine load_fr HK.out 1 Tryz.underlying33 rfl (Pf.infoF HF.out) _ rfl rfl rfl rfl Pf.all ?_)
      | (with_reducible refine store_fr HK.out 0 (Pf.infoF HF.out) (Fd.one _) rfl rfl _ _ rfl rfl rfl rfl (Fd.leP zP_full HF.out) (Fd.setAllP zP_full HF.out) ?_; intro u hk; simp only [List.set_cons_zero] at hk; clear HK; have HK := Lib.hid hk; clear hk))
    exact bodyPost_ret (results_f2 rfl Tryz.underlying33 rfl (Pf.infoF HF.out) _ HK.out 0 _ rfl rfl rfl) rfl ⟨A, c, rfl, Got.same (HK.out.rowAt 0 rfl) HCP.out, HK.out.bel⟩
  · have hkc : (p.fd A c).cells[1]? = some (.int .i64 1) := by rw [Pf.ck, k1]
    have HLE := Lib.hid (expL_le (hs := p.hs) ((HK.out.rowAt 0 rfl).2.1) k now)
    have hcl := fun w h => rexpire_sl A p.hs.length c p.hs k now w h
    rw [show expP p k now = p.setH (expL p.hs k now) by unfold expP; rw [if_pos k1], show expPN p k now = expN p.hs k now by unfold expPN; rw [if_pos k1]]
    generalize expL p.hs k now = R at hcl HLE ⊢
    generalize expN p.hs k now = N at hcl ⊢
    go_enter Tryz.func37, Tryz.ntmps37
    go_wp2_with (first
      | (with_reducible refine box_f HK.out rfl _ rfl rfl ?_; intro b u hk; clear HK; have HK := Lib.hid hk; clear hk)
      | (with_reducible refine alloc_f HK.out f_zeroP rfl rfl ?_; intro br u hk; clear HK; have HK := Lib.hid hk; clear hk)
      | (with_reducible refine load_f1 HK.out 1 cbI _ rfl rfl rfl rfl hkc ?_)
      | (with_reducible refine load_f1 HK.out 1 cbH _ rfl rfl rfl rfl (Pf.cH HF.out) ?_)
      | (go_at_call 81; (with_reducible refine (hcl _ (HK.out.rowAt 0 rfl)).mono ?_); rintro e u ⟨A1, c1, rfl, ho, hb⟩; have HX := Lib.hid ((Fresh.own ho).mono HK.out.bel.size); have hk := HK.out.own hb ho (HLE.out); clear ho hb; clear HK; have HK := Lib.hid hk; clear hk)
      | (with_reducible refine store_f1 HK.out 1 cbH rfl rfl _ _ rfl rfl rfl rfl rfl (Fd.ltH HF.out) (Pf.toH HF.out _ _ _) ?_; intro u hk; simp only [List.set_cons_zero, List.set_cons_succ] at hk; clear HK; have HK := Lib.hid hk; clear hk)
      | (with_reducible refine load_fr HK.out 1 Tryz.underlying33 rfl (Pf.infoF (Pf.fullH HF.out R)) _ rfl rfl rfl rfl Pf.all ?_)
      | (with_reducible refine store_fr HK.out 0 (Pf.infoF (Pf.fullH HF.out R)) (Fd.one _) rfl rfl _ _ rfl rfl rfl rfl (Fd.leP zP_full (Pf.fullH HF.out R)) (Fd.setAllP zP_full (Pf.fullH HF.out R)) ?_; intro u hk; simp only [List.set_cons_zero] at hk; clear HK; have HK := Lib.hid hk; clear hk))
    exact bodyPost_ret (results_f2 rfl Tryz.underlying33 rfl (Pf.infoF (Pf.fullH HF.out R)) _ HK.out 0 _ rfl rfl rfl) rfl ⟨A1, c1, rfl, Got.of (HK.out.rowAt 0 rfl) HX.out, HK.out.bel⟩
set_option maxHeartbeats 2000000 in
theorem fexpire_any (p : Pf) (hp : p.full) (A : Option Addr) (c : Nat) (k now : Int) (w : World) (hd : Row w A p.hs.length p.hs) :
    Calls Tryz.prog 36 #[.agg (p.fd A c).cells.toArray, .int .i64 k, .int .i64 now] w fun e w' => ∃ A1 c1, e = .returned (.tuple #[.agg ((expP p k now).fd A1 c1).cells.toArray, .int .i64 (expPN p k now)]) ∧ Got w A p.hs.length w' A1 c1 (expP p k now).hs ∧ Below w.heap.size w w' := by
  have HK := Lib.hid (KeepF.start (w := w) (rows := [(A, p.hs.length, p.hs)]) (by simpa using hd))
  have HF := Lib.hid hp; clear hp
  by_cases k1 : p.k = 1
  rotate_left
  · rw [show expP p k now = p by unfold expP; rw [if_neg k1], show expPN p k now = 0 by unfold expPN; rw [if_neg k1]]
    have hkc : (p.fd A c).cells[1]? = some (.int .i64 p.k) := Pf.ck
    obtain ⟨K, hK⟩ : ∃ K, p.k = K := ⟨_, rfl⟩
    rw [hK] at k1 hkc
    clear hK
    go_enter Tryz.func36, Tryz.ntmps36
    go_wp2_with (first
      | (with_reducible refine box_f HK.out rfl _ rfl rfl ?_; intro b u hk; clear HK; have HK := Lib.hid hk; clear hk)
      | (with_reducible refine alloc_f HK.out f_zeroP rfl rfl ?_; intro br u hk; clear HK; have HK := Lib.hid hk; clear hk)
      | (with_reducible refine load_f1 HK.out 1 cbI _ rfl rfl rfl rfl hkc ?_)
      | (with_reducible refine load_fr HK.out 1 Tryz.underlying33 rfl (Pf.infoF HF.out) _ rfl rfl rfl rfl Pf.all ?_)
      | (go_at_call 79; (with_reducible refine (apart_any p HF.out A c _ (HK.out.rowAt 0 rfl)).mono ?_); rintro e u ⟨A1, c1, rfl, hr, hf, hb⟩; have HX := Lib.hid (hf.mono HK.out.bel.size); have hk := HK.out.fresh hb hr hf; clear hr hf hb; clear HK; have HK := Lib.hid hk; clear hk)
      | (with_reducible refine store_fr HK.out 0 (Pf.infoF HF.out) (Fd.one _) rfl rfl _ _ rfl rfl rfl rfl (Fd.leP zP_full HF.out) (Fd.setAllP zP_full HF.out) ?_; intro u hk; simp only [List.set_cons_zero] at hk; clear HK; have HK := Lib.hid hk; clear hk))
    exact bodyPost_ret (results_f2 rfl Tryz.underlying33 rfl (Pf.infoF HF.out) _ HK.out 0 _ rfl rfl rfl) rfl ⟨A1, c1, rfl, Got.of (HK.out.rowAt 0 rfl) HX.out, HK.out.bel⟩
  · have hkc : (p.fd A c).cells[1]? = some (.int .i64 1) := by rw [Pf.ck, k1]
    have HLE := Lib.hid (expL_le (hs := p.hs) ((HK.out.rowAt 0 rfl).2.1) k now)
    have hcl := fun w h => expire_sl A p.hs.length c p.hs k now w h
    rw [show expP p k now = p.setH (expL p.hs k now) by unfold expP; rw [if_pos k1], show expPN p k now = expN p.hs k now by unfold expPN; rw [if_pos k1]]
    generalize expL p.hs k now = R at hcl HLE ⊢
    generalize expN p.hs k now = N at hcl ⊢
    go_enter Tryz.func36, Tryz.ntmps36
    go_wp2_with (first
      | (with_reducible refine box_f HK.out rfl _ rfl rfl ?_; intro b u hk; clear HK; have HK := Lib.hid hk; clear hk)
      | (with_reducible refine alloc_f HK.out f_zeroP rfl rfl ?_; intro br u hk; clear HK; have HK := Lib.hid hk; clear hk)
      | (with_reducible refine load_f1 HK.out 1 cbI _ rfl rfl rfl rfl hkc ?_)
      | (with_reducible refine load_f1 HK.out 1 cbH _ rfl rfl rfl rfl (Pf.cH HF.out) ?_)
      | (go_at_call 80; (with_reducible refine (hcl _ (HK.out.rowAt 0 rfl)).mono ?_); rintro e u ⟨A1, c1, rfl, ho, hb⟩; have HX := Lib.hid ((Fresh.own ho).mono HK.out.bel.size); have hk := HK.out.own hb ho (HLE.out); clear ho hb; clear HK; have HK := Lib.hid hk; clear hk)
      | (with_reducible refine store_f1 HK.out 1 cbH rfl rfl _ _ rfl rfl rfl rfl rfl (Fd.ltH HF.out) (Pf.toH HF.out _ _ _) ?_; intro u hk; simp only [List.set_cons_zero, List.set_cons_succ] at hk; clear HK; have HK := Lib.hid hk; clear hk)
      | (with_reducible refine load_fr HK.out 1 Tryz.underlying33 rfl (Pf.infoF (Pf.fullH HF.out R)) _ rfl rfl rfl rfl Pf.all ?_)
      | (with_reducible refine store_fr HK.out 0 (Pf.infoF (Pf.fullH HF.out R)) (Fd.one _) rfl rfl _ _ rfl rfl rfl rfl (Fd.leP zP_full (Pf.fullH HF.out R)) (Fd.setAllP zP_full (Pf.fullH HF.out R)) ?_; intro u hk; simp only [List.set_cons_zero] at hk; clear HK; have HK := Lib.hid hk; clear hk))
    exact bodyPost_ret (results_f2 rfl Tryz.underlying33 rfl (Pf.infoF (Pf.fullH HF.out R)) _ HK.out 0 _ rfl rfl rfl) rfl ⟨A1, c1, rfl, Got.of (HK.out.rowAt 0 rfl) HX.out, HK.out.bel⟩
end Go.Proofs.YtbaccghnneidgaaGreat
