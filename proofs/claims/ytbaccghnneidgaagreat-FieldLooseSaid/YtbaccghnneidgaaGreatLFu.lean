/- Contract of the statements' Step: joining, steps that are none, and any step. -/
import Derived.Test.YtbaccghnneidgaaGreatLFt
namespace Go.Proofs.YtbaccghnneidgaaGreat
set_option maxRecDepth 100000
open Go.ChangeShapes Go.WideShapes Go.ChangeAt Go.RowKit

section
variable {i : Int} {t : Nat} {qs : List Q} {w u : World} {l : List (Nat × TypeId × List Value)} {bs : Nat}
set_option maxHeartbeats 4000000 in
theorem step_7n (hq : qs.length = 16) (hI : ∀ x ∈ qs, Iv i t x.1) (j : Nat) (hj : j < 16) (K N M : Int) (hK : K < 0 ∨ 15 < K) (n : Nat) (hn : l[n]? = some (bs, 61, fcs qs)) (hk : KeepF w l (rws qs) u) :
    Calls Tryz.prog 39 #[.pointer (some ⟨bs, 0, none⟩), .agg (vals (Ho.l ⟨7, (j : Int), K, N, M⟩)).toArray] u fun e u' => ∃ E qs', e = .returned (.int .i64 E) ∧ qs'.length = 16 ∧ (∀ x ∈ qs', Iv i (t + 1) x.1) ∧ KeepF w (l.set n (bs, 61, fcs qs')) (rws qs') u' := by
  obtain ⟨px, Ax, cx, hx⟩ : ∃ (px : Pf) (Ax : Option Addr) (cx : Nat), qs[j]? = some (px, Ax, cx) := ⟨_, _, _, List.getElem?_eq_getElem (by omega)⟩
  have hIx := hI _ (List.mem_of_getElem? hx)
  have HQF := Lib.hid (show ∀ x ∈ qs, x.1.full from fun x hx => (hI x hx).full)
  have HXJ := Lib.hid hx
  have HX := Lib.hid (show px.full from hIx.full)
  have HN := Lib.hid hn
  have HJL := Lib.hid (show j < qs.length by omega)
  have HII := Lib.hid hI
  have HQL := Lib.hid hq
  have HK := Lib.hid hk
  have i1 : (0 : Int) ≤ (j : Int) := by omega
  have i2 : (j : Int) < 16 := by omega
  have n1 : decide ((j : Int) < 0) = false := by rw [decide_eq_false_iff_not]; omega
  have n2 : decide ((15 : Int) < (j : Int)) = false := by rw [decide_eq_false_iff_not]; omega
  have c0 : (vals (Ho.l ⟨7, (j : Int), K, N, M⟩))[0]? = some (.int .i64 7) := rfl
  have c1 : (vals (Ho.l ⟨7, (j : Int), K, N, M⟩))[1]? = some (.int .i64 (j : Int)) := rfl
  have c2 : (vals (Ho.l ⟨7, (j : Int), K, N, M⟩))[2]? = some (.int .i64 K) := rfl
  have c3 : (vals (Ho.l ⟨7, (j : Int), K, N, M⟩))[3]? = some (.int .i64 N) := rfl
  have c4 : (vals (Ho.l ⟨7, (j : Int), K, N, M⟩))[4]? = some (.int .i64 M) := rfl
  clear hx hIx hI hq hn hk
  by_cases k0 : 0 ≤ K
  · have k1 : decide (0 ≤ K) = true := by simpa using k0
    have k2 : decide (K ≤ 15) = false := by rw [decide_eq_false_iff_not]; omega
    go_enter Tryz.func39, Tryz.ntmps39
    go_wp2_with (first
      | (with_reducible refine box_f (cs := vals (Ho.l ⟨7, (j : Int), K, N, M⟩)) HK.out rfl _ rfl rfl ?_; intro b3 u hk; clear HK; have HK := Lib.hid hk; clear hk)
      | (with_reducible refine load_f1 HK.out 0 cbI _ rfl rfl rfl rfl c0 ?_)
      | (with_reducible refine load_f1 HK.out 0 cbI _ rfl rfl rfl rfl c1 ?_)
      | (with_reducible refine load_f1 HK.out 0 cbI _ rfl rfl rfl rfl c2 ?_)
      | (with_reducible refine load_f1 HK.out 0 cbI _ rfl rfl rfl rfl c3 ?_)
      | (with_reducible refine load_f1 HK.out 0 cbI _ rfl rfl rfl rfl c4 ?_))
    refine Draws.start (S := fun u => KeepF w ((b3, 63, vals (Ho.l ⟨7, (j : Int), K, N, M⟩)) :: l) (rws qs) u) (n := 7) 9 rfl (by kernel_rfl) ?_
    have hk := HK.out.drew
    clear HK; have HK := Lib.hid hk; clear hk
    have HS := Lib.hid (show (fun u => KeepF w ((b3, 63, vals (Ho.l ⟨7, (j : Int), K, N, M⟩)) :: l) (rws qs) u) _ from HK.out)
    refine Draws.take 0 (v := ?v81) HS.out rfl (by kernel_rfl) (fun _ _ _ h => h) (Or.inl ⟨rfl, ?h81⟩) ?r81
    case h81 => intro w' hw'; go_simp; (try with_reducible rfl)
    (try simp only [Act.put, List.setIfInBounds_toArray, List.set_cons_zero, List.set_cons_succ])
    refine Draws.take 1 (v := ?v82) HS.out rfl (by kernel_rfl) (fun _ _ _ h => h) (Or.inl ⟨rfl, ?h82⟩) ?r82
    case h82 => intro w' hw'; go_simp; (try with_reducible rfl)
    (try simp only [Act.put, List.setIfInBounds_toArray, List.set_cons_zero, List.set_cons_succ])
    refine Draws.take 2 HS.out rfl (by kernel_rfl) (fun _ _ _ h => h) (yield_c cbI (fun _ h => h.cellAt 0 rfl c1) _ rfl rfl rfl) ?_
    (try simp only [Act.put, List.setIfInBounds_toArray, List.set_cons_zero, List.set_cons_succ])
    refine Draws.take 3 (v := ?v83) HS.out rfl (by kernel_rfl) (fun _ _ _ h => h) (Or.inl ⟨rfl, ?h83⟩) ?r83
    case h83 => intro w' hw'; go_simp; (try with_reducible rfl)
    (try simp only [Act.put, List.setIfInBounds_toArray, List.set_cons_zero, List.set_cons_succ])
    refine Draws.take 4 (v := ?v84) HS.out rfl (by kernel_rfl) (fun _ _ _ h => h) (Or.inl ⟨rfl, ?h84⟩) ?r84
    case h84 => intro w' hw'; go_simp; (try with_reducible rfl)
    (try simp only [Act.put, List.setIfInBounds_toArray, List.set_cons_zero, List.set_cons_succ])
    refine Draws.take 5 HS.out rfl (by kernel_rfl) (fun _ _ _ h => h) (yield_rng Tryz.underlying33 rfl (Pf.infoF HX.out) (fun _ h => h.rgQ (n + 1) HN.out HQF.out HXJ.out) _ rfl rfl rfl) ?_
    (try simp only [Act.put, List.setIfInBounds_toArray, List.set_cons_zero, List.set_cons_succ])
    refine Draws.does 6 rfl (by kernel_rfl) rfl (fun K hK => ?_)
    refine wp_alloc_f HK.out f_zeroP rfl ?_
    intro b5 u hk; clear HK; have HK := Lib.hid hk; clear hk
    refine hK.out _ _ (fun _ => HK.out.tail) ?_
    clear hK K
    have hs : (fun u => KeepF w ((b3, 63, vals (Ho.l ⟨7, (j : Int), K, N, M⟩)) :: l) (rws qs) u) u := HK.out.tail
    clear HS
    have HS := Lib.hid hs; clear hs
    (try simp only [Act.put, List.setIfInBounds_toArray, List.set_cons_zero, List.set_cons_succ])
    refine Draws.does 7 rfl (by kernel_rfl) rfl (fun K hK => ?_)
    refine wp_store_fr HK.out 0 (Pf.infoF HX.out) (Fd.one _) rfl _ _ rfl rfl rfl rfl (Fd.leP zP_full HX.out) (Fd.setAllP zP_full HX.out) ?_
    intro u hk he; clear he; simp only [List.set_cons_zero, List.set_cons_succ] at hk; clear HK; have HK := Lib.hid hk; clear hk
    refine hK.out _ _ (fun h => absurd h (by decide)) ?_
    clear hK K
    (try simp only [Act.put, List.setIfInBounds_toArray, List.set_cons_zero, List.set_cons_succ])
    refine Draws.does 8 rfl (by kernel_rfl) rfl (fun K hK => ?_)
    go_simp
    refine hK.out _ _ (fun h => absurd h (by decide)) ?_
    clear hK K
    (try simp only [Act.put, List.setIfInBounds_toArray, List.set_cons_zero, List.set_cons_succ])
    refine Draws.done (by kernel_rfl) ?_
    clear HS
    go_wp2_with (first
      | (with_reducible refine load_f1 HK.out 1 cbI _ rfl rfl rfl rfl c0 ?_)
      | (with_reducible refine load_f1 HK.out 1 cbI _ rfl rfl rfl rfl c1 ?_)
      | (with_reducible refine load_f1 HK.out 1 cbI _ rfl rfl rfl rfl c2 ?_)
      | (with_reducible refine load_f1 HK.out 1 cbI _ rfl rfl rfl rfl c3 ?_)
      | (with_reducible refine load_f1 HK.out 1 cbI _ rfl rfl rfl rfl c4 ?_))
    go_ret
    exact ⟨_, qs, rfl, HQL.out, fun x hx => (HII.out x hx).later, by rw [set_same HN.out]; exact HK.out.tail.tail⟩
  · have k1 : decide (0 ≤ K) = false := by simpa using k0
    go_enter Tryz.func39, Tryz.ntmps39
    go_wp2_with (first
      | (with_reducible refine box_f (cs := vals (Ho.l ⟨7, (j : Int), K, N, M⟩)) HK.out rfl _ rfl rfl ?_; intro b3 u hk; clear HK; have HK := Lib.hid hk; clear hk)
      | (with_reducible refine load_f1 HK.out 0 cbI _ rfl rfl rfl rfl c0 ?_)
      | (with_reducible refine load_f1 HK.out 0 cbI _ rfl rfl rfl rfl c1 ?_)
      | (with_reducible refine load_f1 HK.out 0 cbI _ rfl rfl rfl rfl c2 ?_)
      | (with_reducible refine load_f1 HK.out 0 cbI _ rfl rfl rfl rfl c3 ?_)
      | (with_reducible refine load_f1 HK.out 0 cbI _ rfl rfl rfl rfl c4 ?_))
    refine Draws.start (S := fun u => KeepF w ((b3, 63, vals (Ho.l ⟨7, (j : Int), K, N, M⟩)) :: l) (rws qs) u) (n := 7) 9 rfl (by kernel_rfl) ?_
    have hk := HK.out.drew
    clear HK; have HK := Lib.hid hk; clear hk
    have HS := Lib.hid (show (fun u => KeepF w ((b3, 63, vals (Ho.l ⟨7, (j : Int), K, N, M⟩)) :: l) (rws qs) u) _ from HK.out)
    refine Draws.take 0 (v := ?v85) HS.out rfl (by kernel_rfl) (fun _ _ _ h => h) (Or.inl ⟨rfl, ?h85⟩) ?r85
    case h85 => intro w' hw'; go_simp; (try with_reducible rfl)
    (try simp only [Act.put, List.setIfInBounds_toArray, List.set_cons_zero, List.set_cons_succ])
    refine Draws.take 1 (v := ?v86) HS.out rfl (by kernel_rfl) (fun _ _ _ h => h) (Or.inl ⟨rfl, ?h86⟩) ?r86
    case h86 => intro w' hw'; go_simp; (try with_reducible rfl)
    (try simp only [Act.put, List.setIfInBounds_toArray, List.set_cons_zero, List.set_cons_succ])
    refine Draws.take 2 HS.out rfl (by kernel_rfl) (fun _ _ _ h => h) (yield_c cbI (fun _ h => h.cellAt 0 rfl c1) _ rfl rfl rfl) ?_
    (try simp only [Act.put, List.setIfInBounds_toArray, List.set_cons_zero, List.set_cons_succ])
    refine Draws.take 3 (v := ?v87) HS.out rfl (by kernel_rfl) (fun _ _ _ h => h) (Or.inl ⟨rfl, ?h87⟩) ?r87
    case h87 => intro w' hw'; go_simp; (try with_reducible rfl)
    (try simp only [Act.put, List.setIfInBounds_toArray, List.set_cons_zero, List.set_cons_succ])
    refine Draws.take 4 (v := ?v88) HS.out rfl (by kernel_rfl) (fun _ _ _ h => h) (Or.inl ⟨rfl, ?h88⟩) ?r88
    case h88 => intro w' hw'; go_simp; (try with_reducible rfl)
    (try simp only [Act.put, List.setIfInBounds_toArray, List.set_cons_zero, List.set_cons_succ])
    refine Draws.take 5 HS.out rfl (by kernel_rfl) (fun _ _ _ h => h) (yield_rng Tryz.underlying33 rfl (Pf.infoF HX.out) (fun _ h => h.rgQ (n + 1) HN.out HQF.out HXJ.out) _ rfl rfl rfl) ?_
    (try simp only [Act.put, List.setIfInBounds_toArray, List.set_cons_zero, List.set_cons_succ])
    refine Draws.does 6 rfl (by kernel_rfl) rfl (fun K hK => ?_)
    refine wp_alloc_f HK.out f_zeroP rfl ?_
    intro b5 u hk; clear HK; have HK := Lib.hid hk; clear hk
    refine hK.out _ _ (fun _ => HK.out.tail) ?_
    clear hK K
    have hs : (fun u => KeepF w ((b3, 63, vals (Ho.l ⟨7, (j : Int), K, N, M⟩)) :: l) (rws qs) u) u := HK.out.tail
    clear HS
    have HS := Lib.hid hs; clear hs
    (try simp only [Act.put, List.setIfInBounds_toArray, List.set_cons_zero, List.set_cons_succ])
    refine Draws.does 7 rfl (by kernel_rfl) rfl (fun K hK => ?_)
    refine wp_store_fr HK.out 0 (Pf.infoF HX.out) (Fd.one _) rfl _ _ rfl rfl rfl rfl (Fd.leP zP_full HX.out) (Fd.setAllP zP_full HX.out) ?_
    intro u hk he; clear he; simp only [List.set_cons_zero, List.set_cons_succ] at hk; clear HK; have HK := Lib.hid hk; clear hk
    refine hK.out _ _ (fun h => absurd h (by decide)) ?_
    clear hK K
    (try simp only [Act.put, List.setIfInBounds_toArray, List.set_cons_zero, List.set_cons_succ])
    refine Draws.does 8 rfl (by kernel_rfl) rfl (fun K hK => ?_)
    go_simp
    refine hK.out _ _ (fun h => absurd h (by decide)) ?_
    clear hK K
    (try simp only [Act.put, List.setIfInBounds_toArray, List.set_cons_zero, List.set_cons_succ])
    refine Draws.done (by kernel_rfl) ?_
    clear HS
    go_wp2_with (first
      | (with_reducible refine load_f1 HK.out 1 cbI _ rfl rfl rfl rfl c0 ?_)
      | (with_reducible refine load_f1 HK.out 1 cbI _ rfl rfl rfl rfl c1 ?_)
      | (with_reducible refine load_f1 HK.out 1 cbI _ rfl rfl rfl rfl c2 ?_)
      | (with_reducible refine load_f1 HK.out 1 cbI _ rfl rfl rfl rfl c3 ?_)
      | (with_reducible refine load_f1 HK.out 1 cbI _ rfl rfl rfl rfl c4 ?_))
    go_ret
    exact ⟨_, qs, rfl, HQL.out, fun x hx => (HII.out x hx).later, by rw [set_same HN.out]; exact HK.out.tail.tail⟩
set_option maxHeartbeats 8000000 in
theorem step_7 (hq : qs.length = 16) (hI : ∀ x ∈ qs, Iv i t x.1) (j : Nat) (hj : j < 16) (m : Nat) (hm : m < 16) (N M : Int) (n : Nat) (hn : l[n]? = some (bs, 61, fcs qs)) (hk : KeepF w l (rws qs) u) :
    Calls Tryz.prog 39 #[.pointer (some ⟨bs, 0, none⟩), .agg (vals (Ho.l ⟨7, (j : Int), (m : Int), N, M⟩)).toArray] u fun e u' => ∃ E qs', e = .returned (.int .i64 E) ∧ qs'.length = 16 ∧ (∀ x ∈ qs', Iv i (t + 1) x.1) ∧ KeepF w (l.set n (bs, 61, fcs qs')) (rws qs') u' := by
  obtain ⟨px, Ax, cx, hx⟩ : ∃ (px : Pf) (Ax : Option Addr) (cx : Nat), qs[j]? = some (px, Ax, cx) := ⟨_, _, _, List.getElem?_eq_getElem (by omega)⟩
  have hIx := hI _ (List.mem_of_getElem? hx)
  have HQF := Lib.hid (show ∀ x ∈ qs, x.1.full from fun x hx => (hI x hx).full)
  have HXJ := Lib.hid hx
  have HX := Lib.hid (show px.full from hIx.full)
  have HN := Lib.hid hn
  have HJL := Lib.hid (show j < qs.length by omega)
  have HII := Lib.hid hI
  have HQL := Lib.hid hq
  have HK := Lib.hid hk
  have i1 : (0 : Int) ≤ (j : Int) := by omega
  have i2 : (j : Int) < 16 := by omega
  have n1 : decide ((j : Int) < 0) = false := by rw [decide_eq_false_iff_not]; omega
  have n2 : decide ((15 : Int) < (j : Int)) = false := by rw [decide_eq_false_iff_not]; omega
  have c0 : (vals (Ho.l ⟨7, (j : Int), (m : Int), N, M⟩))[0]? = some (.int .i64 7) := rfl
  have c1 : (vals (Ho.l ⟨7, (j : Int), (m : Int), N, M⟩))[1]? = some (.int .i64 (j : Int)) := rfl
  have c2 : (vals (Ho.l ⟨7, (j : Int), (m : Int), N, M⟩))[2]? = some (.int .i64 (m : Int)) := rfl
  have c3 : (vals (Ho.l ⟨7, (j : Int), (m : Int), N, M⟩))[3]? = some (.int .i64 N) := rfl
  have c4 : (vals (Ho.l ⟨7, (j : Int), (m : Int), N, M⟩))[4]? = some (.int .i64 M) := rfl
  obtain ⟨py, Ay, cy, hy⟩ : ∃ (py : Pf) (Ay : Option Addr) (cy : Nat), qs[m]? = some (py, Ay, cy) := ⟨_, _, _, List.getElem?_eq_getElem (by omega)⟩
  have hIy := hI _ (List.mem_of_getElem? hy)
  have HYM := Lib.hid hy
  have HY := Lib.hid (show py.full from hIy.full)
  have m1 : decide (0 ≤ (m : Int)) = true := by rw [decide_eq_true_eq]; omega
  have m2 : decide ((m : Int) ≤ 15) = true := by rw [decide_eq_true_eq]; omega
  have i3 : (0 : Int) ≤ (m : Int) := by omega
  have i4 : (m : Int) < 16 := by omega
  have hop := fun w h1 h2 => fjoin_any px py HX.out HY.out (hIy.nm.trans hIx.nm.symm) (hIy.k.trans hIx.k.symm) (hIy.e.trans hIx.e.symm) Ax Ay cx cy w h1 h2
  have HP := Lib.hid (joinP_full (q := py) HX.out)
  have hiv := show joinPE px py = 0 → Iv i (t + 1) (joinP px py) from fun h => hIx.join hIy h
  generalize joinP px py = P' at hop HP hiv
  generalize joinPE px py = E' at hop hiv
  clear hx hy hIx hIy hI hq hn hk
  by_cases hE : E' = 0
  · have HIV := Lib.hid (hiv hE)
    subst hE
    clear hiv
    go_enter Tryz.func39, Tryz.ntmps39
    go_wp2_with (first
      | (with_reducible refine box_f (cs := vals (Ho.l ⟨7, (j : Int), (m : Int), N, M⟩)) HK.out rfl _ rfl rfl ?_; intro b3 u hk; clear HK; have HK := Lib.hid hk; clear hk)
      | (with_reducible refine load_f1 HK.out 0 cbI _ rfl rfl rfl rfl c0 ?_)
      | (with_reducible refine load_f1 HK.out 0 cbI _ rfl rfl rfl rfl c1 ?_)
      | (with_reducible refine load_f1 HK.out 0 cbI _ rfl rfl rfl rfl c2 ?_)
      | (with_reducible refine load_f1 HK.out 0 cbI _ rfl rfl rfl rfl c3 ?_)
      | (with_reducible refine load_f1 HK.out 0 cbI _ rfl rfl rfl rfl c4 ?_))
    refine Draws.start (S := fun u => KeepF w ((b3, 63, vals (Ho.l ⟨7, (j : Int), (m : Int), N, M⟩)) :: l) (rws qs) u) (n := 7) 9 rfl (by kernel_rfl) ?_
    have hk := HK.out.drew
    clear HK; have HK := Lib.hid hk; clear hk
    have HS := Lib.hid (show (fun u => KeepF w ((b3, 63, vals (Ho.l ⟨7, (j : Int), (m : Int), N, M⟩)) :: l) (rws qs) u) _ from HK.out)
    refine Draws.take 0 (v := ?v89) HS.out rfl (by kernel_rfl) (fun _ _ _ h => h) (Or.inl ⟨rfl, ?h89⟩) ?r89
    case h89 => intro w' hw'; go_simp; (try with_reducible rfl)
    (try simp only [Act.put, List.setIfInBounds_toArray, List.set_cons_zero, List.set_cons_succ])
    refine Draws.take 1 (v := ?v90) HS.out rfl (by kernel_rfl) (fun _ _ _ h => h) (Or.inl ⟨rfl, ?h90⟩) ?r90
    case h90 => intro w' hw'; go_simp; (try with_reducible rfl)
    (try simp only [Act.put, List.setIfInBounds_toArray, List.set_cons_zero, List.set_cons_succ])
    refine Draws.take 2 HS.out rfl (by kernel_rfl) (fun _ _ _ h => h) (yield_c cbI (fun _ h => h.cellAt 0 rfl c1) _ rfl rfl rfl) ?_
    (try simp only [Act.put, List.setIfInBounds_toArray, List.set_cons_zero, List.set_cons_succ])
    refine Draws.take 3 (v := ?v91) HS.out rfl (by kernel_rfl) (fun _ _ _ h => h) (Or.inl ⟨rfl, ?h91⟩) ?r91
    case h91 => intro w' hw'; go_simp; (try with_reducible rfl)
    (try simp only [Act.put, List.setIfInBounds_toArray, List.set_cons_zero, List.set_cons_succ])
    refine Draws.take 4 (v := ?v92) HS.out rfl (by kernel_rfl) (fun _ _ _ h => h) (Or.inl ⟨rfl, ?h92⟩) ?r92
    case h92 => intro w' hw'; go_simp; (try with_reducible rfl)
    (try simp only [Act.put, List.setIfInBounds_toArray, List.set_cons_zero, List.set_cons_succ])
    refine Draws.take 5 HS.out rfl (by kernel_rfl) (fun _ _ _ h => h) (yield_rng Tryz.underlying33 rfl (Pf.infoF HX.out) (fun _ h => h.rgQ (n + 1) HN.out HQF.out HXJ.out) _ rfl rfl rfl) ?_
    (try simp only [Act.put, List.setIfInBounds_toArray, List.set_cons_zero, List.set_cons_succ])
    refine Draws.does 6 rfl (by kernel_rfl) rfl (fun K hK => ?_)
    refine wp_alloc_f HK.out f_zeroP rfl ?_
    intro b5 u hk; clear HK; have HK := Lib.hid hk; clear hk
    refine hK.out _ _ (fun _ => HK.out.tail) ?_
    clear hK K
    have hs : (fun u => KeepF w ((b3, 63, vals (Ho.l ⟨7, (j : Int), (m : Int), N, M⟩)) :: l) (rws qs) u) u := HK.out.tail
    clear HS
    have HS := Lib.hid hs; clear hs
    (try simp only [Act.put, List.setIfInBounds_toArray, List.set_cons_zero, List.set_cons_succ])
    refine Draws.does 7 rfl (by kernel_rfl) rfl (fun K hK => ?_)
    refine wp_store_fr HK.out 0 (Pf.infoF HX.out) (Fd.one _) rfl _ _ rfl rfl rfl rfl (Fd.leP zP_full HX.out) (Fd.setAllP zP_full HX.out) ?_
    intro u hk he; clear he; simp only [List.set_cons_zero, List.set_cons_succ] at hk; clear HK; have HK := Lib.hid hk; clear hk
    refine hK.out _ _ (fun h => absurd h (by decide)) ?_
    clear hK K
    (try simp only [Act.put, List.setIfInBounds_toArray, List.set_cons_zero, List.set_cons_succ])
    refine Draws.does 8 rfl (by kernel_rfl) rfl (fun K hK => ?_)
    go_simp
    refine hK.out _ _ (fun h => absurd h (by decide)) ?_
    clear hK K
    (try simp only [Act.put, List.setIfInBounds_toArray, List.set_cons_zero, List.set_cons_succ])
    refine Draws.done (by kernel_rfl) ?_
    clear HS
    go_wp2_with (first
      | (with_reducible refine load_f1 HK.out 1 cbI _ rfl rfl rfl rfl c0 ?_)
      | (with_reducible refine load_f1 HK.out 1 cbI _ rfl rfl rfl rfl c1 ?_)
      | (with_reducible refine load_f1 HK.out 1 cbI _ rfl rfl rfl rfl c2 ?_)
      | (with_reducible refine load_f1 HK.out 1 cbI _ rfl rfl rfl rfl c3 ?_)
      | (with_reducible refine load_f1 HK.out 1 cbI _ rfl rfl rfl rfl c4 ?_))
    refine Draws.start (S := fun u : World => u.cell? ⟨b3, 2, none⟩ = some (.int .i64 (m : Int)) ∧ u.rangeAt bs (m * 587) (py.fd Ay cy).cells) (n := 12) 13 rfl (by kernel_rfl) ?_
    have hk := HK.out.drew
    clear HK; have HK := Lib.hid hk; clear hk
    have HS := Lib.hid (show (fun u : World => u.cell? ⟨b3, 2, none⟩ = some (.int .i64 (m : Int)) ∧ u.rangeAt bs (m * 587) (py.fd Ay cy).cells) _ from ⟨HK.out.cellAt 1 rfl c2, HK.out.rgQ (n + 2) HN.out HQF.out HYM.out⟩)
    refine Draws.take 1 (v := ?v93) HS.out rfl (by kernel_rfl) (fun _ _ _ h => h) (Or.inl ⟨rfl, ?h93⟩) ?r93
    case h93 => intro w' hw'; go_simp; (try with_reducible rfl)
    (try simp only [Act.put, List.setIfInBounds_toArray, List.set_cons_zero, List.set_cons_succ])
    refine Draws.take 2 (v := ?v94) HS.out rfl (by kernel_rfl) (fun _ _ _ h => h) (Or.inl ⟨rfl, ?h94⟩) ?r94
    case h94 => intro w' hw'; go_simp; (try with_reducible rfl)
    (try simp only [Act.put, List.setIfInBounds_toArray, List.set_cons_zero, List.set_cons_succ])
    refine Draws.take 3 HS.out rfl (by kernel_rfl) (fun _ _ _ h => h) (yield_c cbI (fun _ h => h.1) _ rfl rfl rfl) ?_
    (try simp only [Act.put, List.setIfInBounds_toArray, List.set_cons_zero, List.set_cons_succ])
    refine Draws.take 4 (v := ?v95) HS.out rfl (by kernel_rfl) (fun _ _ _ h => h) (Or.inl ⟨rfl, ?h95⟩) ?r95
    case h95 => intro w' hw'; go_simp; (try with_reducible rfl)
    (try simp only [Act.put, List.setIfInBounds_toArray, List.set_cons_zero, List.set_cons_succ])
    refine Draws.take 5 (v := ?v96) HS.out rfl (by kernel_rfl) (fun _ _ _ h => h) (Or.inl ⟨rfl, ?h96⟩) ?r96
    case h96 => intro w' hw'; go_simp; (try with_reducible rfl)
    (try simp only [Act.put, List.setIfInBounds_toArray, List.set_cons_zero, List.set_cons_succ])
    refine Draws.take 6 HS.out rfl (by kernel_rfl) (fun _ _ _ h => h) (yield_rng Tryz.underlying33 rfl (Pf.infoF HY.out) (fun _ h => h.2) _ rfl rfl rfl) ?_
    (try simp only [Act.put, List.setIfInBounds_toArray, List.set_cons_zero, List.set_cons_succ])
    refine Draws.does 0 rfl (by kernel_rfl) rfl (fun K hK => ?_)
    refine wp_load_fr HK.out 0 Tryz.underlying33 rfl (Pf.infoF HX.out) _ rfl rfl rfl Pf.all ?_
    refine hK.out _ _ (fun _ => HS.out) ?_
    clear hK K
    (try simp only [Act.put, List.setIfInBounds_toArray, List.set_cons_zero, List.set_cons_succ])
    refine Draws.does 7 rfl (by kernel_rfl) rfl (fun K hK => ?_)
    go_simp
    go_at_call 82
    refine (hop _ (HK.out.rowQ HXJ.out) (HK.out.rowQ HYM.out)).mono ?_
    rintro e u ⟨A1, c1', rfl, hg, hb⟩
    (try dsimp only)
    have hk := HK.out.got hb j (rws_at HXJ.out) hg; clear hg hb; clear HK; have HK := Lib.hid hk; clear hk
    refine hK.out _ _ (fun _ => ⟨HK.out.cellAt 1 rfl c2, HK.out.rgQ (n + 2) HN.out HQF.out HYM.out⟩) ?_
    clear hK K
    have hs : (fun u : World => u.cell? ⟨b3, 2, none⟩ = some (.int .i64 (m : Int)) ∧ u.rangeAt bs (m * 587) (py.fd Ay cy).cells) u := ⟨HK.out.cellAt 1 rfl c2, HK.out.rgQ (n + 2) HN.out HQF.out HYM.out⟩
    clear HS
    have HS := Lib.hid hs; clear hs
    (try simp only [Act.put, List.setIfInBounds_toArray, List.set_cons_zero, List.set_cons_succ])
    refine Draws.take 8 (v := ?v97) HS.out rfl (by kernel_rfl) (fun _ _ _ h => h) (Or.inl ⟨rfl, ?h97⟩) ?r97
    case h97 => intro w' hw'; go_simp; (try with_reducible rfl)
    (try simp only [Act.put, List.setIfInBounds_toArray, List.set_cons_zero, List.set_cons_succ])
    refine Draws.take 9 (v := ?v98) HS.out rfl (by kernel_rfl) (fun _ _ _ h => h) (Or.inl ⟨rfl, ?h98⟩) ?r98
    case h98 => intro w' hw'; go_simp; (try with_reducible rfl)
    (try simp only [Act.put, List.setIfInBounds_toArray, List.set_cons_zero, List.set_cons_succ])
    refine Draws.take 10 (v := ?v99) HS.out rfl (by kernel_rfl) (fun _ _ _ h => h) (Or.inl ⟨rfl, ?h99⟩) ?r99
    case h99 => intro w' hw'; go_simp; (try with_reducible rfl)
    (try simp only [Act.put, List.setIfInBounds_toArray, List.set_cons_zero, List.set_cons_succ])
    refine Draws.does 11 rfl (by kernel_rfl) rfl (fun K hK => ?_)
    refine wp_store_fr HK.out 0 (Pf.infoF HP.out) (Fd.one _) rfl _ _ rfl rfl rfl rfl (Fd.leP HX.out HP.out) (Fd.setAllP HX.out HP.out) ?_
    intro u hk he; clear he; simp only [List.set_cons_zero, List.set_cons_succ] at hk; clear HK; have HK := Lib.hid hk; clear hk
    refine hK.out _ _ (fun _ => ⟨HK.out.cellAt 1 rfl c2, HK.out.rgQ (n + 2) HN.out HQF.out HYM.out⟩) ?_
    clear hK K
    have hs : (fun u : World => u.cell? ⟨b3, 2, none⟩ = some (.int .i64 (m : Int)) ∧ u.rangeAt bs (m * 587) (py.fd Ay cy).cells) u := ⟨HK.out.cellAt 1 rfl c2, HK.out.rgQ (n + 2) HN.out HQF.out HYM.out⟩
    clear HS
    have HS := Lib.hid hs; clear hs
    (try simp only [Act.put, List.setIfInBounds_toArray, List.set_cons_zero, List.set_cons_succ])
    refine Draws.does 12 rfl (by kernel_rfl) rfl (fun K hK => ?_)
    go_simp
    refine hK.out _ _ (fun h => absurd h (by decide)) ?_
    clear hK K
    (try simp only [Act.put, List.setIfInBounds_toArray, List.set_cons_zero, List.set_cons_succ])
    refine Draws.done (by kernel_rfl) ?_
    clear HS
    go_wp2
    refine Draws.start (S := fun u : World => u.cell? ⟨b3, 1, none⟩ = some (.int .i64 (j : Int)) ∧ u.rangeAt b5 0 (P'.fd A1 c1').cells) (n := 7) 7 rfl (by kernel_rfl) ?_
    have hk := HK.out.drew
    clear HK; have HK := Lib.hid hk; clear hk
    have HS := Lib.hid (show (fun u : World => u.cell? ⟨b3, 1, none⟩ = some (.int .i64 (j : Int)) ∧ u.rangeAt b5 0 (P'.fd A1 c1').cells) _ from ⟨HK.out.cellAt 1 rfl c1, Pf.rgA HK.out 0 rfl⟩)
    refine Draws.take 0 (v := ?v100) HS.out rfl (by kernel_rfl) (fun _ _ _ h => h) (Or.inl ⟨rfl, ?h100⟩) ?r100
    case h100 => intro w' hw'; go_simp; (try with_reducible rfl)
    (try simp only [Act.put, List.setIfInBounds_toArray, List.set_cons_zero, List.set_cons_succ])
    refine Draws.take 1 (v := ?v101) HS.out rfl (by kernel_rfl) (fun _ _ _ h => h) (Or.inl ⟨rfl, ?h101⟩) ?r101
    case h101 => intro w' hw'; go_simp; (try with_reducible rfl)
    (try simp only [Act.put, List.setIfInBounds_toArray, List.set_cons_zero, List.set_cons_succ])
    refine Draws.take 2 HS.out rfl (by kernel_rfl) (fun _ _ _ h => h) (yield_c cbI (fun _ h => h.1) _ rfl rfl rfl) ?_
    (try simp only [Act.put, List.setIfInBounds_toArray, List.set_cons_zero, List.set_cons_succ])
    refine Draws.take 3 HS.out rfl (by kernel_rfl) (fun _ _ _ h => h) (yield_rng Tryz.underlying33 rfl (Pf.infoF HP.out) (fun _ h => h.2) _ rfl rfl rfl) ?_
    (try simp only [Act.put, List.setIfInBounds_toArray, List.set_cons_zero, List.set_cons_succ])
    refine Draws.take 4 (v := ?v102) HS.out rfl (by kernel_rfl) (fun _ _ _ h => h) (Or.inl ⟨rfl, ?h102⟩) ?r102
    case h102 => intro w' hw'; go_simp; (try with_reducible rfl)
    (try simp only [Act.put, List.setIfInBounds_toArray, List.set_cons_zero, List.set_cons_succ])
    refine Draws.take 5 (v := ?v103) HS.out rfl (by kernel_rfl) (fun _ _ _ h => h) (Or.inl ⟨rfl, ?h103⟩) ?r103
    case h103 => intro w' hw'; go_simp; (try with_reducible rfl)
    (try simp only [Act.put, List.setIfInBounds_toArray, List.set_cons_zero, List.set_cons_succ])
    refine Draws.does 6 rfl (by kernel_rfl) rfl (fun K hK => ?_)
    refine wp_store_fr HK.out (n + 2) (Pf.infoF HP.out) (Fd.one _) rfl _ _ rfl HN.out rfl rfl (fcs_le (y := (P', A1, c1')) HQF.out HJL.out HP.out) (fcs_set (y := (P', A1, c1')) HQF.out HJL.out HP.out) ?_
    intro u hk he; clear he; simp only [List.set_cons_zero, List.set_cons_succ] at hk; clear HK; have HK := Lib.hid hk; clear hk
    refine hK.out _ _ (fun _ => ⟨HK.out.cellAt 1 rfl c1, Pf.rgA HK.out 0 rfl⟩) ?_
    clear hK K
    have hs : (fun u : World => u.cell? ⟨b3, 1, none⟩ = some (.int .i64 (j : Int)) ∧ u.rangeAt b5 0 (P'.fd A1 c1').cells) u := ⟨HK.out.cellAt 1 rfl c1, Pf.rgA HK.out 0 rfl⟩
    clear HS
    have HS := Lib.hid hs; clear hs
    (try simp only [Act.put, List.setIfInBounds_toArray, List.set_cons_zero, List.set_cons_succ])
    refine Draws.done (by kernel_rfl) ?_
    clear HS
    go_wp2
    go_ret
    exact ⟨_, _, rfl, by rw [List.length_set]; exact HQL.out, iv_set (y := (P', A1, c1')) HII.out HIV.out, HK.out.tail.tail.setQ⟩
  · have d0 : (E' == 0) = false := by simpa using hE
    clear hiv
    go_enter Tryz.func39, Tryz.ntmps39
    go_wp2_with (first
      | (with_reducible refine box_f (cs := vals (Ho.l ⟨7, (j : Int), (m : Int), N, M⟩)) HK.out rfl _ rfl rfl ?_; intro b3 u hk; clear HK; have HK := Lib.hid hk; clear hk)
      | (with_reducible refine load_f1 HK.out 0 cbI _ rfl rfl rfl rfl c0 ?_)
      | (with_reducible refine load_f1 HK.out 0 cbI _ rfl rfl rfl rfl c1 ?_)
      | (with_reducible refine load_f1 HK.out 0 cbI _ rfl rfl rfl rfl c2 ?_)
      | (with_reducible refine load_f1 HK.out 0 cbI _ rfl rfl rfl rfl c3 ?_)
      | (with_reducible refine load_f1 HK.out 0 cbI _ rfl rfl rfl rfl c4 ?_))
    refine Draws.start (S := fun u => KeepF w ((b3, 63, vals (Ho.l ⟨7, (j : Int), (m : Int), N, M⟩)) :: l) (rws qs) u) (n := 7) 9 rfl (by kernel_rfl) ?_
    have hk := HK.out.drew
    clear HK; have HK := Lib.hid hk; clear hk
    have HS := Lib.hid (show (fun u => KeepF w ((b3, 63, vals (Ho.l ⟨7, (j : Int), (m : Int), N, M⟩)) :: l) (rws qs) u) _ from HK.out)
    refine Draws.take 0 (v := ?v104) HS.out rfl (by kernel_rfl) (fun _ _ _ h => h) (Or.inl ⟨rfl, ?h104⟩) ?r104
    case h104 => intro w' hw'; go_simp; (try with_reducible rfl)
    (try simp only [Act.put, List.setIfInBounds_toArray, List.set_cons_zero, List.set_cons_succ])
    refine Draws.take 1 (v := ?v105) HS.out rfl (by kernel_rfl) (fun _ _ _ h => h) (Or.inl ⟨rfl, ?h105⟩) ?r105
    case h105 => intro w' hw'; go_simp; (try with_reducible rfl)
    (try simp only [Act.put, List.setIfInBounds_toArray, List.set_cons_zero, List.set_cons_succ])
    refine Draws.take 2 HS.out rfl (by kernel_rfl) (fun _ _ _ h => h) (yield_c cbI (fun _ h => h.cellAt 0 rfl c1) _ rfl rfl rfl) ?_
    (try simp only [Act.put, List.setIfInBounds_toArray, List.set_cons_zero, List.set_cons_succ])
    refine Draws.take 3 (v := ?v106) HS.out rfl (by kernel_rfl) (fun _ _ _ h => h) (Or.inl ⟨rfl, ?h106⟩) ?r106
    case h106 => intro w' hw'; go_simp; (try with_reducible rfl)
    (try simp only [Act.put, List.setIfInBounds_toArray, List.set_cons_zero, List.set_cons_succ])
    refine Draws.take 4 (v := ?v107) HS.out rfl (by kernel_rfl) (fun _ _ _ h => h) (Or.inl ⟨rfl, ?h107⟩) ?r107
    case h107 => intro w' hw'; go_simp; (try with_reducible rfl)
    (try simp only [Act.put, List.setIfInBounds_toArray, List.set_cons_zero, List.set_cons_succ])
    refine Draws.take 5 HS.out rfl (by kernel_rfl) (fun _ _ _ h => h) (yield_rng Tryz.underlying33 rfl (Pf.infoF HX.out) (fun _ h => h.rgQ (n + 1) HN.out HQF.out HXJ.out) _ rfl rfl rfl) ?_
    (try simp only [Act.put, List.setIfInBounds_toArray, List.set_cons_zero, List.set_cons_succ])
    refine Draws.does 6 rfl (by kernel_rfl) rfl (fun K hK => ?_)
    refine wp_alloc_f HK.out f_zeroP rfl ?_
    intro b5 u hk; clear HK; have HK := Lib.hid hk; clear hk
    refine hK.out _ _ (fun _ => HK.out.tail) ?_
    clear hK K
    have hs : (fun u => KeepF w ((b3, 63, vals (Ho.l ⟨7, (j : Int), (m : Int), N, M⟩)) :: l) (rws qs) u) u := HK.out.tail
    clear HS
    have HS := Lib.hid hs; clear hs
    (try simp only [Act.put, List.setIfInBounds_toArray, List.set_cons_zero, List.set_cons_succ])
    refine Draws.does 7 rfl (by kernel_rfl) rfl (fun K hK => ?_)
    refine wp_store_fr HK.out 0 (Pf.infoF HX.out) (Fd.one _) rfl _ _ rfl rfl rfl rfl (Fd.leP zP_full HX.out) (Fd.setAllP zP_full HX.out) ?_
    intro u hk he; clear he; simp only [List.set_cons_zero, List.set_cons_succ] at hk; clear HK; have HK := Lib.hid hk; clear hk
    refine hK.out _ _ (fun h => absurd h (by decide)) ?_
    clear hK K
    (try simp only [Act.put, List.setIfInBounds_toArray, List.set_cons_zero, List.set_cons_succ])
    refine Draws.does 8 rfl (by kernel_rfl) rfl (fun K hK => ?_)
    go_simp
    refine hK.out _ _ (fun h => absurd h (by decide)) ?_
    clear hK K
    (try simp only [Act.put, List.setIfInBounds_toArray, List.set_cons_zero, List.set_cons_succ])
    refine Draws.done (by kernel_rfl) ?_
    clear HS
    go_wp2_with (first
      | (with_reducible refine load_f1 HK.out 1 cbI _ rfl rfl rfl rfl c0 ?_)
      | (with_reducible refine load_f1 HK.out 1 cbI _ rfl rfl rfl rfl c1 ?_)
      | (with_reducible refine load_f1 HK.out 1 cbI _ rfl rfl rfl rfl c2 ?_)
      | (with_reducible refine load_f1 HK.out 1 cbI _ rfl rfl rfl rfl c3 ?_)
      | (with_reducible refine load_f1 HK.out 1 cbI _ rfl rfl rfl rfl c4 ?_))
    refine Draws.start (S := fun u : World => u.cell? ⟨b3, 2, none⟩ = some (.int .i64 (m : Int)) ∧ u.rangeAt bs (m * 587) (py.fd Ay cy).cells) (n := 12) 13 rfl (by kernel_rfl) ?_
    have hk := HK.out.drew
    clear HK; have HK := Lib.hid hk; clear hk
    have HS := Lib.hid (show (fun u : World => u.cell? ⟨b3, 2, none⟩ = some (.int .i64 (m : Int)) ∧ u.rangeAt bs (m * 587) (py.fd Ay cy).cells) _ from ⟨HK.out.cellAt 1 rfl c2, HK.out.rgQ (n + 2) HN.out HQF.out HYM.out⟩)
    refine Draws.take 1 (v := ?v108) HS.out rfl (by kernel_rfl) (fun _ _ _ h => h) (Or.inl ⟨rfl, ?h108⟩) ?r108
    case h108 => intro w' hw'; go_simp; (try with_reducible rfl)
    (try simp only [Act.put, List.setIfInBounds_toArray, List.set_cons_zero, List.set_cons_succ])
    refine Draws.take 2 (v := ?v109) HS.out rfl (by kernel_rfl) (fun _ _ _ h => h) (Or.inl ⟨rfl, ?h109⟩) ?r109
    case h109 => intro w' hw'; go_simp; (try with_reducible rfl)
    (try simp only [Act.put, List.setIfInBounds_toArray, List.set_cons_zero, List.set_cons_succ])
    refine Draws.take 3 HS.out rfl (by kernel_rfl) (fun _ _ _ h => h) (yield_c cbI (fun _ h => h.1) _ rfl rfl rfl) ?_
    (try simp only [Act.put, List.setIfInBounds_toArray, List.set_cons_zero, List.set_cons_succ])
    refine Draws.take 4 (v := ?v110) HS.out rfl (by kernel_rfl) (fun _ _ _ h => h) (Or.inl ⟨rfl, ?h110⟩) ?r110
    case h110 => intro w' hw'; go_simp; (try with_reducible rfl)
    (try simp only [Act.put, List.setIfInBounds_toArray, List.set_cons_zero, List.set_cons_succ])
    refine Draws.take 5 (v := ?v111) HS.out rfl (by kernel_rfl) (fun _ _ _ h => h) (Or.inl ⟨rfl, ?h111⟩) ?r111
    case h111 => intro w' hw'; go_simp; (try with_reducible rfl)
    (try simp only [Act.put, List.setIfInBounds_toArray, List.set_cons_zero, List.set_cons_succ])
    refine Draws.take 6 HS.out rfl (by kernel_rfl) (fun _ _ _ h => h) (yield_rng Tryz.underlying33 rfl (Pf.infoF HY.out) (fun _ h => h.2) _ rfl rfl rfl) ?_
    (try simp only [Act.put, List.setIfInBounds_toArray, List.set_cons_zero, List.set_cons_succ])
    refine Draws.does 0 rfl (by kernel_rfl) rfl (fun K hK => ?_)
    refine wp_load_fr HK.out 0 Tryz.underlying33 rfl (Pf.infoF HX.out) _ rfl rfl rfl Pf.all ?_
    refine hK.out _ _ (fun _ => HS.out) ?_
    clear hK K
    (try simp only [Act.put, List.setIfInBounds_toArray, List.set_cons_zero, List.set_cons_succ])
    refine Draws.does 7 rfl (by kernel_rfl) rfl (fun K hK => ?_)
    go_simp
    go_at_call 82
    refine (hop _ (HK.out.rowQ HXJ.out) (HK.out.rowQ HYM.out)).mono ?_
    rintro e u ⟨A1, c1', rfl, hg, hb⟩
    (try dsimp only)
    have hk := HK.out.got hb j (rws_at HXJ.out) hg; clear hg hb; clear HK; have HK := Lib.hid hk; clear hk
    refine hK.out _ _ (fun _ => ⟨HK.out.cellAt 1 rfl c2, HK.out.rgQ (n + 2) HN.out HQF.out HYM.out⟩) ?_
    clear hK K
    have hs : (fun u : World => u.cell? ⟨b3, 2, none⟩ = some (.int .i64 (m : Int)) ∧ u.rangeAt bs (m * 587) (py.fd Ay cy).cells) u := ⟨HK.out.cellAt 1 rfl c2, HK.out.rgQ (n + 2) HN.out HQF.out HYM.out⟩
    clear HS
    have HS := Lib.hid hs; clear hs
    (try simp only [Act.put, List.setIfInBounds_toArray, List.set_cons_zero, List.set_cons_succ])
    refine Draws.take 8 (v := ?v112) HS.out rfl (by kernel_rfl) (fun _ _ _ h => h) (Or.inl ⟨rfl, ?h112⟩) ?r112
    case h112 => intro w' hw'; go_simp; (try with_reducible rfl)
    (try simp only [Act.put, List.setIfInBounds_toArray, List.set_cons_zero, List.set_cons_succ])
    refine Draws.take 9 (v := ?v113) HS.out rfl (by kernel_rfl) (fun _ _ _ h => h) (Or.inl ⟨rfl, ?h113⟩) ?r113
    case h113 => intro w' hw'; go_simp; (try with_reducible rfl)
    (try simp only [Act.put, List.setIfInBounds_toArray, List.set_cons_zero, List.set_cons_succ])
    refine Draws.take 10 (v := ?v114) HS.out rfl (by kernel_rfl) (fun _ _ _ h => h) (Or.inl ⟨rfl, ?h114⟩) ?r114
    case h114 => intro w' hw'; go_simp; (try with_reducible rfl)
    (try simp only [Act.put, List.setIfInBounds_toArray, List.set_cons_zero, List.set_cons_succ])
    refine Draws.does 11 rfl (by kernel_rfl) rfl (fun K hK => ?_)
    refine wp_store_fr HK.out 0 (Pf.infoF HP.out) (Fd.one _) rfl _ _ rfl rfl rfl rfl (Fd.leP HX.out HP.out) (Fd.setAllP HX.out HP.out) ?_
    intro u hk he; clear he; simp only [List.set_cons_zero, List.set_cons_succ] at hk; clear HK; have HK := Lib.hid hk; clear hk
    refine hK.out _ _ (fun _ => ⟨HK.out.cellAt 1 rfl c2, HK.out.rgQ (n + 2) HN.out HQF.out HYM.out⟩) ?_
    clear hK K
    have hs : (fun u : World => u.cell? ⟨b3, 2, none⟩ = some (.int .i64 (m : Int)) ∧ u.rangeAt bs (m * 587) (py.fd Ay cy).cells) u := ⟨HK.out.cellAt 1 rfl c2, HK.out.rgQ (n + 2) HN.out HQF.out HYM.out⟩
    clear HS
    have HS := Lib.hid hs; clear hs
    (try simp only [Act.put, List.setIfInBounds_toArray, List.set_cons_zero, List.set_cons_succ])
    refine Draws.does 12 rfl (by kernel_rfl) rfl (fun K hK => ?_)
    go_simp
    refine hK.out _ _ (fun h => absurd h (by decide)) ?_
    clear hK K
    (try simp only [Act.put, List.setIfInBounds_toArray, List.set_cons_zero, List.set_cons_succ])
    refine Draws.done (by kernel_rfl) ?_
    clear HS
    go_wp2
    go_ret
    exact ⟨_, qs, rfl, HQL.out, fun x hx => (HII.out x hx).later, by rw [set_same HN.out]; exact HK.out.tail.tail.rtail⟩
set_option maxHeartbeats 4000000 in
theorem step_x (hq : qs.length = 16) (hI : ∀ x ∈ qs, Iv i t x.1) (j : Nat) (hj : j < 16) (V K N M : Int) (hV : V < 0 ∨ 7 < V) (n : Nat) (hn : l[n]? = some (bs, 61, fcs qs)) (hk : KeepF w l (rws qs) u) :
    Calls Tryz.prog 39 #[.pointer (some ⟨bs, 0, none⟩), .agg (vals (Ho.l ⟨V, (j : Int), K, N, M⟩)).toArray] u fun e u' => ∃ E qs', e = .returned (.int .i64 E) ∧ qs'.length = 16 ∧ (∀ x ∈ qs', Iv i (t + 1) x.1) ∧ KeepF w (l.set n (bs, 61, fcs qs')) (rws qs') u' := by
  obtain ⟨px, Ax, cx, hx⟩ : ∃ (px : Pf) (Ax : Option Addr) (cx : Nat), qs[j]? = some (px, Ax, cx) := ⟨_, _, _, List.getElem?_eq_getElem (by omega)⟩
  have hIx := hI _ (List.mem_of_getElem? hx)
  have HQF := Lib.hid (show ∀ x ∈ qs, x.1.full from fun x hx => (hI x hx).full)
  have HXJ := Lib.hid hx
  have HX := Lib.hid (show px.full from hIx.full)
  have HN := Lib.hid hn
  have HJL := Lib.hid (show j < qs.length by omega)
  have HII := Lib.hid hI
  have HQL := Lib.hid hq
  have HK := Lib.hid hk
  have i1 : (0 : Int) ≤ (j : Int) := by omega
  have i2 : (j : Int) < 16 := by omega
  have n1 : decide ((j : Int) < 0) = false := by rw [decide_eq_false_iff_not]; omega
  have n2 : decide ((15 : Int) < (j : Int)) = false := by rw [decide_eq_false_iff_not]; omega
  have c0 : (vals (Ho.l ⟨V, (j : Int), K, N, M⟩))[0]? = some (.int .i64 V) := rfl
  have c1 : (vals (Ho.l ⟨V, (j : Int), K, N, M⟩))[1]? = some (.int .i64 (j : Int)) := rfl
  have c2 : (vals (Ho.l ⟨V, (j : Int), K, N, M⟩))[2]? = some (.int .i64 K) := rfl
  have c3 : (vals (Ho.l ⟨V, (j : Int), K, N, M⟩))[3]? = some (.int .i64 N) := rfl
  have c4 : (vals (Ho.l ⟨V, (j : Int), K, N, M⟩))[4]? = some (.int .i64 M) := rfl
  clear hx hIx hI hq hn hk
  have v0 : (V == 0) = false := by rw [beq_eq_false_iff_ne]; omega
  have v1 : (V == 1) = false := by rw [beq_eq_false_iff_ne]; omega
  have v2 : (V == 2) = false := by rw [beq_eq_false_iff_ne]; omega
  have v3 : (V == 3) = false := by rw [beq_eq_false_iff_ne]; omega
  have v4 : (V == 4) = false := by rw [beq_eq_false_iff_ne]; omega
  have v5 : (V == 5) = false := by rw [beq_eq_false_iff_ne]; omega
  have v6 : (V == 6) = false := by rw [beq_eq_false_iff_ne]; omega
  have v7 : (V == 7) = false := by rw [beq_eq_false_iff_ne]; omega
  go_enter Tryz.func39, Tryz.ntmps39
  go_wp2_with (first
    | (with_reducible refine box_f (cs := vals (Ho.l ⟨V, (j : Int), K, N, M⟩)) HK.out rfl _ rfl rfl ?_; intro b3 u hk; clear HK; have HK := Lib.hid hk; clear hk)
    | (with_reducible refine load_f1 HK.out 0 cbI _ rfl rfl rfl rfl c0 ?_)
    | (with_reducible refine load_f1 HK.out 0 cbI _ rfl rfl rfl rfl c1 ?_)
    | (with_reducible refine load_f1 HK.out 0 cbI _ rfl rfl rfl rfl c2 ?_)
    | (with_reducible refine load_f1 HK.out 0 cbI _ rfl rfl rfl rfl c3 ?_)
    | (with_reducible refine load_f1 HK.out 0 cbI _ rfl rfl rfl rfl c4 ?_))
  refine Draws.start (S := fun u => KeepF w ((b3, 63, vals (Ho.l ⟨V, (j : Int), K, N, M⟩)) :: l) (rws qs) u) (n := 7) 9 rfl (by kernel_rfl) ?_
  have hk := HK.out.drew
  clear HK; have HK := Lib.hid hk; clear hk
  have HS := Lib.hid (show (fun u => KeepF w ((b3, 63, vals (Ho.l ⟨V, (j : Int), K, N, M⟩)) :: l) (rws qs) u) _ from HK.out)
  refine Draws.take 0 (v := ?v115) HS.out rfl (by kernel_rfl) (fun _ _ _ h => h) (Or.inl ⟨rfl, ?h115⟩) ?r115
  case h115 => intro w' hw'; go_simp; (try with_reducible rfl)
  (try simp only [Act.put, List.setIfInBounds_toArray, List.set_cons_zero, List.set_cons_succ])
  refine Draws.take 1 (v := ?v116) HS.out rfl (by kernel_rfl) (fun _ _ _ h => h) (Or.inl ⟨rfl, ?h116⟩) ?r116
  case h116 => intro w' hw'; go_simp; (try with_reducible rfl)
  (try simp only [Act.put, List.setIfInBounds_toArray, List.set_cons_zero, List.set_cons_succ])
  refine Draws.take 2 HS.out rfl (by kernel_rfl) (fun _ _ _ h => h) (yield_c cbI (fun _ h => h.cellAt 0 rfl c1) _ rfl rfl rfl) ?_
  (try simp only [Act.put, List.setIfInBounds_toArray, List.set_cons_zero, List.set_cons_succ])
  refine Draws.take 3 (v := ?v117) HS.out rfl (by kernel_rfl) (fun _ _ _ h => h) (Or.inl ⟨rfl, ?h117⟩) ?r117
  case h117 => intro w' hw'; go_simp; (try with_reducible rfl)
  (try simp only [Act.put, List.setIfInBounds_toArray, List.set_cons_zero, List.set_cons_succ])
  refine Draws.take 4 (v := ?v118) HS.out rfl (by kernel_rfl) (fun _ _ _ h => h) (Or.inl ⟨rfl, ?h118⟩) ?r118
  case h118 => intro w' hw'; go_simp; (try with_reducible rfl)
  (try simp only [Act.put, List.setIfInBounds_toArray, List.set_cons_zero, List.set_cons_succ])
  refine Draws.take 5 HS.out rfl (by kernel_rfl) (fun _ _ _ h => h) (yield_rng Tryz.underlying33 rfl (Pf.infoF HX.out) (fun _ h => h.rgQ (n + 1) HN.out HQF.out HXJ.out) _ rfl rfl rfl) ?_
  (try simp only [Act.put, List.setIfInBounds_toArray, List.set_cons_zero, List.set_cons_succ])
  refine Draws.does 6 rfl (by kernel_rfl) rfl (fun K hK => ?_)
  refine wp_alloc_f HK.out f_zeroP rfl ?_
  intro b5 u hk; clear HK; have HK := Lib.hid hk; clear hk
  refine hK.out _ _ (fun _ => HK.out.tail) ?_
  clear hK K
  have hs : (fun u => KeepF w ((b3, 63, vals (Ho.l ⟨V, (j : Int), K, N, M⟩)) :: l) (rws qs) u) u := HK.out.tail
  clear HS
  have HS := Lib.hid hs; clear hs
  (try simp only [Act.put, List.setIfInBounds_toArray, List.set_cons_zero, List.set_cons_succ])
  refine Draws.does 7 rfl (by kernel_rfl) rfl (fun K hK => ?_)
  refine wp_store_fr HK.out 0 (Pf.infoF HX.out) (Fd.one _) rfl _ _ rfl rfl rfl rfl (Fd.leP zP_full HX.out) (Fd.setAllP zP_full HX.out) ?_
  intro u hk he; clear he; simp only [List.set_cons_zero, List.set_cons_succ] at hk; clear HK; have HK := Lib.hid hk; clear hk
  refine hK.out _ _ (fun h => absurd h (by decide)) ?_
  clear hK K
  (try simp only [Act.put, List.setIfInBounds_toArray, List.set_cons_zero, List.set_cons_succ])
  refine Draws.does 8 rfl (by kernel_rfl) rfl (fun K hK => ?_)
  go_simp
  refine hK.out _ _ (fun h => absurd h (by decide)) ?_
  clear hK K
  (try simp only [Act.put, List.setIfInBounds_toArray, List.set_cons_zero, List.set_cons_succ])
  refine Draws.done (by kernel_rfl) ?_
  clear HS
  go_wp2_with (first
    | (with_reducible refine load_f1 HK.out 1 cbI _ rfl rfl rfl rfl c0 ?_)
    | (with_reducible refine load_f1 HK.out 1 cbI _ rfl rfl rfl rfl c1 ?_)
    | (with_reducible refine load_f1 HK.out 1 cbI _ rfl rfl rfl rfl c2 ?_)
    | (with_reducible refine load_f1 HK.out 1 cbI _ rfl rfl rfl rfl c3 ?_)
    | (with_reducible refine load_f1 HK.out 1 cbI _ rfl rfl rfl rfl c4 ?_))
  go_ret
  exact ⟨_, qs, rfl, HQL.out, fun x hx => (HII.out x hx).later, by rw [set_same HN.out]; exact HK.out.tail.tail⟩
set_option maxHeartbeats 1000000 in
theorem step_o (hq : qs.length = 16) (hI : ∀ x ∈ qs, Iv i t x.1) (d : Ho) (hd : d.n < 0 ∨ 15 < d.n) (n : Nat) (hn : l[n]? = some (bs, 61, fcs qs)) (hk : KeepF w l (rws qs) u) :
    Calls Tryz.prog 39 #[.pointer (some ⟨bs, 0, none⟩), .agg (vals d.l).toArray] u fun e u' => ∃ E qs', e = .returned (.int .i64 E) ∧ qs'.length = 16 ∧ (∀ x ∈ qs', Iv i (t + 1) x.1) ∧ KeepF w (l.set n (bs, 61, fcs qs')) (rws qs') u' := by
  have HN := Lib.hid hn; have HII := Lib.hid hI; have HQL := Lib.hid hq; have HK := Lib.hid hk
  have c1 : (vals d.l)[1]? = some (.int .i64 d.n) := rfl
  clear hn hI hq hk
  by_cases k0 : d.n < 0
  · have k1 : decide (d.n < 0) = true := by simpa using k0
    go_enter Tryz.func39, Tryz.ntmps39
    go_wp2_with (first
      | (with_reducible refine box_f (cs := vals d.l) HK.out rfl _ rfl rfl ?_; intro b3 u hk; clear HK; have HK := Lib.hid hk; clear hk)
      | (with_reducible refine load_f1 HK.out 0 cbI _ rfl rfl rfl rfl c1 ?_))
    go_ret
    first
    | exact ⟨_, qs, rfl, HQL.out, fun x hx => (HII.out x hx).later, by rw [set_same HN.out]; exact HK.out.tail⟩
    | exact ⟨⟨_, rfl⟩, qs, HQL.out, fun a a1 b hx => (HII.out _ hx).later, by rw [set_same HN.out]; exact HK.out.tail⟩
  · have k1 : decide (d.n < 0) = false := by simpa using k0
    have k2 : decide ((15 : Int) < d.n) = true := by rw [decide_eq_true_eq]; omega
    go_enter Tryz.func39, Tryz.ntmps39
    go_wp2_with (first
      | (with_reducible refine box_f (cs := vals d.l) HK.out rfl _ rfl rfl ?_; intro b3 u hk; clear HK; have HK := Lib.hid hk; clear hk)
      | (with_reducible refine load_f1 HK.out 0 cbI _ rfl rfl rfl rfl c1 ?_))
    go_ret
    first
    | exact ⟨_, qs, rfl, HQL.out, fun x hx => (HII.out x hx).later, by rw [set_same HN.out]; exact HK.out.tail⟩
    | exact ⟨⟨_, rfl⟩, qs, HQL.out, fun a a1 b hx => (HII.out _ hx).later, by rw [set_same HN.out]; exact HK.out.tail⟩
theorem step_any (hq : qs.length = 16) (hI : ∀ x ∈ qs, Iv i t x.1) (d : Ho) (hN : -3000 ≤ d.d ∧ d.d ≤ 3000) (hM : d.s ≤ 3000) (n : Nat) (hn : l[n]? = some (bs, 61, fcs qs)) (hk : KeepF w l (rws qs) u) :
    Calls Tryz.prog 39 #[.pointer (some ⟨bs, 0, none⟩), .agg (vals d.l).toArray] u fun e u' => ∃ E qs', e = .returned (.int .i64 E) ∧ qs'.length = 16 ∧ (∀ x ∈ qs', Iv i (t + 1) x.1) ∧ KeepF w (l.set n (bs, 61, fcs qs')) (rws qs') u' := by
  by_cases ho : d.n < 0 ∨ 15 < d.n
  · exact step_o hq hI d ho n hn hk
  · obtain ⟨V, I, K, N, M⟩ := d
    simp only at hN hM ho
    obtain ⟨j, rfl⟩ : ∃ j : Nat, I = j := ⟨I.toNat, by omega⟩
    have hj : j < 16 := by omega
    by_cases hV : V < 0 ∨ 7 < V
    · exact step_x hq hI j hj V K N M hV n hn hk
    · have : V = 0 ∨ V = 1 ∨ V = 2 ∨ V = 3 ∨ V = 4 ∨ V = 5 ∨ V = 6 ∨ V = 7 := by omega
      rcases this with rfl | rfl | rfl | rfl | rfl | rfl | rfl | rfl
      · exact step_0 hq hI j hj K N M hN n hn hk
      · exact step_1 hq hI j hj K N M hN.2 hM n hn hk
      · exact step_2 hq hI j hj K N M hN.2 n hn hk
      · exact step_3 hq hI j hj K N M n hn hk
      · exact step_4 hq hI j hj K N M n hn hk
      · exact step_5 hq hI j hj K N M n hn hk
      · exact step_6 hq hI j hj K N M n hn hk
      · by_cases hK : K < 0 ∨ 15 < K
        · exact step_7n hq hI j hj K N M hK n hn hk
        · obtain ⟨m, rfl⟩ : ∃ m : Nat, K = m := ⟨K.toNat, by omega⟩
          exact step_7 hq hI j hj m (by omega) N M n hn hk
end
end Go.Proofs.YtbaccghnneidgaaGreat
