/- Contracts of field.changed, and of Add, Hand, Write, Pass, Reserve and End. -/
import Derived.Test.YtofngihdnjgmeaaLFe
namespace Go.Proofs.Ytofngihdnjgmeaa
set_option maxRecDepth 100000
open Go.ChangeShapes Go.WideShapes Go.ChangeAt Go.RowKit

section
variable {w u u' : World} {l : List (Nat × TypeId × List Value)} {rows : List (Option Addr × Nat × List Ho)}
theorem KeepF.fresh (h : KeepF w l rows u) (hb : Below u.heap.size u u') {A : Option Addr} {c : Nat} {hs : List Ho} (hr : Row u' A hs.length hs) (hf : Fresh u.heap.size A c hs) : KeepF w l ((A, hs.length, hs) :: rows) u' := by
  have h1 := h.call hb
  refine ⟨h1.bel, h1.blk, h1.apart, fun r hq => ?_, fun r hq x hx a ha hn => ?_⟩
  · rcases List.mem_cons.1 hq with rfl | hq
    · exact hr
    · exact h1.row r hq
  · rcases List.mem_cons.1 hq with rfl | hq
    · have h2 := hf.new a ha hn
      have := (h.blk x hx).2.lt
      omega
    · exact h1.free r hq x hx a ha hn
theorem KeepF.rnil (h : KeepF w l rows u) (A : Option Addr) : KeepF w l ((A, 0, []) :: rows) u := by
  refine ⟨h.bel, h.blk, h.apart, fun r hq => ?_, fun r hq x hx a ha hn => ?_⟩
  · rcases List.mem_cons.1 hq with rfl | hq
    · exact Row.nil u A
    · exact h.row r hq
  · rcases List.mem_cons.1 hq with rfl | hq
    · exact absurd hn (by simp)
    · exact h.free r hq x hx a ha hn
theorem KeepF.rtail {r : Option Addr × Nat × List Ho} (h : KeepF w l (r :: rows) u) : KeepF w l rows u := h.look fun _ hq => List.mem_cons_of_mem _ hq
end
set_option maxHeartbeats 2000000 in
theorem ch_reserve (p : Pf) (hp : p.full) (k a d : Int) {w u : World} {l : List (Nat × TypeId × List Value)} {rows : List (Option Addr × Nat × List Ho)} {A : Option Addr} {c : Nat} {ck ca cd cm : Nat} (q0 : Nat) (hq0 : l[q0]? = some (ck, 3, [.int .i64 k])) (q1 : Nat) (hq1 : l[q1]? = some (ca, 3, [.int .i64 a])) (q2 : Nat) (hq2 : l[q2]? = some (cd, 3, [.int .i64 d])) (j : Nat) (hj : l[j]? = some (cm, 3, [.int .i64 0])) (n0 : j ≠ q0) (n1 : j ≠ q1) (n2 : j ≠ q2) (m : Nat) (hm : rows[m]? = some (A, p.hs.length, p.hs)) (hk : KeepF w l rows u) :
    Calls Try.prog 31 #[.agg (p.fd A c).cells.toArray, .int .i64 1, .func (Fn.func 32) #[] #[.pointer (some ⟨ck, 0, none⟩), .pointer (some ⟨ca, 0, none⟩), .pointer (some ⟨cd, 0, none⟩), .pointer (some ⟨cm, 0, none⟩)]] u fun e u' => ∃ A1 c1, e = .returned (.tuple #[.agg ((toldP (p.setH (resPH p k a d)) (resPE p k a d)).fd A1 c1).cells.toArray, .int .i64 (resPE p k a d)]) ∧ KeepF w (l.set j (cm, 3, [.int .i64 (resPN p k a d)])) ((A1, (toldP (p.setH (resPH p k a d)) (resPE p k a d)).hs.length, (toldP (p.setH (resPH p k a d)) (resPE p k a d)).hs) :: rows) u' ∧ Fresh w.heap.size A1 c1 (toldP (p.setH (resPH p k a d)) (resPE p k a d)).hs := by
  have HK := Lib.hid hk; clear hk
  have HF := Lib.hid hp; clear hp
  have HM := Lib.hid hm; clear hm
  by_cases k1 : p.k = 1
  · have hkc : (p.fd A c).cells[1]? = some (.int .i64 1) := by rw [Pf.ck, k1]
    have hcl := fun {x : Nat × TypeId × List Value} {u : World} {b : Nat} {A : Option Addr} {c : Nat} (hf : Fresh w.heap.size A c p.hs) (hk : KeepF w (x :: (b, 33, (p.fd A c).cells) :: l) ((A, p.hs.length, p.hs) :: rows) u) => show Calls Try.prog 32 #[.pointer (some ⟨b, 0, none⟩), .pointer (some ⟨ck, 0, none⟩), .pointer (some ⟨ca, 0, none⟩), .pointer (some ⟨cd, 0, none⟩), .pointer (some ⟨cm, 0, none⟩)] u fun e u' => ∃ A2 c2, e = .returned (.int .i64 (resPE p k a d)) ∧ KeepF w (x :: (b, 33, ((p.setH (resPH p k a d)).fd A2 c2).cells) :: (l.set j (cm, 3, [.int .i64 (resPN p k a d)]))) ((A2, (p.setH (resPH p k a d)).hs.length, (p.setH (resPH p k a d)).hs) :: rows) u' ∧ Fresh w.heap.size A2 c2 (p.setH (resPH p k a d)).hs from cl_reserve p HF.out k1 k a d q0 hq0 q1 hq1 q2 hq2 j hj n0 n1 n2 hf hk
    have HP := Lib.hid (show (p.setH (resPH p k a d)).full from HF.out)
    generalize resPN p k a d = N at hcl ⊢
    generalize resPE p k a d = E at hcl ⊢
    generalize (p.setH (resPH p k a d)) = P1 at hcl HP ⊢
    by_cases h0 : E = 0
    · subst h0
      rw [toldP_0]
      go_enter Try.func31, Try.ntmps31
      go_wp2_with (first
        | (with_reducible refine box_f HK.out rfl _ rfl rfl ?_; intro b u hk; clear HK; have HK := Lib.hid hk; clear hk)
        | (with_reducible refine alloc_f HK.out f_zeroP rfl rfl ?_; intro br u hk; clear HK; have HK := Lib.hid hk; clear hk)
        | (with_reducible refine load_f1 HK.out 1 cbI _ rfl rfl rfl rfl hkc ?_)
        | (with_reducible refine load_fr HK.out 1 Try.underlying33 rfl (Pf.infoF HF.out) _ rfl rfl rfl rfl Pf.all ?_)
        | (go_at_call 51; (with_reducible refine (apart_any p HF.out A c _ (HK.out.rowAt m HM.out)).mono ?_); rintro e u ⟨A1, c1, rfl, hr, hf, hb⟩; have HX := Lib.hid (hf.mono HK.out.bel.size); have hk := HK.out.fresh hb hr hf; clear hr hf hb; clear HK; have HK := Lib.hid hk; clear hk)
        | (with_reducible refine store_fr HK.out 1 (Pf.infoF HF.out) (Fd.one _) rfl rfl _ _ rfl rfl rfl rfl (Fd.leP HF.out HF.out) (Fd.setAllP HF.out HF.out) ?_; intro u hk; simp only [List.set_cons_zero, List.set_cons_succ] at hk; clear HK; have HK := Lib.hid hk; clear hk)
        | (go_at_call 32; (with_reducible refine (hcl HX.out HK.out).mono ?_); rintro e u ⟨A2, c2, rfl, hk, hf⟩; have HY := Lib.hid hf; clear hf; clear HK; have HK := Lib.hid hk; clear hk)
        | (with_reducible refine load_fr HK.out 1 Try.underlying33 rfl (Pf.infoF HP.out) _ rfl rfl rfl rfl Pf.all ?_)
        | (with_reducible refine store_fr HK.out 0 (Pf.infoF HP.out) (Fd.one _) rfl rfl _ _ rfl rfl rfl rfl (Fd.leP zP_full HP.out) (Fd.setAllP zP_full HP.out) ?_; intro u hk; simp only [List.set_cons_zero] at hk; clear HK; have HK := Lib.hid hk; clear hk))
      exact bodyPost_ret (results_f2 rfl Try.underlying33 rfl (Pf.infoF HP.out) _ HK.out 0 _ rfl rfl rfl) rfl ⟨A2, c2, rfl, HK.out.tail.tail, HY.out⟩
    · rw [toldP_n _ h0]
      have d0 : (E != 0) = true := by simpa using h0
      go_enter Try.func31, Try.ntmps31
      go_wp2_with (first
        | (with_reducible refine box_f HK.out rfl _ rfl rfl ?_; intro b u hk; clear HK; have HK := Lib.hid hk; clear hk)
        | (with_reducible refine alloc_f HK.out f_zeroP rfl rfl ?_; intro br u hk; clear HK; have HK := Lib.hid hk; clear hk)
        | (with_reducible refine load_f1 HK.out 1 cbI _ rfl rfl rfl rfl hkc ?_)
        | (with_reducible refine load_fr HK.out 1 Try.underlying33 rfl (Pf.infoF HF.out) _ rfl rfl rfl rfl Pf.all ?_)
        | (go_at_call 51; (with_reducible refine (apart_any p HF.out A c _ (HK.out.rowAt m HM.out)).mono ?_); rintro e u ⟨A1, c1, rfl, hr, hf, hb⟩; have HX := Lib.hid (hf.mono HK.out.bel.size); have hk := HK.out.fresh hb hr hf; clear hr hf hb; clear HK; have HK := Lib.hid hk; clear hk)
        | (with_reducible refine store_fr HK.out 1 (Pf.infoF HF.out) (Fd.one _) rfl rfl _ _ rfl rfl rfl rfl (Fd.leP HF.out HF.out) (Fd.setAllP HF.out HF.out) ?_; intro u hk; simp only [List.set_cons_zero, List.set_cons_succ] at hk; clear HK; have HK := Lib.hid hk; clear hk)
        | (go_at_call 32; (with_reducible refine (hcl HX.out HK.out).mono ?_); rintro e u ⟨A2, c2, rfl, hk, hf⟩; have HY := Lib.hid hf; clear hf; clear HK; have HK := Lib.hid hk; clear hk)
        | (with_reducible refine build_f f_buildP rfl rfl ?_)
        | (with_reducible refine store_fr HK.out 0 (Pf.infoF zP_full) (Fd.one _) rfl rfl _ _ rfl rfl rfl rfl (Fd.leP zP_full zP_full) (Fd.setAllP zP_full zP_full) ?_; intro u hk; simp only [List.set_cons_zero] at hk; clear HK; have HK := Lib.hid hk; clear hk))
      exact bodyPost_ret (results_f2 rfl Try.underlying33 rfl (Pf.infoF zP_full) _ HK.out 0 _ rfl rfl rfl) rfl ⟨none, 0, rfl, HK.out.tail.tail.rtail.rnil _, Fresh.nil _ _ _⟩
  · have hz0 : l.set j (cm, 3, [.int .i64 0]) = l := by
      apply List.ext_getElem?
      intro q
      rw [List.getElem?_set]
      split
      · rename_i e
        subst e
        rw [hj, if_pos (List.getElem?_eq_some_iff.1 hj).1]
      · rfl
    rw [show resPE p k a d = 17 by unfold resPE; rw [if_neg k1], show resPN p k a d = 0 by unfold resPN; rw [if_neg k1], hz0]
    clear hz0
    rw [toldP_n _ (by decide)]
    have hkc : (p.fd A c).cells[1]? = some (.int .i64 p.k) := Pf.ck
    generalize p.k = K at k1 hkc
    go_enter Try.func31, Try.ntmps31
    go_wp2_with (first
      | (with_reducible refine box_f HK.out rfl _ rfl rfl ?_; intro b u hk; clear HK; have HK := Lib.hid hk; clear hk)
      | (with_reducible refine alloc_f HK.out f_zeroP rfl rfl ?_; intro br u hk; clear HK; have HK := Lib.hid hk; clear hk)
      | (with_reducible refine load_f1 HK.out 1 cbI _ rfl rfl rfl rfl hkc ?_)
      | (with_reducible refine build_f f_buildP rfl rfl ?_)
      | (with_reducible refine store_fr HK.out 0 (Pf.infoF zP_full) (Fd.one _) rfl rfl _ _ rfl rfl rfl rfl (Fd.leP zP_full zP_full) (Fd.setAllP zP_full zP_full) ?_; intro u hk; simp only [List.set_cons_zero] at hk; clear HK; have HK := Lib.hid hk; clear hk))
    exact bodyPost_ret (results_f2 rfl Try.underlying33 rfl (Pf.infoF zP_full) _ HK.out 0 _ rfl rfl rfl) rfl ⟨none, 0, rfl, HK.out.tail.tail.rnil _, Fresh.nil _ _ _⟩
end Go.Proofs.Ytofngihdnjgmeaa
