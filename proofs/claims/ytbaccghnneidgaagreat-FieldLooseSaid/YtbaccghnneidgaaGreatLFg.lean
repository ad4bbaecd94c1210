/- Contracts of field.changed, and of Add, Hand, Write, Pass, Reserve and End. -/
import Derived.Test.YtbaccghnneidgaaGreatLFe
namespace Go.Proofs.YtbaccghnneidgaaGreat
set_option maxRecDepth 100000
open Go.ChangeShapes Go.WideShapes Go.ChangeAt Go.RowKit

section
variable {w u u' : World} {l : List (Nat × TypeId × List Value)} {rows : List (Option Addr × Nat × List Ho)}
theorem KeepF.fresh (h : KeepF w l rows u) (hb : Below u.heap.size u u') {A : Option Addr} {c : Nat} {hs : List Ho} (hr : Row u' A hs.length hs) (hf : Fresh u.heap.size A c hs) : KeepF w l ((A, hs.length, hs) :: rows) u' := by
  have h1 := h.call hb
  refine ⟨h1.bel, h1.blk, h1.apart, fun r hq => ?_, fun r hq x hx a ha hn => ?_⟩
  · rcases List.mem_cons.1 hq with rfl | hq
    · exact hr
    · exact h1.row r hq
  · rcases List.mem_cons.1 hq with rfl | hq
    · have h2 := hf.new a ha hn
      have := (h.blk x hx).2.lt
      omega
    · exact h1.free r hq x hx a ha hn
theorem KeepF.rnil (h : KeepF w l rows u) (A : Option Addr) : KeepF w l ((A, 0, []) :: rows) u := by
  refine ⟨h.bel, h.blk, h.apart, fun r hq => ?_, fun r hq x hx a ha hn => ?_⟩
  · rcases List.mem_cons.1 hq with rfl | hq
    · exact Row.nil u A
    · exact h.row r hq
  · rcases List.mem_cons.1 hq with rfl | hq
    · exact absurd hn (by simp)
    · exact h.free r hq x hx a ha hn
theorem KeepF.rtail {r : Option Addr × Nat × List Ho} (h : KeepF w l (r :: rows) u) : KeepF w l rows u := h.look fun _ hq => List.mem_cons_of_mem _ hq
end
set_option maxHeartbeats 2000000 in
theorem ch_add (p : Pf) (hp : p.full) (k n : Int) {w u : World} {l : List (Nat × TypeId × List Value)} {rows : List (Option Addr × Nat × List Ho)} {A : Option Addr} {c : Nat} {cn ck : Nat} (i : Nat) (hi : l[i]? = some (cn, 3, [.int .i64 n])) (j : Nat) (hj : l[j]? = some (ck, 3, [.int .i64 k])) (m : Nat) (hm : rows[m]? = some (A, p.hs.length, p.hs)) (hk : KeepF w l rows u) :
    Calls Tryz.prog 57 #[.agg (p.fd A c).cells.toArray, .int .i64 1, .func (Fn.func 58) #[] #[.pointer (some ⟨cn, 0, none⟩), .pointer (some ⟨ck, 0, none⟩)]] u fun e u' => ∃ A1 c1, e = .returned (.tuple #[.agg ((toldP (p.setC (addPC p k n)) (addPE p k n)).fd A1 c1).cells.toArray, .int .i64 (addPE p k n)]) ∧ KeepF w l ((A1, (toldP (p.setC (addPC p k n)) (addPE p k n)).hs.length, (toldP (p.setC (addPC p k n)) (addPE p k n)).hs) :: rows) u' ∧ Fresh w.heap.size A1 c1 (toldP (p.setC (addPC p k n)) (addPE p k n)).hs := by
  have HK := Lib.hid hk; clear hk
  have HF := Lib.hid hp; clear hp
  have HM := Lib.hid hm; clear hm
  by_cases k1 : p.k = 1
  · have hkc : (p.fd A c).cells[1]? = some (.int .i64 1) := by rw [Pf.ck, k1]
    have hcl := fun {x : Nat × TypeId × List Value} {u : World} {b : Nat} {A : Option Addr} {c : Nat} (hf : Fresh w.heap.size A c p.hs) (hk : KeepF w (x :: (b, 33, (p.fd A c).cells) :: l) ((A, p.hs.length, p.hs) :: rows) u) => show Calls Tryz.prog 58 #[.pointer (some ⟨b, 0, none⟩), .pointer (some ⟨cn, 0, none⟩), .pointer (some ⟨ck, 0, none⟩)] u fun e u' => ∃ A2 c2, e = .returned (.int .i64 (addPE p k n)) ∧ KeepF w (x :: (b, 33, ((p.setC (addPC p k n)).fd A2 c2).cells) :: l) ((A2, (p.setC (addPC p k n)).hs.length, (p.setC (addPC p k n)).hs) :: rows) u' ∧ Fresh w.heap.size A2 c2 (p.setC (addPC p k n)).hs from (cl_add p HF.out k1 k n i hi j hj hk).mono fun e u' h => ⟨A, c, h.1, h.2, hf⟩
    have HP := Lib.hid (show (p.setC (addPC p k n)).full from addPC_length HF.out k n)
    generalize addPE p k n = E at hcl ⊢
    generalize (p.setC (addPC p k n)) = P1 at hcl HP ⊢
    by_cases h0 : E = 0
    · subst h0
      rw [toldP_0]
      go_enter Tryz.func57, Tryz.ntmps57
      go_wp2_with (first
        | (with_reducible refine box_f HK.out rfl _ rfl rfl ?_; intro b u hk; clear HK; have HK := Lib.hid hk; clear hk)
        | (with_reducible refine alloc_f HK.out f_zeroP rfl rfl ?_; intro br u hk; clear HK; have HK := Lib.hid hk; clear hk)
        | (with_reducible refine load_f1 HK.out 1 cbI _ rfl rfl rfl rfl hkc ?_)
        | (with_reducible refine load_fr HK.out 1 Tryz.underlying33 rfl (Pf.infoF HF.out) _ rfl rfl rfl rfl Pf.all ?_)
        | (go_at_call 79; (with_reducible refine (apart_any p HF.out A c _ (HK.out.rowAt m HM.out)).mono ?_); rintro e u ⟨A1, c1, rfl, hr, hf, hb⟩; have HX := Lib.hid (hf.mono HK.out.bel.size); have hk := HK.out.fresh hb hr hf; clear hr hf hb; clear HK; have HK := Lib.hid hk; clear hk)
        | (with_reducible refine store_fr HK.out 1 (Pf.infoF HF.out) (Fd.one _) rfl rfl _ _ rfl rfl rfl rfl (Fd.leP HF.out HF.out) (Fd.setAllP HF.out HF.out) ?_; intro u hk; simp only [List.set_cons_zero, List.set_cons_succ] at hk; clear HK; have HK := Lib.hid hk; clear hk)
        | (go_at_call 58; (with_reducible refine (hcl HX.out HK.out).mono ?_); rintro e u ⟨A2, c2, rfl, hk, hf⟩; have HY := Lib.hid hf; clear hf; clear HK; have HK := Lib.hid hk; clear hk)
        | (with_reducible refine load_fr HK.out 1 Tryz.underlying33 rfl (Pf.infoF HP.out) _ rfl rfl rfl rfl Pf.all ?_)
        | (with_reducible refine store_fr HK.out 0 (Pf.infoF HP.out) (Fd.one _) rfl rfl _ _ rfl rfl rfl rfl (Fd.leP zP_full HP.out) (Fd.setAllP zP_full HP.out) ?_; intro u hk; simp only [List.set_cons_zero] at hk; clear HK; have HK := Lib.hid hk; clear hk))
      exact bodyPost_ret (results_f2 rfl Tryz.underlying33 rfl (Pf.infoF HP.out) _ HK.out 0 _ rfl rfl rfl) rfl ⟨A2, c2, rfl, HK.out.tail.tail, HY.out⟩
    · rw [toldP_n _ h0]
      have d0 : (E != 0) = true := by simpa using h0
      go_enter Tryz.func57, Tryz.ntmps57
      go_wp2_with (first
        | (with_reducible refine box_f HK.out rfl _ rfl rfl ?_; intro b u hk; clear HK; have HK := Lib.hid hk; clear hk)
        | (with_reducible refine alloc_f HK.out f_zeroP rfl rfl ?_; intro br u hk; clear HK; have HK := Lib.hid hk; clear hk)
        | (with_reducible refine load_f1 HK.out 1 cbI _ rfl rfl rfl rfl hkc ?_)
        | (with_reducible refine load_fr HK.out 1 Tryz.underlying33 rfl (Pf.infoF HF.out) _ rfl rfl rfl rfl Pf.all ?_)
        | (go_at_call 79; (with_reducible refine (apart_any p HF.out A c _ (HK.out.rowAt m HM.out)).mono ?_); rintro e u ⟨A1, c1, rfl, hr, hf, hb⟩; have HX := Lib.hid (hf.mono HK.out.bel.size); have hk := HK.out.fresh hb hr hf; clear hr hf hb; clear HK; have HK := Lib.hid hk; clear hk)
        | (with_reducible refine store_fr HK.out 1 (Pf.infoF HF.out) (Fd.one _) rfl rfl _ _ rfl rfl rfl rfl (Fd.leP HF.out HF.out) (Fd.setAllP HF.out HF.out) ?_; intro u hk; simp only [List.set_cons_zero, List.set_cons_succ] at hk; clear HK; have HK := Lib.hid hk; clear hk)
        | (go_at_call 58; (with_reducible refine (hcl HX.out HK.out).mono ?_); rintro e u ⟨A2, c2, rfl, hk, hf⟩; have HY := Lib.hid hf; clear hf; clear HK; have HK := Lib.hid hk; clear hk)
        | (with_reducible refine build_f f_buildP rfl rfl ?_)
        | (with_reducible refine store_fr HK.out 0 (Pf.infoF zP_full) (Fd.one _) rfl rfl _ _ rfl rfl rfl rfl (Fd.leP zP_full zP_full) (Fd.setAllP zP_full zP_full) ?_; intro u hk; simp only [List.set_cons_zero] at hk; clear HK; have HK := Lib.hid hk; clear hk))
      exact bodyPost_ret (results_f2 rfl Tryz.underlying33 rfl (Pf.infoF zP_full) _ HK.out 0 _ rfl rfl rfl) rfl ⟨none, 0, rfl, HK.out.tail.tail.rtail.rnil _, Fresh.nil _ _ _⟩
  · rw [show addPE p k n = 17 by unfold addPE; rw [if_neg k1]]
    rw [toldP_n _ (by decide)]
    have hkc : (p.fd A c).cells[1]? = some (.int .i64 p.k) := Pf.ck
    generalize p.k = K at k1 hkc
    go_enter Tryz.func57, Tryz.ntmps57
    go_wp2_with (first
      | (with_reducible refine box_f HK.out rfl _ rfl rfl ?_; intro b u hk; clear HK; have HK := Lib.hid hk; clear hk)
      | (with_reducible refine alloc_f HK.out f_zeroP rfl rfl ?_; intro br u hk; clear HK; have HK := Lib.hid hk; clear hk)
      | (with_reducible refine load_f1 HK.out 1 cbI _ rfl rfl rfl rfl hkc ?_)
      | (with_reducible refine build_f f_buildP rfl rfl ?_)
      | (with_reducible refine store_fr HK.out 0 (Pf.infoF zP_full) (Fd.one _) rfl rfl _ _ rfl rfl rfl rfl (Fd.leP zP_full zP_full) (Fd.setAllP zP_full zP_full) ?_; intro u hk; simp only [List.set_cons_zero] at hk; clear HK; have HK := Lib.hid hk; clear hk))
    exact bodyPost_ret (results_f2 rfl Tryz.underlying33 rfl (Pf.infoF zP_full) _ HK.out 0 _ rfl rfl rfl) rfl ⟨none, 0, rfl, HK.out.tail.tail.rnil _, Fresh.nil _ _ _⟩
set_option maxHeartbeats 2000000 in
theorem ch_hand (p : Pf) (hp : p.full) (i k d t : Int) {w u : World} {l : List (Nat × TypeId × List Value)} {rows : List (Option Addr × Nat × List Ho)} {A : Option Addr} {c : Nat} {ci cd ck cu : Nat} (q0 : Nat) (hq0 : l[q0]? = some (ci, 3, [.int .i64 i])) (q1 : Nat) (hq1 : l[q1]? = some (cd, 3, [.int .i64 d])) (q2 : Nat) (hq2 : l[q2]? = some (ck, 3, [.int .i64 k])) (q3 : Nat) (hq3 : l[q3]? = some (cu, 3, [.int .i64 t])) (m : Nat) (hm : rows[m]? = some (A, p.hs.length, p.hs)) (hk : KeepF w l rows u) :
    Calls Tryz.prog 57 #[.agg (p.fd A c).cells.toArray, .int .i64 1, .func (Fn.func 64) #[] #[.pointer (some ⟨ci, 0, none⟩), .pointer (some ⟨cd, 0, none⟩), .pointer (some ⟨ck, 0, none⟩), .pointer (some ⟨cu, 0, none⟩)]] u fun e u' => ∃ A1 c1, e = .returned (.tuple #[.agg ((toldP (p.setC (handPC p i k d t)) (handPE p i k d t)).fd A1 c1).cells.toArray, .int .i64 (handPE p i k d t)]) ∧ KeepF w l ((A1, (toldP (p.setC (handPC p i k d t)) (handPE p i k d t)).hs.length, (toldP (p.setC (handPC p i k d t)) (handPE p i k d t)).hs) :: rows) u' ∧ Fresh w.heap.size A1 c1 (toldP (p.setC (handPC p i k d t)) (handPE p i k d t)).hs := by
  have HK := Lib.hid hk; clear hk
  have HF := Lib.hid hp; clear hp
  have HM := Lib.hid hm; clear hm
  by_cases k1 : p.k = 1
  · have hkc : (p.fd A c).cells[1]? = some (.int .i64 1) := by rw [Pf.ck, k1]
    have hcl := fun {x : Nat × TypeId × List Value} {u : World} {b : Nat} {A : Option Addr} {c : Nat} (hf : Fresh w.heap.size A c p.hs) (hk : KeepF w (x :: (b, 33, (p.fd A c).cells) :: l) ((A, p.hs.length, p.hs) :: rows) u) => show Calls Tryz.prog 64 #[.pointer (some ⟨b, 0, none⟩), .pointer (some ⟨ci, 0, none⟩), .pointer (some ⟨cd, 0, none⟩), .pointer (some ⟨ck, 0, none⟩), .pointer (some ⟨cu, 0, none⟩)] u fun e u' => ∃ A2 c2, e = .returned (.int .i64 (handPE p i k d t)) ∧ KeepF w (x :: (b, 33, ((p.setC (handPC p i k d t)).fd A2 c2).cells) :: l) ((A2, (p.setC (handPC p i k d t)).hs.length, (p.setC (handPC p i k d t)).hs) :: rows) u' ∧ Fresh w.heap.size A2 c2 (p.setC (handPC p i k d t)).hs from (cl_hand p HF.out k1 i k d t q0 hq0 q1 hq1 q2 hq2 q3 hq3 hk).mono fun e u' h => ⟨A, c, h.1, h.2, hf⟩
    have HP := Lib.hid (show (p.setC (handPC p i k d t)).full from handPC_length HF.out i k d t)
    generalize handPE p i k d t = E at hcl ⊢
    generalize (p.setC (handPC p i k d t)) = P1 at hcl HP ⊢
    by_cases h0 : E = 0
    · subst h0
      rw [toldP_0]
      go_enter Tryz.func57, Tryz.ntmps57
      go_wp2_with (first
        | (with_reducible refine box_f HK.out rfl _ rfl rfl ?_; intro b u hk; clear HK; have HK := Lib.hid hk; clear hk)
        | (with_reducible refine alloc_f HK.out f_zeroP rfl rfl ?_; intro br u hk; clear HK; have HK := Lib.hid hk; clear hk)
        | (with_reducible refine load_f1 HK.out 1 cbI _ rfl rfl rfl rfl hkc ?_)
        | (with_reducible refine load_fr HK.out 1 Tryz.underlying33 rfl (Pf.infoF HF.out) _ rfl rfl rfl rfl Pf.all ?_)
        | (go_at_call 79; (with_reducible refine (apart_any p HF.out A c _ (HK.out.rowAt m HM.out)).mono ?_); rintro e u ⟨A1, c1, rfl, hr, hf, hb⟩; have HX := Lib.hid (hf.mono HK.out.bel.size); have hk := HK.out.fresh hb hr hf; clear hr hf hb; clear HK; have HK := Lib.hid hk; clear hk)
        | (with_reducible refine store_fr HK.out 1 (Pf.infoF HF.out) (Fd.one _) rfl rfl _ _ rfl rfl rfl rfl (Fd.leP HF.out HF.out) (Fd.setAllP HF.out HF.out) ?_; intro u hk; simp only [List.set_cons_zero, List.set_cons_succ] at hk; clear HK; have HK := Lib.hid hk; clear hk)
        | (go_at_call 64; (with_reducible refine (hcl HX.out HK.out).mono ?_); rintro e u ⟨A2, c2, rfl, hk, hf⟩; have HY := Lib.hid hf; clear hf; clear HK; have HK := Lib.hid hk; clear hk)
        | (with_reducible refine load_fr HK.out 1 Tryz.underlying33 rfl (Pf.infoF HP.out) _ rfl rfl rfl rfl Pf.all ?_)
        | (with_reducible refine store_fr HK.out 0 (Pf.infoF HP.out) (Fd.one _) rfl rfl _ _ rfl rfl rfl rfl (Fd.leP zP_full HP.out) (Fd.setAllP zP_full HP.out) ?_; intro u hk; simp only [List.set_cons_zero] at hk; clear HK; have HK := Lib.hid hk; clear hk))
      exact bodyPost_ret (results_f2 rfl Tryz.underlying33 rfl (Pf.infoF HP.out) _ HK.out 0 _ rfl rfl rfl) rfl ⟨A2, c2, rfl, HK.out.tail.tail, HY.out⟩
    · rw [toldP_n _ h0]
      have d0 : (E != 0) = true := by simpa using h0
      go_enter Tryz.func57, Tryz.ntmps57
      go_wp2_with (first
        | (with_reducible refine box_f HK.out rfl _ rfl rfl ?_; intro b u hk; clear HK; have HK := Lib.hid hk; clear hk)
        | (with_reducible refine alloc_f HK.out f_zeroP rfl rfl ?_; intro br u hk; clear HK; have HK := Lib.hid hk; clear hk)
        | (with_reducible refine load_f1 HK.out 1 cbI _ rfl rfl rfl rfl hkc ?_)
        | (with_reducible refine load_fr HK.out 1 Tryz.underlying33 rfl (Pf.infoF HF.out) _ rfl rfl rfl rfl Pf.all ?_)
        | (go_at_call 79; (with_reducible refine (apart_any p HF.out A c _ (HK.out.rowAt m HM.out)).mono ?_); rintro e u ⟨A1, c1, rfl, hr, hf, hb⟩; have HX := Lib.hid (hf.mono HK.out.bel.size); have hk := HK.out.fresh hb hr hf; clear hr hf hb; clear HK; have HK := Lib.hid hk; clear hk)
        | (with_reducible refine store_fr HK.out 1 (Pf.infoF HF.out) (Fd.one _) rfl rfl _ _ rfl rfl rfl rfl (Fd.leP HF.out HF.out) (Fd.setAllP HF.out HF.out) ?_; intro u hk; simp only [List.set_cons_zero, List.set_cons_succ] at hk; clear HK; have HK := Lib.hid hk; clear hk)
        | (go_at_call 64; (with_reducible refine (hcl HX.out HK.out).mono ?_); rintro e u ⟨A2, c2, rfl, hk, hf⟩; have HY := Lib.hid hf; clear hf; clear HK; have HK := Lib.hid hk; clear hk)
        | (with_reducible refine build_f f_buildP rfl rfl ?_)
        | (with_reducible refine store_fr HK.out 0 (Pf.infoF zP_full) (Fd.one _) rfl rfl _ _ rfl rfl rfl rfl (Fd.leP zP_full zP_full) (Fd.setAllP zP_full zP_full) ?_; intro u hk; simp only [List.set_cons_zero] at hk; clear HK; have HK := Lib.hid hk; clear hk))
      exact bodyPost_ret (results_f2 rfl Tryz.underlying33 rfl (Pf.infoF zP_full) _ HK.out 0 _ rfl rfl rfl) rfl ⟨none, 0, rfl, HK.out.tail.tail.rtail.rnil _, Fresh.nil _ _ _⟩
  · rw [show handPE p i k d t = 17 by unfold handPE; rw [if_neg k1]]
    rw [toldP_n _ (by decide)]
    have hkc : (p.fd A c).cells[1]? = some (.int .i64 p.k) := Pf.ck
    generalize p.k = K at k1 hkc
    go_enter Tryz.func57, Tryz.ntmps57
    go_wp2_with (first
      | (with_reducible refine box_f HK.out rfl _ rfl rfl ?_; intro b u hk; clear HK; have HK := Lib.hid hk; clear hk)
      | (with_reducible refine alloc_f HK.out f_zeroP rfl rfl ?_; intro br u hk; clear HK; have HK := Lib.hid hk; clear hk)
      | (with_reducible refine load_f1 HK.out 1 cbI _ rfl rfl rfl rfl hkc ?_)
      | (with_reducible refine build_f f_buildP rfl rfl ?_)
      | (with_reducible refine store_fr HK.out 0 (Pf.infoF zP_full) (Fd.one _) rfl rfl _ _ rfl rfl rfl rfl (Fd.leP zP_full zP_full) (Fd.setAllP zP_full zP_full) ?_; intro u hk; simp only [List.set_cons_zero] at hk; clear HK; have HK := Lib.hid hk; clear hk))
    exact bodyPost_ret (results_f2 rfl Tryz.underlying33 rfl (Pf.infoF zP_full) _ HK.out 0 _ rfl rfl rfl) rfl ⟨none, 0, rfl, HK.out.tail.tail.rnil _, Fresh.nil _ _ _⟩
set_option maxHeartbeats 2000000 in
theorem ch_write (p : Pf) (hp : p.full) (k n : Int) {w u : World} {l : List (Nat × TypeId × List Value)} {rows : List (Option Addr × Nat × List Ho)} {A : Option Addr} {c : Nat} {ck cn : Nat} (i : Nat) (hi : l[i]? = some (ck, 3, [.int .i64 k])) (j : Nat) (hj : l[j]? = some (cn, 3, [.int .i64 n])) (m : Nat) (hm : rows[m]? = some (A, p.hs.length, p.hs)) (hk : KeepF w l rows u) :
    Calls Tryz.prog 57 #[.agg (p.fd A c).cells.toArray, .int .i64 2, .func (Fn.func 67) #[] #[.pointer (some ⟨ck, 0, none⟩), .pointer (some ⟨cn, 0, none⟩)]] u fun e u' => ∃ A1 c1, e = .returned (.tuple #[.agg ((toldP (p.setL (wrA p.L k n)) (wrPE p k n)).fd A1 c1).cells.toArray, .int .i64 (wrPE p k n)]) ∧ KeepF w l ((A1, (toldP (p.setL (wrA p.L k n)) (wrPE p k n)).hs.length, (toldP (p.setL (wrA p.L k n)) (wrPE p k n)).hs) :: rows) u' ∧ Fresh w.heap.size A1 c1 (toldP (p.setL (wrA p.L k n)) (wrPE p k n)).hs := by
  have HK := Lib.hid hk; clear hk
  have HF := Lib.hid hp; clear hp
  have HM := Lib.hid hm; clear hm
  by_cases k1 : p.k = 2
  · have hkc : (p.fd A c).cells[1]? = some (.int .i64 2) := by rw [Pf.ck, k1]
    have hcl := fun {x : Nat × TypeId × List Value} {u : World} {b : Nat} {A : Option Addr} {c : Nat} (hf : Fresh w.heap.size A c p.hs) (hk : KeepF w (x :: (b, 33, (p.fd A c).cells) :: l) ((A, p.hs.length, p.hs) :: rows) u) => show Calls Tryz.prog 67 #[.pointer (some ⟨b, 0, none⟩), .pointer (some ⟨ck, 0, none⟩), .pointer (some ⟨cn, 0, none⟩)] u fun e u' => ∃ A2 c2, e = .returned (.int .i64 (wrE p.L k n)) ∧ KeepF w (x :: (b, 33, ((p.setL (wrA p.L k n)).fd A2 c2).cells) :: l) ((A2, (p.setL (wrA p.L k n)).hs.length, (p.setL (wrA p.L k n)).hs) :: rows) u' ∧ Fresh w.heap.size A2 c2 (p.setL (wrA p.L k n)).hs from (cl_write p HF.out k n i hi j hj hk).mono fun e u' h => ⟨A, c, h.1, h.2, hf⟩
    have HP := Lib.hid (show (p.setL (wrA p.L k n)).full from HF.out)
    rw [show wrPE p k n = wrE p.L k n by unfold wrPE; rw [if_pos k1]]
    generalize wrE p.L k n = E at hcl ⊢
    generalize (p.setL (wrA p.L k n)) = P1 at hcl HP ⊢
    by_cases h0 : E = 0
    · subst h0
      rw [toldP_0]
      go_enter Tryz.func57, Tryz.ntmps57
      go_wp2_with (first
        | (with_reducible refine box_f HK.out rfl _ rfl rfl ?_; intro b u hk; clear HK; have HK := Lib.hid hk; clear hk)
        | (with_reducible refine alloc_f HK.out f_zeroP rfl rfl ?_; intro br u hk; clear HK; have HK := Lib.hid hk; clear hk)
        | (with_reducible refine load_f1 HK.out 1 cbI _ rfl rfl rfl rfl hkc ?_)
        | (with_reducible refine load_fr HK.out 1 Tryz.underlying33 rfl (Pf.infoF HF.out) _ rfl rfl rfl rfl Pf.all ?_)
        | (go_at_call 79; (with_reducible refine (apart_any p HF.out A c _ (HK.out.rowAt m HM.out)).mono ?_); rintro e u ⟨A1, c1, rfl, hr, hf, hb⟩; have HX := Lib.hid (hf.mono HK.out.bel.size); have hk := HK.out.fresh hb hr hf; clear hr hf hb; clear HK; have HK := Lib.hid hk; clear hk)
        | (with_reducible refine store_fr HK.out 1 (Pf.infoF HF.out) (Fd.one _) rfl rfl _ _ rfl rfl rfl rfl (Fd.leP HF.out HF.out) (Fd.setAllP HF.out HF.out) ?_; intro u hk; simp only [List.set_cons_zero, List.set_cons_succ] at hk; clear HK; have HK := Lib.hid hk; clear hk)
        | (go_at_call 67; (with_reducible refine (hcl HX.out HK.out).mono ?_); rintro e u ⟨A2, c2, rfl, hk, hf⟩; have HY := Lib.hid hf; clear hf; clear HK; have HK := Lib.hid hk; clear hk)
        | (with_reducible refine load_fr HK.out 1 Tryz.underlying33 rfl (Pf.infoF HP.out) _ rfl rfl rfl rfl Pf.all ?_)
        | (with_reducible refine store_fr HK.out 0 (Pf.infoF HP.out) (Fd.one _) rfl rfl _ _ rfl rfl rfl rfl (Fd.leP zP_full HP.out) (Fd.setAllP zP_full HP.out) ?_; intro u hk; simp only [List.set_cons_zero] at hk; clear HK; have HK := Lib.hid hk; clear hk))
      exact bodyPost_ret (results_f2 rfl Tryz.underlying33 rfl (Pf.infoF HP.out) _ HK.out 0 _ rfl rfl rfl) rfl ⟨A2, c2, rfl, HK.out.tail.tail, HY.out⟩
    · rw [toldP_n _ h0]
      have d0 : (E != 0) = true := by simpa using h0
      go_enter Tryz.func57, Tryz.ntmps57
      go_wp2_with (first
        | (with_reducible refine box_f HK.out rfl _ rfl rfl ?_; intro b u hk; clear HK; have HK := Lib.hid hk; clear hk)
        | (with_reducible refine alloc_f HK.out f_zeroP rfl rfl ?_; intro br u hk; clear HK; have HK := Lib.hid hk; clear hk)
        | (with_reducible refine load_f1 HK.out 1 cbI _ rfl rfl rfl rfl hkc ?_)
        | (with_reducible refine load_fr HK.out 1 Tryz.underlying33 rfl (Pf.infoF HF.out) _ rfl rfl rfl rfl Pf.all ?_)
        | (go_at_call 79; (with_reducible refine (apart_any p HF.out A c _ (HK.out.rowAt m HM.out)).mono ?_); rintro e u ⟨A1, c1, rfl, hr, hf, hb⟩; have HX := Lib.hid (hf.mono HK.out.bel.size); have hk := HK.out.fresh hb hr hf; clear hr hf hb; clear HK; have HK := Lib.hid hk; clear hk)
        | (with_reducible refine store_fr HK.out 1 (Pf.infoF HF.out) (Fd.one _) rfl rfl _ _ rfl rfl rfl rfl (Fd.leP HF.out HF.out) (Fd.setAllP HF.out HF.out) ?_; intro u hk; simp only [List.set_cons_zero, List.set_cons_succ] at hk; clear HK; have HK := Lib.hid hk; clear hk)
        | (go_at_call 67; (with_reducible refine (hcl HX.out HK.out).mono ?_); rintro e u ⟨A2, c2, rfl, hk, hf⟩; have HY := Lib.hid hf; clear hf; clear HK; have HK := Lib.hid hk; clear hk)
        | (with_reducible refine build_f f_buildP rfl rfl ?_)
        | (with_reducible refine store_fr HK.out 0 (Pf.infoF zP_full) (Fd.one _) rfl rfl _ _ rfl rfl rfl rfl (Fd.leP zP_full zP_full) (Fd.setAllP zP_full zP_full) ?_; intro u hk; simp only [List.set_cons_zero] at hk; clear HK; have HK := Lib.hid hk; clear hk))
      exact bodyPost_ret (results_f2 rfl Tryz.underlying33 rfl (Pf.infoF zP_full) _ HK.out 0 _ rfl rfl rfl) rfl ⟨none, 0, rfl, HK.out.tail.tail.rtail.rnil _, Fresh.nil _ _ _⟩
  · rw [show wrPE p k n = 17 by unfold wrPE; rw [if_neg k1]]
    rw [toldP_n _ (by decide)]
    have hkc : (p.fd A c).cells[1]? = some (.int .i64 p.k) := Pf.ck
    generalize p.k = K at k1 hkc
    go_enter Tryz.func57, Tryz.ntmps57
    go_wp2_with (first
      | (with_reducible refine box_f HK.out rfl _ rfl rfl ?_; intro b u hk; clear HK; have HK := Lib.hid hk; clear hk)
      | (with_reducible refine alloc_f HK.out f_zeroP rfl rfl ?_; intro br u hk; clear HK; have HK := Lib.hid hk; clear hk)
      | (with_reducible refine load_f1 HK.out 1 cbI _ rfl rfl rfl rfl hkc ?_)
      | (with_reducible refine build_f f_buildP rfl rfl ?_)
      | (with_reducible refine store_fr HK.out 0 (Pf.infoF zP_full) (Fd.one _) rfl rfl _ _ rfl rfl rfl rfl (Fd.leP zP_full zP_full) (Fd.setAllP zP_full zP_full) ?_; intro u hk; simp only [List.set_cons_zero] at hk; clear HK; have HK := Lib.hid hk; clear hk))
    exact bodyPost_ret (results_f2 rfl Tryz.underlying33 rfl (Pf.infoF zP_full) _ HK.out 0 _ rfl rfl rfl) rfl ⟨none, 0, rfl, HK.out.tail.tail.rnil _, Fresh.nil _ _ _⟩
set_option maxHeartbeats 2000000 in
theorem ch_pass (p : Pf) (hp : p.full) (k n : Int) {w u : World} {l : List (Nat × TypeId × List Value)} {rows : List (Option Addr × Nat × List Ho)} {A : Option Addr} {c : Nat} {ck cn : Nat} (i : Nat) (hi : l[i]? = some (ck, 3, [.int .i64 k])) (j : Nat) (hj : l[j]? = some (cn, 3, [.int .i64 n])) (m : Nat) (hm : rows[m]? = some (A, p.hs.length, p.hs)) (hk : KeepF w l rows u) :
    Calls Tryz.prog 57 #[.agg (p.fd A c).cells.toArray, .int .i64 2, .func (Fn.func 70) #[] #[.pointer (some ⟨ck, 0, none⟩), .pointer (some ⟨cn, 0, none⟩)]] u fun e u' => ∃ A1 c1, e = .returned (.tuple #[.agg ((toldP (p.setL (psA p.L k n)) (psPE p k n)).fd A1 c1).cells.toArray, .int .i64 (psPE p k n)]) ∧ KeepF w l ((A1, (toldP (p.setL (psA p.L k n)) (psPE p k n)).hs.length, (toldP (p.setL (psA p.L k n)) (psPE p k n)).hs) :: rows) u' ∧ Fresh w.heap.size A1 c1 (toldP (p.setL (psA p.L k n)) (psPE p k n)).hs := by
  have HK := Lib.hid hk; clear hk
  have HF := Lib.hid hp; clear hp
  have HM := Lib.hid hm; clear hm
  by_cases k1 : p.k = 2
  · have hkc : (p.fd A c).cells[1]? = some (.int .i64 2) := by rw [Pf.ck, k1]
    have hcl := fun {x : Nat × TypeId × List Value} {u : World} {b : Nat} {A : Option Addr} {c : Nat} (hf : Fresh w.heap.size A c p.hs) (hk : KeepF w (x :: (b, 33, (p.fd A c).cells) :: l) ((A, p.hs.length, p.hs) :: rows) u) => show Calls Tryz.prog 70 #[.pointer (some ⟨b, 0, none⟩), .pointer (some ⟨ck, 0, none⟩), .pointer (some ⟨cn, 0, none⟩)] u fun e u' => ∃ A2 c2, e = .returned (.int .i64 (psE p.L k n)) ∧ KeepF w (x :: (b, 33, ((p.setL (psA p.L k n)).fd A2 c2).cells) :: l) ((A2, (p.setL (psA p.L k n)).hs.length, (p.setL (psA p.L k n)).hs) :: rows) u' ∧ Fresh w.heap.size A2 c2 (p.setL (psA p.L k n)).hs from (cl_pass p HF.out k n i hi j hj hk).mono fun e u' h => ⟨A, c, h.1, h.2, hf⟩
    have HP := Lib.hid (show (p.setL (psA p.L k n)).full from HF.out)
    rw [show psPE p k n = psE p.L k n by unfold psPE; rw [if_pos k1]]
    generalize psE p.L k n = E at hcl ⊢
    generalize (p.setL (psA p.L k n)) = P1 at hcl HP ⊢
    by_cases h0 : E = 0
    · subst h0
      rw [toldP_0]
      go_enter Tryz.func57, Tryz.ntmps57
      go_wp2_with (first
        | (with_reducible refine box_f HK.out rfl _ rfl rfl ?_; intro b u hk; clear HK; have HK := Lib.hid hk; clear hk)
        | (with_reducible refine alloc_f HK.out f_zeroP rfl rfl ?_; intro br u hk; clear HK; have HK := Lib.hid hk; clear hk)
        | (with_reducible refine load_f1 HK.out 1 cbI _ rfl rfl rfl rfl hkc ?_)
        | (with_reducible refine load_fr HK.out 1 Tryz.underlying33 rfl (Pf.infoF HF.out) _ rfl rfl rfl rfl Pf.all ?_)
        | (go_at_call 79; (with_reducible refine (apart_any p HF.out A c _ (HK.out.rowAt m HM.out)).mono ?_); rintro e u ⟨A1, c1, rfl, hr, hf, hb⟩; have HX := Lib.hid (hf.mono HK.out.bel.size); have hk := HK.out.fresh hb hr hf; clear hr hf hb; clear HK; have HK := Lib.hid hk; clear hk)
        | (with_reducible refine store_fr HK.out 1 (Pf.infoF HF.out) (Fd.one _) rfl rfl _ _ rfl rfl rfl rfl (Fd.leP HF.out HF.out) (Fd.setAllP HF.out HF.out) ?_; intro u hk; simp only [List.set_cons_zero, List.set_cons_succ] at hk; clear HK; have HK := Lib.hid hk; clear hk)
        | (go_at_call 70; (with_reducible refine (hcl HX.out HK.out).mono ?_); rintro e u ⟨A2, c2, rfl, hk, hf⟩; have HY := Lib.hid hf; clear hf; clear HK; have HK := Lib.hid hk; clear hk)
        | (with_reducible refine load_fr HK.out 1 Tryz.underlying33 rfl (Pf.infoF HP.out) _ rfl rfl rfl rfl Pf.all ?_)
        | (with_reducible refine store_fr HK.out 0 (Pf.infoF HP.out) (Fd.one _) rfl rfl _ _ rfl rfl rfl rfl (Fd.leP zP_full HP.out) (Fd.setAllP zP_full HP.out) ?_; intro u hk; simp only [List.set_cons_zero] at hk; clear HK; have HK := Lib.hid hk; clear hk))
      exact bodyPost_ret (results_f2 rfl Tryz.underlying33 rfl (Pf.infoF HP.out) _ HK.out 0 _ rfl rfl rfl) rfl ⟨A2, c2, rfl, HK.out.tail.tail, HY.out⟩
    · rw [toldP_n _ h0]
      have d0 : (E != 0) = true := by simpa using h0
      go_enter Tryz.func57, Tryz.ntmps57
      go_wp2_with (first
        | (with_reducible refine box_f HK.out rfl _ rfl rfl ?_; intro b u hk; clear HK; have HK := Lib.hid hk; clear hk)
        | (with_reducible refine alloc_f HK.out f_zeroP rfl rfl ?_; intro br u hk; clear HK; have HK := Lib.hid hk; clear hk)
        | (with_reducible refine load_f1 HK.out 1 cbI _ rfl rfl rfl rfl hkc ?_)
        | (with_reducible refine load_fr HK.out 1 Tryz.underlying33 rfl (Pf.infoF HF.out) _ rfl rfl rfl rfl Pf.all ?_)
        | (go_at_call 79; (with_reducible refine (apart_any p HF.out A c _ (HK.out.rowAt m HM.out)).mono ?_); rintro e u ⟨A1, c1, rfl, hr, hf, hb⟩; have HX := Lib.hid (hf.mono HK.out.bel.size); have hk := HK.out.fresh hb hr hf; clear hr hf hb; clear HK; have HK := Lib.hid hk; clear hk)
        | (with_reducible refine store_fr HK.out 1 (Pf.infoF HF.out) (Fd.one _) rfl rfl _ _ rfl rfl rfl rfl (Fd.leP HF.out HF.out) (Fd.setAllP HF.out HF.out) ?_; intro u hk; simp only [List.set_cons_zero, List.set_cons_succ] at hk; clear HK; have HK := Lib.hid hk; clear hk)
        | (go_at_call 70; (with_reducible refine (hcl HX.out HK.out).mono ?_); rintro e u ⟨A2, c2, rfl, hk, hf⟩; have HY := Lib.hid hf; clear hf; clear HK; have HK := Lib.hid hk; clear hk)
        | (with_reducible refine build_f f_buildP rfl rfl ?_)
        | (with_reducible refine store_fr HK.out 0 (Pf.infoF zP_full) (Fd.one _) rfl rfl _ _ rfl rfl rfl rfl (Fd.leP zP_full zP_full) (Fd.setAllP zP_full zP_full) ?_; intro u hk; simp only [List.set_cons_zero] at hk; clear HK; have HK := Lib.hid hk; clear hk))
      exact bodyPost_ret (results_f2 rfl Tryz.underlying33 rfl (Pf.infoF zP_full) _ HK.out 0 _ rfl rfl rfl) rfl ⟨none, 0, rfl, HK.out.tail.tail.rtail.rnil _, Fresh.nil _ _ _⟩
  · rw [show psPE p k n = 17 by unfold psPE; rw [if_neg k1]]
    rw [toldP_n _ (by decide)]
    have hkc : (p.fd A c).cells[1]? = some (.int .i64 p.k) := Pf.ck
    generalize p.k = K at k1 hkc
    go_enter Tryz.func57, Tryz.ntmps57
    go_wp2_with (first
      | (with_reducible refine box_f HK.out rfl _ rfl rfl ?_; intro b u hk; clear HK; have HK := Lib.hid hk; clear hk)
      | (with_reducible refine alloc_f HK.out f_zeroP rfl rfl ?_; intro br u hk; clear HK; have HK := Lib.hid hk; clear hk)
      | (with_reducible refine load_f1 HK.out 1 cbI _ rfl rfl rfl rfl hkc ?_)
      | (with_reducible refine build_f f_buildP rfl rfl ?_)
      | (with_reducible refine store_fr HK.out 0 (Pf.infoF zP_full) (Fd.one _) rfl rfl _ _ rfl rfl rfl rfl (Fd.leP zP_full zP_full) (Fd.setAllP zP_full zP_full) ?_; intro u hk; simp only [List.set_cons_zero] at hk; clear HK; have HK := Lib.hid hk; clear hk))
    exact bodyPost_ret (results_f2 rfl Tryz.underlying33 rfl (Pf.infoF zP_full) _ HK.out 0 _ rfl rfl rfl) rfl ⟨none, 0, rfl, HK.out.tail.tail.rnil _, Fresh.nil _ _ _⟩
set_option maxHeartbeats 2000000 in
theorem ch_reserve (p : Pf) (hp : p.full) (k a d : Int) {w u : World} {l : List (Nat × TypeId × List Value)} {rows : List (Option Addr × Nat × List Ho)} {A : Option Addr} {c : Nat} {ck ca cd cm : Nat} (q0 : Nat) (hq0 : l[q0]? = some (ck, 3, [.int .i64 k])) (q1 : Nat) (hq1 : l[q1]? = some (ca, 3, [.int .i64 a])) (q2 : Nat) (hq2 : l[q2]? = some (cd, 3, [.int .i64 d])) (j : Nat) (hj : l[j]? = some (cm, 3, [.int .i64 0])) (n0 : j ≠ q0) (n1 : j ≠ q1) (n2 : j ≠ q2) (m : Nat) (hm : rows[m]? = some (A, p.hs.length, p.hs)) (hk : KeepF w l rows u) :
    Calls Tryz.prog 57 #[.agg (p.fd A c).cells.toArray, .int .i64 1, .func (Fn.func 73) #[] #[.pointer (some ⟨ck, 0, none⟩), .pointer (some ⟨ca, 0, none⟩), .pointer (some ⟨cd, 0, none⟩), .pointer (some ⟨cm, 0, none⟩)]] u fun e u' => ∃ A1 c1, e = .returned (.tuple #[.agg ((toldP (p.setH (resPH p k a d)) (resPE p k a d)).fd A1 c1).cells.toArray, .int .i64 (resPE p k a d)]) ∧ KeepF w (l.set j (cm, 3, [.int .i64 (resPN p k a d)])) ((A1, (toldP (p.setH (resPH p k a d)) (resPE p k a d)).hs.length, (toldP (p.setH (resPH p k a d)) (resPE p k a d)).hs) :: rows) u' ∧ Fresh w.heap.size A1 c1 (toldP (p.setH (resPH p k a d)) (resPE p k a d)).hs := by
  have HK := Lib.hid hk; clear hk
  have HF := Lib.hid hp; clear hp
  have HM := Lib.hid hm; clear hm
  by_cases k1 : p.k = 1
  · have hkc : (p.fd A c).cells[1]? = some (.int .i64 1) := by rw [Pf.ck, k1]
    have hcl := fun {x : Nat × TypeId × List Value} {u : World} {b : Nat} {A : Option Addr} {c : Nat} (hf : Fresh w.heap.size A c p.hs) (hk : KeepF w (x :: (b, 33, (p.fd A c).cells) :: l) ((A, p.hs.length, p.hs) :: rows) u) => show Calls Tryz.prog 73 #[.pointer (some ⟨b, 0, none⟩), .pointer (some ⟨ck, 0, none⟩), .pointer (some ⟨ca, 0, none⟩), .pointer (some ⟨cd, 0, none⟩), .pointer (some ⟨cm, 0, none⟩)] u fun e u' => ∃ A2 c2, e = .returned (.int .i64 (resPE p k a d)) ∧ KeepF w (x :: (b, 33, ((p.setH (resPH p k a d)).fd A2 c2).cells) :: (l.set j (cm, 3, [.int .i64 (resPN p k a d)]))) ((A2, (p.setH (resPH p k a d)).hs.length, (p.setH (resPH p k a d)).hs) :: rows) u' ∧ Fresh w.heap.size A2 c2 (p.setH (resPH p k a d)).hs from cl_reserve p HF.out k1 k a d q0 hq0 q1 hq1 q2 hq2 j hj n0 n1 n2 hf hk
    have HP := Lib.hid (show (p.setH (resPH p k a d)).full from HF.out)
    generalize resPN p k a d = N at hcl ⊢
    generalize resPE p k a d = E at hcl ⊢
    generalize (p.setH (resPH p k a d)) = P1 at hcl HP ⊢
    by_cases h0 : E = 0
    · subst h0
      rw [toldP_0]
      go_enter Tryz.func57, Tryz.ntmps57
      go_wp2_with (first
        | (with_reducible refine box_f HK.out rfl _ rfl rfl ?_; intro b u hk; clear HK; have HK := Lib.hid hk; clear hk)
        | (with_reducible refine alloc_f HK.out f_zeroP rfl rfl ?_; intro br u hk; clear HK; have HK := Lib.hid hk; clear hk)
        | (with_reducible refine load_f1 HK.out 1 cbI _ rfl rfl rfl rfl hkc ?_)
        | (with_reducible refine load_fr HK.out 1 Tryz.underlying33 rfl (Pf.infoF HF.out) _ rfl rfl rfl rfl Pf.all ?_)
        | (go_at_call 79; (with_reducible refine (apart_any p HF.out A c _ (HK.out.rowAt m HM.out)).mono ?_); rintro e u ⟨A1, c1, rfl, hr, hf, hb⟩; have HX := Lib.hid (hf.mono HK.out.bel.size); have hk := HK.out.fresh hb hr hf; clear hr hf hb; clear HK; have HK := Lib.hid hk; clear hk)
        | (with_reducible refine store_fr HK.out 1 (Pf.infoF HF.out) (Fd.one _) rfl rfl _ _ rfl rfl rfl rfl (Fd.leP HF.out HF.out) (Fd.setAllP HF.out HF.out) ?_; intro u hk; simp only [List.set_cons_zero, List.set_cons_succ] at hk; clear HK; have HK := Lib.hid hk; clear hk)
        | (go_at_call 73; (with_reducible refine (hcl HX.out HK.out).mono ?_); rintro e u ⟨A2, c2, rfl, hk, hf⟩; have HY := Lib.hid hf; clear hf; clear HK; have HK := Lib.hid hk; clear hk)
        | (with_reducible refine load_fr HK.out 1 Tryz.underlying33 rfl (Pf.infoF HP.out) _ rfl rfl rfl rfl Pf.all ?_)
        | (with_reducible refine store_fr HK.out 0 (Pf.infoF HP.out) (Fd.one _) rfl rfl _ _ rfl rfl rfl rfl (Fd.leP zP_full HP.out) (Fd.setAllP zP_full HP.out) ?_; intro u hk; simp only [List.set_cons_zero] at hk; clear HK; have HK := Lib.hid hk; clear hk))
      exact bodyPost_ret (results_f2 rfl Tryz.underlying33 rfl (Pf.infoF HP.out) _ HK.out 0 _ rfl rfl rfl) rfl ⟨A2, c2, rfl, HK.out.tail.tail, HY.out⟩
    · rw [toldP_n _ h0]
      have d0 : (E != 0) = true := by simpa using h0
      go_enter Tryz.func57, Tryz.ntmps57
      go_wp2_with (first
        | (with_reducible refine box_f HK.out rfl _ rfl rfl ?_; intro b u hk; clear HK; have HK := Lib.hid hk; clear hk)
        | (with_reducible refine alloc_f HK.out f_zeroP rfl rfl ?_; intro br u hk; clear HK; have HK := Lib.hid hk; clear hk)
        | (with_reducible refine load_f1 HK.out 1 cbI _ rfl rfl rfl rfl hkc ?_)
        | (with_reducible refine load_fr HK.out 1 Tryz.underlying33 rfl (Pf.infoF HF.out) _ rfl rfl rfl rfl Pf.all ?_)
        | (go_at_call 79; (with_reducible refine (apart_any p HF.out A c _ (HK.out.rowAt m HM.out)).mono ?_); rintro e u ⟨A1, c1, rfl, hr, hf, hb⟩; have HX := Lib.hid (hf.mono HK.out.bel.size); have hk := HK.out.fresh hb hr hf; clear hr hf hb; clear HK; have HK := Lib.hid hk; clear hk)
        | (with_reducible refine store_fr HK.out 1 (Pf.infoF HF.out) (Fd.one _) rfl rfl _ _ rfl rfl rfl rfl (Fd.leP HF.out HF.out) (Fd.setAllP HF.out HF.out) ?_; intro u hk; simp only [List.set_cons_zero, List.set_cons_succ] at hk; clear HK; have HK := Lib.hid hk; clear hk)
        | (go_at_call 73; (with_reducible refine (hcl HX.out HK.out).mono ?_); rintro e u ⟨A2, c2, rfl, hk, hf⟩; have HY := Lib.hid hf; clear hf; clear HK; have HK := Lib.hid hk; clear hk)
        | (with_reducible refine build_f f_buildP rfl rfl ?_)
        | (with_reducible refine store_fr HK.out 0 (Pf.infoF zP_full) (Fd.one _) rfl rfl _ _ rfl rfl rfl rfl (Fd.leP zP_full zP_full) (Fd.setAllP zP_full zP_full) ?_; intro u hk; simp only [List.set_cons_zero] at hk; clear HK; have HK := Lib.hid hk; clear hk))
      exact bodyPost_ret (results_f2 rfl Tryz.underlying33 rfl (Pf.infoF zP_full) _ HK.out 0 _ rfl rfl rfl) rfl ⟨none, 0, rfl, HK.out.tail.tail.rtail.rnil _, Fresh.nil _ _ _⟩
  · have hz0 : l.set j (cm, 3, [.int .i64 0]) = l := by
      apply List.ext_getElem?
      intro q
      rw [List.getElem?_set]
      split
      · rename_i e
        subst e
        rw [hj, if_pos (List.getElem?_eq_some_iff.1 hj).1]
      · rfl
    rw [show resPE p k a d = 17 by unfold resPE; rw [if_neg k1], show resPN p k a d = 0 by unfold resPN; rw [if_neg k1], hz0]
    clear hz0
    rw [toldP_n _ (by decide)]
    have hkc : (p.fd A c).cells[1]? = some (.int .i64 p.k) := Pf.ck
    generalize p.k = K at k1 hkc
    go_enter Tryz.func57, Tryz.ntmps57
    go_wp2_with (first
      | (with_reducible refine box_f HK.out rfl _ rfl rfl ?_; intro b u hk; clear HK; have HK := Lib.hid hk; clear hk)
      | (with_reducible refine alloc_f HK.out f_zeroP rfl rfl ?_; intro br u hk; clear HK; have HK := Lib.hid hk; clear hk)
      | (with_reducible refine load_f1 HK.out 1 cbI _ rfl rfl rfl rfl hkc ?_)
      | (with_reducible refine build_f f_buildP rfl rfl ?_)
      | (with_reducible refine store_fr HK.out 0 (Pf.infoF zP_full) (Fd.one _) rfl rfl _ _ rfl rfl rfl rfl (Fd.leP zP_full zP_full) (Fd.setAllP zP_full zP_full) ?_; intro u hk; simp only [List.set_cons_zero] at hk; clear HK; have HK := Lib.hid hk; clear hk))
    exact bodyPost_ret (results_f2 rfl Tryz.underlying33 rfl (Pf.infoF zP_full) _ HK.out 0 _ rfl rfl rfl) rfl ⟨none, 0, rfl, HK.out.tail.tail.rnil _, Fresh.nil _ _ _⟩
set_option maxHeartbeats 2000000 in
theorem ch_end (p : Pf) (hp : p.full) (k n s : Int) {w u : World} {l : List (Nat × TypeId × List Value)} {rows : List (Option Addr × Nat × List Ho)} {A : Option Addr} {c : Nat} {ck cn ct : Nat} (q0 : Nat) (hq0 : l[q0]? = some (ck, 3, [.int .i64 k])) (q1 : Nat) (hq1 : l[q1]? = some (cn, 3, [.int .i64 n])) (q2 : Nat) (hq2 : l[q2]? = some (ct, 3, [.int .i64 s])) (m : Nat) (hm : rows[m]? = some (A, p.hs.length, p.hs)) (hk : KeepF w l rows u) :
    Calls Tryz.prog 57 #[.agg (p.fd A c).cells.toArray, .int .i64 1, .func (Fn.func 76) #[] #[.pointer (some ⟨ck, 0, none⟩), .pointer (some ⟨cn, 0, none⟩), .pointer (some ⟨ct, 0, none⟩)]] u fun e u' => ∃ A1 c1, e = .returned (.tuple #[.agg ((toldP ((p.setH (endL p.hs k n s)).setC (endPC p k n s)) (endPE p k n s)).fd A1 c1).cells.toArray, .int .i64 (endPE p k n s)]) ∧ KeepF w l ((A1, (toldP ((p.setH (endL p.hs k n s)).setC (endPC p k n s)) (endPE p k n s)).hs.length, (toldP ((p.setH (endL p.hs k n s)).setC (endPC p k n s)) (endPE p k n s)).hs) :: rows) u' ∧ Fresh w.heap.size A1 c1 (toldP ((p.setH (endL p.hs k n s)).setC (endPC p k n s)) (endPE p k n s)).hs := by
  have HK := Lib.hid hk; clear hk
  have HF := Lib.hid hp; clear hp
  have HM := Lib.hid hm; clear hm
  by_cases k1 : p.k = 1
  · have hkc : (p.fd A c).cells[1]? = some (.int .i64 1) := by rw [Pf.ck, k1]
    have hcl := fun {x : Nat × TypeId × List Value} {u : World} {b : Nat} {A : Option Addr} {c : Nat} (hf : Fresh w.heap.size A c p.hs) (hk : KeepF w (x :: (b, 33, (p.fd A c).cells) :: l) ((A, p.hs.length, p.hs) :: rows) u) => show Calls Tryz.prog 76 #[.pointer (some ⟨b, 0, none⟩), .pointer (some ⟨ck, 0, none⟩), .pointer (some ⟨cn, 0, none⟩), .pointer (some ⟨ct, 0, none⟩)] u fun e u' => ∃ A2 c2, e = .returned (.int .i64 (endPE p k n s)) ∧ KeepF w (x :: (b, 33, (((p.setH (endL p.hs k n s)).setC (endPC p k n s)).fd A2 c2).cells) :: l) ((A2, ((p.setH (endL p.hs k n s)).setC (endPC p k n s)).hs.length, ((p.setH (endL p.hs k n s)).setC (endPC p k n s)).hs) :: rows) u' ∧ Fresh w.heap.size A2 c2 ((p.setH (endL p.hs k n s)).setC (endPC p k n s)).hs from cl_end p HF.out k1 k n s q0 hq0 q1 hq1 q2 hq2 hk
    have HP := Lib.hid (show ((p.setH (endL p.hs k n s)).setC (endPC p k n s)).full from endPC_length HF.out k n s)
    generalize endPE p k n s = E at hcl ⊢
    generalize ((p.setH (endL p.hs k n s)).setC (endPC p k n s)) = P1 at hcl HP ⊢
    by_cases h0 : E = 0
    · subst h0
      rw [toldP_0]
      go_enter Tryz.func57, Tryz.ntmps57
      go_wp2_with (first
        | (with_reducible refine box_f HK.out rfl _ rfl rfl ?_; intro b u hk; clear HK; have HK := Lib.hid hk; clear hk)
        | (with_reducible refine alloc_f HK.out f_zeroP rfl rfl ?_; intro br u hk; clear HK; have HK := Lib.hid hk; clear hk)
        | (with_reducible refine load_f1 HK.out 1 cbI _ rfl rfl rfl rfl hkc ?_)
        | (with_reducible refine load_fr HK.out 1 Tryz.underlying33 rfl (Pf.infoF HF.out) _ rfl rfl rfl rfl Pf.all ?_)
        | (go_at_call 79; (with_reducible refine (apart_any p HF.out A c _ (HK.out.rowAt m HM.out)).mono ?_); rintro e u ⟨A1, c1, rfl, hr, hf, hb⟩; have HX := Lib.hid (hf.mono HK.out.bel.size); have hk := HK.out.fresh hb hr hf; clear hr hf hb; clear HK; have HK := Lib.hid hk; clear hk)
        | (with_reducible refine store_fr HK.out 1 (Pf.infoF HF.out) (Fd.one _) rfl rfl _ _ rfl rfl rfl rfl (Fd.leP HF.out HF.out) (Fd.setAllP HF.out HF.out) ?_; intro u hk; simp only [List.set_cons_zero, List.set_cons_succ] at hk; clear HK; have HK := Lib.hid hk; clear hk)
        | (go_at_call 76; (with_reducible refine (hcl HX.out HK.out).mono ?_); rintro e u ⟨A2, c2, rfl, hk, hf⟩; have HY := Lib.hid hf; clear hf; clear HK; have HK := Lib.hid hk; clear hk)
        | (with_reducible refine load_fr HK.out 1 Tryz.underlying33 rfl (Pf.infoF HP.out) _ rfl rfl rfl rfl Pf.all ?_)
        | (with_reducible refine store_fr HK.out 0 (Pf.infoF HP.out) (Fd.one _) rfl rfl _ _ rfl rfl rfl rfl (Fd.leP zP_full HP.out) (Fd.setAllP zP_full HP.out) ?_; intro u hk; simp only [List.set_cons_zero] at hk; clear HK; have HK := Lib.hid hk; clear hk))
      exact bodyPost_ret (results_f2 rfl Tryz.underlying33 rfl (Pf.infoF HP.out) _ HK.out 0 _ rfl rfl rfl) rfl ⟨A2, c2, rfl, HK.out.tail.tail, HY.out⟩
    · rw [toldP_n _ h0]
      have d0 : (E != 0) = true := by simpa using h0
      go_enter Tryz.func57, Tryz.ntmps57
      go_wp2_with (first
        | (with_reducible refine box_f HK.out rfl _ rfl rfl ?_; intro b u hk; clear HK; have HK := Lib.hid hk; clear hk)
        | (with_reducible refine alloc_f HK.out f_zeroP rfl rfl ?_; intro br u hk; clear HK; have HK := Lib.hid hk; clear hk)
        | (with_reducible refine load_f1 HK.out 1 cbI _ rfl rfl rfl rfl hkc ?_)
        | (with_reducible refine load_fr HK.out 1 Tryz.underlying33 rfl (Pf.infoF HF.out) _ rfl rfl rfl rfl Pf.all ?_)
        | (go_at_call 79; (with_reducible refine (apart_any p HF.out A c _ (HK.out.rowAt m HM.out)).mono ?_); rintro e u ⟨A1, c1, rfl, hr, hf, hb⟩; have HX := Lib.hid (hf.mono HK.out.bel.size); have hk := HK.out.fresh hb hr hf; clear hr hf hb; clear HK; have HK := Lib.hid hk; clear hk)
        | (with_reducible refine store_fr HK.out 1 (Pf.infoF HF.out) (Fd.one _) rfl rfl _ _ rfl rfl rfl rfl (Fd.leP HF.out HF.out) (Fd.setAllP HF.out HF.out) ?_; intro u hk; simp only [List.set_cons_zero, List.set_cons_succ] at hk; clear HK; have HK := Lib.hid hk; clear hk)
        | (go_at_call 76; (with_reducible refine (hcl HX.out HK.out).mono ?_); rintro e u ⟨A2, c2, rfl, hk, hf⟩; have HY := Lib.hid hf; clear hf; clear HK; have HK := Lib.hid hk; clear hk)
        | (with_reducible refine build_f f_buildP rfl rfl ?_)
        | (with_reducible refine store_fr HK.out 0 (Pf.infoF zP_full) (Fd.one _) rfl rfl _ _ rfl rfl rfl rfl (Fd.leP zP_full zP_full) (Fd.setAllP zP_full zP_full) ?_; intro u hk; simp only [List.set_cons_zero] at hk; clear HK; have HK := Lib.hid hk; clear hk))
      exact bodyPost_ret (results_f2 rfl Tryz.underlying33 rfl (Pf.infoF zP_full) _ HK.out 0 _ rfl rfl rfl) rfl ⟨none, 0, rfl, HK.out.tail.tail.rtail.rnil _, Fresh.nil _ _ _⟩
  · rw [show endPE p k n s = 17 by unfold endPE; rw [if_neg k1]]
    rw [toldP_n _ (by decide)]
    have hkc : (p.fd A c).cells[1]? = some (.int .i64 p.k) := Pf.ck
    generalize p.k = K at k1 hkc
    go_enter Tryz.func57, Tryz.ntmps57
    go_wp2_with (first
      | (with_reducible refine box_f HK.out rfl _ rfl rfl ?_; intro b u hk; clear HK; have HK := Lib.hid hk; clear hk)
      | (with_reducible refine alloc_f HK.out f_zeroP rfl rfl ?_; intro br u hk; clear HK; have HK := Lib.hid hk; clear hk)
      | (with_reducible refine load_f1 HK.out 1 cbI _ rfl rfl rfl rfl hkc ?_)
      | (with_reducible refine build_f f_buildP rfl rfl ?_)
      | (with_reducible refine store_fr HK.out 0 (Pf.infoF zP_full) (Fd.one _) rfl rfl _ _ rfl rfl rfl rfl (Fd.leP zP_full zP_full) (Fd.setAllP zP_full zP_full) ?_; intro u hk; simp only [List.set_cons_zero] at hk; clear HK; have HK := Lib.hid hk; clear hk))
    exact bodyPost_ret (results_f2 rfl Tryz.underlying33 rfl (Pf.infoF zP_full) _ HK.out 0 _ rfl rfl rfl) rfl ⟨none, 0, rfl, HK.out.tail.tail.rnil _, Fresh.nil _ _ _⟩
set_option maxHeartbeats 1000000 in
theorem fadd_any (p : Pf) (hp : p.full) (A : Option Addr) (c : Nat) (k n : Int) (w : World) (hd : Row w A p.hs.length p.hs) :
    Calls Tryz.prog 24 #[.agg (p.fd A c).cells.toArray, .int .i64 k, .int .i64 n] w fun e w' => ∃ A1 c1, e = .returned (.tuple #[.agg ((addP p k n).fd A1 c1).cells.toArray, .int .i64 (addPE p k n)]) ∧ Got w A p.hs.length w' A1 c1 (addP p k n).hs ∧ Below w.heap.size w w' := by
  have hmf : ∀ (fn : Fn) (first cap : Array Value) (w : World), (Instr.makeFunc fn first cap).run Tryz.prog w = .ok (.func fn first cap) w := fun _ _ _ _ => rfl
  have HK := Lib.hid (KeepF.start (w := w) (rows := [(A, p.hs.length, p.hs)]) (by simpa using hd))
  have HF := Lib.hid hp; clear hp
  have HP := Lib.hid (addP_full HF.out k n)
  go_enter Tryz.func24, Tryz.ntmps24
  go_wp2_with (first
    | (with_reducible refine box_f HK.out rfl _ rfl rfl ?_; intro b u hk; clear HK; have HK := Lib.hid hk; clear hk)
    | (with_reducible refine box_fi HK.out rfl _ rfl rfl ?_; intro bi u hk; clear HK; have HK := Lib.hid hk; clear hk)
    | (with_reducible refine alloc_f HK.out f_zeroP rfl rfl ?_; intro br u hk; clear HK; have HK := Lib.hid hk; clear hk)
    | (with_reducible refine load_fr HK.out 3 Tryz.underlying33 rfl (Pf.infoF HF.out) _ rfl rfl rfl rfl Pf.all ?_)
    | (go_at_call 57; (with_reducible refine (ch_add p HF.out k n 1 rfl 2 rfl 0 rfl HK.out).mono ?_); rintro e u ⟨A1, c1, rfl, hk, hf⟩; have HX := Lib.hid hf; clear hf; clear HK; have HK := Lib.hid hk; clear hk)
    | (with_reducible refine store_fr HK.out 0 (Pf.infoF HP.out) (Fd.one _) rfl rfl _ _ rfl rfl rfl rfl (Fd.leP zP_full HP.out) (Fd.setAllP zP_full HP.out) ?_; intro u hk; simp only [List.set_cons_zero] at hk; clear HK; have HK := Lib.hid hk; clear hk))
  exact bodyPost_ret (results_f2 rfl Tryz.underlying33 rfl (Pf.infoF HP.out) _ HK.out 0 _ rfl rfl rfl) rfl ⟨A1, c1, rfl, Got.of (HK.out.rowAt 0 rfl) HX.out, HK.out.bel⟩
set_option maxHeartbeats 1000000 in
theorem fhand_any (p : Pf) (hp : p.full) (A : Option Addr) (c : Nat) (i k d t : Int) (w : World) (hd : Row w A p.hs.length p.hs) :
    Calls Tryz.prog 26 #[.agg (p.fd A c).cells.toArray, .int .i64 i, .int .i64 k, .int .i64 d, .int .i64 t] w fun e w' => ∃ A1 c1, e = .returned (.tuple #[.agg ((handP p i k d t).fd A1 c1).cells.toArray, .int .i64 (handPE p i k d t)]) ∧ Got w A p.hs.length w' A1 c1 (handP p i k d t).hs ∧ Below w.heap.size w w' := by
  have hmf : ∀ (fn : Fn) (first cap : Array Value) (w : World), (Instr.makeFunc fn first cap).run Tryz.prog w = .ok (.func fn first cap) w := fun _ _ _ _ => rfl
  have HK := Lib.hid (KeepF.start (w := w) (rows := [(A, p.hs.length, p.hs)]) (by simpa using hd))
  have HF := Lib.hid hp; clear hp
  have HP := Lib.hid (handP_full HF.out i k d t)
  go_enter Tryz.func26, Tryz.ntmps26
  go_wp2_with (first
    | (with_reducible refine box_f HK.out rfl _ rfl rfl ?_; intro b u hk; clear HK; have HK := Lib.hid hk; clear hk)
    | (with_reducible refine box_fi HK.out rfl _ rfl rfl ?_; intro bi u hk; clear HK; have HK := Lib.hid hk; clear hk)
    | (with_reducible refine alloc_f HK.out f_zeroP rfl rfl ?_; intro br u hk; clear HK; have HK := Lib.hid hk; clear hk)
    | (with_reducible refine load_fr HK.out 5 Tryz.underlying33 rfl (Pf.infoF HF.out) _ rfl rfl rfl rfl Pf.all ?_)
    | (go_at_call 57; (with_reducible refine (ch_hand p HF.out i k d t 4 rfl 2 rfl 3 rfl 1 rfl 0 rfl HK.out).mono ?_); rintro e u ⟨A1, c1, rfl, hk, hf⟩; have HX := Lib.hid hf; clear hf; clear HK; have HK := Lib.hid hk; clear hk)
    | (with_reducible refine store_fr HK.out 0 (Pf.infoF HP.out) (Fd.one _) rfl rfl _ _ rfl rfl rfl rfl (Fd.leP zP_full HP.out) (Fd.setAllP zP_full HP.out) ?_; intro u hk; simp only [List.set_cons_zero] at hk; clear HK; have HK := Lib.hid hk; clear hk))
  exact bodyPost_ret (results_f2 rfl Tryz.underlying33 rfl (Pf.infoF HP.out) _ HK.out 0 _ rfl rfl rfl) rfl ⟨A1, c1, rfl, Got.of (HK.out.rowAt 0 rfl) HX.out, HK.out.bel⟩
set_option maxHeartbeats 1000000 in
theorem fwrite_any (p : Pf) (hp : p.full) (A : Option Addr) (c : Nat) (k n : Int) (w : World) (hd : Row w A p.hs.length p.hs) :
    Calls Tryz.prog 28 #[.agg (p.fd A c).cells.toArray, .int .i64 k, .int .i64 n] w fun e w' => ∃ A1 c1, e = .returned (.tuple #[.agg ((wrP p k n).fd A1 c1).cells.toArray, .int .i64 (wrPE p k n)]) ∧ Got w A p.hs.length w' A1 c1 (wrP p k n).hs ∧ Below w.heap.size w w' := by
  have hmf : ∀ (fn : Fn) (first cap : Array Value) (w : World), (Instr.makeFunc fn first cap).run Tryz.prog w = .ok (.func fn first cap) w := fun _ _ _ _ => rfl
  have HK := Lib.hid (KeepF.start (w := w) (rows := [(A, p.hs.length, p.hs)]) (by simpa using hd))
  have HF := Lib.hid hp; clear hp
  have HP := Lib.hid (wrP_full HF.out k n)
  go_enter Tryz.func28, Tryz.ntmps28
  go_wp2_with (first
    | (with_reducible refine box_f HK.out rfl _ rfl rfl ?_; intro b u hk; clear HK; have HK := Lib.hid hk; clear hk)
    | (with_reducible refine box_fi HK.out rfl _ rfl rfl ?_; intro bi u hk; clear HK; have HK := Lib.hid hk; clear hk)
    | (with_reducible refine alloc_f HK.out f_zeroP rfl rfl ?_; intro br u hk; clear HK; have HK := Lib.hid hk; clear hk)
    | (with_reducible refine load_fr HK.out 3 Tryz.underlying33 rfl (Pf.infoF HF.out) _ rfl rfl rfl rfl Pf.all ?_)
    | (go_at_call 57; (with_reducible refine (ch_write p HF.out k n 2 rfl 1 rfl 0 rfl HK.out).mono ?_); rintro e u ⟨A1, c1, rfl, hk, hf⟩; have HX := Lib.hid hf; clear hf; clear HK; have HK := Lib.hid hk; clear hk)
    | (with_reducible refine store_fr HK.out 0 (Pf.infoF HP.out) (Fd.one _) rfl rfl _ _ rfl rfl rfl rfl (Fd.leP zP_full HP.out) (Fd.setAllP zP_full HP.out) ?_; intro u hk; simp only [List.set_cons_zero] at hk; clear HK; have HK := Lib.hid hk; clear hk))
  exact bodyPost_ret (results_f2 rfl Tryz.underlying33 rfl (Pf.infoF HP.out) _ HK.out 0 _ rfl rfl rfl) rfl ⟨A1, c1, rfl, Got.of (HK.out.rowAt 0 rfl) HX.out, HK.out.bel⟩
set_option maxHeartbeats 1000000 in
theorem fpass_any (p : Pf) (hp : p.full) (A : Option Addr) (c : Nat) (k n : Int) (w : World) (hd : Row w A p.hs.length p.hs) :
    Calls Tryz.prog 30 #[.agg (p.fd A c).cells.toArray, .int .i64 k, .int .i64 n] w fun e w' => ∃ A1 c1, e = .returned (.tuple #[.agg ((psP p k n).fd A1 c1).cells.toArray, .int .i64 (psPE p k n)]) ∧ Got w A p.hs.length w' A1 c1 (psP p k n).hs ∧ Below w.heap.size w w' := by
  have hmf : ∀ (fn : Fn) (first cap : Array Value) (w : World), (Instr.makeFunc fn first cap).run Tryz.prog w = .ok (.func fn first cap) w := fun _ _ _ _ => rfl
  have HK := Lib.hid (KeepF.start (w := w) (rows := [(A, p.hs.length, p.hs)]) (by simpa using hd))
  have HF := Lib.hid hp; clear hp
  have HP := Lib.hid (psP_full HF.out k n)
  go_enter Tryz.func30, Tryz.ntmps30
  go_wp2_with (first
    | (with_reducible refine box_f HK.out rfl _ rfl rfl ?_; intro b u hk; clear HK; have HK := Lib.hid hk; clear hk)
    | (with_reducible refine box_fi HK.out rfl _ rfl rfl ?_; intro bi u hk; clear HK; have HK := Lib.hid hk; clear hk)
    | (with_reducible refine alloc_f HK.out f_zeroP rfl rfl ?_; intro br u hk; clear HK; have HK := Lib.hid hk; clear hk)
    | (with_reducible refine load_fr HK.out 3 Tryz.underlying33 rfl (Pf.infoF HF.out) _ rfl rfl rfl rfl Pf.all ?_)
    | (go_at_call 57; (with_reducible refine (ch_pass p HF.out k n 2 rfl 1 rfl 0 rfl HK.out).mono ?_); rintro e u ⟨A1, c1, rfl, hk, hf⟩; have HX := Lib.hid hf; clear hf; clear HK; have HK := Lib.hid hk; clear hk)
    | (with_reducible refine store_fr HK.out 0 (Pf.infoF HP.out) (Fd.one _) rfl rfl _ _ rfl rfl rfl rfl (Fd.leP zP_full HP.out) (Fd.setAllP zP_full HP.out) ?_; intro u hk; simp only [List.set_cons_zero] at hk; clear HK; have HK := Lib.hid hk; clear hk))
  exact bodyPost_ret (results_f2 rfl Tryz.underlying33 rfl (Pf.infoF HP.out) _ HK.out 0 _ rfl rfl rfl) rfl ⟨A1, c1, rfl, Got.of (HK.out.rowAt 0 rfl) HX.out, HK.out.bel⟩
set_option maxHeartbeats 1000000 in
theorem fend_any (p : Pf) (hp : p.full) (A : Option Addr) (c : Nat) (k n s : Int) (w : World) (hd : Row w A p.hs.length p.hs) :
    Calls Tryz.prog 34 #[.agg (p.fd A c).cells.toArray, .int .i64 k, .int .i64 n, .int .i64 s] w fun e w' => ∃ A1 c1, e = .returned (.tuple #[.agg ((endP p k n s).fd A1 c1).cells.toArray, .int .i64 (endPE p k n s)]) ∧ Got w A p.hs.length w' A1 c1 (endP p k n s).hs ∧ Below w.heap.size w w' := by
  have hmf : ∀ (fn : Fn) (first cap : Array Value) (w : World), (Instr.makeFunc fn first cap).run Tryz.prog w = .ok (.func fn first cap) w := fun _ _ _ _ => rfl
  have HK := Lib.hid (KeepF.start (w := w) (rows := [(A, p.hs.length, p.hs)]) (by simpa using hd))
  have HF := Lib.hid hp; clear hp
  have HP := Lib.hid (endP_full HF.out k n s)
  go_enter Tryz.func34, Tryz.ntmps34
  go_wp2_with (first
    | (with_reducible refine box_f HK.out rfl _ rfl rfl ?_; intro b u hk; clear HK; have HK := Lib.hid hk; clear hk)
    | (with_reducible refine box_fi HK.out rfl _ rfl rfl ?_; intro bi u hk; clear HK; have HK := Lib.hid hk; clear hk)
    | (with_reducible refine alloc_f HK.out f_zeroP rfl rfl ?_; intro br u hk; clear HK; have HK := Lib.hid hk; clear hk)
    | (with_reducible refine load_fr HK.out 4 Tryz.underlying33 rfl (Pf.infoF HF.out) _ rfl rfl rfl rfl Pf.all ?_)
    | (go_at_call 57; (with_reducible refine (ch_end p HF.out k n s 3 rfl 2 rfl 1 rfl 0 rfl HK.out).mono ?_); rintro e u ⟨A1, c1, rfl, hk, hf⟩; have HX := Lib.hid hf; clear hf; clear HK; have HK := Lib.hid hk; clear hk)
    | (with_reducible refine store_fr HK.out 0 (Pf.infoF HP.out) (Fd.one _) rfl rfl _ _ rfl rfl rfl rfl (Fd.leP zP_full HP.out) (Fd.setAllP zP_full HP.out) ?_; intro u hk; simp only [List.set_cons_zero] at hk; clear HK; have HK := Lib.hid hk; clear hk))
  exact bodyPost_ret (results_f2 rfl Tryz.underlying33 rfl (Pf.infoF HP.out) _ HK.out 0 _ rfl rfl rfl) rfl ⟨A1, c1, rfl, Got.of (HK.out.rowAt 0 rfl) HX.out, HK.out.bel⟩
end Go.Proofs.YtbaccghnneidgaaGreat
