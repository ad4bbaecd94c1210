/- A step in both disks: a cut, and a crash. -/
import Derived.Test.YtglhjfcngpednaaDe
namespace Go.Proofs.Ytglhjfcngpednaa
open Go.ChangeShapes Go.WideShapes Go.ChangeAt Go.RowKit

theorem KO.cap {w0 w : World} {A : Option Addr} {n c : Nat} {l : List UInt8} (h : KO w0 (.slice A n c) l w) : l.length = n ∧ n ≤ c := by
  obtain ⟨A', c', hv, hc⟩ := h.own.slice
  injection hv with _ h1 h2
  omega
section
variable {ops : Array Oper} {o : Oper} {a : Act} {S : World → Prop}
theorem yield_eqe {p q : Int} (x y : Operand) (ty : TypeId) (ho : o.op = .binOp .eql 39 x y ty) (hx : a.eval x = .int .i64 p) (hy : a.eval y = .int .i64 q) (hw : Region.wanted o (yielded ops a.tmps) = true) :
    YieldsIf Try.prog ops S o (.bool (p == q)) a :=
  .inl ⟨hw, fun w _ => by
    unfold execOp
    simp only [ho, hx, hy]
    simp [go_sem]⟩
theorem yield_eqb {p q : Bool} (x y : Operand) (ty : TypeId) (ho : o.op = .binOp .eql 4 x y ty) (hx : a.eval x = .bool p) (hy : a.eval y = .bool q) (hw : Region.wanted o (yielded ops a.tmps) = true) :
    YieldsIf Try.prog ops S o (.bool (p == q)) a :=
  .inl ⟨hw, fun w _ => by
    unfold execOp
    simp only [ho, hx, hy]
    simp [go_sem]⟩
end
set_option maxRecDepth 100000 in
theorem does4 (w : World) (r z f f' : Nat) (v : Value) (d : List UInt8) (B : Option Addr) (n cb : Nat) (x : List UInt8) (sn sm : Int) (sA : Option Addr) (k sc : Nat) (sb : List UInt8) (h : Din w r z f f' v d B n cb x sA k sb) : Calls Try.prog 12 #[.pointer (some ⟨r, 0, none⟩), .agg #[.int .i64 z, .int .i64 f', .slice B n cb], .agg #[.int .i64 4, .int .i64 sn, .int .i64 sm, .slice sA k sc]] w (DEnd w r z v (f = f' ∧ d = x) (cr f' n sn sm) (x.take (cr f' n sn sm)) (cr f d.length sn sm) (d.take (cr f d.length sn sm))) := by
  have HK := Lib.hid h.kf
  have HD := Lib.hid h.dk
  have HH := Lib.hid h
  clear h
  have T1 := True.intro
  go_enter Try.func12, Try.ntmps12
  go_wp2_with (first
    | (clear T1; (with_reducible refine box_k HK.out rfl rfl _ rfl rfl rfl ?_); intro b1 u hk; clear HK; have HK := Lib.hid hk; clear hk)
    | ((with_reducible refine box_k HK.out rfl rfl _ rfl rfl rfl ?_); intro b2 u hk; clear HK; have HK := Lib.hid hk; clear hk)
    | ((with_reducible refine alloc_k HK.out rfl r_zero rfl rfl rfl ?_); intro b3 u hk; clear HK; have HK := Lib.hid hk; clear hk)
    | (with_reducible refine load_k1 HK.out 1 rfl _ rfl rfl rfl rfl rfl ?_)
    | (go_at_call 16; (refine (crash_any r z f _ d sn sm HH.out.hf (by have := HH.out.hd; have := HH.out.hz; omega) _ (HK.out.dk 0 rfl)).mono ?_); rintro e u ⟨rfl, v', hd, hm⟩; have hk := HK.out.disk 0 rfl hm hd; simp only [List.set_cons_zero] at hk; clear hd hm; clear HK; have HK := Lib.hid hk; clear hk)
    | (with_reducible refine load_kr HK.out 2 Try.underlying29 rfl r_info _ rfl rfl rfl rfl rfl ?_)
    | (go_at_call 22; (refine (rcrash_any z f' B n cb x HH.out.hx HH.out.hc HH.out.hf' (by have := HH.out.hn; have := HH.out.hz; omega) sn sm _ (HK.out.rowAt 0 rfl)).mono ?_); rintro e u ⟨B2, c2, rfl, hk⟩; have HG := Lib.hid hk.cap; have hk := HK.out.adds 0 rfl hk.adds; clear HK; have HK := Lib.hid hk; clear hk; generalize hg : cr f' n sn sm = G at *; clear hg)
    | ((with_reducible refine store_kr (xs := [.int .i64 z, .int .i64 (G : Int), .slice B2 G c2]) HK.out 0 r_info rfl rfl _ _ rfl rfl rfl rfl (by simp) (by simp) (by simp [noU, isU]) (by simp [Value.oneCell']) ?_); intro u hk; simp only [List.set_cons_zero] at hk; clear HK; have HK := Lib.hid hk; clear hk))
  exact bodyPost_ret (results_k2 rfl Try.underlying29 rfl r_info _ HK.out 0 _ rfl rfl rfl rfl) rfl (DEnd.of HD.out HK.out HG.out.1 HG.out.2 fun _ => rfl)
set_option maxRecDepth 100000 in
theorem does2_bad (w : World) (r z f f' : Nat) (v : Value) (d : List UInt8) (B : Option Addr) (n cb : Nat) (x : List UInt8) (sn sm : Int) (sA : Option Addr) (k sc : Nat) (sb : List UInt8) (h : Din w r z f f' v d B n cb x sA k sb) (hb : sn < 0 ∨ (n : Int) < sn) : Calls Try.prog 12 #[.pointer (some ⟨r, 0, none⟩), .agg #[.int .i64 z, .int .i64 f', .slice B n cb], .agg #[.int .i64 2, .int .i64 sn, .int .i64 sm, .slice sA k sc]] w (DEnd w r z v (f = f' ∧ d = x) f' x (cuF f d sn) (cuD d sn)) := by
  have HB := Lib.hid hb
  clear hb
  have HK := Lib.hid h.kf
  have HD := Lib.hid h.dk
  have HH := Lib.hid h
  clear h
  have T1 := True.intro
  by_cases h0 : sn < 0
  · have i1 : decide (sn < 0) = true := by simp; omega
    go_enter Try.func12, Try.ntmps12
    go_wp2_with (first
      | (clear T1; (with_reducible refine box_k HK.out rfl rfl _ rfl rfl rfl ?_); intro b1 u hk; clear HK; have HK := Lib.hid hk; clear hk)
      | ((with_reducible refine box_k HK.out rfl rfl _ rfl rfl rfl ?_); intro b2 u hk; clear HK; have HK := Lib.hid hk; clear hk)
      | ((with_reducible refine alloc_k HK.out rfl r_zero rfl rfl rfl ?_); intro b3 u hk; clear HK; have HK := Lib.hid hk; clear hk)
      | (with_reducible refine load_k1 HK.out 1 rfl _ rfl rfl rfl rfl rfl ?_)
      | (go_at_call 20; (refine (cut_gen r z f _ d sn _ (HK.out.dk 0 rfl)).mono ?_); rintro e u ⟨e0, v', rfl, he1, he2, hd, hm⟩; have HE1 := Lib.hid he1; have HE2 := Lib.hid he2; clear he1 he2; have hk := HK.out.disk 0 rfl hm hd; simp only [List.set_cons_zero] at hk; clear hd hm; clear HK; have HK := Lib.hid hk; clear hk)
      | (with_reducible refine load_kr HK.out 2 Try.underlying29 rfl r_info _ rfl rfl rfl rfl rfl ?_)
      | ((with_reducible refine store_kr (xs := [.int .i64 z, .int .i64 (f' : Int), .slice B n cb]) HK.out 0 r_info rfl rfl _ _ rfl rfl rfl rfl (by simp) (by simp) (by simp [noU, isU]) (by simp [Value.oneCell']) ?_); intro u hk; simp only [List.set_cons_zero] at hk; clear HK; have HK := Lib.hid hk; clear hk))
    refine bodyPost_ret (results_k2 rfl Try.underlying29 rfl r_info _ HK.out 0 _ rfl rfl rfl rfl) rfl (DEnd.of HD.out HK.out HH.out.hx HH.out.hc fun hs => ?_)
    obtain ⟨rfl, rfl⟩ := hs
    have h1 := HE1.out; have h2 := HE2.out; have h3 := HB.out; have h4 := HH.out.hx
    have h5 : e0 = 1 := by omega
    simp [h5]
  · have i1 : decide (sn < 0) = false := by simp; omega
    have i2 : (n : Int) < sn := by have := HB.out; omega
    have i3 : decide ((n : Int) < sn) = true := by simp; omega
    go_enter Try.func12, Try.ntmps12
    go_wp2_with (first
      | (clear T1; (with_reducible refine box_k HK.out rfl rfl _ rfl rfl rfl ?_); intro b1 u hk; clear HK; have HK := Lib.hid hk; clear hk)
      | ((with_reducible refine box_k HK.out rfl rfl _ rfl rfl rfl ?_); intro b2 u hk; clear HK; have HK := Lib.hid hk; clear hk)
      | ((with_reducible refine alloc_k HK.out rfl r_zero rfl rfl rfl ?_); intro b3 u hk; clear HK; have HK := Lib.hid hk; clear hk)
      | (with_reducible refine load_k1 HK.out 1 rfl _ rfl rfl rfl rfl rfl ?_)
      | (with_reducible refine load_k1 HK.out 2 rfl _ rfl rfl rfl rfl rfl ?_)
      | (go_at_call 20; (refine (cut_gen r z f _ d sn _ (HK.out.dk 0 rfl)).mono ?_); rintro e u ⟨e0, v', rfl, he1, he2, hd, hm⟩; have HE1 := Lib.hid he1; have HE2 := Lib.hid he2; clear he1 he2; have hk := HK.out.disk 0 rfl hm hd; simp only [List.set_cons_zero] at hk; clear hd hm; clear HK; have HK := Lib.hid hk; clear hk)
      | (with_reducible refine load_kr HK.out 2 Try.underlying29 rfl r_info _ rfl rfl rfl rfl rfl ?_)
      | ((with_reducible refine store_kr (xs := [.int .i64 z, .int .i64 (f' : Int), .slice B n cb]) HK.out 0 r_info rfl rfl _ _ rfl rfl rfl rfl (by simp) (by simp) (by simp [noU, isU]) (by simp [Value.oneCell']) ?_); intro u hk; simp only [List.set_cons_zero] at hk; clear HK; have HK := Lib.hid hk; clear hk))
    refine bodyPost_ret (results_k2 rfl Try.underlying29 rfl r_info _ HK.out 0 _ rfl rfl rfl rfl) rfl (DEnd.of HD.out HK.out HH.out.hx HH.out.hc fun hs => ?_)
    obtain ⟨rfl, rfl⟩ := hs
    have h1 := HE1.out; have h2 := HE2.out; have h3 := HB.out; have h4 := HH.out.hx
    have h5 : e0 = 1 := by omega
    simp [h5]
set_option maxRecDepth 100000 in
theorem does2_any (w : World) (r z f f' : Nat) (v : Value) (d : List UInt8) (B : Option Addr) (n cb : Nat) (x : List UInt8) (q : Nat) (sm : Int) (sA : Option Addr) (k sc : Nat) (sb : List UInt8) (h : Din w r z f f' v d B n cb x sA k sb) (hq : q ≤ n) : Calls Try.prog 12 #[.pointer (some ⟨r, 0, none⟩), .agg #[.int .i64 z, .int .i64 f', .slice B n cb], .agg #[.int .i64 2, .int .i64 (q : Int), .int .i64 sm, .slice sA k sc]] w (DEnd w r z v (f = f' ∧ d = x) (cuF f' x (q : Int)) (cuD x (q : Int)) (cuF f d (q : Int)) (cuD d (q : Int))) := by
  have e1 : cuF f' x (q : Int) = min f' q := by rw [cuF, if_pos (by have := h.hx; omega)]; simp
  have e2 : cuD x (q : Int) = x.take q := by rw [cuD, if_pos (by have := h.hx; omega)]; simp
  rw [e1, e2]
  clear e1 e2
  have HMN := Lib.hid (show min (f' : Int) (q : Int) = ((min f' q : Nat) : Int) by omega)
  have HQC := Lib.hid (show q ≤ cb from Nat.le_trans hq h.hc)
  have HQN := Lib.hid hq
  have HK := Lib.hid h.kf
  have HD := Lib.hid h.dk
  have HH := Lib.hid h
  clear h
  have T1 := True.intro
  have i1 : decide ((q : Int) < 0) = false := by simp
  have i2 : ¬ (n : Int) < (q : Int) := by omega
  have i3 : decide ((n : Int) < (q : Int)) = false := by simp; omega
  have i4 : ¬ (q : Int) < 0 := by omega
  go_enter Try.func12, Try.ntmps12
  go_wp2_with (first
    | (clear T1; (with_reducible refine box_k HK.out rfl rfl _ rfl rfl rfl ?_); intro b1 u hk; clear HK; have HK := Lib.hid hk; clear hk)
    | ((with_reducible refine box_k HK.out rfl rfl _ rfl rfl rfl ?_); intro b2 u hk; clear HK; have HK := Lib.hid hk; clear hk)
    | ((with_reducible refine alloc_k HK.out rfl r_zero rfl rfl rfl ?_); intro b3 u hk; clear HK; have HK := Lib.hid hk; clear hk)
    | (with_reducible refine load_k1 HK.out 1 rfl _ rfl rfl rfl rfl rfl ?_)
    | (with_reducible refine load_k1 HK.out 2 rfl _ rfl rfl rfl rfl rfl ?_)
    | (go_at_call 20; (refine (cut_gen r z f _ d (q : Int) _ (HK.out.dk 0 rfl)).mono ?_); rintro e u ⟨e0, v', rfl, he1, he2, hd, hm⟩; have HE1 := Lib.hid he1; have HE2 := Lib.hid he2; clear he1 he2; have hk := HK.out.disk 0 rfl hm hd; simp only [List.set_cons_zero] at hk; clear hd hm; clear HK; have HK := Lib.hid hk; clear hk))
  refine Draws.start (S := fun u' : World => Cel u' b2 31 [.int .i64 2, .int .i64 (q : Int), .int .i64 sm, .slice sA k sc] ∧ Cel u' b1 29 [.int .i64 z, .int .i64 f', .slice B n cb]) (n := 17) 17 rfl (by kernel_rfl) ?_
  have HS := Lib.hid (show (fun u' : World => Cel u' b2 31 [.int .i64 2, .int .i64 (q : Int), .int .i64 sm, .slice sA k sc] ∧ Cel u' b1 29 [.int .i64 z, .int .i64 f', .slice B n cb]) (World.drew _) from ⟨(HK.out.drew).get 1 rfl, (HK.out.drew).get 2 rfl⟩)
  refine Draws.take 0 (v := ?v1) HS.out rfl (by kernel_rfl) (fun _ _ _ h => h) (Or.inl ⟨rfl, ?h1⟩) ?r1
  case h1 => intro w' hw'; go_simp; (try with_reducible rfl)
  (try simp only [Act.put, List.setIfInBounds_toArray, List.set_cons_zero, List.set_cons_succ])
  refine Draws.take 1 HS.out rfl (by kernel_rfl) (fun _ _ _ h => h) (yield_c rfl (fun _ h => h.2.cell rfl) _ rfl rfl rfl) ?_
  (try simp only [Act.put, List.setIfInBounds_toArray, List.set_cons_zero, List.set_cons_succ])
  refine Draws.take 2 (v := ?v2) HS.out rfl (by kernel_rfl) (fun _ _ _ h => h) (Or.inl ⟨rfl, ?h2⟩) ?r2
  case h2 => intro w' hw'; go_simp; (try with_reducible rfl)
  (try simp only [Act.put, List.setIfInBounds_toArray, List.set_cons_zero, List.set_cons_succ])
  refine Draws.take 3 HS.out rfl (by kernel_rfl) (fun _ _ _ h => h) (yield_c rfl (fun _ h => h.2.cell rfl) _ rfl rfl rfl) ?_
  (try simp only [Act.put, List.setIfInBounds_toArray, List.set_cons_zero, List.set_cons_succ])
  refine Draws.take 4 (v := ?v3) HS.out rfl (by kernel_rfl) (fun _ _ _ h => h) (Or.inl ⟨rfl, ?h3⟩) ?r3
  case h3 => intro w' hw'; go_simp; (try with_reducible rfl)
  (try simp only [Act.put, List.setIfInBounds_toArray, List.set_cons_zero, List.set_cons_succ])
  refine Draws.take 5 HS.out rfl (by kernel_rfl) (fun _ _ _ h => h) (yield_c rfl (fun _ h => h.1.cell rfl) _ rfl rfl rfl) ?_
  (try simp only [Act.put, List.setIfInBounds_toArray, List.set_cons_zero, List.set_cons_succ])
  refine Draws.take 6 HS.out rfl (by kernel_rfl) (fun _ _ _ h => h) (yield_min HMN.out _ _ rfl rfl rfl rfl) ?_
  (try simp only [Act.put, List.setIfInBounds_toArray, List.set_cons_zero, List.set_cons_succ])
  refine Draws.take 7 (v := ?v4) HS.out rfl (by kernel_rfl) (fun _ _ _ h => h) (Or.inl ⟨rfl, ?h4⟩) ?r4
  case h4 => intro w' hw'; go_simp; (try with_reducible rfl)
  (try simp only [Act.put, List.setIfInBounds_toArray, List.set_cons_zero, List.set_cons_succ])
  refine Draws.take 8 HS.out rfl (by kernel_rfl) (fun _ _ _ h => h) (yield_c rfl (fun _ h => h.2.cell rfl) _ rfl rfl rfl) ?_
  (try simp only [Act.put, List.setIfInBounds_toArray, List.set_cons_zero, List.set_cons_succ])
  refine Draws.take 9 (v := ?v5) HS.out rfl (by kernel_rfl) (fun _ _ _ h => h) (Or.inl ⟨rfl, ?h5⟩) ?r5
  case h5 => intro w' hw'; go_simp; (try with_reducible rfl)
  (try simp only [Act.put, List.setIfInBounds_toArray, List.set_cons_zero, List.set_cons_succ])
  refine Draws.take 10 HS.out rfl (by kernel_rfl) (fun _ _ _ h => h) (yield_c rfl (fun _ h => h.1.cell rfl) _ rfl rfl rfl) ?_
  (try simp only [Act.put, List.setIfInBounds_toArray, List.set_cons_zero, List.set_cons_succ])
  refine Draws.take 11 HS.out rfl (by kernel_rfl) (fun _ _ _ h => h) (yield_high HQC.out _ _ rfl rfl rfl rfl) ?_
  (try simp only [Act.put, List.setIfInBounds_toArray, List.set_cons_zero, List.set_cons_succ])
  refine Draws.take 12 (v := ?v6) HS.out rfl (by kernel_rfl) (fun _ _ _ h => h) (Or.inl ⟨rfl, ?h6⟩) ?r6
  case h6 => intro w' hw'; go_simp; (try with_reducible rfl)
  (try simp only [Act.put, List.setIfInBounds_toArray, List.set_cons_zero, List.set_cons_succ])
  refine Draws.take 13 (v := ?v7) HS.out rfl (by kernel_rfl) (fun _ _ _ h => h) (Or.inl ⟨rfl, ?h7⟩) ?r7
  case h7 => intro w' hw'; go_simp; (try with_reducible rfl)
  (try simp only [Act.put, List.setIfInBounds_toArray, List.set_cons_zero, List.set_cons_succ])
  refine Draws.take 14 HS.out rfl (by kernel_rfl) (fun _ _ _ h => h) (yield_eqe _ _ _ rfl rfl rfl rfl) ?_
  (try simp only [Act.put, List.setIfInBounds_toArray, List.set_cons_zero, List.set_cons_succ])
  refine Draws.does 15 rfl (by kernel_rfl) rfl (fun K' hK => ?_)
  refine wp_store_kr (xs := [.int .i64 z, .int .i64 (min f' q : Nat), .slice B q cb]) HK.out.drew 0 r_info rfl _ _ rfl rfl rfl rfl (by simp) (by simp) (by simp [noU, isU]) (by simp [Value.oneCell']) ?_
  intro u2 hk
  simp only [List.set_cons_zero] at hk
  refine hK.out _ _ (fun _ => ⟨hk.get 1 rfl, hk.get 2 rfl⟩) ?_
  clear hK K' HS HK
  have HK := Lib.hid hk
  have HS := Lib.hid (show (fun u' : World => Cel u' b2 31 [.int .i64 2, .int .i64 (q : Int), .int .i64 sm, .slice sA k sc] ∧ Cel u' b1 29 [.int .i64 z, .int .i64 f', .slice B n cb]) u2 from ⟨hk.get 1 rfl, hk.get 2 rfl⟩)
  clear hk
  (try simp only [Act.put, List.setIfInBounds_toArray, List.set_cons_zero, List.set_cons_succ])
  refine Draws.take 16 (v := ?v8) HS.out rfl (by kernel_rfl) (fun _ _ _ h => h) (Or.inl ⟨rfl, ?h8⟩) ?r8
  case h8 => intro w' hw'; go_simp; (try with_reducible rfl)
  (try simp only [Act.put, List.setIfInBounds_toArray, List.set_cons_zero, List.set_cons_succ])
  refine Draws.done (by kernel_rfl) ?_
  go_wp2_with (first
    | fail)
  have hk := (HK.out).also ((HK.out.rowAt 0 rfl).take q) (fun h0 a ha => HK.out.free _ (List.mem_cons_self ..) (fun e => h0 (by simp only at e; rw [e]; simp)) a ha)
  have hl : (x.take q).length = q := by have := HH.out.hx; have := HQN.out; rw [List.length_take]; omega
  refine bodyPost_ret (results_k2 rfl Try.underlying29 rfl r_info _ hk 0 _ rfl rfl rfl rfl) rfl (DEnd.of HD.out hk hl HQC.out fun hs => ?_)
  obtain ⟨rfl, rfl⟩ := hs
  have h1 := HE1.out; have h4 := HH.out.hx; have h5 := HQN.out
  have h6 : e0 = 0 := by omega
  simp [h6]
end Go.Proofs.Ytglhjfcngpednaa
