/- A step in both disks: a swap, an append; any step. -/
import Derived.Test.YtglhjfcngpednaaDg
namespace Go.Proofs.Ytglhjfcngpednaa
open Go.ChangeShapes Go.WideShapes Go.ChangeAt Go.RowKit

/-- A row of one's own is looked at as a slice from here on. -/
theorem Kf.asRow {w u : World} {F : Nat → Prop} {l : List (Nat × TypeId × List Value)} {ds : List Ent} {rows : List (Option Addr × List UInt8)} {A : Option Addr} {n c : Nat} {m : List UInt8} (h : Kf w F l (⟨none, 0, 0, .slice A n c, m⟩ :: ds) rows u) : Kf w F l ds ((A, m) :: rows) u := by
  have hown := (h.entAt 0 rfl).own
  have h1 : Kf w F l ds rows u := ⟨h.mf, h.blk, h.apart, fun e he => h.ent e (List.mem_cons_of_mem _ he), fun i j x y hi hj hij => h.lone (i + 1) (j + 1) x y (by simpa using hi) (by simpa using hj) (by omega), fun e he => h.cov e (List.mem_cons_of_mem _ he), h.row, fun x hx h0 a ha e he => h.free x hx h0 a ha e (List.mem_cons_of_mem _ he)⟩
  refine h1.also hown.bys fun h0 a ha e he hc => ?_
  obtain ⟨j, hj⟩ := List.mem_iff_getElem?.1 he
  exact h.lone 0 (j + 1) _ e rfl (by simpa using hj) (by omega) a.block (.inr (by subst ha; rfl)) (.inr hc)
set_option maxRecDepth 100000 in
theorem does3 (w : World) (r z f f' : Nat) (v : Value) (d : List UInt8) (B : Option Addr) (n cb : Nat) (x : List UInt8) (sn sm : Int) (sA : Option Addr) (k sc : Nat) (sb : List UInt8) (h : Din w r z f f' v d B n cb x sA k sb) : Calls Try.prog 12 #[.pointer (some ⟨r, 0, none⟩), .agg #[.int .i64 z, .int .i64 f', .slice B n cb], .agg #[.int .i64 3, .int .i64 sn, .int .i64 sm, .slice sA k sc]] w (DEnd w r z v (f = f' ∧ d = x) (swF z f' sb) (swD z x sb) (swF z f sb) (swD z d sb)) := by
  have HSB := Lib.hid h.hs
  by_cases hz : z < k
  · have e1 : swF z f' sb = f' := by rw [swF, if_neg (by have := h.hs; omega)]
    have e2 : swD z x sb = x := by rw [swD, if_neg (by have := h.hs; omega)]
    rw [e1, e2]
    clear e1 e2
    have HK := Lib.hid h.kf
    have HD := Lib.hid h.dk
    have HH := Lib.hid h
    clear h
    have T1 := True.intro
    have HZ := Lib.hid hz
    have i2 : (z : Int) < (k : Int) := by omega
    have i3 : decide ((z : Int) < (k : Int)) = true := by simp; omega
    go_enter Try.func12, Try.ntmps12
    go_wp2_with (first
      | (clear T1; (with_reducible refine box_k HK.out rfl rfl _ rfl rfl rfl ?_); intro b1 u hk; clear HK; have HK := Lib.hid hk; clear hk)
      | ((with_reducible refine box_k HK.out rfl rfl _ rfl rfl rfl ?_); intro b2 u hk; clear HK; have HK := Lib.hid hk; clear hk)
      | ((with_reducible refine alloc_k HK.out rfl r_zero rfl rfl rfl ?_); intro b3 u hk; clear HK; have HK := Lib.hid hk; clear hk)
      | (with_reducible refine load_k1 HK.out 1 rfl _ rfl rfl rfl rfl rfl ?_)
      | (with_reducible refine load_k1 HK.out 2 rfl _ rfl rfl rfl rfl rfl ?_)
      | (go_at_call 19; (refine (swap_gen r z f _ d sA k sc sb HSB.out HH.out.hz _ (HK.out.rowAt 1 rfl) (HK.out.dk 0 rfl)).mono ?_); rintro e u ⟨e0, v', rfl, he1, he2, hd, hm⟩; have HE1 := Lib.hid he1; have HE2 := Lib.hid he2; clear he1 he2; have hk := HK.out.disk 0 rfl hm hd; simp only [List.set_cons_zero] at hk; clear hd hm; clear HK; have HK := Lib.hid hk; clear hk)
      | (with_reducible refine load_kr HK.out 2 Try.underlying29 rfl r_info _ rfl rfl rfl rfl rfl ?_)
      | ((with_reducible refine store_kr (xs := [.int .i64 z, .int .i64 (f' : Int), .slice B n cb]) HK.out 0 r_info rfl rfl _ _ rfl rfl rfl rfl (by simp) (by simp) (by simp [noU, isU]) (by simp [Value.oneCell']) ?_); intro u hk; simp only [List.set_cons_zero] at hk; clear HK; have HK := Lib.hid hk; clear hk))
    refine bodyPost_ret (results_k2 rfl Try.underlying29 rfl r_info _ HK.out 0 _ rfl rfl rfl rfl) rfl (DEnd.of HD.out HK.out HH.out.hx HH.out.hc fun hs => ?_)
    have h1 := HE1.out; have h2 := HE2.out; have h3 := HZ.out
    have h5 : e0 = 7 := by omega
    simp [h5]
  · have e1 : swF z f' sb = k := by rw [swF, if_pos (by have := h.hs; omega)]; exact h.hs
    have e2 : swD z x sb = sb := by rw [swD, if_pos (by have := h.hs; omega)]
    rw [e1, e2]
    clear e1 e2
    have HK := Lib.hid h.kf
    have HD := Lib.hid h.dk
    have HH := Lib.hid h
    clear h
    have T1 := True.intro
    have HZ := Lib.hid hz
    have i2 : ¬ (z : Int) < (k : Int) := by omega
    have i3 : decide ((z : Int) < (k : Int)) = false := by simp; omega
    go_enter Try.func12, Try.ntmps12
    go_wp2_with (first
      | (clear T1; (with_reducible refine box_k HK.out rfl rfl _ rfl rfl rfl ?_); intro b1 u hk; clear HK; have HK := Lib.hid hk; clear hk)
      | ((with_reducible refine box_k HK.out rfl rfl _ rfl rfl rfl ?_); intro b2 u hk; clear HK; have HK := Lib.hid hk; clear hk)
      | ((with_reducible refine alloc_k HK.out rfl r_zero rfl rfl rfl ?_); intro b3 u hk; clear HK; have HK := Lib.hid hk; clear hk)
      | (with_reducible refine load_k1 HK.out 1 rfl _ rfl rfl rfl rfl rfl ?_)
      | (with_reducible refine load_k1 HK.out 2 rfl _ rfl rfl rfl rfl rfl ?_)
      | (go_at_call 19; (refine (swap_gen r z f _ d sA k sc sb HSB.out HH.out.hz _ (HK.out.rowAt 1 rfl) (HK.out.dk 0 rfl)).mono ?_); rintro e u ⟨e0, v', rfl, he1, he2, hd, hm⟩; have HE1 := Lib.hid he1; have HE2 := Lib.hid he2; clear he1 he2; have hk := HK.out.disk 0 rfl hm hd; simp only [List.set_cons_zero] at hk; clear hd hm; clear HK; have HK := Lib.hid hk; clear hk))
    refine Draws.start (S := fun u' : World => Cel u' b2 31 [.int .i64 3, .int .i64 sn, .int .i64 sm, .slice sA k sc] ∧ Cel u' b1 29 [.int .i64 z, .int .i64 f', .slice B n cb]) (n := 14) 14 rfl (by kernel_rfl) ?_
    have HS := Lib.hid (show (fun u' : World => Cel u' b2 31 [.int .i64 3, .int .i64 sn, .int .i64 sm, .slice sA k sc] ∧ Cel u' b1 29 [.int .i64 z, .int .i64 f', .slice B n cb]) (World.drew _) from ⟨(HK.out.drew).get 1 rfl, (HK.out.drew).get 2 rfl⟩)
    refine Draws.take 0 (v := ?v9) HS.out rfl (by kernel_rfl) (fun _ _ _ h => h) (Or.inl ⟨rfl, ?h9⟩) ?r9
    case h9 => intro w' hw'; go_simp; (try with_reducible rfl)
    (try simp only [Act.put, List.setIfInBounds_toArray, List.set_cons_zero, List.set_cons_succ])
    refine Draws.take 1 HS.out rfl (by kernel_rfl) (fun _ _ _ h => h) (yield_c rfl (fun _ h => h.2.cell rfl) _ rfl rfl rfl) ?_
    (try simp only [Act.put, List.setIfInBounds_toArray, List.set_cons_zero, List.set_cons_succ])
    refine Draws.take 2 (v := ?v10) HS.out rfl (by kernel_rfl) (fun _ _ _ h => h) (Or.inl ⟨rfl, ?h10⟩) ?r10
    case h10 => intro w' hw'; go_simp; (try with_reducible rfl)
    (try simp only [Act.put, List.setIfInBounds_toArray, List.set_cons_zero, List.set_cons_succ])
    refine Draws.take 3 HS.out rfl (by kernel_rfl) (fun _ _ _ h => h) (yield_c rfl (fun _ h => h.1.cell rfl) _ rfl rfl rfl) ?_
    (try simp only [Act.put, List.setIfInBounds_toArray, List.set_cons_zero, List.set_cons_succ])
    refine Draws.take 4 (v := ?v11) HS.out rfl (by kernel_rfl) (fun _ _ _ h => h) (Or.inl ⟨rfl, ?h11⟩) ?r11
    case h11 => intro w' hw'; go_simp; (try with_reducible rfl)
    (try simp only [Act.put, List.setIfInBounds_toArray, List.set_cons_zero, List.set_cons_succ])
    refine Draws.take 6 (v := ?v12) HS.out rfl (by kernel_rfl) (fun _ _ _ h => h) (Or.inl ⟨rfl, ?h12⟩) ?r12
    case h12 => intro w' hw'; go_simp; (try with_reducible rfl)
    (try simp only [Act.put, List.setIfInBounds_toArray, List.set_cons_zero, List.set_cons_succ])
    refine Draws.take 7 HS.out rfl (by kernel_rfl) (fun _ _ _ h => h) (yield_c rfl (fun _ h => h.1.cell rfl) _ rfl rfl rfl) ?_
    (try simp only [Act.put, List.setIfInBounds_toArray, List.set_cons_zero, List.set_cons_succ])
    refine Draws.take 10 (v := ?v13) HS.out rfl (by kernel_rfl) (fun _ _ _ h => h) (Or.inl ⟨rfl, ?h13⟩) ?r13
    case h13 => intro w' hw'; go_simp; (try with_reducible rfl)
    (try simp only [Act.put, List.setIfInBounds_toArray, List.set_cons_zero, List.set_cons_succ])
    refine Draws.take 11 HS.out rfl (by kernel_rfl) (fun _ _ _ h => h) (yield_eqe _ _ _ rfl rfl rfl rfl) ?_
    (try simp only [Act.put, List.setIfInBounds_toArray, List.set_cons_zero, List.set_cons_succ])
    refine Draws.does 5 rfl (by kernel_rfl) rfl (fun K' hK => ?_)
    refine wp_build_k HK.out.drew rfl ?_
    intro v0 u1 hk
    refine hK.out _ _ (fun _ => ⟨hk.get 1 rfl, hk.get 2 rfl⟩) ?_
    clear hK K' HS HK
    have HK := Lib.hid hk
    have HS := Lib.hid (show (fun u' : World => Cel u' b2 31 [.int .i64 3, .int .i64 sn, .int .i64 sm, .slice sA k sc] ∧ Cel u' b1 29 [.int .i64 z, .int .i64 f', .slice B n cb]) u1 from ⟨hk.get 1 rfl, hk.get 2 rfl⟩)
    clear hk
    (try simp only [Act.put, List.setIfInBounds_toArray, List.set_cons_zero, List.set_cons_succ])
    refine Draws.does 8 rfl (by kernel_rfl) rfl (fun K' hK => ?_)
    refine wp_app_k HK.out 0 rfl (HK.out.rowAt 1 rfl) HSB.out _ _ rfl rfl rfl (by have := HSB.out; have := HH.out.hk; simp; omega) ?_
    intro B1 N1 c1 u1 hN hc1 hk
    simp only [List.nil_append, List.set_cons_zero] at hk hN
    rw [HSB.out] at hN
    subst hN
    have HC1 := Lib.hid hc1
    refine hK.out _ _ (fun _ => ⟨hk.get 1 rfl, hk.get 2 rfl⟩) ?_
    clear hK K' HS HK
    have HK := Lib.hid hk
    have HS := Lib.hid (show (fun u' : World => Cel u' b2 31 [.int .i64 3, .int .i64 sn, .int .i64 sm, .slice sA k sc] ∧ Cel u' b1 29 [.int .i64 z, .int .i64 f', .slice B n cb]) u1 from ⟨hk.get 1 rfl, hk.get 2 rfl⟩)
    clear hk hc1
    (try simp only [Act.put, List.setIfInBounds_toArray, List.set_cons_zero, List.set_cons_succ])
    refine Draws.take 9 (v := ?v14) HS.out rfl (by kernel_rfl) (fun _ _ _ h => h) (Or.inl ⟨rfl, ?h14⟩) ?r14
    case h14 => intro w' hw'; go_simp; (try with_reducible rfl)
    (try simp only [Act.put, List.setIfInBounds_toArray, List.set_cons_zero, List.set_cons_succ])
    refine Draws.does 12 rfl (by kernel_rfl) rfl (fun K' hK => ?_)
    refine wp_store_kr (xs := [.int .i64 z, .int .i64 (k : Int), .slice B1 k c1]) HK.out 0 r_info rfl _ _ rfl rfl rfl rfl (by simp) (by simp) (by simp [noU, isU]) (by simp [Value.oneCell']) ?_
    intro u2 hk
    simp only [List.set_cons_zero] at hk
    refine hK.out _ _ (fun _ => ⟨hk.get 1 rfl, hk.get 2 rfl⟩) ?_
    clear hK K' HS HK
    have HK := Lib.hid hk
    have HS := Lib.hid (show (fun u' : World => Cel u' b2 31 [.int .i64 3, .int .i64 sn, .int .i64 sm, .slice sA k sc] ∧ Cel u' b1 29 [.int .i64 z, .int .i64 f', .slice B n cb]) u2 from ⟨hk.get 1 rfl, hk.get 2 rfl⟩)
    clear hk
    (try simp only [Act.put, List.setIfInBounds_toArray, List.set_cons_zero, List.set_cons_succ])
    refine Draws.take 13 (v := ?v15) HS.out rfl (by kernel_rfl) (fun _ _ _ h => h) (Or.inl ⟨rfl, ?h15⟩) ?r15
    case h15 => intro w' hw'; go_simp; (try with_reducible rfl)
    (try simp only [Act.put, List.setIfInBounds_toArray, List.set_cons_zero, List.set_cons_succ])
    refine Draws.done (by kernel_rfl) ?_
    go_wp2_with (first
      | fail)
    have hk := HK.out.asRow
    refine bodyPost_ret (results_k2 rfl Try.underlying29 rfl r_info _ hk 0 _ rfl rfl rfl rfl) rfl (DEnd.of HD.out hk HSB.out HC1.out fun hs => ?_)
    have h1 := HE1.out; have h3 := HZ.out
    have h5 : e0 = 0 := by omega
    simp [h5]
set_option maxRecDepth 100000 in
theorem does0 (w : World) (r z f f' : Nat) (v : Value) (d : List UInt8) (B : Option Addr) (n cb : Nat) (x : List UInt8) (sn sm : Int) (sA : Option Addr) (k sc : Nat) (sb : List UInt8) (h : Din w r z f f' v d B n cb x sA k sb) : Calls Try.prog 12 #[.pointer (some ⟨r, 0, none⟩), .agg #[.int .i64 z, .int .i64 f', .slice B n cb], .agg #[.int .i64 0, .int .i64 sn, .int .i64 sm, .slice sA k sc]] w (DEnd w r z v (f = f' ∧ d = x) f' (apD z x sb) f (apD z d sb)) := by
  have HSB := Lib.hid h.hs
  have HK := Lib.hid h.kf
  have HD := Lib.hid h.dk
  have HH := Lib.hid h
  clear h
  have T1 := True.intro
  have T2 := True.intro
  go_enter Try.func12, Try.ntmps12
  go_wp2_with (first
    | (clear T1; (with_reducible refine box_k HK.out rfl rfl _ rfl rfl rfl ?_); intro b1 u hk; clear HK; have HK := Lib.hid hk; clear hk)
    | ((with_reducible refine box_k HK.out rfl rfl _ rfl rfl rfl ?_); intro b2 u hk; clear HK; have HK := Lib.hid hk; clear hk)
    | (clear T2; (with_reducible refine alloc_k HK.out rfl r_zero rfl rfl rfl ?_); intro b3 u hk; clear HK; have HK := Lib.hid hk; clear hk)
    | ((with_reducible refine alloc_k HK.out rfl r_zero rfl rfl rfl ?_); intro b4 u hk; clear HK; have HK := Lib.hid hk; clear hk)
    | (with_reducible refine load_k1 HK.out 1 rfl _ rfl rfl rfl rfl rfl ?_)
    | (with_reducible refine load_k1 HK.out 2 rfl _ rfl rfl rfl rfl rfl ?_)
    | (with_reducible refine load_kr HK.out 2 Try.underlying29 rfl r_info _ rfl rfl rfl rfl rfl ?_)
    | (go_at_call 21; (refine (rapp_gen z f' B n cb x HH.out.hx HH.out.hc sA k sc sb HSB.out HH.out.hz HH.out.hn HH.out.hk _ (HK.out.rowAt 0 rfl) (HK.out.rowAt 1 rfl)).mono ?_); rintro e u ⟨B2, n2, c2, ok, rfl, hok, hl, hc, ha⟩; have hk := HK.out.adds 0 rfl ha; have HOK := Lib.hid hok; have HL2 := Lib.hid hl; have HC2 := Lib.hid hc; clear ha hok hl hc; clear HK; have HK := Lib.hid hk; clear hk)
    | ((with_reducible refine store_kr (xs := [.int .i64 z, .int .i64 (f' : Int), .slice B2 n2 c2]) HK.out 0 r_info rfl rfl _ _ rfl rfl rfl rfl (by simp) (by simp) (by simp [noU, isU]) (by simp [Value.oneCell']) ?_); intro u hk; simp only [List.set_cons_zero] at hk; clear HK; have HK := Lib.hid hk; clear hk))
  refine Draws.start (S := fun u' : World => Cel u' b2 31 [.int .i64 0, .int .i64 sn, .int .i64 sm, .slice sA k sc] ∧ Cel u' b4 29 [.int .i64 z, .int .i64 f', .slice B2 n2 c2]) (n := 10) 10 rfl (by kernel_rfl) ?_
  have HS := Lib.hid (show (fun u' : World => Cel u' b2 31 [.int .i64 0, .int .i64 sn, .int .i64 sm, .slice sA k sc] ∧ Cel u' b4 29 [.int .i64 z, .int .i64 f', .slice B2 n2 c2]) (World.drew _) from ⟨(HK.out.drew).get 2 rfl, (HK.out.drew).get 0 rfl⟩)
  refine Draws.take 0 HS.out rfl (by kernel_rfl) (fun _ _ _ h => h) (yield_kr (fun _ h => h.2) Try.underlying29 rfl r_info rfl _ rfl rfl rfl) ?_
  (try simp only [Act.put, List.setIfInBounds_toArray, List.set_cons_zero, List.set_cons_succ])
  refine Draws.take 1 (v := ?v16) HS.out rfl (by kernel_rfl) (fun _ _ _ h => h) (Or.inl ⟨rfl, ?h16⟩) ?r16
  case h16 => intro w' hw'; go_simp; (try with_reducible rfl)
  (try simp only [Act.put, List.setIfInBounds_toArray, List.set_cons_zero, List.set_cons_succ])
  refine Draws.take 2 (v := ?v17) HS.out rfl (by kernel_rfl) (fun _ _ _ h => h) (Or.inl ⟨rfl, ?h17⟩) ?r17
  case h17 => intro w' hw'; go_simp; (try with_reducible rfl)
  (try simp only [Act.put, List.setIfInBounds_toArray, List.set_cons_zero, List.set_cons_succ])
  refine Draws.take 3 HS.out rfl (by kernel_rfl) (fun _ _ _ h => h) (yield_c rfl (fun _ h => h.1.cell rfl) _ rfl rfl rfl) ?_
  (try simp only [Act.put, List.setIfInBounds_toArray, List.set_cons_zero, List.set_cons_succ])
  refine Draws.take 6 (v := ?v18) HS.out rfl (by kernel_rfl) (fun _ _ _ h => h) (Or.inl ⟨rfl, ?h18⟩) ?r18
  case h18 => intro w' hw'; go_simp; (try with_reducible rfl)
  (try simp only [Act.put, List.setIfInBounds_toArray, List.set_cons_zero, List.set_cons_succ])
  refine Draws.does 4 rfl (by kernel_rfl) rfl (fun K' hK => ?_)
  go_simp
  go_at_call 17
  refine (append_gen r z f _ d sA k sc sb HSB.out HH.out.hd HH.out.hz _ (HK.out.drew.rowAt 2 rfl) (HK.out.drew.dk 0 rfl)).mono ?_
  rintro e u1 ⟨e0, v', rfl, he1, he2, hd, hm⟩
  (try dsimp only)
  have hk := HK.out.drew.disk 0 rfl hm hd
  simp only [List.set_cons_zero] at hk
  refine hK.out _ _ (fun _ => ⟨hk.get 2 rfl, hk.get 0 rfl⟩) ?_
  clear hK K' HS HK hd hm he2
  have HE1 := Lib.hid he1
  have HK := Lib.hid hk
  have HS := Lib.hid (show (fun u' : World => Cel u' b2 31 [.int .i64 0, .int .i64 sn, .int .i64 sm, .slice sA k sc] ∧ Cel u' b4 29 [.int .i64 z, .int .i64 f', .slice B2 n2 c2]) u1 from ⟨hk.get 2 rfl, hk.get 0 rfl⟩)
  clear hk he1
  (try simp only [Act.put, List.setIfInBounds_toArray, List.set_cons_zero, List.set_cons_succ])
  refine Draws.take 5 HS.out rfl (by kernel_rfl) (fun _ _ _ h => h) (yield_eqe _ _ _ rfl rfl rfl rfl) ?_
  (try simp only [Act.put, List.setIfInBounds_toArray, List.set_cons_zero, List.set_cons_succ])
  refine Draws.take 7 HS.out rfl (by kernel_rfl) (fun _ _ _ h => h) (yield_eqb _ _ _ rfl rfl rfl rfl) ?_
  (try simp only [Act.put, List.setIfInBounds_toArray, List.set_cons_zero, List.set_cons_succ])
  refine Draws.does 8 rfl (by kernel_rfl) rfl (fun K' hK => ?_)
  refine wp_store_kr (xs := [.int .i64 z, .int .i64 (f' : Int), .slice B2 n2 c2]) HK.out 1 r_info rfl _ _ rfl rfl rfl rfl (by simp) (by simp) (by simp [noU, isU]) (by simp [Value.oneCell']) ?_
  intro u2 hk
  simp only [List.set_cons_zero, List.set_cons_succ] at hk
  refine hK.out _ _ (fun _ => ⟨hk.get 2 rfl, hk.get 0 rfl⟩) ?_
  clear hK K' HS HK
  have HK := Lib.hid hk
  have HS := Lib.hid (show (fun u' : World => Cel u' b2 31 [.int .i64 0, .int .i64 sn, .int .i64 sm, .slice sA k sc] ∧ Cel u' b4 29 [.int .i64 z, .int .i64 f', .slice B2 n2 c2]) u2 from ⟨hk.get 2 rfl, hk.get 0 rfl⟩)
  clear hk
  (try simp only [Act.put, List.setIfInBounds_toArray, List.set_cons_zero, List.set_cons_succ])
  refine Draws.take 9 (v := ?v19) HS.out rfl (by kernel_rfl) (fun _ _ _ h => h) (Or.inl ⟨rfl, ?h19⟩) ?r19
  case h19 => intro w' hw'; go_simp; (try with_reducible rfl)
  (try simp only [Act.put, List.setIfInBounds_toArray, List.set_cons_zero, List.set_cons_succ])
  refine Draws.done (by kernel_rfl) ?_
  go_wp2_with (first
    | fail)
  refine bodyPost_ret (results_k2 rfl Try.underlying29 rfl r_info _ HK.out 1 _ rfl rfl rfl rfl) rfl (DEnd.of HD.out HK.out HL2.out HC2.out fun hs => ?_)
  obtain ⟨rfl, rfl⟩ := hs
  have h1 := HE1.out; have h2 := HOK.out; have h3 := HH.out.hx
  rw [h3] at h1
  by_cases h4 : n + k ≤ z
  · simp [h1.2 h4, h2.2 h4]
  · have h5 : ¬ e0 = 0 := fun e => h4 (h1.1 e)
    have h6 : ok = false := by cases ok; rfl; exact absurd (h2.1 rfl) h4
    simp [h5, h6]
/-- What a step makes of how many are safe, and of the bytes. -/
def nF (z f : Nat) (d : List UInt8) (s : Sp) : Nat :=
  if s.vb = 0 then f else if s.vb = 1 then d.length else if s.vb = 2 then cuF f d s.n else if s.vb = 3 then swF z f s.b else if s.vb = 4 then cr f d.length s.n s.m else f
def nD (z f : Nat) (d : List UInt8) (s : Sp) : List UInt8 :=
  if s.vb = 0 then apD z d s.b else if s.vb = 1 then d else if s.vb = 2 then cuD d s.n else if s.vb = 3 then swD z d s.b else if s.vb = 4 then d.take (cr f d.length s.n s.m) else d
theorem step_inv {z f : Nat} {d : List UInt8} (hf : f ≤ d.length) (hd : d.length ≤ z) (s : Sp) : nF z f d s ≤ (nD z f d s).length ∧ (nD z f d s).length ≤ z := by
  unfold nF nD
  split
  · unfold apD; split
    · rw [List.length_append]; omega
    · omega
  split
  · omega
  split
  · unfold cuF cuD; split
    · rw [List.length_take]; omega
    · omega
  split
  · unfold swF swD; split <;> omega
  split
  · have := cr_le f d.length s.n s.m
    rw [List.length_take]; omega
  · omega
theorem does_any (w : World) (r z f f' : Nat) (v : Value) (d : List UInt8) (B : Option Addr) (n cb : Nat) (x : List UInt8) (s : Sp) (h : Din w r z f f' v d B n cb x s.A s.b.length s.b) :
    Calls Try.prog 12 #[.pointer (some ⟨r, 0, none⟩), .agg #[.int .i64 z, .int .i64 f', .slice B n cb], .agg s.cells.toArray] w (DEnd w r z v (f = f' ∧ d = x) (nF z f' x s) (nD z f' x s) (nF z f d s) (nD z f d s)) := by
  obtain ⟨vb, sn, sm, sA, sc, sb⟩ := s
  simp only [Sp.cells] at h ⊢
  by_cases h0 : vb = 0
  · subst h0
    simp only [nF, nD, if_true]
    exact does0 w r z f f' v d B n cb x sn sm sA _ sc sb h
  by_cases h1 : vb = 1
  · subst h1
    have := does1 w r z f f' v d B n cb x sn sm sA _ sc sb h
    simp only [nF, nD, show ¬ (1 : Int) = 0 by decide, if_true, if_false]
    rw [h.hx]
    exact this
  by_cases h2 : vb = 2
  · subst h2
    simp only [nF, nD, show ¬ (2 : Int) = 0 by decide, show ¬ (2 : Int) = 1 by decide, if_true, if_false]
    by_cases hb : sn < 0 ∨ (n : Int) < sn
    · have e1 : cuF f' x sn = f' := by rw [cuF, if_neg (by have := h.hx; omega)]
      have e2 : cuD x sn = x := by rw [cuD, if_neg (by have := h.hx; omega)]
      rw [e1, e2]
      exact does2_bad w r z f f' v d B n cb x sn sm sA _ sc sb h hb
    · obtain ⟨q, rfl⟩ : ∃ q : Nat, sn = (q : Int) := ⟨sn.toNat, by omega⟩
      exact does2_any w r z f f' v d B n cb x q sm sA _ sc sb h (by omega)
  by_cases h3 : vb = 3
  · subst h3
    simp only [nF, nD, show ¬ (3 : Int) = 0 by decide, show ¬ (3 : Int) = 1 by decide, show ¬ (3 : Int) = 2 by decide, if_true, if_false]
    exact does3 w r z f f' v d B n cb x sn sm sA _ sc sb h
  by_cases h4 : vb = 4
  · subst h4
    simp only [nF, nD, show ¬ (4 : Int) = 0 by decide, show ¬ (4 : Int) = 1 by decide, show ¬ (4 : Int) = 2 by decide, show ¬ (4 : Int) = 3 by decide, if_true, if_false]
    have := does4 w r z f f' v d B n cb x sn sm sA _ sc sb h
    rw [← h.hx] at this ⊢
    exact this
  · simp only [nF, nD, h0, h1, h2, h3, h4, if_false]
    exact does5 w r z f f' v d B n cb x sn sm sA _ sc sb h vb h0 h1 h2 h3 h4
end Go.Proofs.Ytglhjfcngpednaa
