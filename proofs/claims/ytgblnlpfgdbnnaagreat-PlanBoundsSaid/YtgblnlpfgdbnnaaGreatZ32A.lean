/- ContainsFunc at fields and at holds; hasPlace; plan.Fits. -/
import Derived.Test.YtgblnlpfgdbnnaaGreatZ28A
import Derived.Test.YtgblnlpfgdbnnaaGreatZ30A
namespace Go.Proofs.YtgblnlpfgdbnnaaGreat
set_option maxRecDepth 100000
open Go.ChangeShapes Go.WideShapes Go.ChangeAt Go.RowKit

theorem any_hit {α : Type} {l : List α} {P : α → Bool} {m : Nat} {x : α} (hm : l[m]? = some x) (hp : P x = true) : l.any P = true := List.any_eq_true.2 ⟨x, List.mem_of_getElem? hm, hp⟩
theorem any_noneQ {α : Type} {l : List α} {P : α → Bool} (h : ∀ j x, j < l.length → l[j]? = some x → P x = false) : l.any P = false := by
  rw [List.any_eq_false]
  intro x hx
  obtain ⟨j, hj⟩ := List.mem_iff_getElem?.1 hx
  rw [h j x (List.getElem?_eq_some_iff.1 hj).1 hj]; simp
theorem hd1_any (h : Ho) (w : World) : Calls Tryz.prog 82 #[.agg (vals h.l).toArray] w fun e w' => e = .returned (.bool (h.s == 1)) ∧ Below w.heap.size w w' := by
  have HK := Lib.hid (Kg.start w)
  have h4 : (vals h.l)[4]? = some (.int .i64 h.s) := rfl
  go_enter Tryz.func82, Tryz.ntmps82
  go_wp2_with (first
    | ((with_reducible refine box_k (cs := vals h.l) HK.out rfl _ rfl rfl ?_); intro b1 u hk; clear HK; have HK := Lib.hid hk; clear hk)
    | (with_reducible refine load_k1 HK.out 0 ckI _ rfl rfl rfl rfl h4 ?_))
  go_ret
  exact ⟨rfl, HK.out.mf.bel⟩
set_option maxHeartbeats 1000000 in
theorem idx_held (A : Option Addr) (n c : Nat) (hs : List Ho) (hn : n ≤ 1000) (w : World) (hd : Row w A n hs) :
    Calls Tryz.prog 112 #[.slice A n c, .func (.func 82) #[] #[]] w fun e w' => ∃ r : Int, e = .returned (.int .i64 r) ∧ decide (0 ≤ r) = hs.any (fun x : Ho => x.s == 1) ∧ Below w.heap.size w w' := by
  have HD := Lib.hid hd
  have HPL := Lib.hid (show hs.length = n from hd.1)
  clear hd
  have HK := Lib.hid (Kg.start w)
  obtain ⟨R, hR⟩ : ∃ R, hs.any (fun x : Ho => x.s == 1) = R := ⟨_, rfl⟩
  rw [hR]
  have HRR := Lib.hid hR; clear hR
  go_enter Tryz.func112, Tryz.ntmps112
  go_wp2
  go_loopw [8] (fun i wr => ∃ m : Nat, m ≤ n ∧ i = .int .i64 m ∧ (∀ j x, j < m → hs[j]? = some x → (fun x : Ho => x.s == 1) x = false) ∧ Kg w (fun _ => False) [] [] wr) (fun i _ => n - (intOf i).toNat)
  case atStart => exact ⟨0, by omega, rfl, fun j x hj => by omega, HK.out⟩
  case round =>
    obtain ⟨m, hm, rfl, hq, hk⟩ := hrel
    have HQ := Lib.hid hq; clear hq
    clear HK; have HK := Lib.hid hk; clear hk
    by_cases hlt : m < n
    · obtain ⟨b, off, rfl, hr⟩ := HD.out.at hlt
      obtain ⟨x, hx⟩ : ∃ x, hs[m]? = some x := ⟨_, List.getElem?_eq_getElem (by rw [HPL.out]; exact hlt)⟩
      have HX := Lib.hid hx
      have hr := hr m hlt
      rw [show hs.getD m z5 = x by rw [List.getD, hx]; rfl] at hr
      have HR := Lib.hid hr
      have hcl := fun w => hd1_any x w
      clear hr hx
      have HM := Lib.hid hlt
      have i1 : (0 : Int) ≤ (m : Int) := by omega
      have i2 : (m : Int) < (n : Int) := by omega
      cases ht : (x.s == 1) with
      | true =>
        rw [ht] at hcl
        have HT := Lib.hid (show R = true by rw [← HRR.out]; exact any_hit (P := fun x : Ho => x.s == 1) HX.out ht); clear ht
        go_wp2_with (first
          | (with_reducible refine load_hold (rng_below HR.out HK.out.mf.bel) _ rfl rfl rfl ?_)
          | (go_at_call 82; (with_reducible refine (hcl _).mono ?_); rintro e u ⟨rfl, hb⟩; have hk := HK.out.call hb; clear hb; clear HK; have HK := Lib.hid hk; clear hk))
        go_ret
        exact ⟨_, rfl, by rw [HT.out]; exact decide_eq_true (by omega), HK.out.mf.bel⟩
      | false =>
        rw [ht] at hcl
        have HT := Lib.hid ht; clear ht
        go_wp2_with (first
          | (with_reducible refine load_hold (rng_below HR.out HK.out.mf.bel) _ rfl rfl rfl ?_)
          | (go_at_call 82; (with_reducible refine (hcl _).mono ?_); rintro e u ⟨rfl, hb⟩; have hk := HK.out.call hb; clear hb; clear HK; have HK := Lib.hid hk; clear hk))
        go_roundw
        case rel => exact ⟨m + 1, by have := HM.out; omega, by go_num, fun j y hj hy => by
          rcases Nat.lt_or_ge j m with h3 | h3
          · exact HQ.out j y h3 hy
          · obtain rfl : m = j := by omega
            rw [HX.out] at hy
            injection hy with hy
            rw [← hy]; exact HT.out, HK.out⟩
        case measure => have := HM.out; simp [intOf]; omega
    · obtain rfl : m = n := by omega
      have HT := Lib.hid (show R = false by rw [← HRR.out]; exact any_noneQ (l := hs) (P := fun x : Ho => x.s == 1) fun j x hj => HQ.out j x (by rw [HPL.out] at hj; exact hj))
      go_wp2
      go_ret
      exact ⟨_, rfl, by rw [HT.out]; rfl, HK.out.mf.bel⟩
theorem con_held (A : Option Addr) (n c : Nat) (hs : List Ho) (hn : n ≤ 1000) (w : World) (hd : Row w A n hs) :
    Calls Tryz.prog 81 #[.slice A n c, .func (.func 82) #[] #[]] w fun e w' => e = .returned (.bool (hs.any (fun x : Ho => x.s == 1))) ∧ Below w.heap.size w w' := by
  have hix := idx_held A n c hs hn w hd
  go_enter Tryz.func81, Tryz.ntmps81
  go_wp2_with (first
    | (go_at_call 112; (with_reducible refine hix.mono ?_); rintro e u ⟨r, rfl, hr, hb⟩; have HR := Lib.hid hr; have HB := Lib.hid hb; clear hr hb))
  go_ret
  exact ⟨by rw [← HR.out]; rfl, HB.out⟩
def heldP (p : Pf) : Bool := p.hs.any fun x : Ho => x.s == 1
theorem held_any (p : Pf) (hp : p.full) (A : Option Addr) (c : Nat) (w : World) (hd : Row w A p.hs.length p.hs) : Calls Tryz.prog 47 #[.agg (p.fd A c).cells.toArray] w fun e w' => e = .returned (.bool (heldP p)) ∧ Below w.heap.size w w' := by
  have HK := Lib.hid (Kg.start w)
  have HF := Lib.hid hp
  have HD := Lib.hid hd
  have hcn := fun w h => con_held A p.hs.length c p.hs hd.2.1 w h
  clear hp hd
  go_enter Tryz.func47, Tryz.ntmps47
  go_wp2_with (first
    | ((with_reducible refine box_k (cs := (p.fd A c).cells) HK.out rfl _ rfl rfl ?_); intro b1 u hk; clear HK; have HK := Lib.hid hk; clear hk)
    | (with_reducible refine load_k1 HK.out 0 ckH _ rfl rfl rfl rfl (Pf.cH HF.out) ?_)
    | (go_at_call 81; (with_reducible refine (hcn _ (HD.out.below HK.out.mf.bel (Nat.le_refl _))).mono ?_); rintro e u ⟨rfl, hb⟩; have hk := HK.out.call hb; clear hb; clear HK; have HK := Lib.hid hk; clear hk))
  go_ret
  exact ⟨rfl, HK.out.mf.bel⟩
def chgP (k : Int) : Int := if k = 4 then 2 else 1
theorem chg_any (k : Int) (w : World) : Calls Tryz.prog 46 #[.int .i64 k] w fun e w' => e = .returned (.int .i64 (chgP k)) ∧ w = w' := by
  cases h : (k == 4) with
  | true =>
    have HC := Lib.hid (show chgP k = 2 from if_pos (by simpa using h))
    go_enter Tryz.func46, Tryz.ntmps46
    go_wp2
    go_ret
    exact ⟨by rw [HC.out]; rfl, rfl⟩
  | false =>
    have HC := Lib.hid (show chgP k = 1 from if_neg (by simpa using h))
    go_enter Tryz.func46, Tryz.ntmps46
    go_wp2
    go_ret
    exact ⟨by rw [HC.out]; rfl, rfl⟩
theorem wrong_any (p : Pl) (x : Pf) (A : Option Addr) (c bp : Nat) (w : World) (hP : w.cell? ⟨bp, 0, none⟩ = some (.int .i64 p.k)) :
    Calls Tryz.prog 45 #[.agg (x.fd A c).cells.toArray, .pointer (some ⟨bp, 0, none⟩)] w fun e w' => e = .returned (.bool (x.k != chgP p.k)) ∧ Below w.heap.size w w' := by
  have HK := Lib.hid (Kg.start w)
  have HP := Lib.hid hP; clear hP
  go_enter Tryz.func45, Tryz.ntmps45
  go_wp2_with (first
    | ((with_reducible refine box_k (cs := (x.fd A c).cells) HK.out rfl _ rfl rfl ?_); intro b2 u hk; clear HK; have HK := Lib.hid hk; clear hk))
  refine Draws.start (S := fun u => Kg w (fun _ => False) [Th.cel b2 43 (x.fd A c).cells] [] u) (n := 7) 7 rfl (by kernel_rfl) ?_
  have HS := Lib.hid (show (fun u => Kg w (fun _ => False) [Th.cel b2 43 (x.fd A c).cells] [] u) (World.drew _) from HK.out.drew)
  refine Draws.take 0 (v := ?v1) HS.out rfl (by kernel_rfl) (fun _ _ _ h => h) (Or.inl ⟨rfl, ?h1⟩) ?r1
  case h1 => intro w' hw'; go_simp; (try with_reducible rfl)
  (try simp only [Act.put, lsA, lsB, lsC])
  refine Draws.take 1 HS.out rfl (by kernel_rfl) (fun _ _ _ h => h) (yield_k ckI (fun _ h => (h.celAt 0 rfl).cell Pf.ck) _ rfl rfl rfl) ?_
  (try simp only [Act.put, lsA, lsB, lsC])
  refine Draws.take 2 (v := ?v2) HS.out rfl (by kernel_rfl) (fun _ _ _ h => h) (Or.inl ⟨rfl, ?h2⟩) ?r2
  case h2 => intro w' hw'; go_simp; (try with_reducible rfl)
  (try simp only [Act.put, lsA, lsB, lsC])
  refine Draws.take 3 HS.out rfl (by kernel_rfl) (fun _ _ _ h => h) (yield_k ckI (fun _ h => (h.mf.bel.cell (cell_lt HP.out)).trans HP.out) _ rfl rfl rfl) ?_
  (try simp only [Act.put, lsA, lsB, lsC])
  refine Draws.does 4 rfl (by kernel_rfl) rfl (fun K' hK => ?_)
  go_simp
  go_at_call 46
  refine (chg_any _ _).mono ?_
  rintro e u ⟨rfl, rfl⟩
  (try dsimp only)
  refine hK.out _ _ (fun _ => HS.out) ?_
  clear hK K'
  (try simp only [Act.put, lsA, lsB, lsC])
  refine Draws.take 5 HS.out rfl (by kernel_rfl) (fun _ _ _ h => h) (yield_neq rfl _ _ _ rfl rfl rfl rfl) ?_
  (try simp only [Act.put, lsA, lsB, lsC])
  refine Draws.take 6 (v := ?v3) HS.out rfl (by kernel_rfl) (fun _ _ _ h => h) (Or.inl ⟨rfl, ?h3⟩) ?r3
  case h3 => intro w' hw'; go_simp; (try with_reducible rfl)
  (try simp only [Act.put, lsA, lsB, lsC])
  refine Draws.done (by kernel_rfl) ?_
  go_wp2
  go_ret
  exact ⟨rfl, HS.out.mf.bel⟩
set_option maxHeartbeats 1000000 in
theorem idx_wrong (p : Pl) (bp : Nat) (A : Option Addr) (n c : Nat) (qs : List Q) (hn : n ≤ 1000) (w : World) (hP : w.cell? ⟨bp, 0, none⟩ = some (.int .i64 p.k)) (hd : FR w A n qs) :
    Calls Tryz.prog 80 #[.slice A n c, .func (.func 45) #[] #[.pointer (some ⟨bp, 0, none⟩)]] w fun e w' => ∃ r : Int, e = .returned (.int .i64 r) ∧ decide (0 ≤ r) = (pfs qs).any (fun x : Pf => x.k != chgP p.k) ∧ Below w.heap.size w w' := by
  have HP := Lib.hid hP; clear hP
  have HD := Lib.hid hd
  have HPL := Lib.hid (show (pfs qs).length = n by rw [pfs_len]; exact hd.1)
  clear hd
  have HK := Lib.hid (Kg.start w)
  obtain ⟨R, hR⟩ : ∃ R, (pfs qs).any (fun x : Pf => x.k != chgP p.k) = R := ⟨_, rfl⟩
  rw [hR]
  have HRR := Lib.hid hR; clear hR
  go_enter Tryz.func80, Tryz.ntmps80
  go_wp2
  go_loopw [8] (fun i wr => ∃ m : Nat, m ≤ n ∧ i = .int .i64 m ∧ (∀ j x, j < m → (pfs qs)[j]? = some x → (fun x : Pf => x.k != chgP p.k) x = false) ∧ Kg w (fun _ => False) [] [] wr) (fun i _ => n - (intOf i).toNat)
  case atStart => exact ⟨0, by omega, rfl, fun j x hj => by omega, HK.out⟩
  case round =>
    obtain ⟨m, hm, rfl, hq, hk⟩ := hrel
    have HQ := Lib.hid hq; clear hq
    clear HK; have HK := Lib.hid hk; clear hk
    by_cases hlt : m < n
    · obtain ⟨q, hx⟩ := HD.out.get hlt
      obtain ⟨b, off, rfl, hr⟩ := HD.out.base (by omega)
      have HX := Lib.hid (pfs_at hx)
      have HF := Lib.hid (HD.out.full hx)
      have HR := Lib.hid (hr m q hx)
      have hcl := fun w h => wrong_any p q.1 q.2.1 q.2.2 bp w h
      clear hr hx
      have HM := Lib.hid hlt
      have i1 : (0 : Int) ≤ (m : Int) := by omega
      have i2 : (m : Int) < (n : Int) := by omega
      cases ht : (q.1.k != chgP p.k) with
      | true =>
        rw [ht] at hcl
        have HT := Lib.hid (show R = true by rw [← HRR.out]; exact any_hit (P := fun x : Pf => x.k != chgP p.k) HX.out ht); clear ht
        go_wp2_with (first
          | (with_reducible refine load_kg Tryz.underlying43 rfl (Pf.infoF HF.out) _ rfl (rng_below HR.out HK.out.mf.bel) rfl rfl ?_)
          | (go_at_call 45; (with_reducible refine (hcl _ ((HK.out.mf.bel.cell (cell_lt HP.out)).trans HP.out)).mono ?_); rintro e u ⟨rfl, hb⟩; have hk := HK.out.call hb; clear hb; clear HK; have HK := Lib.hid hk; clear hk))
        go_ret
        exact ⟨_, rfl, by rw [HT.out]; exact decide_eq_true (by omega), HK.out.mf.bel⟩
      | false =>
        rw [ht] at hcl
        have HT := Lib.hid ht; clear ht
        go_wp2_with (first
          | (with_reducible refine load_kg Tryz.underlying43 rfl (Pf.infoF HF.out) _ rfl (rng_below HR.out HK.out.mf.bel) rfl rfl ?_)
          | (go_at_call 45; (with_reducible refine (hcl _ ((HK.out.mf.bel.cell (cell_lt HP.out)).trans HP.out)).mono ?_); rintro e u ⟨rfl, hb⟩; have hk := HK.out.call hb; clear hb; clear HK; have HK := Lib.hid hk; clear hk))
        go_roundw
        case rel => exact ⟨m + 1, by have := HM.out; omega, by go_num, fun j y hj hy => by
          rcases Nat.lt_or_ge j m with h3 | h3
          · exact HQ.out j y h3 hy
          · obtain rfl : m = j := by omega
            rw [HX.out] at hy
            injection hy with hy
            rw [← hy]; exact HT.out, HK.out⟩
        case measure => have := HM.out; simp [intOf]; omega
    · obtain rfl : m = n := by omega
      have HT := Lib.hid (show R = false by rw [← HRR.out]; exact any_noneQ (l := (pfs qs)) (P := fun x : Pf => x.k != chgP p.k) fun j x hj => HQ.out j x (by rw [HPL.out] at hj; exact hj))
      go_wp2
      go_ret
      exact ⟨_, rfl, by rw [HT.out]; rfl, HK.out.mf.bel⟩
theorem con_wrong (p : Pl) (bp : Nat) (A : Option Addr) (n c : Nat) (qs : List Q) (hn : n ≤ 1000) (w : World) (hP : w.cell? ⟨bp, 0, none⟩ = some (.int .i64 p.k)) (hd : FR w A n qs) :
    Calls Tryz.prog 44 #[.slice A n c, .func (.func 45) #[] #[.pointer (some ⟨bp, 0, none⟩)]] w fun e w' => e = .returned (.bool ((pfs qs).any (fun x : Pf => x.k != chgP p.k))) ∧ Below w.heap.size w w' := by
  have hix := idx_wrong p bp A n c qs hn w hP hd
  go_enter Tryz.func44, Tryz.ntmps44
  go_wp2_with (first
    | (go_at_call 80; (with_reducible refine hix.mono ?_); rintro e u ⟨r, rfl, hr, hb⟩; have HR := Lib.hid hr; have HB := Lib.hid hb; clear hr hb))
  go_ret
  exact ⟨by rw [← HR.out]; rfl, HB.out⟩
set_option maxHeartbeats 1000000 in
theorem idx_heldf (A : Option Addr) (n c : Nat) (qs : List Q) (hn : n ≤ 1000) (w : World) (hd : FR w A n qs) :
    Calls Tryz.prog 80 #[.slice A n c, .func (.func 47) #[] #[]] w fun e w' => ∃ r : Int, e = .returned (.int .i64 r) ∧ decide (0 ≤ r) = (pfs qs).any (heldP) ∧ Below w.heap.size w w' := by
  have HD := Lib.hid hd
  have HPL := Lib.hid (show (pfs qs).length = n by rw [pfs_len]; exact hd.1)
  clear hd
  have HK := Lib.hid (Kg.start w)
  obtain ⟨R, hR⟩ : ∃ R, (pfs qs).any (heldP) = R := ⟨_, rfl⟩
  rw [hR]
  have HRR := Lib.hid hR; clear hR
  go_enter Tryz.func80, Tryz.ntmps80
  go_wp2
  go_loopw [8] (fun i wr => ∃ m : Nat, m ≤ n ∧ i = .int .i64 m ∧ (∀ j x, j < m → (pfs qs)[j]? = some x → (heldP) x = false) ∧ Kg w (fun _ => False) [] [] wr) (fun i _ => n - (intOf i).toNat)
  case atStart => exact ⟨0, by omega, rfl, fun j x hj => by omega, HK.out⟩
  case round =>
    obtain ⟨m, hm, rfl, hq, hk⟩ := hrel
    have HQ := Lib.hid hq; clear hq
    clear HK; have HK := Lib.hid hk; clear hk
    by_cases hlt : m < n
    · obtain ⟨q, hx⟩ := HD.out.get hlt
      obtain ⟨b, off, rfl, hr⟩ := HD.out.base (by omega)
      have HX := Lib.hid (pfs_at hx)
      have HF := Lib.hid (HD.out.full hx)
      have HR := Lib.hid (hr m q hx)
      have HRW := Lib.hid (HD.out.row hx)
      have hcl := fun w h => held_any q.1 (HD.out.full hx) q.2.1 q.2.2 w h
      clear hr hx
      have HM := Lib.hid hlt
      have i1 : (0 : Int) ≤ (m : Int) := by omega
      have i2 : (m : Int) < (n : Int) := by omega
      cases ht : (heldP q.1) with
      | true =>
        rw [ht] at hcl
        have HT := Lib.hid (show R = true by rw [← HRR.out]; exact any_hit (P := heldP) HX.out ht); clear ht
        go_wp2_with (first
          | (with_reducible refine load_kg Tryz.underlying43 rfl (Pf.infoF HF.out) _ rfl (rng_below HR.out HK.out.mf.bel) rfl rfl ?_)
          | (go_at_call 47; (with_reducible refine (hcl _ (HRW.out.below HK.out.mf.bel (Nat.le_refl _))).mono ?_); rintro e u ⟨rfl, hb⟩; have hk := HK.out.call hb; clear hb; clear HK; have HK := Lib.hid hk; clear hk))
        go_ret
        exact ⟨_, rfl, by rw [HT.out]; exact decide_eq_true (by omega), HK.out.mf.bel⟩
      | false =>
        rw [ht] at hcl
        have HT := Lib.hid ht; clear ht
        go_wp2_with (first
          | (with_reducible refine load_kg Tryz.underlying43 rfl (Pf.infoF HF.out) _ rfl (rng_below HR.out HK.out.mf.bel) rfl rfl ?_)
          | (go_at_call 47; (with_reducible refine (hcl _ (HRW.out.below HK.out.mf.bel (Nat.le_refl _))).mono ?_); rintro e u ⟨rfl, hb⟩; have hk := HK.out.call hb; clear hb; clear HK; have HK := Lib.hid hk; clear hk))
        go_roundw
        case rel => exact ⟨m + 1, by have := HM.out; omega, by go_num, fun j y hj hy => by
          rcases Nat.lt_or_ge j m with h3 | h3
          · exact HQ.out j y h3 hy
          · obtain rfl : m = j := by omega
            rw [HX.out] at hy
            injection hy with hy
            rw [← hy]; exact HT.out, HK.out⟩
        case measure => have := HM.out; simp [intOf]; omega
    · obtain rfl : m = n := by omega
      have HT := Lib.hid (show R = false by rw [← HRR.out]; exact any_noneQ (l := (pfs qs)) (P := heldP) fun j x hj => HQ.out j x (by rw [HPL.out] at hj; exact hj))
      go_wp2
      go_ret
      exact ⟨_, rfl, by rw [HT.out]; rfl, HK.out.mf.bel⟩
theorem con_heldf (A : Option Addr) (n c : Nat) (qs : List Q) (hn : n ≤ 1000) (w : World) (hd : FR w A n qs) :
    Calls Tryz.prog 44 #[.slice A n c, .func (.func 47) #[] #[]] w fun e w' => e = .returned (.bool ((pfs qs).any (heldP))) ∧ Below w.heap.size w w' := by
  have hix := idx_heldf A n c qs hn w hd
  go_enter Tryz.func44, Tryz.ntmps44
  go_wp2_with (first
    | (go_at_call 80; (with_reducible refine hix.mono ?_); rintro e u ⟨r, rfl, hr, hb⟩; have HR := Lib.hid hr; have HB := Lib.hid hb; clear hr hb))
  go_ret
  exact ⟨by rw [← HR.out]; rfl, HB.out⟩
/-- What must be there, and what may not. -/
def placeE (ps : List Pf) (p : Pl) : Int := if !(isP ps p.nm) || ((p.k == 6) && !(isP ps p.ot)) then 10 else if (p.k == 5) && isP ps p.ot then 11 else if (p.k == 5) && decide (ps.length = 4) then 7 else 0
set_option maxHeartbeats 2000000 in
theorem place_any (p : Pl) (A : Option Addr) (n c : Nat) (qs : List Q) (hn : n ≤ 1000) (w : World) (hd : FR w A n qs) :
    Calls Tryz.prog 41 #[.slice A n c, .agg p.cells.toArray] w fun e w' => e = .returned (.int .i64 (placeE (pfs qs) p)) ∧ Below w.heap.size w w' := by
  have HK := Lib.hid (Kg.start w)
  have HD := Lib.hid hd
  have hl : (pfs qs).length = n := by rw [pfs_len]; exact hd.1
  clear hd
  obtain ⟨k1, hk1⟩ : ∃ k : Int, (if isP (pfs qs) p.nm then (findP (pfs qs) p.nm : Int) else 0) = k := ⟨_, rfl⟩
  obtain ⟨k2, hk2⟩ : ∃ k : Int, (if isP (pfs qs) p.ot then (findP (pfs qs) p.ot : Int) else 0) = k := ⟨_, rfl⟩
  obtain ⟨b2, hb2⟩ : ∃ b, isP (pfs qs) p.ot = b := ⟨_, rfl⟩
  cases h1 : isP (pfs qs) p.nm with
  | false =>
    have hf1 := fun w h => find_any A n c qs p.nm hn k1 false hk1 h1 w h
    have hf2 := fun w h => find_any A n c qs p.ot hn k2 b2 hk2 hb2 w h
    have HT := Lib.hid (show placeE (pfs qs) p = 10 by simp [placeE, h1])
    clear hk1 hk2 hb2 hl h1
    go_enter Tryz.func41, Tryz.ntmps41
    go_wp2_with (first
      | ((with_reducible refine box_k (cs := p.cells) HK.out rfl _ rfl rfl ?_); intro bp u hk; clear HK; have HK := Lib.hid hk; clear hk)
      | (with_reducible refine load_k1 HK.out 0 ckS _ rfl rfl rfl rfl Pl.c1 ?_)
      | (with_reducible refine load_k1 HK.out 0 ckS _ rfl rfl rfl rfl Pl.c2 ?_)
      | (with_reducible refine load_k1 HK.out 0 ckI _ rfl rfl rfl rfl Pl.c0 ?_)
      | (go_at_call 12; (with_reducible refine (hf1 _ (HD.out.below HK.out.mf.bel)).mono ?_); rintro e u ⟨rfl, hb⟩; have hk := HK.out.call hb; clear hb; clear HK; have HK := Lib.hid hk; clear hk)
      | (go_at_call 12; (with_reducible refine (hf2 _ (HD.out.below HK.out.mf.bel)).mono ?_); rintro e u ⟨rfl, hb⟩; have hk := HK.out.call hb; clear hb; clear HK; have HK := Lib.hid hk; clear hk))
    go_ret
    exact ⟨by rw [HT.out]; rfl, HK.out.mf.bel⟩
  | true =>
    have hf1 := fun w h => find_any A n c qs p.nm hn k1 true hk1 h1 w h
    cases h2 : isP (pfs qs) p.ot with
    | false =>
      have hf2 := fun w h => find_any A n c qs p.ot hn k2 false hk2 h2 w h
      cases h3 : (p.k == 6) with
      | true =>
        have HT := Lib.hid (show placeE (pfs qs) p = 10 by simp [placeE, h1, h2, h3])
        clear hk1 hk2 hb2 hl h1 h2
        go_enter Tryz.func41, Tryz.ntmps41
        go_wp2_with (first
          | ((with_reducible refine box_k (cs := p.cells) HK.out rfl _ rfl rfl ?_); intro bp u hk; clear HK; have HK := Lib.hid hk; clear hk)
          | (with_reducible refine load_k1 HK.out 0 ckS _ rfl rfl rfl rfl Pl.c1 ?_)
          | (with_reducible refine load_k1 HK.out 0 ckS _ rfl rfl rfl rfl Pl.c2 ?_)
          | (with_reducible refine load_k1 HK.out 0 ckI _ rfl rfl rfl rfl Pl.c0 ?_)
          | (go_at_call 12; (with_reducible refine (hf1 _ (HD.out.below HK.out.mf.bel)).mono ?_); rintro e u ⟨rfl, hb⟩; have hk := HK.out.call hb; clear hb; clear HK; have HK := Lib.hid hk; clear hk)
          | (go_at_call 12; (with_reducible refine (hf2 _ (HD.out.below HK.out.mf.bel)).mono ?_); rintro e u ⟨rfl, hb⟩; have hk := HK.out.call hb; clear hb; clear HK; have HK := Lib.hid hk; clear hk))
        go_ret
        exact ⟨by rw [HT.out]; rfl, HK.out.mf.bel⟩
      | false =>
        cases h4 : (p.k == 5) with
        | true =>
          cases h5 : ((n : Int) == 4) with
          | true =>
            have h6 : n = 4 := by simp at h5; omega
            have h7 : (n == 4) = true := by simp [h6]
            have HT := Lib.hid (show placeE (pfs qs) p = 7 by rw [h6] at hl; simp [placeE, h1, h2, h3, h4, hl])
            clear hk1 hk2 hb2 hl h1 h2 h6
            go_enter Tryz.func41, Tryz.ntmps41
            go_wp2_with (first
              | ((with_reducible refine box_k (cs := p.cells) HK.out rfl _ rfl rfl ?_); intro bp u hk; clear HK; have HK := Lib.hid hk; clear hk)
              | (with_reducible refine load_k1 HK.out 0 ckS _ rfl rfl rfl rfl Pl.c1 ?_)
              | (with_reducible refine load_k1 HK.out 0 ckS _ rfl rfl rfl rfl Pl.c2 ?_)
              | (with_reducible refine load_k1 HK.out 0 ckI _ rfl rfl rfl rfl Pl.c0 ?_)
              | (go_at_call 12; (with_reducible refine (hf1 _ (HD.out.below HK.out.mf.bel)).mono ?_); rintro e u ⟨rfl, hb⟩; have hk := HK.out.call hb; clear hb; clear HK; have HK := Lib.hid hk; clear hk)
              | (go_at_call 12; (with_reducible refine (hf2 _ (HD.out.below HK.out.mf.bel)).mono ?_); rintro e u ⟨rfl, hb⟩; have hk := HK.out.call hb; clear hb; clear HK; have HK := Lib.hid hk; clear hk))
            go_ret
            exact ⟨by rw [HT.out]; rfl, HK.out.mf.bel⟩
          | false =>
            have h6 : n ≠ 4 := by simp at h5; omega
            have h7 : (n == 4) = false := by simp [h6]
            have HT := Lib.hid (show placeE (pfs qs) p = 0 by simp [placeE, h1, h2, h3, h4, hl, h6])
            clear hk1 hk2 hb2 hl h1 h2 h6
            go_enter Tryz.func41, Tryz.ntmps41
            go_wp2_with (first
              | ((with_reducible refine box_k (cs := p.cells) HK.out rfl _ rfl rfl ?_); intro bp u hk; clear HK; have HK := Lib.hid hk; clear hk)
              | (with_reducible refine load_k1 HK.out 0 ckS _ rfl rfl rfl rfl Pl.c1 ?_)
              | (with_reducible refine load_k1 HK.out 0 ckS _ rfl rfl rfl rfl Pl.c2 ?_)
              | (with_reducible refine load_k1 HK.out 0 ckI _ rfl rfl rfl rfl Pl.c0 ?_)
              | (go_at_call 12; (with_reducible refine (hf1 _ (HD.out.below HK.out.mf.bel)).mono ?_); rintro e u ⟨rfl, hb⟩; have hk := HK.out.call hb; clear hb; clear HK; have HK := Lib.hid hk; clear hk)
              | (go_at_call 12; (with_reducible refine (hf2 _ (HD.out.below HK.out.mf.bel)).mono ?_); rintro e u ⟨rfl, hb⟩; have hk := HK.out.call hb; clear hb; clear HK; have HK := Lib.hid hk; clear hk))
            go_ret
            exact ⟨by rw [HT.out]; rfl, HK.out.mf.bel⟩
        | false =>
          have HT := Lib.hid (show placeE (pfs qs) p = 0 by simp [placeE, h1, h2, h3, h4])
          clear hk1 hk2 hb2 hl h1 h2
          go_enter Tryz.func41, Tryz.ntmps41
          go_wp2_with (first
            | ((with_reducible refine box_k (cs := p.cells) HK.out rfl _ rfl rfl ?_); intro bp u hk; clear HK; have HK := Lib.hid hk; clear hk)
            | (with_reducible refine load_k1 HK.out 0 ckS _ rfl rfl rfl rfl Pl.c1 ?_)
            | (with_reducible refine load_k1 HK.out 0 ckS _ rfl rfl rfl rfl Pl.c2 ?_)
            | (with_reducible refine load_k1 HK.out 0 ckI _ rfl rfl rfl rfl Pl.c0 ?_)
            | (go_at_call 12; (with_reducible refine (hf1 _ (HD.out.below HK.out.mf.bel)).mono ?_); rintro e u ⟨rfl, hb⟩; have hk := HK.out.call hb; clear hb; clear HK; have HK := Lib.hid hk; clear hk)
            | (go_at_call 12; (with_reducible refine (hf2 _ (HD.out.below HK.out.mf.bel)).mono ?_); rintro e u ⟨rfl, hb⟩; have hk := HK.out.call hb; clear hb; clear HK; have HK := Lib.hid hk; clear hk))
          go_ret
          exact ⟨by rw [HT.out]; rfl, HK.out.mf.bel⟩
    | true =>
      have hf2 := fun w h => find_any A n c qs p.ot hn k2 true hk2 h2 w h
      cases h3 : (p.k == 6) with
      | true =>
        have h4 : (p.k == 5) = false := by simp at h3; simp [h3]
        have HT := Lib.hid (show placeE (pfs qs) p = 0 by simp [placeE, h1, h2, h3, h4])
        clear hk1 hk2 hb2 hl h1 h2
        go_enter Tryz.func41, Tryz.ntmps41
        go_wp2_with (first
          | ((with_reducible refine box_k (cs := p.cells) HK.out rfl _ rfl rfl ?_); intro bp u hk; clear HK; have HK := Lib.hid hk; clear hk)
          | (with_reducible refine load_k1 HK.out 0 ckS _ rfl rfl rfl rfl Pl.c1 ?_)
          | (with_reducible refine load_k1 HK.out 0 ckS _ rfl rfl rfl rfl Pl.c2 ?_)
          | (with_reducible refine load_k1 HK.out 0 ckI _ rfl rfl rfl rfl Pl.c0 ?_)
          | (go_at_call 12; (with_reducible refine (hf1 _ (HD.out.below HK.out.mf.bel)).mono ?_); rintro e u ⟨rfl, hb⟩; have hk := HK.out.call hb; clear hb; clear HK; have HK := Lib.hid hk; clear hk)
          | (go_at_call 12; (with_reducible refine (hf2 _ (HD.out.below HK.out.mf.bel)).mono ?_); rintro e u ⟨rfl, hb⟩; have hk := HK.out.call hb; clear hb; clear HK; have HK := Lib.hid hk; clear hk))
        go_ret
        exact ⟨by rw [HT.out]; rfl, HK.out.mf.bel⟩
      | false =>
        cases h4 : (p.k == 5) with
        | true =>
          have HT := Lib.hid (show placeE (pfs qs) p = 11 by simp [placeE, h1, h2, h3, h4])
          clear hk1 hk2 hb2 hl h1 h2
          go_enter Tryz.func41, Tryz.ntmps41
          go_wp2_with (first
            | ((with_reducible refine box_k (cs := p.cells) HK.out rfl _ rfl rfl ?_); intro bp u hk; clear HK; have HK := Lib.hid hk; clear hk)
            | (with_reducible refine load_k1 HK.out 0 ckS _ rfl rfl rfl rfl Pl.c1 ?_)
            | (with_reducible refine load_k1 HK.out 0 ckS _ rfl rfl rfl rfl Pl.c2 ?_)
            | (with_reducible refine load_k1 HK.out 0 ckI _ rfl rfl rfl rfl Pl.c0 ?_)
            | (go_at_call 12; (with_reducible refine (hf1 _ (HD.out.below HK.out.mf.bel)).mono ?_); rintro e u ⟨rfl, hb⟩; have hk := HK.out.call hb; clear hb; clear HK; have HK := Lib.hid hk; clear hk)
            | (go_at_call 12; (with_reducible refine (hf2 _ (HD.out.below HK.out.mf.bel)).mono ?_); rintro e u ⟨rfl, hb⟩; have hk := HK.out.call hb; clear hb; clear HK; have HK := Lib.hid hk; clear hk))
          go_ret
          exact ⟨by rw [HT.out]; rfl, HK.out.mf.bel⟩
        | false =>
          have HT := Lib.hid (show placeE (pfs qs) p = 0 by simp [placeE, h1, h2, h3, h4])
          clear hk1 hk2 hb2 hl h1 h2
          go_enter Tryz.func41, Tryz.ntmps41
          go_wp2_with (first
            | ((with_reducible refine box_k (cs := p.cells) HK.out rfl _ rfl rfl ?_); intro bp u hk; clear HK; have HK := Lib.hid hk; clear hk)
            | (with_reducible refine load_k1 HK.out 0 ckS _ rfl rfl rfl rfl Pl.c1 ?_)
            | (with_reducible refine load_k1 HK.out 0 ckS _ rfl rfl rfl rfl Pl.c2 ?_)
            | (with_reducible refine load_k1 HK.out 0 ckI _ rfl rfl rfl rfl Pl.c0 ?_)
            | (go_at_call 12; (with_reducible refine (hf1 _ (HD.out.below HK.out.mf.bel)).mono ?_); rintro e u ⟨rfl, hb⟩; have hk := HK.out.call hb; clear hb; clear HK; have HK := Lib.hid hk; clear hk)
            | (go_at_call 12; (with_reducible refine (hf2 _ (HD.out.below HK.out.mf.bel)).mono ?_); rintro e u ⟨rfl, hb⟩; have hk := HK.out.call hb; clear hb; clear HK; have HK := Lib.hid hk; clear hk))
          go_ret
          exact ⟨by rw [HT.out]; rfl, HK.out.mf.bel⟩
/-- Fields that a plan is about. -/
def aboutP (ps : List Pf) (p : Pl) : List Pf := ps.filter fun y => touchB p y.nm
def fitE (ps : List Pf) (p : Pl) : Int := if !(fieldsB ps) then 1 else if !(planB p) then 14 else if placeE ps p ≠ 0 then placeE ps p else if (aboutP ps p).any (fun x : Pf => x.k != chgP p.k) then 17 else if (aboutP ps p).any heldP then 12 else 0
structure PlOk (p : Pl) : Prop where
  nm : p.nm.size ≤ 1000
  ot : p.ot.size ≤ 1000
  k : ok64W p.k
set_option maxHeartbeats 4000000 in
theorem fits_any (p : Pl) (hP : PlOk p) (A : Option Addr) (n c : Nat) (qs : List Q) (hn : n ≤ 1000) (hN : Fits1000 qs) (w : World) (hd : FR w A n qs) :
    Calls Tryz.prog 18 #[.slice A n c, .agg p.cells.toArray] w fun e w' => e = .returned (.int .i64 (fitE (pfs qs) p)) ∧ Below w.heap.size w w' := by
  have hmf : ∀ (fn : Fn) (first cap : Array Value) (w : World), (Instr.makeFunc fn first cap).run Tryz.prog w = .ok (.func fn first cap) w := fun _ _ _ _ => rfl
  have HK := Lib.hid (Kg.start w)
  have HD := Lib.hid hd
  have HPL := Lib.hid (show (pfs qs).length = n by rw [pfs_len]; exact hd.1)
  clear hd
  have hfd := fun w h => fields_any A n c qs hn hN w h
  have hpr := fun w => pright_any p hP.nm hP.ot hP.k w
  have hpl := fun w h => place_any p A n c qs hn w h
  have hpt := fun bp w hp h => parts1_any p bp A n c qs hn w hp h
  clear hP hN
  cases h1 : fieldsB (pfs qs) with
  | false =>
    rw [h1] at hfd
    have HT := Lib.hid (show fitE (pfs qs) p = 1 by simp [fitE, h1])
    go_enter Tryz.func18, Tryz.ntmps18
    go_wp2_with (first
      | ((with_reducible refine box_k (cs := p.cells) HK.out rfl _ rfl rfl ?_); intro bp u hk; clear HK; have HK := Lib.hid hk; clear hk)
      | (with_reducible refine load_kr (xs := p.cells) HK.out 0 Tryz.underlying24 rfl p_info _ rfl rfl rfl rfl Pl.all ?_)
      | (go_at_call 14; (with_reducible refine (hfd _ (HD.out.below HK.out.mf.bel)).mono ?_); rintro e u ⟨rfl, hb⟩; have hk := HK.out.call hb; clear hb; clear HK; have HK := Lib.hid hk; clear hk)
      | (go_at_call 16; (with_reducible refine (hpr _).mono ?_); rintro e u ⟨rfl, hb⟩; have hk := HK.out.call hb; clear hb; clear HK; have HK := Lib.hid hk; clear hk)
      | (go_at_call 41; (with_reducible refine (hpl _ (HD.out.below HK.out.mf.bel)).mono ?_); rintro e u ⟨rfl, hb⟩; have hk := HK.out.call hb; clear hb; clear HK; have HK := Lib.hid hk; clear hk)
      | (go_at_call 42; (with_reducible refine (hpt _ _ ((HK.out.celAt 0 rfl).range Pl.all) (HD.out.below HK.out.mf.bel)).mono ?_); rintro e u ⟨v, qs', rfl, ho, hpf⟩; obtain ⟨A2, c2, ev, hfr, _⟩ := ho.fr; subst ev; have HFR := Lib.hid hfr; have hk := HK.out.call ho.bel; have HE := Lib.hid (ho.bel); clear ho hfr; have HPF := Lib.hid (show pfs qs' = aboutP (pfs qs) p from hpf); have HLN := Lib.hid (show qs'.length ≤ 1000 by rw [← pfs_len, hpf]; exact Nat.le_trans (List.length_filter_le _ _) (by rw [HPL.out]; exact hn)); clear hpf; have HU := Lib.hid (Below.refl u.heap.size u); clear HK; have HK := Lib.hid hk; clear hk)
      | (go_at_call 44; (with_reducible refine (con_wrong p _ _ _ _ _ HLN.out _ ((HK.out.celAt 0 rfl).cell Pl.c0) (HFR.out.below HU.out)).mono ?_); rintro e u ⟨rfl, hb⟩; have hk := HK.out.call hb; have hu := HU.out.trans (hb.mono HU.out.size); clear HU; have HU := Lib.hid hu; clear hu hb; clear HK; have HK := Lib.hid hk; clear hk; rw [HPF.out, HW.out])
      | (go_at_call 44; (with_reducible refine (con_heldf _ _ _ _ HLN.out _ (HFR.out.below HU.out)).mono ?_); rintro e u ⟨rfl, hb⟩; have hk := HK.out.call hb; clear hb; clear HK; have HK := Lib.hid hk; clear hk; rw [HPF.out, HH.out]))
    go_ret
    exact ⟨by rw [HT.out]; rfl, HK.out.mf.bel⟩
  | true =>
    rw [h1] at hfd
    cases h2 : planB p with
    | false =>
      rw [h2] at hpr
      have HT := Lib.hid (show fitE (pfs qs) p = 14 by simp [fitE, h1, h2])
      go_enter Tryz.func18, Tryz.ntmps18
      go_wp2_with (first
        | ((with_reducible refine box_k (cs := p.cells) HK.out rfl _ rfl rfl ?_); intro bp u hk; clear HK; have HK := Lib.hid hk; clear hk)
        | (with_reducible refine load_kr (xs := p.cells) HK.out 0 Tryz.underlying24 rfl p_info _ rfl rfl rfl rfl Pl.all ?_)
        | (go_at_call 14; (with_reducible refine (hfd _ (HD.out.below HK.out.mf.bel)).mono ?_); rintro e u ⟨rfl, hb⟩; have hk := HK.out.call hb; clear hb; clear HK; have HK := Lib.hid hk; clear hk)
        | (go_at_call 16; (with_reducible refine (hpr _).mono ?_); rintro e u ⟨rfl, hb⟩; have hk := HK.out.call hb; clear hb; clear HK; have HK := Lib.hid hk; clear hk)
        | (go_at_call 41; (with_reducible refine (hpl _ (HD.out.below HK.out.mf.bel)).mono ?_); rintro e u ⟨rfl, hb⟩; have hk := HK.out.call hb; clear hb; clear HK; have HK := Lib.hid hk; clear hk)
        | (go_at_call 42; (with_reducible refine (hpt _ _ ((HK.out.celAt 0 rfl).range Pl.all) (HD.out.below HK.out.mf.bel)).mono ?_); rintro e u ⟨v, qs', rfl, ho, hpf⟩; obtain ⟨A2, c2, ev, hfr, _⟩ := ho.fr; subst ev; have HFR := Lib.hid hfr; have hk := HK.out.call ho.bel; have HE := Lib.hid (ho.bel); clear ho hfr; have HPF := Lib.hid (show pfs qs' = aboutP (pfs qs) p from hpf); have HLN := Lib.hid (show qs'.length ≤ 1000 by rw [← pfs_len, hpf]; exact Nat.le_trans (List.length_filter_le _ _) (by rw [HPL.out]; exact hn)); clear hpf; have HU := Lib.hid (Below.refl u.heap.size u); clear HK; have HK := Lib.hid hk; clear hk)
        | (go_at_call 44; (with_reducible refine (con_wrong p _ _ _ _ _ HLN.out _ ((HK.out.celAt 0 rfl).cell Pl.c0) (HFR.out.below HU.out)).mono ?_); rintro e u ⟨rfl, hb⟩; have hk := HK.out.call hb; have hu := HU.out.trans (hb.mono HU.out.size); clear HU; have HU := Lib.hid hu; clear hu hb; clear HK; have HK := Lib.hid hk; clear hk; rw [HPF.out, HW.out])
        | (go_at_call 44; (with_reducible refine (con_heldf _ _ _ _ HLN.out _ (HFR.out.below HU.out)).mono ?_); rintro e u ⟨rfl, hb⟩; have hk := HK.out.call hb; clear hb; clear HK; have HK := Lib.hid hk; clear hk; rw [HPF.out, HH.out]))
      go_ret
      exact ⟨by rw [HT.out]; rfl, HK.out.mf.bel⟩
    | true =>
      rw [h2] at hpr
      by_cases h3 : placeE (pfs qs) p = 0
      · rw [h3] at hpl
        cases h4 : (aboutP (pfs qs) p).any (fun x : Pf => x.k != chgP p.k) with
        | true =>
          have HW := Lib.hid h4
          have HT := Lib.hid (show fitE (pfs qs) p = 17 by simp [fitE, h1, h2, h3, h4])
          go_enter Tryz.func18, Tryz.ntmps18
          go_wp2_with (first
            | ((with_reducible refine box_k (cs := p.cells) HK.out rfl _ rfl rfl ?_); intro bp u hk; clear HK; have HK := Lib.hid hk; clear hk)
            | (with_reducible refine load_kr (xs := p.cells) HK.out 0 Tryz.underlying24 rfl p_info _ rfl rfl rfl rfl Pl.all ?_)
            | (go_at_call 14; (with_reducible refine (hfd _ (HD.out.below HK.out.mf.bel)).mono ?_); rintro e u ⟨rfl, hb⟩; have hk := HK.out.call hb; clear hb; clear HK; have HK := Lib.hid hk; clear hk)
            | (go_at_call 16; (with_reducible refine (hpr _).mono ?_); rintro e u ⟨rfl, hb⟩; have hk := HK.out.call hb; clear hb; clear HK; have HK := Lib.hid hk; clear hk)
            | (go_at_call 41; (with_reducible refine (hpl _ (HD.out.below HK.out.mf.bel)).mono ?_); rintro e u ⟨rfl, hb⟩; have hk := HK.out.call hb; clear hb; clear HK; have HK := Lib.hid hk; clear hk)
            | (go_at_call 42; (with_reducible refine (hpt _ _ ((HK.out.celAt 0 rfl).range Pl.all) (HD.out.below HK.out.mf.bel)).mono ?_); rintro e u ⟨v, qs', rfl, ho, hpf⟩; obtain ⟨A2, c2, ev, hfr, _⟩ := ho.fr; subst ev; have HFR := Lib.hid hfr; have hk := HK.out.call ho.bel; have HE := Lib.hid (ho.bel); clear ho hfr; have HPF := Lib.hid (show pfs qs' = aboutP (pfs qs) p from hpf); have HLN := Lib.hid (show qs'.length ≤ 1000 by rw [← pfs_len, hpf]; exact Nat.le_trans (List.length_filter_le _ _) (by rw [HPL.out]; exact hn)); clear hpf; have HU := Lib.hid (Below.refl u.heap.size u); clear HK; have HK := Lib.hid hk; clear hk)
            | (go_at_call 44; (with_reducible refine (con_wrong p _ _ _ _ _ HLN.out _ ((HK.out.celAt 0 rfl).cell Pl.c0) (HFR.out.below HU.out)).mono ?_); rintro e u ⟨rfl, hb⟩; have hk := HK.out.call hb; have hu := HU.out.trans (hb.mono HU.out.size); clear HU; have HU := Lib.hid hu; clear hu hb; clear HK; have HK := Lib.hid hk; clear hk; rw [HPF.out, HW.out])
            | (go_at_call 44; (with_reducible refine (con_heldf _ _ _ _ HLN.out _ (HFR.out.below HU.out)).mono ?_); rintro e u ⟨rfl, hb⟩; have hk := HK.out.call hb; clear hb; clear HK; have HK := Lib.hid hk; clear hk; rw [HPF.out, HH.out]))
          go_ret
          exact ⟨by rw [HT.out]; rfl, HK.out.mf.bel⟩
        | false =>
          have HW := Lib.hid h4
          cases h5 : (aboutP (pfs qs) p).any heldP with
          | true =>
            have HH := Lib.hid h5
            have HT := Lib.hid (show fitE (pfs qs) p = 12 by simp [fitE, h1, h2, h3, h4, h5])
            go_enter Tryz.func18, Tryz.ntmps18
            go_wp2_with (first
              | ((with_reducible refine box_k (cs := p.cells) HK.out rfl _ rfl rfl ?_); intro bp u hk; clear HK; have HK := Lib.hid hk; clear hk)
              | (with_reducible refine load_kr (xs := p.cells) HK.out 0 Tryz.underlying24 rfl p_info _ rfl rfl rfl rfl Pl.all ?_)
              | (go_at_call 14; (with_reducible refine (hfd _ (HD.out.below HK.out.mf.bel)).mono ?_); rintro e u ⟨rfl, hb⟩; have hk := HK.out.call hb; clear hb; clear HK; have HK := Lib.hid hk; clear hk)
              | (go_at_call 16; (with_reducible refine (hpr _).mono ?_); rintro e u ⟨rfl, hb⟩; have hk := HK.out.call hb; clear hb; clear HK; have HK := Lib.hid hk; clear hk)
              | (go_at_call 41; (with_reducible refine (hpl _ (HD.out.below HK.out.mf.bel)).mono ?_); rintro e u ⟨rfl, hb⟩; have hk := HK.out.call hb; clear hb; clear HK; have HK := Lib.hid hk; clear hk)
              | (go_at_call 42; (with_reducible refine (hpt _ _ ((HK.out.celAt 0 rfl).range Pl.all) (HD.out.below HK.out.mf.bel)).mono ?_); rintro e u ⟨v, qs', rfl, ho, hpf⟩; obtain ⟨A2, c2, ev, hfr, _⟩ := ho.fr; subst ev; have HFR := Lib.hid hfr; have hk := HK.out.call ho.bel; have HE := Lib.hid (ho.bel); clear ho hfr; have HPF := Lib.hid (show pfs qs' = aboutP (pfs qs) p from hpf); have HLN := Lib.hid (show qs'.length ≤ 1000 by rw [← pfs_len, hpf]; exact Nat.le_trans (List.length_filter_le _ _) (by rw [HPL.out]; exact hn)); clear hpf; have HU := Lib.hid (Below.refl u.heap.size u); clear HK; have HK := Lib.hid hk; clear hk)
              | (go_at_call 44; (with_reducible refine (con_wrong p _ _ _ _ _ HLN.out _ ((HK.out.celAt 0 rfl).cell Pl.c0) (HFR.out.below HU.out)).mono ?_); rintro e u ⟨rfl, hb⟩; have hk := HK.out.call hb; have hu := HU.out.trans (hb.mono HU.out.size); clear HU; have HU := Lib.hid hu; clear hu hb; clear HK; have HK := Lib.hid hk; clear hk; rw [HPF.out, HW.out])
              | (go_at_call 44; (with_reducible refine (con_heldf _ _ _ _ HLN.out _ (HFR.out.below HU.out)).mono ?_); rintro e u ⟨rfl, hb⟩; have hk := HK.out.call hb; clear hb; clear HK; have HK := Lib.hid hk; clear hk; rw [HPF.out, HH.out]))
            go_ret
            exact ⟨by rw [HT.out]; rfl, HK.out.mf.bel⟩
          | false =>
            have HH := Lib.hid h5
            have HT := Lib.hid (show fitE (pfs qs) p = 0 by simp [fitE, h1, h2, h3, h4, h5])
            go_enter Tryz.func18, Tryz.ntmps18
            go_wp2_with (first
              | ((with_reducible refine box_k (cs := p.cells) HK.out rfl _ rfl rfl ?_); intro bp u hk; clear HK; have HK := Lib.hid hk; clear hk)
              | (with_reducible refine load_kr (xs := p.cells) HK.out 0 Tryz.underlying24 rfl p_info _ rfl rfl rfl rfl Pl.all ?_)
              | (go_at_call 14; (with_reducible refine (hfd _ (HD.out.below HK.out.mf.bel)).mono ?_); rintro e u ⟨rfl, hb⟩; have hk := HK.out.call hb; clear hb; clear HK; have HK := Lib.hid hk; clear hk)
              | (go_at_call 16; (with_reducible refine (hpr _).mono ?_); rintro e u ⟨rfl, hb⟩; have hk := HK.out.call hb; clear hb; clear HK; have HK := Lib.hid hk; clear hk)
              | (go_at_call 41; (with_reducible refine (hpl _ (HD.out.below HK.out.mf.bel)).mono ?_); rintro e u ⟨rfl, hb⟩; have hk := HK.out.call hb; clear hb; clear HK; have HK := Lib.hid hk; clear hk)
              | (go_at_call 42; (with_reducible refine (hpt _ _ ((HK.out.celAt 0 rfl).range Pl.all) (HD.out.below HK.out.mf.bel)).mono ?_); rintro e u ⟨v, qs', rfl, ho, hpf⟩; obtain ⟨A2, c2, ev, hfr, _⟩ := ho.fr; subst ev; have HFR := Lib.hid hfr; have hk := HK.out.call ho.bel; have HE := Lib.hid (ho.bel); clear ho hfr; have HPF := Lib.hid (show pfs qs' = aboutP (pfs qs) p from hpf); have HLN := Lib.hid (show qs'.length ≤ 1000 by rw [← pfs_len, hpf]; exact Nat.le_trans (List.length_filter_le _ _) (by rw [HPL.out]; exact hn)); clear hpf; have HU := Lib.hid (Below.refl u.heap.size u); clear HK; have HK := Lib.hid hk; clear hk)
              | (go_at_call 44; (with_reducible refine (con_wrong p _ _ _ _ _ HLN.out _ ((HK.out.celAt 0 rfl).cell Pl.c0) (HFR.out.below HU.out)).mono ?_); rintro e u ⟨rfl, hb⟩; have hk := HK.out.call hb; have hu := HU.out.trans (hb.mono HU.out.size); clear HU; have HU := Lib.hid hu; clear hu hb; clear HK; have HK := Lib.hid hk; clear hk; rw [HPF.out, HW.out])
              | (go_at_call 44; (with_reducible refine (con_heldf _ _ _ _ HLN.out _ (HFR.out.below HU.out)).mono ?_); rintro e u ⟨rfl, hb⟩; have hk := HK.out.call hb; clear hb; clear HK; have HK := Lib.hid hk; clear hk; rw [HPF.out, HH.out]))
            go_ret
            exact ⟨by rw [HT.out]; rfl, HK.out.mf.bel⟩
      · obtain ⟨E, hE⟩ : ∃ E, placeE (pfs qs) p = E := ⟨_, rfl⟩
        rw [hE] at hpl h3
        have d0 : (E != 0) = true := by simpa using h3
        have HT := Lib.hid (show fitE (pfs qs) p = E by simp [fitE, h1, h2, hE, h3])
        go_enter Tryz.func18, Tryz.ntmps18
        go_wp2_with (first
          | ((with_reducible refine box_k (cs := p.cells) HK.out rfl _ rfl rfl ?_); intro bp u hk; clear HK; have HK := Lib.hid hk; clear hk)
          | (with_reducible refine load_kr (xs := p.cells) HK.out 0 Tryz.underlying24 rfl p_info _ rfl rfl rfl rfl Pl.all ?_)
          | (go_at_call 14; (with_reducible refine (hfd _ (HD.out.below HK.out.mf.bel)).mono ?_); rintro e u ⟨rfl, hb⟩; have hk := HK.out.call hb; clear hb; clear HK; have HK := Lib.hid hk; clear hk)
          | (go_at_call 16; (with_reducible refine (hpr _).mono ?_); rintro e u ⟨rfl, hb⟩; have hk := HK.out.call hb; clear hb; clear HK; have HK := Lib.hid hk; clear hk)
          | (go_at_call 41; (with_reducible refine (hpl _ (HD.out.below HK.out.mf.bel)).mono ?_); rintro e u ⟨rfl, hb⟩; have hk := HK.out.call hb; clear hb; clear HK; have HK := Lib.hid hk; clear hk)
          | (go_at_call 42; (with_reducible refine (hpt _ _ ((HK.out.celAt 0 rfl).range Pl.all) (HD.out.below HK.out.mf.bel)).mono ?_); rintro e u ⟨v, qs', rfl, ho, hpf⟩; obtain ⟨A2, c2, ev, hfr, _⟩ := ho.fr; subst ev; have HFR := Lib.hid hfr; have hk := HK.out.call ho.bel; have HE := Lib.hid (ho.bel); clear ho hfr; have HPF := Lib.hid (show pfs qs' = aboutP (pfs qs) p from hpf); have HLN := Lib.hid (show qs'.length ≤ 1000 by rw [← pfs_len, hpf]; exact Nat.le_trans (List.length_filter_le _ _) (by rw [HPL.out]; exact hn)); clear hpf; have HU := Lib.hid (Below.refl u.heap.size u); clear HK; have HK := Lib.hid hk; clear hk)
          | (go_at_call 44; (with_reducible refine (con_wrong p _ _ _ _ _ HLN.out _ ((HK.out.celAt 0 rfl).cell Pl.c0) (HFR.out.below HU.out)).mono ?_); rintro e u ⟨rfl, hb⟩; have hk := HK.out.call hb; have hu := HU.out.trans (hb.mono HU.out.size); clear HU; have HU := Lib.hid hu; clear hu hb; clear HK; have HK := Lib.hid hk; clear hk; rw [HPF.out, HW.out])
          | (go_at_call 44; (with_reducible refine (con_heldf _ _ _ _ HLN.out _ (HFR.out.below HU.out)).mono ?_); rintro e u ⟨rfl, hb⟩; have hk := HK.out.call hb; clear hb; clear HK; have HK := Lib.hid hk; clear hk; rw [HPF.out, HH.out]))
        go_ret
        exact ⟨by rw [HT.out]; rfl, HK.out.mf.bel⟩

end Go.Proofs.YtgblnlpfgdbnnaaGreat
