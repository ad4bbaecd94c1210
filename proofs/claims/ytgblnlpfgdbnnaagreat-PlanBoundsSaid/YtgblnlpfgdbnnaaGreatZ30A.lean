/- plan.Right, and the document's Right. -/
import Derived.Test.YtgblnlpfgdbnnaaGreatZ29A
namespace Go.Proofs.YtgblnlpfgdbnnaaGreat
set_option maxRecDepth 100000
open Go.ChangeShapes Go.WideShapes Go.ChangeAt Go.RowKit

/-- A cell that lies there, as a thing. -/
def Th.ce (q : Nat) (v : Value) : Th := ⟨fun k => k = q, fun u => u.cell? ⟨q, 0, none⟩ = some v, fun h hb => (World.cell?_of_block (a := ⟨q, 0, none⟩) (hb q rfl)).trans h, fun h hk => by subst hk; exact cell_lt h⟩
theorem Kg.rules {w u u' : World} {F : Nat → Prop} {own ro : List Th} {b q1 q2 q3 : Nat} (h : Kg w F own ro u) (hr : RM u b q1 q2 q3 u') : Kg w F own (Th.ce q1 (.func (.func 72) #[] #[]) :: Th.ce q2 (.func (.func 73) #[] #[]) :: Th.ce q3 (.func (.func 74) #[] #[]) :: ro) u' := by
  have k3 := h.made hr.bel (t := Th.ce q3 (.func (.func 74) #[] #[])) hr.c3 (fun k hk => by subst hk; exact hr.n3)
  have hf : ∀ q, u.heap.size ≤ q → ∀ e ∈ own, ∀ k, k = q → ¬ e.foot k := fun q hq e he k hk hc => by
    subst hk
    have := e.lt (h.all e he) hc
    omega
  exact (k3.also (t := Th.ce q2 (.func (.func 73) #[] #[])) hr.c2 (hf q2 hr.n2)).also (t := Th.ce q1 (.func (.func 72) #[] #[])) hr.c1 (hf q1 hr.n1)
theorem Kg.ce {w u : World} {F : Nat → Prop} {own ro : List Th} (h : Kg w F own ro u) (i : Nat) {q : Nat} {v : Value} (hi : ro[i]? = some (Th.ce q v)) : u.cell? ⟨q, 0, none⟩ = some v := h.see i hi
theorem rtab_some {k : Int} (h : 1 ≤ k ∧ k ≤ 6) (q1 q2 q3 : Nat) : ∃ v, rtab q1 q2 q3 k = some v := by
  have : k = 1 ∨ k = 2 ∨ k = 3 ∨ k = 4 ∨ k = 5 ∨ k = 6 := by omega
  rcases this with rfl | rfl | rfl | rfl | rfl | rfl <;> exact ⟨_, rfl⟩
theorem rtab_none {k : Int} (h : ¬ (1 ≤ k ∧ k ≤ 6)) (q1 q2 q3 : Nat) : rtab q1 q2 q3 k = none := by
  unfold rtab
  rw [if_neg (by omega), if_neg (by omega), if_neg (by omega), if_neg (by omega), if_neg (by omega)]
theorem rule_no {p : Pl} (h : ¬ (1 ≤ p.k ∧ p.k ≤ 6)) : ruleB p = false := by
  unfold ruleB
  rw [if_neg (by omega), if_neg (by omega), if_neg (by omega), if_neg (by omega), if_neg (by omega)]
set_option maxHeartbeats 1000000 in
theorem pright_1 (p : Pl) (hnam : p.nm.size ≤ 1000) (hkk : ok64W p.k) (h0 : p.k = 1) (h1 : nameB p.nm = true) (h2 : isB p.a = true) (h3 : isB p.b = true) (w : World) :
    Calls Tryz.prog 16 #[.agg p.cells.toArray] w fun e w' => e = .returned (.bool (planB p)) ∧ Below w.heap.size w w' := by
  have HK := Lib.hid (Kg.start w)
  have HKK := Lib.hid hkk
  have hnm := fname_any p.nm hnam; rw [h1] at hnm
  have hia := fun w => is_eq p.a true h2 w
  have hib := fun w => is_eq p.b true h3 w
  have hrk : ∀ r, shiftB p = r → ∀ (q1 q3 : Nat) (w : World), w.cell? ⟨q1, 0, none⟩ = some (.func (.func 72) #[] #[]) → w.cell? ⟨q3, 0, none⟩ = some (.func (.func 74) #[] #[]) → Calls Tryz.prog 75 #[.agg p.cells.toArray, .pointer (some ⟨q1, 0, none⟩), .pointer (some ⟨q3, 0, none⟩)] w fun e w' => e = .returned (.bool r) ∧ Below w.heap.size w w' := fun r hr q1 q3 w c1 c3 => by
    subst hr
    exact rk4_any p q1 q3 w c1 c3
  clear hkk hnam 
  cases hr : shiftB p with
  | false =>
    have HT := Lib.hid (show planB p = false by simp [planB, ruleB, h0, h1, h2, h3, hr])
    have HV := Lib.hid (show ∀ q1 q2 q3, rtab q1 q2 q3 p.k = some (.func (.func 75) #[] #[.pointer (some ⟨q1, 0, none⟩), .pointer (some ⟨q3, 0, none⟩)]) from fun q1 q2 q3 => by rw [h0]; rfl)
    have HR := Lib.hid hr; clear hr h0 h1 h2 h3
    go_enter Tryz.func16, Tryz.ntmps16
    go_wp2_with (first
      | ((with_reducible refine box_k (cs := p.cells) HK.out rfl _ rfl rfl ?_); intro bp u hk; clear HK; have HK := Lib.hid hk; clear hk))
    refine Draws.start (S := fun u => Kg w (fun _ => False) [Th.cel bp 24 p.cells] [] u) (n := 9) 9 rfl (by kernel_rfl) ?_
    have HS := Lib.hid (show (fun u => Kg w (fun _ => False) [Th.cel bp 24 p.cells] [] u) (World.drew _) from HK.out.drew)
    refine Draws.take 1 (v := ?v1) HS.out rfl (by kernel_rfl) (fun _ _ _ h => h) (Or.inl ⟨rfl, ?h1⟩) ?r1
    case h1 => intro w' hw'; go_simp; (try with_reducible rfl)
    (try simp only [Act.put, lsA, lsB, lsC])
    refine Draws.take 2 HS.out rfl (by kernel_rfl) (fun _ _ _ h => h) (yield_k ckI (fun _ h => (h.celAt 0 rfl).cell Pl.c0) _ rfl rfl rfl) ?_
    (try simp only [Act.put, lsA, lsB, lsC])
    refine Draws.does 0 rfl (by kernel_rfl) rfl (fun K' hK => ?_)
    go_simp
    go_at_call 36
    refine (rules_any _).mono ?_
    rintro e u ⟨bm, q1, q2, q3, rfl, hrm⟩
    (try dsimp only)
    have hk := Kg.rules HS.out hrm
    have HM := Lib.hid hrm.map
    clear HK hrm
    have HK := Lib.hid hk
    clear hk
    clear HS
    have HS := Lib.hid (show (fun u => Kg w (fun _ => False) [Th.cel bp 24 p.cells] [] u) _ from HK.out.sub (by simp))
    refine hK.out _ _ (fun _ => HS.out) ?_
    clear hK K'
    (try simp only [Act.put, lsA, lsB, lsC])
    refine Draws.does 3 rfl (by kernel_rfl) rfl (fun K' hK => ?_)
    refine wp_hitR HM.out HKK.out (HV.out q1 q2 q3) _ _ rfl rfl rfl ?_
    refine hK.out _ _ (fun _ => HS.out) ?_
    clear hK K'
    (try simp only [Act.put, lsA, lsB, lsC])
    refine Draws.take 4 (v := ?v2) HS.out rfl (by kernel_rfl) (fun _ _ _ h => h) (Or.inl ⟨rfl, ?h2⟩) ?r2
    case h2 => intro w' hw'; go_simp; (try with_reducible rfl)
    (try simp only [Act.put, lsA, lsB, lsC])
    refine Draws.take 5 (v := ?v3) HS.out rfl (by kernel_rfl) (fun _ _ _ h => h) (Or.inl ⟨rfl, ?h3⟩) ?r3
    case h3 => intro w' hw'; go_simp; (try with_reducible rfl)
    (try simp only [Act.put, lsA, lsB, lsC])
    refine Draws.take 6 (v := ?v4) HS.out rfl (by kernel_rfl) (fun _ _ _ h => h) (Or.inl ⟨rfl, ?h4⟩) ?r4
    case h4 => intro w' hw'; go_simp; (try with_reducible rfl)
    (try simp only [Act.put, lsA, lsB, lsC])
    refine Draws.take 7 (v := ?v5) HS.out rfl (by kernel_rfl) (fun _ _ _ h => h) (Or.inl ⟨rfl, ?h5⟩) ?r5
    case h5 => intro w' hw'; go_simp; (try with_reducible rfl)
    (try simp only [Act.put, lsA, lsB, lsC])
    refine Draws.take 8 (v := ?v6) HS.out rfl (by kernel_rfl) (fun _ _ _ h => h) (Or.inl ⟨rfl, ?h6⟩) ?r6
    case h6 => intro w' hw'; go_simp; (try with_reducible rfl)
    (try simp only [Act.put, lsA, lsB, lsC])
    refine Draws.done (by kernel_rfl) ?_
    go_wp2_with (first
      | (with_reducible refine load_k1 HK.out 0 ckS _ rfl rfl rfl rfl Pl.c1 ?_)
      | (with_reducible refine load_k1 HK.out 0 ckI _ rfl rfl rfl rfl Pl.c3 ?_)
      | (with_reducible refine load_k1 HK.out 0 ckI _ rfl rfl rfl rfl Pl.c4 ?_)
      | (with_reducible refine load_kr (xs := p.cells) HK.out 0 Tryz.underlying24 rfl p_info _ rfl rfl rfl rfl Pl.all ?_)
      | (go_at_call 37; (with_reducible refine (hnm _).mono ?_); rintro e u ⟨rfl, hb⟩; have hk := HK.out.call hb; clear hb; clear HK; have HK := Lib.hid hk; clear hk)
      | (go_at_call 38; (with_reducible refine (hia _).mono ?_); rintro e u ⟨rfl, rfl⟩)
      | (go_at_call 38; (with_reducible refine (hib _).mono ?_); rintro e u ⟨rfl, rfl⟩)
      | (go_at_call 75; (with_reducible refine (hrk _ HR.out q1 q3 _ (HK.out.ce 0 rfl) (HK.out.ce 2 rfl)).mono ?_); rintro e u ⟨rfl, hb⟩; have hk := HK.out.call hb; clear hb; clear HK; have HK := Lib.hid hk; clear hk))
    go_ret
    exact ⟨by rw [HT.out]; rfl, HK.out.mf.bel⟩
  | true =>
    have HT := Lib.hid (show planB p = true by simp [planB, ruleB, h0, h1, h2, h3, hr])
    have HV := Lib.hid (show ∀ q1 q2 q3, rtab q1 q2 q3 p.k = some (.func (.func 75) #[] #[.pointer (some ⟨q1, 0, none⟩), .pointer (some ⟨q3, 0, none⟩)]) from fun q1 q2 q3 => by rw [h0]; rfl)
    have HR := Lib.hid hr; clear hr h0 h1 h2 h3
    go_enter Tryz.func16, Tryz.ntmps16
    go_wp2_with (first
      | ((with_reducible refine box_k (cs := p.cells) HK.out rfl _ rfl rfl ?_); intro bp u hk; clear HK; have HK := Lib.hid hk; clear hk))
    refine Draws.start (S := fun u => Kg w (fun _ => False) [Th.cel bp 24 p.cells] [] u) (n := 9) 9 rfl (by kernel_rfl) ?_
    have HS := Lib.hid (show (fun u => Kg w (fun _ => False) [Th.cel bp 24 p.cells] [] u) (World.drew _) from HK.out.drew)
    refine Draws.take 1 (v := ?v7) HS.out rfl (by kernel_rfl) (fun _ _ _ h => h) (Or.inl ⟨rfl, ?h7⟩) ?r7
    case h7 => intro w' hw'; go_simp; (try with_reducible rfl)
    (try simp only [Act.put, lsA, lsB, lsC])
    refine Draws.take 2 HS.out rfl (by kernel_rfl) (fun _ _ _ h => h) (yield_k ckI (fun _ h => (h.celAt 0 rfl).cell Pl.c0) _ rfl rfl rfl) ?_
    (try simp only [Act.put, lsA, lsB, lsC])
    refine Draws.does 0 rfl (by kernel_rfl) rfl (fun K' hK => ?_)
    go_simp
    go_at_call 36
    refine (rules_any _).mono ?_
    rintro e u ⟨bm, q1, q2, q3, rfl, hrm⟩
    (try dsimp only)
    have hk := Kg.rules HS.out hrm
    have HM := Lib.hid hrm.map
    clear HK hrm
    have HK := Lib.hid hk
    clear hk
    clear HS
    have HS := Lib.hid (show (fun u => Kg w (fun _ => False) [Th.cel bp 24 p.cells] [] u) _ from HK.out.sub (by simp))
    refine hK.out _ _ (fun _ => HS.out) ?_
    clear hK K'
    (try simp only [Act.put, lsA, lsB, lsC])
    refine Draws.does 3 rfl (by kernel_rfl) rfl (fun K' hK => ?_)
    refine wp_hitR HM.out HKK.out (HV.out q1 q2 q3) _ _ rfl rfl rfl ?_
    refine hK.out _ _ (fun _ => HS.out) ?_
    clear hK K'
    (try simp only [Act.put, lsA, lsB, lsC])
    refine Draws.take 4 (v := ?v8) HS.out rfl (by kernel_rfl) (fun _ _ _ h => h) (Or.inl ⟨rfl, ?h8⟩) ?r8
    case h8 => intro w' hw'; go_simp; (try with_reducible rfl)
    (try simp only [Act.put, lsA, lsB, lsC])
    refine Draws.take 5 (v := ?v9) HS.out rfl (by kernel_rfl) (fun _ _ _ h => h) (Or.inl ⟨rfl, ?h9⟩) ?r9
    case h9 => intro w' hw'; go_simp; (try with_reducible rfl)
    (try simp only [Act.put, lsA, lsB, lsC])
    refine Draws.take 6 (v := ?v10) HS.out rfl (by kernel_rfl) (fun _ _ _ h => h) (Or.inl ⟨rfl, ?h10⟩) ?r10
    case h10 => intro w' hw'; go_simp; (try with_reducible rfl)
    (try simp only [Act.put, lsA, lsB, lsC])
    refine Draws.take 7 (v := ?v11) HS.out rfl (by kernel_rfl) (fun _ _ _ h => h) (Or.inl ⟨rfl, ?h11⟩) ?r11
    case h11 => intro w' hw'; go_simp; (try with_reducible rfl)
    (try simp only [Act.put, lsA, lsB, lsC])
    refine Draws.take 8 (v := ?v12) HS.out rfl (by kernel_rfl) (fun _ _ _ h => h) (Or.inl ⟨rfl, ?h12⟩) ?r12
    case h12 => intro w' hw'; go_simp; (try with_reducible rfl)
    (try simp only [Act.put, lsA, lsB, lsC])
    refine Draws.done (by kernel_rfl) ?_
    go_wp2_with (first
      | (with_reducible refine load_k1 HK.out 0 ckS _ rfl rfl rfl rfl Pl.c1 ?_)
      | (with_reducible refine load_k1 HK.out 0 ckI _ rfl rfl rfl rfl Pl.c3 ?_)
      | (with_reducible refine load_k1 HK.out 0 ckI _ rfl rfl rfl rfl Pl.c4 ?_)
      | (with_reducible refine load_kr (xs := p.cells) HK.out 0 Tryz.underlying24 rfl p_info _ rfl rfl rfl rfl Pl.all ?_)
      | (go_at_call 37; (with_reducible refine (hnm _).mono ?_); rintro e u ⟨rfl, hb⟩; have hk := HK.out.call hb; clear hb; clear HK; have HK := Lib.hid hk; clear hk)
      | (go_at_call 38; (with_reducible refine (hia _).mono ?_); rintro e u ⟨rfl, rfl⟩)
      | (go_at_call 38; (with_reducible refine (hib _).mono ?_); rintro e u ⟨rfl, rfl⟩)
      | (go_at_call 75; (with_reducible refine (hrk _ HR.out q1 q3 _ (HK.out.ce 0 rfl) (HK.out.ce 2 rfl)).mono ?_); rintro e u ⟨rfl, hb⟩; have hk := HK.out.call hb; clear hb; clear HK; have HK := Lib.hid hk; clear hk))
    go_ret
    exact ⟨by rw [HT.out]; rfl, HK.out.mf.bel⟩
set_option maxHeartbeats 1000000 in
theorem pright_2 (p : Pl) (hnam : p.nm.size ≤ 1000) (hkk : ok64W p.k) (h0 : p.k = 2) (h1 : nameB p.nm = true) (h2 : isB p.a = true) (h3 : isB p.b = true) (w : World) :
    Calls Tryz.prog 16 #[.agg p.cells.toArray] w fun e w' => e = .returned (.bool (planB p)) ∧ Below w.heap.size w w' := by
  have HK := Lib.hid (Kg.start w)
  have HKK := Lib.hid hkk
  have hnm := fname_any p.nm hnam; rw [h1] at hnm
  have hia := fun w => is_eq p.a true h2 w
  have hib := fun w => is_eq p.b true h3 w
  have hrk : ∀ r, shiftB p = r → ∀ (q1 q3 : Nat) (w : World), w.cell? ⟨q1, 0, none⟩ = some (.func (.func 72) #[] #[]) → w.cell? ⟨q3, 0, none⟩ = some (.func (.func 74) #[] #[]) → Calls Tryz.prog 75 #[.agg p.cells.toArray, .pointer (some ⟨q1, 0, none⟩), .pointer (some ⟨q3, 0, none⟩)] w fun e w' => e = .returned (.bool r) ∧ Below w.heap.size w w' := fun r hr q1 q3 w c1 c3 => by
    subst hr
    exact rk4_any p q1 q3 w c1 c3
  clear hkk hnam 
  cases hr : shiftB p with
  | false =>
    have HT := Lib.hid (show planB p = false by simp [planB, ruleB, h0, h1, h2, h3, hr])
    have HV := Lib.hid (show ∀ q1 q2 q3, rtab q1 q2 q3 p.k = some (.func (.func 75) #[] #[.pointer (some ⟨q1, 0, none⟩), .pointer (some ⟨q3, 0, none⟩)]) from fun q1 q2 q3 => by rw [h0]; rfl)
    have HR := Lib.hid hr; clear hr h0 h1 h2 h3
    go_enter Tryz.func16, Tryz.ntmps16
    go_wp2_with (first
      | ((with_reducible refine box_k (cs := p.cells) HK.out rfl _ rfl rfl ?_); intro bp u hk; clear HK; have HK := Lib.hid hk; clear hk))
    refine Draws.start (S := fun u => Kg w (fun _ => False) [Th.cel bp 24 p.cells] [] u) (n := 9) 9 rfl (by kernel_rfl) ?_
    have HS := Lib.hid (show (fun u => Kg w (fun _ => False) [Th.cel bp 24 p.cells] [] u) (World.drew _) from HK.out.drew)
    refine Draws.take 1 (v := ?v13) HS.out rfl (by kernel_rfl) (fun _ _ _ h => h) (Or.inl ⟨rfl, ?h13⟩) ?r13
    case h13 => intro w' hw'; go_simp; (try with_reducible rfl)
    (try simp only [Act.put, lsA, lsB, lsC])
    refine Draws.take 2 HS.out rfl (by kernel_rfl) (fun _ _ _ h => h) (yield_k ckI (fun _ h => (h.celAt 0 rfl).cell Pl.c0) _ rfl rfl rfl) ?_
    (try simp only [Act.put, lsA, lsB, lsC])
    refine Draws.does 0 rfl (by kernel_rfl) rfl (fun K' hK => ?_)
    go_simp
    go_at_call 36
    refine (rules_any _).mono ?_
    rintro e u ⟨bm, q1, q2, q3, rfl, hrm⟩
    (try dsimp only)
    have hk := Kg.rules HS.out hrm
    have HM := Lib.hid hrm.map
    clear HK hrm
    have HK := Lib.hid hk
    clear hk
    clear HS
    have HS := Lib.hid (show (fun u => Kg w (fun _ => False) [Th.cel bp 24 p.cells] [] u) _ from HK.out.sub (by simp))
    refine hK.out _ _ (fun _ => HS.out) ?_
    clear hK K'
    (try simp only [Act.put, lsA, lsB, lsC])
    refine Draws.does 3 rfl (by kernel_rfl) rfl (fun K' hK => ?_)
    refine wp_hitR HM.out HKK.out (HV.out q1 q2 q3) _ _ rfl rfl rfl ?_
    refine hK.out _ _ (fun _ => HS.out) ?_
    clear hK K'
    (try simp only [Act.put, lsA, lsB, lsC])
    refine Draws.take 4 (v := ?v14) HS.out rfl (by kernel_rfl) (fun _ _ _ h => h) (Or.inl ⟨rfl, ?h14⟩) ?r14
    case h14 => intro w' hw'; go_simp; (try with_reducible rfl)
    (try simp only [Act.put, lsA, lsB, lsC])
    refine Draws.take 5 (v := ?v15) HS.out rfl (by kernel_rfl) (fun _ _ _ h => h) (Or.inl ⟨rfl, ?h15⟩) ?r15
    case h15 => intro w' hw'; go_simp; (try with_reducible rfl)
    (try simp only [Act.put, lsA, lsB, lsC])
    refine Draws.take 6 (v := ?v16) HS.out rfl (by kernel_rfl) (fun _ _ _ h => h) (Or.inl ⟨rfl, ?h16⟩) ?r16
    case h16 => intro w' hw'; go_simp; (try with_reducible rfl)
    (try simp only [Act.put, lsA, lsB, lsC])
    refine Draws.take 7 (v := ?v17) HS.out rfl (by kernel_rfl) (fun _ _ _ h => h) (Or.inl ⟨rfl, ?h17⟩) ?r17
    case h17 => intro w' hw'; go_simp; (try with_reducible rfl)
    (try simp only [Act.put, lsA, lsB, lsC])
    refine Draws.take 8 (v := ?v18) HS.out rfl (by kernel_rfl) (fun _ _ _ h => h) (Or.inl ⟨rfl, ?h18⟩) ?r18
    case h18 => intro w' hw'; go_simp; (try with_reducible rfl)
    (try simp only [Act.put, lsA, lsB, lsC])
    refine Draws.done (by kernel_rfl) ?_
    go_wp2_with (first
      | (with_reducible refine load_k1 HK.out 0 ckS _ rfl rfl rfl rfl Pl.c1 ?_)
      | (with_reducible refine load_k1 HK.out 0 ckI _ rfl rfl rfl rfl Pl.c3 ?_)
      | (with_reducible refine load_k1 HK.out 0 ckI _ rfl rfl rfl rfl Pl.c4 ?_)
      | (with_reducible refine load_kr (xs := p.cells) HK.out 0 Tryz.underlying24 rfl p_info _ rfl rfl rfl rfl Pl.all ?_)
      | (go_at_call 37; (with_reducible refine (hnm _).mono ?_); rintro e u ⟨rfl, hb⟩; have hk := HK.out.call hb; clear hb; clear HK; have HK := Lib.hid hk; clear hk)
      | (go_at_call 38; (with_reducible refine (hia _).mono ?_); rintro e u ⟨rfl, rfl⟩)
      | (go_at_call 38; (with_reducible refine (hib _).mono ?_); rintro e u ⟨rfl, rfl⟩)
      | (go_at_call 75; (with_reducible refine (hrk _ HR.out q1 q3 _ (HK.out.ce 0 rfl) (HK.out.ce 2 rfl)).mono ?_); rintro e u ⟨rfl, hb⟩; have hk := HK.out.call hb; clear hb; clear HK; have HK := Lib.hid hk; clear hk))
    go_ret
    exact ⟨by rw [HT.out]; rfl, HK.out.mf.bel⟩
  | true =>
    have HT := Lib.hid (show planB p = true by simp [planB, ruleB, h0, h1, h2, h3, hr])
    have HV := Lib.hid (show ∀ q1 q2 q3, rtab q1 q2 q3 p.k = some (.func (.func 75) #[] #[.pointer (some ⟨q1, 0, none⟩), .pointer (some ⟨q3, 0, none⟩)]) from fun q1 q2 q3 => by rw [h0]; rfl)
    have HR := Lib.hid hr; clear hr h0 h1 h2 h3
    go_enter Tryz.func16, Tryz.ntmps16
    go_wp2_with (first
      | ((with_reducible refine box_k (cs := p.cells) HK.out rfl _ rfl rfl ?_); intro bp u hk; clear HK; have HK := Lib.hid hk; clear hk))
    refine Draws.start (S := fun u => Kg w (fun _ => False) [Th.cel bp 24 p.cells] [] u) (n := 9) 9 rfl (by kernel_rfl) ?_
    have HS := Lib.hid (show (fun u => Kg w (fun _ => False) [Th.cel bp 24 p.cells] [] u) (World.drew _) from HK.out.drew)
    refine Draws.take 1 (v := ?v19) HS.out rfl (by kernel_rfl) (fun _ _ _ h => h) (Or.inl ⟨rfl, ?h19⟩) ?r19
    case h19 => intro w' hw'; go_simp; (try with_reducible rfl)
    (try simp only [Act.put, lsA, lsB, lsC])
    refine Draws.take 2 HS.out rfl (by kernel_rfl) (fun _ _ _ h => h) (yield_k ckI (fun _ h => (h.celAt 0 rfl).cell Pl.c0) _ rfl rfl rfl) ?_
    (try simp only [Act.put, lsA, lsB, lsC])
    refine Draws.does 0 rfl (by kernel_rfl) rfl (fun K' hK => ?_)
    go_simp
    go_at_call 36
    refine (rules_any _).mono ?_
    rintro e u ⟨bm, q1, q2, q3, rfl, hrm⟩
    (try dsimp only)
    have hk := Kg.rules HS.out hrm
    have HM := Lib.hid hrm.map
    clear HK hrm
    have HK := Lib.hid hk
    clear hk
    clear HS
    have HS := Lib.hid (show (fun u => Kg w (fun _ => False) [Th.cel bp 24 p.cells] [] u) _ from HK.out.sub (by simp))
    refine hK.out _ _ (fun _ => HS.out) ?_
    clear hK K'
    (try simp only [Act.put, lsA, lsB, lsC])
    refine Draws.does 3 rfl (by kernel_rfl) rfl (fun K' hK => ?_)
    refine wp_hitR HM.out HKK.out (HV.out q1 q2 q3) _ _ rfl rfl rfl ?_
    refine hK.out _ _ (fun _ => HS.out) ?_
    clear hK K'
    (try simp only [Act.put, lsA, lsB, lsC])
    refine Draws.take 4 (v := ?v20) HS.out rfl (by kernel_rfl) (fun _ _ _ h => h) (Or.inl ⟨rfl, ?h20⟩) ?r20
    case h20 => intro w' hw'; go_simp; (try with_reducible rfl)
    (try simp only [Act.put, lsA, lsB, lsC])
    refine Draws.take 5 (v := ?v21) HS.out rfl (by kernel_rfl) (fun _ _ _ h => h) (Or.inl ⟨rfl, ?h21⟩) ?r21
    case h21 => intro w' hw'; go_simp; (try with_reducible rfl)
    (try simp only [Act.put, lsA, lsB, lsC])
    refine Draws.take 6 (v := ?v22) HS.out rfl (by kernel_rfl) (fun _ _ _ h => h) (Or.inl ⟨rfl, ?h22⟩) ?r22
    case h22 => intro w' hw'; go_simp; (try with_reducible rfl)
    (try simp only [Act.put, lsA, lsB, lsC])
    refine Draws.take 7 (v := ?v23) HS.out rfl (by kernel_rfl) (fun _ _ _ h => h) (Or.inl ⟨rfl, ?h23⟩) ?r23
    case h23 => intro w' hw'; go_simp; (try with_reducible rfl)
    (try simp only [Act.put, lsA, lsB, lsC])
    refine Draws.take 8 (v := ?v24) HS.out rfl (by kernel_rfl) (fun _ _ _ h => h) (Or.inl ⟨rfl, ?h24⟩) ?r24
    case h24 => intro w' hw'; go_simp; (try with_reducible rfl)
    (try simp only [Act.put, lsA, lsB, lsC])
    refine Draws.done (by kernel_rfl) ?_
    go_wp2_with (first
      | (with_reducible refine load_k1 HK.out 0 ckS _ rfl rfl rfl rfl Pl.c1 ?_)
      | (with_reducible refine load_k1 HK.out 0 ckI _ rfl rfl rfl rfl Pl.c3 ?_)
      | (with_reducible refine load_k1 HK.out 0 ckI _ rfl rfl rfl rfl Pl.c4 ?_)
      | (with_reducible refine load_kr (xs := p.cells) HK.out 0 Tryz.underlying24 rfl p_info _ rfl rfl rfl rfl Pl.all ?_)
      | (go_at_call 37; (with_reducible refine (hnm _).mono ?_); rintro e u ⟨rfl, hb⟩; have hk := HK.out.call hb; clear hb; clear HK; have HK := Lib.hid hk; clear hk)
      | (go_at_call 38; (with_reducible refine (hia _).mono ?_); rintro e u ⟨rfl, rfl⟩)
      | (go_at_call 38; (with_reducible refine (hib _).mono ?_); rintro e u ⟨rfl, rfl⟩)
      | (go_at_call 75; (with_reducible refine (hrk _ HR.out q1 q3 _ (HK.out.ce 0 rfl) (HK.out.ce 2 rfl)).mono ?_); rintro e u ⟨rfl, hb⟩; have hk := HK.out.call hb; clear hb; clear HK; have HK := Lib.hid hk; clear hk))
    go_ret
    exact ⟨by rw [HT.out]; rfl, HK.out.mf.bel⟩
set_option maxHeartbeats 1000000 in
theorem pright_3 (p : Pl) (hnam : p.nm.size ≤ 1000) (hkk : ok64W p.k) (h0 : p.k = 3) (h1 : nameB p.nm = true) (h2 : isB p.a = true) (h3 : isB p.b = true) (w : World) :
    Calls Tryz.prog 16 #[.agg p.cells.toArray] w fun e w' => e = .returned (.bool (planB p)) ∧ Below w.heap.size w w' := by
  have HK := Lib.hid (Kg.start w)
  have HKK := Lib.hid hkk
  have hnm := fname_any p.nm hnam; rw [h1] at hnm
  have hia := fun w => is_eq p.a true h2 w
  have hib := fun w => is_eq p.b true h3 w
  have hrk : ∀ r, lockB p = r → ∀ (q1 q3 : Nat) (w : World), w.cell? ⟨q1, 0, none⟩ = some (.func (.func 72) #[] #[]) → w.cell? ⟨q3, 0, none⟩ = some (.func (.func 74) #[] #[]) → Calls Tryz.prog 76 #[.agg p.cells.toArray, .pointer (some ⟨q1, 0, none⟩), .pointer (some ⟨q3, 0, none⟩)] w fun e w' => e = .returned (.bool r) ∧ Below w.heap.size w w' := fun r hr q1 q3 w c1 c3 => by
    subst hr
    exact rk5_any p q1 q3 w c1 c3
  clear hkk hnam 
  cases hr : lockB p with
  | false =>
    have HT := Lib.hid (show planB p = false by simp [planB, ruleB, h0, h1, h2, h3, hr])
    have HV := Lib.hid (show ∀ q1 q2 q3, rtab q1 q2 q3 p.k = some (.func (.func 76) #[] #[.pointer (some ⟨q1, 0, none⟩), .pointer (some ⟨q3, 0, none⟩)]) from fun q1 q2 q3 => by rw [h0]; rfl)
    have HR := Lib.hid hr; clear hr h0 h1 h2 h3
    go_enter Tryz.func16, Tryz.ntmps16
    go_wp2_with (first
      | ((with_reducible refine box_k (cs := p.cells) HK.out rfl _ rfl rfl ?_); intro bp u hk; clear HK; have HK := Lib.hid hk; clear hk))
    refine Draws.start (S := fun u => Kg w (fun _ => False) [Th.cel bp 24 p.cells] [] u) (n := 9) 9 rfl (by kernel_rfl) ?_
    have HS := Lib.hid (show (fun u => Kg w (fun _ => False) [Th.cel bp 24 p.cells] [] u) (World.drew _) from HK.out.drew)
    refine Draws.take 1 (v := ?v25) HS.out rfl (by kernel_rfl) (fun _ _ _ h => h) (Or.inl ⟨rfl, ?h25⟩) ?r25
    case h25 => intro w' hw'; go_simp; (try with_reducible rfl)
    (try simp only [Act.put, lsA, lsB, lsC])
    refine Draws.take 2 HS.out rfl (by kernel_rfl) (fun _ _ _ h => h) (yield_k ckI (fun _ h => (h.celAt 0 rfl).cell Pl.c0) _ rfl rfl rfl) ?_
    (try simp only [Act.put, lsA, lsB, lsC])
    refine Draws.does 0 rfl (by kernel_rfl) rfl (fun K' hK => ?_)
    go_simp
    go_at_call 36
    refine (rules_any _).mono ?_
    rintro e u ⟨bm, q1, q2, q3, rfl, hrm⟩
    (try dsimp only)
    have hk := Kg.rules HS.out hrm
    have HM := Lib.hid hrm.map
    clear HK hrm
    have HK := Lib.hid hk
    clear hk
    clear HS
    have HS := Lib.hid (show (fun u => Kg w (fun _ => False) [Th.cel bp 24 p.cells] [] u) _ from HK.out.sub (by simp))
    refine hK.out _ _ (fun _ => HS.out) ?_
    clear hK K'
    (try simp only [Act.put, lsA, lsB, lsC])
    refine Draws.does 3 rfl (by kernel_rfl) rfl (fun K' hK => ?_)
    refine wp_hitR HM.out HKK.out (HV.out q1 q2 q3) _ _ rfl rfl rfl ?_
    refine hK.out _ _ (fun _ => HS.out) ?_
    clear hK K'
    (try simp only [Act.put, lsA, lsB, lsC])
    refine Draws.take 4 (v := ?v26) HS.out rfl (by kernel_rfl) (fun _ _ _ h => h) (Or.inl ⟨rfl, ?h26⟩) ?r26
    case h26 => intro w' hw'; go_simp; (try with_reducible rfl)
    (try simp only [Act.put, lsA, lsB, lsC])
    refine Draws.take 5 (v := ?v27) HS.out rfl (by kernel_rfl) (fun _ _ _ h => h) (Or.inl ⟨rfl, ?h27⟩) ?r27
    case h27 => intro w' hw'; go_simp; (try with_reducible rfl)
    (try simp only [Act.put, lsA, lsB, lsC])
    refine Draws.take 6 (v := ?v28) HS.out rfl (by kernel_rfl) (fun _ _ _ h => h) (Or.inl ⟨rfl, ?h28⟩) ?r28
    case h28 => intro w' hw'; go_simp; (try with_reducible rfl)
    (try simp only [Act.put, lsA, lsB, lsC])
    refine Draws.take 7 (v := ?v29) HS.out rfl (by kernel_rfl) (fun _ _ _ h => h) (Or.inl ⟨rfl, ?h29⟩) ?r29
    case h29 => intro w' hw'; go_simp; (try with_reducible rfl)
    (try simp only [Act.put, lsA, lsB, lsC])
    refine Draws.take 8 (v := ?v30) HS.out rfl (by kernel_rfl) (fun _ _ _ h => h) (Or.inl ⟨rfl, ?h30⟩) ?r30
    case h30 => intro w' hw'; go_simp; (try with_reducible rfl)
    (try simp only [Act.put, lsA, lsB, lsC])
    refine Draws.done (by kernel_rfl) ?_
    go_wp2_with (first
      | (with_reducible refine load_k1 HK.out 0 ckS _ rfl rfl rfl rfl Pl.c1 ?_)
      | (with_reducible refine load_k1 HK.out 0 ckI _ rfl rfl rfl rfl Pl.c3 ?_)
      | (with_reducible refine load_k1 HK.out 0 ckI _ rfl rfl rfl rfl Pl.c4 ?_)
      | (with_reducible refine load_kr (xs := p.cells) HK.out 0 Tryz.underlying24 rfl p_info _ rfl rfl rfl rfl Pl.all ?_)
      | (go_at_call 37; (with_reducible refine (hnm _).mono ?_); rintro e u ⟨rfl, hb⟩; have hk := HK.out.call hb; clear hb; clear HK; have HK := Lib.hid hk; clear hk)
      | (go_at_call 38; (with_reducible refine (hia _).mono ?_); rintro e u ⟨rfl, rfl⟩)
      | (go_at_call 38; (with_reducible refine (hib _).mono ?_); rintro e u ⟨rfl, rfl⟩)
      | (go_at_call 76; (with_reducible refine (hrk _ HR.out q1 q3 _ (HK.out.ce 0 rfl) (HK.out.ce 2 rfl)).mono ?_); rintro e u ⟨rfl, hb⟩; have hk := HK.out.call hb; clear hb; clear HK; have HK := Lib.hid hk; clear hk))
    go_ret
    exact ⟨by rw [HT.out]; rfl, HK.out.mf.bel⟩
  | true =>
    have HT := Lib.hid (show planB p = true by simp [planB, ruleB, h0, h1, h2, h3, hr])
    have HV := Lib.hid (show ∀ q1 q2 q3, rtab q1 q2 q3 p.k = some (.func (.func 76) #[] #[.pointer (some ⟨q1, 0, none⟩), .pointer (some ⟨q3, 0, none⟩)]) from fun q1 q2 q3 => by rw [h0]; rfl)
    have HR := Lib.hid hr; clear hr h0 h1 h2 h3
    go_enter Tryz.func16, Tryz.ntmps16
    go_wp2_with (first
      | ((with_reducible refine box_k (cs := p.cells) HK.out rfl _ rfl rfl ?_); intro bp u hk; clear HK; have HK := Lib.hid hk; clear hk))
    refine Draws.start (S := fun u => Kg w (fun _ => False) [Th.cel bp 24 p.cells] [] u) (n := 9) 9 rfl (by kernel_rfl) ?_
    have HS := Lib.hid (show (fun u => Kg w (fun _ => False) [Th.cel bp 24 p.cells] [] u) (World.drew _) from HK.out.drew)
    refine Draws.take 1 (v := ?v31) HS.out rfl (by kernel_rfl) (fun _ _ _ h => h) (Or.inl ⟨rfl, ?h31⟩) ?r31
    case h31 => intro w' hw'; go_simp; (try with_reducible rfl)
    (try simp only [Act.put, lsA, lsB, lsC])
    refine Draws.take 2 HS.out rfl (by kernel_rfl) (fun _ _ _ h => h) (yield_k ckI (fun _ h => (h.celAt 0 rfl).cell Pl.c0) _ rfl rfl rfl) ?_
    (try simp only [Act.put, lsA, lsB, lsC])
    refine Draws.does 0 rfl (by kernel_rfl) rfl (fun K' hK => ?_)
    go_simp
    go_at_call 36
    refine (rules_any _).mono ?_
    rintro e u ⟨bm, q1, q2, q3, rfl, hrm⟩
    (try dsimp only)
    have hk := Kg.rules HS.out hrm
    have HM := Lib.hid hrm.map
    clear HK hrm
    have HK := Lib.hid hk
    clear hk
    clear HS
    have HS := Lib.hid (show (fun u => Kg w (fun _ => False) [Th.cel bp 24 p.cells] [] u) _ from HK.out.sub (by simp))
    refine hK.out _ _ (fun _ => HS.out) ?_
    clear hK K'
    (try simp only [Act.put, lsA, lsB, lsC])
    refine Draws.does 3 rfl (by kernel_rfl) rfl (fun K' hK => ?_)
    refine wp_hitR HM.out HKK.out (HV.out q1 q2 q3) _ _ rfl rfl rfl ?_
    refine hK.out _ _ (fun _ => HS.out) ?_
    clear hK K'
    (try simp only [Act.put, lsA, lsB, lsC])
    refine Draws.take 4 (v := ?v32) HS.out rfl (by kernel_rfl) (fun _ _ _ h => h) (Or.inl ⟨rfl, ?h32⟩) ?r32
    case h32 => intro w' hw'; go_simp; (try with_reducible rfl)
    (try simp only [Act.put, lsA, lsB, lsC])
    refine Draws.take 5 (v := ?v33) HS.out rfl (by kernel_rfl) (fun _ _ _ h => h) (Or.inl ⟨rfl, ?h33⟩) ?r33
    case h33 => intro w' hw'; go_simp; (try with_reducible rfl)
    (try simp only [Act.put, lsA, lsB, lsC])
    refine Draws.take 6 (v := ?v34) HS.out rfl (by kernel_rfl) (fun _ _ _ h => h) (Or.inl ⟨rfl, ?h34⟩) ?r34
    case h34 => intro w' hw'; go_simp; (try with_reducible rfl)
    (try simp only [Act.put, lsA, lsB, lsC])
    refine Draws.take 7 (v := ?v35) HS.out rfl (by kernel_rfl) (fun _ _ _ h => h) (Or.inl ⟨rfl, ?h35⟩) ?r35
    case h35 => intro w' hw'; go_simp; (try with_reducible rfl)
    (try simp only [Act.put, lsA, lsB, lsC])
    refine Draws.take 8 (v := ?v36) HS.out rfl (by kernel_rfl) (fun _ _ _ h => h) (Or.inl ⟨rfl, ?h36⟩) ?r36
    case h36 => intro w' hw'; go_simp; (try with_reducible rfl)
    (try simp only [Act.put, lsA, lsB, lsC])
    refine Draws.done (by kernel_rfl) ?_
    go_wp2_with (first
      | (with_reducible refine load_k1 HK.out 0 ckS _ rfl rfl rfl rfl Pl.c1 ?_)
      | (with_reducible refine load_k1 HK.out 0 ckI _ rfl rfl rfl rfl Pl.c3 ?_)
      | (with_reducible refine load_k1 HK.out 0 ckI _ rfl rfl rfl rfl Pl.c4 ?_)
      | (with_reducible refine load_kr (xs := p.cells) HK.out 0 Tryz.underlying24 rfl p_info _ rfl rfl rfl rfl Pl.all ?_)
      | (go_at_call 37; (with_reducible refine (hnm _).mono ?_); rintro e u ⟨rfl, hb⟩; have hk := HK.out.call hb; clear hb; clear HK; have HK := Lib.hid hk; clear hk)
      | (go_at_call 38; (with_reducible refine (hia _).mono ?_); rintro e u ⟨rfl, rfl⟩)
      | (go_at_call 38; (with_reducible refine (hib _).mono ?_); rintro e u ⟨rfl, rfl⟩)
      | (go_at_call 76; (with_reducible refine (hrk _ HR.out q1 q3 _ (HK.out.ce 0 rfl) (HK.out.ce 2 rfl)).mono ?_); rintro e u ⟨rfl, hb⟩; have hk := HK.out.call hb; clear hb; clear HK; have HK := Lib.hid hk; clear hk))
    go_ret
    exact ⟨by rw [HT.out]; rfl, HK.out.mf.bel⟩
set_option maxHeartbeats 1000000 in
theorem pright_4 (p : Pl) (hnam : p.nm.size ≤ 1000) (hkk : ok64W p.k) (h0 : p.k = 4) (h1 : nameB p.nm = true) (h2 : isB p.a = true) (h3 : isB p.b = true) (w : World) :
    Calls Tryz.prog 16 #[.agg p.cells.toArray] w fun e w' => e = .returned (.bool (planB p)) ∧ Below w.heap.size w w' := by
  have HK := Lib.hid (Kg.start w)
  have HKK := Lib.hid hkk
  have hnm := fname_any p.nm hnam; rw [h1] at hnm
  have hia := fun w => is_eq p.a true h2 w
  have hib := fun w => is_eq p.b true h3 w
  have hrk : ∀ r, countB p = r → ∀ (q1 : Nat) (w : World), w.cell? ⟨q1, 0, none⟩ = some (.func (.func 72) #[] #[]) → Calls Tryz.prog 77 #[.agg p.cells.toArray, .pointer (some ⟨q1, 0, none⟩)] w fun e w' => e = .returned (.bool r) ∧ Below w.heap.size w w' := fun r hr q1 w c1 => by
    subst hr
    exact rk6_any p q1 w c1
  clear hkk hnam 
  cases hr : countB p with
  | false =>
    have HT := Lib.hid (show planB p = false by simp [planB, ruleB, h0, h1, h2, h3, hr])
    have HV := Lib.hid (show ∀ q1 q2 q3, rtab q1 q2 q3 p.k = some (.func (.func 77) #[] #[.pointer (some ⟨q1, 0, none⟩)]) from fun q1 q2 q3 => by rw [h0]; rfl)
    have HR := Lib.hid hr; clear hr h0 h1 h2 h3
    go_enter Tryz.func16, Tryz.ntmps16
    go_wp2_with (first
      | ((with_reducible refine box_k (cs := p.cells) HK.out rfl _ rfl rfl ?_); intro bp u hk; clear HK; have HK := Lib.hid hk; clear hk))
    refine Draws.start (S := fun u => Kg w (fun _ => False) [Th.cel bp 24 p.cells] [] u) (n := 9) 9 rfl (by kernel_rfl) ?_
    have HS := Lib.hid (show (fun u => Kg w (fun _ => False) [Th.cel bp 24 p.cells] [] u) (World.drew _) from HK.out.drew)
    refine Draws.take 1 (v := ?v37) HS.out rfl (by kernel_rfl) (fun _ _ _ h => h) (Or.inl ⟨rfl, ?h37⟩) ?r37
    case h37 => intro w' hw'; go_simp; (try with_reducible rfl)
    (try simp only [Act.put, lsA, lsB, lsC])
    refine Draws.take 2 HS.out rfl (by kernel_rfl) (fun _ _ _ h => h) (yield_k ckI (fun _ h => (h.celAt 0 rfl).cell Pl.c0) _ rfl rfl rfl) ?_
    (try simp only [Act.put, lsA, lsB, lsC])
    refine Draws.does 0 rfl (by kernel_rfl) rfl (fun K' hK => ?_)
    go_simp
    go_at_call 36
    refine (rules_any _).mono ?_
    rintro e u ⟨bm, q1, q2, q3, rfl, hrm⟩
    (try dsimp only)
    have hk := Kg.rules HS.out hrm
    have HM := Lib.hid hrm.map
    clear HK hrm
    have HK := Lib.hid hk
    clear hk
    clear HS
    have HS := Lib.hid (show (fun u => Kg w (fun _ => False) [Th.cel bp 24 p.cells] [] u) _ from HK.out.sub (by simp))
    refine hK.out _ _ (fun _ => HS.out) ?_
    clear hK K'
    (try simp only [Act.put, lsA, lsB, lsC])
    refine Draws.does 3 rfl (by kernel_rfl) rfl (fun K' hK => ?_)
    refine wp_hitR HM.out HKK.out (HV.out q1 q2 q3) _ _ rfl rfl rfl ?_
    refine hK.out _ _ (fun _ => HS.out) ?_
    clear hK K'
    (try simp only [Act.put, lsA, lsB, lsC])
    refine Draws.take 4 (v := ?v38) HS.out rfl (by kernel_rfl) (fun _ _ _ h => h) (Or.inl ⟨rfl, ?h38⟩) ?r38
    case h38 => intro w' hw'; go_simp; (try with_reducible rfl)
    (try simp only [Act.put, lsA, lsB, lsC])
    refine Draws.take 5 (v := ?v39) HS.out rfl (by kernel_rfl) (fun _ _ _ h => h) (Or.inl ⟨rfl, ?h39⟩) ?r39
    case h39 => intro w' hw'; go_simp; (try with_reducible rfl)
    (try simp only [Act.put, lsA, lsB, lsC])
    refine Draws.take 6 (v := ?v40) HS.out rfl (by kernel_rfl) (fun _ _ _ h => h) (Or.inl ⟨rfl, ?h40⟩) ?r40
    case h40 => intro w' hw'; go_simp; (try with_reducible rfl)
    (try simp only [Act.put, lsA, lsB, lsC])
    refine Draws.take 7 (v := ?v41) HS.out rfl (by kernel_rfl) (fun _ _ _ h => h) (Or.inl ⟨rfl, ?h41⟩) ?r41
    case h41 => intro w' hw'; go_simp; (try with_reducible rfl)
    (try simp only [Act.put, lsA, lsB, lsC])
    refine Draws.take 8 (v := ?v42) HS.out rfl (by kernel_rfl) (fun _ _ _ h => h) (Or.inl ⟨rfl, ?h42⟩) ?r42
    case h42 => intro w' hw'; go_simp; (try with_reducible rfl)
    (try simp only [Act.put, lsA, lsB, lsC])
    refine Draws.done (by kernel_rfl) ?_
    go_wp2_with (first
      | (with_reducible refine load_k1 HK.out 0 ckS _ rfl rfl rfl rfl Pl.c1 ?_)
      | (with_reducible refine load_k1 HK.out 0 ckI _ rfl rfl rfl rfl Pl.c3 ?_)
      | (with_reducible refine load_k1 HK.out 0 ckI _ rfl rfl rfl rfl Pl.c4 ?_)
      | (with_reducible refine load_kr (xs := p.cells) HK.out 0 Tryz.underlying24 rfl p_info _ rfl rfl rfl rfl Pl.all ?_)
      | (go_at_call 37; (with_reducible refine (hnm _).mono ?_); rintro e u ⟨rfl, hb⟩; have hk := HK.out.call hb; clear hb; clear HK; have HK := Lib.hid hk; clear hk)
      | (go_at_call 38; (with_reducible refine (hia _).mono ?_); rintro e u ⟨rfl, rfl⟩)
      | (go_at_call 38; (with_reducible refine (hib _).mono ?_); rintro e u ⟨rfl, rfl⟩)
      | (go_at_call 77; (with_reducible refine (hrk _ HR.out q1 _ (HK.out.ce 0 rfl)).mono ?_); rintro e u ⟨rfl, hb⟩; have hk := HK.out.call hb; clear hb; clear HK; have HK := Lib.hid hk; clear hk))
    go_ret
    exact ⟨by rw [HT.out]; rfl, HK.out.mf.bel⟩
  | true =>
    have HT := Lib.hid (show planB p = true by simp [planB, ruleB, h0, h1, h2, h3, hr])
    have HV := Lib.hid (show ∀ q1 q2 q3, rtab q1 q2 q3 p.k = some (.func (.func 77) #[] #[.pointer (some ⟨q1, 0, none⟩)]) from fun q1 q2 q3 => by rw [h0]; rfl)
    have HR := Lib.hid hr; clear hr h0 h1 h2 h3
    go_enter Tryz.func16, Tryz.ntmps16
    go_wp2_with (first
      | ((with_reducible refine box_k (cs := p.cells) HK.out rfl _ rfl rfl ?_); intro bp u hk; clear HK; have HK := Lib.hid hk; clear hk))
    refine Draws.start (S := fun u => Kg w (fun _ => False) [Th.cel bp 24 p.cells] [] u) (n := 9) 9 rfl (by kernel_rfl) ?_
    have HS := Lib.hid (show (fun u => Kg w (fun _ => False) [Th.cel bp 24 p.cells] [] u) (World.drew _) from HK.out.drew)
    refine Draws.take 1 (v := ?v43) HS.out rfl (by kernel_rfl) (fun _ _ _ h => h) (Or.inl ⟨rfl, ?h43⟩) ?r43
    case h43 => intro w' hw'; go_simp; (try with_reducible rfl)
    (try simp only [Act.put, lsA, lsB, lsC])
    refine Draws.take 2 HS.out rfl (by kernel_rfl) (fun _ _ _ h => h) (yield_k ckI (fun _ h => (h.celAt 0 rfl).cell Pl.c0) _ rfl rfl rfl) ?_
    (try simp only [Act.put, lsA, lsB, lsC])
    refine Draws.does 0 rfl (by kernel_rfl) rfl (fun K' hK => ?_)
    go_simp
    go_at_call 36
    refine (rules_any _).mono ?_
    rintro e u ⟨bm, q1, q2, q3, rfl, hrm⟩
    (try dsimp only)
    have hk := Kg.rules HS.out hrm
    have HM := Lib.hid hrm.map
    clear HK hrm
    have HK := Lib.hid hk
    clear hk
    clear HS
    have HS := Lib.hid (show (fun u => Kg w (fun _ => False) [Th.cel bp 24 p.cells] [] u) _ from HK.out.sub (by simp))
    refine hK.out _ _ (fun _ => HS.out) ?_
    clear hK K'
    (try simp only [Act.put, lsA, lsB, lsC])
    refine Draws.does 3 rfl (by kernel_rfl) rfl (fun K' hK => ?_)
    refine wp_hitR HM.out HKK.out (HV.out q1 q2 q3) _ _ rfl rfl rfl ?_
    refine hK.out _ _ (fun _ => HS.out) ?_
    clear hK K'
    (try simp only [Act.put, lsA, lsB, lsC])
    refine Draws.take 4 (v := ?v44) HS.out rfl (by kernel_rfl) (fun _ _ _ h => h) (Or.inl ⟨rfl, ?h44⟩) ?r44
    case h44 => intro w' hw'; go_simp; (try with_reducible rfl)
    (try simp only [Act.put, lsA, lsB, lsC])
    refine Draws.take 5 (v := ?v45) HS.out rfl (by kernel_rfl) (fun _ _ _ h => h) (Or.inl ⟨rfl, ?h45⟩) ?r45
    case h45 => intro w' hw'; go_simp; (try with_reducible rfl)
    (try simp only [Act.put, lsA, lsB, lsC])
    refine Draws.take 6 (v := ?v46) HS.out rfl (by kernel_rfl) (fun _ _ _ h => h) (Or.inl ⟨rfl, ?h46⟩) ?r46
    case h46 => intro w' hw'; go_simp; (try with_reducible rfl)
    (try simp only [Act.put, lsA, lsB, lsC])
    refine Draws.take 7 (v := ?v47) HS.out rfl (by kernel_rfl) (fun _ _ _ h => h) (Or.inl ⟨rfl, ?h47⟩) ?r47
    case h47 => intro w' hw'; go_simp; (try with_reducible rfl)
    (try simp only [Act.put, lsA, lsB, lsC])
    refine Draws.take 8 (v := ?v48) HS.out rfl (by kernel_rfl) (fun _ _ _ h => h) (Or.inl ⟨rfl, ?h48⟩) ?r48
    case h48 => intro w' hw'; go_simp; (try with_reducible rfl)
    (try simp only [Act.put, lsA, lsB, lsC])
    refine Draws.done (by kernel_rfl) ?_
    go_wp2_with (first
      | (with_reducible refine load_k1 HK.out 0 ckS _ rfl rfl rfl rfl Pl.c1 ?_)
      | (with_reducible refine load_k1 HK.out 0 ckI _ rfl rfl rfl rfl Pl.c3 ?_)
      | (with_reducible refine load_k1 HK.out 0 ckI _ rfl rfl rfl rfl Pl.c4 ?_)
      | (with_reducible refine load_kr (xs := p.cells) HK.out 0 Tryz.underlying24 rfl p_info _ rfl rfl rfl rfl Pl.all ?_)
      | (go_at_call 37; (with_reducible refine (hnm _).mono ?_); rintro e u ⟨rfl, hb⟩; have hk := HK.out.call hb; clear hb; clear HK; have HK := Lib.hid hk; clear hk)
      | (go_at_call 38; (with_reducible refine (hia _).mono ?_); rintro e u ⟨rfl, rfl⟩)
      | (go_at_call 38; (with_reducible refine (hib _).mono ?_); rintro e u ⟨rfl, rfl⟩)
      | (go_at_call 77; (with_reducible refine (hrk _ HR.out q1 _ (HK.out.ce 0 rfl)).mono ?_); rintro e u ⟨rfl, hb⟩; have hk := HK.out.call hb; clear hb; clear HK; have HK := Lib.hid hk; clear hk))
    go_ret
    exact ⟨by rw [HT.out]; rfl, HK.out.mf.bel⟩
set_option maxHeartbeats 1000000 in
theorem pright_5 (p : Pl) (hnam : p.nm.size ≤ 1000) (hot : p.ot.size ≤ 1000) (hkk : ok64W p.k) (h0 : p.k = 5) (h1 : nameB p.nm = true) (h2 : isB p.a = true) (h3 : isB p.b = true) (w : World) :
    Calls Tryz.prog 16 #[.agg p.cells.toArray] w fun e w' => e = .returned (.bool (planB p)) ∧ Below w.heap.size w w' := by
  have HK := Lib.hid (Kg.start w)
  have HKK := Lib.hid hkk
  have hnm := fname_any p.nm hnam; rw [h1] at hnm
  have hia := fun w => is_eq p.a true h2 w
  have hib := fun w => is_eq p.b true h3 w
  have hrk : ∀ r, splitB p = r → ∀ (q2 : Nat) (w : World), w.cell? ⟨q2, 0, none⟩ = some (.func (.func 73) #[] #[]) → Calls Tryz.prog 78 #[.agg p.cells.toArray, .pointer (some ⟨q2, 0, none⟩)] w fun e w' => e = .returned (.bool r) ∧ Below w.heap.size w w' := fun r hr q2 w c2 => by
    subst hr
    exact rk7_any p hot q2 w c2
  clear hkk hnam hot
  cases hr : splitB p with
  | false =>
    have HT := Lib.hid (show planB p = false by simp [planB, ruleB, h0, h1, h2, h3, hr])
    have HV := Lib.hid (show ∀ q1 q2 q3, rtab q1 q2 q3 p.k = some (.func (.func 78) #[] #[.pointer (some ⟨q2, 0, none⟩)]) from fun q1 q2 q3 => by rw [h0]; rfl)
    have HR := Lib.hid hr; clear hr h0 h1 h2 h3
    go_enter Tryz.func16, Tryz.ntmps16
    go_wp2_with (first
      | ((with_reducible refine box_k (cs := p.cells) HK.out rfl _ rfl rfl ?_); intro bp u hk; clear HK; have HK := Lib.hid hk; clear hk))
    refine Draws.start (S := fun u => Kg w (fun _ => False) [Th.cel bp 24 p.cells] [] u) (n := 9) 9 rfl (by kernel_rfl) ?_
    have HS := Lib.hid (show (fun u => Kg w (fun _ => False) [Th.cel bp 24 p.cells] [] u) (World.drew _) from HK.out.drew)
    refine Draws.take 1 (v := ?v49) HS.out rfl (by kernel_rfl) (fun _ _ _ h => h) (Or.inl ⟨rfl, ?h49⟩) ?r49
    case h49 => intro w' hw'; go_simp; (try with_reducible rfl)
    (try simp only [Act.put, lsA, lsB, lsC])
    refine Draws.take 2 HS.out rfl (by kernel_rfl) (fun _ _ _ h => h) (yield_k ckI (fun _ h => (h.celAt 0 rfl).cell Pl.c0) _ rfl rfl rfl) ?_
    (try simp only [Act.put, lsA, lsB, lsC])
    refine Draws.does 0 rfl (by kernel_rfl) rfl (fun K' hK => ?_)
    go_simp
    go_at_call 36
    refine (rules_any _).mono ?_
    rintro e u ⟨bm, q1, q2, q3, rfl, hrm⟩
    (try dsimp only)
    have hk := Kg.rules HS.out hrm
    have HM := Lib.hid hrm.map
    clear HK hrm
    have HK := Lib.hid hk
    clear hk
    clear HS
    have HS := Lib.hid (show (fun u => Kg w (fun _ => False) [Th.cel bp 24 p.cells] [] u) _ from HK.out.sub (by simp))
    refine hK.out _ _ (fun _ => HS.out) ?_
    clear hK K'
    (try simp only [Act.put, lsA, lsB, lsC])
    refine Draws.does 3 rfl (by kernel_rfl) rfl (fun K' hK => ?_)
    refine wp_hitR HM.out HKK.out (HV.out q1 q2 q3) _ _ rfl rfl rfl ?_
    refine hK.out _ _ (fun _ => HS.out) ?_
    clear hK K'
    (try simp only [Act.put, lsA, lsB, lsC])
    refine Draws.take 4 (v := ?v50) HS.out rfl (by kernel_rfl) (fun _ _ _ h => h) (Or.inl ⟨rfl, ?h50⟩) ?r50
    case h50 => intro w' hw'; go_simp; (try with_reducible rfl)
    (try simp only [Act.put, lsA, lsB, lsC])
    refine Draws.take 5 (v := ?v51) HS.out rfl (by kernel_rfl) (fun _ _ _ h => h) (Or.inl ⟨rfl, ?h51⟩) ?r51
    case h51 => intro w' hw'; go_simp; (try with_reducible rfl)
    (try simp only [Act.put, lsA, lsB, lsC])
    refine Draws.take 6 (v := ?v52) HS.out rfl (by kernel_rfl) (fun _ _ _ h => h) (Or.inl ⟨rfl, ?h52⟩) ?r52
    case h52 => intro w' hw'; go_simp; (try with_reducible rfl)
    (try simp only [Act.put, lsA, lsB, lsC])
    refine Draws.take 7 (v := ?v53) HS.out rfl (by kernel_rfl) (fun _ _ _ h => h) (Or.inl ⟨rfl, ?h53⟩) ?r53
    case h53 => intro w' hw'; go_simp; (try with_reducible rfl)
    (try simp only [Act.put, lsA, lsB, lsC])
    refine Draws.take 8 (v := ?v54) HS.out rfl (by kernel_rfl) (fun _ _ _ h => h) (Or.inl ⟨rfl, ?h54⟩) ?r54
    case h54 => intro w' hw'; go_simp; (try with_reducible rfl)
    (try simp only [Act.put, lsA, lsB, lsC])
    refine Draws.done (by kernel_rfl) ?_
    go_wp2_with (first
      | (with_reducible refine load_k1 HK.out 0 ckS _ rfl rfl rfl rfl Pl.c1 ?_)
      | (with_reducible refine load_k1 HK.out 0 ckI _ rfl rfl rfl rfl Pl.c3 ?_)
      | (with_reducible refine load_k1 HK.out 0 ckI _ rfl rfl rfl rfl Pl.c4 ?_)
      | (with_reducible refine load_kr (xs := p.cells) HK.out 0 Tryz.underlying24 rfl p_info _ rfl rfl rfl rfl Pl.all ?_)
      | (go_at_call 37; (with_reducible refine (hnm _).mono ?_); rintro e u ⟨rfl, hb⟩; have hk := HK.out.call hb; clear hb; clear HK; have HK := Lib.hid hk; clear hk)
      | (go_at_call 38; (with_reducible refine (hia _).mono ?_); rintro e u ⟨rfl, rfl⟩)
      | (go_at_call 38; (with_reducible refine (hib _).mono ?_); rintro e u ⟨rfl, rfl⟩)
      | (go_at_call 78; (with_reducible refine (hrk _ HR.out q2 _ (HK.out.ce 1 rfl)).mono ?_); rintro e u ⟨rfl, hb⟩; have hk := HK.out.call hb; clear hb; clear HK; have HK := Lib.hid hk; clear hk))
    go_ret
    exact ⟨by rw [HT.out]; rfl, HK.out.mf.bel⟩
  | true =>
    have HT := Lib.hid (show planB p = true by simp [planB, ruleB, h0, h1, h2, h3, hr])
    have HV := Lib.hid (show ∀ q1 q2 q3, rtab q1 q2 q3 p.k = some (.func (.func 78) #[] #[.pointer (some ⟨q2, 0, none⟩)]) from fun q1 q2 q3 => by rw [h0]; rfl)
    have HR := Lib.hid hr; clear hr h0 h1 h2 h3
    go_enter Tryz.func16, Tryz.ntmps16
    go_wp2_with (first
      | ((with_reducible refine box_k (cs := p.cells) HK.out rfl _ rfl rfl ?_); intro bp u hk; clear HK; have HK := Lib.hid hk; clear hk))
    refine Draws.start (S := fun u => Kg w (fun _ => False) [Th.cel bp 24 p.cells] [] u) (n := 9) 9 rfl (by kernel_rfl) ?_
    have HS := Lib.hid (show (fun u => Kg w (fun _ => False) [Th.cel bp 24 p.cells] [] u) (World.drew _) from HK.out.drew)
    refine Draws.take 1 (v := ?v55) HS.out rfl (by kernel_rfl) (fun _ _ _ h => h) (Or.inl ⟨rfl, ?h55⟩) ?r55
    case h55 => intro w' hw'; go_simp; (try with_reducible rfl)
    (try simp only [Act.put, lsA, lsB, lsC])
    refine Draws.take 2 HS.out rfl (by kernel_rfl) (fun _ _ _ h => h) (yield_k ckI (fun _ h => (h.celAt 0 rfl).cell Pl.c0) _ rfl rfl rfl) ?_
    (try simp only [Act.put, lsA, lsB, lsC])
    refine Draws.does 0 rfl (by kernel_rfl) rfl (fun K' hK => ?_)
    go_simp
    go_at_call 36
    refine (rules_any _).mono ?_
    rintro e u ⟨bm, q1, q2, q3, rfl, hrm⟩
    (try dsimp only)
    have hk := Kg.rules HS.out hrm
    have HM := Lib.hid hrm.map
    clear HK hrm
    have HK := Lib.hid hk
    clear hk
    clear HS
    have HS := Lib.hid (show (fun u => Kg w (fun _ => False) [Th.cel bp 24 p.cells] [] u) _ from HK.out.sub (by simp))
    refine hK.out _ _ (fun _ => HS.out) ?_
    clear hK K'
    (try simp only [Act.put, lsA, lsB, lsC])
    refine Draws.does 3 rfl (by kernel_rfl) rfl (fun K' hK => ?_)
    refine wp_hitR HM.out HKK.out (HV.out q1 q2 q3) _ _ rfl rfl rfl ?_
    refine hK.out _ _ (fun _ => HS.out) ?_
    clear hK K'
    (try simp only [Act.put, lsA, lsB, lsC])
    refine Draws.take 4 (v := ?v56) HS.out rfl (by kernel_rfl) (fun _ _ _ h => h) (Or.inl ⟨rfl, ?h56⟩) ?r56
    case h56 => intro w' hw'; go_simp; (try with_reducible rfl)
    (try simp only [Act.put, lsA, lsB, lsC])
    refine Draws.take 5 (v := ?v57) HS.out rfl (by kernel_rfl) (fun _ _ _ h => h) (Or.inl ⟨rfl, ?h57⟩) ?r57
    case h57 => intro w' hw'; go_simp; (try with_reducible rfl)
    (try simp only [Act.put, lsA, lsB, lsC])
    refine Draws.take 6 (v := ?v58) HS.out rfl (by kernel_rfl) (fun _ _ _ h => h) (Or.inl ⟨rfl, ?h58⟩) ?r58
    case h58 => intro w' hw'; go_simp; (try with_reducible rfl)
    (try simp only [Act.put, lsA, lsB, lsC])
    refine Draws.take 7 (v := ?v59) HS.out rfl (by kernel_rfl) (fun _ _ _ h => h) (Or.inl ⟨rfl, ?h59⟩) ?r59
    case h59 => intro w' hw'; go_simp; (try with_reducible rfl)
    (try simp only [Act.put, lsA, lsB, lsC])
    refine Draws.take 8 (v := ?v60) HS.out rfl (by kernel_rfl) (fun _ _ _ h => h) (Or.inl ⟨rfl, ?h60⟩) ?r60
    case h60 => intro w' hw'; go_simp; (try with_reducible rfl)
    (try simp only [Act.put, lsA, lsB, lsC])
    refine Draws.done (by kernel_rfl) ?_
    go_wp2_with (first
      | (with_reducible refine load_k1 HK.out 0 ckS _ rfl rfl rfl rfl Pl.c1 ?_)
      | (with_reducible refine load_k1 HK.out 0 ckI _ rfl rfl rfl rfl Pl.c3 ?_)
      | (with_reducible refine load_k1 HK.out 0 ckI _ rfl rfl rfl rfl Pl.c4 ?_)
      | (with_reducible refine load_kr (xs := p.cells) HK.out 0 Tryz.underlying24 rfl p_info _ rfl rfl rfl rfl Pl.all ?_)
      | (go_at_call 37; (with_reducible refine (hnm _).mono ?_); rintro e u ⟨rfl, hb⟩; have hk := HK.out.call hb; clear hb; clear HK; have HK := Lib.hid hk; clear hk)
      | (go_at_call 38; (with_reducible refine (hia _).mono ?_); rintro e u ⟨rfl, rfl⟩)
      | (go_at_call 38; (with_reducible refine (hib _).mono ?_); rintro e u ⟨rfl, rfl⟩)
      | (go_at_call 78; (with_reducible refine (hrk _ HR.out q2 _ (HK.out.ce 1 rfl)).mono ?_); rintro e u ⟨rfl, hb⟩; have hk := HK.out.call hb; clear hb; clear HK; have HK := Lib.hid hk; clear hk))
    go_ret
    exact ⟨by rw [HT.out]; rfl, HK.out.mf.bel⟩
set_option maxHeartbeats 1000000 in
theorem pright_6 (p : Pl) (hnam : p.nm.size ≤ 1000) (hot : p.ot.size ≤ 1000) (hkk : ok64W p.k) (h0 : p.k = 6) (h1 : nameB p.nm = true) (h2 : isB p.a = true) (h3 : isB p.b = true) (w : World) :
    Calls Tryz.prog 16 #[.agg p.cells.toArray] w fun e w' => e = .returned (.bool (planB p)) ∧ Below w.heap.size w w' := by
  have HK := Lib.hid (Kg.start w)
  have HKK := Lib.hid hkk
  have hnm := fname_any p.nm hnam; rw [h1] at hnm
  have hia := fun w => is_eq p.a true h2 w
  have hib := fun w => is_eq p.b true h3 w
  have hrk : ∀ r, mergeB p = r → ∀ (q2 q3 : Nat) (w : World), w.cell? ⟨q2, 0, none⟩ = some (.func (.func 73) #[] #[]) → w.cell? ⟨q3, 0, none⟩ = some (.func (.func 74) #[] #[]) → Calls Tryz.prog 79 #[.agg p.cells.toArray, .pointer (some ⟨q2, 0, none⟩), .pointer (some ⟨q3, 0, none⟩)] w fun e w' => e = .returned (.bool r) ∧ Below w.heap.size w w' := fun r hr q2 q3 w c2 c3 => by
    subst hr
    exact rk8_any p hot q2 q3 w c2 c3
  clear hkk hnam hot
  cases hr : mergeB p with
  | false =>
    have HT := Lib.hid (show planB p = false by simp [planB, ruleB, h0, h1, h2, h3, hr])
    have HV := Lib.hid (show ∀ q1 q2 q3, rtab q1 q2 q3 p.k = some (.func (.func 79) #[] #[.pointer (some ⟨q2, 0, none⟩), .pointer (some ⟨q3, 0, none⟩)]) from fun q1 q2 q3 => by rw [h0]; rfl)
    have HR := Lib.hid hr; clear hr h0 h1 h2 h3
    go_enter Tryz.func16, Tryz.ntmps16
    go_wp2_with (first
      | ((with_reducible refine box_k (cs := p.cells) HK.out rfl _ rfl rfl ?_); intro bp u hk; clear HK; have HK := Lib.hid hk; clear hk))
    refine Draws.start (S := fun u => Kg w (fun _ => False) [Th.cel bp 24 p.cells] [] u) (n := 9) 9 rfl (by kernel_rfl) ?_
    have HS := Lib.hid (show (fun u => Kg w (fun _ => False) [Th.cel bp 24 p.cells] [] u) (World.drew _) from HK.out.drew)
    refine Draws.take 1 (v := ?v61) HS.out rfl (by kernel_rfl) (fun _ _ _ h => h) (Or.inl ⟨rfl, ?h61⟩) ?r61
    case h61 => intro w' hw'; go_simp; (try with_reducible rfl)
    (try simp only [Act.put, lsA, lsB, lsC])
    refine Draws.take 2 HS.out rfl (by kernel_rfl) (fun _ _ _ h => h) (yield_k ckI (fun _ h => (h.celAt 0 rfl).cell Pl.c0) _ rfl rfl rfl) ?_
    (try simp only [Act.put, lsA, lsB, lsC])
    refine Draws.does 0 rfl (by kernel_rfl) rfl (fun K' hK => ?_)
    go_simp
    go_at_call 36
    refine (rules_any _).mono ?_
    rintro e u ⟨bm, q1, q2, q3, rfl, hrm⟩
    (try dsimp only)
    have hk := Kg.rules HS.out hrm
    have HM := Lib.hid hrm.map
    clear HK hrm
    have HK := Lib.hid hk
    clear hk
    clear HS
    have HS := Lib.hid (show (fun u => Kg w (fun _ => False) [Th.cel bp 24 p.cells] [] u) _ from HK.out.sub (by simp))
    refine hK.out _ _ (fun _ => HS.out) ?_
    clear hK K'
    (try simp only [Act.put, lsA, lsB, lsC])
    refine Draws.does 3 rfl (by kernel_rfl) rfl (fun K' hK => ?_)
    refine wp_hitR HM.out HKK.out (HV.out q1 q2 q3) _ _ rfl rfl rfl ?_
    refine hK.out _ _ (fun _ => HS.out) ?_
    clear hK K'
    (try simp only [Act.put, lsA, lsB, lsC])
    refine Draws.take 4 (v := ?v62) HS.out rfl (by kernel_rfl) (fun _ _ _ h => h) (Or.inl ⟨rfl, ?h62⟩) ?r62
    case h62 => intro w' hw'; go_simp; (try with_reducible rfl)
    (try simp only [Act.put, lsA, lsB, lsC])
    refine Draws.take 5 (v := ?v63) HS.out rfl (by kernel_rfl) (fun _ _ _ h => h) (Or.inl ⟨rfl, ?h63⟩) ?r63
    case h63 => intro w' hw'; go_simp; (try with_reducible rfl)
    (try simp only [Act.put, lsA, lsB, lsC])
    refine Draws.take 6 (v := ?v64) HS.out rfl (by kernel_rfl) (fun _ _ _ h => h) (Or.inl ⟨rfl, ?h64⟩) ?r64
    case h64 => intro w' hw'; go_simp; (try with_reducible rfl)
    (try simp only [Act.put, lsA, lsB, lsC])
    refine Draws.take 7 (v := ?v65) HS.out rfl (by kernel_rfl) (fun _ _ _ h => h) (Or.inl ⟨rfl, ?h65⟩) ?r65
    case h65 => intro w' hw'; go_simp; (try with_reducible rfl)
    (try simp only [Act.put, lsA, lsB, lsC])
    refine Draws.take 8 (v := ?v66) HS.out rfl (by kernel_rfl) (fun _ _ _ h => h) (Or.inl ⟨rfl, ?h66⟩) ?r66
    case h66 => intro w' hw'; go_simp; (try with_reducible rfl)
    (try simp only [Act.put, lsA, lsB, lsC])
    refine Draws.done (by kernel_rfl) ?_
    go_wp2_with (first
      | (with_reducible refine load_k1 HK.out 0 ckS _ rfl rfl rfl rfl Pl.c1 ?_)
      | (with_reducible refine load_k1 HK.out 0 ckI _ rfl rfl rfl rfl Pl.c3 ?_)
      | (with_reducible refine load_k1 HK.out 0 ckI _ rfl rfl rfl rfl Pl.c4 ?_)
      | (with_reducible refine load_kr (xs := p.cells) HK.out 0 Tryz.underlying24 rfl p_info _ rfl rfl rfl rfl Pl.all ?_)
      | (go_at_call 37; (with_reducible refine (hnm _).mono ?_); rintro e u ⟨rfl, hb⟩; have hk := HK.out.call hb; clear hb; clear HK; have HK := Lib.hid hk; clear hk)
      | (go_at_call 38; (with_reducible refine (hia _).mono ?_); rintro e u ⟨rfl, rfl⟩)
      | (go_at_call 38; (with_reducible refine (hib _).mono ?_); rintro e u ⟨rfl, rfl⟩)
      | (go_at_call 79; (with_reducible refine (hrk _ HR.out q2 q3 _ (HK.out.ce 1 rfl) (HK.out.ce 2 rfl)).mono ?_); rintro e u ⟨rfl, hb⟩; have hk := HK.out.call hb; clear hb; clear HK; have HK := Lib.hid hk; clear hk))
    go_ret
    exact ⟨by rw [HT.out]; rfl, HK.out.mf.bel⟩
  | true =>
    have HT := Lib.hid (show planB p = true by simp [planB, ruleB, h0, h1, h2, h3, hr])
    have HV := Lib.hid (show ∀ q1 q2 q3, rtab q1 q2 q3 p.k = some (.func (.func 79) #[] #[.pointer (some ⟨q2, 0, none⟩), .pointer (some ⟨q3, 0, none⟩)]) from fun q1 q2 q3 => by rw [h0]; rfl)
    have HR := Lib.hid hr; clear hr h0 h1 h2 h3
    go_enter Tryz.func16, Tryz.ntmps16
    go_wp2_with (first
      | ((with_reducible refine box_k (cs := p.cells) HK.out rfl _ rfl rfl ?_); intro bp u hk; clear HK; have HK := Lib.hid hk; clear hk))
    refine Draws.start (S := fun u => Kg w (fun _ => False) [Th.cel bp 24 p.cells] [] u) (n := 9) 9 rfl (by kernel_rfl) ?_
    have HS := Lib.hid (show (fun u => Kg w (fun _ => False) [Th.cel bp 24 p.cells] [] u) (World.drew _) from HK.out.drew)
    refine Draws.take 1 (v := ?v67) HS.out rfl (by kernel_rfl) (fun _ _ _ h => h) (Or.inl ⟨rfl, ?h67⟩) ?r67
    case h67 => intro w' hw'; go_simp; (try with_reducible rfl)
    (try simp only [Act.put, lsA, lsB, lsC])
    refine Draws.take 2 HS.out rfl (by kernel_rfl) (fun _ _ _ h => h) (yield_k ckI (fun _ h => (h.celAt 0 rfl).cell Pl.c0) _ rfl rfl rfl) ?_
    (try simp only [Act.put, lsA, lsB, lsC])
    refine Draws.does 0 rfl (by kernel_rfl) rfl (fun K' hK => ?_)
    go_simp
    go_at_call 36
    refine (rules_any _).mono ?_
    rintro e u ⟨bm, q1, q2, q3, rfl, hrm⟩
    (try dsimp only)
    have hk := Kg.rules HS.out hrm
    have HM := Lib.hid hrm.map
    clear HK hrm
    have HK := Lib.hid hk
    clear hk
    clear HS
    have HS := Lib.hid (show (fun u => Kg w (fun _ => False) [Th.cel bp 24 p.cells] [] u) _ from HK.out.sub (by simp))
    refine hK.out _ _ (fun _ => HS.out) ?_
    clear hK K'
    (try simp only [Act.put, lsA, lsB, lsC])
    refine Draws.does 3 rfl (by kernel_rfl) rfl (fun K' hK => ?_)
    refine wp_hitR HM.out HKK.out (HV.out q1 q2 q3) _ _ rfl rfl rfl ?_
    refine hK.out _ _ (fun _ => HS.out) ?_
    clear hK K'
    (try simp only [Act.put, lsA, lsB, lsC])
    refine Draws.take 4 (v := ?v68) HS.out rfl (by kernel_rfl) (fun _ _ _ h => h) (Or.inl ⟨rfl, ?h68⟩) ?r68
    case h68 => intro w' hw'; go_simp; (try with_reducible rfl)
    (try simp only [Act.put, lsA, lsB, lsC])
    refine Draws.take 5 (v := ?v69) HS.out rfl (by kernel_rfl) (fun _ _ _ h => h) (Or.inl ⟨rfl, ?h69⟩) ?r69
    case h69 => intro w' hw'; go_simp; (try with_reducible rfl)
    (try simp only [Act.put, lsA, lsB, lsC])
    refine Draws.take 6 (v := ?v70) HS.out rfl (by kernel_rfl) (fun _ _ _ h => h) (Or.inl ⟨rfl, ?h70⟩) ?r70
    case h70 => intro w' hw'; go_simp; (try with_reducible rfl)
    (try simp only [Act.put, lsA, lsB, lsC])
    refine Draws.take 7 (v := ?v71) HS.out rfl (by kernel_rfl) (fun _ _ _ h => h) (Or.inl ⟨rfl, ?h71⟩) ?r71
    case h71 => intro w' hw'; go_simp; (try with_reducible rfl)
    (try simp only [Act.put, lsA, lsB, lsC])
    refine Draws.take 8 (v := ?v72) HS.out rfl (by kernel_rfl) (fun _ _ _ h => h) (Or.inl ⟨rfl, ?h72⟩) ?r72
    case h72 => intro w' hw'; go_simp; (try with_reducible rfl)
    (try simp only [Act.put, lsA, lsB, lsC])
    refine Draws.done (by kernel_rfl) ?_
    go_wp2_with (first
      | (with_reducible refine load_k1 HK.out 0 ckS _ rfl rfl rfl rfl Pl.c1 ?_)
      | (with_reducible refine load_k1 HK.out 0 ckI _ rfl rfl rfl rfl Pl.c3 ?_)
      | (with_reducible refine load_k1 HK.out 0 ckI _ rfl rfl rfl rfl Pl.c4 ?_)
      | (with_reducible refine load_kr (xs := p.cells) HK.out 0 Tryz.underlying24 rfl p_info _ rfl rfl rfl rfl Pl.all ?_)
      | (go_at_call 37; (with_reducible refine (hnm _).mono ?_); rintro e u ⟨rfl, hb⟩; have hk := HK.out.call hb; clear hb; clear HK; have HK := Lib.hid hk; clear hk)
      | (go_at_call 38; (with_reducible refine (hia _).mono ?_); rintro e u ⟨rfl, rfl⟩)
      | (go_at_call 38; (with_reducible refine (hib _).mono ?_); rintro e u ⟨rfl, rfl⟩)
      | (go_at_call 79; (with_reducible refine (hrk _ HR.out q2 q3 _ (HK.out.ce 1 rfl) (HK.out.ce 2 rfl)).mono ?_); rintro e u ⟨rfl, hb⟩; have hk := HK.out.call hb; clear hb; clear HK; have HK := Lib.hid hk; clear hk))
    go_ret
    exact ⟨by rw [HT.out]; rfl, HK.out.mf.bel⟩
set_option maxHeartbeats 1000000 in
theorem pright_any (p : Pl) (hnam : p.nm.size ≤ 1000) (hot : p.ot.size ≤ 1000) (hkk : ok64W p.k) (w : World) :
    Calls Tryz.prog 16 #[.agg p.cells.toArray] w fun e w' => e = .returned (.bool (planB p)) ∧ Below w.heap.size w w' := by
  by_cases hin : 1 ≤ p.k ∧ p.k ≤ 6
  · cases h1 : nameB p.nm with
    | false =>
      have HK := Lib.hid (Kg.start w)
      have HKK := Lib.hid hkk
      have hnm := fname_any p.nm hnam; rw [h1] at hnm
      have HT := Lib.hid (show planB p = false by simp [planB, h1])
      have HV := Lib.hid (rtab_some hin)
      have hia := fun w => is_eq p.a _ rfl w
      have hib := fun w => is_eq p.b _ rfl w
      clear hkk hnam hot hin
      go_enter Tryz.func16, Tryz.ntmps16
      go_wp2_with (first
        | ((with_reducible refine box_k (cs := p.cells) HK.out rfl _ rfl rfl ?_); intro bp u hk; clear HK; have HK := Lib.hid hk; clear hk))
      refine Draws.start (S := fun u => Kg w (fun _ => False) [Th.cel bp 24 p.cells] [] u) (n := 9) 9 rfl (by kernel_rfl) ?_
      have HS := Lib.hid (show (fun u => Kg w (fun _ => False) [Th.cel bp 24 p.cells] [] u) (World.drew _) from HK.out.drew)
      refine Draws.take 1 (v := ?v73) HS.out rfl (by kernel_rfl) (fun _ _ _ h => h) (Or.inl ⟨rfl, ?h73⟩) ?r73
      case h73 => intro w' hw'; go_simp; (try with_reducible rfl)
      (try simp only [Act.put, lsA, lsB, lsC])
      refine Draws.take 2 HS.out rfl (by kernel_rfl) (fun _ _ _ h => h) (yield_k ckI (fun _ h => (h.celAt 0 rfl).cell Pl.c0) _ rfl rfl rfl) ?_
      (try simp only [Act.put, lsA, lsB, lsC])
      refine Draws.does 0 rfl (by kernel_rfl) rfl (fun K' hK => ?_)
      go_simp
      go_at_call 36
      refine (rules_any _).mono ?_
      rintro e u ⟨bm, q1, q2, q3, rfl, hrm⟩
      (try dsimp only)
      have hk := Kg.rules HS.out hrm
      have HM := Lib.hid hrm.map
      clear HK hrm
      have HK := Lib.hid hk
      clear hk
      clear HS
      have HS := Lib.hid (show (fun u => Kg w (fun _ => False) [Th.cel bp 24 p.cells] [] u) _ from HK.out.sub (by simp))
      obtain ⟨v, hv⟩ := HV.out q1 q2 q3
      have HW := Lib.hid hv
      clear hv
      refine hK.out _ _ (fun _ => HS.out) ?_
      clear hK K'
      (try simp only [Act.put, lsA, lsB, lsC])
      refine Draws.does 3 rfl (by kernel_rfl) rfl (fun K' hK => ?_)
      refine wp_hitR HM.out HKK.out HW.out _ _ rfl rfl rfl ?_
      refine hK.out _ _ (fun _ => HS.out) ?_
      clear hK K'
      (try simp only [Act.put, lsA, lsB, lsC])
      refine Draws.take 4 (v := ?v74) HS.out rfl (by kernel_rfl) (fun _ _ _ h => h) (Or.inl ⟨rfl, ?h74⟩) ?r74
      case h74 => intro w' hw'; go_simp; (try with_reducible rfl)
      (try simp only [Act.put, lsA, lsB, lsC])
      refine Draws.take 5 (v := ?v75) HS.out rfl (by kernel_rfl) (fun _ _ _ h => h) (Or.inl ⟨rfl, ?h75⟩) ?r75
      case h75 => intro w' hw'; go_simp; (try with_reducible rfl)
      (try simp only [Act.put, lsA, lsB, lsC])
      refine Draws.take 6 (v := ?v76) HS.out rfl (by kernel_rfl) (fun _ _ _ h => h) (Or.inl ⟨rfl, ?h76⟩) ?r76
      case h76 => intro w' hw'; go_simp; (try with_reducible rfl)
      (try simp only [Act.put, lsA, lsB, lsC])
      refine Draws.take 7 (v := ?v77) HS.out rfl (by kernel_rfl) (fun _ _ _ h => h) (Or.inl ⟨rfl, ?h77⟩) ?r77
      case h77 => intro w' hw'; go_simp; (try with_reducible rfl)
      (try simp only [Act.put, lsA, lsB, lsC])
      refine Draws.take 8 (v := ?v78) HS.out rfl (by kernel_rfl) (fun _ _ _ h => h) (Or.inl ⟨rfl, ?h78⟩) ?r78
      case h78 => intro w' hw'; go_simp; (try with_reducible rfl)
      (try simp only [Act.put, lsA, lsB, lsC])
      refine Draws.done (by kernel_rfl) ?_
      go_wp2_with (first
        | (with_reducible refine load_k1 HK.out 0 ckS _ rfl rfl rfl rfl Pl.c1 ?_)
        | (with_reducible refine load_k1 HK.out 0 ckI _ rfl rfl rfl rfl Pl.c3 ?_)
        | (with_reducible refine load_k1 HK.out 0 ckI _ rfl rfl rfl rfl Pl.c4 ?_)
        | (with_reducible refine load_kr (xs := p.cells) HK.out 0 Tryz.underlying24 rfl p_info _ rfl rfl rfl rfl Pl.all ?_)
        | (go_at_call 37; (with_reducible refine (hnm _).mono ?_); rintro e u ⟨rfl, hb⟩; have hk := HK.out.call hb; clear hb; clear HK; have HK := Lib.hid hk; clear hk)
        | (go_at_call 38; (with_reducible refine (hia _).mono ?_); rintro e u ⟨rfl, rfl⟩)
        | (go_at_call 38; (with_reducible refine (hib _).mono ?_); rintro e u ⟨rfl, rfl⟩))
      go_ret
      exact ⟨by rw [HT.out]; rfl, HK.out.mf.bel⟩
    | true =>
      cases h2 : isB p.a with
      | false =>
        have HK := Lib.hid (Kg.start w)
        have HKK := Lib.hid hkk
        have hnm := fname_any p.nm hnam; rw [h1] at hnm
        have HT := Lib.hid (show planB p = false by simp [planB, h2])
        have HV := Lib.hid (rtab_some hin)
        have hia := fun w => is_eq p.a false h2 w
        have hib := fun w => is_eq p.b _ rfl w
        clear hkk hnam hot hin
        go_enter Tryz.func16, Tryz.ntmps16
        go_wp2_with (first
          | ((with_reducible refine box_k (cs := p.cells) HK.out rfl _ rfl rfl ?_); intro bp u hk; clear HK; have HK := Lib.hid hk; clear hk))
        refine Draws.start (S := fun u => Kg w (fun _ => False) [Th.cel bp 24 p.cells] [] u) (n := 9) 9 rfl (by kernel_rfl) ?_
        have HS := Lib.hid (show (fun u => Kg w (fun _ => False) [Th.cel bp 24 p.cells] [] u) (World.drew _) from HK.out.drew)
        refine Draws.take 1 (v := ?v79) HS.out rfl (by kernel_rfl) (fun _ _ _ h => h) (Or.inl ⟨rfl, ?h79⟩) ?r79
        case h79 => intro w' hw'; go_simp; (try with_reducible rfl)
        (try simp only [Act.put, lsA, lsB, lsC])
        refine Draws.take 2 HS.out rfl (by kernel_rfl) (fun _ _ _ h => h) (yield_k ckI (fun _ h => (h.celAt 0 rfl).cell Pl.c0) _ rfl rfl rfl) ?_
        (try simp only [Act.put, lsA, lsB, lsC])
        refine Draws.does 0 rfl (by kernel_rfl) rfl (fun K' hK => ?_)
        go_simp
        go_at_call 36
        refine (rules_any _).mono ?_
        rintro e u ⟨bm, q1, q2, q3, rfl, hrm⟩
        (try dsimp only)
        have hk := Kg.rules HS.out hrm
        have HM := Lib.hid hrm.map
        clear HK hrm
        have HK := Lib.hid hk
        clear hk
        clear HS
        have HS := Lib.hid (show (fun u => Kg w (fun _ => False) [Th.cel bp 24 p.cells] [] u) _ from HK.out.sub (by simp))
        obtain ⟨v, hv⟩ := HV.out q1 q2 q3
        have HW := Lib.hid hv
        clear hv
        refine hK.out _ _ (fun _ => HS.out) ?_
        clear hK K'
        (try simp only [Act.put, lsA, lsB, lsC])
        refine Draws.does 3 rfl (by kernel_rfl) rfl (fun K' hK => ?_)
        refine wp_hitR HM.out HKK.out HW.out _ _ rfl rfl rfl ?_
        refine hK.out _ _ (fun _ => HS.out) ?_
        clear hK K'
        (try simp only [Act.put, lsA, lsB, lsC])
        refine Draws.take 4 (v := ?v80) HS.out rfl (by kernel_rfl) (fun _ _ _ h => h) (Or.inl ⟨rfl, ?h80⟩) ?r80
        case h80 => intro w' hw'; go_simp; (try with_reducible rfl)
        (try simp only [Act.put, lsA, lsB, lsC])
        refine Draws.take 5 (v := ?v81) HS.out rfl (by kernel_rfl) (fun _ _ _ h => h) (Or.inl ⟨rfl, ?h81⟩) ?r81
        case h81 => intro w' hw'; go_simp; (try with_reducible rfl)
        (try simp only [Act.put, lsA, lsB, lsC])
        refine Draws.take 6 (v := ?v82) HS.out rfl (by kernel_rfl) (fun _ _ _ h => h) (Or.inl ⟨rfl, ?h82⟩) ?r82
        case h82 => intro w' hw'; go_simp; (try with_reducible rfl)
        (try simp only [Act.put, lsA, lsB, lsC])
        refine Draws.take 7 (v := ?v83) HS.out rfl (by kernel_rfl) (fun _ _ _ h => h) (Or.inl ⟨rfl, ?h83⟩) ?r83
        case h83 => intro w' hw'; go_simp; (try with_reducible rfl)
        (try simp only [Act.put, lsA, lsB, lsC])
        refine Draws.take 8 (v := ?v84) HS.out rfl (by kernel_rfl) (fun _ _ _ h => h) (Or.inl ⟨rfl, ?h84⟩) ?r84
        case h84 => intro w' hw'; go_simp; (try with_reducible rfl)
        (try simp only [Act.put, lsA, lsB, lsC])
        refine Draws.done (by kernel_rfl) ?_
        go_wp2_with (first
          | (with_reducible refine load_k1 HK.out 0 ckS _ rfl rfl rfl rfl Pl.c1 ?_)
          | (with_reducible refine load_k1 HK.out 0 ckI _ rfl rfl rfl rfl Pl.c3 ?_)
          | (with_reducible refine load_k1 HK.out 0 ckI _ rfl rfl rfl rfl Pl.c4 ?_)
          | (with_reducible refine load_kr (xs := p.cells) HK.out 0 Tryz.underlying24 rfl p_info _ rfl rfl rfl rfl Pl.all ?_)
          | (go_at_call 37; (with_reducible refine (hnm _).mono ?_); rintro e u ⟨rfl, hb⟩; have hk := HK.out.call hb; clear hb; clear HK; have HK := Lib.hid hk; clear hk)
          | (go_at_call 38; (with_reducible refine (hia _).mono ?_); rintro e u ⟨rfl, rfl⟩)
          | (go_at_call 38; (with_reducible refine (hib _).mono ?_); rintro e u ⟨rfl, rfl⟩))
        go_ret
        exact ⟨by rw [HT.out]; rfl, HK.out.mf.bel⟩
      | true =>
        cases h3 : isB p.b with
        | false =>
          have HK := Lib.hid (Kg.start w)
          have HKK := Lib.hid hkk
          have hnm := fname_any p.nm hnam; rw [h1] at hnm
          have HT := Lib.hid (show planB p = false by simp [planB, h3])
          have HV := Lib.hid (rtab_some hin)
          have hia := fun w => is_eq p.a true h2 w
          have hib := fun w => is_eq p.b false h3 w
          clear hkk hnam hot hin
          go_enter Tryz.func16, Tryz.ntmps16
          go_wp2_with (first
            | ((with_reducible refine box_k (cs := p.cells) HK.out rfl _ rfl rfl ?_); intro bp u hk; clear HK; have HK := Lib.hid hk; clear hk))
          refine Draws.start (S := fun u => Kg w (fun _ => False) [Th.cel bp 24 p.cells] [] u) (n := 9) 9 rfl (by kernel_rfl) ?_
          have HS := Lib.hid (show (fun u => Kg w (fun _ => False) [Th.cel bp 24 p.cells] [] u) (World.drew _) from HK.out.drew)
          refine Draws.take 1 (v := ?v85) HS.out rfl (by kernel_rfl) (fun _ _ _ h => h) (Or.inl ⟨rfl, ?h85⟩) ?r85
          case h85 => intro w' hw'; go_simp; (try with_reducible rfl)
          (try simp only [Act.put, lsA, lsB, lsC])
          refine Draws.take 2 HS.out rfl (by kernel_rfl) (fun _ _ _ h => h) (yield_k ckI (fun _ h => (h.celAt 0 rfl).cell Pl.c0) _ rfl rfl rfl) ?_
          (try simp only [Act.put, lsA, lsB, lsC])
          refine Draws.does 0 rfl (by kernel_rfl) rfl (fun K' hK => ?_)
          go_simp
          go_at_call 36
          refine (rules_any _).mono ?_
          rintro e u ⟨bm, q1, q2, q3, rfl, hrm⟩
          (try dsimp only)
          have hk := Kg.rules HS.out hrm
          have HM := Lib.hid hrm.map
          clear HK hrm
          have HK := Lib.hid hk
          clear hk
          clear HS
          have HS := Lib.hid (show (fun u => Kg w (fun _ => False) [Th.cel bp 24 p.cells] [] u) _ from HK.out.sub (by simp))
          obtain ⟨v, hv⟩ := HV.out q1 q2 q3
          have HW := Lib.hid hv
          clear hv
          refine hK.out _ _ (fun _ => HS.out) ?_
          clear hK K'
          (try simp only [Act.put, lsA, lsB, lsC])
          refine Draws.does 3 rfl (by kernel_rfl) rfl (fun K' hK => ?_)
          refine wp_hitR HM.out HKK.out HW.out _ _ rfl rfl rfl ?_
          refine hK.out _ _ (fun _ => HS.out) ?_
          clear hK K'
          (try simp only [Act.put, lsA, lsB, lsC])
          refine Draws.take 4 (v := ?v86) HS.out rfl (by kernel_rfl) (fun _ _ _ h => h) (Or.inl ⟨rfl, ?h86⟩) ?r86
          case h86 => intro w' hw'; go_simp; (try with_reducible rfl)
          (try simp only [Act.put, lsA, lsB, lsC])
          refine Draws.take 5 (v := ?v87) HS.out rfl (by kernel_rfl) (fun _ _ _ h => h) (Or.inl ⟨rfl, ?h87⟩) ?r87
          case h87 => intro w' hw'; go_simp; (try with_reducible rfl)
          (try simp only [Act.put, lsA, lsB, lsC])
          refine Draws.take 6 (v := ?v88) HS.out rfl (by kernel_rfl) (fun _ _ _ h => h) (Or.inl ⟨rfl, ?h88⟩) ?r88
          case h88 => intro w' hw'; go_simp; (try with_reducible rfl)
          (try simp only [Act.put, lsA, lsB, lsC])
          refine Draws.take 7 (v := ?v89) HS.out rfl (by kernel_rfl) (fun _ _ _ h => h) (Or.inl ⟨rfl, ?h89⟩) ?r89
          case h89 => intro w' hw'; go_simp; (try with_reducible rfl)
          (try simp only [Act.put, lsA, lsB, lsC])
          refine Draws.take 8 (v := ?v90) HS.out rfl (by kernel_rfl) (fun _ _ _ h => h) (Or.inl ⟨rfl, ?h90⟩) ?r90
          case h90 => intro w' hw'; go_simp; (try with_reducible rfl)
          (try simp only [Act.put, lsA, lsB, lsC])
          refine Draws.done (by kernel_rfl) ?_
          go_wp2_with (first
            | (with_reducible refine load_k1 HK.out 0 ckS _ rfl rfl rfl rfl Pl.c1 ?_)
            | (with_reducible refine load_k1 HK.out 0 ckI _ rfl rfl rfl rfl Pl.c3 ?_)
            | (with_reducible refine load_k1 HK.out 0 ckI _ rfl rfl rfl rfl Pl.c4 ?_)
            | (with_reducible refine load_kr (xs := p.cells) HK.out 0 Tryz.underlying24 rfl p_info _ rfl rfl rfl rfl Pl.all ?_)
            | (go_at_call 37; (with_reducible refine (hnm _).mono ?_); rintro e u ⟨rfl, hb⟩; have hk := HK.out.call hb; clear hb; clear HK; have HK := Lib.hid hk; clear hk)
            | (go_at_call 38; (with_reducible refine (hia _).mono ?_); rintro e u ⟨rfl, rfl⟩)
            | (go_at_call 38; (with_reducible refine (hib _).mono ?_); rintro e u ⟨rfl, rfl⟩))
          go_ret
          exact ⟨by rw [HT.out]; rfl, HK.out.mf.bel⟩
        | true =>
          have : p.k = 1 ∨ p.k = 2 ∨ p.k = 3 ∨ p.k = 4 ∨ p.k = 5 ∨ p.k = 6 := by omega
          rcases this with h0 | h0 | h0 | h0 | h0 | h0
          · exact pright_1 p hnam hkk h0 h1 h2 h3 w
          · exact pright_2 p hnam hkk h0 h1 h2 h3 w
          · exact pright_3 p hnam hkk h0 h1 h2 h3 w
          · exact pright_4 p hnam hkk h0 h1 h2 h3 w
          · exact pright_5 p hnam hot hkk h0 h1 h2 h3 w
          · exact pright_6 p hnam hot hkk h0 h1 h2 h3 w
  · have HK := Lib.hid (Kg.start w)
    have HKK := Lib.hid hkk
    have HT := Lib.hid (show planB p = false by simp [planB, rule_no hin])
    have HV := Lib.hid (rtab_none hin)
    have hnm := fname_any p.nm hnam
    have hia := fun w => is_eq p.a _ rfl w
    have hib := fun w => is_eq p.b _ rfl w
    clear hkk hnam hot hin
    go_enter Tryz.func16, Tryz.ntmps16
    go_wp2_with (first
      | ((with_reducible refine box_k (cs := p.cells) HK.out rfl _ rfl rfl ?_); intro bp u hk; clear HK; have HK := Lib.hid hk; clear hk))
    refine Draws.start (S := fun u => Kg w (fun _ => False) [Th.cel bp 24 p.cells] [] u) (n := 9) 9 rfl (by kernel_rfl) ?_
    have HS := Lib.hid (show (fun u => Kg w (fun _ => False) [Th.cel bp 24 p.cells] [] u) (World.drew _) from HK.out.drew)
    refine Draws.take 1 (v := ?v91) HS.out rfl (by kernel_rfl) (fun _ _ _ h => h) (Or.inl ⟨rfl, ?h91⟩) ?r91
    case h91 => intro w' hw'; go_simp; (try with_reducible rfl)
    (try simp only [Act.put, lsA, lsB, lsC])
    refine Draws.take 2 HS.out rfl (by kernel_rfl) (fun _ _ _ h => h) (yield_k ckI (fun _ h => (h.celAt 0 rfl).cell Pl.c0) _ rfl rfl rfl) ?_
    (try simp only [Act.put, lsA, lsB, lsC])
    refine Draws.does 0 rfl (by kernel_rfl) rfl (fun K' hK => ?_)
    go_simp
    go_at_call 36
    refine (rules_any _).mono ?_
    rintro e u ⟨bm, q1, q2, q3, rfl, hrm⟩
    (try dsimp only)
    have hk := Kg.rules HS.out hrm
    have HM := Lib.hid hrm.map
    clear HK hrm
    have HK := Lib.hid hk
    clear hk
    clear HS
    have HS := Lib.hid (show (fun u => Kg w (fun _ => False) [Th.cel bp 24 p.cells] [] u) _ from HK.out.sub (by simp))
    refine hK.out _ _ (fun _ => HS.out) ?_
    clear hK K'
    (try simp only [Act.put, lsA, lsB, lsC])
    refine Draws.does 3 rfl (by kernel_rfl) rfl (fun K' hK => ?_)
    refine wp_missR HM.out HKK.out (HV.out q1 q2 q3) _ _ rfl rfl rfl ?_
    refine hK.out _ _ (fun _ => HS.out) ?_
    clear hK K'
    (try simp only [Act.put, lsA, lsB, lsC])
    refine Draws.take 4 (v := ?v92) HS.out rfl (by kernel_rfl) (fun _ _ _ h => h) (Or.inl ⟨rfl, ?h92⟩) ?r92
    case h92 => intro w' hw'; go_simp; (try with_reducible rfl)
    (try simp only [Act.put, lsA, lsB, lsC])
    refine Draws.take 5 (v := ?v93) HS.out rfl (by kernel_rfl) (fun _ _ _ h => h) (Or.inl ⟨rfl, ?h93⟩) ?r93
    case h93 => intro w' hw'; go_simp; (try with_reducible rfl)
    (try simp only [Act.put, lsA, lsB, lsC])
    refine Draws.take 6 (v := ?v94) HS.out rfl (by kernel_rfl) (fun _ _ _ h => h) (Or.inl ⟨rfl, ?h94⟩) ?r94
    case h94 => intro w' hw'; go_simp; (try with_reducible rfl)
    (try simp only [Act.put, lsA, lsB, lsC])
    refine Draws.take 7 (v := ?v95) HS.out rfl (by kernel_rfl) (fun _ _ _ h => h) (Or.inl ⟨rfl, ?h95⟩) ?r95
    case h95 => intro w' hw'; go_simp; (try with_reducible rfl)
    (try simp only [Act.put, lsA, lsB, lsC])
    refine Draws.take 8 (v := ?v96) HS.out rfl (by kernel_rfl) (fun _ _ _ h => h) (Or.inl ⟨rfl, ?h96⟩) ?r96
    case h96 => intro w' hw'; go_simp; (try with_reducible rfl)
    (try simp only [Act.put, lsA, lsB, lsC])
    refine Draws.done (by kernel_rfl) ?_
    go_wp2_with (first
      | (with_reducible refine load_k1 HK.out 0 ckS _ rfl rfl rfl rfl Pl.c1 ?_)
      | (with_reducible refine load_k1 HK.out 0 ckI _ rfl rfl rfl rfl Pl.c3 ?_)
      | (with_reducible refine load_k1 HK.out 0 ckI _ rfl rfl rfl rfl Pl.c4 ?_)
      | (with_reducible refine load_kr (xs := p.cells) HK.out 0 Tryz.underlying24 rfl p_info _ rfl rfl rfl rfl Pl.all ?_)
      | (go_at_call 37; (with_reducible refine (hnm _).mono ?_); rintro e u ⟨rfl, hb⟩; have hk := HK.out.call hb; clear hb; clear HK; have HK := Lib.hid hk; clear hk)
      | (go_at_call 38; (with_reducible refine (hia _).mono ?_); rintro e u ⟨rfl, rfl⟩)
      | (go_at_call 38; (with_reducible refine (hib _).mono ?_); rintro e u ⟨rfl, rfl⟩))
    go_ret
    exact ⟨by rw [HT.out]; rfl, HK.out.mf.bel⟩

end Go.Proofs.YtgblnlpfgdbnnaaGreat
