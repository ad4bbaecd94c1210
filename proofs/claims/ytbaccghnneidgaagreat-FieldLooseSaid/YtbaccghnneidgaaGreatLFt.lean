/- Contract of the statements' Step, over sixteen fields. -/
import Derived.Test.YtbaccghnneidgaaGreatLFq
namespace Go.Proofs.YtbaccghnneidgaaGreat
set_option maxRecDepth 100000
open Go.ChangeShapes Go.WideShapes Go.ChangeAt Go.RowKit

theorem wp_alloc_f {o : Oper} {a : Act} {w u : World} {l : List (Nat × TypeId × List Value)} {rows : List (Option Addr × Nat × List Ho)} {Q : Exit → Act → World → Prop} {K : Act → World → Prop} (hk : KeepF w l rows u) {ty : TypeId} {cs : List Value} (hz : (Tryz.prog.info? ty).bind (·.zero) = some (.agg cs.toArray)) (ho : o.op = .alloc ty)
    (h : ∀ b u', KeepF w ((b, ty, cs) :: l) rows u' → K (a.put o.dst (.pointer (some ⟨b, 0, none⟩))) u') : o.wp Tryz.prog a u K Q := by
  have e : (Instr.alloc ty true (.tuple #[])).run Tryz.prog u = .ok (.pointer (some ⟨u.heap.size, 0, none⟩)) (u.alloc (.cells cs.toArray ty)) := by
    cases hq : Tryz.prog.info? ty with
    | none => simp [hq] at hz
    | some i =>
      simp only [hq, Option.bind_some] at hz
      simp [Instr.alloc, zeroValue, typeInfo, hq, hz, newVar, newRow, newObj, Value.cells]
      rfl
  unfold Oper.wp execOp
  simp only [ho, Sem.run_bind, Sem.run_pure, Result.andThen_ok, e]
  exact h _ _ (hk.new rfl)
theorem set_same {l : List (Nat × TypeId × List Value)} {n : Nat} {x : Nat × TypeId × List Value} (h : l[n]? = some x) : l.set n x = l := by
  apply List.ext_getElem?
  intro q
  rw [List.getElem?_set]
  split
  · rename_i e
    subst e
    rw [h, if_pos (List.getElem?_eq_some_iff.1 h).1]
  · rfl
theorem Pf.rgA {w u : World} {l : List (Nat × TypeId × List Value)} {rows : List (Option Addr × Nat × List Ho)} (hk : KeepF w l rows u) (i : Nat) {b : Nat} {t : TypeId} {p : Pf} {A : Option Addr} {c : Nat} (hi : l[i]? = some (b, t, (p.fd A c).cells)) : u.rangeAt b 0 (p.fd A c).cells := (hk.get i hi).range Pf.all
theorem KeepF.rgQ {w u : World} {l : List (Nat × TypeId × List Value)} {rows : List (Option Addr × Nat × List Ho)} {qs : List Q} (hk : KeepF w l rows u) (i : Nat) {b : Nat} {t : TypeId} (hi : l[i]? = some (b, t, fcs qs)) (hf : ∀ x ∈ qs, x.1.full) {j : Nat} {p : Pf} {A : Option Addr} {c : Nat} (hj : qs[j]? = some (p, A, c)) : u.rangeAt b (j * 587) (p.fd A c).cells := (hk.get i hi).range (fcs_get hf hj)
theorem iv_set {i : Int} {t : Nat} {qs : List Q} (hI : ∀ x ∈ qs, Iv i t x.1) {j : Nat} {y : Q} (hy : Iv i (t + 1) y.1) : ∀ x ∈ qs.set j y, Iv i (t + 1) x.1 := fun x hx => by
  rcases List.mem_or_eq_of_mem_set hx with hx | rfl
  · exact (hI x hx).later
  · exact hy
section
variable {i : Int} {t : Nat} {qs : List Q} {w u : World} {l : List (Nat × TypeId × List Value)} {bs : Nat}
set_option maxHeartbeats 4000000 in
theorem step_0 (hq : qs.length = 16) (hI : ∀ x ∈ qs, Iv i t x.1) (j : Nat) (hj : j < 16) (K N M : Int) (hN : -3000 ≤ N ∧ N ≤ 3000) (n : Nat) (hn : l[n]? = some (bs, 61, fcs qs)) (hk : KeepF w l (rws qs) u) :
    Calls Tryz.prog 39 #[.pointer (some ⟨bs, 0, none⟩), .agg (vals (Ho.l ⟨0, (j : Int), K, N, M⟩)).toArray] u fun e u' => ∃ E qs', e = .returned (.int .i64 E) ∧ qs'.length = 16 ∧ (∀ x ∈ qs', Iv i (t + 1) x.1) ∧ KeepF w (l.set n (bs, 61, fcs qs')) (rws qs') u' := by
  obtain ⟨px, Ax, cx, hx⟩ : ∃ (px : Pf) (Ax : Option Addr) (cx : Nat), qs[j]? = some (px, Ax, cx) := ⟨_, _, _, List.getElem?_eq_getElem (by omega)⟩
  have hIx := hI _ (List.mem_of_getElem? hx)
  have HQF := Lib.hid (show ∀ x ∈ qs, x.1.full from fun x hx => (hI x hx).full)
  have HXJ := Lib.hid hx
  have HX := Lib.hid (show px.full from hIx.full)
  have HN := Lib.hid hn
  have HJL := Lib.hid (show j < qs.length by omega)
  have HII := Lib.hid hI
  have HQL := Lib.hid hq
  have HK := Lib.hid hk
  have i1 : (0 : Int) ≤ (j : Int) := by omega
  have i2 : (j : Int) < 16 := by omega
  have n1 : decide ((j : Int) < 0) = false := by rw [decide_eq_false_iff_not]; omega
  have n2 : decide ((15 : Int) < (j : Int)) = false := by rw [decide_eq_false_iff_not]; omega
  have c0 : (vals (Ho.l ⟨0, (j : Int), K, N, M⟩))[0]? = some (.int .i64 0) := rfl
  have c1 : (vals (Ho.l ⟨0, (j : Int), K, N, M⟩))[1]? = some (.int .i64 (j : Int)) := rfl
  have c2 : (vals (Ho.l ⟨0, (j : Int), K, N, M⟩))[2]? = some (.int .i64 K) := rfl
  have c3 : (vals (Ho.l ⟨0, (j : Int), K, N, M⟩))[3]? = some (.int .i64 N) := rfl
  have c4 : (vals (Ho.l ⟨0, (j : Int), K, N, M⟩))[4]? = some (.int .i64 M) := rfl
  have hop := fun w h => fadd_any px HX.out Ax cx j N w h
  have HP := Lib.hid (addP_full HX.out j N)
  have hiv := show addPE px j N = 0 → Iv i (t + 1) (addP px j N) from fun h => hIx.add hN h
  generalize addP px j N = P' at hop HP hiv
  generalize addPE px j N = E' at hop hiv
  clear hx hIx hI hq hn hk
  by_cases hE : E' = 0
  · have HIV := Lib.hid (hiv hE)
    subst hE
    clear hiv
    go_enter Tryz.func39, Tryz.ntmps39
    go_wp2_with (first
      | (with_reducible refine box_f (cs := vals (Ho.l ⟨0, (j : Int), K, N, M⟩)) HK.out rfl _ rfl rfl ?_; intro b3 u hk; clear HK; have HK := Lib.hid hk; clear hk)
      | (with_reducible refine load_f1 HK.out 0 cbI _ rfl rfl rfl rfl c0 ?_)
      | (with_reducible refine load_f1 HK.out 0 cbI _ rfl rfl rfl rfl c1 ?_)
      | (with_reducible refine load_f1 HK.out 0 cbI _ rfl rfl rfl rfl c2 ?_)
      | (with_reducible refine load_f1 HK.out 0 cbI _ rfl rfl rfl rfl c3 ?_)
      | (with_reducible refine load_f1 HK.out 0 cbI _ rfl rfl rfl rfl c4 ?_))
    refine Draws.start (S := fun u => KeepF w ((b3, 63, vals (Ho.l ⟨0, (j : Int), K, N, M⟩)) :: l) (rws qs) u) (n := 7) 9 rfl (by kernel_rfl) ?_
    have hk := HK.out.drew
    clear HK; have HK := Lib.hid hk; clear hk
    have HS := Lib.hid (show (fun u => KeepF w ((b3, 63, vals (Ho.l ⟨0, (j : Int), K, N, M⟩)) :: l) (rws qs) u) _ from HK.out)
    refine Draws.take 0 (v := ?v1) HS.out rfl (by kernel_rfl) (fun _ _ _ h => h) (Or.inl ⟨rfl, ?h1⟩) ?r1
    case h1 => intro w' hw'; go_simp; (try with_reducible rfl)
    (try simp only [Act.put, List.setIfInBounds_toArray, List.set_cons_zero, List.set_cons_succ])
    refine Draws.take 1 (v := ?v2) HS.out rfl (by kernel_rfl) (fun _ _ _ h => h) (Or.inl ⟨rfl, ?h2⟩) ?r2
    case h2 => intro w' hw'; go_simp; (try with_reducible rfl)
    (try simp only [Act.put, List.setIfInBounds_toArray, List.set_cons_zero, List.set_cons_succ])
    refine Draws.take 2 HS.out rfl (by kernel_rfl) (fun _ _ _ h => h) (yield_c cbI (fun _ h => h.cellAt 0 rfl c1) _ rfl rfl rfl) ?_
    (try simp only [Act.put, List.setIfInBounds_toArray, List.set_cons_zero, List.set_cons_succ])
    refine Draws.take 3 (v := ?v3) HS.out rfl (by kernel_rfl) (fun _ _ _ h => h) (Or.inl ⟨rfl, ?h3⟩) ?r3
    case h3 => intro w' hw'; go_simp; (try with_reducible rfl)
    (try simp only [Act.put, List.setIfInBounds_toArray, List.set_cons_zero, List.set_cons_succ])
    refine Draws.take 4 (v := ?v4) HS.out rfl (by kernel_rfl) (fun _ _ _ h => h) (Or.inl ⟨rfl, ?h4⟩) ?r4
    case h4 => intro w' hw'; go_simp; (try with_reducible rfl)
    (try simp only [Act.put, List.setIfInBounds_toArray, List.set_cons_zero, List.set_cons_succ])
    refine Draws.take 5 HS.out rfl (by kernel_rfl) (fun _ _ _ h => h) (yield_rng Tryz.underlying33 rfl (Pf.infoF HX.out) (fun _ h => h.rgQ (n + 1) HN.out HQF.out HXJ.out) _ rfl rfl rfl) ?_
    (try simp only [Act.put, List.setIfInBounds_toArray, List.set_cons_zero, List.set_cons_succ])
    refine Draws.does 6 rfl (by kernel_rfl) rfl (fun K hK => ?_)
    refine wp_alloc_f HK.out f_zeroP rfl ?_
    intro b5 u hk; clear HK; have HK := Lib.hid hk; clear hk
    refine hK.out _ _ (fun _ => HK.out.tail) ?_
    clear hK K
    have hs : (fun u => KeepF w ((b3, 63, vals (Ho.l ⟨0, (j : Int), K, N, M⟩)) :: l) (rws qs) u) u := HK.out.tail
    clear HS
    have HS := Lib.hid hs; clear hs
    (try simp only [Act.put, List.setIfInBounds_toArray, List.set_cons_zero, List.set_cons_succ])
    refine Draws.does 7 rfl (by kernel_rfl) rfl (fun K hK => ?_)
    refine wp_store_fr HK.out 0 (Pf.infoF HX.out) (Fd.one _) rfl _ _ rfl rfl rfl rfl (Fd.leP zP_full HX.out) (Fd.setAllP zP_full HX.out) ?_
    intro u hk he; clear he; simp only [List.set_cons_zero, List.set_cons_succ] at hk; clear HK; have HK := Lib.hid hk; clear hk
    refine hK.out _ _ (fun h => absurd h (by decide)) ?_
    clear hK K
    (try simp only [Act.put, List.setIfInBounds_toArray, List.set_cons_zero, List.set_cons_succ])
    refine Draws.does 8 rfl (by kernel_rfl) rfl (fun K hK => ?_)
    go_simp
    refine hK.out _ _ (fun h => absurd h (by decide)) ?_
    clear hK K
    (try simp only [Act.put, List.setIfInBounds_toArray, List.set_cons_zero, List.set_cons_succ])
    refine Draws.done (by kernel_rfl) ?_
    clear HS
    go_wp2_with (first
      | (with_reducible refine load_fr HK.out 0 Tryz.underlying33 rfl (Pf.infoF HX.out) _ rfl rfl rfl rfl Pf.all ?_)
      | (with_reducible refine load_f1 HK.out 1 cbI _ rfl rfl rfl rfl c0 ?_)
      | (with_reducible refine load_f1 HK.out 1 cbI _ rfl rfl rfl rfl c1 ?_)
      | (with_reducible refine load_f1 HK.out 1 cbI _ rfl rfl rfl rfl c2 ?_)
      | (with_reducible refine load_f1 HK.out 1 cbI _ rfl rfl rfl rfl c3 ?_)
      | (with_reducible refine load_f1 HK.out 1 cbI _ rfl rfl rfl rfl c4 ?_)
      | (go_at_call 24; (with_reducible refine (hop _ (HK.out.rowQ HXJ.out)).mono ?_); rintro e u ⟨A1, c1', rfl, hg, hb⟩; have hk := HK.out.got hb j (rws_at HXJ.out) hg; clear hg hb; clear HK; have HK := Lib.hid hk; clear hk)
      | (with_reducible refine store_fr HK.out 0 (Pf.infoF HP.out) (Fd.one _) rfl rfl _ _ rfl rfl rfl rfl (Fd.leP HX.out HP.out) (Fd.setAllP HX.out HP.out) ?_; intro u hk; simp only [List.set_cons_zero, List.set_cons_succ] at hk; clear HK; have HK := Lib.hid hk; clear hk))
    refine Draws.start (S := fun u : World => u.cell? ⟨b3, 1, none⟩ = some (.int .i64 (j : Int)) ∧ u.rangeAt b5 0 (P'.fd A1 c1').cells) (n := 7) 7 rfl (by kernel_rfl) ?_
    have hk := HK.out.drew
    clear HK; have HK := Lib.hid hk; clear hk
    have HS := Lib.hid (show (fun u : World => u.cell? ⟨b3, 1, none⟩ = some (.int .i64 (j : Int)) ∧ u.rangeAt b5 0 (P'.fd A1 c1').cells) _ from ⟨HK.out.cellAt 1 rfl c1, Pf.rgA HK.out 0 rfl⟩)
    refine Draws.take 0 (v := ?v5) HS.out rfl (by kernel_rfl) (fun _ _ _ h => h) (Or.inl ⟨rfl, ?h5⟩) ?r5
    case h5 => intro w' hw'; go_simp; (try with_reducible rfl)
    (try simp only [Act.put, List.setIfInBounds_toArray, List.set_cons_zero, List.set_cons_succ])
    refine Draws.take 1 (v := ?v6) HS.out rfl (by kernel_rfl) (fun _ _ _ h => h) (Or.inl ⟨rfl, ?h6⟩) ?r6
    case h6 => intro w' hw'; go_simp; (try with_reducible rfl)
    (try simp only [Act.put, List.setIfInBounds_toArray, List.set_cons_zero, List.set_cons_succ])
    refine Draws.take 2 HS.out rfl (by kernel_rfl) (fun _ _ _ h => h) (yield_c cbI (fun _ h => h.1) _ rfl rfl rfl) ?_
    (try simp only [Act.put, List.setIfInBounds_toArray, List.set_cons_zero, List.set_cons_succ])
    refine Draws.take 3 HS.out rfl (by kernel_rfl) (fun _ _ _ h => h) (yield_rng Tryz.underlying33 rfl (Pf.infoF HP.out) (fun _ h => h.2) _ rfl rfl rfl) ?_
    (try simp only [Act.put, List.setIfInBounds_toArray, List.set_cons_zero, List.set_cons_succ])
    refine Draws.take 4 (v := ?v7) HS.out rfl (by kernel_rfl) (fun _ _ _ h => h) (Or.inl ⟨rfl, ?h7⟩) ?r7
    case h7 => intro w' hw'; go_simp; (try with_reducible rfl)
    (try simp only [Act.put, List.setIfInBounds_toArray, List.set_cons_zero, List.set_cons_succ])
    refine Draws.take 5 (v := ?v8) HS.out rfl (by kernel_rfl) (fun _ _ _ h => h) (Or.inl ⟨rfl, ?h8⟩) ?r8
    case h8 => intro w' hw'; go_simp; (try with_reducible rfl)
    (try simp only [Act.put, List.setIfInBounds_toArray, List.set_cons_zero, List.set_cons_succ])
    refine Draws.does 6 rfl (by kernel_rfl) rfl (fun K hK => ?_)
    refine wp_store_fr HK.out (n + 2) (Pf.infoF HP.out) (Fd.one _) rfl _ _ rfl HN.out rfl rfl (fcs_le (y := (P', A1, c1')) HQF.out HJL.out HP.out) (fcs_set (y := (P', A1, c1')) HQF.out HJL.out HP.out) ?_
    intro u hk he; clear he; simp only [List.set_cons_zero, List.set_cons_succ] at hk; clear HK; have HK := Lib.hid hk; clear hk
    refine hK.out _ _ (fun _ => ⟨HK.out.cellAt 1 rfl c1, Pf.rgA HK.out 0 rfl⟩) ?_
    clear hK K
    have hs : (fun u : World => u.cell? ⟨b3, 1, none⟩ = some (.int .i64 (j : Int)) ∧ u.rangeAt b5 0 (P'.fd A1 c1').cells) u := ⟨HK.out.cellAt 1 rfl c1, Pf.rgA HK.out 0 rfl⟩
    clear HS
    have HS := Lib.hid hs; clear hs
    (try simp only [Act.put, List.setIfInBounds_toArray, List.set_cons_zero, List.set_cons_succ])
    refine Draws.done (by kernel_rfl) ?_
    clear HS
    go_wp2
    go_ret
    exact ⟨_, _, rfl, by rw [List.length_set]; exact HQL.out, iv_set (y := (P', A1, c1')) HII.out HIV.out, HK.out.tail.tail.setQ⟩
  · have d0 : (E' == 0) = false := by simpa using hE
    clear hiv
    go_enter Tryz.func39, Tryz.ntmps39
    go_wp2_with (first
      | (with_reducible refine box_f (cs := vals (Ho.l ⟨0, (j : Int), K, N, M⟩)) HK.out rfl _ rfl rfl ?_; intro b3 u hk; clear HK; have HK := Lib.hid hk; clear hk)
      | (with_reducible refine load_f1 HK.out 0 cbI _ rfl rfl rfl rfl c0 ?_)
      | (with_reducible refine load_f1 HK.out 0 cbI _ rfl rfl rfl rfl c1 ?_)
      | (with_reducible refine load_f1 HK.out 0 cbI _ rfl rfl rfl rfl c2 ?_)
      | (with_reducible refine load_f1 HK.out 0 cbI _ rfl rfl rfl rfl c3 ?_)
      | (with_reducible refine load_f1 HK.out 0 cbI _ rfl rfl rfl rfl c4 ?_))
    refine Draws.start (S := fun u => KeepF w ((b3, 63, vals (Ho.l ⟨0, (j : Int), K, N, M⟩)) :: l) (rws qs) u) (n := 7) 9 rfl (by kernel_rfl) ?_
    have hk := HK.out.drew
    clear HK; have HK := Lib.hid hk; clear hk
    have HS := Lib.hid (show (fun u => KeepF w ((b3, 63, vals (Ho.l ⟨0, (j : Int), K, N, M⟩)) :: l) (rws qs) u) _ from HK.out)
    refine Draws.take 0 (v := ?v9) HS.out rfl (by kernel_rfl) (fun _ _ _ h => h) (Or.inl ⟨rfl, ?h9⟩) ?r9
    case h9 => intro w' hw'; go_simp; (try with_reducible rfl)
    (try simp only [Act.put, List.setIfInBounds_toArray, List.set_cons_zero, List.set_cons_succ])
    refine Draws.take 1 (v := ?v10) HS.out rfl (by kernel_rfl) (fun _ _ _ h => h) (Or.inl ⟨rfl, ?h10⟩) ?r10
    case h10 => intro w' hw'; go_simp; (try with_reducible rfl)
    (try simp only [Act.put, List.setIfInBounds_toArray, List.set_cons_zero, List.set_cons_succ])
    refine Draws.take 2 HS.out rfl (by kernel_rfl) (fun _ _ _ h => h) (yield_c cbI (fun _ h => h.cellAt 0 rfl c1) _ rfl rfl rfl) ?_
    (try simp only [Act.put, List.setIfInBounds_toArray, List.set_cons_zero, List.set_cons_succ])
    refine Draws.take 3 (v := ?v11) HS.out rfl (by kernel_rfl) (fun _ _ _ h => h) (Or.inl ⟨rfl, ?h11⟩) ?r11
    case h11 => intro w' hw'; go_simp; (try with_reducible rfl)
    (try simp only [Act.put, List.setIfInBounds_toArray, List.set_cons_zero, List.set_cons_succ])
    refine Draws.take 4 (v := ?v12) HS.out rfl (by kernel_rfl) (fun _ _ _ h => h) (Or.inl ⟨rfl, ?h12⟩) ?r12
    case h12 => intro w' hw'; go_simp; (try with_reducible rfl)
    (try simp only [Act.put, List.setIfInBounds_toArray, List.set_cons_zero, List.set_cons_succ])
    refine Draws.take 5 HS.out rfl (by kernel_rfl) (fun _ _ _ h => h) (yield_rng Tryz.underlying33 rfl (Pf.infoF HX.out) (fun _ h => h.rgQ (n + 1) HN.out HQF.out HXJ.out) _ rfl rfl rfl) ?_
    (try simp only [Act.put, List.setIfInBounds_toArray, List.set_cons_zero, List.set_cons_succ])
    refine Draws.does 6 rfl (by kernel_rfl) rfl (fun K hK => ?_)
    refine wp_alloc_f HK.out f_zeroP rfl ?_
    intro b5 u hk; clear HK; have HK := Lib.hid hk; clear hk
    refine hK.out _ _ (fun _ => HK.out.tail) ?_
    clear hK K
    have hs : (fun u => KeepF w ((b3, 63, vals (Ho.l ⟨0, (j : Int), K, N, M⟩)) :: l) (rws qs) u) u := HK.out.tail
    clear HS
    have HS := Lib.hid hs; clear hs
    (try simp only [Act.put, List.setIfInBounds_toArray, List.set_cons_zero, List.set_cons_succ])
    refine Draws.does 7 rfl (by kernel_rfl) rfl (fun K hK => ?_)
    refine wp_store_fr HK.out 0 (Pf.infoF HX.out) (Fd.one _) rfl _ _ rfl rfl rfl rfl (Fd.leP zP_full HX.out) (Fd.setAllP zP_full HX.out) ?_
    intro u hk he; clear he; simp only [List.set_cons_zero, List.set_cons_succ] at hk; clear HK; have HK := Lib.hid hk; clear hk
    refine hK.out _ _ (fun h => absurd h (by decide)) ?_
    clear hK K
    (try simp only [Act.put, List.setIfInBounds_toArray, List.set_cons_zero, List.set_cons_succ])
    refine Draws.does 8 rfl (by kernel_rfl) rfl (fun K hK => ?_)
    go_simp
    refine hK.out _ _ (fun h => absurd h (by decide)) ?_
    clear hK K
    (try simp only [Act.put, List.setIfInBounds_toArray, List.set_cons_zero, List.set_cons_succ])
    refine Draws.done (by kernel_rfl) ?_
    clear HS
    go_wp2_with (first
      | (with_reducible refine load_fr HK.out 0 Tryz.underlying33 rfl (Pf.infoF HX.out) _ rfl rfl rfl rfl Pf.all ?_)
      | (with_reducible refine load_f1 HK.out 1 cbI _ rfl rfl rfl rfl c0 ?_)
      | (with_reducible refine load_f1 HK.out 1 cbI _ rfl rfl rfl rfl c1 ?_)
      | (with_reducible refine load_f1 HK.out 1 cbI _ rfl rfl rfl rfl c2 ?_)
      | (with_reducible refine load_f1 HK.out 1 cbI _ rfl rfl rfl rfl c3 ?_)
      | (with_reducible refine load_f1 HK.out 1 cbI _ rfl rfl rfl rfl c4 ?_)
      | (go_at_call 24; (with_reducible refine (hop _ (HK.out.rowQ HXJ.out)).mono ?_); rintro e u ⟨A1, c1', rfl, hg, hb⟩; have hk := HK.out.got hb j (rws_at HXJ.out) hg; clear hg hb; clear HK; have HK := Lib.hid hk; clear hk)
      | (with_reducible refine store_fr HK.out 0 (Pf.infoF HP.out) (Fd.one _) rfl rfl _ _ rfl rfl rfl rfl (Fd.leP HX.out HP.out) (Fd.setAllP HX.out HP.out) ?_; intro u hk; simp only [List.set_cons_zero, List.set_cons_succ] at hk; clear HK; have HK := Lib.hid hk; clear hk))
    go_ret
    exact ⟨_, qs, rfl, HQL.out, fun x hx => (HII.out x hx).later, by rw [set_same HN.out]; exact HK.out.tail.tail.rtail⟩
set_option maxHeartbeats 4000000 in
theorem step_1 (hq : qs.length = 16) (hI : ∀ x ∈ qs, Iv i t x.1) (j : Nat) (hj : j < 16) (K N M : Int) (hN : N ≤ 3000) (hM : M ≤ 3000) (n : Nat) (hn : l[n]? = some (bs, 61, fcs qs)) (hk : KeepF w l (rws qs) u) :
    Calls Tryz.prog 39 #[.pointer (some ⟨bs, 0, none⟩), .agg (vals (Ho.l ⟨1, (j : Int), K, N, M⟩)).toArray] u fun e u' => ∃ E qs', e = .returned (.int .i64 E) ∧ qs'.length = 16 ∧ (∀ x ∈ qs', Iv i (t + 1) x.1) ∧ KeepF w (l.set n (bs, 61, fcs qs')) (rws qs') u' := by
  obtain ⟨px, Ax, cx, hx⟩ : ∃ (px : Pf) (Ax : Option Addr) (cx : Nat), qs[j]? = some (px, Ax, cx) := ⟨_, _, _, List.getElem?_eq_getElem (by omega)⟩
  have hIx := hI _ (List.mem_of_getElem? hx)
  have HQF := Lib.hid (show ∀ x ∈ qs, x.1.full from fun x hx => (hI x hx).full)
  have HXJ := Lib.hid hx
  have HX := Lib.hid (show px.full from hIx.full)
  have HN := Lib.hid hn
  have HJL := Lib.hid (show j < qs.length by omega)
  have HII := Lib.hid hI
  have HQL := Lib.hid hq
  have HK := Lib.hid hk
  have i1 : (0 : Int) ≤ (j : Int) := by omega
  have i2 : (j : Int) < 16 := by omega
  have n1 : decide ((j : Int) < 0) = false := by rw [decide_eq_false_iff_not]; omega
  have n2 : decide ((15 : Int) < (j : Int)) = false := by rw [decide_eq_false_iff_not]; omega
  have c0 : (vals (Ho.l ⟨1, (j : Int), K, N, M⟩))[0]? = some (.int .i64 1) := rfl
  have c1 : (vals (Ho.l ⟨1, (j : Int), K, N, M⟩))[1]? = some (.int .i64 (j : Int)) := rfl
  have c2 : (vals (Ho.l ⟨1, (j : Int), K, N, M⟩))[2]? = some (.int .i64 K) := rfl
  have c3 : (vals (Ho.l ⟨1, (j : Int), K, N, M⟩))[3]? = some (.int .i64 N) := rfl
  have c4 : (vals (Ho.l ⟨1, (j : Int), K, N, M⟩))[4]? = some (.int .i64 M) := rfl
  have hop := fun w h => fhand_any px HX.out Ax cx j K N M w h
  have HP := Lib.hid (handP_full HX.out j K N M)
  have hiv := show handPE px j K N M = 0 → Iv i (t + 1) (handP px j K N M) from fun h => hIx.hand hN hM h
  generalize handP px j K N M = P' at hop HP hiv
  generalize handPE px j K N M = E' at hop hiv
  clear hx hIx hI hq hn hk
  by_cases hE : E' = 0
  · have HIV := Lib.hid (hiv hE)
    subst hE
    clear hiv
    go_enter Tryz.func39, Tryz.ntmps39
    go_wp2_with (first
      | (with_reducible refine box_f (cs := vals (Ho.l ⟨1, (j : Int), K, N, M⟩)) HK.out rfl _ rfl rfl ?_; intro b3 u hk; clear HK; have HK := Lib.hid hk; clear hk)
      | (with_reducible refine load_f1 HK.out 0 cbI _ rfl rfl rfl rfl c0 ?_)
      | (with_reducible refine load_f1 HK.out 0 cbI _ rfl rfl rfl rfl c1 ?_)
      | (with_reducible refine load_f1 HK.out 0 cbI _ rfl rfl rfl rfl c2 ?_)
      | (with_reducible refine load_f1 HK.out 0 cbI _ rfl rfl rfl rfl c3 ?_)
      | (with_reducible refine load_f1 HK.out 0 cbI _ rfl rfl rfl rfl c4 ?_))
    refine Draws.start (S := fun u => KeepF w ((b3, 63, vals (Ho.l ⟨1, (j : Int), K, N, M⟩)) :: l) (rws qs) u) (n := 7) 9 rfl (by kernel_rfl) ?_
    have hk := HK.out.drew
    clear HK; have HK := Lib.hid hk; clear hk
    have HS := Lib.hid (show (fun u => KeepF w ((b3, 63, vals (Ho.l ⟨1, (j : Int), K, N, M⟩)) :: l) (rws qs) u) _ from HK.out)
    refine Draws.take 0 (v := ?v13) HS.out rfl (by kernel_rfl) (fun _ _ _ h => h) (Or.inl ⟨rfl, ?h13⟩) ?r13
    case h13 => intro w' hw'; go_simp; (try with_reducible rfl)
    (try simp only [Act.put, List.setIfInBounds_toArray, List.set_cons_zero, List.set_cons_succ])
    refine Draws.take 1 (v := ?v14) HS.out rfl (by kernel_rfl) (fun _ _ _ h => h) (Or.inl ⟨rfl, ?h14⟩) ?r14
    case h14 => intro w' hw'; go_simp; (try with_reducible rfl)
    (try simp only [Act.put, List.setIfInBounds_toArray, List.set_cons_zero, List.set_cons_succ])
    refine Draws.take 2 HS.out rfl (by kernel_rfl) (fun _ _ _ h => h) (yield_c cbI (fun _ h => h.cellAt 0 rfl c1) _ rfl rfl rfl) ?_
    (try simp only [Act.put, List.setIfInBounds_toArray, List.set_cons_zero, List.set_cons_succ])
    refine Draws.take 3 (v := ?v15) HS.out rfl (by kernel_rfl) (fun _ _ _ h => h) (Or.inl ⟨rfl, ?h15⟩) ?r15
    case h15 => intro w' hw'; go_simp; (try with_reducible rfl)
    (try simp only [Act.put, List.setIfInBounds_toArray, List.set_cons_zero, List.set_cons_succ])
    refine Draws.take 4 (v := ?v16) HS.out rfl (by kernel_rfl) (fun _ _ _ h => h) (Or.inl ⟨rfl, ?h16⟩) ?r16
    case h16 => intro w' hw'; go_simp; (try with_reducible rfl)
    (try simp only [Act.put, List.setIfInBounds_toArray, List.set_cons_zero, List.set_cons_succ])
    refine Draws.take 5 HS.out rfl (by kernel_rfl) (fun _ _ _ h => h) (yield_rng Tryz.underlying33 rfl (Pf.infoF HX.out) (fun _ h => h.rgQ (n + 1) HN.out HQF.out HXJ.out) _ rfl rfl rfl) ?_
    (try simp only [Act.put, List.setIfInBounds_toArray, List.set_cons_zero, List.set_cons_succ])
    refine Draws.does 6 rfl (by kernel_rfl) rfl (fun K hK => ?_)
    refine wp_alloc_f HK.out f_zeroP rfl ?_
    intro b5 u hk; clear HK; have HK := Lib.hid hk; clear hk
    refine hK.out _ _ (fun _ => HK.out.tail) ?_
    clear hK K
    have hs : (fun u => KeepF w ((b3, 63, vals (Ho.l ⟨1, (j : Int), K, N, M⟩)) :: l) (rws qs) u) u := HK.out.tail
    clear HS
    have HS := Lib.hid hs; clear hs
    (try simp only [Act.put, List.setIfInBounds_toArray, List.set_cons_zero, List.set_cons_succ])
    refine Draws.does 7 rfl (by kernel_rfl) rfl (fun K hK => ?_)
    refine wp_store_fr HK.out 0 (Pf.infoF HX.out) (Fd.one _) rfl _ _ rfl rfl rfl rfl (Fd.leP zP_full HX.out) (Fd.setAllP zP_full HX.out) ?_
    intro u hk he; clear he; simp only [List.set_cons_zero, List.set_cons_succ] at hk; clear HK; have HK := Lib.hid hk; clear hk
    refine hK.out _ _ (fun h => absurd h (by decide)) ?_
    clear hK K
    (try simp only [Act.put, List.setIfInBounds_toArray, List.set_cons_zero, List.set_cons_succ])
    refine Draws.does 8 rfl (by kernel_rfl) rfl (fun K hK => ?_)
    go_simp
    refine hK.out _ _ (fun h => absurd h (by decide)) ?_
    clear hK K
    (try simp only [Act.put, List.setIfInBounds_toArray, List.set_cons_zero, List.set_cons_succ])
    refine Draws.done (by kernel_rfl) ?_
    clear HS
    go_wp2_with (first
      | (with_reducible refine load_fr HK.out 0 Tryz.underlying33 rfl (Pf.infoF HX.out) _ rfl rfl rfl rfl Pf.all ?_)
      | (with_reducible refine load_f1 HK.out 1 cbI _ rfl rfl rfl rfl c0 ?_)
      | (with_reducible refine load_f1 HK.out 1 cbI _ rfl rfl rfl rfl c1 ?_)
      | (with_reducible refine load_f1 HK.out 1 cbI _ rfl rfl rfl rfl c2 ?_)
      | (with_reducible refine load_f1 HK.out 1 cbI _ rfl rfl rfl rfl c3 ?_)
      | (with_reducible refine load_f1 HK.out 1 cbI _ rfl rfl rfl rfl c4 ?_)
      | (go_at_call 26; (with_reducible refine (hop _ (HK.out.rowQ HXJ.out)).mono ?_); rintro e u ⟨A1, c1', rfl, hg, hb⟩; have hk := HK.out.got hb j (rws_at HXJ.out) hg; clear hg hb; clear HK; have HK := Lib.hid hk; clear hk)
      | (with_reducible refine store_fr HK.out 0 (Pf.infoF HP.out) (Fd.one _) rfl rfl _ _ rfl rfl rfl rfl (Fd.leP HX.out HP.out) (Fd.setAllP HX.out HP.out) ?_; intro u hk; simp only [List.set_cons_zero, List.set_cons_succ] at hk; clear HK; have HK := Lib.hid hk; clear hk))
    refine Draws.start (S := fun u : World => u.cell? ⟨b3, 1, none⟩ = some (.int .i64 (j : Int)) ∧ u.rangeAt b5 0 (P'.fd A1 c1').cells) (n := 7) 7 rfl (by kernel_rfl) ?_
    have hk := HK.out.drew
    clear HK; have HK := Lib.hid hk; clear hk
    have HS := Lib.hid (show (fun u : World => u.cell? ⟨b3, 1, none⟩ = some (.int .i64 (j : Int)) ∧ u.rangeAt b5 0 (P'.fd A1 c1').cells) _ from ⟨HK.out.cellAt 1 rfl c1, Pf.rgA HK.out 0 rfl⟩)
    refine Draws.take 0 (v := ?v17) HS.out rfl (by kernel_rfl) (fun _ _ _ h => h) (Or.inl ⟨rfl, ?h17⟩) ?r17
    case h17 => intro w' hw'; go_simp; (try with_reducible rfl)
    (try simp only [Act.put, List.setIfInBounds_toArray, List.set_cons_zero, List.set_cons_succ])
    refine Draws.take 1 (v := ?v18) HS.out rfl (by kernel_rfl) (fun _ _ _ h => h) (Or.inl ⟨rfl, ?h18⟩) ?r18
    case h18 => intro w' hw'; go_simp; (try with_reducible rfl)
    (try simp only [Act.put, List.setIfInBounds_toArray, List.set_cons_zero, List.set_cons_succ])
    refine Draws.take 2 HS.out rfl (by kernel_rfl) (fun _ _ _ h => h) (yield_c cbI (fun _ h => h.1) _ rfl rfl rfl) ?_
    (try simp only [Act.put, List.setIfInBounds_toArray, List.set_cons_zero, List.set_cons_succ])
    refine Draws.take 3 HS.out rfl (by kernel_rfl) (fun _ _ _ h => h) (yield_rng Tryz.underlying33 rfl (Pf.infoF HP.out) (fun _ h => h.2) _ rfl rfl rfl) ?_
    (try simp only [Act.put, List.setIfInBounds_toArray, List.set_cons_zero, List.set_cons_succ])
    refine Draws.take 4 (v := ?v19) HS.out rfl (by kernel_rfl) (fun _ _ _ h => h) (Or.inl ⟨rfl, ?h19⟩) ?r19
    case h19 => intro w' hw'; go_simp; (try with_reducible rfl)
    (try simp only [Act.put, List.setIfInBounds_toArray, List.set_cons_zero, List.set_cons_succ])
    refine Draws.take 5 (v := ?v20) HS.out rfl (by kernel_rfl) (fun _ _ _ h => h) (Or.inl ⟨rfl, ?h20⟩) ?r20
    case h20 => intro w' hw'; go_simp; (try with_reducible rfl)
    (try simp only [Act.put, List.setIfInBounds_toArray, List.set_cons_zero, List.set_cons_succ])
    refine Draws.does 6 rfl (by kernel_rfl) rfl (fun K hK => ?_)
    refine wp_store_fr HK.out (n + 2) (Pf.infoF HP.out) (Fd.one _) rfl _ _ rfl HN.out rfl rfl (fcs_le (y := (P', A1, c1')) HQF.out HJL.out HP.out) (fcs_set (y := (P', A1, c1')) HQF.out HJL.out HP.out) ?_
    intro u hk he; clear he; simp only [List.set_cons_zero, List.set_cons_succ] at hk; clear HK; have HK := Lib.hid hk; clear hk
    refine hK.out _ _ (fun _ => ⟨HK.out.cellAt 1 rfl c1, Pf.rgA HK.out 0 rfl⟩) ?_
    clear hK K
    have hs : (fun u : World => u.cell? ⟨b3, 1, none⟩ = some (.int .i64 (j : Int)) ∧ u.rangeAt b5 0 (P'.fd A1 c1').cells) u := ⟨HK.out.cellAt 1 rfl c1, Pf.rgA HK.out 0 rfl⟩
    clear HS
    have HS := Lib.hid hs; clear hs
    (try simp only [Act.put, List.setIfInBounds_toArray, List.set_cons_zero, List.set_cons_succ])
    refine Draws.done (by kernel_rfl) ?_
    clear HS
    go_wp2
    go_ret
    exact ⟨_, _, rfl, by rw [List.length_set]; exact HQL.out, iv_set (y := (P', A1, c1')) HII.out HIV.out, HK.out.tail.tail.setQ⟩
  · have d0 : (E' == 0) = false := by simpa using hE
    clear hiv
    go_enter Tryz.func39, Tryz.ntmps39
    go_wp2_with (first
      | (with_reducible refine box_f (cs := vals (Ho.l ⟨1, (j : Int), K, N, M⟩)) HK.out rfl _ rfl rfl ?_; intro b3 u hk; clear HK; have HK := Lib.hid hk; clear hk)
      | (with_reducible refine load_f1 HK.out 0 cbI _ rfl rfl rfl rfl c0 ?_)
      | (with_reducible refine load_f1 HK.out 0 cbI _ rfl rfl rfl rfl c1 ?_)
      | (with_reducible refine load_f1 HK.out 0 cbI _ rfl rfl rfl rfl c2 ?_)
      | (with_reducible refine load_f1 HK.out 0 cbI _ rfl rfl rfl rfl c3 ?_)
      | (with_reducible refine load_f1 HK.out 0 cbI _ rfl rfl rfl rfl c4 ?_))
    refine Draws.start (S := fun u => KeepF w ((b3, 63, vals (Ho.l ⟨1, (j : Int), K, N, M⟩)) :: l) (rws qs) u) (n := 7) 9 rfl (by kernel_rfl) ?_
    have hk := HK.out.drew
    clear HK; have HK := Lib.hid hk; clear hk
    have HS := Lib.hid (show (fun u => KeepF w ((b3, 63, vals (Ho.l ⟨1, (j : Int), K, N, M⟩)) :: l) (rws qs) u) _ from HK.out)
    refine Draws.take 0 (v := ?v21) HS.out rfl (by kernel_rfl) (fun _ _ _ h => h) (Or.inl ⟨rfl, ?h21⟩) ?r21
    case h21 => intro w' hw'; go_simp; (try with_reducible rfl)
    (try simp only [Act.put, List.setIfInBounds_toArray, List.set_cons_zero, List.set_cons_succ])
    refine Draws.take 1 (v := ?v22) HS.out rfl (by kernel_rfl) (fun _ _ _ h => h) (Or.inl ⟨rfl, ?h22⟩) ?r22
    case h22 => intro w' hw'; go_simp; (try with_reducible rfl)
    (try simp only [Act.put, List.setIfInBounds_toArray, List.set_cons_zero, List.set_cons_succ])
    refine Draws.take 2 HS.out rfl (by kernel_rfl) (fun _ _ _ h => h) (yield_c cbI (fun _ h => h.cellAt 0 rfl c1) _ rfl rfl rfl) ?_
    (try simp only [Act.put, List.setIfInBounds_toArray, List.set_cons_zero, List.set_cons_succ])
    refine Draws.take 3 (v := ?v23) HS.out rfl (by kernel_rfl) (fun _ _ _ h => h) (Or.inl ⟨rfl, ?h23⟩) ?r23
    case h23 => intro w' hw'; go_simp; (try with_reducible rfl)
    (try simp only [Act.put, List.setIfInBounds_toArray, List.set_cons_zero, List.set_cons_succ])
    refine Draws.take 4 (v := ?v24) HS.out rfl (by kernel_rfl) (fun _ _ _ h => h) (Or.inl ⟨rfl, ?h24⟩) ?r24
    case h24 => intro w' hw'; go_simp; (try with_reducible rfl)
    (try simp only [Act.put, List.setIfInBounds_toArray, List.set_cons_zero, List.set_cons_succ])
    refine Draws.take 5 HS.out rfl (by kernel_rfl) (fun _ _ _ h => h) (yield_rng Tryz.underlying33 rfl (Pf.infoF HX.out) (fun _ h => h.rgQ (n + 1) HN.out HQF.out HXJ.out) _ rfl rfl rfl) ?_
    (try simp only [Act.put, List.setIfInBounds_toArray, List.set_cons_zero, List.set_cons_succ])
    refine Draws.does 6 rfl (by kernel_rfl) rfl (fun K hK => ?_)
    refine wp_alloc_f HK.out f_zeroP rfl ?_
    intro b5 u hk; clear HK; have HK := Lib.hid hk; clear hk
    refine hK.out _ _ (fun _ => HK.out.tail) ?_
    clear hK K
    have hs : (fun u => KeepF w ((b3, 63, vals (Ho.l ⟨1, (j : Int), K, N, M⟩)) :: l) (rws qs) u) u := HK.out.tail
    clear HS
    have HS := Lib.hid hs; clear hs
    (try simp only [Act.put, List.setIfInBounds_toArray, List.set_cons_zero, List.set_cons_succ])
    refine Draws.does 7 rfl (by kernel_rfl) rfl (fun K hK => ?_)
    refine wp_store_fr HK.out 0 (Pf.infoF HX.out) (Fd.one _) rfl _ _ rfl rfl rfl rfl (Fd.leP zP_full HX.out) (Fd.setAllP zP_full HX.out) ?_
    intro u hk he; clear he; simp only [List.set_cons_zero, List.set_cons_succ] at hk; clear HK; have HK := Lib.hid hk; clear hk
    refine hK.out _ _ (fun h => absurd h (by decide)) ?_
    clear hK K
    (try simp only [Act.put, List.setIfInBounds_toArray, List.set_cons_zero, List.set_cons_succ])
    refine Draws.does 8 rfl (by kernel_rfl) rfl (fun K hK => ?_)
    go_simp
    refine hK.out _ _ (fun h => absurd h (by decide)) ?_
    clear hK K
    (try simp only [Act.put, List.setIfInBounds_toArray, List.set_cons_zero, List.set_cons_succ])
    refine Draws.done (by kernel_rfl) ?_
    clear HS
    go_wp2_with (first
      | (with_reducible refine load_fr HK.out 0 Tryz.underlying33 rfl (Pf.infoF HX.out) _ rfl rfl rfl rfl Pf.all ?_)
      | (with_reducible refine load_f1 HK.out 1 cbI _ rfl rfl rfl rfl c0 ?_)
      | (with_reducible refine load_f1 HK.out 1 cbI _ rfl rfl rfl rfl c1 ?_)
      | (with_reducible refine load_f1 HK.out 1 cbI _ rfl rfl rfl rfl c2 ?_)
      | (with_reducible refine load_f1 HK.out 1 cbI _ rfl rfl rfl rfl c3 ?_)
      | (with_reducible refine load_f1 HK.out 1 cbI _ rfl rfl rfl rfl c4 ?_)
      | (go_at_call 26; (with_reducible refine (hop _ (HK.out.rowQ HXJ.out)).mono ?_); rintro e u ⟨A1, c1', rfl, hg, hb⟩; have hk := HK.out.got hb j (rws_at HXJ.out) hg; clear hg hb; clear HK; have HK := Lib.hid hk; clear hk)
      | (with_reducible refine store_fr HK.out 0 (Pf.infoF HP.out) (Fd.one _) rfl rfl _ _ rfl rfl rfl rfl (Fd.leP HX.out HP.out) (Fd.setAllP HX.out HP.out) ?_; intro u hk; simp only [List.set_cons_zero, List.set_cons_succ] at hk; clear HK; have HK := Lib.hid hk; clear hk))
    go_ret
    exact ⟨_, qs, rfl, HQL.out, fun x hx => (HII.out x hx).later, by rw [set_same HN.out]; exact HK.out.tail.tail.rtail⟩
set_option maxHeartbeats 4000000 in
theorem step_2 (hq : qs.length = 16) (hI : ∀ x ∈ qs, Iv i t x.1) (j : Nat) (hj : j < 16) (K N M : Int) (hN : N ≤ 3000) (n : Nat) (hn : l[n]? = some (bs, 61, fcs qs)) (hk : KeepF w l (rws qs) u) :
    Calls Tryz.prog 39 #[.pointer (some ⟨bs, 0, none⟩), .agg (vals (Ho.l ⟨2, (j : Int), K, N, M⟩)).toArray] u fun e u' => ∃ E qs', e = .returned (.int .i64 E) ∧ qs'.length = 16 ∧ (∀ x ∈ qs', Iv i (t + 1) x.1) ∧ KeepF w (l.set n (bs, 61, fcs qs')) (rws qs') u' := by
  obtain ⟨px, Ax, cx, hx⟩ : ∃ (px : Pf) (Ax : Option Addr) (cx : Nat), qs[j]? = some (px, Ax, cx) := ⟨_, _, _, List.getElem?_eq_getElem (by omega)⟩
  have hIx := hI _ (List.mem_of_getElem? hx)
  have HQF := Lib.hid (show ∀ x ∈ qs, x.1.full from fun x hx => (hI x hx).full)
  have HXJ := Lib.hid hx
  have HX := Lib.hid (show px.full from hIx.full)
  have HN := Lib.hid hn
  have HJL := Lib.hid (show j < qs.length by omega)
  have HII := Lib.hid hI
  have HQL := Lib.hid hq
  have HK := Lib.hid hk
  have i1 : (0 : Int) ≤ (j : Int) := by omega
  have i2 : (j : Int) < 16 := by omega
  have n1 : decide ((j : Int) < 0) = false := by rw [decide_eq_false_iff_not]; omega
  have n2 : decide ((15 : Int) < (j : Int)) = false := by rw [decide_eq_false_iff_not]; omega
  have c0 : (vals (Ho.l ⟨2, (j : Int), K, N, M⟩))[0]? = some (.int .i64 2) := rfl
  have c1 : (vals (Ho.l ⟨2, (j : Int), K, N, M⟩))[1]? = some (.int .i64 (j : Int)) := rfl
  have c2 : (vals (Ho.l ⟨2, (j : Int), K, N, M⟩))[2]? = some (.int .i64 K) := rfl
  have c3 : (vals (Ho.l ⟨2, (j : Int), K, N, M⟩))[3]? = some (.int .i64 N) := rfl
  have c4 : (vals (Ho.l ⟨2, (j : Int), K, N, M⟩))[4]? = some (.int .i64 M) := rfl
  have hop := fun w h => freserve_any px HX.out Ax cx j N M w h
  have HP := Lib.hid (resP_full HX.out j N M)
  have hiv := show resPE px j N M = 0 → Iv i (t + 1) (resP px j N M) from fun h => hIx.res hN h
  generalize resP px j N M = P' at hop HP hiv
  generalize resPE px j N M = E' at hop hiv
  generalize resPN px j N M = N' at hop
  clear hx hIx hI hq hn hk
  by_cases hE : E' = 0
  · have HIV := Lib.hid (hiv hE)
    subst hE
    clear hiv
    go_enter Tryz.func39, Tryz.ntmps39
    go_wp2_with (first
      | (with_reducible refine box_f (cs := vals (Ho.l ⟨2, (j : Int), K, N, M⟩)) HK.out rfl _ rfl rfl ?_; intro b3 u hk; clear HK; have HK := Lib.hid hk; clear hk)
      | (with_reducible refine load_f1 HK.out 0 cbI _ rfl rfl rfl rfl c0 ?_)
      | (with_reducible refine load_f1 HK.out 0 cbI _ rfl rfl rfl rfl c1 ?_)
      | (with_reducible refine load_f1 HK.out 0 cbI _ rfl rfl rfl rfl c2 ?_)
      | (with_reducible refine load_f1 HK.out 0 cbI _ rfl rfl rfl rfl c3 ?_)
      | (with_reducible refine load_f1 HK.out 0 cbI _ rfl rfl rfl rfl c4 ?_))
    refine Draws.start (S := fun u => KeepF w ((b3, 63, vals (Ho.l ⟨2, (j : Int), K, N, M⟩)) :: l) (rws qs) u) (n := 7) 9 rfl (by kernel_rfl) ?_
    have hk := HK.out.drew
    clear HK; have HK := Lib.hid hk; clear hk
    have HS := Lib.hid (show (fun u => KeepF w ((b3, 63, vals (Ho.l ⟨2, (j : Int), K, N, M⟩)) :: l) (rws qs) u) _ from HK.out)
    refine Draws.take 0 (v := ?v25) HS.out rfl (by kernel_rfl) (fun _ _ _ h => h) (Or.inl ⟨rfl, ?h25⟩) ?r25
    case h25 => intro w' hw'; go_simp; (try with_reducible rfl)
    (try simp only [Act.put, List.setIfInBounds_toArray, List.set_cons_zero, List.set_cons_succ])
    refine Draws.take 1 (v := ?v26) HS.out rfl (by kernel_rfl) (fun _ _ _ h => h) (Or.inl ⟨rfl, ?h26⟩) ?r26
    case h26 => intro w' hw'; go_simp; (try with_reducible rfl)
    (try simp only [Act.put, List.setIfInBounds_toArray, List.set_cons_zero, List.set_cons_succ])
    refine Draws.take 2 HS.out rfl (by kernel_rfl) (fun _ _ _ h => h) (yield_c cbI (fun _ h => h.cellAt 0 rfl c1) _ rfl rfl rfl) ?_
    (try simp only [Act.put, List.setIfInBounds_toArray, List.set_cons_zero, List.set_cons_succ])
    refine Draws.take 3 (v := ?v27) HS.out rfl (by kernel_rfl) (fun _ _ _ h => h) (Or.inl ⟨rfl, ?h27⟩) ?r27
    case h27 => intro w' hw'; go_simp; (try with_reducible rfl)
    (try simp only [Act.put, List.setIfInBounds_toArray, List.set_cons_zero, List.set_cons_succ])
    refine Draws.take 4 (v := ?v28) HS.out rfl (by kernel_rfl) (fun _ _ _ h => h) (Or.inl ⟨rfl, ?h28⟩) ?r28
    case h28 => intro w' hw'; go_simp; (try with_reducible rfl)
    (try simp only [Act.put, List.setIfInBounds_toArray, List.set_cons_zero, List.set_cons_succ])
    refine Draws.take 5 HS.out rfl (by kernel_rfl) (fun _ _ _ h => h) (yield_rng Tryz.underlying33 rfl (Pf.infoF HX.out) (fun _ h => h.rgQ (n + 1) HN.out HQF.out HXJ.out) _ rfl rfl rfl) ?_
    (try simp only [Act.put, List.setIfInBounds_toArray, List.set_cons_zero, List.set_cons_succ])
    refine Draws.does 6 rfl (by kernel_rfl) rfl (fun K hK => ?_)
    refine wp_alloc_f HK.out f_zeroP rfl ?_
    intro b5 u hk; clear HK; have HK := Lib.hid hk; clear hk
    refine hK.out _ _ (fun _ => HK.out.tail) ?_
    clear hK K
    have hs : (fun u => KeepF w ((b3, 63, vals (Ho.l ⟨2, (j : Int), K, N, M⟩)) :: l) (rws qs) u) u := HK.out.tail
    clear HS
    have HS := Lib.hid hs; clear hs
    (try simp only [Act.put, List.setIfInBounds_toArray, List.set_cons_zero, List.set_cons_succ])
    refine Draws.does 7 rfl (by kernel_rfl) rfl (fun K hK => ?_)
    refine wp_store_fr HK.out 0 (Pf.infoF HX.out) (Fd.one _) rfl _ _ rfl rfl rfl rfl (Fd.leP zP_full HX.out) (Fd.setAllP zP_full HX.out) ?_
    intro u hk he; clear he; simp only [List.set_cons_zero, List.set_cons_succ] at hk; clear HK; have HK := Lib.hid hk; clear hk
    refine hK.out _ _ (fun h => absurd h (by decide)) ?_
    clear hK K
    (try simp only [Act.put, List.setIfInBounds_toArray, List.set_cons_zero, List.set_cons_succ])
    refine Draws.does 8 rfl (by kernel_rfl) rfl (fun K hK => ?_)
    go_simp
    refine hK.out _ _ (fun h => absurd h (by decide)) ?_
    clear hK K
    (try simp only [Act.put, List.setIfInBounds_toArray, List.set_cons_zero, List.set_cons_succ])
    refine Draws.done (by kernel_rfl) ?_
    clear HS
    go_wp2_with (first
      | (with_reducible refine load_fr HK.out 0 Tryz.underlying33 rfl (Pf.infoF HX.out) _ rfl rfl rfl rfl Pf.all ?_)
      | (with_reducible refine load_f1 HK.out 1 cbI _ rfl rfl rfl rfl c0 ?_)
      | (with_reducible refine load_f1 HK.out 1 cbI _ rfl rfl rfl rfl c1 ?_)
      | (with_reducible refine load_f1 HK.out 1 cbI _ rfl rfl rfl rfl c2 ?_)
      | (with_reducible refine load_f1 HK.out 1 cbI _ rfl rfl rfl rfl c3 ?_)
      | (with_reducible refine load_f1 HK.out 1 cbI _ rfl rfl rfl rfl c4 ?_)
      | (go_at_call 32; (with_reducible refine (hop _ (HK.out.rowQ HXJ.out)).mono ?_); rintro e u ⟨A1, c1', rfl, hg, hb⟩; have hk := HK.out.got hb j (rws_at HXJ.out) hg; clear hg hb; clear HK; have HK := Lib.hid hk; clear hk)
      | (with_reducible refine store_fr HK.out 0 (Pf.infoF HP.out) (Fd.one _) rfl rfl _ _ rfl rfl rfl rfl (Fd.leP HX.out HP.out) (Fd.setAllP HX.out HP.out) ?_; intro u hk; simp only [List.set_cons_zero, List.set_cons_succ] at hk; clear HK; have HK := Lib.hid hk; clear hk))
    refine Draws.start (S := fun u : World => u.cell? ⟨b3, 1, none⟩ = some (.int .i64 (j : Int)) ∧ u.rangeAt b5 0 (P'.fd A1 c1').cells) (n := 7) 7 rfl (by kernel_rfl) ?_
    have hk := HK.out.drew
    clear HK; have HK := Lib.hid hk; clear hk
    have HS := Lib.hid (show (fun u : World => u.cell? ⟨b3, 1, none⟩ = some (.int .i64 (j : Int)) ∧ u.rangeAt b5 0 (P'.fd A1 c1').cells) _ from ⟨HK.out.cellAt 1 rfl c1, Pf.rgA HK.out 0 rfl⟩)
    refine Draws.take 0 (v := ?v29) HS.out rfl (by kernel_rfl) (fun _ _ _ h => h) (Or.inl ⟨rfl, ?h29⟩) ?r29
    case h29 => intro w' hw'; go_simp; (try with_reducible rfl)
    (try simp only [Act.put, List.setIfInBounds_toArray, List.set_cons_zero, List.set_cons_succ])
    refine Draws.take 1 (v := ?v30) HS.out rfl (by kernel_rfl) (fun _ _ _ h => h) (Or.inl ⟨rfl, ?h30⟩) ?r30
    case h30 => intro w' hw'; go_simp; (try with_reducible rfl)
    (try simp only [Act.put, List.setIfInBounds_toArray, List.set_cons_zero, List.set_cons_succ])
    refine Draws.take 2 HS.out rfl (by kernel_rfl) (fun _ _ _ h => h) (yield_c cbI (fun _ h => h.1) _ rfl rfl rfl) ?_
    (try simp only [Act.put, List.setIfInBounds_toArray, List.set_cons_zero, List.set_cons_succ])
    refine Draws.take 3 HS.out rfl (by kernel_rfl) (fun _ _ _ h => h) (yield_rng Tryz.underlying33 rfl (Pf.infoF HP.out) (fun _ h => h.2) _ rfl rfl rfl) ?_
    (try simp only [Act.put, List.setIfInBounds_toArray, List.set_cons_zero, List.set_cons_succ])
    refine Draws.take 4 (v := ?v31) HS.out rfl (by kernel_rfl) (fun _ _ _ h => h) (Or.inl ⟨rfl, ?h31⟩) ?r31
    case h31 => intro w' hw'; go_simp; (try with_reducible rfl)
    (try simp only [Act.put, List.setIfInBounds_toArray, List.set_cons_zero, List.set_cons_succ])
    refine Draws.take 5 (v := ?v32) HS.out rfl (by kernel_rfl) (fun _ _ _ h => h) (Or.inl ⟨rfl, ?h32⟩) ?r32
    case h32 => intro w' hw'; go_simp; (try with_reducible rfl)
    (try simp only [Act.put, List.setIfInBounds_toArray, List.set_cons_zero, List.set_cons_succ])
    refine Draws.does 6 rfl (by kernel_rfl) rfl (fun K hK => ?_)
    refine wp_store_fr HK.out (n + 2) (Pf.infoF HP.out) (Fd.one _) rfl _ _ rfl HN.out rfl rfl (fcs_le (y := (P', A1, c1')) HQF.out HJL.out HP.out) (fcs_set (y := (P', A1, c1')) HQF.out HJL.out HP.out) ?_
    intro u hk he; clear he; simp only [List.set_cons_zero, List.set_cons_succ] at hk; clear HK; have HK := Lib.hid hk; clear hk
    refine hK.out _ _ (fun _ => ⟨HK.out.cellAt 1 rfl c1, Pf.rgA HK.out 0 rfl⟩) ?_
    clear hK K
    have hs : (fun u : World => u.cell? ⟨b3, 1, none⟩ = some (.int .i64 (j : Int)) ∧ u.rangeAt b5 0 (P'.fd A1 c1').cells) u := ⟨HK.out.cellAt 1 rfl c1, Pf.rgA HK.out 0 rfl⟩
    clear HS
    have HS := Lib.hid hs; clear hs
    (try simp only [Act.put, List.setIfInBounds_toArray, List.set_cons_zero, List.set_cons_succ])
    refine Draws.done (by kernel_rfl) ?_
    clear HS
    go_wp2
    go_ret
    exact ⟨_, _, rfl, by rw [List.length_set]; exact HQL.out, iv_set (y := (P', A1, c1')) HII.out HIV.out, HK.out.tail.tail.setQ⟩
  · have d0 : (E' == 0) = false := by simpa using hE
    clear hiv
    go_enter Tryz.func39, Tryz.ntmps39
    go_wp2_with (first
      | (with_reducible refine box_f (cs := vals (Ho.l ⟨2, (j : Int), K, N, M⟩)) HK.out rfl _ rfl rfl ?_; intro b3 u hk; clear HK; have HK := Lib.hid hk; clear hk)
      | (with_reducible refine load_f1 HK.out 0 cbI _ rfl rfl rfl rfl c0 ?_)
      | (with_reducible refine load_f1 HK.out 0 cbI _ rfl rfl rfl rfl c1 ?_)
      | (with_reducible refine load_f1 HK.out 0 cbI _ rfl rfl rfl rfl c2 ?_)
      | (with_reducible refine load_f1 HK.out 0 cbI _ rfl rfl rfl rfl c3 ?_)
      | (with_reducible refine load_f1 HK.out 0 cbI _ rfl rfl rfl rfl c4 ?_))
    refine Draws.start (S := fun u => KeepF w ((b3, 63, vals (Ho.l ⟨2, (j : Int), K, N, M⟩)) :: l) (rws qs) u) (n := 7) 9 rfl (by kernel_rfl) ?_
    have hk := HK.out.drew
    clear HK; have HK := Lib.hid hk; clear hk
    have HS := Lib.hid (show (fun u => KeepF w ((b3, 63, vals (Ho.l ⟨2, (j : Int), K, N, M⟩)) :: l) (rws qs) u) _ from HK.out)
    refine Draws.take 0 (v := ?v33) HS.out rfl (by kernel_rfl) (fun _ _ _ h => h) (Or.inl ⟨rfl, ?h33⟩) ?r33
    case h33 => intro w' hw'; go_simp; (try with_reducible rfl)
    (try simp only [Act.put, List.setIfInBounds_toArray, List.set_cons_zero, List.set_cons_succ])
    refine Draws.take 1 (v := ?v34) HS.out rfl (by kernel_rfl) (fun _ _ _ h => h) (Or.inl ⟨rfl, ?h34⟩) ?r34
    case h34 => intro w' hw'; go_simp; (try with_reducible rfl)
    (try simp only [Act.put, List.setIfInBounds_toArray, List.set_cons_zero, List.set_cons_succ])
    refine Draws.take 2 HS.out rfl (by kernel_rfl) (fun _ _ _ h => h) (yield_c cbI (fun _ h => h.cellAt 0 rfl c1) _ rfl rfl rfl) ?_
    (try simp only [Act.put, List.setIfInBounds_toArray, List.set_cons_zero, List.set_cons_succ])
    refine Draws.take 3 (v := ?v35) HS.out rfl (by kernel_rfl) (fun _ _ _ h => h) (Or.inl ⟨rfl, ?h35⟩) ?r35
    case h35 => intro w' hw'; go_simp; (try with_reducible rfl)
    (try simp only [Act.put, List.setIfInBounds_toArray, List.set_cons_zero, List.set_cons_succ])
    refine Draws.take 4 (v := ?v36) HS.out rfl (by kernel_rfl) (fun _ _ _ h => h) (Or.inl ⟨rfl, ?h36⟩) ?r36
    case h36 => intro w' hw'; go_simp; (try with_reducible rfl)
    (try simp only [Act.put, List.setIfInBounds_toArray, List.set_cons_zero, List.set_cons_succ])
    refine Draws.take 5 HS.out rfl (by kernel_rfl) (fun _ _ _ h => h) (yield_rng Tryz.underlying33 rfl (Pf.infoF HX.out) (fun _ h => h.rgQ (n + 1) HN.out HQF.out HXJ.out) _ rfl rfl rfl) ?_
    (try simp only [Act.put, List.setIfInBounds_toArray, List.set_cons_zero, List.set_cons_succ])
    refine Draws.does 6 rfl (by kernel_rfl) rfl (fun K hK => ?_)
    refine wp_alloc_f HK.out f_zeroP rfl ?_
    intro b5 u hk; clear HK; have HK := Lib.hid hk; clear hk
    refine hK.out _ _ (fun _ => HK.out.tail) ?_
    clear hK K
    have hs : (fun u => KeepF w ((b3, 63, vals (Ho.l ⟨2, (j : Int), K, N, M⟩)) :: l) (rws qs) u) u := HK.out.tail
    clear HS
    have HS := Lib.hid hs; clear hs
    (try simp only [Act.put, List.setIfInBounds_toArray, List.set_cons_zero, List.set_cons_succ])
    refine Draws.does 7 rfl (by kernel_rfl) rfl (fun K hK => ?_)
    refine wp_store_fr HK.out 0 (Pf.infoF HX.out) (Fd.one _) rfl _ _ rfl rfl rfl rfl (Fd.leP zP_full HX.out) (Fd.setAllP zP_full HX.out) ?_
    intro u hk he; clear he; simp only [List.set_cons_zero, List.set_cons_succ] at hk; clear HK; have HK := Lib.hid hk; clear hk
    refine hK.out _ _ (fun h => absurd h (by decide)) ?_
    clear hK K
    (try simp only [Act.put, List.setIfInBounds_toArray, List.set_cons_zero, List.set_cons_succ])
    refine Draws.does 8 rfl (by kernel_rfl) rfl (fun K hK => ?_)
    go_simp
    refine hK.out _ _ (fun h => absurd h (by decide)) ?_
    clear hK K
    (try simp only [Act.put, List.setIfInBounds_toArray, List.set_cons_zero, List.set_cons_succ])
    refine Draws.done (by kernel_rfl) ?_
    clear HS
    go_wp2_with (first
      | (with_reducible refine load_fr HK.out 0 Tryz.underlying33 rfl (Pf.infoF HX.out) _ rfl rfl rfl rfl Pf.all ?_)
      | (with_reducible refine load_f1 HK.out 1 cbI _ rfl rfl rfl rfl c0 ?_)
      | (with_reducible refine load_f1 HK.out 1 cbI _ rfl rfl rfl rfl c1 ?_)
      | (with_reducible refine load_f1 HK.out 1 cbI _ rfl rfl rfl rfl c2 ?_)
      | (with_reducible refine load_f1 HK.out 1 cbI _ rfl rfl rfl rfl c3 ?_)
      | (with_reducible refine load_f1 HK.out 1 cbI _ rfl rfl rfl rfl c4 ?_)
      | (go_at_call 32; (with_reducible refine (hop _ (HK.out.rowQ HXJ.out)).mono ?_); rintro e u ⟨A1, c1', rfl, hg, hb⟩; have hk := HK.out.got hb j (rws_at HXJ.out) hg; clear hg hb; clear HK; have HK := Lib.hid hk; clear hk)
      | (with_reducible refine store_fr HK.out 0 (Pf.infoF HP.out) (Fd.one _) rfl rfl _ _ rfl rfl rfl rfl (Fd.leP HX.out HP.out) (Fd.setAllP HX.out HP.out) ?_; intro u hk; simp only [List.set_cons_zero, List.set_cons_succ] at hk; clear HK; have HK := Lib.hid hk; clear hk))
    go_ret
    exact ⟨_, qs, rfl, HQL.out, fun x hx => (HII.out x hx).later, by rw [set_same HN.out]; exact HK.out.tail.tail.rtail⟩
set_option maxHeartbeats 4000000 in
theorem step_3 (hq : qs.length = 16) (hI : ∀ x ∈ qs, Iv i t x.1) (j : Nat) (hj : j < 16) (K N M : Int) (n : Nat) (hn : l[n]? = some (bs, 61, fcs qs)) (hk : KeepF w l (rws qs) u) :
    Calls Tryz.prog 39 #[.pointer (some ⟨bs, 0, none⟩), .agg (vals (Ho.l ⟨3, (j : Int), K, N, M⟩)).toArray] u fun e u' => ∃ E qs', e = .returned (.int .i64 E) ∧ qs'.length = 16 ∧ (∀ x ∈ qs', Iv i (t + 1) x.1) ∧ KeepF w (l.set n (bs, 61, fcs qs')) (rws qs') u' := by
  obtain ⟨px, Ax, cx, hx⟩ : ∃ (px : Pf) (Ax : Option Addr) (cx : Nat), qs[j]? = some (px, Ax, cx) := ⟨_, _, _, List.getElem?_eq_getElem (by omega)⟩
  have hIx := hI _ (List.mem_of_getElem? hx)
  have HQF := Lib.hid (show ∀ x ∈ qs, x.1.full from fun x hx => (hI x hx).full)
  have HXJ := Lib.hid hx
  have HX := Lib.hid (show px.full from hIx.full)
  have HN := Lib.hid hn
  have HJL := Lib.hid (show j < qs.length by omega)
  have HII := Lib.hid hI
  have HQL := Lib.hid hq
  have HK := Lib.hid hk
  have i1 : (0 : Int) ≤ (j : Int) := by omega
  have i2 : (j : Int) < 16 := by omega
  have n1 : decide ((j : Int) < 0) = false := by rw [decide_eq_false_iff_not]; omega
  have n2 : decide ((15 : Int) < (j : Int)) = false := by rw [decide_eq_false_iff_not]; omega
  have c0 : (vals (Ho.l ⟨3, (j : Int), K, N, M⟩))[0]? = some (.int .i64 3) := rfl
  have c1 : (vals (Ho.l ⟨3, (j : Int), K, N, M⟩))[1]? = some (.int .i64 (j : Int)) := rfl
  have c2 : (vals (Ho.l ⟨3, (j : Int), K, N, M⟩))[2]? = some (.int .i64 K) := rfl
  have c3 : (vals (Ho.l ⟨3, (j : Int), K, N, M⟩))[3]? = some (.int .i64 N) := rfl
  have c4 : (vals (Ho.l ⟨3, (j : Int), K, N, M⟩))[4]? = some (.int .i64 M) := rfl
  have hop := fun w h => fend_any px HX.out Ax cx j N M w h
  have HP := Lib.hid (endP_full HX.out j N M)
  have hiv := show endPE px j N M = 0 → Iv i (t + 1) (endP px j N M) from fun h => hIx.ends h
  generalize endP px j N M = P' at hop HP hiv
  generalize endPE px j N M = E' at hop hiv
  clear hx hIx hI hq hn hk
  by_cases hE : E' = 0
  · have HIV := Lib.hid (hiv hE)
    subst hE
    clear hiv
    go_enter Tryz.func39, Tryz.ntmps39
    go_wp2_with (first
      | (with_reducible refine box_f (cs := vals (Ho.l ⟨3, (j : Int), K, N, M⟩)) HK.out rfl _ rfl rfl ?_; intro b3 u hk; clear HK; have HK := Lib.hid hk; clear hk)
      | (with_reducible refine load_f1 HK.out 0 cbI _ rfl rfl rfl rfl c0 ?_)
      | (with_reducible refine load_f1 HK.out 0 cbI _ rfl rfl rfl rfl c1 ?_)
      | (with_reducible refine load_f1 HK.out 0 cbI _ rfl rfl rfl rfl c2 ?_)
      | (with_reducible refine load_f1 HK.out 0 cbI _ rfl rfl rfl rfl c3 ?_)
      | (with_reducible refine load_f1 HK.out 0 cbI _ rfl rfl rfl rfl c4 ?_))
    refine Draws.start (S := fun u => KeepF w ((b3, 63, vals (Ho.l ⟨3, (j : Int), K, N, M⟩)) :: l) (rws qs) u) (n := 7) 9 rfl (by kernel_rfl) ?_
    have hk := HK.out.drew
    clear HK; have HK := Lib.hid hk; clear hk
    have HS := Lib.hid (show (fun u => KeepF w ((b3, 63, vals (Ho.l ⟨3, (j : Int), K, N, M⟩)) :: l) (rws qs) u) _ from HK.out)
    refine Draws.take 0 (v := ?v37) HS.out rfl (by kernel_rfl) (fun _ _ _ h => h) (Or.inl ⟨rfl, ?h37⟩) ?r37
    case h37 => intro w' hw'; go_simp; (try with_reducible rfl)
    (try simp only [Act.put, List.setIfInBounds_toArray, List.set_cons_zero, List.set_cons_succ])
    refine Draws.take 1 (v := ?v38) HS.out rfl (by kernel_rfl) (fun _ _ _ h => h) (Or.inl ⟨rfl, ?h38⟩) ?r38
    case h38 => intro w' hw'; go_simp; (try with_reducible rfl)
    (try simp only [Act.put, List.setIfInBounds_toArray, List.set_cons_zero, List.set_cons_succ])
    refine Draws.take 2 HS.out rfl (by kernel_rfl) (fun _ _ _ h => h) (yield_c cbI (fun _ h => h.cellAt 0 rfl c1) _ rfl rfl rfl) ?_
    (try simp only [Act.put, List.setIfInBounds_toArray, List.set_cons_zero, List.set_cons_succ])
    refine Draws.take 3 (v := ?v39) HS.out rfl (by kernel_rfl) (fun _ _ _ h => h) (Or.inl ⟨rfl, ?h39⟩) ?r39
    case h39 => intro w' hw'; go_simp; (try with_reducible rfl)
    (try simp only [Act.put, List.setIfInBounds_toArray, List.set_cons_zero, List.set_cons_succ])
    refine Draws.take 4 (v := ?v40) HS.out rfl (by kernel_rfl) (fun _ _ _ h => h) (Or.inl ⟨rfl, ?h40⟩) ?r40
    case h40 => intro w' hw'; go_simp; (try with_reducible rfl)
    (try simp only [Act.put, List.setIfInBounds_toArray, List.set_cons_zero, List.set_cons_succ])
    refine Draws.take 5 HS.out rfl (by kernel_rfl) (fun _ _ _ h => h) (yield_rng Tryz.underlying33 rfl (Pf.infoF HX.out) (fun _ h => h.rgQ (n + 1) HN.out HQF.out HXJ.out) _ rfl rfl rfl) ?_
    (try simp only [Act.put, List.setIfInBounds_toArray, List.set_cons_zero, List.set_cons_succ])
    refine Draws.does 6 rfl (by kernel_rfl) rfl (fun K hK => ?_)
    refine wp_alloc_f HK.out f_zeroP rfl ?_
    intro b5 u hk; clear HK; have HK := Lib.hid hk; clear hk
    refine hK.out _ _ (fun _ => HK.out.tail) ?_
    clear hK K
    have hs : (fun u => KeepF w ((b3, 63, vals (Ho.l ⟨3, (j : Int), K, N, M⟩)) :: l) (rws qs) u) u := HK.out.tail
    clear HS
    have HS := Lib.hid hs; clear hs
    (try simp only [Act.put, List.setIfInBounds_toArray, List.set_cons_zero, List.set_cons_succ])
    refine Draws.does 7 rfl (by kernel_rfl) rfl (fun K hK => ?_)
    refine wp_store_fr HK.out 0 (Pf.infoF HX.out) (Fd.one _) rfl _ _ rfl rfl rfl rfl (Fd.leP zP_full HX.out) (Fd.setAllP zP_full HX.out) ?_
    intro u hk he; clear he; simp only [List.set_cons_zero, List.set_cons_succ] at hk; clear HK; have HK := Lib.hid hk; clear hk
    refine hK.out _ _ (fun h => absurd h (by decide)) ?_
    clear hK K
    (try simp only [Act.put, List.setIfInBounds_toArray, List.set_cons_zero, List.set_cons_succ])
    refine Draws.does 8 rfl (by kernel_rfl) rfl (fun K hK => ?_)
    go_simp
    refine hK.out _ _ (fun h => absurd h (by decide)) ?_
    clear hK K
    (try simp only [Act.put, List.setIfInBounds_toArray, List.set_cons_zero, List.set_cons_succ])
    refine Draws.done (by kernel_rfl) ?_
    clear HS
    go_wp2_with (first
      | (with_reducible refine load_fr HK.out 0 Tryz.underlying33 rfl (Pf.infoF HX.out) _ rfl rfl rfl rfl Pf.all ?_)
      | (with_reducible refine load_f1 HK.out 1 cbI _ rfl rfl rfl rfl c0 ?_)
      | (with_reducible refine load_f1 HK.out 1 cbI _ rfl rfl rfl rfl c1 ?_)
      | (with_reducible refine load_f1 HK.out 1 cbI _ rfl rfl rfl rfl c2 ?_)
      | (with_reducible refine load_f1 HK.out 1 cbI _ rfl rfl rfl rfl c3 ?_)
      | (with_reducible refine load_f1 HK.out 1 cbI _ rfl rfl rfl rfl c4 ?_)
      | (go_at_call 34; (with_reducible refine (hop _ (HK.out.rowQ HXJ.out)).mono ?_); rintro e u ⟨A1, c1', rfl, hg, hb⟩; have hk := HK.out.got hb j (rws_at HXJ.out) hg; clear hg hb; clear HK; have HK := Lib.hid hk; clear hk)
      | (with_reducible refine store_fr HK.out 0 (Pf.infoF HP.out) (Fd.one _) rfl rfl _ _ rfl rfl rfl rfl (Fd.leP HX.out HP.out) (Fd.setAllP HX.out HP.out) ?_; intro u hk; simp only [List.set_cons_zero, List.set_cons_succ] at hk; clear HK; have HK := Lib.hid hk; clear hk))
    refine Draws.start (S := fun u : World => u.cell? ⟨b3, 1, none⟩ = some (.int .i64 (j : Int)) ∧ u.rangeAt b5 0 (P'.fd A1 c1').cells) (n := 7) 7 rfl (by kernel_rfl) ?_
    have hk := HK.out.drew
    clear HK; have HK := Lib.hid hk; clear hk
    have HS := Lib.hid (show (fun u : World => u.cell? ⟨b3, 1, none⟩ = some (.int .i64 (j : Int)) ∧ u.rangeAt b5 0 (P'.fd A1 c1').cells) _ from ⟨HK.out.cellAt 1 rfl c1, Pf.rgA HK.out 0 rfl⟩)
    refine Draws.take 0 (v := ?v41) HS.out rfl (by kernel_rfl) (fun _ _ _ h => h) (Or.inl ⟨rfl, ?h41⟩) ?r41
    case h41 => intro w' hw'; go_simp; (try with_reducible rfl)
    (try simp only [Act.put, List.setIfInBounds_toArray, List.set_cons_zero, List.set_cons_succ])
    refine Draws.take 1 (v := ?v42) HS.out rfl (by kernel_rfl) (fun _ _ _ h => h) (Or.inl ⟨rfl, ?h42⟩) ?r42
    case h42 => intro w' hw'; go_simp; (try with_reducible rfl)
    (try simp only [Act.put, List.setIfInBounds_toArray, List.set_cons_zero, List.set_cons_succ])
    refine Draws.take 2 HS.out rfl (by kernel_rfl) (fun _ _ _ h => h) (yield_c cbI (fun _ h => h.1) _ rfl rfl rfl) ?_
    (try simp only [Act.put, List.setIfInBounds_toArray, List.set_cons_zero, List.set_cons_succ])
    refine Draws.take 3 HS.out rfl (by kernel_rfl) (fun _ _ _ h => h) (yield_rng Tryz.underlying33 rfl (Pf.infoF HP.out) (fun _ h => h.2) _ rfl rfl rfl) ?_
    (try simp only [Act.put, List.setIfInBounds_toArray, List.set_cons_zero, List.set_cons_succ])
    refine Draws.take 4 (v := ?v43) HS.out rfl (by kernel_rfl) (fun _ _ _ h => h) (Or.inl ⟨rfl, ?h43⟩) ?r43
    case h43 => intro w' hw'; go_simp; (try with_reducible rfl)
    (try simp only [Act.put, List.setIfInBounds_toArray, List.set_cons_zero, List.set_cons_succ])
    refine Draws.take 5 (v := ?v44) HS.out rfl (by kernel_rfl) (fun _ _ _ h => h) (Or.inl ⟨rfl, ?h44⟩) ?r44
    case h44 => intro w' hw'; go_simp; (try with_reducible rfl)
    (try simp only [Act.put, List.setIfInBounds_toArray, List.set_cons_zero, List.set_cons_succ])
    refine Draws.does 6 rfl (by kernel_rfl) rfl (fun K hK => ?_)
    refine wp_store_fr HK.out (n + 2) (Pf.infoF HP.out) (Fd.one _) rfl _ _ rfl HN.out rfl rfl (fcs_le (y := (P', A1, c1')) HQF.out HJL.out HP.out) (fcs_set (y := (P', A1, c1')) HQF.out HJL.out HP.out) ?_
    intro u hk he; clear he; simp only [List.set_cons_zero, List.set_cons_succ] at hk; clear HK; have HK := Lib.hid hk; clear hk
    refine hK.out _ _ (fun _ => ⟨HK.out.cellAt 1 rfl c1, Pf.rgA HK.out 0 rfl⟩) ?_
    clear hK K
    have hs : (fun u : World => u.cell? ⟨b3, 1, none⟩ = some (.int .i64 (j : Int)) ∧ u.rangeAt b5 0 (P'.fd A1 c1').cells) u := ⟨HK.out.cellAt 1 rfl c1, Pf.rgA HK.out 0 rfl⟩
    clear HS
    have HS := Lib.hid hs; clear hs
    (try simp only [Act.put, List.setIfInBounds_toArray, List.set_cons_zero, List.set_cons_succ])
    refine Draws.done (by kernel_rfl) ?_
    clear HS
    go_wp2
    go_ret
    exact ⟨_, _, rfl, by rw [List.length_set]; exact HQL.out, iv_set (y := (P', A1, c1')) HII.out HIV.out, HK.out.tail.tail.setQ⟩
  · have d0 : (E' == 0) = false := by simpa using hE
    clear hiv
    go_enter Tryz.func39, Tryz.ntmps39
    go_wp2_with (first
      | (with_reducible refine box_f (cs := vals (Ho.l ⟨3, (j : Int), K, N, M⟩)) HK.out rfl _ rfl rfl ?_; intro b3 u hk; clear HK; have HK := Lib.hid hk; clear hk)
      | (with_reducible refine load_f1 HK.out 0 cbI _ rfl rfl rfl rfl c0 ?_)
      | (with_reducible refine load_f1 HK.out 0 cbI _ rfl rfl rfl rfl c1 ?_)
      | (with_reducible refine load_f1 HK.out 0 cbI _ rfl rfl rfl rfl c2 ?_)
      | (with_reducible refine load_f1 HK.out 0 cbI _ rfl rfl rfl rfl c3 ?_)
      | (with_reducible refine load_f1 HK.out 0 cbI _ rfl rfl rfl rfl c4 ?_))
    refine Draws.start (S := fun u => KeepF w ((b3, 63, vals (Ho.l ⟨3, (j : Int), K, N, M⟩)) :: l) (rws qs) u) (n := 7) 9 rfl (by kernel_rfl) ?_
    have hk := HK.out.drew
    clear HK; have HK := Lib.hid hk; clear hk
    have HS := Lib.hid (show (fun u => KeepF w ((b3, 63, vals (Ho.l ⟨3, (j : Int), K, N, M⟩)) :: l) (rws qs) u) _ from HK.out)
    refine Draws.take 0 (v := ?v45) HS.out rfl (by kernel_rfl) (fun _ _ _ h => h) (Or.inl ⟨rfl, ?h45⟩) ?r45
    case h45 => intro w' hw'; go_simp; (try with_reducible rfl)
    (try simp only [Act.put, List.setIfInBounds_toArray, List.set_cons_zero, List.set_cons_succ])
    refine Draws.take 1 (v := ?v46) HS.out rfl (by kernel_rfl) (fun _ _ _ h => h) (Or.inl ⟨rfl, ?h46⟩) ?r46
    case h46 => intro w' hw'; go_simp; (try with_reducible rfl)
    (try simp only [Act.put, List.setIfInBounds_toArray, List.set_cons_zero, List.set_cons_succ])
    refine Draws.take 2 HS.out rfl (by kernel_rfl) (fun _ _ _ h => h) (yield_c cbI (fun _ h => h.cellAt 0 rfl c1) _ rfl rfl rfl) ?_
    (try simp only [Act.put, List.setIfInBounds_toArray, List.set_cons_zero, List.set_cons_succ])
    refine Draws.take 3 (v := ?v47) HS.out rfl (by kernel_rfl) (fun _ _ _ h => h) (Or.inl ⟨rfl, ?h47⟩) ?r47
    case h47 => intro w' hw'; go_simp; (try with_reducible rfl)
    (try simp only [Act.put, List.setIfInBounds_toArray, List.set_cons_zero, List.set_cons_succ])
    refine Draws.take 4 (v := ?v48) HS.out rfl (by kernel_rfl) (fun _ _ _ h => h) (Or.inl ⟨rfl, ?h48⟩) ?r48
    case h48 => intro w' hw'; go_simp; (try with_reducible rfl)
    (try simp only [Act.put, List.setIfInBounds_toArray, List.set_cons_zero, List.set_cons_succ])
    refine Draws.take 5 HS.out rfl (by kernel_rfl) (fun _ _ _ h => h) (yield_rng Tryz.underlying33 rfl (Pf.infoF HX.out) (fun _ h => h.rgQ (n + 1) HN.out HQF.out HXJ.out) _ rfl rfl rfl) ?_
    (try simp only [Act.put, List.setIfInBounds_toArray, List.set_cons_zero, List.set_cons_succ])
    refine Draws.does 6 rfl (by kernel_rfl) rfl (fun K hK => ?_)
    refine wp_alloc_f HK.out f_zeroP rfl ?_
    intro b5 u hk; clear HK; have HK := Lib.hid hk; clear hk
    refine hK.out _ _ (fun _ => HK.out.tail) ?_
    clear hK K
    have hs : (fun u => KeepF w ((b3, 63, vals (Ho.l ⟨3, (j : Int), K, N, M⟩)) :: l) (rws qs) u) u := HK.out.tail
    clear HS
    have HS := Lib.hid hs; clear hs
    (try simp only [Act.put, List.setIfInBounds_toArray, List.set_cons_zero, List.set_cons_succ])
    refine Draws.does 7 rfl (by kernel_rfl) rfl (fun K hK => ?_)
    refine wp_store_fr HK.out 0 (Pf.infoF HX.out) (Fd.one _) rfl _ _ rfl rfl rfl rfl (Fd.leP zP_full HX.out) (Fd.setAllP zP_full HX.out) ?_
    intro u hk he; clear he; simp only [List.set_cons_zero, List.set_cons_succ] at hk; clear HK; have HK := Lib.hid hk; clear hk
    refine hK.out _ _ (fun h => absurd h (by decide)) ?_
    clear hK K
    (try simp only [Act.put, List.setIfInBounds_toArray, List.set_cons_zero, List.set_cons_succ])
    refine Draws.does 8 rfl (by kernel_rfl) rfl (fun K hK => ?_)
    go_simp
    refine hK.out _ _ (fun h => absurd h (by decide)) ?_
    clear hK K
    (try simp only [Act.put, List.setIfInBounds_toArray, List.set_cons_zero, List.set_cons_succ])
    refine Draws.done (by kernel_rfl) ?_
    clear HS
    go_wp2_with (first
      | (with_reducible refine load_fr HK.out 0 Tryz.underlying33 rfl (Pf.infoF HX.out) _ rfl rfl rfl rfl Pf.all ?_)
      | (with_reducible refine load_f1 HK.out 1 cbI _ rfl rfl rfl rfl c0 ?_)
      | (with_reducible refine load_f1 HK.out 1 cbI _ rfl rfl rfl rfl c1 ?_)
      | (with_reducible refine load_f1 HK.out 1 cbI _ rfl rfl rfl rfl c2 ?_)
      | (with_reducible refine load_f1 HK.out 1 cbI _ rfl rfl rfl rfl c3 ?_)
      | (with_reducible refine load_f1 HK.out 1 cbI _ rfl rfl rfl rfl c4 ?_)
      | (go_at_call 34; (with_reducible refine (hop _ (HK.out.rowQ HXJ.out)).mono ?_); rintro e u ⟨A1, c1', rfl, hg, hb⟩; have hk := HK.out.got hb j (rws_at HXJ.out) hg; clear hg hb; clear HK; have HK := Lib.hid hk; clear hk)
      | (with_reducible refine store_fr HK.out 0 (Pf.infoF HP.out) (Fd.one _) rfl rfl _ _ rfl rfl rfl rfl (Fd.leP HX.out HP.out) (Fd.setAllP HX.out HP.out) ?_; intro u hk; simp only [List.set_cons_zero, List.set_cons_succ] at hk; clear HK; have HK := Lib.hid hk; clear hk))
    go_ret
    exact ⟨_, qs, rfl, HQL.out, fun x hx => (HII.out x hx).later, by rw [set_same HN.out]; exact HK.out.tail.tail.rtail⟩
set_option maxHeartbeats 4000000 in
theorem step_4 (hq : qs.length = 16) (hI : ∀ x ∈ qs, Iv i t x.1) (j : Nat) (hj : j < 16) (K N M : Int) (n : Nat) (hn : l[n]? = some (bs, 61, fcs qs)) (hk : KeepF w l (rws qs) u) :
    Calls Tryz.prog 39 #[.pointer (some ⟨bs, 0, none⟩), .agg (vals (Ho.l ⟨4, (j : Int), K, N, M⟩)).toArray] u fun e u' => ∃ E qs', e = .returned (.int .i64 E) ∧ qs'.length = 16 ∧ (∀ x ∈ qs', Iv i (t + 1) x.1) ∧ KeepF w (l.set n (bs, 61, fcs qs')) (rws qs') u' := by
  obtain ⟨px, Ax, cx, hx⟩ : ∃ (px : Pf) (Ax : Option Addr) (cx : Nat), qs[j]? = some (px, Ax, cx) := ⟨_, _, _, List.getElem?_eq_getElem (by omega)⟩
  have hIx := hI _ (List.mem_of_getElem? hx)
  have HQF := Lib.hid (show ∀ x ∈ qs, x.1.full from fun x hx => (hI x hx).full)
  have HXJ := Lib.hid hx
  have HX := Lib.hid (show px.full from hIx.full)
  have HN := Lib.hid hn
  have HJL := Lib.hid (show j < qs.length by omega)
  have HII := Lib.hid hI
  have HQL := Lib.hid hq
  have HK := Lib.hid hk
  have i1 : (0 : Int) ≤ (j : Int) := by omega
  have i2 : (j : Int) < 16 := by omega
  have n1 : decide ((j : Int) < 0) = false := by rw [decide_eq_false_iff_not]; omega
  have n2 : decide ((15 : Int) < (j : Int)) = false := by rw [decide_eq_false_iff_not]; omega
  have c0 : (vals (Ho.l ⟨4, (j : Int), K, N, M⟩))[0]? = some (.int .i64 4) := rfl
  have c1 : (vals (Ho.l ⟨4, (j : Int), K, N, M⟩))[1]? = some (.int .i64 (j : Int)) := rfl
  have c2 : (vals (Ho.l ⟨4, (j : Int), K, N, M⟩))[2]? = some (.int .i64 K) := rfl
  have c3 : (vals (Ho.l ⟨4, (j : Int), K, N, M⟩))[3]? = some (.int .i64 N) := rfl
  have c4 : (vals (Ho.l ⟨4, (j : Int), K, N, M⟩))[4]? = some (.int .i64 M) := rfl
  have hop := fun w h => fexpire_any px HX.out Ax cx j M w h
  have HP := Lib.hid (expP_full HX.out j M)
  have HIV := Lib.hid (show Iv i (t + 1) (expP px j M) from hIx.exp j M)
  generalize expP px j M = P' at hop HP HIV
  generalize expPN px j M = N' at hop
  clear hx hIx hI hq hn hk
  go_enter Tryz.func39, Tryz.ntmps39
  go_wp2_with (first
    | (with_reducible refine box_f (cs := vals (Ho.l ⟨4, (j : Int), K, N, M⟩)) HK.out rfl _ rfl rfl ?_; intro b3 u hk; clear HK; have HK := Lib.hid hk; clear hk)
    | (with_reducible refine load_f1 HK.out 0 cbI _ rfl rfl rfl rfl c0 ?_)
    | (with_reducible refine load_f1 HK.out 0 cbI _ rfl rfl rfl rfl c1 ?_)
    | (with_reducible refine load_f1 HK.out 0 cbI _ rfl rfl rfl rfl c2 ?_)
    | (with_reducible refine load_f1 HK.out 0 cbI _ rfl rfl rfl rfl c3 ?_)
    | (with_reducible refine load_f1 HK.out 0 cbI _ rfl rfl rfl rfl c4 ?_))
  refine Draws.start (S := fun u => KeepF w ((b3, 63, vals (Ho.l ⟨4, (j : Int), K, N, M⟩)) :: l) (rws qs) u) (n := 7) 9 rfl (by kernel_rfl) ?_
  have hk := HK.out.drew
  clear HK; have HK := Lib.hid hk; clear hk
  have HS := Lib.hid (show (fun u => KeepF w ((b3, 63, vals (Ho.l ⟨4, (j : Int), K, N, M⟩)) :: l) (rws qs) u) _ from HK.out)
  refine Draws.take 0 (v := ?v49) HS.out rfl (by kernel_rfl) (fun _ _ _ h => h) (Or.inl ⟨rfl, ?h49⟩) ?r49
  case h49 => intro w' hw'; go_simp; (try with_reducible rfl)
  (try simp only [Act.put, List.setIfInBounds_toArray, List.set_cons_zero, List.set_cons_succ])
  refine Draws.take 1 (v := ?v50) HS.out rfl (by kernel_rfl) (fun _ _ _ h => h) (Or.inl ⟨rfl, ?h50⟩) ?r50
  case h50 => intro w' hw'; go_simp; (try with_reducible rfl)
  (try simp only [Act.put, List.setIfInBounds_toArray, List.set_cons_zero, List.set_cons_succ])
  refine Draws.take 2 HS.out rfl (by kernel_rfl) (fun _ _ _ h => h) (yield_c cbI (fun _ h => h.cellAt 0 rfl c1) _ rfl rfl rfl) ?_
  (try simp only [Act.put, List.setIfInBounds_toArray, List.set_cons_zero, List.set_cons_succ])
  refine Draws.take 3 (v := ?v51) HS.out rfl (by kernel_rfl) (fun _ _ _ h => h) (Or.inl ⟨rfl, ?h51⟩) ?r51
  case h51 => intro w' hw'; go_simp; (try with_reducible rfl)
  (try simp only [Act.put, List.setIfInBounds_toArray, List.set_cons_zero, List.set_cons_succ])
  refine Draws.take 4 (v := ?v52) HS.out rfl (by kernel_rfl) (fun _ _ _ h => h) (Or.inl ⟨rfl, ?h52⟩) ?r52
  case h52 => intro w' hw'; go_simp; (try with_reducible rfl)
  (try simp only [Act.put, List.setIfInBounds_toArray, List.set_cons_zero, List.set_cons_succ])
  refine Draws.take 5 HS.out rfl (by kernel_rfl) (fun _ _ _ h => h) (yield_rng Tryz.underlying33 rfl (Pf.infoF HX.out) (fun _ h => h.rgQ (n + 1) HN.out HQF.out HXJ.out) _ rfl rfl rfl) ?_
  (try simp only [Act.put, List.setIfInBounds_toArray, List.set_cons_zero, List.set_cons_succ])
  refine Draws.does 6 rfl (by kernel_rfl) rfl (fun K hK => ?_)
  refine wp_alloc_f HK.out f_zeroP rfl ?_
  intro b5 u hk; clear HK; have HK := Lib.hid hk; clear hk
  refine hK.out _ _ (fun _ => HK.out.tail) ?_
  clear hK K
  have hs : (fun u => KeepF w ((b3, 63, vals (Ho.l ⟨4, (j : Int), K, N, M⟩)) :: l) (rws qs) u) u := HK.out.tail
  clear HS
  have HS := Lib.hid hs; clear hs
  (try simp only [Act.put, List.setIfInBounds_toArray, List.set_cons_zero, List.set_cons_succ])
  refine Draws.does 7 rfl (by kernel_rfl) rfl (fun K hK => ?_)
  refine wp_store_fr HK.out 0 (Pf.infoF HX.out) (Fd.one _) rfl _ _ rfl rfl rfl rfl (Fd.leP zP_full HX.out) (Fd.setAllP zP_full HX.out) ?_
  intro u hk he; clear he; simp only [List.set_cons_zero, List.set_cons_succ] at hk; clear HK; have HK := Lib.hid hk; clear hk
  refine hK.out _ _ (fun h => absurd h (by decide)) ?_
  clear hK K
  (try simp only [Act.put, List.setIfInBounds_toArray, List.set_cons_zero, List.set_cons_succ])
  refine Draws.does 8 rfl (by kernel_rfl) rfl (fun K hK => ?_)
  go_simp
  refine hK.out _ _ (fun h => absurd h (by decide)) ?_
  clear hK K
  (try simp only [Act.put, List.setIfInBounds_toArray, List.set_cons_zero, List.set_cons_succ])
  refine Draws.done (by kernel_rfl) ?_
  clear HS
  go_wp2_with (first
    | (with_reducible refine load_fr HK.out 0 Tryz.underlying33 rfl (Pf.infoF HX.out) _ rfl rfl rfl rfl Pf.all ?_)
    | (with_reducible refine load_f1 HK.out 1 cbI _ rfl rfl rfl rfl c0 ?_)
    | (with_reducible refine load_f1 HK.out 1 cbI _ rfl rfl rfl rfl c1 ?_)
    | (with_reducible refine load_f1 HK.out 1 cbI _ rfl rfl rfl rfl c2 ?_)
    | (with_reducible refine load_f1 HK.out 1 cbI _ rfl rfl rfl rfl c3 ?_)
    | (with_reducible refine load_f1 HK.out 1 cbI _ rfl rfl rfl rfl c4 ?_)
    | (go_at_call 36; (with_reducible refine (hop _ (HK.out.rowQ HXJ.out)).mono ?_); rintro e u ⟨A1, c1', rfl, hg, hb⟩; have hk := HK.out.got hb j (rws_at HXJ.out) hg; clear hg hb; clear HK; have HK := Lib.hid hk; clear hk)
    | (with_reducible refine store_fr HK.out 0 (Pf.infoF HP.out) (Fd.one _) rfl rfl _ _ rfl rfl rfl rfl (Fd.leP HX.out HP.out) (Fd.setAllP HX.out HP.out) ?_; intro u hk; simp only [List.set_cons_zero, List.set_cons_succ] at hk; clear HK; have HK := Lib.hid hk; clear hk))
  refine Draws.start (S := fun u : World => u.cell? ⟨b3, 1, none⟩ = some (.int .i64 (j : Int)) ∧ u.rangeAt b5 0 (P'.fd A1 c1').cells) (n := 7) 7 rfl (by kernel_rfl) ?_
  have hk := HK.out.drew
  clear HK; have HK := Lib.hid hk; clear hk
  have HS := Lib.hid (show (fun u : World => u.cell? ⟨b3, 1, none⟩ = some (.int .i64 (j : Int)) ∧ u.rangeAt b5 0 (P'.fd A1 c1').cells) _ from ⟨HK.out.cellAt 1 rfl c1, Pf.rgA HK.out 0 rfl⟩)
  refine Draws.take 0 (v := ?v53) HS.out rfl (by kernel_rfl) (fun _ _ _ h => h) (Or.inl ⟨rfl, ?h53⟩) ?r53
  case h53 => intro w' hw'; go_simp; (try with_reducible rfl)
  (try simp only [Act.put, List.setIfInBounds_toArray, List.set_cons_zero, List.set_cons_succ])
  refine Draws.take 1 (v := ?v54) HS.out rfl (by kernel_rfl) (fun _ _ _ h => h) (Or.inl ⟨rfl, ?h54⟩) ?r54
  case h54 => intro w' hw'; go_simp; (try with_reducible rfl)
  (try simp only [Act.put, List.setIfInBounds_toArray, List.set_cons_zero, List.set_cons_succ])
  refine Draws.take 2 HS.out rfl (by kernel_rfl) (fun _ _ _ h => h) (yield_c cbI (fun _ h => h.1) _ rfl rfl rfl) ?_
  (try simp only [Act.put, List.setIfInBounds_toArray, List.set_cons_zero, List.set_cons_succ])
  refine Draws.take 3 HS.out rfl (by kernel_rfl) (fun _ _ _ h => h) (yield_rng Tryz.underlying33 rfl (Pf.infoF HP.out) (fun _ h => h.2) _ rfl rfl rfl) ?_
  (try simp only [Act.put, List.setIfInBounds_toArray, List.set_cons_zero, List.set_cons_succ])
  refine Draws.take 4 (v := ?v55) HS.out rfl (by kernel_rfl) (fun _ _ _ h => h) (Or.inl ⟨rfl, ?h55⟩) ?r55
  case h55 => intro w' hw'; go_simp; (try with_reducible rfl)
  (try simp only [Act.put, List.setIfInBounds_toArray, List.set_cons_zero, List.set_cons_succ])
  refine Draws.take 5 (v := ?v56) HS.out rfl (by kernel_rfl) (fun _ _ _ h => h) (Or.inl ⟨rfl, ?h56⟩) ?r56
  case h56 => intro w' hw'; go_simp; (try with_reducible rfl)
  (try simp only [Act.put, List.setIfInBounds_toArray, List.set_cons_zero, List.set_cons_succ])
  refine Draws.does 6 rfl (by kernel_rfl) rfl (fun K hK => ?_)
  refine wp_store_fr HK.out (n + 2) (Pf.infoF HP.out) (Fd.one _) rfl _ _ rfl HN.out rfl rfl (fcs_le (y := (P', A1, c1')) HQF.out HJL.out HP.out) (fcs_set (y := (P', A1, c1')) HQF.out HJL.out HP.out) ?_
  intro u hk he; clear he; simp only [List.set_cons_zero, List.set_cons_succ] at hk; clear HK; have HK := Lib.hid hk; clear hk
  refine hK.out _ _ (fun _ => ⟨HK.out.cellAt 1 rfl c1, Pf.rgA HK.out 0 rfl⟩) ?_
  clear hK K
  have hs : (fun u : World => u.cell? ⟨b3, 1, none⟩ = some (.int .i64 (j : Int)) ∧ u.rangeAt b5 0 (P'.fd A1 c1').cells) u := ⟨HK.out.cellAt 1 rfl c1, Pf.rgA HK.out 0 rfl⟩
  clear HS
  have HS := Lib.hid hs; clear hs
  (try simp only [Act.put, List.setIfInBounds_toArray, List.set_cons_zero, List.set_cons_succ])
  refine Draws.done (by kernel_rfl) ?_
  clear HS
  go_wp2
  go_ret
  exact ⟨_, _, rfl, by rw [List.length_set]; exact HQL.out, iv_set (y := (P', A1, c1')) HII.out HIV.out, HK.out.tail.tail.setQ⟩
set_option maxHeartbeats 4000000 in
theorem step_5 (hq : qs.length = 16) (hI : ∀ x ∈ qs, Iv i t x.1) (j : Nat) (hj : j < 16) (K N M : Int) (n : Nat) (hn : l[n]? = some (bs, 61, fcs qs)) (hk : KeepF w l (rws qs) u) :
    Calls Tryz.prog 39 #[.pointer (some ⟨bs, 0, none⟩), .agg (vals (Ho.l ⟨5, (j : Int), K, N, M⟩)).toArray] u fun e u' => ∃ E qs', e = .returned (.int .i64 E) ∧ qs'.length = 16 ∧ (∀ x ∈ qs', Iv i (t + 1) x.1) ∧ KeepF w (l.set n (bs, 61, fcs qs')) (rws qs') u' := by
  obtain ⟨px, Ax, cx, hx⟩ : ∃ (px : Pf) (Ax : Option Addr) (cx : Nat), qs[j]? = some (px, Ax, cx) := ⟨_, _, _, List.getElem?_eq_getElem (by omega)⟩
  have hIx := hI _ (List.mem_of_getElem? hx)
  have HQF := Lib.hid (show ∀ x ∈ qs, x.1.full from fun x hx => (hI x hx).full)
  have HXJ := Lib.hid hx
  have HX := Lib.hid (show px.full from hIx.full)
  have HN := Lib.hid hn
  have HJL := Lib.hid (show j < qs.length by omega)
  have HII := Lib.hid hI
  have HQL := Lib.hid hq
  have HK := Lib.hid hk
  have i1 : (0 : Int) ≤ (j : Int) := by omega
  have i2 : (j : Int) < 16 := by omega
  have n1 : decide ((j : Int) < 0) = false := by rw [decide_eq_false_iff_not]; omega
  have n2 : decide ((15 : Int) < (j : Int)) = false := by rw [decide_eq_false_iff_not]; omega
  have c0 : (vals (Ho.l ⟨5, (j : Int), K, N, M⟩))[0]? = some (.int .i64 5) := rfl
  have c1 : (vals (Ho.l ⟨5, (j : Int), K, N, M⟩))[1]? = some (.int .i64 (j : Int)) := rfl
  have c2 : (vals (Ho.l ⟨5, (j : Int), K, N, M⟩))[2]? = some (.int .i64 K) := rfl
  have c3 : (vals (Ho.l ⟨5, (j : Int), K, N, M⟩))[3]? = some (.int .i64 N) := rfl
  have c4 : (vals (Ho.l ⟨5, (j : Int), K, N, M⟩))[4]? = some (.int .i64 M) := rfl
  have hop := fun w h => fwrite_any px HX.out Ax cx j N w h
  have HP := Lib.hid (wrP_full HX.out j N)
  have hiv := show wrPE px j N = 0 → Iv i (t + 1) (wrP px j N) from fun h => by unfold wrPE at h; rw [if_neg (by rw [hIx.k]; decide)] at h; cases h
  generalize wrP px j N = P' at hop HP hiv
  generalize wrPE px j N = E' at hop hiv
  clear hx hIx hI hq hn hk
  by_cases hE : E' = 0
  · have HIV := Lib.hid (hiv hE)
    subst hE
    clear hiv
    go_enter Tryz.func39, Tryz.ntmps39
    go_wp2_with (first
      | (with_reducible refine box_f (cs := vals (Ho.l ⟨5, (j : Int), K, N, M⟩)) HK.out rfl _ rfl rfl ?_; intro b3 u hk; clear HK; have HK := Lib.hid hk; clear hk)
      | (with_reducible refine load_f1 HK.out 0 cbI _ rfl rfl rfl rfl c0 ?_)
      | (with_reducible refine load_f1 HK.out 0 cbI _ rfl rfl rfl rfl c1 ?_)
      | (with_reducible refine load_f1 HK.out 0 cbI _ rfl rfl rfl rfl c2 ?_)
      | (with_reducible refine load_f1 HK.out 0 cbI _ rfl rfl rfl rfl c3 ?_)
      | (with_reducible refine load_f1 HK.out 0 cbI _ rfl rfl rfl rfl c4 ?_))
    refine Draws.start (S := fun u => KeepF w ((b3, 63, vals (Ho.l ⟨5, (j : Int), K, N, M⟩)) :: l) (rws qs) u) (n := 7) 9 rfl (by kernel_rfl) ?_
    have hk := HK.out.drew
    clear HK; have HK := Lib.hid hk; clear hk
    have HS := Lib.hid (show (fun u => KeepF w ((b3, 63, vals (Ho.l ⟨5, (j : Int), K, N, M⟩)) :: l) (rws qs) u) _ from HK.out)
    refine Draws.take 0 (v := ?v57) HS.out rfl (by kernel_rfl) (fun _ _ _ h => h) (Or.inl ⟨rfl, ?h57⟩) ?r57
    case h57 => intro w' hw'; go_simp; (try with_reducible rfl)
    (try simp only [Act.put, List.setIfInBounds_toArray, List.set_cons_zero, List.set_cons_succ])
    refine Draws.take 1 (v := ?v58) HS.out rfl (by kernel_rfl) (fun _ _ _ h => h) (Or.inl ⟨rfl, ?h58⟩) ?r58
    case h58 => intro w' hw'; go_simp; (try with_reducible rfl)
    (try simp only [Act.put, List.setIfInBounds_toArray, List.set_cons_zero, List.set_cons_succ])
    refine Draws.take 2 HS.out rfl (by kernel_rfl) (fun _ _ _ h => h) (yield_c cbI (fun _ h => h.cellAt 0 rfl c1) _ rfl rfl rfl) ?_
    (try simp only [Act.put, List.setIfInBounds_toArray, List.set_cons_zero, List.set_cons_succ])
    refine Draws.take 3 (v := ?v59) HS.out rfl (by kernel_rfl) (fun _ _ _ h => h) (Or.inl ⟨rfl, ?h59⟩) ?r59
    case h59 => intro w' hw'; go_simp; (try with_reducible rfl)
    (try simp only [Act.put, List.setIfInBounds_toArray, List.set_cons_zero, List.set_cons_succ])
    refine Draws.take 4 (v := ?v60) HS.out rfl (by kernel_rfl) (fun _ _ _ h => h) (Or.inl ⟨rfl, ?h60⟩) ?r60
    case h60 => intro w' hw'; go_simp; (try with_reducible rfl)
    (try simp only [Act.put, List.setIfInBounds_toArray, List.set_cons_zero, List.set_cons_succ])
    refine Draws.take 5 HS.out rfl (by kernel_rfl) (fun _ _ _ h => h) (yield_rng Tryz.underlying33 rfl (Pf.infoF HX.out) (fun _ h => h.rgQ (n + 1) HN.out HQF.out HXJ.out) _ rfl rfl rfl) ?_
    (try simp only [Act.put, List.setIfInBounds_toArray, List.set_cons_zero, List.set_cons_succ])
    refine Draws.does 6 rfl (by kernel_rfl) rfl (fun K hK => ?_)
    refine wp_alloc_f HK.out f_zeroP rfl ?_
    intro b5 u hk; clear HK; have HK := Lib.hid hk; clear hk
    refine hK.out _ _ (fun _ => HK.out.tail) ?_
    clear hK K
    have hs : (fun u => KeepF w ((b3, 63, vals (Ho.l ⟨5, (j : Int), K, N, M⟩)) :: l) (rws qs) u) u := HK.out.tail
    clear HS
    have HS := Lib.hid hs; clear hs
    (try simp only [Act.put, List.setIfInBounds_toArray, List.set_cons_zero, List.set_cons_succ])
    refine Draws.does 7 rfl (by kernel_rfl) rfl (fun K hK => ?_)
    refine wp_store_fr HK.out 0 (Pf.infoF HX.out) (Fd.one _) rfl _ _ rfl rfl rfl rfl (Fd.leP zP_full HX.out) (Fd.setAllP zP_full HX.out) ?_
    intro u hk he; clear he; simp only [List.set_cons_zero, List.set_cons_succ] at hk; clear HK; have HK := Lib.hid hk; clear hk
    refine hK.out _ _ (fun h => absurd h (by decide)) ?_
    clear hK K
    (try simp only [Act.put, List.setIfInBounds_toArray, List.set_cons_zero, List.set_cons_succ])
    refine Draws.does 8 rfl (by kernel_rfl) rfl (fun K hK => ?_)
    go_simp
    refine hK.out _ _ (fun h => absurd h (by decide)) ?_
    clear hK K
    (try simp only [Act.put, List.setIfInBounds_toArray, List.set_cons_zero, List.set_cons_succ])
    refine Draws.done (by kernel_rfl) ?_
    clear HS
    go_wp2_with (first
      | (with_reducible refine load_fr HK.out 0 Tryz.underlying33 rfl (Pf.infoF HX.out) _ rfl rfl rfl rfl Pf.all ?_)
      | (with_reducible refine load_f1 HK.out 1 cbI _ rfl rfl rfl rfl c0 ?_)
      | (with_reducible refine load_f1 HK.out 1 cbI _ rfl rfl rfl rfl c1 ?_)
      | (with_reducible refine load_f1 HK.out 1 cbI _ rfl rfl rfl rfl c2 ?_)
      | (with_reducible refine load_f1 HK.out 1 cbI _ rfl rfl rfl rfl c3 ?_)
      | (with_reducible refine load_f1 HK.out 1 cbI _ rfl rfl rfl rfl c4 ?_)
      | (go_at_call 28; (with_reducible refine (hop _ (HK.out.rowQ HXJ.out)).mono ?_); rintro e u ⟨A1, c1', rfl, hg, hb⟩; have hk := HK.out.got hb j (rws_at HXJ.out) hg; clear hg hb; clear HK; have HK := Lib.hid hk; clear hk)
      | (with_reducible refine store_fr HK.out 0 (Pf.infoF HP.out) (Fd.one _) rfl rfl _ _ rfl rfl rfl rfl (Fd.leP HX.out HP.out) (Fd.setAllP HX.out HP.out) ?_; intro u hk; simp only [List.set_cons_zero, List.set_cons_succ] at hk; clear HK; have HK := Lib.hid hk; clear hk))
    refine Draws.start (S := fun u : World => u.cell? ⟨b3, 1, none⟩ = some (.int .i64 (j : Int)) ∧ u.rangeAt b5 0 (P'.fd A1 c1').cells) (n := 7) 7 rfl (by kernel_rfl) ?_
    have hk := HK.out.drew
    clear HK; have HK := Lib.hid hk; clear hk
    have HS := Lib.hid (show (fun u : World => u.cell? ⟨b3, 1, none⟩ = some (.int .i64 (j : Int)) ∧ u.rangeAt b5 0 (P'.fd A1 c1').cells) _ from ⟨HK.out.cellAt 1 rfl c1, Pf.rgA HK.out 0 rfl⟩)
    refine Draws.take 0 (v := ?v61) HS.out rfl (by kernel_rfl) (fun _ _ _ h => h) (Or.inl ⟨rfl, ?h61⟩) ?r61
    case h61 => intro w' hw'; go_simp; (try with_reducible rfl)
    (try simp only [Act.put, List.setIfInBounds_toArray, List.set_cons_zero, List.set_cons_succ])
    refine Draws.take 1 (v := ?v62) HS.out rfl (by kernel_rfl) (fun _ _ _ h => h) (Or.inl ⟨rfl, ?h62⟩) ?r62
    case h62 => intro w' hw'; go_simp; (try with_reducible rfl)
    (try simp only [Act.put, List.setIfInBounds_toArray, List.set_cons_zero, List.set_cons_succ])
    refine Draws.take 2 HS.out rfl (by kernel_rfl) (fun _ _ _ h => h) (yield_c cbI (fun _ h => h.1) _ rfl rfl rfl) ?_
    (try simp only [Act.put, List.setIfInBounds_toArray, List.set_cons_zero, List.set_cons_succ])
    refine Draws.take 3 HS.out rfl (by kernel_rfl) (fun _ _ _ h => h) (yield_rng Tryz.underlying33 rfl (Pf.infoF HP.out) (fun _ h => h.2) _ rfl rfl rfl) ?_
    (try simp only [Act.put, List.setIfInBounds_toArray, List.set_cons_zero, List.set_cons_succ])
    refine Draws.take 4 (v := ?v63) HS.out rfl (by kernel_rfl) (fun _ _ _ h => h) (Or.inl ⟨rfl, ?h63⟩) ?r63
    case h63 => intro w' hw'; go_simp; (try with_reducible rfl)
    (try simp only [Act.put, List.setIfInBounds_toArray, List.set_cons_zero, List.set_cons_succ])
    refine Draws.take 5 (v := ?v64) HS.out rfl (by kernel_rfl) (fun _ _ _ h => h) (Or.inl ⟨rfl, ?h64⟩) ?r64
    case h64 => intro w' hw'; go_simp; (try with_reducible rfl)
    (try simp only [Act.put, List.setIfInBounds_toArray, List.set_cons_zero, List.set_cons_succ])
    refine Draws.does 6 rfl (by kernel_rfl) rfl (fun K hK => ?_)
    refine wp_store_fr HK.out (n + 2) (Pf.infoF HP.out) (Fd.one _) rfl _ _ rfl HN.out rfl rfl (fcs_le (y := (P', A1, c1')) HQF.out HJL.out HP.out) (fcs_set (y := (P', A1, c1')) HQF.out HJL.out HP.out) ?_
    intro u hk he; clear he; simp only [List.set_cons_zero, List.set_cons_succ] at hk; clear HK; have HK := Lib.hid hk; clear hk
    refine hK.out _ _ (fun _ => ⟨HK.out.cellAt 1 rfl c1, Pf.rgA HK.out 0 rfl⟩) ?_
    clear hK K
    have hs : (fun u : World => u.cell? ⟨b3, 1, none⟩ = some (.int .i64 (j : Int)) ∧ u.rangeAt b5 0 (P'.fd A1 c1').cells) u := ⟨HK.out.cellAt 1 rfl c1, Pf.rgA HK.out 0 rfl⟩
    clear HS
    have HS := Lib.hid hs; clear hs
    (try simp only [Act.put, List.setIfInBounds_toArray, List.set_cons_zero, List.set_cons_succ])
    refine Draws.done (by kernel_rfl) ?_
    clear HS
    go_wp2
    go_ret
    exact ⟨_, _, rfl, by rw [List.length_set]; exact HQL.out, iv_set (y := (P', A1, c1')) HII.out HIV.out, HK.out.tail.tail.setQ⟩
  · have d0 : (E' == 0) = false := by simpa using hE
    clear hiv
    go_enter Tryz.func39, Tryz.ntmps39
    go_wp2_with (first
      | (with_reducible refine box_f (cs := vals (Ho.l ⟨5, (j : Int), K, N, M⟩)) HK.out rfl _ rfl rfl ?_; intro b3 u hk; clear HK; have HK := Lib.hid hk; clear hk)
      | (with_reducible refine load_f1 HK.out 0 cbI _ rfl rfl rfl rfl c0 ?_)
      | (with_reducible refine load_f1 HK.out 0 cbI _ rfl rfl rfl rfl c1 ?_)
      | (with_reducible refine load_f1 HK.out 0 cbI _ rfl rfl rfl rfl c2 ?_)
      | (with_reducible refine load_f1 HK.out 0 cbI _ rfl rfl rfl rfl c3 ?_)
      | (with_reducible refine load_f1 HK.out 0 cbI _ rfl rfl rfl rfl c4 ?_))
    refine Draws.start (S := fun u => KeepF w ((b3, 63, vals (Ho.l ⟨5, (j : Int), K, N, M⟩)) :: l) (rws qs) u) (n := 7) 9 rfl (by kernel_rfl) ?_
    have hk := HK.out.drew
    clear HK; have HK := Lib.hid hk; clear hk
    have HS := Lib.hid (show (fun u => KeepF w ((b3, 63, vals (Ho.l ⟨5, (j : Int), K, N, M⟩)) :: l) (rws qs) u) _ from HK.out)
    refine Draws.take 0 (v := ?v65) HS.out rfl (by kernel_rfl) (fun _ _ _ h => h) (Or.inl ⟨rfl, ?h65⟩) ?r65
    case h65 => intro w' hw'; go_simp; (try with_reducible rfl)
    (try simp only [Act.put, List.setIfInBounds_toArray, List.set_cons_zero, List.set_cons_succ])
    refine Draws.take 1 (v := ?v66) HS.out rfl (by kernel_rfl) (fun _ _ _ h => h) (Or.inl ⟨rfl, ?h66⟩) ?r66
    case h66 => intro w' hw'; go_simp; (try with_reducible rfl)
    (try simp only [Act.put, List.setIfInBounds_toArray, List.set_cons_zero, List.set_cons_succ])
    refine Draws.take 2 HS.out rfl (by kernel_rfl) (fun _ _ _ h => h) (yield_c cbI (fun _ h => h.cellAt 0 rfl c1) _ rfl rfl rfl) ?_
    (try simp only [Act.put, List.setIfInBounds_toArray, List.set_cons_zero, List.set_cons_succ])
    refine Draws.take 3 (v := ?v67) HS.out rfl (by kernel_rfl) (fun _ _ _ h => h) (Or.inl ⟨rfl, ?h67⟩) ?r67
    case h67 => intro w' hw'; go_simp; (try with_reducible rfl)
    (try simp only [Act.put, List.setIfInBounds_toArray, List.set_cons_zero, List.set_cons_succ])
    refine Draws.take 4 (v := ?v68) HS.out rfl (by kernel_rfl) (fun _ _ _ h => h) (Or.inl ⟨rfl, ?h68⟩) ?r68
    case h68 => intro w' hw'; go_simp; (try with_reducible rfl)
    (try simp only [Act.put, List.setIfInBounds_toArray, List.set_cons_zero, List.set_cons_succ])
    refine Draws.take 5 HS.out rfl (by kernel_rfl) (fun _ _ _ h => h) (yield_rng Tryz.underlying33 rfl (Pf.infoF HX.out) (fun _ h => h.rgQ (n + 1) HN.out HQF.out HXJ.out) _ rfl rfl rfl) ?_
    (try simp only [Act.put, List.setIfInBounds_toArray, List.set_cons_zero, List.set_cons_succ])
    refine Draws.does 6 rfl (by kernel_rfl) rfl (fun K hK => ?_)
    refine wp_alloc_f HK.out f_zeroP rfl ?_
    intro b5 u hk; clear HK; have HK := Lib.hid hk; clear hk
    refine hK.out _ _ (fun _ => HK.out.tail) ?_
    clear hK K
    have hs : (fun u => KeepF w ((b3, 63, vals (Ho.l ⟨5, (j : Int), K, N, M⟩)) :: l) (rws qs) u) u := HK.out.tail
    clear HS
    have HS := Lib.hid hs; clear hs
    (try simp only [Act.put, List.setIfInBounds_toArray, List.set_cons_zero, List.set_cons_succ])
    refine Draws.does 7 rfl (by kernel_rfl) rfl (fun K hK => ?_)
    refine wp_store_fr HK.out 0 (Pf.infoF HX.out) (Fd.one _) rfl _ _ rfl rfl rfl rfl (Fd.leP zP_full HX.out) (Fd.setAllP zP_full HX.out) ?_
    intro u hk he; clear he; simp only [List.set_cons_zero, List.set_cons_succ] at hk; clear HK; have HK := Lib.hid hk; clear hk
    refine hK.out _ _ (fun h => absurd h (by decide)) ?_
    clear hK K
    (try simp only [Act.put, List.setIfInBounds_toArray, List.set_cons_zero, List.set_cons_succ])
    refine Draws.does 8 rfl (by kernel_rfl) rfl (fun K hK => ?_)
    go_simp
    refine hK.out _ _ (fun h => absurd h (by decide)) ?_
    clear hK K
    (try simp only [Act.put, List.setIfInBounds_toArray, List.set_cons_zero, List.set_cons_succ])
    refine Draws.done (by kernel_rfl) ?_
    clear HS
    go_wp2_with (first
      | (with_reducible refine load_fr HK.out 0 Tryz.underlying33 rfl (Pf.infoF HX.out) _ rfl rfl rfl rfl Pf.all ?_)
      | (with_reducible refine load_f1 HK.out 1 cbI _ rfl rfl rfl rfl c0 ?_)
      | (with_reducible refine load_f1 HK.out 1 cbI _ rfl rfl rfl rfl c1 ?_)
      | (with_reducible refine load_f1 HK.out 1 cbI _ rfl rfl rfl rfl c2 ?_)
      | (with_reducible refine load_f1 HK.out 1 cbI _ rfl rfl rfl rfl c3 ?_)
      | (with_reducible refine load_f1 HK.out 1 cbI _ rfl rfl rfl rfl c4 ?_)
      | (go_at_call 28; (with_reducible refine (hop _ (HK.out.rowQ HXJ.out)).mono ?_); rintro e u ⟨A1, c1', rfl, hg, hb⟩; have hk := HK.out.got hb j (rws_at HXJ.out) hg; clear hg hb; clear HK; have HK := Lib.hid hk; clear hk)
      | (with_reducible refine store_fr HK.out 0 (Pf.infoF HP.out) (Fd.one _) rfl rfl _ _ rfl rfl rfl rfl (Fd.leP HX.out HP.out) (Fd.setAllP HX.out HP.out) ?_; intro u hk; simp only [List.set_cons_zero, List.set_cons_succ] at hk; clear HK; have HK := Lib.hid hk; clear hk))
    go_ret
    exact ⟨_, qs, rfl, HQL.out, fun x hx => (HII.out x hx).later, by rw [set_same HN.out]; exact HK.out.tail.tail.rtail⟩
set_option maxHeartbeats 4000000 in
theorem step_6 (hq : qs.length = 16) (hI : ∀ x ∈ qs, Iv i t x.1) (j : Nat) (hj : j < 16) (K N M : Int) (n : Nat) (hn : l[n]? = some (bs, 61, fcs qs)) (hk : KeepF w l (rws qs) u) :
    Calls Tryz.prog 39 #[.pointer (some ⟨bs, 0, none⟩), .agg (vals (Ho.l ⟨6, (j : Int), K, N, M⟩)).toArray] u fun e u' => ∃ E qs', e = .returned (.int .i64 E) ∧ qs'.length = 16 ∧ (∀ x ∈ qs', Iv i (t + 1) x.1) ∧ KeepF w (l.set n (bs, 61, fcs qs')) (rws qs') u' := by
  obtain ⟨px, Ax, cx, hx⟩ : ∃ (px : Pf) (Ax : Option Addr) (cx : Nat), qs[j]? = some (px, Ax, cx) := ⟨_, _, _, List.getElem?_eq_getElem (by omega)⟩
  have hIx := hI _ (List.mem_of_getElem? hx)
  have HQF := Lib.hid (show ∀ x ∈ qs, x.1.full from fun x hx => (hI x hx).full)
  have HXJ := Lib.hid hx
  have HX := Lib.hid (show px.full from hIx.full)
  have HN := Lib.hid hn
  have HJL := Lib.hid (show j < qs.length by omega)
  have HII := Lib.hid hI
  have HQL := Lib.hid hq
  have HK := Lib.hid hk
  have i1 : (0 : Int) ≤ (j : Int) := by omega
  have i2 : (j : Int) < 16 := by omega
  have n1 : decide ((j : Int) < 0) = false := by rw [decide_eq_false_iff_not]; omega
  have n2 : decide ((15 : Int) < (j : Int)) = false := by rw [decide_eq_false_iff_not]; omega
  have c0 : (vals (Ho.l ⟨6, (j : Int), K, N, M⟩))[0]? = some (.int .i64 6) := rfl
  have c1 : (vals (Ho.l ⟨6, (j : Int), K, N, M⟩))[1]? = some (.int .i64 (j : Int)) := rfl
  have c2 : (vals (Ho.l ⟨6, (j : Int), K, N, M⟩))[2]? = some (.int .i64 K) := rfl
  have c3 : (vals (Ho.l ⟨6, (j : Int), K, N, M⟩))[3]? = some (.int .i64 N) := rfl
  have c4 : (vals (Ho.l ⟨6, (j : Int), K, N, M⟩))[4]? = some (.int .i64 M) := rfl
  have hop := fun w h => fpass_any px HX.out Ax cx j K w h
  have HP := Lib.hid (psP_full HX.out j K)
  have hiv := show psPE px j K = 0 → Iv i (t + 1) (psP px j K) from fun h => by unfold psPE at h; rw [if_neg (by rw [hIx.k]; decide)] at h; cases h
  generalize psP px j K = P' at hop HP hiv
  generalize psPE px j K = E' at hop hiv
  clear hx hIx hI hq hn hk
  by_cases hE : E' = 0
  · have HIV := Lib.hid (hiv hE)
    subst hE
    clear hiv
    go_enter Tryz.func39, Tryz.ntmps39
    go_wp2_with (first
      | (with_reducible refine box_f (cs := vals (Ho.l ⟨6, (j : Int), K, N, M⟩)) HK.out rfl _ rfl rfl ?_; intro b3 u hk; clear HK; have HK := Lib.hid hk; clear hk)
      | (with_reducible refine load_f1 HK.out 0 cbI _ rfl rfl rfl rfl c0 ?_)
      | (with_reducible refine load_f1 HK.out 0 cbI _ rfl rfl rfl rfl c1 ?_)
      | (with_reducible refine load_f1 HK.out 0 cbI _ rfl rfl rfl rfl c2 ?_)
      | (with_reducible refine load_f1 HK.out 0 cbI _ rfl rfl rfl rfl c3 ?_)
      | (with_reducible refine load_f1 HK.out 0 cbI _ rfl rfl rfl rfl c4 ?_))
    refine Draws.start (S := fun u => KeepF w ((b3, 63, vals (Ho.l ⟨6, (j : Int), K, N, M⟩)) :: l) (rws qs) u) (n := 7) 9 rfl (by kernel_rfl) ?_
    have hk := HK.out.drew
    clear HK; have HK := Lib.hid hk; clear hk
    have HS := Lib.hid (show (fun u => KeepF w ((b3, 63, vals (Ho.l ⟨6, (j : Int), K, N, M⟩)) :: l) (rws qs) u) _ from HK.out)
    refine Draws.take 0 (v := ?v69) HS.out rfl (by kernel_rfl) (fun _ _ _ h => h) (Or.inl ⟨rfl, ?h69⟩) ?r69
    case h69 => intro w' hw'; go_simp; (try with_reducible rfl)
    (try simp only [Act.put, List.setIfInBounds_toArray, List.set_cons_zero, List.set_cons_succ])
    refine Draws.take 1 (v := ?v70) HS.out rfl (by kernel_rfl) (fun _ _ _ h => h) (Or.inl ⟨rfl, ?h70⟩) ?r70
    case h70 => intro w' hw'; go_simp; (try with_reducible rfl)
    (try simp only [Act.put, List.setIfInBounds_toArray, List.set_cons_zero, List.set_cons_succ])
    refine Draws.take 2 HS.out rfl (by kernel_rfl) (fun _ _ _ h => h) (yield_c cbI (fun _ h => h.cellAt 0 rfl c1) _ rfl rfl rfl) ?_
    (try simp only [Act.put, List.setIfInBounds_toArray, List.set_cons_zero, List.set_cons_succ])
    refine Draws.take 3 (v := ?v71) HS.out rfl (by kernel_rfl) (fun _ _ _ h => h) (Or.inl ⟨rfl, ?h71⟩) ?r71
    case h71 => intro w' hw'; go_simp; (try with_reducible rfl)
    (try simp only [Act.put, List.setIfInBounds_toArray, List.set_cons_zero, List.set_cons_succ])
    refine Draws.take 4 (v := ?v72) HS.out rfl (by kernel_rfl) (fun _ _ _ h => h) (Or.inl ⟨rfl, ?h72⟩) ?r72
    case h72 => intro w' hw'; go_simp; (try with_reducible rfl)
    (try simp only [Act.put, List.setIfInBounds_toArray, List.set_cons_zero, List.set_cons_succ])
    refine Draws.take 5 HS.out rfl (by kernel_rfl) (fun _ _ _ h => h) (yield_rng Tryz.underlying33 rfl (Pf.infoF HX.out) (fun _ h => h.rgQ (n + 1) HN.out HQF.out HXJ.out) _ rfl rfl rfl) ?_
    (try simp only [Act.put, List.setIfInBounds_toArray, List.set_cons_zero, List.set_cons_succ])
    refine Draws.does 6 rfl (by kernel_rfl) rfl (fun K hK => ?_)
    refine wp_alloc_f HK.out f_zeroP rfl ?_
    intro b5 u hk; clear HK; have HK := Lib.hid hk; clear hk
    refine hK.out _ _ (fun _ => HK.out.tail) ?_
    clear hK K
    have hs : (fun u => KeepF w ((b3, 63, vals (Ho.l ⟨6, (j : Int), K, N, M⟩)) :: l) (rws qs) u) u := HK.out.tail
    clear HS
    have HS := Lib.hid hs; clear hs
    (try simp only [Act.put, List.setIfInBounds_toArray, List.set_cons_zero, List.set_cons_succ])
    refine Draws.does 7 rfl (by kernel_rfl) rfl (fun K hK => ?_)
    refine wp_store_fr HK.out 0 (Pf.infoF HX.out) (Fd.one _) rfl _ _ rfl rfl rfl rfl (Fd.leP zP_full HX.out) (Fd.setAllP zP_full HX.out) ?_
    intro u hk he; clear he; simp only [List.set_cons_zero, List.set_cons_succ] at hk; clear HK; have HK := Lib.hid hk; clear hk
    refine hK.out _ _ (fun h => absurd h (by decide)) ?_
    clear hK K
    (try simp only [Act.put, List.setIfInBounds_toArray, List.set_cons_zero, List.set_cons_succ])
    refine Draws.does 8 rfl (by kernel_rfl) rfl (fun K hK => ?_)
    go_simp
    refine hK.out _ _ (fun h => absurd h (by decide)) ?_
    clear hK K
    (try simp only [Act.put, List.setIfInBounds_toArray, List.set_cons_zero, List.set_cons_succ])
    refine Draws.done (by kernel_rfl) ?_
    clear HS
    go_wp2_with (first
      | (with_reducible refine load_fr HK.out 0 Tryz.underlying33 rfl (Pf.infoF HX.out) _ rfl rfl rfl rfl Pf.all ?_)
      | (with_reducible refine load_f1 HK.out 1 cbI _ rfl rfl rfl rfl c0 ?_)
      | (with_reducible refine load_f1 HK.out 1 cbI _ rfl rfl rfl rfl c1 ?_)
      | (with_reducible refine load_f1 HK.out 1 cbI _ rfl rfl rfl rfl c2 ?_)
      | (with_reducible refine load_f1 HK.out 1 cbI _ rfl rfl rfl rfl c3 ?_)
      | (with_reducible refine load_f1 HK.out 1 cbI _ rfl rfl rfl rfl c4 ?_)
      | (go_at_call 30; (with_reducible refine (hop _ (HK.out.rowQ HXJ.out)).mono ?_); rintro e u ⟨A1, c1', rfl, hg, hb⟩; have hk := HK.out.got hb j (rws_at HXJ.out) hg; clear hg hb; clear HK; have HK := Lib.hid hk; clear hk)
      | (with_reducible refine store_fr HK.out 0 (Pf.infoF HP.out) (Fd.one _) rfl rfl _ _ rfl rfl rfl rfl (Fd.leP HX.out HP.out) (Fd.setAllP HX.out HP.out) ?_; intro u hk; simp only [List.set_cons_zero, List.set_cons_succ] at hk; clear HK; have HK := Lib.hid hk; clear hk))
    refine Draws.start (S := fun u : World => u.cell? ⟨b3, 1, none⟩ = some (.int .i64 (j : Int)) ∧ u.rangeAt b5 0 (P'.fd A1 c1').cells) (n := 7) 7 rfl (by kernel_rfl) ?_
    have hk := HK.out.drew
    clear HK; have HK := Lib.hid hk; clear hk
    have HS := Lib.hid (show (fun u : World => u.cell? ⟨b3, 1, none⟩ = some (.int .i64 (j : Int)) ∧ u.rangeAt b5 0 (P'.fd A1 c1').cells) _ from ⟨HK.out.cellAt 1 rfl c1, Pf.rgA HK.out 0 rfl⟩)
    refine Draws.take 0 (v := ?v73) HS.out rfl (by kernel_rfl) (fun _ _ _ h => h) (Or.inl ⟨rfl, ?h73⟩) ?r73
    case h73 => intro w' hw'; go_simp; (try with_reducible rfl)
    (try simp only [Act.put, List.setIfInBounds_toArray, List.set_cons_zero, List.set_cons_succ])
    refine Draws.take 1 (v := ?v74) HS.out rfl (by kernel_rfl) (fun _ _ _ h => h) (Or.inl ⟨rfl, ?h74⟩) ?r74
    case h74 => intro w' hw'; go_simp; (try with_reducible rfl)
    (try simp only [Act.put, List.setIfInBounds_toArray, List.set_cons_zero, List.set_cons_succ])
    refine Draws.take 2 HS.out rfl (by kernel_rfl) (fun _ _ _ h => h) (yield_c cbI (fun _ h => h.1) _ rfl rfl rfl) ?_
    (try simp only [Act.put, List.setIfInBounds_toArray, List.set_cons_zero, List.set_cons_succ])
    refine Draws.take 3 HS.out rfl (by kernel_rfl) (fun _ _ _ h => h) (yield_rng Tryz.underlying33 rfl (Pf.infoF HP.out) (fun _ h => h.2) _ rfl rfl rfl) ?_
    (try simp only [Act.put, List.setIfInBounds_toArray, List.set_cons_zero, List.set_cons_succ])
    refine Draws.take 4 (v := ?v75) HS.out rfl (by kernel_rfl) (fun _ _ _ h => h) (Or.inl ⟨rfl, ?h75⟩) ?r75
    case h75 => intro w' hw'; go_simp; (try with_reducible rfl)
    (try simp only [Act.put, List.setIfInBounds_toArray, List.set_cons_zero, List.set_cons_succ])
    refine Draws.take 5 (v := ?v76) HS.out rfl (by kernel_rfl) (fun _ _ _ h => h) (Or.inl ⟨rfl, ?h76⟩) ?r76
    case h76 => intro w' hw'; go_simp; (try with_reducible rfl)
    (try simp only [Act.put, List.setIfInBounds_toArray, List.set_cons_zero, List.set_cons_succ])
    refine Draws.does 6 rfl (by kernel_rfl) rfl (fun K hK => ?_)
    refine wp_store_fr HK.out (n + 2) (Pf.infoF HP.out) (Fd.one _) rfl _ _ rfl HN.out rfl rfl (fcs_le (y := (P', A1, c1')) HQF.out HJL.out HP.out) (fcs_set (y := (P', A1, c1')) HQF.out HJL.out HP.out) ?_
    intro u hk he; clear he; simp only [List.set_cons_zero, List.set_cons_succ] at hk; clear HK; have HK := Lib.hid hk; clear hk
    refine hK.out _ _ (fun _ => ⟨HK.out.cellAt 1 rfl c1, Pf.rgA HK.out 0 rfl⟩) ?_
    clear hK K
    have hs : (fun u : World => u.cell? ⟨b3, 1, none⟩ = some (.int .i64 (j : Int)) ∧ u.rangeAt b5 0 (P'.fd A1 c1').cells) u := ⟨HK.out.cellAt 1 rfl c1, Pf.rgA HK.out 0 rfl⟩
    clear HS
    have HS := Lib.hid hs; clear hs
    (try simp only [Act.put, List.setIfInBounds_toArray, List.set_cons_zero, List.set_cons_succ])
    refine Draws.done (by kernel_rfl) ?_
    clear HS
    go_wp2
    go_ret
    exact ⟨_, _, rfl, by rw [List.length_set]; exact HQL.out, iv_set (y := (P', A1, c1')) HII.out HIV.out, HK.out.tail.tail.setQ⟩
  · have d0 : (E' == 0) = false := by simpa using hE
    clear hiv
    go_enter Tryz.func39, Tryz.ntmps39
    go_wp2_with (first
      | (with_reducible refine box_f (cs := vals (Ho.l ⟨6, (j : Int), K, N, M⟩)) HK.out rfl _ rfl rfl ?_; intro b3 u hk; clear HK; have HK := Lib.hid hk; clear hk)
      | (with_reducible refine load_f1 HK.out 0 cbI _ rfl rfl rfl rfl c0 ?_)
      | (with_reducible refine load_f1 HK.out 0 cbI _ rfl rfl rfl rfl c1 ?_)
      | (with_reducible refine load_f1 HK.out 0 cbI _ rfl rfl rfl rfl c2 ?_)
      | (with_reducible refine load_f1 HK.out 0 cbI _ rfl rfl rfl rfl c3 ?_)
      | (with_reducible refine load_f1 HK.out 0 cbI _ rfl rfl rfl rfl c4 ?_))
    refine Draws.start (S := fun u => KeepF w ((b3, 63, vals (Ho.l ⟨6, (j : Int), K, N, M⟩)) :: l) (rws qs) u) (n := 7) 9 rfl (by kernel_rfl) ?_
    have hk := HK.out.drew
    clear HK; have HK := Lib.hid hk; clear hk
    have HS := Lib.hid (show (fun u => KeepF w ((b3, 63, vals (Ho.l ⟨6, (j : Int), K, N, M⟩)) :: l) (rws qs) u) _ from HK.out)
    refine Draws.take 0 (v := ?v77) HS.out rfl (by kernel_rfl) (fun _ _ _ h => h) (Or.inl ⟨rfl, ?h77⟩) ?r77
    case h77 => intro w' hw'; go_simp; (try with_reducible rfl)
    (try simp only [Act.put, List.setIfInBounds_toArray, List.set_cons_zero, List.set_cons_succ])
    refine Draws.take 1 (v := ?v78) HS.out rfl (by kernel_rfl) (fun _ _ _ h => h) (Or.inl ⟨rfl, ?h78⟩) ?r78
    case h78 => intro w' hw'; go_simp; (try with_reducible rfl)
    (try simp only [Act.put, List.setIfInBounds_toArray, List.set_cons_zero, List.set_cons_succ])
    refine Draws.take 2 HS.out rfl (by kernel_rfl) (fun _ _ _ h => h) (yield_c cbI (fun _ h => h.cellAt 0 rfl c1) _ rfl rfl rfl) ?_
    (try simp only [Act.put, List.setIfInBounds_toArray, List.set_cons_zero, List.set_cons_succ])
    refine Draws.take 3 (v := ?v79) HS.out rfl (by kernel_rfl) (fun _ _ _ h => h) (Or.inl ⟨rfl, ?h79⟩) ?r79
    case h79 => intro w' hw'; go_simp; (try with_reducible rfl)
    (try simp only [Act.put, List.setIfInBounds_toArray, List.set_cons_zero, List.set_cons_succ])
    refine Draws.take 4 (v := ?v80) HS.out rfl (by kernel_rfl) (fun _ _ _ h => h) (Or.inl ⟨rfl, ?h80⟩) ?r80
    case h80 => intro w' hw'; go_simp; (try with_reducible rfl)
    (try simp only [Act.put, List.setIfInBounds_toArray, List.set_cons_zero, List.set_cons_succ])
    refine Draws.take 5 HS.out rfl (by kernel_rfl) (fun _ _ _ h => h) (yield_rng Tryz.underlying33 rfl (Pf.infoF HX.out) (fun _ h => h.rgQ (n + 1) HN.out HQF.out HXJ.out) _ rfl rfl rfl) ?_
    (try simp only [Act.put, List.setIfInBounds_toArray, List.set_cons_zero, List.set_cons_succ])
    refine Draws.does 6 rfl (by kernel_rfl) rfl (fun K hK => ?_)
    refine wp_alloc_f HK.out f_zeroP rfl ?_
    intro b5 u hk; clear HK; have HK := Lib.hid hk; clear hk
    refine hK.out _ _ (fun _ => HK.out.tail) ?_
    clear hK K
    have hs : (fun u => KeepF w ((b3, 63, vals (Ho.l ⟨6, (j : Int), K, N, M⟩)) :: l) (rws qs) u) u := HK.out.tail
    clear HS
    have HS := Lib.hid hs; clear hs
    (try simp only [Act.put, List.setIfInBounds_toArray, List.set_cons_zero, List.set_cons_succ])
    refine Draws.does 7 rfl (by kernel_rfl) rfl (fun K hK => ?_)
    refine wp_store_fr HK.out 0 (Pf.infoF HX.out) (Fd.one _) rfl _ _ rfl rfl rfl rfl (Fd.leP zP_full HX.out) (Fd.setAllP zP_full HX.out) ?_
    intro u hk he; clear he; simp only [List.set_cons_zero, List.set_cons_succ] at hk; clear HK; have HK := Lib.hid hk; clear hk
    refine hK.out _ _ (fun h => absurd h (by decide)) ?_
    clear hK K
    (try simp only [Act.put, List.setIfInBounds_toArray, List.set_cons_zero, List.set_cons_succ])
    refine Draws.does 8 rfl (by kernel_rfl) rfl (fun K hK => ?_)
    go_simp
    refine hK.out _ _ (fun h => absurd h (by decide)) ?_
    clear hK K
    (try simp only [Act.put, List.setIfInBounds_toArray, List.set_cons_zero, List.set_cons_succ])
    refine Draws.done (by kernel_rfl) ?_
    clear HS
    go_wp2_with (first
      | (with_reducible refine load_fr HK.out 0 Tryz.underlying33 rfl (Pf.infoF HX.out) _ rfl rfl rfl rfl Pf.all ?_)
      | (with_reducible refine load_f1 HK.out 1 cbI _ rfl rfl rfl rfl c0 ?_)
      | (with_reducible refine load_f1 HK.out 1 cbI _ rfl rfl rfl rfl c1 ?_)
      | (with_reducible refine load_f1 HK.out 1 cbI _ rfl rfl rfl rfl c2 ?_)
      | (with_reducible refine load_f1 HK.out 1 cbI _ rfl rfl rfl rfl c3 ?_)
      | (with_reducible refine load_f1 HK.out 1 cbI _ rfl rfl rfl rfl c4 ?_)
      | (go_at_call 30; (with_reducible refine (hop _ (HK.out.rowQ HXJ.out)).mono ?_); rintro e u ⟨A1, c1', rfl, hg, hb⟩; have hk := HK.out.got hb j (rws_at HXJ.out) hg; clear hg hb; clear HK; have HK := Lib.hid hk; clear hk)
      | (with_reducible refine store_fr HK.out 0 (Pf.infoF HP.out) (Fd.one _) rfl rfl _ _ rfl rfl rfl rfl (Fd.leP HX.out HP.out) (Fd.setAllP HX.out HP.out) ?_; intro u hk; simp only [List.set_cons_zero, List.set_cons_succ] at hk; clear HK; have HK := Lib.hid hk; clear hk))
    go_ret
    exact ⟨_, qs, rfl, HQL.out, fun x hx => (HII.out x hx).later, by rw [set_same HN.out]; exact HK.out.tail.tail.rtail⟩
end
end Go.Proofs.YtbaccghnneidgaaGreat
