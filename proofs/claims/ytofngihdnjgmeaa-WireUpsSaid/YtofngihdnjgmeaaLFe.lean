/- Contracts of the changes that field.Reserve and End hand to changed. -/
import Derived.Test.YtofngihdnjgmeaaLFc
namespace Go.Proofs.Ytofngihdnjgmeaa
set_option maxRecDepth 100000
open Go.ChangeShapes Go.WideShapes Go.ChangeAt Go.RowKit

theorem reserve_sl (A : Option Addr) (n c : Nat) (hs : List Ho) (k a d : Int) (w : World) (hd : Row w A n hs) :
    Calls Try.prog 34 #[.slice A n c, .int .i64 k, .int .i64 a, .int .i64 d] w fun e w' => ∃ A1 c1, e = .returned (.tuple #[.slice A1 (resL hs k a d).length c1, .int .i64 (resN hs k a d), .int .i64 (resE hs k a d)]) ∧ Own w' w.heap.size (.slice A1 (resL hs k a d).length c1) (resL hs k a d) ∧ Below w.heap.size w w' :=
  (reserve_any A n c hs k a d w hd).mono fun e w' ⟨v, h1, h2, h3⟩ => by
    obtain ⟨A1, c1, rfl⟩ := h2.slice
    exact ⟨A1, c1, h1, h2, h3⟩
theorem resL_le (hs : List Ho) (k a d : Int) : (resL hs k a d).length ≤ 1000 := by have := @resL_len hs k a d; omega
theorem KeepF.swap {w u : World} {l : List (Nat × TypeId × List Value)} {rows : List (Option Addr × Nat × List Ho)} {r s : Option Addr × Nat × List Ho} (h : KeepF w l (r :: s :: rows) u) : KeepF w l (r :: rows) u :=
  h.look fun q hq => by
    rcases List.mem_cons.1 hq with rfl | hq
    · exact List.mem_cons_self
    · exact List.mem_cons_of_mem _ (List.mem_cons_of_mem _ hq)
section
variable {w u : World} {l : List (Nat × TypeId × List Value)} {rows : List (Option Addr × Nat × List Ho)} {x : Nat × TypeId × List Value} {b : Nat} {A : Option Addr} {c : Nat}
set_option maxHeartbeats 2000000 in
theorem cl_reserve (p : Pf) (hp : p.full) (k1 : p.k = 1) (k a d : Int) {ck ca cd cm : Nat} (q0 : Nat) (hq0 : l[q0]? = some (ck, 3, [.int .i64 k])) (q1 : Nat) (hq1 : l[q1]? = some (ca, 3, [.int .i64 a])) (q2 : Nat) (hq2 : l[q2]? = some (cd, 3, [.int .i64 d])) (j : Nat) (hj : l[j]? = some (cm, 3, [.int .i64 0])) (n0 : j ≠ q0) (n1 : j ≠ q1) (n2 : j ≠ q2) (hfr : Fresh w.heap.size A c p.hs) (hk : KeepF w (x :: (b, 33, (p.fd A c).cells) :: l) ((A, p.hs.length, p.hs) :: rows) u) :
    Calls Try.prog 32 #[.pointer (some ⟨b, 0, none⟩), .pointer (some ⟨ck, 0, none⟩), .pointer (some ⟨ca, 0, none⟩), .pointer (some ⟨cd, 0, none⟩), .pointer (some ⟨cm, 0, none⟩)] u fun e u' => ∃ A2 c2, e = .returned (.int .i64 (resPE p k a d)) ∧ KeepF w (x :: (b, 33, ((p.setH (resPH p k a d)).fd A2 c2).cells) :: l.set j (cm, 3, [.int .i64 (resPN p k a d)])) ((A2, (resPH p k a d).length, resPH p k a d) :: rows) u' ∧ Fresh w.heap.size A2 c2 (resPH p k a d) := by
  have HK := Lib.hid hk; clear hk
  have HF := Lib.hid hp; clear hp
  have HJ := Lib.hid hj
  have HX := Lib.hid hfr; clear hfr
  have hset := fun (z : Int) => (show ∀ q y, j ≠ q → l[q]? = some y → (l.set j (cm, 3, [.int .i64 z]))[q]? = some y from fun q y hn hq => by rw [List.getElem?_set_ne hn]; exact hq)
  have G0 := fun z => Lib.hid (hset z q0 _ n0 hq0)
  have G1 := fun z => Lib.hid (hset z q1 _ n1 hq1)
  have G2 := fun z => Lib.hid (hset z q2 _ n2 hq2)
  have hz0 : l.set j (cm, 3, [.int .i64 0]) = l := by
    apply List.ext_getElem?
    intro q
    rw [List.getElem?_set]
    split
    · rename_i e
      subst e
      rw [hj, if_pos (List.getElem?_eq_some_iff.1 hj).1]
    · rfl
  have HZ := Lib.hid hz0
  clear hset n0 n1 n2 hj hz0
  have Hq0 := Lib.hid hq0; clear hq0
  have Hq1 := Lib.hid hq1; clear hq1
  have Hq2 := Lib.hid hq2; clear hq2
  have hlo := fun w h => lok (A := A) (c := c) HF.out k w h
  have e1 : resPE p k a d = if looseP p k < a then 8 else resE p.hs k a d := by simp [resPE, k1]
  have e2 : resPH p k a d = if looseP p k < a then p.hs else resL p.hs k a d := rfl
  have e3 : resPN p k a d = if looseP p k < a then 0 else resN p.hs k a d := by simp [resPN, k1]
  rw [e1, e2, e3]
  clear e1 e2 e3
  generalize looseP p k = z at hlo ⊢
  generalize looseU (p.fd A c) k = d2 at hlo
  by_cases h1 : z < a
  · rw [if_pos h1, if_pos h1, if_pos h1]
    have d1 : decide (z < a) = true := by simpa using h1
    go_enter Try.func32, Try.ntmps32
    go_wp2_with (first
      | (with_reducible refine load_there cbI _ rfl (HK.out.cap2 Hq0.out) rfl rfl ?_)
      | (with_reducible refine load_there cbI _ rfl (HK.out.cap2 Hq1.out) rfl rfl ?_)
      | (with_reducible refine load_there cbI _ rfl (HK.out.cap2 Hq2.out) rfl rfl ?_))
    refine Draws.start (S := fun u => KeepF w (x :: (b, 33, (p.fd A c).cells) :: l) ((A, p.hs.length, p.hs) :: rows) u) (n := 10) 10 rfl (by kernel_rfl) ?_
    have hk := HK.out.drew
    clear HK; have HK := Lib.hid hk; clear hk
    have HS := Lib.hid (show (fun u => KeepF w (x :: (b, 33, (p.fd A c).cells) :: l) ((A, p.hs.length, p.hs) :: rows) u) _ from HK.out)
    refine Draws.take 0 (v := ?v74) HS.out rfl (by kernel_rfl) (fun _ _ _ h => h) (Or.inl ⟨rfl, ?h74⟩) ?r74
    case h74 => intro w' hw'; go_simp; (try with_reducible rfl)
    (try simp only [Act.put, List.setIfInBounds_toArray, List.set_cons_zero, List.set_cons_succ])
    refine Draws.take 1 (v := ?v75) HS.out rfl (by kernel_rfl) (fun _ _ _ h => h) (Or.inl ⟨rfl, ?h75⟩) ?r75
    case h75 => intro w' hw'; go_simp; (try with_reducible rfl)
    (try simp only [Act.put, List.setIfInBounds_toArray, List.set_cons_zero, List.set_cons_succ])
    refine Draws.take 2 HS.out rfl (by kernel_rfl) (fun _ _ _ h => h) (yield_fr (fun _ h => h) 1 Try.underlying33 rfl (Pf.infoF HF.out) _ rfl rfl rfl rfl Pf.all) ?_
    (try simp only [Act.put, List.setIfInBounds_toArray, List.set_cons_zero, List.set_cons_succ])
    refine Draws.take 3 HS.out rfl (by kernel_rfl) (fun _ _ _ h => h) (yield_c cbI (fun _ h => h.cap2 Hq0.out) _ rfl rfl rfl) ?_
    (try simp only [Act.put, List.setIfInBounds_toArray, List.set_cons_zero, List.set_cons_succ])
    refine Draws.does 4 rfl (by kernel_rfl) rfl (fun K hK => ?_)
    go_simp
    go_at_call 33
    refine (hlo _ (HK.out.rowAt 0 rfl)).mono ?_
    rintro e u ⟨rfl, hb⟩
    (try dsimp only)
    have hk := HK.out.call hb; clear hb; clear HK; have HK := Lib.hid hk; clear hk
    refine hK.out _ _ (fun _ => HK.out) ?_
    clear hK K
    have hs : (fun u => KeepF w (x :: (b, 33, (p.fd A c).cells) :: l) ((A, p.hs.length, p.hs) :: rows) u) u := HK.out
    clear HS
    have HS := Lib.hid hs; clear hs
    (try simp only [Act.put, List.setIfInBounds_toArray, List.set_cons_zero, List.set_cons_succ])
    refine Draws.take 5 (v := ?v76) HS.out rfl (by kernel_rfl) (fun _ _ _ h => h) (Or.inl ⟨rfl, ?h76⟩) ?r76
    case h76 => intro w' hw'; go_simp; (try with_reducible rfl)
    (try simp only [Act.put, List.setIfInBounds_toArray, List.set_cons_zero, List.set_cons_succ])
    refine Draws.take 6 (v := ?v77) HS.out rfl (by kernel_rfl) (fun _ _ _ h => h) (Or.inl ⟨rfl, ?h77⟩) ?r77
    case h77 => intro w' hw'; go_simp; (try with_reducible rfl)
    (try simp only [Act.put, List.setIfInBounds_toArray, List.set_cons_zero, List.set_cons_succ])
    refine Draws.take 7 (v := ?v78) HS.out rfl (by kernel_rfl) (fun _ _ _ h => h) (Or.inl ⟨rfl, ?h78⟩) ?r78
    case h78 => intro w' hw'; go_simp; (try with_reducible rfl)
    (try simp only [Act.put, List.setIfInBounds_toArray, List.set_cons_zero, List.set_cons_succ])
    refine Draws.take 8 (v := ?v79) HS.out rfl (by kernel_rfl) (fun _ _ _ h => h) (Or.inl ⟨rfl, ?h79⟩) ?r79
    case h79 => intro w' hw'; go_simp; (try with_reducible rfl)
    (try simp only [Act.put, List.setIfInBounds_toArray, List.set_cons_zero, List.set_cons_succ])
    refine Draws.take 9 (v := ?v80) HS.out rfl (by kernel_rfl) (fun _ _ _ h => h) (Or.inl ⟨rfl, ?h80⟩) ?r80
    case h80 => intro w' hw'; go_simp; (try with_reducible rfl)
    (try simp only [Act.put, List.setIfInBounds_toArray, List.set_cons_zero, List.set_cons_succ])
    refine Draws.done (by kernel_rfl) ?_
    clear HS
    go_wp2_with (first
      | (with_reducible refine load_there cbI _ rfl (HK.out.cap2 Hq0.out) rfl rfl ?_)
      | (with_reducible refine load_there cbI _ rfl (HK.out.cap2 Hq1.out) rfl rfl ?_)
      | (with_reducible refine load_there cbI _ rfl (HK.out.cap2 Hq2.out) rfl rfl ?_))
    go_ret
    exact ⟨A, c, rfl, by rw [Pf.setH_self, HZ.out]; exact HK.out, HX.out⟩
  · rw [if_neg h1, if_neg h1, if_neg h1]
    have d1 : decide (z < a) = false := by simpa using h1
    have HLE := Lib.hid (resL_le p.hs k a d)
    have hcl := fun w h => reserve_sl A p.hs.length c p.hs k a d w h
    generalize resL p.hs k a d = R at hcl HLE ⊢
    generalize resE p.hs k a d = E at hcl ⊢
    generalize resN p.hs k a d = N at hcl ⊢
    go_enter Try.func32, Try.ntmps32
    go_wp2_with (first
      | (with_reducible refine load_there cbI _ rfl (HK.out.cap2 Hq0.out) rfl rfl ?_)
      | (with_reducible refine load_there cbI _ rfl (HK.out.cap2 Hq1.out) rfl rfl ?_)
      | (with_reducible refine load_there cbI _ rfl (HK.out.cap2 Hq2.out) rfl rfl ?_))
    refine Draws.start (S := fun u => KeepF w (x :: (b, 33, (p.fd A c).cells) :: l) ((A, p.hs.length, p.hs) :: rows) u) (n := 10) 10 rfl (by kernel_rfl) ?_
    have hk := HK.out.drew
    clear HK; have HK := Lib.hid hk; clear hk
    have HS := Lib.hid (show (fun u => KeepF w (x :: (b, 33, (p.fd A c).cells) :: l) ((A, p.hs.length, p.hs) :: rows) u) _ from HK.out)
    refine Draws.take 0 (v := ?v81) HS.out rfl (by kernel_rfl) (fun _ _ _ h => h) (Or.inl ⟨rfl, ?h81⟩) ?r81
    case h81 => intro w' hw'; go_simp; (try with_reducible rfl)
    (try simp only [Act.put, List.setIfInBounds_toArray, List.set_cons_zero, List.set_cons_succ])
    refine Draws.take 1 (v := ?v82) HS.out rfl (by kernel_rfl) (fun _ _ _ h => h) (Or.inl ⟨rfl, ?h82⟩) ?r82
    case h82 => intro w' hw'; go_simp; (try with_reducible rfl)
    (try simp only [Act.put, List.setIfInBounds_toArray, List.set_cons_zero, List.set_cons_succ])
    refine Draws.take 2 HS.out rfl (by kernel_rfl) (fun _ _ _ h => h) (yield_fr (fun _ h => h) 1 Try.underlying33 rfl (Pf.infoF HF.out) _ rfl rfl rfl rfl Pf.all) ?_
    (try simp only [Act.put, List.setIfInBounds_toArray, List.set_cons_zero, List.set_cons_succ])
    refine Draws.take 3 HS.out rfl (by kernel_rfl) (fun _ _ _ h => h) (yield_c cbI (fun _ h => h.cap2 Hq0.out) _ rfl rfl rfl) ?_
    (try simp only [Act.put, List.setIfInBounds_toArray, List.set_cons_zero, List.set_cons_succ])
    refine Draws.does 4 rfl (by kernel_rfl) rfl (fun K hK => ?_)
    go_simp
    go_at_call 33
    refine (hlo _ (HK.out.rowAt 0 rfl)).mono ?_
    rintro e u ⟨rfl, hb⟩
    (try dsimp only)
    have hk := HK.out.call hb; clear hb; clear HK; have HK := Lib.hid hk; clear hk
    refine hK.out _ _ (fun _ => HK.out) ?_
    clear hK K
    have hs : (fun u => KeepF w (x :: (b, 33, (p.fd A c).cells) :: l) ((A, p.hs.length, p.hs) :: rows) u) u := HK.out
    clear HS
    have HS := Lib.hid hs; clear hs
    (try simp only [Act.put, List.setIfInBounds_toArray, List.set_cons_zero, List.set_cons_succ])
    refine Draws.take 5 (v := ?v83) HS.out rfl (by kernel_rfl) (fun _ _ _ h => h) (Or.inl ⟨rfl, ?h83⟩) ?r83
    case h83 => intro w' hw'; go_simp; (try with_reducible rfl)
    (try simp only [Act.put, List.setIfInBounds_toArray, List.set_cons_zero, List.set_cons_succ])
    refine Draws.take 6 (v := ?v84) HS.out rfl (by kernel_rfl) (fun _ _ _ h => h) (Or.inl ⟨rfl, ?h84⟩) ?r84
    case h84 => intro w' hw'; go_simp; (try with_reducible rfl)
    (try simp only [Act.put, List.setIfInBounds_toArray, List.set_cons_zero, List.set_cons_succ])
    refine Draws.take 7 (v := ?v85) HS.out rfl (by kernel_rfl) (fun _ _ _ h => h) (Or.inl ⟨rfl, ?h85⟩) ?r85
    case h85 => intro w' hw'; go_simp; (try with_reducible rfl)
    (try simp only [Act.put, List.setIfInBounds_toArray, List.set_cons_zero, List.set_cons_succ])
    refine Draws.take 8 (v := ?v86) HS.out rfl (by kernel_rfl) (fun _ _ _ h => h) (Or.inl ⟨rfl, ?h86⟩) ?r86
    case h86 => intro w' hw'; go_simp; (try with_reducible rfl)
    (try simp only [Act.put, List.setIfInBounds_toArray, List.set_cons_zero, List.set_cons_succ])
    refine Draws.take 9 (v := ?v87) HS.out rfl (by kernel_rfl) (fun _ _ _ h => h) (Or.inl ⟨rfl, ?h87⟩) ?r87
    case h87 => intro w' hw'; go_simp; (try with_reducible rfl)
    (try simp only [Act.put, List.setIfInBounds_toArray, List.set_cons_zero, List.set_cons_succ])
    refine Draws.done (by kernel_rfl) ?_
    clear HS
    go_wp2_with (first
      | (with_reducible refine load_there cbI _ rfl (HK.out.cap2 Hq0.out) rfl rfl ?_)
      | (with_reducible refine load_there cbI _ rfl (HK.out.cap2 Hq1.out) rfl rfl ?_)
      | (with_reducible refine load_there cbI _ rfl (HK.out.cap2 Hq2.out) rfl rfl ?_))
    refine Draws.start (S := fun u : World => u.cell? ⟨ck, 0, none⟩ = some (.int .i64 k) ∧ u.cell? ⟨ca, 0, none⟩ = some (.int .i64 a) ∧ u.cell? ⟨cd, 0, none⟩ = some (.int .i64 d)) (n := 17) 18 rfl (by kernel_rfl) ?_
    have hk := HK.out.drew
    clear HK; have HK := Lib.hid hk; clear hk
    have HS := Lib.hid (show (fun u : World => u.cell? ⟨ck, 0, none⟩ = some (.int .i64 k) ∧ u.cell? ⟨ca, 0, none⟩ = some (.int .i64 a) ∧ u.cell? ⟨cd, 0, none⟩ = some (.int .i64 d)) _ from ⟨HK.out.cap2 Hq0.out, HK.out.cap2 Hq1.out, HK.out.cap2 Hq2.out⟩)
    refine Draws.take 0 (v := ?v88) HS.out rfl (by kernel_rfl) (fun _ _ _ h => h) (Or.inl ⟨rfl, ?h88⟩) ?r88
    case h88 => intro w' hw'; go_simp; (try with_reducible rfl)
    (try simp only [Act.put, List.setIfInBounds_toArray, List.set_cons_zero, List.set_cons_succ])
    refine Draws.take 1 (v := ?v89) HS.out rfl (by kernel_rfl) (fun _ _ _ h => h) (Or.inl ⟨rfl, ?h89⟩) ?r89
    case h89 => intro w' hw'; go_simp; (try with_reducible rfl)
    (try simp only [Act.put, List.setIfInBounds_toArray, List.set_cons_zero, List.set_cons_succ])
    refine Draws.take 2 (v := ?v90) HS.out rfl (by kernel_rfl) (fun _ _ _ h => h) (Or.inl ⟨rfl, ?h90⟩) ?r90
    case h90 => intro w' hw'; go_simp; (try with_reducible rfl)
    (try simp only [Act.put, List.setIfInBounds_toArray, List.set_cons_zero, List.set_cons_succ])
    refine Draws.take 3 (v := ?v91) HS.out rfl (by kernel_rfl) (fun _ _ _ h => h) (Or.inl ⟨rfl, ?h91⟩) ?r91
    case h91 => intro w' hw'; go_simp; (try with_reducible rfl)
    (try simp only [Act.put, List.setIfInBounds_toArray, List.set_cons_zero, List.set_cons_succ])
    refine Draws.take 5 HS.out rfl (by kernel_rfl) (fun _ _ _ h => h) (yield_c cbI (fun _ h => h.1) _ rfl rfl rfl) ?_
    (try simp only [Act.put, List.setIfInBounds_toArray, List.set_cons_zero, List.set_cons_succ])
    refine Draws.take 6 HS.out rfl (by kernel_rfl) (fun _ _ _ h => h) (yield_c cbI (fun _ h => h.2.1) _ rfl rfl rfl) ?_
    (try simp only [Act.put, List.setIfInBounds_toArray, List.set_cons_zero, List.set_cons_succ])
    refine Draws.take 7 HS.out rfl (by kernel_rfl) (fun _ _ _ h => h) (yield_c cbI (fun _ h => h.2.2) _ rfl rfl rfl) ?_
    (try simp only [Act.put, List.setIfInBounds_toArray, List.set_cons_zero, List.set_cons_succ])
    refine Draws.does 4 rfl (by kernel_rfl) rfl (fun K hK => ?_)
    refine wp_load_f1 cbH _ rfl rfl (HK.out.cellAt 1 rfl (Pf.cH HF.out)) ?_
    refine hK.out _ _ (fun _ => HS.out) ?_
    clear hK K
    (try simp only [Act.put, List.setIfInBounds_toArray, List.set_cons_zero, List.set_cons_succ])
    refine Draws.does 8 rfl (by kernel_rfl) rfl (fun K hK => ?_)
    go_simp
    go_at_call 34
    refine (hcl _ (HK.out.rowAt 0 rfl)).mono ?_
    rintro e u ⟨A2, c2, rfl, ho, hb⟩
    (try dsimp only)
    have HFR := Lib.hid ((Fresh.own ho).mono HK.out.bel.size); have hk := (HK.out.own hb ho (HLE.out)).swap; clear ho hb; clear HK; have HK := Lib.hid hk; clear hk
    refine hK.out _ _ (fun _ => ⟨HK.out.cap2 Hq0.out, HK.out.cap2 Hq1.out, HK.out.cap2 Hq2.out⟩) ?_
    clear hK K
    have hs : (fun u : World => u.cell? ⟨ck, 0, none⟩ = some (.int .i64 k) ∧ u.cell? ⟨ca, 0, none⟩ = some (.int .i64 a) ∧ u.cell? ⟨cd, 0, none⟩ = some (.int .i64 d)) u := ⟨HK.out.cap2 Hq0.out, HK.out.cap2 Hq1.out, HK.out.cap2 Hq2.out⟩
    clear HS
    have HS := Lib.hid hs; clear hs
    (try simp only [Act.put, List.setIfInBounds_toArray, List.set_cons_zero, List.set_cons_succ])
    refine Draws.take 9 (v := ?v92) HS.out rfl (by kernel_rfl) (fun _ _ _ h => h) (Or.inl ⟨rfl, ?h92⟩) ?r92
    case h92 => intro w' hw'; go_simp; (try with_reducible rfl)
    (try simp only [Act.put, List.setIfInBounds_toArray, List.set_cons_zero, List.set_cons_succ])
    refine Draws.take 10 (v := ?v93) HS.out rfl (by kernel_rfl) (fun _ _ _ h => h) (Or.inl ⟨rfl, ?h93⟩) ?r93
    case h93 => intro w' hw'; go_simp; (try with_reducible rfl)
    (try simp only [Act.put, List.setIfInBounds_toArray, List.set_cons_zero, List.set_cons_succ])
    refine Draws.take 11 (v := ?v94) HS.out rfl (by kernel_rfl) (fun _ _ _ h => h) (Or.inl ⟨rfl, ?h94⟩) ?r94
    case h94 => intro w' hw'; go_simp; (try with_reducible rfl)
    (try simp only [Act.put, List.setIfInBounds_toArray, List.set_cons_zero, List.set_cons_succ])
    refine Draws.take 12 (v := ?v95) HS.out rfl (by kernel_rfl) (fun _ _ _ h => h) (Or.inl ⟨rfl, ?h95⟩) ?r95
    case h95 => intro w' hw'; go_simp; (try with_reducible rfl)
    (try simp only [Act.put, List.setIfInBounds_toArray, List.set_cons_zero, List.set_cons_succ])
    refine Draws.take 13 (v := ?v96) HS.out rfl (by kernel_rfl) (fun _ _ _ h => h) (Or.inl ⟨rfl, ?h96⟩) ?r96
    case h96 => intro w' hw'; go_simp; (try with_reducible rfl)
    (try simp only [Act.put, List.setIfInBounds_toArray, List.set_cons_zero, List.set_cons_succ])
    refine Draws.take 14 (v := ?v97) HS.out rfl (by kernel_rfl) (fun _ _ _ h => h) (Or.inl ⟨rfl, ?h97⟩) ?r97
    case h97 => intro w' hw'; go_simp; (try with_reducible rfl)
    (try simp only [Act.put, List.setIfInBounds_toArray, List.set_cons_zero, List.set_cons_succ])
    refine Draws.does 15 rfl (by kernel_rfl) rfl (fun K hK => ?_)
    refine wp_store_f1 HK.out 1 cbH rfl _ _ rfl rfl rfl rfl rfl (Fd.ltH HF.out) (Pf.toH HF.out _ _ _) ?_
    intro u hk he; clear he; simp only [List.set_cons_zero, List.set_cons_succ] at hk; clear HK; have HK := Lib.hid hk; clear hk
    refine hK.out _ _ (fun _ => ⟨HK.out.cap2 Hq0.out, HK.out.cap2 Hq1.out, HK.out.cap2 Hq2.out⟩) ?_
    clear hK K
    have hs : (fun u : World => u.cell? ⟨ck, 0, none⟩ = some (.int .i64 k) ∧ u.cell? ⟨ca, 0, none⟩ = some (.int .i64 a) ∧ u.cell? ⟨cd, 0, none⟩ = some (.int .i64 d)) u := ⟨HK.out.cap2 Hq0.out, HK.out.cap2 Hq1.out, HK.out.cap2 Hq2.out⟩
    clear HS
    have HS := Lib.hid hs; clear hs
    (try simp only [Act.put, List.setIfInBounds_toArray, List.set_cons_zero, List.set_cons_succ])
    refine Draws.does 16 rfl (by kernel_rfl) rfl (fun K hK => ?_)
    refine wp_store_f1 HK.out (j + 2) cbI rfl _ _ rfl HJ.out rfl rfl rfl (by decide) rfl ?_
    intro u hk he; clear he; simp only [List.set_cons_zero, List.set_cons_succ] at hk; clear HK Hq0 Hq1 Hq2; have HK := Lib.hid hk; have Hq0 := G0 N; have Hq1 := G1 N; have Hq2 := G2 N; clear hk
    refine hK.out _ _ (fun _ => ⟨HK.out.cap2 Hq0.out, HK.out.cap2 Hq1.out, HK.out.cap2 Hq2.out⟩) ?_
    clear hK K
    have hs : (fun u : World => u.cell? ⟨ck, 0, none⟩ = some (.int .i64 k) ∧ u.cell? ⟨ca, 0, none⟩ = some (.int .i64 a) ∧ u.cell? ⟨cd, 0, none⟩ = some (.int .i64 d)) u := ⟨HK.out.cap2 Hq0.out, HK.out.cap2 Hq1.out, HK.out.cap2 Hq2.out⟩
    clear HS
    have HS := Lib.hid hs; clear hs
    (try simp only [Act.put, List.setIfInBounds_toArray, List.set_cons_zero, List.set_cons_succ])
    refine Draws.does 17 rfl (by kernel_rfl) rfl (fun K hK => ?_)
    go_simp
    refine hK.out _ _ (fun h => absurd h (by decide)) ?_
    clear hK K
    (try simp only [Act.put, List.setIfInBounds_toArray, List.set_cons_zero, List.set_cons_succ])
    refine Draws.done (by kernel_rfl) ?_
    clear HS
    go_wp2
    go_ret
    exact ⟨A2, c2, rfl, HK.out, HFR.out⟩
end
end Go.Proofs.Ytofngihdnjgmeaa
