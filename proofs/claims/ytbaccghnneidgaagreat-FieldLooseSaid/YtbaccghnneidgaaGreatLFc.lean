/- Contracts of the changes that field.Add, Hand, Write, Pass, Reserve and End hand to changed. -/
import Derived.Test.YtbaccghnneidgaaGreatLFs
namespace Go.Proofs.YtbaccghnneidgaaGreat
set_option maxRecDepth 100000
open Go.ChangeShapes Go.WideShapes Go.ChangeAt Go.RowKit

theorem looseP_isB (p : Pf) (k : Int) : -1099511627776 - 1099511627776 ≤ looseP p k ∧ looseP p k ≤ 1099511627776 := by
  unfold looseP
  split
  · have h1 := isB_iff.1 (freeN_isB (dnR p.C) k)
    have h2 := sumOf_range p.hs k
    omega
  · omega
theorem wrap_neg {d : Int} (h : -9223372036854775808 < d ∧ d ≤ 9223372036854775807) : IntKind.i64.wrap (-d) = -d := by
  simp [IntKind.wrap, IntKind.bits, IntKind.signed]; omega
theorem KeepF.cap2 {w u : World} {l : List (Nat × TypeId × List Value)} {rows : List (Option Addr × Nat × List Ho)} {x y : Nat × TypeId × List Value} (hk : KeepF w (x :: y :: l) rows u) {i b : Nat} {t : TypeId} {v : Value} (hi : l[i]? = some (b, t, [v])) : u.cell? ⟨b, 0, none⟩ = some v := hk.cellAt (i + 2) hi rfl
theorem lok {p : Pf} {A : Option Addr} {c : Nat} (hp : p.full) (k : Int) (w : World) (h : Row w A p.hs.length p.hs) :
    Calls Tryz.prog 13 #[.agg (p.fd A c).cells.toArray, .int .i64 k] w fun e w' => e = .returned (.tuple #[.int .i64 (looseP p k), .int .i64 (looseU (p.fd A c) k)]) ∧ Below w.heap.size w w' := loose_any (p.fd A c) hp p.hs k w h
theorem yield_neg {ops : Array Oper} {S : World → Prop} {o : Oper} {a : Act} {n : Int} (hn : IntKind.i64.wrap (-n) = -n) (x : Operand) (ho : o.op = .unOp .neg 3 x) (hx : a.eval x = .int .i64 n) (hw : Region.wanted o (yielded ops a.tmps) = true) :
    YieldsIf Tryz.prog ops S o (.int .i64 (-n)) a :=
  .inl ⟨hw, fun u _ => by
    unfold execOp
    simp only [ho, hx]
    simp [go_sem, hn]⟩
section
variable {w u : World} {l : List (Nat × TypeId × List Value)} {rows : List (Option Addr × Nat × List Ho)} {x : Nat × TypeId × List Value} {b : Nat} {A : Option Addr} {c : Nat}
set_option maxHeartbeats 2000000 in
theorem cl_add (p : Pf) (hp : p.full) (k1 : p.k = 1) (k n : Int) {cn ck : Nat} (i : Nat) (hi : l[i]? = some (cn, 3, [.int .i64 n])) (j : Nat) (hj : l[j]? = some (ck, 3, [.int .i64 k])) (hk : KeepF w (x :: (b, 33, (p.fd A c).cells) :: l) ((A, p.hs.length, p.hs) :: rows) u) :
    Calls Tryz.prog 58 #[.pointer (some ⟨b, 0, none⟩), .pointer (some ⟨cn, 0, none⟩), .pointer (some ⟨ck, 0, none⟩)] u fun e u' => e = .returned (.int .i64 (addPE p k n)) ∧ KeepF w (x :: (b, 33, ((p.setC (addPC p k n)).fd A c).cells) :: l) ((A, p.hs.length, p.hs) :: rows) u' := by
  have HK := Lib.hid hk; clear hk
  have HF := Lib.hid hp; clear hp
  have Hi := Lib.hid hi; clear hi
  have Hj := Lib.hid hj; clear hj
  by_cases h0 : 0 ≤ n
  · have e1 : addPE p k n = incE p.C k n := by simp [addPE, k1, h0]
    have e2 : addPC p k n = incA p.C k n := by simp [addPC, h0]
    rw [e1, e2]
    clear e1 e2
    have d0 : decide (0 ≤ n) = true := by simpa using h0
    have HA := Lib.hid (incA_length HF.out k n)
    have hcl := inc_any p.C HF.out k n
    generalize incA p.C k n = D at hcl HA ⊢
    generalize incE p.C k n = E at hcl ⊢
    go_enter Tryz.func58, Tryz.ntmps58
    go_wp2_with (first
      | (with_reducible refine load_there cbI _ rfl (HK.out.cap2 Hi.out) rfl rfl ?_)
      | (with_reducible refine load_there cbI _ rfl (HK.out.cap2 Hj.out) rfl rfl ?_))
    refine Draws.start (S := fun u : World => u.cell? ⟨cn, 0, none⟩ = some (.int .i64 n) ∧ u.cell? ⟨ck, 0, none⟩ = some (.int .i64 k)) (n := 14) 15 rfl (by kernel_rfl) ?_
    have hk := HK.out.drew
    clear HK; have HK := Lib.hid hk; clear hk
    have HS := Lib.hid (show (fun u : World => u.cell? ⟨cn, 0, none⟩ = some (.int .i64 n) ∧ u.cell? ⟨ck, 0, none⟩ = some (.int .i64 k)) _ from ⟨HK.out.cap2 Hi.out, HK.out.cap2 Hj.out⟩)
    refine Draws.take 0 (v := ?v1) HS.out rfl (by kernel_rfl) (fun _ _ _ h => h) (Or.inl ⟨rfl, ?h1⟩) ?r1
    case h1 => intro w' hw'; go_simp; (try with_reducible rfl)
    (try simp only [Act.put, List.setIfInBounds_toArray, List.set_cons_zero, List.set_cons_succ])
    refine Draws.take 1 (v := ?v2) HS.out rfl (by kernel_rfl) (fun _ _ _ h => h) (Or.inl ⟨rfl, ?h2⟩) ?r2
    case h2 => intro w' hw'; go_simp; (try with_reducible rfl)
    (try simp only [Act.put, List.setIfInBounds_toArray, List.set_cons_zero, List.set_cons_succ])
    refine Draws.take 2 (v := ?v3) HS.out rfl (by kernel_rfl) (fun _ _ _ h => h) (Or.inl ⟨rfl, ?h3⟩) ?r3
    case h3 => intro w' hw'; go_simp; (try with_reducible rfl)
    (try simp only [Act.put, List.setIfInBounds_toArray, List.set_cons_zero, List.set_cons_succ])
    refine Draws.take 3 (v := ?v4) HS.out rfl (by kernel_rfl) (fun _ _ _ h => h) (Or.inl ⟨rfl, ?h4⟩) ?r4
    case h4 => intro w' hw'; go_simp; (try with_reducible rfl)
    (try simp only [Act.put, List.setIfInBounds_toArray, List.set_cons_zero, List.set_cons_succ])
    refine Draws.take 5 HS.out rfl (by kernel_rfl) (fun _ _ _ h => h) (yield_c cbI (fun _ h => h.2) _ rfl rfl rfl) ?_
    (try simp only [Act.put, List.setIfInBounds_toArray, List.set_cons_zero, List.set_cons_succ])
    refine Draws.take 6 HS.out rfl (by kernel_rfl) (fun _ _ _ h => h) (yield_c cbI (fun _ h => h.1) _ rfl rfl rfl) ?_
    (try simp only [Act.put, List.setIfInBounds_toArray, List.set_cons_zero, List.set_cons_succ])
    refine Draws.does 4 rfl (by kernel_rfl) rfl (fun K hK => ?_)
    refine wp_load_fr HK.out 1 Tryz.underlying28 rfl (Pf.infoC HF.out) _ rfl rfl rfl Pf.cC ?_
    refine hK.out _ _ (fun _ => HS.out) ?_
    clear hK K
    (try simp only [Act.put, List.setIfInBounds_toArray, List.set_cons_zero, List.set_cons_succ])
    refine Draws.does 7 rfl (by kernel_rfl) rfl (fun K hK => ?_)
    go_simp
    go_at_call 59
    refine (hcl _).mono ?_
    rintro e u ⟨rfl, hb⟩
    (try dsimp only)
    have hk := HK.out.call hb; clear hb; clear HK; have HK := Lib.hid hk; clear hk
    refine hK.out _ _ (fun _ => ⟨HK.out.cap2 Hi.out, HK.out.cap2 Hj.out⟩) ?_
    clear hK K
    have hs : (fun u : World => u.cell? ⟨cn, 0, none⟩ = some (.int .i64 n) ∧ u.cell? ⟨ck, 0, none⟩ = some (.int .i64 k)) u := ⟨HK.out.cap2 Hi.out, HK.out.cap2 Hj.out⟩
    clear HS
    have HS := Lib.hid hs; clear hs
    (try simp only [Act.put, List.setIfInBounds_toArray, List.set_cons_zero, List.set_cons_succ])
    refine Draws.take 8 (v := ?v5) HS.out rfl (by kernel_rfl) (fun _ _ _ h => h) (Or.inl ⟨rfl, ?h5⟩) ?r5
    case h5 => intro w' hw'; go_simp; (try with_reducible rfl)
    (try simp only [Act.put, List.setIfInBounds_toArray, List.set_cons_zero, List.set_cons_succ])
    refine Draws.take 9 (v := ?v6) HS.out rfl (by kernel_rfl) (fun _ _ _ h => h) (Or.inl ⟨rfl, ?h6⟩) ?r6
    case h6 => intro w' hw'; go_simp; (try with_reducible rfl)
    (try simp only [Act.put, List.setIfInBounds_toArray, List.set_cons_zero, List.set_cons_succ])
    refine Draws.take 10 (v := ?v7) HS.out rfl (by kernel_rfl) (fun _ _ _ h => h) (Or.inl ⟨rfl, ?h7⟩) ?r7
    case h7 => intro w' hw'; go_simp; (try with_reducible rfl)
    (try simp only [Act.put, List.setIfInBounds_toArray, List.set_cons_zero, List.set_cons_succ])
    refine Draws.take 11 (v := ?v8) HS.out rfl (by kernel_rfl) (fun _ _ _ h => h) (Or.inl ⟨rfl, ?h8⟩) ?r8
    case h8 => intro w' hw'; go_simp; (try with_reducible rfl)
    (try simp only [Act.put, List.setIfInBounds_toArray, List.set_cons_zero, List.set_cons_succ])
    refine Draws.take 12 (v := ?v9) HS.out rfl (by kernel_rfl) (fun _ _ _ h => h) (Or.inl ⟨rfl, ?h9⟩) ?r9
    case h9 => intro w' hw'; go_simp; (try with_reducible rfl)
    (try simp only [Act.put, List.setIfInBounds_toArray, List.set_cons_zero, List.set_cons_succ])
    refine Draws.does 13 rfl (by kernel_rfl) rfl (fun K hK => ?_)
    refine wp_store_fr HK.out 1 (infoC HA.out) (vals_all _) rfl _ _ rfl rfl rfl rfl (Fd.leC HF.out HA.out) (Pf.toC HF.out HA.out) ?_
    intro u hk he; clear he; simp only [List.set_cons_zero, List.set_cons_succ] at hk; clear HK; have HK := Lib.hid hk; clear hk
    refine hK.out _ _ (fun _ => ⟨HK.out.cap2 Hi.out, HK.out.cap2 Hj.out⟩) ?_
    clear hK K
    have hs : (fun u : World => u.cell? ⟨cn, 0, none⟩ = some (.int .i64 n) ∧ u.cell? ⟨ck, 0, none⟩ = some (.int .i64 k)) u := ⟨HK.out.cap2 Hi.out, HK.out.cap2 Hj.out⟩
    clear HS
    have HS := Lib.hid hs; clear hs
    (try simp only [Act.put, List.setIfInBounds_toArray, List.set_cons_zero, List.set_cons_succ])
    refine Draws.does 14 rfl (by kernel_rfl) rfl (fun K hK => ?_)
    go_simp
    refine hK.out _ _ (fun h => absurd h (by decide)) ?_
    clear hK K
    (try simp only [Act.put, List.setIfInBounds_toArray, List.set_cons_zero, List.set_cons_succ])
    refine Draws.done (by kernel_rfl) ?_
    clear HS
    go_wp2
    go_ret
    exact ⟨rfl, HK.out⟩
  · have d0 : decide (0 ≤ n) = false := by simpa using h0
    have hlo := fun w h => lok (A := A) (c := c) HF.out k w h
    have hB := looseP_isB p k
    have e1 : addPE p k n = if n < -looseP p k then 8 else decE p.C k (-n) := by simp [addPE, k1, h0]
    have e2 : addPC p k n = if n < -looseP p k then p.C else decA p.C k (-n) := by simp [addPC, h0]
    rw [e1, e2]
    clear e1 e2
    generalize looseP p k = d at hlo hB ⊢
    generalize looseU (p.fd A c) k = d2 at hlo
    have w1 := wrap_neg (d := d) (by omega)
    by_cases h1 : n < -d
    · rw [if_pos h1, if_pos h1]
      have d1 : decide (n < -d) = true := by simpa using h1
      clear hB
      go_enter Tryz.func58, Tryz.ntmps58
      go_wp2_with (first
        | (with_reducible refine load_there cbI _ rfl (HK.out.cap2 Hi.out) rfl rfl ?_)
        | (with_reducible refine load_there cbI _ rfl (HK.out.cap2 Hj.out) rfl rfl ?_))
      refine Draws.start (S := fun u => KeepF w (x :: (b, 33, (p.fd A c).cells) :: l) ((A, p.hs.length, p.hs) :: rows) u) (n := 10) 10 rfl (by kernel_rfl) ?_
      have hk := HK.out.drew
      clear HK; have HK := Lib.hid hk; clear hk
      have HS := Lib.hid (show (fun u => KeepF w (x :: (b, 33, (p.fd A c).cells) :: l) ((A, p.hs.length, p.hs) :: rows) u) _ from HK.out)
      refine Draws.take 0 (v := ?v10) HS.out rfl (by kernel_rfl) (fun _ _ _ h => h) (Or.inl ⟨rfl, ?h10⟩) ?r10
      case h10 => intro w' hw'; go_simp; (try with_reducible rfl)
      (try simp only [Act.put, List.setIfInBounds_toArray, List.set_cons_zero, List.set_cons_succ])
      refine Draws.take 1 (v := ?v11) HS.out rfl (by kernel_rfl) (fun _ _ _ h => h) (Or.inl ⟨rfl, ?h11⟩) ?r11
      case h11 => intro w' hw'; go_simp; (try with_reducible rfl)
      (try simp only [Act.put, List.setIfInBounds_toArray, List.set_cons_zero, List.set_cons_succ])
      refine Draws.take 2 HS.out rfl (by kernel_rfl) (fun _ _ _ h => h) (yield_fr (fun _ h => h) 1 Tryz.underlying33 rfl (Pf.infoF HF.out) _ rfl rfl rfl rfl Pf.all) ?_
      (try simp only [Act.put, List.setIfInBounds_toArray, List.set_cons_zero, List.set_cons_succ])
      refine Draws.take 3 HS.out rfl (by kernel_rfl) (fun _ _ _ h => h) (yield_c cbI (fun _ h => h.cap2 Hj.out) _ rfl rfl rfl) ?_
      (try simp only [Act.put, List.setIfInBounds_toArray, List.set_cons_zero, List.set_cons_succ])
      refine Draws.does 4 rfl (by kernel_rfl) rfl (fun K hK => ?_)
      go_simp
      go_at_call 13
      refine (hlo _ (HK.out.rowAt 0 rfl)).mono ?_
      rintro e u ⟨rfl, hb⟩
      (try dsimp only)
      have hk := HK.out.call hb; clear hb; clear HK; have HK := Lib.hid hk; clear hk
      refine hK.out _ _ (fun _ => HK.out) ?_
      clear hK K
      have hs : (fun u => KeepF w (x :: (b, 33, (p.fd A c).cells) :: l) ((A, p.hs.length, p.hs) :: rows) u) u := HK.out
      clear HS
      have HS := Lib.hid hs; clear hs
      (try simp only [Act.put, List.setIfInBounds_toArray, List.set_cons_zero, List.set_cons_succ])
      refine Draws.take 5 (v := ?v12) HS.out rfl (by kernel_rfl) (fun _ _ _ h => h) (Or.inl ⟨rfl, ?h12⟩) ?r12
      case h12 => intro w' hw'; go_simp; (try with_reducible rfl)
      (try simp only [Act.put, List.setIfInBounds_toArray, List.set_cons_zero, List.set_cons_succ])
      refine Draws.take 6 (v := ?v13) HS.out rfl (by kernel_rfl) (fun _ _ _ h => h) (Or.inl ⟨rfl, ?h13⟩) ?r13
      case h13 => intro w' hw'; go_simp; (try with_reducible rfl)
      (try simp only [Act.put, List.setIfInBounds_toArray, List.set_cons_zero, List.set_cons_succ])
      refine Draws.take 7 (v := ?v14) HS.out rfl (by kernel_rfl) (fun _ _ _ h => h) (Or.inl ⟨rfl, ?h14⟩) ?r14
      case h14 => intro w' hw'; go_simp; (try with_reducible rfl)
      (try simp only [Act.put, List.setIfInBounds_toArray, List.set_cons_zero, List.set_cons_succ])
      refine Draws.take 8 (v := ?v15) HS.out rfl (by kernel_rfl) (fun _ _ _ h => h) (Or.inl ⟨rfl, ?h15⟩) ?r15
      case h15 => intro w' hw'; go_simp; (try with_reducible rfl)
      (try simp only [Act.put, List.setIfInBounds_toArray, List.set_cons_zero, List.set_cons_succ])
      refine Draws.take 9 (v := ?v16) HS.out rfl (by kernel_rfl) (fun _ _ _ h => h) (Or.inl ⟨rfl, ?h16⟩) ?r16
      case h16 => intro w' hw'; go_simp; (try with_reducible rfl)
      (try simp only [Act.put, List.setIfInBounds_toArray, List.set_cons_zero, List.set_cons_succ])
      refine Draws.done (by kernel_rfl) ?_
      clear HS
      go_wp2_with (first
        | (with_reducible refine load_there cbI _ rfl (HK.out.cap2 Hi.out) rfl rfl ?_)
        | (with_reducible refine load_there cbI _ rfl (HK.out.cap2 Hj.out) rfl rfl ?_))
      go_ret
      exact ⟨rfl, by rw [Pf.setC_self]; exact HK.out⟩
    · rw [if_neg h1, if_neg h1]
      have d1 : decide (n < -d) = false := by simpa using h1
      have w2 := wrap_neg (d := n) (by omega)
      have HA := Lib.hid (decA_length HF.out k (-n))
      have hcl := dec_any p.C HF.out k (-n)
      generalize decA p.C k (-n) = D at hcl HA ⊢
      generalize decE p.C k (-n) = E at hcl ⊢
      clear hB
      go_enter Tryz.func58, Tryz.ntmps58
      go_wp2_with (first
        | (with_reducible refine load_there cbI _ rfl (HK.out.cap2 Hi.out) rfl rfl ?_)
        | (with_reducible refine load_there cbI _ rfl (HK.out.cap2 Hj.out) rfl rfl ?_))
      refine Draws.start (S := fun u => KeepF w (x :: (b, 33, (p.fd A c).cells) :: l) ((A, p.hs.length, p.hs) :: rows) u) (n := 10) 10 rfl (by kernel_rfl) ?_
      have hk := HK.out.drew
      clear HK; have HK := Lib.hid hk; clear hk
      have HS := Lib.hid (show (fun u => KeepF w (x :: (b, 33, (p.fd A c).cells) :: l) ((A, p.hs.length, p.hs) :: rows) u) _ from HK.out)
      refine Draws.take 0 (v := ?v17) HS.out rfl (by kernel_rfl) (fun _ _ _ h => h) (Or.inl ⟨rfl, ?h17⟩) ?r17
      case h17 => intro w' hw'; go_simp; (try with_reducible rfl)
      (try simp only [Act.put, List.setIfInBounds_toArray, List.set_cons_zero, List.set_cons_succ])
      refine Draws.take 1 (v := ?v18) HS.out rfl (by kernel_rfl) (fun _ _ _ h => h) (Or.inl ⟨rfl, ?h18⟩) ?r18
      case h18 => intro w' hw'; go_simp; (try with_reducible rfl)
      (try simp only [Act.put, List.setIfInBounds_toArray, List.set_cons_zero, List.set_cons_succ])
      refine Draws.take 2 HS.out rfl (by kernel_rfl) (fun _ _ _ h => h) (yield_fr (fun _ h => h) 1 Tryz.underlying33 rfl (Pf.infoF HF.out) _ rfl rfl rfl rfl Pf.all) ?_
      (try simp only [Act.put, List.setIfInBounds_toArray, List.set_cons_zero, List.set_cons_succ])
      refine Draws.take 3 HS.out rfl (by kernel_rfl) (fun _ _ _ h => h) (yield_c cbI (fun _ h => h.cap2 Hj.out) _ rfl rfl rfl) ?_
      (try simp only [Act.put, List.setIfInBounds_toArray, List.set_cons_zero, List.set_cons_succ])
      refine Draws.does 4 rfl (by kernel_rfl) rfl (fun K hK => ?_)
      go_simp
      go_at_call 13
      refine (hlo _ (HK.out.rowAt 0 rfl)).mono ?_
      rintro e u ⟨rfl, hb⟩
      (try dsimp only)
      have hk := HK.out.call hb; clear hb; clear HK; have HK := Lib.hid hk; clear hk
      refine hK.out _ _ (fun _ => HK.out) ?_
      clear hK K
      have hs : (fun u => KeepF w (x :: (b, 33, (p.fd A c).cells) :: l) ((A, p.hs.length, p.hs) :: rows) u) u := HK.out
      clear HS
      have HS := Lib.hid hs; clear hs
      (try simp only [Act.put, List.setIfInBounds_toArray, List.set_cons_zero, List.set_cons_succ])
      refine Draws.take 5 (v := ?v19) HS.out rfl (by kernel_rfl) (fun _ _ _ h => h) (Or.inl ⟨rfl, ?h19⟩) ?r19
      case h19 => intro w' hw'; go_simp; (try with_reducible rfl)
      (try simp only [Act.put, List.setIfInBounds_toArray, List.set_cons_zero, List.set_cons_succ])
      refine Draws.take 6 (v := ?v20) HS.out rfl (by kernel_rfl) (fun _ _ _ h => h) (Or.inl ⟨rfl, ?h20⟩) ?r20
      case h20 => intro w' hw'; go_simp; (try with_reducible rfl)
      (try simp only [Act.put, List.setIfInBounds_toArray, List.set_cons_zero, List.set_cons_succ])
      refine Draws.take 7 (v := ?v21) HS.out rfl (by kernel_rfl) (fun _ _ _ h => h) (Or.inl ⟨rfl, ?h21⟩) ?r21
      case h21 => intro w' hw'; go_simp; (try with_reducible rfl)
      (try simp only [Act.put, List.setIfInBounds_toArray, List.set_cons_zero, List.set_cons_succ])
      refine Draws.take 8 (v := ?v22) HS.out rfl (by kernel_rfl) (fun _ _ _ h => h) (Or.inl ⟨rfl, ?h22⟩) ?r22
      case h22 => intro w' hw'; go_simp; (try with_reducible rfl)
      (try simp only [Act.put, List.setIfInBounds_toArray, List.set_cons_zero, List.set_cons_succ])
      refine Draws.take 9 (v := ?v23) HS.out rfl (by kernel_rfl) (fun _ _ _ h => h) (Or.inl ⟨rfl, ?h23⟩) ?r23
      case h23 => intro w' hw'; go_simp; (try with_reducible rfl)
      (try simp only [Act.put, List.setIfInBounds_toArray, List.set_cons_zero, List.set_cons_succ])
      refine Draws.done (by kernel_rfl) ?_
      clear HS
      go_wp2_with (first
        | (with_reducible refine load_there cbI _ rfl (HK.out.cap2 Hi.out) rfl rfl ?_)
        | (with_reducible refine load_there cbI _ rfl (HK.out.cap2 Hj.out) rfl rfl ?_))
      refine Draws.start (S := fun u : World => u.cell? ⟨cn, 0, none⟩ = some (.int .i64 n) ∧ u.cell? ⟨ck, 0, none⟩ = some (.int .i64 k)) (n := 15) 16 rfl (by kernel_rfl) ?_
      have hk := HK.out.drew
      clear HK; have HK := Lib.hid hk; clear hk
      have HS := Lib.hid (show (fun u : World => u.cell? ⟨cn, 0, none⟩ = some (.int .i64 n) ∧ u.cell? ⟨ck, 0, none⟩ = some (.int .i64 k)) _ from ⟨HK.out.cap2 Hi.out, HK.out.cap2 Hj.out⟩)
      refine Draws.take 0 (v := ?v24) HS.out rfl (by kernel_rfl) (fun _ _ _ h => h) (Or.inl ⟨rfl, ?h24⟩) ?r24
      case h24 => intro w' hw'; go_simp; (try with_reducible rfl)
      (try simp only [Act.put, List.setIfInBounds_toArray, List.set_cons_zero, List.set_cons_succ])
      refine Draws.take 1 (v := ?v25) HS.out rfl (by kernel_rfl) (fun _ _ _ h => h) (Or.inl ⟨rfl, ?h25⟩) ?r25
      case h25 => intro w' hw'; go_simp; (try with_reducible rfl)
      (try simp only [Act.put, List.setIfInBounds_toArray, List.set_cons_zero, List.set_cons_succ])
      refine Draws.take 2 (v := ?v26) HS.out rfl (by kernel_rfl) (fun _ _ _ h => h) (Or.inl ⟨rfl, ?h26⟩) ?r26
      case h26 => intro w' hw'; go_simp; (try with_reducible rfl)
      (try simp only [Act.put, List.setIfInBounds_toArray, List.set_cons_zero, List.set_cons_succ])
      refine Draws.take 3 (v := ?v27) HS.out rfl (by kernel_rfl) (fun _ _ _ h => h) (Or.inl ⟨rfl, ?h27⟩) ?r27
      case h27 => intro w' hw'; go_simp; (try with_reducible rfl)
      (try simp only [Act.put, List.setIfInBounds_toArray, List.set_cons_zero, List.set_cons_succ])
      refine Draws.take 5 HS.out rfl (by kernel_rfl) (fun _ _ _ h => h) (yield_c cbI (fun _ h => h.2) _ rfl rfl rfl) ?_
      (try simp only [Act.put, List.setIfInBounds_toArray, List.set_cons_zero, List.set_cons_succ])
      refine Draws.take 6 HS.out rfl (by kernel_rfl) (fun _ _ _ h => h) (yield_c cbI (fun _ h => h.1) _ rfl rfl rfl) ?_
      (try simp only [Act.put, List.setIfInBounds_toArray, List.set_cons_zero, List.set_cons_succ])
      refine Draws.take 7 HS.out rfl (by kernel_rfl) (fun _ _ _ h => h) (yield_neg w2 _ rfl rfl rfl) ?_
      (try simp only [Act.put, List.setIfInBounds_toArray, List.set_cons_zero, List.set_cons_succ])
      refine Draws.does 4 rfl (by kernel_rfl) rfl (fun K hK => ?_)
      refine wp_load_fr HK.out 1 Tryz.underlying28 rfl (Pf.infoC HF.out) _ rfl rfl rfl Pf.cC ?_
      refine hK.out _ _ (fun _ => HS.out) ?_
      clear hK K
      (try simp only [Act.put, List.setIfInBounds_toArray, List.set_cons_zero, List.set_cons_succ])
      refine Draws.does 8 rfl (by kernel_rfl) rfl (fun K hK => ?_)
      go_simp
      go_at_call 60
      refine (hcl _).mono ?_
      rintro e u ⟨rfl, hb⟩
      (try dsimp only)
      have hk := HK.out.call hb; clear hb; clear HK; have HK := Lib.hid hk; clear hk
      refine hK.out _ _ (fun _ => ⟨HK.out.cap2 Hi.out, HK.out.cap2 Hj.out⟩) ?_
      clear hK K
      have hs : (fun u : World => u.cell? ⟨cn, 0, none⟩ = some (.int .i64 n) ∧ u.cell? ⟨ck, 0, none⟩ = some (.int .i64 k)) u := ⟨HK.out.cap2 Hi.out, HK.out.cap2 Hj.out⟩
      clear HS
      have HS := Lib.hid hs; clear hs
      (try simp only [Act.put, List.setIfInBounds_toArray, List.set_cons_zero, List.set_cons_succ])
      refine Draws.take 9 (v := ?v28) HS.out rfl (by kernel_rfl) (fun _ _ _ h => h) (Or.inl ⟨rfl, ?h28⟩) ?r28
      case h28 => intro w' hw'; go_simp; (try with_reducible rfl)
      (try simp only [Act.put, List.setIfInBounds_toArray, List.set_cons_zero, List.set_cons_succ])
      refine Draws.take 10 (v := ?v29) HS.out rfl (by kernel_rfl) (fun _ _ _ h => h) (Or.inl ⟨rfl, ?h29⟩) ?r29
      case h29 => intro w' hw'; go_simp; (try with_reducible rfl)
      (try simp only [Act.put, List.setIfInBounds_toArray, List.set_cons_zero, List.set_cons_succ])
      refine Draws.take 11 (v := ?v30) HS.out rfl (by kernel_rfl) (fun _ _ _ h => h) (Or.inl ⟨rfl, ?h30⟩) ?r30
      case h30 => intro w' hw'; go_simp; (try with_reducible rfl)
      (try simp only [Act.put, List.setIfInBounds_toArray, List.set_cons_zero, List.set_cons_succ])
      refine Draws.take 12 (v := ?v31) HS.out rfl (by kernel_rfl) (fun _ _ _ h => h) (Or.inl ⟨rfl, ?h31⟩) ?r31
      case h31 => intro w' hw'; go_simp; (try with_reducible rfl)
      (try simp only [Act.put, List.setIfInBounds_toArray, List.set_cons_zero, List.set_cons_succ])
      refine Draws.take 13 (v := ?v32) HS.out rfl (by kernel_rfl) (fun _ _ _ h => h) (Or.inl ⟨rfl, ?h32⟩) ?r32
      case h32 => intro w' hw'; go_simp; (try with_reducible rfl)
      (try simp only [Act.put, List.setIfInBounds_toArray, List.set_cons_zero, List.set_cons_succ])
      refine Draws.does 14 rfl (by kernel_rfl) rfl (fun K hK => ?_)
      refine wp_store_fr HK.out 1 (infoC HA.out) (vals_all _) rfl _ _ rfl rfl rfl rfl (Fd.leC HF.out HA.out) (Pf.toC HF.out HA.out) ?_
      intro u hk he; clear he; simp only [List.set_cons_zero, List.set_cons_succ] at hk; clear HK; have HK := Lib.hid hk; clear hk
      refine hK.out _ _ (fun _ => ⟨HK.out.cap2 Hi.out, HK.out.cap2 Hj.out⟩) ?_
      clear hK K
      have hs : (fun u : World => u.cell? ⟨cn, 0, none⟩ = some (.int .i64 n) ∧ u.cell? ⟨ck, 0, none⟩ = some (.int .i64 k)) u := ⟨HK.out.cap2 Hi.out, HK.out.cap2 Hj.out⟩
      clear HS
      have HS := Lib.hid hs; clear hs
      (try simp only [Act.put, List.setIfInBounds_toArray, List.set_cons_zero, List.set_cons_succ])
      refine Draws.does 15 rfl (by kernel_rfl) rfl (fun K hK => ?_)
      go_simp
      refine hK.out _ _ (fun h => absurd h (by decide)) ?_
      clear hK K
      (try simp only [Act.put, List.setIfInBounds_toArray, List.set_cons_zero, List.set_cons_succ])
      refine Draws.done (by kernel_rfl) ?_
      clear HS
      go_wp2
      go_ret
      exact ⟨rfl, HK.out⟩
set_option maxHeartbeats 2000000 in
theorem cl_hand (p : Pf) (hp : p.full) (k1 : p.k = 1) (i k d t : Int) {ci cd ck cu : Nat} (q0 : Nat) (hq0 : l[q0]? = some (ci, 3, [.int .i64 i])) (q1 : Nat) (hq1 : l[q1]? = some (cd, 3, [.int .i64 d])) (q2 : Nat) (hq2 : l[q2]? = some (ck, 3, [.int .i64 k])) (q3 : Nat) (hq3 : l[q3]? = some (cu, 3, [.int .i64 t])) (hk : KeepF w (x :: (b, 33, (p.fd A c).cells) :: l) ((A, p.hs.length, p.hs) :: rows) u) :
    Calls Tryz.prog 64 #[.pointer (some ⟨b, 0, none⟩), .pointer (some ⟨ci, 0, none⟩), .pointer (some ⟨cd, 0, none⟩), .pointer (some ⟨ck, 0, none⟩), .pointer (some ⟨cu, 0, none⟩)] u fun e u' => e = .returned (.int .i64 (handPE p i k d t)) ∧ KeepF w (x :: (b, 33, ((p.setC (handPC p i k d t)).fd A c).cells) :: l) ((A, p.hs.length, p.hs) :: rows) u' := by
  have HK := Lib.hid hk; clear hk
  have HF := Lib.hid hp; clear hp
  have Hq0 := Lib.hid hq0; clear hq0
  have Hq1 := Lib.hid hq1; clear hq1
  have Hq2 := Lib.hid hq2; clear hq2
  have Hq3 := Lib.hid hq3; clear hq3
  have hlo := fun w h => lok (A := A) (c := c) HF.out i w h
  have e1 : handPE p i k d t = if looseP p i < d then 8 else handE p.C i k d t := by simp [handPE, k1]
  have e2 : handPC p i k d t = if looseP p i < d then p.C else handA p.C i k d t := rfl
  rw [e1, e2]
  clear e1 e2
  generalize looseP p i = z at hlo ⊢
  generalize looseU (p.fd A c) i = d2 at hlo
  by_cases h1 : z < d
  · rw [if_pos h1, if_pos h1]
    have d1 : decide (z < d) = true := by simpa using h1
    go_enter Tryz.func64, Tryz.ntmps64
    go_wp2_with (first
      | (with_reducible refine load_there cbI _ rfl (HK.out.cap2 Hq0.out) rfl rfl ?_)
      | (with_reducible refine load_there cbI _ rfl (HK.out.cap2 Hq1.out) rfl rfl ?_)
      | (with_reducible refine load_there cbI _ rfl (HK.out.cap2 Hq2.out) rfl rfl ?_)
      | (with_reducible refine load_there cbI _ rfl (HK.out.cap2 Hq3.out) rfl rfl ?_))
    refine Draws.start (S := fun u => KeepF w (x :: (b, 33, (p.fd A c).cells) :: l) ((A, p.hs.length, p.hs) :: rows) u) (n := 10) 10 rfl (by kernel_rfl) ?_
    have hk := HK.out.drew
    clear HK; have HK := Lib.hid hk; clear hk
    have HS := Lib.hid (show (fun u => KeepF w (x :: (b, 33, (p.fd A c).cells) :: l) ((A, p.hs.length, p.hs) :: rows) u) _ from HK.out)
    refine Draws.take 0 (v := ?v33) HS.out rfl (by kernel_rfl) (fun _ _ _ h => h) (Or.inl ⟨rfl, ?h33⟩) ?r33
    case h33 => intro w' hw'; go_simp; (try with_reducible rfl)
    (try simp only [Act.put, List.setIfInBounds_toArray, List.set_cons_zero, List.set_cons_succ])
    refine Draws.take 1 (v := ?v34) HS.out rfl (by kernel_rfl) (fun _ _ _ h => h) (Or.inl ⟨rfl, ?h34⟩) ?r34
    case h34 => intro w' hw'; go_simp; (try with_reducible rfl)
    (try simp only [Act.put, List.setIfInBounds_toArray, List.set_cons_zero, List.set_cons_succ])
    refine Draws.take 2 HS.out rfl (by kernel_rfl) (fun _ _ _ h => h) (yield_fr (fun _ h => h) 1 Tryz.underlying33 rfl (Pf.infoF HF.out) _ rfl rfl rfl rfl Pf.all) ?_
    (try simp only [Act.put, List.setIfInBounds_toArray, List.set_cons_zero, List.set_cons_succ])
    refine Draws.take 3 HS.out rfl (by kernel_rfl) (fun _ _ _ h => h) (yield_c cbI (fun _ h => h.cap2 Hq0.out) _ rfl rfl rfl) ?_
    (try simp only [Act.put, List.setIfInBounds_toArray, List.set_cons_zero, List.set_cons_succ])
    refine Draws.does 4 rfl (by kernel_rfl) rfl (fun K hK => ?_)
    go_simp
    go_at_call 13
    refine (hlo _ (HK.out.rowAt 0 rfl)).mono ?_
    rintro e u ⟨rfl, hb⟩
    (try dsimp only)
    have hk := HK.out.call hb; clear hb; clear HK; have HK := Lib.hid hk; clear hk
    refine hK.out _ _ (fun _ => HK.out) ?_
    clear hK K
    have hs : (fun u => KeepF w (x :: (b, 33, (p.fd A c).cells) :: l) ((A, p.hs.length, p.hs) :: rows) u) u := HK.out
    clear HS
    have HS := Lib.hid hs; clear hs
    (try simp only [Act.put, List.setIfInBounds_toArray, List.set_cons_zero, List.set_cons_succ])
    refine Draws.take 5 (v := ?v35) HS.out rfl (by kernel_rfl) (fun _ _ _ h => h) (Or.inl ⟨rfl, ?h35⟩) ?r35
    case h35 => intro w' hw'; go_simp; (try with_reducible rfl)
    (try simp only [Act.put, List.setIfInBounds_toArray, List.set_cons_zero, List.set_cons_succ])
    refine Draws.take 6 (v := ?v36) HS.out rfl (by kernel_rfl) (fun _ _ _ h => h) (Or.inl ⟨rfl, ?h36⟩) ?r36
    case h36 => intro w' hw'; go_simp; (try with_reducible rfl)
    (try simp only [Act.put, List.setIfInBounds_toArray, List.set_cons_zero, List.set_cons_succ])
    refine Draws.take 7 (v := ?v37) HS.out rfl (by kernel_rfl) (fun _ _ _ h => h) (Or.inl ⟨rfl, ?h37⟩) ?r37
    case h37 => intro w' hw'; go_simp; (try with_reducible rfl)
    (try simp only [Act.put, List.setIfInBounds_toArray, List.set_cons_zero, List.set_cons_succ])
    refine Draws.take 8 (v := ?v38) HS.out rfl (by kernel_rfl) (fun _ _ _ h => h) (Or.inl ⟨rfl, ?h38⟩) ?r38
    case h38 => intro w' hw'; go_simp; (try with_reducible rfl)
    (try simp only [Act.put, List.setIfInBounds_toArray, List.set_cons_zero, List.set_cons_succ])
    refine Draws.take 9 (v := ?v39) HS.out rfl (by kernel_rfl) (fun _ _ _ h => h) (Or.inl ⟨rfl, ?h39⟩) ?r39
    case h39 => intro w' hw'; go_simp; (try with_reducible rfl)
    (try simp only [Act.put, List.setIfInBounds_toArray, List.set_cons_zero, List.set_cons_succ])
    refine Draws.done (by kernel_rfl) ?_
    clear HS
    go_wp2_with (first
      | (with_reducible refine load_there cbI _ rfl (HK.out.cap2 Hq0.out) rfl rfl ?_)
      | (with_reducible refine load_there cbI _ rfl (HK.out.cap2 Hq1.out) rfl rfl ?_)
      | (with_reducible refine load_there cbI _ rfl (HK.out.cap2 Hq2.out) rfl rfl ?_)
      | (with_reducible refine load_there cbI _ rfl (HK.out.cap2 Hq3.out) rfl rfl ?_))
    go_ret
    exact ⟨rfl, by rw [Pf.setC_self]; exact HK.out⟩
  · rw [if_neg h1, if_neg h1]
    have d1 : decide (z < d) = false := by simpa using h1
    have HA := Lib.hid (handA_length HF.out i k d t)
    have hcl := hand_any p.C HF.out i k d t
    generalize handA p.C i k d t = D at hcl HA ⊢
    generalize handE p.C i k d t = E at hcl ⊢
    go_enter Tryz.func64, Tryz.ntmps64
    go_wp2_with (first
      | (with_reducible refine load_there cbI _ rfl (HK.out.cap2 Hq0.out) rfl rfl ?_)
      | (with_reducible refine load_there cbI _ rfl (HK.out.cap2 Hq1.out) rfl rfl ?_)
      | (with_reducible refine load_there cbI _ rfl (HK.out.cap2 Hq2.out) rfl rfl ?_)
      | (with_reducible refine load_there cbI _ rfl (HK.out.cap2 Hq3.out) rfl rfl ?_))
    refine Draws.start (S := fun u => KeepF w (x :: (b, 33, (p.fd A c).cells) :: l) ((A, p.hs.length, p.hs) :: rows) u) (n := 10) 10 rfl (by kernel_rfl) ?_
    have hk := HK.out.drew
    clear HK; have HK := Lib.hid hk; clear hk
    have HS := Lib.hid (show (fun u => KeepF w (x :: (b, 33, (p.fd A c).cells) :: l) ((A, p.hs.length, p.hs) :: rows) u) _ from HK.out)
    refine Draws.take 0 (v := ?v40) HS.out rfl (by kernel_rfl) (fun _ _ _ h => h) (Or.inl ⟨rfl, ?h40⟩) ?r40
    case h40 => intro w' hw'; go_simp; (try with_reducible rfl)
    (try simp only [Act.put, List.setIfInBounds_toArray, List.set_cons_zero, List.set_cons_succ])
    refine Draws.take 1 (v := ?v41) HS.out rfl (by kernel_rfl) (fun _ _ _ h => h) (Or.inl ⟨rfl, ?h41⟩) ?r41
    case h41 => intro w' hw'; go_simp; (try with_reducible rfl)
    (try simp only [Act.put, List.setIfInBounds_toArray, List.set_cons_zero, List.set_cons_succ])
    refine Draws.take 2 HS.out rfl (by kernel_rfl) (fun _ _ _ h => h) (yield_fr (fun _ h => h) 1 Tryz.underlying33 rfl (Pf.infoF HF.out) _ rfl rfl rfl rfl Pf.all) ?_
    (try simp only [Act.put, List.setIfInBounds_toArray, List.set_cons_zero, List.set_cons_succ])
    refine Draws.take 3 HS.out rfl (by kernel_rfl) (fun _ _ _ h => h) (yield_c cbI (fun _ h => h.cap2 Hq0.out) _ rfl rfl rfl) ?_
    (try simp only [Act.put, List.setIfInBounds_toArray, List.set_cons_zero, List.set_cons_succ])
    refine Draws.does 4 rfl (by kernel_rfl) rfl (fun K hK => ?_)
    go_simp
    go_at_call 13
    refine (hlo _ (HK.out.rowAt 0 rfl)).mono ?_
    rintro e u ⟨rfl, hb⟩
    (try dsimp only)
    have hk := HK.out.call hb; clear hb; clear HK; have HK := Lib.hid hk; clear hk
    refine hK.out _ _ (fun _ => HK.out) ?_
    clear hK K
    have hs : (fun u => KeepF w (x :: (b, 33, (p.fd A c).cells) :: l) ((A, p.hs.length, p.hs) :: rows) u) u := HK.out
    clear HS
    have HS := Lib.hid hs; clear hs
    (try simp only [Act.put, List.setIfInBounds_toArray, List.set_cons_zero, List.set_cons_succ])
    refine Draws.take 5 (v := ?v42) HS.out rfl (by kernel_rfl) (fun _ _ _ h => h) (Or.inl ⟨rfl, ?h42⟩) ?r42
    case h42 => intro w' hw'; go_simp; (try with_reducible rfl)
    (try simp only [Act.put, List.setIfInBounds_toArray, List.set_cons_zero, List.set_cons_succ])
    refine Draws.take 6 (v := ?v43) HS.out rfl (by kernel_rfl) (fun _ _ _ h => h) (Or.inl ⟨rfl, ?h43⟩) ?r43
    case h43 => intro w' hw'; go_simp; (try with_reducible rfl)
    (try simp only [Act.put, List.setIfInBounds_toArray, List.set_cons_zero, List.set_cons_succ])
    refine Draws.take 7 (v := ?v44) HS.out rfl (by kernel_rfl) (fun _ _ _ h => h) (Or.inl ⟨rfl, ?h44⟩) ?r44
    case h44 => intro w' hw'; go_simp; (try with_reducible rfl)
    (try simp only [Act.put, List.setIfInBounds_toArray, List.set_cons_zero, List.set_cons_succ])
    refine Draws.take 8 (v := ?v45) HS.out rfl (by kernel_rfl) (fun _ _ _ h => h) (Or.inl ⟨rfl, ?h45⟩) ?r45
    case h45 => intro w' hw'; go_simp; (try with_reducible rfl)
    (try simp only [Act.put, List.setIfInBounds_toArray, List.set_cons_zero, List.set_cons_succ])
    refine Draws.take 9 (v := ?v46) HS.out rfl (by kernel_rfl) (fun _ _ _ h => h) (Or.inl ⟨rfl, ?h46⟩) ?r46
    case h46 => intro w' hw'; go_simp; (try with_reducible rfl)
    (try simp only [Act.put, List.setIfInBounds_toArray, List.set_cons_zero, List.set_cons_succ])
    refine Draws.done (by kernel_rfl) ?_
    clear HS
    go_wp2_with (first
      | (with_reducible refine load_there cbI _ rfl (HK.out.cap2 Hq0.out) rfl rfl ?_)
      | (with_reducible refine load_there cbI _ rfl (HK.out.cap2 Hq1.out) rfl rfl ?_)
      | (with_reducible refine load_there cbI _ rfl (HK.out.cap2 Hq2.out) rfl rfl ?_)
      | (with_reducible refine load_there cbI _ rfl (HK.out.cap2 Hq3.out) rfl rfl ?_))
    refine Draws.start (S := fun u : World => u.cell? ⟨ci, 0, none⟩ = some (.int .i64 i) ∧ u.cell? ⟨cd, 0, none⟩ = some (.int .i64 d) ∧ u.cell? ⟨ck, 0, none⟩ = some (.int .i64 k) ∧ u.cell? ⟨cu, 0, none⟩ = some (.int .i64 t)) (n := 16) 17 rfl (by kernel_rfl) ?_
    have hk := HK.out.drew
    clear HK; have HK := Lib.hid hk; clear hk
    have HS := Lib.hid (show (fun u : World => u.cell? ⟨ci, 0, none⟩ = some (.int .i64 i) ∧ u.cell? ⟨cd, 0, none⟩ = some (.int .i64 d) ∧ u.cell? ⟨ck, 0, none⟩ = some (.int .i64 k) ∧ u.cell? ⟨cu, 0, none⟩ = some (.int .i64 t)) _ from ⟨HK.out.cap2 Hq0.out, HK.out.cap2 Hq1.out, HK.out.cap2 Hq2.out, HK.out.cap2 Hq3.out⟩)
    refine Draws.take 0 (v := ?v47) HS.out rfl (by kernel_rfl) (fun _ _ _ h => h) (Or.inl ⟨rfl, ?h47⟩) ?r47
    case h47 => intro w' hw'; go_simp; (try with_reducible rfl)
    (try simp only [Act.put, List.setIfInBounds_toArray, List.set_cons_zero, List.set_cons_succ])
    refine Draws.take 1 (v := ?v48) HS.out rfl (by kernel_rfl) (fun _ _ _ h => h) (Or.inl ⟨rfl, ?h48⟩) ?r48
    case h48 => intro w' hw'; go_simp; (try with_reducible rfl)
    (try simp only [Act.put, List.setIfInBounds_toArray, List.set_cons_zero, List.set_cons_succ])
    refine Draws.take 2 (v := ?v49) HS.out rfl (by kernel_rfl) (fun _ _ _ h => h) (Or.inl ⟨rfl, ?h49⟩) ?r49
    case h49 => intro w' hw'; go_simp; (try with_reducible rfl)
    (try simp only [Act.put, List.setIfInBounds_toArray, List.set_cons_zero, List.set_cons_succ])
    refine Draws.take 3 (v := ?v50) HS.out rfl (by kernel_rfl) (fun _ _ _ h => h) (Or.inl ⟨rfl, ?h50⟩) ?r50
    case h50 => intro w' hw'; go_simp; (try with_reducible rfl)
    (try simp only [Act.put, List.setIfInBounds_toArray, List.set_cons_zero, List.set_cons_succ])
    refine Draws.take 5 HS.out rfl (by kernel_rfl) (fun _ _ _ h => h) (yield_c cbI (fun _ h => h.1) _ rfl rfl rfl) ?_
    (try simp only [Act.put, List.setIfInBounds_toArray, List.set_cons_zero, List.set_cons_succ])
    refine Draws.take 6 HS.out rfl (by kernel_rfl) (fun _ _ _ h => h) (yield_c cbI (fun _ h => h.2.2.1) _ rfl rfl rfl) ?_
    (try simp only [Act.put, List.setIfInBounds_toArray, List.set_cons_zero, List.set_cons_succ])
    refine Draws.take 7 HS.out rfl (by kernel_rfl) (fun _ _ _ h => h) (yield_c cbI (fun _ h => h.2.1) _ rfl rfl rfl) ?_
    (try simp only [Act.put, List.setIfInBounds_toArray, List.set_cons_zero, List.set_cons_succ])
    refine Draws.take 8 HS.out rfl (by kernel_rfl) (fun _ _ _ h => h) (yield_c cbI (fun _ h => h.2.2.2) _ rfl rfl rfl) ?_
    (try simp only [Act.put, List.setIfInBounds_toArray, List.set_cons_zero, List.set_cons_succ])
    refine Draws.does 4 rfl (by kernel_rfl) rfl (fun K hK => ?_)
    refine wp_load_fr HK.out 1 Tryz.underlying28 rfl (Pf.infoC HF.out) _ rfl rfl rfl Pf.cC ?_
    refine hK.out _ _ (fun _ => HS.out) ?_
    clear hK K
    (try simp only [Act.put, List.setIfInBounds_toArray, List.set_cons_zero, List.set_cons_succ])
    refine Draws.does 9 rfl (by kernel_rfl) rfl (fun K hK => ?_)
    go_simp
    go_at_call 65
    refine (hcl _).mono ?_
    rintro e u ⟨rfl, hb⟩
    (try dsimp only)
    have hk := HK.out.call hb; clear hb; clear HK; have HK := Lib.hid hk; clear hk
    refine hK.out _ _ (fun _ => ⟨HK.out.cap2 Hq0.out, HK.out.cap2 Hq1.out, HK.out.cap2 Hq2.out, HK.out.cap2 Hq3.out⟩) ?_
    clear hK K
    have hs : (fun u : World => u.cell? ⟨ci, 0, none⟩ = some (.int .i64 i) ∧ u.cell? ⟨cd, 0, none⟩ = some (.int .i64 d) ∧ u.cell? ⟨ck, 0, none⟩ = some (.int .i64 k) ∧ u.cell? ⟨cu, 0, none⟩ = some (.int .i64 t)) u := ⟨HK.out.cap2 Hq0.out, HK.out.cap2 Hq1.out, HK.out.cap2 Hq2.out, HK.out.cap2 Hq3.out⟩
    clear HS
    have HS := Lib.hid hs; clear hs
    (try simp only [Act.put, List.setIfInBounds_toArray, List.set_cons_zero, List.set_cons_succ])
    refine Draws.take 10 (v := ?v51) HS.out rfl (by kernel_rfl) (fun _ _ _ h => h) (Or.inl ⟨rfl, ?h51⟩) ?r51
    case h51 => intro w' hw'; go_simp; (try with_reducible rfl)
    (try simp only [Act.put, List.setIfInBounds_toArray, List.set_cons_zero, List.set_cons_succ])
    refine Draws.take 11 (v := ?v52) HS.out rfl (by kernel_rfl) (fun _ _ _ h => h) (Or.inl ⟨rfl, ?h52⟩) ?r52
    case h52 => intro w' hw'; go_simp; (try with_reducible rfl)
    (try simp only [Act.put, List.setIfInBounds_toArray, List.set_cons_zero, List.set_cons_succ])
    refine Draws.take 12 (v := ?v53) HS.out rfl (by kernel_rfl) (fun _ _ _ h => h) (Or.inl ⟨rfl, ?h53⟩) ?r53
    case h53 => intro w' hw'; go_simp; (try with_reducible rfl)
    (try simp only [Act.put, List.setIfInBounds_toArray, List.set_cons_zero, List.set_cons_succ])
    refine Draws.take 13 (v := ?v54) HS.out rfl (by kernel_rfl) (fun _ _ _ h => h) (Or.inl ⟨rfl, ?h54⟩) ?r54
    case h54 => intro w' hw'; go_simp; (try with_reducible rfl)
    (try simp only [Act.put, List.setIfInBounds_toArray, List.set_cons_zero, List.set_cons_succ])
    refine Draws.take 14 (v := ?v55) HS.out rfl (by kernel_rfl) (fun _ _ _ h => h) (Or.inl ⟨rfl, ?h55⟩) ?r55
    case h55 => intro w' hw'; go_simp; (try with_reducible rfl)
    (try simp only [Act.put, List.setIfInBounds_toArray, List.set_cons_zero, List.set_cons_succ])
    refine Draws.does 15 rfl (by kernel_rfl) rfl (fun K hK => ?_)
    refine wp_store_fr HK.out 1 (infoC HA.out) (vals_all _) rfl _ _ rfl rfl rfl rfl (Fd.leC HF.out HA.out) (Pf.toC HF.out HA.out) ?_
    intro u hk he; clear he; simp only [List.set_cons_zero, List.set_cons_succ] at hk; clear HK; have HK := Lib.hid hk; clear hk
    refine hK.out _ _ (fun _ => ⟨HK.out.cap2 Hq0.out, HK.out.cap2 Hq1.out, HK.out.cap2 Hq2.out, HK.out.cap2 Hq3.out⟩) ?_
    clear hK K
    have hs : (fun u : World => u.cell? ⟨ci, 0, none⟩ = some (.int .i64 i) ∧ u.cell? ⟨cd, 0, none⟩ = some (.int .i64 d) ∧ u.cell? ⟨ck, 0, none⟩ = some (.int .i64 k) ∧ u.cell? ⟨cu, 0, none⟩ = some (.int .i64 t)) u := ⟨HK.out.cap2 Hq0.out, HK.out.cap2 Hq1.out, HK.out.cap2 Hq2.out, HK.out.cap2 Hq3.out⟩
    clear HS
    have HS := Lib.hid hs; clear hs
    (try simp only [Act.put, List.setIfInBounds_toArray, List.set_cons_zero, List.set_cons_succ])
    refine Draws.does 16 rfl (by kernel_rfl) rfl (fun K hK => ?_)
    go_simp
    refine hK.out _ _ (fun h => absurd h (by decide)) ?_
    clear hK K
    (try simp only [Act.put, List.setIfInBounds_toArray, List.set_cons_zero, List.set_cons_succ])
    refine Draws.done (by kernel_rfl) ?_
    clear HS
    go_wp2
    go_ret
    exact ⟨rfl, HK.out⟩
set_option maxHeartbeats 2000000 in
theorem cl_write (p : Pf) (hp : p.full) (k n : Int) {ck cn : Nat} (i : Nat) (hi : l[i]? = some (ck, 3, [.int .i64 k])) (j : Nat) (hj : l[j]? = some (cn, 3, [.int .i64 n])) (hk : KeepF w (x :: (b, 33, (p.fd A c).cells) :: l) ((A, p.hs.length, p.hs) :: rows) u) :
    Calls Tryz.prog 67 #[.pointer (some ⟨b, 0, none⟩), .pointer (some ⟨ck, 0, none⟩), .pointer (some ⟨cn, 0, none⟩)] u fun e u' => e = .returned (.int .i64 (wrE p.L k n)) ∧ KeepF w (x :: (b, 33, ((p.setL (wrA p.L k n)).fd A c).cells) :: l) ((A, p.hs.length, p.hs) :: rows) u' := by
  have HK := Lib.hid hk; clear hk
  have HF := Lib.hid hp; clear hp
  have Hi := Lib.hid hi; clear hi
  have Hj := Lib.hid hj; clear hj
  have hcl := write_any p.L k n
  generalize wrA p.L k n = D at hcl ⊢
  generalize wrE p.L k n = E at hcl ⊢
  go_enter Tryz.func67, Tryz.ntmps67
  go_wp2
  refine Draws.start (S := fun u : World => u.cell? ⟨ck, 0, none⟩ = some (.int .i64 k) ∧ u.cell? ⟨cn, 0, none⟩ = some (.int .i64 n)) (n := 14) 15 rfl (by kernel_rfl) ?_
  have hk := HK.out.drew
  clear HK; have HK := Lib.hid hk; clear hk
  have HS := Lib.hid (show (fun u : World => u.cell? ⟨ck, 0, none⟩ = some (.int .i64 k) ∧ u.cell? ⟨cn, 0, none⟩ = some (.int .i64 n)) _ from ⟨HK.out.cap2 Hi.out, HK.out.cap2 Hj.out⟩)
  refine Draws.take 0 (v := ?v56) HS.out rfl (by kernel_rfl) (fun _ _ _ h => h) (Or.inl ⟨rfl, ?h56⟩) ?r56
  case h56 => intro w' hw'; go_simp; (try with_reducible rfl)
  (try simp only [Act.put, List.setIfInBounds_toArray, List.set_cons_zero, List.set_cons_succ])
  refine Draws.take 1 (v := ?v57) HS.out rfl (by kernel_rfl) (fun _ _ _ h => h) (Or.inl ⟨rfl, ?h57⟩) ?r57
  case h57 => intro w' hw'; go_simp; (try with_reducible rfl)
  (try simp only [Act.put, List.setIfInBounds_toArray, List.set_cons_zero, List.set_cons_succ])
  refine Draws.take 2 (v := ?v58) HS.out rfl (by kernel_rfl) (fun _ _ _ h => h) (Or.inl ⟨rfl, ?h58⟩) ?r58
  case h58 => intro w' hw'; go_simp; (try with_reducible rfl)
  (try simp only [Act.put, List.setIfInBounds_toArray, List.set_cons_zero, List.set_cons_succ])
  refine Draws.take 3 (v := ?v59) HS.out rfl (by kernel_rfl) (fun _ _ _ h => h) (Or.inl ⟨rfl, ?h59⟩) ?r59
  case h59 => intro w' hw'; go_simp; (try with_reducible rfl)
  (try simp only [Act.put, List.setIfInBounds_toArray, List.set_cons_zero, List.set_cons_succ])
  refine Draws.take 5 HS.out rfl (by kernel_rfl) (fun _ _ _ h => h) (yield_c cbI (fun _ h => h.1) _ rfl rfl rfl) ?_
  (try simp only [Act.put, List.setIfInBounds_toArray, List.set_cons_zero, List.set_cons_succ])
  refine Draws.take 6 HS.out rfl (by kernel_rfl) (fun _ _ _ h => h) (yield_c cbI (fun _ h => h.2) _ rfl rfl rfl) ?_
  (try simp only [Act.put, List.setIfInBounds_toArray, List.set_cons_zero, List.set_cons_succ])
  refine Draws.does 4 rfl (by kernel_rfl) rfl (fun K hK => ?_)
  refine wp_load_fr HK.out 1 Tryz.underlying30 rfl (l_infoF _) _ rfl rfl rfl (Pf.cL HF.out) ?_
  refine hK.out _ _ (fun _ => HS.out) ?_
  clear hK K
  (try simp only [Act.put, List.setIfInBounds_toArray, List.set_cons_zero, List.set_cons_succ])
  refine Draws.does 7 rfl (by kernel_rfl) rfl (fun K hK => ?_)
  go_simp
  go_at_call 68
  refine (hcl _).mono ?_
  rintro e u ⟨rfl, hb⟩
  (try dsimp only)
  have hk := HK.out.call hb; clear hb; clear HK; have HK := Lib.hid hk; clear hk
  refine hK.out _ _ (fun _ => ⟨HK.out.cap2 Hi.out, HK.out.cap2 Hj.out⟩) ?_
  clear hK K
  have hs : (fun u : World => u.cell? ⟨ck, 0, none⟩ = some (.int .i64 k) ∧ u.cell? ⟨cn, 0, none⟩ = some (.int .i64 n)) u := ⟨HK.out.cap2 Hi.out, HK.out.cap2 Hj.out⟩
  clear HS
  have HS := Lib.hid hs; clear hs
  (try simp only [Act.put, List.setIfInBounds_toArray, List.set_cons_zero, List.set_cons_succ])
  refine Draws.take 8 (v := ?v60) HS.out rfl (by kernel_rfl) (fun _ _ _ h => h) (Or.inl ⟨rfl, ?h60⟩) ?r60
  case h60 => intro w' hw'; go_simp; (try with_reducible rfl)
  (try simp only [Act.put, List.setIfInBounds_toArray, List.set_cons_zero, List.set_cons_succ])
  refine Draws.take 9 (v := ?v61) HS.out rfl (by kernel_rfl) (fun _ _ _ h => h) (Or.inl ⟨rfl, ?h61⟩) ?r61
  case h61 => intro w' hw'; go_simp; (try with_reducible rfl)
  (try simp only [Act.put, List.setIfInBounds_toArray, List.set_cons_zero, List.set_cons_succ])
  refine Draws.take 10 (v := ?v62) HS.out rfl (by kernel_rfl) (fun _ _ _ h => h) (Or.inl ⟨rfl, ?h62⟩) ?r62
  case h62 => intro w' hw'; go_simp; (try with_reducible rfl)
  (try simp only [Act.put, List.setIfInBounds_toArray, List.set_cons_zero, List.set_cons_succ])
  refine Draws.take 11 (v := ?v63) HS.out rfl (by kernel_rfl) (fun _ _ _ h => h) (Or.inl ⟨rfl, ?h63⟩) ?r63
  case h63 => intro w' hw'; go_simp; (try with_reducible rfl)
  (try simp only [Act.put, List.setIfInBounds_toArray, List.set_cons_zero, List.set_cons_succ])
  refine Draws.take 12 (v := ?v64) HS.out rfl (by kernel_rfl) (fun _ _ _ h => h) (Or.inl ⟨rfl, ?h64⟩) ?r64
  case h64 => intro w' hw'; go_simp; (try with_reducible rfl)
  (try simp only [Act.put, List.setIfInBounds_toArray, List.set_cons_zero, List.set_cons_succ])
  refine Draws.does 13 rfl (by kernel_rfl) rfl (fun K hK => ?_)
  refine wp_store_fr HK.out 1 (l_infoF _) (vals_all _) rfl _ _ rfl rfl rfl rfl (Fd.leL HF.out) (Pf.toL HF.out _) ?_
  intro u hk he; clear he; simp only [List.set_cons_zero, List.set_cons_succ] at hk; clear HK; have HK := Lib.hid hk; clear hk
  refine hK.out _ _ (fun _ => ⟨HK.out.cap2 Hi.out, HK.out.cap2 Hj.out⟩) ?_
  clear hK K
  have hs : (fun u : World => u.cell? ⟨ck, 0, none⟩ = some (.int .i64 k) ∧ u.cell? ⟨cn, 0, none⟩ = some (.int .i64 n)) u := ⟨HK.out.cap2 Hi.out, HK.out.cap2 Hj.out⟩
  clear HS
  have HS := Lib.hid hs; clear hs
  (try simp only [Act.put, List.setIfInBounds_toArray, List.set_cons_zero, List.set_cons_succ])
  refine Draws.does 14 rfl (by kernel_rfl) rfl (fun K hK => ?_)
  go_simp
  refine hK.out _ _ (fun h => absurd h (by decide)) ?_
  clear hK K
  (try simp only [Act.put, List.setIfInBounds_toArray, List.set_cons_zero, List.set_cons_succ])
  refine Draws.done (by kernel_rfl) ?_
  clear HS
  go_wp2
  go_ret
  exact ⟨rfl, HK.out⟩
set_option maxHeartbeats 2000000 in
theorem cl_pass (p : Pf) (hp : p.full) (k n : Int) {ck cn : Nat} (i : Nat) (hi : l[i]? = some (ck, 3, [.int .i64 k])) (j : Nat) (hj : l[j]? = some (cn, 3, [.int .i64 n])) (hk : KeepF w (x :: (b, 33, (p.fd A c).cells) :: l) ((A, p.hs.length, p.hs) :: rows) u) :
    Calls Tryz.prog 70 #[.pointer (some ⟨b, 0, none⟩), .pointer (some ⟨ck, 0, none⟩), .pointer (some ⟨cn, 0, none⟩)] u fun e u' => e = .returned (.int .i64 (psE p.L k n)) ∧ KeepF w (x :: (b, 33, ((p.setL (psA p.L k n)).fd A c).cells) :: l) ((A, p.hs.length, p.hs) :: rows) u' := by
  have HK := Lib.hid hk; clear hk
  have HF := Lib.hid hp; clear hp
  have Hi := Lib.hid hi; clear hi
  have Hj := Lib.hid hj; clear hj
  have hcl := pass_any p.L k n
  generalize psA p.L k n = D at hcl ⊢
  generalize psE p.L k n = E at hcl ⊢
  go_enter Tryz.func70, Tryz.ntmps70
  go_wp2
  refine Draws.start (S := fun u : World => u.cell? ⟨ck, 0, none⟩ = some (.int .i64 k) ∧ u.cell? ⟨cn, 0, none⟩ = some (.int .i64 n)) (n := 14) 15 rfl (by kernel_rfl) ?_
  have hk := HK.out.drew
  clear HK; have HK := Lib.hid hk; clear hk
  have HS := Lib.hid (show (fun u : World => u.cell? ⟨ck, 0, none⟩ = some (.int .i64 k) ∧ u.cell? ⟨cn, 0, none⟩ = some (.int .i64 n)) _ from ⟨HK.out.cap2 Hi.out, HK.out.cap2 Hj.out⟩)
  refine Draws.take 0 (v := ?v65) HS.out rfl (by kernel_rfl) (fun _ _ _ h => h) (Or.inl ⟨rfl, ?h65⟩) ?r65
  case h65 => intro w' hw'; go_simp; (try with_reducible rfl)
  (try simp only [Act.put, List.setIfInBounds_toArray, List.set_cons_zero, List.set_cons_succ])
  refine Draws.take 1 (v := ?v66) HS.out rfl (by kernel_rfl) (fun _ _ _ h => h) (Or.inl ⟨rfl, ?h66⟩) ?r66
  case h66 => intro w' hw'; go_simp; (try with_reducible rfl)
  (try simp only [Act.put, List.setIfInBounds_toArray, List.set_cons_zero, List.set_cons_succ])
  refine Draws.take 2 (v := ?v67) HS.out rfl (by kernel_rfl) (fun _ _ _ h => h) (Or.inl ⟨rfl, ?h67⟩) ?r67
  case h67 => intro w' hw'; go_simp; (try with_reducible rfl)
  (try simp only [Act.put, List.setIfInBounds_toArray, List.set_cons_zero, List.set_cons_succ])
  refine Draws.take 3 (v := ?v68) HS.out rfl (by kernel_rfl) (fun _ _ _ h => h) (Or.inl ⟨rfl, ?h68⟩) ?r68
  case h68 => intro w' hw'; go_simp; (try with_reducible rfl)
  (try simp only [Act.put, List.setIfInBounds_toArray, List.set_cons_zero, List.set_cons_succ])
  refine Draws.take 5 HS.out rfl (by kernel_rfl) (fun _ _ _ h => h) (yield_c cbI (fun _ h => h.1) _ rfl rfl rfl) ?_
  (try simp only [Act.put, List.setIfInBounds_toArray, List.set_cons_zero, List.set_cons_succ])
  refine Draws.take 6 HS.out rfl (by kernel_rfl) (fun _ _ _ h => h) (yield_c cbI (fun _ h => h.2) _ rfl rfl rfl) ?_
  (try simp only [Act.put, List.setIfInBounds_toArray, List.set_cons_zero, List.set_cons_succ])
  refine Draws.does 4 rfl (by kernel_rfl) rfl (fun K hK => ?_)
  refine wp_load_fr HK.out 1 Tryz.underlying30 rfl (l_infoF _) _ rfl rfl rfl (Pf.cL HF.out) ?_
  refine hK.out _ _ (fun _ => HS.out) ?_
  clear hK K
  (try simp only [Act.put, List.setIfInBounds_toArray, List.set_cons_zero, List.set_cons_succ])
  refine Draws.does 7 rfl (by kernel_rfl) rfl (fun K hK => ?_)
  go_simp
  go_at_call 71
  refine (hcl _).mono ?_
  rintro e u ⟨rfl, hb⟩
  (try dsimp only)
  have hk := HK.out.call hb; clear hb; clear HK; have HK := Lib.hid hk; clear hk
  refine hK.out _ _ (fun _ => ⟨HK.out.cap2 Hi.out, HK.out.cap2 Hj.out⟩) ?_
  clear hK K
  have hs : (fun u : World => u.cell? ⟨ck, 0, none⟩ = some (.int .i64 k) ∧ u.cell? ⟨cn, 0, none⟩ = some (.int .i64 n)) u := ⟨HK.out.cap2 Hi.out, HK.out.cap2 Hj.out⟩
  clear HS
  have HS := Lib.hid hs; clear hs
  (try simp only [Act.put, List.setIfInBounds_toArray, List.set_cons_zero, List.set_cons_succ])
  refine Draws.take 8 (v := ?v69) HS.out rfl (by kernel_rfl) (fun _ _ _ h => h) (Or.inl ⟨rfl, ?h69⟩) ?r69
  case h69 => intro w' hw'; go_simp; (try with_reducible rfl)
  (try simp only [Act.put, List.setIfInBounds_toArray, List.set_cons_zero, List.set_cons_succ])
  refine Draws.take 9 (v := ?v70) HS.out rfl (by kernel_rfl) (fun _ _ _ h => h) (Or.inl ⟨rfl, ?h70⟩) ?r70
  case h70 => intro w' hw'; go_simp; (try with_reducible rfl)
  (try simp only [Act.put, List.setIfInBounds_toArray, List.set_cons_zero, List.set_cons_succ])
  refine Draws.take 10 (v := ?v71) HS.out rfl (by kernel_rfl) (fun _ _ _ h => h) (Or.inl ⟨rfl, ?h71⟩) ?r71
  case h71 => intro w' hw'; go_simp; (try with_reducible rfl)
  (try simp only [Act.put, List.setIfInBounds_toArray, List.set_cons_zero, List.set_cons_succ])
  refine Draws.take 11 (v := ?v72) HS.out rfl (by kernel_rfl) (fun _ _ _ h => h) (Or.inl ⟨rfl, ?h72⟩) ?r72
  case h72 => intro w' hw'; go_simp; (try with_reducible rfl)
  (try simp only [Act.put, List.setIfInBounds_toArray, List.set_cons_zero, List.set_cons_succ])
  refine Draws.take 12 (v := ?v73) HS.out rfl (by kernel_rfl) (fun _ _ _ h => h) (Or.inl ⟨rfl, ?h73⟩) ?r73
  case h73 => intro w' hw'; go_simp; (try with_reducible rfl)
  (try simp only [Act.put, List.setIfInBounds_toArray, List.set_cons_zero, List.set_cons_succ])
  refine Draws.does 13 rfl (by kernel_rfl) rfl (fun K hK => ?_)
  refine wp_store_fr HK.out 1 (l_infoF _) (vals_all _) rfl _ _ rfl rfl rfl rfl (Fd.leL HF.out) (Pf.toL HF.out _) ?_
  intro u hk he; clear he; simp only [List.set_cons_zero, List.set_cons_succ] at hk; clear HK; have HK := Lib.hid hk; clear hk
  refine hK.out _ _ (fun _ => ⟨HK.out.cap2 Hi.out, HK.out.cap2 Hj.out⟩) ?_
  clear hK K
  have hs : (fun u : World => u.cell? ⟨ck, 0, none⟩ = some (.int .i64 k) ∧ u.cell? ⟨cn, 0, none⟩ = some (.int .i64 n)) u := ⟨HK.out.cap2 Hi.out, HK.out.cap2 Hj.out⟩
  clear HS
  have HS := Lib.hid hs; clear hs
  (try simp only [Act.put, List.setIfInBounds_toArray, List.set_cons_zero, List.set_cons_succ])
  refine Draws.does 14 rfl (by kernel_rfl) rfl (fun K hK => ?_)
  go_simp
  refine hK.out _ _ (fun h => absurd h (by decide)) ?_
  clear hK K
  (try simp only [Act.put, List.setIfInBounds_toArray, List.set_cons_zero, List.set_cons_succ])
  refine Draws.done (by kernel_rfl) ?_
  clear HS
  go_wp2
  go_ret
  exact ⟨rfl, HK.out⟩
end
end Go.Proofs.YtbaccghnneidgaaGreat
