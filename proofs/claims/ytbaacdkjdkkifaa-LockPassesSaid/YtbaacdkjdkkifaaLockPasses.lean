/- For every holder and value and every slice of ints usufructlaw05.LockPasses returns true, and each argument reads as before. No condition. -/
import Derived.Test.YtbaacdkjdkkifaaLkJoin
import Derived.Test.YtbaacdkjdkkifaaLkArg
import Derived.WalkKit
import Derived.ProofKit
import Derived.OpenShut
import Derived.ChangeOld
import Derived.Below
namespace Go.Proofs.Ytbaacdkjdkkifaa.lockPasses
open Go.ChangeShapes Go.WideShapes Go.ChangeAt Go.RowKit
set_option linter.unusedVariables false

theorem own : ownKnob Try.prog.godebug = none := by kernel_rfl
theorem laidOut : laidOutB Try.prog = true := by kernel_rfl

theorem pass_facts {L : Lk} {k a : Int} (hk : repB k = true) (h0 : 0 ≤ L.s) (h1 : L.s < 1000) (ha : isB a = true) :
    psE L L.h k = 0 ∧ psA L L.h k = ⟨L.s + 1, 0, k, L.x⟩ ∧ joinK L ⟨L.s + 1, 0, k, L.x⟩ = ⟨L.s + 1, 0, k, L.x⟩ ∧ wrE ⟨L.s + 1, 0, k, L.x⟩ L.h a = if L.h = k then 0 else 9 := by
  have e : psE L L.h k = 0 := by
    unfold psE
    rw [if_neg (fun h => h rfl), if_neg (by simp [hk])]
    exact addE_small (by omega) (by omega)
  refine ⟨e, by rw [psA, if_pos e], joinK_lt (.inl (by simp only; omega)), ?_⟩
  unfold wrE
  by_cases h : L.h = k
  · rw [if_neg (fun h' => h' h), if_neg (by simp [ha]), if_pos h]
    exact addE_small (by simp only; omega) (by simp only; omega)
  · rw [if_pos h, if_neg h]
theorem build_zero_want {ops : Array Oper} {rest : List Oper} {o : Oper} {a : Act} {u : World} {Q : Exit → Act → World → Prop} (hw : Region.wanted o (yielded ops a.tmps) = true) (ho : o.op = .build 23 #[])
    (h : wpList Try.prog ops Q rest (a.put o.dst (.agg (vals z4.l).toArray)) u) : wpList Try.prog ops Q (o :: rest) a u :=
  BigFrame.wpList_want hw fun K hK => by
    unfold Oper.wp execOp
    simp only [ho, List.map_toArray, List.map_nil, Sem.run_bind, Sem.run_pure, Result.andThen_ok, lk_build]
    exact hK _ _ h

set_option maxRecDepth 100000 in
set_option maxHeartbeats 4000000 in
theorem walk (w : World) (a0 : Int) (w0 : (Lit.int .i64 a0).wf = true) (a1 : Int) (w1 : (Lit.int .i64 a1).wf = true) (A2 : Option Addr) (n2 c2 : Nat) (x2 : List Int) (hd2 : Reads w A2 n2 x2) :
    Calls Try.prog 8 #[.int .i64 a0, .int .i64 a1, .slice A2 n2 c2] w fun e w' => e = .returned (.bool true) ∧ Below w.heap.size w w' := by
  have n1 := lnew_any a0 a1
  have HR := Lib.hid hd2; clear hd2
  have HK := Lib.hid (KeepR.start w)
  by_cases h0 : newE a0 a1 = 0
  · obtain ⟨hr0, hb1, hA⟩ := new_zero h0
    rw [hA, h0] at n1
    clear hA h0
    have HB1 := Lib.hid hb1; have HR0 := Lib.hid hr0; clear hb1 hr0
    by_cases hn : n2 ≤ 30
    · have hn' : ¬ (30 : Int) < (n2 : Int) := by omega
      have hn3 : decide ((30 : Int) < (n2 : Int)) = false := by simp; omega
      obtain ⟨hl2, hm2, hx2⟩ := HR.out
      clear HR
      have HL := Lib.hid hl2; clear hl2
      have HX := Lib.hid hx2; clear hx2 hm2
      go_enter Try.func8, Try.ntmps8
      go_wp2_with (first
        | (with_reducible refine alloc_zero (l := []) HK.out 4 lk_zero rfl rfl ?_; intro bl u hn hk hb; clear hn hb; clear HK; have HK := Lib.hid hk; clear hk)
        | (go_at_call 14; (with_reducible refine (n1 _).mono ?_); rintro e u ⟨rfl, hb⟩; have hk := HK.out.call hb; clear hb; clear HK; have HK := Lib.hid hk; clear hk)
        | (with_reducible refine store_all HK.out 0 4 lk_info rfl rfl _ _ rfl rfl rfl rfl (Lk.len _) (zer_length 4) ?_; intro u hk hs; clear hs; simp only [List.set_cons_zero] at hk; clear HK; have HK := Lib.hid hk; clear hk))
      go_loopw [32] (fun i wr => ∃ (m : Nat) (L : Lk), m ≤ n2 ∧ i = .int .i64 m ∧ L.s = m ∧ L.v = 0 ∧ L.x = a1 ∧ KeepR w [(bl, 23, L.l)] wr) (fun i _ => n2 - (intOf i).toNat)
      case atStart => exact ⟨0, ⟨0, 0, a0, a1⟩, by omega, rfl, rfl, rfl, rfl, HK.out⟩
      case round =>
        obtain ⟨m, L, hm, rfl, hLs, hLv, hLx, hk⟩ := hrel
        clear HK
        have HK := Lib.hid hk; clear hk
        by_cases hlt : m < n2
        · obtain ⟨b, off, hA, hc⟩ : ∃ b off : Nat, A2 = some ⟨b, off, none⟩ ∧ ∀ i, i < n2 → w.cell? ⟨b, off + i, none⟩ = some (.int .i64 (x2.getD i 0)) := by
            rcases HX.out with h | h
            · omega
            · exact h
          subst hA
          have hcell := hc m hlt
          generalize x2.getD m 0 = z at hcell
          have HC := Lib.hid hcell
          clear hc hcell HX HL
          have j1 : (0 : Int) ≤ (m : Int) := by omega
          have j2 : (m : Int) < 1000 := by omega
          have j3 : (m : Int) < (n2 : Int) := by omega
          have HW := Lib.hid (show IntKind.i64.wrap ((m : Int) + 1) = (m : Int) + 1 from (IntWalk.i64_left _).trans (IntWalk.wrap64_in _ (by omega)))
          have p1 := pass_any L L.h z
          cases hz : repB z with
          | false =>
            rw [show psE L L.h z = 1 by simp [psE, hz], show psA L L.h z = z4 by simp [psA, psE, hz]] at p1
            have hz' := repB_not.1 hz
            clear hz
            have q := eql_lk z4 z4
            rw [Lk.same] at q
            have hge := lk_guard
            have LDW := True.intro
            rcases hz' with hz1 | hz1
            · have hz2 : ¬ 0 ≤ z := by omega
              go_wp2_with (first
                | (with_reducible refine load_old HK.out HC.out rfl _ rfl rfl ?_)
                | (with_reducible refine load_val HK.out 0 rfl _ rfl rfl rfl (Lk.g2 _) (Lk.p2 _) ?_)
                | (with_reducible refine load_all HK.out 0 4 Try.underlying23 rfl lk_info rfl _ rfl rfl rfl (Lk.len _) ?_)
                | (with_reducible refine alloc_zero (l := [(bl, 23, L.l)]) HK.out 4 lk_zero rfl rfl ?_; intro bx u hn hk hb; clear hn hb; clear HK; have HK := Lib.hid hk; clear hk)
                | (go_at_call 16; (with_reducible refine (p1 _).mono ?_); rintro e u ⟨rfl, hb⟩; have hk := HK.out.call hb; clear hb; clear HK; have HK := Lib.hid hk; clear hk)
                | (with_reducible refine store_all HK.out 0 4 lk_info rfl rfl _ _ rfl rfl rfl rfl (Lk.len _) (zer_length 4) ?_; intro u hk hs; clear hs; simp only [List.set_cons_zero] at hk; clear HK; have HK := Lib.hid hk; clear hk)
                | (refine load_all_want HK.out 0 4 Try.underlying23 rfl lk_info _ rfl rfl rfl rfl (Lk.len _) ?_)
                | (with_reducible refine build_zero_want rfl rfl ?_)
                | (go_at_call 13; (with_reducible refine (awake5 _).mono ?_); rintro e u ⟨rfl, hb⟩; have hk := HK.out.call hb; clear hb; clear HK; have HK := Lib.hid hk; clear hk))
              go_ret
              exact ⟨rfl, HK.out.bel⟩
            · have hz2 : ¬ z < 0 := by omega
              have hz3 : (15 : Int) < z := by omega
              go_wp2_with (first
                | (with_reducible refine load_old HK.out HC.out rfl _ rfl rfl ?_)
                | (with_reducible refine load_val HK.out 0 rfl _ rfl rfl rfl (Lk.g2 _) (Lk.p2 _) ?_)
                | (with_reducible refine load_all HK.out 0 4 Try.underlying23 rfl lk_info rfl _ rfl rfl rfl (Lk.len _) ?_)
                | (with_reducible refine alloc_zero (l := [(bl, 23, L.l)]) HK.out 4 lk_zero rfl rfl ?_; intro bx u hn hk hb; clear hn hb; clear HK; have HK := Lib.hid hk; clear hk)
                | (go_at_call 16; (with_reducible refine (p1 _).mono ?_); rintro e u ⟨rfl, hb⟩; have hk := HK.out.call hb; clear hb; clear HK; have HK := Lib.hid hk; clear hk)
                | (with_reducible refine store_all HK.out 0 4 lk_info rfl rfl _ _ rfl rfl rfl rfl (Lk.len _) (zer_length 4) ?_; intro u hk hs; clear hs; simp only [List.set_cons_zero] at hk; clear HK; have HK := Lib.hid hk; clear hk)
                | (refine load_all_want HK.out 0 4 Try.underlying23 rfl lk_info _ rfl rfl rfl rfl (Lk.len _) ?_)
                | (with_reducible refine build_zero_want rfl rfl ?_)
                | (go_at_call 13; (with_reducible refine (awake5 _).mono ?_); rintro e u ⟨rfl, hb⟩; have hk := HK.out.call hb; clear hb; clear HK; have HK := Lib.hid hk; clear hk))
              go_ret
              exact ⟨rfl, HK.out.bel⟩
          | true =>
            obtain ⟨e1, e2, e3, e4⟩ := pass_facts (L := L) hz (by omega) (by omega) HB1.out
            have g1 := write_any ⟨L.s + 1, 0, z, L.x⟩ L.h a1
            have jj := join_any L ⟨L.s + 1, 0, z, L.x⟩
            rw [e1, e2] at p1
            rw [e3] at jj
            rw [e4] at g1
            clear e1 e2 e3 e4
            obtain ⟨z1, z2⟩ := repB_iff.1 hz
            clear hz
            have z3 : ¬ z < 0 := by omega
            have z4' : ¬ (15 : Int) < z := by omega
            obtain ⟨X, hX⟩ : ∃ X : Lk, X = ⟨L.s + 1, 0, z, L.x⟩ := ⟨_, rfl⟩
            have X0 := Lib.hid (show X.l.getD 0 0 = (m : Int) + 1 by rw [hX, ← hLs]; rfl)
            have X1 := Lib.hid (show X.l.getD 1 0 = 0 by rw [hX]; rfl)
            have X2 := Lib.hid (show X.l.getD 2 0 = z by rw [hX]; rfl)
            have X3 := Lib.hid (show X.l.getD 3 0 = a1 by rw [hX, ← hLx]; rfl)
            rw [← hX] at p1 g1 jj
            clear hX hLs hLv hLx
            generalize wrA X L.h a1 = G at g1
            have q := eql_lk X X
            rw [Lk.same] at q
            have hge := lk_guard
            by_cases hh : L.h = z
            · skip
              rw [if_pos hh] at g1
              subst hh
              go_wp2_with (first
                | (with_reducible refine load_old HK.out HC.out rfl _ rfl rfl ?_)
                | (with_reducible refine load_val HK.out 0 rfl _ rfl rfl rfl (Lk.g2 _) (Lk.p2 _) ?_)
                | (with_reducible refine load_all HK.out 0 4 Try.underlying23 rfl lk_info rfl _ rfl rfl rfl (Lk.len _) ?_)
                | (with_reducible refine alloc_zero (l := [(bl, 23, L.l)]) HK.out 4 lk_zero rfl rfl ?_; intro bx u hn hk hb; clear hn hb; clear HK; have HK := Lib.hid hk; clear hk)
                | (go_at_call 16; (with_reducible refine (p1 _).mono ?_); rintro e u ⟨rfl, hb⟩; have hk := HK.out.call hb; clear hb; clear HK; have HK := Lib.hid hk; clear hk)
                | (with_reducible refine store_all HK.out 0 4 lk_info rfl rfl _ _ rfl rfl rfl rfl (Lk.len _) (zer_length 4) ?_; intro u hk hs; clear hs; simp only [List.set_cons_zero] at hk; clear HK; have HK := Lib.hid hk; clear hk)
                | (with_reducible refine load_all HK.out 0 4 Try.underlying23 rfl lk_info rfl _ rfl rfl rfl (Lk.len _) ?_)
                | (with_reducible refine alloc_zero (l := [(bx, 23, _), (bl, 23, L.l)]) HK.out 4 lk_zero rfl rfl ?_; intro bg u hn hk hb; clear hn hb; clear HK; have HK := Lib.hid hk; clear hk)
                | (go_at_call 15; (with_reducible refine (g1 _).mono ?_); rintro e u ⟨rfl, hb⟩; have hk := HK.out.call hb; clear hb; clear HK; have HK := Lib.hid hk; clear hk))
              refine Draws.start (S := fun u => KeepR w [(bg, 23, G.l), (bx, 23, X.l), (bl, 23, L.l)] u) (n := 41) 41 rfl (by kernel_rfl) ?_
              have HS := Lib.hid ((HK.out.drew : (fun u => KeepR w [(bg, 23, G.l), (bx, 23, X.l), (bl, 23, L.l)] u) _))
              refine Draws.take 0 (v := ?v1) HS.out rfl (by kernel_rfl) (fun _ _ _ h => h) (Or.inl ⟨rfl, ?h1⟩) ?r1
              case h1 => intro w' hw'; go_simp; (try with_reducible rfl)
              (try simp only [Act.put, List.setIfInBounds_toArray, List.set_cons_zero, List.set_cons_succ])
              refine Draws.take 1 (v := ?v2) HS.out rfl (by kernel_rfl) (fun _ _ _ h => h) (Or.inl ⟨rfl, ?h2⟩) ?r2
              case h2 => intro w' hw'; go_simp; (try with_reducible rfl)
              (try simp only [Act.put, List.setIfInBounds_toArray, List.set_cons_zero, List.set_cons_succ])
              refine Draws.take 2 (v := ?v3) HS.out rfl (by kernel_rfl) (fun _ _ _ h => h) (Or.inl ⟨rfl, ?h3⟩) ?r3
              case h3 => intro w' hw'; go_simp; (try with_reducible rfl)
              (try simp only [Act.put, List.setIfInBounds_toArray, List.set_cons_zero, List.set_cons_succ])
              refine Draws.take 3 (v := ?v4) HS.out rfl (by kernel_rfl) (fun _ _ _ h => h) (Or.inl ⟨rfl, ?h4⟩) ?r4
              case h4 => intro w' hw'; go_simp; (try with_reducible rfl)
              (try simp only [Act.put, List.setIfInBounds_toArray, List.set_cons_zero, List.set_cons_succ])
              refine Draws.take 4 (v := ?v5) HS.out rfl (by kernel_rfl) (fun _ _ _ h => h) (Or.inl ⟨rfl, ?h5⟩) ?r5
              case h5 => intro w' hw'; have hc := (hw'.get 1 rfl).cell (k := 0) (Lk.p0 _); rw [X0.out] at hc; go_simp; (try with_reducible rfl)
              (try simp only [Act.put, List.setIfInBounds_toArray, List.set_cons_zero, List.set_cons_succ])
              refine Draws.take 5 (v := ?v6) HS.out rfl (by kernel_rfl) (fun _ _ _ h => h) (Or.inl ⟨rfl, ?h6⟩) ?r6
              case h6 => intro w' hw'; go_simp; (try with_reducible rfl)
              (try simp only [Act.put, List.setIfInBounds_toArray, List.set_cons_zero, List.set_cons_succ])
              refine Draws.take 6 (v := ?v7) HS.out rfl (by kernel_rfl) (fun _ _ _ h => h) (Or.inl ⟨rfl, ?h7⟩) ?r7
              case h7 => intro w' hw'; have hwr := HW.out; go_simp; (try with_reducible rfl)
              (try simp only [Act.put, List.setIfInBounds_toArray, List.set_cons_zero, List.set_cons_succ])
              refine Draws.take 7 (v := ?v8) HS.out rfl (by kernel_rfl) (fun _ _ _ h => h) (Or.inl ⟨rfl, ?h8⟩) ?r8
              case h8 => intro w' hw'; go_simp; (try with_reducible rfl)
              (try simp only [Act.put, List.setIfInBounds_toArray, List.set_cons_zero, List.set_cons_succ])
              refine Draws.take 8 (v := ?v9) HS.out rfl (by kernel_rfl) (fun _ _ _ h => h) (Or.inl ⟨rfl, ?h9⟩) ?r9
              case h9 => intro w' hw'; go_simp; (try with_reducible rfl)
              (try simp only [Act.put, List.setIfInBounds_toArray, List.set_cons_zero, List.set_cons_succ])
              refine Draws.take 9 (v := ?v10) HS.out rfl (by kernel_rfl) (fun _ _ _ h => h) (Or.inl ⟨rfl, ?h10⟩) ?r10
              case h10 => intro w' hw'; go_simp; (try with_reducible rfl)
              (try simp only [Act.put, List.setIfInBounds_toArray, List.set_cons_zero, List.set_cons_succ])
              refine Draws.take 10 (v := ?v11) HS.out rfl (by kernel_rfl) (fun _ _ _ h => h) (Or.inl ⟨rfl, ?h11⟩) ?r11
              case h11 => intro w' hw'; go_simp; (try with_reducible rfl)
              (try simp only [Act.put, List.setIfInBounds_toArray, List.set_cons_zero, List.set_cons_succ])
              refine Draws.take 11 (v := ?v12) HS.out rfl (by kernel_rfl) (fun _ _ _ h => h) (Or.inl ⟨rfl, ?h12⟩) ?r12
              case h12 => intro w' hw'; have hc := (hw'.get 1 rfl).cell (k := 1) (Lk.p1 _); rw [X1.out] at hc; go_simp; (try with_reducible rfl)
              (try simp only [Act.put, List.setIfInBounds_toArray, List.set_cons_zero, List.set_cons_succ])
              refine Draws.take 12 (v := ?v13) HS.out rfl (by kernel_rfl) (fun _ _ _ h => h) (Or.inl ⟨rfl, ?h13⟩) ?r13
              case h13 => intro w' hw'; go_simp; (try with_reducible rfl)
              (try simp only [Act.put, List.setIfInBounds_toArray, List.set_cons_zero, List.set_cons_succ])
              refine Draws.take 13 (v := ?v14) HS.out rfl (by kernel_rfl) (fun _ _ _ h => h) (Or.inl ⟨rfl, ?h14⟩) ?r14
              case h14 => intro w' hw'; go_simp; (try with_reducible rfl)
              (try simp only [Act.put, List.setIfInBounds_toArray, List.set_cons_zero, List.set_cons_succ])
              refine Draws.take 14 (v := ?v15) HS.out rfl (by kernel_rfl) (fun _ _ _ h => h) (Or.inl ⟨rfl, ?h15⟩) ?r15
              case h15 => intro w' hw'; go_simp; (try with_reducible rfl)
              (try simp only [Act.put, List.setIfInBounds_toArray, List.set_cons_zero, List.set_cons_succ])
              refine Draws.take 15 (v := ?v16) HS.out rfl (by kernel_rfl) (fun _ _ _ h => h) (Or.inl ⟨rfl, ?h16⟩) ?r16
              case h16 => intro w' hw'; go_simp; (try with_reducible rfl)
              (try simp only [Act.put, List.setIfInBounds_toArray, List.set_cons_zero, List.set_cons_succ])
              refine Draws.take 16 (v := ?v17) HS.out rfl (by kernel_rfl) (fun _ _ _ h => h) (Or.inl ⟨rfl, ?h17⟩) ?r17
              case h17 => intro w' hw'; have hc := (hw'.get 1 rfl).cell (k := 3) (Lk.p3 _); rw [X3.out] at hc; go_simp; (try with_reducible rfl)
              (try simp only [Act.put, List.setIfInBounds_toArray, List.set_cons_zero, List.set_cons_succ])
              refine Draws.take 17 (v := ?v18) HS.out rfl (by kernel_rfl) (fun _ _ _ h => h) (Or.inl ⟨rfl, ?h18⟩) ?r18
              case h18 => intro w' hw'; go_simp; (try with_reducible rfl)
              (try simp only [Act.put, List.setIfInBounds_toArray, List.set_cons_zero, List.set_cons_succ])
              refine Draws.take 18 (v := ?v19) HS.out rfl (by kernel_rfl) (fun _ _ _ h => h) (Or.inl ⟨rfl, ?h19⟩) ?r19
              case h19 => intro w' hw'; go_simp; (try with_reducible rfl)
              (try simp only [Act.put, List.setIfInBounds_toArray, List.set_cons_zero, List.set_cons_succ])
              refine Draws.take 19 (v := ?v20) HS.out rfl (by kernel_rfl) (fun _ _ _ h => h) (Or.inl ⟨rfl, ?h20⟩) ?r20
              case h20 => intro w' hw'; go_simp; (try with_reducible rfl)
              (try simp only [Act.put, List.setIfInBounds_toArray, List.set_cons_zero, List.set_cons_succ])
              refine Draws.take 20 (v := ?v21) HS.out rfl (by kernel_rfl) (fun _ _ _ h => h) (Or.inl ⟨rfl, ?h21⟩) ?r21
              case h21 => intro w' hw'; go_simp; (try with_reducible rfl)
              (try simp only [Act.put, List.setIfInBounds_toArray, List.set_cons_zero, List.set_cons_succ])
              refine Draws.take 21 (v := ?v22) HS.out rfl (by kernel_rfl) (fun _ _ _ h => h) (Or.inl ⟨rfl, ?h22⟩) ?r22
              case h22 => intro w' hw'; go_simp; (try with_reducible rfl)
              (try simp only [Act.put, List.setIfInBounds_toArray, List.set_cons_zero, List.set_cons_succ])
              refine Draws.take 22 (v := ?v23) HS.out rfl (by kernel_rfl) (fun _ _ _ h => h) (Or.inl ⟨rfl, ?h23⟩) ?r23
              case h23 => intro w' hw'; have hc := (hw'.get 1 rfl).cell (k := 2) (Lk.p2 _); rw [X2.out] at hc; go_simp; (try with_reducible rfl)
              (try simp only [Act.put, List.setIfInBounds_toArray, List.set_cons_zero, List.set_cons_succ])
              refine Draws.take 23 (v := ?v24) HS.out rfl (by kernel_rfl) (fun _ _ _ h => h) (Or.inl ⟨rfl, ?h24⟩) ?r24
              case h24 => intro w' hw'; go_simp; (try with_reducible rfl)
              (try simp only [Act.put, List.setIfInBounds_toArray, List.set_cons_zero, List.set_cons_succ])
              refine Draws.take 24 (v := ?v25) HS.out rfl (by kernel_rfl) (fun _ _ _ h => h) (Or.inl ⟨rfl, ?h25⟩) ?r25
              case h25 => intro w' hw'; go_simp; (try with_reducible rfl)
              (try simp only [Act.put, List.setIfInBounds_toArray, List.set_cons_zero, List.set_cons_succ])
              refine Draws.take 25 (v := ?v26) HS.out rfl (by kernel_rfl) (fun _ _ _ h => h) (Or.inl ⟨rfl, ?h26⟩) ?r26
              case h26 => intro w' hw'; go_simp; (try with_reducible rfl)
              (try simp only [Act.put, List.setIfInBounds_toArray, List.set_cons_zero, List.set_cons_succ])
              refine Draws.take 26 (v := ?v27) HS.out rfl (by kernel_rfl) (fun _ _ _ h => h) (Or.inl ⟨rfl, ?h27⟩) ?r27
              case h27 => intro w' hw'; go_simp; (try with_reducible rfl)
              (try simp only [Act.put, List.setIfInBounds_toArray, List.set_cons_zero, List.set_cons_succ])
              refine Draws.take 27 (v := ?v28) HS.out rfl (by kernel_rfl) (fun _ _ _ h => h) (Or.inl ⟨rfl, ?h28⟩) ?r28
              case h28 => intro w' hw'; go_simp; (try with_reducible rfl)
              (try simp only [Act.put, List.setIfInBounds_toArray, List.set_cons_zero, List.set_cons_succ])
              refine Draws.take 28 (v := ?v29) HS.out rfl (by kernel_rfl) (fun _ _ _ h => h) (Or.inl ⟨rfl, ?h29⟩) ?r29
              case h29 => intro w' hw'; go_simp; (try with_reducible rfl)
              (try simp only [Act.put, List.setIfInBounds_toArray, List.set_cons_zero, List.set_cons_succ])
              refine Draws.take 29 (v := ?v30) HS.out rfl (by kernel_rfl) (fun _ _ _ h => h) (Or.inl ⟨rfl, ?h30⟩) ?r30
              case h30 => intro w' hw'; go_simp; (try with_reducible rfl)
              (try simp only [Act.put, List.setIfInBounds_toArray, List.set_cons_zero, List.set_cons_succ])
              refine Draws.take 30 (v := ?v31) HS.out rfl (by kernel_rfl) (fun _ _ _ h => h) (Or.inl ⟨rfl, ?h31⟩) ?r31
              case h31 => intro w' hw'; go_simp; (try with_reducible rfl)
              (try simp only [Act.put, List.setIfInBounds_toArray, List.set_cons_zero, List.set_cons_succ])
              refine Draws.take 31 (v := ?v32) HS.out rfl (by kernel_rfl) (fun _ _ _ h => h) (Or.inl ⟨rfl, ?h32⟩) ?r32
              case h32 => intro w' hw'; go_simp; (try with_reducible rfl)
              (try simp only [Act.put, List.setIfInBounds_toArray, List.set_cons_zero, List.set_cons_succ])
              refine Draws.take 32 (v := ?v33) HS.out rfl (by kernel_rfl) (fun _ _ _ h => h) (Or.inl ⟨rfl, ?h33⟩) ?r33
              case h33 => intro w' hw'; go_simp; (try with_reducible rfl)
              (try simp only [Act.put, List.setIfInBounds_toArray, List.set_cons_zero, List.set_cons_succ])
              refine Draws.take 33 (v := ?v34) HS.out rfl (by kernel_rfl) (fun _ _ _ h => h) (Or.inl ⟨rfl, ?h34⟩) ?r34
              case h34 => intro w' hw'; go_simp; (try with_reducible rfl)
              (try simp only [Act.put, List.setIfInBounds_toArray, List.set_cons_zero, List.set_cons_succ])
              refine Draws.take 34 (v := ?v35) HS.out rfl (by kernel_rfl) (fun _ _ _ h => h) (Or.inl ⟨rfl, ?h35⟩) ?r35
              case h35 => intro w' hw'; go_simp; (try with_reducible rfl)
              (try simp only [Act.put, List.setIfInBounds_toArray, List.set_cons_zero, List.set_cons_succ])
              refine Draws.take 35 HS.out rfl (by kernel_rfl) (fun _ _ _ h => h) (yield_all (fun _ h => h) 2 4 Try.underlying23 rfl lk_info rfl _ rfl rfl rfl (Lk.len _)) ?_
              (try simp only [Act.put, List.setIfInBounds_toArray, List.set_cons_zero, List.set_cons_succ])
              refine Draws.take 36 HS.out rfl (by kernel_rfl) (fun _ _ _ h => h) (yield_all (fun _ h => h) 1 4 Try.underlying23 rfl lk_info rfl _ rfl rfl rfl (Lk.len _)) ?_
              (try simp only [Act.put, List.setIfInBounds_toArray, List.set_cons_zero, List.set_cons_succ])
              refine Draws.take 38 HS.out rfl (by kernel_rfl) (fun _ _ _ h => h) (yield_all (fun _ h => h) 1 4 Try.underlying23 rfl lk_info rfl _ rfl rfl rfl (Lk.len _)) ?_
              (try simp only [Act.put, List.setIfInBounds_toArray, List.set_cons_zero, List.set_cons_succ])
              refine Draws.does 37 rfl (by kernel_rfl) rfl (fun K hK => ?_)
              go_simp
              go_at_call 9
              refine (jj _).mono ?_
              rintro e u ⟨rfl, hb⟩
              (try dsimp only)
              refine hK.out _ _ (fun _ => HS.out.call hb) ?_
              clear hK K
              have hs : (fun u => KeepR w [(bg, 23, G.l), (bx, 23, X.l), (bl, 23, L.l)] u) u := HS.out.call hb
              clear HS
              have HS := Lib.hid hs; clear hs
              (try simp only [Act.put, List.setIfInBounds_toArray, List.set_cons_zero, List.set_cons_succ])
              clear hb
              refine Draws.take 39 (v := ?v36) HS.out rfl (by kernel_rfl) (fun _ _ _ h => h) (Or.inl ⟨rfl, ?h36⟩) ?r36
              case h36 => intro w' hw'; go_simp; (try with_reducible rfl)
              (try simp only [Act.put, List.setIfInBounds_toArray, List.set_cons_zero, List.set_cons_succ])
              refine Draws.take 40 (v := ?v37) HS.out rfl (by kernel_rfl) (fun _ _ _ h => h) (Or.inl ⟨rfl, ?h37⟩) ?r37
              case h37 => intro w' hw'; go_simp; (try with_reducible rfl)
              (try simp only [Act.put, List.setIfInBounds_toArray, List.set_cons_zero, List.set_cons_succ])
              refine Draws.done (by kernel_rfl) ?_
              clear HK
              have HK := Lib.hid HS.out; clear HS
              go_wp2_with (first
                | (with_reducible refine load_all HK.out 1 4 Try.underlying23 rfl lk_info rfl _ rfl rfl rfl (Lk.len _) ?_)
                | (with_reducible refine store_all HK.out 2 4 lk_info rfl rfl _ _ rfl rfl rfl rfl (Lk.len _) (Lk.len _) ?_; intro u hk hs; clear hs; simp only [List.set_cons_zero, List.set_cons_succ] at hk; clear HK; have HK := Lib.hid hk; clear hk))
              go_roundw
              case rel => exact ⟨m + 1, X, by omega, by go_num, by have := X0.out; simpa [Lk.l] using this, X1.out, X3.out, HK.out.tail.tail⟩
              case measure => simp [intOf]; omega
            · skip
              rw [if_neg hh] at g1
              have hh2 : (L.h == z) = false := by simp [hh]
              have hh3 : decide (L.h = z) = false := by simp [hh]
              go_wp2_with (first
                | (with_reducible refine load_old HK.out HC.out rfl _ rfl rfl ?_)
                | (with_reducible refine load_val HK.out 0 rfl _ rfl rfl rfl (Lk.g2 _) (Lk.p2 _) ?_)
                | (with_reducible refine load_all HK.out 0 4 Try.underlying23 rfl lk_info rfl _ rfl rfl rfl (Lk.len _) ?_)
                | (with_reducible refine alloc_zero (l := [(bl, 23, L.l)]) HK.out 4 lk_zero rfl rfl ?_; intro bx u hn hk hb; clear hn hb; clear HK; have HK := Lib.hid hk; clear hk)
                | (go_at_call 16; (with_reducible refine (p1 _).mono ?_); rintro e u ⟨rfl, hb⟩; have hk := HK.out.call hb; clear hb; clear HK; have HK := Lib.hid hk; clear hk)
                | (with_reducible refine store_all HK.out 0 4 lk_info rfl rfl _ _ rfl rfl rfl rfl (Lk.len _) (zer_length 4) ?_; intro u hk hs; clear hs; simp only [List.set_cons_zero] at hk; clear HK; have HK := Lib.hid hk; clear hk)
                | (with_reducible refine load_all HK.out 0 4 Try.underlying23 rfl lk_info rfl _ rfl rfl rfl (Lk.len _) ?_)
                | (with_reducible refine alloc_zero (l := [(bx, 23, _), (bl, 23, L.l)]) HK.out 4 lk_zero rfl rfl ?_; intro bg u hn hk hb; clear hn hb; clear HK; have HK := Lib.hid hk; clear hk)
                | (go_at_call 15; (with_reducible refine (g1 _).mono ?_); rintro e u ⟨rfl, hb⟩; have hk := HK.out.call hb; clear hb; clear HK; have HK := Lib.hid hk; clear hk))
              refine Draws.start (S := fun u => KeepR w [(bg, 23, G.l), (bx, 23, X.l), (bl, 23, L.l)] u) (n := 41) 41 rfl (by kernel_rfl) ?_
              have HS := Lib.hid ((HK.out.drew : (fun u => KeepR w [(bg, 23, G.l), (bx, 23, X.l), (bl, 23, L.l)] u) _))
              refine Draws.take 0 (v := ?v38) HS.out rfl (by kernel_rfl) (fun _ _ _ h => h) (Or.inl ⟨rfl, ?h38⟩) ?r38
              case h38 => intro w' hw'; go_simp; (try with_reducible rfl)
              (try simp only [Act.put, List.setIfInBounds_toArray, List.set_cons_zero, List.set_cons_succ])
              refine Draws.take 1 (v := ?v39) HS.out rfl (by kernel_rfl) (fun _ _ _ h => h) (Or.inl ⟨rfl, ?h39⟩) ?r39
              case h39 => intro w' hw'; go_simp; (try with_reducible rfl)
              (try simp only [Act.put, List.setIfInBounds_toArray, List.set_cons_zero, List.set_cons_succ])
              refine Draws.take 2 (v := ?v40) HS.out rfl (by kernel_rfl) (fun _ _ _ h => h) (Or.inl ⟨rfl, ?h40⟩) ?r40
              case h40 => intro w' hw'; go_simp; (try with_reducible rfl)
              (try simp only [Act.put, List.setIfInBounds_toArray, List.set_cons_zero, List.set_cons_succ])
              refine Draws.take 3 (v := ?v41) HS.out rfl (by kernel_rfl) (fun _ _ _ h => h) (Or.inl ⟨rfl, ?h41⟩) ?r41
              case h41 => intro w' hw'; go_simp; (try with_reducible rfl)
              (try simp only [Act.put, List.setIfInBounds_toArray, List.set_cons_zero, List.set_cons_succ])
              refine Draws.take 4 (v := ?v42) HS.out rfl (by kernel_rfl) (fun _ _ _ h => h) (Or.inl ⟨rfl, ?h42⟩) ?r42
              case h42 => intro w' hw'; have hc := (hw'.get 1 rfl).cell (k := 0) (Lk.p0 _); rw [X0.out] at hc; go_simp; (try with_reducible rfl)
              (try simp only [Act.put, List.setIfInBounds_toArray, List.set_cons_zero, List.set_cons_succ])
              refine Draws.take 5 (v := ?v43) HS.out rfl (by kernel_rfl) (fun _ _ _ h => h) (Or.inl ⟨rfl, ?h43⟩) ?r43
              case h43 => intro w' hw'; go_simp; (try with_reducible rfl)
              (try simp only [Act.put, List.setIfInBounds_toArray, List.set_cons_zero, List.set_cons_succ])
              refine Draws.take 6 (v := ?v44) HS.out rfl (by kernel_rfl) (fun _ _ _ h => h) (Or.inl ⟨rfl, ?h44⟩) ?r44
              case h44 => intro w' hw'; have hwr := HW.out; go_simp; (try with_reducible rfl)
              (try simp only [Act.put, List.setIfInBounds_toArray, List.set_cons_zero, List.set_cons_succ])
              refine Draws.take 7 (v := ?v45) HS.out rfl (by kernel_rfl) (fun _ _ _ h => h) (Or.inl ⟨rfl, ?h45⟩) ?r45
              case h45 => intro w' hw'; go_simp; (try with_reducible rfl)
              (try simp only [Act.put, List.setIfInBounds_toArray, List.set_cons_zero, List.set_cons_succ])
              refine Draws.take 8 (v := ?v46) HS.out rfl (by kernel_rfl) (fun _ _ _ h => h) (Or.inl ⟨rfl, ?h46⟩) ?r46
              case h46 => intro w' hw'; go_simp; (try with_reducible rfl)
              (try simp only [Act.put, List.setIfInBounds_toArray, List.set_cons_zero, List.set_cons_succ])
              refine Draws.take 9 (v := ?v47) HS.out rfl (by kernel_rfl) (fun _ _ _ h => h) (Or.inl ⟨rfl, ?h47⟩) ?r47
              case h47 => intro w' hw'; go_simp; (try with_reducible rfl)
              (try simp only [Act.put, List.setIfInBounds_toArray, List.set_cons_zero, List.set_cons_succ])
              refine Draws.take 10 (v := ?v48) HS.out rfl (by kernel_rfl) (fun _ _ _ h => h) (Or.inl ⟨rfl, ?h48⟩) ?r48
              case h48 => intro w' hw'; go_simp; (try with_reducible rfl)
              (try simp only [Act.put, List.setIfInBounds_toArray, List.set_cons_zero, List.set_cons_succ])
              refine Draws.take 11 (v := ?v49) HS.out rfl (by kernel_rfl) (fun _ _ _ h => h) (Or.inl ⟨rfl, ?h49⟩) ?r49
              case h49 => intro w' hw'; have hc := (hw'.get 1 rfl).cell (k := 1) (Lk.p1 _); rw [X1.out] at hc; go_simp; (try with_reducible rfl)
              (try simp only [Act.put, List.setIfInBounds_toArray, List.set_cons_zero, List.set_cons_succ])
              refine Draws.take 12 (v := ?v50) HS.out rfl (by kernel_rfl) (fun _ _ _ h => h) (Or.inl ⟨rfl, ?h50⟩) ?r50
              case h50 => intro w' hw'; go_simp; (try with_reducible rfl)
              (try simp only [Act.put, List.setIfInBounds_toArray, List.set_cons_zero, List.set_cons_succ])
              refine Draws.take 13 (v := ?v51) HS.out rfl (by kernel_rfl) (fun _ _ _ h => h) (Or.inl ⟨rfl, ?h51⟩) ?r51
              case h51 => intro w' hw'; go_simp; (try with_reducible rfl)
              (try simp only [Act.put, List.setIfInBounds_toArray, List.set_cons_zero, List.set_cons_succ])
              refine Draws.take 14 (v := ?v52) HS.out rfl (by kernel_rfl) (fun _ _ _ h => h) (Or.inl ⟨rfl, ?h52⟩) ?r52
              case h52 => intro w' hw'; go_simp; (try with_reducible rfl)
              (try simp only [Act.put, List.setIfInBounds_toArray, List.set_cons_zero, List.set_cons_succ])
              refine Draws.take 15 (v := ?v53) HS.out rfl (by kernel_rfl) (fun _ _ _ h => h) (Or.inl ⟨rfl, ?h53⟩) ?r53
              case h53 => intro w' hw'; go_simp; (try with_reducible rfl)
              (try simp only [Act.put, List.setIfInBounds_toArray, List.set_cons_zero, List.set_cons_succ])
              refine Draws.take 16 (v := ?v54) HS.out rfl (by kernel_rfl) (fun _ _ _ h => h) (Or.inl ⟨rfl, ?h54⟩) ?r54
              case h54 => intro w' hw'; have hc := (hw'.get 1 rfl).cell (k := 3) (Lk.p3 _); rw [X3.out] at hc; go_simp; (try with_reducible rfl)
              (try simp only [Act.put, List.setIfInBounds_toArray, List.set_cons_zero, List.set_cons_succ])
              refine Draws.take 17 (v := ?v55) HS.out rfl (by kernel_rfl) (fun _ _ _ h => h) (Or.inl ⟨rfl, ?h55⟩) ?r55
              case h55 => intro w' hw'; go_simp; (try with_reducible rfl)
              (try simp only [Act.put, List.setIfInBounds_toArray, List.set_cons_zero, List.set_cons_succ])
              refine Draws.take 18 (v := ?v56) HS.out rfl (by kernel_rfl) (fun _ _ _ h => h) (Or.inl ⟨rfl, ?h56⟩) ?r56
              case h56 => intro w' hw'; go_simp; (try with_reducible rfl)
              (try simp only [Act.put, List.setIfInBounds_toArray, List.set_cons_zero, List.set_cons_succ])
              refine Draws.take 19 (v := ?v57) HS.out rfl (by kernel_rfl) (fun _ _ _ h => h) (Or.inl ⟨rfl, ?h57⟩) ?r57
              case h57 => intro w' hw'; go_simp; (try with_reducible rfl)
              (try simp only [Act.put, List.setIfInBounds_toArray, List.set_cons_zero, List.set_cons_succ])
              refine Draws.take 20 (v := ?v58) HS.out rfl (by kernel_rfl) (fun _ _ _ h => h) (Or.inl ⟨rfl, ?h58⟩) ?r58
              case h58 => intro w' hw'; go_simp; (try with_reducible rfl)
              (try simp only [Act.put, List.setIfInBounds_toArray, List.set_cons_zero, List.set_cons_succ])
              refine Draws.take 21 (v := ?v59) HS.out rfl (by kernel_rfl) (fun _ _ _ h => h) (Or.inl ⟨rfl, ?h59⟩) ?r59
              case h59 => intro w' hw'; go_simp; (try with_reducible rfl)
              (try simp only [Act.put, List.setIfInBounds_toArray, List.set_cons_zero, List.set_cons_succ])
              refine Draws.take 22 (v := ?v60) HS.out rfl (by kernel_rfl) (fun _ _ _ h => h) (Or.inl ⟨rfl, ?h60⟩) ?r60
              case h60 => intro w' hw'; have hc := (hw'.get 1 rfl).cell (k := 2) (Lk.p2 _); rw [X2.out] at hc; go_simp; (try with_reducible rfl)
              (try simp only [Act.put, List.setIfInBounds_toArray, List.set_cons_zero, List.set_cons_succ])
              refine Draws.take 23 (v := ?v61) HS.out rfl (by kernel_rfl) (fun _ _ _ h => h) (Or.inl ⟨rfl, ?h61⟩) ?r61
              case h61 => intro w' hw'; go_simp; (try with_reducible rfl)
              (try simp only [Act.put, List.setIfInBounds_toArray, List.set_cons_zero, List.set_cons_succ])
              refine Draws.take 24 (v := ?v62) HS.out rfl (by kernel_rfl) (fun _ _ _ h => h) (Or.inl ⟨rfl, ?h62⟩) ?r62
              case h62 => intro w' hw'; go_simp; (try with_reducible rfl)
              (try simp only [Act.put, List.setIfInBounds_toArray, List.set_cons_zero, List.set_cons_succ])
              refine Draws.take 25 (v := ?v63) HS.out rfl (by kernel_rfl) (fun _ _ _ h => h) (Or.inl ⟨rfl, ?h63⟩) ?r63
              case h63 => intro w' hw'; go_simp; (try with_reducible rfl)
              (try simp only [Act.put, List.setIfInBounds_toArray, List.set_cons_zero, List.set_cons_succ])
              refine Draws.take 26 (v := ?v64) HS.out rfl (by kernel_rfl) (fun _ _ _ h => h) (Or.inl ⟨rfl, ?h64⟩) ?r64
              case h64 => intro w' hw'; go_simp; (try with_reducible rfl)
              (try simp only [Act.put, List.setIfInBounds_toArray, List.set_cons_zero, List.set_cons_succ])
              refine Draws.take 27 (v := ?v65) HS.out rfl (by kernel_rfl) (fun _ _ _ h => h) (Or.inl ⟨rfl, ?h65⟩) ?r65
              case h65 => intro w' hw'; go_simp; (try with_reducible rfl)
              (try simp only [Act.put, List.setIfInBounds_toArray, List.set_cons_zero, List.set_cons_succ])
              refine Draws.take 28 (v := ?v66) HS.out rfl (by kernel_rfl) (fun _ _ _ h => h) (Or.inl ⟨rfl, ?h66⟩) ?r66
              case h66 => intro w' hw'; go_simp; (try with_reducible rfl)
              (try simp only [Act.put, List.setIfInBounds_toArray, List.set_cons_zero, List.set_cons_succ])
              refine Draws.take 29 (v := ?v67) HS.out rfl (by kernel_rfl) (fun _ _ _ h => h) (Or.inl ⟨rfl, ?h67⟩) ?r67
              case h67 => intro w' hw'; go_simp; (try with_reducible rfl)
              (try simp only [Act.put, List.setIfInBounds_toArray, List.set_cons_zero, List.set_cons_succ])
              refine Draws.take 30 (v := ?v68) HS.out rfl (by kernel_rfl) (fun _ _ _ h => h) (Or.inl ⟨rfl, ?h68⟩) ?r68
              case h68 => intro w' hw'; go_simp; (try with_reducible rfl)
              (try simp only [Act.put, List.setIfInBounds_toArray, List.set_cons_zero, List.set_cons_succ])
              refine Draws.take 31 (v := ?v69) HS.out rfl (by kernel_rfl) (fun _ _ _ h => h) (Or.inl ⟨rfl, ?h69⟩) ?r69
              case h69 => intro w' hw'; go_simp; (try with_reducible rfl)
              (try simp only [Act.put, List.setIfInBounds_toArray, List.set_cons_zero, List.set_cons_succ])
              refine Draws.take 32 (v := ?v70) HS.out rfl (by kernel_rfl) (fun _ _ _ h => h) (Or.inl ⟨rfl, ?h70⟩) ?r70
              case h70 => intro w' hw'; go_simp; (try with_reducible rfl)
              (try simp only [Act.put, List.setIfInBounds_toArray, List.set_cons_zero, List.set_cons_succ])
              refine Draws.take 33 (v := ?v71) HS.out rfl (by kernel_rfl) (fun _ _ _ h => h) (Or.inl ⟨rfl, ?h71⟩) ?r71
              case h71 => intro w' hw'; go_simp; (try with_reducible rfl)
              (try simp only [Act.put, List.setIfInBounds_toArray, List.set_cons_zero, List.set_cons_succ])
              refine Draws.take 34 (v := ?v72) HS.out rfl (by kernel_rfl) (fun _ _ _ h => h) (Or.inl ⟨rfl, ?h72⟩) ?r72
              case h72 => intro w' hw'; go_simp; (try with_reducible rfl)
              (try simp only [Act.put, List.setIfInBounds_toArray, List.set_cons_zero, List.set_cons_succ])
              refine Draws.take 35 HS.out rfl (by kernel_rfl) (fun _ _ _ h => h) (yield_all (fun _ h => h) 2 4 Try.underlying23 rfl lk_info rfl _ rfl rfl rfl (Lk.len _)) ?_
              (try simp only [Act.put, List.setIfInBounds_toArray, List.set_cons_zero, List.set_cons_succ])
              refine Draws.take 36 HS.out rfl (by kernel_rfl) (fun _ _ _ h => h) (yield_all (fun _ h => h) 1 4 Try.underlying23 rfl lk_info rfl _ rfl rfl rfl (Lk.len _)) ?_
              (try simp only [Act.put, List.setIfInBounds_toArray, List.set_cons_zero, List.set_cons_succ])
              refine Draws.take 38 HS.out rfl (by kernel_rfl) (fun _ _ _ h => h) (yield_all (fun _ h => h) 1 4 Try.underlying23 rfl lk_info rfl _ rfl rfl rfl (Lk.len _)) ?_
              (try simp only [Act.put, List.setIfInBounds_toArray, List.set_cons_zero, List.set_cons_succ])
              refine Draws.does 37 rfl (by kernel_rfl) rfl (fun K hK => ?_)
              go_simp
              go_at_call 9
              refine (jj _).mono ?_
              rintro e u ⟨rfl, hb⟩
              (try dsimp only)
              refine hK.out _ _ (fun _ => HS.out.call hb) ?_
              clear hK K
              have hs : (fun u => KeepR w [(bg, 23, G.l), (bx, 23, X.l), (bl, 23, L.l)] u) u := HS.out.call hb
              clear HS
              have HS := Lib.hid hs; clear hs
              (try simp only [Act.put, List.setIfInBounds_toArray, List.set_cons_zero, List.set_cons_succ])
              clear hb
              refine Draws.take 39 (v := ?v73) HS.out rfl (by kernel_rfl) (fun _ _ _ h => h) (Or.inl ⟨rfl, ?h73⟩) ?r73
              case h73 => intro w' hw'; go_simp; (try with_reducible rfl)
              (try simp only [Act.put, List.setIfInBounds_toArray, List.set_cons_zero, List.set_cons_succ])
              refine Draws.take 40 (v := ?v74) HS.out rfl (by kernel_rfl) (fun _ _ _ h => h) (Or.inl ⟨rfl, ?h74⟩) ?r74
              case h74 => intro w' hw'; go_simp; (try with_reducible rfl)
              (try simp only [Act.put, List.setIfInBounds_toArray, List.set_cons_zero, List.set_cons_succ])
              refine Draws.done (by kernel_rfl) ?_
              clear HK
              have HK := Lib.hid HS.out; clear HS
              go_wp2_with (first
                | (with_reducible refine load_all HK.out 1 4 Try.underlying23 rfl lk_info rfl _ rfl rfl rfl (Lk.len _) ?_)
                | (with_reducible refine store_all HK.out 2 4 lk_info rfl rfl _ _ rfl rfl rfl rfl (Lk.len _) (Lk.len _) ?_; intro u hk hs; clear hs; simp only [List.set_cons_zero, List.set_cons_succ] at hk; clear HK; have HK := Lib.hid hk; clear hk))
              go_roundw
              case rel => exact ⟨m + 1, X, by omega, by go_num, by have := X0.out; simpa [Lk.l] using this, X1.out, X3.out, HK.out.tail.tail⟩
              case measure => simp [intOf]; omega
        · obtain rfl : m = n2 := by omega
          clear HX HL
          go_wp2_with (first
            | (go_at_call 13; (with_reducible refine (awake5 _).mono ?_); rintro e u ⟨rfl, hb⟩; have hk := HK.out.call hb; clear hb; clear HK; have HK := Lib.hid hk; clear hk))
          go_ret
          exact ⟨rfl, HK.out.bel⟩
    · have hn' : (30 : Int) < (n2 : Int) := by omega
      have hn3 : decide ((30 : Int) < (n2 : Int)) = true := by simp; omega
      clear HR
      go_enter Try.func8, Try.ntmps8
      go_wp2_with (first
        | (with_reducible refine alloc_zero HK.out 4 lk_zero rfl rfl ?_; intro bl u hn hk hb; clear hn hb; clear HK; have HK := Lib.hid hk; clear hk)
        | (go_at_call 14; (with_reducible refine (n1 _).mono ?_); rintro e u ⟨rfl, hb⟩; have hk := HK.out.call hb; clear hb; clear HK; have HK := Lib.hid hk; clear hk)
        | (with_reducible refine store_all HK.out 0 4 lk_info rfl rfl _ _ rfl rfl rfl rfl (Lk.len _) (zer_length 4) ?_; intro u hk hs; clear hs; simp only [List.set_cons_zero] at hk; clear HK; have HK := Lib.hid hk; clear hk)
        | (go_at_call 13; (with_reducible refine (awake5 _).mono ?_); rintro e u ⟨rfl, hb⟩; have hk := HK.out.call hb; clear hb; clear HK; have HK := Lib.hid hk; clear hk))
      go_ret
      exact ⟨rfl, HK.out.bel⟩
  · have h0' : (newE a0 a1 == 0) = false := by simp [h0]
    generalize newE a0 a1 = e at n1 h0 h0'
    generalize newA a0 a1 = N at n1
    clear HR
    go_enter Try.func8, Try.ntmps8
    go_wp2_with (first
      | (with_reducible refine alloc_zero HK.out 4 lk_zero rfl rfl ?_; intro bl u hn hk hb; clear hn hb; clear HK; have HK := Lib.hid hk; clear hk)
      | (go_at_call 14; (with_reducible refine (n1 _).mono ?_); rintro e u ⟨rfl, hb⟩; have hk := HK.out.call hb; clear hb; clear HK; have HK := Lib.hid hk; clear hk)
      | (with_reducible refine store_all HK.out 0 4 lk_info rfl rfl _ _ rfl rfl rfl rfl (Lk.len _) (zer_length 4) ?_; intro u hk hs; clear hs; simp only [List.set_cons_zero] at hk; clear HK; have HK := Lib.hid hk; clear hk)
      | (go_at_call 13; (with_reducible refine (awake5 _).mono ?_); rintro e u ⟨rfl, hb⟩; have hk := HK.out.call hb; clear hb; clear HK; have HK := Lib.hid hk; clear hk))
    go_ret
    exact ⟨rfl, HK.out.bel⟩

set_option maxRecDepth 100000 in
theorem lifted (os : Os) (started : os.Started) (H : Type) (enc : TypeId × Value → H) :
    ReturnsInHanded {} Try.checked os 8 .any (Rows.lockPassesSpec.pre6 enc Try.prog Try.f8 Rows.lockPassesRow.domain false) (Rows.lockPassesSpec.post enc Try.prog Try.f8 false true false false) := by
  refine returnsInHanded_of_change (C := Try.checked) own started (by kernel_rfl) Try.func8
    (ChangeSpec.witness6 (enc := enc) (C := Try.checked) false ⟨#[], #[.int .i64 0, .int .i64 0, .slice none 0 0], []⟩ 12 (by kernel_rfl) (by kernel_rfl) (by kernel_rfl) (by kernel_rfl)) ?_
  intro W base args ds gs before hval0 hW hcnd _
  have hval : ∀ (j : Nat) t v, Try.f8.params[j]? = some t → args[j]? = some v → Value.okWide Try.prog W .any base t v := hval0
  have hW' := hW
  obtain ⟨p, q, hA0, hV, rfl, hfz, hnd⟩ := hW
  have hA : DataW.TrodAll enc Try.prog W 0 (fun _ => true) true Try.f8.params.toList args.toList ds p := hA0
  rw [Try.params8] at hA hval
  obtain ⟨v0, vs0, d0, ds0, p0, q0, hargs, rfl, rfl, h0, r0⟩ := trodAll_cons hA
  obtain ⟨v1, vs1, d1, ds1, p1, q1, rfl, rfl, rfl, h1, r1⟩ := trodAll_cons r0
  obtain ⟨v2, vs2, d2, ds2, p2, q2, rfl, rfl, rfl, h2, r2⟩ := trodAll_cons r1
  obtain ⟨rfl, rfl, rfl⟩ := trodAll_nil r2
  obtain rfl : args = #[v0, v1, v2] := by cases args; simp_all
  obtain ⟨rfl, rfl⟩ := trodVars_none hV
  have k0 := h0
  have lt0 : ∀ x ∈ p0, x.block < W.heap.size := by obtain ⟨m, hm⟩ := k0; exact DataW.trod_lt m _ _ _ hm
  obtain ⟨a0, rfl, rfl, rfl, w0⟩ := open_int Try.underlying3 (hval 0 3 v0 rfl rfl) h0
  have k1 := h1
  have lt1 : ∀ x ∈ p1, x.block < W.heap.size := by obtain ⟨m, hm⟩ := k1; exact DataW.trod_lt m _ _ _ hm
  obtain ⟨a1, rfl, rfl, rfl, w1⟩ := open_int Try.underlying3 (hval 1 3 v1 rfl rfl) h1
  have k2 := h2
  have lt2 : ∀ x ∈ p2, x.block < W.heap.size := by obtain ⟨m, hm⟩ := k2; exact DataW.trod_lt m _ _ _ hm
  obtain ⟨A2, n2, c2, x2, rfl, hd2⟩ := open_is (hval 2 44 v2 rfl rfl) h2
  clear hA0 hval0
  refine (walk W a0 w0 a1 w1 A2 n2 c2 x2 hd2).mono fun e W' ⟨he, bel⟩ => ?_
  subst he
  exact ⟨_, rfl, _, _, _, [], _, [], hW', trodAll_mk1 (shut_bool Try.underlying4 _), (trodAll_cons_mk (Below.trod laidOut (by kernel_rfl) (of_decide_eq_true (by kernel_rfl)) k0 bel lt0) (trodAll_cons_mk (Below.trod laidOut (by kernel_rfl) (of_decide_eq_true (by kernel_rfl)) k1 bel lt1) (trodAll_cons_mk (Below.trod laidOut (by kernel_rfl) (of_decide_eq_true (by kernel_rfl)) k2 bel lt2) trodAll_mk0))), rfl, bel.frame _, fun h => by cases h⟩

theorem over : Rows.lockPassesRow.holds Try.pinned (OpenSpec.ofChange Rows.lockPassesSpec) :=
  OpenClaim.holds_of_wide 8 Try.f8 rfl rfl rfl rfl rfl rfl rfl ⟨rfl, rfl, rfl, rfl, rfl⟩ rfl rfl rfl rfl rfl (by kernel_rfl) Try.func8 (by kernel_rfl)
    (of_decide_eq_true (by kernel_rfl)) (by unfold Func.isWrapper; first | (rw [if_pos (by decide +kernel)]; kernel_rfl) | (rw [if_neg (by decide +kernel)]; exact ⟨rfl, rfl⟩))
    (fun os started H enc _ => lifted os started H enc)

theorem proved : Rows.LockPassesSaid := over
#print axioms proved
end Go.Proofs.Ytbaacdkjdkkifaa.lockPasses
