/- Whether any field, and name, may be, its value, and what is loose at any replica, are the document's. No condition. -/
import Derived.Test.YtbaccghnneidgaaGreatFa
import Derived.WalkKit
import Derived.ProofKit
import Derived.OpenShut
import Derived.ChangeOld
import Derived.Below
namespace Go.Proofs.YtbaccghnneidgaaGreat.fieldTells
open Go.ChangeShapes Go.WideShapes Go.ChangeAt Go.RowKit
set_option linter.unusedVariables false

theorem own : ownKnob Tryz.prog.godebug = none := by kernel_rfl
theorem laidOut : laidOutB Tryz.prog = true := by kernel_rfl

theorem right_rights {p : Pf} {A : Option Addr} {c : Nat} (h : rightF (p.fd A c) p.hs = true) : p.k = 1 → rightsL p.hs = true := fun k1 => by
  unfold rightF at h
  simp only [Bool.and_eq_true, Bool.or_eq_true] at h
  rcases h.2 with h | h
  · unfold rcB at h
    simp only [Bool.and_eq_true] at h
    exact h.1.2
  · unfold rlB at h
    simp only [Bool.and_eq_true, beq_iff_eq] at h
    have := h.1.1.1
    rw [show (p.fd A c).k = p.k from rfl, k1] at this
    cases this
theorem vok {p : Pf} {A : Option Addr} {c : Nat} (hp : p.full) (hD : (p.fd A c).ok) (w : World) : Calls Tryz.prog 11 #[.agg (p.fd A c).cells.toArray] w fun e w' => e = .returned (.tuple #[.int .i64 (viewN (p.fd none 0)), .int .i64 (viewE (p.fd none 0))]) ∧ Below w.heap.size w w' := view_any (p.fd A c) hp hD w
theorem rvok {p : Pf} {A : Option Addr} {c : Nat} (hp : p.full) (w : World) : Calls Tryz.prog 12 #[.agg (p.fd A c).cells.toArray] w fun e w' => e = .returned (.tuple #[.int .i64 (viewN (p.fd none 0)), .int .i64 (viewE (p.fd none 0))]) ∧ Below w.heap.size w w' := rview_any (p.fd A c) hp w
theorem luk {p : Pf} {A : Option Addr} {c : Nat} (k : Int) : looseU (p.fd A c) k = looseU (p.fd none 0) k := rfl

set_option maxRecDepth 100000 in
set_option maxHeartbeats 4000000 in
theorem walk (w : World) (p0 : Pf) (A0 : Option Addr) (c0 : Nat) (hp0 : p0.full) (hd0 : Came w A0 p0.hs.length p0.hs) (hc0 : p0.hs.length ≤ c0) (hw0 : ∀ z ∈ p0.C, (Lit.int .i64 z).wf = true) (a1 : Int) (w1 : (Lit.int .i64 a1).wf = true) (s2 : ByteArray) :
    Calls Tryz.prog 3 #[.agg (p0.fd A0 c0).cells.toArray, .int .i64 a1, .string s2] w fun e w' => e = .returned (.bool true) ∧ Below w.heap.size w w' := by
  cases hfew : fewP p0 with
  | false =>
    have HFEW := Lib.hid hfew
    have HF := Lib.hid hp0; clear hp0
    have HK := Lib.hid (KeepF.start (w := w) (rows := []) (by simp))
    clear hd0
    go_enter Tryz.func3, Tryz.ntmps3
    go_wp2_with (first
      | (with_reducible refine box_f HK.out rfl _ rfl rfl ?_; intro b1 u hk; clear HK; have HK := Lib.hid hk; clear hk)
      | (with_reducible refine load_fr HK.out 0 Tryz.underlying33 rfl (Pf.infoF HF.out) _ rfl rfl rfl rfl Pf.all ?_)
      | (with_reducible refine build_f1 HK.out rfl _ rfl HF.out rfl ?_; intro b2 u hk; clear HK; have HK := Lib.hid hk; clear hk)
      | (go_at_call 9; (with_reducible refine (few_f p0 HF.out A0 c0 _ _ HFEW.out _ (HK.out.get 0 rfl)).mono ?_); rintro e u ⟨rfl, hb⟩; have hk := HK.out.call hb; clear hb; clear HK; have HK := Lib.hid hk; clear hk)
      | (go_at_call 10; (with_reducible refine (awake_f _).mono ?_); rintro e u ⟨rfl, hb⟩; have hk := HK.out.call hb; clear hb; clear HK; have HK := Lib.hid hk; clear hk))
    go_ret
    exact ⟨rfl, HK.out.bel⟩
  | true =>
    have hsz : p0.nm.size ≤ 100 ∧ p0.hs.length ≤ 40 := by simpa [fewP] using hfew
    have hrow := hd0.row (by omega)
    have HFEW := Lib.hid hfew
    have HF := Lib.hid hp0
    have HK := Lib.hid (KeepF.start (w := w) (rows := [(A0, p0.hs.length, p0.hs)]) (by simpa using hrow))
    by_cases h100 : s2.size ≤ 100
    · have d100 : decide ((100 : Int) < (s2.size : Int)) = false := by rw [decide_eq_false_iff_not]; omega
      have hn1 := fname_any s2 (by omega)
      have hn2 := rfname_any s2 (by omega)
      have hv1 := fun w => vok (A := A0) (c := c0) hp0 (ok_of_wf hw0) w
      have hv2 := fun w => rvok (A := A0) (c := c0) hp0 w
      have hl1 := fun w h => lok (A := A0) (c := c0) hp0 a1 w h
      have hsm := fun w h => fsame_any p0 hp0 A0 c0 w h
      obtain ⟨r, hr⟩ : ∃ r, rightF (p0.fd A0 c0) p0.hs = r := ⟨_, rfl⟩
      have hr1 := fun w h => right_any7 (p0.fd A0 c0) hp0 (by have := hsz.1; exact Nat.le_trans this (by omega)) p0.hs w h r hr
      have hr2 := fun w h => rright_any7 (p0.fd A0 c0) hp0 (by have := hsz.1; exact Nat.le_trans this (by omega)) p0.hs w h r hr
      have hrr := @right_rights p0 A0 c0
      rw [hr] at hrr
      rw [luk] at hl1
      have hl2 := fun (h0 : r = true) w h => rlok (A := A0) (c := c0) hp0 (hrr h0) a1 w h
      rw [luk] at hl2
      generalize nameB s2 = rn at hn1 hn2
      generalize viewN (p0.fd none 0) = vN at hv1 hv2
      generalize viewE (p0.fd none 0) = vE at hv1 hv2
      generalize looseP p0 a1 = lD at hl1 hl2
      generalize looseU (p0.fd none 0) a1 = lU at hl1 hl2
      clear hrr hr hrow hsz hd0 hw0 w1 hc0 hp0 h100
      cases r with
      | false =>
        clear hl2
        go_enter Tryz.func3, Tryz.ntmps3
        go_wp2_with (first
          | (with_reducible refine box_f HK.out rfl _ rfl rfl ?_; intro b1 u hk; clear HK; have HK := Lib.hid hk; clear hk)
          | (with_reducible refine load_fr HK.out 0 Tryz.underlying33 rfl (Pf.infoF HF.out) _ rfl rfl rfl rfl Pf.all ?_)
          | (with_reducible refine build_f1 HK.out rfl _ rfl HF.out rfl ?_; intro b2 u hk; clear HK; have HK := Lib.hid hk; clear hk)
          | (go_at_call 9; (with_reducible refine (few_f p0 HF.out A0 c0 _ _ HFEW.out _ (HK.out.get 0 rfl)).mono ?_); rintro e u ⟨rfl, hb⟩; have hk := HK.out.call hb; clear hb; clear HK; have HK := Lib.hid hk; clear hk)
          | (with_reducible refine load_fr HK.out 1 Tryz.underlying33 rfl (Pf.infoF HF.out) _ rfl rfl rfl rfl Pf.all ?_)
          | (go_at_call 11; (with_reducible refine (hv1 _).mono ?_); rintro e u ⟨rfl, hb⟩; have hk := HK.out.call hb; clear hb; clear HK; have HK := Lib.hid hk; clear hk)
          | (go_at_call 12; (with_reducible refine (hv2 _).mono ?_); rintro e u ⟨rfl, hb⟩; have hk := HK.out.call hb; clear hb; clear HK; have HK := Lib.hid hk; clear hk)
          | (go_at_call 13; (with_reducible refine (hl1 _ (HK.out.rowAt 0 rfl)).mono ?_); rintro e u ⟨rfl, hb⟩; have hk := HK.out.call hb; clear hb; clear HK; have HK := Lib.hid hk; clear hk)
          | (go_at_call 14; (with_reducible refine (hr2 _ (HK.out.rowAt 0 rfl)).mono ?_); rintro e u ⟨rfl, hb⟩; have hk := HK.out.call hb; clear hb; clear HK; have HK := Lib.hid hk; clear hk))
        refine Draws.start (S := fun u => KeepF w [(b2, 33, (p0.fd A0 c0).cells), (b1, 33, (p0.fd A0 c0).cells)] [(A0, p0.hs.length, p0.hs)] u) (n := 31) 31 rfl (by kernel_rfl) ?_
        have hk := HK.out.drew
        clear HK; have HK := Lib.hid hk; clear hk
        have HS := Lib.hid (show (fun u => KeepF w [(b2, 33, (p0.fd A0 c0).cells), (b1, 33, (p0.fd A0 c0).cells)] [(A0, p0.hs.length, p0.hs)] u) _ from HK.out)
        refine Draws.take 0 HS.out rfl (by kernel_rfl) (fun _ _ _ h => h) (yield_fr (fun _ h => h) 1 Tryz.underlying33 rfl (Pf.infoF HF.out) _ rfl rfl rfl rfl Pf.all) ?_
        (try simp only [Act.put, List.setIfInBounds_toArray, List.set_cons_zero, List.set_cons_succ])
        refine Draws.take 2 HS.out rfl (by kernel_rfl) (fun _ _ _ h => h) (yield_fr (fun _ h => h) 1 Tryz.underlying33 rfl (Pf.infoF HF.out) _ rfl rfl rfl rfl Pf.all) ?_
        (try simp only [Act.put, List.setIfInBounds_toArray, List.set_cons_zero, List.set_cons_succ])
        refine Draws.does 1 rfl (by kernel_rfl) rfl (fun K hK => ?_)
        go_simp
        go_at_call 16
        refine (hr1 _ (HK.out.rowAt 0 rfl)).mono ?_
        rintro e u ⟨rfl, hb⟩
        (try dsimp only)
        have hk := HK.out.call hb; clear hb; clear HK; have HK := Lib.hid hk; clear hk
        refine hK.out _ _ (fun _ => HK.out) ?_
        clear hK K
        have hs : (fun u => KeepF w [(b2, 33, (p0.fd A0 c0).cells), (b1, 33, (p0.fd A0 c0).cells)] [(A0, p0.hs.length, p0.hs)] u) u := HK.out
        clear HS
        have HS := Lib.hid hs; clear hs
        (try simp only [Act.put, List.setIfInBounds_toArray, List.set_cons_zero, List.set_cons_succ])
        refine Draws.does 3 rfl (by kernel_rfl) rfl (fun K hK => ?_)
        go_simp
        go_at_call 14
        refine (hr2 _ (HK.out.rowAt 0 rfl)).mono ?_
        rintro e u ⟨rfl, hb⟩
        (try dsimp only)
        have hk := HK.out.call hb; clear hb; clear HK; have HK := Lib.hid hk; clear hk
        refine hK.out _ _ (fun _ => HK.out) ?_
        clear hK K
        have hs : (fun u => KeepF w [(b2, 33, (p0.fd A0 c0).cells), (b1, 33, (p0.fd A0 c0).cells)] [(A0, p0.hs.length, p0.hs)] u) u := HK.out
        clear HS
        have HS := Lib.hid hs; clear hs
        (try simp only [Act.put, List.setIfInBounds_toArray, List.set_cons_zero, List.set_cons_succ])
        refine Draws.take 4 (v := ?v1) HS.out rfl (by kernel_rfl) (fun _ _ _ h => h) (Or.inl ⟨rfl, ?h1⟩) ?r1
        case h1 => intro w' hw'; go_simp; (try with_reducible rfl)
        (try simp only [Act.put, List.setIfInBounds_toArray, List.set_cons_zero, List.set_cons_succ])
        refine Draws.take 5 (v := ?v2) HS.out rfl (by kernel_rfl) (fun _ _ _ h => h) (Or.inl ⟨rfl, ?h2⟩) ?r2
        case h2 => intro w' hw'; go_simp; (try with_reducible rfl)
        (try simp only [Act.put, List.setIfInBounds_toArray, List.set_cons_zero, List.set_cons_succ])
        refine Draws.take 6 (v := ?v3) HS.out rfl (by kernel_rfl) (fun _ _ _ h => h) (Or.inl ⟨rfl, ?h3⟩) ?r3
        case h3 => intro w' hw'; go_simp; (try with_reducible rfl)
        (try simp only [Act.put, List.setIfInBounds_toArray, List.set_cons_zero, List.set_cons_succ])
        refine Draws.take 8 (v := ?v4) HS.out rfl (by kernel_rfl) (fun _ _ _ h => h) (Or.inl ⟨rfl, ?h4⟩) ?r4
        case h4 => intro w' hw'; go_simp; (try with_reducible rfl)
        (try simp only [Act.put, List.setIfInBounds_toArray, List.set_cons_zero, List.set_cons_succ])
        refine Draws.does 7 rfl (by kernel_rfl) rfl (fun K hK => ?_)
        go_simp
        go_at_call 17
        refine (hn1 _).mono ?_
        rintro e u ⟨rfl, hb⟩
        (try dsimp only)
        have hk := HK.out.call hb; clear hb; clear HK; have HK := Lib.hid hk; clear hk
        refine hK.out _ _ (fun _ => HK.out) ?_
        clear hK K
        have hs : (fun u => KeepF w [(b2, 33, (p0.fd A0 c0).cells), (b1, 33, (p0.fd A0 c0).cells)] [(A0, p0.hs.length, p0.hs)] u) u := HK.out
        clear HS
        have HS := Lib.hid hs; clear hs
        (try simp only [Act.put, List.setIfInBounds_toArray, List.set_cons_zero, List.set_cons_succ])
        refine Draws.does 9 rfl (by kernel_rfl) rfl (fun K hK => ?_)
        go_simp
        go_at_call 18
        refine (hn2 _).mono ?_
        rintro e u ⟨rfl, hb⟩
        (try dsimp only)
        have hk := HK.out.call hb; clear hb; clear HK; have HK := Lib.hid hk; clear hk
        refine hK.out _ _ (fun _ => HK.out) ?_
        clear hK K
        have hs : (fun u => KeepF w [(b2, 33, (p0.fd A0 c0).cells), (b1, 33, (p0.fd A0 c0).cells)] [(A0, p0.hs.length, p0.hs)] u) u := HK.out
        clear HS
        have HS := Lib.hid hs; clear hs
        (try simp only [Act.put, List.setIfInBounds_toArray, List.set_cons_zero, List.set_cons_succ])
        refine Draws.take 10 (v := ?v5) HS.out rfl (by kernel_rfl) (fun _ _ _ h => h) (Or.inl ⟨rfl, ?h5⟩) ?r5
        case h5 => intro w' hw'; go_simp; (try with_reducible rfl)
        (try simp only [Act.put, List.setIfInBounds_toArray, List.set_cons_zero, List.set_cons_succ])
        refine Draws.take 11 (v := ?v6) HS.out rfl (by kernel_rfl) (fun _ _ _ h => h) (Or.inl ⟨rfl, ?h6⟩) ?r6
        case h6 => intro w' hw'; go_simp; (try with_reducible rfl)
        (try simp only [Act.put, List.setIfInBounds_toArray, List.set_cons_zero, List.set_cons_succ])
        refine Draws.take 12 (v := ?v7) HS.out rfl (by kernel_rfl) (fun _ _ _ h => h) (Or.inl ⟨rfl, ?h7⟩) ?r7
        case h7 => intro w' hw'; go_simp; (try with_reducible rfl)
        (try simp only [Act.put, List.setIfInBounds_toArray, List.set_cons_zero, List.set_cons_succ])
        refine Draws.take 13 (v := ?v8) HS.out rfl (by kernel_rfl) (fun _ _ _ h => h) (Or.inl ⟨rfl, ?h8⟩) ?r8
        case h8 => intro w' hw'; go_simp; (try with_reducible rfl)
        (try simp only [Act.put, List.setIfInBounds_toArray, List.set_cons_zero, List.set_cons_succ])
        refine Draws.take 14 (v := ?v9) HS.out rfl (by kernel_rfl) (fun _ _ _ h => h) (Or.inl ⟨rfl, ?h9⟩) ?r9
        case h9 => intro w' hw'; go_simp; (try with_reducible rfl)
        (try simp only [Act.put, List.setIfInBounds_toArray, List.set_cons_zero, List.set_cons_succ])
        refine Draws.take 15 (v := ?v10) HS.out rfl (by kernel_rfl) (fun _ _ _ h => h) (Or.inl ⟨rfl, ?h10⟩) ?r10
        case h10 => intro w' hw'; go_simp; (try with_reducible rfl)
        (try simp only [Act.put, List.setIfInBounds_toArray, List.set_cons_zero, List.set_cons_succ])
        refine Draws.take 16 (v := ?v11) HS.out rfl (by kernel_rfl) (fun _ _ _ h => h) (Or.inl ⟨rfl, ?h11⟩) ?r11
        case h11 => intro w' hw'; go_simp; (try with_reducible rfl)
        (try simp only [Act.put, List.setIfInBounds_toArray, List.set_cons_zero, List.set_cons_succ])
        refine Draws.take 17 (v := ?v12) HS.out rfl (by kernel_rfl) (fun _ _ _ h => h) (Or.inl ⟨rfl, ?h12⟩) ?r12
        case h12 => intro w' hw'; go_simp; (try with_reducible rfl)
        (try simp only [Act.put, List.setIfInBounds_toArray, List.set_cons_zero, List.set_cons_succ])
        refine Draws.take 18 (v := ?v13) HS.out rfl (by kernel_rfl) (fun _ _ _ h => h) (Or.inl ⟨rfl, ?h13⟩) ?r13
        case h13 => intro w' hw'; go_simp; (try with_reducible rfl)
        (try simp only [Act.put, List.setIfInBounds_toArray, List.set_cons_zero, List.set_cons_succ])
        refine Draws.take 19 (v := ?v14) HS.out rfl (by kernel_rfl) (fun _ _ _ h => h) (Or.inl ⟨rfl, ?h14⟩) ?r14
        case h14 => intro w' hw'; go_simp; (try with_reducible rfl)
        (try simp only [Act.put, List.setIfInBounds_toArray, List.set_cons_zero, List.set_cons_succ])
        refine Draws.take 20 (v := ?v15) HS.out rfl (by kernel_rfl) (fun _ _ _ h => h) (Or.inl ⟨rfl, ?h15⟩) ?r15
        case h15 => intro w' hw'; go_simp; (try with_reducible rfl)
        (try simp only [Act.put, List.setIfInBounds_toArray, List.set_cons_zero, List.set_cons_succ])
        refine Draws.take 21 (v := ?v16) HS.out rfl (by kernel_rfl) (fun _ _ _ h => h) (Or.inl ⟨rfl, ?h16⟩) ?r16
        case h16 => intro w' hw'; go_simp; (try with_reducible rfl)
        (try simp only [Act.put, List.setIfInBounds_toArray, List.set_cons_zero, List.set_cons_succ])
        refine Draws.take 22 (v := ?v17) HS.out rfl (by kernel_rfl) (fun _ _ _ h => h) (Or.inl ⟨rfl, ?h17⟩) ?r17
        case h17 => intro w' hw'; go_simp; (try with_reducible rfl)
        (try simp only [Act.put, List.setIfInBounds_toArray, List.set_cons_zero, List.set_cons_succ])
        refine Draws.take 23 HS.out rfl (by kernel_rfl) (fun _ _ _ h => h) (yield_fr (fun _ h => h) 1 Tryz.underlying33 rfl (Pf.infoF HF.out) _ rfl rfl rfl rfl Pf.all) ?_
        (try simp only [Act.put, List.setIfInBounds_toArray, List.set_cons_zero, List.set_cons_succ])
        refine Draws.take 24 HS.out rfl (by kernel_rfl) (fun _ _ _ h => h) (yield_fr (fun _ h => h) 1 Tryz.underlying33 rfl (Pf.infoF HF.out) _ rfl rfl rfl rfl Pf.all) ?_
        (try simp only [Act.put, List.setIfInBounds_toArray, List.set_cons_zero, List.set_cons_succ])
        refine Draws.does 25 rfl (by kernel_rfl) rfl (fun K hK => ?_)
        go_simp
        go_at_call 19
        refine (hsm _ (HK.out.rowAt 0 rfl)).mono ?_
        rintro e u ⟨rfl, hb⟩
        (try dsimp only)
        have hk := HK.out.call hb; clear hb; clear HK; have HK := Lib.hid hk; clear hk
        refine hK.out _ _ (fun _ => HK.out) ?_
        clear hK K
        have hs : (fun u => KeepF w [(b2, 33, (p0.fd A0 c0).cells), (b1, 33, (p0.fd A0 c0).cells)] [(A0, p0.hs.length, p0.hs)] u) u := HK.out
        clear HS
        have HS := Lib.hid hs; clear hs
        (try simp only [Act.put, List.setIfInBounds_toArray, List.set_cons_zero, List.set_cons_succ])
        refine Draws.take 26 (v := ?v18) HS.out rfl (by kernel_rfl) (fun _ _ _ h => h) (Or.inl ⟨rfl, ?h18⟩) ?r18
        case h18 => intro w' hw'; go_simp; (try with_reducible rfl)
        (try simp only [Act.put, List.setIfInBounds_toArray, List.set_cons_zero, List.set_cons_succ])
        refine Draws.take 27 (v := ?v19) HS.out rfl (by kernel_rfl) (fun _ _ _ h => h) (Or.inl ⟨rfl, ?h19⟩) ?r19
        case h19 => intro w' hw'; go_simp; (try with_reducible rfl)
        (try simp only [Act.put, List.setIfInBounds_toArray, List.set_cons_zero, List.set_cons_succ])
        refine Draws.does 28 rfl (by kernel_rfl) rfl (fun K hK => ?_)
        go_simp
        go_at_call 10
        refine (awake_f _).mono ?_
        rintro e u ⟨rfl, hb⟩
        (try dsimp only)
        have hk := HK.out.call hb; clear hb; clear HK; have HK := Lib.hid hk; clear hk
        refine hK.out _ _ (fun _ => HK.out) ?_
        clear hK K
        have hs : (fun u => KeepF w [(b2, 33, (p0.fd A0 c0).cells), (b1, 33, (p0.fd A0 c0).cells)] [(A0, p0.hs.length, p0.hs)] u) u := HK.out
        clear HS
        have HS := Lib.hid hs; clear hs
        (try simp only [Act.put, List.setIfInBounds_toArray, List.set_cons_zero, List.set_cons_succ])
        refine Draws.take 29 (v := ?v20) HS.out rfl (by kernel_rfl) (fun _ _ _ h => h) (Or.inl ⟨rfl, ?h20⟩) ?r20
        case h20 => intro w' hw'; go_simp; (try with_reducible rfl)
        (try simp only [Act.put, List.setIfInBounds_toArray, List.set_cons_zero, List.set_cons_succ])
        refine Draws.take 30 (v := ?v21) HS.out rfl (by kernel_rfl) (fun _ _ _ h => h) (Or.inl ⟨rfl, ?h21⟩) ?r21
        case h21 => intro w' hw'; go_simp; (try with_reducible rfl)
        (try simp only [Act.put, List.setIfInBounds_toArray, List.set_cons_zero, List.set_cons_succ])
        refine Draws.done (by kernel_rfl) ?_
        clear HS
        go_wp2
        go_ret
        exact ⟨rfl, HK.out.bel⟩
      | true =>
        have hl3 := hl2 rfl
        clear hl2
        go_enter Tryz.func3, Tryz.ntmps3
        go_wp2_with (first
          | (with_reducible refine box_f HK.out rfl _ rfl rfl ?_; intro b1 u hk; clear HK; have HK := Lib.hid hk; clear hk)
          | (with_reducible refine load_fr HK.out 0 Tryz.underlying33 rfl (Pf.infoF HF.out) _ rfl rfl rfl rfl Pf.all ?_)
          | (with_reducible refine build_f1 HK.out rfl _ rfl HF.out rfl ?_; intro b2 u hk; clear HK; have HK := Lib.hid hk; clear hk)
          | (go_at_call 9; (with_reducible refine (few_f p0 HF.out A0 c0 _ _ HFEW.out _ (HK.out.get 0 rfl)).mono ?_); rintro e u ⟨rfl, hb⟩; have hk := HK.out.call hb; clear hb; clear HK; have HK := Lib.hid hk; clear hk)
          | (with_reducible refine load_fr HK.out 1 Tryz.underlying33 rfl (Pf.infoF HF.out) _ rfl rfl rfl rfl Pf.all ?_)
          | (go_at_call 11; (with_reducible refine (hv1 _).mono ?_); rintro e u ⟨rfl, hb⟩; have hk := HK.out.call hb; clear hb; clear HK; have HK := Lib.hid hk; clear hk)
          | (go_at_call 12; (with_reducible refine (hv2 _).mono ?_); rintro e u ⟨rfl, hb⟩; have hk := HK.out.call hb; clear hb; clear HK; have HK := Lib.hid hk; clear hk)
          | (go_at_call 13; (with_reducible refine (hl1 _ (HK.out.rowAt 0 rfl)).mono ?_); rintro e u ⟨rfl, hb⟩; have hk := HK.out.call hb; clear hb; clear HK; have HK := Lib.hid hk; clear hk)
          | (go_at_call 14; (with_reducible refine (hr2 _ (HK.out.rowAt 0 rfl)).mono ?_); rintro e u ⟨rfl, hb⟩; have hk := HK.out.call hb; clear hb; clear HK; have HK := Lib.hid hk; clear hk)
          | (go_at_call 15; (with_reducible refine (hl3 _ (HK.out.rowAt 0 rfl)).mono ?_); rintro e u ⟨rfl, hb⟩; have hk := HK.out.call hb; clear hb; clear HK; have HK := Lib.hid hk; clear hk))
        refine Draws.start (S := fun u => KeepF w [(b2, 33, (p0.fd A0 c0).cells), (b1, 33, (p0.fd A0 c0).cells)] [(A0, p0.hs.length, p0.hs)] u) (n := 31) 31 rfl (by kernel_rfl) ?_
        have hk := HK.out.drew
        clear HK; have HK := Lib.hid hk; clear hk
        have HS := Lib.hid (show (fun u => KeepF w [(b2, 33, (p0.fd A0 c0).cells), (b1, 33, (p0.fd A0 c0).cells)] [(A0, p0.hs.length, p0.hs)] u) _ from HK.out)
        refine Draws.take 0 HS.out rfl (by kernel_rfl) (fun _ _ _ h => h) (yield_fr (fun _ h => h) 1 Tryz.underlying33 rfl (Pf.infoF HF.out) _ rfl rfl rfl rfl Pf.all) ?_
        (try simp only [Act.put, List.setIfInBounds_toArray, List.set_cons_zero, List.set_cons_succ])
        refine Draws.take 2 HS.out rfl (by kernel_rfl) (fun _ _ _ h => h) (yield_fr (fun _ h => h) 1 Tryz.underlying33 rfl (Pf.infoF HF.out) _ rfl rfl rfl rfl Pf.all) ?_
        (try simp only [Act.put, List.setIfInBounds_toArray, List.set_cons_zero, List.set_cons_succ])
        refine Draws.does 1 rfl (by kernel_rfl) rfl (fun K hK => ?_)
        go_simp
        go_at_call 16
        refine (hr1 _ (HK.out.rowAt 0 rfl)).mono ?_
        rintro e u ⟨rfl, hb⟩
        (try dsimp only)
        have hk := HK.out.call hb; clear hb; clear HK; have HK := Lib.hid hk; clear hk
        refine hK.out _ _ (fun _ => HK.out) ?_
        clear hK K
        have hs : (fun u => KeepF w [(b2, 33, (p0.fd A0 c0).cells), (b1, 33, (p0.fd A0 c0).cells)] [(A0, p0.hs.length, p0.hs)] u) u := HK.out
        clear HS
        have HS := Lib.hid hs; clear hs
        (try simp only [Act.put, List.setIfInBounds_toArray, List.set_cons_zero, List.set_cons_succ])
        refine Draws.does 3 rfl (by kernel_rfl) rfl (fun K hK => ?_)
        go_simp
        go_at_call 14
        refine (hr2 _ (HK.out.rowAt 0 rfl)).mono ?_
        rintro e u ⟨rfl, hb⟩
        (try dsimp only)
        have hk := HK.out.call hb; clear hb; clear HK; have HK := Lib.hid hk; clear hk
        refine hK.out _ _ (fun _ => HK.out) ?_
        clear hK K
        have hs : (fun u => KeepF w [(b2, 33, (p0.fd A0 c0).cells), (b1, 33, (p0.fd A0 c0).cells)] [(A0, p0.hs.length, p0.hs)] u) u := HK.out
        clear HS
        have HS := Lib.hid hs; clear hs
        (try simp only [Act.put, List.setIfInBounds_toArray, List.set_cons_zero, List.set_cons_succ])
        refine Draws.take 4 (v := ?v22) HS.out rfl (by kernel_rfl) (fun _ _ _ h => h) (Or.inl ⟨rfl, ?h22⟩) ?r22
        case h22 => intro w' hw'; go_simp; (try with_reducible rfl)
        (try simp only [Act.put, List.setIfInBounds_toArray, List.set_cons_zero, List.set_cons_succ])
        refine Draws.take 5 (v := ?v23) HS.out rfl (by kernel_rfl) (fun _ _ _ h => h) (Or.inl ⟨rfl, ?h23⟩) ?r23
        case h23 => intro w' hw'; go_simp; (try with_reducible rfl)
        (try simp only [Act.put, List.setIfInBounds_toArray, List.set_cons_zero, List.set_cons_succ])
        refine Draws.take 6 (v := ?v24) HS.out rfl (by kernel_rfl) (fun _ _ _ h => h) (Or.inl ⟨rfl, ?h24⟩) ?r24
        case h24 => intro w' hw'; go_simp; (try with_reducible rfl)
        (try simp only [Act.put, List.setIfInBounds_toArray, List.set_cons_zero, List.set_cons_succ])
        refine Draws.take 8 (v := ?v25) HS.out rfl (by kernel_rfl) (fun _ _ _ h => h) (Or.inl ⟨rfl, ?h25⟩) ?r25
        case h25 => intro w' hw'; go_simp; (try with_reducible rfl)
        (try simp only [Act.put, List.setIfInBounds_toArray, List.set_cons_zero, List.set_cons_succ])
        refine Draws.does 7 rfl (by kernel_rfl) rfl (fun K hK => ?_)
        go_simp
        go_at_call 17
        refine (hn1 _).mono ?_
        rintro e u ⟨rfl, hb⟩
        (try dsimp only)
        have hk := HK.out.call hb; clear hb; clear HK; have HK := Lib.hid hk; clear hk
        refine hK.out _ _ (fun _ => HK.out) ?_
        clear hK K
        have hs : (fun u => KeepF w [(b2, 33, (p0.fd A0 c0).cells), (b1, 33, (p0.fd A0 c0).cells)] [(A0, p0.hs.length, p0.hs)] u) u := HK.out
        clear HS
        have HS := Lib.hid hs; clear hs
        (try simp only [Act.put, List.setIfInBounds_toArray, List.set_cons_zero, List.set_cons_succ])
        refine Draws.does 9 rfl (by kernel_rfl) rfl (fun K hK => ?_)
        go_simp
        go_at_call 18
        refine (hn2 _).mono ?_
        rintro e u ⟨rfl, hb⟩
        (try dsimp only)
        have hk := HK.out.call hb; clear hb; clear HK; have HK := Lib.hid hk; clear hk
        refine hK.out _ _ (fun _ => HK.out) ?_
        clear hK K
        have hs : (fun u => KeepF w [(b2, 33, (p0.fd A0 c0).cells), (b1, 33, (p0.fd A0 c0).cells)] [(A0, p0.hs.length, p0.hs)] u) u := HK.out
        clear HS
        have HS := Lib.hid hs; clear hs
        (try simp only [Act.put, List.setIfInBounds_toArray, List.set_cons_zero, List.set_cons_succ])
        refine Draws.take 10 (v := ?v26) HS.out rfl (by kernel_rfl) (fun _ _ _ h => h) (Or.inl ⟨rfl, ?h26⟩) ?r26
        case h26 => intro w' hw'; go_simp; (try with_reducible rfl)
        (try simp only [Act.put, List.setIfInBounds_toArray, List.set_cons_zero, List.set_cons_succ])
        refine Draws.take 11 (v := ?v27) HS.out rfl (by kernel_rfl) (fun _ _ _ h => h) (Or.inl ⟨rfl, ?h27⟩) ?r27
        case h27 => intro w' hw'; go_simp; (try with_reducible rfl)
        (try simp only [Act.put, List.setIfInBounds_toArray, List.set_cons_zero, List.set_cons_succ])
        refine Draws.take 12 (v := ?v28) HS.out rfl (by kernel_rfl) (fun _ _ _ h => h) (Or.inl ⟨rfl, ?h28⟩) ?r28
        case h28 => intro w' hw'; go_simp; (try with_reducible rfl)
        (try simp only [Act.put, List.setIfInBounds_toArray, List.set_cons_zero, List.set_cons_succ])
        refine Draws.take 13 (v := ?v29) HS.out rfl (by kernel_rfl) (fun _ _ _ h => h) (Or.inl ⟨rfl, ?h29⟩) ?r29
        case h29 => intro w' hw'; go_simp; (try with_reducible rfl)
        (try simp only [Act.put, List.setIfInBounds_toArray, List.set_cons_zero, List.set_cons_succ])
        refine Draws.take 14 (v := ?v30) HS.out rfl (by kernel_rfl) (fun _ _ _ h => h) (Or.inl ⟨rfl, ?h30⟩) ?r30
        case h30 => intro w' hw'; go_simp; (try with_reducible rfl)
        (try simp only [Act.put, List.setIfInBounds_toArray, List.set_cons_zero, List.set_cons_succ])
        refine Draws.take 15 (v := ?v31) HS.out rfl (by kernel_rfl) (fun _ _ _ h => h) (Or.inl ⟨rfl, ?h31⟩) ?r31
        case h31 => intro w' hw'; go_simp; (try with_reducible rfl)
        (try simp only [Act.put, List.setIfInBounds_toArray, List.set_cons_zero, List.set_cons_succ])
        refine Draws.take 16 (v := ?v32) HS.out rfl (by kernel_rfl) (fun _ _ _ h => h) (Or.inl ⟨rfl, ?h32⟩) ?r32
        case h32 => intro w' hw'; go_simp; (try with_reducible rfl)
        (try simp only [Act.put, List.setIfInBounds_toArray, List.set_cons_zero, List.set_cons_succ])
        refine Draws.take 17 (v := ?v33) HS.out rfl (by kernel_rfl) (fun _ _ _ h => h) (Or.inl ⟨rfl, ?h33⟩) ?r33
        case h33 => intro w' hw'; go_simp; (try with_reducible rfl)
        (try simp only [Act.put, List.setIfInBounds_toArray, List.set_cons_zero, List.set_cons_succ])
        refine Draws.take 18 (v := ?v34) HS.out rfl (by kernel_rfl) (fun _ _ _ h => h) (Or.inl ⟨rfl, ?h34⟩) ?r34
        case h34 => intro w' hw'; go_simp; (try with_reducible rfl)
        (try simp only [Act.put, List.setIfInBounds_toArray, List.set_cons_zero, List.set_cons_succ])
        refine Draws.take 19 (v := ?v35) HS.out rfl (by kernel_rfl) (fun _ _ _ h => h) (Or.inl ⟨rfl, ?h35⟩) ?r35
        case h35 => intro w' hw'; go_simp; (try with_reducible rfl)
        (try simp only [Act.put, List.setIfInBounds_toArray, List.set_cons_zero, List.set_cons_succ])
        refine Draws.take 20 (v := ?v36) HS.out rfl (by kernel_rfl) (fun _ _ _ h => h) (Or.inl ⟨rfl, ?h36⟩) ?r36
        case h36 => intro w' hw'; go_simp; (try with_reducible rfl)
        (try simp only [Act.put, List.setIfInBounds_toArray, List.set_cons_zero, List.set_cons_succ])
        refine Draws.take 21 (v := ?v37) HS.out rfl (by kernel_rfl) (fun _ _ _ h => h) (Or.inl ⟨rfl, ?h37⟩) ?r37
        case h37 => intro w' hw'; go_simp; (try with_reducible rfl)
        (try simp only [Act.put, List.setIfInBounds_toArray, List.set_cons_zero, List.set_cons_succ])
        refine Draws.take 22 (v := ?v38) HS.out rfl (by kernel_rfl) (fun _ _ _ h => h) (Or.inl ⟨rfl, ?h38⟩) ?r38
        case h38 => intro w' hw'; go_simp; (try with_reducible rfl)
        (try simp only [Act.put, List.setIfInBounds_toArray, List.set_cons_zero, List.set_cons_succ])
        refine Draws.take 23 HS.out rfl (by kernel_rfl) (fun _ _ _ h => h) (yield_fr (fun _ h => h) 1 Tryz.underlying33 rfl (Pf.infoF HF.out) _ rfl rfl rfl rfl Pf.all) ?_
        (try simp only [Act.put, List.setIfInBounds_toArray, List.set_cons_zero, List.set_cons_succ])
        refine Draws.take 24 HS.out rfl (by kernel_rfl) (fun _ _ _ h => h) (yield_fr (fun _ h => h) 1 Tryz.underlying33 rfl (Pf.infoF HF.out) _ rfl rfl rfl rfl Pf.all) ?_
        (try simp only [Act.put, List.setIfInBounds_toArray, List.set_cons_zero, List.set_cons_succ])
        refine Draws.does 25 rfl (by kernel_rfl) rfl (fun K hK => ?_)
        go_simp
        go_at_call 19
        refine (hsm _ (HK.out.rowAt 0 rfl)).mono ?_
        rintro e u ⟨rfl, hb⟩
        (try dsimp only)
        have hk := HK.out.call hb; clear hb; clear HK; have HK := Lib.hid hk; clear hk
        refine hK.out _ _ (fun _ => HK.out) ?_
        clear hK K
        have hs : (fun u => KeepF w [(b2, 33, (p0.fd A0 c0).cells), (b1, 33, (p0.fd A0 c0).cells)] [(A0, p0.hs.length, p0.hs)] u) u := HK.out
        clear HS
        have HS := Lib.hid hs; clear hs
        (try simp only [Act.put, List.setIfInBounds_toArray, List.set_cons_zero, List.set_cons_succ])
        refine Draws.take 26 (v := ?v39) HS.out rfl (by kernel_rfl) (fun _ _ _ h => h) (Or.inl ⟨rfl, ?h39⟩) ?r39
        case h39 => intro w' hw'; go_simp; (try with_reducible rfl)
        (try simp only [Act.put, List.setIfInBounds_toArray, List.set_cons_zero, List.set_cons_succ])
        refine Draws.take 27 (v := ?v40) HS.out rfl (by kernel_rfl) (fun _ _ _ h => h) (Or.inl ⟨rfl, ?h40⟩) ?r40
        case h40 => intro w' hw'; go_simp; (try with_reducible rfl)
        (try simp only [Act.put, List.setIfInBounds_toArray, List.set_cons_zero, List.set_cons_succ])
        refine Draws.does 28 rfl (by kernel_rfl) rfl (fun K hK => ?_)
        go_simp
        go_at_call 10
        refine (awake_f _).mono ?_
        rintro e u ⟨rfl, hb⟩
        (try dsimp only)
        have hk := HK.out.call hb; clear hb; clear HK; have HK := Lib.hid hk; clear hk
        refine hK.out _ _ (fun _ => HK.out) ?_
        clear hK K
        have hs : (fun u => KeepF w [(b2, 33, (p0.fd A0 c0).cells), (b1, 33, (p0.fd A0 c0).cells)] [(A0, p0.hs.length, p0.hs)] u) u := HK.out
        clear HS
        have HS := Lib.hid hs; clear hs
        (try simp only [Act.put, List.setIfInBounds_toArray, List.set_cons_zero, List.set_cons_succ])
        refine Draws.take 29 (v := ?v41) HS.out rfl (by kernel_rfl) (fun _ _ _ h => h) (Or.inl ⟨rfl, ?h41⟩) ?r41
        case h41 => intro w' hw'; go_simp; (try with_reducible rfl)
        (try simp only [Act.put, List.setIfInBounds_toArray, List.set_cons_zero, List.set_cons_succ])
        refine Draws.take 30 (v := ?v42) HS.out rfl (by kernel_rfl) (fun _ _ _ h => h) (Or.inl ⟨rfl, ?h42⟩) ?r42
        case h42 => intro w' hw'; go_simp; (try with_reducible rfl)
        (try simp only [Act.put, List.setIfInBounds_toArray, List.set_cons_zero, List.set_cons_succ])
        refine Draws.done (by kernel_rfl) ?_
        clear HS
        go_wp2
        go_ret
        exact ⟨rfl, HK.out.bel⟩
    · have d100 : decide ((100 : Int) < (s2.size : Int)) = true := by rw [decide_eq_true_eq]; omega
      clear hd0 hrow hp0
      go_enter Tryz.func3, Tryz.ntmps3
      go_wp2_with (first
        | (with_reducible refine box_f HK.out rfl _ rfl rfl ?_; intro b1 u hk; clear HK; have HK := Lib.hid hk; clear hk)
        | (with_reducible refine load_fr HK.out 0 Tryz.underlying33 rfl (Pf.infoF HF.out) _ rfl rfl rfl rfl Pf.all ?_)
        | (with_reducible refine build_f1 HK.out rfl _ rfl HF.out rfl ?_; intro b2 u hk; clear HK; have HK := Lib.hid hk; clear hk)
        | (go_at_call 9; (with_reducible refine (few_f p0 HF.out A0 c0 _ _ HFEW.out _ (HK.out.get 0 rfl)).mono ?_); rintro e u ⟨rfl, hb⟩; have hk := HK.out.call hb; clear hb; clear HK; have HK := Lib.hid hk; clear hk)
        | (go_at_call 10; (with_reducible refine (awake_f _).mono ?_); rintro e u ⟨rfl, hb⟩; have hk := HK.out.call hb; clear hb; clear HK; have HK := Lib.hid hk; clear hk))
      go_ret
      exact ⟨rfl, HK.out.bel⟩

set_option maxRecDepth 100000 in
theorem lifted (os : Os) (started : os.Started) (H : Type) (enc : TypeId × Value → H) :
    ReturnsInHanded {} Tryz.checked os 3 .any (Rows.fieldTellsSpec.pre6 enc Tryz.prog Tryz.f3 Rows.fieldTellsRow.domain false) (Rows.fieldTellsSpec.post enc Tryz.prog Tryz.f3 false true false false) := by
  refine returnsInHanded_of_change (C := Tryz.checked) own started (by kernel_rfl) Tryz.func3
    (ChangeSpec.witness6 (enc := enc) (C := Tryz.checked) false ⟨#[], #[.agg (zP.fd none 0).cells.toArray, .int .i64 0, .string ⟨#[]⟩], []⟩ 12 (by kernel_rfl) (by kernel_rfl) (by kernel_rfl) (by kernel_rfl)) ?_
  intro W base args ds gs before hval0 hW hcnd _
  have hval : ∀ (j : Nat) t v, Tryz.f3.params[j]? = some t → args[j]? = some v → Value.okWide Tryz.prog W .any base t v := hval0
  have hW' := hW
  obtain ⟨p, q, hA0, hV, rfl, hfz, hnd⟩ := hW
  have hA : DataW.TrodAll enc Tryz.prog W 0 (fun _ => true) true Tryz.f3.params.toList args.toList ds p := hA0
  rw [Tryz.params3] at hA hval
  obtain ⟨v0, vs0, d0, ds0, q0, r0, hargs, rfl, rfl, h0, t0⟩ := trodAll_cons hA
  obtain ⟨v1, vs1, d1, ds1, q1, r1, rfl, rfl, rfl, h1, t1⟩ := trodAll_cons t0
  obtain ⟨v2, vs2, d2, ds2, q2, r2, rfl, rfl, rfl, h2, t2⟩ := trodAll_cons t1
  obtain ⟨rfl, rfl, rfl⟩ := trodAll_nil t2
  obtain rfl : args = #[v0, v1, v2] := by cases args; simp_all
  obtain ⟨rfl, rfl⟩ := trodVars_none hV
  have k0 := h0
  have lt0 : ∀ x ∈ q0, x.block < W.heap.size := by obtain ⟨m, hm⟩ := k0; exact DataW.trod_lt m _ _ _ hm
  obtain ⟨p0, A0, c0, rfl, hp0, hd0, hc0, hw0⟩ := open_f (hval 0 33 v0 rfl rfl) h0
  have k1 := h1
  have lt1 : ∀ x ∈ q1, x.block < W.heap.size := by obtain ⟨m, hm⟩ := k1; exact DataW.trod_lt m _ _ _ hm
  obtain ⟨a1, rfl, rfl, rfl, w1⟩ := open_int Tryz.underlying3 (hval 1 3 v1 rfl rfl) h1
  have k2 := h2
  have lt2 : ∀ x ∈ q2, x.block < W.heap.size := by obtain ⟨m, hm⟩ := k2; exact DataW.trod_lt m _ _ _ hm
  obtain ⟨s2, rfl, rfl, rfl, hs2⟩ := Go.ChangeMaps.open_string Tryz.underlying9 (hval 2 9 v2 rfl rfl) h2
  clear hA0 hval0
  refine (walk W p0 A0 c0 hp0 hd0 hc0 hw0 a1 w1 s2).mono fun e W' ⟨he, bel⟩ => ?_
  subst he
  exact ⟨_, rfl, _, _, _, [], _, [], hW', trodAll_mk1 (shut_bool Tryz.underlying4 _), (trodAll_cons_mk (Below.trod laidOut (by kernel_rfl) (of_decide_eq_true (by kernel_rfl)) k0 bel lt0) (trodAll_cons_mk (Below.trod laidOut (by kernel_rfl) (of_decide_eq_true (by kernel_rfl)) k1 bel lt1) (trodAll_cons_mk (Below.trod laidOut (by kernel_rfl) (of_decide_eq_true (by kernel_rfl)) k2 bel lt2) trodAll_mk0))), rfl, bel.frame _, fun h => by cases h⟩

theorem over : Rows.fieldTellsRow.holds Tryz.pinned (OpenSpec.ofChange Rows.fieldTellsSpec) :=
  OpenClaim.holds_of_wide 3 Tryz.f3 rfl rfl rfl rfl rfl rfl rfl ⟨rfl, rfl, rfl, rfl, rfl⟩ rfl rfl rfl rfl rfl (by kernel_rfl) Tryz.func3 (by kernel_rfl)
    (of_decide_eq_true (by kernel_rfl)) (by unfold Func.isWrapper; first | (rw [if_pos (by decide +kernel)]; kernel_rfl) | (rw [if_neg (by decide +kernel)]; exact ⟨rfl, rfl⟩))
    (fun os started H enc _ => lifted os started H enc)

theorem proved : Rows.FieldTellsSaid := over
#print axioms proved
end Go.Proofs.YtbaccghnneidgaaGreat.fieldTells
