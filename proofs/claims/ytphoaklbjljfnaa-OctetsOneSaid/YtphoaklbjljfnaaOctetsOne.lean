/- For every slice of bytes usufructlaw08.OctetsOne returns true, and each argument reads as before. No condition. -/
import Derived.Test.YtphoaklbjljfnaaOz
import Derived.WalkKit
import Derived.ProofKit
import Derived.OpenShut
import Derived.ShutString
import Derived.ChangeOld
import Derived.Below
namespace Go.Proofs.Ytphoaklbjljfnaa.octetsOne
open Go.ChangeShapes Go.WideShapes Go.ChangeAt Go.RowKit
set_option linter.unusedVariables false

theorem own : ownKnob Try.prog.godebug = none := by kernel_rfl
theorem laidOut : laidOutB Try.prog = true := by kernel_rfl

set_option maxRecDepth 100000 in
set_option maxHeartbeats 4000000 in
theorem walk (w : World) (A0 : Option Addr) (n0 c0 : Nat) (l0 : List UInt8) (hl0 : l0.length = n0) (hc0 : n0 ≤ c0) (hm0 : c0 ≤ maxLen) (hd0 : Bys w A0 l0) :
    Calls Try.prog 5 #[.slice A0 n0 c0] w fun e w' => e = .returned (.bool true) ∧ Below w.heap.size w w' := by
  have HB := Lib.hid (Below.refl w.heap.size w)
  have HR := Lib.hid True.intro
  by_cases h0 : 20 < n0
  · have i1 : (20 : Int) < (n0 : Int) := by omega
    go_enter Try.func5, Try.ntmps5
    go_wp2_with (first
      | (go_at_call 8; (with_reducible refine (awake_any _).mono ?_); rintro e u ⟨rfl, hb⟩; have hb := HB.out.trans (hb.mono HB.out.size); clear HB; have HB := Lib.hid hb; clear hb))
    go_ret
    exact ⟨rfl, HB.out⟩
  have i1 : ¬ (20 : Int) < (n0 : Int) := by omega
  have x1 := fun r u => rnum_any r l0 0 (by omega) u
  rw [show rnN l0 0 = decN l0 from rfl, show rnE l0 0 = decE l0 from rfl, show rnL l0 0 = l0.drop (decS l0) from rfl] at x1
  by_cases hE : decE l0 = 0
  · rw [hE] at x1
    obtain ⟨z1, z2, z3, z4⟩ := dec_zero hE
    have hS : decS l0 ≤ n0 := by omega
    have x2 := fun u => number_any none 0 0 [] (decN l0) rfl (by decide) u (.inl rfl)
    simp only [List.nil_append] at x2
    rw [← z4] at x2
    have hlen : (l0.take (decS l0)).length = decS l0 := by rw [List.length_take]; omega
    have hdr : endE (l0.drop (decS l0)) 0 = if decS l0 = n0 then 0 else 5 := by
      rw [endE, if_pos rfl]
      by_cases h : decS l0 = n0
      · rw [if_pos h, if_pos (List.drop_eq_nil_of_le (by omega))]
      · rw [if_neg h, if_neg (fun h' => by have := congrArg List.length h'; rw [List.length_drop] at this; simp at this; omega)]
    clear z1 z2 z3 z4 hE
    have HD := Lib.hid hdr; clear hdr
    generalize decN l0 = N at *
    have HQ := Lib.hid (show (((⟨(l0.take (decS l0)).toArray⟩ : ByteArray).toList == (⟨(l0.take (decS l0)).toArray⟩ : ByteArray).toList) = true) from by simp)
    generalize hK : decS l0 = K at *
    have HX := Lib.hid (show ∀ u, Bys u A0 l0 → Bys u A0 (l0.take K) from fun u h => h.take K)
    generalize l0.take K = L1 at *
    have HL := Lib.hid hlen
    go_enter Try.func5, Try.ntmps5
    go_wp2_with (first
      | (go_at_call 13; (with_reducible refine (new_any _ _ _ l0 hl0 (by omega) _ hd0).mono ?_); rintro e u ⟨r, rfl, hr, hd, hb⟩; have hs := RS.made HB.out hr hd hb; clear HB HR hr hd hb; have HR := Lib.hid hs; have hb := hs.bel; have HB := Lib.hid hb; clear hs hb)
      | (go_at_call 14; (with_reducible refine (x1 _ _ HR.out.rd).mono ?_); rintro e u ⟨rfl, hd, ho⟩; have hs := HR.out.step hd ho; clear HR hd ho; have HR := Lib.hid hs; clear hs)
      | (go_at_call 17; (with_reducible refine (err_any _ _ _ _ HR.out.rd).mono ?_); rintro e u ⟨rfl, rfl⟩; have hb := HR.out.bel; clear HB; have HB := Lib.hid hb; clear hb)
      | (go_at_call 9; (with_reducible refine (x2 _).mono ?_); rintro e u ⟨A1, c1, ⟨rfl, _⟩, hk⟩; have hs := HR.out.call hk.bel; have hb := hs.bel; have hy := hk.own.bys; clear HR HB hk; have HR := Lib.hid hs; have HB := Lib.hid hb; have HY := Lib.hid hy; clear hs hb hy; (try rw [HL.out])))
    refine Draws.start (S := fun u : World => Bys u A0 l0 ∧ Bys u A1 L1) (n := 15) 15 rfl (by kernel_rfl) ?_
    have HS := Lib.hid (show (fun u : World => Bys u A0 l0 ∧ Bys u A1 L1) (World.drew _) from ⟨Bys.drew (hd0.below HB.out), HY.out.drew⟩)
    refine Draws.take 0 (v := ?v1) HS.out rfl (by kernel_rfl) (fun _ _ _ h => h) (Or.inl ⟨rfl, ?h1⟩) ?r1
    case h1 => intro w' hw'; go_simp; (try with_reducible rfl)
    (try simp only [Act.put, List.setIfInBounds_toArray, List.set_cons_zero, List.set_cons_succ])
    refine Draws.take 1 (v := ?v2) HS.out rfl (by kernel_rfl) (fun _ _ _ h => h) (Or.inl ⟨rfl, ?h2⟩) ?r2
    case h2 => intro w' hw'; go_simp; (try with_reducible rfl)
    (try simp only [Act.put, List.setIfInBounds_toArray, List.set_cons_zero, List.set_cons_succ])
    refine Draws.take 2 (v := ?v3) HS.out rfl (by kernel_rfl) (fun _ _ _ h => h) (Or.inl ⟨rfl, ?h3⟩) ?r3
    case h3 => intro w' hw'; go_simp; (try with_reducible rfl)
    (try simp only [Act.put, List.setIfInBounds_toArray, List.set_cons_zero, List.set_cons_succ])
    refine Draws.take 3 (v := ?v4) HS.out rfl (by kernel_rfl) (fun _ _ _ h => h) (Or.inl ⟨rfl, ?h4⟩) ?r4
    case h4 => intro w' hw'; go_simp; (try with_reducible rfl)
    (try simp only [Act.put, List.setIfInBounds_toArray, List.set_cons_zero, List.set_cons_succ])
    refine Draws.take 4 HS.out rfl (by kernel_rfl) (fun _ _ _ h => h) (yield_gtr (b := false) (by simp; omega) _ _ _ rfl rfl rfl rfl) ?_
    (try simp only [Act.put, List.setIfInBounds_toArray, List.set_cons_zero, List.set_cons_succ])
    refine Draws.take 5 (v := ?v5) HS.out rfl (by kernel_rfl) (fun _ _ _ h => h) (Or.inl ⟨rfl, ?h5⟩) ?r5
    case h5 => intro w' hw'; go_simp; (try with_reducible rfl)
    (try simp only [Act.put, List.setIfInBounds_toArray, List.set_cons_zero, List.set_cons_succ])
    refine Draws.take 6 (v := ?v6) HS.out rfl (by kernel_rfl) (fun _ _ _ h => h) (Or.inl ⟨rfl, ?h6⟩) ?r6
    case h6 => intro w' hw'; go_simp; (try with_reducible rfl)
    (try simp only [Act.put, List.setIfInBounds_toArray, List.set_cons_zero, List.set_cons_succ])
    refine Draws.take 7 HS.out rfl (by kernel_rfl) (fun _ _ _ h => h) (yield_str (fun _ h => h.2) HL.out _ rfl rfl rfl) ?_
    (try simp only [Act.put, List.setIfInBounds_toArray, List.set_cons_zero, List.set_cons_succ])
    refine Draws.take 8 (v := ?v7) HS.out rfl (by kernel_rfl) (fun _ _ _ h => h) (Or.inl ⟨rfl, ?h7⟩) ?r7
    case h7 => intro w' hw'; go_simp; (try with_reducible rfl)
    (try simp only [Act.put, List.setIfInBounds_toArray, List.set_cons_zero, List.set_cons_succ])
    refine Draws.take 9 (v := ?v8) HS.out rfl (by kernel_rfl) (fun _ _ _ h => h) (Or.inl ⟨rfl, ?h8⟩) ?r8
    case h8 => intro w' hw'; go_simp; (try with_reducible rfl)
    (try simp only [Act.put, List.setIfInBounds_toArray, List.set_cons_zero, List.set_cons_succ])
    refine Draws.take 10 (v := ?v9) HS.out rfl (by kernel_rfl) (fun _ _ _ h => h) (Or.inl ⟨rfl, ?h9⟩) ?r9
    case h9 => intro w' hw'; go_simp; (try with_reducible rfl)
    (try simp only [Act.put, List.setIfInBounds_toArray, List.set_cons_zero, List.set_cons_succ])
    refine Draws.take 11 HS.out rfl (by kernel_rfl) (fun _ _ _ h => h) (yield_high (by omega) _ _ rfl rfl rfl rfl) ?_
    (try simp only [Act.put, List.setIfInBounds_toArray, List.set_cons_zero, List.set_cons_succ])
    refine Draws.take 12 HS.out rfl (by kernel_rfl) (fun _ _ _ h => h) (yield_str (fun _ h => HX.out _ h.1) HL.out _ rfl rfl rfl) ?_
    (try simp only [Act.put, List.setIfInBounds_toArray, List.set_cons_zero, List.set_cons_succ])
    refine Draws.take 13 HS.out rfl (by kernel_rfl) (fun _ _ _ h => h) (yield_nes HQ.out _ _ _ rfl rfl rfl rfl) ?_
    (try simp only [Act.put, List.setIfInBounds_toArray, List.set_cons_zero, List.set_cons_succ])
    refine Draws.take 14 (v := ?v10) HS.out rfl (by kernel_rfl) (fun _ _ _ h => h) (Or.inl ⟨rfl, ?h10⟩) ?r10
    case h10 => intro w' hw'; go_simp; (try with_reducible rfl)
    (try simp only [Act.put, List.setIfInBounds_toArray, List.set_cons_zero, List.set_cons_succ])
    refine Draws.done (by kernel_rfl) ?_
    have hs := HR.out.call (Below.refl _ _).drew
    have hb := hs.bel
    clear HR HB
    have HR := Lib.hid hs
    have HB := Lib.hid hb
    clear hs hb
    by_cases hn : K = n0
    · have hn1 : ((K : Int) == (n0 : Int)) = true := by simp [hn]
      go_wp2_with (first
        | (go_at_call 16; (with_reducible refine (end_any _ _ _ _ HR.out.rd).mono ?_); rintro e u ⟨rfl, rfl⟩; rw [HD.out, if_pos hn])
        | (go_at_call 8; (with_reducible refine (awake_any _).mono ?_); rintro e u ⟨rfl, hb⟩; have hb := HB.out.trans (hb.mono HB.out.size); clear HB; have HB := Lib.hid hb; clear hb))
      go_ret
      exact ⟨rfl, HB.out⟩
    · have hn1 : ((K : Int) == (n0 : Int)) = false := by simp; omega
      go_wp2_with (first
        | (go_at_call 16; (with_reducible refine (end_any _ _ _ _ HR.out.rd).mono ?_); rintro e u ⟨rfl, rfl⟩; rw [HD.out, if_neg hn])
        | (go_at_call 8; (with_reducible refine (awake_any _).mono ?_); rintro e u ⟨rfl, hb⟩; have hb := HB.out.trans (hb.mono HB.out.size); clear HB; have HB := Lib.hid hb; clear hb))
      go_ret
      exact ⟨rfl, HB.out⟩
  · rw [dec_not hE] at x1
    have hE1 : (decE l0 != 0) = true := by simp [hE]
    have hE2 : (decE l0 == 0) = false := by simp [hE]
    generalize decE l0 = E at *
    clear hE
    go_enter Try.func5, Try.ntmps5
    go_wp2_with (first
      | (go_at_call 13; (with_reducible refine (new_any _ _ _ l0 hl0 (by omega) _ hd0).mono ?_); rintro e u ⟨r, rfl, hr, hd, hb⟩; have hs := RS.made HB.out hr hd hb; clear HB HR hr hd hb; have HR := Lib.hid hs; have hb := hs.bel; have HB := Lib.hid hb; clear hs hb)
      | (go_at_call 14; (with_reducible refine (x1 _ _ HR.out.rd).mono ?_); rintro e u ⟨rfl, hd, ho⟩; have hs := HR.out.step hd ho; clear HR hd ho; have HR := Lib.hid hs; clear hs)
      | (go_at_call 17; (with_reducible refine (err_any _ _ _ _ HR.out.rd).mono ?_); rintro e u ⟨rfl, rfl⟩; have hb := HR.out.bel; clear HB; have HB := Lib.hid hb; clear hb)
      | (go_at_call 8; (with_reducible refine (awake_any _).mono ?_); rintro e u ⟨rfl, hb⟩; have hb := HB.out.trans (hb.mono HB.out.size); clear HB; have HB := Lib.hid hb; clear hb))
    go_ret
    exact ⟨rfl, HB.out⟩

set_option maxRecDepth 100000 in
theorem lifted (os : Os) (started : os.Started) (H : Type) (enc : TypeId × Value → H) :
    ReturnsInHanded {} Try.checked os 5 .any (Rows.octetsOneSpec.pre6 enc Try.prog Try.f5 Rows.octetsOneRow.domain false) (Rows.octetsOneSpec.post enc Try.prog Try.f5 false true false false) := by
  refine returnsInHanded_of_change (C := Try.checked) own started (by kernel_rfl) Try.func5
    (ChangeSpec.witness6 (enc := enc) (C := Try.checked) false ⟨#[], #[.slice none 0 0], []⟩ 12 (by kernel_rfl) (by kernel_rfl) (by kernel_rfl) (by kernel_rfl)) ?_
  intro W base args ds gs before hval0 hW hcnd _
  have hval : ∀ (j : Nat) t v, Try.f5.params[j]? = some t → args[j]? = some v → Value.okWide Try.prog W .any base t v := hval0
  have hW' := hW
  obtain ⟨p, q, hA0, hV, rfl, hfz, hnd⟩ := hW
  have hA : DataW.TrodAll enc Try.prog W 0 (fun _ => true) true Try.f5.params.toList args.toList ds p := hA0
  rw [Try.params5] at hA hval
  obtain ⟨v0, vs0, d0, ds0, q0, r0, hargs, rfl, rfl, h0, t0⟩ := trodAll_cons hA
  obtain ⟨rfl, rfl, rfl⟩ := trodAll_nil t0
  obtain rfl : args = #[v0] := by cases args; simp_all
  obtain ⟨rfl, rfl⟩ := trodVars_none hV
  have k0 := h0
  have lt0 : ∀ x ∈ q0, x.block < W.heap.size := by obtain ⟨m, hm⟩ := k0; exact DataW.trod_lt m _ _ _ hm
  obtain ⟨A0, n0, c0, l0, rfl, hl0, hc0, hm0, hd0⟩ := open_b (hval 0 22 v0 rfl rfl) h0
  clear hA0 hval0
  refine (walk W A0 n0 c0 l0 hl0 hc0 hm0 hd0).mono fun e W' ⟨he, bel⟩ => ?_
  subst he
  exact ⟨_, rfl, _, _, _, [], _, [], hW', trodAll_mk1 (shut_bool Try.underlying4 _), (trodAll_cons_mk (Below.trod laidOut (by kernel_rfl) (of_decide_eq_true (by kernel_rfl)) k0 bel lt0) trodAll_mk0), rfl, bel.frame _, fun h => by cases h⟩

theorem over : Rows.octetsOneRow.holds Try.pinned (OpenSpec.ofChange Rows.octetsOneSpec) :=
  OpenClaim.holds_of_wide 5 Try.f5 rfl rfl rfl rfl rfl rfl rfl ⟨rfl, rfl, rfl, rfl, rfl⟩ rfl rfl rfl rfl rfl (by kernel_rfl) Try.func5 (by kernel_rfl)
    (of_decide_eq_true (by kernel_rfl)) (by unfold Func.isWrapper; first | (rw [if_pos (by decide +kernel)]; kernel_rfl) | (rw [if_neg (by decide +kernel)]; exact ⟨rfl, rfl⟩))
    (fun os started H enc _ => lifted os started H enc)

theorem proved : Rows.OctetsOneSaid := over
#print axioms proved
end Go.Proofs.Ytphoaklbjljfnaa.octetsOne
