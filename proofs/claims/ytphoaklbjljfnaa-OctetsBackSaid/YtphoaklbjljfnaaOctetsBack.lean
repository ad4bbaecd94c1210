/- For every int and every text usufructlaw08.OctetsBack returns true, and each argument reads as before. No condition. -/
import Derived.Test.YtphoaklbjljfnaaOz
import Derived.WalkKit
import Derived.ProofKit
import Derived.OpenShut
import Derived.ShutString
import Derived.ChangeOld
import Derived.Below
namespace Go.Proofs.Ytphoaklbjljfnaa.octetsBack
open Go.ChangeShapes Go.WideShapes Go.ChangeAt Go.RowKit
set_option linter.unusedVariables false

theorem own : ownKnob Try.prog.godebug = none := by kernel_rfl
theorem laidOut : laidOutB Try.prog = true := by kernel_rfl

theorem text_size {s : ByteArray} (h : s.size ≤ 2000) : may (s.size : Int) = (s.size : Int) := by
  rw [may, if_pos (isB_iff.2 ⟨by omega, by omega⟩)]

set_option maxRecDepth 100000 in
set_option maxHeartbeats 4000000 in
theorem walk (w : World) (a0 : Int) (w0 : (Lit.int .i64 a0).wf = true) (s1 : ByteArray) :
    Calls Try.prog 4 #[.int .i64 a0, .string s1] w fun e w' => e = .returned (.bool true) ∧ Below w.heap.size w w' := by
  have HB := Lib.hid (Below.refl w.heap.size w)
  by_cases h0 : 2000 < s1.size
  · have i0 : decide ((2000 : Int) < (s1.size : Int)) = true := by simp; omega
    have i1 : (2000 : Int) < (s1.size : Int) := by omega
    go_enter Try.func4, Try.ntmps4
    go_wp2_with (first
      | (go_at_call 8; (with_reducible refine (awake_any _).mono ?_); rintro e u ⟨rfl, hb⟩; have hb := HB.out.trans (hb.mono HB.out.size); clear HB; have HB := Lib.hid hb; clear hb))
    go_ret
    exact ⟨rfl, HB.out⟩
  have i0 : ¬ (2000 : Int) < (s1.size : Int) := by omega
  have hsz : s1.data.toList.length = s1.size := by simp
  have hsb := text_size (s := s1) (by omega)
  have h6 := enc_six (fold_lt a0)
  have h7 := enc_six (fold_lt (s1.size : Int))
  have x1 := fun w => number_any none 0 0 [] a0 rfl (by decide) w (.inl rfl)
  have x2 := fun A c u => text_any A (enc (fold a0)).length c (enc (fold a0)) s1 rfl (by omega) (by omega) u
  have y1 := fun r u => rnum_enc r a0 (enc (fold (s1.size : Int)) ++ s1.data.toList) (by rw [List.length_append]; omega) u
  have y2 := fun r u => rnum_enc r (s1.size : Int) s1.data.toList (by omega) u
  rw [hsb] at y2
  have y3 := fun r u h => count_ok r _ s1.data.toList (s1.size : Int) 2000 (by omega) (by omega) u h (y2 r u h)
  have y4 := fun r u h => rtext_ok r _ s1.data.toList [] 2000 u h (by rw [List.append_nil, hsz]; exact y3 r u h)
  have e0 : (⟨s1.data.toList.toArray⟩ : ByteArray) = s1 := rfl
  rw [e0] at y4
  have HE := Lib.hid (show (s1.toList == s1.toList) = true by simp)
  simp only [List.nil_append] at x1
  rw [List.append_assoc] at x2
  have hL : (enc (fold a0) ++ (enc (fold (s1.size : Int)) ++ s1.data.toList)).length ≤ 3000 := by simp only [List.length_append]; omega
  have HR := Lib.hid True.intro
  clear h6 h7 y2 y3 hsb e0
  generalize enc (fold (s1.size : Int)) ++ s1.data.toList = L2 at *
  generalize enc (fold a0) ++ L2 = L3 at *
  generalize enc (fold a0) = L1 at *
  have HL := Lib.hid hL; clear hL
  cases hb : isB a0 with
  | true =>
    rw [show may a0 = a0 by rw [may, if_pos hb]] at y1
    have := isB_iff.1 hb
    have j1 : ¬ a0 < -1099511627776 := by omega
    have j2 : ¬ 1099511627776 < a0 := by omega
    clear this
    go_enter Try.func4, Try.ntmps4
    go_wp2_with (first
      | (go_at_call 9; (with_reducible refine (x1 _).mono ?_); rintro e u ⟨A1, c1, ⟨rfl, _⟩, hk⟩; have hb := HB.out.trans (hk.bel.mono HB.out.size); have hy := hk.own.bys; clear HB hk; have HB := Lib.hid hb; have HY := Lib.hid hy; clear hb hy)
      | (go_at_call 11; (with_reducible refine (x2 _ _ _ HY.out).mono ?_); rintro e u ⟨A2, c2, ⟨rfl, _⟩, hk⟩; have hb := HB.out.trans (hk.bel.mono HB.out.size); have hy := hk.own.bys; clear HB HY hk; have HB := Lib.hid hb; have HY := Lib.hid hy; clear hb hy)
      | (go_at_call 13; (with_reducible refine (new_any _ _ _ L3 rfl (by have := HL.out; omega) _ HY.out).mono ?_); rintro e u ⟨r, rfl, hr, hd, hb⟩; have hs := RS.made HB.out hr hd hb; clear HB HR hr hd hb; have HR := Lib.hid hs; clear hs)
      | (go_at_call 14; (with_reducible refine (y1 _ _ HR.out.rd).mono ?_); rintro e u ⟨rfl, hd, ho⟩; have hs := HR.out.step hd ho; clear HR hd ho; have HR := Lib.hid hs; clear hs)
      | (go_at_call 15; (with_reducible refine (y4 _ _ HR.out.rd).mono ?_); rintro e u ⟨rfl, hd, ho⟩; have hs := HR.out.step hd ho; clear HR hd ho; have HR := Lib.hid hs; clear hs)
      | (refine eq_str_want HE.out _ _ _ rfl rfl rfl rfl ?_)
      | (go_at_call 16; (with_reducible refine (end_any _ _ _ _ HR.out.rd).mono ?_); rintro e u ⟨rfl, rfl⟩; rw [show endE [] 0 = 0 from rfl]; have hb := HR.out.bel; have HB := Lib.hid hb; clear hb)
      | (go_at_call 8; (with_reducible refine (awake_any _).mono ?_); rintro e u ⟨rfl, hb⟩; have hb := HB.out.trans (hb.mono HB.out.size); clear HB; have HB := Lib.hid hb; clear hb))
    go_ret
    exact ⟨rfl, HB.out⟩
  | false =>
    rw [show may a0 = 0 by rw [may, if_neg (by simp [hb])]] at y1
    rcases isB_not.1 hb with j1 | j1
    · go_enter Try.func4, Try.ntmps4
      go_wp2_with (first
        | (go_at_call 9; (with_reducible refine (x1 _).mono ?_); rintro e u ⟨A1, c1, ⟨rfl, _⟩, hk⟩; have hb := HB.out.trans (hk.bel.mono HB.out.size); have hy := hk.own.bys; clear HB hk; have HB := Lib.hid hb; have HY := Lib.hid hy; clear hb hy)
        | (go_at_call 11; (with_reducible refine (x2 _ _ _ HY.out).mono ?_); rintro e u ⟨A2, c2, ⟨rfl, _⟩, hk⟩; have hb := HB.out.trans (hk.bel.mono HB.out.size); have hy := hk.own.bys; clear HB HY hk; have HB := Lib.hid hb; have HY := Lib.hid hy; clear hb hy)
        | (go_at_call 13; (with_reducible refine (new_any _ _ _ L3 rfl (by have := HL.out; omega) _ HY.out).mono ?_); rintro e u ⟨r, rfl, hr, hd, hb⟩; have hs := RS.made HB.out hr hd hb; clear HB HR hr hd hb; have HR := Lib.hid hs; clear hs)
        | (go_at_call 14; (with_reducible refine (y1 _ _ HR.out.rd).mono ?_); rintro e u ⟨rfl, hd, ho⟩; have hs := HR.out.step hd ho; clear HR hd ho; have HR := Lib.hid hs; clear hs)
        | (go_at_call 15; (with_reducible refine (y4 _ _ HR.out.rd).mono ?_); rintro e u ⟨rfl, hd, ho⟩; have hs := HR.out.step hd ho; clear HR hd ho; have HR := Lib.hid hs; clear hs)
        | (refine eq_str_want HE.out _ _ _ rfl rfl rfl rfl ?_)
        | (go_at_call 16; (with_reducible refine (end_any _ _ _ _ HR.out.rd).mono ?_); rintro e u ⟨rfl, rfl⟩; rw [show endE [] 0 = 0 from rfl]; have hb := HR.out.bel; have HB := Lib.hid hb; clear hb)
        | (go_at_call 8; (with_reducible refine (awake_any _).mono ?_); rintro e u ⟨rfl, hb⟩; have hb := HB.out.trans (hb.mono HB.out.size); clear HB; have HB := Lib.hid hb; clear hb))
      go_ret
      exact ⟨rfl, HB.out⟩
    · have j2 : ¬ a0 < -1099511627776 := by omega
      go_enter Try.func4, Try.ntmps4
      go_wp2_with (first
        | (go_at_call 9; (with_reducible refine (x1 _).mono ?_); rintro e u ⟨A1, c1, ⟨rfl, _⟩, hk⟩; have hb := HB.out.trans (hk.bel.mono HB.out.size); have hy := hk.own.bys; clear HB hk; have HB := Lib.hid hb; have HY := Lib.hid hy; clear hb hy)
        | (go_at_call 11; (with_reducible refine (x2 _ _ _ HY.out).mono ?_); rintro e u ⟨A2, c2, ⟨rfl, _⟩, hk⟩; have hb := HB.out.trans (hk.bel.mono HB.out.size); have hy := hk.own.bys; clear HB HY hk; have HB := Lib.hid hb; have HY := Lib.hid hy; clear hb hy)
        | (go_at_call 13; (with_reducible refine (new_any _ _ _ L3 rfl (by have := HL.out; omega) _ HY.out).mono ?_); rintro e u ⟨r, rfl, hr, hd, hb⟩; have hs := RS.made HB.out hr hd hb; clear HB HR hr hd hb; have HR := Lib.hid hs; clear hs)
        | (go_at_call 14; (with_reducible refine (y1 _ _ HR.out.rd).mono ?_); rintro e u ⟨rfl, hd, ho⟩; have hs := HR.out.step hd ho; clear HR hd ho; have HR := Lib.hid hs; clear hs)
        | (go_at_call 15; (with_reducible refine (y4 _ _ HR.out.rd).mono ?_); rintro e u ⟨rfl, hd, ho⟩; have hs := HR.out.step hd ho; clear HR hd ho; have HR := Lib.hid hs; clear hs)
        | (refine eq_str_want HE.out _ _ _ rfl rfl rfl rfl ?_)
        | (go_at_call 16; (with_reducible refine (end_any _ _ _ _ HR.out.rd).mono ?_); rintro e u ⟨rfl, rfl⟩; rw [show endE [] 0 = 0 from rfl]; have hb := HR.out.bel; have HB := Lib.hid hb; clear hb)
        | (go_at_call 8; (with_reducible refine (awake_any _).mono ?_); rintro e u ⟨rfl, hb⟩; have hb := HB.out.trans (hb.mono HB.out.size); clear HB; have HB := Lib.hid hb; clear hb))
      go_ret
      exact ⟨rfl, HB.out⟩

set_option maxRecDepth 100000 in
theorem lifted (os : Os) (started : os.Started) (H : Type) (enc : TypeId × Value → H) :
    ReturnsInHanded {} Try.checked os 4 .any (Rows.octetsBackSpec.pre6 enc Try.prog Try.f4 Rows.octetsBackRow.domain false) (Rows.octetsBackSpec.post enc Try.prog Try.f4 false true false false) := by
  refine returnsInHanded_of_change (C := Try.checked) own started (by kernel_rfl) Try.func4
    (ChangeSpec.witness6 (enc := enc) (C := Try.checked) false ⟨#[], #[.int .i64 0, .string ⟨#[]⟩], []⟩ 12 (by kernel_rfl) (by kernel_rfl) (by kernel_rfl) (by kernel_rfl)) ?_
  intro W base args ds gs before hval0 hW hcnd _
  have hval : ∀ (j : Nat) t v, Try.f4.params[j]? = some t → args[j]? = some v → Value.okWide Try.prog W .any base t v := hval0
  have hW' := hW
  obtain ⟨p, q, hA0, hV, rfl, hfz, hnd⟩ := hW
  have hA : DataW.TrodAll enc Try.prog W 0 (fun _ => true) true Try.f4.params.toList args.toList ds p := hA0
  rw [Try.params4] at hA hval
  obtain ⟨v0, vs0, d0, ds0, q0, r0, hargs, rfl, rfl, h0, t0⟩ := trodAll_cons hA
  obtain ⟨v1, vs1, d1, ds1, q1, r1, rfl, rfl, rfl, h1, t1⟩ := trodAll_cons t0
  obtain ⟨rfl, rfl, rfl⟩ := trodAll_nil t1
  obtain rfl : args = #[v0, v1] := by cases args; simp_all
  obtain ⟨rfl, rfl⟩ := trodVars_none hV
  have k0 := h0
  have lt0 : ∀ x ∈ q0, x.block < W.heap.size := by obtain ⟨m, hm⟩ := k0; exact DataW.trod_lt m _ _ _ hm
  obtain ⟨a0, rfl, rfl, rfl, w0⟩ := open_int Try.underlying3 (hval 0 3 v0 rfl rfl) h0
  have k1 := h1
  have lt1 : ∀ x ∈ q1, x.block < W.heap.size := by obtain ⟨m, hm⟩ := k1; exact DataW.trod_lt m _ _ _ hm
  obtain ⟨s1, rfl, rfl, rfl, hs1⟩ := Go.ChangeMaps.open_string Try.underlying9 (hval 1 9 v1 rfl rfl) h1
  clear hA0 hval0
  refine (walk W a0 w0 s1).mono fun e W' ⟨he, bel⟩ => ?_
  subst he
  exact ⟨_, rfl, _, _, _, [], _, [], hW', trodAll_mk1 (shut_bool Try.underlying4 _), (trodAll_cons_mk (Below.trod laidOut (by kernel_rfl) (of_decide_eq_true (by kernel_rfl)) k0 bel lt0) (trodAll_cons_mk (Below.trod laidOut (by kernel_rfl) (of_decide_eq_true (by kernel_rfl)) k1 bel lt1) trodAll_mk0)), rfl, bel.frame _, fun h => by cases h⟩

theorem over : Rows.octetsBackRow.holds Try.pinned (OpenSpec.ofChange Rows.octetsBackSpec) :=
  OpenClaim.holds_of_wide 4 Try.f4 rfl rfl rfl rfl rfl rfl rfl ⟨rfl, rfl, rfl, rfl, rfl⟩ rfl rfl rfl rfl rfl (by kernel_rfl) Try.func4 (by kernel_rfl)
    (of_decide_eq_true (by kernel_rfl)) (by unfold Func.isWrapper; first | (rw [if_pos (by decide +kernel)]; kernel_rfl) | (rw [if_neg (by decide +kernel)]; exact ⟨rfl, rfl⟩))
    (fun os started H enc _ => lifted os started H enc)

theorem proved : Rows.OctetsBackSaid := over
#print axioms proved
end Go.Proofs.Ytphoaklbjljfnaa.octetsBack
