/- For every slice of ints and every uint8 usufructlaw08.OctetsRow returns true, and each argument reads as before. No condition. -/
import Derived.Test.YtphoaklbjljfnaaOy
import Derived.WalkKit
import Derived.ProofKit
import Derived.OpenShut
import Derived.ShutString
import Derived.ChangeOld
import Derived.Below
namespace Go.Proofs.Ytphoaklbjljfnaa.octetsRow
open Go.ChangeShapes Go.WideShapes Go.ChangeAt Go.RowKit
set_option linter.unusedVariables false

theorem own : ownKnob Try.prog.godebug = none := by kernel_rfl
theorem laidOut : laidOutB Try.prog = true := by kernel_rfl

theorem u8_nat {z : Int} (h : (Lit.int .u8 z).wf = true) : ∃ p : Nat, z = (p : Int) ∧ p < 256 := by
  have := u8_wf h
  exact ⟨z.toNat, by omega, by omega⟩

set_option maxRecDepth 100000 in
set_option maxHeartbeats 4000000 in
theorem walk (w : World) (A0 : Option Addr) (n0 c0 : Nat) (x0 : List Int) (hd0 : Reads w A0 n0 x0) (a1 : Int) (w1 : (Lit.int .u8 a1).wf = true) :
    Calls Try.prog 6 #[.slice A0 n0 c0, .int .u8 a1] w fun e w' => e = .returned (.bool true) ∧ Below w.heap.size w w' := by
  have HB := Lib.hid (Below.refl w.heap.size w)
  have HR := Lib.hid True.intro
  obtain ⟨hx0, hx1, hx2⟩ := hd0
  by_cases h0 : 40 < n0
  · have i1 : (40 : Int) < (n0 : Int) := by omega
    go_enter Try.func6, Try.ntmps6
    go_wp2_with (first
      | (go_at_call 8; (with_reducible refine (awake_any _).mono ?_); rintro e u ⟨rfl, hb⟩; have hb := HB.out.trans (hb.mono HB.out.size); clear HB; have HB := Lib.hid hb; clear hb))
    go_ret
    exact ⟨rfl, HB.out⟩
  have i1 : ¬ (40 : Int) < (n0 : Int) := by omega
  have HX := Lib.hid (show ∀ u, Below w.heap.size w u → ∀ m, m < n0 → ∃ b off : Nat, A0 = some ⟨b, off, none⟩ ∧ u.cell? ⟨b, off + m, none⟩ = some (.int .i64 (x0.getD m 0)) from fun u hu m hm => by
    rcases hx2 with h | ⟨b, off, e, hc⟩
    · omega
    · refine ⟨b, off, e, ?_⟩
      have h1 := hc m hm
      rw [World.cell?_of_block (w := w) (w' := u) (hu.block b (cell_lt h1))]; exact h1)
  have HN := Lib.hid hx0
  have HT := Lib.hid (show ∀ m, (encs (x0.take m)).length ≤ 240 from fun m => by have := encs_len (x0.take m); rw [List.length_take] at this; omega)
  clear hx0 hx1 hx2
  go_enter Try.func6, Try.ntmps6
  go_wp2
  have HY := Lib.hid (Bys.nil w none)
  go_loopw [5, 18] (fun v i wr => ∃ (m : Nat) (A : Option Addr) (c : Nat), m ≤ n0 ∧ i = .int .i64 m ∧ v = .slice A (encs (x0.take m)).length c ∧ (encs (x0.take m)).length ≤ c ∧ (∀ j, j < m → isB (x0.getD j 0) = true) ∧ Bys wr A (encs (x0.take m)) ∧ Below w.heap.size w wr) (fun _ i _ => n0 - (intOf i).toNat)
  case atStart => exact ⟨0, none, 0, by omega, rfl, by simp [encs], by simp [encs], by omega, .inl (by simp [encs]), HB.out⟩
  case round =>
    obtain ⟨m, A, c, hm, rfl, rfl, hc, hall, hy, hb⟩ := hrel
    clear HB HY
    have HB := Lib.hid hb; have HY := Lib.hid hy; have HA := Lib.hid hall; have HC := Lib.hid hc; clear hb hy hall hc
    by_cases hlt : m < n0
    · obtain ⟨b, off, rfl, hcell⟩ := HX.out _ HB.out m hlt
      have HE := Lib.hid (encs_take (x := x0) (m := m) (by rw [HN.out]; exact hlt))
      have hT := HT.out m
      generalize encs (x0.take m) = E at *
      generalize hz : x0.getD m 0 = z at *
      have HZ := Lib.hid hz; clear hz
      have j1 : (0 : Int) ≤ (m : Int) := by omega
      have j2 : (m : Int) < (n0 : Int) := by omega
      cases hb : isB z with
      | false =>
        rcases isB_not.1 hb with h1 | h1
        · have q1 : z < -1099511627776 := h1
          go_wp2_with (first
            | (go_at_call 8; (with_reducible refine (awake_any _).mono ?_); rintro e u ⟨rfl, hb⟩; have hb := HB.out.trans (hb.mono HB.out.size); clear HB; have HB := Lib.hid hb; clear hb))
          go_ret
          exact ⟨rfl, HB.out⟩
        · have q2 : ¬ z < -1099511627776 := by omega
          go_wp2_with (first
            | (go_at_call 8; (with_reducible refine (awake_any _).mono ?_); rintro e u ⟨rfl, hb⟩; have hb := HB.out.trans (hb.mono HB.out.size); clear HB; have HB := Lib.hid hb; clear hb))
          go_ret
          exact ⟨rfl, HB.out⟩
      | true =>
        have hb1 := isB_iff.1 hb
        have q1 : ¬ z < -1099511627776 := by omega
        have q2 : ¬ 1099511627776 < z := by omega
        clear hb1
        have hnum := fun u => number_any A E.length c E z rfl (by omega) u
        go_wp2_with (first
          | (go_at_call 9; (with_reducible refine (hnum _ HY.out).mono ?_); rintro e u ⟨A5, c5, ⟨rfl, hc5⟩, hk⟩; have hb := HB.out.trans (hk.bel.mono HB.out.size); have hy := hk.own.bys; clear HB HY hk; have HB := Lib.hid hb; have HY := Lib.hid hy; have HC := Lib.hid hc5; clear hb hy hc5))
        go_roundw
        case rel => exact ⟨m + 1, A5, c5, by omega, by go_num, by rw [HE.out, List.length_append], by rw [HE.out]; exact HC.out, fun j hj => by
          rcases Nat.lt_or_ge j m with h1 | h1
          · exact HA.out j h1
          · rw [show j = m by omega, HZ.out]; exact hb, by rw [HE.out]; exact HY.out, HB.out⟩
        case measure => simp [intOf]; omega
    · obtain rfl : m = n0 := by omega
      have hT := HT.out m
      have hx : x0.take m = x0 := by rw [← HN.out]; exact List.take_length
      rw [hx] at hT HY HC ⊢
      have HL := Lib.hid hT; clear hT HT
      have HP := Lib.hid (show 0 < m → 0 < (encs x0).length from fun h => encs_pos (by rw [HN.out]; exact h))
      have H0 := Lib.hid (show m = 0 → encs x0 = [] from fun h => by rw [List.eq_nil_of_length_eq_zero (HN.out.trans h)]; rfl)
      have HS := Lib.hid (show encs (x0.drop 0) = encs x0 from rfl)
      have HF := Lib.hid (show encs (x0.drop m) = [] by rw [List.drop_eq_nil_of_le (by rw [HN.out]; omega)]; rfl)
      have HCut := Lib.hid (show ∀ k, k < (encs x0).length → Cut ((encs x0).take k) 0 (x0.drop 0) from fun k hk => Cut.start hk (by rw [HN.out]; omega))
      generalize encs x0 = L at *
      go_wp2_with (first
        | (go_at_call 13; (with_reducible refine (new_any _ _ _ L rfl (by have := HL.out; omega) _ HY.out).mono ?_); rintro e u ⟨r, rfl, hr, hd, hb⟩; have hs := RS.made HB.out hr hd hb; have hy := HY.out.below hb; clear HB HY HR hr hd hb; have HR := Lib.hid hs; have HY := Lib.hid hy; have hb := hs.bel; have HB := Lib.hid hb; clear hs hb hy))
      go_loopw [37] (fun i wr => ∃ k : Nat, k ≤ m ∧ i = .int .i64 k ∧ RS w r (encs (x0.drop k)) 0 wr ∧ Bys wr A L) (fun i _ => m - (intOf i).toNat)
      case atStart => exact ⟨0, by omega, rfl, by rw [HS.out]; exact HR.out, HY.out⟩
      case round =>
        obtain ⟨k, hk, rfl, hr, hy⟩ := hrel
        clear HB HY HR
        have hb := hr.bel
        have HB := Lib.hid hb; have HY := Lib.hid hy; have HR := Lib.hid hr; clear hb hy hr
        by_cases hlt2 : k < m
        · obtain ⟨b, off, rfl, hcell⟩ := HX.out _ HB.out k hlt2
          have hb := HA.out k hlt2
          have hE := encs_drop (x := x0) (m := k) (by rw [HN.out]; exact hlt2)
          have hl := encs_len (x0.drop (k + 1))
          rw [List.length_drop, HN.out] at hl
          rw [hE] at HR
          clear hE
          generalize hE2 : encs (x0.drop (k + 1)) = E at *
          have HE2 := Lib.hid hE2; clear hE2
          generalize x0.getD k 0 = z at *
          have hrd := fun u => rnum_enc r z E (by omega) u
          rw [show may z = z by rw [may, if_pos hb]] at hrd
          have j1 : (0 : Int) ≤ (k : Int) := by omega
          have j2 : (k : Int) < (m : Int) := by omega
          go_wp2_with (first
            | (go_at_call 14; (with_reducible refine (hrd _ HR.out.rd).mono ?_); rintro e u ⟨rfl, hd, ho⟩; have hs := HR.out.step hd ho; have hy := HY.out.only HR.out.rd ho; clear HR HY HB hd ho; have HR := Lib.hid hs; have HY := Lib.hid hy; have hb := hs.bel; have HB := Lib.hid hb; clear hs hy hb))
          go_roundw
          case rel => exact ⟨k + 1, by omega, by go_num, by rw [HE2.out]; exact HR.out, HY.out⟩
          case measure => simp [intOf]; omega
        · obtain rfl : k = m := by omega
          rw [HF.out] at HR
          by_cases hn : k = 0
          · obtain rfl : k = 0 := hn
            rw [show ((0 : Nat) : Int) = 0 from rfl] at *
            go_wp2_with (first
              | (go_at_call 16; (with_reducible refine (end_any _ _ _ _ HR.out.rd).mono ?_); rintro e u ⟨rfl, rfl⟩; rw [show endE [] 0 = 0 from rfl])
              | (go_at_call 8; (with_reducible refine (awake_any _).mono ?_); rintro e u ⟨rfl, hb⟩; have hb := HB.out.trans (hb.mono HB.out.size); clear HB; have HB := Lib.hid hb; clear hb))
            go_ret
            exact ⟨rfl, HB.out⟩
          · have hp := HP.out (by omega)
            have n1 : ¬ (k : Int) = 0 := by omega
            have n2 : ¬ (L.length : Int) = 0 := by omega
            obtain ⟨p, hp1, hp2⟩ := u8_nat w1
            have e1 : IntKind.i64.wrap (p : Int) = (p : Int) := (IntWalk.i64_left _).trans (IntWalk.wrap64_in _ (by omega))
            have e2 : (p : Int).tmod (L.length : Int) = ((p % L.length : Nat) : Int) := by rw [Int.tmod_eq_emod_of_nonneg (by omega)]; exact (Int.natCast_emod p L.length).symm
            have hlt3 : p % L.length < L.length := Nat.mod_lt _ hp
            have HK := Lib.hid (HCut.out (p % L.length) hlt3)
            generalize hq : p % L.length = q at *
            clear hq
            subst hp1
            have hle : q ≤ c := by have := HC.out; omega
            have hs := slice_high A L.length c q hle
            simp only [high0] at hs
            go_wp2_with (first
              | (go_at_call 16; (with_reducible refine (end_any _ _ _ _ HR.out.rd).mono ?_); rintro e u ⟨rfl, rfl⟩; rw [show endE [] 0 = 0 from rfl])
              | (go_at_call 8; (with_reducible refine (awake_any _).mono ?_); rintro e u ⟨rfl, hb⟩; have hb := HB.out.trans (hb.mono HB.out.size); clear HB; have HB := Lib.hid hb; clear hb)
              | (go_at_call 13; (with_reducible refine (new_any _ _ _ (L.take q) (by rw [List.length_take]; omega) (by have := HL.out; omega) _ (HY.out.take q)).mono ?_); rintro e u ⟨r2, rfl, hr, hd, hb⟩; have hs2 := RS.made HB.out hr hd hb; clear HB HY HR hr hd hb; have HR := Lib.hid hs2; have hb := hs2.bel; have HB := Lib.hid hb; clear hs2 hb))
            go_loopw [78] (fun i wr => ∃ (j : Nat) (Z : List UInt8) (er : Int), j ≤ k ∧ i = .int .i64 j ∧ Cut Z er (x0.drop j) ∧ RS w r2 Z er wr) (fun i _ => k - (intOf i).toNat)
            case atStart => exact ⟨0, _, 0, by omega, rfl, HK.out, HR.out⟩
            case round =>
              obtain ⟨j, Z, er, hj, rfl, hcut, hr⟩ := hrel
              clear HB HR HK
              have hb := hr.bel
              have HB := Lib.hid hb; have HR := Lib.hid hr; clear hb hr
              by_cases hlt4 : j < k
              · rw [drop_at (by rw [HN.out]; exact hlt4)] at hcut
                have hrd := fun u => rnum_any r2 Z er (by have := hcut.1; omega) u
                have hst := hcut.step
                have HK := Lib.hid hst; clear hst hcut
                generalize rnL Z er = Z2 at *
                generalize rnE Z er = er2 at *
                have j1 : (j : Int) < (k : Int) := by omega
                go_wp2_with (first
                  | (go_at_call 14; (with_reducible refine (hrd _ HR.out.rd).mono ?_); rintro e u ⟨rfl, hd, ho⟩; have hs3 := HR.out.step hd ho; clear HR HB hd ho; have HR := Lib.hid hs3; have hb := hs3.bel; have HB := Lib.hid hb; clear hs3 hb))
                go_roundw
                case rel => exact ⟨j + 1, Z2, er2, by omega, by go_num, HK.out, HR.out⟩
                case measure => simp [intOf]; omega
              · obtain rfl : j = k := by omega
                rw [List.drop_eq_nil_of_le (by rw [HN.out]; omega)] at hcut
                obtain rfl : er = 3 := hcut.last
                go_wp2_with (first
                  | (go_at_call 16; (with_reducible refine (end_any _ _ _ _ HR.out.rd).mono ?_); rintro e u ⟨rfl, rfl⟩; rw [show endE Z 3 = 3 from rfl])
                  | (go_at_call 8; (with_reducible refine (awake_any _).mono ?_); rintro e u ⟨rfl, hb⟩; have hb := HB.out.trans (hb.mono HB.out.size); clear HB; have HB := Lib.hid hb; clear hb))
                go_ret
                exact ⟨rfl, HB.out⟩

set_option maxRecDepth 100000 in
theorem lifted (os : Os) (started : os.Started) (H : Type) (enc : TypeId × Value → H) :
    ReturnsInHanded {} Try.checked os 6 .any (Rows.octetsRowSpec.pre6 enc Try.prog Try.f6 Rows.octetsRowRow.domain false) (Rows.octetsRowSpec.post enc Try.prog Try.f6 false true false false) := by
  refine returnsInHanded_of_change (C := Try.checked) own started (by kernel_rfl) Try.func6
    (ChangeSpec.witness6 (enc := enc) (C := Try.checked) false ⟨#[], #[.slice none 0 0, .int .u8 0], []⟩ 12 (by kernel_rfl) (by kernel_rfl) (by kernel_rfl) (by kernel_rfl)) ?_
  intro W base args ds gs before hval0 hW hcnd _
  have hval : ∀ (j : Nat) t v, Try.f6.params[j]? = some t → args[j]? = some v → Value.okWide Try.prog W .any base t v := hval0
  have hW' := hW
  obtain ⟨p, q, hA0, hV, rfl, hfz, hnd⟩ := hW
  have hA : DataW.TrodAll enc Try.prog W 0 (fun _ => true) true Try.f6.params.toList args.toList ds p := hA0
  rw [Try.params6] at hA hval
  obtain ⟨v0, vs0, d0, ds0, q0, r0, hargs, rfl, rfl, h0, t0⟩ := trodAll_cons hA
  obtain ⟨v1, vs1, d1, ds1, q1, r1, rfl, rfl, rfl, h1, t1⟩ := trodAll_cons t0
  obtain ⟨rfl, rfl, rfl⟩ := trodAll_nil t1
  obtain rfl : args = #[v0, v1] := by cases args; simp_all
  obtain ⟨rfl, rfl⟩ := trodVars_none hV
  have k0 := h0
  have lt0 : ∀ x ∈ q0, x.block < W.heap.size := by obtain ⟨m, hm⟩ := k0; exact DataW.trod_lt m _ _ _ hm
  obtain ⟨A0, n0, c0, x0, rfl, hd0⟩ := open_is (hval 0 37 v0 rfl rfl) h0
  have k1 := h1
  have lt1 : ∀ x ∈ q1, x.block < W.heap.size := by obtain ⟨m, hm⟩ := k1; exact DataW.trod_lt m _ _ _ hm
  obtain ⟨a1, rfl, rfl, rfl, w1⟩ := open_int Try.underlying5 (hval 1 5 v1 rfl rfl) h1
  clear hA0 hval0
  refine (walk W A0 n0 c0 x0 hd0 a1 w1).mono fun e W' ⟨he, bel⟩ => ?_
  subst he
  exact ⟨_, rfl, _, _, _, [], _, [], hW', trodAll_mk1 (shut_bool Try.underlying4 _), (trodAll_cons_mk (Below.trod laidOut (by kernel_rfl) (of_decide_eq_true (by kernel_rfl)) k0 bel lt0) (trodAll_cons_mk (Below.trod laidOut (by kernel_rfl) (of_decide_eq_true (by kernel_rfl)) k1 bel lt1) trodAll_mk0)), rfl, bel.frame _, fun h => by cases h⟩

theorem over : Rows.octetsRowRow.holds Try.pinned (OpenSpec.ofChange Rows.octetsRowSpec) :=
  OpenClaim.holds_of_wide 6 Try.f6 rfl rfl rfl rfl rfl rfl rfl ⟨rfl, rfl, rfl, rfl, rfl⟩ rfl rfl rfl rfl rfl (by kernel_rfl) Try.func6 (by kernel_rfl)
    (of_decide_eq_true (by kernel_rfl)) (by unfold Func.isWrapper; first | (rw [if_pos (by decide +kernel)]; kernel_rfl) | (rw [if_neg (by decide +kernel)]; exact ⟨rfl, rfl⟩))
    (fun os started H enc _ => lifted os started H enc)

theorem proved : Rows.OctetsRowSaid := over
#print axioms proved
end Go.Proofs.Ytphoaklbjljfnaa.octetsRow
