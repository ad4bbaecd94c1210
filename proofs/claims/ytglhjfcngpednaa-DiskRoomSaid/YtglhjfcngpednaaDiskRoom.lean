/- For every int and slice of slices of bytes usufructlaw11.DiskRoom returns true, and each argument reads as before. No condition. -/
import Derived.Test.YtglhjfcngpednaaDy
import Derived.WalkKit
import Derived.ProofKit
import Derived.OpenShut
import Derived.ShutString
import Derived.ChangeOld
import Derived.Below
namespace Go.Proofs.Ytglhjfcngpednaa.diskRoom
open Go.ChangeShapes Go.WideShapes Go.ChangeAt Go.RowKit
set_option linter.unusedVariables false

theorem own : ownKnob Try.prog.godebug = none := by kernel_rfl
theorem laidOut : laidOutB Try.prog = true := by kernel_rfl

set_option maxRecDepth 100000 in
set_option maxHeartbeats 4000000 in
theorem walk (w : World) (a0 : Int) (w0 : (Lit.int .i64 a0).wf = true) (A1 : Option Addr) (n1 c1 : Nat) (L1 : List BPart) (hd1 : LL w A1 n1 L1) :
    Calls Try.prog 6 #[.int .i64 a0, .slice A1 n1 c1] w fun e w' => e = .returned (.bool true) ∧ Below w.heap.size w w' := by
  have HK := Lib.hid (Kf.start w)
  by_cases hs0 : a0 < 0 ∨ 16384 < a0
  · have HS0 := Lib.hid hs0
    have j1 : (decide (a0 < 0) || decide (16384 < a0)) = true := by simpa using hs0
    clear hs0
    go_enter Try.func6, Try.ntmps6
    go_wp2_with (first
      | (go_at_call 9; (with_reducible refine (new_none a0 HS0.out _).mono ?_); rintro e u ⟨rfl, rfl⟩)
      | (go_at_call 11; (with_reducible refine (awake_any _).mono ?_); rintro e u ⟨rfl, hb⟩; have hk := HK.out.call hb; clear hb; clear HK; have HK := Lib.hid hk; clear hk))
    go_ret
    exact ⟨rfl, HK.out.mf.bel⟩
  obtain ⟨s, rfl⟩ : ∃ s : Nat, a0 = (s : Int) := ⟨a0.toNat, by omega⟩
  have hs1 : s ≤ 16384 := by omega
  obtain ⟨z, hz⟩ : ∃ z : Nat, z = 64 * s := ⟨_, rfl⟩
  have hN := new_any s hs1
  rw [← hz] at hN
  have HNEW := Lib.hid hN
  have hwz : IntKind.i64.wrap (64 * (s : Int)) = (z : Int) := by rw [IntKind.wrap_i64]; omega
  have HZ := Lib.hid (show z ≤ 1048576 by omega)
  have HZS := Lib.hid hz
  clear hN hz hs0 hs1 w0
  have HST := Lib.hid hd1
  have hmx : n1 ≤ 9223372036854775807 := hd1.2.1
  clear hd1
  by_cases h4 : 20 < n1
  · have i3 : (20 : Int) < (n1 : Int) := by omega
    have i4 : decide ((20 : Int) < (n1 : Int)) = true := by simp; omega
    go_enter Try.func6, Try.ntmps6
    go_wp2_with (first
      | (go_at_call 9; (with_reducible refine (HNEW.out _).mono ?_); rintro e u ⟨r, rfl, hr, hd, hb⟩; have hk := HK.out.newDisk hb hr hd; clear hr hd hb; clear HK; have HK := Lib.hid hk; clear hk)
      | (go_at_call 11; (with_reducible refine (awake_any _).mono ?_); rintro e u ⟨rfl, hb⟩; have hk := HK.out.call hb; clear hb; clear HK; have HK := Lib.hid hk; clear hk))
    go_ret
    exact ⟨rfl, HK.out.mf.bel⟩
  have i3 : ¬ (20 : Int) < (n1 : Int) := by omega
  have i4 : decide ((20 : Int) < (n1 : Int)) = false := by simp; omega
  go_enter Try.func6, Try.ntmps6
  go_wp2_with (first
    | (go_at_call 9; (with_reducible refine (HNEW.out _).mono ?_); rintro e u ⟨r, rfl, hr, hd, hb⟩; have hk := HK.out.newDisk hb hr hd; clear hr hd hb; clear HK; have HK := Lib.hid hk; clear hk))
  clear i3 i4 h4
  have hk := HK.out.made (KO.start _)
  clear HK; have HK := Lib.hid hk; clear hk
  go_loopw [6, 22] (fun v i wr => ∃ (m : Nat) (d : List UInt8) (O : Option Addr) (N oc : Nat) (v1 : Value), m ≤ n1 ∧ i = .int .i64 (m : Int) ∧ v = .slice O N oc ∧ d.length = N ∧ N ≤ z ∧ Kf w (fun _ => False) [] [⟨none, 0, 0, .slice O N oc, d⟩, ⟨some r, z, 0, v1, d⟩] [] wr) (fun _ i _ => n1 - (intOf i).toNat)
  case atStart => exact ⟨0, [], none, 0, 0, _, Nat.zero_le _, rfl, rfl, rfl, Nat.zero_le _, HK.out⟩
  case round =>
    obtain ⟨m, d, O, N, oc, v1, hm, rfl, rfl, hN, hNz, hk⟩ := hrel
    clear HK
    have HK := Lib.hid hk
    have HN := Lib.hid hN; have HNZ := Lib.hid hNz
    clear hk hN hNz
    by_cases hlt : m < n1
    · obtain ⟨b, off, x, hA, _, hc, hb⟩ := HST.out.one hlt
      obtain ⟨xA, xc, xb⟩ := x
      simp only at hc hb
      subst hA
      have hcell : wr.cell? ⟨b, off + m, none⟩ = some (.slice xA xb.length xc) := by rw [HK.out.mf.bel.cell (cell_lt hc)]; exact hc
      have hk := HK.out.old hb
      clear HK; have HK := Lib.hid hk; clear hk
      have i1 : (0 : Int) ≤ (m : Int) := by omega
      have i2 : (m : Int) < (n1 : Int) := by omega
      obtain ⟨k, hkk⟩ : ∃ k, xb.length = k := ⟨_, rfl⟩
      rw [hkk] at hcell
      have HXB := Lib.hid hkk
      clear hc hb hkk
      by_cases g4 : 400 < k
      · have i3 : (400 : Int) < (k : Int) := by omega
        have i4 : decide ((400 : Int) < (k : Int)) = true := by simp; omega
        go_wp2_with (first
          | (go_at_call 11; (with_reducible refine (awake_any _).mono ?_); rintro e u ⟨rfl, hb⟩; have hk := HK.out.call hb; clear hb; clear HK; have HK := Lib.hid hk; clear hk))
        go_ret
        exact ⟨rfl, HK.out.mf.bel⟩
      have i3 : ¬ (400 : Int) < (k : Int) := by omega
      have i4 : decide ((400 : Int) < (k : Int)) = false := by simp; omega
      have i5 : IntKind.i64.wrap ((N : Int) + (k : Int)) = (N : Int) + k := by have := HNZ.out; have := HZ.out; rw [IntKind.wrap_i64]; omega
      by_cases g5 : N + k ≤ z
      · have i6 : (N : Int) + (k : Int) ≤ (z : Int) := by omega
        have i7 : decide ((N : Int) + (k : Int) ≤ (z : Int)) = true := by simp; omega
        have HG5 := Lib.hid g5
        clear g5
        go_wp2_with (first
          | (go_at_call 17; (refine (append_any r z 0 v1 d xA k xc xb HXB.out HZ.out (by have := HN.out; have := HG5.out; omega) _ (HK.out.rowAt 0 rfl) (HK.out.dk 1 rfl)).mono ?_); rintro e u ⟨rfl, v2, hd, hm'⟩; have hk := HK.out.disk 1 rfl hm' hd; simp only [List.set_cons_zero, List.set_cons_succ] at hk; clear hd hm'; clear HK; have HK := Lib.hid hk; clear hk)
          | (refine app_k HK.out 0 rfl (HK.out.rowAt 0 rfl) HXB.out rfl _ _ rfl rfl rfl (by have := HN.out; have := HXB.out; have := HG5.out; have := HZ.out; omega) ?_; intro O2 N2 oc2 u hN2 _ hk; rw [List.length_append, HN.out, HXB.out] at hN2; have HN2 := Lib.hid hN2; clear hN2; simp only [List.set_cons_zero] at hk; clear HK; have HK := Lib.hid hk; clear hk))
        go_roundw
        case rel => exact ⟨m + 1, d ++ xb, O2, N2, oc2, _, by omega, by go_num, rfl, by have := HN.out; have := HXB.out; have := HN2.out; rw [List.length_append]; omega, by have := HN2.out; have := HG5.out; omega, HK.out.look (by simp)⟩
        case measure => simp [intOf]; omega
      · have i6 : ¬ (N : Int) + (k : Int) ≤ (z : Int) := by omega
        have i7 : decide ((N : Int) + (k : Int) ≤ (z : Int)) = false := by simp; omega
        go_wp2_with (first
          | (go_at_call 17; (refine (append_full r z 0 v1 d xA k xc (by have := HN.out; have := HNZ.out; omega) HZ.out (by have := HN.out; omega) _ (HK.out.dk 1 rfl)).mono ?_); rintro e u ⟨rfl, hb⟩; have hk := HK.out.call hb; clear hb; clear HK; have HK := Lib.hid hk; clear hk))
        go_roundw
        case rel => exact ⟨m + 1, d, O, N, oc, v1, by omega, by go_num, rfl, HN.out, HNZ.out, HK.out.look (by simp)⟩
        case measure => simp [intOf]; omega
    · obtain rfl : m = n1 := by omega
      clear hlt hm
      have hk := HK.out.asRow
      clear HK; have HK := Lib.hid hk; clear hk
      go_wp2_with (first
        | fail)
      refine Draws.start (S := fun u' : World => Kf w (fun _ => False) [] [⟨some r, z, 0, v1, d⟩] [(O, d)] u') (n := 15) 15 rfl (by kernel_rfl) ?_
      have HS := Lib.hid (show (fun u' : World => Kf w (fun _ => False) [] [⟨some r, z, 0, v1, d⟩] [(O, d)] u') (World.drew _) from HK.out.drew)
      refine Draws.take 0 (v := ?v1) HS.out rfl (by kernel_rfl) (fun _ _ _ h => h) (Or.inl ⟨rfl, ?h1⟩) ?r1
      case h1 => intro w' hw'; go_simp; (try with_reducible rfl)
      (try simp only [Act.put, List.setIfInBounds_toArray, List.set_cons_zero, List.set_cons_succ])
      refine Draws.take 3 (v := ?v2) HS.out rfl (by kernel_rfl) (fun _ _ _ h => h) (Or.inl ⟨rfl, ?h2⟩) ?r2
      case h2 => intro w' hw'; go_simp; (try with_reducible rfl)
      (try simp only [Act.put, List.setIfInBounds_toArray, List.set_cons_zero, List.set_cons_succ])
      refine Draws.take 4 HS.out rfl (by kernel_rfl) (fun _ _ _ h => h) (yield_str (fun _ h => h.rowAt 0 rfl) HN.out _ rfl rfl rfl) ?_
      (try simp only [Act.put, List.setIfInBounds_toArray, List.set_cons_zero, List.set_cons_succ])
      refine Draws.does 1 rfl (by kernel_rfl) rfl (fun K' hK => ?_)
      go_simp
      go_at_call 13
      refine (bytes_n _ _ _ _ _ N HN.out (by have := HNZ.out; have := HZ.out; omega) _ (HS.out.dk 0 rfl)).mono ?_
      rintro e u ⟨A7, c7, ⟨rfl, _⟩, hk⟩
      (try dsimp only)
      refine hK.out _ _ (fun _ => HS.out.call hk.bel) ?_
      clear hK K'
      refine Draws.more (S' := fun u' : World => Kf w (fun _ => False) [] [⟨some r, z, 0, v1, d⟩] ((A7, d) :: [(O, d)]) u') (fun _ h => h.look (fun _ hr => List.mem_cons_of_mem _ hr)) _ _ _ _ ?_
      have hs : Kf w (fun _ => False) [] [⟨some r, z, 0, v1, d⟩] ((A7, d) :: [(O, d)]) u := HS.out.makes hk
      clear HS hk
      have HS := Lib.hid hs; clear hs
      (try simp only [Act.put, List.setIfInBounds_toArray, List.set_cons_zero, List.set_cons_succ])
      refine Draws.take 2 HS.out rfl (by kernel_rfl) (fun _ _ _ h => h) (yield_str (fun _ h => h.rowAt 0 rfl) HN.out _ rfl rfl rfl) ?_
      (try simp only [Act.put, List.setIfInBounds_toArray, List.set_cons_zero, List.set_cons_succ])
      refine Draws.take 5 HS.out rfl (by kernel_rfl) (fun _ _ _ h => h) (yield_eqs _ _ _ rfl rfl rfl rfl) ?_
      (try simp only [Act.put, List.setIfInBounds_toArray, List.set_cons_zero, List.set_cons_succ])
      refine Draws.take 6 (v := ?v3) HS.out rfl (by kernel_rfl) (fun _ _ _ h => h) (Or.inl ⟨rfl, ?h3⟩) ?r3
      case h3 => intro w' hw'; go_simp; (try with_reducible rfl)
      (try simp only [Act.put, List.setIfInBounds_toArray, List.set_cons_zero, List.set_cons_succ])
      refine Draws.take 7 (v := ?v4) HS.out rfl (by kernel_rfl) (fun _ _ _ h => h) (Or.inl ⟨rfl, ?h4⟩) ?r4
      case h4 => intro w' hw'; go_simp; (try with_reducible rfl)
      (try simp only [Act.put, List.setIfInBounds_toArray, List.set_cons_zero, List.set_cons_succ])
      refine Draws.does 8 rfl (by kernel_rfl) rfl (fun K' hK => ?_)
      go_simp
      go_at_call 14
      refine (safe_any _ _ _ _ _ _ (HS.out.dk 0 rfl)).mono ?_
      rintro e u ⟨rfl, rfl⟩
      (try dsimp only)
      refine hK.out _ _ (fun _ => HS.out) ?_
      clear hK K'
      (try simp only [Act.put, List.setIfInBounds_toArray, List.set_cons_zero, List.set_cons_succ])
      refine Draws.take 9 HS.out rfl (by kernel_rfl) (fun _ _ _ h => h) (yield_eqi rfl _ _ _ rfl rfl rfl rfl) ?_
      (try simp only [Act.put, List.setIfInBounds_toArray, List.set_cons_zero, List.set_cons_succ])
      refine Draws.take 10 (v := ?v5) HS.out rfl (by kernel_rfl) (fun _ _ _ h => h) (Or.inl ⟨rfl, ?h5⟩) ?r5
      case h5 => intro w' hw'; go_simp; (try with_reducible rfl)
      (try simp only [Act.put, List.setIfInBounds_toArray, List.set_cons_zero, List.set_cons_succ])
      refine Draws.take 11 (v := ?v6) HS.out rfl (by kernel_rfl) (fun _ _ _ h => h) (Or.inl ⟨rfl, ?h6⟩) ?r6
      case h6 => intro w' hw'; go_simp; (try with_reducible rfl)
      (try simp only [Act.put, List.setIfInBounds_toArray, List.set_cons_zero, List.set_cons_succ])
      refine Draws.does 12 rfl (by kernel_rfl) rfl (fun K' hK => ?_)
      go_simp
      go_at_call 11
      refine (awake_any _).mono ?_
      rintro e u ⟨rfl, hb⟩
      (try dsimp only)
      refine hK.out _ _ (fun _ => HS.out.call hb) ?_
      clear hK K'
      have hs := HS.out.call hb
      clear HS hb
      have HS := Lib.hid hs; clear hs
      (try simp only [Act.put, List.setIfInBounds_toArray, List.set_cons_zero, List.set_cons_succ])
      refine Draws.take 13 (v := ?v7) HS.out rfl (by kernel_rfl) (fun _ _ _ h => h) (Or.inl ⟨rfl, ?h7⟩) ?r7
      case h7 => intro w' hw'; go_simp; (try with_reducible rfl)
      (try simp only [Act.put, List.setIfInBounds_toArray, List.set_cons_zero, List.set_cons_succ])
      refine Draws.take 14 (v := ?v8) HS.out rfl (by kernel_rfl) (fun _ _ _ h => h) (Or.inl ⟨rfl, ?h8⟩) ?r8
      case h8 => intro w' hw'; go_simp; (try with_reducible rfl)
      (try simp only [Act.put, List.setIfInBounds_toArray, List.set_cons_zero, List.set_cons_succ])
      refine Draws.done (by kernel_rfl) ?_
      go_wp2_with (first
        | fail)
      go_ret
      exact ⟨rfl, HS.out.mf.bel⟩

set_option maxRecDepth 100000 in
theorem lifted (os : Os) (started : os.Started) (H : Type) (enc : TypeId × Value → H) :
    ReturnsInHanded {} Try.checked os 6 .any (Rows.diskRoomSpec.pre6 enc Try.prog Try.f6 Rows.diskRoomRow.domain false) (Rows.diskRoomSpec.post enc Try.prog Try.f6 false true false false) := by
  refine returnsInHanded_of_change (C := Try.checked) own started (by kernel_rfl) Try.func6
    (ChangeSpec.witness6 (enc := enc) (C := Try.checked) false ⟨#[], #[.int .i64 0, .slice none 0 0], []⟩ 12 (by kernel_rfl) (by kernel_rfl) (by kernel_rfl) (by kernel_rfl)) ?_
  intro W base args ds gs before hval0 hW hcnd _
  have hval : ∀ (j : Nat) t v, Try.f6.params[j]? = some t → args[j]? = some v → Value.okWide Try.prog W .any base t v := hval0
  have hW' := hW
  obtain ⟨p, q, hA0, hV, rfl, hfz, hnd⟩ := hW
  have hA : DataW.TrodAll enc Try.prog W 0 (fun _ => true) true Try.f6.params.toList args.toList ds p := hA0
  rw [Try.params6] at hA hval
  obtain ⟨v0, vs0, d0, ds0, q0, r0, hargs, rfl, rfl, h0, t0⟩ := trodAll_cons hA
  obtain ⟨v1, vs1, d1, ds1, q1, r1, rfl, rfl, rfl, h1, t1⟩ := trodAll_cons t0
  obtain ⟨rfl, rfl, rfl⟩ := trodAll_nil t1
  obtain rfl : args = #[v0, v1] := by cases args; simp_all
  obtain ⟨rfl, rfl⟩ := trodVars_none hV
  have k0 := h0
  have lt0 : ∀ x ∈ q0, x.block < W.heap.size := by obtain ⟨m, hm⟩ := k0; exact DataW.trod_lt m _ _ _ hm
  obtain ⟨a0, rfl, rfl, rfl, w0⟩ := open_int Try.underlying3 (hval 0 3 v0 rfl rfl) h0
  have k1 := h1
  have lt1 : ∀ x ∈ q1, x.block < W.heap.size := by obtain ⟨m, hm⟩ := k1; exact DataW.trod_lt m _ _ _ hm
  obtain ⟨A1, n1, c1, L1, rfl, hd1⟩ := open_B (hval 1 43 v1 rfl rfl) h1
  clear hA0 hval0
  refine (walk W a0 w0 A1 n1 c1 L1 hd1).mono fun e W' ⟨he, bel⟩ => ?_
  subst he
  exact ⟨_, rfl, _, _, _, [], _, [], hW', trodAll_mk1 (shut_bool Try.underlying4 _), (trodAll_cons_mk (Below.trod laidOut (by kernel_rfl) (of_decide_eq_true (by kernel_rfl)) k0 bel lt0) (trodAll_cons_mk (Below.trod laidOut (by kernel_rfl) (of_decide_eq_true (by kernel_rfl)) k1 bel lt1) trodAll_mk0)), rfl, bel.frame _, fun h => by cases h⟩

theorem over : Rows.diskRoomRow.holds Try.pinned (OpenSpec.ofChange Rows.diskRoomSpec) :=
  OpenClaim.holds_of_wide 6 Try.f6 rfl rfl rfl rfl rfl rfl rfl ⟨rfl, rfl, rfl, rfl, rfl⟩ rfl rfl rfl rfl rfl (by kernel_rfl) Try.func6 (by kernel_rfl)
    (of_decide_eq_true (by kernel_rfl)) (by unfold Func.isWrapper; first | (rw [if_pos (by decide +kernel)]; kernel_rfl) | (rw [if_neg (by decide +kernel)]; exact ⟨rfl, rfl⟩))
    (fun os started H enc _ => lifted os started H enc)

theorem proved : Rows.DiskRoomSaid := over
#print axioms proved
end Go.Proofs.Ytglhjfcngpednaa.diskRoom
