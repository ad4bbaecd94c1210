/- Contracts of the document's Append. -/
import Derived.Test.YtglhjfcngpednaaKo
namespace Go.Proofs.Ytglhjfcngpednaa
open Go.ChangeShapes Go.WideShapes Go.ChangeAt Go.RowKit

theorem rapp_full (z : Nat) (f : Int) (B : Option Addr) (n cb : Nat) (A : Option Addr) (k c : Nat) (hz : z ≤ 1048576) (hk : z < n + k) (hn : n ≤ 1048576) (hk2 : k ≤ 1048576) (w : World) :
    Calls Try.prog 21 #[.agg #[.int .i64 z, .int .i64 f, .slice B n cb], .slice A k c] w fun e w' => e = .returned (.tuple #[.agg #[.int .i64 z, .int .i64 f, .slice B n cb], .bool false]) ∧ Below w.heap.size w w' := by
  have HK := Lib.hid (Kf.start w)
  have i0 : IntKind.i64.wrap ((n : Int) + k) = n + k := by rw [IntKind.wrap_i64]; omega
  have i1 : (z : Int) < (n : Int) + k := by omega
  have i2 : decide ((z : Int) < (n : Int) + k) = true := by simp; omega
  go_enter Try.func21, Try.ntmps21
  go_wp2_with (first
    | ((with_reducible refine box_k HK.out rfl rfl _ rfl rfl rfl ?_); intro b u hk; clear HK; have HK := Lib.hid hk; clear hk)
    | ((with_reducible refine alloc_k HK.out rfl r_zero rfl rfl rfl ?_); intro b2 u hk; clear HK; have HK := Lib.hid hk; clear hk)
    | (with_reducible refine load_k1 HK.out 1 rfl _ rfl rfl rfl rfl rfl ?_)
    | (with_reducible refine load_kr HK.out 1 Try.underlying29 rfl r_info _ rfl rfl rfl rfl rfl ?_)
    | ((with_reducible refine store_kr (xs := [.int .i64 z, .int .i64 f, .slice B n cb]) HK.out 0 r_info rfl rfl _ _ rfl rfl rfl rfl (by simp) (by simp) (by simp [noU, isU]) (by simp [Value.oneCell']) ?_); intro u hk; simp only [List.set_cons_zero] at hk; clear HK; have HK := Lib.hid hk; clear hk))
  exact bodyPost_ret (results_k2 rfl Try.underlying29 rfl r_info _ HK.out 0 _ rfl rfl rfl rfl) rfl ⟨rfl, HK.out.mf.bel⟩
theorem rapp_any (z : Nat) (f : Int) (B : Option Addr) (n cb : Nat) (x : List UInt8) (hx : x.length = n) (A : Option Addr) (k c : Nat) (m : List UInt8) (hm : m.length = k) (hz : z ≤ 1048576) (hk : n + k ≤ z) (w : World) (hB : Bys w B x) (hA : Bys w A m) :
    Calls Try.prog 21 #[.agg #[.int .i64 z, .int .i64 f, .slice B n cb], .slice A k c] w fun e w' => ∃ B' c', e = .returned (.tuple #[.agg #[.int .i64 z, .int .i64 f, .slice B' (n + k : Nat) c'], .bool true]) ∧ KO w (.slice B' (n + k) c') (x ++ m) w' := by
  have hk0 : Kf w (fun _ => False) [] [] [(B, x), (A, m)] w := ((Kf.start w).also hA (by simp)).also hB (by simp)
  have HK := Lib.hid hk0
  clear hk0
  have i0 : IntKind.i64.wrap ((n : Int) + k) = n + k := by rw [IntKind.wrap_i64]; omega
  have i1 : ¬ (z : Int) < (n : Int) + k := by omega
  have i2 : decide ((z : Int) < (n : Int) + k) = false := by simp; omega
  have HX := Lib.hid hx; have HM := Lib.hid hm
  have HN1 := Lib.hid (show ([] : List UInt8).length + x.length ≤ 1048576 by simp; omega)
  have HN2 := Lib.hid (show x.length + m.length ≤ 1048576 by omega)
  clear hx hm hB hA
  have T1 := True.intro
  go_enter Try.func21, Try.ntmps21
  go_wp2_with (first
    | ((with_reducible refine box_k HK.out rfl rfl _ rfl rfl rfl ?_); intro b u hk; clear HK; have HK := Lib.hid hk; clear hk)
    | ((with_reducible refine alloc_k HK.out rfl r_zero rfl rfl rfl ?_); intro b2 u hk; clear HK; have HK := Lib.hid hk; clear hk)
    | ((with_reducible refine build_k HK.out rfl rfl ?_); intro v0 u hk; clear HK; have HK := Lib.hid hk; clear hk)
    | (clear T1; refine app_k HK.out 0 rfl (HK.out.rowAt 0 rfl) HX.out rfl _ _ rfl rfl rfl HN1.out ?_; intro B1 N1 c1 u hN _ hk; simp only [List.nil_append] at hk hN; rw [HX.out] at hN; subst hN; simp only [List.set_cons_zero] at hk; clear HK; have HK := Lib.hid hk; clear hk)
    | (refine app_k HK.out 0 rfl (HK.out.rowAt 1 rfl) HM.out rfl _ _ rfl rfl rfl HN2.out ?_; intro B2 N2 c2 u hN _ hk; rw [List.length_append, HX.out, HM.out] at hN; have HN := Lib.hid hN; clear hN; simp only [List.set_cons_zero] at hk; clear HK; have HK := Lib.hid hk; clear hk)
    | (with_reducible refine load_k1 HK.out 1 rfl _ rfl rfl rfl rfl rfl ?_)
    | (with_reducible refine load_kr HK.out 1 Try.underlying29 rfl r_info _ rfl rfl rfl rfl rfl ?_)
    | ((with_reducible refine store_k1 (v := .slice B2 N2 c2) HK.out 1 rfl rfl rfl _ _ rfl rfl rfl rfl rfl (by simp) rfl (by simp [noU, isU]) ?_); intro u hk; simp only [List.set_cons_zero, List.set_cons_succ] at hk; clear HK; have HK := Lib.hid hk; clear hk)
    | ((with_reducible refine store_kr (xs := [.int .i64 z, .int .i64 f, .slice B2 N2 c2]) HK.out 0 r_info rfl rfl _ _ rfl rfl rfl rfl (by simp) (by simp) (by simp [noU, isU]) (by simp [Value.oneCell']) ?_); intro u hk; simp only [List.set_cons_zero] at hk; clear HK; have HK := Lib.hid hk; clear hk))
  have hk := HK.out
  obtain rfl := HN.out
  exact bodyPost_ret (results_k2 rfl Try.underlying29 rfl r_info _ hk 0 _ rfl rfl rfl rfl) rfl ⟨_, _, rfl, hk.ko 0 rfl⟩
set_option maxRecDepth 100000 in
set_option maxHeartbeats 4000000 in
theorem rcrash_any (z f : Nat) (B : Option Addr) (n cb : Nat) (x : List UInt8) (hx : x.length = n) (hc : n ≤ cb) (hf : f ≤ n) (hn : n ≤ 1048576) (s t : Int) (w : World) (hB : Bys w B x) :
    Calls Try.prog 22 #[.agg #[.int .i64 z, .int .i64 f, .slice B n cb], .int .i64 s, .int .i64 t] w fun e w' => ∃ B' c', e = .returned (.agg #[.int .i64 z, .int .i64 (cr f n s t : Nat), .slice B' (cr f n s t) c']) ∧ KO w (.slice B' (cr f n s t) c') (x.take (cr f n s t)) w' := by
  have hk0 : Kf w (fun _ => False) [] [] [(B, x)] w := (Kf.start w).also hB (by simp)
  have HK := Lib.hid hk0
  have HX := Lib.hid hx
  have HT := Lib.hid (hB.take (cr f n s t))
  clear hk0 hx hB
  have hq : IntKind.i64.wrap ((f : Int) / 64) = ((f / 64 : Nat) : Int) := by rw [IntKind.wrap_i64]; omega
  have hq2 : IntKind.i64.wrap (((f / 64 : Nat) : Int) * 64) = ((f / 64 * 64 : Nat) : Int) := by rw [IntKind.wrap_i64]; omega
  go_enter Try.func22, Try.ntmps22
  go_wp2_with (first
    | ((with_reducible refine box_k HK.out rfl rfl _ rfl rfl rfl ?_); intro b u hk; clear HK; have HK := Lib.hid hk; clear hk)
    | ((with_reducible refine alloc_k HK.out rfl r_zero rfl rfl rfl ?_); intro b2 u hk; clear HK; have HK := Lib.hid hk; clear hk)
    | (with_reducible refine load_k1 HK.out 1 rfl _ rfl rfl rfl rfl rfl ?_))
  have HKC := Lib.hid (show cr f n s t ≤ cb from Nat.le_trans (cr_le f n s t) hc)
  have HTL := Lib.hid (show (x.take (cr f n s t)).length = cr f n s t by have := cr_le f n s t; rw [List.length_take, HX.out]; omega)
  have HN1 := Lib.hid (show ([] : List UInt8).length + (x.take (cr f n s t)).length ≤ 1048576 by have := cr_le f n s t; rw [HTL.out]; simp; omega)
  go_loop [7, 8] (fun v i => ∃ k : Nat, i = .int .i64 (k : Int) ∧ v = .int .i64 ((f / 64 * 64 + 64 * k : Nat) : Int) ∧ k ≤ s.toNat ∧ (k = 0 ∨ f / 64 * 64 + 64 * (k - 1) < n)) (fun v _ => n + 64 - (intOf v).toNat)
  case atStart => exact ⟨0, rfl, by simp, by omega, .inl rfl⟩
  case round =>
    obtain ⟨k, rfl, rfl, hk1, hk2⟩ := hrel
    obtain ⟨N1, hN1⟩ : ∃ N1 : Nat, N1 = f / 64 * 64 + 64 * k := ⟨_, rfl⟩
    rw [← hN1]
    have hb1 : N1 ≤ 1500000 := by omega
    have hb0 : k ≤ 1500000 := by omega
    have HN1' := Lib.hid hN1
    clear hN1
    by_cases g1 : (k : Int) < s
    · by_cases g2 : N1 < n
      · have i2 : (N1 : Int) < (n : Int) := by omega
        go_wp2_with (first
          | (with_reducible refine load_k1 HK.out 1 rfl _ rfl rfl rfl rfl rfl ?_))
        go_round
        case rel => exact ⟨k + 1, by go_num, by rw [show f / 64 * 64 + 64 * (k + 1) = N1 + 64 by have := HN1'.out; omega]; go_num, by omega, .inr (by have := HN1'.out; omega)⟩
        case measure => simp [intOf]; omega
      · have i2 : ¬ (N1 : Int) < (n : Int) := by omega
        obtain ⟨N2, hN2⟩ : ∃ N2 : Nat, N2 = max N1 f := ⟨_, rfl⟩
        have HX2 := Lib.hid (show max (N1 : Int) (f : Int) = (N2 : Int) by omega)
        have hE : N1 = 64 * (f / 64 + s.toNat) ∨ (n ≤ N1 ∧ n ≤ 64 * (f / 64 + s.toNat)) := by have := HN1'.out; omega
        have hb2 : N2 ≤ 2000000 := by omega
        have HE := Lib.hid hE
        have HN2 := Lib.hid hN2
        clear hE hN2 HN1' hk1 hk2 hb1 hb0
        go_wp2_with (first
          | (with_reducible refine load_k1 HK.out 1 rfl _ rfl rfl rfl rfl rfl ?_)
          | (with_reducible refine max_law HX2.out _ _ rfl rfl rfl rfl ?_))
        go_loop [7, 9] (fun v i => ∃ j : Nat, i = .int .i64 (j : Int) ∧ v = .int .i64 ((N2 + j : Nat) : Int) ∧ j ≤ t.toNat ∧ (j = 0 ∨ N2 + (j - 1) < n)) (fun v _ => n + 1 - (intOf v).toNat)
        case atStart => exact ⟨0, rfl, by simp, by omega, .inl rfl⟩
        case round =>
          obtain ⟨j, rfl, rfl, hj1, hj2⟩ := hrel
          obtain ⟨N3, hN3⟩ : ∃ N3 : Nat, N3 = N2 + j := ⟨_, rfl⟩
          rw [← hN3]
          have hb3 : N3 ≤ 3000000 := by omega
          have hb4 : j ≤ 3000000 := by omega
          have HN3 := Lib.hid hN3
          clear hN3
          by_cases g1 : (j : Int) < t
          · by_cases g2 : N3 < n
            · clear hj2; have i2 : (N3 : Int) < (n : Int) := by omega
              go_wp2_with (first
                | (with_reducible refine load_k1 HK.out 1 rfl _ rfl rfl rfl rfl rfl ?_))
              go_round
              case rel => exact ⟨j + 1, by go_num, by rw [show N2 + (j + 1) = N3 + 1 by have := HN3.out; omega]; go_num, by omega, .inr (by have := HN3.out; omega)⟩
              case measure => simp [intOf]; omega
            · have i2 : ¬ (N3 : Int) < (n : Int) := by omega
              have hK : min N3 n = cr f n s t := by have := HE.out; have := HN2.out; have := HN3.out; unfold cr; omega
              have HM := Lib.hid (show min (N3 : Int) (n : Int) = (cr f n s t : Nat) by have := hK; omega)
              clear hK
              go_wp2_with (first
                | (with_reducible refine load_k1 HK.out 1 rfl _ rfl rfl rfl rfl rfl ?_)
                | (with_reducible refine min_law HM.out _ _ rfl rfl rfl rfl ?_))
              refine Draws.start (S := fun u' : World => Kf w (fun _ => False) [(b2, 29, [.int .i64 0, .int .i64 0, .slice none 0 0]), (b, 29, [.int .i64 z, .int .i64 f, .slice B n cb])] [] [(B, x)] u') (n := 10) 11 rfl (by kernel_rfl) ?_
              have HS := Lib.hid (show (fun u' : World => Kf w (fun _ => False) [(b2, 29, [.int .i64 0, .int .i64 0, .slice none 0 0]), (b, 29, [.int .i64 z, .int .i64 f, .slice B n cb])] [] [(B, x)] u') (World.drew _) from HK.out.drew)
              refine Draws.take 0 (v := ?v1) HS.out rfl (by kernel_rfl) (fun _ _ _ h => h) (Or.inl ⟨rfl, ?h1⟩) ?r1
              case h1 => intro w' hw'; go_simp; (try with_reducible rfl)
              (try simp only [Act.put, List.setIfInBounds_toArray, List.set_cons_zero, List.set_cons_succ])
              refine Draws.take 1 HS.out rfl (by kernel_rfl) (fun _ _ _ h => h) (yield_c rfl (fun _ h => (Kf.get h 1 rfl).cell rfl) _ rfl rfl rfl) ?_
              (try simp only [Act.put, List.setIfInBounds_toArray, List.set_cons_zero, List.set_cons_succ])
              refine Draws.take 2 (v := ?v2) HS.out rfl (by kernel_rfl) (fun _ _ _ h => h) (Or.inl ⟨rfl, ?h2⟩) ?r2
              case h2 => intro w' hw'; go_simp; (try with_reducible rfl)
              (try simp only [Act.put, List.setIfInBounds_toArray, List.set_cons_zero, List.set_cons_succ])
              refine Draws.take 4 (v := ?v3) HS.out rfl (by kernel_rfl) (fun _ _ _ h => h) (Or.inl ⟨rfl, ?h3⟩) ?r3
              case h3 => intro w' hw'; go_simp; (try with_reducible rfl)
              (try simp only [Act.put, List.setIfInBounds_toArray, List.set_cons_zero, List.set_cons_succ])
              refine Draws.take 5 HS.out rfl (by kernel_rfl) (fun _ _ _ h => h) (yield_c rfl (fun _ h => (Kf.get h 1 rfl).cell rfl) _ rfl rfl rfl) ?_
              (try simp only [Act.put, List.setIfInBounds_toArray, List.set_cons_zero, List.set_cons_succ])
              refine Draws.take 6 (v := ?v4) HS.out rfl (by kernel_rfl) (fun _ _ _ h => h) (Or.inl ⟨rfl, ?h4⟩) ?r4
              case h4 => intro w' hw'; go_simp; (try with_reducible rfl)
              (try simp only [Act.put, List.setIfInBounds_toArray, List.set_cons_zero, List.set_cons_succ])
              refine Draws.take 7 HS.out rfl (by kernel_rfl) (fun _ _ _ h => h) (yield_high HKC.out _ _ rfl rfl rfl rfl) ?_
              (try simp only [Act.put, List.setIfInBounds_toArray, List.set_cons_zero, List.set_cons_succ])
              refine Draws.does 3 rfl (by kernel_rfl) rfl (fun K' hK => ?_)
              refine wp_build_k HS.out rfl ?_
              intro v0 u0 hk
              refine hK.out _ _ (fun _ => hk.plain) ?_
              clear hK K' HS HK
              have HS := Lib.hid hk.plain
              have HK := Lib.hid hk
              clear hk
              (try simp only [Act.put, List.setIfInBounds_toArray, List.set_cons_zero, List.set_cons_succ])
              refine Draws.does 8 rfl (by kernel_rfl) rfl (fun K' hK => ?_)
              refine wp_app_k HK.out 0 rfl ((HK.out.rowAt 0 rfl).take (cr f n s t)) HTL.out _ _ rfl rfl rfl HN1.out ?_
              intro B1 N1 c1 u1 hN _ hk
              simp only [List.nil_append, List.set_cons_zero] at hk hN
              rw [HTL.out] at hN
              subst hN
              refine hK.out _ _ (fun _ => hk.plain) ?_
              clear hK K' HS HK
              have HS := Lib.hid hk.plain
              have HK := Lib.hid hk
              clear hk
              (try simp only [Act.put, List.setIfInBounds_toArray, List.set_cons_zero, List.set_cons_succ])
              refine Draws.take 9 (v := ?v5) HS.out rfl (by kernel_rfl) (fun _ _ _ h => h) (Or.inl ⟨rfl, ?h5⟩) ?r5
              case h5 => intro w' hw'; go_simp; (try with_reducible rfl)
              (try simp only [Act.put, List.setIfInBounds_toArray, List.set_cons_zero, List.set_cons_succ])
              refine Draws.does 10 rfl (by kernel_rfl) rfl (fun K' hK => ?_)
              refine wp_store_kr (xs := [.int .i64 z, .int .i64 (cr f n s t : Nat), .slice B1 (cr f n s t) c1]) HK.out 0 r_info rfl _ _ rfl rfl rfl rfl (by simp) (by simp) (by simp [noU, isU]) (by simp [Value.oneCell']) ?_
              intro u2 hk
              simp only [List.set_cons_zero] at hk
              refine hK.out _ _ (fun h => absurd h (by omega)) ?_
              clear hK K' HS HK
              have HK := Lib.hid hk
              clear hk
              (try simp only [Act.put, List.setIfInBounds_toArray, List.set_cons_zero, List.set_cons_succ])
              refine Draws.done (by kernel_rfl) ?_
              go_wp2_with (first
                | fail)
              exact bodyPost_ret (results_k1 rfl Try.underlying29 rfl r_info _ HK.out 0 rfl rfl rfl) rfl ⟨_, _, rfl, HK.out.ko 0 rfl⟩
          · have hK : min N3 n = cr f n s t := by have := HE.out; have := HN2.out; have := HN3.out; unfold cr; omega
            have HM := Lib.hid (show min (N3 : Int) (n : Int) = (cr f n s t : Nat) by have := hK; omega)
            clear hK
            go_wp2_with (first
              | (with_reducible refine load_k1 HK.out 1 rfl _ rfl rfl rfl rfl rfl ?_)
              | (with_reducible refine min_law HM.out _ _ rfl rfl rfl rfl ?_))
            refine Draws.start (S := fun u' : World => Kf w (fun _ => False) [(b2, 29, [.int .i64 0, .int .i64 0, .slice none 0 0]), (b, 29, [.int .i64 z, .int .i64 f, .slice B n cb])] [] [(B, x)] u') (n := 10) 11 rfl (by kernel_rfl) ?_
            have HS := Lib.hid (show (fun u' : World => Kf w (fun _ => False) [(b2, 29, [.int .i64 0, .int .i64 0, .slice none 0 0]), (b, 29, [.int .i64 z, .int .i64 f, .slice B n cb])] [] [(B, x)] u') (World.drew _) from HK.out.drew)
            refine Draws.take 0 (v := ?v6) HS.out rfl (by kernel_rfl) (fun _ _ _ h => h) (Or.inl ⟨rfl, ?h6⟩) ?r6
            case h6 => intro w' hw'; go_simp; (try with_reducible rfl)
            (try simp only [Act.put, List.setIfInBounds_toArray, List.set_cons_zero, List.set_cons_succ])
            refine Draws.take 1 HS.out rfl (by kernel_rfl) (fun _ _ _ h => h) (yield_c rfl (fun _ h => (Kf.get h 1 rfl).cell rfl) _ rfl rfl rfl) ?_
            (try simp only [Act.put, List.setIfInBounds_toArray, List.set_cons_zero, List.set_cons_succ])
            refine Draws.take 2 (v := ?v7) HS.out rfl (by kernel_rfl) (fun _ _ _ h => h) (Or.inl ⟨rfl, ?h7⟩) ?r7
            case h7 => intro w' hw'; go_simp; (try with_reducible rfl)
            (try simp only [Act.put, List.setIfInBounds_toArray, List.set_cons_zero, List.set_cons_succ])
            refine Draws.take 4 (v := ?v8) HS.out rfl (by kernel_rfl) (fun _ _ _ h => h) (Or.inl ⟨rfl, ?h8⟩) ?r8
            case h8 => intro w' hw'; go_simp; (try with_reducible rfl)
            (try simp only [Act.put, List.setIfInBounds_toArray, List.set_cons_zero, List.set_cons_succ])
            refine Draws.take 5 HS.out rfl (by kernel_rfl) (fun _ _ _ h => h) (yield_c rfl (fun _ h => (Kf.get h 1 rfl).cell rfl) _ rfl rfl rfl) ?_
            (try simp only [Act.put, List.setIfInBounds_toArray, List.set_cons_zero, List.set_cons_succ])
            refine Draws.take 6 (v := ?v9) HS.out rfl (by kernel_rfl) (fun _ _ _ h => h) (Or.inl ⟨rfl, ?h9⟩) ?r9
            case h9 => intro w' hw'; go_simp; (try with_reducible rfl)
            (try simp only [Act.put, List.setIfInBounds_toArray, List.set_cons_zero, List.set_cons_succ])
            refine Draws.take 7 HS.out rfl (by kernel_rfl) (fun _ _ _ h => h) (yield_high HKC.out _ _ rfl rfl rfl rfl) ?_
            (try simp only [Act.put, List.setIfInBounds_toArray, List.set_cons_zero, List.set_cons_succ])
            refine Draws.does 3 rfl (by kernel_rfl) rfl (fun K' hK => ?_)
            refine wp_build_k HS.out rfl ?_
            intro v0 u0 hk
            refine hK.out _ _ (fun _ => hk.plain) ?_
            clear hK K' HS HK
            have HS := Lib.hid hk.plain
            have HK := Lib.hid hk
            clear hk
            (try simp only [Act.put, List.setIfInBounds_toArray, List.set_cons_zero, List.set_cons_succ])
            refine Draws.does 8 rfl (by kernel_rfl) rfl (fun K' hK => ?_)
            refine wp_app_k HK.out 0 rfl ((HK.out.rowAt 0 rfl).take (cr f n s t)) HTL.out _ _ rfl rfl rfl HN1.out ?_
            intro B1 N1 c1 u1 hN _ hk
            simp only [List.nil_append, List.set_cons_zero] at hk hN
            rw [HTL.out] at hN
            subst hN
            refine hK.out _ _ (fun _ => hk.plain) ?_
            clear hK K' HS HK
            have HS := Lib.hid hk.plain
            have HK := Lib.hid hk
            clear hk
            (try simp only [Act.put, List.setIfInBounds_toArray, List.set_cons_zero, List.set_cons_succ])
            refine Draws.take 9 (v := ?v10) HS.out rfl (by kernel_rfl) (fun _ _ _ h => h) (Or.inl ⟨rfl, ?h10⟩) ?r10
            case h10 => intro w' hw'; go_simp; (try with_reducible rfl)
            (try simp only [Act.put, List.setIfInBounds_toArray, List.set_cons_zero, List.set_cons_succ])
            refine Draws.does 10 rfl (by kernel_rfl) rfl (fun K' hK => ?_)
            refine wp_store_kr (xs := [.int .i64 z, .int .i64 (cr f n s t : Nat), .slice B1 (cr f n s t) c1]) HK.out 0 r_info rfl _ _ rfl rfl rfl rfl (by simp) (by simp) (by simp [noU, isU]) (by simp [Value.oneCell']) ?_
            intro u2 hk
            simp only [List.set_cons_zero] at hk
            refine hK.out _ _ (fun h => absurd h (by omega)) ?_
            clear hK K' HS HK
            have HK := Lib.hid hk
            clear hk
            (try simp only [Act.put, List.setIfInBounds_toArray, List.set_cons_zero, List.set_cons_succ])
            refine Draws.done (by kernel_rfl) ?_
            go_wp2_with (first
              | fail)
            exact bodyPost_ret (results_k1 rfl Try.underlying29 rfl r_info _ HK.out 0 rfl rfl rfl) rfl ⟨_, _, rfl, HK.out.ko 0 rfl⟩
    · skip
      obtain ⟨N2, hN2⟩ : ∃ N2 : Nat, N2 = max N1 f := ⟨_, rfl⟩
      have HX2 := Lib.hid (show max (N1 : Int) (f : Int) = (N2 : Int) by omega)
      have hE : N1 = 64 * (f / 64 + s.toNat) ∨ (n ≤ N1 ∧ n ≤ 64 * (f / 64 + s.toNat)) := by have := HN1'.out; omega
      have hb2 : N2 ≤ 2000000 := by omega
      have HE := Lib.hid hE
      have HN2 := Lib.hid hN2
      clear hE hN2 HN1' hk1 hk2 hb1 hb0
      go_wp2_with (first
        | (with_reducible refine load_k1 HK.out 1 rfl _ rfl rfl rfl rfl rfl ?_)
        | (with_reducible refine max_law HX2.out _ _ rfl rfl rfl rfl ?_))
      go_loop [7, 9] (fun v i => ∃ j : Nat, i = .int .i64 (j : Int) ∧ v = .int .i64 ((N2 + j : Nat) : Int) ∧ j ≤ t.toNat ∧ (j = 0 ∨ N2 + (j - 1) < n)) (fun v _ => n + 1 - (intOf v).toNat)
      case atStart => exact ⟨0, rfl, by simp, by omega, .inl rfl⟩
      case round =>
        obtain ⟨j, rfl, rfl, hj1, hj2⟩ := hrel
        obtain ⟨N3, hN3⟩ : ∃ N3 : Nat, N3 = N2 + j := ⟨_, rfl⟩
        rw [← hN3]
        have hb3 : N3 ≤ 3000000 := by omega
        have hb4 : j ≤ 3000000 := by omega
        have HN3 := Lib.hid hN3
        clear hN3
        by_cases g1 : (j : Int) < t
        · by_cases g2 : N3 < n
          · clear hj2; have i2 : (N3 : Int) < (n : Int) := by omega
            go_wp2_with (first
              | (with_reducible refine load_k1 HK.out 1 rfl _ rfl rfl rfl rfl rfl ?_))
            go_round
            case rel => exact ⟨j + 1, by go_num, by rw [show N2 + (j + 1) = N3 + 1 by have := HN3.out; omega]; go_num, by omega, .inr (by have := HN3.out; omega)⟩
            case measure => simp [intOf]; omega
          · have i2 : ¬ (N3 : Int) < (n : Int) := by omega
            have hK : min N3 n = cr f n s t := by have := HE.out; have := HN2.out; have := HN3.out; unfold cr; omega
            have HM := Lib.hid (show min (N3 : Int) (n : Int) = (cr f n s t : Nat) by have := hK; omega)
            clear hK
            go_wp2_with (first
              | (with_reducible refine load_k1 HK.out 1 rfl _ rfl rfl rfl rfl rfl ?_)
              | (with_reducible refine min_law HM.out _ _ rfl rfl rfl rfl ?_))
            refine Draws.start (S := fun u' : World => Kf w (fun _ => False) [(b2, 29, [.int .i64 0, .int .i64 0, .slice none 0 0]), (b, 29, [.int .i64 z, .int .i64 f, .slice B n cb])] [] [(B, x)] u') (n := 10) 11 rfl (by kernel_rfl) ?_
            have HS := Lib.hid (show (fun u' : World => Kf w (fun _ => False) [(b2, 29, [.int .i64 0, .int .i64 0, .slice none 0 0]), (b, 29, [.int .i64 z, .int .i64 f, .slice B n cb])] [] [(B, x)] u') (World.drew _) from HK.out.drew)
            refine Draws.take 0 (v := ?v11) HS.out rfl (by kernel_rfl) (fun _ _ _ h => h) (Or.inl ⟨rfl, ?h11⟩) ?r11
            case h11 => intro w' hw'; go_simp; (try with_reducible rfl)
            (try simp only [Act.put, List.setIfInBounds_toArray, List.set_cons_zero, List.set_cons_succ])
            refine Draws.take 1 HS.out rfl (by kernel_rfl) (fun _ _ _ h => h) (yield_c rfl (fun _ h => (Kf.get h 1 rfl).cell rfl) _ rfl rfl rfl) ?_
            (try simp only [Act.put, List.setIfInBounds_toArray, List.set_cons_zero, List.set_cons_succ])
            refine Draws.take 2 (v := ?v12) HS.out rfl (by kernel_rfl) (fun _ _ _ h => h) (Or.inl ⟨rfl, ?h12⟩) ?r12
            case h12 => intro w' hw'; go_simp; (try with_reducible rfl)
            (try simp only [Act.put, List.setIfInBounds_toArray, List.set_cons_zero, List.set_cons_succ])
            refine Draws.take 4 (v := ?v13) HS.out rfl (by kernel_rfl) (fun _ _ _ h => h) (Or.inl ⟨rfl, ?h13⟩) ?r13
            case h13 => intro w' hw'; go_simp; (try with_reducible rfl)
            (try simp only [Act.put, List.setIfInBounds_toArray, List.set_cons_zero, List.set_cons_succ])
            refine Draws.take 5 HS.out rfl (by kernel_rfl) (fun _ _ _ h => h) (yield_c rfl (fun _ h => (Kf.get h 1 rfl).cell rfl) _ rfl rfl rfl) ?_
            (try simp only [Act.put, List.setIfInBounds_toArray, List.set_cons_zero, List.set_cons_succ])
            refine Draws.take 6 (v := ?v14) HS.out rfl (by kernel_rfl) (fun _ _ _ h => h) (Or.inl ⟨rfl, ?h14⟩) ?r14
            case h14 => intro w' hw'; go_simp; (try with_reducible rfl)
            (try simp only [Act.put, List.setIfInBounds_toArray, List.set_cons_zero, List.set_cons_succ])
            refine Draws.take 7 HS.out rfl (by kernel_rfl) (fun _ _ _ h => h) (yield_high HKC.out _ _ rfl rfl rfl rfl) ?_
            (try simp only [Act.put, List.setIfInBounds_toArray, List.set_cons_zero, List.set_cons_succ])
            refine Draws.does 3 rfl (by kernel_rfl) rfl (fun K' hK => ?_)
            refine wp_build_k HS.out rfl ?_
            intro v0 u0 hk
            refine hK.out _ _ (fun _ => hk.plain) ?_
            clear hK K' HS HK
            have HS := Lib.hid hk.plain
            have HK := Lib.hid hk
            clear hk
            (try simp only [Act.put, List.setIfInBounds_toArray, List.set_cons_zero, List.set_cons_succ])
            refine Draws.does 8 rfl (by kernel_rfl) rfl (fun K' hK => ?_)
            refine wp_app_k HK.out 0 rfl ((HK.out.rowAt 0 rfl).take (cr f n s t)) HTL.out _ _ rfl rfl rfl HN1.out ?_
            intro B1 N1 c1 u1 hN _ hk
            simp only [List.nil_append, List.set_cons_zero] at hk hN
            rw [HTL.out] at hN
            subst hN
            refine hK.out _ _ (fun _ => hk.plain) ?_
            clear hK K' HS HK
            have HS := Lib.hid hk.plain
            have HK := Lib.hid hk
            clear hk
            (try simp only [Act.put, List.setIfInBounds_toArray, List.set_cons_zero, List.set_cons_succ])
            refine Draws.take 9 (v := ?v15) HS.out rfl (by kernel_rfl) (fun _ _ _ h => h) (Or.inl ⟨rfl, ?h15⟩) ?r15
            case h15 => intro w' hw'; go_simp; (try with_reducible rfl)
            (try simp only [Act.put, List.setIfInBounds_toArray, List.set_cons_zero, List.set_cons_succ])
            refine Draws.does 10 rfl (by kernel_rfl) rfl (fun K' hK => ?_)
            refine wp_store_kr (xs := [.int .i64 z, .int .i64 (cr f n s t : Nat), .slice B1 (cr f n s t) c1]) HK.out 0 r_info rfl _ _ rfl rfl rfl rfl (by simp) (by simp) (by simp [noU, isU]) (by simp [Value.oneCell']) ?_
            intro u2 hk
            simp only [List.set_cons_zero] at hk
            refine hK.out _ _ (fun h => absurd h (by omega)) ?_
            clear hK K' HS HK
            have HK := Lib.hid hk
            clear hk
            (try simp only [Act.put, List.setIfInBounds_toArray, List.set_cons_zero, List.set_cons_succ])
            refine Draws.done (by kernel_rfl) ?_
            go_wp2_with (first
              | fail)
            exact bodyPost_ret (results_k1 rfl Try.underlying29 rfl r_info _ HK.out 0 rfl rfl rfl) rfl ⟨_, _, rfl, HK.out.ko 0 rfl⟩
        · have hK : min N3 n = cr f n s t := by have := HE.out; have := HN2.out; have := HN3.out; unfold cr; omega
          have HM := Lib.hid (show min (N3 : Int) (n : Int) = (cr f n s t : Nat) by have := hK; omega)
          clear hK
          go_wp2_with (first
            | (with_reducible refine load_k1 HK.out 1 rfl _ rfl rfl rfl rfl rfl ?_)
            | (with_reducible refine min_law HM.out _ _ rfl rfl rfl rfl ?_))
          refine Draws.start (S := fun u' : World => Kf w (fun _ => False) [(b2, 29, [.int .i64 0, .int .i64 0, .slice none 0 0]), (b, 29, [.int .i64 z, .int .i64 f, .slice B n cb])] [] [(B, x)] u') (n := 10) 11 rfl (by kernel_rfl) ?_
          have HS := Lib.hid (show (fun u' : World => Kf w (fun _ => False) [(b2, 29, [.int .i64 0, .int .i64 0, .slice none 0 0]), (b, 29, [.int .i64 z, .int .i64 f, .slice B n cb])] [] [(B, x)] u') (World.drew _) from HK.out.drew)
          refine Draws.take 0 (v := ?v16) HS.out rfl (by kernel_rfl) (fun _ _ _ h => h) (Or.inl ⟨rfl, ?h16⟩) ?r16
          case h16 => intro w' hw'; go_simp; (try with_reducible rfl)
          (try simp only [Act.put, List.setIfInBounds_toArray, List.set_cons_zero, List.set_cons_succ])
          refine Draws.take 1 HS.out rfl (by kernel_rfl) (fun _ _ _ h => h) (yield_c rfl (fun _ h => (Kf.get h 1 rfl).cell rfl) _ rfl rfl rfl) ?_
          (try simp only [Act.put, List.setIfInBounds_toArray, List.set_cons_zero, List.set_cons_succ])
          refine Draws.take 2 (v := ?v17) HS.out rfl (by kernel_rfl) (fun _ _ _ h => h) (Or.inl ⟨rfl, ?h17⟩) ?r17
          case h17 => intro w' hw'; go_simp; (try with_reducible rfl)
          (try simp only [Act.put, List.setIfInBounds_toArray, List.set_cons_zero, List.set_cons_succ])
          refine Draws.take 4 (v := ?v18) HS.out rfl (by kernel_rfl) (fun _ _ _ h => h) (Or.inl ⟨rfl, ?h18⟩) ?r18
          case h18 => intro w' hw'; go_simp; (try with_reducible rfl)
          (try simp only [Act.put, List.setIfInBounds_toArray, List.set_cons_zero, List.set_cons_succ])
          refine Draws.take 5 HS.out rfl (by kernel_rfl) (fun _ _ _ h => h) (yield_c rfl (fun _ h => (Kf.get h 1 rfl).cell rfl) _ rfl rfl rfl) ?_
          (try simp only [Act.put, List.setIfInBounds_toArray, List.set_cons_zero, List.set_cons_succ])
          refine Draws.take 6 (v := ?v19) HS.out rfl (by kernel_rfl) (fun _ _ _ h => h) (Or.inl ⟨rfl, ?h19⟩) ?r19
          case h19 => intro w' hw'; go_simp; (try with_reducible rfl)
          (try simp only [Act.put, List.setIfInBounds_toArray, List.set_cons_zero, List.set_cons_succ])
          refine Draws.take 7 HS.out rfl (by kernel_rfl) (fun _ _ _ h => h) (yield_high HKC.out _ _ rfl rfl rfl rfl) ?_
          (try simp only [Act.put, List.setIfInBounds_toArray, List.set_cons_zero, List.set_cons_succ])
          refine Draws.does 3 rfl (by kernel_rfl) rfl (fun K' hK => ?_)
          refine wp_build_k HS.out rfl ?_
          intro v0 u0 hk
          refine hK.out _ _ (fun _ => hk.plain) ?_
          clear hK K' HS HK
          have HS := Lib.hid hk.plain
          have HK := Lib.hid hk
          clear hk
          (try simp only [Act.put, List.setIfInBounds_toArray, List.set_cons_zero, List.set_cons_succ])
          refine Draws.does 8 rfl (by kernel_rfl) rfl (fun K' hK => ?_)
          refine wp_app_k HK.out 0 rfl ((HK.out.rowAt 0 rfl).take (cr f n s t)) HTL.out _ _ rfl rfl rfl HN1.out ?_
          intro B1 N1 c1 u1 hN _ hk
          simp only [List.nil_append, List.set_cons_zero] at hk hN
          rw [HTL.out] at hN
          subst hN
          refine hK.out _ _ (fun _ => hk.plain) ?_
          clear hK K' HS HK
          have HS := Lib.hid hk.plain
          have HK := Lib.hid hk
          clear hk
          (try simp only [Act.put, List.setIfInBounds_toArray, List.set_cons_zero, List.set_cons_succ])
          refine Draws.take 9 (v := ?v20) HS.out rfl (by kernel_rfl) (fun _ _ _ h => h) (Or.inl ⟨rfl, ?h20⟩) ?r20
          case h20 => intro w' hw'; go_simp; (try with_reducible rfl)
          (try simp only [Act.put, List.setIfInBounds_toArray, List.set_cons_zero, List.set_cons_succ])
          refine Draws.does 10 rfl (by kernel_rfl) rfl (fun K' hK => ?_)
          refine wp_store_kr (xs := [.int .i64 z, .int .i64 (cr f n s t : Nat), .slice B1 (cr f n s t) c1]) HK.out 0 r_info rfl _ _ rfl rfl rfl rfl (by simp) (by simp) (by simp [noU, isU]) (by simp [Value.oneCell']) ?_
          intro u2 hk
          simp only [List.set_cons_zero] at hk
          refine hK.out _ _ (fun h => absurd h (by omega)) ?_
          clear hK K' HS HK
          have HK := Lib.hid hk
          clear hk
          (try simp only [Act.put, List.setIfInBounds_toArray, List.set_cons_zero, List.set_cons_succ])
          refine Draws.done (by kernel_rfl) ?_
          go_wp2_with (first
            | fail)
          exact bodyPost_ret (results_k1 rfl Try.underlying29 rfl r_info _ HK.out 0 rfl rfl rfl) rfl ⟨_, _, rfl, HK.out.ko 0 rfl⟩
end Go.Proofs.Ytglhjfcngpednaa
