/- The document's Fields; Total of both. -/
import Derived.Test.YtgblnlpfgdbnnaaGreatZ14
import Derived.Test.YtgblnlpfgdbnnaaGreatZ23
namespace Go.Proofs.YtgblnlpfgdbnnaaGreat
set_option maxRecDepth 100000
open Go.ChangeShapes Go.WideShapes Go.ChangeAt Go.RowKit

set_option maxHeartbeats 2000000 in
theorem rfields_any (A : Option Addr) (n c : Nat) (qs : List Q) (hn : n ≤ 1000) (hN : Fits1000 qs) (w : World) (hd : FR w A n qs) :
    Calls Tryz.prog 15 #[.slice A n c] w fun e w' => e = .returned (.bool (fieldsB (pfs qs))) ∧ Below w.heap.size w w' := by
  have HD := Lib.hid hd
  have HPL := Lib.hid (show (pfs qs).length = n by rw [pfs_len]; exact hd.1)
  clear hd
  have HK := Lib.hid (Kg.start w)
  go_enter Tryz.func15, Tryz.ntmps15
  go_wp2
  go_loopw [3] (fun i wr => ∃ m : Nat, m ≤ n ∧ i = .int .i64 m ∧ (∀ j, j < m → fokAt (pfs qs) j = true) ∧ Kg w (fun _ => False) [] [] wr) (fun i _ => n - (intOf i).toNat)
  case atStart => exact ⟨0, by omega, rfl, fun j hj => by omega, HK.out⟩
  case round =>
    obtain ⟨m, hm, rfl, hq, hk⟩ := hrel
    have HQ := Lib.hid hq; clear hq
    clear HK; have HK := Lib.hid hk; clear hk
    by_cases hlt : m < n
    · obtain ⟨x, hx⟩ := HD.out.get hlt
      obtain ⟨b, off, rfl, hr⟩ := HD.out.base (by omega)
      have HM := Lib.hid hlt
      have HF := Lib.hid (HD.out.full hx)
      have HR := Lib.hid (hr m x hx)
      have HRW := Lib.hid (HD.out.row hx)
      have hNx := hN.at hx
      have i1 : (0 : Int) ≤ (m : Int) := by omega
      have i2 : (m : Int) < (n : Int) := by omega
      cases hrx : rightP x.1 with
      | false =>
        have hrt := fun w h => rright_q x.1 (HD.out.full hx) hNx x.2.1 x.2.2 false hrx w h
        have HO := Lib.hid (fields_no (by rw [HPL.out]; exact hlt) (ok_n hx hrx))
        clear hr hNx hrx hN
        go_wp2
        refine Draws.start (S := fun u => Kg w (fun _ => False) [] [] u) (n := 25) 25 rfl (by kernel_rfl) ?_
        have HS := Lib.hid (show (fun u => Kg w (fun _ => False) [] [] u) (World.drew _) from HK.out.drew)
        refine Draws.take 0 (v := ?v1) HS.out rfl (by kernel_rfl) (fun _ _ _ h => h) (Or.inl ⟨rfl, ?h1⟩) ?r1
        case h1 => intro w' hw'; go_simp; (try with_reducible rfl)
        (try simp only [Act.put, lsA, lsB, lsC])
        refine Draws.take 1 (v := ?v2) HS.out rfl (by kernel_rfl) (fun _ _ _ h => h) (Or.inl ⟨rfl, ?h2⟩) ?r2
        case h2 => intro w' hw'; go_simp; (try with_reducible rfl)
        (try simp only [Act.put, lsA, lsB, lsC])
        refine Draws.take 2 (v := ?v3) HS.out rfl (by kernel_rfl) (fun _ _ _ h => h) (Or.inl ⟨rfl, ?h3⟩) ?r3
        case h3 => intro w' hw'; go_simp; (try with_reducible rfl)
        (try simp only [Act.put, lsA, lsB, lsC])
        refine Draws.take 3 HS.out rfl (by kernel_rfl) (fun _ _ _ h => h) (yield_kr Tryz.underlying43 rfl (Pf.infoF HF.out) (fun _ h => rng_below HR.out h.mf.bel) _ rfl rfl rfl) ?_
        (try simp only [Act.put, lsA, lsB, lsC])
        refine Draws.does 4 rfl (by kernel_rfl) rfl (fun K' hK => ?_)
        go_simp
        go_at_call 34
        refine (hrt _ (HRW.out.below HS.out.mf.bel (Nat.le_refl _))).mono ?_
        rintro e u ⟨rfl, hb⟩
        (try dsimp only)
        have hk := HS.out.call hb; clear hb
        clear HS; have HS := Lib.hid (show (fun u => Kg w (fun _ => False) [] [] u) _ from hk); clear hk
        refine hK.out _ _ (fun _ => HS.out) ?_
        clear hK K'
        (try simp only [Act.put, lsA, lsB, lsC])
        refine Draws.take 5 (v := ?v4) HS.out rfl (by kernel_rfl) (fun _ _ _ h => h) (Or.inl ⟨rfl, ?h4⟩) ?r4
        case h4 => intro w' hw'; go_simp; (try with_reducible rfl)
        (try simp only [Act.put, lsA, lsB, lsC])
        refine Draws.take 6 (v := ?v5) HS.out rfl (by kernel_rfl) (fun _ _ _ h => h) (Or.inl ⟨rfl, ?h5⟩) ?r5
        case h5 => intro w' hw'; go_simp; (try with_reducible rfl)
        (try simp only [Act.put, lsA, lsB, lsC])
        refine Draws.take 7 HS.out rfl (by kernel_rfl) (fun _ _ _ h => h) (Or.inr ⟨rfl, rfl⟩) ?_
        (try simp only [Act.put, lsA, lsB, lsC])
        refine Draws.take 8 HS.out rfl (by kernel_rfl) (fun _ _ _ h => h) (Or.inr ⟨rfl, rfl⟩) ?_
        (try simp only [Act.put, lsA, lsB, lsC])
        refine Draws.take 9 HS.out rfl (by kernel_rfl) (fun _ _ _ h => h) (Or.inr ⟨rfl, rfl⟩) ?_
        (try simp only [Act.put, lsA, lsB, lsC])
        refine Draws.take 10 HS.out rfl (by kernel_rfl) (fun _ _ _ h => h) (Or.inr ⟨rfl, rfl⟩) ?_
        (try simp only [Act.put, lsA, lsB, lsC])
        refine Draws.take 11 HS.out rfl (by kernel_rfl) (fun _ _ _ h => h) (Or.inr ⟨rfl, rfl⟩) ?_
        (try simp only [Act.put, lsA, lsB, lsC])
        refine Draws.take 12 HS.out rfl (by kernel_rfl) (fun _ _ _ h => h) (Or.inr ⟨rfl, rfl⟩) ?_
        (try simp only [Act.put, lsA, lsB, lsC])
        refine Draws.take 13 HS.out rfl (by kernel_rfl) (fun _ _ _ h => h) (Or.inr ⟨rfl, rfl⟩) ?_
        (try simp only [Act.put, lsA, lsB, lsC])
        refine Draws.take 14 HS.out rfl (by kernel_rfl) (fun _ _ _ h => h) (Or.inr ⟨rfl, rfl⟩) ?_
        (try simp only [Act.put, lsA, lsB, lsC])
        refine Draws.take 15 HS.out rfl (by kernel_rfl) (fun _ _ _ h => h) (Or.inr ⟨rfl, rfl⟩) ?_
        (try simp only [Act.put, lsA, lsB, lsC])
        refine Draws.take 16 HS.out rfl (by kernel_rfl) (fun _ _ _ h => h) (Or.inr ⟨rfl, rfl⟩) ?_
        (try simp only [Act.put, lsA, lsB, lsC])
        refine Draws.take 17 HS.out rfl (by kernel_rfl) (fun _ _ _ h => h) (Or.inr ⟨rfl, rfl⟩) ?_
        (try simp only [Act.put, lsA, lsB, lsC])
        refine Draws.take 18 HS.out rfl (by kernel_rfl) (fun _ _ _ h => h) (Or.inr ⟨rfl, rfl⟩) ?_
        (try simp only [Act.put, lsA, lsB, lsC])
        refine Draws.take 19 HS.out rfl (by kernel_rfl) (fun _ _ _ h => h) (Or.inr ⟨rfl, rfl⟩) ?_
        (try simp only [Act.put, lsA, lsB, lsC])
        refine Draws.take 20 HS.out rfl (by kernel_rfl) (fun _ _ _ h => h) (Or.inr ⟨rfl, rfl⟩) ?_
        (try simp only [Act.put, lsA, lsB, lsC])
        refine Draws.take 21 HS.out rfl (by kernel_rfl) (fun _ _ _ h => h) (Or.inr ⟨rfl, rfl⟩) ?_
        (try simp only [Act.put, lsA, lsB, lsC])
        refine Draws.take 22 HS.out rfl (by kernel_rfl) (fun _ _ _ h => h) (Or.inr ⟨rfl, rfl⟩) ?_
        (try simp only [Act.put, lsA, lsB, lsC])
        refine Draws.take 23 HS.out rfl (by kernel_rfl) (fun _ _ _ h => h) (Or.inr ⟨rfl, rfl⟩) ?_
        (try simp only [Act.put, lsA, lsB, lsC])
        refine Draws.take 24 (v := ?v6) HS.out rfl (by kernel_rfl) (fun _ _ _ h => h) (Or.inl ⟨rfl, ?h6⟩) ?r6
        case h6 => intro w' hw'; go_simp; (try with_reducible rfl)
        (try simp only [Act.put, lsA, lsB, lsC])
        refine Draws.done (by kernel_rfl) ?_
        clear HK; have HK := Lib.hid (show Kg w (fun _ => False) [] [] _ from HS.out)
        go_wp2
        go_ret
        exact ⟨by rw [HO.out]; rfl, HK.out.mf.bel⟩
      | true =>
        have hrt := fun w h => rright_q x.1 (HD.out.full hx) hNx x.2.1 x.2.2 true hrx w h
        by_cases h0 : m = 0
        · have HO := Lib.hid (show fokAt (pfs qs) m = true by subst h0; exact ok_0 hx true hrx)
          have HI := Lib.hid (show decide ((0 : Int) < (m : Int)) = false by rw [decide_eq_false_iff_not]; omega)
          clear hr hNx hrx hN h0
          go_wp2
          refine Draws.start (S := fun u => Kg w (fun _ => False) [] [] u) (n := 25) 25 rfl (by kernel_rfl) ?_
          have HS := Lib.hid (show (fun u => Kg w (fun _ => False) [] [] u) (World.drew _) from HK.out.drew)
          refine Draws.take 0 (v := ?v7) HS.out rfl (by kernel_rfl) (fun _ _ _ h => h) (Or.inl ⟨rfl, ?h7⟩) ?r7
          case h7 => intro w' hw'; go_simp; (try with_reducible rfl)
          (try simp only [Act.put, lsA, lsB, lsC])
          refine Draws.take 1 (v := ?v8) HS.out rfl (by kernel_rfl) (fun _ _ _ h => h) (Or.inl ⟨rfl, ?h8⟩) ?r8
          case h8 => intro w' hw'; go_simp; (try with_reducible rfl)
          (try simp only [Act.put, lsA, lsB, lsC])
          refine Draws.take 2 (v := ?v9) HS.out rfl (by kernel_rfl) (fun _ _ _ h => h) (Or.inl ⟨rfl, ?h9⟩) ?r9
          case h9 => intro w' hw'; go_simp; (try with_reducible rfl)
          (try simp only [Act.put, lsA, lsB, lsC])
          refine Draws.take 3 HS.out rfl (by kernel_rfl) (fun _ _ _ h => h) (yield_kr Tryz.underlying43 rfl (Pf.infoF HF.out) (fun _ h => rng_below HR.out h.mf.bel) _ rfl rfl rfl) ?_
          (try simp only [Act.put, lsA, lsB, lsC])
          refine Draws.does 4 rfl (by kernel_rfl) rfl (fun K' hK => ?_)
          go_simp
          go_at_call 34
          refine (hrt _ (HRW.out.below HS.out.mf.bel (Nat.le_refl _))).mono ?_
          rintro e u ⟨rfl, hb⟩
          (try dsimp only)
          have hk := HS.out.call hb; clear hb
          clear HS; have HS := Lib.hid (show (fun u => Kg w (fun _ => False) [] [] u) _ from hk); clear hk
          refine hK.out _ _ (fun _ => HS.out) ?_
          clear hK K'
          (try simp only [Act.put, lsA, lsB, lsC])
          refine Draws.take 5 (v := ?v10) HS.out rfl (by kernel_rfl) (fun _ _ _ h => h) (Or.inl ⟨rfl, ?h10⟩) ?r10
          case h10 => intro w' hw'; go_simp; (try with_reducible rfl)
          (try simp only [Act.put, lsA, lsB, lsC])
          refine Draws.take 6 (v := ?v11) HS.out rfl (by kernel_rfl) (fun _ _ _ h => h) (Or.inl ⟨rfl, ?h11⟩) ?r11
          case h11 => intro w' hw'; go_simp; (try with_reducible rfl)
          (try simp only [Act.put, lsA, lsB, lsC])
          refine Draws.take 7 (v := ?v12) HS.out rfl (by kernel_rfl) (fun _ _ _ h => h) (Or.inl ⟨rfl, ?h12⟩) ?r12
          case h12 => intro w' hw'; go_simp; (try with_reducible rfl)
          (try simp only [Act.put, lsA, lsB, lsC])
          refine Draws.take 8 HS.out rfl (by kernel_rfl) (fun _ _ _ h => h) (yield_gtr HI.out _ _ _ rfl rfl rfl rfl) ?_
          (try simp only [Act.put, lsA, lsB, lsC])
          refine Draws.take 9 (v := ?v13) HS.out rfl (by kernel_rfl) (fun _ _ _ h => h) (Or.inl ⟨rfl, ?h13⟩) ?r13
          case h13 => intro w' hw'; go_simp; (try with_reducible rfl)
          (try simp only [Act.put, lsA, lsB, lsC])
          refine Draws.take 10 HS.out rfl (by kernel_rfl) (fun _ _ _ h => h) (Or.inr ⟨rfl, rfl⟩) ?_
          (try simp only [Act.put, lsA, lsB, lsC])
          refine Draws.take 11 HS.out rfl (by kernel_rfl) (fun _ _ _ h => h) (Or.inr ⟨rfl, rfl⟩) ?_
          (try simp only [Act.put, lsA, lsB, lsC])
          refine Draws.take 12 HS.out rfl (by kernel_rfl) (fun _ _ _ h => h) (Or.inr ⟨rfl, rfl⟩) ?_
          (try simp only [Act.put, lsA, lsB, lsC])
          refine Draws.take 13 HS.out rfl (by kernel_rfl) (fun _ _ _ h => h) (Or.inr ⟨rfl, rfl⟩) ?_
          (try simp only [Act.put, lsA, lsB, lsC])
          refine Draws.take 14 HS.out rfl (by kernel_rfl) (fun _ _ _ h => h) (Or.inr ⟨rfl, rfl⟩) ?_
          (try simp only [Act.put, lsA, lsB, lsC])
          refine Draws.take 15 HS.out rfl (by kernel_rfl) (fun _ _ _ h => h) (Or.inr ⟨rfl, rfl⟩) ?_
          (try simp only [Act.put, lsA, lsB, lsC])
          refine Draws.take 16 HS.out rfl (by kernel_rfl) (fun _ _ _ h => h) (Or.inr ⟨rfl, rfl⟩) ?_
          (try simp only [Act.put, lsA, lsB, lsC])
          refine Draws.take 17 HS.out rfl (by kernel_rfl) (fun _ _ _ h => h) (Or.inr ⟨rfl, rfl⟩) ?_
          (try simp only [Act.put, lsA, lsB, lsC])
          refine Draws.take 18 HS.out rfl (by kernel_rfl) (fun _ _ _ h => h) (Or.inr ⟨rfl, rfl⟩) ?_
          (try simp only [Act.put, lsA, lsB, lsC])
          refine Draws.take 19 HS.out rfl (by kernel_rfl) (fun _ _ _ h => h) (Or.inr ⟨rfl, rfl⟩) ?_
          (try simp only [Act.put, lsA, lsB, lsC])
          refine Draws.take 20 HS.out rfl (by kernel_rfl) (fun _ _ _ h => h) (Or.inr ⟨rfl, rfl⟩) ?_
          (try simp only [Act.put, lsA, lsB, lsC])
          refine Draws.take 21 HS.out rfl (by kernel_rfl) (fun _ _ _ h => h) (Or.inr ⟨rfl, rfl⟩) ?_
          (try simp only [Act.put, lsA, lsB, lsC])
          refine Draws.take 22 HS.out rfl (by kernel_rfl) (fun _ _ _ h => h) (Or.inr ⟨rfl, rfl⟩) ?_
          (try simp only [Act.put, lsA, lsB, lsC])
          refine Draws.take 23 (v := ?v14) HS.out rfl (by kernel_rfl) (fun _ _ _ h => h) (Or.inl ⟨rfl, ?h14⟩) ?r14
          case h14 => intro w' hw'; go_simp; (try with_reducible rfl)
          (try simp only [Act.put, lsA, lsB, lsC])
          refine Draws.take 24 (v := ?v15) HS.out rfl (by kernel_rfl) (fun _ _ _ h => h) (Or.inl ⟨rfl, ?h15⟩) ?r15
          case h15 => intro w' hw'; go_simp; (try with_reducible rfl)
          (try simp only [Act.put, lsA, lsB, lsC])
          refine Draws.done (by kernel_rfl) ?_
          clear HK; have HK := Lib.hid (show Kg w (fun _ => False) [] [] _ from HS.out)
          go_wp2
          go_roundw
          case rel => exact ⟨m + 1, by have := HM.out; omega, by go_num, fun j hj => by
            rcases Nat.lt_or_ge j m with h3 | h3
            · exact HQ.out j h3
            · rw [show j = m by omega]; exact HO.out, HK.out⟩
          case measure => have := HM.out; simp [intOf]; omega
        · obtain ⟨k, hk1⟩ : ∃ k, m = k + 1 := ⟨m - 1, by omega⟩
          obtain ⟨y, hy⟩ := HD.out.get (show k < n by omega)
          have hbf := fun w => before_any y.1.nm x.1.nm (hN.at hy) hNx w
          have HY := Lib.hid (hr k y hy)
          have HI := Lib.hid (show decide ((0 : Int) < (m : Int)) = true by rw [decide_eq_true_eq]; omega)
          have HW := Lib.hid (show IntKind.i64.wrap ((m : Int) - 1) = (k : Int) by rw [hk1]; exact wrap_pred k (by omega))
          have j1 : (0 : Int) ≤ (k : Int) := by omega
          have j2 : (k : Int) < (n : Int) := by omega
          cases hl : ltS y.1.nm x.1.nm with
          | false =>
            have HO := Lib.hid (fields_no (by rw [HPL.out]; exact hlt) (show fokAt (pfs qs) m = false by subst hk1; exact ok_s hx hy false hrx hl))
            rw [hl] at hbf
            clear hr hNx hrx hN hl hy h0 hk1
            go_wp2
            refine Draws.start (S := fun u => Kg w (fun _ => False) [] [] u) (n := 25) 25 rfl (by kernel_rfl) ?_
            have HS := Lib.hid (show (fun u => Kg w (fun _ => False) [] [] u) (World.drew _) from HK.out.drew)
            refine Draws.take 0 (v := ?v16) HS.out rfl (by kernel_rfl) (fun _ _ _ h => h) (Or.inl ⟨rfl, ?h16⟩) ?r16
            case h16 => intro w' hw'; go_simp; (try with_reducible rfl)
            (try simp only [Act.put, lsA, lsB, lsC])
            refine Draws.take 1 (v := ?v17) HS.out rfl (by kernel_rfl) (fun _ _ _ h => h) (Or.inl ⟨rfl, ?h17⟩) ?r17
            case h17 => intro w' hw'; go_simp; (try with_reducible rfl)
            (try simp only [Act.put, lsA, lsB, lsC])
            refine Draws.take 2 (v := ?v18) HS.out rfl (by kernel_rfl) (fun _ _ _ h => h) (Or.inl ⟨rfl, ?h18⟩) ?r18
            case h18 => intro w' hw'; go_simp; (try with_reducible rfl)
            (try simp only [Act.put, lsA, lsB, lsC])
            refine Draws.take 3 HS.out rfl (by kernel_rfl) (fun _ _ _ h => h) (yield_kr Tryz.underlying43 rfl (Pf.infoF HF.out) (fun _ h => rng_below HR.out h.mf.bel) _ rfl rfl rfl) ?_
            (try simp only [Act.put, lsA, lsB, lsC])
            refine Draws.does 4 rfl (by kernel_rfl) rfl (fun K' hK => ?_)
            go_simp
            go_at_call 34
            refine (hrt _ (HRW.out.below HS.out.mf.bel (Nat.le_refl _))).mono ?_
            rintro e u ⟨rfl, hb⟩
            (try dsimp only)
            have hk := HS.out.call hb; clear hb
            clear HS; have HS := Lib.hid (show (fun u => Kg w (fun _ => False) [] [] u) _ from hk); clear hk
            refine hK.out _ _ (fun _ => HS.out) ?_
            clear hK K'
            (try simp only [Act.put, lsA, lsB, lsC])
            refine Draws.take 5 (v := ?v19) HS.out rfl (by kernel_rfl) (fun _ _ _ h => h) (Or.inl ⟨rfl, ?h19⟩) ?r19
            case h19 => intro w' hw'; go_simp; (try with_reducible rfl)
            (try simp only [Act.put, lsA, lsB, lsC])
            refine Draws.take 6 (v := ?v20) HS.out rfl (by kernel_rfl) (fun _ _ _ h => h) (Or.inl ⟨rfl, ?h20⟩) ?r20
            case h20 => intro w' hw'; go_simp; (try with_reducible rfl)
            (try simp only [Act.put, lsA, lsB, lsC])
            refine Draws.take 7 (v := ?v21) HS.out rfl (by kernel_rfl) (fun _ _ _ h => h) (Or.inl ⟨rfl, ?h21⟩) ?r21
            case h21 => intro w' hw'; go_simp; (try with_reducible rfl)
            (try simp only [Act.put, lsA, lsB, lsC])
            refine Draws.take 8 HS.out rfl (by kernel_rfl) (fun _ _ _ h => h) (yield_gtr HI.out _ _ _ rfl rfl rfl rfl) ?_
            (try simp only [Act.put, lsA, lsB, lsC])
            refine Draws.take 9 (v := ?v22) HS.out rfl (by kernel_rfl) (fun _ _ _ h => h) (Or.inl ⟨rfl, ?h22⟩) ?r22
            case h22 => intro w' hw'; go_simp; (try with_reducible rfl)
            (try simp only [Act.put, lsA, lsB, lsC])
            refine Draws.take 10 (v := ?v23) HS.out rfl (by kernel_rfl) (fun _ _ _ h => h) (Or.inl ⟨rfl, ?h23⟩) ?r23
            case h23 => intro w' hw'; go_simp; (try with_reducible rfl)
            (try simp only [Act.put, lsA, lsB, lsC])
            refine Draws.take 11 (v := ?v24) HS.out rfl (by kernel_rfl) (fun _ _ _ h => h) (Or.inl ⟨rfl, ?h24⟩) ?r24
            case h24 => intro w' hw'; go_simp; (try with_reducible rfl)
            (try simp only [Act.put, lsA, lsB, lsC])
            refine Draws.take 12 HS.out rfl (by kernel_rfl) (fun _ _ _ h => h) (yield_sub HW.out _ _ _ rfl rfl rfl rfl) ?_
            (try simp only [Act.put, lsA, lsB, lsC])
            refine Draws.take 13 (v := ?v25) HS.out rfl (by kernel_rfl) (fun _ _ _ h => h) (Or.inl ⟨rfl, ?h25⟩) ?r25
            case h25 => intro w' hw'; go_simp; (try with_reducible rfl)
            (try simp only [Act.put, lsA, lsB, lsC])
            refine Draws.take 14 (v := ?v26) HS.out rfl (by kernel_rfl) (fun _ _ _ h => h) (Or.inl ⟨rfl, ?h26⟩) ?r26
            case h26 => intro w' hw'; go_simp; (try with_reducible rfl)
            (try simp only [Act.put, lsA, lsB, lsC])
            refine Draws.take 15 HS.out rfl (by kernel_rfl) (fun _ _ _ h => h) (yield_k ckS (fun _ h => (h.mf.bel.cell (cell_lt (rng0 HY.out))).trans (rng0 HY.out)) _ rfl rfl rfl) ?_
            (try simp only [Act.put, lsA, lsB, lsC])
            refine Draws.take 16 (v := ?v27) HS.out rfl (by kernel_rfl) (fun _ _ _ h => h) (Or.inl ⟨rfl, ?h27⟩) ?r27
            case h27 => intro w' hw'; go_simp; (try with_reducible rfl)
            (try simp only [Act.put, lsA, lsB, lsC])
            refine Draws.take 17 (v := ?v28) HS.out rfl (by kernel_rfl) (fun _ _ _ h => h) (Or.inl ⟨rfl, ?h28⟩) ?r28
            case h28 => intro w' hw'; go_simp; (try with_reducible rfl)
            (try simp only [Act.put, lsA, lsB, lsC])
            refine Draws.take 18 (v := ?v29) HS.out rfl (by kernel_rfl) (fun _ _ _ h => h) (Or.inl ⟨rfl, ?h29⟩) ?r29
            case h29 => intro w' hw'; go_simp; (try with_reducible rfl)
            (try simp only [Act.put, lsA, lsB, lsC])
            refine Draws.take 19 (v := ?v30) HS.out rfl (by kernel_rfl) (fun _ _ _ h => h) (Or.inl ⟨rfl, ?h30⟩) ?r30
            case h30 => intro w' hw'; go_simp; (try with_reducible rfl)
            (try simp only [Act.put, lsA, lsB, lsC])
            refine Draws.take 20 HS.out rfl (by kernel_rfl) (fun _ _ _ h => h) (yield_k ckS (fun _ h => (h.mf.bel.cell (cell_lt (rng0 HR.out))).trans (rng0 HR.out)) _ rfl rfl rfl) ?_
            (try simp only [Act.put, lsA, lsB, lsC])
            refine Draws.does 21 rfl (by kernel_rfl) rfl (fun K' hK => ?_)
            go_simp
            go_at_call 35
            refine (hbf _).mono ?_
            rintro e u ⟨rfl, hb⟩
            (try dsimp only)
            have hk := HS.out.call hb; clear hb
            clear HS; have HS := Lib.hid (show (fun u => Kg w (fun _ => False) [] [] u) _ from hk); clear hk
            refine hK.out _ _ (fun _ => HS.out) ?_
            clear hK K'
            (try simp only [Act.put, lsA, lsB, lsC])
            refine Draws.take 22 (v := ?v31) HS.out rfl (by kernel_rfl) (fun _ _ _ h => h) (Or.inl ⟨rfl, ?h31⟩) ?r31
            case h31 => intro w' hw'; go_simp; (try with_reducible rfl)
            (try simp only [Act.put, lsA, lsB, lsC])
            refine Draws.take 23 (v := ?v32) HS.out rfl (by kernel_rfl) (fun _ _ _ h => h) (Or.inl ⟨rfl, ?h32⟩) ?r32
            case h32 => intro w' hw'; go_simp; (try with_reducible rfl)
            (try simp only [Act.put, lsA, lsB, lsC])
            refine Draws.take 24 (v := ?v33) HS.out rfl (by kernel_rfl) (fun _ _ _ h => h) (Or.inl ⟨rfl, ?h33⟩) ?r33
            case h33 => intro w' hw'; go_simp; (try with_reducible rfl)
            (try simp only [Act.put, lsA, lsB, lsC])
            refine Draws.done (by kernel_rfl) ?_
            clear HK; have HK := Lib.hid (show Kg w (fun _ => False) [] [] _ from HS.out)
            go_wp2
            go_ret
            exact ⟨by rw [HO.out]; rfl, HK.out.mf.bel⟩
          | true =>
            have HO := Lib.hid (show fokAt (pfs qs) m = true by subst hk1; exact ok_s hx hy true hrx hl)
            rw [hl] at hbf
            clear hr hNx hrx hN hl hy h0 hk1
            go_wp2
            refine Draws.start (S := fun u => Kg w (fun _ => False) [] [] u) (n := 25) 25 rfl (by kernel_rfl) ?_
            have HS := Lib.hid (show (fun u => Kg w (fun _ => False) [] [] u) (World.drew _) from HK.out.drew)
            refine Draws.take 0 (v := ?v34) HS.out rfl (by kernel_rfl) (fun _ _ _ h => h) (Or.inl ⟨rfl, ?h34⟩) ?r34
            case h34 => intro w' hw'; go_simp; (try with_reducible rfl)
            (try simp only [Act.put, lsA, lsB, lsC])
            refine Draws.take 1 (v := ?v35) HS.out rfl (by kernel_rfl) (fun _ _ _ h => h) (Or.inl ⟨rfl, ?h35⟩) ?r35
            case h35 => intro w' hw'; go_simp; (try with_reducible rfl)
            (try simp only [Act.put, lsA, lsB, lsC])
            refine Draws.take 2 (v := ?v36) HS.out rfl (by kernel_rfl) (fun _ _ _ h => h) (Or.inl ⟨rfl, ?h36⟩) ?r36
            case h36 => intro w' hw'; go_simp; (try with_reducible rfl)
            (try simp only [Act.put, lsA, lsB, lsC])
            refine Draws.take 3 HS.out rfl (by kernel_rfl) (fun _ _ _ h => h) (yield_kr Tryz.underlying43 rfl (Pf.infoF HF.out) (fun _ h => rng_below HR.out h.mf.bel) _ rfl rfl rfl) ?_
            (try simp only [Act.put, lsA, lsB, lsC])
            refine Draws.does 4 rfl (by kernel_rfl) rfl (fun K' hK => ?_)
            go_simp
            go_at_call 34
            refine (hrt _ (HRW.out.below HS.out.mf.bel (Nat.le_refl _))).mono ?_
            rintro e u ⟨rfl, hb⟩
            (try dsimp only)
            have hk := HS.out.call hb; clear hb
            clear HS; have HS := Lib.hid (show (fun u => Kg w (fun _ => False) [] [] u) _ from hk); clear hk
            refine hK.out _ _ (fun _ => HS.out) ?_
            clear hK K'
            (try simp only [Act.put, lsA, lsB, lsC])
            refine Draws.take 5 (v := ?v37) HS.out rfl (by kernel_rfl) (fun _ _ _ h => h) (Or.inl ⟨rfl, ?h37⟩) ?r37
            case h37 => intro w' hw'; go_simp; (try with_reducible rfl)
            (try simp only [Act.put, lsA, lsB, lsC])
            refine Draws.take 6 (v := ?v38) HS.out rfl (by kernel_rfl) (fun _ _ _ h => h) (Or.inl ⟨rfl, ?h38⟩) ?r38
            case h38 => intro w' hw'; go_simp; (try with_reducible rfl)
            (try simp only [Act.put, lsA, lsB, lsC])
            refine Draws.take 7 (v := ?v39) HS.out rfl (by kernel_rfl) (fun _ _ _ h => h) (Or.inl ⟨rfl, ?h39⟩) ?r39
            case h39 => intro w' hw'; go_simp; (try with_reducible rfl)
            (try simp only [Act.put, lsA, lsB, lsC])
            refine Draws.take 8 HS.out rfl (by kernel_rfl) (fun _ _ _ h => h) (yield_gtr HI.out _ _ _ rfl rfl rfl rfl) ?_
            (try simp only [Act.put, lsA, lsB, lsC])
            refine Draws.take 9 (v := ?v40) HS.out rfl (by kernel_rfl) (fun _ _ _ h => h) (Or.inl ⟨rfl, ?h40⟩) ?r40
            case h40 => intro w' hw'; go_simp; (try with_reducible rfl)
            (try simp only [Act.put, lsA, lsB, lsC])
            refine Draws.take 10 (v := ?v41) HS.out rfl (by kernel_rfl) (fun _ _ _ h => h) (Or.inl ⟨rfl, ?h41⟩) ?r41
            case h41 => intro w' hw'; go_simp; (try with_reducible rfl)
            (try simp only [Act.put, lsA, lsB, lsC])
            refine Draws.take 11 (v := ?v42) HS.out rfl (by kernel_rfl) (fun _ _ _ h => h) (Or.inl ⟨rfl, ?h42⟩) ?r42
            case h42 => intro w' hw'; go_simp; (try with_reducible rfl)
            (try simp only [Act.put, lsA, lsB, lsC])
            refine Draws.take 12 HS.out rfl (by kernel_rfl) (fun _ _ _ h => h) (yield_sub HW.out _ _ _ rfl rfl rfl rfl) ?_
            (try simp only [Act.put, lsA, lsB, lsC])
            refine Draws.take 13 (v := ?v43) HS.out rfl (by kernel_rfl) (fun _ _ _ h => h) (Or.inl ⟨rfl, ?h43⟩) ?r43
            case h43 => intro w' hw'; go_simp; (try with_reducible rfl)
            (try simp only [Act.put, lsA, lsB, lsC])
            refine Draws.take 14 (v := ?v44) HS.out rfl (by kernel_rfl) (fun _ _ _ h => h) (Or.inl ⟨rfl, ?h44⟩) ?r44
            case h44 => intro w' hw'; go_simp; (try with_reducible rfl)
            (try simp only [Act.put, lsA, lsB, lsC])
            refine Draws.take 15 HS.out rfl (by kernel_rfl) (fun _ _ _ h => h) (yield_k ckS (fun _ h => (h.mf.bel.cell (cell_lt (rng0 HY.out))).trans (rng0 HY.out)) _ rfl rfl rfl) ?_
            (try simp only [Act.put, lsA, lsB, lsC])
            refine Draws.take 16 (v := ?v45) HS.out rfl (by kernel_rfl) (fun _ _ _ h => h) (Or.inl ⟨rfl, ?h45⟩) ?r45
            case h45 => intro w' hw'; go_simp; (try with_reducible rfl)
            (try simp only [Act.put, lsA, lsB, lsC])
            refine Draws.take 17 (v := ?v46) HS.out rfl (by kernel_rfl) (fun _ _ _ h => h) (Or.inl ⟨rfl, ?h46⟩) ?r46
            case h46 => intro w' hw'; go_simp; (try with_reducible rfl)
            (try simp only [Act.put, lsA, lsB, lsC])
            refine Draws.take 18 (v := ?v47) HS.out rfl (by kernel_rfl) (fun _ _ _ h => h) (Or.inl ⟨rfl, ?h47⟩) ?r47
            case h47 => intro w' hw'; go_simp; (try with_reducible rfl)
            (try simp only [Act.put, lsA, lsB, lsC])
            refine Draws.take 19 (v := ?v48) HS.out rfl (by kernel_rfl) (fun _ _ _ h => h) (Or.inl ⟨rfl, ?h48⟩) ?r48
            case h48 => intro w' hw'; go_simp; (try with_reducible rfl)
            (try simp only [Act.put, lsA, lsB, lsC])
            refine Draws.take 20 HS.out rfl (by kernel_rfl) (fun _ _ _ h => h) (yield_k ckS (fun _ h => (h.mf.bel.cell (cell_lt (rng0 HR.out))).trans (rng0 HR.out)) _ rfl rfl rfl) ?_
            (try simp only [Act.put, lsA, lsB, lsC])
            refine Draws.does 21 rfl (by kernel_rfl) rfl (fun K' hK => ?_)
            go_simp
            go_at_call 35
            refine (hbf _).mono ?_
            rintro e u ⟨rfl, hb⟩
            (try dsimp only)
            have hk := HS.out.call hb; clear hb
            clear HS; have HS := Lib.hid (show (fun u => Kg w (fun _ => False) [] [] u) _ from hk); clear hk
            refine hK.out _ _ (fun _ => HS.out) ?_
            clear hK K'
            (try simp only [Act.put, lsA, lsB, lsC])
            refine Draws.take 22 (v := ?v49) HS.out rfl (by kernel_rfl) (fun _ _ _ h => h) (Or.inl ⟨rfl, ?h49⟩) ?r49
            case h49 => intro w' hw'; go_simp; (try with_reducible rfl)
            (try simp only [Act.put, lsA, lsB, lsC])
            refine Draws.take 23 (v := ?v50) HS.out rfl (by kernel_rfl) (fun _ _ _ h => h) (Or.inl ⟨rfl, ?h50⟩) ?r50
            case h50 => intro w' hw'; go_simp; (try with_reducible rfl)
            (try simp only [Act.put, lsA, lsB, lsC])
            refine Draws.take 24 (v := ?v51) HS.out rfl (by kernel_rfl) (fun _ _ _ h => h) (Or.inl ⟨rfl, ?h51⟩) ?r51
            case h51 => intro w' hw'; go_simp; (try with_reducible rfl)
            (try simp only [Act.put, lsA, lsB, lsC])
            refine Draws.done (by kernel_rfl) ?_
            clear HK; have HK := Lib.hid (show Kg w (fun _ => False) [] [] _ from HS.out)
            go_wp2
            go_roundw
            case rel => exact ⟨m + 1, by have := HM.out; omega, by go_num, fun j hj => by
              rcases Nat.lt_or_ge j m with h3 | h3
              · exact HQ.out j h3
              · rw [show j = m by omega]; exact HO.out, HK.out⟩
            case measure => have := HM.out; simp [intOf]; omega
    · obtain rfl : m = n := by omega
      have HO := Lib.hid (fields_all (ps := pfs qs) fun j hj => HQ.out j (by rw [HPL.out] at hj; exact hj))
      by_cases h4 : m ≤ 4
      · have d4 : decide ((m : Int) ≤ 4) = true := by rw [decide_eq_true_eq]; omega
        go_wp2
        go_ret
        exact ⟨by rw [HO.out, HPL.out, decide_eq_true h4]; first | rfl | simp [h4], HK.out.mf.bel⟩
      · have d4 : decide ((m : Int) ≤ 4) = false := by rw [decide_eq_false_iff_not]; omega
        go_wp2
        go_ret
        exact ⟨by rw [HO.out, HPL.out, decide_eq_false h4]; first | rfl | simp [h4], HK.out.mf.bel⟩
/-! ### All views. -/

end Go.Proofs.YtgblnlpfgdbnnaaGreat
