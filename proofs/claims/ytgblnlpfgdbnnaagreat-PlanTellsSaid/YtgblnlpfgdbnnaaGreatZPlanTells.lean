/- Whether any fields, and any plan, may be, whether it fits, and the sum of all values, are told alike. No condition. -/
import Derived.Test.YtgblnlpfgdbnnaaGreatZ19
import Derived.Test.YtgblnlpfgdbnnaaGreatZ36
import Derived.Test.YtgblnlpfgdbnnaaGreatZ39
import Derived.Test.YtgblnlpfgdbnnaaGreatZ42A
namespace Go.Proofs.YtgblnlpfgdbnnaaGreat.planTells
open Go.ChangeShapes Go.WideShapes Go.ChangeAt Go.RowKit
set_option linter.unusedVariables false

theorem own : ownKnob Tryz.prog.godebug = none := by kernel_rfl
theorem laidOut : laidOutB Tryz.prog = true := by kernel_rfl

set_option maxRecDepth 100000 in
set_option maxHeartbeats 16000000 in
theorem walk (w : World) (A0 : Option Addr) (n0 c0 : Nat) (q0 : List Q) (hd0 : CR w A0 n0 q0) (p1 : Pl) (hk1 : ok64W p1.k) (ha1 : ok64W p1.a) (hb1 : ok64W p1.b) (s2 : ByteArray) :
    Calls Tryz.prog 3 #[.slice A0 n0 c0, .agg p1.cells.toArray, .string s2] w fun e w' => e = .returned (.bool true) ∧ Below w.heap.size w w' := by
  have HK := Lib.hid (Kg.start w)
  have HC := Lib.hid hd0
  have hfw := fun w h => few13_any p1 A0 n0 c0 q0 w h
  cases hf : fewLF n0 q0 p1 with
  | false =>
    rw [hf] at hfw
    clear hf hd0
    go_enter Tryz.func3, Tryz.ntmps3
    go_wp2_with (first
      | ((with_reducible refine box_k (cs := p1.cells) HK.out rfl _ rfl rfl ?_); intro bp u hk; clear HK; have HK := Lib.hid hk; clear hk)
      | (with_reducible refine load_kr (xs := p1.cells) HK.out 0 Tryz.underlying24 rfl p_info _ rfl rfl rfl rfl Pl.all ?_)
      | (go_at_call 8; (with_reducible refine (hfw _ (cr_below HC.out HK.out.mf.bel)).mono ?_); rintro e u ⟨rfl, hb⟩; have hk := HK.out.call hb; clear hb; clear HK; have HK := Lib.hid hk; clear hk)
      | (go_at_call 9; (with_reducible refine (awake_any _).mono ?_); rintro e u ⟨rfl, hb⟩; have hk := HK.out.call hb; clear hb; clear HK; have HK := Lib.hid hk; clear hk))
    go_ret
    exact ⟨rfl, HK.out.mf.bel⟩
  | true =>
    rw [hf] at hfw
    obtain ⟨hn, hq, hnm, hot⟩ := fewf_is hf
    clear hf
    by_cases hs : s2.size ≤ 100
    · have ds : decide ((100 : Int) < (s2.size : Int)) = false := by simp; omega
      have HD := Lib.hid (hd0.fr fun x hx => by have := (hq x hx).2; omega)
      have hN : Fits1000 q0 := fun x hx => by have := (hq x hx).1; omega
      have hP : PlOk p1 := ⟨by omega, by omega, hk1⟩
      have hO := hd0.ok
      have HPL := Lib.hid (show (pfs q0).length = n0 by rw [pfs_len]; exact hd0.1)
      have hn' : n0 ≤ 1000 := by omega
      obtain ⟨T, hT⟩ : ∃ T, totN (pfs q0) = T := ⟨_, rfl⟩
      obtain ⟨E, hE⟩ : ∃ E, totE (pfs q0) = E := ⟨_, rfl⟩
      obtain ⟨B, hB⟩ : ∃ B, fieldsB (pfs q0) = B := ⟨_, rfl⟩
      obtain ⟨R, hR⟩ : ∃ R, planB p1 = R := ⟨_, rfl⟩
      obtain ⟨G, hG⟩ : ∃ G, fitE (pfs q0) p1 = G := ⟨_, rfl⟩
      obtain ⟨V, hV⟩ : ∃ V : Int, (if isP (pfs q0) s2 then (findP (pfs q0) s2 : Int) else 0) = V := ⟨_, rfl⟩
      obtain ⟨I, hI⟩ : ∃ I, isP (pfs q0) s2 = I := ⟨_, rfl⟩
      have hto := fun w h => total_any A0 n0 c0 q0 hn' hO w h
      have hrto := fun w h => rtotal_any A0 n0 c0 q0 hn' w h
      have hfi := fun w h => find_any A0 n0 c0 q0 s2 hn' V I hV hI w h
      have hfd := fun w h => fields_any A0 n0 c0 q0 hn' hN w h
      have hrf := fun w h => rfields_any A0 n0 c0 q0 hn' hN w h
      have hpr := fun w => pright_any p1 hP.nm hP.ot hP.k w
      have hrp := fun w => rpright_any p1 hP.nm hP.ot w
      have hft := fun w h => fits_any p1 hP A0 n0 c0 q0 hn' hN w h
      have hrt := fun w h => rfits_any p1 hP A0 n0 c0 q0 hn' hN w h
      have htp := fun w => touched_any p1 s2 w
      simp only [hT, hE] at hto hrto
      simp only [hB] at hfd hrf
      simp only [hR] at hpr hrp
      simp only [hG] at hft hrt
      have HV := Lib.hid hV; have HI := Lib.hid hI
      clear hT hE hB hR hG hV hI hP hN hO hq hnm hot hd0 hk1 ha1 hb1 hs hn'
      go_enter Tryz.func3, Tryz.ntmps3
      go_wp2_with (first
        | ((with_reducible refine box_k (cs := p1.cells) HK.out rfl _ rfl rfl ?_); intro bp u hk; clear HK; have HK := Lib.hid hk; clear hk)
        | (with_reducible refine load_kr (xs := p1.cells) HK.out 0 Tryz.underlying24 rfl p_info _ rfl rfl rfl rfl Pl.all ?_)
        | (go_at_call 8; (with_reducible refine (hfw _ (cr_below HC.out HK.out.mf.bel)).mono ?_); rintro e u ⟨rfl, hb⟩; have hk := HK.out.call hb; clear hb; clear HK; have HK := Lib.hid hk; clear hk)
        | (go_at_call 9; (with_reducible refine (awake_any _).mono ?_); rintro e u ⟨rfl, hb⟩; have hk := HK.out.call hb; clear hb; clear HK; have HK := Lib.hid hk; clear hk)
        | (go_at_call 10; (with_reducible refine (hto _ (HD.out.below HK.out.mf.bel)).mono ?_); rintro e u ⟨rfl, hb⟩; have hk := HK.out.call hb; clear hb; clear HK; have HK := Lib.hid hk; clear hk)
        | (go_at_call 11; (with_reducible refine (hrto _ (HD.out.below HK.out.mf.bel)).mono ?_); rintro e u ⟨rfl, hb⟩; have hk := HK.out.call hb; clear hb; clear HK; have HK := Lib.hid hk; clear hk)
        | (go_at_call 12; (with_reducible refine (hfi _ (HD.out.below HK.out.mf.bel)).mono ?_); rintro e u ⟨rfl, hb⟩; have hk := HK.out.call hb; clear hb; clear HK; have HK := Lib.hid hk; clear hk))
      go_loopw [13, 14, 15] (fun a b i wr => ∃ (m : Nat) (z : Int), m ≤ n0 ∧ z = (m : Int) - 1 ∧ i = .int .i64 z ∧ ((b = .bool false ∧ a = .int .i64 0 ∧ ∀ (j : Nat) (x : Q), m ≤ j → q0[j]? = some x → eqS x.1.nm s2 = false) ∨ ∃ (k : Nat) (x : Q), b = .bool true ∧ a = .int .i64 (k : Int) ∧ m ≤ k ∧ q0[k]? = some x ∧ eqS x.1.nm s2 = true ∧ ∀ (j : Nat) (y : Q), m ≤ j → j < k → q0[j]? = some y → eqS y.1.nm s2 = false) ∧ (fun u => Kg w (fun _ => False) [Th.cel bp 24 p1.cells] [] u) wr) (fun _ _ i _ => (intOf i + 1).toNat)
      case atStart => exact ⟨n0, (n0 : Int) - 1, by omega, rfl, by go_num, .inl ⟨rfl, rfl, fun j x hj hx => by have := (List.getElem?_eq_some_iff.1 hx).1; have := HD.out.1; omega⟩, HK.out⟩
      case round =>
        obtain ⟨m, z, hm, hz, rfl, hab, hk⟩ := hrel
        clear HK; have HK := Lib.hid hk; clear hk
        cases m with
        | zero =>
          have dz : decide ((0 : Int) ≤ z) = false := by simp; omega
          clear hz
          have hab' : ∃ (x : Int) (y : Bool), u13 = .int .i64 x ∧ u14 = .bool y ∧ x = V ∧ y = I := by
            rcases hab with ⟨rfl, rfl, h⟩ | ⟨k, x, rfl, rfl, _, hx, hxs, h⟩
            · have h1 := find_none (ps := pfs q0) (s := s2) fun j q hj hq => by
                obtain ⟨x, hx, rfl⟩ : ∃ x, q0[j]? = some x ∧ x.1 = q := by simpa using hq
                exact h j x (by omega) hx
              refine ⟨_, _, rfl, rfl, ?_, ?_⟩
              · rw [← HV.out, h1]; rfl
              · rw [← HI.out, h1]
            · have h1 := find_hit (ps := pfs q0) (s := s2) (m := k) (fun j q hj hq => by
                obtain ⟨x, hx, rfl⟩ : ∃ x, q0[j]? = some x ∧ x.1 = q := by simpa using hq
                exact h j x (by omega) hj hx) (pfs_at hx) hxs
              refine ⟨_, _, rfl, rfl, ?_, ?_⟩
              · rw [← HV.out, h1.1, h1.2]; rfl
              · rw [← HI.out, h1.1]
          obtain ⟨x, y, rfl, rfl, rfl, rfl⟩ := hab'
          clear hab HV HI
          cases g1 : eqS s2 p1.nm with
          | true =>
            have G1 : (s2.toList == p1.nm.toList) = true := g1
            have HT : touchB p1 s2 = true := by rw [touchB, g1]; rfl
            simp only [HT] at htp; clear g1 HT
            go_wp2
            refine Draws.start (S := fun u => Kg w (fun _ => False) [Th.cel bp 24 p1.cells] [] u) (n := 19) 19 rfl (by kernel_rfl) ?_
            have HS := Lib.hid (show (fun u => Kg w (fun _ => False) [Th.cel bp 24 p1.cells] [] u) (World.drew _) from HK.out.drew)
            refine Draws.take 0 HS.out rfl (by kernel_rfl) (fun _ _ _ h => h) (yield_kr Tryz.underlying24 rfl p_info (fun _ h => (h.celAt 0 rfl).range Pl.all) _ rfl rfl rfl) ?_
            (try simp only [Act.put, lsA, lsB, lsC])
            refine Draws.take 1 (v := ?v1) HS.out rfl (by kernel_rfl) (fun _ _ _ h => h) (Or.inl ⟨rfl, ?h1⟩) ?r1
            case h1 => intro w' hw'; go_simp; (try with_reducible rfl)
            (try simp only [Act.put, lsA, lsB, lsC])
            refine Draws.take 3 (v := ?v2) HS.out rfl (by kernel_rfl) (fun _ _ _ h => h) (Or.inl ⟨rfl, ?h2⟩) ?r2
            case h2 => intro w' hw'; go_simp; (try with_reducible rfl)
            (try simp only [Act.put, lsA, lsB, lsC])
            refine Draws.take 4 (v := ?v3) HS.out rfl (by kernel_rfl) (fun _ _ _ h => h) (Or.inl ⟨rfl, ?h3⟩) ?r3
            case h3 => intro w' hw'; go_simp; (try with_reducible rfl)
            (try simp only [Act.put, lsA, lsB, lsC])
            refine Draws.take 5 HS.out rfl (by kernel_rfl) (fun _ _ _ h => h) (yield_k ckS (fun _ h => (h.celAt 0 rfl).cell Pl.c1) _ rfl rfl rfl) ?_
            (try simp only [Act.put, lsA, lsB, lsC])
            refine Draws.take 6 HS.out rfl (by kernel_rfl) (fun _ _ _ h => h) (yield_eqS G1 _ _ _ rfl rfl rfl rfl) ?_
            (try simp only [Act.put, lsA, lsB, lsC])
            refine Draws.does 2 rfl (by kernel_rfl) rfl (fun K' hK => ?_)
            go_simp
            go_at_call 13
            refine (htp _).mono ?_
            rintro e u ⟨rfl, hb⟩
            (try dsimp only)
            have hk := HS.out.call hb; clear hb
            clear HS; have HS := Lib.hid (show (fun u => Kg w (fun _ => False) [Th.cel bp 24 p1.cells] [] u) _ from hk); clear hk
            refine hK.out _ _ (fun _ => HS.out) ?_
            clear hK K'
            (try simp only [Act.put, lsA, lsB, lsC])
            refine Draws.take 7 (v := ?v4) HS.out rfl (by kernel_rfl) (fun _ _ _ h => h) (Or.inl ⟨rfl, ?h4⟩) ?r4
            case h4 => intro w' hw'; go_simp; (try with_reducible rfl)
            (try simp only [Act.put, lsA, lsB, lsC])
            refine Draws.take 8 HS.out rfl (by kernel_rfl) (fun _ _ _ h => h) (Or.inr ⟨rfl, rfl⟩) ?_
            (try simp only [Act.put, lsA, lsB, lsC])
            refine Draws.take 9 HS.out rfl (by kernel_rfl) (fun _ _ _ h => h) (Or.inr ⟨rfl, rfl⟩) ?_
            (try simp only [Act.put, lsA, lsB, lsC])
            refine Draws.take 10 HS.out rfl (by kernel_rfl) (fun _ _ _ h => h) (Or.inr ⟨rfl, rfl⟩) ?_
            (try simp only [Act.put, lsA, lsB, lsC])
            refine Draws.take 11 HS.out rfl (by kernel_rfl) (fun _ _ _ h => h) (Or.inr ⟨rfl, rfl⟩) ?_
            (try simp only [Act.put, lsA, lsB, lsC])
            refine Draws.take 12 HS.out rfl (by kernel_rfl) (fun _ _ _ h => h) (Or.inr ⟨rfl, rfl⟩) ?_
            (try simp only [Act.put, lsA, lsB, lsC])
            refine Draws.take 13 HS.out rfl (by kernel_rfl) (fun _ _ _ h => h) (Or.inr ⟨rfl, rfl⟩) ?_
            (try simp only [Act.put, lsA, lsB, lsC])
            refine Draws.take 14 HS.out rfl (by kernel_rfl) (fun _ _ _ h => h) (Or.inr ⟨rfl, rfl⟩) ?_
            (try simp only [Act.put, lsA, lsB, lsC])
            refine Draws.take 15 HS.out rfl (by kernel_rfl) (fun _ _ _ h => h) (Or.inr ⟨rfl, rfl⟩) ?_
            (try simp only [Act.put, lsA, lsB, lsC])
            refine Draws.take 16 HS.out rfl (by kernel_rfl) (fun _ _ _ h => h) (Or.inr ⟨rfl, rfl⟩) ?_
            (try simp only [Act.put, lsA, lsB, lsC])
            refine Draws.take 17 (v := ?v5) HS.out rfl (by kernel_rfl) (fun _ _ _ h => h) (Or.inl ⟨rfl, ?h5⟩) ?r5
            case h5 => intro w' hw'; go_simp; (try with_reducible rfl)
            (try simp only [Act.put, lsA, lsB, lsC])
            refine Draws.take 18 HS.out rfl (by kernel_rfl) (fun _ _ _ h => h) (yield_neB (b := true) rfl _ _ _ rfl rfl rfl rfl) ?_
            (try simp only [Act.put, lsA, lsB, lsC])
            refine Draws.done (by kernel_rfl) ?_
            clear HK; have HK := Lib.hid (show (fun u => Kg w (fun _ => False) [Th.cel bp 24 p1.cells] [] u) _ from HS.out); clear HS
            go_wp2
            refine Draws.start (S := fun u => Kg w (fun _ => False) [Th.cel bp 24 p1.cells] [] u) (n := 45) 45 rfl (by kernel_rfl) ?_
            have HS := Lib.hid (show (fun u => Kg w (fun _ => False) [Th.cel bp 24 p1.cells] [] u) (World.drew _) from HK.out.drew)
            refine Draws.take 0 (v := ?v6) HS.out rfl (by kernel_rfl) (fun _ _ _ h => h) (Or.inl ⟨rfl, ?h6⟩) ?r6
            case h6 => intro w' hw'; go_simp; (try with_reducible rfl)
            (try simp only [Act.put, lsA, lsB, lsC])
            refine Draws.take 2 (v := ?v7) HS.out rfl (by kernel_rfl) (fun _ _ _ h => h) (Or.inl ⟨rfl, ?h7⟩) ?r7
            case h7 => intro w' hw'; go_simp; (try with_reducible rfl)
            (try simp only [Act.put, lsA, lsB, lsC])
            refine Draws.does 1 rfl (by kernel_rfl) rfl (fun K' hK => ?_)
            go_simp
            go_at_call 14
            refine (hfd _ (HD.out.below HS.out.mf.bel)).mono ?_
            rintro e u ⟨rfl, hb⟩
            (try dsimp only)
            have hk := HS.out.call hb; clear hb
            clear HS; have HS := Lib.hid (show (fun u => Kg w (fun _ => False) [Th.cel bp 24 p1.cells] [] u) _ from hk); clear hk
            refine hK.out _ _ (fun _ => HS.out) ?_
            clear hK K'
            (try simp only [Act.put, lsA, lsB, lsC])
            refine Draws.does 3 rfl (by kernel_rfl) rfl (fun K' hK => ?_)
            go_simp
            go_at_call 15
            refine (hrf _ (HD.out.below HS.out.mf.bel)).mono ?_
            rintro e u ⟨rfl, hb⟩
            (try dsimp only)
            have hk := HS.out.call hb; clear hb
            clear HS; have HS := Lib.hid (show (fun u => Kg w (fun _ => False) [Th.cel bp 24 p1.cells] [] u) _ from hk); clear hk
            refine hK.out _ _ (fun _ => HS.out) ?_
            clear hK K'
            (try simp only [Act.put, lsA, lsB, lsC])
            refine Draws.take 4 HS.out rfl (by kernel_rfl) (fun _ _ _ h => h) (yield_eqB (b := true) (beq_self_eq_true _) _ _ _ rfl rfl rfl rfl) ?_
            (try simp only [Act.put, lsA, lsB, lsC])
            refine Draws.take 5 (v := ?v8) HS.out rfl (by kernel_rfl) (fun _ _ _ h => h) (Or.inl ⟨rfl, ?h8⟩) ?r8
            case h8 => intro w' hw'; go_simp; (try with_reducible rfl)
            (try simp only [Act.put, lsA, lsB, lsC])
            refine Draws.take 6 HS.out rfl (by kernel_rfl) (fun _ _ _ h => h) (yield_kr Tryz.underlying24 rfl p_info (fun _ h => (h.celAt 0 rfl).range Pl.all) _ rfl rfl rfl) ?_
            (try simp only [Act.put, lsA, lsB, lsC])
            refine Draws.take 8 HS.out rfl (by kernel_rfl) (fun _ _ _ h => h) (yield_kr Tryz.underlying24 rfl p_info (fun _ h => (h.celAt 0 rfl).range Pl.all) _ rfl rfl rfl) ?_
            (try simp only [Act.put, lsA, lsB, lsC])
            refine Draws.does 7 rfl (by kernel_rfl) rfl (fun K' hK => ?_)
            go_simp
            go_at_call 16
            refine (hpr _).mono ?_
            rintro e u ⟨rfl, hb⟩
            (try dsimp only)
            have hk := HS.out.call hb; clear hb
            clear HS; have HS := Lib.hid (show (fun u => Kg w (fun _ => False) [Th.cel bp 24 p1.cells] [] u) _ from hk); clear hk
            refine hK.out _ _ (fun _ => HS.out) ?_
            clear hK K'
            (try simp only [Act.put, lsA, lsB, lsC])
            refine Draws.does 9 rfl (by kernel_rfl) rfl (fun K' hK => ?_)
            go_simp
            go_at_call 17
            refine (hrp _).mono ?_
            rintro e u ⟨rfl, hb⟩
            (try dsimp only)
            have hk := HS.out.call hb; clear hb
            clear HS; have HS := Lib.hid (show (fun u => Kg w (fun _ => False) [Th.cel bp 24 p1.cells] [] u) _ from hk); clear hk
            refine hK.out _ _ (fun _ => HS.out) ?_
            clear hK K'
            (try simp only [Act.put, lsA, lsB, lsC])
            refine Draws.take 10 HS.out rfl (by kernel_rfl) (fun _ _ _ h => h) (yield_eqB (b := true) (beq_self_eq_true _) _ _ _ rfl rfl rfl rfl) ?_
            (try simp only [Act.put, lsA, lsB, lsC])
            refine Draws.take 11 (v := ?v9) HS.out rfl (by kernel_rfl) (fun _ _ _ h => h) (Or.inl ⟨rfl, ?h9⟩) ?r9
            case h9 => intro w' hw'; go_simp; (try with_reducible rfl)
            (try simp only [Act.put, lsA, lsB, lsC])
            refine Draws.take 12 (v := ?v10) HS.out rfl (by kernel_rfl) (fun _ _ _ h => h) (Or.inl ⟨rfl, ?h10⟩) ?r10
            case h10 => intro w' hw'; go_simp; (try with_reducible rfl)
            (try simp only [Act.put, lsA, lsB, lsC])
            refine Draws.take 13 (v := ?v11) HS.out rfl (by kernel_rfl) (fun _ _ _ h => h) (Or.inl ⟨rfl, ?h11⟩) ?r11
            case h11 => intro w' hw'; go_simp; (try with_reducible rfl)
            (try simp only [Act.put, lsA, lsB, lsC])
            refine Draws.take 14 HS.out rfl (by kernel_rfl) (fun _ _ _ h => h) (yield_kr Tryz.underlying24 rfl p_info (fun _ h => (h.celAt 0 rfl).range Pl.all) _ rfl rfl rfl) ?_
            (try simp only [Act.put, lsA, lsB, lsC])
            refine Draws.take 16 (v := ?v12) HS.out rfl (by kernel_rfl) (fun _ _ _ h => h) (Or.inl ⟨rfl, ?h12⟩) ?r12
            case h12 => intro w' hw'; go_simp; (try with_reducible rfl)
            (try simp only [Act.put, lsA, lsB, lsC])
            refine Draws.take 17 HS.out rfl (by kernel_rfl) (fun _ _ _ h => h) (yield_kr Tryz.underlying24 rfl p_info (fun _ h => (h.celAt 0 rfl).range Pl.all) _ rfl rfl rfl) ?_
            (try simp only [Act.put, lsA, lsB, lsC])
            refine Draws.does 15 rfl (by kernel_rfl) rfl (fun K' hK => ?_)
            go_simp
            go_at_call 18
            refine (hft _ (HD.out.below HS.out.mf.bel)).mono ?_
            rintro e u ⟨rfl, hb⟩
            (try dsimp only)
            have hk := HS.out.call hb; clear hb
            clear HS; have HS := Lib.hid (show (fun u => Kg w (fun _ => False) [Th.cel bp 24 p1.cells] [] u) _ from hk); clear hk
            refine hK.out _ _ (fun _ => HS.out) ?_
            clear hK K'
            (try simp only [Act.put, lsA, lsB, lsC])
            refine Draws.does 18 rfl (by kernel_rfl) rfl (fun K' hK => ?_)
            go_simp
            go_at_call 19
            refine (hrt _ (HD.out.below HS.out.mf.bel)).mono ?_
            rintro e u ⟨rfl, hb⟩
            (try dsimp only)
            have hk := HS.out.call hb; clear hb
            clear HS; have HS := Lib.hid (show (fun u => Kg w (fun _ => False) [Th.cel bp 24 p1.cells] [] u) _ from hk); clear hk
            refine hK.out _ _ (fun _ => HS.out) ?_
            clear hK K'
            (try simp only [Act.put, lsA, lsB, lsC])
            refine Draws.take 19 HS.out rfl (by kernel_rfl) (fun _ _ _ h => h) (yield_eqE (b := true) (beq_self_eq_true _) _ _ _ rfl rfl rfl rfl) ?_
            (try simp only [Act.put, lsA, lsB, lsC])
            refine Draws.take 20 (v := ?v13) HS.out rfl (by kernel_rfl) (fun _ _ _ h => h) (Or.inl ⟨rfl, ?h13⟩) ?r13
            case h13 => intro w' hw'; go_simp; (try with_reducible rfl)
            (try simp only [Act.put, lsA, lsB, lsC])
            refine Draws.take 21 (v := ?v14) HS.out rfl (by kernel_rfl) (fun _ _ _ h => h) (Or.inl ⟨rfl, ?h14⟩) ?r14
            case h14 => intro w' hw'; go_simp; (try with_reducible rfl)
            (try simp only [Act.put, lsA, lsB, lsC])
            refine Draws.take 22 (v := ?v15) HS.out rfl (by kernel_rfl) (fun _ _ _ h => h) (Or.inl ⟨rfl, ?h15⟩) ?r15
            case h15 => intro w' hw'; go_simp; (try with_reducible rfl)
            (try simp only [Act.put, lsA, lsB, lsC])
            refine Draws.take 23 (v := ?v16) HS.out rfl (by kernel_rfl) (fun _ _ _ h => h) (Or.inl ⟨rfl, ?h16⟩) ?r16
            case h16 => intro w' hw'; go_simp; (try with_reducible rfl)
            (try simp only [Act.put, lsA, lsB, lsC])
            refine Draws.take 24 HS.out rfl (by kernel_rfl) (fun _ _ _ h => h) (yield_eql (b := true) (beq_self_eq_true _) _ _ _ rfl rfl rfl rfl) ?_
            (try simp only [Act.put, lsA, lsB, lsC])
            refine Draws.take 25 (v := ?v17) HS.out rfl (by kernel_rfl) (fun _ _ _ h => h) (Or.inl ⟨rfl, ?h17⟩) ?r17
            case h17 => intro w' hw'; go_simp; (try with_reducible rfl)
            (try simp only [Act.put, lsA, lsB, lsC])
            refine Draws.take 26 (v := ?v18) HS.out rfl (by kernel_rfl) (fun _ _ _ h => h) (Or.inl ⟨rfl, ?h18⟩) ?r18
            case h18 => intro w' hw'; go_simp; (try with_reducible rfl)
            (try simp only [Act.put, lsA, lsB, lsC])
            refine Draws.take 27 (v := ?v19) HS.out rfl (by kernel_rfl) (fun _ _ _ h => h) (Or.inl ⟨rfl, ?h19⟩) ?r19
            case h19 => intro w' hw'; go_simp; (try with_reducible rfl)
            (try simp only [Act.put, lsA, lsB, lsC])
            refine Draws.take 28 (v := ?v20) HS.out rfl (by kernel_rfl) (fun _ _ _ h => h) (Or.inl ⟨rfl, ?h20⟩) ?r20
            case h20 => intro w' hw'; go_simp; (try with_reducible rfl)
            (try simp only [Act.put, lsA, lsB, lsC])
            refine Draws.take 29 HS.out rfl (by kernel_rfl) (fun _ _ _ h => h) (yield_eqE (b := true) (beq_self_eq_true _) _ _ _ rfl rfl rfl rfl) ?_
            (try simp only [Act.put, lsA, lsB, lsC])
            refine Draws.take 30 (v := ?v21) HS.out rfl (by kernel_rfl) (fun _ _ _ h => h) (Or.inl ⟨rfl, ?h21⟩) ?r21
            case h21 => intro w' hw'; go_simp; (try with_reducible rfl)
            (try simp only [Act.put, lsA, lsB, lsC])
            refine Draws.take 31 (v := ?v22) HS.out rfl (by kernel_rfl) (fun _ _ _ h => h) (Or.inl ⟨rfl, ?h22⟩) ?r22
            case h22 => intro w' hw'; go_simp; (try with_reducible rfl)
            (try simp only [Act.put, lsA, lsB, lsC])
            refine Draws.take 32 (v := ?v23) HS.out rfl (by kernel_rfl) (fun _ _ _ h => h) (Or.inl ⟨rfl, ?h23⟩) ?r23
            case h23 => intro w' hw'; go_simp; (try with_reducible rfl)
            (try simp only [Act.put, lsA, lsB, lsC])
            refine Draws.take 33 (v := ?v24) HS.out rfl (by kernel_rfl) (fun _ _ _ h => h) (Or.inl ⟨rfl, ?h24⟩) ?r24
            case h24 => intro w' hw'; go_simp; (try with_reducible rfl)
            (try simp only [Act.put, lsA, lsB, lsC])
            refine Draws.take 34 HS.out rfl (by kernel_rfl) (fun _ _ _ h => h) (yield_eql (b := true) (beq_self_eq_true _) _ _ _ rfl rfl rfl rfl) ?_
            (try simp only [Act.put, lsA, lsB, lsC])
            refine Draws.take 35 (v := ?v25) HS.out rfl (by kernel_rfl) (fun _ _ _ h => h) (Or.inl ⟨rfl, ?h25⟩) ?r25
            case h25 => intro w' hw'; go_simp; (try with_reducible rfl)
            (try simp only [Act.put, lsA, lsB, lsC])
            refine Draws.take 36 (v := ?v26) HS.out rfl (by kernel_rfl) (fun _ _ _ h => h) (Or.inl ⟨rfl, ?h26⟩) ?r26
            case h26 => intro w' hw'; go_simp; (try with_reducible rfl)
            (try simp only [Act.put, lsA, lsB, lsC])
            refine Draws.take 37 (v := ?v27) HS.out rfl (by kernel_rfl) (fun _ _ _ h => h) (Or.inl ⟨rfl, ?h27⟩) ?r27
            case h27 => intro w' hw'; go_simp; (try with_reducible rfl)
            (try simp only [Act.put, lsA, lsB, lsC])
            refine Draws.take 38 (v := ?v28) HS.out rfl (by kernel_rfl) (fun _ _ _ h => h) (Or.inl ⟨rfl, ?h28⟩) ?r28
            case h28 => intro w' hw'; go_simp; (try with_reducible rfl)
            (try simp only [Act.put, lsA, lsB, lsC])
            refine Draws.take 39 HS.out rfl (by kernel_rfl) (fun _ _ _ h => h) (yield_eqB (b := true) (beq_self_eq_true _) _ _ _ rfl rfl rfl rfl) ?_
            (try simp only [Act.put, lsA, lsB, lsC])
            refine Draws.take 40 (v := ?v29) HS.out rfl (by kernel_rfl) (fun _ _ _ h => h) (Or.inl ⟨rfl, ?h29⟩) ?r29
            case h29 => intro w' hw'; go_simp; (try with_reducible rfl)
            (try simp only [Act.put, lsA, lsB, lsC])
            refine Draws.take 41 (v := ?v30) HS.out rfl (by kernel_rfl) (fun _ _ _ h => h) (Or.inl ⟨rfl, ?h30⟩) ?r30
            case h30 => intro w' hw'; go_simp; (try with_reducible rfl)
            (try simp only [Act.put, lsA, lsB, lsC])
            refine Draws.does 42 rfl (by kernel_rfl) rfl (fun K' hK => ?_)
            go_simp
            go_at_call 9
            refine (awake_any _).mono ?_
            rintro e u ⟨rfl, hb⟩
            (try dsimp only)
            have hk := HS.out.call hb; clear hb
            clear HS; have HS := Lib.hid (show (fun u => Kg w (fun _ => False) [Th.cel bp 24 p1.cells] [] u) _ from hk); clear hk
            refine hK.out _ _ (fun _ => HS.out) ?_
            clear hK K'
            (try simp only [Act.put, lsA, lsB, lsC])
            refine Draws.take 43 (v := ?v31) HS.out rfl (by kernel_rfl) (fun _ _ _ h => h) (Or.inl ⟨rfl, ?h31⟩) ?r31
            case h31 => intro w' hw'; go_simp; (try with_reducible rfl)
            (try simp only [Act.put, lsA, lsB, lsC])
            refine Draws.take 44 (v := ?v32) HS.out rfl (by kernel_rfl) (fun _ _ _ h => h) (Or.inl ⟨rfl, ?h32⟩) ?r32
            case h32 => intro w' hw'; go_simp; (try with_reducible rfl)
            (try simp only [Act.put, lsA, lsB, lsC])
            refine Draws.done (by kernel_rfl) ?_
            clear HK; have HK := Lib.hid (show (fun u => Kg w (fun _ => False) [Th.cel bp 24 p1.cells] [] u) _ from HS.out); clear HS
            go_wp2
            go_ret
            exact ⟨rfl, HK.out.mf.bel⟩
          | false =>
            have G1 : (s2.toList == p1.nm.toList) = false := g1
            cases g2 : noS p1.ot with
            | true =>
              have G2 := no_list g2
              have HT : touchB p1 s2 = false := by rw [touchB, g1, g2]; rfl
              simp only [HT] at htp; clear g1 g2 HT
              go_wp2
              refine Draws.start (S := fun u => Kg w (fun _ => False) [Th.cel bp 24 p1.cells] [] u) (n := 19) 19 rfl (by kernel_rfl) ?_
              have HS := Lib.hid (show (fun u => Kg w (fun _ => False) [Th.cel bp 24 p1.cells] [] u) (World.drew _) from HK.out.drew)
              refine Draws.take 0 HS.out rfl (by kernel_rfl) (fun _ _ _ h => h) (yield_kr Tryz.underlying24 rfl p_info (fun _ h => (h.celAt 0 rfl).range Pl.all) _ rfl rfl rfl) ?_
              (try simp only [Act.put, lsA, lsB, lsC])
              refine Draws.take 1 (v := ?v33) HS.out rfl (by kernel_rfl) (fun _ _ _ h => h) (Or.inl ⟨rfl, ?h33⟩) ?r33
              case h33 => intro w' hw'; go_simp; (try with_reducible rfl)
              (try simp only [Act.put, lsA, lsB, lsC])
              refine Draws.take 3 (v := ?v34) HS.out rfl (by kernel_rfl) (fun _ _ _ h => h) (Or.inl ⟨rfl, ?h34⟩) ?r34
              case h34 => intro w' hw'; go_simp; (try with_reducible rfl)
              (try simp only [Act.put, lsA, lsB, lsC])
              refine Draws.take 4 (v := ?v35) HS.out rfl (by kernel_rfl) (fun _ _ _ h => h) (Or.inl ⟨rfl, ?h35⟩) ?r35
              case h35 => intro w' hw'; go_simp; (try with_reducible rfl)
              (try simp only [Act.put, lsA, lsB, lsC])
              refine Draws.take 5 HS.out rfl (by kernel_rfl) (fun _ _ _ h => h) (yield_k ckS (fun _ h => (h.celAt 0 rfl).cell Pl.c1) _ rfl rfl rfl) ?_
              (try simp only [Act.put, lsA, lsB, lsC])
              refine Draws.take 6 HS.out rfl (by kernel_rfl) (fun _ _ _ h => h) (yield_eqS G1 _ _ _ rfl rfl rfl rfl) ?_
              (try simp only [Act.put, lsA, lsB, lsC])
              refine Draws.does 2 rfl (by kernel_rfl) rfl (fun K' hK => ?_)
              go_simp
              go_at_call 13
              refine (htp _).mono ?_
              rintro e u ⟨rfl, hb⟩
              (try dsimp only)
              have hk := HS.out.call hb; clear hb
              clear HS; have HS := Lib.hid (show (fun u => Kg w (fun _ => False) [Th.cel bp 24 p1.cells] [] u) _ from hk); clear hk
              refine hK.out _ _ (fun _ => HS.out) ?_
              clear hK K'
              (try simp only [Act.put, lsA, lsB, lsC])
              refine Draws.take 7 (v := ?v36) HS.out rfl (by kernel_rfl) (fun _ _ _ h => h) (Or.inl ⟨rfl, ?h36⟩) ?r36
              case h36 => intro w' hw'; go_simp; (try with_reducible rfl)
              (try simp only [Act.put, lsA, lsB, lsC])
              refine Draws.take 8 (v := ?v37) HS.out rfl (by kernel_rfl) (fun _ _ _ h => h) (Or.inl ⟨rfl, ?h37⟩) ?r37
              case h37 => intro w' hw'; go_simp; (try with_reducible rfl)
              (try simp only [Act.put, lsA, lsB, lsC])
              refine Draws.take 9 HS.out rfl (by kernel_rfl) (fun _ _ _ h => h) (yield_k ckS (fun _ h => (h.celAt 0 rfl).cell Pl.c2) _ rfl rfl rfl) ?_
              (try simp only [Act.put, lsA, lsB, lsC])
              refine Draws.take 10 HS.out rfl (by kernel_rfl) (fun _ _ _ h => h) (yield_neS G2.1 _ _ _ rfl rfl rfl rfl) ?_
              (try simp only [Act.put, lsA, lsB, lsC])
              refine Draws.take 11 (v := ?v38) HS.out rfl (by kernel_rfl) (fun _ _ _ h => h) (Or.inl ⟨rfl, ?h38⟩) ?r38
              case h38 => intro w' hw'; go_simp; (try with_reducible rfl)
              (try simp only [Act.put, lsA, lsB, lsC])
              refine Draws.take 12 HS.out rfl (by kernel_rfl) (fun _ _ _ h => h) (Or.inr ⟨rfl, rfl⟩) ?_
              (try simp only [Act.put, lsA, lsB, lsC])
              refine Draws.take 13 HS.out rfl (by kernel_rfl) (fun _ _ _ h => h) (Or.inr ⟨rfl, rfl⟩) ?_
              (try simp only [Act.put, lsA, lsB, lsC])
              refine Draws.take 14 HS.out rfl (by kernel_rfl) (fun _ _ _ h => h) (Or.inr ⟨rfl, rfl⟩) ?_
              (try simp only [Act.put, lsA, lsB, lsC])
              refine Draws.take 15 HS.out rfl (by kernel_rfl) (fun _ _ _ h => h) (Or.inr ⟨rfl, rfl⟩) ?_
              (try simp only [Act.put, lsA, lsB, lsC])
              refine Draws.take 16 (v := ?v39) HS.out rfl (by kernel_rfl) (fun _ _ _ h => h) (Or.inl ⟨rfl, ?h39⟩) ?r39
              case h39 => intro w' hw'; go_simp; (try with_reducible rfl)
              (try simp only [Act.put, lsA, lsB, lsC])
              refine Draws.take 17 (v := ?v40) HS.out rfl (by kernel_rfl) (fun _ _ _ h => h) (Or.inl ⟨rfl, ?h40⟩) ?r40
              case h40 => intro w' hw'; go_simp; (try with_reducible rfl)
              (try simp only [Act.put, lsA, lsB, lsC])
              refine Draws.take 18 HS.out rfl (by kernel_rfl) (fun _ _ _ h => h) (yield_neB (b := true) rfl _ _ _ rfl rfl rfl rfl) ?_
              (try simp only [Act.put, lsA, lsB, lsC])
              refine Draws.done (by kernel_rfl) ?_
              clear HK; have HK := Lib.hid (show (fun u => Kg w (fun _ => False) [Th.cel bp 24 p1.cells] [] u) _ from HS.out); clear HS
              go_wp2
              refine Draws.start (S := fun u => Kg w (fun _ => False) [Th.cel bp 24 p1.cells] [] u) (n := 45) 45 rfl (by kernel_rfl) ?_
              have HS := Lib.hid (show (fun u => Kg w (fun _ => False) [Th.cel bp 24 p1.cells] [] u) (World.drew _) from HK.out.drew)
              refine Draws.take 0 (v := ?v41) HS.out rfl (by kernel_rfl) (fun _ _ _ h => h) (Or.inl ⟨rfl, ?h41⟩) ?r41
              case h41 => intro w' hw'; go_simp; (try with_reducible rfl)
              (try simp only [Act.put, lsA, lsB, lsC])
              refine Draws.take 2 (v := ?v42) HS.out rfl (by kernel_rfl) (fun _ _ _ h => h) (Or.inl ⟨rfl, ?h42⟩) ?r42
              case h42 => intro w' hw'; go_simp; (try with_reducible rfl)
              (try simp only [Act.put, lsA, lsB, lsC])
              refine Draws.does 1 rfl (by kernel_rfl) rfl (fun K' hK => ?_)
              go_simp
              go_at_call 14
              refine (hfd _ (HD.out.below HS.out.mf.bel)).mono ?_
              rintro e u ⟨rfl, hb⟩
              (try dsimp only)
              have hk := HS.out.call hb; clear hb
              clear HS; have HS := Lib.hid (show (fun u => Kg w (fun _ => False) [Th.cel bp 24 p1.cells] [] u) _ from hk); clear hk
              refine hK.out _ _ (fun _ => HS.out) ?_
              clear hK K'
              (try simp only [Act.put, lsA, lsB, lsC])
              refine Draws.does 3 rfl (by kernel_rfl) rfl (fun K' hK => ?_)
              go_simp
              go_at_call 15
              refine (hrf _ (HD.out.below HS.out.mf.bel)).mono ?_
              rintro e u ⟨rfl, hb⟩
              (try dsimp only)
              have hk := HS.out.call hb; clear hb
              clear HS; have HS := Lib.hid (show (fun u => Kg w (fun _ => False) [Th.cel bp 24 p1.cells] [] u) _ from hk); clear hk
              refine hK.out _ _ (fun _ => HS.out) ?_
              clear hK K'
              (try simp only [Act.put, lsA, lsB, lsC])
              refine Draws.take 4 HS.out rfl (by kernel_rfl) (fun _ _ _ h => h) (yield_eqB (b := true) (beq_self_eq_true _) _ _ _ rfl rfl rfl rfl) ?_
              (try simp only [Act.put, lsA, lsB, lsC])
              refine Draws.take 5 (v := ?v43) HS.out rfl (by kernel_rfl) (fun _ _ _ h => h) (Or.inl ⟨rfl, ?h43⟩) ?r43
              case h43 => intro w' hw'; go_simp; (try with_reducible rfl)
              (try simp only [Act.put, lsA, lsB, lsC])
              refine Draws.take 6 HS.out rfl (by kernel_rfl) (fun _ _ _ h => h) (yield_kr Tryz.underlying24 rfl p_info (fun _ h => (h.celAt 0 rfl).range Pl.all) _ rfl rfl rfl) ?_
              (try simp only [Act.put, lsA, lsB, lsC])
              refine Draws.take 8 HS.out rfl (by kernel_rfl) (fun _ _ _ h => h) (yield_kr Tryz.underlying24 rfl p_info (fun _ h => (h.celAt 0 rfl).range Pl.all) _ rfl rfl rfl) ?_
              (try simp only [Act.put, lsA, lsB, lsC])
              refine Draws.does 7 rfl (by kernel_rfl) rfl (fun K' hK => ?_)
              go_simp
              go_at_call 16
              refine (hpr _).mono ?_
              rintro e u ⟨rfl, hb⟩
              (try dsimp only)
              have hk := HS.out.call hb; clear hb
              clear HS; have HS := Lib.hid (show (fun u => Kg w (fun _ => False) [Th.cel bp 24 p1.cells] [] u) _ from hk); clear hk
              refine hK.out _ _ (fun _ => HS.out) ?_
              clear hK K'
              (try simp only [Act.put, lsA, lsB, lsC])
              refine Draws.does 9 rfl (by kernel_rfl) rfl (fun K' hK => ?_)
              go_simp
              go_at_call 17
              refine (hrp _).mono ?_
              rintro e u ⟨rfl, hb⟩
              (try dsimp only)
              have hk := HS.out.call hb; clear hb
              clear HS; have HS := Lib.hid (show (fun u => Kg w (fun _ => False) [Th.cel bp 24 p1.cells] [] u) _ from hk); clear hk
              refine hK.out _ _ (fun _ => HS.out) ?_
              clear hK K'
              (try simp only [Act.put, lsA, lsB, lsC])
              refine Draws.take 10 HS.out rfl (by kernel_rfl) (fun _ _ _ h => h) (yield_eqB (b := true) (beq_self_eq_true _) _ _ _ rfl rfl rfl rfl) ?_
              (try simp only [Act.put, lsA, lsB, lsC])
              refine Draws.take 11 (v := ?v44) HS.out rfl (by kernel_rfl) (fun _ _ _ h => h) (Or.inl ⟨rfl, ?h44⟩) ?r44
              case h44 => intro w' hw'; go_simp; (try with_reducible rfl)
              (try simp only [Act.put, lsA, lsB, lsC])
              refine Draws.take 12 (v := ?v45) HS.out rfl (by kernel_rfl) (fun _ _ _ h => h) (Or.inl ⟨rfl, ?h45⟩) ?r45
              case h45 => intro w' hw'; go_simp; (try with_reducible rfl)
              (try simp only [Act.put, lsA, lsB, lsC])
              refine Draws.take 13 (v := ?v46) HS.out rfl (by kernel_rfl) (fun _ _ _ h => h) (Or.inl ⟨rfl, ?h46⟩) ?r46
              case h46 => intro w' hw'; go_simp; (try with_reducible rfl)
              (try simp only [Act.put, lsA, lsB, lsC])
              refine Draws.take 14 HS.out rfl (by kernel_rfl) (fun _ _ _ h => h) (yield_kr Tryz.underlying24 rfl p_info (fun _ h => (h.celAt 0 rfl).range Pl.all) _ rfl rfl rfl) ?_
              (try simp only [Act.put, lsA, lsB, lsC])
              refine Draws.take 16 (v := ?v47) HS.out rfl (by kernel_rfl) (fun _ _ _ h => h) (Or.inl ⟨rfl, ?h47⟩) ?r47
              case h47 => intro w' hw'; go_simp; (try with_reducible rfl)
              (try simp only [Act.put, lsA, lsB, lsC])
              refine Draws.take 17 HS.out rfl (by kernel_rfl) (fun _ _ _ h => h) (yield_kr Tryz.underlying24 rfl p_info (fun _ h => (h.celAt 0 rfl).range Pl.all) _ rfl rfl rfl) ?_
              (try simp only [Act.put, lsA, lsB, lsC])
              refine Draws.does 15 rfl (by kernel_rfl) rfl (fun K' hK => ?_)
              go_simp
              go_at_call 18
              refine (hft _ (HD.out.below HS.out.mf.bel)).mono ?_
              rintro e u ⟨rfl, hb⟩
              (try dsimp only)
              have hk := HS.out.call hb; clear hb
              clear HS; have HS := Lib.hid (show (fun u => Kg w (fun _ => False) [Th.cel bp 24 p1.cells] [] u) _ from hk); clear hk
              refine hK.out _ _ (fun _ => HS.out) ?_
              clear hK K'
              (try simp only [Act.put, lsA, lsB, lsC])
              refine Draws.does 18 rfl (by kernel_rfl) rfl (fun K' hK => ?_)
              go_simp
              go_at_call 19
              refine (hrt _ (HD.out.below HS.out.mf.bel)).mono ?_
              rintro e u ⟨rfl, hb⟩
              (try dsimp only)
              have hk := HS.out.call hb; clear hb
              clear HS; have HS := Lib.hid (show (fun u => Kg w (fun _ => False) [Th.cel bp 24 p1.cells] [] u) _ from hk); clear hk
              refine hK.out _ _ (fun _ => HS.out) ?_
              clear hK K'
              (try simp only [Act.put, lsA, lsB, lsC])
              refine Draws.take 19 HS.out rfl (by kernel_rfl) (fun _ _ _ h => h) (yield_eqE (b := true) (beq_self_eq_true _) _ _ _ rfl rfl rfl rfl) ?_
              (try simp only [Act.put, lsA, lsB, lsC])
              refine Draws.take 20 (v := ?v48) HS.out rfl (by kernel_rfl) (fun _ _ _ h => h) (Or.inl ⟨rfl, ?h48⟩) ?r48
              case h48 => intro w' hw'; go_simp; (try with_reducible rfl)
              (try simp only [Act.put, lsA, lsB, lsC])
              refine Draws.take 21 (v := ?v49) HS.out rfl (by kernel_rfl) (fun _ _ _ h => h) (Or.inl ⟨rfl, ?h49⟩) ?r49
              case h49 => intro w' hw'; go_simp; (try with_reducible rfl)
              (try simp only [Act.put, lsA, lsB, lsC])
              refine Draws.take 22 (v := ?v50) HS.out rfl (by kernel_rfl) (fun _ _ _ h => h) (Or.inl ⟨rfl, ?h50⟩) ?r50
              case h50 => intro w' hw'; go_simp; (try with_reducible rfl)
              (try simp only [Act.put, lsA, lsB, lsC])
              refine Draws.take 23 (v := ?v51) HS.out rfl (by kernel_rfl) (fun _ _ _ h => h) (Or.inl ⟨rfl, ?h51⟩) ?r51
              case h51 => intro w' hw'; go_simp; (try with_reducible rfl)
              (try simp only [Act.put, lsA, lsB, lsC])
              refine Draws.take 24 HS.out rfl (by kernel_rfl) (fun _ _ _ h => h) (yield_eql (b := true) (beq_self_eq_true _) _ _ _ rfl rfl rfl rfl) ?_
              (try simp only [Act.put, lsA, lsB, lsC])
              refine Draws.take 25 (v := ?v52) HS.out rfl (by kernel_rfl) (fun _ _ _ h => h) (Or.inl ⟨rfl, ?h52⟩) ?r52
              case h52 => intro w' hw'; go_simp; (try with_reducible rfl)
              (try simp only [Act.put, lsA, lsB, lsC])
              refine Draws.take 26 (v := ?v53) HS.out rfl (by kernel_rfl) (fun _ _ _ h => h) (Or.inl ⟨rfl, ?h53⟩) ?r53
              case h53 => intro w' hw'; go_simp; (try with_reducible rfl)
              (try simp only [Act.put, lsA, lsB, lsC])
              refine Draws.take 27 (v := ?v54) HS.out rfl (by kernel_rfl) (fun _ _ _ h => h) (Or.inl ⟨rfl, ?h54⟩) ?r54
              case h54 => intro w' hw'; go_simp; (try with_reducible rfl)
              (try simp only [Act.put, lsA, lsB, lsC])
              refine Draws.take 28 (v := ?v55) HS.out rfl (by kernel_rfl) (fun _ _ _ h => h) (Or.inl ⟨rfl, ?h55⟩) ?r55
              case h55 => intro w' hw'; go_simp; (try with_reducible rfl)
              (try simp only [Act.put, lsA, lsB, lsC])
              refine Draws.take 29 HS.out rfl (by kernel_rfl) (fun _ _ _ h => h) (yield_eqE (b := true) (beq_self_eq_true _) _ _ _ rfl rfl rfl rfl) ?_
              (try simp only [Act.put, lsA, lsB, lsC])
              refine Draws.take 30 (v := ?v56) HS.out rfl (by kernel_rfl) (fun _ _ _ h => h) (Or.inl ⟨rfl, ?h56⟩) ?r56
              case h56 => intro w' hw'; go_simp; (try with_reducible rfl)
              (try simp only [Act.put, lsA, lsB, lsC])
              refine Draws.take 31 (v := ?v57) HS.out rfl (by kernel_rfl) (fun _ _ _ h => h) (Or.inl ⟨rfl, ?h57⟩) ?r57
              case h57 => intro w' hw'; go_simp; (try with_reducible rfl)
              (try simp only [Act.put, lsA, lsB, lsC])
              refine Draws.take 32 (v := ?v58) HS.out rfl (by kernel_rfl) (fun _ _ _ h => h) (Or.inl ⟨rfl, ?h58⟩) ?r58
              case h58 => intro w' hw'; go_simp; (try with_reducible rfl)
              (try simp only [Act.put, lsA, lsB, lsC])
              refine Draws.take 33 (v := ?v59) HS.out rfl (by kernel_rfl) (fun _ _ _ h => h) (Or.inl ⟨rfl, ?h59⟩) ?r59
              case h59 => intro w' hw'; go_simp; (try with_reducible rfl)
              (try simp only [Act.put, lsA, lsB, lsC])
              refine Draws.take 34 HS.out rfl (by kernel_rfl) (fun _ _ _ h => h) (yield_eql (b := true) (beq_self_eq_true _) _ _ _ rfl rfl rfl rfl) ?_
              (try simp only [Act.put, lsA, lsB, lsC])
              refine Draws.take 35 (v := ?v60) HS.out rfl (by kernel_rfl) (fun _ _ _ h => h) (Or.inl ⟨rfl, ?h60⟩) ?r60
              case h60 => intro w' hw'; go_simp; (try with_reducible rfl)
              (try simp only [Act.put, lsA, lsB, lsC])
              refine Draws.take 36 (v := ?v61) HS.out rfl (by kernel_rfl) (fun _ _ _ h => h) (Or.inl ⟨rfl, ?h61⟩) ?r61
              case h61 => intro w' hw'; go_simp; (try with_reducible rfl)
              (try simp only [Act.put, lsA, lsB, lsC])
              refine Draws.take 37 (v := ?v62) HS.out rfl (by kernel_rfl) (fun _ _ _ h => h) (Or.inl ⟨rfl, ?h62⟩) ?r62
              case h62 => intro w' hw'; go_simp; (try with_reducible rfl)
              (try simp only [Act.put, lsA, lsB, lsC])
              refine Draws.take 38 (v := ?v63) HS.out rfl (by kernel_rfl) (fun _ _ _ h => h) (Or.inl ⟨rfl, ?h63⟩) ?r63
              case h63 => intro w' hw'; go_simp; (try with_reducible rfl)
              (try simp only [Act.put, lsA, lsB, lsC])
              refine Draws.take 39 HS.out rfl (by kernel_rfl) (fun _ _ _ h => h) (yield_eqB (b := true) (beq_self_eq_true _) _ _ _ rfl rfl rfl rfl) ?_
              (try simp only [Act.put, lsA, lsB, lsC])
              refine Draws.take 40 (v := ?v64) HS.out rfl (by kernel_rfl) (fun _ _ _ h => h) (Or.inl ⟨rfl, ?h64⟩) ?r64
              case h64 => intro w' hw'; go_simp; (try with_reducible rfl)
              (try simp only [Act.put, lsA, lsB, lsC])
              refine Draws.take 41 (v := ?v65) HS.out rfl (by kernel_rfl) (fun _ _ _ h => h) (Or.inl ⟨rfl, ?h65⟩) ?r65
              case h65 => intro w' hw'; go_simp; (try with_reducible rfl)
              (try simp only [Act.put, lsA, lsB, lsC])
              refine Draws.does 42 rfl (by kernel_rfl) rfl (fun K' hK => ?_)
              go_simp
              go_at_call 9
              refine (awake_any _).mono ?_
              rintro e u ⟨rfl, hb⟩
              (try dsimp only)
              have hk := HS.out.call hb; clear hb
              clear HS; have HS := Lib.hid (show (fun u => Kg w (fun _ => False) [Th.cel bp 24 p1.cells] [] u) _ from hk); clear hk
              refine hK.out _ _ (fun _ => HS.out) ?_
              clear hK K'
              (try simp only [Act.put, lsA, lsB, lsC])
              refine Draws.take 43 (v := ?v66) HS.out rfl (by kernel_rfl) (fun _ _ _ h => h) (Or.inl ⟨rfl, ?h66⟩) ?r66
              case h66 => intro w' hw'; go_simp; (try with_reducible rfl)
              (try simp only [Act.put, lsA, lsB, lsC])
              refine Draws.take 44 (v := ?v67) HS.out rfl (by kernel_rfl) (fun _ _ _ h => h) (Or.inl ⟨rfl, ?h67⟩) ?r67
              case h67 => intro w' hw'; go_simp; (try with_reducible rfl)
              (try simp only [Act.put, lsA, lsB, lsC])
              refine Draws.done (by kernel_rfl) ?_
              clear HK; have HK := Lib.hid (show (fun u => Kg w (fun _ => False) [Th.cel bp 24 p1.cells] [] u) _ from HS.out); clear HS
              go_wp2
              go_ret
              exact ⟨rfl, HK.out.mf.bel⟩
            | false =>
              have G2 := no_list g2
              cases g3 : eqS s2 p1.ot with
              | true =>
                have G3 : (s2.toList == p1.ot.toList) = true := g3
                have HT : touchB p1 s2 = true := by rw [touchB, g1, g2, g3]; rfl
                simp only [HT] at htp; clear g1 g2 g3 HT
                go_wp2
                refine Draws.start (S := fun u => Kg w (fun _ => False) [Th.cel bp 24 p1.cells] [] u) (n := 19) 19 rfl (by kernel_rfl) ?_
                have HS := Lib.hid (show (fun u => Kg w (fun _ => False) [Th.cel bp 24 p1.cells] [] u) (World.drew _) from HK.out.drew)
                refine Draws.take 0 HS.out rfl (by kernel_rfl) (fun _ _ _ h => h) (yield_kr Tryz.underlying24 rfl p_info (fun _ h => (h.celAt 0 rfl).range Pl.all) _ rfl rfl rfl) ?_
                (try simp only [Act.put, lsA, lsB, lsC])
                refine Draws.take 1 (v := ?v68) HS.out rfl (by kernel_rfl) (fun _ _ _ h => h) (Or.inl ⟨rfl, ?h68⟩) ?r68
                case h68 => intro w' hw'; go_simp; (try with_reducible rfl)
                (try simp only [Act.put, lsA, lsB, lsC])
                refine Draws.take 3 (v := ?v69) HS.out rfl (by kernel_rfl) (fun _ _ _ h => h) (Or.inl ⟨rfl, ?h69⟩) ?r69
                case h69 => intro w' hw'; go_simp; (try with_reducible rfl)
                (try simp only [Act.put, lsA, lsB, lsC])
                refine Draws.take 4 (v := ?v70) HS.out rfl (by kernel_rfl) (fun _ _ _ h => h) (Or.inl ⟨rfl, ?h70⟩) ?r70
                case h70 => intro w' hw'; go_simp; (try with_reducible rfl)
                (try simp only [Act.put, lsA, lsB, lsC])
                refine Draws.take 5 HS.out rfl (by kernel_rfl) (fun _ _ _ h => h) (yield_k ckS (fun _ h => (h.celAt 0 rfl).cell Pl.c1) _ rfl rfl rfl) ?_
                (try simp only [Act.put, lsA, lsB, lsC])
                refine Draws.take 6 HS.out rfl (by kernel_rfl) (fun _ _ _ h => h) (yield_eqS G1 _ _ _ rfl rfl rfl rfl) ?_
                (try simp only [Act.put, lsA, lsB, lsC])
                refine Draws.does 2 rfl (by kernel_rfl) rfl (fun K' hK => ?_)
                go_simp
                go_at_call 13
                refine (htp _).mono ?_
                rintro e u ⟨rfl, hb⟩
                (try dsimp only)
                have hk := HS.out.call hb; clear hb
                clear HS; have HS := Lib.hid (show (fun u => Kg w (fun _ => False) [Th.cel bp 24 p1.cells] [] u) _ from hk); clear hk
                refine hK.out _ _ (fun _ => HS.out) ?_
                clear hK K'
                (try simp only [Act.put, lsA, lsB, lsC])
                refine Draws.take 7 (v := ?v71) HS.out rfl (by kernel_rfl) (fun _ _ _ h => h) (Or.inl ⟨rfl, ?h71⟩) ?r71
                case h71 => intro w' hw'; go_simp; (try with_reducible rfl)
                (try simp only [Act.put, lsA, lsB, lsC])
                refine Draws.take 8 (v := ?v72) HS.out rfl (by kernel_rfl) (fun _ _ _ h => h) (Or.inl ⟨rfl, ?h72⟩) ?r72
                case h72 => intro w' hw'; go_simp; (try with_reducible rfl)
                (try simp only [Act.put, lsA, lsB, lsC])
                refine Draws.take 9 HS.out rfl (by kernel_rfl) (fun _ _ _ h => h) (yield_k ckS (fun _ h => (h.celAt 0 rfl).cell Pl.c2) _ rfl rfl rfl) ?_
                (try simp only [Act.put, lsA, lsB, lsC])
                refine Draws.take 10 HS.out rfl (by kernel_rfl) (fun _ _ _ h => h) (yield_neS G2.1 _ _ _ rfl rfl rfl rfl) ?_
                (try simp only [Act.put, lsA, lsB, lsC])
                refine Draws.take 11 (v := ?v73) HS.out rfl (by kernel_rfl) (fun _ _ _ h => h) (Or.inl ⟨rfl, ?h73⟩) ?r73
                case h73 => intro w' hw'; go_simp; (try with_reducible rfl)
                (try simp only [Act.put, lsA, lsB, lsC])
                refine Draws.take 12 (v := ?v74) HS.out rfl (by kernel_rfl) (fun _ _ _ h => h) (Or.inl ⟨rfl, ?h74⟩) ?r74
                case h74 => intro w' hw'; go_simp; (try with_reducible rfl)
                (try simp only [Act.put, lsA, lsB, lsC])
                refine Draws.take 13 (v := ?v75) HS.out rfl (by kernel_rfl) (fun _ _ _ h => h) (Or.inl ⟨rfl, ?h75⟩) ?r75
                case h75 => intro w' hw'; go_simp; (try with_reducible rfl)
                (try simp only [Act.put, lsA, lsB, lsC])
                refine Draws.take 14 HS.out rfl (by kernel_rfl) (fun _ _ _ h => h) (yield_k ckS (fun _ h => (h.celAt 0 rfl).cell Pl.c2) _ rfl rfl rfl) ?_
                (try simp only [Act.put, lsA, lsB, lsC])
                refine Draws.take 15 HS.out rfl (by kernel_rfl) (fun _ _ _ h => h) (yield_eqS G3 _ _ _ rfl rfl rfl rfl) ?_
                (try simp only [Act.put, lsA, lsB, lsC])
                refine Draws.take 16 (v := ?v76) HS.out rfl (by kernel_rfl) (fun _ _ _ h => h) (Or.inl ⟨rfl, ?h76⟩) ?r76
                case h76 => intro w' hw'; go_simp; (try with_reducible rfl)
                (try simp only [Act.put, lsA, lsB, lsC])
                refine Draws.take 17 (v := ?v77) HS.out rfl (by kernel_rfl) (fun _ _ _ h => h) (Or.inl ⟨rfl, ?h77⟩) ?r77
                case h77 => intro w' hw'; go_simp; (try with_reducible rfl)
                (try simp only [Act.put, lsA, lsB, lsC])
                refine Draws.take 18 HS.out rfl (by kernel_rfl) (fun _ _ _ h => h) (yield_neB (b := true) rfl _ _ _ rfl rfl rfl rfl) ?_
                (try simp only [Act.put, lsA, lsB, lsC])
                refine Draws.done (by kernel_rfl) ?_
                clear HK; have HK := Lib.hid (show (fun u => Kg w (fun _ => False) [Th.cel bp 24 p1.cells] [] u) _ from HS.out); clear HS
                go_wp2
                refine Draws.start (S := fun u => Kg w (fun _ => False) [Th.cel bp 24 p1.cells] [] u) (n := 45) 45 rfl (by kernel_rfl) ?_
                have HS := Lib.hid (show (fun u => Kg w (fun _ => False) [Th.cel bp 24 p1.cells] [] u) (World.drew _) from HK.out.drew)
                refine Draws.take 0 (v := ?v78) HS.out rfl (by kernel_rfl) (fun _ _ _ h => h) (Or.inl ⟨rfl, ?h78⟩) ?r78
                case h78 => intro w' hw'; go_simp; (try with_reducible rfl)
                (try simp only [Act.put, lsA, lsB, lsC])
                refine Draws.take 2 (v := ?v79) HS.out rfl (by kernel_rfl) (fun _ _ _ h => h) (Or.inl ⟨rfl, ?h79⟩) ?r79
                case h79 => intro w' hw'; go_simp; (try with_reducible rfl)
                (try simp only [Act.put, lsA, lsB, lsC])
                refine Draws.does 1 rfl (by kernel_rfl) rfl (fun K' hK => ?_)
                go_simp
                go_at_call 14
                refine (hfd _ (HD.out.below HS.out.mf.bel)).mono ?_
                rintro e u ⟨rfl, hb⟩
                (try dsimp only)
                have hk := HS.out.call hb; clear hb
                clear HS; have HS := Lib.hid (show (fun u => Kg w (fun _ => False) [Th.cel bp 24 p1.cells] [] u) _ from hk); clear hk
                refine hK.out _ _ (fun _ => HS.out) ?_
                clear hK K'
                (try simp only [Act.put, lsA, lsB, lsC])
                refine Draws.does 3 rfl (by kernel_rfl) rfl (fun K' hK => ?_)
                go_simp
                go_at_call 15
                refine (hrf _ (HD.out.below HS.out.mf.bel)).mono ?_
                rintro e u ⟨rfl, hb⟩
                (try dsimp only)
                have hk := HS.out.call hb; clear hb
                clear HS; have HS := Lib.hid (show (fun u => Kg w (fun _ => False) [Th.cel bp 24 p1.cells] [] u) _ from hk); clear hk
                refine hK.out _ _ (fun _ => HS.out) ?_
                clear hK K'
                (try simp only [Act.put, lsA, lsB, lsC])
                refine Draws.take 4 HS.out rfl (by kernel_rfl) (fun _ _ _ h => h) (yield_eqB (b := true) (beq_self_eq_true _) _ _ _ rfl rfl rfl rfl) ?_
                (try simp only [Act.put, lsA, lsB, lsC])
                refine Draws.take 5 (v := ?v80) HS.out rfl (by kernel_rfl) (fun _ _ _ h => h) (Or.inl ⟨rfl, ?h80⟩) ?r80
                case h80 => intro w' hw'; go_simp; (try with_reducible rfl)
                (try simp only [Act.put, lsA, lsB, lsC])
                refine Draws.take 6 HS.out rfl (by kernel_rfl) (fun _ _ _ h => h) (yield_kr Tryz.underlying24 rfl p_info (fun _ h => (h.celAt 0 rfl).range Pl.all) _ rfl rfl rfl) ?_
                (try simp only [Act.put, lsA, lsB, lsC])
                refine Draws.take 8 HS.out rfl (by kernel_rfl) (fun _ _ _ h => h) (yield_kr Tryz.underlying24 rfl p_info (fun _ h => (h.celAt 0 rfl).range Pl.all) _ rfl rfl rfl) ?_
                (try simp only [Act.put, lsA, lsB, lsC])
                refine Draws.does 7 rfl (by kernel_rfl) rfl (fun K' hK => ?_)
                go_simp
                go_at_call 16
                refine (hpr _).mono ?_
                rintro e u ⟨rfl, hb⟩
                (try dsimp only)
                have hk := HS.out.call hb; clear hb
                clear HS; have HS := Lib.hid (show (fun u => Kg w (fun _ => False) [Th.cel bp 24 p1.cells] [] u) _ from hk); clear hk
                refine hK.out _ _ (fun _ => HS.out) ?_
                clear hK K'
                (try simp only [Act.put, lsA, lsB, lsC])
                refine Draws.does 9 rfl (by kernel_rfl) rfl (fun K' hK => ?_)
                go_simp
                go_at_call 17
                refine (hrp _).mono ?_
                rintro e u ⟨rfl, hb⟩
                (try dsimp only)
                have hk := HS.out.call hb; clear hb
                clear HS; have HS := Lib.hid (show (fun u => Kg w (fun _ => False) [Th.cel bp 24 p1.cells] [] u) _ from hk); clear hk
                refine hK.out _ _ (fun _ => HS.out) ?_
                clear hK K'
                (try simp only [Act.put, lsA, lsB, lsC])
                refine Draws.take 10 HS.out rfl (by kernel_rfl) (fun _ _ _ h => h) (yield_eqB (b := true) (beq_self_eq_true _) _ _ _ rfl rfl rfl rfl) ?_
                (try simp only [Act.put, lsA, lsB, lsC])
                refine Draws.take 11 (v := ?v81) HS.out rfl (by kernel_rfl) (fun _ _ _ h => h) (Or.inl ⟨rfl, ?h81⟩) ?r81
                case h81 => intro w' hw'; go_simp; (try with_reducible rfl)
                (try simp only [Act.put, lsA, lsB, lsC])
                refine Draws.take 12 (v := ?v82) HS.out rfl (by kernel_rfl) (fun _ _ _ h => h) (Or.inl ⟨rfl, ?h82⟩) ?r82
                case h82 => intro w' hw'; go_simp; (try with_reducible rfl)
                (try simp only [Act.put, lsA, lsB, lsC])
                refine Draws.take 13 (v := ?v83) HS.out rfl (by kernel_rfl) (fun _ _ _ h => h) (Or.inl ⟨rfl, ?h83⟩) ?r83
                case h83 => intro w' hw'; go_simp; (try with_reducible rfl)
                (try simp only [Act.put, lsA, lsB, lsC])
                refine Draws.take 14 HS.out rfl (by kernel_rfl) (fun _ _ _ h => h) (yield_kr Tryz.underlying24 rfl p_info (fun _ h => (h.celAt 0 rfl).range Pl.all) _ rfl rfl rfl) ?_
                (try simp only [Act.put, lsA, lsB, lsC])
                refine Draws.take 16 (v := ?v84) HS.out rfl (by kernel_rfl) (fun _ _ _ h => h) (Or.inl ⟨rfl, ?h84⟩) ?r84
                case h84 => intro w' hw'; go_simp; (try with_reducible rfl)
                (try simp only [Act.put, lsA, lsB, lsC])
                refine Draws.take 17 HS.out rfl (by kernel_rfl) (fun _ _ _ h => h) (yield_kr Tryz.underlying24 rfl p_info (fun _ h => (h.celAt 0 rfl).range Pl.all) _ rfl rfl rfl) ?_
                (try simp only [Act.put, lsA, lsB, lsC])
                refine Draws.does 15 rfl (by kernel_rfl) rfl (fun K' hK => ?_)
                go_simp
                go_at_call 18
                refine (hft _ (HD.out.below HS.out.mf.bel)).mono ?_
                rintro e u ⟨rfl, hb⟩
                (try dsimp only)
                have hk := HS.out.call hb; clear hb
                clear HS; have HS := Lib.hid (show (fun u => Kg w (fun _ => False) [Th.cel bp 24 p1.cells] [] u) _ from hk); clear hk
                refine hK.out _ _ (fun _ => HS.out) ?_
                clear hK K'
                (try simp only [Act.put, lsA, lsB, lsC])
                refine Draws.does 18 rfl (by kernel_rfl) rfl (fun K' hK => ?_)
                go_simp
                go_at_call 19
                refine (hrt _ (HD.out.below HS.out.mf.bel)).mono ?_
                rintro e u ⟨rfl, hb⟩
                (try dsimp only)
                have hk := HS.out.call hb; clear hb
                clear HS; have HS := Lib.hid (show (fun u => Kg w (fun _ => False) [Th.cel bp 24 p1.cells] [] u) _ from hk); clear hk
                refine hK.out _ _ (fun _ => HS.out) ?_
                clear hK K'
                (try simp only [Act.put, lsA, lsB, lsC])
                refine Draws.take 19 HS.out rfl (by kernel_rfl) (fun _ _ _ h => h) (yield_eqE (b := true) (beq_self_eq_true _) _ _ _ rfl rfl rfl rfl) ?_
                (try simp only [Act.put, lsA, lsB, lsC])
                refine Draws.take 20 (v := ?v85) HS.out rfl (by kernel_rfl) (fun _ _ _ h => h) (Or.inl ⟨rfl, ?h85⟩) ?r85
                case h85 => intro w' hw'; go_simp; (try with_reducible rfl)
                (try simp only [Act.put, lsA, lsB, lsC])
                refine Draws.take 21 (v := ?v86) HS.out rfl (by kernel_rfl) (fun _ _ _ h => h) (Or.inl ⟨rfl, ?h86⟩) ?r86
                case h86 => intro w' hw'; go_simp; (try with_reducible rfl)
                (try simp only [Act.put, lsA, lsB, lsC])
                refine Draws.take 22 (v := ?v87) HS.out rfl (by kernel_rfl) (fun _ _ _ h => h) (Or.inl ⟨rfl, ?h87⟩) ?r87
                case h87 => intro w' hw'; go_simp; (try with_reducible rfl)
                (try simp only [Act.put, lsA, lsB, lsC])
                refine Draws.take 23 (v := ?v88) HS.out rfl (by kernel_rfl) (fun _ _ _ h => h) (Or.inl ⟨rfl, ?h88⟩) ?r88
                case h88 => intro w' hw'; go_simp; (try with_reducible rfl)
                (try simp only [Act.put, lsA, lsB, lsC])
                refine Draws.take 24 HS.out rfl (by kernel_rfl) (fun _ _ _ h => h) (yield_eql (b := true) (beq_self_eq_true _) _ _ _ rfl rfl rfl rfl) ?_
                (try simp only [Act.put, lsA, lsB, lsC])
                refine Draws.take 25 (v := ?v89) HS.out rfl (by kernel_rfl) (fun _ _ _ h => h) (Or.inl ⟨rfl, ?h89⟩) ?r89
                case h89 => intro w' hw'; go_simp; (try with_reducible rfl)
                (try simp only [Act.put, lsA, lsB, lsC])
                refine Draws.take 26 (v := ?v90) HS.out rfl (by kernel_rfl) (fun _ _ _ h => h) (Or.inl ⟨rfl, ?h90⟩) ?r90
                case h90 => intro w' hw'; go_simp; (try with_reducible rfl)
                (try simp only [Act.put, lsA, lsB, lsC])
                refine Draws.take 27 (v := ?v91) HS.out rfl (by kernel_rfl) (fun _ _ _ h => h) (Or.inl ⟨rfl, ?h91⟩) ?r91
                case h91 => intro w' hw'; go_simp; (try with_reducible rfl)
                (try simp only [Act.put, lsA, lsB, lsC])
                refine Draws.take 28 (v := ?v92) HS.out rfl (by kernel_rfl) (fun _ _ _ h => h) (Or.inl ⟨rfl, ?h92⟩) ?r92
                case h92 => intro w' hw'; go_simp; (try with_reducible rfl)
                (try simp only [Act.put, lsA, lsB, lsC])
                refine Draws.take 29 HS.out rfl (by kernel_rfl) (fun _ _ _ h => h) (yield_eqE (b := true) (beq_self_eq_true _) _ _ _ rfl rfl rfl rfl) ?_
                (try simp only [Act.put, lsA, lsB, lsC])
                refine Draws.take 30 (v := ?v93) HS.out rfl (by kernel_rfl) (fun _ _ _ h => h) (Or.inl ⟨rfl, ?h93⟩) ?r93
                case h93 => intro w' hw'; go_simp; (try with_reducible rfl)
                (try simp only [Act.put, lsA, lsB, lsC])
                refine Draws.take 31 (v := ?v94) HS.out rfl (by kernel_rfl) (fun _ _ _ h => h) (Or.inl ⟨rfl, ?h94⟩) ?r94
                case h94 => intro w' hw'; go_simp; (try with_reducible rfl)
                (try simp only [Act.put, lsA, lsB, lsC])
                refine Draws.take 32 (v := ?v95) HS.out rfl (by kernel_rfl) (fun _ _ _ h => h) (Or.inl ⟨rfl, ?h95⟩) ?r95
                case h95 => intro w' hw'; go_simp; (try with_reducible rfl)
                (try simp only [Act.put, lsA, lsB, lsC])
                refine Draws.take 33 (v := ?v96) HS.out rfl (by kernel_rfl) (fun _ _ _ h => h) (Or.inl ⟨rfl, ?h96⟩) ?r96
                case h96 => intro w' hw'; go_simp; (try with_reducible rfl)
                (try simp only [Act.put, lsA, lsB, lsC])
                refine Draws.take 34 HS.out rfl (by kernel_rfl) (fun _ _ _ h => h) (yield_eql (b := true) (beq_self_eq_true _) _ _ _ rfl rfl rfl rfl) ?_
                (try simp only [Act.put, lsA, lsB, lsC])
                refine Draws.take 35 (v := ?v97) HS.out rfl (by kernel_rfl) (fun _ _ _ h => h) (Or.inl ⟨rfl, ?h97⟩) ?r97
                case h97 => intro w' hw'; go_simp; (try with_reducible rfl)
                (try simp only [Act.put, lsA, lsB, lsC])
                refine Draws.take 36 (v := ?v98) HS.out rfl (by kernel_rfl) (fun _ _ _ h => h) (Or.inl ⟨rfl, ?h98⟩) ?r98
                case h98 => intro w' hw'; go_simp; (try with_reducible rfl)
                (try simp only [Act.put, lsA, lsB, lsC])
                refine Draws.take 37 (v := ?v99) HS.out rfl (by kernel_rfl) (fun _ _ _ h => h) (Or.inl ⟨rfl, ?h99⟩) ?r99
                case h99 => intro w' hw'; go_simp; (try with_reducible rfl)
                (try simp only [Act.put, lsA, lsB, lsC])
                refine Draws.take 38 (v := ?v100) HS.out rfl (by kernel_rfl) (fun _ _ _ h => h) (Or.inl ⟨rfl, ?h100⟩) ?r100
                case h100 => intro w' hw'; go_simp; (try with_reducible rfl)
                (try simp only [Act.put, lsA, lsB, lsC])
                refine Draws.take 39 HS.out rfl (by kernel_rfl) (fun _ _ _ h => h) (yield_eqB (b := true) (beq_self_eq_true _) _ _ _ rfl rfl rfl rfl) ?_
                (try simp only [Act.put, lsA, lsB, lsC])
                refine Draws.take 40 (v := ?v101) HS.out rfl (by kernel_rfl) (fun _ _ _ h => h) (Or.inl ⟨rfl, ?h101⟩) ?r101
                case h101 => intro w' hw'; go_simp; (try with_reducible rfl)
                (try simp only [Act.put, lsA, lsB, lsC])
                refine Draws.take 41 (v := ?v102) HS.out rfl (by kernel_rfl) (fun _ _ _ h => h) (Or.inl ⟨rfl, ?h102⟩) ?r102
                case h102 => intro w' hw'; go_simp; (try with_reducible rfl)
                (try simp only [Act.put, lsA, lsB, lsC])
                refine Draws.does 42 rfl (by kernel_rfl) rfl (fun K' hK => ?_)
                go_simp
                go_at_call 9
                refine (awake_any _).mono ?_
                rintro e u ⟨rfl, hb⟩
                (try dsimp only)
                have hk := HS.out.call hb; clear hb
                clear HS; have HS := Lib.hid (show (fun u => Kg w (fun _ => False) [Th.cel bp 24 p1.cells] [] u) _ from hk); clear hk
                refine hK.out _ _ (fun _ => HS.out) ?_
                clear hK K'
                (try simp only [Act.put, lsA, lsB, lsC])
                refine Draws.take 43 (v := ?v103) HS.out rfl (by kernel_rfl) (fun _ _ _ h => h) (Or.inl ⟨rfl, ?h103⟩) ?r103
                case h103 => intro w' hw'; go_simp; (try with_reducible rfl)
                (try simp only [Act.put, lsA, lsB, lsC])
                refine Draws.take 44 (v := ?v104) HS.out rfl (by kernel_rfl) (fun _ _ _ h => h) (Or.inl ⟨rfl, ?h104⟩) ?r104
                case h104 => intro w' hw'; go_simp; (try with_reducible rfl)
                (try simp only [Act.put, lsA, lsB, lsC])
                refine Draws.done (by kernel_rfl) ?_
                clear HK; have HK := Lib.hid (show (fun u => Kg w (fun _ => False) [Th.cel bp 24 p1.cells] [] u) _ from HS.out); clear HS
                go_wp2
                go_ret
                exact ⟨rfl, HK.out.mf.bel⟩
              | false =>
                have G3 : (s2.toList == p1.ot.toList) = false := g3
                have HT : touchB p1 s2 = false := by rw [touchB, g1, g2, g3]; rfl
                simp only [HT] at htp; clear g1 g2 g3 HT
                go_wp2
                refine Draws.start (S := fun u => Kg w (fun _ => False) [Th.cel bp 24 p1.cells] [] u) (n := 19) 19 rfl (by kernel_rfl) ?_
                have HS := Lib.hid (show (fun u => Kg w (fun _ => False) [Th.cel bp 24 p1.cells] [] u) (World.drew _) from HK.out.drew)
                refine Draws.take 0 HS.out rfl (by kernel_rfl) (fun _ _ _ h => h) (yield_kr Tryz.underlying24 rfl p_info (fun _ h => (h.celAt 0 rfl).range Pl.all) _ rfl rfl rfl) ?_
                (try simp only [Act.put, lsA, lsB, lsC])
                refine Draws.take 1 (v := ?v105) HS.out rfl (by kernel_rfl) (fun _ _ _ h => h) (Or.inl ⟨rfl, ?h105⟩) ?r105
                case h105 => intro w' hw'; go_simp; (try with_reducible rfl)
                (try simp only [Act.put, lsA, lsB, lsC])
                refine Draws.take 3 (v := ?v106) HS.out rfl (by kernel_rfl) (fun _ _ _ h => h) (Or.inl ⟨rfl, ?h106⟩) ?r106
                case h106 => intro w' hw'; go_simp; (try with_reducible rfl)
                (try simp only [Act.put, lsA, lsB, lsC])
                refine Draws.take 4 (v := ?v107) HS.out rfl (by kernel_rfl) (fun _ _ _ h => h) (Or.inl ⟨rfl, ?h107⟩) ?r107
                case h107 => intro w' hw'; go_simp; (try with_reducible rfl)
                (try simp only [Act.put, lsA, lsB, lsC])
                refine Draws.take 5 HS.out rfl (by kernel_rfl) (fun _ _ _ h => h) (yield_k ckS (fun _ h => (h.celAt 0 rfl).cell Pl.c1) _ rfl rfl rfl) ?_
                (try simp only [Act.put, lsA, lsB, lsC])
                refine Draws.take 6 HS.out rfl (by kernel_rfl) (fun _ _ _ h => h) (yield_eqS G1 _ _ _ rfl rfl rfl rfl) ?_
                (try simp only [Act.put, lsA, lsB, lsC])
                refine Draws.does 2 rfl (by kernel_rfl) rfl (fun K' hK => ?_)
                go_simp
                go_at_call 13
                refine (htp _).mono ?_
                rintro e u ⟨rfl, hb⟩
                (try dsimp only)
                have hk := HS.out.call hb; clear hb
                clear HS; have HS := Lib.hid (show (fun u => Kg w (fun _ => False) [Th.cel bp 24 p1.cells] [] u) _ from hk); clear hk
                refine hK.out _ _ (fun _ => HS.out) ?_
                clear hK K'
                (try simp only [Act.put, lsA, lsB, lsC])
                refine Draws.take 7 (v := ?v108) HS.out rfl (by kernel_rfl) (fun _ _ _ h => h) (Or.inl ⟨rfl, ?h108⟩) ?r108
                case h108 => intro w' hw'; go_simp; (try with_reducible rfl)
                (try simp only [Act.put, lsA, lsB, lsC])
                refine Draws.take 8 (v := ?v109) HS.out rfl (by kernel_rfl) (fun _ _ _ h => h) (Or.inl ⟨rfl, ?h109⟩) ?r109
                case h109 => intro w' hw'; go_simp; (try with_reducible rfl)
                (try simp only [Act.put, lsA, lsB, lsC])
                refine Draws.take 9 HS.out rfl (by kernel_rfl) (fun _ _ _ h => h) (yield_k ckS (fun _ h => (h.celAt 0 rfl).cell Pl.c2) _ rfl rfl rfl) ?_
                (try simp only [Act.put, lsA, lsB, lsC])
                refine Draws.take 10 HS.out rfl (by kernel_rfl) (fun _ _ _ h => h) (yield_neS G2.1 _ _ _ rfl rfl rfl rfl) ?_
                (try simp only [Act.put, lsA, lsB, lsC])
                refine Draws.take 11 (v := ?v110) HS.out rfl (by kernel_rfl) (fun _ _ _ h => h) (Or.inl ⟨rfl, ?h110⟩) ?r110
                case h110 => intro w' hw'; go_simp; (try with_reducible rfl)
                (try simp only [Act.put, lsA, lsB, lsC])
                refine Draws.take 12 (v := ?v111) HS.out rfl (by kernel_rfl) (fun _ _ _ h => h) (Or.inl ⟨rfl, ?h111⟩) ?r111
                case h111 => intro w' hw'; go_simp; (try with_reducible rfl)
                (try simp only [Act.put, lsA, lsB, lsC])
                refine Draws.take 13 (v := ?v112) HS.out rfl (by kernel_rfl) (fun _ _ _ h => h) (Or.inl ⟨rfl, ?h112⟩) ?r112
                case h112 => intro w' hw'; go_simp; (try with_reducible rfl)
                (try simp only [Act.put, lsA, lsB, lsC])
                refine Draws.take 14 HS.out rfl (by kernel_rfl) (fun _ _ _ h => h) (yield_k ckS (fun _ h => (h.celAt 0 rfl).cell Pl.c2) _ rfl rfl rfl) ?_
                (try simp only [Act.put, lsA, lsB, lsC])
                refine Draws.take 15 HS.out rfl (by kernel_rfl) (fun _ _ _ h => h) (yield_eqS G3 _ _ _ rfl rfl rfl rfl) ?_
                (try simp only [Act.put, lsA, lsB, lsC])
                refine Draws.take 16 (v := ?v113) HS.out rfl (by kernel_rfl) (fun _ _ _ h => h) (Or.inl ⟨rfl, ?h113⟩) ?r113
                case h113 => intro w' hw'; go_simp; (try with_reducible rfl)
                (try simp only [Act.put, lsA, lsB, lsC])
                refine Draws.take 17 (v := ?v114) HS.out rfl (by kernel_rfl) (fun _ _ _ h => h) (Or.inl ⟨rfl, ?h114⟩) ?r114
                case h114 => intro w' hw'; go_simp; (try with_reducible rfl)
                (try simp only [Act.put, lsA, lsB, lsC])
                refine Draws.take 18 HS.out rfl (by kernel_rfl) (fun _ _ _ h => h) (yield_neB (b := true) rfl _ _ _ rfl rfl rfl rfl) ?_
                (try simp only [Act.put, lsA, lsB, lsC])
                refine Draws.done (by kernel_rfl) ?_
                clear HK; have HK := Lib.hid (show (fun u => Kg w (fun _ => False) [Th.cel bp 24 p1.cells] [] u) _ from HS.out); clear HS
                go_wp2
                refine Draws.start (S := fun u => Kg w (fun _ => False) [Th.cel bp 24 p1.cells] [] u) (n := 45) 45 rfl (by kernel_rfl) ?_
                have HS := Lib.hid (show (fun u => Kg w (fun _ => False) [Th.cel bp 24 p1.cells] [] u) (World.drew _) from HK.out.drew)
                refine Draws.take 0 (v := ?v115) HS.out rfl (by kernel_rfl) (fun _ _ _ h => h) (Or.inl ⟨rfl, ?h115⟩) ?r115
                case h115 => intro w' hw'; go_simp; (try with_reducible rfl)
                (try simp only [Act.put, lsA, lsB, lsC])
                refine Draws.take 2 (v := ?v116) HS.out rfl (by kernel_rfl) (fun _ _ _ h => h) (Or.inl ⟨rfl, ?h116⟩) ?r116
                case h116 => intro w' hw'; go_simp; (try with_reducible rfl)
                (try simp only [Act.put, lsA, lsB, lsC])
                refine Draws.does 1 rfl (by kernel_rfl) rfl (fun K' hK => ?_)
                go_simp
                go_at_call 14
                refine (hfd _ (HD.out.below HS.out.mf.bel)).mono ?_
                rintro e u ⟨rfl, hb⟩
                (try dsimp only)
                have hk := HS.out.call hb; clear hb
                clear HS; have HS := Lib.hid (show (fun u => Kg w (fun _ => False) [Th.cel bp 24 p1.cells] [] u) _ from hk); clear hk
                refine hK.out _ _ (fun _ => HS.out) ?_
                clear hK K'
                (try simp only [Act.put, lsA, lsB, lsC])
                refine Draws.does 3 rfl (by kernel_rfl) rfl (fun K' hK => ?_)
                go_simp
                go_at_call 15
                refine (hrf _ (HD.out.below HS.out.mf.bel)).mono ?_
                rintro e u ⟨rfl, hb⟩
                (try dsimp only)
                have hk := HS.out.call hb; clear hb
                clear HS; have HS := Lib.hid (show (fun u => Kg w (fun _ => False) [Th.cel bp 24 p1.cells] [] u) _ from hk); clear hk
                refine hK.out _ _ (fun _ => HS.out) ?_
                clear hK K'
                (try simp only [Act.put, lsA, lsB, lsC])
                refine Draws.take 4 HS.out rfl (by kernel_rfl) (fun _ _ _ h => h) (yield_eqB (b := true) (beq_self_eq_true _) _ _ _ rfl rfl rfl rfl) ?_
                (try simp only [Act.put, lsA, lsB, lsC])
                refine Draws.take 5 (v := ?v117) HS.out rfl (by kernel_rfl) (fun _ _ _ h => h) (Or.inl ⟨rfl, ?h117⟩) ?r117
                case h117 => intro w' hw'; go_simp; (try with_reducible rfl)
                (try simp only [Act.put, lsA, lsB, lsC])
                refine Draws.take 6 HS.out rfl (by kernel_rfl) (fun _ _ _ h => h) (yield_kr Tryz.underlying24 rfl p_info (fun _ h => (h.celAt 0 rfl).range Pl.all) _ rfl rfl rfl) ?_
                (try simp only [Act.put, lsA, lsB, lsC])
                refine Draws.take 8 HS.out rfl (by kernel_rfl) (fun _ _ _ h => h) (yield_kr Tryz.underlying24 rfl p_info (fun _ h => (h.celAt 0 rfl).range Pl.all) _ rfl rfl rfl) ?_
                (try simp only [Act.put, lsA, lsB, lsC])
                refine Draws.does 7 rfl (by kernel_rfl) rfl (fun K' hK => ?_)
                go_simp
                go_at_call 16
                refine (hpr _).mono ?_
                rintro e u ⟨rfl, hb⟩
                (try dsimp only)
                have hk := HS.out.call hb; clear hb
                clear HS; have HS := Lib.hid (show (fun u => Kg w (fun _ => False) [Th.cel bp 24 p1.cells] [] u) _ from hk); clear hk
                refine hK.out _ _ (fun _ => HS.out) ?_
                clear hK K'
                (try simp only [Act.put, lsA, lsB, lsC])
                refine Draws.does 9 rfl (by kernel_rfl) rfl (fun K' hK => ?_)
                go_simp
                go_at_call 17
                refine (hrp _).mono ?_
                rintro e u ⟨rfl, hb⟩
                (try dsimp only)
                have hk := HS.out.call hb; clear hb
                clear HS; have HS := Lib.hid (show (fun u => Kg w (fun _ => False) [Th.cel bp 24 p1.cells] [] u) _ from hk); clear hk
                refine hK.out _ _ (fun _ => HS.out) ?_
                clear hK K'
                (try simp only [Act.put, lsA, lsB, lsC])
                refine Draws.take 10 HS.out rfl (by kernel_rfl) (fun _ _ _ h => h) (yield_eqB (b := true) (beq_self_eq_true _) _ _ _ rfl rfl rfl rfl) ?_
                (try simp only [Act.put, lsA, lsB, lsC])
                refine Draws.take 11 (v := ?v118) HS.out rfl (by kernel_rfl) (fun _ _ _ h => h) (Or.inl ⟨rfl, ?h118⟩) ?r118
                case h118 => intro w' hw'; go_simp; (try with_reducible rfl)
                (try simp only [Act.put, lsA, lsB, lsC])
                refine Draws.take 12 (v := ?v119) HS.out rfl (by kernel_rfl) (fun _ _ _ h => h) (Or.inl ⟨rfl, ?h119⟩) ?r119
                case h119 => intro w' hw'; go_simp; (try with_reducible rfl)
                (try simp only [Act.put, lsA, lsB, lsC])
                refine Draws.take 13 (v := ?v120) HS.out rfl (by kernel_rfl) (fun _ _ _ h => h) (Or.inl ⟨rfl, ?h120⟩) ?r120
                case h120 => intro w' hw'; go_simp; (try with_reducible rfl)
                (try simp only [Act.put, lsA, lsB, lsC])
                refine Draws.take 14 HS.out rfl (by kernel_rfl) (fun _ _ _ h => h) (yield_kr Tryz.underlying24 rfl p_info (fun _ h => (h.celAt 0 rfl).range Pl.all) _ rfl rfl rfl) ?_
                (try simp only [Act.put, lsA, lsB, lsC])
                refine Draws.take 16 (v := ?v121) HS.out rfl (by kernel_rfl) (fun _ _ _ h => h) (Or.inl ⟨rfl, ?h121⟩) ?r121
                case h121 => intro w' hw'; go_simp; (try with_reducible rfl)
                (try simp only [Act.put, lsA, lsB, lsC])
                refine Draws.take 17 HS.out rfl (by kernel_rfl) (fun _ _ _ h => h) (yield_kr Tryz.underlying24 rfl p_info (fun _ h => (h.celAt 0 rfl).range Pl.all) _ rfl rfl rfl) ?_
                (try simp only [Act.put, lsA, lsB, lsC])
                refine Draws.does 15 rfl (by kernel_rfl) rfl (fun K' hK => ?_)
                go_simp
                go_at_call 18
                refine (hft _ (HD.out.below HS.out.mf.bel)).mono ?_
                rintro e u ⟨rfl, hb⟩
                (try dsimp only)
                have hk := HS.out.call hb; clear hb
                clear HS; have HS := Lib.hid (show (fun u => Kg w (fun _ => False) [Th.cel bp 24 p1.cells] [] u) _ from hk); clear hk
                refine hK.out _ _ (fun _ => HS.out) ?_
                clear hK K'
                (try simp only [Act.put, lsA, lsB, lsC])
                refine Draws.does 18 rfl (by kernel_rfl) rfl (fun K' hK => ?_)
                go_simp
                go_at_call 19
                refine (hrt _ (HD.out.below HS.out.mf.bel)).mono ?_
                rintro e u ⟨rfl, hb⟩
                (try dsimp only)
                have hk := HS.out.call hb; clear hb
                clear HS; have HS := Lib.hid (show (fun u => Kg w (fun _ => False) [Th.cel bp 24 p1.cells] [] u) _ from hk); clear hk
                refine hK.out _ _ (fun _ => HS.out) ?_
                clear hK K'
                (try simp only [Act.put, lsA, lsB, lsC])
                refine Draws.take 19 HS.out rfl (by kernel_rfl) (fun _ _ _ h => h) (yield_eqE (b := true) (beq_self_eq_true _) _ _ _ rfl rfl rfl rfl) ?_
                (try simp only [Act.put, lsA, lsB, lsC])
                refine Draws.take 20 (v := ?v122) HS.out rfl (by kernel_rfl) (fun _ _ _ h => h) (Or.inl ⟨rfl, ?h122⟩) ?r122
                case h122 => intro w' hw'; go_simp; (try with_reducible rfl)
                (try simp only [Act.put, lsA, lsB, lsC])
                refine Draws.take 21 (v := ?v123) HS.out rfl (by kernel_rfl) (fun _ _ _ h => h) (Or.inl ⟨rfl, ?h123⟩) ?r123
                case h123 => intro w' hw'; go_simp; (try with_reducible rfl)
                (try simp only [Act.put, lsA, lsB, lsC])
                refine Draws.take 22 (v := ?v124) HS.out rfl (by kernel_rfl) (fun _ _ _ h => h) (Or.inl ⟨rfl, ?h124⟩) ?r124
                case h124 => intro w' hw'; go_simp; (try with_reducible rfl)
                (try simp only [Act.put, lsA, lsB, lsC])
                refine Draws.take 23 (v := ?v125) HS.out rfl (by kernel_rfl) (fun _ _ _ h => h) (Or.inl ⟨rfl, ?h125⟩) ?r125
                case h125 => intro w' hw'; go_simp; (try with_reducible rfl)
                (try simp only [Act.put, lsA, lsB, lsC])
                refine Draws.take 24 HS.out rfl (by kernel_rfl) (fun _ _ _ h => h) (yield_eql (b := true) (beq_self_eq_true _) _ _ _ rfl rfl rfl rfl) ?_
                (try simp only [Act.put, lsA, lsB, lsC])
                refine Draws.take 25 (v := ?v126) HS.out rfl (by kernel_rfl) (fun _ _ _ h => h) (Or.inl ⟨rfl, ?h126⟩) ?r126
                case h126 => intro w' hw'; go_simp; (try with_reducible rfl)
                (try simp only [Act.put, lsA, lsB, lsC])
                refine Draws.take 26 (v := ?v127) HS.out rfl (by kernel_rfl) (fun _ _ _ h => h) (Or.inl ⟨rfl, ?h127⟩) ?r127
                case h127 => intro w' hw'; go_simp; (try with_reducible rfl)
                (try simp only [Act.put, lsA, lsB, lsC])
                refine Draws.take 27 (v := ?v128) HS.out rfl (by kernel_rfl) (fun _ _ _ h => h) (Or.inl ⟨rfl, ?h128⟩) ?r128
                case h128 => intro w' hw'; go_simp; (try with_reducible rfl)
                (try simp only [Act.put, lsA, lsB, lsC])
                refine Draws.take 28 (v := ?v129) HS.out rfl (by kernel_rfl) (fun _ _ _ h => h) (Or.inl ⟨rfl, ?h129⟩) ?r129
                case h129 => intro w' hw'; go_simp; (try with_reducible rfl)
                (try simp only [Act.put, lsA, lsB, lsC])
                refine Draws.take 29 HS.out rfl (by kernel_rfl) (fun _ _ _ h => h) (yield_eqE (b := true) (beq_self_eq_true _) _ _ _ rfl rfl rfl rfl) ?_
                (try simp only [Act.put, lsA, lsB, lsC])
                refine Draws.take 30 (v := ?v130) HS.out rfl (by kernel_rfl) (fun _ _ _ h => h) (Or.inl ⟨rfl, ?h130⟩) ?r130
                case h130 => intro w' hw'; go_simp; (try with_reducible rfl)
                (try simp only [Act.put, lsA, lsB, lsC])
                refine Draws.take 31 (v := ?v131) HS.out rfl (by kernel_rfl) (fun _ _ _ h => h) (Or.inl ⟨rfl, ?h131⟩) ?r131
                case h131 => intro w' hw'; go_simp; (try with_reducible rfl)
                (try simp only [Act.put, lsA, lsB, lsC])
                refine Draws.take 32 (v := ?v132) HS.out rfl (by kernel_rfl) (fun _ _ _ h => h) (Or.inl ⟨rfl, ?h132⟩) ?r132
                case h132 => intro w' hw'; go_simp; (try with_reducible rfl)
                (try simp only [Act.put, lsA, lsB, lsC])
                refine Draws.take 33 (v := ?v133) HS.out rfl (by kernel_rfl) (fun _ _ _ h => h) (Or.inl ⟨rfl, ?h133⟩) ?r133
                case h133 => intro w' hw'; go_simp; (try with_reducible rfl)
                (try simp only [Act.put, lsA, lsB, lsC])
                refine Draws.take 34 HS.out rfl (by kernel_rfl) (fun _ _ _ h => h) (yield_eql (b := true) (beq_self_eq_true _) _ _ _ rfl rfl rfl rfl) ?_
                (try simp only [Act.put, lsA, lsB, lsC])
                refine Draws.take 35 (v := ?v134) HS.out rfl (by kernel_rfl) (fun _ _ _ h => h) (Or.inl ⟨rfl, ?h134⟩) ?r134
                case h134 => intro w' hw'; go_simp; (try with_reducible rfl)
                (try simp only [Act.put, lsA, lsB, lsC])
                refine Draws.take 36 (v := ?v135) HS.out rfl (by kernel_rfl) (fun _ _ _ h => h) (Or.inl ⟨rfl, ?h135⟩) ?r135
                case h135 => intro w' hw'; go_simp; (try with_reducible rfl)
                (try simp only [Act.put, lsA, lsB, lsC])
                refine Draws.take 37 (v := ?v136) HS.out rfl (by kernel_rfl) (fun _ _ _ h => h) (Or.inl ⟨rfl, ?h136⟩) ?r136
                case h136 => intro w' hw'; go_simp; (try with_reducible rfl)
                (try simp only [Act.put, lsA, lsB, lsC])
                refine Draws.take 38 (v := ?v137) HS.out rfl (by kernel_rfl) (fun _ _ _ h => h) (Or.inl ⟨rfl, ?h137⟩) ?r137
                case h137 => intro w' hw'; go_simp; (try with_reducible rfl)
                (try simp only [Act.put, lsA, lsB, lsC])
                refine Draws.take 39 HS.out rfl (by kernel_rfl) (fun _ _ _ h => h) (yield_eqB (b := true) (beq_self_eq_true _) _ _ _ rfl rfl rfl rfl) ?_
                (try simp only [Act.put, lsA, lsB, lsC])
                refine Draws.take 40 (v := ?v138) HS.out rfl (by kernel_rfl) (fun _ _ _ h => h) (Or.inl ⟨rfl, ?h138⟩) ?r138
                case h138 => intro w' hw'; go_simp; (try with_reducible rfl)
                (try simp only [Act.put, lsA, lsB, lsC])
                refine Draws.take 41 (v := ?v139) HS.out rfl (by kernel_rfl) (fun _ _ _ h => h) (Or.inl ⟨rfl, ?h139⟩) ?r139
                case h139 => intro w' hw'; go_simp; (try with_reducible rfl)
                (try simp only [Act.put, lsA, lsB, lsC])
                refine Draws.does 42 rfl (by kernel_rfl) rfl (fun K' hK => ?_)
                go_simp
                go_at_call 9
                refine (awake_any _).mono ?_
                rintro e u ⟨rfl, hb⟩
                (try dsimp only)
                have hk := HS.out.call hb; clear hb
                clear HS; have HS := Lib.hid (show (fun u => Kg w (fun _ => False) [Th.cel bp 24 p1.cells] [] u) _ from hk); clear hk
                refine hK.out _ _ (fun _ => HS.out) ?_
                clear hK K'
                (try simp only [Act.put, lsA, lsB, lsC])
                refine Draws.take 43 (v := ?v140) HS.out rfl (by kernel_rfl) (fun _ _ _ h => h) (Or.inl ⟨rfl, ?h140⟩) ?r140
                case h140 => intro w' hw'; go_simp; (try with_reducible rfl)
                (try simp only [Act.put, lsA, lsB, lsC])
                refine Draws.take 44 (v := ?v141) HS.out rfl (by kernel_rfl) (fun _ _ _ h => h) (Or.inl ⟨rfl, ?h141⟩) ?r141
                case h141 => intro w' hw'; go_simp; (try with_reducible rfl)
                (try simp only [Act.put, lsA, lsB, lsC])
                refine Draws.done (by kernel_rfl) ?_
                clear HK; have HK := Lib.hid (show (fun u => Kg w (fun _ => False) [Th.cel bp 24 p1.cells] [] u) _ from HS.out); clear HS
                go_wp2
                go_ret
                exact ⟨rfl, HK.out.mf.bel⟩
        | succ k =>
          obtain rfl : z = (k : Int) := by omega
          have HAB := Lib.hid hab
          have hlt : k < n0 := by omega
          obtain ⟨x, hx⟩ := HD.out.get hlt
          obtain ⟨b1, off, rfl, hr⟩ := HD.out.base (by omega)
          have HX := Lib.hid hx
          have HF := Lib.hid (HD.out.full hx)
          have HR := Lib.hid (rng0 (hr k x hx))
          have i1 : (0 : Int) ≤ (k : Int) := by omega
          have i2 : (k : Int) < (n0 : Int) := by omega
          clear hr hx hab hz
          cases g1 : eqS x.1.nm s2 with
          | true =>
            have G1 : (x.1.nm.toList == s2.toList) = true := g1
            have HG1 := Lib.hid g1; clear g1
            go_wp2_with (first
              | (with_reducible refine load_kt ckS _ rfl ((HK.out.mf.bel.cell (cell_lt HR.out)).trans HR.out) rfl rfl ?_))
            go_roundw
            case rel => exact ⟨k, (k : Int) - 1, by omega, rfl, by go_num, .inr ⟨k, x, rfl, rfl, Nat.le_refl _, HX.out, HG1.out, fun j y h1 h2 => by omega⟩, HK.out⟩
            case measure => simp [intOf] <;> omega
          | false =>
            have G1 : (x.1.nm.toList == s2.toList) = false := g1
            have HG1 := Lib.hid g1; clear g1
            go_wp2_with (first
              | (with_reducible refine load_kt ckS _ rfl ((HK.out.mf.bel.cell (cell_lt HR.out)).trans HR.out) rfl rfl ?_))
            go_roundw
            case rel =>
              refine ⟨k, (k : Int) - 1, by omega, rfl, by go_num, ?_, HK.out⟩
              have hst : ∀ (j : Nat) (y : Q), k ≤ j → (k + 1 ≤ j → eqS y.1.nm s2 = false) → q0[j]? = some y → eqS y.1.nm s2 = false := fun j y h1 h2 hy => by
                rcases Nat.lt_or_ge k j with h3 | h3
                · exact h2 h3
                · obtain rfl : k = j := by omega
                  rw [HX.out] at hy
                  injection hy with hy
                  rw [← hy]; exact HG1.out
              rcases HAB.out with ⟨h1, h2, h3⟩ | ⟨k', x', h1, h2, h3, h4, h5, h6⟩
              · exact .inl ⟨h1, h2, fun j y hj hy => hst j y hj (fun hj' => h3 j y hj' hy) hy⟩
              · exact .inr ⟨k', x', h1, h2, by omega, h4, h5, fun j y hj hjk hy => hst j y hj (fun hj' => h6 j y hj' hjk hy) hy⟩
            case measure => simp [intOf] <;> omega
    · have ds : decide ((100 : Int) < (s2.size : Int)) = true := by simp; omega
      clear hd0 hs hq
      go_enter Tryz.func3, Tryz.ntmps3
      go_wp2_with (first
        | ((with_reducible refine box_k (cs := p1.cells) HK.out rfl _ rfl rfl ?_); intro bp u hk; clear HK; have HK := Lib.hid hk; clear hk)
        | (with_reducible refine load_kr (xs := p1.cells) HK.out 0 Tryz.underlying24 rfl p_info _ rfl rfl rfl rfl Pl.all ?_)
        | (go_at_call 8; (with_reducible refine (hfw _ (cr_below HC.out HK.out.mf.bel)).mono ?_); rintro e u ⟨rfl, hb⟩; have hk := HK.out.call hb; clear hb; clear HK; have HK := Lib.hid hk; clear hk)
        | (go_at_call 9; (with_reducible refine (awake_any _).mono ?_); rintro e u ⟨rfl, hb⟩; have hk := HK.out.call hb; clear hb; clear HK; have HK := Lib.hid hk; clear hk))
      go_ret
      exact ⟨rfl, HK.out.mf.bel⟩

set_option maxRecDepth 100000 in
theorem lifted (os : Os) (started : os.Started) (H : Type) (enc : TypeId × Value → H) :
    ReturnsInHanded {} Tryz.checked os 3 .any (Rows.planTellsSpec.pre6 enc Tryz.prog Tryz.f3 Rows.planTellsRow.domain false) (Rows.planTellsSpec.post enc Tryz.prog Tryz.f3 false true false false) := by
  refine returnsInHanded_of_change (C := Tryz.checked) own started (by kernel_rfl) Tryz.func3
    (ChangeSpec.witness6 (enc := enc) (C := Tryz.checked) false ⟨#[], #[.slice none 0 0, .agg (Pl.cells ⟨0, ⟨#[]⟩, ⟨#[]⟩, 0, 0⟩).toArray, .string ⟨#[]⟩], []⟩ 12 (by kernel_rfl) (by kernel_rfl) (by kernel_rfl) (by kernel_rfl)) ?_
  intro W base args ds gs before hval0 hW hcnd _
  have hval : ∀ (j : Nat) t v, Tryz.f3.params[j]? = some t → args[j]? = some v → Value.okWide Tryz.prog W .any base t v := hval0
  have hW' := hW
  obtain ⟨p, q, hA0, hV, rfl, hfz, hnd⟩ := hW
  have hA : DataW.TrodAll enc Tryz.prog W 0 (fun _ => true) true Tryz.f3.params.toList args.toList ds p := hA0
  rw [Tryz.params3] at hA hval
  obtain ⟨v0, vs0, d0, ds0, q0, r0, hargs, rfl, rfl, h0, t0⟩ := trodAll_cons hA
  obtain ⟨v1, vs1, d1, ds1, q1, r1, rfl, rfl, rfl, h1, t1⟩ := trodAll_cons t0
  obtain ⟨v2, vs2, d2, ds2, q2, r2, rfl, rfl, rfl, h2, t2⟩ := trodAll_cons t1
  obtain ⟨rfl, rfl, rfl⟩ := trodAll_nil t2
  obtain rfl : args = #[v0, v1, v2] := by cases args; simp_all
  obtain ⟨rfl, rfl⟩ := trodVars_none hV
  have k0 := h0
  have lt0 : ∀ x ∈ q0, x.block < W.heap.size := by obtain ⟨m, hm⟩ := k0; exact DataW.trod_lt m _ _ _ hm
  obtain ⟨A0, n0, c0, y0, rfl, hd0, _⟩ := open_fs (hval 0 22 v0 rfl rfl) h0
  have k1 := h1
  have lt1 : ∀ x ∈ q1, x.block < W.heap.size := by obtain ⟨m, hm⟩ := k1; exact DataW.trod_lt m _ _ _ hm
  obtain ⟨p1, rfl, hk1, ha1, hb1⟩ := open_p (hval 1 24 v1 rfl rfl) h1
  have k2 := h2
  have lt2 : ∀ x ∈ q2, x.block < W.heap.size := by obtain ⟨m, hm⟩ := k2; exact DataW.trod_lt m _ _ _ hm
  obtain ⟨s2, rfl, rfl, rfl, hs2⟩ := Go.ChangeMaps.open_string Tryz.underlying9 (hval 2 9 v2 rfl rfl) h2
  clear hA0 hval0
  refine (walk W A0 n0 c0 y0 hd0 p1 hk1 ha1 hb1 s2).mono fun e W' ⟨he, bel⟩ => ?_
  subst he
  exact ⟨_, rfl, _, _, _, [], _, [], hW', trodAll_mk1 (shut_bool Tryz.underlying4 _), (trodAll_cons_mk (Below.trod laidOut (by kernel_rfl) (of_decide_eq_true (by kernel_rfl)) k0 bel lt0) (trodAll_cons_mk (Below.trod laidOut (by kernel_rfl) (of_decide_eq_true (by kernel_rfl)) k1 bel lt1) (trodAll_cons_mk (Below.trod laidOut (by kernel_rfl) (of_decide_eq_true (by kernel_rfl)) k2 bel lt2) trodAll_mk0))), rfl, bel.frame _, fun h => by cases h⟩

theorem over : Rows.planTellsRow.holds Tryz.pinned (OpenSpec.ofChange Rows.planTellsSpec) :=
  OpenClaim.holds_of_wide 3 Tryz.f3 rfl rfl rfl rfl rfl rfl rfl ⟨rfl, rfl, rfl, rfl, rfl⟩ rfl rfl rfl rfl rfl (by kernel_rfl) Tryz.func3 (by kernel_rfl)
    (of_decide_eq_true (by kernel_rfl)) (by unfold Func.isWrapper; first | (rw [if_pos (by decide +kernel)]; kernel_rfl) | (rw [if_neg (by decide +kernel)]; exact ⟨rfl, rfl⟩))
    (fun os started H enc _ => lifted os started H enc)

theorem proved : Rows.PlanTellsSaid := over
#print axioms proved
end Go.Proofs.YtgblnlpfgdbnnaaGreat.planTells
