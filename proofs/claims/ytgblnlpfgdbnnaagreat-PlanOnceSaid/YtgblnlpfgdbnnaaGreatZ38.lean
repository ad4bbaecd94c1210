/- Contracts of lock.Compare, lock.Join and the document's Behind and Join. -/
import Derived.Test.YtgblnlpfgdbnnaaGreatZ15
namespace Go.Proofs.YtgblnlpfgdbnnaaGreat
set_option maxRecDepth 100000
open Go.ChangeShapes Go.WideShapes Go.ChangeAt Go.RowKit

theorem parts_any (w : World) :
    Calls Tryz.prog 138 #[] w fun e w' => ∃ p, e = .returned (.slice (some ⟨p, 0, none⟩) 4 4) ∧ Parts w' p ∧ Below w.heap.size w w' := by
  go_enter Tryz.func138, Tryz.ntmps138
  go_wp2
  go_ret
  refine ⟨w.heap.size, rfl, ⟨?_, ?_, ?_, ?_⟩, (Below.refl _ _).alloc (Nat.le_refl _) _⟩ <;> (rw [cell_of_row _ _ _ _ _ (0, 0) (heap_alloc_new _ _)]; rfl)
theorem part0_any (a : Lk) (w : World) :
    Calls Tryz.prog 162 #[.agg (vals a.l).toArray] w fun e w' => e = .returned (.int .i64 a.s) ∧ Below w.heap.size w w' := by
  have HK := Lib.hid (KeepR.start w)
  go_enter Tryz.func162, Tryz.ntmps162
  go_wp2_with (first
    | (with_reducible refine box_new (R := a.l) HK.out rfl _ rfl rfl ?_; intro b u hk hb; clear hb; clear HK; have HK := Lib.hid hk; clear hk)
    | (with_reducible refine load_val HK.out 0 rfl _ rfl rfl rfl (Lk.g0 _) (Lk.p0 _) ?_))
  go_ret
  exact ⟨rfl, HK.out.bel⟩
theorem part1_any (a : Lk) (w : World) :
    Calls Tryz.prog 163 #[.agg (vals a.l).toArray] w fun e w' => e = .returned (.int .i64 a.v) ∧ Below w.heap.size w w' := by
  have HK := Lib.hid (KeepR.start w)
  go_enter Tryz.func163, Tryz.ntmps163
  go_wp2_with (first
    | (with_reducible refine box_new (R := a.l) HK.out rfl _ rfl rfl ?_; intro b u hk hb; clear hb; clear HK; have HK := Lib.hid hk; clear hk)
    | (with_reducible refine load_val HK.out 0 rfl _ rfl rfl rfl (Lk.g1 _) (Lk.p1 _) ?_))
  go_ret
  exact ⟨rfl, HK.out.bel⟩
theorem part2_any (a : Lk) (w : World) :
    Calls Tryz.prog 164 #[.agg (vals a.l).toArray] w fun e w' => e = .returned (.int .i64 a.h) ∧ Below w.heap.size w w' := by
  have HK := Lib.hid (KeepR.start w)
  go_enter Tryz.func164, Tryz.ntmps164
  go_wp2_with (first
    | (with_reducible refine box_new (R := a.l) HK.out rfl _ rfl rfl ?_; intro b u hk hb; clear hb; clear HK; have HK := Lib.hid hk; clear hk)
    | (with_reducible refine load_val HK.out 0 rfl _ rfl rfl rfl (Lk.g2 _) (Lk.p2 _) ?_))
  go_ret
  exact ⟨rfl, HK.out.bel⟩
theorem part3_any (a : Lk) (w : World) :
    Calls Tryz.prog 165 #[.agg (vals a.l).toArray] w fun e w' => e = .returned (.int .i64 a.x) ∧ Below w.heap.size w w' := by
  have HK := Lib.hid (KeepR.start w)
  go_enter Tryz.func165, Tryz.ntmps165
  go_wp2_with (first
    | (with_reducible refine box_new (R := a.l) HK.out rfl _ rfl rfl ?_; intro b u hk hb; clear hb; clear HK; have HK := Lib.hid hk; clear hk)
    | (with_reducible refine load_val HK.out 0 rfl _ rfl rfl rfl (Lk.g3 _) (Lk.p3 _) ?_))
  go_ret
  exact ⟨rfl, HK.out.bel⟩
theorem cmpi_same (x y : Int) (h : x = y) (w : World) :
    Calls Tryz.prog 137 #[.int .i64 x, .int .i64 y] w fun e w' => e = .returned (.int .i64 0) ∧ Below w.heap.size w w' := by
  refine (cmpi_any x y w).mono ?_
  rintro e w' ⟨rfl, rfl⟩
  exact ⟨by rw [h, cmpI_eq], Below.refl _ _⟩
theorem cmpi_else (x y c : Int) (h : cmpI x y = c) (w : World) :
    Calls Tryz.prog 137 #[.int .i64 x, .int .i64 y] w fun e w' => e = .returned (.int .i64 c) ∧ Below w.heap.size w w' := by
  refine (cmpi_any x y w).mono ?_
  rintro e w' ⟨rfl, rfl⟩
  exact ⟨by rw [h], Below.refl _ _⟩
theorem cmpI_ne {x y : Int} (h : ¬ x = y) : ¬ cmpI x y = 0 := by
  have := cmpI_cases x y
  omega
theorem Pre.next0 {a b : Lk} (_h : Pre 0 a b) (e : a.s = b.s) : Pre 1 a b := ⟨fun _ => e, fun h' => by omega, fun h' => by omega, fun h' => by omega⟩
theorem Pre.stop0 {a b : Lk} (_h : Pre 0 a b) (e : ¬ a.s = b.s) : cmpI a.s b.s = cmpL a b := by
  unfold cmpL
  rw [if_pos e]
theorem Pre.next1 {a b : Lk} (h : Pre 1 a b) (e : a.v = b.v) : Pre 2 a b := ⟨fun _ => h.p0 (by omega), fun _ => e, fun h' => by omega, fun h' => by omega⟩
theorem Pre.stop1 {a b : Lk} (h : Pre 1 a b) (e : ¬ a.v = b.v) : cmpI a.v b.v = cmpL a b := by
  unfold cmpL
  rw [if_neg (fun h1 => h1 (h.p0 (by omega))), if_pos e]
theorem Pre.next2 {a b : Lk} (h : Pre 2 a b) (e : a.h = b.h) : Pre 3 a b := ⟨fun _ => h.p0 (by omega), fun _ => h.p1 (by omega), fun _ => e, fun h' => by omega⟩
theorem Pre.stop2 {a b : Lk} (h : Pre 2 a b) (e : ¬ a.h = b.h) : cmpI a.h b.h = cmpL a b := by
  unfold cmpL
  rw [if_neg (fun h1 => h1 (h.p0 (by omega))), if_neg (fun h1 => h1 (h.p1 (by omega))), if_pos e]
theorem Pre.next3 {a b : Lk} (h : Pre 3 a b) (e : a.x = b.x) : Pre 4 a b := ⟨fun _ => h.p0 (by omega), fun _ => h.p1 (by omega), fun _ => h.p2 (by omega), fun _ => e⟩
theorem Pre.stop3 {a b : Lk} (h : Pre 3 a b) (_e : ¬ a.x = b.x) : cmpI a.x b.x = cmpL a b := by
  unfold cmpL
  rw [if_neg (fun h1 => h1 (h.p0 (by omega))), if_neg (fun h1 => h1 (h.p1 (by omega))), if_neg (fun h1 => h1 (h.p2 (by omega)))]
set_option maxRecDepth 100000 in
set_option maxHeartbeats 2000000 in
theorem compare_any (a b : Lk) (w : World) :
    Calls Tryz.prog 98 #[.agg (vals a.l).toArray, .agg (vals b.l).toArray] w fun e w' => e = .returned (.int .i64 (cmpL a b)) ∧ Below w.heap.size w w' := by
  have HK := Lib.hid (KeepR.start w)
  have HP := Lib.hid True.intro
  go_enter Tryz.func98, Tryz.ntmps98
  go_wp2_with (first
    | (with_reducible refine box_new (R := a.l) HK.out rfl _ rfl rfl ?_; intro ba u hk hb; clear hb; clear HK; have HK := Lib.hid hk; clear hk)
    | (with_reducible refine box_new (R := b.l) HK.out rfl _ rfl rfl ?_; intro bb u hk hb; clear hb; clear HK; have HK := Lib.hid hk; clear hk)
    | (go_at_call 138; (refine (parts_any _).mono ?_); rintro e u1 ⟨p, rfl, hp, hb⟩; have hk := HK.out.call hb; clear hb; clear HP; have HP := Lib.hid hp; clear hp; clear HK; have HK := Lib.hid hk; clear hk))
  go_loopw [10] (fun i wr => ∃ m : Nat, m ≤ 4 ∧ i = .int .i64 m ∧ Pre m a b ∧ KeepR w [(bb, 40, b.l), (ba, 40, a.l)] wr ∧ Parts wr p) (fun i _ => 4 - (intOf i).toNat)
  case atStart => exact ⟨0, by omega, rfl, ⟨fun h => by omega, fun h => by omega, fun h => by omega, fun h => by omega⟩, HK.out, HP.out⟩
  case round =>
    obtain ⟨m, hm, rfl, hpre, hk, hp⟩ := hrel
    clear HK HP
    have HK := Lib.hid hk; have HP := Lib.hid hp; have HM := Lib.hid hpre
    clear hk hp hpre
    have hm5 : m = 0 ∨ m = 1 ∨ m = 2 ∨ m = 3 ∨ m = 4 := by omega
    clear hm
    rcases hm5 with rfl | rfl | rfl | rfl | rfl
    · (try simp only [Int.natCast_zero])
      have hc := HP.out.c0
      by_cases hq : a.s = b.s
      · have hcp := cmpi_same a.s b.s hq
        have HQ := Lib.hid hq; clear hq
        go_wp2
        clear hc
        refine Draws.start (S := fun u => KeepR w [(bb, 40, b.l), (ba, 40, a.l)] u ∧ Parts u p) (n := 8) 8 rfl (by kernel_rfl) ?_
        have HS := Lib.hid ((⟨HK.out.drew, HP.out.drew⟩ : (fun u => KeepR w [(bb, 40, b.l), (ba, 40, a.l)] u ∧ Parts u p) _))
        refine Draws.take 0 (v := ?v1) HS.out rfl (by kernel_rfl) (fun _ _ _ h => h) (Or.inl ⟨rfl, ?h1⟩) ?r1
        case h1 => intro w' hw'; go_simp; (try with_reducible rfl)
        (try simp only [Act.put, lsA, lsB, lsC])
        refine Draws.take 1 HS.out rfl (by kernel_rfl) (fun _ _ _ h => h) (yield_all (fun _ h => h.1) 1 4 Tryz.underlying40 rfl lk_info rfl _ rfl rfl rfl (Lk.len _)) ?_
        (try simp only [Act.put, lsA, lsB, lsC])
        refine Draws.take 3 (v := ?v2) HS.out rfl (by kernel_rfl) (fun _ _ _ h => h) (Or.inl ⟨rfl, ?h2⟩) ?r2
        case h2 => intro w' hw'; go_simp; (try with_reducible rfl)
        (try simp only [Act.put, lsA, lsB, lsC])
        refine Draws.take 4 HS.out rfl (by kernel_rfl) (fun _ _ _ h => h) (yield_all (fun _ h => h.1) 0 4 Tryz.underlying40 rfl lk_info rfl _ rfl rfl rfl (Lk.len _)) ?_
        (try simp only [Act.put, lsA, lsB, lsC])
        refine Draws.does 2 rfl (by kernel_rfl) rfl (fun K hK => ?_)
        go_simp
        go_at_call 162
        refine (part0_any _ _).mono ?_
        rintro e u ⟨rfl, hb⟩
        (try dsimp only)
        refine hK.out _ _ (fun _ => ⟨HS.out.1.call hb, HS.out.2.below hb⟩) ?_
        clear hK K
        have hs : (fun u => KeepR w [(bb, 40, b.l), (ba, 40, a.l)] u ∧ Parts u p) u := ⟨HS.out.1.call hb, HS.out.2.below hb⟩
        clear HS
        have HS := Lib.hid hs; clear hs
        (try simp only [Act.put, lsA, lsB, lsC])
        clear hb
        refine Draws.does 5 rfl (by kernel_rfl) rfl (fun K hK => ?_)
        go_simp
        go_at_call 162
        refine (part0_any _ _).mono ?_
        rintro e u ⟨rfl, hb⟩
        (try dsimp only)
        refine hK.out _ _ (fun _ => ⟨HS.out.1.call hb, HS.out.2.below hb⟩) ?_
        clear hK K
        have hs : (fun u => KeepR w [(bb, 40, b.l), (ba, 40, a.l)] u ∧ Parts u p) u := ⟨HS.out.1.call hb, HS.out.2.below hb⟩
        clear HS
        have HS := Lib.hid hs; clear hs
        (try simp only [Act.put, lsA, lsB, lsC])
        clear hb
        refine Draws.does 6 rfl (by kernel_rfl) rfl (fun K hK => ?_)
        go_simp
        go_at_call 137
        refine (hcp _).mono ?_
        rintro e u ⟨rfl, hb⟩
        (try dsimp only)
        refine hK.out _ _ (fun _ => ⟨HS.out.1.call hb, HS.out.2.below hb⟩) ?_
        clear hK K
        have hs : (fun u => KeepR w [(bb, 40, b.l), (ba, 40, a.l)] u ∧ Parts u p) u := ⟨HS.out.1.call hb, HS.out.2.below hb⟩
        clear HS
        have HS := Lib.hid hs; clear hs
        (try simp only [Act.put, lsA, lsB, lsC])
        clear hb
        refine Draws.take 7 (v := ?v3) HS.out rfl (by kernel_rfl) (fun _ _ _ h => h) (Or.inl ⟨rfl, ?h3⟩) ?r3
        case h3 => intro w' hw'; go_simp; (try with_reducible rfl)
        (try simp only [Act.put, lsA, lsB, lsC])
        refine Draws.done (by kernel_rfl) ?_
        go_wp2
        go_roundw
        case rel => exact ⟨1, by omega, by go_num, HM.out.next0 HQ.out, HS.out.1, HS.out.2⟩
        case measure => simp [intOf]
      · have hc0 := cmpI_ne hq
        have hst := HM.out.stop0 hq
        clear hq
        have hcp := cmpi_else a.s b.s _ rfl
        generalize cmpI a.s b.s = c at hcp hc0 hst
        have HQ := Lib.hid hst; clear hst
        go_wp2
        clear hc
        refine Draws.start (S := fun u => KeepR w [(bb, 40, b.l), (ba, 40, a.l)] u ∧ Parts u p) (n := 8) 8 rfl (by kernel_rfl) ?_
        have HS := Lib.hid ((⟨HK.out.drew, HP.out.drew⟩ : (fun u => KeepR w [(bb, 40, b.l), (ba, 40, a.l)] u ∧ Parts u p) _))
        refine Draws.take 0 (v := ?v4) HS.out rfl (by kernel_rfl) (fun _ _ _ h => h) (Or.inl ⟨rfl, ?h4⟩) ?r4
        case h4 => intro w' hw'; go_simp; (try with_reducible rfl)
        (try simp only [Act.put, lsA, lsB, lsC])
        refine Draws.take 1 HS.out rfl (by kernel_rfl) (fun _ _ _ h => h) (yield_all (fun _ h => h.1) 1 4 Tryz.underlying40 rfl lk_info rfl _ rfl rfl rfl (Lk.len _)) ?_
        (try simp only [Act.put, lsA, lsB, lsC])
        refine Draws.take 3 (v := ?v5) HS.out rfl (by kernel_rfl) (fun _ _ _ h => h) (Or.inl ⟨rfl, ?h5⟩) ?r5
        case h5 => intro w' hw'; go_simp; (try with_reducible rfl)
        (try simp only [Act.put, lsA, lsB, lsC])
        refine Draws.take 4 HS.out rfl (by kernel_rfl) (fun _ _ _ h => h) (yield_all (fun _ h => h.1) 0 4 Tryz.underlying40 rfl lk_info rfl _ rfl rfl rfl (Lk.len _)) ?_
        (try simp only [Act.put, lsA, lsB, lsC])
        refine Draws.does 2 rfl (by kernel_rfl) rfl (fun K hK => ?_)
        go_simp
        go_at_call 162
        refine (part0_any _ _).mono ?_
        rintro e u ⟨rfl, hb⟩
        (try dsimp only)
        refine hK.out _ _ (fun _ => ⟨HS.out.1.call hb, HS.out.2.below hb⟩) ?_
        clear hK K
        have hs : (fun u => KeepR w [(bb, 40, b.l), (ba, 40, a.l)] u ∧ Parts u p) u := ⟨HS.out.1.call hb, HS.out.2.below hb⟩
        clear HS
        have HS := Lib.hid hs; clear hs
        (try simp only [Act.put, lsA, lsB, lsC])
        clear hb
        refine Draws.does 5 rfl (by kernel_rfl) rfl (fun K hK => ?_)
        go_simp
        go_at_call 162
        refine (part0_any _ _).mono ?_
        rintro e u ⟨rfl, hb⟩
        (try dsimp only)
        refine hK.out _ _ (fun _ => ⟨HS.out.1.call hb, HS.out.2.below hb⟩) ?_
        clear hK K
        have hs : (fun u => KeepR w [(bb, 40, b.l), (ba, 40, a.l)] u ∧ Parts u p) u := ⟨HS.out.1.call hb, HS.out.2.below hb⟩
        clear HS
        have HS := Lib.hid hs; clear hs
        (try simp only [Act.put, lsA, lsB, lsC])
        clear hb
        refine Draws.does 6 rfl (by kernel_rfl) rfl (fun K hK => ?_)
        go_simp
        go_at_call 137
        refine (hcp _).mono ?_
        rintro e u ⟨rfl, hb⟩
        (try dsimp only)
        refine hK.out _ _ (fun _ => ⟨HS.out.1.call hb, HS.out.2.below hb⟩) ?_
        clear hK K
        have hs : (fun u => KeepR w [(bb, 40, b.l), (ba, 40, a.l)] u ∧ Parts u p) u := ⟨HS.out.1.call hb, HS.out.2.below hb⟩
        clear HS
        have HS := Lib.hid hs; clear hs
        (try simp only [Act.put, lsA, lsB, lsC])
        clear hb
        refine Draws.take 7 (v := ?v6) HS.out rfl (by kernel_rfl) (fun _ _ _ h => h) (Or.inl ⟨rfl, ?h6⟩) ?r6
        case h6 => intro w' hw'; go_simp; (try with_reducible rfl)
        (try simp only [Act.put, lsA, lsB, lsC])
        refine Draws.done (by kernel_rfl) ?_
        go_wp2
        go_ret
        exact ⟨by rw [← HQ.out]; rfl, HS.out.1.bel⟩
    · (try simp only [Int.natCast_one])
      have hc := HP.out.c1
      by_cases hq : a.v = b.v
      · have hcp := cmpi_same a.v b.v hq
        have HQ := Lib.hid hq; clear hq
        go_wp2
        clear hc
        refine Draws.start (S := fun u => KeepR w [(bb, 40, b.l), (ba, 40, a.l)] u ∧ Parts u p) (n := 8) 8 rfl (by kernel_rfl) ?_
        have HS := Lib.hid ((⟨HK.out.drew, HP.out.drew⟩ : (fun u => KeepR w [(bb, 40, b.l), (ba, 40, a.l)] u ∧ Parts u p) _))
        refine Draws.take 0 (v := ?v7) HS.out rfl (by kernel_rfl) (fun _ _ _ h => h) (Or.inl ⟨rfl, ?h7⟩) ?r7
        case h7 => intro w' hw'; go_simp; (try with_reducible rfl)
        (try simp only [Act.put, lsA, lsB, lsC])
        refine Draws.take 1 HS.out rfl (by kernel_rfl) (fun _ _ _ h => h) (yield_all (fun _ h => h.1) 1 4 Tryz.underlying40 rfl lk_info rfl _ rfl rfl rfl (Lk.len _)) ?_
        (try simp only [Act.put, lsA, lsB, lsC])
        refine Draws.take 3 (v := ?v8) HS.out rfl (by kernel_rfl) (fun _ _ _ h => h) (Or.inl ⟨rfl, ?h8⟩) ?r8
        case h8 => intro w' hw'; go_simp; (try with_reducible rfl)
        (try simp only [Act.put, lsA, lsB, lsC])
        refine Draws.take 4 HS.out rfl (by kernel_rfl) (fun _ _ _ h => h) (yield_all (fun _ h => h.1) 0 4 Tryz.underlying40 rfl lk_info rfl _ rfl rfl rfl (Lk.len _)) ?_
        (try simp only [Act.put, lsA, lsB, lsC])
        refine Draws.does 2 rfl (by kernel_rfl) rfl (fun K hK => ?_)
        go_simp
        go_at_call 163
        refine (part1_any _ _).mono ?_
        rintro e u ⟨rfl, hb⟩
        (try dsimp only)
        refine hK.out _ _ (fun _ => ⟨HS.out.1.call hb, HS.out.2.below hb⟩) ?_
        clear hK K
        have hs : (fun u => KeepR w [(bb, 40, b.l), (ba, 40, a.l)] u ∧ Parts u p) u := ⟨HS.out.1.call hb, HS.out.2.below hb⟩
        clear HS
        have HS := Lib.hid hs; clear hs
        (try simp only [Act.put, lsA, lsB, lsC])
        clear hb
        refine Draws.does 5 rfl (by kernel_rfl) rfl (fun K hK => ?_)
        go_simp
        go_at_call 163
        refine (part1_any _ _).mono ?_
        rintro e u ⟨rfl, hb⟩
        (try dsimp only)
        refine hK.out _ _ (fun _ => ⟨HS.out.1.call hb, HS.out.2.below hb⟩) ?_
        clear hK K
        have hs : (fun u => KeepR w [(bb, 40, b.l), (ba, 40, a.l)] u ∧ Parts u p) u := ⟨HS.out.1.call hb, HS.out.2.below hb⟩
        clear HS
        have HS := Lib.hid hs; clear hs
        (try simp only [Act.put, lsA, lsB, lsC])
        clear hb
        refine Draws.does 6 rfl (by kernel_rfl) rfl (fun K hK => ?_)
        go_simp
        go_at_call 137
        refine (hcp _).mono ?_
        rintro e u ⟨rfl, hb⟩
        (try dsimp only)
        refine hK.out _ _ (fun _ => ⟨HS.out.1.call hb, HS.out.2.below hb⟩) ?_
        clear hK K
        have hs : (fun u => KeepR w [(bb, 40, b.l), (ba, 40, a.l)] u ∧ Parts u p) u := ⟨HS.out.1.call hb, HS.out.2.below hb⟩
        clear HS
        have HS := Lib.hid hs; clear hs
        (try simp only [Act.put, lsA, lsB, lsC])
        clear hb
        refine Draws.take 7 (v := ?v9) HS.out rfl (by kernel_rfl) (fun _ _ _ h => h) (Or.inl ⟨rfl, ?h9⟩) ?r9
        case h9 => intro w' hw'; go_simp; (try with_reducible rfl)
        (try simp only [Act.put, lsA, lsB, lsC])
        refine Draws.done (by kernel_rfl) ?_
        go_wp2
        go_roundw
        case rel => exact ⟨2, by omega, by go_num, HM.out.next1 HQ.out, HS.out.1, HS.out.2⟩
        case measure => simp [intOf]
      · have hc0 := cmpI_ne hq
        have hst := HM.out.stop1 hq
        clear hq
        have hcp := cmpi_else a.v b.v _ rfl
        generalize cmpI a.v b.v = c at hcp hc0 hst
        have HQ := Lib.hid hst; clear hst
        go_wp2
        clear hc
        refine Draws.start (S := fun u => KeepR w [(bb, 40, b.l), (ba, 40, a.l)] u ∧ Parts u p) (n := 8) 8 rfl (by kernel_rfl) ?_
        have HS := Lib.hid ((⟨HK.out.drew, HP.out.drew⟩ : (fun u => KeepR w [(bb, 40, b.l), (ba, 40, a.l)] u ∧ Parts u p) _))
        refine Draws.take 0 (v := ?v10) HS.out rfl (by kernel_rfl) (fun _ _ _ h => h) (Or.inl ⟨rfl, ?h10⟩) ?r10
        case h10 => intro w' hw'; go_simp; (try with_reducible rfl)
        (try simp only [Act.put, lsA, lsB, lsC])
        refine Draws.take 1 HS.out rfl (by kernel_rfl) (fun _ _ _ h => h) (yield_all (fun _ h => h.1) 1 4 Tryz.underlying40 rfl lk_info rfl _ rfl rfl rfl (Lk.len _)) ?_
        (try simp only [Act.put, lsA, lsB, lsC])
        refine Draws.take 3 (v := ?v11) HS.out rfl (by kernel_rfl) (fun _ _ _ h => h) (Or.inl ⟨rfl, ?h11⟩) ?r11
        case h11 => intro w' hw'; go_simp; (try with_reducible rfl)
        (try simp only [Act.put, lsA, lsB, lsC])
        refine Draws.take 4 HS.out rfl (by kernel_rfl) (fun _ _ _ h => h) (yield_all (fun _ h => h.1) 0 4 Tryz.underlying40 rfl lk_info rfl _ rfl rfl rfl (Lk.len _)) ?_
        (try simp only [Act.put, lsA, lsB, lsC])
        refine Draws.does 2 rfl (by kernel_rfl) rfl (fun K hK => ?_)
        go_simp
        go_at_call 163
        refine (part1_any _ _).mono ?_
        rintro e u ⟨rfl, hb⟩
        (try dsimp only)
        refine hK.out _ _ (fun _ => ⟨HS.out.1.call hb, HS.out.2.below hb⟩) ?_
        clear hK K
        have hs : (fun u => KeepR w [(bb, 40, b.l), (ba, 40, a.l)] u ∧ Parts u p) u := ⟨HS.out.1.call hb, HS.out.2.below hb⟩
        clear HS
        have HS := Lib.hid hs; clear hs
        (try simp only [Act.put, lsA, lsB, lsC])
        clear hb
        refine Draws.does 5 rfl (by kernel_rfl) rfl (fun K hK => ?_)
        go_simp
        go_at_call 163
        refine (part1_any _ _).mono ?_
        rintro e u ⟨rfl, hb⟩
        (try dsimp only)
        refine hK.out _ _ (fun _ => ⟨HS.out.1.call hb, HS.out.2.below hb⟩) ?_
        clear hK K
        have hs : (fun u => KeepR w [(bb, 40, b.l), (ba, 40, a.l)] u ∧ Parts u p) u := ⟨HS.out.1.call hb, HS.out.2.below hb⟩
        clear HS
        have HS := Lib.hid hs; clear hs
        (try simp only [Act.put, lsA, lsB, lsC])
        clear hb
        refine Draws.does 6 rfl (by kernel_rfl) rfl (fun K hK => ?_)
        go_simp
        go_at_call 137
        refine (hcp _).mono ?_
        rintro e u ⟨rfl, hb⟩
        (try dsimp only)
        refine hK.out _ _ (fun _ => ⟨HS.out.1.call hb, HS.out.2.below hb⟩) ?_
        clear hK K
        have hs : (fun u => KeepR w [(bb, 40, b.l), (ba, 40, a.l)] u ∧ Parts u p) u := ⟨HS.out.1.call hb, HS.out.2.below hb⟩
        clear HS
        have HS := Lib.hid hs; clear hs
        (try simp only [Act.put, lsA, lsB, lsC])
        clear hb
        refine Draws.take 7 (v := ?v12) HS.out rfl (by kernel_rfl) (fun _ _ _ h => h) (Or.inl ⟨rfl, ?h12⟩) ?r12
        case h12 => intro w' hw'; go_simp; (try with_reducible rfl)
        (try simp only [Act.put, lsA, lsB, lsC])
        refine Draws.done (by kernel_rfl) ?_
        go_wp2
        go_ret
        exact ⟨by rw [← HQ.out]; rfl, HS.out.1.bel⟩
    · (try simp only [show ((2 : Nat) : Int) = 2 from rfl])
      have hc := HP.out.c2
      by_cases hq : a.h = b.h
      · have hcp := cmpi_same a.h b.h hq
        have HQ := Lib.hid hq; clear hq
        go_wp2
        clear hc
        refine Draws.start (S := fun u => KeepR w [(bb, 40, b.l), (ba, 40, a.l)] u ∧ Parts u p) (n := 8) 8 rfl (by kernel_rfl) ?_
        have HS := Lib.hid ((⟨HK.out.drew, HP.out.drew⟩ : (fun u => KeepR w [(bb, 40, b.l), (ba, 40, a.l)] u ∧ Parts u p) _))
        refine Draws.take 0 (v := ?v13) HS.out rfl (by kernel_rfl) (fun _ _ _ h => h) (Or.inl ⟨rfl, ?h13⟩) ?r13
        case h13 => intro w' hw'; go_simp; (try with_reducible rfl)
        (try simp only [Act.put, lsA, lsB, lsC])
        refine Draws.take 1 HS.out rfl (by kernel_rfl) (fun _ _ _ h => h) (yield_all (fun _ h => h.1) 1 4 Tryz.underlying40 rfl lk_info rfl _ rfl rfl rfl (Lk.len _)) ?_
        (try simp only [Act.put, lsA, lsB, lsC])
        refine Draws.take 3 (v := ?v14) HS.out rfl (by kernel_rfl) (fun _ _ _ h => h) (Or.inl ⟨rfl, ?h14⟩) ?r14
        case h14 => intro w' hw'; go_simp; (try with_reducible rfl)
        (try simp only [Act.put, lsA, lsB, lsC])
        refine Draws.take 4 HS.out rfl (by kernel_rfl) (fun _ _ _ h => h) (yield_all (fun _ h => h.1) 0 4 Tryz.underlying40 rfl lk_info rfl _ rfl rfl rfl (Lk.len _)) ?_
        (try simp only [Act.put, lsA, lsB, lsC])
        refine Draws.does 2 rfl (by kernel_rfl) rfl (fun K hK => ?_)
        go_simp
        go_at_call 164
        refine (part2_any _ _).mono ?_
        rintro e u ⟨rfl, hb⟩
        (try dsimp only)
        refine hK.out _ _ (fun _ => ⟨HS.out.1.call hb, HS.out.2.below hb⟩) ?_
        clear hK K
        have hs : (fun u => KeepR w [(bb, 40, b.l), (ba, 40, a.l)] u ∧ Parts u p) u := ⟨HS.out.1.call hb, HS.out.2.below hb⟩
        clear HS
        have HS := Lib.hid hs; clear hs
        (try simp only [Act.put, lsA, lsB, lsC])
        clear hb
        refine Draws.does 5 rfl (by kernel_rfl) rfl (fun K hK => ?_)
        go_simp
        go_at_call 164
        refine (part2_any _ _).mono ?_
        rintro e u ⟨rfl, hb⟩
        (try dsimp only)
        refine hK.out _ _ (fun _ => ⟨HS.out.1.call hb, HS.out.2.below hb⟩) ?_
        clear hK K
        have hs : (fun u => KeepR w [(bb, 40, b.l), (ba, 40, a.l)] u ∧ Parts u p) u := ⟨HS.out.1.call hb, HS.out.2.below hb⟩
        clear HS
        have HS := Lib.hid hs; clear hs
        (try simp only [Act.put, lsA, lsB, lsC])
        clear hb
        refine Draws.does 6 rfl (by kernel_rfl) rfl (fun K hK => ?_)
        go_simp
        go_at_call 137
        refine (hcp _).mono ?_
        rintro e u ⟨rfl, hb⟩
        (try dsimp only)
        refine hK.out _ _ (fun _ => ⟨HS.out.1.call hb, HS.out.2.below hb⟩) ?_
        clear hK K
        have hs : (fun u => KeepR w [(bb, 40, b.l), (ba, 40, a.l)] u ∧ Parts u p) u := ⟨HS.out.1.call hb, HS.out.2.below hb⟩
        clear HS
        have HS := Lib.hid hs; clear hs
        (try simp only [Act.put, lsA, lsB, lsC])
        clear hb
        refine Draws.take 7 (v := ?v15) HS.out rfl (by kernel_rfl) (fun _ _ _ h => h) (Or.inl ⟨rfl, ?h15⟩) ?r15
        case h15 => intro w' hw'; go_simp; (try with_reducible rfl)
        (try simp only [Act.put, lsA, lsB, lsC])
        refine Draws.done (by kernel_rfl) ?_
        go_wp2
        go_roundw
        case rel => exact ⟨3, by omega, by go_num, HM.out.next2 HQ.out, HS.out.1, HS.out.2⟩
        case measure => simp [intOf]
      · have hc0 := cmpI_ne hq
        have hst := HM.out.stop2 hq
        clear hq
        have hcp := cmpi_else a.h b.h _ rfl
        generalize cmpI a.h b.h = c at hcp hc0 hst
        have HQ := Lib.hid hst; clear hst
        go_wp2
        clear hc
        refine Draws.start (S := fun u => KeepR w [(bb, 40, b.l), (ba, 40, a.l)] u ∧ Parts u p) (n := 8) 8 rfl (by kernel_rfl) ?_
        have HS := Lib.hid ((⟨HK.out.drew, HP.out.drew⟩ : (fun u => KeepR w [(bb, 40, b.l), (ba, 40, a.l)] u ∧ Parts u p) _))
        refine Draws.take 0 (v := ?v16) HS.out rfl (by kernel_rfl) (fun _ _ _ h => h) (Or.inl ⟨rfl, ?h16⟩) ?r16
        case h16 => intro w' hw'; go_simp; (try with_reducible rfl)
        (try simp only [Act.put, lsA, lsB, lsC])
        refine Draws.take 1 HS.out rfl (by kernel_rfl) (fun _ _ _ h => h) (yield_all (fun _ h => h.1) 1 4 Tryz.underlying40 rfl lk_info rfl _ rfl rfl rfl (Lk.len _)) ?_
        (try simp only [Act.put, lsA, lsB, lsC])
        refine Draws.take 3 (v := ?v17) HS.out rfl (by kernel_rfl) (fun _ _ _ h => h) (Or.inl ⟨rfl, ?h17⟩) ?r17
        case h17 => intro w' hw'; go_simp; (try with_reducible rfl)
        (try simp only [Act.put, lsA, lsB, lsC])
        refine Draws.take 4 HS.out rfl (by kernel_rfl) (fun _ _ _ h => h) (yield_all (fun _ h => h.1) 0 4 Tryz.underlying40 rfl lk_info rfl _ rfl rfl rfl (Lk.len _)) ?_
        (try simp only [Act.put, lsA, lsB, lsC])
        refine Draws.does 2 rfl (by kernel_rfl) rfl (fun K hK => ?_)
        go_simp
        go_at_call 164
        refine (part2_any _ _).mono ?_
        rintro e u ⟨rfl, hb⟩
        (try dsimp only)
        refine hK.out _ _ (fun _ => ⟨HS.out.1.call hb, HS.out.2.below hb⟩) ?_
        clear hK K
        have hs : (fun u => KeepR w [(bb, 40, b.l), (ba, 40, a.l)] u ∧ Parts u p) u := ⟨HS.out.1.call hb, HS.out.2.below hb⟩
        clear HS
        have HS := Lib.hid hs; clear hs
        (try simp only [Act.put, lsA, lsB, lsC])
        clear hb
        refine Draws.does 5 rfl (by kernel_rfl) rfl (fun K hK => ?_)
        go_simp
        go_at_call 164
        refine (part2_any _ _).mono ?_
        rintro e u ⟨rfl, hb⟩
        (try dsimp only)
        refine hK.out _ _ (fun _ => ⟨HS.out.1.call hb, HS.out.2.below hb⟩) ?_
        clear hK K
        have hs : (fun u => KeepR w [(bb, 40, b.l), (ba, 40, a.l)] u ∧ Parts u p) u := ⟨HS.out.1.call hb, HS.out.2.below hb⟩
        clear HS
        have HS := Lib.hid hs; clear hs
        (try simp only [Act.put, lsA, lsB, lsC])
        clear hb
        refine Draws.does 6 rfl (by kernel_rfl) rfl (fun K hK => ?_)
        go_simp
        go_at_call 137
        refine (hcp _).mono ?_
        rintro e u ⟨rfl, hb⟩
        (try dsimp only)
        refine hK.out _ _ (fun _ => ⟨HS.out.1.call hb, HS.out.2.below hb⟩) ?_
        clear hK K
        have hs : (fun u => KeepR w [(bb, 40, b.l), (ba, 40, a.l)] u ∧ Parts u p) u := ⟨HS.out.1.call hb, HS.out.2.below hb⟩
        clear HS
        have HS := Lib.hid hs; clear hs
        (try simp only [Act.put, lsA, lsB, lsC])
        clear hb
        refine Draws.take 7 (v := ?v18) HS.out rfl (by kernel_rfl) (fun _ _ _ h => h) (Or.inl ⟨rfl, ?h18⟩) ?r18
        case h18 => intro w' hw'; go_simp; (try with_reducible rfl)
        (try simp only [Act.put, lsA, lsB, lsC])
        refine Draws.done (by kernel_rfl) ?_
        go_wp2
        go_ret
        exact ⟨by rw [← HQ.out]; rfl, HS.out.1.bel⟩
    · (try simp only [show ((3 : Nat) : Int) = 3 from rfl])
      have hc := HP.out.c3
      by_cases hq : a.x = b.x
      · have hcp := cmpi_same a.x b.x hq
        have HQ := Lib.hid hq; clear hq
        go_wp2
        clear hc
        refine Draws.start (S := fun u => KeepR w [(bb, 40, b.l), (ba, 40, a.l)] u ∧ Parts u p) (n := 8) 8 rfl (by kernel_rfl) ?_
        have HS := Lib.hid ((⟨HK.out.drew, HP.out.drew⟩ : (fun u => KeepR w [(bb, 40, b.l), (ba, 40, a.l)] u ∧ Parts u p) _))
        refine Draws.take 0 (v := ?v19) HS.out rfl (by kernel_rfl) (fun _ _ _ h => h) (Or.inl ⟨rfl, ?h19⟩) ?r19
        case h19 => intro w' hw'; go_simp; (try with_reducible rfl)
        (try simp only [Act.put, lsA, lsB, lsC])
        refine Draws.take 1 HS.out rfl (by kernel_rfl) (fun _ _ _ h => h) (yield_all (fun _ h => h.1) 1 4 Tryz.underlying40 rfl lk_info rfl _ rfl rfl rfl (Lk.len _)) ?_
        (try simp only [Act.put, lsA, lsB, lsC])
        refine Draws.take 3 (v := ?v20) HS.out rfl (by kernel_rfl) (fun _ _ _ h => h) (Or.inl ⟨rfl, ?h20⟩) ?r20
        case h20 => intro w' hw'; go_simp; (try with_reducible rfl)
        (try simp only [Act.put, lsA, lsB, lsC])
        refine Draws.take 4 HS.out rfl (by kernel_rfl) (fun _ _ _ h => h) (yield_all (fun _ h => h.1) 0 4 Tryz.underlying40 rfl lk_info rfl _ rfl rfl rfl (Lk.len _)) ?_
        (try simp only [Act.put, lsA, lsB, lsC])
        refine Draws.does 2 rfl (by kernel_rfl) rfl (fun K hK => ?_)
        go_simp
        go_at_call 165
        refine (part3_any _ _).mono ?_
        rintro e u ⟨rfl, hb⟩
        (try dsimp only)
        refine hK.out _ _ (fun _ => ⟨HS.out.1.call hb, HS.out.2.below hb⟩) ?_
        clear hK K
        have hs : (fun u => KeepR w [(bb, 40, b.l), (ba, 40, a.l)] u ∧ Parts u p) u := ⟨HS.out.1.call hb, HS.out.2.below hb⟩
        clear HS
        have HS := Lib.hid hs; clear hs
        (try simp only [Act.put, lsA, lsB, lsC])
        clear hb
        refine Draws.does 5 rfl (by kernel_rfl) rfl (fun K hK => ?_)
        go_simp
        go_at_call 165
        refine (part3_any _ _).mono ?_
        rintro e u ⟨rfl, hb⟩
        (try dsimp only)
        refine hK.out _ _ (fun _ => ⟨HS.out.1.call hb, HS.out.2.below hb⟩) ?_
        clear hK K
        have hs : (fun u => KeepR w [(bb, 40, b.l), (ba, 40, a.l)] u ∧ Parts u p) u := ⟨HS.out.1.call hb, HS.out.2.below hb⟩
        clear HS
        have HS := Lib.hid hs; clear hs
        (try simp only [Act.put, lsA, lsB, lsC])
        clear hb
        refine Draws.does 6 rfl (by kernel_rfl) rfl (fun K hK => ?_)
        go_simp
        go_at_call 137
        refine (hcp _).mono ?_
        rintro e u ⟨rfl, hb⟩
        (try dsimp only)
        refine hK.out _ _ (fun _ => ⟨HS.out.1.call hb, HS.out.2.below hb⟩) ?_
        clear hK K
        have hs : (fun u => KeepR w [(bb, 40, b.l), (ba, 40, a.l)] u ∧ Parts u p) u := ⟨HS.out.1.call hb, HS.out.2.below hb⟩
        clear HS
        have HS := Lib.hid hs; clear hs
        (try simp only [Act.put, lsA, lsB, lsC])
        clear hb
        refine Draws.take 7 (v := ?v21) HS.out rfl (by kernel_rfl) (fun _ _ _ h => h) (Or.inl ⟨rfl, ?h21⟩) ?r21
        case h21 => intro w' hw'; go_simp; (try with_reducible rfl)
        (try simp only [Act.put, lsA, lsB, lsC])
        refine Draws.done (by kernel_rfl) ?_
        go_wp2
        go_roundw
        case rel => exact ⟨4, by omega, by go_num, HM.out.next3 HQ.out, HS.out.1, HS.out.2⟩
        case measure => simp [intOf]
      · have hc0 := cmpI_ne hq
        have hst := HM.out.stop3 hq
        clear hq
        have hcp := cmpi_else a.x b.x _ rfl
        generalize cmpI a.x b.x = c at hcp hc0 hst
        have HQ := Lib.hid hst; clear hst
        go_wp2
        clear hc
        refine Draws.start (S := fun u => KeepR w [(bb, 40, b.l), (ba, 40, a.l)] u ∧ Parts u p) (n := 8) 8 rfl (by kernel_rfl) ?_
        have HS := Lib.hid ((⟨HK.out.drew, HP.out.drew⟩ : (fun u => KeepR w [(bb, 40, b.l), (ba, 40, a.l)] u ∧ Parts u p) _))
        refine Draws.take 0 (v := ?v22) HS.out rfl (by kernel_rfl) (fun _ _ _ h => h) (Or.inl ⟨rfl, ?h22⟩) ?r22
        case h22 => intro w' hw'; go_simp; (try with_reducible rfl)
        (try simp only [Act.put, lsA, lsB, lsC])
        refine Draws.take 1 HS.out rfl (by kernel_rfl) (fun _ _ _ h => h) (yield_all (fun _ h => h.1) 1 4 Tryz.underlying40 rfl lk_info rfl _ rfl rfl rfl (Lk.len _)) ?_
        (try simp only [Act.put, lsA, lsB, lsC])
        refine Draws.take 3 (v := ?v23) HS.out rfl (by kernel_rfl) (fun _ _ _ h => h) (Or.inl ⟨rfl, ?h23⟩) ?r23
        case h23 => intro w' hw'; go_simp; (try with_reducible rfl)
        (try simp only [Act.put, lsA, lsB, lsC])
        refine Draws.take 4 HS.out rfl (by kernel_rfl) (fun _ _ _ h => h) (yield_all (fun _ h => h.1) 0 4 Tryz.underlying40 rfl lk_info rfl _ rfl rfl rfl (Lk.len _)) ?_
        (try simp only [Act.put, lsA, lsB, lsC])
        refine Draws.does 2 rfl (by kernel_rfl) rfl (fun K hK => ?_)
        go_simp
        go_at_call 165
        refine (part3_any _ _).mono ?_
        rintro e u ⟨rfl, hb⟩
        (try dsimp only)
        refine hK.out _ _ (fun _ => ⟨HS.out.1.call hb, HS.out.2.below hb⟩) ?_
        clear hK K
        have hs : (fun u => KeepR w [(bb, 40, b.l), (ba, 40, a.l)] u ∧ Parts u p) u := ⟨HS.out.1.call hb, HS.out.2.below hb⟩
        clear HS
        have HS := Lib.hid hs; clear hs
        (try simp only [Act.put, lsA, lsB, lsC])
        clear hb
        refine Draws.does 5 rfl (by kernel_rfl) rfl (fun K hK => ?_)
        go_simp
        go_at_call 165
        refine (part3_any _ _).mono ?_
        rintro e u ⟨rfl, hb⟩
        (try dsimp only)
        refine hK.out _ _ (fun _ => ⟨HS.out.1.call hb, HS.out.2.below hb⟩) ?_
        clear hK K
        have hs : (fun u => KeepR w [(bb, 40, b.l), (ba, 40, a.l)] u ∧ Parts u p) u := ⟨HS.out.1.call hb, HS.out.2.below hb⟩
        clear HS
        have HS := Lib.hid hs; clear hs
        (try simp only [Act.put, lsA, lsB, lsC])
        clear hb
        refine Draws.does 6 rfl (by kernel_rfl) rfl (fun K hK => ?_)
        go_simp
        go_at_call 137
        refine (hcp _).mono ?_
        rintro e u ⟨rfl, hb⟩
        (try dsimp only)
        refine hK.out _ _ (fun _ => ⟨HS.out.1.call hb, HS.out.2.below hb⟩) ?_
        clear hK K
        have hs : (fun u => KeepR w [(bb, 40, b.l), (ba, 40, a.l)] u ∧ Parts u p) u := ⟨HS.out.1.call hb, HS.out.2.below hb⟩
        clear HS
        have HS := Lib.hid hs; clear hs
        (try simp only [Act.put, lsA, lsB, lsC])
        clear hb
        refine Draws.take 7 (v := ?v24) HS.out rfl (by kernel_rfl) (fun _ _ _ h => h) (Or.inl ⟨rfl, ?h24⟩) ?r24
        case h24 => intro w' hw'; go_simp; (try with_reducible rfl)
        (try simp only [Act.put, lsA, lsB, lsC])
        refine Draws.done (by kernel_rfl) ?_
        go_wp2
        go_ret
        exact ⟨by rw [← HQ.out]; rfl, HS.out.1.bel⟩
    · (try simp only [show ((4 : Nat) : Int) = 4 from rfl])
      go_wp2
      go_ret
      exact ⟨by rw [HM.out.done]; rfl, HK.out.bel⟩

end Go.Proofs.YtgblnlpfgdbnnaaGreat
